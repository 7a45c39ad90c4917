import PyProof.Rows.All
import Wide.All
import OpenK.AllK
import Wide.FinOn
import Lean
import PyProof.EqAt
import PyProof.EqKinds
import PyProof.TupleCall
import PyProof.ZipIter
import PyProof.ListStr
import KE.KRevIter
import PyProof.Rows.Range3
import PyProof.Rows.SetFrom
import PyProof.DictWalks
import PyProof.Rows.TupDisplay
import PyProof.DictItems
import KE.KPairComp
import KE.KIntText
import PyProof.WalkInts
import PyProof.InstStore
import PyProof.InstStoreFacts
import PyProof.ExcArgsOwn
import PyProof.ExcInit
import PyProof.ExcClass2
import OpenK.KCls
import PyProof.FString
import PyProof.FitsInt
import PyProof.Rows.RuleN_abs
import KE.RegKTryMore
import PySem.Challenge.RW_lilt_k71_no_form
set_option compiler.extract_closed false
set_option Elab.async false
set_option linter.all false
set_option maxRecDepth 100000
set_option maxHeartbeats 4000000
noncomputable section
namespace L2
open PySem PySem.Spec PyProof.Rows
section
variable {prog:Program}{w:World}{κ:Type} [DecidableEq κ] {kd:HeapKind prog w κ}{A:Around}{E:Value->Shared->Prop}{s:Shared}{d a it:Addr}{xs:List (κ×Addr×Value)}{k:κ}{v:Value}
def DictE (kd:HeapKind prog w κ) (h:Heap) (d:Addr) (xs:List (κ×Addr×Value)):Prop:=
 ∃ o es,h.get? d=some o/\o.ExactDict/\o.data=.dict es xs.length/\es.toList=xs.map (entryOfKey kd)/\(∀ x∈xs,kd.is h x.1 x.2.1)/\(xs.map (·.1)).Nodup
theorem DictE.of {h:Heap}(m:DictE kd h d xs):h.DictOfH kd d xs:=let ⟨o,es,q⟩:=m;⟨o,es,_,q⟩
end
end L2
namespace L2
open PySem PySem.Spec PyProof.Rows
section
variable {prog:Program}{w:World}{A:Around}{E:Value->Shared->Prop}{s:Shared}{z TI TO T i1 i2 l1 l2:Addr}{k:Nat}{xs ys:Array Value}{x y:Value}{f:Bool}{oT:Obj}
def ZIts (h:Heap) (xs ys:Array Value) (B:Addr) (W:List Addr) (acc:Array Value) (n:Nat):Prop:=
 acc.size=n/\∀ i,i < n->∃ t x y,acc[i]?=some (.ref t)/\xs[i]?=some x/\ys[i]?=some y/\IsPair h t x y/\B<=t/\t∉W/\∀ j,j < i->acc[j]?≠some (.ref t)
theorem ZIts.keep {h h':Heap}{B:Addr}{W:List Addr}{acc:Array Value}{n:Nat}(q:ZIts h xs ys B W acc n) (k:∀ c o,c∉W->h.get? c=some o->h'.get? c=some o):ZIts h' xs ys B W acc n:=
 ⟨q.1,λi hi=>let ⟨t,x,y,a,b,c,d,e,f,g⟩:=q.2 i hi;⟨t,x,y,a,b,c,k _ _ f d,e,f,g⟩⟩
theorem ZIts.push {h:Heap}{B t:Addr}{W:List Addr}{acc:Array Value}{n:Nat}{x y:Value}(q:ZIts h xs ys B W acc n) (hx:xs[n]?=some x) (hy:ys[n]?=some y) (ht:IsPair h t x y) (hB:B<=t) (hW:t∉W) (hw:∀ j,j < n->acc[j]?≠some (.ref t)):ZIts h xs ys B W (acc.push (.ref t)) (n+1):=by
 obtain⟨q1,q2⟩:=q
 refine⟨by rw[Array.size_push,q1],λi hi=>?_⟩
 rcases Nat.lt_or_ge i n with h1 | h1
 ·obtain⟨t',x',y',a,b,c,d,e,f,g⟩:=q2 i h1
  exact⟨t',x',y',by rw[Array.getElem?_push_lt (by omega)];rw[Array.getElem?_eq_getElem (by omega)] at a;exact a,b,c,d,e,f,λj hj=>by rw[Array.getElem?_push_lt (by omega),← Array.getElem?_eq_getElem (by omega)];exact g j hj⟩
 ·have e:i=n:=by omega
  subst e
  exact⟨t,x,y,by rw[← q1];exact Array.getElem?_push_size,hx,hy,ht,hB,hW,λj hj=>by rw[Array.getElem?_push_lt (by omega),← Array.getElem?_eq_getElem (by omega)];exact hw j hj⟩
end
end L2
namespace L2
open PySem PySem.Spec PyProof.Rows
abbrev Key:=Sum Int Str
def lQ:Key->Value->Bool
 | .inl k,v=>Value.isInt k v
 | .inr x,v=>Value.isStrOf x v
def Jm (w:World):Key->Int
 | .inl k=>hashInt k
 | .inr x=>hashStr w x
theorem cY:∀ {k:Key}{v:Value},lQ k v=true->(∃ i t,k=Sum.inl i/\v=Value.int i t)\/(∃ x t,k=Sum.inr x/\v=Value.str x t)
 | .inl i,v,h=>by
  obtain⟨t,e⟩:=Value.isInt_shape (k:=i) (v:=v) h
  exact .inl ⟨i,t,rfl,e⟩
 | .inr x,v,h=>by
  obtain⟨t,e⟩:=Value.isStrOf_shape (x:=x) (v:=v) h
  exact .inr ⟨x,t,rfl,e⟩
theorem z8 (i:Int) (t:Tok):lQ (.inl i) (.int i t)=true:=by simp[lQ,Value.isInt]
theorem z9 (x:Str) (t:Tok):lQ (.inr x) (.str x t)=true:=by simp[lQ,Value.isStrOf]
theorem ou (a b:Int):decide ((Sum.inl a:Key)=Sum.inl b)=(a == b):=by
 by_cases e:a=b
 ·subst e;simp
 ·have h:¬ (Sum.inl a:Key)=Sum.inl b:=λq=>e (Sum.inl.inj q)
  rw[decide_eq_false h]
  exact(beq_eq_false_iff_ne.mpr e).symm
theorem z_ (a b:Str):decide ((Sum.inr a:Key)=Sum.inr b)=decide (a=b):=by
 by_cases e:a=b
 ·subst e;simp
 ·have h:¬ (Sum.inr a:Key)=Sum.inr b:=λq=>e (Sum.inr.inj q)
  rw[decide_eq_false h,decide_eq_false e]
theorem vg (a:Int) (b:Str):decide ((Sum.inl a:Key)=Sum.inr b)=false:=decide_eq_false (λq=>nomatch q)
theorem vh (a:Str) (b:Int):decide ((Sum.inr a:Key)=Sum.inl b)=false:=decide_eq_false (λq=>nomatch q)
def mD (prog:Program) (w:World):PySem.KeyKind prog w Key where
 is:=lQ
 hash:=Jm w
 inj:=λv a b ha hb=>by
  rcases cY ha with ⟨i,t,rfl,rfl⟩ | ⟨x,t,rfl,rfl⟩
  ·rcases cY hb with ⟨j,u,rfl,e⟩ | ⟨y,u,rfl,e⟩
   ·injection e with e1 _;rw[e1]
   ·exact nomatch e
  ·rcases cY hb with ⟨j,u,rfl,e⟩ | ⟨y,u,rfl,e⟩
   ·exact nomatch e
   ·injection e with e1 _;rw[e1]
 byValue:=λk v h=>by
  rcases cY h with ⟨i,t,rfl,rfl⟩ | ⟨x,t,rfl,rfl⟩ <;> rfl
 pyHash:=λhv h=>by
  rcases cY hv with ⟨i,t,rfl,rfl⟩ | ⟨x,t,rfl,rfl⟩
  ·exact wpAny_pyHash_int h
  ·exact wpAny_pyHash_str h
 eqBool:=λhu hv h=>by
  rcases cY hu with ⟨i,t,rfl,rfl⟩ | ⟨x,t,rfl,rfl⟩
  ·rcases cY hv with ⟨j,u,rfl,rfl⟩ | ⟨y,u,rfl,rfl⟩
   ·rw[ou] at h;exact wpAny_eqBool_int h
   ·rw[vg] at h;exact SeqAt.EqAt.int_str i t y u _ _ _ _ h
  ·rcases cY hv with ⟨j,u,rfl,rfl⟩ | ⟨y,u,rfl,rfl⟩
   ·rw[vh] at h;exact SeqAt.EqAt.str_int x t j u _ _ _ _ h
   ·rw[z_] at h;exact wpAny_eqBool_str h
 «strs»:=λk x t v h=>by
  rcases cY h with ⟨i,u,rfl,e⟩ | ⟨y,u,rfl,e⟩
  ·exact nomatch e
  ·injection e with e1 _
   subst e1
   cases v <;> rfl
def oA:Key->Value->Bool
 | .inl k,.bool b=>decide (k=if b=true then 1 else 0)
 | k,v=>lQ k v
theorem dw {k:Key}{v:Value}(h:oA k v=true):(∃ b,k=Sum.inl (if b=true then 1 else 0)/\v=Value.bool b)\/(∃ i t,k=Sum.inl i/\v=Value.int i t)\/(∃ x t,k=Sum.inr x/\v=Value.str x t):=by
 unfold oA at h
 split at h
 ·exact .inl ⟨_,congrArg _ (of_decide_eq_true h),rfl⟩
 ·exact .inr (cY h)
theorem Aa {k:Key}{v:Value}(h:lQ k v=true):oA k v=true:=by
 rcases cY h with ⟨i,t,rfl,rfl⟩ | ⟨x,t,rfl,rfl⟩ <;> exact h
theorem xH (b:Bool):oA (.inl (if b=true then 1 else 0)) (.bool b)=true:=decide_eq_true rfl
theorem Jo (a b:Bool):decide ((Sum.inl (if a=true then 1 else 0):Key)=Sum.inl (if b=true then 1 else 0))=(a == b):=by
 rw[ou];cases a <;> cases b <;> rfl
theorem Ab {prog:Program}{w:World}{A:Around}{E:Value->Shared->Prop}{s:Shared}(b:Bool){Q:Int->Shared->Prop}(h:Q (hashInt (if b=true then 1 else 0)) { s with toks:=s.toks+1 }):
  wpAny (model prog w) A (pyHash (.bool b)) Q E s:=by
 refine PySem.W.pyHash_slot (s:=s) (T := "bool") (by cases b <;> exact PySem.typeIs_bool s _) PySem.F.slot_bool_hash entry_int_hash (args_int_hash _) (by rw[beq_builtin_none]) (.inl rfl) ?_
 have e:reduceHash (rawHash (if b=true then 1 else 0))=hashInt (if b=true then 1 else 0):=by cases b <;> decide
 show wpAny _ _ (do ret (← mkInt (rawHash (if b=true then 1 else 0)))) _ _ s
 refine wpAny_mono (wpAny_ret_mkInt (Q:=λv s'=>∃ t,v=.int (rawHash (if b=true then 1 else 0)) t/\s'={ s with toks:=s.toks+1 }) ⟨_,rfl,rfl⟩) (λfin s' hq=>?_) λ_ _ x=>x
 obtain⟨v,rfl,t,rfl,rfl⟩:=hq
 exact⟨_,_,rfl,by rw[e];exact h⟩
def gJ (prog:Program) (w:World):PySem.KeyKind prog w Key where
 is:=oA
 hash:=Jm w
 inj:=λv a b ha hb=>by
  rcases dw ha with ⟨c,rfl,rfl⟩ | ⟨i,t,rfl,rfl⟩ | ⟨x,t,rfl,rfl⟩ <;> rcases dw hb with ⟨d,rfl,e⟩ | ⟨j,u,rfl,e⟩ | ⟨y,u,rfl,e⟩ <;> cases e <;> rfl
 byValue:=λk v h=>by
  rcases dw h with ⟨c,rfl,rfl⟩ | ⟨i,t,rfl,rfl⟩ | ⟨x,t,rfl,rfl⟩ <;> rfl
 pyHash:=λhv h=>by
  rcases dw hv with ⟨c,rfl,rfl⟩ | ⟨i,t,rfl,rfl⟩ | ⟨x,t,rfl,rfl⟩
  ·exact Ab c h
  ·exact wpAny_pyHash_int h
  ·exact wpAny_pyHash_str h
 eqBool:=λhu hv h=>by
  rcases dw hu with ⟨c,rfl,rfl⟩ | ⟨i,t,rfl,rfl⟩ | ⟨x,t,rfl,rfl⟩
  ·rcases dw hv with ⟨d,rfl,rfl⟩ | ⟨j,u,rfl,rfl⟩ | ⟨y,u,rfl,rfl⟩
   ·rw[Jo] at h;exact SeqAt.EqAt.bool_bool _ _ _ _ _ _ h
   ·rw[ou] at h;exact SeqAt.EqAt.bool_int _ _ _ _ _ _ _ h
   ·rw[vg] at h;exact SeqAt.EqAt.bool_str _ _ _ _ _ _ _ h
  ·rcases dw hv with ⟨d,rfl,rfl⟩ | ⟨j,u,rfl,rfl⟩ | ⟨y,u,rfl,rfl⟩
   ·rw[ou] at h;exact SeqAt.EqAt.int_bool _ _ _ _ _ _ _ h
   ·rw[ou] at h;exact wpAny_eqBool_int h
   ·rw[vg] at h;exact SeqAt.EqAt.int_str i t y u _ _ _ _ h
  ·rcases dw hv with ⟨d,rfl,rfl⟩ | ⟨j,u,rfl,rfl⟩ | ⟨y,u,rfl,rfl⟩
   ·rw[vh] at h;exact SeqAt.EqAt.str_bool _ _ _ _ _ _ _ h
   ·rw[vh] at h;exact SeqAt.EqAt.str_int x t j u _ _ _ _ h
   ·rw[z_] at h;exact wpAny_eqBool_str h
 «strs»:=λk x t v h=>by
  rcases dw h with ⟨c,rfl,e⟩ | ⟨i,u,rfl,e⟩ | ⟨y,u,rfl,e⟩
  ·exact nomatch e
  ·exact nomatch e
  ·injection e with e1 _
   subst e1
   cases v <;> rfl
theorem xJ (prog:Program) (w:World) (i:Int) (t:Tok):(mD prog w).is (.inl i) (.int i t)=true:=z8 i t
theorem xK (prog:Program) (w:World) (x:Str) (t:Tok):(mD prog w).is (.inr x) (.str x t)=true:=z9 x t
end L2
namespace L2
open PySem PySem.Spec PyProof.Rows
inductive V where
 | non | bl (b:Bool) | int (i:Int) | str (x:Str) | byt (b:Array UInt8) | flt (b:UInt64) | ref (a:Addr) | ty (n:String)
 deriving DecidableEq
def RelV:V->Value->Prop
 | .non,u=>u=Value.none
 | .bl b,u=>u=Value.bool b
 | .int i,u=>∃ t,u=Value.int i t
 | .str x,u=>∃ t,u=Value.str x t
 | .byt b,u=>∃ t,u=Value.bytes b t
 | .flt b,u=>∃ t,u=Value.float b t
 | .ref a,u=>u=Value.ref a
 | .ty n,u=>u=Value.type n
abbrev Vals:List V->List Value->Prop:=Paired RelV
theorem Vals.length {xs:List V}{us:List Value}(r:Vals xs us):xs.length=us.length:=Paired.length r
theorem Vals.get:∀ {xs:List V}{us:List Value}{i:Nat}{x:V},Vals xs us->xs[i]?=some x->∃ u,us[i]?=some u/\RelV x u
 | _,_,_,_,.nil,e=>by simp at e
 | _,_,0,_,.cons r _,e=>by simp at e;subst e;exact⟨_,rfl,r⟩
 | _,_,i+1,x,.cons _ t,e=>by
  obtain⟨u,h1,h2⟩:=Vals.get (i:=i) (x:=x) t (by simpa using e)
  exact⟨u,by simpa using h1,h2⟩
theorem Vals.append:∀ {xs ys:List V}{us ws:List Value},Vals xs us->Vals ys ws->Vals (xs++ys) (us++ws)
 | _,_,_,_,.nil,s=>s
 | _,_,_,_,.cons r t,s=>.cons r (Vals.append t s)
theorem Vals.take:∀ {xs:List V}{us:List Value}(n:Nat),Vals xs us->Vals (xs.take n) (us.take n)
 | _,_,0,_=>.nil
 | _,_,_+1,.nil=>.nil
 | _,_,n+1,.cons r t=>.cons r (Vals.take n t)
theorem Vals.drop:∀ {xs:List V}{us:List Value}(n:Nat),Vals xs us->Vals (xs.drop n) (us.drop n)
 | _,_,0,r=>r
 | _,_,_+1,.nil=>.nil
 | _,_,n+1,.cons _ t=>Vals.drop n t
def RelO:Option V->Option Value->Prop
 | some v,some u=>RelV v u
 | none,none=>True
 | _,_=>False
def KV {κ:Type}:List (κ×V)->List (κ×Value)->Prop:=Paired λ(p:κ×V) (q:κ×Value)=>p.1=q.1/\RelV p.2 q.2
def kV:Key->V
 | .inl i=>.int i
 | .inr x=>.str x
inductive HO where
 | lst (xs:List V)
 | tup (xs:List V)
 | dK (kvs:List (Key×V)) | dT (kvs:List (List Key×V))
 | set (S:Int->Bool) (n:Nat)
 | ins (C dx:Addr) (fs:List (Str×V))
 | own (x:Addr)
 | xd (fs:List (Str×V))
 | met (f x:Addr)
 | rng (lo hi:Int)
 | frz (o:Obj) (u:HO)
 | tbl (ps:Array Value)
 | ext (φ:Heap->Prop)
abbrev Hp:=Addr->Option HO
def upd (H:Hp) (a:Addr) (o:HO):Hp:=λb=>if b=a then some o else H b
theorem bf {H:Hp}{a:Addr}{o:HO}:upd H a o a=some o:=by unfold upd;rw[if_pos rfl]
theorem aH {H:Hp}{a b:Addr}{o:HO}(h:b≠a):upd H a o b=H b:=by unfold upd;rw[if_neg h]
theorem aV {H:Hp}{a b:Addr}{o:HO}(h:H a=some o) (h':H b=none):a≠b:=by
 intro e;subst e;rw[h] at h';cases h'
def vm (ks:List Key) (vs:List V):Prop:=vs=ks.map kV\/∃ x b,ks=[.inr x,.inl (if b=true then 1 else 0)]/\vs=[.str x,.bl b]
abbrev Jp (H:Hp) (b:Addr) (ks:List Key):Prop:=∃ vs,H b=some (.tup vs)/\vm ks vs
def KTup (K:PySem.W.Frag) (a:Addr) (xs:List V):Prop:=∃ (o:Obj) (its:Array Value) (n:Nat),K.lookup a=some o/\o.cls=.type "tuple" /\ o.data=.seq its n/\its.size<=sizeLine/\Vals xs its.toList
def CKey (K:PySem.W.Frag) (H:Hp) (b:Addr) (ks:List Key):Prop:=Jp H b ks\/∃ vs,KTup K b vs/\vm ks vs
theorem CKey.keeps {K:PySem.W.Frag}{H H':Hp}{b:Addr}{ks:List Key}(c:CKey K H b ks) (ht:∀ b ys,H b=some (.tup ys)->H' b=some (.tup ys)):CKey K H' b ks:=c.imp (λ⟨vs,e,k⟩=>⟨vs,ht _ _ e,k⟩) id
section
variable (P:Program) (w:World) (K:PySem.W.Frag)
def ObjOk (H:Hp) (h:Heap) (a:Addr):HO->Prop
 | .lst xs=>xs.length<=sizeLine/\∃ (its:List Value) (n:Nat),Vals xs its/\h.get? a=some { cls:=.type "list",data:=.seq its.toArray n }
 | .tup xs=>xs.length<=sizeLine/\∃ its:List Value,Vals xs its/\IsTup h a its.toArray
 | .dK kvs=>kvs.length<=sizeLine/\(a == sysModules)=false/\∃ vs,KV kvs vs/\h.DictOf (mD P w) a vs
 | .dT kvs=>kvs.length<=sizeLine/\(a == sysModules)=false/\∃ xs:List (List Key×Addr×Value),
   Paired (λ(p:List Key×V) (q:List Key×Addr×Value)=>p.1=q.1/\CKey K H q.2.1 p.1/\RelV p.2 q.2.2) kvs xs /\
   ∃ o es ep,h.get? a=some o/\o.ExactDict/\o.data=.dict es ep/\es.toList=xs.map (entryOfKey (tupleKind (gJ P w)))/\(xs.map (·.1)).Nodup/\ep=xs.length
 | .set S n=>h.SetOf (intKind P w) a S n
 | .ins C dx fs=>H dx=some (.own a)/\fs.length<=1000/\dx≠a/\h.get? a=some (PySem.W.instObj C dx) /\
   ∃ mA,h.Ns1 dx mA/\(∀ f,RelO (fs.lookup f) (mA f))/\PySem.Within mA (fs.map (·.1))
 | .own _=>∃ o,h.get? a=some o
 | .xd fs=>∃ mA,h.Ns1 a mA/\∀ f,RelO (fs.lookup f) (mA f)
 | .rng lo hi=>∃ t u v,h.get? a=some { cls:=.type "range",data:=.fields #[.int lo t,.int hi u,.int 1 v] }
 | .frz o u=>h.get? a=some o/\ObjOk H h a u
 | .tbl ps=>h.get? a=some { cls:=.none,data:=.fields ps }
 | .met f x=>h.get? a=some (PySem.W.methodObj (.ref f) (.ref x))
 | .ext φ=>φ h/\(∃ o,h.get? a=some o)/\∀ h1 h2:Heap,φ h1->(∀ o,h1.get? a=some o->h2.get? a=some o)->φ h2
def HOk (H:Hp) (h:Heap):Prop:=∀ a o,H a=some o->ObjOk P w K H h a o
end
section
variable {P:Program}{w:World}{K:PySem.W.Frag}{H H':Hp}{h h':Heap}{a:Addr}{o:HO}
theorem ObjOk.lt (x:ObjOk P w K H h a o):a < h.objs.size:=by
 cases o with
 | lst xs=>obtain⟨_,_,_,_,e⟩:=x;exact Heap.lt_size e
 | tup xs=>obtain⟨_,_,_,p⟩:=x;exact p.lt
 | dK kvs=>obtain⟨_,_,_,_,o,_,_,e,_⟩:=x;exact Heap.lt_size e
 | dT kvs=>obtain⟨_,_,_,_,o,_,_,e,_⟩:=x;exact Heap.lt_size e
 | set S n=>obtain⟨o,_,_,_,e,_⟩:=x;exact Heap.lt_size e
 | ins C dx fs=>obtain⟨_,_,_,e,_⟩:=x;exact Heap.lt_size e
 | own y=>obtain⟨_,e⟩:=x;exact Heap.lt_size e
 | xd fs=>obtain⟨_,⟨_,_,_,e,_⟩,_⟩:=x;exact Heap.lt_size e
 | rng lo hi=>obtain⟨_,_,_,e⟩:=x;exact Heap.lt_size e
 | frz ob u=>obtain⟨e,_⟩:=x;exact Heap.lt_size e
 | tbl ps=>exact Heap.lt_size (show h.get? a=some _ from x)
 | met f y=>exact Heap.lt_size (show h.get? a=some _ from x)
 | ext φ=>obtain⟨_,⟨_,e⟩,_⟩:=x;exact Heap.lt_size e
theorem Paired.mapP {α β:Type}{F G:α->β->Prop}:∀ {l₁:List α}{l₂:List β},Paired F l₁ l₂->(∀ a b,F a b->G a b)->Paired G l₁ l₂
 | _,_,.nil,_=>.nil
 | _,_,.cons r t,f=>.cons (f _ _ r) (Paired.mapP t f)
theorem ObjOk.stay (x:ObjOk P w K H h a o) (k:∀ b u,(b=a\/H b=some (.own a))->h.get? b=some u->h'.get? b=some u)
  (ho:∀ b,H b=some (.own a)->H' b=some (.own a)) (ht:∀ b xs,H b=some (.tup xs)->H' b=some (.tup xs)):ObjOk P w K H' h' a o:=by
 induction o with
 | lst xs=>obtain⟨z,its,n,r,e⟩:=x;exact⟨z,its,n,r,k _ _ (.inl rfl) e⟩
 | tup xs=>obtain⟨z,its,r,ob,e,c⟩:=x;exact⟨z,its,r,ob,k _ _ (.inl rfl) e,c⟩
 | dK kvs=>obtain⟨z,y,vs,r,ob,es,ep,e,c⟩:=x;exact⟨z,y,vs,r,ob,es,ep,k _ _ (.inl rfl) e,c⟩
 | dT kvs=>
  obtain⟨z,y,xs,r,ob,es,ep,e,c⟩:=x
  exact⟨z,y,xs,Paired.mapP r λp q z=>⟨z.1,z.2.1.keeps ht,z.2.2⟩,ob,es,ep,k _ _ (.inl rfl) e,c⟩
 | set S n=>obtain⟨ob,es,ep,t,e,c⟩:=x;exact⟨ob,es,ep,t,k _ _ (.inl rfl) e,c⟩
 | ins C dx fs=>
  obtain⟨d,z,ne,e,mA,⟨od,es,ep,e2,c⟩,r⟩:=x
  exact⟨ho _ d,z,ne,k _ _ (.inl rfl) e,mA,⟨od,es,ep,k _ _ (.inr d) e2,c⟩,r⟩
 | own y=>obtain⟨ob,e⟩:=x;exact⟨ob,k _ _ (.inl rfl) e⟩
 | xd fs=>obtain⟨mA,⟨od,es,ep,e,c⟩,r⟩:=x;exact⟨mA,⟨od,es,ep,k _ _ (.inl rfl) e,c⟩,r⟩
 | rng lo hi=>obtain⟨t,u,v,e⟩:=x;exact⟨t,u,v,k _ _ (.inl rfl) e⟩
 | frz ob u ih=>obtain⟨e,q⟩:=x;exact⟨k _ _ (.inl rfl) e,ih q⟩
 | tbl ps=>
  have e:h.get? a=some { cls:=.none,data:=.fields ps }:=x
  show h'.get? a=some { cls:=.none,data:=.fields ps }
  exact k a _ (.inl rfl) e
 | met f y=>
  have e:h.get? a=some (PySem.W.methodObj (.ref f) (.ref y)):=x
  show h'.get? a=some (PySem.W.methodObj (.ref f) (.ref y))
  exact k a _ (.inl rfl) e
 | ext φ=>obtain⟨p,⟨o,e⟩,st⟩:=x;exact⟨st _ _ p λo q=>k _ _ (.inl rfl) q,⟨o,k _ _ (.inl rfl) e⟩,st⟩
theorem HOk.lt (x:HOk P w K H h) (e:H a=some o):a < h.objs.size:=(x a o e).lt
theorem HOk.fresh (x:HOk P w K H h) (e:h.objs.size<=a):H a=none:=by
 cases q:H a with
 | none=>rfl
 | some u=>exact absurd (Nat.lt_of_lt_of_le (x.lt q) e) (Nat.lt_irrefl _)
theorem HOk.kept (x:HOk P w K H h) (k:∀ b u,h.get? b=some u->h'.get? b=some u):HOk P w K H h':=λa o e=>
 (x a o e).stay (λb u _ q=>k b u q) (λ_ q=>q) λ_ _ q=>q
theorem HOk.laid (x:HOk P w K H h) (k:∀ b u,h.get? b=some u->h'.get? b=some u) (hp:h.objs.size<=a) (new:ObjOk P w K (upd H a o) h' a o):HOk P w K (upd H a o) h':=λb u e=>by
 have hn:=x.fresh hp
 by_cases hb:b=a
 ·subst hb;rw[bf] at e;cases e;exact new
 ·rw[aH hb] at e
  exact(x b u e).stay (λc v _ q=>k c v q) (λc q=>by rw[aH (aV q hn)];exact q) λc xs q=>by rw[aH (aV q hn)];exact q
end
def Rd (H:Hp) (a:Addr) (u:HO):Prop:=H a=some u\/∃ o,H a=some (.frz o u)
theorem Rd.ok {P:Program}{w:World}{K:PySem.W.Frag}{H:Hp}{h:Heap}{a:Addr}{u:HO}(r:Rd H a u) (x:HOk P w K H h):ObjOk P w K H h a u:=by
 rcases r with r | ⟨o,r⟩
 ·exact x a u r
 ·obtain⟨_,q⟩:=x a _ r
  exact q
def Mut:Option HO->Prop
 | some (.lst _)=>True
 | some (.dK _)=>True
 | some (.dT _)=>True
 | some (.set _ _)=>True
 | some (.ins _ _ _)=>True
 | some (.ext _)=>True
 | _=>False
section
variable {P:Program}{w:World}{K:PySem.W.Frag}{H:Hp}{h h':Heap}{x e:Addr}{o':HO}
theorem HOk.write (ok:HOk P w K H h) (mu:Mut (H x)) (he:e=x\/H e=some (.own x)) (k:∀ b u,b≠e->h.get? b=some u->h'.get? b=some u) (heo:∃ u,h'.get? e=some u)
  (new:ObjOk P w K (upd H x o') h' x o'):HOk P w K (upd H x o') h':=λb u q=>by
 have nown:∀ c y,H c=some (.own y)->c≠x:=λc y r z=>by subst z;rw[r] at mu;exact mu
 have ntup:∀ c xs,H c=some (.tup xs)->c≠x:=λc xs r z=>by subst z;rw[r] at mu;exact mu
 by_cases hb:b=x
 ·subst hb;rw[bf] at q;cases q;exact new
 ·rw[aH hb] at q
  by_cases hbe:b=e
  ·have q':H b=some (.own x):=by
    rcases he with z | z
    ·exact absurd (hbe.trans z) hb
    ·rw[hbe];exact z
   rw[q] at q';cases q'
   obtain⟨v,hv⟩:=heo
   exact⟨v,by rw[hbe];exact hv⟩
  ·refine(ok b u q).stay (λc v hc r=>k c v ?_ r) (λc r=>by rw[aH (nown c b r)];exact r) λc xs r=>by rw[aH (ntup c xs r)];exact r
   rcases hc with rfl | hc
   ·exact hbe
   ·rintro rfl
    rcases he with z | z
    ·exact nown c b hc z
    ·rw[hc] at z;cases z;exact hb rfl
end
structure Un (fs ex:List Addr) (H H':Hp) (h h':Heap):Prop where
 keep:∀ b o,h.get? b=some o->H b=none->b∉fs->b∉ex->h'.get? b=some o
 slot:∀ b o,h.get? b=some o->H b=none->b∈fs->b∉ex->∃ sl,h'.get? b=some { o with slots:=sl }
 free:∀ b o,h.get? b=some o->H b=none->b∉ex->H' b=none
 there:∀ b o,h.get? b=some o->b∉ex->∃ o',h'.get? b=some o'
 tups:∀ b xs,H b=some (.tup xs)->H' b=some (.tup xs)
 frzs:∀ b o u,H b=some (.frz o u)->H' b=some (.frz o u)
 tbls:∀ b ps,H b=some (.tbl ps)->∃ more,H' b=some (.tbl (ps++more))
section
variable {fs fs' ex ex':List Addr}{H H1 H2:Hp}{h h1 h2 h':Heap}{a x e:Addr}{o:HO}
theorem Un.any (u:Un fs ex H H1 h h1){b:Addr}{ob:Obj}(q:h.get? b=some ob) (n:H b=none) (hx:b∉ex):∃ sl,h1.get? b=some { ob with slots:=sl }:=by
 by_cases hb:b∈fs
 ·exact u.slot b ob q n hb hx
 ·exact⟨ob.slots,u.keep b ob q n hb hx⟩
theorem Un.kept (k:∀ b u,h.get? b=some u->h'.get? b=some u):Un fs ex H H h h':=
 ⟨λb ob q _ _ _=>k b ob q,λb ob q _ _ _=>⟨ob.slots,k b ob q⟩,λ_ _ _ n _=>n,λb ob q _=>⟨ob,k b ob q⟩,λ_ _ q=>q,λ_ _ _ q=>q,λ_ ps q=>⟨#[],by rw[q];simp⟩⟩
theorem Un.refl:Un fs ex H H h h:=Un.kept λ_ _ q=>q
theorem Un.laid (k:∀ b u,h.get? b=some u->h'.get? b=some u) (hp:h.objs.size<=a) (hn:H a=none):Un fs ex H (upd H a o) h h' where
 keep:=λb u q _ _ _=>k b u q
 slot:=λb u q _ _ _=>⟨u.slots,k b u q⟩
 free:=λb u q n _=>by rw[aH (Nat.ne_of_lt (Nat.lt_of_lt_of_le (Heap.lt_size q) hp))];exact n
 there:=λb u q _=>⟨u,k b u q⟩
 tups:=λb xs q=>by rw[aH (aV q hn)];exact q
 frzs:=λb u xs q=>by rw[aH (aV q hn)];exact q
 tbls:=λb ps q=>⟨#[],by rw[aH (aV q hn),q];simp⟩
theorem Un.write (mu:Mut (H x)) (he:e=x\/H e=some (.own x)) (k:∀ b u,b≠e->h.get? b=some u->h'.get? b=some u) (heo:∃ u,h'.get? e=some u):Un fs ex H (upd H x o) h h':=by
 have hx:∀ b,H b=none->b≠x:=λb n z=>by subst z;rw[n] at mu;exact mu
 have hb:∀ b,H b=none->b≠e:=λb n z=>by
  subst z
  rcases he with r | r
  ·exact hx b n r
  ·rw[n] at r;cases r
 have hm:∀ b u,H b=some u->¬ Mut (some u)->b≠x:=λb u q nm z=>by subst z;rw[q] at mu;exact nm mu
 refine⟨λb u q n _ _=>k b u (hb b n) q,λb u q n _ _=>⟨u.slots,k b u (hb b n) q⟩,λb u q n _=>by rw[aH (hx b n)];exact n,λb u q _=>?_,
  λb xs q=>by rw[aH (hm b _ q λz=>z)];exact q,λb u xs q=>by rw[aH (hm b _ q λz=>z)];exact q,λb ps q=>⟨#[],by rw[aH (hm b _ q λz=>z),q];simp⟩⟩
 by_cases hbe:b=e
 ·subst hbe;exact heo
 ·exact⟨u,k b u hbe q⟩
end
def trk (h:Heap) (H:Hp):List Addr:=(List.range h.objs.size).filter λa=>(H a).isSome
def m_ (h:Heap) (H:Hp):Heap:=PySem.W.hideAll h (trk h H)
theorem Ac (h:Heap) (H:Hp):(m_ h H).objs.size=h.objs.size:=PySem.W.hideAll_size _ _
theorem Dg {h:Heap}{H:Hp}{b:Addr}{o:Obj}(e:h.get? b=some o) (n:H b=none):(m_ h H).get? b=some o:=
 PySem.W.hideAll_get _ e λhm=>by
  have q:(H b).isSome=true:=(List.mem_filter.mp hm).2
  rw[n] at q;simp at q
theorem G5 {h:Heap}{H:Hp}{b:Addr}{o:Obj}(e:(m_ h H).get? b=some o):h.get? b=some o/\H b=none:=by
 have e':h.get? b=some o:=PySem.W.of_hideAll (trk h H) e
 refine⟨e',?_⟩
 cases q:H b with
 | none=>rfl
 | some x=>
  have hm:b∈trk h H:=List.mem_filter.mpr ⟨List.mem_range.mpr (Heap.lt_size e'),by simp[q]⟩
  have z:(m_ h H).get? b=none:=PySem.W.hideAll_none (trk h H) hm
  rw[z] at e;cases e
def G6 (g h:Heap) (L:Addr):List (Addr×Obj):=(List.range h.objs.size).filterMap λa=>if a=L\/(g.get? a).isSome=true then none else (h.get? a).map λo=>(a,o)
def rest (g h:Heap) (L d:Addr):List (Addr×Obj):=(G6 g h L).filter λp=>decide (p.1≠d)
end L2
namespace L2
open PySem PySem.Spec PyProof.Rows
structure Mod (K:PySem.W.Frag) (mg:Str->Option Value) (base:Heap):Prop where
 kin:K.In base
 glob:base.Ns mainGlobals mg
 blt:∃ mb,base.Ns builtinsNs mb/\∀ x:Str,x ≠ "__name__" -> mb x=bootBuiltins x
 nolimit:base.NoLimit
structure Cx where
 prog:Program
 w:World
 K:PySem.W.Frag
 mg:Str->Option Value
 base:Heap
 A:Around
 N:List Str
 s₀:Shared
 H₀:Hp
 env:Env
 outer:List Env
 stack:List Env
 ex:List Addr
 fn:Str->Bool
 calm:Bool
 pn:List (Addr×Obj)
 xe:Value->Shared->Prop
def frs (l:List Env):List Addr:=l.filterMap (·.frame)
abbrev Cx.fs (X:Cx):List Addr:=frs X.outer
def Vis (sc:Scope) (x:Str):Prop:=sc.names.lookup x=some .local\/sc.names.lookup x=some .cell\/sc.names.lookup x=some .free
def Loc (sc:Scope) (x:Str):Prop:=sc.names.lookup x=some .local\/sc.names.lookup x=some .cell
def Look (env:Env) (h:Heap) (m:Str->Option Value) (x:Str) (u:Value):Prop:=
 (env.kindOf x=some .local/\m x=some u)\/((env.kindOf x=some .cell\/env.kindOf x=some .free)/\∃ c,env.cells.lookup x=some c/\h.IsCell c (some u))
structure Cx.Ok (X:Cx):Prop where
 mod:Mod X.K X.mg X.base
 kind:X.env.scope.kind=.function
 glob:X.env.globals=mainGlobals
 blt:X.env.builtins=builtinsNs
 above:X.s₀.heap.objs.size<=X.env.locals
 inj:∀ x y c,X.env.cells.lookup x=some c->X.env.cells.lookup y=some c->x=y
 has:∀ x,(X.env.kindOf x=some .cell\/X.env.kindOf x=some .free)->∃ c,X.env.cells.lookup x=some c
 cab:∀ x c,X.fn x=true->X.env.cells.lookup x=some c->X.s₀.heap.objs.size<=c
 hd:X.calm=true->X.A.handled=none
 frames:X.A.frames=some X.stack
 stk:X.stack=X.outer\/(X.stack=X.env::X.outer/\X.env.frame=some X.env.locals)
 exf:∀ b∈X.ex,b≠X.env.locals/\∀ x c,X.env.cells.lookup x=some c->c≠b
 bs:∀ b o,X.base.get? b=some o->X.s₀.heap.get? b=some o/\X.H₀ b=none
 bsz:X.base.objs.size<=X.s₀.heap.objs.size
 noex:∀ b o,X.base.get? b=some o->b∉X.ex
 exfs:∀ b∈X.ex,b∉X.fs
 funs:X.s₀.heap.FunFrames X.base X.outer
 frf:∀ b∈X.fs,X.H₀ b=none
structure Inv (X:Cx) (pins:List (Addr×Obj)) (σ:List (Option V)) (H:Hp) (s:Shared):Prop where
 ok:X.Ok
 os:s.os=X.s₀.os
 bare:AllBare s.gens
 base:Un X.fs X.ex X.H₀ H X.s₀.heap s.heap
 loc:∃ m,s.heap.Ns X.env.locals m/\∀ (i:Nat) (x:Str) (v:V),X.N[i]?=some x->σ[i]?=some (some v)->Vis X.env.scope x->∃ u,RelV v u/\Look X.env s.heap m x u
 cell:∀ x c,X.env.cells.lookup x=some c->∃ v,s.heap.IsCell c v
 free:H X.env.locals=none
 freeC:∀ x c,X.env.cells.lookup x=some c->H c=none
 pin:∀ p∈X.pn++pins,s.heap.get? p.1=some p.2/\H p.1=none/\p.1≠X.env.locals/\p.1∉X.fs/\∀ v,p.2.data≠.cell v
 hok:HOk X.prog X.w X.K H s.heap
 len:σ.length=X.N.length
section
variable {X:Cx}{pins:List (Addr×Obj)}{σ:List (Option V)}{H H':Hp}{s:Shared}{h':Heap}
theorem Cx.Ok.nofr (ok:X.Ok){b:Addr}{o:Obj}(e:X.base.get? b=some o):b∉X.fs:=λhb=>by
 have:=(ok.funs.mem hb).1
 rw[e] at this;cases this
theorem Inv.bs (I:Inv X pins σ H s):∀ b o,X.base.get? b=some o->s.heap.get? b=some o/\H b=none:=λb o e=>
 ⟨I.base.keep b o (I.ok.bs b o e).1 (I.ok.bs b o e).2 (I.ok.nofr e) (I.ok.noex b o e),I.base.free b o (I.ok.bs b o e).1 (I.ok.bs b o e).2 (I.ok.noex b o e)⟩
theorem Inv.bk (I:Inv X pins σ H s):∀ b o,X.base.get? b=some o->s.heap.get? b=some o:=λb o e=>(I.bs b o e).1
theorem Inv.mod (I:Inv X pins σ H s):Mod X.K X.mg X.base:=I.ok.mod
theorem Inv.kIn (I:Inv X pins σ H s):X.K.In s.heap:=I.ok.mod.kin.keeps I.bk
theorem Inv.lt (I:Inv X pins σ H s):X.env.locals < s.heap.objs.size:=let ⟨_,hn,_⟩:=I.loc;hn.lt
theorem Inv.sz (I:Inv X pins σ H s):X.s₀.heap.objs.size<=s.heap.objs.size:=Nat.le_trans I.ok.above (Nat.le_of_lt I.lt)
theorem Inv.nofs (I:Inv X pins σ H s){a:Addr}(h:s.heap.objs.size<=a):a∉X.fs:=λhb=>by
 obtain⟨_,o,ho,_⟩:=I.ok.funs.mem hb
 exact absurd (Nat.lt_of_lt_of_le (Heap.lt_size ho) (Nat.le_trans I.sz h)) (Nat.lt_irrefl _)
theorem Inv.cne (I:Inv X pins σ H s):∀ x c,X.env.cells.lookup x=some c->c≠X.env.locals:=λx c e z=>by
 obtain⟨v,o,ho,hd⟩:=I.cell x c e
 obtain⟨m,⟨o',es,ep,ho',hd',_⟩,_⟩:=I.loc
 rw[z,ho'] at ho;cases ho;rw[hd'] at hd;cases hd
theorem Inv.funs (I:Inv X pins σ H s):s.heap.FunFrames X.base X.outer:=by
 have all:∀ (l:List Env),(∀ b∈frs l,b∈X.fs)->X.s₀.heap.FunFrames X.base l->s.heap.FunFrames X.base l:=by
  intro l
  induction l with
  | nil=>intro _ _;trivial
  | cons env r ih=>
   intro hs hl
   obtain⟨hk,⟨L,o,hf,hn,ho,hd⟩,hr⟩:=hl
   have hL:L∈X.fs:=hs L (by unfold frs;rw[List.filterMap_cons,hf];exact List.mem_cons_self)
   obtain⟨sl,e⟩:=I.base.slot L o ho (I.ok.frf L hL) hL λz=>I.ok.exfs L z hL
   exact⟨hk,⟨L,_,hf,hn,e,hd⟩,ih (λb hb=>hs b (by unfold frs;rw[List.filterMap_cons,hf];exact List.mem_cons_of_mem _ hb)) hr⟩
 exact all X.outer (λ_ hb=>hb) I.ok.funs
theorem Inv.stack (I:Inv X pins σ H s):s.heap.FunFrames X.base X.stack:=by
 rcases I.ok.stk with e | ⟨e,hf⟩
 ·rw[e];exact I.funs
 ·rw[e]
  obtain⟨m,hn,_⟩:=I.loc
  refine .cons (by rw[I.ok.kind];decide) hf hn ?_ I.funs
  exact Heap.get?_none_of_le (Nat.le_trans I.ok.bsz I.ok.above)
theorem Inv.stkSub (I:Inv X pins σ H s):∀ b∈frs X.stack,b∈X.env.locals::X.fs:=λb hb=>by
 rcases I.ok.stk with e | ⟨e,hf⟩
 ·rw[e] at hb;exact List.mem_cons_of_mem _ hb
 ·rw[e] at hb
  unfold frs at hb
  rw[List.filterMap_cons,hf] at hb
  exact hb
theorem Inv.stkFree (I:Inv X pins σ H s):∀ b∈frs X.stack,H b=none:=λb hb=>by
 rcases List.mem_cons.mp (I.stkSub b hb) with e | hb
 ·rw[e];exact I.free
 ·obtain⟨_,o,ho,_⟩:=I.ok.funs.mem hb
  exact I.base.free b o ho (I.ok.frf b hb) λz=>I.ok.exfs b z hb
theorem Inv.step {g':Array GenState}{t':Nat}{d':Drawn}{ch:List Addr}(I:Inv X pins σ H s)
  (hch:∀ b∈ch,(b∈X.ex\/X.s₀.heap.objs.size<=b)/\b≠X.env.locals/\(∀ x c,X.env.cells.lookup x=some c->c≠b)/\∀ p∈X.pn++pins,p.1≠b)
  (keep:∀ b o,b≠X.env.locals->b∉X.fs->b∉ch->s.heap.get? b=some o->H b=none->h'.get? b=some o)
  (slot:∀ b o,b≠X.env.locals->b∈X.fs->b∉ch->s.heap.get? b=some o->H b=none->∃ sl,h'.get? b=some { o with slots:=sl }) (free:∀ b o,b∉ch->s.heap.get? b=some o->H b=none->H' b=none)
  (there:∀ b o,b∉ch->s.heap.get? b=some o->∃ o',h'.get? b=some o')
  (tups:∀ b xs,H b=some (.tup xs)->H' b=some (.tup xs)) (frzs:∀ b o u,H b=some (.frz o u)->H' b=some (.frz o u)) (tbls:∀ b ps,H b=some (.tbl ps)->∃ more,H' b=some (.tbl (ps++more)))
  (ns:∀ m,s.heap.Ns X.env.locals m->h'.Ns X.env.locals m) (hok:HOk X.prog X.w X.K H' h') (hg:AllBare g'):
  Inv X pins σ H' { s with heap:=h',gens:=g',drawn:=d',toks:=t' }:=by
 have neL:∀ b o,X.s₀.heap.get? b=some o->b≠X.env.locals:=λb o e=>Nat.ne_of_lt (Nat.lt_of_lt_of_le (Heap.lt_size e) I.ok.above)
 have neC:∀ b o,X.s₀.heap.get? b=some o->b∉X.ex->b∉ch:=λb o e hx hb=>by
  rcases(hch b hb).1 with z | z
  ·exact hx z
  ·exact absurd (Nat.lt_of_lt_of_le (Heap.lt_size e) z) (Nat.lt_irrefl _)
 have cellK:∀ x c,X.env.cells.lookup x=some c->∀ v,s.heap.IsCell c v->h'.IsCell c v:=by
  rintro x c e v ⟨o,ho,hd⟩
  have nch:c∉ch:=λz=>(hch c z).2.2.1 x c e rfl
  by_cases hc:c∈X.fs
  ·obtain⟨sl,q⟩:=slot c o (I.cne x c e) hc nch ho (I.freeC x c e)
   exact⟨_,q,hd⟩
  ·exact⟨o,keep c o (I.cne x c e) hc nch ho (I.freeC x c e),hd⟩
 refine⟨I.ok,I.os,hg,⟨λb o e n hb hx=>?_,λb o e n hb hx=>?_,λb o e n hx=>?_,λb o e hx=>?_,λb xs e=>tups b xs (I.base.tups b xs e),λb o xs e=>frzs b o xs (I.base.frzs b o xs e),λb ps e=>?_⟩,?_,λx c e=>?_,?_,λx c e=>?_,λp hp=>?_,hok,I.len⟩
 ·exact keep b o (neL b o e) hb (neC b o e hx) (I.base.keep b o e n hb hx) (I.base.free b o e n hx)
 ·obtain⟨sl,e1⟩:=I.base.slot b o e n hb hx
  obtain⟨sl',e2⟩:=slot b _ (neL b o e) hb (neC b o e hx) e1 (I.base.free b o e n hx)
  exact⟨sl',e2⟩
 ·obtain⟨o',e1⟩:=I.base.there b o e hx
  exact free b o' (neC b o e hx) e1 (I.base.free b o e n hx)
 ·obtain⟨o',e1⟩:=I.base.there b o e hx
  exact there b o' (neC b o e hx) e1
 ·obtain⟨m1,e1⟩:=I.base.tbls b ps e
  obtain⟨m2,e2⟩:=tbls b _ e1
  exact⟨m1++m2,by rw[e2,Array.append_assoc]⟩
 ·obtain⟨m,hn,hl⟩:=I.loc
  refine⟨m,ns m hn,λi x v e1 e2 e3=>?_⟩
  obtain⟨u,r,l⟩:=hl i x v e1 e2 e3
  refine⟨u,r,?_⟩
  rcases l with l | ⟨k,c,e,z⟩
  ·exact .inl l
  ·exact .inr ⟨k,c,e,cellK x c e _ z⟩
 ·obtain⟨v,z⟩:=I.cell x c e
  exact⟨v,cellK x c e v z⟩
 ·obtain⟨m,⟨o,_,_,ho,_⟩,_⟩:=I.loc
  exact free _ o (λz=>(hch _ z).2.1 rfl) ho I.free
 ·obtain⟨v,o,ho,hd⟩:=I.cell x c e
  exact free c o (λz=>(hch c z).2.2.1 x c e rfl) ho (I.freeC x c e)
 ·obtain⟨e,n,ne,nf,d⟩:=I.pin p hp
  have nch:p.1∉ch:=λz=>(hch p.1 z).2.2.2 p hp rfl
  exact⟨keep p.1 p.2 ne nf nch e n,free p.1 p.2 nch e n,ne,nf,d⟩
theorem Inv.un {t':Nat}(I:Inv X pins σ H s) (u:Un X.fs [] H H' s.heap h') (hok:HOk X.prog X.w X.K H' h'):Inv X pins σ H' { s with heap:=h',toks:=t' }:=by
 obtain⟨m,⟨o,es,ep,ho,r⟩,_⟩:=id I.loc
 obtain⟨sl,hL⟩:=u.any ho I.free (by simp)
 exact I.step (g':=s.gens) (d':=s.drawn) (ch:=[]) (λ_ z=>nomatch z) (λb o _ hb _ e n=>u.keep b o e n hb (by simp)) (λb o _ hb _ e n=>u.slot b o e n hb (by simp)) (λb o _ e n=>u.free b o e n (by simp)) (λb o _ e=>u.there b o e (by simp)) u.tups u.frzs u.tbls (λm' hm=>by
  obtain⟨o',es',ep',ho',r'⟩:=hm
  rw[ho] at ho';cases ho'
  exact⟨_,es',ep',hL,r'⟩) hok I.bare
theorem Inv.call {g':Array GenState}{t':Nat}{d':Drawn}{ch:List Addr}(I:Inv X pins σ H s) (u:Un (frs X.stack) ch H H' s.heap h') (hok:HOk X.prog X.w X.K H' h') (hg:AllBare g')
  (hch:∀ b∈ch,(b∈X.ex\/X.s₀.heap.objs.size<=b)/\b≠X.env.locals/\(∀ x c,X.env.cells.lookup x=some c->c≠b)/\∀ p∈X.pn++pins,p.1≠b):
  Inv X pins σ H' { s with heap:=h',gens:=g',drawn:=d',toks:=t' }:=by
 obtain⟨m,⟨o,es,ep,ho,r⟩,_⟩:=id I.loc
 obtain⟨sl,hL⟩:=u.any ho I.free λz=>(hch _ z).2.1 rfl
 exact I.step (ch:=ch) hch (λb o hL hb hc e n=>u.keep b o e n (λz=>(List.mem_cons.mp (I.stkSub b z)).elim hL hb) hc) (λb o _ _ hc e n=>u.any e n hc) (λb o hc e n=>u.free b o e n hc) (λb o hc e=>u.there b o e hc) u.tups u.frzs u.tbls (λm' hm=>by
  obtain⟨o',es',ep',ho',r'⟩:=hm
  rw[ho] at ho';cases ho'
  exact⟨_,es',ep',hL,r'⟩) hok hg
theorem Inv.turned {t':Nat}{it:Addr}(I:Inv X pins σ H s) (k:∀ b o,b≠it->s.heap.get? b=some o->h'.get? b=some o) (hn:H it=none) (hL:it≠X.env.locals)
  (h1:it∈X.ex\/X.s₀.heap.objs.size<=it) (h2:∀ x c,X.env.cells.lookup x=some c->c≠it) (h3:∀ p∈X.pn++pins,p.1≠it):Inv X pins σ H { s with heap:=h',toks:=t' }:=by
 have nit:∀ b u,H b=some u->b≠it:=λb u e z=>by rw[z,hn] at e;cases e
 refine I.step (g':=s.gens) (d':=s.drawn) (ch:=[it]) (λb hb=>?_) (λb o _ _ hc e _=>k b o (λz=>hc (by simp[z])) e) (λb o _ _ hc e _=>⟨o.slots,k b o (λz=>hc (by simp[z])) e⟩) (λ_ _ _ _ n=>n)
  (λb o hc e=>⟨o,k b o (λz=>hc (by simp[z])) e⟩) (λ_ _ e=>e) (λ_ _ _ e=>e) (λb ps e=>⟨#[],by rw[e];simp⟩) (λm hm=>?_) (λb u e=>?_) I.bare
 ·have e:b=it:=by simpa using hb
  subst e
  exact⟨h1,hL,h2,h3⟩
 ·obtain⟨o,es,ep,ho,r⟩:=hm
  exact⟨o,es,ep,k _ o (Ne.symm hL) ho,r⟩
 ·refine(I.hok b u e).stay (λc v hc q=>k c v ?_ q) (λ_ q=>q) λ_ _ q=>q
  rcases hc with z | z
  ·rw[z];exact nit b u e
  ·exact nit c _ z
theorem Inv.tok (I:Inv X pins σ H s) (t:Nat):Inv X pins σ H { s with toks:=t }:=I.un (h':=s.heap) (t':=t) Un.refl I.hok
theorem Inv.kept {t':Nat}(I:Inv X pins σ H s) (k:∀ b u,s.heap.get? b=some u->h'.get? b=some u):Inv X pins σ H { s with heap:=h',toks:=t' }:=I.un (Un.kept k) (I.hok.kept k)
theorem Inv.laid {a:Addr}{o:HO}{t':Nat}(I:Inv X pins σ H s) (k:∀ b u,s.heap.get? b=some u->h'.get? b=some u) (hp:s.heap.objs.size<=a) (new:ObjOk X.prog X.w X.K (upd H a o) h' a o):
  Inv X pins σ (upd H a o) { s with heap:=h',toks:=t' }:=I.un (Un.laid k hp (I.hok.fresh hp)) (I.hok.laid k hp new)
theorem Inv.write {x e:Addr}{o:HO}{t':Nat}(I:Inv X pins σ H s) (mu:Mut (H x)) (he:e=x\/H e=some (.own x)) (k:∀ b u,b≠e->s.heap.get? b=some u->h'.get? b=some u) (heo:∃ u,h'.get? e=some u)
  (new:ObjOk X.prog X.w X.K (upd H x o) h' x o):Inv X pins σ (upd H x o) { s with heap:=h',toks:=t' }:=I.un (Un.write mu he k heo) (I.hok.write mu he k heo new)
theorem Inv.weak {σ':List (Option V)}(I:Inv X pins σ H s) (hl:σ'.length=σ.length) (w:∀ (i:Nat) v,σ'[i]?=some (some v)->σ[i]?=some (some v)):Inv X pins σ' H s:=
 ⟨I.ok,I.os,I.bare,I.base,let ⟨m,hn,hl'⟩:=I.loc;⟨m,hn,λi x v e1 e2 e3=>hl' i x v e1 (w i v e2) e3⟩,I.cell,I.free,I.freeC,I.pin,I.hok,hl.trans I.len⟩
theorem Inv.pins_of {pins':List (Addr×Obj)}(I:Inv X pins σ H s) (h:∀ p∈pins',s.heap.get? p.1=some p.2/\H p.1=none/\p.1≠X.env.locals/\p.1∉X.fs/\∀ v,p.2.data≠.cell v):Inv X pins' σ H s:=
 ⟨I.ok,I.os,I.bare,I.base,I.loc,I.cell,I.free,I.freeC,λp hp=>(List.mem_append.mp hp).elim (λz=>I.pin p (List.mem_append_left _ z)) (h p),I.hok,I.len⟩
theorem qt {N:List Str}(hN:N.Nodup){i j:Nat}{x:Str}(a:N[i]?=some x) (b:N[j]?=some x):i=j:=by
 obtain⟨h1,e1⟩:=List.getElem?_eq_some_iff.mp a
 obtain⟨h2,e2⟩:=List.getElem?_eq_some_iff.mp b
 exact(List.getElem_inj hN).mp (e1.trans e2.symm)
theorem uo {M:Model}{A:Around}{E:Value->Shared->Prop}{i:Nat}{x:Str}{v:V}{u:Value}{Q:Unit->Shared->Prop}(I:Inv X pins σ H s) (hN:X.N.Nodup) (hi:X.N[i]?=some x) (hx:Loc X.env.scope x) (r:RelV v u)
  (h:∀ s',Inv X pins (σ.set i (some v)) H s'->(∃ a,Heap.SameBut a s.heap s'.heap/\(a=X.env.locals\/X.env.cells.lookup x=some a))->Q () s') (hf:X.fn x=true\/X.env.scope.names.lookup x=some .local:=by first | exact .inl rfl | exact .inr rfl | assumption):wpAny M A (storeName X.env x u) Q E s:=by
 obtain⟨m,hn,hl⟩:=id I.loc
 have hcls:(X.env.scope.kind == .class||(X.env.scope.kind == .module&&X.env.locals != X.env.globals))=false:=by rw[I.ok.kind];rfl
 have hiσ:i < σ.length:=by rw[I.len];exact(List.getElem?_eq_some_iff.mp hi).1
 have cne:=I.cne
 have tracked:∀ {a:Addr}{h':Heap},(∃ o,s.heap.get? a=some o/\H a=none)->Heap.SameBut a s.heap h'->HOk X.prog X.w X.K H h':=λ{a h'} ha hs b ob e=>by
  obtain⟨_,_,hfree⟩:=ha
  refine(I.hok b ob e).stay (λc w' hc q=>(hs.2 c ?_).trans q) (λ_ q=>q) λ_ _ q=>q
  rintro rfl
  rcases hc with rfl | hc
  ·rw[hfree] at e;cases e
  ·rw[hfree] at hc;cases hc
 rcases hx with hk | hk
 ·refine wpAny_storeName_local hk hn (λh' hn' hs=>?_) hcls
  obtain⟨oL,_,_,hoL,_⟩:=id hn
  refine h _ ⟨I.ok,I.os,I.bare,⟨λb o e n hb hx=>?_,λb o e n hb hx=>?_,I.base.free,λb o e hx=>?_,I.base.tups,I.base.frzs,I.base.tbls⟩,⟨_,hn',λj y v' e1 e2 e3=>?_⟩,λy c e=>?_,I.free,I.freeC,λp hp=>?_,tracked ⟨oL,hoL,I.free⟩ hs,by simpa using I.len⟩ ⟨_,hs,.inl rfl⟩
  ·exact(hs.2 b (Nat.ne_of_lt (Nat.lt_of_lt_of_le (Heap.lt_size e) I.ok.above))).trans (I.base.keep b o e n hb hx)
  ·obtain⟨sl,e1⟩:=I.base.slot b o e n hb hx
   exact⟨sl,(hs.2 b (Nat.ne_of_lt (Nat.lt_of_lt_of_le (Heap.lt_size e) I.ok.above))).trans e1⟩
  ·obtain⟨o',e1⟩:=I.base.there b o e hx
   exact⟨o',(hs.2 b (Nat.ne_of_lt (Nat.lt_of_lt_of_le (Heap.lt_size e) I.ok.above))).trans e1⟩
  ·by_cases hj:j=i
   ·subst hj
    rw[hi] at e1;cases e1
    rw[List.getElem?_set_self hiσ] at e2
    cases e2
    exact⟨u,r,.inl ⟨hk,by simp⟩⟩
   ·rw[List.getElem?_set_ne (Ne.symm hj)] at e2
    obtain⟨u',r',q⟩:=hl j y v' e1 e2 e3
    refine⟨u',r',?_⟩
    rcases q with ⟨k,e⟩ | ⟨k,c,e,z⟩
    ·refine .inl ⟨k,?_⟩
     have:y≠x:=λe=>hj (qt hN e1 (e▸hi))
     simp[this,e]
    ·exact .inr ⟨k,c,e,z.sameBut hs (cne y c e)⟩
  ·obtain⟨w',z⟩:=I.cell y c e
   exact⟨w',z.sameBut hs (cne y c e)⟩
  ·obtain⟨e,n,ne,nf,d⟩:=I.pin p hp
   exact⟨(hs.2 p.1 ne).trans e,n,ne,nf,d⟩
 ·have hfn:X.fn x=true:=by
   rcases hf with z | z
   ·exact z
   ·rw[z] at hk;cases hk
  obtain⟨c,hc⟩:=I.ok.has x (.inl hk)
  obtain⟨w',z⟩:=I.cell x c hc
  refine wpAny_storeName_cell I.ok.kind hk hc z (λh' hc' hs=>?_)
  obtain⟨oc,hoc,hocd⟩:=id z
  refine h { s with heap:=h' } ⟨I.ok,I.os,I.bare,⟨λb o e n hb hx=>?_,λb o e n hb hx=>?_,I.base.free,λb o e hx=>?_,I.base.tups,I.base.frzs,I.base.tbls⟩,⟨m,hn.sameBut hs (Ne.symm (cne x c hc)),λj y v' e1 e2 e3=>?_⟩,λy c' e=>?_,I.free,I.freeC,λp hp=>?_,tracked ⟨oc,hoc,I.freeC x c hc⟩ hs,by simpa using I.len⟩ ⟨c,hs,.inr hc⟩
  ·exact(hs.2 b (Nat.ne_of_lt (Nat.lt_of_lt_of_le (Heap.lt_size e) (I.ok.cab x c hfn hc)))).trans (I.base.keep b o e n hb hx)
  ·obtain⟨sl,e1⟩:=I.base.slot b o e n hb hx
   exact⟨sl,(hs.2 b (Nat.ne_of_lt (Nat.lt_of_lt_of_le (Heap.lt_size e) (I.ok.cab x c hfn hc)))).trans e1⟩
  ·obtain⟨o',e1⟩:=I.base.there b o e hx
   exact⟨o',(hs.2 b (Nat.ne_of_lt (Nat.lt_of_lt_of_le (Heap.lt_size e) (I.ok.cab x c hfn hc)))).trans e1⟩
  ·by_cases hj:j=i
   ·subst hj
    rw[hi] at e1;cases e1
    rw[List.getElem?_set_self hiσ] at e2
    cases e2
    exact⟨u,r,.inr ⟨.inl hk,c,hc,hc'⟩⟩
   ·rw[List.getElem?_set_ne (Ne.symm hj)] at e2
    obtain⟨u',r',q⟩:=hl j y v' e1 e2 e3
    refine⟨u',r',?_⟩
    rcases q with q | ⟨k,c',e,z'⟩
    ·exact .inl q
    ·refine .inr ⟨k,c',e,z'.sameBut hs ?_⟩
     rintro rfl
     exact hj (qt hN e1 (I.ok.inj _ _ _ e hc▸hi))
  ·by_cases hcc:c'=c
   ·subst hcc;exact⟨_,hc'⟩
   ·obtain⟨w2,z2⟩:=I.cell y c' e
    exact⟨w2,z2.sameBut hs hcc⟩
  ·obtain⟨e,n,ne,nf,d⟩:=I.pin p hp
   refine⟨(hs.2 p.1 ?_).trans e,n,ne,nf,d⟩
   intro q
   rw[q,hoc] at e
   have q':oc=p.2:=Option.some.inj e
   exact d w' (by rw[← q'];exact hocd)
theorem qu {M:Model}{A:Around}{E:Value->Shared->Prop}{i:Nat}{x:Str}{v:V}{u:Value}{Q:Unit->Shared->Prop}(I:Inv X pins σ H s) (hN:X.N.Nodup) (hi:X.N[i]?=some x) (hx:Loc X.env.scope x) (r:RelV v u)
  (h:∀ s',Inv X pins (σ.set i (some v)) H s'->Q () s') (hf:X.fn x=true\/X.env.scope.names.lookup x=some .local:=by first | exact .inl rfl | exact .inr rfl | assumption):wpAny M A (storeName X.env x u) Q E s:=
 uo I hN hi hx r (λs' I' _=>h s' I') hf
theorem Inv.call' {s':Shared}{ch:List Addr}(I:Inv X pins σ H s) (ho:s'.os=s.os) (u:Un (frs X.stack) ch H H' s.heap s'.heap) (hok:HOk X.prog X.w X.K H' s'.heap) (hg:AllBare s'.gens)
  (hch:∀ b∈ch,(b∈X.ex\/X.s₀.heap.objs.size<=b)/\b≠X.env.locals/\(∀ x c,X.env.cells.lookup x=some c->c≠b)/\∀ p∈X.pn++pins,p.1≠b):Inv X pins σ H' s':=by
 obtain⟨h',g',d',t',o'⟩:=s'
 have e:o'=s.os:=ho
 subst e
 exact I.call (g':=g') (t':=t') (d':=d') u hok hg hch
end
abbrev XK:=Value->Option Addr->Hp->Prop
abbrev St:=List (Option V)
abbrev VK:=V->Hp->Prop
abbrev TE:=St->Hp->VK->Prop
abbrev TT:=St->Hp->(Bool->Hp->Prop)->Prop
abbrev TA:=St->Hp->(List V->Hp->Prop)->Prop
structure Ends where
 nx:St->Hp->Prop
 rt:VK
 bk:St->Hp->Prop:=λ_ _=>False
 ct:St->Hp->Prop:=λ_ _=>False
abbrev TS:=Ends->St->Hp->Prop
def EP (X:Cx) (pins:List (Addr×Obj)) (σ:St) (Q:VK) (u:Value) (s':Shared):Prop:=∃ v H',Inv X pins σ H' s'/\RelV v u/\Q v H'
def TP (X:Cx) (pins:List (Addr×Obj)) (σ:St) (Q:Bool->Hp->Prop) (b:Bool) (s':Shared):Prop:=∃ H',Inv X pins σ H' s'/\Q b H'
def AP (X:Cx) (pins:List (Addr×Obj)) (σ:St) (Q:List V->Hp->Prop) (us:List Value) (s':Shared):Prop:=∃ vs H',Inv X pins σ H' s'/\Vals vs us/\Q vs H'
def SP (X:Cx) (pins:List (Addr×Obj)) (D:Ends) (f:Flow) (s':Shared):Prop:=
 match f with
 | .next=>∃ σ' H',Inv X pins σ' H' s'/\D.nx σ' H'
 | .brk=>∃ σ' H',Inv X pins σ' H' s'/\D.bk σ' H'
 | .cont=>∃ σ' H',Inv X pins σ' H' s'/\D.ct σ' H'
 | .ret u=>∃ v σ' H',Inv X pins σ' H' s'/\RelV v u/\D.rt v H'
def PE (X:Cx) (e:Expr) (t:TE):Prop:=
 ∀ (pins:List (Addr×Obj)) (s:Shared) (σ:St) (H:Hp) (Q:VK),Inv X pins σ H s->t σ H Q->wpAny (model X.prog X.w) X.A (eval e X.env) (EP X pins σ Q) X.xe s
def PT (X:Cx) (e:Expr) (t:TT):Prop:=
 ∀ (pins:List (Addr×Obj)) (s:Shared) (σ:St) (H:Hp) (Q:Bool->Hp->Prop),Inv X pins σ H s->t σ H Q->wpAny (model X.prog X.w) X.A (isTrue e X.env (eval e X.env)) (TP X pins σ Q) X.xe s
def PW (X:Cx) (e:Expr) (t:TT):Prop:=
 ∀ (whole:Sem Value) (pins:List (Addr×Obj)) (s:Shared) (σ:St) (H:Hp) (Q:Bool->Hp->Prop),Inv X pins σ H s->t σ H Q->wpAny (model X.prog X.w) X.A (isTrue e X.env whole) (TP X pins σ Q) X.xe s
theorem PW.pt {X:Cx}{e:Expr}{t:TT}(h:PW X e t):PT X e t:=h _
def PA (X:Cx) (es:List Expr) (t:TA):Prop:=
 ∀ (pos:Pos) (pins:List (Addr×Obj)) (s:Shared) (σ:St) (H:Hp) (Q:List V->Hp->Prop),Inv X pins σ H s->t σ H Q->wpAny (model X.prog X.w) X.A (spliced (backTo pos (starEach es X.env))) (AP X pins σ Q) X.xe s
def PS (X:Cx) (st:Stmt) (t:TS):Prop:=
 ∀ (pins:List (Addr×Obj)) (s:Shared) (σ:St) (H:Hp) (D:Ends),Inv X pins σ H s->t D σ H->wpAny (model X.prog X.w) X.A (exec st X.env) (SP X pins D) X.xe s
def PSs (X:Cx) (st:List Stmt) (t:TS):Prop:=
 ∀ (pins:List (Addr×Obj)) (s:Shared) (σ:St) (H:Hp) (D:Ends),Inv X pins σ H s->t D σ H->wpAny (model X.prog X.w) X.A (execs st X.env) (SP X pins D) X.xe s
theorem thn {α:Type}{t:Sem α}{Q Q':α->Shared->Prop}{M:Model}{A:Around}{E:Value->Shared->Prop}{s:Shared}(h:wpAny M A t Q E s) (hQ:∀ a s,Q a s->Q' a s):wpAny M A t Q' E s:=wpAny_mono h hQ λ_ _ x=>x
end L2
namespace L2
open PySem PySem.Spec PyProof.Rows
section
variable {X:Cx}
def Jq (i:Nat):TE:=fun σ H Q=>∃ v,σ[i]?=some (some v)/\Q v H
def tC (v:V):TE:=λ_ H Q=>Q v H
theorem eY {i:Nat}{x:Str}{pos:Pos}(hN:X.N[i]?=some x) (hv:Vis X.env.scope x) (hd:(x == ("__debug__" : Str))=false:=by decide) (hcd:(x == ("__classdict__" : Str))=false:=by decide):PE X (.Name x pos) (Jq i):=by
 intro pins s σ H Q I h
 obtain⟨v,e,h⟩:=h
 obtain⟨m,hn,hl⟩:=I.loc
 obtain⟨u,r,l⟩:=hl i x v hN e hv
 have fin:EP X pins σ Q u s:=⟨v,H,I,r,h⟩
 rcases l with ⟨hk,hm⟩ | ⟨hk,c,hc,hcell⟩
 ·exact wpAny_Name (wpAny_loadName_local I.ok.kind hk hn hm fin) hd
 ·rcases hk with hk | hk
  ·exact wpAny_Name (wpAny_loadName_cell I.ok.kind hk hc hcell fin) hd
  ·exact wpAny_Name (wpAny_loadName_free I.ok.kind hk hc hcell fin hcd) hd
theorem Jr {i j pos}:PE X (.Constant (.int i) j pos) (tC (.int i)):=λ_ _ _ H _ I h=>wpAny_Constant_int ⟨.int i,H,I.tok _,⟨_,rfl⟩,h⟩
theorem Mr {b j pos}:PE X (.Constant (.bool b) j pos) (tC (.bl b)):=λ_ _ _ H _ I h=>Constant_bool ⟨.bl b,H,I,rfl,h⟩
theorem Js {j pos}:PE X (.Constant .none j pos) (tC .non):=λ_ _ _ H _ I h=>Constant_none ⟨.non,H,I,rfl,h⟩
theorem Ad {x j pos}:PE X (.Constant (.str x) j pos) (tC (.str x)):=λ_ _ _ H _ I h=>Calls.Constant_str ⟨.str x,H,I.tok _,⟨_,rfl⟩,h⟩
def Gl (X:Cx) (x:Str):Prop:=X.env.kindOf x=some .globalImplicit
theorem kO {E:Value->Shared->Prop}{pins:List (Addr×Obj)}{s:Shared}{σ:St}{H:Hp}{x:Str}{u:Value}{pos:Pos}{Q:Value->Shared->Prop}(I:Inv X pins σ H s) (hg:Gl X x) (hm:X.mg x=some u) (h:Q u s)
  (hd:(x == ("__debug__" : Str))=false:=by decide):wpAny (model X.prog X.w) X.A (eval (.Name x pos) X.env) Q E s:=
 Calls.Name_function_global I.ok.kind hg (Calls.loadGlobal_global (by rw[I.ok.glob];exact I.mod.glob.keeps I.bk) hm h) hd
theorem mF {E:Value->Shared->Prop}{pins:List (Addr×Obj)}{s:Shared}{σ:St}{H:Hp}{x:Str}{u:Value}{pos:Pos}{Q:Value->Shared->Prop}(I:Inv X pins σ H s) (hg:Gl X x) (hm:X.mg x=none) (hv:bootBuiltins x=some u) (h:Q u s)
  (hn:x ≠ "__name__" := by decide) (hd:(x == ("__debug__" : Str))=false:=by decide):wpAny (model X.prog X.w) X.A (eval (.Name x pos) X.env) Q E s:=by
 obtain⟨mb,h1,h2⟩:=I.mod.blt
 exact Calls.Name_function_global I.ok.kind hg (Calls.loadGlobal_builtin (by rw[I.ok.glob];exact I.mod.glob.keeps I.bk) hm (by rw[I.ok.blt];exact h1.keeps I.bk) ((h2 x hn).trans hv) h) hd
theorem pH {x:Str}{v:V}{u:Value}{pos:Pos}(hg:Gl X x) (hm:X.mg x=some u) (r:RelV v u) (hd:(x == ("__debug__" : Str))=false:=by decide):PE X (.Name x pos) (tC v):=
 λ_ _ _ H _ I h=>kO I hg hm ⟨v,H,I,r,h⟩ hd
theorem xW {x:Str}{v:V}{u:Value}{pos:Pos}(hg:Gl X x) (hm:X.mg x=none) (hv:bootBuiltins x=some u) (r:RelV v u) (hn:x ≠ "__name__" := by decide) (hd:(x == ("__debug__" : Str))=false:=by decide):PE X (.Name x pos) (tC v):=
 λ_ _ _ H _ I h=>mF I hg hm hv ⟨v,H,I,r,h⟩ hn hd
variable {a b:Expr}{ta tb:TE}{pos:Pos}
def PC (X:Cx) (op:CmpOp) (a b:Expr) (t:TE):Prop:=
 ∀ (pins:List (Addr×Obj)) (s:Shared) (σ:St) (H:Hp) (Q:VK),Inv X pins σ H s->t σ H Q->
  wpAny (model X.prog X.w) X.A (eval a X.env) (λv s₁=>wpAny (model X.prog X.w) X.A (eval b X.env) (λu s₂=>wpAny (model X.prog X.w) X.A (compareOp op v u) (EP X pins σ Q) X.xe s₂) X.xe s₁) X.xe s
theorem Dh (b:Expr){op:CmpOp}(h:op≠.In) (h2:op≠.NotIn):behindInMarks op b=false:=by
 have e1:(op == CmpOp.In)=false:=by cases op <;> first | rfl | exact absurd rfl h
 have e2:(op == CmpOp.NotIn)=false:=by cases op <;> first | rfl | exact absurd rfl h2
 cases b <;> simp[behindInMarks,e1,e2]
def Og (ta:TE):TE:=fun σ H Q=>ta σ H λx H1=>Q (.bl (decide (x=.non))) H1
theorem RelV.none_iff {x:V}{v:Value}(r:RelV x v):(v == Value.none)=decide (x=.non):=by
 cases x with
 | non=>cases r;rfl
 | bl _=>cases r;rfl
 | int _=>obtain⟨t,rfl⟩:=r;rfl
 | str _=>obtain⟨t,rfl⟩:=r;rfl
 | byt _=>obtain⟨t,rfl⟩:=r;rfl
 | flt _=>obtain⟨t,rfl⟩:=r;rfl
 | ref _=>cases r;rfl
 | ty _=>cases r;rfl
theorem Jt {j pos'}(ha:PE X a ta):PC X .Is a (.Constant .none j pos') (Og ta):=by
 intro pins s σ H Q I h
 refine thn (ha pins s σ H _ I h) ?_
 rintro v s1 ⟨x,H1,I1,r1,q1⟩
 exact Constant_none (is_none_gen ⟨.bl _,H1,I1,by rw[r1.none_iff];rfl,q1⟩)
def tB (t:TE):TT:=fun σ H Q=>t σ H λx H1=>∃ c,x=.bl c/\Q c H1
theorem Ju {op:CmpOp}{t:TE}(h:PC X op a b t) (h1:behindInMarks op b=false:=by first | exact Dh _ (by decide) (by decide) | rfl):PT X (.Compare a [op] [b] pos) (tB t):=by
 intro pins s σ H Q I hw
 refine wpAny_isTrue_Compare1 (thn (h pins s σ H _ I hw) λv s1 h1=>thn h1 λu s2 h2=>thn h2 ?_) h1
 rintro c s3 ⟨x,H1,I1,r1,q1⟩
 obtain⟨d,rfl,q⟩:=q1
 cases r1
 exact wpAny_truthy_bool ⟨H1,I1,q⟩
theorem Ae {e:Expr}{t:TE}(h:PE X e t) (he:∀ whole,isTrue e X.env whole=(do let v ← whole;standAt e.pos;holding [v] (truthy v)):=by intro _;rfl):PT X e (tB t):=by
 intro pins s σ H Q I hw
 refine isTrue_plain (thn (h pins s σ H _ I hw) ?_) (he _)
 rintro v s1 ⟨x,H1,I1,r1,q1⟩
 obtain⟨d,rfl,q⟩:=q1
 cases r1
 exact wpAny_truthy_bool ⟨H1,I1,q⟩
variable {tA tB':TT}{rest:List Expr}
def Oh (t u:TT):TT:=fun σ H Q=>t σ H λc H1=>if c=true then u σ H1 Q else Q false H1
def tOr (t u:TT):TT:=fun σ H Q=>t σ H λc H1=>if c=true then Q true H1 else u σ H1 Q
def Oi (t:TT):TT:=fun σ H Q=>t σ H λc H1=>Q (!c) H1
theorem G7 (ha:PT X a tA):PW X (.BoolOp .And [a] pos) tA:=by
 intro wh pins s σ H Q I h
 refine isTrue_and (thn (ha pins s σ H Q I h) λc s1 e=>?_)
 cases c with
 | true=>exact isTrue_and_nil e
 | false=>exact e
theorem Af (ha:PT X a tA):PW X (.BoolOp .Or [a] pos) tA:=by
 intro wh pins s σ H Q I h
 refine isTrue_or (thn (ha pins s σ H Q I h) λc s1 e=>?_)
 cases c with
 | false=>exact isTrue_or_nil e
 | true=>exact e
theorem Jv (ha:PT X a tA) (hb:PW X (.BoolOp .And (b::rest) pos) tB'):PW X (.BoolOp .And (a::b::rest) pos) (Oh tA tB'):=by
 intro wh pins s σ H Q I h
 refine isTrue_and (thn (ha pins s σ H _ I h) ?_)
 rintro c s1 ⟨H1,I1,q1⟩
 cases c with
 | true=>exact hb wh pins s1 σ H1 Q I1 q1
 | false=>exact⟨H1,I1,q1⟩
theorem Gi (ha:PT X a tA) (hb:PW X (.BoolOp .Or (b::rest) pos) tB'):PW X (.BoolOp .Or (a::b::rest) pos) (tOr tA tB'):=by
 intro wh pins s σ H Q I h
 refine isTrue_or (thn (ha pins s σ H _ I h) ?_)
 rintro c s1 ⟨H1,I1,q1⟩
 cases c with
 | true=>exact⟨H1,I1,q1⟩
 | false=>exact hb wh pins s1 σ H1 Q I1 q1
theorem Ag (ha:PT X a tA):PT X (.UnaryOp .Not a pos) (Oi tA):=by
 intro pins s σ H Q I h
 exact isTrue_not (ha pins s σ H (λc H1=>Q (!c) H1) I h)
def Ms (ta tb:TE):TE:=fun σ H Q=>ta σ H λx H1=>∃ c,x=.bl c/\if c=true then tb σ H1 Q else Q (.bl false) H1
def Oj (ta tb:TE):TE:=fun σ H Q=>ta σ H λx H1=>∃ c,x=.bl c/\if c=true then Q (.bl true) H1 else tb σ H1 Q
theorem Ah {op}{t:TE}(h:PE X a t):PE X (.BoolOp op [a] pos) t:=λpins s σ H Q I hw=>BoolOp_one (h pins s σ H Q I hw)
theorem Jw (ha:PE X a ta) (hb:PE X (.BoolOp .And (b::rest) pos) tb):PE X (.BoolOp .And (a::b::rest) pos) (Ms ta tb):=by
 intro pins s σ H Q I h
 refine BoolOp_and (thn (ha pins s σ H _ I h) ?_)
 rintro v s1 ⟨x,H1,I1,r1,q1⟩
 obtain⟨c,rfl,q1⟩:=q1
 cases r1
 refine wpAny_truthy_bool ?_
 cases c with
 | true=>exact hb pins s1 σ H1 Q I1 q1
 | false=>exact⟨.bl false,H1,I1,rfl,q1⟩
theorem Gj (ha:PE X a ta) (hb:PE X (.BoolOp .Or (b::rest) pos) tb):PE X (.BoolOp .Or (a::b::rest) pos) (Oj ta tb):=by
 intro pins s σ H Q I h
 refine BoolOp_or (thn (ha pins s σ H _ I h) ?_)
 rintro v s1 ⟨x,H1,I1,r1,q1⟩
 obtain⟨c,rfl,q1⟩:=q1
 cases r1
 refine wpAny_truthy_bool ?_
 cases c with
 | false=>exact hb pins s1 σ H1 Q I1 q1
 | true=>exact⟨.bl true,H1,I1,rfl,q1⟩
def tIf (t:TT) (ta tb:TE):TE:=fun σ H Q=>t σ H λc H1=>if c=true then ta σ H1 Q else tb σ H1 Q
theorem Di {c:Expr}(hc:PT X c tA) (ha:PE X a ta) (hb:PE X b tb):PE X (.IfExp c a b pos) (tIf tA ta tb):=by
 intro pins s σ H Q I h
 refine wpAny_IfExp (thn (hc pins s σ H _ I h) ?_)
 rintro d s1 ⟨H1,I1,q1⟩
 cases d with
 | true=>exact ha pins s1 σ H1 Q I1 q1
 | false=>exact hb pins s1 σ H1 Q I1 q1
end
end L2
namespace L2
open PySem PySem.Spec PyProof.Rows
def SqL (K:PySem.W.Frag) (H:Hp) (a:Addr) (xs:List V):Prop:=
 Rd H a (.lst xs) \/
  ∃ (o:Obj) (its:Array Value) (n:Nat),K.lookup a=some o/\o.cls=.type "list" /\ o.dict=none/\o.data=.seq its n/\its.size<=sizeLine/\Vals xs its.toList
def SqT (K:PySem.W.Frag) (H:Hp) (a:Addr) (xs:List V):Prop:=
 Rd H a (.tup xs) \/
  ∃ (o:Obj) (its:Array Value) (n:Nat),K.lookup a=some o/\o.cls=.type "tuple" /\ o.data=.seq its n/\its.size<=sizeLine/\Vals xs its.toList
def Jx:Value->Option V
 | .none=>some .non
 | .bool b=>some (.bl b)
 | .int i _=>some (.int i)
 | .str x _=>some (.str x)
 | .bytes b _=>some (.byt b)
 | .float b _=>some (.flt b)
 | .ref a=>some (.ref a)
 | .type n=>some (.ty n)
 | _=>none
theorem RelV.abs {x:V}{u:Value}(r:RelV x u):Jx u=some x:=by
 cases x with
 | non=>cases r;rfl
 | bl _=>cases r;rfl
 | int _=>obtain⟨t,rfl⟩:=r;rfl
 | str _=>obtain⟨t,rfl⟩:=r;rfl
 | byt _=>obtain⟨t,rfl⟩:=r;rfl
 | flt _=>obtain⟨t,rfl⟩:=r;rfl
 | ref _=>cases r;rfl
 | ty _=>cases r;rfl
theorem RelV.inj {x y:V}{u:Value}(r:RelV x u) (q:RelV y u):x=y:=Option.some.inj (r.abs.symm.trans q.abs)
theorem Vals.inj:∀ {xs ys:List V}{us:List Value},Vals xs us->Vals ys us->xs=ys
 | _,_,_,.nil,.nil=>rfl
 | _,_,_,.cons r t,.cons r' t'=>by rw[r.inj r',Vals.inj t t']
section
variable {X:Cx}{pins:List (Addr×Obj)}{σ:St}{H:Hp}{s:Shared}{a:Addr}{xs ys:List V}
theorem SqL.of {K:PySem.W.Frag}(h:H a=some (.lst xs)):SqL K H a xs:=.inl (.inl h)
theorem SqT.of {K:PySem.W.Frag}(h:H a=some (.tup xs)):SqT K H a xs:=.inl (.inl h)
theorem Inv.list (I:Inv X pins σ H s) (h:SqL X.K H a xs):∃ its:List Value,Vals xs its/\PlainL s.heap a its.toArray/\xs.length<=sizeLine:=by
 rcases h with h | ⟨o,its,n,hk,hc,hd,hs,hz,r⟩
 ·obtain⟨z,its,n,r,e⟩:=h.ok I.hok
  exact⟨its,r,⟨_,n,e,rfl,rfl,rfl⟩,z⟩
 ·refine⟨its.toList,r,⟨o,n,I.kIn a o hk,hc,hd,by simpa using hs⟩,?_⟩
  have e:=r.length
  simp only[Array.length_toList] at e
  omega
theorem Inv.tuple (I:Inv X pins σ H s) (h:SqT X.K H a xs):∃ its:List Value,Vals xs its/\IsTup s.heap a its.toArray/\xs.length<=sizeLine:=by
 rcases h with h | ⟨o,its,n,hk,hc,hs,hz,r⟩
 ·obtain⟨z,its,r,p⟩:=h.ok I.hok
  exact⟨its,r,p,z⟩
 ·refine⟨its.toList,r,⟨o,I.kIn a o hk,hc,n,by simpa using hs⟩,?_⟩
  have e:=r.length
  simp only[Array.length_toList] at e
  omega
theorem Inv.list_inj (I:Inv X pins σ H s) (h:SqL X.K H a xs) (h':SqL X.K H a ys):xs=ys:=by
 obtain⟨its,r,⟨o,n,e,_,_,d⟩,_⟩:=I.list h
 obtain⟨its',r',⟨o',n',e',_,_,d'⟩,_⟩:=I.list h'
 rw[e] at e';cases e'
 rw[d] at d'
 injection d' with d1 _
 have:its=its':=by simpa using congrArg Array.toList d1
 subst this
 exact r.inj r'
theorem Inv.tuple_inj (I:Inv X pins σ H s) (h:SqT X.K H a xs) (h':SqT X.K H a ys):xs=ys:=by
 obtain⟨its,r,⟨o,e,_,n,d⟩,_⟩:=I.tuple h
 obtain⟨its',r',⟨o',e',_,n',d'⟩,_⟩:=I.tuple h'
 rw[e] at e';cases e'
 rw[d] at d'
 injection d' with d1 _
 have:its=its':=by simpa using congrArg Array.toList d1
 subst this
 exact r.inj r'
end
abbrev Cx.wish (X:Cx) (E:Value->Shared->Prop):Cx:={ X with xe:=E }
abbrev Cx.nox (X:Cx):Cx:=X.wish λ_ _=>False
theorem Cx.Ok.wish {X:Cx}(ok:X.Ok) (E:Value->Shared->Prop):(X.wish E).Ok:=
 ⟨ok.mod,ok.kind,ok.glob,ok.blt,ok.above,ok.inj,ok.has,ok.cab,ok.hd,ok.frames,ok.stk,ok.exf,ok.bs,ok.bsz,ok.noex,ok.exfs,ok.funs,ok.frf⟩
theorem Cx.Ok.unwish {X:Cx}{E:Value->Shared->Prop}(ok:(X.wish E).Ok):X.Ok:=
 ⟨ok.mod,ok.kind,ok.glob,ok.blt,ok.above,ok.inj,ok.has,ok.cab,ok.hd,ok.frames,ok.stk,ok.exf,ok.bs,ok.bsz,ok.noex,ok.exfs,ok.funs,ok.frf⟩
section
variable {X:Cx}{pins:List (Addr×Obj)}{σ:St}{H:Hp}{s:Shared}{E:Value->Shared->Prop}
theorem Inv.wish (I:Inv X pins σ H s) (E:Value->Shared->Prop):Inv (X.wish E) pins σ H s:=⟨I.ok.wish E,I.os,I.bare,I.base,I.loc,I.cell,I.free,I.freeC,I.pin,I.hok,I.len⟩
theorem Inv.unwish (I:Inv (X.wish E) pins σ H s):Inv X pins σ H s:=⟨I.ok.unwish,I.os,I.bare,I.base,I.loc,I.cell,I.free,I.freeC,I.pin,I.hok,I.len⟩
theorem SP.unwish {D:Ends}{f:Flow}{s':Shared}(h:SP (X.wish E) pins D f s'):SP X pins D f s':=by
 cases f with
 | next=>obtain⟨σ',H',I,q⟩:=h;exact⟨σ',H',I.unwish,q⟩
 | brk=>obtain⟨σ',H',I,q⟩:=h;exact⟨σ',H',I.unwish,q⟩
 | cont=>obtain⟨σ',H',I,q⟩:=h;exact⟨σ',H',I.unwish,q⟩
 | ret u=>obtain⟨v,σ',H',I,r,q⟩:=h;exact⟨v,σ',H',I.unwish,r,q⟩
theorem PSs.nox {st:List Stmt}{t:TS}(h:PSs X.nox st t):PSs X st t:=λpins s σ H D I hw=>
 wpAny_mono (h pins s σ H D (I.wish _) hw) (λ_ _ q=>q.unwish) λ_ _ z=>False.elim z
end
section
variable {X:Cx}{st:Stmt}{rest:List Stmt}{t u:TS}{e:Expr}{te:TE}{pos:Pos}
def Mt:TS:=λD σ H=>D.nx σ H
def Jy (t u:TS):TS:=λD σ H=>t { D with nx:=u D } σ H
theorem xX:PSs X [] Mt:=λ_ _ σ H _ I h=>wpAny_execs_nil ⟨σ,H,I,h⟩
theorem gK (h1:PS X st t) (h2:PSs X rest u):PSs X (st::rest) (Jy t u):=by
 intro pins s σ H D I h
 refine wpAny_execs_cons (thn (h1 pins s σ H { D with nx:=u D } I h) λf s1 q=>?_)
 cases f with
 | next=>
  obtain⟨σ',H',I',q⟩:=q
  exact h2 pins s1 σ' H' D I' q
 | ret v=>exact q
 | brk=>exact q
 | cont=>exact q
theorem pI (h1:PS X st t):PSs X [st] t:=by
 intro pins s σ H D I h
 refine wpAny_execs_cons (thn (h1 pins s σ H D I h) λf s1 q=>?_)
 cases f with
 | next=>exact wpAny_execs_nil q
 | ret v=>exact q
 | brk=>exact q
 | cont=>exact q
theorem Inv.quiet {pins:List (Addr×Obj)}{σ:St}{H:Hp}{s:Shared}(I:Inv X pins σ H s):interactive X.env=false:=by simp[interactive,I.ok.kind]
def Mu (te:TE):TS:=λD σ H=>te σ H λ_ H1=>D.nx σ H1
theorem sE (he:PE X e te) (hs:swapsWith e none pos.line X.env=pure false:=by rfl):PS X (.Expr e pos) (Mu te):=by
 intro pins s σ H D I h
 exact wpAny_Expr_any (thn (he pins s σ H _ I h) λv s1 ⟨x,H1,I1,r1,q1⟩=>⟨σ,H1,I1,q1⟩) I.quiet hs
def Ol (te:TE):TS:=λD σ H=>te σ H D.rt
theorem Ai (he:PE X e te):PS X (.Return (some e) pos) (Ol te):=by
 intro pins s σ H D I h
 exact wpAny_Return_some (thn (he pins s σ H _ I h) λv s1 ⟨x,H1,I1,r1,q1⟩=>⟨x,σ,H1,I1,r1,q1⟩)
def Om (c:TT) (t u:TS):TS:=λD σ H=>c σ H λb H1=>if b=true then t D σ H1 else u D σ H1
theorem yI {c:Expr}{a b:List Stmt}{tc:TT}(hc:PT X c tc) (ha:PSs X a t) (hb:PSs X b u):PS X (.If c a b pos) (Om tc t u):=by
 intro pins s σ H D I h
 refine wpAny_If (thn (hc pins s σ H _ I h) ?_)
 rintro d s1 ⟨H1,I1,q1⟩
 cases d with
 | true=>exact ha pins s1 σ H1 D I1 q1
 | false=>exact hb pins s1 σ H1 D I1 q1
def Aj:TS:=λ_ _ _=>False
theorem Dj:PS X st Aj:=λ_ _ _ _ _ _ h=>h.elim
theorem oE {sts:List Stmt}:PSs X sts Aj:=λ_ _ _ _ _ _ h=>h.elim
end
abbrev TG:=V->St->Hp->(St->Hp->Prop)->Prop
abbrev TGs:=List V->St->Hp->(St->Hp->Prop)->Prop
def PG (X:Cx) (target:Expr) (t:TG):Prop:=
 ∀ (pins:List (Addr×Obj)) (s:Shared) (σ:St) (H:Hp) (v:V) (u:Value) (Q:St->Hp->Prop),Inv X pins σ H s->RelV v u->t v σ H Q->
  wpAny (model X.prog X.w) X.A (assign target X.env u) (λ_ s'=>∃ σ' H',Inv X pins σ' H' s'/\Q σ' H') X.xe s
def PGs (X:Cx) (ts:List Expr) (t:TGs):Prop:=
 ∀ (pins:List (Addr×Obj)) (s:Shared) (σ:St) (H:Hp) (vs:List V) (us:List Value) (Q:St->Hp->Prop),Inv X pins σ H s->Vals vs us->t vs σ H Q->
  wpAny (model X.prog X.w) X.A (assignInOrder ((assignEach ts X.env).map (·.2)) us) (λ_ s'=>∃ σ' H',Inv X pins σ' H' s'/\Q σ' H') X.xe s
section
variable {X:Cx}{pos:Pos}
def pJ (i:Nat):TG:=λv σ H Q=>Q (σ.set i (some v)) H
theorem dh {i:Nat}{x:Str}(hN:X.N.Nodup) (hi:X.N[i]?=some x) (hx:Loc X.env.scope x) (hf:X.fn x=true\/X.env.scope.names.lookup x=some .local:=by first | exact .inl rfl | exact .inr rfl | assumption):PG X (.Name x pos) (pJ i):=by
 intro pins s σ H v u Q I r h
 exact wpAny_assign_Name (qu I hN hi hx r (λs' I'=>⟨_,H,I',h⟩) hf)
def Jz:TGs:=λvs σ H Q=>vs=[]/\Q σ H
def Gk (t:TG) (u:TGs):TGs:=λvs σ H Q=>∃ v r,vs=v::r/\t v σ H fun σ' H'=>u r σ' H' Q
theorem xY:PGs X [] Jz:=by
 intro pins s σ H vs us Q I r h
 obtain⟨e,h⟩:=h
 subst e
 cases r
 exact assignInOrder_nil ⟨σ,H,I,h⟩
theorem qw {e:Expr}{es:List Expr}{t:TG}{u:TGs}(h1:PG X e t) (h2:PGs X es u)
  (hs:(assignEach (e::es) X.env).map (·.2)=assign e X.env::(assignEach es X.env).map (·.2):=by rfl):PGs X (e::es) (Gk t u):=by
 intro pins s σ H vs us Q I r h
 obtain⟨v,vr,e1,h⟩:=h
 subst e1
 cases r with
 | cons r rr=>
  rw[hs]
  refine assignInOrder_cons (thn (h1 pins s σ H _ _ _ I r h) ?_)
  rintro _ s1 ⟨σ1,H1,I1,q1⟩
  exact h2 pins s1 σ1 H1 _ _ Q I1 rr q1
def JB (K:PySem.W.Frag) (n:Nat) (t:TGs):TG:=λv σ H Q=>∃ a xs,v=.ref a/\SqT K H a xs/\xs.length=n/\t xs σ H Q
theorem Ak {es:List Expr}{k:Nat}{t:TGs}{n:Nat}(hc:X.calm=true) (h:PGs X es t)
  (hn:(assignEach es X.env).length=n:=by rfl) (hst:(assignEach es X.env).findIdx? (·.1)=none:=by rfl):PG X (.Tuple es k pos) (JB X.K n t):=by
 intro pins s σ H v u Q I r hw
 obtain⟨a,xs,e1,hq,hl,hw⟩:=hw
 subst e1
 cases r
 obtain⟨its,rv,ht,hz⟩:=I.tuple hq
 refine assign_Tuple_tuple (I.ok.hd hc) ht (by simp[hn,← hl,rv.length]) hst λh' hx=>?_
 have I1:Inv X pins σ H { s with heap:=h' }:=I.kept (t':=s.toks) λb o e=>hx b o (Nat.ne_of_lt (Heap.lt_size e)) e
 exact h pins _ σ H xs _ Q I1 (by simpa using rv) hw
def Dl (te:TE) (g:TG):TS:=λD σ H=>te σ H λx H1=>g x σ H1 D.nx
theorem JC {tg e:Expr}{te:TE}{g:TG}(he:PE X e te) (hg:PG X tg g) (hs:swapsWithSole [tg] e pos.line X.env=pure false:=by rfl) (hw:swappedStores [tg] e X.env=pure none:=by rfl)
  (h1:(assignEach [tg] X.env).map (·.2)=[assign tg X.env]:=by rfl):PS X (.Assign [tg] e pos) (Dl te g):=by
 intro pins s σ H D I h
 refine wpAny_Assign_stores (thn (he pins s σ H _ I h) ?_) hs hw
 rintro v s1 ⟨x,H1,I1,r1,q1⟩
 rw[h1]
 exact thn (hg pins s1 σ H1 x v _ I1 r1 q1) λ_ s2 q=>q
theorem qU {i:Nat}{x:Str}{e:Expr}{te:TE}{pos':Pos}(hN:X.N.Nodup) (hi:X.N[i]?=some x) (hx:Loc X.env.scope x) (he:PE X e te) (hs:swapsWith e (some (.Name x pos')) pos.line X.env=pure false:=by rfl) (hf:X.fn x=true\/X.env.scope.names.lookup x=some .local:=by first | exact .inl rfl | exact .inr rfl | assumption):
  PS X (.Assign [.Name x pos'] e pos) (Dl te (pJ i)):=by
 intro pins s σ H D I h
 refine wpAny_Assign_Name (thn (he pins s σ H _ I h) ?_) hs
 rintro v s1 ⟨y,H1,I1,r1,q1⟩
 exact qu I1 hN hi hx r1 (λs2 I2=>⟨_,H1,I2,q1⟩) hf
end
section
variable {X:Cx}{pos:Pos}
end
structure It where
 go:Nat->Hp->Prop
 yld:Nat->Hp->V->Hp->Prop
 stop:Nat->Hp->Prop
def j7 (X:Cx) (pins:List (Addr×Obj)) (H:Hp) (b:Addr):Prop:=
 H b=none/\b≠X.env.locals/\b∉X.fs/\(b∈X.ex\/X.s₀.heap.objs.size<=b)/\(∀ x c,X.env.cells.lookup x=some c->c≠b)/\∀ p∈X.pn++pins,p.1≠b
theorem Inv.fpOk {X:Cx}{pins:List (Addr×Obj)}{σ:St}{H H':Hp}{s:Shared}{b:Addr}(I:Inv X pins σ H s) (hb:s.heap.objs.size<=b) (hn:H' b=none):j7 X pins H' b:=by
 refine⟨hn,Nat.ne_of_gt (Nat.lt_of_lt_of_le I.lt hb),I.nofs hb,.inr (Nat.le_trans I.sz hb),λx c e z=>?_,λp hp z=>?_⟩
 ·obtain⟨v,q⟩:=I.cell x c e
  exact absurd (Nat.lt_of_lt_of_le q.lt (by rw[z];exact hb)) (Nat.lt_irrefl _)
 ·exact absurd (Nat.lt_of_lt_of_le (Heap.lt_size (I.pin p hp).1) (by rw[z];exact hb)) (Nat.lt_irrefl _)
structure Turn (P:Program) (w:World) (K:PySem.W.Frag) (tg:Expr) (J:It) (fp:List Addr) (it:Addr) (tn:Nat->Heap->Prop):Prop where
 mem:it∈fp
 obj:∀ i h,tn i h->∀ b∈fp,∃ o,h.get? b=some o/\∀ v,o.data≠.cell v
 keep:∀ i h h',tn i h->(∀ b∈fp,∀ o,h.get? b=some o->h'.get? b=some o)->tn i h'
 item:∀ (X:Cx),X.prog=P->X.w=w->X.K=K->X.calm=true->∀ (i:Nat) (pins:List (Addr×Obj)) (s:Shared) (σ:St) (H:Hp) (E:Value->Shared->Prop),Inv X pins σ H s->(∀ b∈fp,j7 X pins H b)->tn i s.heap->J.go i H->
  wpAny (model P w) X.A (pyNext (.ref it)) (λr s1=>∃ u,r=some u /\
   wpAny (model P w) X.A (letOwnedTupleGo tg (.ref it) u) (λ_ s2=>∃ x H',Inv X pins σ H' s2/\RelV x u/\J.yld i H x H'/\tn (i+1) s2.heap/\∀ b∈fp,H' b=none) E s1) E s
 done:∀ (X:Cx),X.prog=P->X.w=w->X.K=K->X.calm=true->∀ (i:Nat) (pins:List (Addr×Obj)) (s:Shared) (σ:St) (H:Hp) (E:Value->Shared->Prop),Inv X pins σ H s->(∀ b∈fp,j7 X pins H b)->tn i s.heap->J.stop i H->
  wpAny (model P w) X.A (pyNext (.ref it)) (λr s1=>r=none/\Inv X pins σ H s1) E s
 self:∀ (A:Around) (i:Nat) (s:Shared) (Q:Value->Shared->Prop) (E:Value->Shared->Prop),tn i s.heap->Q (.ref it) s->wpAny (model P w) A (pyIter (.ref it)) Q E s
abbrev TI:=St->Hp->(It->Hp->Prop)->Prop
def PIE (X:Cx) (pins:List (Addr×Obj)) (σ:St) (tg:Expr) (R:It->Hp->Prop) (itv:Value) (s2:Shared):Prop:=
 ∃ (it:Addr) (fp:List Addr) (tn:Nat->Heap->Prop) (J:It) (H':Hp),itv=.ref it/\Inv X pins σ H' s2/\Turn X.prog X.w X.K tg J fp it tn/\tn 0 s2.heap/\(∀ b∈fp,j7 X pins H' b)/\R J H'
def PI (X:Cx) (tg iter:Expr) (wi:TI):Prop:=
 ∀ (pins:List (Addr×Obj)) (s:Shared) (σ:St) (H:Hp) (R:It->Hp->Prop),Inv X pins σ H s->wi σ H R->
  wpAny (model X.prog X.w) X.A (eval iter X.env) (λv s1=>wpAny (model X.prog X.w) X.A (pyIter v) (PIE X pins σ tg R) X.xe s1) X.xe s
theorem uX {M:Model}{A:Around}{E:Value->Shared->Prop}{s:Shared}{tg:Expr}{it:Addr}{u:Value}{o:Obj}{n:String}{vs:Array Value}{Q:Unit->Shared->Prop}(ho:s.heap.get? it=some o) (hc:o.cls=.type n) (hd:o.data=.fields vs)
    (hn:["enumerate", "zip", "dict_itemiterator", "dict_reverseitemiterator", "odict_iterator", "itertools.zip_longest", "itertools.pairwise"].contains n=false) (hQ:Q () s):wpAny M A (letOwnedTupleGo tg (.ref it) u) Q E s:=by
  unfold letOwnedTupleGo
  cases tg <;> first
    | exact wpAny_pure hQ
    | (cases u <;> first
        | exact wpAny_pure hQ
        | (refine wpAny_bind (wpAny_load ho ?_)
           rw[hc,hd]
           show wpAny M A (if (["enumerate", "zip", "dict_itemiterator", "dict_reverseitemiterator", "odict_iterator", "itertools.zip_longest", "itertools.pairwise"].contains n&&vs[0]? == some (rawInt _))=true then _ else _) Q E s
           rw[if_neg (by intro h;rw[hn,Bool.false_and] at h;cases h)]
           exact wpAny_pure hQ))
def Itl (K:PySem.W.Frag) (a:Addr):It:=
 ⟨λi H=>∃ xs x,SqL K H a xs/\xs[i]?=some x,λi H x H'=>H'=H/\∀ xs,SqL K H a xs->xs[i]?=some x,λi H=>∃ xs,SqL K H a xs/\xs.length<=i⟩
def Itt (K:PySem.W.Frag) (a:Addr):It:=
 ⟨λi H=>∃ xs x,SqT K H a xs/\xs[i]?=some x,λi H x H'=>H'=H/\∀ xs,SqT K H a xs->xs[i]?=some x,λi H=>∃ xs,SqT K H a xs/\xs.length<=i⟩
def Itr (lo:Int) (n:Nat):It:=⟨λi _=>i < n,λi H x H'=>H'=H/\x=.int (lo+i),λi _=>n<=i⟩
theorem Al {P:Program}{w:World}{K:PySem.W.Frag}{tg:Expr}(a it:Addr):Turn P w K tg (Itl K a) [it] it (λi h=>h.IsListIter it a i) where
 mem:=by simp
 obj:=λi h st b hb=>by
  have e:b=it:=by simpa using hb
  subst e
  obtain⟨o,e,c,d⟩:=st
  exact⟨o,e,λv z=>by rw[d] at z;cases z⟩
 keep:=λi h h' st k=>st.at λo e=>k it (by simp) o e
 item:=by
  intro X hP hw hK hc i pins s σ H E I hf st hg
  subst hP hw hK
  obtain⟨xs,x,hq,hx⟩:=hg
  obtain⟨its,rv,p,hz⟩:=I.list hq
  obtain⟨u,hu,ru⟩:=rv.get hx
  obtain⟨f0,f1,f2,f3,f4,f5⟩:=hf it (by simp)
  refine wpAny_pyNext_list_item st p.isList (x:=u) (by simpa using hu) λh' st' sb=>?_
  have I1:Inv X pins σ H { s with heap:=h' }:=I.turned (t':=s.toks) (λb o hb e=>(sb.2 b hb).trans e) f0 f1 f3 f4 f5
  obtain⟨o,e,c,d⟩:=id st'
  exact⟨u,rfl,uX (s:={ s with heap:=h' }) e c d (by decide) ⟨x,H,I1,ru,⟨rfl,λys hy=>by rw[I.list_inj hy hq];exact hx⟩,st',λb hb=>(hf b hb).1⟩⟩
 done:=by
  intro X hP hw hK hc i pins s σ H E I hf st hg
  subst hP hw hK
  obtain⟨xs,hq,hx⟩:=hg
  obtain⟨its,rv,p,hz⟩:=I.list hq
  obtain⟨f0,f1,f2,f3,f4,f5⟩:=hf it (by simp)
  have hl:=rv.length
  exact wpAny_pyNext_list_end (I.ok.hd hc) st p.isList (by simp;omega) λh' eb=>⟨rfl,I.turned (t':=s.toks) (λb o hb e=>eb b o hb e) f0 f1 f3 f4 f5⟩
 self:=λ_ _ _ _ _ st h=>wpAny_pyIter_listiter st h
theorem yJ {P:Program}{w:World}{K:PySem.W.Frag}{tg:Expr}(a it:Addr):Turn P w K tg (Itt K a) [it] it (λi h=>h.IsTupleIter it a i) where
 mem:=by simp
 obj:=λi h st b hb=>by
  have e:b=it:=by simpa using hb
  subst e
  obtain⟨o,e,c,d⟩:=st
  exact⟨o,e,λv z=>by rw[d] at z;cases z⟩
 keep:=λi h h' st k=>st.at λo e=>k it (by simp) o e
 item:=by
  intro X hP hw hK hc i pins s σ H E I hf st hg
  subst hP hw hK
  obtain⟨xs,x,hq,hx⟩:=hg
  obtain⟨its,rv,p,hz⟩:=I.tuple hq
  obtain⟨u,hu,ru⟩:=rv.get hx
  obtain⟨f0,f1,f2,f3,f4,f5⟩:=hf it (by simp)
  refine wpAny_pyNext_tuple_item st (show s.heap.IsTuple a its.toArray from p) (x:=u) (by simpa using hu) λh' st' sb=>?_
  have I1:Inv X pins σ H { s with heap:=h' }:=I.turned (t':=s.toks) (λb o hb e=>(sb.2 b hb).trans e) f0 f1 f3 f4 f5
  obtain⟨o,e,c,d⟩:=id st'
  exact⟨u,rfl,uX (s:={ s with heap:=h' }) e c d (by decide) ⟨x,H,I1,ru,⟨rfl,λys hy=>by rw[I.tuple_inj hy hq];exact hx⟩,st',λb hb=>(hf b hb).1⟩⟩
 done:=by
  intro X hP hw hK hc i pins s σ H E I hf st hg
  subst hP hw hK
  obtain⟨xs,hq,hx⟩:=hg
  obtain⟨its,rv,p,hz⟩:=I.tuple hq
  obtain⟨f0,f1,f2,f3,f4,f5⟩:=hf it (by simp)
  have hl:=rv.length
  exact wpAny_pyNext_tuple_end (I.ok.hd hc) st (show s.heap.IsTuple a its.toArray from p) (by simp;omega) λh' eb=>⟨rfl,I.turned (t':=s.toks) (λb o hb e=>eb b o hb e) f0 f1 f3 f4 f5⟩
 self:=λ_ _ _ _ _ st h=>wpAny_pyIter_tupleiter st h
theorem yK {P:Program}{w:World}{K:PySem.W.Frag}{tg:Expr}(it:Addr) (lo:Int) (n:Nat):Turn P w K tg (Itr lo n) [it] it (λi h=>IsRangeIter h it (lo+(i:Nat)*1) ((n:Int) - (i:Nat)) 1) where
 mem:=by simp
 obj:=λi h st b hb=>by
  have e:b=it:=by simpa using hb
  subst e
  exact⟨_,st,λv z=>by
   have z':Data.fields _=Data.cell v:=z
   cases z'⟩
 keep:=λi h h' st k=>k it (by simp) _ st
 item:=by
  intro X hP hw hK hc i pins s σ H E I hf st hg
  subst hP hw hK
  obtain⟨f0,f1,f2,f3,f4,f5⟩:=hf it (by simp)
  have W:=Walks.range (prog:=X.prog) (w:=X.w) (I.ok.hd hc) it lo 1 n
  refine W.item i s _ _ hg st λv h' tk hv st' kk=>?_
  obtain⟨t,rfl⟩:=hv
  have I1:Inv X pins σ H { s with heap:=h',toks:=tk }:=I.turned (λb o hb e=>kk b o (by simpa using hb) e) f0 f1 f3 f4 f5
  refine⟨_,rfl,uX (s:={ s with heap:=h',toks:=tk }) (n := "range_iterator") st' rfl rfl (by decide) ⟨.int (lo+i),H,I1,⟨t,?_⟩,⟨rfl,rfl⟩,st',λb hb=>(hf b hb).1⟩⟩
  rw[Int.mul_one]
 done:=by
  intro X hP hw hK hc i pins s σ H E I hf st hg
  subst hP hw hK
  obtain⟨f0,f1,f2,f3,f4,f5⟩:=hf it (by simp)
  exact wpAny_pyNext_range_end (I.ok.hd hc) st (by have:n<=i:=hg;omega) λh' eb=>⟨rfl,I.turned (t':=s.toks) (λb o hb e=>eb b o hb e) f0 f1 f3 f4 f5⟩
 self:=λ_ _ _ _ _ st h=>wpAny_pyIter_rangeiter st h
end L2
namespace L2
open PySem PySem.Spec PyProof.Rows
section
variable {X:Cx}{tg:Expr}
def Mv (K:PySem.W.Frag) (tl:TE):TI:=fun σ H R=>tl σ H λx H1=>∃ a,x=.ref a/\(∃ xs,SqL K H1 a xs)/\R (Itl K a) H1
def Oo (K:PySem.W.Frag) (tl:TE):TI:=fun σ H R=>tl σ H λx H1=>∃ a,x=.ref a/\(∃ xs,SqT K H1 a xs)/\R (Itt K a) H1
theorem G8 {l:Expr}{tl:TE}(hl:PE X l tl):PI X tg l (Mv X.K tl):=by
 intro pins s σ H R I h
 refine thn (hl pins s σ H _ I h) ?_
 rintro v s1 ⟨x,H1,I1,r1,q1⟩
 obtain⟨a,e,⟨xs,hq⟩,q⟩:=q1
 subst e
 cases r1
 obtain⟨its,rv,p,hz⟩:=I1.list hq
 refine wpAny_pyIter_list p.isList ?_
 refine⟨s1.heap.objs.size,[s1.heap.objs.size],_,_,H1,rfl,I1.kept (t':=s1.toks) λb o e=>Heap.get?_push_of_some _ e,Al a _,⟨_,Heap.get?_push_size _ rfl,rfl,rfl⟩,λb hb=>?_,q⟩
 have e:b=s1.heap.objs.size:=by simpa using hb
 subst e
 exact I1.fpOk (Nat.le_refl _) (I1.hok.fresh (Nat.le_refl _))
theorem JD {l:Expr}{tl:TE}(hl:PE X l tl):PI X tg l (Oo X.K tl):=by
 intro pins s σ H R I h
 refine thn (hl pins s σ H _ I h) ?_
 rintro v s1 ⟨x,H1,I1,r1,q1⟩
 obtain⟨a,e,⟨xs,hq⟩,q⟩:=q1
 subst e
 cases r1
 obtain⟨its,rv,p,hz⟩:=I1.tuple hq
 refine wpAny_pyIter_tuple (show s1.heap.IsTuple a its.toArray from p) ?_
 refine⟨s1.heap.objs.size,[s1.heap.objs.size],_,_,H1,rfl,I1.kept (t':=s1.toks) λb o e=>Heap.get?_push_of_some _ e,yJ a _,⟨_,Heap.get?_push_size _ rfl,rfl,rfl⟩,λb hb=>?_,q⟩
 have e:b=s1.heap.objs.size:=by simpa using hb
 subst e
 exact I1.fpOk (Nat.le_refl _) (I1.hok.fresh (Nat.le_refl _))
theorem vo {pins:List (Addr×Obj)}{σ:St}{H:Hp}{s:Shared}{R:It->Hp->Prop}{E:Value->Shared->Prop}{lo hi:Int}{t u v:Tok}{tk:Nat}(I:Inv X pins σ H s) (h1:-(2 ^ 62)<=lo) (h2:lo < 2 ^ 62) (h3:-(2 ^ 62)<=hi) (h4:hi < 2 ^ 62)
  (q:R (Itr lo (hi - lo).toNat) H):wpAny (model X.prog X.w) X.A (pyIter (.ref s.heap.objs.size)) (PIE X pins σ tg R) E { s with heap:=s.heap.push { cls:=.type "range",data:=.fields #[.int lo t,.int hi u,.int 1 v] },toks:=tk }:=by
 refine wpAny_pyIter_range (IsRange.new ..) (small_one h1 h2 h3 h4) ?_
 have I1:Inv X pins σ H { s with heap:=s.heap.push { cls:=.type "range",data:=.fields #[.int lo t,.int hi u,.int 1 v] },toks:=tk }:=I.kept λb o e=>Heap.get?_push_of_some _ e
 refine⟨(s.heap.push { cls:=.type "range",data:=.fields #[.int lo t,.int hi u,.int 1 v] }).objs.size,[(s.heap.push { cls:=.type "range",data:=.fields #[.int lo t,.int hi u,.int 1 v] }).objs.size],_,_,H,rfl,
  I1.kept (t':=tk) λb o e=>Heap.get?_push_of_some _ e,yK _ lo (hi - lo).toNat,?_,λb hb=>?_,q⟩
 ·have e1:lo+((0:Nat):Int)*1=lo:=by simp
  have e2:(((hi - lo).toNat:Nat):Int) - ((0:Nat):Int)=Builtin.Range.rangeSize lo hi 1:=by rw[rangeSize_one];split <;> omega
  show IsRangeIter _ _ (lo+((0:Nat):Int)*1) ((((hi - lo).toNat:Nat):Int) - ((0:Nat):Int)) 1
  rw[e1,e2]
  exact Heap.get?_push_size _ rfl
 ·have e:b=(s.heap.push { cls:=.type "range",data:=.fields #[.int lo t,.int hi u,.int 1 v] }).objs.size:=by simpa using hb
  subst e
  exact I1.fpOk (Nat.le_refl _) (I1.hok.fresh (Nat.le_refl _))
def Mw (ta:TA):TI:=fun σ H R=>ta σ H λvs H1=>∃ j:Int,vs=[.int j]/\-(2 ^ 62)<=j/\j < 2 ^ 62/\R (Itr 0 j.toNat) H1
def Mx (ta:TA):TI:=fun σ H R=>ta σ H λvs H1=>∃ i j:Int,vs=[.int i,.int j]/\(-(2 ^ 62)<=i/\i < 2 ^ 62/\-(2 ^ 62)<=j/\j < 2 ^ 62)/\R (Itr i (j - i).toNat) H1
theorem Am {a:Expr}{ta:TA}{p pos:Pos}(hg:Gl X "range") (hm:X.mg "range" = none) (ha:PA X [a] ta) (hs:starEach [a] X.env=[(false,eval a X.env)]:=by rfl):PI X tg (.Call (.Name "range" p) [a] [] pos) (Mw ta):=by
 intro pins s σ H R I h
 refine Call_ (mF I hg hm boot_range (PyProof.Rows.callWith_type1 (thn (ha pos pins s σ H _ I h) ?_) hs rfl))
 rintro us s1 ⟨vs,H1,I1,r1,q1⟩
 obtain⟨j,e,q1,q2,q⟩:=q1
 subst e
 cases r1 with
 | cons r rr=>
  cases rr
  obtain⟨t,rfl⟩:=r
  exact call_range_1 (vo I1 (by omega) (by omega) q1 q2 (by simpa using q))
theorem An {a b:Expr}{ta:TA}{p pos:Pos}(hg:Gl X "range") (hm:X.mg "range" = none) (ha:PA X [a,b] ta) (hs:starEach [a,b] X.env=[(false,eval a X.env),(false,eval b X.env)]:=by rfl) (hs2:starEach [b] X.env=[(false,eval b X.env)]:=by rfl):
  PI X tg (.Call (.Name "range" p) [a,b] [] pos) (Mx ta):=by
 intro pins s σ H R I h
 refine Call_ (mF I hg hm boot_range (PyProof.Rows.callWith_type1 (thn (ha pos pins s σ H _ I h) λus s1 ⟨vs,H1,I1,r1,q1⟩=>?_) (by rw[hs,hs2]) (by rw[hs2];rfl)))
 obtain⟨i,j,e,⟨q1,q2,q3,q4⟩,q⟩:=q1
 subst e
 cases r1 with
 | cons r rr=>
  cases rr with
  | cons r' rr=>
   cases rr
   obtain⟨t,rfl⟩:=r
   obtain⟨t',rfl⟩:=r'
   exact call_range_2 (vo I1 q1 q2 q3 q4 q)
def Oq (wi:TI) (g:TG) (tb:TS):TS:=λD σ H=>wi σ H λJ H1=>∃ W:Nat->Nat->St->Hp->Prop,(∃ m,W 0 m σ H1)/\∀ i m σ H,W i m σ H->
 (J.stop i H/\D.nx σ H)\/(J.go i H/\∃ N:St->Hp->Prop,(∀ σ' H',N σ' H'->∃ m',m' < m/\W (i+1) m' σ' H')/\∀ x H',J.yld i H x H'->g x σ H' fun σ2 H2=>tb { D with nx:=N,ct:=N,bk:=D.nx } σ2 H2)
def oF (fp:List Addr) (h:Heap):List (Addr×Obj):=fp.filterMap λb=>(h.get? b).map λo=>(b,o)
theorem kh {fp:List Addr}{h:Heap}{b:Addr}{o:Obj}(hb:b∈fp) (e:h.get? b=some o):(b,o)∈oF fp h:=List.mem_filterMap.mpr ⟨b,hb,by rw[e];rfl⟩
theorem Ao {fp:List Addr}{h:Heap}{p:Addr×Obj}(hp:p∈oF fp h):p.1∈fp/\h.get? p.1=some p.2:=by
 obtain⟨b,hb,e⟩:=List.mem_filterMap.mp hp
 cases q:h.get? b with
 | none=>rw[q] at e;cases e
 | some o=>
  rw[q] at e
  have e':(b,o)=p:=Option.some.inj e
  subst e'
  exact⟨hb,q⟩
theorem Inv.pinned {pins:List (Addr×Obj)}{σ:St}{H:Hp}{s:Shared}{fp:List Addr}(I:Inv X pins σ H s) (hf:∀ b∈fp,j7 X pins H b) (ho:∀ b∈fp,∃ o,s.heap.get? b=some o/\∀ v,o.data≠.cell v):Inv X (pins++oF fp s.heap) σ H s:=
 I.pins_of λp hp=>(List.mem_append.mp hp).elim (λz=>I.pin p (List.mem_append_right _ z)) λz=>by
  obtain⟨hb,e⟩:=Ao z
  obtain⟨f0,f1,f2,_⟩:=hf p.1 hb
  obtain⟨o,e',d⟩:=ho p.1 hb
  rw[e] at e';cases e'
  exact⟨e,f0,f1,f2,d⟩
theorem Inv.unpinned {pins pl:List (Addr×Obj)}{σ:St}{H:Hp}{s:Shared}(I:Inv X (pins++pl) σ H s):Inv X pins σ H s:=I.pins_of λp hp=>I.pin p (List.mem_append_right _ (List.mem_append_left _ hp))
theorem vp {iter:Expr}{body:List Stmt}{wi:TI}{g:TG}{tb:TS}{pos:Pos}(hp:PassesOwn (model X.prog X.w) X.A X.env X.xe) (hc:X.calm=true) (hi:PI X tg iter wi) (hg:PG X tg g) (hb:PSs X body tb)
  (hs:∀ x,foldedSetIterable iter X.env x=pure x:=by intro _;rfl):PS X (.For tg iter body [] pos) (Oq wi g tb):=by
 intro pins s σ H D I h
 refine wpAny_For (thn (hi pins s σ H _ I h) λv s1 h1=>thn h1 λitv s2 h2=>?_) hs
 obtain⟨it,fp,tn,J,H2,e,I2,T,st2,f2,W,⟨m0,w0⟩,turn⟩:=h2
 subst e
 have stat:∀ {H':Hp},(∀ b∈fp,H' b=none)->∀ b∈fp,j7 X pins H' b:=λhn b hb=>⟨hn b hb,(f2 b hb).2⟩
 refine codeAny_forLoop_any (λn s'=>∃ i σ' H',Inv X pins σ' H' s'/\tn i s'.heap/\(∀ b∈fp,H' b=none)/\W i n σ' H') ?_ m0 ⟨0,σ,H2,I2,st2,λb hb=>(f2 b hb).1,w0⟩
 rintro n s3 ⟨i,σ3,H3,I3,st3,fr3,w3⟩
 rcases turn i n σ3 H3 w3 with ⟨stop,qn⟩ | ⟨go,N,hN,step⟩
 ·refine wpAny_passesOwn hp (thn (T.done X rfl rfl rfl hc i pins s3 σ3 H3 X.xe I3 (stat fr3) st3 stop) ?_)
  rintro r s4 ⟨hr,I4⟩
  subst hr
  exact wpAny_execs_nil ⟨σ3,H3,I4,qn⟩
 ·refine wpAny_passesOwn hp (thn (T.item X rfl rfl rfl hc i pins s3 σ3 H3 X.xe I3 (stat fr3) st3 go) ?_)
  rintro r s4 ⟨u,hr,h4⟩
  subst hr
  refine wpAny_passesOwn hp (thn h4 ?_)
  rintro _ s5 ⟨x,H5,I5,r5,y5,st5,fr5⟩
  have I5':=I5.pinned (stat fr5) (T.obj _ _ st5)
  refine wpAny_passesOwn hp (thn (hg _ s5 σ3 H5 x u _ I5' r5 (step x H5 y5)) ?_)
  rintro _ s6 ⟨σ6,H6,I6,q6⟩
  refine wpAny_passesOwn hp (thn (hb _ s6 σ6 H6 _ I6 q6) λf s7 q7=>?_)
  have again:∀ {σ7:St}{H7:Hp},Inv X (pins++oF fp s5.heap) σ7 H7 s7->N σ7 H7->∃ m,m < n/\∃ i σ' H',Inv X pins σ' H' s7/\tn i s7.heap/\(∀ b∈fp,H' b=none)/\W i m σ' H':=λ{σ7 H7} I7 n7=>by
   obtain⟨m',hm,w7⟩:=hN σ7 H7 n7
   refine⟨m',hm,i+1,σ7,H7,I7.unpinned,T.keep _ _ _ st5 λb hb o e=>(I7.pin (b,o) (List.mem_append_right _ (List.mem_append_right _ (kh hb e)))).1,λb hb=>?_,w7⟩
   obtain⟨o,e,d⟩:=T.obj _ _ st5 b hb
   exact(I7.pin (b,o) (List.mem_append_right _ (List.mem_append_right _ (kh hb e)))).2.1
  cases f with
  | next=>obtain⟨σ7,H7,I7,n7⟩:=q7;exact again I7 n7
  | cont=>obtain⟨σ7,H7,I7,n7⟩:=q7;exact again I7 n7
  | brk=>obtain⟨σ7,H7,I7,q7⟩:=q7;exact⟨σ7,H7,I7.unpinned,q7⟩
  | ret v=>obtain⟨x7,σ7,H7,I7,r7,q7⟩:=q7;exact⟨x7,σ7,H7,I7.unpinned,r7,q7⟩
end
end L2
namespace L2
open PySem PySem.Spec PyProof.Rows
abbrev R2:=V->V->Hp->VK->Prop
def OpR (X:Cx) (f:Value->Value->Sem Value) (r:R2):Prop:=
 ∀ (pins:List (Addr×Obj)) (s:Shared) (σ:St) (H:Hp) (x y:V) (v u:Value) (Q:VK),Inv X pins σ H s->RelV x v->RelV y u->r x y H Q->
  wpAny (model X.prog X.w) X.A (f v u) (EP X pins σ Q) X.xe s
def UnR (X:Cx) (f:Value->Sem Value) (r:V->Hp->VK->Prop):Prop:=
 ∀ (pins:List (Addr×Obj)) (s:Shared) (σ:St) (H:Hp) (x:V) (v:Value) (Q:VK),Inv X pins σ H s->RelV x v->r x H Q->
  wpAny (model X.prog X.w) X.A (f v) (EP X pins σ Q) X.xe s
def CallR (X:Cx) (f:Value) (r:List V->Hp->VK->Prop):Prop:=
 ∀ (pins:List (Addr×Obj)) (s:Shared) (σ:St) (H:Hp) (xs:List V) (us:List Value) (Q:VK),Inv X pins σ H s->Vals xs us->r xs H Q->
  wpAny (model X.prog X.w) X.A (call f us) (EP X pins σ Q) X.xe s
def tOp (r:R2) (ta tb:TE):TE:=fun σ H Q=>ta σ H λx H1=>tb σ H1 λy H2=>r x y H2 Q
def tUn (r:V->Hp->VK->Prop) (ta:TE):TE:=fun σ H Q=>ta σ H λx H1=>r x H1 Q
def rI (C:Int->Int->Prop) (g:Int->Int->V):R2:=λx y H Q=>∃ i j,x=.int i/\y=.int j/\C i j/\Q (g i j) H
def rI0 (g:Int->Int->V):R2:=λx y H Q=>∃ i j,x=.int i/\y=.int j/\Q (g i j) H
def rU (g:Int->V):V->Hp->VK->Prop:=λx H Q=>∃ i,x=.int i/\Q (g i) H
section
variable {X:Cx}{a b c:Expr}{ta tb tc:TE}{pos:Pos}
theorem Dm (ha:PE X a ta) (hb:PE X b tb){pins:List (Addr×Obj)}{s:Shared}{σ:St}{H:Hp}{R:V->V->Hp->Prop}(I:Inv X pins σ H s)
  (h:ta σ H λx H1=>tb σ H1 λy H2=>R x y H2){Q:Value->Shared->Prop}{f:Value->Value->Sem Value}
  (hf:∀ v u s2 x y H2,Inv X pins σ H2 s2->RelV x v->RelV y u->R x y H2->wpAny (model X.prog X.w) X.A (f v u) Q X.xe s2):
  wpAny (model X.prog X.w) X.A (eval a X.env) (λv s₁=>wpAny (model X.prog X.w) X.A (eval b X.env) (λu s₂=>wpAny (model X.prog X.w) X.A (f v u) Q X.xe s₂) X.xe s₁) X.xe s:=by
 refine thn (ha pins s σ H _ I h) ?_
 rintro v s1 ⟨x,H1,I1,r1,q1⟩
 refine thn (hb pins s1 σ H1 _ I1 q1) ?_
 rintro u s2 ⟨y,H2,I2,r2,q2⟩
 exact hf v u s2 x y H2 I2 r1 r2 q2
theorem Mz {op:Operator}{r:R2}(ho:OpR X (binaryOp op) r) (ha:PE X a ta) (hb:PE X b tb):PE X (.BinOp a op b pos) (tOp r ta tb):=by
 intro pins s σ H Q I h
 exact wpAny_BinOp (Dm ha hb I h λv u s2 x y H2 I2 rx ry q=>ho pins s2 σ H2 x y v u Q I2 rx ry q)
theorem MF {op:UnaryOp}{r:V->Hp->VK->Prop}(ho:UnR X (unaryOp op) r) (ha:PE X a ta):PE X (.UnaryOp op a pos) (tUn r ta):=by
 intro pins s σ H Q I h
 exact UnaryOp_ (thn (ha pins s σ H _ I h) λv s1 ⟨x,H1,I1,r1,q1⟩=>ho pins s1 σ H1 x v Q I1 r1 q1)
theorem opI {f:Value->Value->Sem Value}{C:Int->Int->Prop}{g:Int->Int->Int}
  (rule:∀ (i j:Int) (t u:Tok) (s:Shared) (Q:Value->Shared->Prop) (E:Value->Shared->Prop),C i j->Q (.int (g i j) s.toks) { s with toks:=s.toks+1 }->wpAny (model X.prog X.w) X.A (f (.int i t) (.int j u)) Q E s):
  OpR X f (rI C λi j=>.int (g i j)):=by
 intro pins s σ H x y v u Q I rx ry h
 obtain⟨i,j,rfl,rfl,hc,q⟩:=h
 obtain⟨t,rfl⟩:=rx
 obtain⟨t',rfl⟩:=ry
 exact rule i j t t' s _ _ hc ⟨.int (g i j),H,I.tok _,⟨_,rfl⟩,q⟩
theorem JF {f:Value->Value->Sem Value}{g:Int->Int->Int}
  (rule:∀ (i j:Int) (t u:Tok) (s:Shared) (Q:Value->Shared->Prop) (E:Value->Shared->Prop),Q (.int (g i j) s.toks) { s with toks:=s.toks+1 }->wpAny (model X.prog X.w) X.A (f (.int i t) (.int j u)) Q E s):
  OpR X f (rI0 λi j=>.int (g i j)):=by
 intro pins s σ H x y v u Q I rx ry h
 obtain⟨i,j,rfl,rfl,q⟩:=h
 obtain⟨t,rfl⟩:=rx
 obtain⟨t',rfl⟩:=ry
 exact rule i j t t' s _ _ ⟨.int (g i j),H,I.tok _,⟨_,rfl⟩,q⟩
theorem Dn {f:Value->Value->Sem Value}{g:Int->Int->Bool}
  (rule:∀ (i j:Int) (t u:Tok) (s:Shared) (Q:Value->Shared->Prop) (E:Value->Shared->Prop),Q (.bool (g i j)) s->wpAny (model X.prog X.w) X.A (f (.int i t) (.int j u)) Q E s):
  OpR X f (rI0 λi j=>.bl (g i j)):=by
 intro pins s σ H x y v u Q I rx ry h
 obtain⟨i,j,rfl,rfl,q⟩:=h
 obtain⟨t,rfl⟩:=rx
 obtain⟨t',rfl⟩:=ry
 exact rule i j t t' s _ _ ⟨.bl (g i j),H,I,rfl,q⟩
def JG (i j:Int):Prop:=0 < j/\j < 1073741824
theorem JH:OpR X (binaryOp .Add) (rI0 λi j=>.int (i+j)):=JF λ_ _ _ _ _ _ _ q=>add_int q
theorem JK:OpR X (binaryOp .Sub) (rI0 λi j=>.int (i - j)):=JF λ_ _ _ _ _ _ _ q=>sub_int q
theorem G9:OpR X (binaryOp .FloorDiv) (rI JG λi j=>.int (i / j)):=opI λi j _ _ _ _ _ hc q=>by
 have h1:(0:Int) < j:=hc.1
 have h2:j < 1073741824:=hc.2
 exact floordiv_int (by omega) (by rw[Int.fdiv_eq_ediv_of_nonneg i (by omega)];exact q) (.inl (PyProof.noPylong_small (by omega)))
theorem JL:OpR X (binaryOp .Mod) (rI (λ_ j=>0 < j) λi j=>.int (i % j)):=opI λi j _ _ _ _ _ hc q=>by
 have h1:(0:Int) < j:=hc
 exact mod_int' (by omega) (by rw[Int.fmod_eq_emod_of_nonneg i (by omega)];exact q)
theorem unI {f:Value->Sem Value}{g:Int->Int}
  (rule:∀ (i:Int) (t:Tok) (s:Shared) (Q:Value->Shared->Prop) (E:Value->Shared->Prop),Q (.int (g i) s.toks) { s with toks:=s.toks+1 }->wpAny (model X.prog X.w) X.A (f (.int i t)) Q E s):
  UnR X f (rU λi=>.int (g i)):=by
 intro pins s σ H x v Q I rx h
 obtain⟨i,rfl,q⟩:=h
 obtain⟨t,rfl⟩:=rx
 exact rule i t s _ _ ⟨.int (g i),H,I.tok _,⟨_,rfl⟩,q⟩
theorem JM:UnR X (unaryOp .USub) (rU λi=>.int (-i)):=unI λ_ _ _ _ _ q=>neg_int q
end
def Do:V->V->Bool
 | .non,.non=>true | .non,.int _=>true | .int _,.non=>true | .non,.bl _=>true | .bl _,.non=>true | .non,.str _=>true | .str _,.non=>true
 | .int _,.int _=>true | .bl _,.bl _=>true | .str _,.str _=>true | .byt _,.byt _=>true
 | .int _,.str _=>true | .str _,.int _=>true | .bl _,.str _=>true | .str _,.bl _=>true
 | _,_=>false
def rEq:R2:=λx y H Q=>Do x y=true/\Q (.bl (decide (x=y))) H
def rNe:R2:=λx y H Q=>Do x y=true/\Q (.bl (!decide (x=y))) H
theorem xZ {i j:Int}:decide (V.int i=V.int j)=(i == j):=by
 rw[Bool.eq_iff_iff]
 simp
theorem Aq {i j:Bool}:decide (V.bl i=V.bl j)=(i == j):=by
 rw[Bool.eq_iff_iff]
 simp
theorem x_ {i j:Str}:decide (V.str i=V.str j)=(i == j):=by
 rw[Bool.eq_iff_iff]
 simp
theorem yc {i j:Array UInt8}:decide (V.byt i=V.byt j)=(i.toList == j.toList):=by
 rw[Bool.eq_iff_iff]
 cases i
 cases j
 simp
section
variable {X:Cx}{a b c:Expr}{ta tb tc:TE}{pos:Pos}
theorem bJ {pins:List (Addr×Obj)}{σ:St}{H:Hp}{s:Shared}{Q:VK}{k k':Bool}(I:Inv X pins σ H s) (q:Q (.bl k) H) (e:k=k'):EP X pins σ Q (.bool k') s:=by
 subst e
 exact⟨.bl k,H,I,rfl,q⟩
theorem MJ:OpR X (compareOp .Eq) rEq:=by
 intro pins s σ H x y v u Q I rx ry h
 obtain⟨hs,q⟩:=h
 cases x with
 | non=>
  cases rx
  cases y with
  | non=>cases ry;exact PySem.EqNone.eq_none_none (bJ I q (by simp))
  | bl j=>cases ry;exact PySem.EqNone.eq_none_bool (bJ I q (by simp))
  | int j=>obtain⟨t',rfl⟩:=ry;exact PySem.EqNone.eq_none_int (bJ I q (by simp))
  | str j=>obtain⟨t',rfl⟩:=ry;exact PySem.EqNone.eq_none_str (bJ I q (by simp))
  | _=>exact absurd (show false=true from hs) Bool.false_ne_true
 | bl i=>
  cases rx
  cases y with
  | non=>cases ry;exact PySem.EqNone.eq_bool_none (bJ I q (by simp))
  | bl j=>cases ry;exact eq_bool (bJ I q Aq)
  | str j=>obtain⟨t',rfl⟩:=ry;exact PySem.EqMixed.eq_bool_str (bJ I q (by simp))
  | _=>exact absurd (show false=true from hs) Bool.false_ne_true
 | int i=>
  obtain⟨t,rfl⟩:=rx
  cases y with
  | non=>cases ry;exact PySem.EqNone.eq_int_none (bJ I q (by simp))
  | int j=>obtain⟨t',rfl⟩:=ry;exact eq_int (bJ I q xZ)
  | str j=>obtain⟨t',rfl⟩:=ry;exact PySem.EqMixed.eq_int_str (bJ I q (by simp))
  | _=>exact absurd (show false=true from hs) Bool.false_ne_true
 | str i=>
  obtain⟨t,rfl⟩:=rx
  cases y with
  | non=>cases ry;exact PySem.EqNone.eq_str_none (bJ I q (by simp))
  | bl j=>cases ry;exact PySem.EqMixed.eq_str_bool (bJ I q (by simp))
  | int j=>obtain⟨t',rfl⟩:=ry;exact PySem.EqMixed.eq_str_int (bJ I q (by simp))
  | str j=>obtain⟨t',rfl⟩:=ry;exact eq_str (bJ I q x_)
  | _=>exact absurd (show false=true from hs) Bool.false_ne_true
 | byt i=>
  obtain⟨t,rfl⟩:=rx
  cases y with
  | byt j=>obtain⟨t',rfl⟩:=ry;exact PySem.W.eq_bytes (bJ I q yc)
  | _=>exact absurd (show false=true from hs) Bool.false_ne_true
 | _=>cases y <;> exact absurd (show false=true from hs) Bool.false_ne_true
theorem MK:OpR X (compareOp .NotEq) rNe:=by
 intro pins s σ H x y v u Q I rx ry h
 obtain⟨hs,q⟩:=h
 cases x with
 | non=>
  cases rx
  cases y with
  | non=>cases ry;exact PySem.EqNone.ne_none_none (bJ I q (by simp))
  | bl j=>cases ry;exact PySem.EqNone.ne_none_bool (bJ I q (by simp))
  | int j=>obtain⟨t',rfl⟩:=ry;exact PySem.EqNone.ne_none_int (bJ I q (by simp))
  | str j=>obtain⟨t',rfl⟩:=ry;exact PySem.EqNone.ne_none_str (bJ I q (by simp))
  | _=>exact absurd (show false=true from hs) Bool.false_ne_true
 | bl i=>
  cases rx
  cases y with
  | non=>cases ry;exact PySem.EqNone.ne_bool_none (bJ I q (by simp))
  | bl j=>cases ry;exact ne_bool (bJ I q (congrArg not Aq))
  | str j=>obtain⟨t',rfl⟩:=ry;exact PySem.EqMixed.ne_bool_str (bJ I q (by simp))
  | _=>exact absurd (show false=true from hs) Bool.false_ne_true
 | int i=>
  obtain⟨t,rfl⟩:=rx
  cases y with
  | non=>cases ry;exact PySem.EqNone.ne_int_none (bJ I q (by simp))
  | int j=>obtain⟨t',rfl⟩:=ry;exact ne_int (bJ I q (congrArg not xZ))
  | str j=>obtain⟨t',rfl⟩:=ry;exact PySem.EqMixed.ne_int_str (bJ I q (by simp))
  | _=>exact absurd (show false=true from hs) Bool.false_ne_true
 | str i=>
  obtain⟨t,rfl⟩:=rx
  cases y with
  | non=>cases ry;exact PySem.EqNone.ne_str_none (bJ I q (by simp))
  | bl j=>cases ry;exact PySem.EqMixed.ne_str_bool (bJ I q (by simp))
  | int j=>obtain⟨t',rfl⟩:=ry;exact PySem.EqMixed.ne_str_int (bJ I q (by simp))
  | str j=>obtain⟨t',rfl⟩:=ry;exact ne_str (bJ I q (congrArg not x_))
  | _=>exact absurd (show false=true from hs) Bool.false_ne_true
 | byt i=>
  obtain⟨t,rfl⟩:=rx
  cases y with
  | byt j=>obtain⟨t',rfl⟩:=ry;exact PySem.W.ne_bytes (bJ I q (congrArg not yc))
  | _=>exact absurd (show false=true from hs) Bool.false_ne_true
 | _=>cases y <;> exact absurd (show false=true from hs) Bool.false_ne_true
theorem MP:OpR X (compareOp .Lt) (rI0 λi j=>.bl (decide (i < j))):=Dn λ_ _ _ _ _ _ _ q=>lt_int q
theorem Gm:OpR X (compareOp .LtE) (rI0 λi j=>.bl (decide (i<=j))):=Dn λ_ _ _ _ _ _ _ q=>le_int q
theorem M3:OpR X (compareOp .Gt) (rI0 λi j=>.bl (decide (j < i))):=Dn λ_ _ _ _ _ _ _ q=>gt_int q
theorem Ar:OpR X (compareOp .In) (λx y H Q=>∃ i j,x=.str i/\y=.str j/\Q (.bl (!(Builtin.Str.occurrences j i 0 j.length 1).isEmpty)) H):=by
 intro pins s σ H x y v u Q I rx ry h
 obtain⟨i,j,rfl,rfl,q⟩:=h
 obtain⟨t,rfl⟩:=rx
 obtain⟨t',rfl⟩:=ry
 exact in_str (bJ I q rfl)
theorem JN:OpR X (compareOp .Is) (λx y H Q=>y=.non/\Q (.bl (decide (x=.non))) H):=by
 intro pins s σ H x y v u Q I rx ry h
 obtain⟨rfl,q⟩:=h
 cases ry
 refine is_none_gen (bJ I q ?_)
 cases x <;> first
  | (cases rx;rfl)
  | (obtain⟨t,rfl⟩:=rx;rfl)
theorem G_:OpR X (compareOp .IsNot) (λx y H Q=>y=.non/\Q (.bl (!decide (x=.non))) H):=by
 intro pins s σ H x y v u Q I rx ry h
 obtain⟨rfl,q⟩:=h
 cases ry
 refine isnot_none_gen (bJ I q ?_)
 cases x <;> first
  | (cases rx;rfl)
  | (obtain⟨t,rfl⟩:=rx;rfl)
theorem OpR.or {f:Value->Value->Sem Value}{r r':R2}(h:OpR X f r) (h':OpR X f r'):OpR X f (λx y H Q=>r x y H Q\/r' x y H Q):=by
 intro pins s σ H x y v u Q I rx ry q
 rcases q with q | q
 ·exact h pins s σ H x y v u Q I rx ry q
 ·exact h' pins s σ H x y v u Q I rx ry q
theorem mG (b:Expr){op:CmpOp}(h:op≠.In:=by decide) (h2:op≠.NotIn:=by decide):behindInMarks op b=false:=by
 have e1:(op == CmpOp.In)=false:=by cases op <;> first | rfl | exact absurd rfl h
 have e2:(op == CmpOp.NotIn)=false:=by cases op <;> first | rfl | exact absurd rfl h2
 cases b <;> simp[behindInMarks,e1,e2]
theorem Ha {op:CmpOp}{r:R2}(ho:OpR X (compareOp op) r) (ha:PE X a ta) (hb:PE X b tb) (hm:behindInMarks op b=false):PE X (.Compare a [op] [b] pos) (tOp r ta tb):=by
 intro pins s σ H Q I h
 exact wpAny_Compare1 (Dm ha hb I h λv u s2 x y H2 I2 rx ry q=>ho pins s2 σ H2 x y v u Q I2 rx ry q) hm
def M4 (t:TE):TT:=fun σ H Q=>t σ H λx H'=>∃ k,x=.bl k/\Q k H'
theorem Hb {op:CmpOp}{r:R2}(ho:OpR X (compareOp op) r) (ha:PE X a ta) (hb:PE X b tb) (hm:behindInMarks op b=false):PT X (.Compare a [op] [b] pos) (M4 (tOp r ta tb)):=by
 intro pins s σ H Q I h
 refine wpAny_isTrue_Compare1 (thn (ha pins s σ H _ I h) λv s1 ⟨x,H1,I1,r1,q1⟩=>thn (hb pins s1 σ H1 _ I1 q1) λu s2 ⟨y,H2,I2,r2,q2⟩=>
  thn (ho pins s2 σ H2 x y v u _ I2 r1 r2 q2) λc s3 ⟨z,H3,I3,r3,k,e,q3⟩=>?_) hm
 subst e
 cases r3
 exact wpAny_truthy_bool ⟨H3,I3,q3⟩
def JP (r r':R2) (ta tb tc:TE):TE:=fun σ H Q=>ta σ H λx H1=>tb σ H1 λy H2=>r x y H2 λz H3=>∃ k,z=.bl k /\
 (if k=true then tc σ H3 λw' H4=>r' y w' H4 Q else Q (.bl false) H3)
theorem Dp {op op':CmpOp}{r r':R2}(ho:OpR X (compareOp op) r) (ho':OpR X (compareOp op') r') (ha:PE X a ta) (hb:PE X b tb) (hc:PE X c tc)
  (hm:lastMarks [op,op'] [b,c]=false:=by with_unfolding_all rfl):PE X (.Compare a [op,op'] [b,c] pos) (JP r r' ta tb tc):=by
 intro pins s σ H Q I h
 refine Compare_chain (thn (ha pins s σ H _ I h) λv s1 ⟨x,H1,I1,r1,q1⟩=>chain_link (thn (hb pins s1 σ H1 _ I1 q1) λu s2 ⟨y,H2,I2,r2,q2⟩=>
  thn (ho pins s2 σ H2 x y v u _ I2 r1 r2 q2) λd s3 ⟨z,H3,I3,r3,k,e,q3⟩=>?_)) hm
 subst e
 cases r3
 refine wpAny_truthy_bool ?_
 cases k with
 | false=>exact ite_ff ⟨.bl false,H3,I3,rfl,q3⟩
 | true=>exact ite_tt (chain_last (thn (hc pins s3 σ H3 _ I3 q3) λw' s4 ⟨z',H4,I4,r4,q4⟩=>ho' pins s4 σ H4 y z' u w' Q I4 r2 r4 q4))
theorem oG:(sizeLine:Nat) < 2 ^ 63:=by rw[sizeLine_eq];decide
theorem yL:OpR X (binaryOp .Add) (λx y H Q=>∃ i j,x=.str i/\y=.str j/\i.length+j.length<=sizeLine/\Q (.str (i++j)) H):=by
 intro pins s σ H x y v u Q I rx ry h
 obtain⟨i,j,rfl,rfl,hz,q⟩:=h
 obtain⟨t,rfl⟩:=rx
 obtain⟨t',rfl⟩:=ry
 exact add_str (λt' tk=>⟨.str (i++j),H,I.tok _,⟨_,rfl⟩,q⟩) hz
theorem vals1 {x:V}{us:List Value}(r:Vals [x] us):∃ u,us=[u]/\RelV x u:=by
 cases r with
 | cons r1 r2=>cases r2;exact⟨_,rfl,r1⟩
theorem vals2 {x y:V}{us:List Value}(r:Vals [x,y] us):∃ u w',us=[u,w']/\RelV x u/\RelV y w':=by
 cases r with
 | cons r1 r2=>
  cases r2 with
  | cons r3 r4=>cases r4;exact⟨_,_,rfl,r1,r3⟩
theorem Av (hc:X.calm=true):CallR X (.builtin "max") (λxs H Q=>∃ i j,xs=[.int i,.int j]/\Q (.int (if j > i then j else i)) H):=by
 intro pins s σ H xs us Q I r h
 obtain⟨i,j,rfl,q⟩:=h
 obtain⟨u,w',rfl,⟨t,rfl⟩,⟨t',rfl⟩⟩:=vals2 r
 refine max_two_ints (I.ok.hd hc) λh' tk k=>⟨_,H,I.kept k,?_,q⟩
 by_cases hj:j > i
 ·rw[if_pos hj,if_pos hj];exact⟨_,rfl⟩
 ·rw[if_neg hj,if_neg hj];exact⟨_,rfl⟩
theorem uq:CallR X (.type "int") (λxs H Q=>(∃ i,xs=[.int i]/\Q (.int i) H)\/∃ k,xs=[.bl k]/\Q (.int (if k then 1 else 0)) H):=by
 intro pins s σ H xs us Q I r h
 rcases h with ⟨i,rfl,q⟩ | ⟨k,rfl,q⟩
 ·obtain⟨u,rfl,t,rfl⟩:=vals1 r
  exact call_int_int ⟨.int i,H,I,⟨_,rfl⟩,q⟩
 ·obtain⟨u,rfl,r1⟩:=vals1 r
  cases r1
  exact call_int_bool ⟨.int (if k then 1 else 0),H,I.tok _,⟨_,rfl⟩,q⟩
theorem vq:CallR X (.type "str") (λxs H Q=>∃ i,xs=[.int i]/\i.natAbs.log2 < 1920/\Q (.str (toString i)) H):=by
 intro pins s σ H xs us Q I r h
 obtain⟨i,rfl,hz,q⟩:=h
 obtain⟨u,rfl,t,rfl⟩:=vals1 r
 exact PySem.P.str_of_int hz ⟨.str _,H,I.tok _,⟨_,rfl⟩,q⟩
end
end L2
namespace L2
open PySem PySem.Spec PyProof.Rows
section
variable {prog:Program}{w:World}{A:Around}{E:Value->Shared->Prop}{s:Shared}{K:PySem.W.Frag}{x dx C f:Addr}{mA:Str->Option Value}{name:Str}{v:Value}
end
theorem RelO.some_of {v:V}{o:Option Value}(r:RelO (some v) o):∃ u,o=some u/\RelV v u:=by
 cases o with
 | none=>exact(show False from r).elim
 | some u=>exact⟨u,rfl,r⟩
section
variable {P:Program}{w:World}{H H':Hp}{h h':Heap}{a C dx:Addr}{fs fs':List (Str×V)}
end
structure Cls (K:PySem.W.Frag) (C:Addr):Prop where
 pg:PySem.W.plainGet K C Str.empty=true
 hd:PySem.W.hasDictIn K C=true
 po:PySem.W.plainOver K C=true
 sa:PySem.W.findIn K (.ref C) "__setattr__" = some (some (.builtin "object.__setattr__"))
section
variable {X:Cx}{pins:List (Addr×Obj)}{σ:St}{H:Hp}{s:Shared}{a C dx:Addr}{fs:List (Str×V)}{f:Str}{v:V}{A:Around}{E:Value->Shared->Prop}
theorem Hc {prog:Program}{w:World}{env:Env}{e:Expr}{f:Str}{pos:Pos}{s:Shared}{Q:Value->Shared->Prop}(hb:attributeBase e f env (eval e env)=eval e env)
  (h:wpAny (model prog w) A (eval e env) (λo s₁=>wpAny (model prog w) A (getAttr o f true) Q E s₁) E s):wpAny (model prog w) A (eval (.Attribute e f pos) env) Q E s:=
 Attribute_any_ h (by rw[arm_eval_Attribute,hb])
end
section
variable {X:Cx}{o e value:Expr}{f:Str}{pos pos' tpos:Pos}{ta tv:TE}
end
section
variable {X:Cx}{pins:List (Addr×Obj)}{σ:St}{H:Hp}{s:Shared}{A:Around}{E:Value->Shared->Prop}{Q:Value->Shared->Prop}{c:Value}{b:Bool}
inductive TyOf (K:PySem.W.Frag) (H:Hp):V->Value->Prop where
 | non:TyOf K H .non (.type "NoneType")
 | bl (x:Bool):TyOf K H (.bl x) (.type "bool")
 | int (i:Int):TyOf K H (.int i) (.type "int")
 | str (x:Str):TyOf K H (.str x) (.type "str")
 | flt (x:UInt64):TyOf K H (.flt x) (.type "float")
 | lst {a:Addr}{xs:List V}(e:H a=some (.lst xs)):TyOf K H (.ref a) (.type "list")
 | frz {a:Addr}{o:Obj}{xs:List V}(e:H a=some (.frz o (.lst xs))):TyOf K H (.ref a) (.type "list")
 | tup {a:Addr}{xs:List V}(e:H a=some (.tup xs)):TyOf K H (.ref a) (.type "tuple")
 | tupC {a:Addr}{xs:List V}(e:KTup K a xs):TyOf K H (.ref a) (.type "tuple")
 | dK {a:Addr}{kvs:List (Key×V)}(e:H a=some (.dK kvs)):TyOf K H (.ref a) (.type "dict")
 | dT {a:Addr}{kvs:List (List Key×V)}(e:H a=some (.dT kvs)):TyOf K H (.ref a) (.type "dict")
 | ins {a C dx:Addr}{fs:List (Str×V)}(e:H a=some (.ins C dx fs)) (cl:Cls K C) (ha:PySem.W.findIn K (.ref C) "__class__" = some (some (.builtin "object.__class__")))
   (hn:PySem.W.specialIn K (.builtin "object.__class__") "__get__" = some (some (.builtin "getset_descriptor.__get__"))) (htk:PySem.W.takesIn K (.builtin "object.__class__")=some true)
   (hm:PySem.W.mroIn K C (.type "object")=some true):TyOf K H (.ref a) (.ref C)
end
end L2
namespace L2
open PySem PySem.Spec PyProof.Rows
structure Room (k:Nat) (A:Around):Prop where
 hd:A.handled=none
 dp:A.depth+3*k+5 < recursionLimit
 un:A.units+16*k+200 < cLine
theorem Room.mono {j k:Nat}{A:Around}(r:Room k A) (h:j<=k):Room j A:=⟨r.hd,by have:=r.dp;omega,by have:=r.un;omega⟩
theorem Room.deeper {k:Nat}{A:Around}(r:Room (k+1) A) (env:Env):Room k (A.deeper env):=
 ⟨r.hd,by have:=r.dp;show A.depth+1+3*k+5 < _;omega,by have:=r.un;show A.units+3+16*k+200 < _;omega⟩
theorem yM {A:Around}{C:Addr}{us:List Value}{kw:List (Str×Value)}:(A.under (.builtin "type.__call__" ⟨.ref C::us,kw⟩)).depth=A.depth+1:=by
 first | rfl | simp[Around.under,Code.weight,Code.isCreation,Code.isGuard,Code.isCaller,Code.frames,Code.isFrame,guardIds]
theorem yN {A:Around}{C:Addr}{us:List Value}{kw:List (Str×Value)}:(A.under (.builtin "type.__call__" ⟨.ref C::us,kw⟩)).units=A.units+1:=by
 first | rfl | simp[Around.under,Code.cUnits,Code.frames,Code.isFrame]
theorem Room.make {k:Nat}{A:Around}(r:Room (k+1) A) (C:Addr) (us:List Value) (kw:List (Str×Value)):Room k (A.under (.builtin "type.__call__" ⟨.ref C::us,kw⟩)):=
 ⟨r.hd,by have:=r.dp;rw[yM];omega,by have:=r.un;rw[yN];omega⟩
theorem Room.depth {k:Nat}{A:Around}(r:Room k A):A.depth < recursionLimit:=by have:=r.dp;omega
theorem Room.units {k:Nat}{A:Around}(r:Room k A):A.units+64 < cLine:=by have:=r.un;omega
theorem Room.units0 {k:Nat}{A:Around}(r:Room k A):A.units < cLine:=by have:=r.un;omega
def Dq:TA:=λ_ H Q=>Q [] H
def Gn (ta:TE) (tr:TA):TA:=fun σ H Q=>ta σ H λx H1=>tr σ H1 λxs H2=>Q (x::xs) H2
section
variable {X:Cx}{e:Expr}{es:List Expr}{te:TE}{t:TA}{pos:Pos}
theorem dR:PA X [] Dq:=λ_ _ _ _ H Q I h=>Calls.spliced_nil ⟨[],H,I,.nil,h⟩
theorem b7 (ha:PE X e te) (hr:PA X es t) (hs:starEach (e::es) X.env=(false,eval e X.env)::starEach es X.env:=by rfl):PA X (e::es) (Gn te t):=by
 intro pos pins s σ H Q I h
 rw[hs]
 show wpAny _ _ (spliced ((false,eval e X.env)::backTo pos (starEach es X.env))) _ _ s
 refine Calls.spliced_cons (thn (ha pins s σ H _ I h) ?_)
 rintro u s1 ⟨x,H1,I1,r1,q1⟩
 exact thn (hr pos pins s1 σ H1 _ I1 q1) λus s2 ⟨xs,H2,I2,r2,q2⟩=>⟨x::xs,H2,I2,.cons r1 r2,q2⟩
def Ot (t:TA):TE:=fun σ H Q=>t σ H λxs H1=>xs.length<=sizeLine/\∀ p,H1 p=none->Q (.ref p) (upd H1 p (.tup xs))
def JQ (t:TA):TE:=fun σ H Q=>t σ H λxs H1=>xs.length<=sizeLine/\∀ p,H1 p=none->Q (.ref p) (upd H1 p (.lst xs))
theorem JR {x1}(h:PA X es t):PE X (.Tuple es x1 pos) (Ot t):=by
 intro pins s σ H Q I hq
 refine wpAny_Tuple_spliced (thn (h pos pins s σ H _ I hq) λus s1 ⟨xs,H1,I1,r,z,q⟩=>⟨by rw[← r.length];exact z,?_⟩)
 have hf:H1 s1.heap.objs.size=none:=I1.hok.fresh (Nat.le_refl _)
 refine⟨.ref s1.heap.objs.size,upd H1 s1.heap.objs.size (.tup xs),I1.laid (t':=s1.toks) (λb u e=>Heap.get?_push_of_some _ e) (Nat.le_refl _) ?_,rfl,q _ hf⟩
 exact⟨z,us,r,⟨_,Heap.get?_push_size _ rfl,rfl,_,rfl⟩⟩
theorem vy (h:PA X es t):PE X (.List es pos) (JQ t):=by
 intro pins s σ H Q I hq
 refine wpAny_List_spliced (thn (h pos pins s σ H _ I hq) λus s1 ⟨xs,H1,I1,r,z,q⟩=>⟨by rw[← r.length];exact z,?_⟩)
 have hf:H1 s1.heap.objs.size=none:=I1.hok.fresh (Nat.le_refl _)
 refine⟨.ref s1.heap.objs.size,upd H1 s1.heap.objs.size (.lst xs),I1.laid (t':=s1.toks) (λb u e=>Heap.get?_push_of_some _ e) (Nat.le_refl _) ?_,rfl,q _ hf⟩
 exact⟨z,us,0,r,Heap.get?_push_size _ rfl⟩
end
abbrev Sp:=List V->Hp->VK->XK->Prop
abbrev CXT:=List Env->Hp->Shared->XK->Value->Shared->Prop
structure Env0 (P:Program) (w:World) (K:PySem.W.Frag) (mg:Str->Option Value) (base:Heap) (A:Around) (outer:List Env) (s:Shared) (H:Hp):Prop where
 frames:A.frames=some outer
 mod:Mod K mg base
 bs:∀ b o,base.get? b=some o->s.heap.get? b=some o/\H b=none
 bsz:base.objs.size<=s.heap.objs.size
 funs:s.heap.FunFrames base outer
 frf:∀ b∈frs outer,H b=none
 hok:HOk P w K H s.heap
 bare:AllBare s.gens
def CE (outer:List Env) (P:Program) (w:World) (K:PySem.W.Frag) (H:Hp) (s:Shared) (Q:VK) (u:Value) (s':Shared):Prop:=
 ∃ v H',s'.os=s.os/\AllBare s'.gens/\Un (frs outer) [] H H' s.heap s'.heap/\HOk P w K H' s'.heap/\RelV v u/\Q v H'
def CR (CX:CXT) (outer:List Env) (P:Program) (w:World) (K:PySem.W.Frag) (H:Hp) (s:Shared) (Q:VK) (E:XK) (r:Result) (s':Shared):Prop:=
 match r with
 | .ok (.ret u)=>CE outer P w K H s Q u s'
 | .ok _=>False
 | .error e=>CX outer H s E e s'
structure FnOk (P:Program) (w:World) (K:PySem.W.Frag) (mg:Str->Option Value) (base:Heap) (CX:CXT) (k:Nat) (f:Addr) (fd:FuncData) (ps:List Str) (sp:Sp):Prop where
 len:∀ vs H Q E,sp vs H Q E->vs.length=ps.length
 run:∀ (A:Around) (outer:List Env) (s:Shared) (H:Hp) (args:Args) (us:List Value) (vs:List V) (Q:VK) (E:XK),Room k A->Env0 P w K mg base A outer s H->BindsTo s fd args (ps.zip us)->Vals vs us->sp vs H Q E->
  codeAny (model P w) A (.call (.ref f) args) (CR CX outer P w K H s Q E) s
theorem FnOk.imp {P:Program}{w:World}{K:PySem.W.Frag}{mg:Str->Option Value}{base:Heap}{CX:CXT}{k:Nat}{f:Addr}{fd:FuncData}{ps:List Str}{sp sp':Sp}(F:FnOk P w K mg base CX k f fd ps sp)
  (h:∀ vs H Q E,sp' vs H Q E->sp vs H Q E):FnOk P w K mg base CX k f fd ps sp':=
 ⟨λvs H Q E q=>F.len vs H Q E (h _ _ _ _ q),λA outer s H args us vs Q E hr he hb hv hs=>F.run A outer s H args us vs Q E hr he hb hv (h _ _ _ _ hs)⟩
theorem Env0.make {P:Program}{w:World}{K:PySem.W.Frag}{mg:Str->Option Value}{base:Heap}{A:Around}{outer:List Env}{s:Shared}{H:Hp}(e:Env0 P w K mg base A outer s H) (C:Addr) (us:List Value) (kw:List (Str×Value)):
  Env0 P w K mg base (A.under (.builtin "type.__call__" ⟨.ref C::us,kw⟩)) outer s H:=⟨by first | exact e.frames | (simpa [Around.under,Code.envs,Code.isFrame,pushEnvs] using e.frames),e.mod,e.bs,e.bsz,e.funs,e.frf,e.hok,e.bare⟩
section
variable {X:Cx}{pins:List (Addr×Obj)}{σ:St}{H:Hp}{s s':Shared}
theorem Inv.env0 (I:Inv X pins σ H s):Env0 X.prog X.w X.K X.mg X.base X.A X.stack s H:=
 ⟨I.ok.frames,I.ok.mod,I.bs,Nat.le_trans I.ok.bsz I.sz,I.stack,I.stkFree,I.hok,I.bare⟩
theorem Inv.after {Q:VK}{u:Value}(I:Inv X pins σ H s) (h:CE X.stack X.prog X.w X.K H s Q u s'):EP X pins σ Q u s':=by
 obtain⟨v,H',os,bare,un,hok,r,q⟩:=h
 obtain⟨hh,g,d,t,os'⟩:=s'
 obtain rfl:os'=s.os:=os
 exact⟨v,H',I.call (h':=hh) (g':=g) (d':=d) (t':=t) (ch:=[]) un hok bare (λb z=>absurd z (by simp)),r,q⟩
end
def Gp (sp:Sp) (dvs:List V) (E:XK) (t:TA):TE:=fun σ H Q=>t σ H λvs H1=>sp (vs++dvs) H1 Q E
def Binds (K:PySem.W.Frag) (fd:FuncData) (ps:List Str) (ds:List Value):Prop:=
 ∀ (s:Shared) (us:List Value),K.In s.heap->(us++ds).length=ps.length->BindsTo s fd ⟨us,[]⟩ (ps.zip (us++ds))
theorem Binds.all {K:PySem.W.Frag}{fd:FuncData}{ps:List Str}(h:∀ us:List Value,us.length=ps.length->bindArgs fd ⟨us,[]⟩=pure (ps.zip us)):Binds K fd ps []:=λs us _ hl=>by
 rw[List.append_nil] at hl ⊢
 exact .of_eq (h us hl)
def vz (CX:CXT) (X:Cx) (E:XK):Prop:=∀ (pins:List (Addr×Obj)) (σ:St) (H:Hp) (s:Shared) (e:Value) (s':Shared),Inv X pins σ H s->CX X.stack H s E e s'->X.xe e s'
section
variable {X:Cx}{CX:CXT}{k:Nat}{f C:Addr}{fd:FuncData}{ps:List Str}{sp:Sp}{dvs:List V}{ds:List Value}{E:XK}{x m:Str}{p pos apos:Pos}{e o:Expr}{es:List Expr}{ta:TE}{t:TA}
theorem JS {pins:List (Addr×Obj)}{σ:St}{H:Hp}{s:Shared}{Q:VK}{us:List Value}{vs:List V}(F:FnOk X.prog X.w X.K X.mg X.base CX k f fd ps sp) (hr:Room k X.A) (hb:Binds X.K fd ps ds) (hd:Vals dvs ds) (hx:vz CX X E)
  (I:Inv X pins σ H s) (r:Vals vs us) (h:sp (vs++dvs) H Q E):wpAny (model X.prog X.w) X.A (call (.ref f) us) (EP X pins σ Q) X.xe s:=by
 have r2:Vals (vs++dvs) (us++ds):=r.append hd
 have hl:(us++ds).length=ps.length:=by rw[← r2.length];exact F.len _ _ _ _ h
 refine wpAny_call (codeAny_mono (F.run X.A X.stack s H ⟨us,[]⟩ (us++ds) (vs++dvs) Q E hr I.env0 (hb s us I.kIn hl) r2 h) λr s' hq=>?_)
 cases r with
 | error e=>exact hx pins σ H s e s' I hq
 | ok fl=>
  cases fl with
  | ret u=>exact I.after hq
  | next=>exact False.elim hq
  | brk=>exact False.elim hq
  | cont=>exact False.elim hq
theorem Hd (F:FnOk X.prog X.w X.K X.mg X.base CX k f fd ps sp) (hr:Room k X.A) (hg:Gl X x) (hm:X.mg x=some (.ref f)) (hk:PySem.W.keepIn X.K (.ref f)=true) (hb:Binds X.K fd ps ds) (hd:Vals dvs ds) (hx:vz CX X E)
  (ha:PA X (e::es) t) (hdb:(x == ("__debug__" : Str))=false:=by decide) (he:starEach (e::es) X.env=(false,eval e X.env)::starEach es X.env:=by rfl) (hpl:(backTo pos (starEach es X.env)).any (·.1)=false:=by rfl):
  PE X (.Call (.Name x p) (e::es) [] pos) (Gp sp dvs E t):=by
 intro pins s σ H Q I h
 refine wpAny_Call_Name_kw (kO I hg hm ?_ hdb)
 refine PySem.W.callWith_K (h₀:=X.base) I.ok.mod.kin hk (thn (ha pos pins s σ H _ I h) λus s1 ⟨vs,H1,I1,r,q⟩=>⟨I1.kIn,?_⟩) he hpl
 exact JS F hr hb hd hx I1 r q
end
section
variable {X:Cx}{CX:CXT}{k:Nat}{f C:Addr}{fd:FuncData}{ps ks:List Str}{sp:Sp}{E:XK}{x m:Str}{p pos apos kpos:Pos}{e o:Expr}{es:List Expr}{kws:List Keyword}{te ta:TE}{t tk:TA}{nm:Option Str}
variable {g:List Value->List Value->List Value}{gV:List V->List V->List V}
end
structure FnScope (N P:List Str) (sc:Scope):Prop where
 kind:sc.kind=.function
 co:sc.isCoroutine=false
 gen:sc.isGenerator=false
 nd:N.Nodup
 pre:N.take P.length=P
 par:∀ x∈P,sc.names.lookup x=some .local\/sc.names.lookup x=some .cell
 nofree:∀ y∈sc.names,y.2≠.free
theorem ur {kindOf:Str->Option NameKind}{x:Str}:∀ {binds:List (Str×Value)}{m:Str->Option Value},(∀ v,(x,v)∉binds)->bindL kindOf binds m x=m x
 | [],_,_=>rfl
 | (n,v)::r,m,h=>by
  unfold bindL
  rw[ur λw hw=>h w (List.mem_cons_of_mem _ hw)]
  split
  ·have:x≠n:=by rintro rfl;exact h v List.mem_cons_self
   simp[this]
  ·rfl
theorem ut {kindOf:Str->Option NameKind}{x:Str}:∀ {binds:List (Str×Value)}{m:Str->Option Value},(∀ v,(x,v)∉binds)->bindC kindOf binds m x=m x
 | [],_,_=>rfl
 | (n,v)::r,m,h=>by
  unfold bindC
  rw[ut λw hw=>h w (List.mem_cons_of_mem _ hw)]
  split
  ·rfl
  ·have:x≠n:=by rintro rfl;exact h v List.mem_cons_self
   simp[this]
theorem uv {kindOf:Str->Option NameKind}{x:Str}{v:Value}:∀ {P:List Str}{vs:List Value}{i:Nat}{m:Str->Option Value},P.Nodup->P[i]?=some x->vs[i]?=some v->kindOf x=some .local->
  bindL kindOf (P.zip vs) m x=some v
 | [],_,_,_,_,h,_,_=>by simp at h
 | _::_,[],_,_,_,_,h,_=>by simp at h
 | p::P,w::vs,0,m,nd,h1,h2,hk=>by
  simp at h1 h2;subst h1;subst h2
  show bindL kindOf ((p,w)::P.zip vs) m p=_
  unfold bindL
  rw[ur λv hv=>(List.nodup_cons.mp nd).1 (List.of_mem_zip hv).1,if_pos hk]
  simp
 | p::P,w::vs,i+1,m,nd,h1,h2,hk=>by
  show bindL kindOf ((p,w)::P.zip vs) m x=_
  unfold bindL
  exact uv (i:=i) (List.nodup_cons.mp nd).2 (by simpa using h1) (by simpa using h2) hk
theorem uw {kindOf:Str->Option NameKind}{x:Str}{v:Value}:∀ {P:List Str}{vs:List Value}{i:Nat}{m:Str->Option Value},P.Nodup->P[i]?=some x->vs[i]?=some v->kindOf x≠some .local->
  bindC kindOf (P.zip vs) m x=some v
 | [],_,_,_,_,h,_,_=>by simp at h
 | _::_,[],_,_,_,_,h,_=>by simp at h
 | p::P,w::vs,0,m,nd,h1,h2,hk=>by
  simp at h1 h2;subst h1;subst h2
  show bindC kindOf ((p,w)::P.zip vs) m p=_
  unfold bindC
  rw[ut λv hv=>(List.nodup_cons.mp nd).1 (List.of_mem_zip hv).1,if_neg hk]
  simp
 | p::P,w::vs,i+1,m,nd,h1,h2,hk=>by
  show bindC kindOf ((p,w)::P.zip vs) m x=_
  unfold bindC
  exact uw (i:=i) (List.nodup_cons.mp nd).2 (by simpa using h1) (by simpa using h2) hk
def start (N:List Str) (vs:List V):St:=vs.map some++List.replicate (N.length - vs.length) none
def cR (CX:CXT) (P:Program) (w:World) (K:PySem.W.Frag) (mg:Str->Option Value) (base:Heap) (N:List Str) (qual:Str) (scope:Scope) (f:Addr) (cd:Value) (A:Around) (outer:List Env) (s:Shared) (H:Hp) (E:XK):Cx where
 prog:=P
 w:=w
 K:=K
 mg:=mg
 base:=base
 A:=A.deeper (envOfC qual scope s.heap.objs.size f cd)
 N:=N
 s₀:=s
 H₀:=H
 env:=envOfC qual scope s.heap.objs.size f cd
 outer:=outer
 stack:=envOfC qual scope s.heap.objs.size f cd::outer
 ex:=[]
 calm:=true
 fn:=λ_=>true
 pn:=[]
 xe:=λe s'=>wpAny (model P w) (A.deeper (envOfC qual scope s.heap.objs.size f cd)) (leaving (envOfC qual scope s.heap.objs.size f cd) e) (λ_ s''=>CX outer H s E e s'') (λe' s''=>CX outer H s E e' s'') s'
theorem vA {sc:Scope}{n:Nat}{x:Str}(h:sc.names.lookup x=some .cell):∃ c,(cellsFrom n sc.names []).lookup x=some c:=by
 have q:=PySem.W.cellsFrom_some sc.names n [] (.inl h)
 exact Option.isSome_iff_exists.mp q
theorem Aw {CX:CXT}{P:Program}{w:World}{K:PySem.W.Frag}{mg:Str->Option Value}{base:Heap}{N ps:List Str}{qual:Str}{scope:Scope}{f:Addr}{cd:Value}{A:Around}{outer:List Env}{s s1:Shared}{H:Hp}{E:XK}{us:List Value}{vs:List V}
  (S:FnScope N ps scope) (hd:A.handled=none) (e0:Env0 P w K mg base A outer s H) (hl:vs.length=ps.length) (r:Vals vs us)
  (x:InCallC s s.heap.objs.size (bindL (envOfC qual scope s.heap.objs.size f cd).kindOf (ps.zip us) λ_=>none) (cellsFrom (s.heap.objs.size+1) scope.names []) (bindC (envOfC qual scope s.heap.objs.size f cd).kindOf (ps.zip us) λ_=>none) s1):
  Inv (cR CX P w K mg base N qual scope f cd A outer s H E) [] (start N vs) H s1:=by
 have hpl:ps.length<=N.length:=by have:=congrArg List.length S.pre;rw[List.length_take] at this;omega
 obtain⟨h1,tk,rfl,hk⟩:=x.done
 have noA:∀ b:Addr,b∉(cR CX P w K mg base N qual scope f cd A outer s H E).ex:=λb z=>absurd (show b∈([]:List Addr) from z) (by simp)
 refine⟨⟨e0.mod,S.kind,rfl,rfl,Nat.le_refl _,λy z c h1 h2=>?_,λy hy=>?_,λy c _ h=>?_,λ_=>hd,Around.frames_deeper e0.frames,.inr ⟨rfl,rfl⟩,λb z=>absurd z (noA b),e0.bs,e0.bsz,λb _ _=>noA b,λb z=>absurd z (noA b),e0.funs,e0.frf⟩,
  rfl,e0.bare,Un.kept hk,⟨_,x.toInCall.ns,λi y v h1 h2 h3=>?_⟩,λy c h=>⟨_,x.cell y c h⟩,e0.hok.fresh (Nat.le_refl _),λy c h=>?_,λp hp=>absurd (show p∈([]:List (Addr×Obj)) from hp) (by simp),e0.hok.kept hk,?_⟩
 ·exact name_of_addr x.apart (PySem.mem_of_lookup h1) (PySem.mem_of_lookup h2)
 ·have hy:scope.names.lookup y=some .cell\/scope.names.lookup y=some .free:=hy
  rcases hy with hy | hy
  ·exact vA hy
  ·exact absurd rfl (S.nofree _ (PySem.mem_of_lookup hy))
 ·exact Nat.le_of_lt (x.above y c (PySem.mem_of_lookup h))
 ·have hi:i < vs.length:=by
   unfold start at h2
   by_cases hi:i < vs.length
   ·exact hi
   ·rw[List.getElem?_append_right (by simpa using hi)] at h2
    rw[List.getElem?_replicate] at h2
    split at h2 <;> cases h2
  have ha:vs[i]?=some v:=by
   unfold start at h2
   rw[List.getElem?_append_left (by simpa using hi),List.getElem?_map] at h2
   cases e:vs[i]? with
   | none=>rw[e] at h2;cases h2
   | some a=>rw[e] at h2;cases h2;rfl
  obtain⟨u,hu,rv⟩:=r.get ha
  have hp:ps[i]?=some y:=by
   rw[← S.pre,List.getElem?_take_of_lt (by omega)];exact h1
  have ndP:ps.Nodup:=by rw[← S.pre];exact S.nd.sublist (List.take_sublist _ _)
  refine⟨u,rv,?_⟩
  rcases S.par y (List.mem_of_getElem? hp) with k | k
  ·exact .inl ⟨k,uv ndP hp hu k⟩
  ·obtain⟨c,e⟩:=vA (n:=s.heap.objs.size+1) k
   refine .inr ⟨.inl k,c,e,?_⟩
   have q:=x.cell y c e
   rw[uw ndP hp hu (by show scope.names.lookup y≠_;rw[k];decide)] at q
   exact q
 ·exact e0.hok.fresh (Nat.le_of_lt (x.above y c (PySem.mem_of_lookup h)))
 ·unfold start
  show _=N.length
  rw[List.length_append,List.length_map,List.length_replicate]
  omega
theorem Gq {CX:CXT}{P:Program}{w:World}{K:PySem.W.Frag}{mg:Str->Option Value}{base:Heap}{k:Nat}{f:Addr}{name qual:Str}{params:Arguments}{body:List Stmt}{scope:Scope}{dV kV doc pm cdv ct oc:Value}{an od:Option Addr}
  {osl:Array (Option Value)}{N ps:List Str}{sp:Sp}(lk:K.lookup f=some ⟨oc,od,.func (PySem.W.fnOf name qual params body scope dV kV doc pm an cdv ct),osl⟩) (hcd:PySem.W.codeIn K cdv qual=true) (S:FnScope N ps scope)
  (len:∀ vs H Q E,sp vs H Q E->vs.length=ps.length)
  (hbody:∀ (A:Around) (outer:List Env) (s:Shared) (H:Hp) (vs:List V) (Q:VK) (E:XK),Room k (A.deeper (envOfC qual scope s.heap.objs.size f cdv))->sp vs H Q E->
   ∃ t,PSs (cR CX P w K mg base N qual scope f cdv A outer s H E) body t/\t { nx:=λ_ H'=>Q .non H',rt:=Q } (start N vs) H):
  FnOk P w K mg base CX (k+1) f (PySem.W.fnOf name qual params body scope dV kV doc pm an cdv ct) ps sp:=by
 refine⟨len,λA outer s H args us vs Q E hr e0 hb r hsp=>?_⟩
 have hl:=len _ _ _ _ hsp
 have KX:K.In s.heap:=e0.mod.kin.keeps λb o e=>(e0.bs b o e).1
 have lim:s.heap.NoLimit:=e0.mod.nolimit.keeps λb o e=>(e0.bs b o e).1
 have hkind:∀ y∈ps.zip us,scope.names.lookup y.1=some .local\/(scope.names.lookup y.1=some .cell/\((cellsFrom (s.heap.objs.size+1) scope.names []).lookup y.1).isSome=true):=by
  rintro ⟨n,v⟩ hy
  rcases S.par n (List.of_mem_zip hy).1 with q | q
  ·exact .inl q
  ·exact .inr ⟨q,PySem.W.cellsFrom_some _ _ _ (.inl q)⟩
 refine codeAny_call_function hr.depth (KX _ _ lk) rfl S.co S.gen rfl (PySem.W.codeRec_of KX hcd) (hb _ _ _ _ ?_)
 refine wpAny_newFunctionEnv_cells S.kind hkind λenv he s1 x=>?_
 subst he
 refine⟨lim.keeps x.toInCall.keep,codeAny_func ?_⟩
 obtain⟨t,ht,hq⟩:=hbody A outer s H vs Q E (hr.deeper _) hsp
 have I:Inv (cR CX P w K mg base N qual scope f cdv A outer s H E) [] (start N vs) H s1:=Aw S hr.hd e0 hl r x
 refine wpAny_mono (ht [] s1 (start N vs) H _ I hq) (λfl s' hs=>?_) λe s' hs=>hs
 have fin:∀ {σ':St}{H':Hp}{v:V}{u:Value},Inv (cR CX P w K mg base N qual scope f cdv A outer s H E) [] σ' H' s'->RelV v u->Q v H'->CE outer P w K H s Q u s':=
  λ{σ' H' v u} J rv q=>⟨v,H',J.os,J.bare,J.base,J.hok,rv,q⟩
 cases fl with
 | ret u=>
  obtain⟨v,σ',H',J,rv,q⟩:=hs
  exact fin J rv q
 | next=>
  obtain⟨σ',H',J,q⟩:=hs
  exact fin (v:=V.non) (u:=Value.none) J rfl q
 | brk=>
  obtain⟨_,_,_,q⟩:=hs
  exact False.elim q
 | cont=>
  obtain⟨_,_,_,q⟩:=hs
  exact False.elim q
end L2
namespace L2
open PySem PySem.Spec PyProof.Rows
section
variable {X:Cx}{x:Str}{p pos:Pos}{e:Expr}{es:List Expr}{t:TA}{id T:String}{r:List V->Hp->VK->Prop}
def tCB (r:List V->Hp->VK->Prop) (t:TA):TE:=fun σ H Q=>t σ H λvs H1=>r vs H1 Q
theorem lg (hc:CallR X (.builtin id) r) (hg:Gl X x) (hm:X.mg x=none) (hv:bootBuiltins x=some (.builtin id)) (ha:PA X (e::es) t) (hn:x ≠ "__name__" := by decide) (hdb:(x == ("__debug__" : Str))=false:=by decide)
  (he:starEach (e::es) X.env=(false,eval e X.env)::starEach es X.env:=by rfl) (hpl:(backTo pos (starEach es X.env)).any (·.1)=false:=by rfl):PE X (.Call (.Name x p) (e::es) [] pos) (tCB r t):=by
 intro pins s σ H Q I h
 refine wpAny_Call_Name_kw (mF I hg hm hv ?_ hn hdb)
 exact PyProof.Rows.callWith_builtin1 (thn (ha pos pins s σ H _ I h) λus s1 ⟨vs,H1,I1,r1,q1⟩=>hc pins s1 σ H1 vs us Q I1 r1 q1) he hpl
theorem Ax (hc:CallR X (.type T) r) (hg:Gl X x) (hm:X.mg x=none) (hv:bootBuiltins x=some (.type T)) (ha:PA X (e::es) t) (hn:x ≠ "__name__" := by decide) (hdb:(x == ("__debug__" : Str))=false:=by decide)
  (he:starEach (e::es) X.env=(false,eval e X.env)::starEach es X.env:=by rfl) (hpl:(backTo pos (starEach es X.env)).any (·.1)=false:=by rfl):PE X (.Call (.Name x p) (e::es) [] pos) (tCB r t):=by
 intro pins s σ H Q I h
 refine wpAny_Call_Name_kw (mF I hg hm hv ?_ hn hdb)
 exact PyProof.Rows.callWith_type1 (thn (ha pos pins s σ H _ I h) λus s1 ⟨vs,H1,I1,r1,q1⟩=>hc pins s1 σ H1 vs us Q I1 r1 q1) he hpl
end
end L2
namespace L2
open PySem PySem.Spec PyProof.Rows
section
variable {κ:Type} [DecidableEq κ]
def jg (kvs:List (κ×V)) (k:κ):Option V:=(kvs.find? λkv=>decide (kv.1=k)).map (·.2)
theorem ni {p:κ×V}{r:List (κ×V)}{k:κ}(e:p.1=k):jg (p::r) k=some p.2:=by simp[jg,List.find?_cons,e]
theorem nj {p:κ×V}{r:List (κ×V)}{k:κ}(e:¬ p.1=k):jg (p::r) k=jg r k:=by simp[jg,List.find?_cons,e]
theorem RelO.isSome_eq {o:Option V}{u:Option Value}(r:RelO o u):o.isSome=u.isSome:=by
 cases o with
 | none=>cases u with
  | none=>rfl
  | some _=>exact(show False from r).elim
 | some _=>cases u with
  | none=>exact(show False from r).elim
  | some _=>rfl
theorem KV.val {kvs:List (κ×V)}{vs:List (κ×Value)}(r:KV kvs vs) (k:κ):RelO (jg kvs k) (valueAt vs k):=by
 unfold KV at r
 induction r with
 | nil=>exact True.intro
 | @cons p q ps qs h t ih=>
  obtain⟨h1,h2⟩:=h
  by_cases e:p.1=k
  ·have e':q.1=k:=h1.symm.trans e
   have b:valueAt (q::qs) k=some q.2:=by simp[valueAt,List.find?_cons,e']
   rw[ni e,b];exact h2
  ·have e':¬ q.1=k:=λz=>e (h1.trans z)
   have b:valueAt (q::qs) k=valueAt qs k:=by simp[valueAt,List.find?_cons,e']
   rw[nj e,b];exact ih
theorem KV.length {kvs:List (κ×V)}{vs:List (κ×Value)}(r:KV kvs vs):kvs.length=vs.length:=Paired.length r
end
theorem uY {P:Program}{w:World}{k:Key}{u:Value}(r:RelV (kV k) u):(mD P w).is k u=true:=by
 cases k with
 | inl i=>obtain⟨t,e⟩:=(show ∃ t,u=Value.int i t from r);subst e;exact xJ P w i t
 | inr x=>obtain⟨t,e⟩:=(show ∃ t,u=Value.str x t from r);subst e;exact xK P w x t
theorem Ay {P:Program}{w:World}{k:Key}{u:Value}(r:RelV (kV k) u):(gJ P w).is k u=true:=Aa (uY (P:=P) (w:=w) r)
theorem yd {P:Program}{w:World}:∀ {ks:List Key}{us:List Value},Vals (ks.map kV) us->ItemsAre (gJ P w) ks us
 | [],_,r=>by rw[List.map_nil] at r;cases r;exact .nil
 | k::ks,_,r=>by
  rw[List.map_cons] at r
  cases r with
  | cons h t=>exact .cons (Ay h) (yd t)
theorem ux {P:Program}{w:World}{ks:List Key}{vs:List V}{us:List Value}(kt:vm ks vs) (r:Vals vs us):ItemsAre (gJ P w) ks us:=by
 rcases kt with rfl | ⟨x,b,rfl,rfl⟩
 ·exact yd r
 ·cases r with
  | cons h1 t=>cases t with
   | cons h2 t=>
    cases t
    cases (show _=Value.bool b from h2)
    exact .cons (Ay (k:=.inr x) h1) (.cons (xH b) .nil)
abbrev KT (K:PySem.W.Frag) (H:Hp):List (List Key×V)->List (List Key×Addr×Value)->Prop:=Paired λp q=>p.1=q.1/\CKey K H q.2.1 p.1/\RelV p.2 q.2.2
theorem KT.val {K:PySem.W.Frag}{H:Hp}{kvs:List (List Key×V)}{xs:List (List Key×Addr×Value)}(r:KT K H kvs xs) (k:List Key):RelO (jg kvs k) ((atKey xs k).map (·.2)):=by
 induction r with
 | nil=>exact True.intro
 | @cons p q ps qs h t ih=>
  obtain⟨h1,_,h2⟩:=h
  by_cases e:p.1=k
  ·have e':q.1=k:=h1.symm.trans e
   have b:atKey (q::qs) k=some q.2:=by simp[atKey,List.find?_cons,e']
   rw[ni e,b];exact h2
  ·have e':¬ q.1=k:=λz=>e (h1.trans z)
   have b:atKey (q::qs) k=atKey qs k:=by simp[atKey,List.find?_cons,e']
   rw[nj e,b];exact ih
section
variable {P:Program}{w:World}{K:PySem.W.Frag}{H:Hp}{h:Heap}{a:Addr}
theorem Gr {u:HO}(ok:HOk P w K H h) (e:Rd H a u):ObjOk P w K H h a u:=e.ok ok
theorem qW {kvs:List (Key×V)}(ok:HOk P w K H h) (e:Rd H a (.dK kvs)):kvs.length<=sizeLine/\(a == sysModules)=false/\∃ vs,KV kvs vs/\h.DictOf (mD P w) a vs:=
 show ObjOk P w K H h a (.dK kvs) from Gr ok e
theorem JT {ks:List Key}(ok:HOk P w K H h) (e:Jp H a ks):(tupleKind (gJ P w)).is h ks a:=by
 obtain⟨vs,e,kt⟩:=e
 obtain⟨_,its,r,o,h1,h2,n,h3⟩:=(show ObjOk P w K H h a (.tup vs) from ok a _ e)
 exact⟨o,its.toArray,n,h1,h2,h3,by simpa using ux kt r⟩
theorem pK {ks:List Key}(kin:K.In h) (ok:HOk P w K H h) (e:CKey K H a ks):(tupleKind (gJ P w)).is h ks a:=by
 rcases e with e | ⟨vs,⟨o,its,n,e1,e2,e3,_,r⟩,kt⟩
 ·exact JT ok e
 ·exact⟨o,its,n,kin a o e1,e2,e3,ux kt r⟩
theorem Ou {kvs:List (List Key×V)}(kin:K.In h) (ok:HOk P w K H h) (e:Rd H a (.dT kvs)):kvs.length<=sizeLine/\(a == sysModules)=false/\∃ xs,KT K H kvs xs/\DictE (tupleKind (gJ P w)) h a xs:=by
 obtain⟨z,y,xs,r,o,es,ep,h1,h2,h3,h4,h5,h6⟩:=(show ObjOk P w K H h a (.dT kvs) from Gr ok e)
 subst h6
 refine⟨z,y,xs,r,o,es,h1,h2,h3,h4,λx hx=>?_,h5⟩
 have all:∀ {l:List (List Key×V)}{m:List (List Key×Addr×Value)},KT K H l m->∀ x∈m,(tupleKind (gJ P w)).is h x.1 x.2.1:=by
  intro l m q
  induction q with
  | nil=>intro x hx;exact nomatch hx
  | cons hq t ih=>
   intro x hx
   rcases List.mem_cons.mp hx with e | hx
   ·rw[e];exact pK kin ok (by rw[← hq.1];exact hq.2.1)
   ·exact ih x hx
 exact all r x hx
theorem uZ {kvs:List (List Key×V)}(kin:K.In h) (ok:HOk P w K H h) (e:Rd H a (.dT kvs)):kvs.length<=sizeLine/\(a == sysModules)=false /\
  ∃ xs,KT K H kvs xs/\h.DictOfH (tupleKind (gJ P w)) a xs:=let ⟨z,y,xs,r,q⟩:=Ou kin ok e;⟨z,y,xs,r,q.of⟩
end
def DGet (K:PySem.W.Frag) (H:Hp) (a:Addr) (y:V) (r:Option V):Prop:=
 (∃ kvs k,Rd H a (.dK kvs)/\y=kV k/\r=jg kvs k)\/∃ kvs k b,Rd H a (.dT kvs)/\y=.ref b/\CKey K H b k/\r=jg kvs k
theorem DGet.k {K:PySem.W.Frag}{H:Hp}{a:Addr}{kvs:List (Key×V)}{k:Key}(e:H a=some (.dK kvs)):DGet K H a (kV k) (jg kvs k):=.inl ⟨kvs,k,.inl e,rfl,rfl⟩
theorem DGet.t {K:PySem.W.Frag}{H:Hp}{a b:Addr}{kvs:List (List Key×V)}{k:List Key}(e:H a=some (.dT kvs)) (eb:CKey K H b k):DGet K H a (.ref b) (jg kvs k):=.inr ⟨kvs,k,b,.inl e,rfl,eb,rfl⟩
section
variable {X:Cx}{pins:List (Addr×Obj)}{σ:St}{H:Hp}{s:Shared}{a:Addr}{y v:V}{u r:Value}{o:Option V}{A:Around}{E:Value->Shared->Prop}
theorem Az {Q:Value->Shared->Prop}(hu:A.units+1 < cLine) (I:Inv X pins σ H s) (g:DGet X.K H a y (some v)) (ry:RelV y u) (h:∀ w' s',Inv X pins σ H s'->RelV v w'->Q w' s'):
  wpAny (model X.prog X.w) A (getItem (.ref a) u) Q E s:=by
 rcases g with ⟨kvs,k,e,ey,l⟩ | ⟨kvs,k,b,e,ey,eb,l⟩
 ·subst ey
  obtain⟨z,hd,vs,rel,dd⟩:=qW I.hok e
  obtain⟨w',hw,rw'⟩:=RelO.some_of (v:=v) (o:=valueAt vs k) (by rw[l];exact rel.val k)
  exact wpAny_getItem_of (uY ry) dd.mapOf hw (h w' _ (I.tok _) rw')
 ·subst ey
  cases (show u=Value.ref b from ry)
  obtain⟨z,hd,xs,rel,dd⟩:=uZ I.kIn I.hok e
  obtain⟨w',hw,rw'⟩:=RelO.some_of (v:=v) (o:=(atKey xs k).map (·.2)) (by rw[l];exact rel.val k)
  obtain⟨p,hp,hp2⟩:=Option.map_eq_some_iff.mp hw
  refine wpAny_getItem_heap (tupleKind_room_in1 hu) (pK I.kIn I.hok eb) dd hp ?_
  rw[hp2]
  exact h w' _ (I.tok _) rw'
theorem Ov {Q:Value->Shared->Prop}(hu:A.units+1 < cLine) (I:Inv X pins σ H s) (g:DGet X.K H a y o) (ry:RelV y u) (h:∀ s',Inv X pins σ H s'->Q (.bool o.isSome) s'):
  wpAny (model X.prog X.w) A (compareOp .In u (.ref a)) Q E s:=by
 rcases g with ⟨kvs,k,e,ey,l⟩ | ⟨kvs,k,b,e,ey,eb,l⟩
 ·subst ey
  obtain⟨z,hd,vs,rel,dd⟩:=qW I.hok e
  refine wpAny_in_of (uY ry) hd dd.mapOf ?_
  rw[← (rel.val k).isSome_eq,← l]
  exact h _ (I.tok _)
 ·subst ey
  cases (show u=Value.ref b from ry)
  obtain⟨z,hd,xs,rel,dd⟩:=uZ I.kIn I.hok e
  refine wpAny_in_heap (tupleKind_room_in1 hu) (pK I.kIn I.hok eb) hd dd ?_
  have q:=(rel.val k).isSome_eq
  rw[Option.isSome_map] at q
  rw[← q,← l]
  exact h _ (I.tok _)
theorem Hf {Q:Value->Shared->Prop}(hu:A.units+1 < cLine) (I:Inv X pins σ H s) (g:DGet X.K H a y o) (ry:RelV y u) (h:∀ s',Inv X pins σ H s'->Q (.bool (!o.isSome)) s'):
  wpAny (model X.prog X.w) A (compareOp .NotIn u (.ref a)) Q E s:=by
 rcases g with ⟨kvs,k,e,ey,l⟩ | ⟨kvs,k,b,e,ey,eb,l⟩
 ·subst ey
  obtain⟨z,hd,vs,rel,dd⟩:=qW I.hok e
  refine wpAny_notIn_of (uY ry) hd dd.mapOf ?_
  rw[← (rel.val k).isSome_eq,← l]
  exact h _ (I.tok _)
 ·subst ey
  cases (show u=Value.ref b from ry)
  obtain⟨z,hd,xs,rel,dd⟩:=uZ I.kIn I.hok e
  refine wpAny_notIn_heap (tupleKind_room_in1 hu) (pK I.kIn I.hok eb) hd dd ?_
  have q:=(rel.val k).isSome_eq
  rw[Option.isSome_map] at q
  rw[← q,← l]
  exact h _ (I.tok _)
end
section
variable {X:Cx}{pins:List (Addr×Obj)}{σ:St}{H:Hp}{s:Shared}{a:Addr}{kvs:List (Key×V)}{k:Key}{u:Value}{A:Around}{E:Value->Shared->Prop}
theorem M5 {Q:Value->Shared->Prop}(I:Inv X pins σ H s) (e:Rd H a (.dK kvs)) (h:∀ t s',Inv X pins σ H s'->Q (.int kvs.length t) s'):wpAny (model X.prog X.w) A (call (.builtin "len") [.ref a]) Q E s:=by
 obtain⟨z,hd,vs,rel,dd⟩:=qW I.hok e
 refine call_len_dict hd dd (by rw[← rel.length];rw[sizeLine_eq] at z;omega) ?_
 rw[← rel.length]
 exact h _ _ (I.tok _)
end
def Dr (i:Expr):Prop:=∀ ov iv,subscripted i false ov iv=operate [ov,iv] (getItem ov iv)
theorem Hg {prog:Program}{w:World}{A:Around}{E:Value->Shared->Prop}{s:Shared}{env:Env}{value slice:Expr}{pos:Pos}{T id:String}{Q:Value->Shared->Prop}
  (hl:typeLookup (.type T) "__getitem__" = pure (some (.builtin id))) (hs:Dr slice)
  (h:wpAny (model prog w) A (eval value env) (λo s₁=>wpAny (model prog w) A (eval slice env) (λi s₂=>s₂.TypeIs o T/\wpAny (model prog w) A (getItem o i) Q E s₂) E s₁) E s):
  wpAny (model prog w) A (eval (.Subscript value slice pos) env) Q E s:=by
 refine Subscript_ (wpAny_mono h (λo s₁ h₁=>wpAny_mono h₁ (λi s₂ h₂=>?_) λ_ _ x=>x) λ_ _ x=>x)
 obtain⟨hT,h₂⟩:=h₂
 unfold subscriptTail
 refine wpAny_bind ?_
 rw[getitemInPython_of_ne hT.not_modules]
 refine wpAny_bind (wpAny_specialOf hT hl ?_)
 have fin:wpAny (model prog w) A (subscripted slice false o i) (λr s₃=>wpAny (model prog w) A (letTemporaryGo value o r >>= λ_=>pure r) Q E s₃) E s₂:=by
  rw[hs o i]
  exact wpAny_operating (wpAny_mono h₂ (λr s₃ h₃=>wpAny_bind (wpAny_letTemporaryGo (wpAny_pure h₃))) λ_ _ x=>x)
 first
  | exact wpAny_pure (wpAny_bind fin)
  | exact wpAny_bind (wpAny_pure (wpAny_bind fin))
  | exact wpAny_bind fin
theorem xM {X:Cx}{pins:List (Addr×Obj)}{σ:St}{H:Hp}{s:Shared}{a:Addr}{y:V}{o:Option V}(I:Inv X pins σ H s) (g:DGet X.K H a y o):s.TypeIs (.ref a) "dict" := by
 rcases g with ⟨kvs,k,e,_,_⟩ | ⟨kvs,k,b,e,_,_,_⟩
 ·obtain⟨_,_,vs,_,dd⟩:=qW I.hok e
  exact dd.typeIs
 ·obtain⟨_,_,xs,_,dd⟩:=uZ I.kIn I.hok e
  exact dd.typeIs
def M6 (K:PySem.W.Frag) (td ty:TE):TE:=fun σ H Q=>td σ H λx H1=>ty σ H1 λy H2=>∃ a v,x=.ref a/\DGet K H2 a y (some v)/\Q v H2
section
variable {X:Cx}{o i e value:Expr}{pos pos' tpos:Pos}{td ty tv:TE}
theorem Hh (hu:X.A.units+1 < cLine) (ho:PE X o td) (hi:PE X i ty) (hs:Dr i):PE X (.Subscript o i pos) (M6 X.K td ty):=by
 intro pins s σ H Q I h
 refine Hg PySem.F.slot_dict_getitem.lookup hs (thn (ho pins s σ H _ I h) λu s1 ⟨x,H1,I1,rx,q1⟩=>thn (hi pins s1 σ H1 _ I1 q1) ?_)
 rintro iv s2 ⟨y,H2,I2,ry,a,v,ex,g,q2⟩
 subst ex
 obtain rfl:u=Value.ref a:=rx
 exact⟨xM I2 g,Az hu I2 g ry λw' s3 I3 rw'=>⟨v,H2,I3,rw',q2⟩⟩
end
section
variable {X:Cx}{pos:Pos}
end
section
variable {X:Cx}{pins:List (Addr×Obj)}{σ:St}{H:Hp}{s:Shared}{a:Addr}{y d:V}{u r:Value}{o:Option V}{A:Around}{E:Value->Shared->Prop}
end
section
variable {X:Cx}{o e f:Expr}{apos cpos:Pos}{td ty tx:TE}
end
section
variable {X:Cx}{pins:List (Addr×Obj)}{σ:St}{H:Hp}{s:Shared}{a:Addr}{kvs:List (Key×V)}{A:Around}{E:Value->Shared->Prop}
end
section
variable {X:Cx}{pins:List (Addr×Obj)}{σ:St}{H:Hp}{s:Shared}{a:Addr}{y:V}{u:Value}{A:Around}{E:Value->Shared->Prop}
end
end L2
namespace HT
open PySem PyProof.Rows
def lexLt:List Int->List Int->Bool
 | [],[]=>false
 | [],_::_=>true
 | _::_,[]=>false
 | x::xs,y::ys=>if x=y then lexLt xs ys else decide (x < y)
theorem yO (x y:Int) (xs ys:List Int):lexLt (x::xs) (y::ys)=if x=y then lexLt xs ys else decide (x < y):=rfl
theorem Ds (A:Around) (s:Shared) (a:Int) (t:Tok) (c:Int) (u:Tok):∃ e,SeqAt.EqAt A s (.int a t) (.int c u) e/\(e=true↔a=c):=
 ⟨(a == c),SeqAt.EqAt.int_int a t c u,by simp⟩
theorem Du (A:Around) (s:Shared) (a:Int) (t:Tok) (c:Int) (u:Tok) (prog:Program) (w:World) (E:Value->Shared->Prop) (Q:Value->Shared->Prop) (h:Q (.bool (decide (a < c))) s):
  wpAny (model prog w) A (richCompare .Lt (.int a t) (.int c u)) Q E s:=
 (PyProof.Rows.lt_int h:wpAny (model prog w) A (compareOp .Lt (.int a t) (.int c u)) Q E s)
section
open PySem.SeqAt
open PySem.AutoSeq1 (wpAny_loadPart')
open PySem.MeetsSeq PySem.MeetsSeq2 PySem.MeetsSeq3
end
section
variable {prog:Program}{w:World}{A:Around}{E:Value->Shared->Prop}{s:Shared}
def sIx (n d:Nat):Option Int->Nat
 | none=>d
 | some v=>if v < 0 then (v+(n:Int)).toNat else min v.toNat n
theorem sIx_none (n d:Nat):sIx n d none=d:=rfl
theorem sIx_nat (n d k:Nat):sIx n d (some (k:Int))=min k n:=by
 show (if (k:Int) < 0 then ((k:Int)+(n:Int)).toNat else min (k:Int).toNat n)=min k n
 rw[if_neg (by omega),Int.toNat_natCast]
theorem sIx_le (n d:Nat) (hd:d<=n) (o:Option Int):sIx n d o<=n:=by
 cases o with
 | none=>exact hd
 | some v=>
  show (if v < 0 then (v+(n:Int)).toNat else min v.toNat n)<=n
  by_cases hv:v < 0
  ·rw[if_pos hv];omega
  ·rw[if_neg hv];exact Nat.min_le_right _ _
theorem ye (v:Int) (n d:Nat):(if v < 0 then max (v+(n:Int)) 0 else min v (n:Int))=((sIx n d (some v):Nat):Int):=by
 show (if v < 0 then max (v+(n:Int)) 0 else min v (n:Int))=(((if v < 0 then (v+(n:Int)).toNat else min v.toNat n):Nat):Int)
 by_cases hv:v < 0
 ·simp only[if_pos hv];omega
 ·simp only[if_neg hv];omega
theorem yP (lo hi:Option Int) (n:Nat):Builtin.Slice.sliceAdjust lo hi 1 (n:Int)=(((sIx n 0 lo:Nat):Int),((sIx n n hi:Nat):Int)):=by
 have h1:¬ ((1:Int) < 0):=by omega
 unfold Builtin.Slice.sliceAdjust
 simp only[h1,if_false]
 refine Prod.ext ?_ ?_
 ·cases lo with
  | none=>rfl
  | some v=>exact ye v n 0
 ·cases hi with
  | none=>rfl
  | some v=>exact ye v n n
theorem yQ (i j:Nat):Builtin.Slice.slicePlaces (i:Int) (j:Int) 1=j - i:=by
 unfold Builtin.Slice.slicePlaces
 have h1:(1:Int) > 0:=by omega
 simp only[h1,if_true,Int.ediv_one]
 split <;> omega
theorem qX {v:Value}{o:Option Int}{Q:Option Int->Shared->Prop}(p:IsPart v o) (h:Q o s):wpAny (model prog w) A (Builtin.Slice.slicePartIndex v) Q E s:=by
 cases p with
 | none=>exact slicePart_none h
 | int i t=>exact slicePart_int h
theorem lq {sl:Addr}{vl vu:Value}{lo hi:Option Int}{n:Nat}{Q:Int×Int×Nat->Shared->Prop}(hs:s.heap.IsSliceOf sl vl vu .none) (pl:IsPart vl lo) (pu:IsPart vu hi)
  (h:Q (((sIx n 0 lo:Nat):Int),1,sIx n n hi - sIx n 0 lo) s):wpAny (model prog w) A (Builtin.Slice.sliceApplied (.ref sl) (pure (n:Int))) Q E s:=by
 obtain⟨os,hos,hcs,hds⟩:=id hs
 unfold Builtin.Slice.sliceApplied Builtin.Slice.sliceFields
 refine wpAny_bind (wpAny_bind (wpAny_field hos hds (x:=vl) rfl (wpAny_bind (wpAny_field hos hds (x:=vu) rfl (wpAny_bind (wpAny_field hos hds (x:=.none) rfl (wpAny_pure ?_)))))))
 refine wpAny_bind (slicePart_none ?_)
 show wpAny _ _ (if ((1:Int) == 0)=true then _ else _) _ _ s
 rw[if_neg (by decide)]
 refine wpAny_bind (qX pl (wpAny_bind (qX pu (wpAny_bind (wpAny_pure ?_)))))
 show wpAny _ _ (match Builtin.Slice.sliceAdjust lo hi 1 (n:Int) with | (lo,hi)=>pure (lo,(1:Int),Builtin.Slice.slicePlaces lo hi 1)) _ _ s
 rw[yP lo hi n]
 show wpAny _ _ (pure (((sIx n 0 lo:Nat):Int),(1:Int),Builtin.Slice.slicePlaces ((sIx n 0 lo:Nat):Int) ((sIx n n hi:Nat):Int) 1)) _ _ s
 rw[yQ]
 exact wpAny_pure h
theorem Dv (xs:Array Value) (i k:Nat):((List.range k).filterMap λ(m:Nat)=>xs[((i:Int)+(m:Int)*1).toNat]?).toArray=((xs.toList.drop i).take k).toArray:=by
 have e:(λ(m:Nat)=>xs[((i:Int)+(m:Int)*1).toNat]?)=λm=>xs[i+m]?:=by
  funext m
  have:((i:Int)+(m:Int)*1).toNat=i+m:=by omega
  rw[this]
 rw[e]
 have:=pick_run xs i k
 rw[List.filterMap_map] at this
 have e2:((λx=>xs[x]?)∘λx=>i+x)=λm=>xs[i+m]?:=rfl
 rw[e2] at this
 rw[this]
theorem getItem_tuple_cut {t sl:Addr}{items:Array Value}{vl vu:Value}{lo hi:Option Int}{Q:Value->Shared->Prop}(ht:IsTup s.heap t items) (hs:s.heap.IsSliceOf sl vl vu .none) (pl:IsPart vl lo) (pu:IsPart vu hi)
  (hw:¬ (sIx items.size 0 lo=0/\sIx items.size items.size hi=items.size))
  (h:Q (.ref s.heap.objs.size) { s with heap:=s.heap.push { cls:=.type "tuple",data:=.seq ((items.toList.drop (sIx items.size 0 lo)).take (sIx items.size items.size hi - sIx items.size 0 lo)).toArray } })
  (hsz:items.size<=sizeLine):wpAny (model prog w) A (getItem (.ref t) (.ref sl)) Q E s:=by
 have htake:sizeOk (.seq ((items.toList.drop (sIx items.size 0 lo)).take (sIx items.size items.size hi - sIx items.size 0 lo)).toArray):=by
  show ((items.toList.drop (sIx items.size 0 lo)).take (sIx items.size items.size hi - sIx items.size 0 lo)).toArray.size<=sizeLine
  rw[List.size_toArray,List.length_take,List.length_drop,Array.length_toList]
  omega
 have hj:sIx items.size items.size hi<=items.size:=sIx_le _ _ (Nat.le_refl _) hi
 obtain⟨os,hos,hcs,hds⟩:=id hs
 have hTs:s.TypeIs (.ref sl) "slice" := ⟨os,hos,hcs⟩
 unfold getItem
 try with_reducible refine wpAny_holding ?_
 first | refine wpAny_bind (wpAny_pure ?_) | skip
 refine wpAny_bind (wpAny_sequenceKey ht.typeIs (by decide) ?_)
 refine wpAny_bind (wpAny_callSpecial?_slot (name:=Str.ofString "__getitem__") ht.typeIs PyProof.Rows.slot_tuple_getitem
  (wpAny_call_entry PyProof.Rows.slot_tuple_getitem ht.typeIs entry_tuple_getitem ?_ (args_tuple_getitem _ _)))
 show wpAny _ _ (Builtin.Tuple.tupleItemsOf (.ref t) >>= _) _ _ s
 refine wpAny_bind (tupleItemsOf_ ht ?_)
 refine wpAny_bind (wpAny_typeOf hTs ?_)
 rw[if_pos (by decide)]
 refine wpAny_bind (lq hs pl pu ?_)
 have hno:¬ ((((sIx items.size 0 lo:Nat):Int) == 0&&(1:Int) == 1&&(sIx items.size items.size hi - sIx items.size 0 lo) == items.size)=true):=by
  intro q
  rw[Bool.and_eq_true,Bool.and_eq_true] at q
  have q1:((sIx items.size 0 lo:Nat):Int)=0:=eq_of_beq q.1.1
  have q2:sIx items.size items.size hi - sIx items.size 0 lo=items.size:=eq_of_beq q.2
  exact hw ⟨by omega,by omega⟩
 show wpAny _ _ (if (((sIx items.size 0 lo:Nat):Int) == 0&&(1:Int) == 1&&(sIx items.size items.size hi - sIx items.size 0 lo) == items.size)=true then _ else _) _ _ s
 rw[if_neg hno,Dv]
 first
  | exact wpAny_bind (m:=Builtin.Tuple.tupleExact _) (wpAny_newObj_type (wpAny_pure ⟨_,rfl,wpAny_pure h⟩) htake)
  | exact wpAny_bind (m:=Builtin.Tuple.tupleExact _) (wpAny_newObj_type (wpAny_bind (wpAny_pure (wpAny_pure ⟨_,rfl,wpAny_pure h⟩))) htake)
  | exact wpAny_bind (wpAny_bind (m:=Builtin.Tuple.tupleExact _) (wpAny_newObj_type (wpAny_pure (wpAny_pure ⟨_,rfl,wpAny_pure h⟩)) htake))
  | exact wpAny_bind (wpAny_bind (m:=Builtin.Tuple.tupleExact _) (wpAny_newObj_type (wpAny_pure ⟨_,rfl,wpAny_pure h⟩) htake))
end
end HT
namespace L2
open PySem PySem.Spec PyProof.Rows
abbrev TO:=St->Hp->(Option Int->Hp->Prop)->Prop
def PO (X:Cx) (e:Option Expr) (t:TO):Prop:=
 ∀ (pins:List (Addr×Obj)) (s:Shared) (σ:St) (H:Hp) (Q:Option Int->Hp->Prop),Inv X pins σ H s->t σ H Q->
  wpAny (model X.prog X.w) X.A (evalPart e X.env) (λu s'=>∃ o H',Inv X pins σ H' s'/\IsPart u o/\Q o H') X.xe s
def Hi:TO:=λ_ H Q=>Q none H
def M7 (t:TE):TO:=fun σ H Q=>t σ H λx H1=>∃ i,x=.int i/\Q (some i) H1
theorem intsAre_of {ns:List Int}:∀ {us:List Value},Vals (ns.map V.int) us->IntsAre us ns:=by
 induction ns with
 | nil=>intro us r;rw[List.map_nil] at r;cases r;exact .nil
 | cons n ns ih=>
  intro us r
  rw[List.map_cons] at r
  cases r with
  | cons r1 r2=>
   obtain⟨t,e⟩:=r1
   subst e
   exact .cons n t (ih r2)
section
variable {X:Cx}{e:Expr}{te:TE}{lo hi:Option Expr}{tl th:TO}{pos p2:Pos}
theorem Hj:PO X none Hi:=by
 intro pins s σ H Q I h
 rw[evalPart_none]
 exact wpAny_pure ⟨none,H,I,.none,h⟩
theorem Hk (h:PE X e te):PO X (some e) (M7 te):=by
 intro pins s σ H Q I hw
 rw[evalPart_some]
 refine thn (h pins s σ H _ I hw) ?_
 rintro u s1 ⟨x,H1,I1,r1,q1⟩
 obtain⟨i,rfl,q⟩:=q1
 obtain⟨t,rfl⟩:=r1
 exact⟨some i,H1,I1,.int i t,q⟩
def SlR (X:Cx) (r:V->Option Int->Option Int->Hp->VK->Prop):Prop:=
 ∀ (pins:List (Addr×Obj)) (s:Shared) (σ:St) (H:Hp) (x:V) (v vl vu:Value) (lo hi:Option Int) (sl:Addr) (Q:VK),Inv X pins σ H s->RelV x v->s.heap.IsSliceOf sl vl vu .none->IsPart vl lo->IsPart vu hi->r x lo hi H Q->
  ∃ T id,typeLookup (.type T) "__getitem__" = pure (some (.builtin id))/\s.TypeIs v T/\wpAny (model X.prog X.w) X.A (getItem v (.ref sl)) (EP X pins σ Q) X.xe s
theorem SlR.or {r r':V->Option Int->Option Int->Hp->VK->Prop}(h:SlR X r) (h':SlR X r'):SlR X (λx lo hi H Q=>r x lo hi H Q\/r' x lo hi H Q):=by
 intro pins s σ H x v vl vu lo hi sl Q I rx hs pl pu q
 rcases q with q | q
 ·exact h pins s σ H x v vl vu lo hi sl Q I rx hs pl pu q
 ·exact h' pins s σ H x v vl vu lo hi sl Q I rx hs pl pu q
def tSl (r:V->Option Int->Option Int->Hp->VK->Prop) (te:TE) (tl th:TO):TE:=fun σ H Q=>te σ H λx H1=>tl σ H1 λl H2=>th σ H2 λu H3=>r x l u H3 Q
theorem vB {r:V->Option Int->Option Int->Hp->VK->Prop}(hr:SlR X r) (he:PE X e te) (hl:PO X lo tl) (hu:PO X hi th):PE X (.Subscript e (.Slice lo hi none p2) pos) (tSl r te tl th):=by
 intro pins s σ H Q I h
 refine Subscript_ (thn (he pins s σ H _ I h) ?_)
 rintro v s1 ⟨x,H1,I1,r1,q1⟩
 refine wpAny_Slice (thn (hl pins s1 σ H1 _ I1 q1) λvl s2 ⟨l,H2,I2,pl,q2⟩=>thn (hu pins s2 σ H2 _ I2 q2) ?_)
 rintro vu s3 ⟨u,H3,I3,pu,q3⟩
 rw[evalPart_none]
 refine wpAny_pure ?_
 have I4:Inv X pins σ H3 { s3 with heap:=s3.heap.push { cls:=.type "slice",data:=.fields #[vl,vu,.none] } }:=I3.kept (t':=s3.toks) λb ob q=>Heap.get?_push_of_some _ q
 obtain⟨T,id,hT,ht,hg⟩:=hr pins { s3 with heap:=s3.heap.push { cls:=.type "slice",data:=.fields #[vl,vu,.none] } } σ H3 x v vl vu l u s3.heap.objs.size Q I4 r1 (Heap.IsSliceOf.new ..) pl pu q3
 show wpAny (model X.prog X.w) X.A (subscriptTail e (.Slice lo hi none p2) v (.ref s3.heap.objs.size)) (EP X pins σ Q) X.xe { s3 with heap:=s3.heap.push { cls:=.type "slice",data:=.fields #[vl,vu,.none] } }
 exact tail_any (ops:=[.ref s3.heap.objs.size,v]) ht hT hg (by with_unfolding_all rfl)
def dZ (xs:List V) (lo hi:Option Int):List V:=(xs.drop (HT.sIx xs.length 0 lo)).take (HT.sIx xs.length xs.length hi - HT.sIx xs.length 0 lo)
theorem qb (xs:List V) (lo hi:Option Int):(dZ xs lo hi).length<=xs.length:=by
 unfold dZ
 rw[List.length_take,List.length_drop]
 omega
def JV (K:PySem.W.Frag):V->Option Int->Option Int->Hp->VK->Prop:=λx lo hi H Q=>∃ a xs,x=.ref a/\SqT K H a xs /\
 ¬ (HT.sIx xs.length 0 lo=0/\HT.sIx xs.length xs.length hi=xs.length)/\∀ p,H p=none->Q (.ref p) (upd H p (.tup (dZ xs lo hi)))
theorem JW:SlR X (JV X.K):=by
 intro pins s σ H x v vl vu lo hi sl Q I rx hs pl pu h
 obtain⟨a,xs,rfl,hx,hw,q⟩:=h
 cases rx
 obtain⟨its,r,ht,hz⟩:=I.tuple hx
 have hlen:its.toArray.size=xs.length:=by rw[List.size_toArray];exact r.length.symm
 refine⟨"tuple",_,PyProof.Rows.slot_tuple_getitem.lookup,ht.typeIs,?_⟩
 refine HT.getItem_tuple_cut ht hs pl pu (by rw[hlen];exact hw) ?_ (by rw[hlen];exact hz)
 rw[hlen]
 refine⟨.ref s.heap.objs.size,_,I.laid (t':=s.toks) (o:=.tup (dZ xs lo hi)) (λb ob q=>Heap.get?_push_of_some _ q) (Nat.le_refl _) ?_,rfl,q _ (I.hok.fresh (Nat.le_refl _))⟩
 exact⟨Nat.le_trans (qb xs lo hi) hz,_,(r.drop (HT.sIx xs.length 0 lo)).take (HT.sIx xs.length xs.length hi - HT.sIx xs.length 0 lo),IsTup.new _ _⟩
end
end L2
namespace L2
open PySem PySem.Spec PyProof.Rows
def ixN (n:Nat) (i:Int):Option Nat:=if 0<=i then (if i < n then some i.toNat else none) else if -(n:Int)<=i then some (i+n).toNat else none
def atI {α:Type}(xs:List α) (i:Int):Option α:=(ixN xs.length i).bind λj=>xs[j]?
theorem Hl {n:Nat}{i:Int}{j:Nat}(h:ixN n i=some j):seqIndex? i n=some j/\j < n/\-(n:Int)<=i/\i < n:=by
 unfold ixN at h
 by_cases h0:0<=i
 ·rw[if_pos h0] at h
  by_cases h1:i < n
  ·rw[if_pos h1] at h
   have e:i.toNat=j:=Option.some.inj h
   exact⟨by rw[seqIndex_of h0 h1,e],by omega,by omega,h1⟩
  ·rw[if_neg h1] at h;cases h
 ·rw[if_neg h0] at h
  by_cases h1:-(n:Int)<=i
  ·rw[if_pos h1] at h
   have e:(i+n).toNat=j:=Option.some.inj h
   exact⟨by rw[seqIndex_neg (by omega) h1,e],by omega,h1,by omega⟩
  ·rw[if_neg h1] at h;cases h
theorem sG {α:Type}{xs:List α}{i:Int}{v:α}(h:atI xs i=some v):∃ j,seqIndex? i xs.length=some j/\xs[j]?=some v/\j < xs.length/\-(xs.length:Int)<=i/\i < xs.length:=by
 unfold atI at h
 cases e:ixN xs.length i with
 | none=>rw[e] at h;cases h
 | some j=>
  rw[e] at h
  obtain⟨h1,h2,h3,h4⟩:=Hl e
  exact⟨j,h1,h,h2,h3,h4⟩
theorem Hm {α:Type}{xs:List α}{j:Nat}{v:α}(h:xs[j]?=some v):atI xs (j:Int)=some v:=by
 have hj:j < xs.length:=(List.getElem?_eq_some_iff.mp h).1
 have e:ixN xs.length (j:Int)=some j:=by
  unfold ixN
  rw[if_pos (by omega),if_pos (by omega)];simp
 unfold atI;rw[e];exact h
def sH (b:Expr):Prop:=∀ o i,subscripted b false o i=operate [o,i] (getItem o i)
def IxR (X:Cx) (r:R2):Prop:=
 ∀ (value slice:Expr) (pins:List (Addr×Obj)) (s:Shared) (σ:St) (H:Hp) (x y:V) (v u:Value) (Q:VK),Inv X pins σ H s->RelV x v->RelV y u->r x y H Q->
  subscripted slice false v u=operate [v,u] (getItem v u)->wpAny (model X.prog X.w) X.A (subscriptTail value slice v u) (EP X pins σ Q) X.xe s
def MtR (X:Cx) (id:String) (r:V->List V->Hp->VK->Prop):Prop:=
 ∀ (pins:List (Addr×Obj)) (s:Shared) (σ:St) (H:Hp) (x:V) (xs:List V) (v:Value) (us:List Value) (Q:VK),Inv X pins σ H s->RelV x v->Vals xs us->r x xs H Q->
  wpAny (model X.prog X.w) X.A (call (.builtin id) (v::us)) (EP X pins σ Q) X.xe s
section
variable {X:Cx}{a b:Expr}{ta tb:TE}{pos:Pos}
theorem IxR.or {r r':R2}(h:IxR X r) (h':IxR X r'):IxR X (λx y H Q=>r x y H Q\/r' x y H Q):=by
 intro value slice pins s σ H x y v u Q I rx ry q hs
 rcases q with q | q
 ·exact h value slice pins s σ H x y v u Q I rx ry q hs
 ·exact h' value slice pins s σ H x y v u Q I rx ry q hs
theorem Gs {r:R2}(hr:IxR X r) (ha:PE X a ta) (hb:PE X b tb) (hs:sH b):PE X (.Subscript a b pos) (tOp r ta tb):=by
 intro pins s σ H Q I h
 exact Subscript_ (Dm ha hb I h λv u s2 x y H2 I2 rx ry q=>hr a b pins s2 σ H2 x y v u Q I2 rx ry q (hs _ _))
def Dw (K:PySem.W.Frag):R2:=λx y H Q=>∃ p xs i v,x=.ref p/\y=.int i/\SqL K H p xs/\atI xs i=some v/\Q v H
def JX (K:PySem.W.Frag):R2:=λx y H Q=>∃ p xs i v,x=.ref p/\y=.int i/\SqT K H p xs/\atI xs i=some v/\Q v H
def JZ:R2:=λx y H Q=>∃ z i c,x=.str z/\y=.int i/\z.length<=sizeLine/\atI z.cps.toList i=some c/\Q (.str ⟨#[c]⟩) H
theorem ix_list:IxR X (Dw X.K):=by
 intro value slice pins s σ H x y v u Q I rx ry h hs
 obtain⟨p,xs,i,z,rfl,rfl,hq,he,q⟩:=h
 cases rx
 obtain⟨t,rfl⟩:=ry
 obtain⟨its,r,pl,hz⟩:=I.list hq
 obtain⟨j,h1,h2,h3,h4,h5⟩:=sG he
 obtain⟨w,ew,rw'⟩:=r.get h2
 have hl:=r.length
 have hn:=oG
 have fin:EP X pins σ Q w s:=⟨z,H,I,rw',q⟩
 by_cases h0:0<=i
 ·have hj:i.toNat=j:=by
   rw[seqIndex_of h0 h5] at h1
   exact Option.some.inj h1
  exact item_listR pl.isList h0 (by omega) (by rw[hj];simpa using ew) fin hs
 ·have hj:(i+(its.toArray.size:Int)).toNat=j:=by
   rw[seqIndex_neg (by omega) h4] at h1
   rw[List.size_toArray,← hl]
   exact Option.some.inj h1
  exact subscriptTail_builtinR (x:=w) pl.isList.typeIs slot_list_getitem.lookup
   (wpAny_getItem_list_neg (Q:=λr s'=>r=w/\EP X pins σ Q r s') pl.isList (by omega) (by rw[List.size_toArray] <;> omega) (by omega) (by rw[hj];simpa using ew) ⟨rfl,fin⟩) hs
theorem ix_tup:IxR X (JX X.K):=by
 intro value slice pins s σ H x y v u Q I rx ry h hs
 obtain⟨p,xs,i,z,rfl,rfl,hq,he,q⟩:=h
 cases rx
 obtain⟨t,rfl⟩:=ry
 obtain⟨its,r,pl,hz⟩:=I.tuple hq
 obtain⟨j,h1,h2,h3,h4,h5⟩:=sG he
 obtain⟨w,ew,rw'⟩:=r.get h2
 have hl:=r.length
 have hn:=oG
 have fin:EP X pins σ Q w s:=⟨z,H,I,rw',q⟩
 exact subscriptTail_builtinR (x:=w) pl.typeIs slot_tuple_getitem.lookup
  (getItem_tuple (j:=j) (Q:=λr s'=>r=w/\EP X pins σ Q r s') pl (by omega) (by omega) (by rw[List.size_toArray,← hl];exact h1) (by simpa using ew) ⟨rfl,fin⟩) hs
theorem J0:IxR X JZ:=by
 intro value slice pins s σ H x y v u Q I rx ry h hs
 obtain⟨z,i,c,rfl,rfl,hz,he,q⟩:=h
 obtain⟨t,rfl⟩:=rx
 obtain⟨t',rfl⟩:=ry
 obtain⟨j,h1,h2,h3,h4,h5⟩:=sG he
 have hl:z.cps.toList.length=z.length:=by simp[Str.length]
 rw[hl] at h1 h4 h5
 have hn:=oG
 exact tail_any (typeIs_str s z t) slot_str_getitem.lookup (getItem_str (c:=c) (by
  have e1:decide (i < -(2 ^ 63:Int))=false:=decide_eq_false (by omega)
  have e2:decide (i ≥ 2 ^ 63)=false:=decide_eq_false (by omega)
  rw[e1,e2,Bool.or_false]) (by rw[h1];simpa using h2) ⟨.str ⟨#[c]⟩,H,I.tok _,⟨_,rfl⟩,q⟩) hs
def rIx (K:PySem.W.Frag):R2:=λx y H Q=>Dw K x y H Q\/JX K x y H Q\/JZ x y H Q
theorem J1:IxR X (rIx X.K):=ix_list.or (ix_tup.or J0)
theorem vC (lo hi:Option Int) (n:Nat):(sliceBounds lo hi none n).1=((HT.sIx n 0 lo:Nat):Int)/\(sliceBounds lo hi none n).2.1=((HT.sIx n n hi:Nat):Int)/\(sliceBounds lo hi none n).2.2=1:=by
 refine⟨?_,?_,rfl⟩
 ·cases lo with
  | none=>simp[sliceBounds,HT.sIx]
  | some i=>
   simp only[sliceBounds,HT.sIx,Option.getD_none,show (1:Int) > 0 by decide,if_true]
   by_cases h:i < 0
   ·simp only[h,if_true] <;> omega
   ·simp only[h,if_false] <;> omega
 ·cases hi with
  | none=>simp[sliceBounds,HT.sIx]
  | some i=>
   simp only[sliceBounds,HT.sIx,Option.getD_none,show (1:Int) > 0 by decide,if_true]
   by_cases h:i < 0
   ·simp only[h,if_true] <;> omega
   ·simp only[h,if_false] <;> omega
theorem uP (its:List Value) (lo hi:Option Int):slicePick its.toArray lo hi none=((its.drop (HT.sIx its.length 0 lo)).take (HT.sIx its.length its.length hi - HT.sIx its.length 0 lo)).toArray:=by
 obtain⟨h1,h2,h3⟩:=vC lo hi its.toArray.size
 unfold slicePick
 rw[h1,h2,h3]
 simp only[sliceRange_one,pick_run,List.size_toArray] <;> rfl
def J2 (K:PySem.W.Frag):V->Option Int->Option Int->Hp->VK->Prop:=λx lo hi H Q=>∃ a xs,x=.ref a/\SqL K H a xs/\∀ p,H p=none->Q (.ref p) (upd H p (.lst (dZ xs lo hi)))
theorem sl_list:SlR X (J2 X.K):=by
 intro pins s σ H x v vl vu lo hi sl Q I rx hs pl pu h
 obtain⟨a,xs,rfl,hx,q⟩:=h
 cases rx
 obtain⟨its,r,ht,hz⟩:=I.list hx
 have hlen:=r.length
 refine⟨"list",_,slot_list_getitem.lookup,ht.isList.typeIs,?_⟩
 refine wpAny_getItem_list_slice ht.isList hs pl pu .none (by simp) ?_ (by rw[List.size_toArray] <;> omega)
 rw[uP,← hlen]
 refine⟨.ref s.heap.objs.size,_,I.laid (t':=s.toks) (o:=.lst (dZ xs lo hi)) (λb ob q=>Heap.get?_push_of_some _ q) (Nat.le_refl _) ?_,rfl,q _ (I.hok.fresh (Nat.le_refl _))⟩
 exact⟨Nat.le_trans (qb xs lo hi) hz,_,0,(r.drop (HT.sIx xs.length 0 lo)).take (HT.sIx xs.length xs.length hi - HT.sIx xs.length 0 lo),Heap.get?_push_size _ rfl⟩
def iR:V->Bool
 | .non=>true
 | .bl _=>true
 | .int _=>true
 | .str _=>true
 | _=>false
def eqV:V->V->Bool
 | .non,.non=>true
 | .bl a,.bl b=>a == b
 | .bl a,.int b=>(if a then 1 else 0) == b
 | .int a,.bl b=>a == (if b then 1 else 0)
 | .int a,.int b=>a == b
 | .str a,.str b=>a == b
 | _,_=>false
theorem J3 {A:Around}{s:Shared}{y x:V}{u v:Value}(ry:RelV y u) (rx:RelV x v) (fy:iR y=true) (fx:iR x=true):SeqAt.EqAt A s u v (eqV y x):=by
 cases y with
 | non=>
  cases ry
  cases x with
  | non=>cases rx;exact SeqAt.EqAt.same _
  | bl b=>cases rx;exact SeqAt.EqAt.none_bool b
  | int b=>obtain⟨t,rfl⟩:=rx;exact SeqAt.EqAt.none_int b t
  | str b=>obtain⟨t,rfl⟩:=rx;exact SeqAt.EqAt.none_str b t
  | _=>exact absurd (show false=true from fx) Bool.false_ne_true
 | bl a=>
  cases ry
  cases x with
  | non=>cases rx;exact SeqAt.EqAt.bool_none a
  | bl b=>cases rx;exact SeqAt.EqAt.bool_bool a b
  | int b=>obtain⟨t,rfl⟩:=rx;exact SeqAt.EqAt.bool_int a b t
  | str b=>obtain⟨t,rfl⟩:=rx;exact SeqAt.EqAt.bool_str a b t
  | _=>exact absurd (show false=true from fx) Bool.false_ne_true
 | int a=>
  obtain⟨t',rfl⟩:=ry
  cases x with
  | non=>cases rx;exact SeqAt.EqAt.int_none a t'
  | bl b=>cases rx;exact SeqAt.EqAt.int_bool a t' b
  | int b=>obtain⟨t,rfl⟩:=rx;exact SeqAt.EqAt.int_int a t' b t
  | str b=>obtain⟨t,rfl⟩:=rx;exact SeqAt.EqAt.int_str a t' b t
  | _=>exact absurd (show false=true from fx) Bool.false_ne_true
 | str a=>
  obtain⟨t',rfl⟩:=ry
  cases x with
  | non=>cases rx;exact SeqAt.EqAt.str_none a t'
  | bl b=>cases rx;exact SeqAt.EqAt.str_bool a t' b
  | int b=>obtain⟨t,rfl⟩:=rx;exact SeqAt.EqAt.str_int a t' b t
  | str b=>obtain⟨t,rfl⟩:=rx;exact SeqAt.EqAt.str_str a t' b t
  | _=>exact absurd (show false=true from fx) Bool.false_ne_true
 | _=>exact absurd (show false=true from fy) Bool.false_ne_true
def eqU (x:V) (u:Value):Bool:=match u with
 | .none=>eqV .non x
 | .bool b=>eqV (.bl b) x
 | .int i _=>eqV (.int i) x
 | .str z _=>eqV (.str z) x
 | _=>false
theorem A_ {x y:V}{u:Value}(r:RelV y u) (f:iR y=true):eqU x u=eqV y x:=by
 cases y with
 | non=>cases r;rfl
 | bl b=>cases r;rfl
 | int i=>obtain⟨t,rfl⟩:=r;rfl
 | str z=>obtain⟨t,rfl⟩:=r;rfl
 | _=>exact absurd (show false=true from f) Bool.false_ne_true
theorem mH {x:V}:∀ {xs:List V}{us:List Value},Vals xs us->xs.all iR=true->us.any (eqU x)=xs.any λy=>eqV y x
 | _,_,.nil,_=>rfl
 | y::xs,u::us,.cons r t,f=>by
  rw[List.all_cons,Bool.and_eq_true] at f
  rw[List.any_cons,List.any_cons,A_ r f.1,mH t f.2]
theorem lr {A:Around}{s:Shared}{x:V}{v:Value}(rx:RelV x v) (fx:iR x=true):∀ {xs:List V}{us:List Value},Vals xs us->xs.all iR=true->∀ u∈us,SeqAt.EqAt A s u v (eqU x u)
 | _,_,.nil,_=>λu hu=>by cases hu
 | y::xs,u::us,.cons r t,f=>λu' hu=>by
  rw[List.all_cons,Bool.and_eq_true] at f
  rcases List.mem_cons.mp hu with rfl | hu
  ·rw[A_ r f.1];exact J3 r rx f.1 fx
  ·exact lr rx fx t f.2 u' hu
def inV (x:V) (xs:List V):Bool:=xs.any λy=>eqV y x
def rIn (K:PySem.W.Frag) (neg:Bool):R2:=λx y H Q=>∃ p xs,y=.ref p/\(SqL K H p xs\/SqT K H p xs)/\iR x=true/\xs.all iR=true/\Q (.bl (if neg then !inV x xs else inV x xs)) H
theorem Ba:OpR X (compareOp .In) (rIn X.K false):=by
 intro pins s σ H x y v u Q I rx ry h
 obtain⟨p,xs,rfl,hq,fx,fs,q⟩:=h
 cases ry
 rcases hq with hq | hq
 ·obtain⟨its,r,pl,hz⟩:=I.list hq
  refine SeqAt.in_listAt (eqU x) pl.isList (λw hw=>lr rx fx r fs w (by simpa using hw)) ⟨.bl _,H,I,rfl,?_⟩
  rw[show its.toArray.any (eqU x)=its.any (eqU x) by simp,mH r fs]
  exact q
 ·obtain⟨its,r,pl,hz⟩:=I.tuple hq
  refine SeqAt.in_tupleAt (eqU x) pl (λw hw=>lr rx fx r fs w (by simpa using hw)) ⟨.bl _,H,I,rfl,?_⟩
  rw[show its.toArray.any (eqU x)=its.any (eqU x) by simp,mH r fs]
  exact q
theorem vD:OpR X (compareOp .NotIn) (rIn X.K true):=by
 intro pins s σ H x y v u Q I rx ry h
 obtain⟨p,xs,rfl,hq,fx,fs,q⟩:=h
 cases ry
 rcases hq with hq | hq
 ·obtain⟨its,r,pl,hz⟩:=I.list hq
  refine SeqAt.notIn_listAt (eqU x) pl.isList (λw hw=>lr rx fx r fs w (by simpa using hw)) ⟨.bl _,H,I,rfl,?_⟩
  rw[show its.toArray.any (eqU x)=its.any (eqU x) by simp,mH r fs]
  exact q
 ·obtain⟨its,r,pl,hz⟩:=I.tuple hq
  refine SeqAt.notIn_tupleAt (eqU x) pl (λw hw=>lr rx fx r fs w (by simpa using hw)) ⟨.bl _,H,I,rfl,?_⟩
  rw[show its.toArray.any (eqU x)=its.any (eqU x) by simp,mH r fs]
  exact q
theorem vG:OpR X (compareOp .NotIn) (λx y H Q=>∃ i j,x=.str i/\y=.str j/\Q (.bl (!(!(Builtin.Str.occurrences j i 0 j.length 1).isEmpty))) H):=by
 intro pins s σ H x y v u Q I rx ry h
 obtain⟨i,j,rfl,rfl,q⟩:=h
 obtain⟨t,rfl⟩:=rx
 obtain⟨t',rfl⟩:=ry
 exact notIn_str ⟨.bl _,H,I,rfl,q⟩
theorem vH:CallR X (.builtin "len") (λxs H Q=>∃ p ys,xs=[.ref p]/\(SqL X.K H p ys\/SqT X.K H p ys)/\Q (.int ys.length) H):=by
 intro pins s σ H xs us Q I r h
 obtain⟨p,ys,rfl,hq,q⟩:=h
 obtain⟨u,rfl,rx⟩:=vals1 r
 cases rx
 have hn:=oG
 rcases hq with hq | hq
 ·obtain⟨its,r',pl,hz⟩:=I.list hq
  have hlen:=r'.length
  exact Calls.call_len_list pl.isList (by simp only[List.size_toArray] <;> omega) ⟨.int ys.length,H,I.tok _,⟨s.toks+1,by rw[List.size_toArray,hlen]⟩,q⟩
 ·obtain⟨its,r',pl,hz⟩:=I.tuple hq
  have hlen:=r'.length
  exact len_tuple pl (by simp only[List.size_toArray] <;> omega) ⟨.int ys.length,H,I.tok _,⟨s.toks+1,by rw[List.size_toArray,hlen]⟩,q⟩
theorem vI:CallR X (.builtin "len") (λxs H Q=>∃ z,xs=[.str z]/\z.length<=sizeLine/\Q (.int z.length) H):=by
 intro pins s σ H xs us Q I r h
 obtain⟨z,rfl,hz,q⟩:=h
 obtain⟨u,rfl,t,rfl⟩:=vals1 r
 have hn:=oG
 exact len_str (by omega) ⟨.int z.length,H,I.tok _,⟨_,rfl⟩,q⟩
theorem CallR.or {f:Value}{r r':List V->Hp->VK->Prop}(h:CallR X f r) (h':CallR X f r'):CallR X f (λxs H Q=>r xs H Q\/r' xs H Q):=by
 intro pins s σ H xs us Q I rs q
 rcases q with q | q
 ·exact h pins s σ H xs us Q I rs q
 ·exact h' pins s σ H xs us Q I rs q
theorem uQ:CallR X (.type "tuple") (λxs H Q=>∃ p ys,xs=[.ref p]/\((SqL X.K H p ys/\∀ l,H l=none->Q (.ref l) (upd H l (.tup ys)))\/(SqT X.K H p ys/\Q (.ref p) H))):=by
 intro pins s σ H xs us Q I r h
 obtain⟨p,ys,rfl,h⟩:=h
 obtain⟨u,rfl,rx⟩:=vals1 r
 cases rx
 rcases h with ⟨hq,q⟩ | ⟨hq,q⟩
 ·obtain⟨its,r',pl,hz⟩:=I.list hq
  have hlen:=r'.length
  refine call_tuple_list pl.isList (λh' kp=>?_) (by simp only[List.size_toArray] <;> omega)
  have I1:Inv X pins σ H { s with heap:=h' }:=I.kept (t':=s.toks) kp
  have I2:Inv X pins σ (upd H h'.objs.size (.tup ys)) { s with heap:=h'.push { cls:=.type "tuple",data:=.seq its.toArray } }:=
   I1.laid (t':=s.toks) (λb o e=>Heap.get?_push_of_some _ e) (Nat.le_refl _) (show ObjOk X.prog X.w X.K _ _ _ (.tup ys) from ⟨hz,its,r',IsTup.new _ _⟩)
  exact⟨.ref h'.objs.size,_,I2,rfl,q _ (I1.hok.fresh (Nat.le_refl _))⟩
 ·obtain⟨its,r',pl,hz⟩:=I.tuple hq
  exact call_tuple_same pl ⟨.ref p,H,I,rfl,q⟩
def tyV (K:PySem.W.Frag) (T:String) (x:V) (H:Hp):Prop:=match x with
 | .str _=>T = "str"
 | .int _=>T = "int"
 | .ref p=>(T = "list" /\ ∃ xs,SqL K H p xs)\/(T = "tuple" /\ ∃ o,K.lookup p=some o/\o.cls=.type "tuple" /\ o.dict=none) \/
   (T = "dict" /\ ((∃ kvs,H p=some (.dK kvs))\/∃ kvs,H p=some (.dT kvs)))\/(T = "set" /\ ∃ S n,H p=some (.set S n))
 | _=>False
theorem Bb {pins:List (Addr×Obj)}{σ:St}{H:Hp}{s:Shared}{T:String}{x:V}{v:Value}(I:Inv X pins σ H s) (r:RelV x v) (ty:tyV X.K T x H):
  s.TypeIs v T/\∀ a,v=.ref a->∃ ob,s.heap.get? a=some ob/\ob.dict=none:=by
 cases x with
 | str z=>
  obtain⟨t,rfl⟩:=r
  cases (show T = "str" from ty)
  exact⟨typeIs_str s z t,λ_ e=>nomatch e⟩
 | int i=>
  obtain⟨t,rfl⟩:=r
  cases (show T = "int" from ty)
  exact⟨typeIs_int s i t,λ_ e=>nomatch e⟩
 | ref p=>
  cases r
  rcases ty with ⟨rfl,xs,hq⟩ | ⟨rfl,o,hk,hc,hd⟩ | ⟨rfl,hk⟩ | ⟨rfl,S,n,hk⟩
  ·obtain⟨its,_,pl,_⟩:=I.list hq
   refine⟨pl.isList.typeIs,λa e=>?_⟩
   cases e
   obtain⟨o,n,e,c,hd,_⟩:=pl
   exact⟨o,e,hd⟩
  ·refine⟨⟨o,I.kIn p o hk,hc⟩,λa e=>?_⟩
   cases e
   exact⟨o,I.kIn _ o hk,hd⟩
  ·have z:∃ o,s.heap.get? p=some o/\o.ExactDict:=by
    rcases hk with ⟨kvs,hk⟩ | ⟨kvs,hk⟩
    ·obtain⟨_,_,_,_,o,_,_,e,ex,_⟩:=I.hok p _ hk
     exact⟨o,e,ex⟩
    ·obtain⟨_,_,_,_,o,_,_,e,ex,_⟩:=I.hok p _ hk
     exact⟨o,e,ex⟩
   obtain⟨o,e,ex⟩:=z
   refine⟨⟨o,e,ex.1⟩,λa e2=>?_⟩
   cases e2
   exact⟨o,e,ex.2.1⟩
  ·obtain⟨o,_,_,_,e,ex,_⟩:=I.hok p _ hk
   refine⟨⟨o,e,ex.1⟩,λa e2=>?_⟩
   cases e2
   exact⟨o,e,ex.2.1⟩
 | _=>exact False.elim ty
def Ox (K:PySem.W.Frag) (T:String) (r:V->List V->Hp->VK->Prop) (to:TE):TE:=fun σ H Q=>to σ H λx H1=>tyV K T x H1/\r x [] H1 Q
def tBM (K:PySem.W.Frag) (T:String) (r:V->List V->Hp->VK->Prop) (to:TE) (t:TA):TE:=fun σ H Q=>to σ H λx H1=>tyV K T x H1/\t σ H1 λxs H2=>r x xs H2 Q
variable {o e:Expr}{es:List Expr}{to:TE}{t:TA}{name:Str}{apos cpos:Pos}{T id:String}{r:V->List V->Hp->VK->Prop}
theorem J4 (pa:PlainAttrs T) (slot:Slot T name id) (hty:typeOf (.builtin id)=pure (.type "method_descriptor")) (hm:MtR X id r) (ho:PE X o to)
  (hbase:attributeBase o name X.env (eval o X.env)=eval o X.env:=by rfl) (hline:(apos.endLine == cpos.line)=true:=by rfl):PE X (.Call (.Attribute o name apos) [] [] cpos) (Ox X.K T r to):=by
 intro pins s σ H Q I h
 refine wpAny_Call_method0_late hbase hline (thn (ho pins s σ H _ I h) ?_)
 rintro v s1 ⟨x,H1,I1,r1,ty,q1⟩
 obtain⟨h1,h2⟩:=Bb I1 r1 ty
 exact⟨T,id,pa,slot,hty,h1,h2,Calls.callWith_builtin rfl (PySem.evalArgs_none (hm pins s1 σ H1 x [] v [] Q I1 r1 .nil q1))⟩
theorem yR (pa:PlainAttrs T) (slot:Slot T name id) (hty:typeOf (.builtin id)=pure (.type "method_descriptor")) (hm:MtR X id r) (ho:PE X o to) (ha:PA X (e::es) t)
  (hbase:attributeBase o name X.env (eval o X.env)=eval o X.env:=by rfl)
  (hfew:((backTo cpos (starEach (e::es) X.env)).all (λx=>!x.1)&&(backToKw cpos (keywordEach [] X.env)).all (λx=>x.1.isSome)
   && decide ((e::es).length+([]:List Keyword).length+(if ([]:List Keyword).isEmpty then 0 else 1) < 30))=true:=by rfl)
  (hline:(apos.endLine == cpos.line)=true:=by rfl) (hs:starEach (e::es) X.env=(false,eval e X.env)::starEach es X.env:=by rfl) (hplain:(backTo cpos (starEach es X.env)).any (·.1)=false:=by rfl):
  PE X (.Call (.Attribute o name apos) (e::es) [] cpos) (tBM X.K T r to t):=by
 intro pins s σ H Q I h
 refine wpAny_Call_method_late hbase hfew hline rfl (thn (ho pins s σ H _ I h) ?_)
 rintro v s1 ⟨x,H1,I1,r1,ty,q1⟩
 obtain⟨h1,h2⟩:=Bb I1 r1 ty
 refine⟨T,id,pa,slot,hty,h1,h2,?_⟩
 have hA:=ha cpos pins s1 σ H1 _ I1 q1
 rw[hs] at hA ⊢
 refine Calls.callWith_builtin (by show (false||(backTo cpos (starEach es X.env)).any (·.1))=false;rw[hplain] <;> rfl) (Calls.evalArgs_plain ?_)
 exact thn hA λus s2 ⟨vs,H2,I2,r2,q2⟩=>hm pins s2 σ H2 x vs v us Q I2 r1 r2 q2
end
end L2
namespace L2
open PySem PySem.Spec PyProof.Rows
def MtM (X:Cx) (id:String) (r:V->List V->Hp->VK->Prop):Prop:=
 ∀ (pins:List (Addr×Obj)) (s:Shared) (σ:St) (H:Hp) (x:V) (xs:List V) (v:Value) (us:List Value) (Q:VK),Inv X pins σ H s->RelV x v->Vals xs us->r x xs H Q->
  wpAny (model X.prog X.w) X.A (call (.builtin id) (v::us)) (EP X pins σ Q) X.xe s
theorem Vals.one {x:V}{us:List Value}(h:Vals [x] us):∃ u,us=[u]/\RelV x u:=by
 cases h with
 | cons r t=>cases t;exact⟨_,rfl,r⟩
section
variable {X:Cx}{pins:List (Addr×Obj)}{σ:St}{H:Hp}{s:Shared}{l b:Addr}{xs ys zs:List V}
theorem Inv.lset {its its':List Value}{n:Nat}{f:Array Value->Array Value}{t':Nat}(I:Inv X pins σ H s) (hH:H l=some (.lst xs))
  (e:s.heap.get? l=some { cls:=.type "list",data:=.seq its.toArray n }) (hf:f its.toArray=its'.toArray) (hv:Vals ys its') (hz:ys.length<=sizeLine):
  Inv X pins σ (upd H l (.lst ys)) { s with heap:=s.heap.update l (Obj.mapSeq f),toks:=t' }:=by
 have q:=PySem.IsL.update e f
 rw[hf] at q
 refine I.write (x:=l) (e:=l) (by rw[hH];exact trivial) (.inl rfl) (λb' u hb hu=>(Heap.get?_update_other s.heap (Obj.mapSeq f) (Ne.symm hb)).trans hu) ⟨_,q⟩ ?_
 exact⟨hz,its',_,hv,q⟩
theorem Inv.lnew {its:List Value}{t':Nat}(I:Inv X pins σ H s) (hv:Vals ys its) (hz:ys.length<=sizeLine):
  Inv X pins σ (upd H s.heap.objs.size (.lst ys)) { s with heap:=s.heap.push { cls:=.type "list",data:=.seq its.toArray },toks:=t' }:=
 I.laid (λ_ _ q=>Heap.get?_push_of_some _ q) (Nat.le_refl _) ⟨hz,its,0,hv,Heap.get?_push_size _ rfl⟩
theorem Inv.fresh (I:Inv X pins σ H s):H s.heap.objs.size=none:=I.hok.fresh (Nat.le_refl _)
theorem Inv.lstM (I:Inv X pins σ H s) (hH:H l=some (.lst xs)):xs.length<=sizeLine/\∃ (its:List Value) (n:Nat),Vals xs its/\xs.length=its.length/\s.heap.get? l=some { cls:=.type "list",data:=.seq its.toArray n }:=by
 obtain⟨z,its,n,r,e⟩:=I.hok l _ hH
 exact⟨z,its,n,r,r.length,e⟩
end
section
variable {X:Cx}
def Hn:V->List V->Hp->VK->Prop:=λx vs H Q=>∃ l xs y,x=.ref l/\vs=[y]/\H l=some (.lst xs)/\xs.length < sizeLine/\Q .non (upd H l (.lst (xs++[y])))
theorem oH:MtM X "list.append" Hn:=by
 intro pins s σ H x vs v us Q I rx rv h
 obtain⟨l,xs,y,rfl,rfl,hH,hz,q⟩:=h
 cases rx
 obtain⟨u,rfl,ru⟩:=rv.one
 obtain⟨z,its,n,r,hl,e⟩:=I.lstM hH
 refine call_meets F.slot_list_append ⟨_,e,rfl⟩ F.entry_list_append (F.args_list_append_2 _ _) (PySem.list_append l its.toArray n u (by rw[List.size_toArray];omega)) ⟨e,?_⟩
 refine⟨.non,_,I.lset (its':=its++[u]) hH e (by simp) (r.append (.cons ru .nil)) ?_,rfl,q⟩
 rw[List.length_append,List.length_singleton]
 omega
def Dy:R2:=λx y H Q=>∃ l b xs zs,x=.ref l/\y=.ref b/\H l=some (.lst xs)/\H b=some (.lst zs)/\xs.length+zs.length<=sizeLine/\∀ p,H p=none->Q (.ref p) (upd H p (.lst (xs++zs)))
theorem Bc:OpR X (binaryOp .Add) Dy:=by
 intro pins s σ H x y v u Q I rx ry h
 obtain⟨l,b,xs,zs,rfl,rfl,hH,hB,hz,q⟩:=h
 cases rx
 cases ry
 obtain⟨z,its,n,r,hl,e⟩:=I.lstM hH
 obtain⟨z2,its2,n2,r2,hl2,e2⟩:=I.lstM hB
 refine PySem.P.add_list e e2 ?_ (by rw[List.size_toArray,List.size_toArray];omega)
 have ea:its.toArray++its2.toArray=(its++its2).toArray:=by simp
 rw[ea]
 exact⟨.ref _,_,I.lnew (t':=s.toks) (r.append r2) (by rw[List.length_append];omega),rfl,q _ I.fresh⟩
end
section
variable {prog:Program}{w:World}{A:Around}{E:Value->Shared->Prop}{s:Shared}
end
section
variable {X:Cx}
end
end L2
namespace Att
open PySem PySem.W PySem.Calls PyProof.Rows
theorem qY {P:Params}{h:Heap}:∀ (ns:List Int) (vs:List Value),WellAll P h vs (ns.map WData.int)->IntsAre vs ns:=by
 intro ns
 induction ns with
 | nil=>
  intro vs w
  rw[List.map_nil] at w
  cases w
  exact .nil
 | cons n ns ih=>
  intro vs w
  rw[List.map_cons] at w
  cases w with
  | cons a b=>
   cases a
   exact .cons _ _ (ih _ b)
theorem Bd {l:OpenLaw}{n:Nat}(hn:l.most=some n){P:Params}{h:Heap}{args:List WData}{vals:List Value}
  (hpre:l.row.toRowW.claim.pre args=true) (hwl:WellAll P h vals args):
  ∃ a vs ns,vals=[Value.ref a]/\args=[WData.list (ns.map WData.int)]/\h.get? a=some { cls:=.type "list",data:=.seq vs.toArray }/\IntsAre vs ns/\ns.length<=n:=by
 have hsh:WShape.hasAll [] args [.list .int]=true:=(pre_splitW hpre).1
 have hc:l.pre.holds [] { args:=args }=true:=(pre_splitW hpre).2
 obtain⟨d,r,rfl,h1,h2⟩:=hasAllW_cons hsh
 obtain rfl:=hasAllW_nil h2
 obtain⟨xs,rfl,h3⟩:=hasW_list h1
 obtain⟨ns,rfl⟩:=items_int h3
 have hlen:ns.length<=n:=by
  unfold OpenLaw.pre at hc
  have h4:(WTm.not (.lt (.lit (.int (n:Int))) (.len (.arg 0)))).holds [] { args:=[.list (ns.map .int)] }=true:=by
   have h4:=(holds_andW hc).1
   rw[hn] at h4
   exact h4
  have h5:=condW_of h4 (w_not (w_lt w_lit (w_len_list (w_arg rfl))))
  rw[List.length_map] at h5
  refine Nat.le_of_not_lt λq=>?_
  have q':(n:Int) < ((ns.length:Nat):Int):=by omega
  first
   | (rw[decide_eq_true q'] at h5;exact absurd h5 (by decide))
   | (simp at h5;omega)
 cases hwl with
 | cons w1 w2=>
  cases w2
  cases w1 with
  | list ho hall=>exact⟨_,_,ns,rfl,rfl,ho,qY ns _ hall,hlen⟩
theorem Be (l:OpenLaw) (args:List WData):l.row.toRowW.claim.post args (.bool true) args=true:=
 postW_of (r:=l.row.toRowW) (X:=(true == true))
  (show WShape.has [] (.bool true) .bool=true by first | rfl | decide | simp[WShape.has,WShape.arms,WShape.armsAll])
  (show (WTm.eq .res (.lit (.bool true))).value [] { args:=args,res:=some (.bool true),after:=args }=some (.bool (true == true)) from w_eq_bool (w_res rfl) w_lit) rfl
theorem attach_call {l:OpenLaw}{n:Nat}{q:Program}{loose:List Str}{XP:(Str->Option Value)->Heap->Prop}{YP:World->Heap->Prop}{d:DefRec}
  (hn:l.most=some n) (hdf:d.params.defaults=[])
  (call:∀ (w:World) (s₀ s₁:Shared) (mg mb:Str->Option Value) (fa:Addr) (o:Obj) (pm cd doc:Value) (a:Addr) (vs:List Value) (ns:List Int),
   Ground q loose [] XP w s₀ mg mb s₁.heap->YP w s₁.heap->
   s₁.heap.get? fa=some o->o.data=.func (docDef d.name d.params d.body d.scope pm cd doc)->s₁.heap.CodeRec cd d.name->mg d.name=some (.ref fa)->
   s₁.heap.get? a=some { cls:=.type "list",data:=.seq vs.toArray }->IntsAre vs ns->ns.length<=n->s₁.gens=#[]->
   codeAny (model l.prog w) callerA (.call (.ref fa) ⟨[.ref a],[]⟩) (λr s'=>r=.ok (.ret (.bool true))/\OldK s₁.heap s'.heap/\s'.os=s₁.os/\AllBare s'.gens) s₁):
  WalkO q loose XP YP l.row.toRowW d [] (λf vs=>PySem.call f vs):=by
 intro w s₀ s₁ mg mb G Y fa o pm cd doc dV kV ho hd hcd hD hmg hg args vals as hpre hlay hrd hwl hlo
 obtain rfl:dV=.none:=Dflts.none hD hdf
 obtain rfl:kV=.none:=Dflts.noKw hD
 obtain⟨a,vs,ns,rfl,rfl,hobj,hints,hlen⟩:=Bd hn hpre hwl
 refine enter_call (codeAny_mono (call w s₀ s₁ mg mb fa o pm cd doc a vs ns G Y ho (fd_plain hd) hcd hmg hobj hints hlen hg) λr s' hq=>?_)
 obtain⟨rfl,h2,h3,h4⟩:=hq
 exact⟨.inl ⟨.bool true,.bool true,[],rfl,λ_=>rfl,.bool true,Be l _,λ_=>⟨List.Pairwise.nil,λ_ hm=>(nomatch hm)⟩⟩,h2,h3,h4⟩
section
variable {prog:Program}{w:World}{A:Around}{E:Value->Shared->Prop}{s:Shared}{K:Frag}
theorem uy {x C:Addr}{ox:Obj}{es:List DictEntry}{n:Nat}{name:Str}{expr:Bool}{v:Value}{Q:Value->Shared->Prop}
  (X:K.In s.heap) (I:PySem.W.InstAt s.heap x ox C (some (dictOf es n))) (hg:plainGet K C name=true) (hh:hasDictIn K C=true) (ha:findIn K (.ref C) name=some none)
  (hl:getL name es=some (some v)) (hv:handedIn v=true) (h:Q v { s with toks:=s.toks+1 }):wpAny (model prog w) A (getAttr (.ref x) name expr) Q E s:=
 get_value X I (plainGet_of hg).1 (findObj_own hh ha rfl hl) hv h
end
end Att
namespace L2
open PySem PySem.Spec PyProof.Rows
theorem uz:∀ {vs:List Value}{ns:List Int},IntsAre vs ns->Vals (ns.map V.int) vs
 | _,_,.nil=>.nil
 | _,_,.cons n t h=>.cons ⟨t,rfl⟩ (uz h)
def Only (H:Hp):Prop:=∀ b,H b=none\/∃ o xs,H b=some (.frz o (.lst xs))
theorem Dz {P:Program}{w:World}{K:PySem.W.Frag}{mg mb:Str->Option Value}{CX:CXT}{k:Nat}{fa a:Addr}{fd:FuncData}{x:Str}{sp:Sp}{s₁:Shared}{vs:List Value}{ns:List Int}
  (KX:K.In s₁.heap) (hns:s₁.heap.Ns mainGlobals mg) (hb:s₁.heap.Ns builtinsNs mb) (hbb:∀ x:Str,x ≠ "__name__" -> mb x=bootBuiltins x) (hlim:s₁.heap.NoLimit) (hg:s₁.gens=#[])
  (ha:s₁.heap.get? a=some { cls:=.type "list",data:=.seq vs.toArray }) (hi:IntsAre vs ns) (hl:ns.length<=sizeLine) (hr:Room k callerA)
  (F:∀ base:Heap,K.In base->base.Ns mainGlobals mg->FnOk P w K mg base CX k fa fd [x] sp) (hbind:∀ (s:Shared) (u:Value),BindsTo s fd ⟨[u],[]⟩ [(x,u)])
  (hsp:∀ H:Hp,Only H->SqL K H a (ns.map V.int)->sp [.ref a] H (λv _=>v=.bl true) λ_ _ _=>False)
  (hCX:∀ H e s',CX [] H s₁ (λ_ _ _=>False) e s'->False):
  codeAny (model P w) callerA (.call (.ref fa) ⟨[.ref a],[]⟩) (λr s'=>r=.ok (.ret (.bool true))/\OldK s₁.heap s'.heap/\s'.os=s₁.os/\AllBare s'.gens) s₁:=by
 have rv:=uz hi
 have lenV:=hi.length
 have core:∀ H:Hp,Only H->SqL K H a (ns.map V.int)->HOk P w K H s₁.heap->(∀ b,H b≠none->b=a)->(H a≠none->K.lookup a=none)->
   codeAny (model P w) callerA (.call (.ref fa) ⟨[.ref a],[]⟩) (λr s'=>r=.ok (.ret (.bool true))/\OldK s₁.heap s'.heap/\s'.os=s₁.os/\AllBare s'.gens) s₁:=by
  intro H hO hS hok hA hK
  have base_of:∀ {b:Addr}{o:Obj},s₁.heap.get? b=some o->H b=none->(m_ s₁.heap H).get? b=some o:=λe n=>Dg e n
  have noA:∀ {b:Addr}{o:Obj}{es:Array DictEntry}{ep:Nat},s₁.heap.get? b=some o->o.data=.dict es ep->H b=none:=λ{b o es ep} e d=>by
   cases q:H b with
   | none=>rfl
   | some u=>
    have e':b=a:=hA b (by rw[q];simp)
    subst e'
    rw[ha] at e;cases e
    have d':Data.seq vs.toArray _=Data.dict es ep:=d
    cases d'
  have nsK:∀ {b:Addr}{m:Str->Option Value},s₁.heap.Ns b m->(m_ s₁.heap H).Ns b m:=λ{b m} ⟨o,es,ep,e,d,r⟩=>⟨o,es,ep,base_of e (noA e d),d,r⟩
  have hKb:K.In (m_ s₁.heap H):=λb o e=>base_of (KX b o e) (by
   cases q:H b with
   | none=>rfl
   | some u=>
    have e':b=a:=hA b (by rw[q];simp)
    subst e'
    rw[hK (by rw[q];simp)] at e;cases e)
  have hM:Mod K mg (m_ s₁.heap H):=⟨hKb,nsK hns,⟨mb,nsK hb,hbb⟩,let ⟨mc,h1,h2⟩:=hlim;⟨mc,nsK h1,h2⟩⟩
  have e0:Env0 P w K mg (m_ s₁.heap H) callerA [] s₁ H:=⟨rfl,hM,λb o e=>G5 e,Nat.le_of_eq (Ac _ _),trivial,λb hb=>absurd (show b∈([]:List Addr) from hb) (by simp),hok,.of_eq hg⟩
  refine codeAny_mono ((F _ hKb (nsK hns)).run callerA [] s₁ H ⟨[.ref a],[]⟩ [.ref a] [.ref a] _ _ hr e0 (hbind s₁ (.ref a)) (.cons rfl .nil) (hsp H hO hS)) λr s' h=>?_
  cases r with
  | error e=>exact(hCX H e s' h).elim
  | ok fl=>
   cases fl with
   | next=>exact False.elim h
   | brk=>exact False.elim h
   | cont=>exact False.elim h
   | ret u=>
    obtain⟨v,H',os,bare,un,hok',r',q⟩:=h
    have q':v=.bl true:=q
    subst q'
    obtain rfl:u=Value.bool true:=r'
    refine⟨rfl,OldK.of_keep λb o e=>?_,os,bare⟩
    cases q:H b with
    | none=>exact un.keep b o e q (by intro z;exact absurd (show b∈([]:List Addr) from z) (by simp)) (by simp)
    | some u=>
     rcases hO b with z | ⟨ob,xs,z⟩
     ·rw[q] at z;cases z
     ·have z2:=un.frzs b ob _ z
      obtain⟨e1,_⟩:=hok b _ z
      obtain⟨e2,_⟩:=hok' b _ z2
      rw[e] at e1;cases e1
      exact e2
 cases hk:K.lookup a with
 | some o=>
  have e:=KX a o hk
  rw[ha] at e
  cases e
  refine core (λ_=>none) (λ_=>.inl rfl) (.inr ⟨_,vs.toArray,_,hk,rfl,rfl,rfl,by rw[List.size_toArray,lenV];exact hl,by simpa using rv⟩) (λb u z=>by have z':(none:Option HO)=some u:=z;cases z') (λb z=>absurd rfl z) λz=>absurd rfl z
 | none=>
  refine core (λb=>if b=a then some (.frz { cls:=.type "list",data:=.seq vs.toArray } (.lst (ns.map V.int))) else none) (λb=>?_) (.inl (.inr ⟨{ cls:=.type "list",data:=.seq vs.toArray },if_pos rfl⟩)) (λb u z=>?_) (λb z=>?_) λ_=>hk
  ·by_cases hb:b=a
   ·exact .inr ⟨_,_,if_pos hb⟩
   ·exact .inl (if_neg hb)
  ·by_cases hb:b=a
   ·have z':=(if_pos hb).symm.trans z
    cases z'
    subst hb
    exact⟨ha,by rw[List.length_map];exact hl,vs,_,rv,ha⟩
   ·have z':=(if_neg hb).symm.trans z
    cases z'
  ·by_cases hb:b=a
   ·exact hb
   ·exact absurd (if_neg hb) z
end L2
namespace L2
open PySem PySem.Spec PyProof.Rows
theorem walk_of {l:PySem.W.OpenLaw}{n k:Nat}{q:Program}{loose:List Str}{XP:(Str->Option Value)->Heap->Prop}{YP:World->Heap->Prop}{d:DefRec}{K:Params->PySem.W.Frag}{CX:World->CXT}{sp:World->Sp}{x:Str}
  (hn:l.most=some n) (hn2:n<=sizeLine) (hdf:d.params.defaults=[]) (hr:Room k callerA)
  (hY:∀ (w:World) (h:Heap),YP w h->(K w.params).In h)
  (F:∀ (w:World) (mg:Str->Option Value) (fa:Addr) (h:Heap),(K w.params).In h->h.Ns mainGlobals mg->mg d.name=some (.ref fa)->
   ∃ fd:FuncData,(∀ (s:Shared) (u:Value),BindsTo s fd ⟨[u],[]⟩ [(x,u)]) /\
    ∀ base:Heap,(K w.params).In base->base.Ns mainGlobals mg->FnOk l.prog w (K w.params) mg base (CX w) k fa fd [x] (sp w))
  (hsp:∀ (w:World) (H:Hp) (a:Addr) (ns:List Int),ns.length<=n->Only H->SqL (K w.params) H a (ns.map V.int)->sp w [.ref a] H (λv _=>v=.bl true) λ_ _ _=>False)
  (hCX:∀ (w:World) (H:Hp) (s:Shared) (e:Value) (s':Shared),CX w [] H s (λ_ _ _=>False) e s'->False):
  PySem.W.WalkO q loose XP YP l.row.toRowW d [] (λf vs=>PySem.call f vs):=by
 refine Att.attach_call hn hdf λw s₀ s₁ mg mb fa o pm cd doc a vs ns G Y ho hd hcd hmg hobj hints hlen hg=>?_
 have KX:=hY w _ Y
 obtain⟨fd,hb,hF⟩:=F w mg fa _ KX G.T.g hmg
 exact Dz KX G.T.g G.T.b G.T.builtins G.T.nolimit hg hobj hints (Nat.le_trans hlen hn2) hr hF hb (λH hO hS=>hsp w H a ns hlen hO hS) λH e s'=>hCX w H s₁ e s'
end L2
namespace L2
open PySem PySem.Spec PyProof.Rows
def inClass (s:Stmt) (j:Nat):Stmt:=match s with
 | .ClassDef _ _ _ body _ _ _ _ _ _ _=>body.getD j (.Pass ⟨0,0,0,0⟩)
 | _=>.Pass ⟨0,0,0,0⟩
def bu (s:Stmt):Arguments:=match s with
 | .FunctionDef _ a _ _ _ _ _ _ _ _=>a
 | _=>{ posonlyargs:=[],args:=[],vararg:=none,kwonlyargs:=[],kw_defaults:=[],kwarg:=none,defaults:=[] }
def aR (s:Stmt):List Stmt:=match s with
 | .FunctionDef _ _ b _ _ _ _ _ _ _=>b
 | _=>[]
def au (s:Stmt):Scope:=match s with
 | .FunctionDef _ _ _ _ _ _ sc _ _ _=>sc
 | _=>{ kind:=.function,names:=[],isGenerator:=false,isCoroutine:=false }
abbrev CX0:CXT:=λ_ _ _ _ _ _=>False
abbrev E0:XK:=λ_ _ _=>False
theorem M8 {X:Cx}:vz CX0 X E0:=λ_ _ _ _ _ _ _ h=>h.elim
structure Fun (K:PySem.W.Frag) (x qual:Str) (st:Stmt) (f:Addr) (fd:FuncData):Prop where
 ex:∃ (oc:Value) (od:Option Addr) (kV doc pm:Value) (an:Option Addr) (cdv ct:Value) (osl:Array (Option Value)),
  fd=PySem.W.fnOf x qual (bu st) (aR st) (au st) .none kV doc pm an cdv ct/\K.lookup f=some ⟨oc,od,.func fd,osl⟩/\PySem.W.codeIn K cdv qual=true
 kp:PySem.W.keepIn K (.ref f)=true
section
variable {P:Program}{w:World}{K:PySem.W.Frag}{mg:Str->Option Value}{base:Heap}
theorem Fun.ok {x qual:Str}{st:Stmt}{f:Addr}{fd:FuncData}{N ps:List Str}{k:Nat}{sp:Sp}(F:Fun K x qual st f fd) (S:FnScope N ps (au st)) (len:∀ vs H Q E,sp vs H Q E->vs.length=ps.length)
  (hbody:∀ (cdv:Value) (A:Around) (outer:List Env) (s:Shared) (H:Hp) (vs:List V) (Q:VK) (E:XK),Room k (A.deeper (envOfC qual (au st) s.heap.objs.size f cdv))->sp vs H Q E->
   ∃ t,PSs (cR CX0 P w K mg base N qual (au st) f cdv A outer s H E).nox (aR st) t/\t { nx:=λ_ H'=>Q .non H',rt:=Q } (start N vs) H):FnOk P w K mg base CX0 (k+1) f fd ps sp:=by
 obtain⟨oc,od,kV,doc,pm,an,cdv,ct,osl,rfl,lk,hcd⟩:=F.ex
 refine Gq lk hcd S len λA outer s H vs Q E hr hsp=>?_
 obtain⟨t,h,q⟩:=hbody cdv A outer s H vs Q E hr hsp
 exact⟨t,h.nox,q⟩
theorem Fun.binds {x qual:Str}{st:Stmt}{f:Addr}{fd:FuncData}{ps:List Str}(F:Fun K x qual st f fd)
  (h:∀ (kV doc pm:Value) (an:Option Addr) (cdv ct:Value) (us:List Value),us.length=ps.length->bindArgs (PySem.W.fnOf x qual (bu st) (aR st) (au st) .none kV doc pm an cdv ct) ⟨us,[]⟩=pure (ps.zip us)):Binds K fd ps []:=by
 obtain⟨oc,od,kV,doc,pm,an,cdv,ct,osl,rfl,lk,hcd⟩:=F.ex
 exact .all (h kV doc pm an cdv ct)
theorem b8 {x qual:Str}{st:Stmt}{f:Addr}{oc:Value}{od an:Option Addr}{osl:Array (Option Value)}{kV doc pm cdv ct:Value}(l:K.lookup f=some ⟨oc,od,.func (PySem.W.fnOf x qual (bu st) (aR st) (au st) .none kV doc pm an cdv ct),osl⟩)
  (c:PySem.W.codeIn K cdv qual=true) (k:PySem.W.keepIn K (.ref f)=true):Fun K x qual st f (PySem.W.fnOf x qual (bu st) (aR st) (au st) .none kV doc pm an cdv ct):=⟨⟨oc,od,kV,doc,pm,an,cdv,ct,osl,rfl,l,c⟩,k⟩
end
theorem yS {A:Around}{k:Nat}(hr:Room k A):A.units+1 < cLine:=Nat.lt_of_le_of_lt (Nat.add_le_add_left (by decide:1<=64) _) hr.units
section
variable {X:Cx}
theorem pv (i:Nat){x:Str}{pos:Pos}(hN:X.N[i]?=some x:=by rfl) (hv:Vis X.env.scope x:=by first | exact Or.inl rfl | exact Or.inr (Or.inl rfl) | exact Or.inr (Or.inr rfl)) (hd:(x == ("__debug__" : Str))=false:=by decide)
  (hcd:(x == ("__classdict__" : Str))=false:=by decide):PE X (.Name x pos) (Jq i):=eY hN hv hd hcd
end
theorem DG {A B:Prop}(h:B):if false=true then A else B:=by
 rw[if_neg Bool.false_ne_true]
 exact h
theorem DK {A B:Prop}(h:A):if true=true then A else B:=by
 rw[if_pos rfl]
 exact h
def Same (H H':Hp):Prop:=∀ b o,H b=some o->H' b=some o
theorem Same.refl (H:Hp):Same H H:=λ_ _ h=>h
theorem Same.trans {H H1 H2:Hp}(a:Same H H1) (b:Same H1 H2):Same H H2:=λc o h=>b c o (a c o h)
theorem Same.free {H H':Hp}(e:Same H H'){l:Addr}(h:H' l=Option.none):H l=Option.none:=by
 cases q:H l with
 | none=>rfl
 | some o=>
  rw[e l o q] at h
  cases h
end L2
namespace L2
open PySem PySem.Spec PyProof.Rows
section
variable {X:Cx}
theorem Bf:CallR X (.builtin "len") (λxs H Q=>∃ a kvs,xs=[V.ref a]/\H a=some (.dK kvs)/\Q (.int kvs.length) H):=by
 intro pins s σ H xs us Q I r h
 obtain⟨a,kvs,rfl,ha,q⟩:=h
 obtain⟨u,rfl,ru⟩:=vals1 r
 cases ru
 exact M5 I (.inl ha) λt s' I'=>⟨.int kvs.length,H,I',⟨t,rfl⟩,q⟩
end
section
variable {κ:Type} [DecidableEq κ]
end
end L2
namespace L2
open PySem PySem.Spec PyProof.Rows
theorem qx {α β:Type}{l:List α}{f:α->β->Sem (ForInStep β)}(g:α->β->β):∀ (c:β),(∀ x∈l,∀ c,f x c=pure (.yield (g x c)))->
  forIn l c f=pure (l.foldl (λc x=>g x c) c):=by
 induction l with
 | nil=>intro c _;rfl
 | cons x l ih=>
  intro c h
  rw[List.forIn_cons,h x List.mem_cons_self,pure_bind]
  exact ih _ λy hy=>h y (List.mem_cons_of_mem _ hy)
def iu (env:Env) (x:Str×NameKind) (c:List (Str×Addr)):List (Str×Addr):=if x.2=.free then (x.1,(env.cells.lookup x.1).getD 0)::c else c
def qy (env:Env) (names:List (Str×NameKind)):List (Str×Addr):=names.foldl (λc x=>iu env x c) []
theorem uR {scope:Scope}{env:Env}(h:∀ x∈scope.names,x.2=.free->∃ c,env.cells.lookup x.1=some c):closureFor scope env=pure (qy env scope.names):=by
 simp only[closureFor]
 rw[qx (iu env) [] (λx hx c=>by
  obtain⟨n,kind⟩:=x
  by_cases e:kind=.free
  ·subst e
   obtain⟨a,ha⟩:=h _ hx rfl
   have ha':env.cells.lookup n=some a:=ha
   simp[iu,cellOf,ha']
  ·have:(kind == NameKind.free)=false:=by simpa using e
   simp[iu,e,this])]
 rfl
theorem qZ {env:Env}:∀ (l:List (Str×NameKind)) (cs:List (Str×Addr)),(∀ x∈l,x.2=.free->∃ c,env.cells.lookup x.1=some c)->(∀ y c,cs.lookup y=some c->env.cells.lookup y=some c)->
  ∀ y c,(l.foldl (λc x=>iu env x c) cs).lookup y=some c->env.cells.lookup y=some c
 | [],cs,_,h2,y,c,e=>h2 y c e
 | x::r,cs,h1,h2,y,c,e=>by
  refine qZ r (iu env x cs) (λz hz=>h1 z (List.mem_cons_of_mem _ hz)) (λz d q=>?_) y c e
  unfold iu at q
  by_cases k:x.2=.free
  ·rw[if_pos k] at q
   obtain⟨a,ha⟩:=h1 x List.mem_cons_self k
   rw[List.lookup_cons] at q
   cases hb:z == x.1 with
   | true=>
    rw[hb] at q
    have ez:z=x.1:=by simpa using hb
    rw[ha] at q
    have q':a=d:=by simpa using q
    rw[ez,ha,q']
   | false=>
    rw[hb] at q
    exact h2 z d q
  ·rw[if_neg k] at q
   exact h2 z d q
theorem lu {env:Env}{names:List (Str×NameKind)}(h:∀ x∈names,x.2=.free->∃ c,env.cells.lookup x.1=some c){y:Str}{c:Addr}(e:(qy env names).lookup y=some c):env.cells.lookup y=some c:=
 qZ names [] h (λy c q=>by simp at q) y c e
theorem q8 {env:Env}{y:Str}:∀ (l:List (Str×NameKind)) (cs:List (Str×Addr)),((y,.free)∈l\/∃ c,cs.lookup y=some c)->∃ c,(l.foldl (λc x=>iu env x c) cs).lookup y=some c
 | [],cs,h=>by
  rcases h with h | h
  ·simp at h
  ·exact h
 | x::r,cs,h=>by
  refine q8 r (iu env x cs) ?_
  rcases h with h | ⟨c,h⟩
  ·rcases List.mem_cons.mp h with e | e
   ·refine .inr ⟨(env.cells.lookup y).getD 0,?_⟩
    rw[← e]
    simp[iu]
   ·exact .inl e
  ·refine .inr ?_
   unfold iu
   split
   ·rw[List.lookup_cons]
    split
    ·exact⟨_,rfl⟩
    ·exact⟨c,h⟩
   ·exact⟨c,h⟩
theorem Bg {env:Env}{names:List (Str×NameKind)}{y:Str}(h:(y,.free)∈names):∃ c,(qy env names).lookup y=some c:=q8 names [] (.inl h)
theorem mem_of_lookup {x:Str}{k:NameKind}:∀ {l:List (Str×NameKind)},l.lookup x=some k->(x,k)∈l
 | [],h=>by simp at h
 | (n,j)::r,h=>by
  rw[List.lookup_cons] at h
  cases hb:x == n with
  | true=>
   rw[hb] at h
   have e:x=n:=by simpa using hb
   have e2:j=k:=by simpa using h
   rw[e,e2]
   exact List.mem_cons_self
  | false=>
   rw[hb] at h
   exact List.mem_cons_of_mem _ (mem_of_lookup h)
theorem oJ {env:Env}:∀ {names:List (Str×NameKind)}{x:Str},names.lookup x=some .free->
  (names.map λ(n,k)=>if (k == NameKind.free&&env.scope.kind == .function&&env.kindOf n == some .cell) then (n,NameKind.cell) else (n,k)).lookup x=some .cell \/
  (names.map λ(n,k)=>if (k == NameKind.free&&env.scope.kind == .function&&env.kindOf n == some .cell) then (n,NameKind.cell) else (n,k)).lookup x=some .free
 | [],_,h=>by simp at h
 | (n,k)::r,x,h=>by
  have ih:=@oJ env r x
  cases hx:x == n with
  | true=>
   simp only[List.lookup_cons,hx] at h
   cases h
   by_cases hc:(NameKind.free == NameKind.free&&env.scope.kind == .function&&env.kindOf n == some .cell)=true
   ·refine .inl ?_
    simp only[List.map_cons,if_pos hc,List.lookup_cons,hx]
   ·refine .inr ?_
    simp only[List.map_cons,if_neg hc,List.lookup_cons,hx]
  | false=>
   simp only[List.lookup_cons,hx] at h
   have ih:=ih h
   by_cases hc:(k == NameKind.free&&env.scope.kind == .function&&env.kindOf n == some .cell)=true
   ·simp only[List.map_cons,if_pos hc,List.lookup_cons,hx]
    exact ih
   ·simp only[List.map_cons,if_neg hc,List.lookup_cons,hx]
    exact ih
theorem nq {env:Env}:∀ {names:List (Str×NameKind)}{x:Str}{j:NameKind},(∀ y∈names,y.2≠.cell)->(j=.cell\/j=.free)->
  (names.map λ(n,k)=>if (k == NameKind.free&&env.scope.kind == .function&&env.kindOf n == some .cell) then (n,NameKind.cell) else (n,k)).lookup x=some j->(x,.free)∈names
 | [],_,_,_,_,h=>by simp at h
 | (n,k)::r,x,j,hn,hj,h=>by
  have ih:=@nq env r x j (λy hy=>hn y (List.mem_cons_of_mem _ hy)) hj
  cases hx:x == n with
  | true=>
   have e:x=n:=by simpa using hx
   subst e
   by_cases hc:(k == NameKind.free&&env.scope.kind == .function&&env.kindOf x == some .cell)=true
   ·have hk:k=.free:=by
     simp only[Bool.and_eq_true,beq_iff_eq] at hc
     exact hc.1.1
    subst hk
    exact List.mem_cons_self
   ·simp only[List.map_cons,if_neg hc,List.lookup_cons,hx] at h
    have hk:k=j:=by simpa using h
    rcases hj with z | z
    ·exact absurd (hk.trans z) (hn (x,k) List.mem_cons_self)
    ·rw[hk,z]
     exact List.mem_cons_self
  | false=>
   by_cases hc:(k == NameKind.free&&env.scope.kind == .function&&env.kindOf n == some .cell)=true
   ·simp only[List.map_cons,if_pos hc,List.lookup_cons,hx] at h
    exact List.mem_cons_of_mem _ (ih h)
   ·simp only[List.map_cons,if_neg hc,List.lookup_cons,hx] at h
    exact List.mem_cons_of_mem _ (ih h)
abbrev Cx.comp (X:Cx) (N:List Str) (scope:Scope) (C:Addr) (s:Shared) (H:Hp) (fp:List Addr):Cx where
 prog:=X.prog
 w:=X.w
 K:=X.K
 mg:=X.mg
 base:=X.base
 A:=X.A
 N:=N
 s₀:=s
 H₀:=H
 env:=compEnvC scope (qy X.env scope.names) C X.env
 outer:=X.stack
 stack:=X.stack
 ex:=fp
 fn:=λ_=>false
 calm:=X.calm
 pn:=[]
 xe:=λ_ _=>False
def yU (scope:Scope) (ON N:List Str) (cap:List (Option Nat)):Bool:=
 cap.length == N.length&&(List.range N.length).all λj=>match cap[j]? with
  | some (some i)=>(match N[j]?,ON[i]? with
   | some x,some y=>x == y&&(scope.names.lookup x == some NameKind.free)
   | _,_=>false)
  | _=>true
structure CSc (osc scope:Scope) (ON N:List Str) (cap:List (Option Nat)):Prop where
 kind:scope.kind=.function
 noc:∀ y∈scope.names,y.2≠.cell
 loc:∀ y∈scope.names,y.2=.local->scope.names.lookup y.1=some .local
 fr:∀ y∈scope.names,y.2=.free->osc.names.lookup y.1=some .cell\/osc.names.lookup y.1=some .free
 cap:yU scope ON N cap=true
theorem CSc.at {osc scope:Scope}{ON N:List Str}{cap:List (Option Nat)}(S:CSc osc scope ON N cap){j i:Nat}{x:Str}(h:cap[j]?=some (some i)) (hx:N[j]?=some x):ON[i]?=some x/\scope.names.lookup x=some .free:=by
 have h0:=S.cap
 unfold yU at h0
 rw[Bool.and_eq_true] at h0
 have hj:j < N.length:=(List.getElem?_eq_some_iff.mp hx).1
 have h1:=List.all_eq_true.mp h0.2 j (List.mem_range.mpr hj)
 rw[h] at h1
 dsimp only at h1
 rw[hx] at h1
 cases hy:ON[i]? with
 | none=>rw[hy] at h1;simp at h1
 | some y=>
  rw[hy] at h1
  simp only[Bool.and_eq_true,beq_iff_eq] at h1
  exact⟨by rw[h1.1],h1.2⟩
theorem CSc.len {osc scope:Scope}{ON N:List Str}{cap:List (Option Nat)}(S:CSc osc scope ON N cap):cap.length=N.length:=by
 have h0:=S.cap
 unfold yU at h0
 rw[Bool.and_eq_true,beq_iff_eq] at h0
 exact h0.1
def vJ (σ:St):Option Nat->Option V
 | some i=>(σ[i]?).getD none
 | none=>none
def fD (cap:List (Option Nat)) (σ:St):St:=cap.map (vJ σ)
def oK (X:Cx) (ifs:List Expr) (t:TT):Prop:=
 ∀ (pins:List (Addr×Obj)) (s:Shared) (σ:St) (H:Hp) (Q:Bool->Hp->Prop),Inv X pins σ H s->t σ H Q->
  wpAny (model X.prog X.w) X.A (forIn ifs true λc r=>if r=true then do let ok ← isTrue c X.env (eval c X.env);pure (ForInStep.yield ok) else pure (ForInStep.yield r)) (TP X pins σ Q) X.xe s
def Oz:TT:=λ_ H Q=>Q true H
theorem DN {X:Cx}:oK X [] Oz:=λ_ _ _ H _ I h=>wpAny_tests_nil ⟨H,I,h⟩
theorem lw {X:Cx}{c:Expr}{t:TT}(h:PT X c t):oK X [c] t:=λpins s σ H Q I q=>wpAny_tests_one (h pins s σ H Q I q)
theorem lO {prog:Program}{w:World}{A:Around}{R:Result->Shared->Prop}{s:Shared}{elt target iter:Expr}{ifs:List Expr}{scope:Scope}{pos:Pos}{it acc:Value}{env:Env}(I:Nat->Shared->Prop)
  (turn:∀ n s,I n s->wpAny (model prog w) A (pyNext it) (λr s₁=>match r with
   | none=>R (.ok .next) s₁
   | some v=>wpAny (model prog w) A (letOwnedTupleGo target it v) (λ_ s₁'=>wpAny (model prog w) A (assign target env v) (λ_ s₂=>
     wpAny (model prog w) A (forIn ifs true λc r=>if r=true then do let ok ← isTrue c env (eval c env);pure (ForInStep.yield ok) else pure (ForInStep.yield r)) (λok s₃=>
      if ok=true then wpAny (model prog w) A (eval elt env) (λx s₄=>
       wpAny (model prog w) A (call (.builtin "list.append") [acc,x]) (λ_ s₅=>∃ m,m < n/\I m s₅) (λ_ _=>False) s₄) (λ_ _=>False) s₃
      else ∃ m,m < n/\I m s₃) (λ_ _=>False) s₂) (λ_ _=>False) s₁') (λ_ _=>False) s₁) (λ_ _=>False) s)
  (n:Nat) (h:I n s):
  codeAny (model prog w) A (.compLoop (.ListComp elt [⟨target,iter,ifs,0⟩] scope pos) 0 it acc env) R s:=by
 refine codeAny_loop rfl I (λn s hI=>?_) n h
 show wpAny _ A ((compTurn (.ListComp elt [⟨target,iter,ifs,0⟩] scope pos) 0 it acc env).onRaise (λx=>do noteFrame x env;theTreesLotGoes x)) _ _ s
 refine wpAny_noted ?_
 rw[compTurn_list]
 refine wpAny_bind (wpAny_standAt (wpAny_bind (wpAny_mono (turn n s hI) (λr s₁ h₁=>?_) λ_ _ h'=>h'.elim)))
 cases r with
 | none=>exact wpAny_pure h₁
 | some v=>
  refine wpAny_bind (wpAny_mono h₁ (λ_ s₁' h₁'=>?_) λ_ _ h'=>h'.elim)
  refine wpAny_bind (wpAny_mono h₁' (λ_ s₂ h₂=>wpAny_bind (wpAny_mono h₂ (λok s₃ h₃=>?_) λ_ _ h'=>h'.elim)) λ_ _ h'=>h'.elim)
  cases ok with
  | false=>exact wpAny_pure ⟨rfl,h₃⟩
  | true=>
   exact wpAny_bind (wpAny_bind (wpAny_mono h₃ (λx s₄ h₄=>wpAny_bind (wpAny_mono h₄ (λ_ s₅ h₅=>wpAny_pure (wpAny_pure ⟨rfl,h₅⟩)) λ_ _ h'=>h'.elim)) λ_ _ h'=>h'.elim))
def Kp (σ σ2:St):Prop:=σ.length=σ2.length/\∀ (i:Nat) (v:V),σ[i]?=some (some v)->σ2[i]?=some (some v)
theorem Ho {rest:St}{x:V}:Kp (none::rest) (some x::rest):=⟨rfl,λi v e=>by
 cases i with
 | zero=>cases e
 | succ i=>exact e⟩
structure TComp (wi:TI) (cap:List (Option Nat)) (g:TG) (tt:TT) (te:TE) (σ:St) (H:Hp) (Q:VK):Prop where
 ex:wi σ H λJ H1=>∀ D,H1 D=none->∃ W:Nat->Nat->List V->Hp->Prop,
 (∃ m,W 0 m [] (upd H1 D (.lst [])))/\∀ i m ys H,W i m ys H->H D=some (.lst ys)/\((J.stop i H/\Q (.ref D) H) \/
  (J.go i H/\∃ N:List V->Hp->Prop,(∀ ys' H',N ys' H'->∃ m',m' < m/\W (i+1) m' ys' H')/\∀ x H',J.yld i H x H'->g x (fD cap σ) H' fun σ2 H2=>Kp (fD cap σ) σ2/\tt σ2 H2 λb H3=>
   if b=true then te σ2 H3 λy H4=>H4 D=some (.lst ys)/\ys.length < sizeLine/\N (ys++[y]) (upd H4 D (.lst (ys++[y]))) else N ys H3))
def u5 (wi:TI) (cap:List (Option Nat)) (g:TG) (tt:TT) (te:TE):TE:=fun σ H Q=>TComp wi cap g tt te σ H Q
section
variable {X:Cx}{tg iter elt:Expr}{ifs:List Expr}{scope osc:Scope}{ON N:List Str}{cap:List (Option Nat)}{wi:TI}{g:TG}{tt:TT}{te:TE}{pos:Pos}
theorem Hq {pins:List (Addr×Obj)}{σ:St}{H2:Hp}{s2:Shared}{fp:List Addr}{C:Addr}(I2:Inv X pins σ H2 s2) (S:CSc osc scope ON N cap) (hsc:X.env.scope=osc) (f2:∀ b∈fp,j7 X pins H2 b)
  (hfp:∀ b∈fp,b < s2.heap.objs.size) (hC:s2.heap.objs.size<=C):(X.comp N scope C s2 H2 fp).Ok:=by
 have hfr:∀ x∈scope.names,x.2=.free->∃ c,X.env.cells.lookup x.1=some c:=λx hx e=>I2.ok.has x.1 (by
  rcases S.fr x hx e with z | z
  ·exact .inl (by rw[Env.kindOf,hsc];exact z)
  ·exact .inr (by rw[Env.kindOf,hsc];exact z))
 refine⟨I2.mod,S.kind,I2.ok.glob,I2.ok.blt,hC,λx y c h1 h2=>I2.ok.inj x y c (lu hfr h1) (lu hfr h2),λx h=>?_,λx c h=>by simp at h,I2.ok.hd,I2.ok.frames,.inl rfl,λb hb=>⟨?_,λx c e=>?_⟩,λb o e=>I2.bs b o e,?_,λb o e hb=>?_,λb hb hz=>?_,I2.stack,I2.stkFree⟩
 ·have hm:(x,NameKind.free)∈scope.names:=by
   rcases h with h | h
   ·exact nq (env:=X.env) S.noc (.inl rfl) h
   ·exact nq (env:=X.env) S.noc (.inr rfl) h
  exact Bg hm
 ·exact Nat.ne_of_lt (Nat.lt_of_lt_of_le (hfp b hb) hC)
 ·exact(f2 b hb).2.2.2.2.1 x c (lu hfr e)
 ·exact Nat.le_trans I2.ok.bsz I2.sz
 ·rcases(f2 b hb).2.2.2.1 with z | z
  ·exact I2.ok.noex b o e z
  ·exact absurd (Nat.lt_of_lt_of_le (Heap.lt_size e) (Nat.le_trans I2.ok.bsz z)) (Nat.lt_irrefl _)
 ·obtain⟨_,f1,f3,_⟩:=f2 b hb
  rcases List.mem_cons.mp (I2.stkSub b hz) with z | z
  ·exact f1 z
  ·exact f3 z
theorem uA {pins:List (Addr×Obj)}{s:Shared}{σ:St}{H:Hp}{Q:VK}{RR:Value->Addr->Result->Shared->Prop}{cqual:Str}(hc:X.calm=true) (S:CSc osc scope ON N cap) (hsc:X.env.scope=osc) (hN:X.N=ON)
  (hi:PI X tg iter wi) (hg:∀ C s H fp,PG (X.comp N scope C s H fp) tg g) (ht:∀ C s H fp,oK (X.comp N scope C s H fp) ifs tt) (he:∀ C s H fp,PE (X.comp N scope C s H fp) elt te)
  (I:Inv X pins σ H s) (h:u5 wi cap g tt te σ H Q)
  (fin:∀ D C H' s',Inv X pins σ H' s'->j7 X pins H' C->(∃ m,s'.heap.Ns C m)->Q (.ref D) H'->RR (.ref D) C (.ok .next) s'):
  wpAny (model X.prog X.w) X.A (eval iter X.env) (λx s₁=>wpAny (model X.prog X.w) X.A (pyIter x) (λitv s₂=>wpAny (model X.prog X.w) X.A (newList []) (λacc s₃=>
   wpAny (model X.prog X.w) X.A (newFunctionEnv scope X.env.globals (qy X.env scope.names) [] X.env.qual none .none (some X.env)) (λcenv s₄=>
    codeAny (model X.prog X.w) X.A (.compStart (.ListComp elt [⟨tg,iter,ifs,0⟩] scope pos) 0 itv acc { cenv with scope:=relabel scope X.env }) (RR acc cenv.locals) s₄) X.xe s₃) X.xe s₂) X.xe s₁) X.xe s:=by
 refine thn (hi pins s σ H _ I h.ex) λv s1 h1=>thn h1 λitv s2 h2=>?_
 obtain⟨it,fp,tn,J,H2,e,I2,T,st2,f2,q2⟩:=h2
 subst e
 refine wpAny_newObj_type (wpAny_newFunctionEnv S.noc (by intro y hy;simp at hy) (λh₁ hns₁ hsb₁=>?_) S.kind)
 dsimp only at hns₁ hsb₁ ⊢
 generalize hH2:s2.heap.push { cls:=.type "list",dict:=none,data:=.seq ([]:List Value).toArray }=P2 at hns₁ hsb₁ ⊢
 generalize hD:s2.heap.objs.size=D
 generalize hCe:P2.objs.size=C at hns₁ hsb₁ ⊢
 have hCD:C=D+1:=by rw[← hCe,← hH2,Heap.size_push,hD]
 have hCle:s2.heap.objs.size<=C:=by rw[hCD,hD];exact Nat.le_succ _
 have hfp:∀ b∈fp,b < s2.heap.objs.size:=λb hb=>by
  obtain⟨o,e,_⟩:=T.obj 0 _ st2 b hb
  exact Heap.lt_size e
 have below:∀ b,b < s2.heap.objs.size->b≠C:=λb hb=>Nat.ne_of_lt (Nat.lt_of_lt_of_le hb hCle)
 have k1:∀ b o,s2.heap.get? b=some o->h₁.get? b=some o:=λb o e=>hsb₁.extBut b o (below b (Heap.lt_size e)) (Heap.get?_push_of_some _ (hH2▸Heap.get?_push_of_some _ e))
 have hDC:D≠C:=by rw[hCD];exact Nat.ne_of_lt (Nat.lt_succ_self _)
 have gD:h₁.get? D=some { cls:=.type "list",dict:=none,data:=.seq ([]:List Value).toArray }:=by
  refine hsb₁.extBut D _ hDC (Heap.get?_push_of_some _ ?_)
  rw[← hH2,← hD]
  exact Heap.get?_push_size _ rfl
 have nD:H2 D=none:=I2.hok.fresh (by rw[hD];exact Nat.le_refl _)
 have nC:H2 C=none:=I2.hok.fresh hCle
 have hfr:∀ x∈scope.names,x.2=.free->∃ c,X.env.cells.lookup x.1=some c:=λx hx e=>I2.ok.has x.1 (by
  rcases S.fr x hx e with z | z
  ·exact .inl (by rw[Env.kindOf,hsc];exact z)
  ·exact .inr (by rw[Env.kindOf,hsc];exact z))
 obtain⟨W,⟨m0,w0⟩,turn⟩:=q2 D nD
 have IY:Inv (X.comp N scope C s2 H2 fp) [] (fD cap σ) (upd H2 D (.lst [])) { s2 with heap:=h₁,toks:=s2.toks+([]:List (Str×Value)).length }:=by
  have hp:s2.heap.objs.size<=D:=by rw[hD];exact Nat.le_refl _
  refine⟨Hq I2 S hsc f2 hfp hCle,rfl,I2.bare,Un.laid k1 hp nD,⟨_,hns₁,λj x v e1 e2 e3=>?_⟩,λx c e=>?_,?_,λx c e=>?_,λp hp=>by simp at hp,I2.hok.laid k1 hp ⟨Nat.zero_le _,[],_,.nil,gD⟩,?_⟩
  ·have e2':(cap.map (vJ σ))[j]?=some (some v):=e2
   rw[List.getElem?_map] at e2'
   cases q:cap[j]? with
   | none=>rw[q] at e2';cases e2'
   | some o=>
    rw[q] at e2'
    have e4:vJ σ o=some v:=Option.some.inj e2'
    cases o with
    | none=>cases e4
    | some i=>
     have hσ:σ[i]?=some (some v):=by
      have e5:(σ[i]?).getD none=some v:=e4
      cases z:σ[i]? with
      | none=>rw[z] at e5;cases e5
      | some w=>rw[z] at e5;exact congrArg some e5
     obtain⟨hx1,hx2⟩:=S.at q e1
     have hk:X.env.kindOf x=some .cell\/X.env.kindOf x=some .free:=by
      rcases S.fr _ (mem_of_lookup hx2) rfl with z | z
      ·exact .inl (by rw[Env.kindOf,hsc];exact z)
      ·exact .inr (by rw[Env.kindOf,hsc];exact z)
     obtain⟨m,hn,hl⟩:=I2.loc
     obtain⟨u,r,l⟩:=hl i x v (by rw[hN];exact hx1) hσ (by
      rcases hk with z | z
      ·exact .inr (.inl z)
      ·exact .inr (.inr z))
     refine⟨u,r,?_⟩
     rcases l with ⟨z,_⟩ | ⟨_,c,hc',hcell⟩
     ·rcases hk with y | y
      ·rw[y] at z;cases z
      ·rw[y] at z;cases z
     ·obtain⟨c',hc2⟩:=Bg (env:=X.env) (mem_of_lookup hx2)
      have e6:=lu hfr hc2
      rw[hc'] at e6
      have e7:c=c':=Option.some.inj e6
      subst e7
      obtain⟨oc,ho,hd⟩:=hcell
      exact .inr ⟨oJ (env:=X.env) hx2,c,hc2,⟨oc,k1 c oc ho,hd⟩⟩
  ·obtain⟨v,oc,ho,hd⟩:=I2.cell x c (lu hfr e)
   exact⟨v,oc,k1 c oc ho,hd⟩
  ·show upd H2 D (.lst []) C=none
   rw[aH (Ne.symm hDC)]
   exact nC
  ·have e':=lu hfr e
   obtain⟨v,oc,ho,hd⟩:=I2.cell x c e'
   show upd H2 D (.lst []) c=none
   rw[aH (λz=>absurd (Heap.lt_size ho) (by rw[z,hD];exact Nat.lt_irrefl _))]
   exact I2.freeC x c e'
  ·show (cap.map (vJ σ)).length=N.length
   rw[List.length_map]
   exact S.len
 have stat:∀ {H':Hp},(∀ b∈fp,H' b=none)->∀ b∈fp,j7 (X.comp N scope C s2 H2 fp) [] H' b:=λhn b hb=>by
  obtain⟨_,f1,f3,f4,f5,f6⟩:=f2 b hb
  refine⟨hn b hb,below b (hfp b hb),λhz=>?_,.inl hb,λx c e=>f5 x c (lu hfr e),λp hp=>by simp at hp⟩
  rcases List.mem_cons.mp (I2.stkSub b hz) with z | z
  ·exact f1 z
  ·exact f3 z
 have back:∀ {σ':St}{H':Hp}{s':Shared},Inv (X.comp N scope C s2 H2 fp) [] σ' H' s'->Inv X pins σ H' s':=λ{σ' H' s'} I'=>
  I2.call' (ch:=fp) I'.os I'.base I'.hok I'.bare λb hb=>let ⟨_,f1,_,f4,f5,f6⟩:=f2 b hb;⟨f4,f1,f5,f6⟩
 have st1:tn 0 h₁:=T.keep 0 _ _ st2 λb _ o e=>k1 b o e
 have fr1:∀ b∈fp,upd H2 D (.lst []) b=none:=λb hb=>by
  rw[aH (λz=>absurd (hfp b hb) (by rw[z,hD];exact Nat.lt_irrefl _))]
  exact(f2 b hb).1
 have loop:codeAny (model X.prog X.w) X.A (.compLoop (.ListComp elt [⟨tg,iter,ifs,0⟩] scope pos) 0 (.ref it) (.ref D) (compEnvC scope (qy X.env scope.names) C X.env)) (RR (.ref D) C) { s2 with heap:=h₁,toks:=s2.toks+([]:List (Str×Value)).length }:=by
  refine lO (λn s'=>∃ i ys H',Inv (X.comp N scope C s2 H2 fp) [] (fD cap σ) H' s'/\tn i s'.heap/\(∀ b∈fp,H' b=none)/\W i n ys H') ?_ m0 ⟨0,[],_,IY,st1,fr1,w0⟩
  rintro n s3 ⟨i,ys,H3,I3,st3,fr3,w3⟩
  obtain⟨hDy,hturn⟩:=turn i n ys H3 w3
  rcases hturn with ⟨stop,qn⟩ | ⟨go,Nx,hNx,step⟩
  ·refine thn (T.done (X.comp N scope C s2 H2 fp) rfl rfl rfl hc i [] s3 (fD cap σ) H3 _ I3 (stat fr3) st3 stop) ?_
   rintro r s4 ⟨hr,I4⟩
   subst hr
   obtain⟨m,hm,_⟩:=I4.loc
   exact fin D C H3 s4 (back I4) (I2.fpOk hCle I4.free) ⟨m,hm⟩ qn
  ·refine thn (T.item (X.comp N scope C s2 H2 fp) rfl rfl rfl hc i [] s3 (fD cap σ) H3 _ I3 (stat fr3) st3 go) ?_
   rintro r s4 ⟨u,hr,h4⟩
   subst hr
   refine thn h4 ?_
   rintro _ s5 ⟨x,H5,I5,r5,y5,st5,fr5⟩
   have I5':=I5.pinned (stat fr5) (T.obj _ _ st5)
   refine thn (hg C s2 H2 fp _ s5 (fD cap σ) H5 x u _ I5' r5 (step x H5 y5)) ?_
   rintro _ s6 ⟨σ6,H6,I6,kp6,q6⟩
   refine thn (ht C s2 H2 fp _ s6 σ6 H6 _ I6 q6) ?_
   rintro b s7 ⟨H7,I7,q7⟩
   have again:∀ {ys':List V}{H7:Hp}{s7:Shared},Inv (X.comp N scope C s2 H2 fp) ([]++oF fp s5.heap) σ6 H7 s7->Nx ys' H7->∃ m,m < n/\∃ i ys H',Inv (X.comp N scope C s2 H2 fp) [] (fD cap σ) H' s7/\tn i s7.heap/\(∀ b∈fp,H' b=none)/\W i m ys H':=λ{ys' H7 s7} I7 n7=>by
    obtain⟨m',hm,w7⟩:=hNx ys' H7 n7
    refine⟨m',hm,i+1,ys',H7,I7.unpinned.weak kp6.1 kp6.2,T.keep _ _ _ st5 λb hb o e=>(I7.pin (b,o) (List.mem_append_right _ (List.mem_append_right _ (kh hb e)))).1,λb hb=>?_,w7⟩
    obtain⟨o,e,d⟩:=T.obj _ _ st5 b hb
    exact(I7.pin (b,o) (List.mem_append_right _ (List.mem_append_right _ (kh hb e)))).2.1
   cases b with
   | false=>
    rw[if_neg Bool.false_ne_true] at q7 ⊢
    exact again I7 q7
   | true=>
    rw[if_pos rfl] at q7 ⊢
    refine thn (he C s2 H2 fp _ s7 σ6 H7 _ I7 q7) ?_
    rintro xv s8 ⟨y,H8,I8,r8,hD8,hl8,n8⟩
    refine thn (oH (X:=X.comp N scope C s2 H2 fp) _ s8 σ6 H8 (.ref D) [y] (.ref D) [xv] (λ_ H9=>Nx (ys++[y]) H9) I8 rfl (.cons r8 .nil) ⟨D,ys,y,rfl,rfl,hD8,hl8,n8⟩) ?_
    rintro _ s9 ⟨_,H9,I9,_,n9⟩
    exact again I9 n9
 subst hD hCe
 exact codeAny_compStart_list loop (T.self _ 0 _ _ _ st1 loop)
theorem vK {pins:List (Addr×Obj)}{s:Shared}{σ:St}{H:Hp}(S:CSc osc scope ON N cap) (hsc:X.env.scope=osc) (I:Inv X pins σ H s):closureFor scope X.env=pure (qy X.env scope.names):=
 uR λx hx e=>I.ok.has x.1 (by
  rcases S.fr x hx e with z | z
  ·exact .inl (by rw[Env.kindOf,hsc];exact z)
  ·exact .inr (by rw[Env.kindOf,hsc];exact z))
theorem Inv.letgo {pins:List (Addr×Obj)}{s':Shared}{σ:St}{H':Hp}{C:Addr}{h':Heap}(I:Inv X pins σ H' s') (f:j7 X pins H' C) (hs:Heap.SameBut C s'.heap h'):Inv X pins σ H' { s' with heap:=h' }:=
 I.turned (t':=s'.toks) (it:=C) (λb o hb e=>(hs.2 b hb).trans e) f.1 f.2.1 f.2.2.2.1 f.2.2.2.2.1 f.2.2.2.2.2
theorem Hr (S:CSc osc scope ON N cap) (hi:PI X tg iter wi) (hg:∀ C s H fp,PG (X.comp N scope C s H fp) tg g) (ht:∀ C s H fp,oK (X.comp N scope C s H fp) ifs tt) (he:∀ C s H fp,PE (X.comp N scope C s H fp) elt te)
  (hc:X.calm=true:=by rfl) (hsc:X.env.scope=osc:=by rfl) (hN:X.N=ON:=by rfl) (hs:∀ x,foldedSetIterable iter X.env x=pure x:=by intro _;rfl):PE X (.ListComp elt [⟨tg,iter,ifs,0⟩] scope pos) (u5 wi cap g tt te):=by
 intro pins s σ H Q I h
 rw[eval_ListComp]
 refine wpAny_comprehension_free (use:=none) rfl hs (vK S hsc I) S.kind S.loc ?_
 refine uA (RR:=λacc C=>compPost (model X.prog X.w) X.A X.xe none (EP X pins σ Q) acc C) (cqual := "") hc S hsc hN hi hg ht he I h λD C H' s' I' f hm q=>?_
 obtain⟨m,hm⟩:=hm
 exact⟨m,hm,λh' hs'=>⟨.ref D,H',I'.letgo f hs',rfl,q⟩⟩
theorem Hs {i:Nat}{y:Str}{py spos:Pos}(S:CSc osc scope ON N cap) (hNd:X.N.Nodup) (hi':X.N[i]?=some y) (hy:Loc X.env.scope y) (hi:PI X tg iter wi) (hg:∀ C s H fp,PG (X.comp N scope C s H fp) tg g) (ht:∀ C s H fp,oK (X.comp N scope C s H fp) ifs tt) (he:∀ C s H fp,PE (X.comp N scope C s H fp) elt te)
  (hsw:swapsWith (.ListComp elt [⟨tg,iter,ifs,0⟩] scope pos) (some (.Name y py)) spos.line X.env=pure true:=by rfl)
  (hc:X.calm=true:=by rfl) (hsc:X.env.scope=osc:=by rfl) (hN:X.N=ON:=by rfl) (hs:∀ x,foldedSetIterable iter X.env x=pure x:=by intro _;rfl)
  (hf:X.fn y=true\/X.env.scope.names.lookup y=some .local:=by first | exact .inl rfl | exact .inr rfl | assumption):
  PS X (.Assign [.Name y py] (.ListComp elt [⟨tg,iter,ifs,0⟩] scope pos) spos) (Dl (u5 wi cap g tt te) (pJ i)):=by
 intro pins s σ H D0 I h
 rw[exec_Assign_Name_used _ _ _ _ hsw]
 refine wpAny_bind (wpAny_standAt (wpAny_bind ?_))
 show wpAny _ _ (do let _ ← comprehension (.ListComp elt [⟨tg,iter,ifs,0⟩] scope pos) scope X.env _ (newList []) false (eval iter X.env) (some (assign (.Name y py) X.env))) _ _ s
 refine wpAny_bind (wpAny_mono (wpAny_comprehension_free (use:=some (assign (.Name y py) X.env)) (Q:=λ_ s'=>SP X pins D0 .next s') rfl hs (vK S hsc I) S.kind S.loc
  (uA (RR:=λacc C=>compPost (model X.prog X.w) X.A X.xe (some (assign (.Name y py) X.env)) (λ_ s'=>SP X pins D0 .next s') acc C) (cqual := "") hc S hsc hN hi hg ht he I h λD C H' s' I' f hm q=>?_))
  (λ_ s' hq=>wpAny_pure (wpAny_pure hq)) λ_ _ e=>e)
 obtain⟨m,hm⟩:=hm
 show wpAny _ _ (assign (.Name y py) X.env (.ref D)) _ _ s'
 refine wpAny_assign_Name (uo I' hNd hi' hy (v:=.ref D) rfl (λs'' I'' hch=>?_) hf)
 obtain⟨a,hsb,ha⟩:=hch
 have nCa:C≠a:=by
  rintro rfl
  rcases ha with z | z
  ·exact f.2.1 z
  ·exact f.2.2.2.2.1 y C z rfl
 refine⟨m,hm.sameBut hsb nCa,λh' hs'=>⟨_,H',I''.letgo f hs',q⟩⟩
end
section
variable {tt:TT}{te:TE}{Q:VK}{σ0 rest:St}{H:Hp}{D:Addr}
end
end L2
namespace L2
open PySem PySem.Spec PyProof.Rows
section
variable {X:Cx}{pins:List (Addr×Obj)}{σ:St}{H H':Hp}{s:Shared}{h':Heap}
theorem Inv.turnedL {t':Nat}{ch:List Addr}{a:Addr}{o:HO}(I:Inv X pins σ H s) (k:∀ b u,b∉ch->s.heap.get? b=some u->h'.get? b=some u) (ht:∀ b u,s.heap.get? b=some u->∃ u',h'.get? b=some u') (hf:∀ b∈ch,j7 X pins H b)
  (hp:s.heap.objs.size<=a) (new:ObjOk X.prog X.w X.K (upd H a o) h' a o):Inv X pins σ (upd H a o) { s with heap:=h',toks:=t' }:=by
 have hn:H a=none:=I.hok.fresh hp
 have nch:∀ b u,H b=some u->b∉ch:=λb u e hb=>by
  rw[(hf b hb).1] at e;cases e
 have na:∀ b u,s.heap.get? b=some u->b≠a:=λb u e=>Nat.ne_of_lt (Nat.lt_of_lt_of_le (Heap.lt_size e) hp)
 have hhok:HOk X.prog X.w X.K (upd H a o) h':=λb u e=>by
  by_cases hb:b=a
  ·subst hb;rw[bf] at e;cases e;exact new
  ·rw[aH hb] at e
   refine(I.hok b u e).stay (λc v hc q=>k c v ?_ q) (λc q=>by rw[aH (aV q hn)];exact q) λc xs q=>by rw[aH (aV q hn)];exact q
   rcases hc with rfl | hc
   ·exact nch c u e
   ·exact nch c _ hc
 refine I.step (g':=s.gens) (d':=s.drawn) (ch:=ch) (λb hb=>let ⟨_,f1,_,f4,f5,f6⟩:=hf b hb;⟨f4,f1,f5,f6⟩) (λb o _ _ hc e _=>k b o hc e) (λb o _ _ hc e _=>⟨o.slots,k b o hc e⟩)
  (λb o _ e n=>by rw[aH (na b o e)];exact n) (λb o _ e=>ht b o e) (λb xs q=>by rw[aH (aV q hn)];exact q) (λb u xs q=>by rw[aH (aV q hn)];exact q)
  (λb ps q=>⟨#[],by rw[aH (aV q hn),q];simp⟩) (λm hm=>?_) hhok I.bare
 obtain⟨oL,es,ep,ho,r⟩:=hm
 have nL:X.env.locals∉ch:=λhb=>(hf _ hb).2.1 rfl
 exact⟨oL,es,ep,k _ oL nL ho,r⟩
end
section
variable {X:Cx}
end
def Its (x:Str):It:=⟨λi _=>i < x.cps.size,λi H v H'=>H'=H/\∃ c,x.cps[i]?=some c/\v=.str ⟨#[c]⟩,λi _=>i=x.cps.size⟩
theorem vL {P:Program}{w:World}{K:PySem.W.Frag}{tg:Expr}(it:Addr) (x:Str) (t:Tok) (ty:String) (hty:["enumerate", "zip", "dict_itemiterator", "dict_reverseitemiterator", "odict_iterator", "itertools.zip_longest", "itertools.pairwise"].contains ty=false)
  (W:∀ A:Around,A.handled=none->Walks P w A it [it] [it] x.cps.size (SignAt x) (λi h=>h.IsStrIter it ty x t i))
  (slf:∀ (A:Around) (i:Nat) (s:Shared) (Q:Value->Shared->Prop) (E:Value->Shared->Prop),s.heap.IsStrIter it ty x t i->Q (.ref it) s->wpAny (model P w) A (pyIter (.ref it)) Q E s):
  Turn P w K tg (Its x) [it] it (λi h=>h.IsStrIter it ty x t i) where
 mem:=by simp
 obj:=λi h st b hb=>by
  have e:b=it:=by simpa using hb
  subst e
  obtain⟨o,e,c,d⟩:=st
  exact⟨o,e,λv z=>by rw[d] at z;cases z⟩
 keep:=λi h h' st k=>by
  obtain⟨o,e,r⟩:=st
  exact⟨o,k it (by simp) o e,r⟩
 item:=by
  intro X hP hw hK hc i pins s σ H E I hf st hg
  subst hP hw hK
  obtain⟨f0,f1,f2,f3,f4,f5⟩:=hf it (by simp)
  refine(W X.A (I.ok.hd hc)).item i s _ _ hg st λv h' tk hv st' kk=>?_
  obtain⟨c,u,hx,rfl⟩:=hv
  have I1:Inv X pins σ H { s with heap:=h',toks:=tk }:=I.turned (λb o hb e=>kk b o (by simpa using hb) e) f0 f1 f3 f4 f5
  obtain⟨o,e,cc,d⟩:=id st'
  exact⟨_,rfl,uX (s:={ s with heap:=h',toks:=tk }) e cc d hty ⟨.str ⟨#[c]⟩,H,I1,⟨u,rfl⟩,⟨rfl,c,hx,rfl⟩,st',λb hb=>(hf b hb).1⟩⟩
 done:=by
  intro X hP hw hK hc i pins s σ H E I hf st hg
  subst hP hw hK
  obtain⟨f0,f1,f2,f3,f4,f5⟩:=hf it (by simp)
  have hg':i=x.cps.size:=hg
  subst hg'
  exact(W X.A (I.ok.hd hc)).done s _ _ st λh' tk kk=>⟨rfl,I.turned (λb o hb e=>kk b o (by simpa using hb) e) f0 f1 f3 f4 f5⟩
 self:=slf
section
variable {X:Cx}{tg:Expr}
def OD (tl:TE):TI:=fun σ H R=>tl σ H λx H1=>∃ z,x=.str z/\R (Its z) H1
theorem J5 {l:Expr}{tl:TE}(hl:PE X l tl):PI X tg l (OD tl):=by
 intro pins s σ H R I h
 refine thn (hl pins s σ H _ I h) ?_
 rintro v s1 ⟨x,H1,I1,r1,q1⟩
 obtain⟨z,e,q⟩:=q1
 subst e
 obtain⟨t,rfl⟩:=r1
 have fp:∀ b∈[s1.heap.objs.size],j7 X pins H1 b:=λb hb=>by
  have e:b=s1.heap.objs.size:=by simpa using hb
  subst e
  exact I1.fpOk (Nat.le_refl _) (I1.hok.fresh (Nat.le_refl _))
 cases ha:z.cps.all (· < 128)
 ·exact wpAny_pyIter_wide ha ⟨s1.heap.objs.size,[s1.heap.objs.size],_,_,H1,rfl,I1.kept (t':=s1.toks) λb o e=>Heap.get?_push_of_some _ e,vL _ z t "str_iterator" (by decide) (λA hA=>Walks.strWide hA _ z t) (λA i s Q E st h=>wpAny_pyIter_striter_wide st h),⟨_,Heap.get?_push_size _ rfl,rfl,rfl⟩,fp,q⟩
 ·exact wpAny_pyIter_ascii ha ⟨s1.heap.objs.size,[s1.heap.objs.size],_,_,H1,rfl,I1.kept (t':=s1.toks) λb o e=>Heap.get?_push_of_some _ e,vL _ z t "str_ascii_iterator" (by decide) (λA hA=>Walks.strAscii hA _ z t) (λA i s Q E st h=>wpAny_pyIter_striter_ascii st h),⟨_,Heap.get?_push_size _ rfl,rfl,rfl⟩,fp,q⟩
end
section
variable {tt:TT}{te:TE}{Q:VK}{σ0 rest:St}{H:Hp}{D:Addr}
theorem vM {x:Str}(hσ:σ0=none::rest) (Pv:Nat->List V->Hp->Prop) (h0:Pv 0 [] (upd H D (.lst [])))
  (hl:∀ i ys H,i<=x.cps.toList.length->Pv i ys H->H D=some (.lst ys))
  (hs:∀ i c ys H,x.cps.toList[i]?=some c->Pv i ys H->tt (some (.str ⟨#[c]⟩)::rest) H λb H3=>if b=true then te (some (.str ⟨#[c]⟩)::rest) H3 λy H4=>H4 D=some (.lst ys)/\ys.length < sizeLine/\Pv (i+1) (ys++[y]) (upd H4 D (.lst (ys++[y]))) else Pv (i+1) ys H3)
  (hd:∀ ys H,Pv x.cps.toList.length ys H->Q (.ref D) H):
  ∃ W:Nat->Nat->List V->Hp->Prop,(∃ m,W 0 m [] (upd H D (.lst [])))/\∀ i m ys H,W i m ys H->H D=some (.lst ys)/\(((Its x).stop i H/\Q (.ref D) H) \/
   ((Its x).go i H/\∃ N:List V->Hp->Prop,(∀ ys' H',N ys' H'->∃ m',m' < m/\W (i+1) m' ys' H')/\∀ y H',(Its x).yld i H y H'->pJ 0 y σ0 H' fun σ2 H2=>Kp σ0 σ2/\tt σ2 H2 λb H3=>
    if b=true then te σ2 H3 λy H4=>H4 D=some (.lst ys)/\ys.length < sizeLine/\N (ys++[y]) (upd H4 D (.lst (ys++[y]))) else N ys H3)):=by
 subst hσ
 have hsz:x.cps.toList.length=x.cps.size:=Array.length_toList
 refine⟨λi m ys H=>m=x.cps.size - i/\i<=x.cps.size/\Pv i ys H,⟨x.cps.size,by simp,Nat.zero_le _,h0⟩,?_⟩
 rintro i m ys H ⟨rfl,hi,p⟩
 refine⟨hl i ys H (by omega) p,?_⟩
 by_cases hlt:i < x.cps.size
 ·refine .inr ⟨hlt,Pv (i+1),λys' H' p'=>⟨x.cps.size - (i+1),by omega,rfl,hlt,p'⟩,λy H' yl=>?_⟩
  obtain⟨e,c,hc,e2⟩:=yl
  subst e e2
  exact⟨Ho,hs i c ys _ (by rw[Array.getElem?_toList];exact hc) p⟩
 ·have e:i=x.cps.size:=by omega
  subst e
  exact .inl ⟨rfl,hd ys H (by rw[hsz];exact p)⟩
end
section
variable {X:Cx}
theorem uB:∀ {l:List (Str×Tok)}{zs:List Str},l.map (·.1)=zs->Vals (zs.map V.str) (strValues l)
 | [],_,e=>by subst e;exact .nil
 | (x,t)::r,_,e=>by subst e;exact .cons ⟨t,rfl⟩ (uB rfl)
theorem oM:∀ {zs:List Str}{us:List Value},Vals (zs.map V.str) us->∃ l:List (Str×Tok),us=strValues l/\l.map (·.1)=zs
 | [],_,r=>by cases r;exact⟨[],rfl,rfl⟩
 | z::zs,_,r=>by
  cases r with
  | cons r1 r2=>
   obtain⟨t,rfl⟩:=r1
   obtain⟨l,rfl,e⟩:=oM r2
   exact⟨(z,t)::l,rfl,by rw[List.map_cons,e]⟩
def Bh:V->List V->Hp->VK->Prop:=λx vs H Q=>∃ z y,x=.str z/\vs=[.str y]/\(y.length == 0)=false/\z.length<=1000000/\∀ l,H l=none->Q (.ref l) (upd H l (.lst ((Txt.split z y).map V.str)))
theorem uC (x y:Str):(Builtin.Str.partsBetween x (Builtin.Str.occurrences x y 0 x.length (x.length+1)) y.length).length<=x.length+2:=by
 have h:=StrLaws.occ_length_le_len x y 0 x.length (x.length+1)
 unfold Builtin.Str.partsBetween
 simp only[List.length_map,List.length_zip,List.length_cons,List.length_append,List.length_nil]
 omega
theorem split_len {x y:Str}:(Txt.split x y).length<=x.length+2:=by
 unfold Txt.split
 split
 ·simp
 ·split
  ·simp
  ·exact uC x y
theorem DP:MtR X "str.split" Bh:=by
 intro pins s σ H x vs v us Q I rx rv h
 obtain⟨z,y,rfl,rfl,hy,hz,q⟩:=h
 obtain⟨t,rfl⟩:=rx
 obtain⟨u,rfl,u',rfl⟩:=rv.one
 have sl:=@split_len z y
 have hz2:z.length<=sizeLine:=Nat.le_trans hz (by decide)
 have hz3:z.length+2<=sizeLine:=Nat.le_trans (Nat.add_le_add_right hz 2) (by decide)
 have e0:∀ (l:List (Str×Tok)) (t':Nat),l.map (·.1)=Txt.split z y->EP X pins σ Q (.ref s.heap.objs.size) { s with heap:=s.heap.push { cls:=.type "list",data:=.seq (strValues l).toArray },toks:=t' }:=λl t' e=>
  ⟨.ref s.heap.objs.size,_,I.lnew (uB e) (by
   rw[List.length_map]
   exact Nat.le_trans sl hz3),rfl,q _ I.fresh⟩
 cases h1:(decide (z.length < y.length)||decide (Builtin.Str.strKind z < Builtin.Str.strKind y))
 ·cases hf:(Builtin.Str.occurrences z y 0 z.length (z.length+1)).isEmpty
  ·refine call_meets F.slot_str_split (typeIs_str _ _ _) F.entry_str_split (F.args_str_split_2 _ _) (meets_str_split_sep z y t u' h1 hy hf hz2 (Nat.le_trans (uC z y) hz3)) ?_
   show wants _ _ _ { s with toks:=_,heap:=s.heap.push { cls:=.type "list",data:=.seq (strsFrom s.toks (Builtin.Str.partsBetween z (Builtin.Str.occurrences z y 0 z.length (z.length+1)) y.length)).toArray } }
   rw[strsFrom_eq]
   exact e0 (numbered s.toks _) _ ((numbered_texts _ _).trans ((if_neg (ne_true_of_eq_false h1)).trans (if_neg (ne_true_of_eq_false hf))).symm)
  ·exact call_meets F.slot_str_split (typeIs_str _ _ _) F.entry_str_split (F.args_str_split_2 _ _) (meets_str_split_not_found z y t u' h1 hy hf)
    (e0 [(z,t)] s.toks ((if_neg (ne_true_of_eq_false h1)).trans (if_pos hf)).symm)
 ·exact call_meets F.slot_str_split (typeIs_str _ _ _) F.entry_str_split (F.args_str_split_2 _ _) (meets_str_split_cannot_occur z y t u' h1) (e0 [(z,t)] s.toks (if_pos h1).symm)
def rJoin (K:PySem.W.Frag):V->List V->Hp->VK->Prop:=λx vs H Q=>∃ z l zs,x=.str z/\vs=[.ref l]/\SqL K H l (zs.map V.str)/\JoinOk z zs=true/\Q (.str (Str.join z zs)) H
theorem Ht:MtR X "str.join" (rJoin X.K):=by
 intro pins s σ H x vs v us Q I rx rv h
 obtain⟨z,l,zs,rfl,rfl,hl,ok,q⟩:=h
 obtain⟨t,rfl⟩:=rx
 obtain⟨u,rfl,ru⟩:=rv.one
 cases ru
 obtain⟨its,r,p,_⟩:=I.list hl
 obtain⟨l',e,e2⟩:=oM r
 subst e
 refine SC.join p.isList e2 ok λt' k=>⟨.str (Str.join z zs),H,I.tok _,⟨t',?_⟩,q⟩
 unfold Txt.join
 rw[StrLaws.glued_eq_join]
theorem uD {bs:List Bool}{us:List Value}(r:Vals (bs.map V.bl) us){i:Nat}{v:Value}(e:us[i]?=some v):∃ b,bs[i]?=some b/\v=.bool b:=by
 have hl:=r.length
 rw[List.length_map] at hl
 have hi:i < us.length:=(List.getElem?_eq_some_iff.mp e).1
 have hb:bs[i]?=some bs[i]:=List.getElem?_eq_getElem (by omega)
 obtain⟨u,h1,h2⟩:=r.get (i:=i) (x:=.bl bs[i]) (by rw[List.getElem?_map,hb] <;> rfl)
 rw[e] at h1
 cases h1
 exact⟨_,hb,h2⟩
theorem range_all {bs:List Bool}{n:Nat}(hn:n=bs.length):((List.range n).all λi=>(bs[i]?).getD true)=bs.all id:=by
 subst hn
 rw[Bool.eq_iff_iff]
 simp only[List.all_eq_true,List.mem_range,id]
 constructor
 ·intro h x hx
  obtain⟨i,hi,e⟩:=List.mem_iff_getElem.mp hx
  have:=h i hi
  rw[List.getElem?_eq_getElem hi] at this
  rw[← e]
  exact this
 ·intro h i hi
  rw[List.getElem?_eq_getElem hi]
  exact h _ (List.getElem_mem hi)
theorem range_any {bs:List Bool}{n:Nat}(hn:n=bs.length):((List.range n).any λi=>(bs[i]?).getD true)=bs.any id:=by
 subst hn
 rw[Bool.eq_iff_iff]
 simp only[List.any_eq_true,List.mem_range,id]
 constructor
 ·rintro ⟨i,hi,h⟩
  rw[List.getElem?_eq_getElem hi] at h
  exact⟨_,List.getElem_mem hi,h⟩
 ·rintro ⟨x,hx,h⟩
  obtain⟨i,hi,e⟩:=List.mem_iff_getElem.mp hx
  refine⟨i,hi,?_⟩
  rw[List.getElem?_eq_getElem hi]
  show bs[i]=true
  rw[e]
  exact h
theorem kept_iter {h h':Heap}{o:Obj}(hk:∀ b x,b∉[h.objs.size]->(h.push o).get? b=some x->h'.get? b=some x):∀ b x,h.get? b=some x->h'.get? b=some x:=
 λb x e=>hk b x (λhm=>by rw[List.mem_singleton.mp hm] at e;exact Nat.lt_irrefl _ (Heap.lt_size e)) (Heap.get?_push_of_some _ e)
theorem DQ (hc:X.calm=true:=by rfl):CallR X (.builtin "all") (λxs H Q=>∃ (p:Addr) (bs:List Bool),xs=[.ref p]/\SqL X.K H p (bs.map V.bl)/\Q (.bl (bs.all id)) H):=by
 intro pins s σ H xs us Q I r h
 obtain⟨l,bs,rfl,hq,q⟩:=h
 obtain⟨u,rfl,rx⟩:=vals1 r
 cases rx
 obtain⟨its,r',pl,hz⟩:=I.list hq
 have hl:=pl.isList
 have hlen:=r'.length
 rw[List.length_map] at hlen
 have hlt:l < s.heap.objs.size:=by obtain⟨_,e,_⟩:=hl;exact Heap.lt_size e
 have hh:=I.ok.hd hc
 refine call_all_walk (wpAny_pyIter_list hl ?_)
 refine⟨s.heap.objs.size,[s.heap.objs.size,l],[s.heap.objs.size],its.toArray.size,_,_,λi=>(bs[i]?).getD true,rfl,Walks.list (A:=X.A.in1) hh _ l (Nat.ne_of_lt hlt) its.toArray,
  ⟨⟨_,Heap.get?_push_size _ rfl,rfl,rfl⟩,hl.push _⟩,λi v s' Q' E' hP hQ=>?_,λh' tk hk=>?_⟩
 ·obtain⟨b,e,rfl⟩:=uD r' (i:=i) (v:=v) (by simpa using hP)
  simp only[e,Option.getD_some] at hQ
  exact wpAny_truthy_bool hQ
 ·refine⟨.bl (bs.all id),H,I.kept (kept_iter hk),?_,q⟩
  rw[range_all (by simp[hlen])]
  rfl
theorem DR (hc:X.calm=true:=by rfl):CallR X (.builtin "any") (λxs H Q=>∃ (p:Addr) (bs:List Bool),xs=[.ref p]/\SqL X.K H p (bs.map V.bl)/\Q (.bl (bs.any id)) H):=by
 intro pins s σ H xs us Q I r h
 obtain⟨l,bs,rfl,hq,q⟩:=h
 obtain⟨u,rfl,rx⟩:=vals1 r
 cases rx
 obtain⟨its,r',pl,hz⟩:=I.list hq
 have hl:=pl.isList
 have hlen:=r'.length
 rw[List.length_map] at hlen
 have hlt:l < s.heap.objs.size:=by obtain⟨_,e,_⟩:=hl;exact Heap.lt_size e
 have hh:=I.ok.hd hc
 refine call_any_walk (wpAny_pyIter_list hl ?_)
 refine⟨s.heap.objs.size,[s.heap.objs.size,l],[s.heap.objs.size],its.toArray.size,_,_,λi=>(bs[i]?).getD true,rfl,Walks.list (A:=X.A.in1) hh _ l (Nat.ne_of_lt hlt) its.toArray,
  ⟨⟨_,Heap.get?_push_size _ rfl,rfl,rfl⟩,hl.push _⟩,λi v s' Q' E' hP hQ=>?_,λh' tk hk=>?_⟩
 ·obtain⟨b,e,rfl⟩:=uD r' (i:=i) (v:=v) (by simpa using hP)
  simp only[e,Option.getD_some] at hQ
  exact wpAny_truthy_bool hQ
 ·refine⟨.bl (bs.any id),H,I.kept (kept_iter hk),?_,q⟩
  rw[range_any (by simp[hlen])]
  rfl
mutual
inductive Dt (K:PySem.W.Frag) (H:Hp):V->PyData->Prop
 | non:Dt K H .non .none
 | bl (b:Bool):Dt K H (.bl b) (.bool b)
 | int (i:Int):Dt K H (.int i) (.int i)
 | str (x:Str):Dt K H (.str x) (.str x)
 | lst {a:Addr}{xs:List V}{ds:List PyData}:SqL K H a xs->Dts K H xs ds->Dt K H (.ref a) (.list ds)
 | tup {a:Addr}{xs:List V}{ds:List PyData}:SqT K H a xs->Dts K H xs ds->Dt K H (.ref a) (.tuple ds)
inductive Dts (K:PySem.W.Frag) (H:Hp):List V->List PyData->Prop
 | nil:Dts K H [] []
 | cons {x:V}{xs:List V}{d:PyData}{ds:List PyData}:Dt K H x d->Dts K H xs ds->Dts K H (x::xs) (d::ds)
end
mutual
theorem Dt.reads {pins:List (Addr×Obj)}{σ:St}{H:Hp}{s:Shared}(I:Inv X pins σ H s):∀ {x:V}{d:PyData}{u:Value},Dt X.K H x d->RelV x u->∃ as,Reads s.heap u d as
 | _,_,_,.non,r=>by cases r;exact⟨[],.none⟩
 | _,_,_,.bl b,r=>by cases r;exact⟨[],.bool b⟩
 | _,_,_,.int i,r=>by obtain⟨t,rfl⟩:=r;exact⟨[],.int i t⟩
 | _,_,_,.str x,r=>by obtain⟨t,rfl⟩:=r;exact⟨[],.str x t⟩
 | _,_,_,.lst hq hs,r=>by
  cases r
  obtain⟨its,rv,pl,_⟩:=I.list hq
  obtain⟨o,e,c,n,d⟩:=pl.isList
  obtain⟨as,ra⟩:=Dts.reads I hs rv
  exact⟨_,.list e c d (by simpa using ra)⟩
 | _,_,_,.tup hq hs,r=>by
  cases r
  obtain⟨its,rv,pl,_⟩:=I.tuple hq
  obtain⟨o,e,c,n,d⟩:=pl
  obtain⟨as,ra⟩:=Dts.reads I hs rv
  exact⟨_,.tuple e c d (by simpa using ra)⟩
theorem Dts.reads {pins:List (Addr×Obj)}{σ:St}{H:Hp}{s:Shared}(I:Inv X pins σ H s):∀ {xs:List V}{ds:List PyData}{us:List Value},Dts X.K H xs ds->Vals xs us->∃ as,ReadsAll s.heap us ds as
 | _,_,_,.nil,r=>by cases r;exact⟨[],.nil⟩
 | _,_,_,.cons h hs,r=>by
  cases r with
  | cons r1 r2=>
   obtain⟨as,ra⟩:=Dt.reads I h r1
   obtain⟨bs,rb⟩:=Dts.reads I hs r2
   exact⟨_,.cons ra rb⟩
end
theorem J6 (hu:X.A.units+64 < cLine):OpR X (compareOp .Eq) (λx y H Q=>∃ d e,Dt X.K H x d/\Dt X.K H y e/\SeqAt.shaped d=true/\SeqAt.shaped e=true/\Q (.bl (PyData.eqv d e)) H):=by
 intro pins s σ H x y v u Q I rx ry h
 obtain⟨d,e,h1,h2,s1,s2,q⟩:=h
 obtain⟨as,ra⟩:=h1.reads I rx
 obtain⟨bs,rb⟩:=h2.reads I ry
 exact eq_dataH ra rb s1 s2 hu ⟨.bl _,H,I,rfl,q⟩
theorem J7 (hu:X.A.units+64 < cLine):OpR X (compareOp .NotEq) (λx y H Q=>∃ d e,Dt X.K H x d/\Dt X.K H y e/\SeqAt.shaped d=true/\SeqAt.shaped e=true/\Q (.bl (!PyData.eqv d e)) H):=by
 intro pins s σ H x y v u Q I rx ry h
 obtain⟨d,e,h1,h2,s1,s2,q⟩:=h
 obtain⟨as,ra⟩:=h1.reads I rx
 obtain⟨bs,rb⟩:=h2.reads I ry
 exact ne_dataH ra rb s1 s2 hu ⟨.bl _,H,I,rfl,q⟩
end
end L2
namespace L2
open PySem PySem.Spec PyProof.Rows
structure Cal (P:Program) (w:World) (K:PySem.W.Frag) (mg:Str->Option Value) (base:Heap) (k:Nat) (x:Str) (ps:List Str) (sp:Sp):Prop where
 ex:∃ f fd,FnOk P w K mg base CX0 k f fd ps sp/\Binds K fd ps []/\PySem.W.keepIn K (.ref f)=true/\mg x=some (.ref f)
theorem cH {P:Program}{w:World}{K:PySem.W.Frag}{mg:Str->Option Value}{base:Heap}{k:Nat}{x:Str}{ps:List Str}{sp:Sp}{st:Stmt}{f:Addr}{fd:FuncData}(F:Fun K x x st f fd)
  (hm:mg x=some (.ref f)) (hb:Binds K fd ps []) (G:FnOk P w K mg base CX0 k f fd ps sp):Cal P w K mg base k x ps sp:=⟨f,fd,G,hb,F.kp,hm⟩
theorem vN {X:Cx}{k j:Nat}{x:Str}{ps:List Str}{sp:Sp}{p pos:Pos}{e:Expr}{es:List Expr}{t:TA}(c:Cal X.prog X.w X.K X.mg X.base k x ps sp) (hr:Room j X.A) (ha:PA X (e::es) t) (hle:k<=j:=by decide) (hg:Gl X x:=by rfl)
  (hdb:(x == ("__debug__" : Str))=false:=by decide) (he:starEach (e::es) X.env=(false,eval e X.env)::starEach es X.env:=by rfl) (hpl:(backTo pos (starEach es X.env)).any (·.1)=false:=by rfl):
  PE X (.Call (.Name x p) (e::es) [] pos) (Gp sp [] E0 t):=by
 obtain⟨f,fd,G,hb,kp,hm⟩:=c.ex
 exact Hd G (hr.mono hle) hg hm kp hb .nil M8 ha hdb he hpl
theorem cT {H:Hp}{p:Addr}(h:H p=none) (o:HO):Same H (upd H p o):=λb u q=>by rw[aH (aV q h)];exact q
theorem pL {n:Nat}(h:n<=1000000):n < sizeLine:=Nat.lt_of_le_of_lt h (by decide)
section
variable {tt:TT}{te:TE}{Q:VK}{σ0 rest:St}{H:Hp}{D:Addr}
end
section
variable {K:PySem.W.Frag}{wi:TI}{cap:List (Option Nat)}{tt:TT}{te:TE}{σ rest:St}{H:Hp}{Q:VK}{xs:List V}
end
section
variable (K:PySem.W.Frag){X:Cx}
end
end L2
namespace L2
open PySem PySem.Spec PyProof.Rows
def oO (x:Str) (lo hi:Option Int):Str:=⟨((x.cps.toList.drop (HT.sIx x.length 0 lo)).take (HT.sIx x.length x.length hi - HT.sIx x.length 0 lo)).toArray⟩
theorem Hu (lo hi:Option Int) (n:Nat):Builtin.Str.strSliceIndices lo hi 1 n=(List.range (HT.sIx n n hi - HT.sIx n 0 lo)).map (HT.sIx n 0 lo+·):=by
 rw[← sliceRange_one]
 unfold Builtin.Str.strSliceIndices
 have cl:∀ (o:Option Int) (d:Nat),d<=n->(match o with | none=>(d:Int) | some i=>let i:=if i < 0 then i+(n:Int) else i;if (1:Int) > 0 then max 0 (min i (n:Int)) else max (-1) (min i ((n:Int) - 1)))=((HT.sIx n d o:Nat):Int):=λo d hd=>by
  cases o with
  | none=>rfl
  | some i=>
   simp only[HT.sIx,show (1:Int) > 0 by decide,if_true]
   by_cases h:i < 0
   ·simp only[h,if_true] <;> omega
   ·simp only[h,if_false] <;> omega
 have c1:=cl lo 0 (Nat.zero_le _)
 have c2:=cl hi n (Nat.le_refl _)
 simp only[show (1:Int) > 0 by decide,if_true] at c1 c2 ⊢
 exact congr (congrArg sliceRange c1) c2▸rfl
theorem DW (x:Str) (t:Tok) (l u:Option (Int×Tok)){Q:Value->Shared->Prop}{s:Shared}(hl:x.length<=sizeLine)
  (h:∀ t' s',(s'=s\/s'={ s with toks:=s.toks+1 })->Q (.str (oO x (l.map (·.1)) (u.map (·.1))) t') s'):(sliceMade x t l u none).post Q s:=by
 unfold sliceMade slicePicked
 have e:Builtin.Str.strSliceIndices (l.map (·.1)) (u.map (·.1)) ((((none:Option (Int×Tok)).map (·.1)).getD 1)) x.length=_:=Hu (l.map (·.1)) (u.map (·.1)) x.length
 rw[e]
 have hp:=pick_run x.cps (HT.sIx x.length 0 (l.map (·.1))) (HT.sIx x.length x.length (u.map (·.1)) - HT.sIx x.length 0 (l.map (·.1)))
 have hs:HT.sIx x.length x.length (u.map (·.1))<=x.length:=HT.sIx_le _ _ (Nat.le_refl _) _
 have hc:x.length=x.cps.toList.length:=by simp[Str.length]
 by_cases hw:((((none:Option (Int×Tok)).map (·.1)).getD 1 == 1&&((List.range (HT.sIx x.length x.length (u.map (·.1)) - HT.sIx x.length 0 (l.map (·.1)))).map (HT.sIx x.length 0 (l.map (·.1))+·)).length == x.length)=true)
 ·rw[if_pos hw]
  show Q (.str x t) s
  have hn:HT.sIx x.length x.length (u.map (·.1)) - HT.sIx x.length 0 (l.map (·.1))=x.length:=by
   have:=(Bool.and_eq_true _ _▸hw).2
   simpa using this
  have e2:oO x (l.map (·.1)) (u.map (·.1))=x:=by
   unfold oO
   rw[hn]
   by_cases h0:x.length=0
   ·have:x.cps.toList=[]:=List.eq_nil_of_length_eq_zero (by omega)
    cases x with | mk c=>simp at this;subst this;simp
   ·have h1:HT.sIx x.length 0 (l.map (·.1))=0:=by omega
    rw[h1,List.drop_zero,hc,List.take_length]
  have:=h t s (.inl rfl)
  rw[e2] at this
  exact this
 ·rw[if_neg hw,hp]
  refine⟨?_,h _ _ (.inr rfl)⟩
  show ((x.cps.toList.drop _).take _).toArray.size<=sizeLine
  rw[List.size_toArray,List.length_take,List.length_drop,← hc]
  omega
section
variable {X:Cx}
def J8:V->Option Int->Option Int->Hp->VK->Prop:=λx lo hi H Q=>∃ z,x=.str z/\z.length<=sizeLine/\Q (.str (oO z lo hi)) H
theorem J9:SlR X J8:=by
 intro pins s σ H x v vl vu lo hi sl Q I rx hs pl pu h
 obtain⟨z,rfl,hz,q⟩:=h
 obtain⟨t,rfl⟩:=rx
 refine⟨"str",_,slot_str_getitem.lookup,typeIs_str s z t,?_⟩
 have part:∀ {v:Value}{o:Option Int},IsPart v o->∃ p:Option (Int×Tok),v=partValue p/\p.map (·.1)=o:=λp=>by
  cases p with
  | none=>exact⟨none,rfl,rfl⟩
  | int i t=>exact⟨some (i,t),rfl,rfl⟩
 obtain⟨l,rfl,rfl⟩:=part pl
 obtain⟨u,rfl,rfl⟩:=part pu
 refine wpAny_getItem_str_slice (l:=l) (u:=u) (st:=none) hs rfl (DW z t l u hz λt' s' hs'=>?_)
 rcases hs' with rfl | rfl
 ·exact⟨.str (oO z (l.map (·.1)) (u.map (·.1))),H,I,⟨t',rfl⟩,q⟩
 ·exact⟨.str (oO z (l.map (·.1)) (u.map (·.1))),H,I.tok _,⟨t',rfl⟩,q⟩
def J_ (K:PySem.W.Frag):V->Option Int->Option Int->Hp->VK->Prop:=λx lo hi H Q=>J2 K x lo hi H Q\/J8 x lo hi H Q
theorem Ka:SlR X (J_ X.K):=sl_list.or J9
end
end L2
namespace L2
open PySem PySem.Spec PyProof.Rows
section
variable {X:Cx}{pins:List (Addr×Obj)}{σ:St}{H H':Hp}{s:Shared}{h':Heap}
end
section
variable {X:Cx}
end
end L2
namespace L2
open PySem PySem.Spec PyProof.Rows
section
variable {X:Cx}
end
end L2
namespace L2
open PySem PySem.Spec PyProof.Rows
section
variable {prog:Program}{w:World}{A:Around}{E:Value->Shared->Prop}{s:Shared}
end
section
variable {X:Cx}{tg:Expr}
end
end L2
namespace L2
open PySem PySem.Spec PyProof.Rows
section
variable {X:Cx}{tg:Expr}
end
end L2
namespace L2
open PySem PySem.Spec PyProof.Rows
section
variable {prog:Program}{w:World}{A:Around}{E:Value->Shared->Prop}{s:Shared}
theorem nextT {it t:Addr}{i:Nat}{items:Array Value}{x:Value}{Q:Value->Shared->Prop}(hit:s.heap.IsTupleIter it t i) (ht:s.heap.IsTuple t items) (hx:items[i]?=some x)
  (hQ:∀ h',h'.IsTupleIter it t (i+1)->Heap.SameBut it s.heap h'->Q x { s with heap:=h' }):wpAny (model prog w) A (Builtin.SmallTypes.nextOf (.ref it)) Q E s:=by
 obtain⟨o,eo,co,fo⟩:=id hit
 obtain⟨p,ep,_,np,dp⟩:=ht
 unfold Builtin.SmallTypes.nextOf
 refine wpAny_bind (wpAny_callSpecial?_slot (name:=Str.ofString "__next__") hit.typeIs F.slot_tuple_iterator_next (wpAny_call_entry F.slot_tuple_iterator_next hit.typeIs F.entry_tuple_iterator_next ?_ (F.args_tuple_iterator_next_1 _)))
 show wpAny _ _ (field (.ref it) 0 >>= _) _ _ _
 refine wpAny_bind (wpAny_field eo fo (x:=.ref t) rfl ?_)
 show wpAny _ _ (if (Value.ref t == Value.none)=true then _ else _) _ _ _
 rw[if_neg (λz:(Value.ref t == Value.none)=true=>Bool.false_ne_true z)]
 show wpAny _ _ (field (.ref it) 1 >>= _) _ _ _
 refine wpAny_bind (wpAny_field eo fo (x:=.int i 0) rfl ?_)
 show wpAny _ _ (seqItems? (.ref t) >>= _) _ _ _
 refine wpAny_bind (wpAny_seqItems ep dp ?_);simp only[Int.toNat_natCast,hx]
 refine wpAny_bind (wpAny_setField eo fo (by simp) (wpAny_pure ⟨x,rfl,wpAny_pure (hQ _ ⟨_,Heap.get?_update_self _ eo (Obj.isFreed_of_fields (Obj.data_mapFields fo _)),(Obj.cls_mapFields ..).trans co,?_⟩ (Heap.SameBut.update ..))⟩))
 rw[Obj.data_mapFields fo]
 simp[rawInt]
theorem Bj {it t:Addr}{i:Nat}{items:Array Value}{Q:Value->Shared->Prop}(hh:A.handled=none) (hit:s.heap.IsTupleIter it t i) (ht:s.heap.IsTuple t items) (hx:items[i]?=none)
  (hE:∀ h' e,Heap.ExtBut it s.heap h'->(∃ o,h'.get? e=some o/\o.cls=.type "StopIteration")->E (.ref e) { s with heap:=h' }):wpAny (model prog w) A (Builtin.SmallTypes.nextOf (.ref it)) Q E s:=by
 obtain⟨o,eo,co,fo⟩:=id hit
 obtain⟨p,ep,_,np,dp⟩:=ht
 unfold Builtin.SmallTypes.nextOf
 refine wpAny_bind (wpAny_callSpecial?_slot (name:=Str.ofString "__next__") hit.typeIs F.slot_tuple_iterator_next (wpAny_call_entry F.slot_tuple_iterator_next hit.typeIs F.entry_tuple_iterator_next ?_ (F.args_tuple_iterator_next_1 _)))
 show wpAny _ _ (field (.ref it) 0 >>= _) _ _ _
 refine wpAny_bind (wpAny_field eo fo (x:=.ref t) rfl ?_)
 show wpAny _ _ (if (Value.ref t == Value.none)=true then _ else _) _ _ _
 rw[if_neg (λz:(Value.ref t == Value.none)=true=>Bool.false_ne_true z)]
 show wpAny _ _ (field (.ref it) 1 >>= _) _ _ _
 refine wpAny_bind (wpAny_field eo fo (x:=.int i 0) rfl ?_)
 show wpAny _ _ (seqItems? (.ref t) >>= _) _ _ _
 refine wpAny_bind (wpAny_seqItems ep dp ?_);simp only[Int.toNat_natCast,hx]
 refine wpAny_bind (wpAny_rule (wpAny_bind (wpAny_setField eo fo (by simp) ?_)))
 show wpAny _ _ (newExc (.type "StopIteration") [] >>= _) _ _ _
 refine wpAny_bind ?_;simp only[newExc,newTuple]
 refine wpAny_bind (wpAny_newObj_type (wpAny_bind (m:=firstArgMember _ _) (wpAny_of_eq (a:=Value.none) (by first | rfl | (simp only[firstArgMember];rfl)) (wpAny_newObj_type ?_ (by size_fits)))) (by size_fits))
 simp only[raiseNew]
 refine wpAny_bind (wpAny_handled ?_);rw[hh]
 refine wpAny_bind (wpAny_pure (wpAny_throw ?_))
 exact hE _ _ (((Heap.SameBut.update ..).extBut.push _).push _) ⟨_,Heap.get?_push_size _ rfl,rfl⟩
theorem Kc (hh:A.handled=none) (it t:Addr) (hne:t≠it) (items:Array Value):Draws prog w A it [it,t] items.size (λi v=>items[i]?=some v) (λi h=>h.IsTupleIter it t i/\h.IsTuple t items) where
 live:=λi h st=>let ⟨o,e,_⟩:=st.1;⟨o,e⟩
 frame:=λi h h' st k=>⟨st.1.at λo e=>k it (by simp) o e,let ⟨o,e,c⟩:=st.2;⟨o,k t (by simp) o e,c⟩⟩
 item:=λi s Q E hi st hQ=>nextT st.1 st.2 (Array.getElem?_eq_getElem hi) λh' a b=>hQ _ h' s.toks (Array.getElem?_eq_getElem hi) ⟨a,let ⟨o,e,c⟩:=st.2;⟨o,(b.2 t hne).trans e,c⟩⟩ b
 done:=λs Q E st hE=>Bj hh st.1 st.2 (Array.getElem?_eq_none (Nat.le_refl _)) hE
structure ZA (z TI TO i1 i2:Addr) (fp1 fp2:List Addr):Prop where
 TIz:TI≠z
 TOz:TO≠z
 TIO:TI≠TO
 m1:i1∈fp1
 m2:i2∈fp2
 z1:z∉fp1
 z2:z∉fp2
 o1:TO∉fp1
 o2:TO∉fp2
 x12:i1∉fp2
 x21:i2∉fp1
variable {z TI TO i1 i2:Addr}{fp1 fp2:List Addr}{n1 n2:Nat}{P1 P2:Nat->Value->Prop}{St1 St2:Nat->Heap->Prop}
end
inductive SK where | L | T
def SK.ty:SK->String
 | .L => "list_iterator"
 | .T => "tuple_iterator"
def SK.is (k:SK) (h:Heap) (a:Addr) (items:Array Value):Prop:=match k with
 | .L=>h.IsList a items
 | .T=>h.IsTuple a items
def SK.at (k:SK) (h:Heap) (it a:Addr) (i:Nat):Prop:=match k with
 | .L=>h.IsListIter it a i
 | .T=>h.IsTupleIter it a i
theorem SK.at_of {k:SK}{h:Heap}{it a:Addr}(e:h.get? it=some { cls:=.type k.ty,data:=.fields #[.ref a,.int 0 0] }):k.at h it a 0:=by
 cases k with
 | L=>exact⟨_,e,rfl,rfl⟩
 | T=>exact⟨_,e,rfl,rfl⟩
theorem SK.at_obj {k:SK}{h:Heap}{it a:Addr}{i:Nat}(st:k.at h it a i):∃ o,h.get? it=some o/\∀ v,o.data≠.cell v:=by
 cases k with
 | L=>obtain⟨o,e,c,d⟩:=st;exact⟨o,e,λv y=>by rw[d] at y;cases y⟩
 | T=>obtain⟨o,e,c,d⟩:=st;exact⟨o,e,λv y=>by rw[d] at y;cases y⟩
theorem SK.at_keep {k:SK}{h h':Heap}{it a:Addr}{i:Nat}(st:k.at h it a i) (q:∀ o,h.get? it=some o->h'.get? it=some o):k.at h' it a i:=by
 cases k with
 | L=>exact Heap.IsListIter.at st q
 | T=>exact Heap.IsTupleIter.at st q
theorem SK.is_lt {k:SK}{h:Heap}{a:Addr}{items:Array Value}(p:k.is h a items):a < h.objs.size:=by
 cases k with
 | L=>obtain⟨o,e,_⟩:=p;exact Heap.lt_size e
 | T=>obtain⟨o,e,_⟩:=p;exact Heap.lt_size e
theorem SK.draws {prog:Program}{w:World}{A:Around}(k:SK) (hh:A.handled=none) (it a:Addr) (hne:a≠it) (items:Array Value):Draws prog w A it [it,a] items.size (λi v=>items[i]?=some v) (λi h=>k.at h it a i/\k.is h a items):=by
 cases k with
 | L=>exact Draws.list hh it a hne items
 | T=>exact Kc hh it a hne items
end L2
namespace L2
open PySem PySem.Spec PyProof.Rows
section
variable {prog:Program}{w:World}{A:Around}{E:Value->Shared->Prop}{s:Shared}
end
def SK.sq (k:SK) (K:PySem.W.Frag) (H:Hp) (a:Addr) (xs:List V):Prop:=match k with
 | .L=>SqL K H a xs
 | .T=>SqT K H a xs
section
variable {X:Cx}{pins:List (Addr×Obj)}{σ:St}{H:Hp}{s:Shared}
theorem Inv.sk (I:Inv X pins σ H s){k:SK}{a:Addr}{xs:List V}(h:k.sq X.K H a xs):∃ its:List Value,Vals xs its/\k.is s.heap a its.toArray:=by
 cases k with
 | L=>obtain⟨its,r,p,_⟩:=I.list h;exact⟨its,r,p.isList⟩
 | T=>obtain⟨its,r,p,_⟩:=I.tuple h;exact⟨its,r,p⟩
theorem Inv.sk_inj (I:Inv X pins σ H s){k:SK}{a:Addr}{xs ys:List V}(h:k.sq X.K H a xs) (h':k.sq X.K H a ys):xs=ys:=by
 cases k with
 | L=>exact I.list_inj h h'
 | T=>exact I.tuple_inj h h'
end
section
variable {X:Cx}
end
end L2
namespace L2
open PySem PySem.Spec PyProof.Rows
section
variable {prog:Program}{w:World}{A:Around}{R:Result->Shared->Prop}{J:Addr}{fp wr:List Addr}{G:Array GenState->Array GenState->Prop}{n:Nat}{P:Nat->Value->Prop}{St:Nat->Shared->Prop}
end
section
variable {prog:Program}{w:World}{A:Around}{E:Value->Shared->Prop}{s:Shared}
end
end L2
namespace L2
open PySem PySem.Spec PyProof.Rows
section
variable {X:Cx}
end
end L2
namespace L2
open PySem PySem.Spec PyProof.Rows
section
variable {X:Cx}{tg:Expr}
end
end L2
namespace L2
open PySem PySem.Spec PyProof.Rows
section
variable {X:Cx}{tg:Expr}{pins:List (Addr×Obj)}{σ:St}{H:Hp}{s:Shared}{apos cpos pos:Pos}{td ty tx tv:TE}{o e f:Expr}
theorem KT.get {K:PySem.W.Frag}{kvs:List (List Key×V)}{xs:List (List Key×Addr×Value)}(r:KT K H kvs xs):∀ {i:Nat}{p:List Key×V},kvs[i]?=some p->∃ b u,xs[i]?=some (p.1,b,u)/\CKey K H b p.1:=by
 induction r with
 | nil=>intro i p h;simp at h
 | @cons p q ps qs h t ih=>
  intro i p' e
  cases i with
  | zero=>
   cases e
   obtain⟨k,b,u⟩:=q
   obtain⟨h1,h2,_⟩:=h
   dsimp only at h1 h2
   exact⟨b,u,by rw[h1];rfl,h2⟩
  | succ i=>exact ih (i:=i) e
end
end L2
namespace L2
open PySem PySem.Spec PyProof.Rows
section
variable {prog:Program}{w:World}{κ:Type} [DecidableEq κ] {kd:HeapKind prog w κ}{A:Around}{E:Value->Shared->Prop}{s:Shared}{d a it vw:Addr}{xs:List (κ×Addr×Value)}{k:κ}{v ok ov:Value}
end
end L2
namespace L2
open PySem PySem.Spec PyProof.Rows
section
variable {X:Cx}{tg:Expr}{pins:List (Addr×Obj)}{σ:St}{H:Hp}{s:Shared}{apos cpos pos:Pos}{td:TE}{o:Expr}
def OJ (K:PySem.W.Frag) (a:Addr) (n:Nat):It:=
 ⟨λi H=>∃ kvs,Rd H a (.dT kvs)/\kvs.length=n/\i < n,λi H x H'=>∃ t kvs b ks y,H t=none/\x=.ref t/\H'=upd H t (.tup [.ref b,y])/\Rd H a (.dT kvs)/\kvs[i]?=some (ks,y)/\CKey K H b ks,λi H=>∃ kvs,Rd H a (.dT kvs)/\kvs.length=n/\n<=i⟩
noncomputable def iDi (K:PySem.W.Frag) (tl:TE):TI:=fun σ H R=>tl σ H λx H1=>∃ a kvs,x=.ref a/\Rd H1 a (.dT kvs)/\R (OJ K a kvs.length) H1
end
end L2
namespace L2
open PySem PySem.Spec PyProof.Rows
section
variable {prog:Program}{w:World}{A:Around}{E:Value->Shared->Prop}{s:Shared}
end
section
variable {X:Cx}{tg:Expr}
end
end L2
namespace L2
open PySem PySem.Spec PyProof.Rows
section
variable {prog:Program}{w:World}{A:Around}{E:Value->Shared->Prop}{s:Shared}
end
section
variable {X:Cx}
end
end L2
namespace HT
open PySem PyProof.Rows
section
open PySem.SeqAt
open PySem.AutoSeq1 (wpAny_loadPart')
open PySem.MeetsSeq PySem.MeetsSeq2 PySem.MeetsSeq3
theorem IntsAre.drop_cons {vs:List Value}{x:Int}{ns:List Int}(h:IntsAre vs (x::ns)):∃ t ws,vs=.int x t::ws/\IntsAre ws ns:=by
 cases h with
 | cons a t h'=>exact⟨t,_,rfl,h'⟩
theorem IntsAre.drop_nil {vs:List Value}(h:IntsAre vs []):vs=[]:=by
 cases h
 rfl
theorem sI {its:Array Value}{i:Nat}{v:Value}{ws:List Value}(h:its.toList.drop i=v::ws):its[((i:Nat):Int).toNat]?=some v/\its.toList.drop (i+1)=ws/\i < its.size:=by
 have h1:its.toList[i]?=some v:=by
  have:=congrArg (λl=>l[0]?) h
  simpa using this
 have h2:i < its.toList.length:=by
  rcases Nat.lt_or_ge i its.toList.length with z | z
  ·exact z
  ·rw[List.drop_of_length_le z] at h;cases h
 refine⟨by simpa using h1,?_,by simpa using h2⟩
 rw[← List.tail_drop,h]
 rfl
theorem vO {its:Array Value}{i:Nat}(h:its.toList.drop i=[]):its[((i:Nat):Int).toNat]?=none/\its.size<=i:=by
 have h1:its.size<=i:=by
  have:=congrArg List.length h
  simp at this
  omega
 exact⟨by simp;omega,h1⟩
theorem Kd (p q:Addr) (its jts:Array Value) (n n2:Nat) (dd dd2:Option Addr) (sl sl2:Array (Option Value)):∀ (ns ms:List Int) (i:Nat),i<=its.size->i<=jts.size->IntsAre (its.toList.drop i) ns->IntsAre (jts.toList.drop i) ms->
  Meets (Builtin.«list.__eq__.loop» ⟨[.ref p,.ref q,rawInt i,rawInt 0],[]⟩)
   (λA R s=>s.heap.get? p=some { cls:=.type "list",dict:=dd,data:=.seq its n,slots:=sl }/\s.heap.get? q=some { cls:=.type "list",dict:=dd2,data:=.seq jts n2,slots:=sl2 }/\R (.ok (.ret (.bool (lexLt ns ms)))) s):=by
 intro ns
 induction ns with
 | nil=>
  intro ms i i1 i2 hi hj prog w A R s h
  obtain⟨hp,g,d,tk,os⟩:=s;obtain⟨hl,hb,h⟩:=h
  have e1:=vO (IntsAre.drop_nil hi)
  wp_walk using wpAny_loadPart' hl,wpAny_loadPart' hb
  rw[e1.1]
  cases ms with
  | nil=>
   have e2:=vO (IntsAre.drop_nil hj)
   rw[e2.1]
   wp_walk using wpAny_loadPart' hl,wpAny_loadPart' hb
   show R (.ok (.ret (.bool (decide (its.size < jts.size))))) _
   rw[decide_eq_false (by omega)]
   exact h
  | cons y ms=>
   obtain⟨t,ws,ew,_⟩:=IntsAre.drop_cons hj
   have e2:=sI ew
   rw[e2.1]
   wp_walk using wpAny_loadPart' hl,wpAny_loadPart' hb
   show R (.ok (.ret (.bool (decide (its.size < jts.size))))) _
   rw[decide_eq_true (by omega)]
   exact h
 | cons x ns ih=>
  intro ms i i1 i2 hi hj prog w A R s h
  obtain⟨hp,g,d,tk,os⟩:=s;obtain⟨hl,hb,h⟩:=h
  obtain⟨t,vs,ev,hi'⟩:=IntsAre.drop_cons hi
  have e1:=sI ev
  wp_walk using wpAny_loadPart' hl,wpAny_loadPart' hb
  rw[e1.1]
  cases ms with
  | nil=>
   have e2:=vO (IntsAre.drop_nil hj)
   rw[e2.1]
   wp_walk using wpAny_loadPart' hl,wpAny_loadPart' hb
   show R (.ok (.ret (.bool (decide (its.size < jts.size))))) _
   rw[decide_eq_false (by omega)]
   exact h
  | cons y ms=>
   obtain⟨u,ws,ew,hj'⟩:=IntsAre.drop_cons hj
   have e2:=sI ew
   rw[e2.1]
   rw[yO] at h
   obtain⟨e,he,hiff⟩:=Ds A.in1 ⟨hp,g,d,tk,os⟩ x t y u
   refine wpAny_bind (he prog w _ _ ?_)
   cases e with
   | true=>
    rw[if_pos (hiff.mp rfl)] at h
    have hc:((i:Int)+1)=((i+1:Nat):Int):=by omega
    wp_walk
    rw[hc]
    refine⟨plainId_quiet plain_eq_loop _,codeAny_builtin entry_eq_loop ?_⟩
    rw[Around.under_plainId plain_eq_loop _]
    exact ih ms (i+1) (by omega) (by omega) (by rw[e1.2.1];exact hi') (by rw[e2.2.1];exact hj') prog w A R _ ⟨hl,hb,h⟩
   | false=>
    rw[if_neg (λz=>absurd (hiff.mpr z) Bool.false_ne_true)] at h
    have hri:=Du A.in1 ⟨hp,g,d,tk,os⟩ x t y u prog w
    wp_walk using wpAny_loadPart' hl,wpAny_loadPart' hb
    rw[e1.1,e2.1]
    wp_walk using hri
    exact h
theorem Hv (p q:Addr) (its jts:Array Value) (n n2:Nat) (dd dd2:Option Addr) (sl sl2:Array (Option Value)) (ns ms:List Int) (hi:IntsAre its.toList ns) (hj:IntsAre jts.toList ms):
  Meets (Builtin.«list.__lt__» ⟨[.ref p,.ref q],[]⟩)
   (λA R s=>s.heap.get? p=some { cls:=.type "list",dict:=dd,data:=.seq its n,slots:=sl }/\s.heap.get? q=some { cls:=.type "list",dict:=dd2,data:=.seq jts n2,slots:=sl2 }/\R (.ok (.ret (.bool (lexLt ns ms)))) s):=by
 intro prog w A R s h
 obtain⟨hp,g,d,tk,os⟩:=s;obtain⟨hl,hb,h⟩:=h
 have f3:=AutoSeq1.sub_list_list
 wp_walk using wpAny_loadPart' hl,wpAny_loadPart' hb
 refine⟨plainId_quiet plain_eq_loop _,codeAny_builtin entry_eq_loop ?_⟩
 rw[Around.under_plainId plain_eq_loop _]
 exact Kd p q its jts n n2 dd dd2 sl sl2 ns ms 0 (Nat.zero_le _) (Nat.zero_le _) (by simpa using hi) (by simpa using hj) prog w A R _ ⟨hl,hb,h⟩
end
theorem lt_listInts {prog:Program}{w:World}{A:Around}{E:Value->Shared->Prop}{s:Shared}{p q:Addr}{its jts:Array Value}{ns ms:List Int}{Q:Value->Shared->Prop}(hl:s.heap.IsList p its) (hb:s.heap.IsList q jts) (hi:IntsAre its.toList ns) (hj:IntsAre jts.toList ms)
  (hu:A.units < cLine) (h:Q (.bool (lexLt ns ms)) s):wpAny (model prog w) A (compareOp .Lt (.ref p) (.ref q)) Q E s:=by
 obtain⟨⟨c1,d1,o1,s1⟩,ho,hc,n,hd⟩:=id hl
 obtain⟨⟨c2,d2,o2,s2⟩,ho2,hc2,n2,hd2⟩:=id hb
 simp only at hc hd hc2 hd2
 subst hc hd hc2 hd2
 exact richCompare_meets_room (op:=.Lt) ⟨_,ho,rfl⟩ ⟨_,ho2,rfl⟩ PySem.F.slot_list_lt PySem.F.entry_list_lt (PySem.F.args_list_lt_2 _ _) (Hv p q its jts n n2 d1 d2 s1 s2 ns ms hi hj)
  ⟨ho,ho2,⟨(λx=>nomatch x),h⟩⟩ hu
end HT
namespace L2
open PySem PyProof.Rows
section
variable {X:Cx}
def DX (K:PySem.W.Frag):R2:=λx y H Q=>∃ a b ns ms,x=.ref a/\y=.ref b/\SqL K H a (ns.map V.int)/\SqL K H b (ms.map V.int)/\Q (.bl (HT.lexLt ns ms)) H
theorem Ke (hu:X.A.units < cLine):OpR X (compareOp .Lt) (DX X.K):=by
 intro pins s σ H x y v u Q I rx ry h
 obtain⟨a,b,ns,ms,rfl,rfl,ha,hb,q⟩:=h
 cases rx
 cases ry
 obtain⟨its,r1,p1,_⟩:=I.list ha
 obtain⟨jts,r2,p2,_⟩:=I.list hb
 exact HT.lt_listInts p1.isList p2.isList (intsAre_of r1) (intsAre_of r2) hu ⟨.bl (HT.lexLt ns ms),H,I,rfl,q⟩
end
end L2
namespace L2
open PySem PySem.Spec PyProof.Rows
def en1 (k:SK) (h:Heap) (l:Addr):Heap:=h.push { cls:=.type k.ty,data:=.fields #[.ref l,.int 0 0] }
def en2 (k:SK) (h:Heap) (l:Addr):Heap:=(en1 k h l).push { cls:=.type "enumerate",data:=.fields #[.none,.bool false,.ref h.objs.size,rawInt 0,.none,.none] }
theorem Hw (k:SK) (l:Addr) (xs:Array Value):Meets (Builtin.«enumerate.__new__» ⟨[.type "enumerate",.ref l],[]⟩) (λ_ R s=>k.is s.heap l xs/\R (.ok (.ret (.ref (en1 k s.heap l).objs.size))) { s with heap:=en2 k s.heap l }):=
 .of_wp λprog w A R s h=>by
  obtain⟨hp,g,d,tk,os⟩:=s
  obtain⟨q1,h⟩:=h
  have hsub:=sub_enumerate
  cases k with
  | L=>
   have e1:Heap.IsList (Shared.heap ⟨hp,g,d,tk,os⟩) l xs:=q1
   wp_walk using wpAny_pyIter_list e1
   refine wpAny_stack_any λst=>wpAny_pure ?_
   split
   ·rename_i c _ _ _ _ _
    cases (c == Value.type "enumerate") <;> (wp_walk using wpAny_pyIter_list e1;exact⟨_,rfl,h⟩)
   ·wp_walk using wpAny_pyIter_list e1
    exact⟨_,rfl,h⟩
  | T=>
   have e1:Heap.IsTuple (Shared.heap ⟨hp,g,d,tk,os⟩) l xs:=q1
   wp_walk using wpAny_pyIter_tuple e1
   refine wpAny_stack_any λst=>wpAny_pure ?_
   split
   ·rename_i c _ _ _ _ _
    cases (c == Value.type "enumerate") <;> (wp_walk using wpAny_pyIter_tuple e1;exact⟨_,rfl,h⟩)
   ·wp_walk using wpAny_pyIter_tuple e1
    exact⟨_,rfl,h⟩
theorem yV {prog:Program}{w:World}{A:Around}{E:Value->Shared->Prop}{s:Shared}{k:SK}{l:Addr}{xs:Array Value}{Q:Value->Shared->Prop}(q1:k.is s.heap l xs)
  (h:∀ h',IsEnum h' (s.heap.objs.size+1) s.heap.objs.size 0 .none->k.at h' s.heap.objs.size l 0->(∀ b o,s.heap.get? b=some o->h'.get? b=some o)->Q (.ref (s.heap.objs.size+1)) { s with heap:=h' }):
  wpAny (model prog w) A (call (.type "enumerate") [.ref l]) Q E s:=by
 refine callType_new F.called_enumerate (by decide) (F.typeCall_enumerate_1 _) (F.newCall_enumerate_1 _) (λobj=>F.args_object_init_2 obj _) F.entry_enumerate_new (Hw k l xs) ⟨q1,?_⟩
 have hz:(en1 k s.heap l).objs.size=s.heap.objs.size+1:=Heap.size_push ..
 show _/\_
 rw[hz]
 have he:IsEnum (en2 k s.heap l) (s.heap.objs.size+1) s.heap.objs.size 0 .none:=by
  have z:=Heap.get?_push_size (en1 k s.heap l) (o:={ cls:=.type "enumerate",data:=.fields #[.none,.bool false,.ref s.heap.objs.size,rawInt 0,.none,.none] }) rfl
  rw[hz] at z
  exact z
 exact⟨⟨_,he,rfl⟩,h _ he (SK.at_of (Heap.get?_push_of_some _ (Heap.get?_push_size _ rfl))) λb o x=>Heap.get?_push_of_some _ (Heap.get?_push_of_some _ x)⟩
def Kf (K:PySem.W.Frag) (k:SK) (a:Addr):It:=
 ⟨λi H=>∃ xs x,k.sq K H a xs/\xs[i]?=some x,λi H v H'=>∃ t x,H t=none/\v=.ref t/\H'=upd H t (.tup [.int (i:Nat),x])/\∀ xs,k.sq K H a xs->xs[i]?=some x,λi H=>∃ xs,k.sq K H a xs/\xs.length=i⟩
def EAt (k:SK) (e it a:Addr) (i:Nat) (h:Heap):Prop:=(∃ old,IsEnum h e it (i:Nat) old)/\k.at h it a i
theorem yW {P:Program}{w:World}{K:PySem.W.Frag}{es:List Expr}{x1:Nat}{tpos:Pos}(k:SK) (a e it:Addr) (hne:e≠it) (hae:a≠e) (hai:a≠it):Turn P w K (.Tuple es x1 tpos) (Kf K k a) [it,e] e (EAt k e it a) where
 mem:=by simp
 obj:=λi h st b hb=>by
  obtain⟨⟨old,he⟩,s1⟩:=st
  simp only[List.mem_cons,List.not_mem_nil,or_false] at hb
  rcases hb with rfl | rfl
  ·exact SK.at_obj s1
  ·exact⟨_,he,λv y=>by have y':Data.fields _=Data.cell v:=y;cases y'⟩
 keep:=λi h h' st kk=>by
  obtain⟨⟨old,he⟩,s1⟩:=st
  exact⟨⟨old,kk e (by simp) _ he⟩,SK.at_keep s1 λo q=>kk it (by simp) o q⟩
 item:=by
  intro X hP hw hK hc i pins s σ H E I hf st hg
  subst hP hw hK
  obtain⟨xs,x,hq,hx⟩:=hg
  obtain⟨⟨old,he⟩,s1⟩:=st
  obtain⟨its,rv,p1⟩:=I.sk hq
  obtain⟨u,hu,ru⟩:=rv.get hx
  have hh:=I.ok.hd hc
  have hi1:i < its.toArray.size:=by
   rcases Nat.lt_or_ge i its.length with q | q
   ·simpa using q
   ·rw[List.getElem?_eq_none q] at hu;cases hu
  refine wpAny_pyNext_enum_itemD (SK.draws (prog:=X.prog) (w:=X.w) (A:=X.A.in1) k hh it a hai its.toArray) he ⟨s1,p1⟩ hi1 hne (by simp[hne,hae.symm]) λx' h' tk ex heo j1 htup hsz hk=>⟨_,rfl,?_⟩
  have eu:x'=u:=Option.some.inj (by rw[← ex,← hu];simp)
  subst eu
  refine wpAny_letOwnedTupleGo_enum (s:={ s with heap:=h',toks:=tk+1 }) heo λh2 he2 hs2=>?_
  have hel:e < s.heap.objs.size:=Heap.lt_size he
  have g2:h2.get? s.heap.objs.size=some { cls:=.type "tuple",data:=.seq #[.int i tk,x'] }:=(hs2.2 _ (Nat.ne_of_gt hel)).trans htup
  have k2:∀ b o,b∉[it,e]->s.heap.get? b=some o->h2.get? b=some o:=λb o hb q=>by
   simp only[List.mem_cons,List.not_mem_nil,or_false,not_or] at hb
   exact(hs2.2 b hb.2).trans (hk b o hb.2 hb.1 q)
  have g1:k.at h2 it a (i+1):=SK.at_keep j1.1 λo q=>(hs2.2 it (Ne.symm hne)).trans q
  have ht2:∀ b o,s.heap.get? b=some o->∃ o',h2.get? b=some o':=λb o q=>by
   by_cases n1:b=it
   ·subst n1;obtain⟨o',e',_⟩:=SK.at_obj g1;exact⟨o',e'⟩
   ·by_cases n2:b=e
    ·subst n2;exact⟨_,he2⟩
    ·exact⟨o,k2 b o (by simp[n1,n2]) q⟩
  have I2:Inv X pins σ (upd H s.heap.objs.size (.tup [.int (i:Nat),x])) { s with heap:=h2,toks:=tk+1 }:=
   I.turnedL (ch:=[it,e]) k2 ht2 hf (Nat.le_refl _) ⟨by show 2<=sizeLine;decide,[.int i tk,x'],.cons ⟨_,rfl⟩ (.cons ru .nil),⟨_,g2,rfl,_,rfl⟩⟩
  refine⟨.ref s.heap.objs.size,_,I2,rfl,⟨s.heap.objs.size,x,I.fresh,rfl,rfl,λys hy=>by rw[I.sk_inj hy hq];exact hx⟩,⟨⟨x',he2⟩,g1⟩,λb hb=>?_⟩
  have hb0:=(hf b hb).1
  rw[aH ?_]
  ·exact hb0
  ·simp only[List.mem_cons,List.not_mem_nil,or_false] at hb
   rcases hb with rfl | rfl
   ·obtain⟨o,e1,_⟩:=SK.at_obj s1;exact Nat.ne_of_lt (Heap.lt_size e1)
   ·exact Nat.ne_of_lt hel
 done:=by
  intro X hP hw hK hc i pins s σ H E I hf st hg
  subst hP hw hK
  obtain⟨xs,hq,hx⟩:=hg
  obtain⟨⟨old,he⟩,s1⟩:=st
  obtain⟨its,rv,p1⟩:=I.sk hq
  obtain⟨f0,f1,f2,f3,f4,f5⟩:=hf it (by simp)
  have hl:=rv.length
  have hi:i=its.toArray.size:=by rw[List.size_toArray];omega
  rw[hi] at s1
  exact wpAny_pyNext_enum_endD (SK.draws (prog:=X.prog) (w:=X.w) (A:=X.A.in1) k (I.ok.hd hc) it a hai its.toArray) he ⟨s1,p1⟩ λh' eb=>⟨rfl,I.turned (t':=s.toks) (λb o hb q=>eb b o hb q) f0 f1 f3 f4 f5⟩
 self:=λA i s Q E st h=>by
  obtain⟨⟨old,he⟩,s1⟩:=st
  have hT:s.TypeIs (.ref e) "enumerate" := ⟨_,he,rfl⟩
  refine wpAny_pyIter_slot hT F.slot_enumerate_iter (wpAny_call_entry F.slot_enumerate_iter hT F.entry_enumerate_iter ?_ (F.args_enumerate_iter_1 _))
  show wpAny _ _ (ret (.ref e)) _ _ s
  exact wpAny_pure ⟨_,rfl, "enumerate",_,hT,F.slot_enumerate_next.lookup,h⟩
section
variable {X:Cx}
def Kg (K:PySem.W.Frag) (k:SK) (ta:TA):TI:=fun σ H R=>ta σ H λvs H1=>∃ a,vs=[.ref a]/\(∃ xs,k.sq K H1 a xs)/\R (Kf K k a) H1
theorem DY {k:SK}{l:Expr}{ta:TA}{es:List Expr}{x1:Nat}{tpos p pos:Pos}(hg:Gl X "enumerate") (hm:X.mg "enumerate" = none) (ha:PA X [l] ta) (hs:starEach [l] X.env=[(false,eval l X.env)]:=by rfl):
  PI X (.Tuple es x1 tpos) (.Call (.Name "enumerate" p) [l] [] pos) (Kg X.K k ta):=by
 intro pins s σ H R I h
 refine Call_ (mF I hg hm PyProof.Rows.boot_enumerate (PyProof.Rows.callWith_type1 (thn (ha pos pins s σ H _ I h) ?_) hs rfl))
 rintro us s1 ⟨vs,H1,I1,r1,q1⟩
 obtain⟨a,e,⟨xs,hq⟩,q⟩:=q1
 subst e
 obtain⟨u,rfl,ru⟩:=vals1 r1
 cases ru
 obtain⟨its,rv,p1⟩:=I1.sk hq
 refine yV p1 λh' he hit hk=>?_
 have I2:Inv X pins σ H1 { s1 with heap:=h' }:=I1.kept (t':=s1.toks) hk
 have la:=SK.is_lt p1
 have st:EAt k (s1.heap.objs.size+1) s1.heap.objs.size a 0 h':=⟨⟨.none,he⟩,hit⟩
 have T:=yW (P:=X.prog) (w:=X.w) (K:=X.K) (es:=es) (x1:=x1) (tpos:=tpos) k a (s1.heap.objs.size+1) s1.heap.objs.size (Nat.succ_ne_self _) (Nat.ne_of_lt (Nat.lt_succ_of_lt la)) (Nat.ne_of_lt la)
 refine T.self X.A 0 { s1 with heap:=h' } _ _ st ?_
 refine⟨s1.heap.objs.size+1,[s1.heap.objs.size,s1.heap.objs.size+1],_,_,H1,rfl,I2,T,st,λb hb=>?_,q⟩
 have hb':s1.heap.objs.size<=b:=by
  simp only[List.mem_cons,List.not_mem_nil,or_false] at hb
  rcases hb with z | z
  ·rw[z];exact Nat.le_refl _
  ·rw[z];exact Nat.le_succ _
 exact I1.fpOk hb' (I1.hok.fresh hb')
end
end L2
namespace L2
open PySem PySem.Spec PyProof.Rows
section
variable {prog:Program}{w:World}{A:Around}{E:Value->Shared->Prop}{s:Shared}
end
section
variable {X:Cx}{pos:Pos}
end
end L2
namespace L2
open PySem PySem.Spec PyProof.Rows
section
variable {X:Cx}
end
end L2
namespace MR
open PySem L2
inductive PV where
 | non | bl (b:Bool) | int (i:Int) | str (x:Str)
 | lst (xs:List PV) | frz (xs:List PV) | tup (xs:List PV) | ktp (xs:List PV)
 | dK (kvs:List (Key×PV)) | dT (kvs:List (List Key×PV))
 | obj (c:Nat) (fs:List (Str×PV))
structure MC where
 K:PySem.W.Frag
 cl:Nat->Addr
mutual
inductive Rep (C:MC) (A:Addr->Prop) (H:Hp):V->PV->Prop
 | non:Rep C A H .non .non
 | bl (b:Bool):Rep C A H (.bl b) (.bl b)
 | int (i:Int):Rep C A H (.int i) (.int i)
 | str (x:Str):Rep C A H (.str x) (.str x)
 | lst {a:Addr}{vs:List V}{xs:List PV}:H a=some (.lst vs)->A a->Reps C A H vs xs->Rep C A H (.ref a) (.lst xs)
 | lstF {a:Addr}{o:Obj}{vs:List V}{xs:List PV}:H a=some (.frz o (.lst vs))->Reps C A H vs xs->Rep C A H (.ref a) (.frz xs)
 | lstK {a:Addr}{vs:List V}{xs:List PV}:SqL C.K (λ_=>none) a vs->Reps C A H vs xs->Rep C A H (.ref a) (.frz xs)
 | tup {a:Addr}{vs:List V}{xs:List PV}:H a=some (.tup vs)->Reps C A H vs xs->Rep C A H (.ref a) (.tup xs)
 | tupC {a:Addr}{vs:List V}{xs:List PV}:KTup C.K a vs->Reps C A H vs xs->Rep C A H (.ref a) (.tup xs)
 | tupK {a:Addr}{vs:List V}{xs:List PV}:SqT C.K (λ_=>none) a vs->Reps C A H vs xs->Rep C A H (.ref a) (.ktp xs)
 | dK {a:Addr}{kv:List (Key×V)}{kvs:List (Key×PV)}:H a=some (.dK kv)->A a->RepK C A H kv kvs->Rep C A H (.ref a) (.dK kvs)
 | dT {a:Addr}{kv:List (List Key×V)}{kvs:List (List Key×PV)}:H a=some (.dT kv)->A a->RepT C A H kv kvs->Rep C A H (.ref a) (.dT kvs)
 | obj {a dx:Addr}{c:Nat}{f:List (Str×V)}{fs:List (Str×PV)}:H a=some (.ins (C.cl c) dx f)->A a->RepF C A H f fs->Rep C A H (.ref a) (.obj c fs)
inductive Reps (C:MC) (A:Addr->Prop) (H:Hp):List V->List PV->Prop
 | nil:Reps C A H [] []
 | cons {v:V}{p:PV}{vs:List V}{ps:List PV}:Rep C A H v p->Reps C A H vs ps->Reps C A H (v::vs) (p::ps)
inductive RepK (C:MC) (A:Addr->Prop) (H:Hp):List (Key×V)->List (Key×PV)->Prop
 | nil:RepK C A H [] []
 | cons {k:Key}{v:V}{p:PV}{vs:List (Key×V)}{ps:List (Key×PV)}:Rep C A H v p->RepK C A H vs ps->RepK C A H ((k,v)::vs) ((k,p)::ps)
inductive RepT (C:MC) (A:Addr->Prop) (H:Hp):List (List Key×V)->List (List Key×PV)->Prop
 | nil:RepT C A H [] []
 | cons {k:List Key}{v:V}{p:PV}{vs:List (List Key×V)}{ps:List (List Key×PV)}:Rep C A H v p->RepT C A H vs ps->RepT C A H ((k,v)::vs) ((k,p)::ps)
inductive RepF (C:MC) (A:Addr->Prop) (H:Hp):List (Str×V)->List (Str×PV)->Prop
 | nil:RepF C A H [] []
 | cons {k:Str}{v:V}{p:PV}{vs:List (Str×V)}{ps:List (Str×PV)}:Rep C A H v p->RepF C A H vs ps->RepF C A H ((k,v)::vs) ((k,p)::ps)
end
def yX:HO->Bool
 | .lst _=>true
 | .dK _=>true
 | .dT _=>true
 | .ins _ _ _=>true
 | _=>false
def Ex (A:Addr->Prop) (H:Hp) (A':Addr->Prop) (H':Hp):Prop:=∀ a o,H a=some o->(A a->H' a=some o/\A' a)/\(yX o=false->H' a=some o)
theorem Ex.refl (A:Addr->Prop) (H:Hp):Ex A H A H:=λa o h=>⟨λq=>⟨h,q⟩,λ_=>h⟩
theorem Ex.trans {A B C:Addr->Prop}{H I J:Hp}(e:Ex A H B I) (f:Ex B I C J):Ex A H C J:=λa o h=>⟨λq=>by
 obtain⟨h1,q1⟩:=(e a o h).1 q
 exact(f a o h1).1 q1,λm=>(f a o ((e a o h).2 m)).2 m⟩
theorem Ex.of_same {A:Addr->Prop}{H H':Hp}(s:Same H H'):Ex A H A H':=λa o h=>⟨λq=>⟨s a o h,q⟩,λ_=>s a o h⟩
mutual
theorem Rep.ex {C:MC}{A A':Addr->Prop}{H H':Hp}(e:Ex A H A' H'):∀ {v:V}{p:PV},Rep C A H v p->Rep C A' H' v p
 | _,_,.non=>.non
 | _,_,.bl b=>.bl b
 | _,_,.int i=>.int i
 | _,_,.str x=>.str x
 | _,_,.lst h q r=>.lst ((e _ _ h).1 q).1 ((e _ _ h).1 q).2 (Reps.ex e r)
 | _,_,.lstF h r=>.lstF ((e _ _ h).2 rfl) (Reps.ex e r)
 | _,_,.lstK h r=>.lstK h (Reps.ex e r)
 | _,_,.tup h r=>.tup ((e _ _ h).2 rfl) (Reps.ex e r)
 | _,_,.tupC h r=>.tupC h (Reps.ex e r)
 | _,_,.tupK h r=>.tupK h (Reps.ex e r)
 | _,_,.dK h q r=>.dK ((e _ _ h).1 q).1 ((e _ _ h).1 q).2 (RepK.ex e r)
 | _,_,.dT h q r=>.dT ((e _ _ h).1 q).1 ((e _ _ h).1 q).2 (RepT.ex e r)
 | _,_,.obj h q r=>.obj ((e _ _ h).1 q).1 ((e _ _ h).1 q).2 (RepF.ex e r)
theorem Reps.ex {C:MC}{A A':Addr->Prop}{H H':Hp}(e:Ex A H A' H'):∀ {v:List V}{p:List PV},Reps C A H v p->Reps C A' H' v p
 | _,_,.nil=>.nil
 | _,_,.cons h t=>.cons (Rep.ex e h) (Reps.ex e t)
theorem RepK.ex {C:MC}{A A':Addr->Prop}{H H':Hp}(e:Ex A H A' H'):∀ {v:List (Key×V)}{p:List (Key×PV)},RepK C A H v p->RepK C A' H' v p
 | _,_,.nil=>.nil
 | _,_,.cons h t=>.cons (Rep.ex e h) (RepK.ex e t)
theorem RepT.ex {C:MC}{A A':Addr->Prop}{H H':Hp}(e:Ex A H A' H'):∀ {v:List (List Key×V)}{p:List (List Key×PV)},RepT C A H v p->RepT C A' H' v p
 | _,_,.nil=>.nil
 | _,_,.cons h t=>.cons (Rep.ex e h) (RepT.ex e t)
theorem RepF.ex {C:MC}{A A':Addr->Prop}{H H':Hp}(e:Ex A H A' H'):∀ {v:List (Str×V)}{p:List (Str×PV)},RepF C A H v p->RepF C A' H' v p
 | _,_,.nil=>.nil
 | _,_,.cons h t=>.cons (Rep.ex e h) (RepF.ex e t)
end
theorem dH {A A':Addr->Prop}{H:Hp}(h:∀ a o,H a=some o->A a->A' a):Ex A H A' H:=λa o e=>⟨λq=>⟨e,h a o e q⟩,λ_=>e⟩
theorem Reps.length {C:MC}{A:Addr->Prop}{H:Hp}:∀ {vs:List V}{ps:List PV},Reps C A H vs ps->vs.length=ps.length
 | _,_,.nil=>rfl
 | _,_,.cons _ t=>by simp[Reps.length t]
theorem Reps.append {C:MC}{A:Addr->Prop}{H:Hp}:∀ {vs us:List V}{ps qs:List PV},Reps C A H vs ps->Reps C A H us qs->Reps C A H (vs++us) (ps++qs)
 | _,_,_,_,.nil,h=>h
 | _,_,_,_,.cons h t,r=>.cons h (Reps.append t r)
theorem Reps.get {C:MC}{A:Addr->Prop}{H:Hp}:∀ {vs:List V}{ps:List PV}{i:Nat}{p:PV},Reps C A H vs ps->ps[i]?=some p->∃ v,vs[i]?=some v/\Rep C A H v p
 | _,_,_,_,.nil,e=>by simp at e
 | _,_,0,_,.cons h t,e=>by simp at e;subst e;exact⟨_,rfl,h⟩
 | _,_,i+1,p,.cons h t,e=>by
  obtain⟨v,e1,r⟩:=Reps.get (i:=i) (p:=p) t (by simpa using e)
  exact⟨v,by simpa using e1,r⟩
theorem Reps.drop {C:MC}{A:Addr->Prop}{H:Hp}:∀ {vs:List V}{ps:List PV}(n:Nat),Reps C A H vs ps->Reps C A H (vs.drop n) (ps.drop n)
 | _,_,0,h=>by simpa using h
 | _,_,n+1,.nil=>by simpa using Reps.nil
 | _,_,n+1,.cons _ t=>by simpa using Reps.drop n t
theorem Reps.take {C:MC}{A:Addr->Prop}{H:Hp}:∀ {vs:List V}{ps:List PV}(n:Nat),Reps C A H vs ps->Reps C A H (vs.take n) (ps.take n)
 | _,_,0,h=>by simpa using Reps.nil
 | _,_,n+1,.nil=>by simpa using Reps.nil
 | _,_,n+1,.cons h t=>by simpa using Reps.cons h (Reps.take n t)
theorem sJ {C:MC}{A:Addr->Prop}{H:Hp}{α:Type}(f:α->V) (g:α->PV) (h:∀ x,Rep C A H (f x) (g x)):∀ l:List α,Reps C A H (l.map f) (l.map g)
 | []=>.nil
 | x::l=>.cons (h x) (sJ f g h l)
theorem RepK.val {C:MC}{A:Addr->Prop}{H:Hp}{k:Key}:∀ {kv:List (Key×V)}{kvs:List (Key×PV)},RepK C A H kv kvs->(∃ v p,jg kv k=some v/\(kvs.find? λx=>decide (x.1=k)).map (·.2)=some p/\Rep C A H v p)\/(jg kv k=none/\(kvs.find? λx=>decide (x.1=k)).map (·.2)=none)
 | _,_,.nil=>.inr ⟨rfl,rfl⟩
 | _,_,.cons (k:=k') (v:=v) (p:=p) h t=>by
  by_cases e:k'=k
  ·subst e
   exact .inl ⟨v,p,ni rfl,by simp,h⟩
  ·rw[nj e,List.find?_cons_of_neg (by simpa using e)]
   exact RepK.val t
theorem RepT.val {C:MC}{A:Addr->Prop}{H:Hp}{k:List Key}:∀ {kv:List (List Key×V)}{kvs:List (List Key×PV)},RepT C A H kv kvs->(∃ v p,jg kv k=some v/\(kvs.find? λx=>decide (x.1=k)).map (·.2)=some p/\Rep C A H v p)\/(jg kv k=none/\(kvs.find? λx=>decide (x.1=k)).map (·.2)=none)
 | _,_,.nil=>.inr ⟨rfl,rfl⟩
 | _,_,.cons (k:=k') (v:=v) (p:=p) h t=>by
  by_cases e:k'=k
  ·subst e
   exact .inl ⟨v,p,ni rfl,by simp,h⟩
  ·rw[nj e,List.find?_cons_of_neg (by simpa using e)]
   exact RepT.val t
def Top (C:MC) (A:Addr->Prop) (H:Hp) (a:Addr):PV->Prop
 | .lst xs=>∃ vs,H a=some (.lst vs)/\Reps C A H vs xs
 | .dK kvs=>∃ kv,H a=some (.dK kv)/\RepK C A H kv kvs
 | .dT kvs=>∃ kv,H a=some (.dT kv)/\RepT C A H kv kvs
 | .obj c fs=>∃ dx f,H a=some (.ins (C.cl c) dx f)/\RepF C A H f fs
 | _=>False
theorem Top.ex {C:MC}{A A':Addr->Prop}{H H':Hp}{a:Addr}{p:PV}(e:Ex A H A' H') (h:∀ o,H a=some o->H' a=some o) (t:Top C A H a p):Top C A' H' a p:=by
 cases p with
 | lst xs=>obtain⟨vs,q,r⟩:=t;exact⟨vs,h _ q,r.ex e⟩
 | dK kvs=>obtain⟨vs,q,r⟩:=t;exact⟨vs,h _ q,r.ex e⟩
 | dT kvs=>obtain⟨vs,q,r⟩:=t;exact⟨vs,h _ q,r.ex e⟩
 | obj c fs=>obtain⟨dx,f,q,r⟩:=t;exact⟨dx,f,h _ q,r.ex e⟩
 | _=>exact t
theorem Top.live {C:MC}{A:Addr->Prop}{H:Hp}{a:Addr}{p:PV}(t:Top C A H a p):∃ o,H a=some o/\yX o=true:=by
 cases p with
 | lst xs=>obtain⟨vs,q,r⟩:=t;exact⟨_,q,rfl⟩
 | dK kvs=>obtain⟨vs,q,r⟩:=t;exact⟨_,q,rfl⟩
 | dT kvs=>obtain⟨vs,q,r⟩:=t;exact⟨_,q,rfl⟩
 | obj c fs=>obtain⟨dx,f,q,r⟩:=t;exact⟨_,q,rfl⟩
 | _=>exact t.elim
theorem Top.rep {C:MC}{A:Addr->Prop}{H:Hp}{a:Addr}{p:PV}(t:Top C A H a p) (h:A a):Rep C A H (.ref a) p:=by
 cases p with
 | lst xs=>obtain⟨vs,q,r⟩:=t;exact .lst q h r
 | dK kvs=>obtain⟨vs,q,r⟩:=t;exact .dK q h r
 | dT kvs=>obtain⟨vs,q,r⟩:=t;exact .dT q h r
 | obj c fs=>obtain⟨dx,f,q,r⟩:=t;exact .obj q h r
 | _=>exact t.elim
def RepB (C:MC) (A:Addr->Prop) (H:Hp) (v:V) (p:PV):Prop:=Rep C A H v p\/∃ a,v=.ref a/\Top C A H a p
theorem RepB.ex {C:MC}{A A':Addr->Prop}{H H':Hp}{v:V}{p:PV}(e:Ex A H A' H') (s:Same H H') (h:RepB C A H v p):RepB C A' H' v p:=by
 rcases h with h | ⟨a,q,t⟩
 ·exact .inl (h.ex e)
 ·exact .inr ⟨a,q,t.ex e λo z=>s _ _ z⟩
section
variable {C:MC}{A:Addr->Prop}{H:Hp}{v:V}
theorem sqK {K:PySem.W.Frag}{a:Addr}{vs:List V}(h:SqL K (λ_=>none) a vs):SqL K H a vs:=by
 rcases h with (h | ⟨o,h⟩) | h
 ·cases h
 ·cases h
 ·exact .inr h
theorem sO {K:PySem.W.Frag}{a:Addr}{vs:List V}(h:SqT K (λ_=>none) a vs):SqT K H a vs:=by
 rcases h with (h | ⟨o,h⟩) | h
 ·cases h
 ·cases h
 ·exact .inr h
theorem RepB.lst {xs:List PV}(h:RepB C A H v (.lst xs)):∃ a vs,v=.ref a/\H a=some (.lst vs)/\Reps C A H vs xs:=by
 rcases h with h | ⟨a,rfl,vs,q,r⟩
 ·cases h with
  | lst q _ r=>exact⟨_,_,rfl,q,r⟩
 ·exact⟨a,vs,rfl,q,r⟩
theorem RepB.frz {xs:List PV}(h:RepB C A H v (.frz xs)):∃ a vs,v=.ref a/\SqL C.K H a vs/\Reps C A H vs xs:=by
 rcases h with h | ⟨a,rfl,t⟩
 ·cases h with
  | lstF q r=>exact⟨_,_,rfl,.inl (.inr ⟨_,q⟩),r⟩
  | lstK q r=>exact⟨_,_,rfl,sqK q,r⟩
 ·exact t.elim
def TupR (K:PySem.W.Frag) (H:Hp) (a:Addr) (vs:List V):Prop:=H a=some (.tup vs)\/KTup K a vs
theorem TupR.sq {K:PySem.W.Frag}{H:Hp}{a:Addr}{vs:List V}(h:TupR K H a vs):SqT K H a vs:=h.elim (λq=>SqT.of q) Or.inr
theorem TupR.rep {C:MC}{A:Addr->Prop}{H:Hp}{a:Addr}{vs:List V}{xs:List PV}(h:TupR C.K H a vs) (r:Reps C A H vs xs):Rep C A H (.ref a) (.tup xs):=h.elim (λq=>.tup q r) λq=>.tupC q r
theorem TupR.ex {K:PySem.W.Frag}{A A':Addr->Prop}{H H':Hp}{a:Addr}{vs:List V}(h:TupR K H a vs) (e:Ex A H A' H'):TupR K H' a vs:=h.imp (λq=>(e _ _ q).2 rfl) id
theorem TupR.key {K:PySem.W.Frag}{H:Hp}{a:Addr}{vs:List V}{ks:List Key}(h:TupR K H a vs) (k:vm ks vs):CKey K H a ks:=h.imp (λq=>⟨vs,q,k⟩) λq=>⟨vs,q,k⟩
theorem RepB.tup {xs:List PV}(h:RepB C A H v (.tup xs)):∃ a vs,v=.ref a/\TupR C.K H a vs/\Reps C A H vs xs:=by
 rcases h with h | ⟨a,rfl,t⟩
 ·cases h with
  | tup q r=>exact⟨_,_,rfl,.inl q,r⟩
  | tupC q r=>exact⟨_,_,rfl,.inr q,r⟩
 ·exact t.elim
theorem RepB.ktp {xs:List PV}(h:RepB C A H v (.ktp xs)):∃ a vs,v=.ref a/\SqT C.K H a vs/\Reps C A H vs xs:=by
 rcases h with h | ⟨a,rfl,t⟩
 ·cases h with
  | tupK q r=>exact⟨_,_,rfl,sO q,r⟩
 ·exact t.elim
theorem RepB.dK {kvs:List (Key×PV)}(h:RepB C A H v (.dK kvs)):∃ a kv,v=.ref a/\H a=some (.dK kv)/\RepK C A H kv kvs:=by
 rcases h with h | ⟨a,rfl,vs,q,r⟩
 ·cases h with
  | dK q _ r=>exact⟨_,_,rfl,q,r⟩
 ·exact⟨a,vs,rfl,q,r⟩
theorem RepB.dT {kvs:List (List Key×PV)}(h:RepB C A H v (.dT kvs)):∃ a kv,v=.ref a/\H a=some (.dT kv)/\RepT C A H kv kvs:=by
 rcases h with h | ⟨a,rfl,vs,q,r⟩
 ·cases h with
  | dT q _ r=>exact⟨_,_,rfl,q,r⟩
 ·exact⟨a,vs,rfl,q,r⟩
theorem RepB.obj {c:Nat}{fs:List (Str×PV)}(h:RepB C A H v (.obj c fs)):∃ a dx f,v=.ref a/\H a=some (.ins (C.cl c) dx f)/\RepF C A H f fs:=by
 rcases h with h | ⟨a,rfl,dx,vs,q,r⟩
 ·cases h with
  | obj q _ r=>exact⟨_,_,_,rfl,q,r⟩
 ·exact⟨a,dx,vs,rfl,q,r⟩
theorem RepB.int {i:Int}(h:RepB C A H v (.int i)):v=.int i:=by
 rcases h with h | ⟨a,rfl,t⟩
 ·cases h;rfl
 ·exact t.elim
theorem RepB.str {x:Str}(h:RepB C A H v (.str x)):v=.str x:=by
 rcases h with h | ⟨a,rfl,t⟩
 ·cases h;rfl
 ·exact t.elim
theorem RepB.bl {x:Bool}(h:RepB C A H v (.bl x)):v=.bl x:=by
 rcases h with h | ⟨a,rfl,t⟩
 ·cases h;rfl
 ·exact t.elim
theorem RepB.non (h:RepB C A H v .non):v=.non:=by
 rcases h with h | ⟨a,rfl,t⟩
 ·cases h;rfl
 ·exact t.elim
end
structure BX where
 C:MC
 A:Addr->Prop
 H0:Hp
 fx:Nat->Option V
abbrev Env:=List (Option PV)
def Bs (b:BX) (Ow:Addr->Prop) (a:Addr):Prop:=¬ Ow a/\(b.A a\/b.H0 a=none)
structure ER (b:BX) (Ow:Addr->Prop) (G:List Nat) (σ:St) (env:Env) (H:Hp):Prop where
 len:σ.length=env.length
 same:Same b.H0 H
 live:∀ a,Ow a->∃ o,H a=some o
 new:∀ a,Ow a->b.H0 a=none
 val:∀ i p,env[i]?=some (some p)->i∉G->∃ v,σ[i]?=some (some v)/\Rep b.C (Bs b Ow) H v p
 own:∀ i p,env[i]?=some (some p)->i∈G->∃ a,σ[i]?=some (some (.ref a))/\Ow a/\Top b.C (Bs b Ow) H a p
 sep:∀ i j a p q,env[i]?=some (some p)->i∈G->σ[i]?=some (some (.ref a))->env[j]?=some (some q)->j∈G->σ[j]?=some (some (.ref a))->i=j
 fix:∀ i v,b.fx i=some v->σ[i]?=some (some v)
inductive Md where | val | own | bor
def Res (b:BX) (Ow:Addr->Prop) (H H':Hp) (m:Md) (v:V) (p:PV):Prop:=match m with
 | .val=>Rep b.C (Bs b Ow) H' v p
 | .own=>∃ a,v=.ref a/\H a=none/\Top b.C (λc=>Bs b Ow c/\c≠a) H' a p
 | .bor=>RepB b.C (Bs b Ow) H' v p
def tM (b:BX) (G:List Nat) (m:Md) (f:Env->Option PV):TE:=fun σ H Q=>∃ Ow env p,ER b Ow G σ env H/\f env=some p/\∀ v H',Same H H'->Res b Ow H H' m v p->Q v H'
def tMT (b:BX) (G:List Nat) (f:Env->Option Bool):TT:=fun σ H Q=>∃ Ow env k,ER b Ow G σ env H/\f env=some k/\∀ H',Same H H'->Q k H'
section
variable {b:BX}{Ow:Addr->Prop}{G:List Nat}{σ:St}{env:Env}{H H':Hp}
theorem ER.up (E:ER b Ow G σ env H) (s:Same H H'):ER b Ow G σ env H':=
 ⟨E.len,E.same.trans s,λa h=>let ⟨o,e⟩:=E.live a h;⟨o,s _ _ e⟩,E.new,λi p h n=>let ⟨v,e,r⟩:=E.val i p h n;⟨v,e,r.ex (.of_same s)⟩,
  λi p h n=>let ⟨a,e,w,t⟩:=E.own i p h n;⟨a,e,w,t.ex (.of_same s) λo z=>s _ _ z⟩,E.sep,E.fix⟩
theorem ER.fresh (E:ER b Ow G σ env H){a:Addr}(h:H a=none):Bs b Ow a:=
 ⟨λw=>(by obtain⟨o,e⟩:=E.live a w;rw[h] at e;cases e),.inr (E.same.free h)⟩
theorem Res.val {m:Md}{v:V}{p:PV}(E:ER b Ow G σ env H) (hm:m≠.bor) (r:Res b Ow H H' m v p):Res b Ow H H' .val v p:=by
 cases m with
 | val=>exact r
 | bor=>exact absurd rfl hm
 | own=>
  obtain⟨a,rfl,h,t⟩:=r
  have hw:Ex (λc=>Bs b Ow c/\c≠a) H' (Bs b Ow) H':=dH λ_ _ _ z=>z.1
  exact(t.ex hw λo z=>z).rep (E.fresh h)
theorem Res.bor {m:Md}{v:V}{p:PV}(r:Res b Ow H H' m v p):Res b Ow H H' .bor v p:=by
 cases m with
 | val=>exact .inl r
 | bor=>exact r
 | own=>
  obtain⟨a,rfl,h,t⟩:=r
  have hw:Ex (λc=>Bs b Ow c/\c≠a) H' (Bs b Ow) H':=dH λ_ _ _ z=>z.1
  exact .inr ⟨a,rfl,t.ex hw λo z=>z⟩
theorem Res.up {m:Md}{v:V}{p:PV}{H'':Hp}(r:Res b Ow H H' m v p) (s:Same H' H''):Res b Ow H H'' m v p:=by
 cases m with
 | val=>exact Rep.ex (.of_same s) r
 | bor=>exact RepB.ex (.of_same s) s r
 | own=>
  obtain⟨a,e,h,t⟩:=r
  exact⟨a,e,h,t.ex (.of_same s) λo z=>s _ _ z⟩
theorem Res.down {m:Md}{v:V}{p:PV}{H'':Hp}(s:Same H H') (r:Res b Ow H' H'' m v p):Res b Ow H H'' m v p:=by
 cases m with
 | val=>exact r
 | bor=>exact r
 | own=>
  obtain⟨a,e,h,t⟩:=r
  exact⟨a,e,s.free h,t⟩
end
theorem PE.imp {X:Cx}{e:Expr}{t u:TE}(h:PE X e t) (i:∀ σ H Q,u σ H Q->t σ H Q):PE X e u:=λpins s σ H Q I q=>h pins s σ H Q I (i σ H Q q)
theorem PT.imp {X:Cx}{e:Expr}{t u:TT}(h:PT X e t) (i:∀ σ H Q,u σ H Q->t σ H Q):PT X e u:=λpins s σ H Q I q=>h pins s σ H Q I (i σ H Q q)
theorem PS.imp {X:Cx}{e:Stmt}{t u:TS}(h:PS X e t) (i:∀ D σ H,u D σ H->t D σ H):PS X e u:=λpins s σ H D I q=>h pins s σ H D I (i D σ H q)
theorem PE.or {X:Cx}{e:Expr}{t u:TE}(h:PE X e t) (h':PE X e u):PE X e (fun σ H Q=>t σ H Q\/u σ H Q):=λpins s σ H Q I q=>q.elim (h pins s σ H Q I) (h' pins s σ H Q I)
theorem OpR.or {X:Cx}{op:Value->Value->Sem Value}{r r':R2}(h:OpR X op r) (h':OpR X op r'):OpR X op (λx y H Q=>r x y H Q\/r' x y H Q):=λpins s σ H x y v u Q I rx ry q=>q.elim (h pins s σ H x y v u Q I rx ry) (h' pins s σ H x y v u Q I rx ry)
abbrev SE (X:Cx) (b:BX) (G:List Nat) (m:Md) (e:Expr) (f:Env->Option PV):Prop:=PE X e (tM b G m f)
abbrev ST (X:Cx) (b:BX) (G:List Nat) (e:Expr) (f:Env->Option Bool):Prop:=PT X e (tMT b G f)
theorem SE.bor {X:Cx}{b:BX}{G:List Nat}{m:Md}{e:Expr}{f:Env->Option PV}(h:SE X b G m e f):SE X b G .bor e f:=
 PE.imp h fun σ H Q ⟨Ow,env,p,E,hf,k⟩=>⟨Ow,env,p,E,hf,λv H' s r=>k v H' s r.bor⟩
theorem SE.val {X:Cx}{b:BX}{G:List Nat}{e:Expr}{f:Env->Option PV}(h:SE X b G .own e f):SE X b G .val e f:=
 PE.imp h fun σ H Q ⟨Ow,env,p,E,hf,k⟩=>⟨Ow,env,p,E,hf,λv H' s r=>k v H' s (r.val E (by intro z;cases z))⟩
end MR
namespace MR
open PySem L2
noncomputable def bC (p:PV) (env:Env):Option PV:=some p
@[simp] theorem QD (p:PV) (env:Env):bC p env=(some p):=id rfl
noncomputable def bV (i:Nat) (env:Env):Option PV:=match env[i]? with | some o=>o | none=>none
@[simp] theorem QF (i:Nat) (env:Env):bV i env=(match env[i]? with | some o=>o | none=>none):=id rfl
noncomputable def b1 (g:PV->Option PV) (f:Env->Option PV) (env:Env):Option PV:=(f env).bind g
@[simp] theorem QG (g:PV->Option PV) (f:Env->Option PV) (env:Env):b1 g f env=((f env).bind g):=id rfl
noncomputable def b2 (g:PV->PV->Option PV) (f h:Env->Option PV) (env:Env):Option PV:=(f env).bind λx=>(h env).bind λy=>g x y
@[simp] theorem QH (g:PV->PV->Option PV) (f h:Env->Option PV) (env:Env):b2 g f h env=((f env).bind λx=>(h env).bind λy=>g x y):=id rfl
noncomputable def b3 (g:PV->PV->PV->Option PV) (f h k:Env->Option PV) (env:Env):Option PV:=(f env).bind λx=>(h env).bind λy=>(k env).bind λz=>g x y z
noncomputable def iy (f g:Env->Option PV) (env:Env):Option PV:=(f env).bind λx=>match x with | .bl true=>g env | .bl false=>some (.bl false) | _=>none
@[simp] theorem Pr (f g:Env->Option PV) (env:Env):iy f g env=((f env).bind λx=>match x with | .bl true=>g env | .bl false=>some (.bl false) | _=>none):=id rfl
noncomputable def bOr (f g:Env->Option PV) (env:Env):Option PV:=(f env).bind λx=>match x with | .bl true=>some (.bl true) | .bl false=>g env | _=>none
@[simp] theorem Qh (f g:Env->Option PV) (env:Env):bOr f g env=((f env).bind λx=>match x with | .bl true=>some (.bl true) | .bl false=>g env | _=>none):=id rfl
noncomputable def bIf (c:Env->Option Bool) (f g:Env->Option PV) (env:Env):Option PV:=(c env).bind λx=>if x=true then f env else g env
@[simp] theorem Qi (c:Env->Option Bool) (f g:Env->Option PV) (env:Env):bIf c f g env=((c env).bind λx=>if x=true then f env else g env):=id rfl
noncomputable def tV (f:Env->Option PV) (env:Env):Option Bool:=(f env).bind λx=>match x with | .bl c=>some c | _=>none
@[simp] theorem QJ (f:Env->Option PV) (env:Env):tV f env=((f env).bind λx=>match x with | .bl c=>some c | _=>none):=id rfl
noncomputable def tA (f g:Env->Option Bool) (env:Env):Option Bool:=(f env).bind λx=>if x=true then g env else some false
@[simp] theorem QK (f g:Env->Option Bool) (env:Env):tA f g env=((f env).bind λx=>if x=true then g env else some false):=id rfl
noncomputable def tO (f g:Env->Option Bool) (env:Env):Option Bool:=(f env).bind λx=>if x=true then some true else g env
@[simp] theorem QL (f g:Env->Option Bool) (env:Env):tO f g env=((f env).bind λx=>if x=true then some true else g env):=id rfl
noncomputable def tN (f:Env->Option Bool) (env:Env):Option Bool:=(f env).bind λx=>some (!x)
@[simp] theorem QM (f:Env->Option Bool) (env:Env):tN f env=((f env).bind λx=>some (!x)):=id rfl
noncomputable def aq (env:Env):Option (List PV):=some []
@[simp] theorem Pu (env:Env):aq env=(some []):=id rfl
noncomputable def aj (f:Env->Option PV) (g:Env->Option (List PV)) (env:Env):Option (List PV):=(f env).bind λx=>(g env).bind λxs=>some (x::xs)
@[simp] theorem O1 (f:Env->Option PV) (g:Env->Option (List PV)) (env:Env):aj f g env=((f env).bind λx=>(g env).bind λxs=>some (x::xs)):=id rfl
noncomputable def aO (g:Env->Option (List PV)) (env:Env):Option PV:=(g env).bind λxs=>if xs.length<=1000000 then some (.lst xs) else none
@[simp] theorem Px (g:Env->Option (List PV)) (env:Env):aO g env=((g env).bind λxs=>if xs.length<=1000000 then some (.lst xs) else none):=id rfl
noncomputable def bI (g:Env->Option (List PV)) (env:Env):Option PV:=(g env).bind λxs=>if xs.length<=1000000 then some (.tup xs) else none
@[simp] theorem Py (g:Env->Option (List PV)) (env:Env):bI g env=((g env).bind λxs=>if xs.length<=1000000 then some (.tup xs) else none):=id rfl
noncomputable def aN (m:List PV->Option PV) (g:Env->Option (List PV)) (env:Env):Option PV:=(g env).bind m
@[simp] theorem O2 (m:List PV->Option PV) (g:Env->Option (List PV)) (env:Env):aN m g env=((g env).bind m):=id rfl
section
variable {b:BX}{G:List Nat}{m:Md}{σ:St}{H:Hp}{Q:VK}
def Op2 (b:BX) (m:Md) (r:R2) (g:PV->PV->Option PV):Prop:=∀ (Ow:Addr->Prop) (H:Hp) (v1 v2:V) (p1 p2 p:PV) (Q:VK),(∀ a,H a=none->Bs b Ow a)->RepB b.C (Bs b Ow) H v1 p1->RepB b.C (Bs b Ow) H v2 p2->g p1 p2=some p->
 (∀ v H',Same H H'->Res b Ow H H' m v p->Q v H')->r v1 v2 H Q
theorem yZ {r:R2}{g:PV->PV->Option PV}{f1 f2:Env->Option PV}(hr:Op2 b m r g) (h:tM b G m (b2 g f1 f2) σ H Q):tOp r (tM b G .bor f1) (tM b G .bor f2) σ H Q:=by
 obtain⟨Ow,env,p,E,hf,k⟩:=h
 unfold b2 at hf
 cases h1:f1 env with
 | none=>rw[h1] at hf;cases hf
 | some p1=>
  rw[h1] at hf
  cases h2:f2 env with
  | none=>rw[h2] at hf;cases hf
  | some p2=>
   rw[h2] at hf
   exact⟨Ow,env,p1,E,h1,λv1 H1 s1 r1=>⟨Ow,env,p2,E.up s1,h2,λv2 H2 s2 r2=>hr Ow H2 v1 v2 p1 p2 p Q (λa=>(E.up (s1.trans s2)).fresh) (r1.up s2) r2 hf λv H' s r=>k v H' (s1.trans (s2.trans s)) (r.down (s1.trans s2))⟩⟩
def Op1 (b:BX) (m:Md) (r:V->Hp->VK->Prop) (g:PV->Option PV):Prop:=∀ (Ow:Addr->Prop) (H:Hp) (v1:V) (p1 p:PV) (Q:VK),(∀ a,H a=none->Bs b Ow a)->RepB b.C (Bs b Ow) H v1 p1->g p1=some p->
 (∀ v H',Same H H'->Res b Ow H H' m v p->Q v H')->r v1 H Q
theorem y_ {r:V->Hp->VK->Prop}{g:PV->Option PV}{f1:Env->Option PV}(hr:Op1 b m r g) (h:tM b G m (b1 g f1) σ H Q):tM b G .bor f1 σ H λx H1=>r x H1 Q:=by
 obtain⟨Ow,env,p,E,hf,k⟩:=h
 unfold b1 at hf
 cases h1:f1 env with
 | none=>rw[h1] at hf;cases hf
 | some p1=>
  rw[h1] at hf
  exact⟨Ow,env,p1,E,h1,λv1 H1 s1 r1=>hr Ow H1 v1 p1 p Q (λa=>(E.up s1).fresh) r1 hf λv H' s r=>k v H' (s1.trans s) (r.down s1)⟩
end
@[simp] noncomputable def bz:PV->PV->Option PV
 | .int i,.int j=>some (.int (i+j))
 | .str x,.str y=>if x.length+y.length<=1000000 then some (.str (x++y)) else none
 | .lst xs,.lst ys=>if xs.length+ys.length<=1000000 then some (.lst (xs++ys)) else none
 | _,_=>none
@[simp] noncomputable def a_:PV->PV->Option PV
 | .lst xs,.lst ys=>if xs.length+ys.length<=1000000 then some (.lst (xs++ys)) else none
 | _,_=>none
@[simp] noncomputable def subV:PV->PV->Option PV
 | .int i,.int j=>some (.int (i - j))
 | _,_=>none
@[simp] noncomputable def jt:PV->PV->Option PV
 | .int i,.int j=>if 0 < j/\j < 1073741824 then some (.int (i / j)) else none
 | _,_=>none
@[simp] noncomputable def cM:PV->PV->Option PV
 | .int i,.int j=>if 0 < j then some (.int (i % j)) else none
 | _,_=>none
@[simp] noncomputable def sS (g:Int->Int->Bool):PV->PV->Option PV
 | .int i,.int j=>some (.bl (g i j))
 | _,_=>none
theorem iT {n:Nat}(h:n<=1000000):n<=sizeLine:=Nat.le_of_lt (pL h)
section
variable {b:BX}
theorem Hx {g:Int->Int->Int}{f:PV->PV->Option PV}(hf:∀ x y p,f x y=some p->∃ i j,x=.int i/\y=.int j/\p=.int (g i j)):Op2 b .val (rI0 λi j=>.int (g i j)) f:=by
 intro Ow H v1 v2 p1 p2 p Q hn r1 r2 e k
 obtain⟨i,j,rfl,rfl,rfl⟩:=hf _ _ _ e
 rw[r1.int,r2.int]
 exact⟨i,j,rfl,rfl,k _ H (Same.refl _) (.int _)⟩
theorem Kh {g:Int->Int->Bool}:Op2 b .val (rI0 λi j=>.bl (g i j)) (sS g):=by
 intro Ow H v1 v2 p1 p2 p Q hn r1 r2 e k
 unfold sS at e
 split at e
 ·cases e
  rw[r1.int,r2.int]
  exact⟨_,_,rfl,rfl,k _ H (Same.refl _) (.bl _)⟩
 ·cases e
theorem Kl:Op2 b .val (rI0 λi j=>.int (i - j)) subV:=Hx λx y p e=>by
 unfold subV at e
 split at e
 ·cases e;exact⟨_,_,rfl,rfl,rfl⟩
 ·cases e
theorem Km:Op2 b .val (rI JG λi j=>.int (i / j)) jt:=by
 intro Ow H v1 v2 p1 p2 p Q hn r1 r2 e k
 unfold jt at e
 split at e
 ·split at e
  ·rename_i h
   cases e
   rw[r1.int,r2.int]
   exact⟨_,_,rfl,rfl,h,k _ H (Same.refl _) (.int _)⟩
  ·cases e
 ·cases e
theorem Ko:Op2 b .val (rI (λ_ j=>0 < j) λi j=>.int (i % j)) cM:=by
 intro Ow H v1 v2 p1 p2 p Q hn r1 r2 e k
 unfold cM at e
 split at e
 ·split at e
  ·rename_i h
   cases e
   rw[r1.int,r2.int]
   exact⟨_,_,rfl,rfl,h,k _ H (Same.refl _) (.int _)⟩
  ·cases e
 ·cases e
end
theorem mJ {b:BX}{Ow:Addr->Prop}{H:Hp}{a:Addr}{vs:List V}{xs:List PV}(h:H a=none) (r:Reps b.C (Bs b Ow) H vs xs):Res b Ow H (upd H a (.lst vs)) .own (.ref a) (.lst xs):=by
 refine⟨a,rfl,h,vs,bf,r.ex λc o e=>?_⟩
 have hc:c≠a:=aV e h
 exact⟨λq=>⟨by rw[aH hc];exact e,q,hc⟩,λ_=>by rw[aH hc];exact e⟩
theorem pM {b:BX}{Ow:Addr->Prop}{H H0:Hp}{a:Addr}{vs:List V}{xs:List PV}(h:H a=none) (r:Reps b.C (Bs b Ow) H vs xs):Res b Ow H0 (upd H a (.tup vs)) .val (.ref a) (.tup xs):=
 Rep.tup bf (r.ex (.of_same (cT h _)))
section
variable {b:BX}
theorem Kq:Op2 b .val (λx y H Q=>(rI0 (λi j=>.int (i+j)) x y H Q\/∃ i j,x=.str i/\y=.str j/\i.length+j.length<=sizeLine/\Q (.str (i++j)) H)\/Dy x y H Q) bz:=by
 intro Ow H v1 v2 p1 p2 p Q hn r1 r2 e k
 unfold bz at e
 split at e
 ·cases e
  rw[r1.int,r2.int]
  exact .inl (.inl ⟨_,_,rfl,rfl,k _ H (Same.refl _) (.int _)⟩)
 ·split at e
  ·rename_i h
   cases e
   rw[r1.str,r2.str]
   exact .inl (.inr ⟨_,_,rfl,rfl,iT h,k _ H (Same.refl _) (.str _)⟩)
  ·cases e
 ·split at e
  ·rename_i h
   cases e
   obtain⟨a,vs,rfl,ha,ra⟩:=r1.lst
   obtain⟨c,us,rfl,hc,rc⟩:=r2.lst
   exact .inr ⟨a,c,vs,us,rfl,rfl,ha,hc,iT (by rw[ra.length,rc.length];exact h),λq hq=>k _ _ (cT hq _) (.lst bf (hn q hq) ((ra.append rc).ex (.of_same (cT hq _))))⟩
  ·cases e
 ·cases e
theorem Kr:Op2 b .own Dy a_:=by
 intro Ow H v1 v2 p1 p2 p Q hn r1 r2 e k
 unfold a_ at e
 split at e
 ·split at e
  ·rename_i h
   cases e
   obtain⟨a,vs,rfl,ha,ra⟩:=r1.lst
   obtain⟨c,us,rfl,hc,rc⟩:=r2.lst
   refine⟨a,c,vs,us,rfl,rfl,ha,hc,iT (by rw[ra.length,rc.length];exact h),λq hq=>k _ _ (cT hq _) (mJ hq (ra.append rc))⟩
  ·cases e
 ·cases e
end
section
variable {X:Cx}{b:BX}{G:List Nat}{m:Md}{e e1 e2:Expr}{f f1 f2:Env->Option PV}{pos:Pos}
theorem az {i j pos}:SE X b G .val (.Constant (.int i) j pos) (bC (.int i)):=PE.imp Jr<|by rintro σ H Q ⟨Ow,env,p,E,hf,k⟩;cases hf;exact k _ H (Same.refl _) (.int i)
theorem q9 {i j pos}:SE X b G .val (.Constant (.bool i) j pos) (bC (.bl i)):=PE.imp Mr<|by rintro σ H Q ⟨Ow,env,p,E,hf,k⟩;cases hf;exact k _ H (Same.refl _) (.bl i)
theorem aB {i j pos}:SE X b G .val (.Constant (.str i) j pos) (bC (.str i)):=PE.imp Ad<|by rintro σ H Q ⟨Ow,env,p,E,hf,k⟩;cases hf;exact k _ H (Same.refl _) (.str i)
theorem eZ {j pos}:SE X b G .val (.Constant .none j pos) (bC .non):=PE.imp Js<|by rintro σ H Q ⟨Ow,env,p,E,hf,k⟩;cases hf;exact k _ H (Same.refl _) .non
theorem kW {i:Nat}{env:Env}{p:PV}(h:bV i env=some p):env[i]?=some (some p):=by
 unfold bV at h
 split at h
 ·rename_i o e;rw[e,h]
 ·cases h
theorem ao (i:Nat){x:Str}{pos:Pos}(hN:X.N[i]?=some x:=by rfl) (hv:Vis X.env.scope x:=by first | exact Or.inl rfl | exact Or.inr (Or.inl rfl) | exact Or.inr (Or.inr rfl)) (hG:i∉G:=by decide) (hd:(x == ("__debug__" : Str))=false:=by decide)
  (hcd:(x == ("__classdict__" : Str))=false:=by decide):SE X b G .val (.Name x pos) (bV i):=PE.imp (eY hN hv hd hcd)<|by
 rintro σ H Q ⟨Ow,env,p,E,hf,k⟩
 obtain⟨v,e,r⟩:=E.val i p (kW hf) hG
 exact⟨v,e,k v H (Same.refl _) r⟩
theorem mj (i:Nat){x:Str}{pos:Pos}(hN:X.N[i]?=some x:=by rfl) (hv:Vis X.env.scope x:=by first | exact Or.inl rfl | exact Or.inr (Or.inl rfl) | exact Or.inr (Or.inr rfl)) (hd:(x == ("__debug__" : Str))=false:=by decide)
  (hcd:(x == ("__classdict__" : Str))=false:=by decide):SE X b G .bor (.Name x pos) (bV i):=PE.imp (eY hN hv hd hcd)<|by
 rintro σ H Q ⟨Ow,env,p,E,hf,k⟩
 by_cases hG:i∈G
 ·obtain⟨a,e,_,t⟩:=E.own i p (kW hf) hG
  exact⟨_,e,k _ H (Same.refl _) (.inr ⟨a,rfl,t⟩)⟩
 ·obtain⟨v,e,r⟩:=E.val i p (kW hf) hG
  exact⟨v,e,k v H (Same.refl _) (.inl r)⟩
theorem nu {x z:Str}{t:Tok}{pos:Pos}(hm:X.mg x=some (.str z t)) (hg:Gl X x:=by rfl) (hd:(x == ("__debug__" : Str))=false:=by decide):SE X b G .val (.Name x pos) (bC (.str z)):=
 PE.imp (pH hg hm (v:=.str z) ⟨_,rfl⟩ hd)<|by rintro σ H Q ⟨Ow,env,p,E,hf,k⟩;cases hf;exact k _ H (Same.refl _) (.str z)
theorem za {x:Str}{i:Int}{t:Tok}{pos:Pos}(hm:X.mg x=some (.int i t)) (hg:Gl X x:=by rfl) (hd:(x == ("__debug__" : Str))=false:=by decide):SE X b G .val (.Name x pos) (bC (.int i)):=
 PE.imp (pH hg hm (v:=.int i) ⟨_,rfl⟩ hd)<|by rintro σ H Q ⟨Ow,env,p,E,hf,k⟩;cases hf;exact k _ H (Same.refl _) (.int i)
theorem nA {x:Str}{a:Addr}{q:PV}{pos:Pos}(hm:X.mg x=some (.ref a)) (hr:∀ A H,Rep b.C A H (.ref a) q) (hg:Gl X x:=by rfl) (hd:(x == ("__debug__" : Str))=false:=by decide):SE X b G .val (.Name x pos) (bC q):=
 PE.imp (pH hg hm (v:=.ref a) rfl hd)<|by rintro σ H Q ⟨Ow,env,p,E,hf,k⟩;cases hf;exact k _ H (Same.refl _) (hr _ _)
theorem q_ {op:Operator}{r:R2}{g:PV->PV->Option PV}(ho:OpR X (binaryOp op) r) (hr:Op2 b m r g){m1 m2:Md}(h1:SE X b G m1 e1 f1) (h2:SE X b G m2 e2 f2):SE X b G m (.BinOp e1 op e2 pos) (b2 g f1 f2):=
 PE.imp (Mz ho h1.bor h2.bor) fun σ H Q h=>yZ hr h
theorem cG {m1 m2:Md}(h1:SE X b G m1 e1 f1) (h2:SE X b G m2 e2 f2):SE X b G .val (.BinOp e1 .Add e2 pos) (b2 bz f1 f2):=q_ (OpR.or (OpR.or JH yL) Bc) Kq h1 h2
theorem cI {m1 m2:Md}(h1:SE X b G m1 e1 f1) (h2:SE X b G m2 e2 f2):SE X b G .own (.BinOp e1 .Add e2 pos) (b2 a_ f1 f2):=q_ Bc Kr h1 h2
theorem Ks {m1 m2:Md}(h1:SE X b G m1 e1 f1) (h2:SE X b G m2 e2 f2):SE X b G .val (.BinOp e1 .Sub e2 pos) (b2 subV f1 f2):=q_ JK Kl h1 h2
theorem oR {m1 m2:Md}(h1:SE X b G m1 e1 f1) (h2:SE X b G m2 e2 f2):SE X b G .val (.BinOp e1 .FloorDiv e2 pos) (b2 jt f1 f2):=q_ G9 Km h1 h2
theorem e_ {m1 m2:Md}(h1:SE X b G m1 e1 f1) (h2:SE X b G m2 e2 f2):SE X b G .val (.BinOp e1 .Mod e2 pos) (b2 cM f1 f2):=q_ JL Ko h1 h2
end
end MR
namespace MR
open PySem L2
@[simp] noncomputable def eqS:PV->PV->Option Bool
 | .non,.non=>some true
 | .non,.int _=>some false | .int _,.non=>some false | .non,.bl _=>some false | .bl _,.non=>some false | .non,.str _=>some false | .str _,.non=>some false
 | .int i,.int j=>some (decide (i=j))
 | .bl i,.bl j=>some (decide (i=j))
 | .str i,.str j=>some (decide (i=j))
 | .int _,.str _=>some false | .str _,.int _=>some false | .bl _,.str _=>some false | .str _,.bl _=>some false
 | _,_=>none
mutual
noncomputable def toD:PV->Option PyData
 | .non=>some .none
 | .bl b=>some (.bool b)
 | .int i=>some (.int i)
 | .str x=>some (.str x)
 | .lst xs=>(du xs).map .list
 | .frz xs=>(du xs).map .list
 | .tup xs=>(du xs).map .tuple
 | .ktp xs=>(du xs).map .tuple
 | _=>none
noncomputable def du:List PV->Option (List PyData)
 | []=>some []
 | x::xs=>match toD x,du xs with
  | some d,some ds=>some (d::ds)
  | _,_=>none
end
noncomputable def eqD (x y:PV):Option Bool:=match toD x,toD y with
 | some d,some e=>if SeqAt.shaped d=true/\SeqAt.shaped e=true then some (PyData.eqv d e) else none
 | _,_=>none
noncomputable def eqP (x y:PV):Option Bool:=match eqS x y with
 | some k=>some k
 | none=>eqD x y
noncomputable def eqQ (x y:PV):Option PV:=(eqP x y).map .bl
@[simp] theorem Qj (x y:PV):eqQ x y=((eqP x y).map .bl):=id rfl
noncomputable def neQ (x y:PV):Option PV:=(eqP x y).map λk=>.bl (!k)
@[simp] theorem Qk (x y:PV):neQ x y=((eqP x y).map λk=>.bl (!k)):=id rfl
mutual
theorem Rep.dt {C:MC}{A:Addr->Prop}{H:Hp}:∀ {v:V}{p:PV}{d:PyData},Rep C A H v p->toD p=some d->Dt C.K H v d
 | _,_,_,.non,e=>by simp only[toD] at e;cases e;exact .non
 | _,_,_,.bl b,e=>by simp only[toD] at e;cases e;exact .bl b
 | _,_,_,.int b,e=>by simp only[toD] at e;cases e;exact .int b
 | _,_,_,.str b,e=>by simp only[toD] at e;cases e;exact .str b
 | _,_,_,.lst (xs:=xs) h _ r,e=>by
  simp only[toD] at e
  cases q:du xs with
  | none=>rw[q] at e;cases e
  | some ds=>rw[q] at e;cases e;exact .lst (SqL.of h) (Reps.dt r q)
 | _,_,_,.lstF (xs:=xs) h r,e=>by
  simp only[toD] at e
  cases q:du xs with
  | none=>rw[q] at e;cases e
  | some ds=>rw[q] at e;cases e;exact .lst (.inl (.inr ⟨_,h⟩)) (Reps.dt r q)
 | _,_,_,.lstK (xs:=xs) h r,e=>by
  simp only[toD] at e
  cases q:du xs with
  | none=>rw[q] at e;cases e
  | some ds=>rw[q] at e;cases e;exact .lst (sqK h) (Reps.dt r q)
 | _,_,_,.tup (xs:=xs) h r,e=>by
  simp only[toD] at e
  cases q:du xs with
  | none=>rw[q] at e;cases e
  | some ds=>rw[q] at e;cases e;exact .tup (SqT.of h) (Reps.dt r q)
 | _,_,_,.tupC (xs:=xs) h r,e=>by
  simp only[toD] at e
  cases q:du xs with
  | none=>rw[q] at e;cases e
  | some ds=>rw[q] at e;cases e;exact .tup (.inr h) (Reps.dt r q)
 | _,_,_,.tupK (xs:=xs) h r,e=>by
  simp only[toD] at e
  cases q:du xs with
  | none=>rw[q] at e;cases e
  | some ds=>rw[q] at e;cases e;exact .tup (sO h) (Reps.dt r q)
 | _,_,_,.dK h _ r,e=>by simp only[toD] at e;cases e
 | _,_,_,.dT h _ r,e=>by simp only[toD] at e;cases e
 | _,_,_,.obj h _ r,e=>by simp only[toD] at e;cases e
theorem Reps.dt {C:MC}{A:Addr->Prop}{H:Hp}:∀ {v:List V}{p:List PV}{d:List PyData},Reps C A H v p->du p=some d->Dts C.K H v d
 | _,_,_,.nil,e=>by simp only[du] at e;cases e;exact .nil
 | _,_,_,.cons (p:=p) (ps:=ps) h t,e=>by
  simp only[du] at e
  cases q:toD p with
  | none=>rw[q] at e;cases e
  | some d=>
   cases q2:du ps with
   | none=>rw[q,q2] at e;cases e
   | some ds=>rw[q,q2] at e;cases e;exact .cons (Rep.dt h q) (Reps.dt t q2)
end
theorem RepB.dt {C:MC}{A:Addr->Prop}{H:Hp}{v:V}{p:PV}{d:PyData}(h:RepB C A H v p) (e:toD p=some d):Dt C.K H v d:=by
 rcases h with h | ⟨a,rfl,t⟩
 ·exact h.dt e
 ·cases p with
  | lst xs=>
   obtain⟨vs,q,r⟩:=t
   exact(Rep.lst (A:=λ_=>True) q True.intro (r.ex (dH λ_ _ _ _=>True.intro))).dt e
  | dK kvs=>simp only[toD] at e;cases e
  | dT kvs=>simp only[toD] at e;cases e
  | obj c fs=>simp only[toD] at e;cases e
  | _=>exact t.elim
theorem vP {C:MC}{A:Addr->Prop}{H:Hp}{v u:V}{p q:PV}{k:Bool}(h:RepB C A H v p) (h':RepB C A H u q) (e:eqS p q=some k):Do v u=true/\decide (v=u)=k:=by
 unfold eqS at e
 split at e <;> first | cases e | skip
 ·rw[h.non,h'.non];exact⟨rfl,rfl⟩
 ·rw[h.non,h'.int];exact⟨rfl,rfl⟩
 ·rw[h.int,h'.non];exact⟨rfl,rfl⟩
 ·rw[h.non,h'.bl];exact⟨rfl,rfl⟩
 ·rw[h.bl,h'.non];exact⟨rfl,rfl⟩
 ·rw[h.non,h'.str];exact⟨rfl,rfl⟩
 ·rw[h.str,h'.non];exact⟨rfl,rfl⟩
 ·rw[h.int,h'.int];exact⟨rfl,by simp⟩
 ·rw[h.bl,h'.bl];exact⟨rfl,by simp⟩
 ·rw[h.str,h'.str];exact⟨rfl,by simp⟩
 ·rw[h.int,h'.str];exact⟨rfl,rfl⟩
 ·rw[h.str,h'.int];exact⟨rfl,rfl⟩
 ·rw[h.bl,h'.str];exact⟨rfl,rfl⟩
 ·rw[h.str,h'.bl];exact⟨rfl,rfl⟩
def Ku (K:PySem.W.Frag):R2:=λx y H Q=>rEq x y H Q\/∃ d e,Dt K H x d/\Dt K H y e/\SeqAt.shaped d=true/\SeqAt.shaped e=true/\Q (.bl (PyData.eqv d e)) H
def Kv (K:PySem.W.Frag):R2:=λx y H Q=>rNe x y H Q\/∃ d e,Dt K H x d/\Dt K H y e/\SeqAt.shaped d=true/\SeqAt.shaped e=true/\Q (.bl (!PyData.eqv d e)) H
section
variable {b:BX}
theorem M9:Op2 b .val (Ku b.C.K) eqQ:=by
 intro Ow H v1 v2 p1 p2 p Q hn r1 r2 e k
 unfold eqQ eqP at e
 cases q:eqS p1 p2 with
 | some c=>
  rw[q] at e
  cases e
  obtain⟨h1,h2⟩:=vP r1 r2 q
  exact .inl ⟨h1,by rw[h2];exact k _ H (Same.refl _) (.bl c)⟩
 | none=>
  rw[q] at e
  simp only[eqD] at e
  cases q1:toD p1 with
  | none=>rw[q1] at e;cases e
  | some d=>
   cases q2:toD p2 with
   | none=>rw[q1,q2] at e;cases e
   | some d'=>
    rw[q1,q2] at e
    simp only at e
    split at e
    ·rename_i hs
     cases e
     exact .inr ⟨d,d',r1.dt q1,r2.dt q2,hs.1,hs.2,k _ H (Same.refl _) (.bl _)⟩
    ·cases e
theorem M_:Op2 b .val (Kv b.C.K) neQ:=by
 intro Ow H v1 v2 p1 p2 p Q hn r1 r2 e k
 unfold neQ eqP at e
 cases q:eqS p1 p2 with
 | some c=>
  rw[q] at e
  cases e
  obtain⟨h1,h2⟩:=vP r1 r2 q
  exact .inl ⟨h1,by rw[h2];exact k _ H (Same.refl _) (.bl _)⟩
 | none=>
  rw[q] at e
  simp only[eqD] at e
  cases q1:toD p1 with
  | none=>rw[q1] at e;cases e
  | some d=>
   cases q2:toD p2 with
   | none=>rw[q1,q2] at e;cases e
   | some d'=>
    rw[q1,q2] at e
    simp only at e
    split at e
    ·rename_i hs
     cases e
     exact .inr ⟨d,d',r1.dt q1,r2.dt q2,hs.1,hs.2,k _ H (Same.refl _) (.bl _)⟩
    ·cases e
end
@[simp] noncomputable def keyOf:PV->Option Key
 | .int i=>some (.inl i)
 | .str x=>some (.inr x)
 | _=>none
@[simp] noncomputable def keysOf:List PV->Option (List Key)
 | []=>some []
 | x::xs=>match keyOf x,keysOf xs with
  | some k,some ks=>some (k::ks)
  | _,_=>none
@[simp] noncomputable def keysB:List PV->Option (List Key)
 | [.str x,.bl b]=>some [.inr x,.inl (if b=true then 1 else 0)]
 | xs=>keysOf xs
@[simp] def cN:PV->Bool
 | .non=>true
 | .bl _=>true
 | .int _=>true
 | .str _=>true
 | _=>false
noncomputable def eqF:PV->PV->Bool
 | .non,.non=>true
 | .bl a,.bl b=>a == b
 | .bl a,.int b=>(if a then 1 else 0) == b
 | .int a,.bl b=>a == (if b then 1 else 0)
 | .int a,.int b=>a == b
 | .str a,.str b=>a == b
 | _,_=>false
noncomputable def ju {κ:Type} [DecidableEq κ] (kvs:List (κ×PV)) (k:κ):Option PV:=(kvs.find? λx=>decide (x.1=k)).map (·.2)
def inD (x:PV) (ys:List PV):Option Bool:=match toD x,du ys with
 | some d,some ds=>if PyData.canLayAll0 ds=true/\d.canLay0=true/\d.depth<=32 then some (ds.any λy=>PyData.eqv y d) else none
 | _,_=>none
theorem nF {x:PV}{ys:List PV}{k:Bool}(h:inD x ys=some k):∃ d ds,toD x=some d/\du ys=some ds/\PyData.canLayAll0 ds=true/\d.canLay0=true/\d.depth<=32/\(ds.any λy=>PyData.eqv y d)=k:=by
 unfold inD at h
 split at h
 ·rename_i d ds h1 h2
  split at h
  ·rename_i hc
   exact⟨d,ds,h1,h2,hc.1,hc.2.1,hc.2.2,Option.some.inj h⟩
  ·cases h
 ·cases h
noncomputable def inP:PV->PV->Option Bool
 | x,.lst ys=>if cN x=true/\ys.all cN=true then some (ys.any λy=>eqF y x) else inD x ys
 | x,.frz ys=>if cN x=true/\ys.all cN=true then some (ys.any λy=>eqF y x) else inD x ys
 | x,.ktp ys=>if cN x=true/\ys.all cN=true then some (ys.any λy=>eqF y x) else inD x ys
 | x,.tup ys=>if cN x=true/\ys.all cN=true then some (ys.any λy=>eqF y x) else inD x ys
 | .str x,.str y=>some (!(Builtin.Str.occurrences y x 0 y.length 1).isEmpty)
 | x,.dK kvs=>(keyOf x).map λk=>(ju kvs k).isSome
 | .tup xs,.dT kvs=>(keysB xs).map λk=>(ju kvs k).isSome
 | _,_=>none
theorem Reps.keys {C:MC}{A:Addr->Prop}{H:Hp}:∀ {vs:List V}{ps:List PV}{ks:List Key},Reps C A H vs ps->keysOf ps=some ks->vs=ks.map kV
 | _,_,_,.nil,e=>by cases e;rfl
 | _,_,_,.cons (p:=p) (ps:=ps) h t,e=>by
  unfold keysOf at e
  cases q:keyOf p with
  | none=>rw[q] at e;cases e
  | some k=>
   cases q2:keysOf ps with
   | none=>rw[q,q2] at e;cases e
   | some ks=>
    rw[q,q2] at e
    cases e
    have ih:=Reps.keys t q2
    rw[List.map_cons,ih]
    congr 1
    unfold keyOf at q
    split at q <;> cases q <;> cases h <;> rfl
theorem Reps.keysB {C:MC}{A:Addr->Prop}{H:Hp}{vs:List V}{ps:List PV}{ks:List Key}(r:Reps C A H vs ps) (e:keysB ps=some ks):vm ks vs:=by
 unfold MR.keysB at e
 split at e
 ·cases e
  cases r with
  | cons h1 t=>cases t with
   | cons h2 t=>cases t;cases h1;cases h2;exact .inr ⟨_,_,rfl,rfl⟩
 ·exact .inl (r.keys e)
theorem RepB.key {C:MC}{A:Addr->Prop}{H:Hp}{v:V}{p:PV}{k:Key}(h:RepB C A H v p) (e:keyOf p=some k):v=kV k:=by
 unfold keyOf at e
 split at e
 ·cases e;exact h.int
 ·cases e;exact h.str
 ·cases e
theorem RepB.flat {C:MC}{A:Addr->Prop}{H:Hp}{v:V}{p:PV}(h:RepB C A H v p) (e:cN p=true):iR v=true:=by
 unfold cN at e
 split at e
 ·rw[h.non];rfl
 ·rw[h.bl];rfl
 ·rw[h.int];rfl
 ·rw[h.str];rfl
 ·cases e
def fV:PV->V
 | .bl b=>.bl b
 | .int i=>.int i
 | .str x=>.str x
 | _=>.non
theorem RepB.fV {C:MC}{A:Addr->Prop}{H:Hp}{v:V}{p:PV}(h:RepB C A H v p) (e:cN p=true):v=fV p:=by
 cases p with
 | non=>exact h.non
 | bl b=>exact h.bl
 | int i=>exact h.int
 | str x=>exact h.str
 | _=>cases e
theorem Nb (p q:PV) (hp:cN p=true) (hq:cN q=true):L2.eqV (fV p) (fV q)=eqF p q:=by
 cases p <;> cases q <;> first | rfl | (cases hp;done) | (cases hq;done)
theorem Reps.flat {C:MC}{A:Addr->Prop}{H:Hp}{v:V}{p:PV}(h:RepB C A H v p) (e:cN p=true):∀ {vs:List V}{ps:List PV},Reps C A H vs ps->ps.all cN=true->vs.all iR=true/\inV v vs=ps.any λy=>eqF y p
 | _,_,.nil,_=>⟨rfl,rfl⟩
 | _,_,.cons (v:=v') (p:=p') (vs:=vs) (ps:=ps) q t,e'=>by
  rw[List.all_cons,Bool.and_eq_true] at e'
  obtain⟨h1,h2⟩:=Reps.flat h e t e'.2
  have hf:iR v'=true:=RepB.flat (.inl q) e'.1
  refine⟨by rw[List.all_cons,hf,h1];rfl,?_⟩
  unfold inV at h2 ⊢
  rw[List.any_cons,List.any_cons,h2]
  have q1:=h.fV e
  have q2:=RepB.fV (.inl q) e'.1
  rw[q1,q2,Nb _ _ e'.1 e]
section
variable {X:Cx}
theorem Kw (hu:X.A.units+1 < cLine):OpR X (compareOp .In) (λx y H Q=>∃ a o,y=.ref a/\DGet X.K H a x o/\Q (.bl o.isSome) H):=by
 intro pins s σ H x y v u Q I rx ry h
 obtain⟨a,o,rfl,g,q⟩:=h
 obtain rfl:u=Value.ref a:=ry
 exact Ov hu I g rx λs3 I3=>⟨.bl o.isSome,H,I3,rfl,q⟩
def zb (K:PySem.W.Frag) (neg:Bool):R2:=λx y H Q=>∃ d ds,(Dt K H y (.list ds)\/Dt K H y (.tuple ds))/\Dt K H x d/\PyData.canLayAll0 ds=true/\d.canLay0=true/\d.depth<=32/\Q (.bl (if neg then !(ds.any λy=>PyData.eqv y d) else ds.any λy=>PyData.eqv y d)) H
theorem Ky (hu:X.A.units+64 < cLine):OpR X (compareOp .In) (zb X.K false):=by
 intro pins s σ H x y v u Q I rx ry h
 obtain⟨d,ds,h1,h2,c1,c2,c3,q⟩:=h
 have hm:min (PyData.depthAll ds) d.depth<=d.depth:=Nat.min_le_right _ _
 obtain⟨as,ra⟩:=h2.reads I rx
 rcases h1 with h1 | h1
 ·obtain⟨bs,rb⟩:=h1.reads I ry
  exact PySem.SeqAt.in_list_reads rb ra c1 c2 (by omega) ⟨.bl _,H,I,rfl,q⟩
 ·obtain⟨bs,rb⟩:=h1.reads I ry
  exact PySem.SeqAt.in_tuple_reads rb ra c1 c2 (by omega) ⟨.bl _,H,I,rfl,q⟩
theorem Bk (hu:X.A.units+64 < cLine):OpR X (compareOp .NotIn) (zb X.K true):=by
 intro pins s σ H x y v u Q I rx ry h
 obtain⟨d,ds,h1,h2,c1,c2,c3,q⟩:=h
 have hm:min (PyData.depthAll ds) d.depth<=d.depth:=Nat.min_le_right _ _
 obtain⟨as,ra⟩:=h2.reads I rx
 rcases h1 with h1 | h1
 ·obtain⟨bs,rb⟩:=h1.reads I ry
  exact PySem.SeqAt.notIn_list_reads rb ra c1 c2 (by omega) ⟨.bl _,H,I,rfl,q⟩
 ·obtain⟨bs,rb⟩:=h1.reads I ry
  exact PySem.SeqAt.notIn_tuple_reads rb ra c1 c2 (by omega) ⟨.bl _,H,I,rfl,q⟩
theorem Bl (hu:X.A.units+1 < cLine):OpR X (compareOp .NotIn) (λx y H Q=>∃ a o,y=.ref a/\DGet X.K H a x o/\Q (.bl (!o.isSome)) H):=by
 intro pins s σ H x y v u Q I rx ry h
 obtain⟨a,o,rfl,g,q⟩:=h
 obtain rfl:u=Value.ref a:=ry
 exact Hf hu I g rx λs3 I3=>⟨.bl (!o.isSome),H,I3,rfl,q⟩
end
def Kz (K:PySem.W.Frag):R2:=λx y H Q=>(rIn K false x y H Q\/∃ i j,x=.str i/\y=.str j/\Q (.bl (!(Builtin.Str.occurrences j i 0 j.length 1).isEmpty)) H)\/(∃ a o,y=.ref a/\DGet K H a x o/\Q (.bl o.isSome) H)\/zb K false x y H Q
def yf (K:PySem.W.Frag):R2:=λx y H Q=>(rIn K true x y H Q\/∃ i j,x=.str i/\y=.str j/\Q (.bl (!(!(Builtin.Str.occurrences j i 0 j.length 1).isEmpty))) H)\/(∃ a o,y=.ref a/\DGet K H a x o/\Q (.bl (!o.isSome)) H)\/zb K true x y H Q
noncomputable def inQ (x y:PV):Option PV:=(inP x y).map .bl
@[simp] theorem Ql (x y:PV):inQ x y=((inP x y).map .bl):=id rfl
noncomputable def dJ (x y:PV):Option PV:=(inP x y).map λk=>.bl (!k)
@[simp] theorem Ob (x y:PV):dJ x y=((inP x y).map λk=>.bl (!k)):=id rfl
theorem Bm {C:MC}{A:Addr->Prop}{H:Hp}{v1 v2:V}{p1 p2:PV}{k:Bool}(r1:RepB C A H v1 p1) (r2:RepB C A H v2 p2) (e:inP p1 p2=some k):
  (∃ p xs,v2=.ref p/\(SqL C.K H p xs\/SqT C.K H p xs)/\iR v1=true/\xs.all iR=true/\inV v1 xs=k)\/(∃ i j,v1=.str i/\v2=.str j/\(!(Builtin.Str.occurrences j i 0 j.length 1).isEmpty)=k)\/(∃ a o,v2=.ref a/\DGet C.K H a v1 o/\o.isSome=k)\/∃ d ds,(Dt C.K H v2 (.list ds)\/Dt C.K H v2 (.tuple ds))/\Dt C.K H v1 d/\PyData.canLayAll0 ds=true/\d.canLay0=true/\d.depth<=32/\(ds.any λy=>PyData.eqv y d)=k:=by
 unfold inP at e
 split at e
 ·split at e
  ·rename_i h
   cases e
   obtain⟨a,vs,rfl,ha,ra⟩:=r2.lst
   obtain⟨h1,h2⟩:=Reps.flat r1 h.1 ra h.2
   exact .inl ⟨a,vs,rfl,.inl (SqL.of ha),r1.flat h.1,h1,h2⟩
  ·obtain⟨d,ds,t1,t2,c1,c2,c3,c4⟩:=nF e
   exact .inr (.inr (.inr ⟨d,ds,.inl (r2.dt (by simp[toD,t2])),r1.dt t1,c1,c2,c3,c4⟩))
 ·split at e
  ·rename_i h
   cases e
   obtain⟨a,vs,rfl,ha,ra⟩:=r2.frz
   obtain⟨h1,h2⟩:=Reps.flat r1 h.1 ra h.2
   exact .inl ⟨a,vs,rfl,.inl ha,r1.flat h.1,h1,h2⟩
  ·obtain⟨d,ds,t1,t2,c1,c2,c3,c4⟩:=nF e
   exact .inr (.inr (.inr ⟨d,ds,.inl (r2.dt (by simp[toD,t2])),r1.dt t1,c1,c2,c3,c4⟩))
 ·split at e
  ·rename_i h
   cases e
   obtain⟨a,vs,rfl,ha,ra⟩:=r2.ktp
   obtain⟨h1,h2⟩:=Reps.flat r1 h.1 ra h.2
   exact .inl ⟨a,vs,rfl,.inr ha,r1.flat h.1,h1,h2⟩
  ·obtain⟨d,ds,t1,t2,c1,c2,c3,c4⟩:=nF e
   exact .inr (.inr (.inr ⟨d,ds,.inr (r2.dt (by simp[toD,t2])),r1.dt t1,c1,c2,c3,c4⟩))
 ·split at e
  ·rename_i h
   cases e
   obtain⟨a,vs,rfl,ha,ra⟩:=r2.tup
   obtain⟨h1,h2⟩:=Reps.flat r1 h.1 ra h.2
   exact .inl ⟨a,vs,rfl,.inr ha.sq,r1.flat h.1,h1,h2⟩
  ·obtain⟨d,ds,t1,t2,c1,c2,c3,c4⟩:=nF e
   exact .inr (.inr (.inr ⟨d,ds,.inr (r2.dt (by simp[toD,t2])),r1.dt t1,c1,c2,c3,c4⟩))
 ·cases e
  exact .inr (.inl ⟨_,_,r1.str,r2.str,rfl⟩)
 ·obtain⟨a,kv,rfl,ha,ra⟩:=r2.dK
  cases q:keyOf p1 with
  | none=>rw[q] at e;cases e
  | some ky=>
   rw[q] at e
   cases e
   rw[r1.key q]
   refine .inr (.inr (.inl ⟨a,_,rfl,DGet.k ha,?_⟩))
   unfold ju
   dsimp only
   rcases RepK.val (k:=ky) ra with ⟨v,p,h1,h2,_⟩ | ⟨h1,h2⟩
   ·rw[h1,h2];rfl
   ·rw[h1,h2];rfl
 ·rename_i xs kvs
  obtain⟨a,kv,rfl,ha,ra⟩:=r2.dT
  obtain⟨c,vs,rfl,hc,rc⟩:=r1.tup
  cases q:keysB xs with
  | none=>rw[q] at e;cases e
  | some ky=>
   rw[q] at e
   cases e
   refine .inr (.inr (.inl ⟨a,_,rfl,DGet.t ha (hc.key (rc.keysB q)),?_⟩))
   unfold ju
   dsimp only
   rcases RepT.val (k:=ky) ra with ⟨v,p,h1,h2,_⟩ | ⟨h1,h2⟩
   ·rw[h1,h2];rfl
   ·rw[h1,h2];rfl
 ·cases e
section
variable {b:BX}
theorem Nf:Op2 b .val (Kz b.C.K) inQ:=by
 intro Ow H v1 v2 p1 p2 p Q hn r1 r2 e k
 unfold inQ at e
 cases q:inP p1 p2 with
 | none=>rw[q] at e;cases e
 | some c=>
  rw[q] at e
  cases e
  have fin:=k (.bl c) H (Same.refl _) (.bl c)
  rcases Bm r1 r2 q with ⟨a,xs,rfl,h1,h2,h3,h4⟩ | ⟨i,j,rfl,rfl,h1⟩ | ⟨a,o,rfl,h1,h2⟩ | ⟨d,ds,h1,h2,c1,c2,c3,h4⟩
  ·subst h4;exact .inl (.inl ⟨a,xs,rfl,h1,h2,h3,fin⟩)
  ·subst h1;exact .inl (.inr ⟨i,j,rfl,rfl,fin⟩)
  ·subst h2;exact .inr (.inl ⟨a,o,rfl,h1,fin⟩)
  ·subst h4;exact .inr (.inr ⟨d,ds,h1,h2,c1,c2,c3,fin⟩)
theorem D_:Op2 b .val (yf b.C.K) dJ:=by
 intro Ow H v1 v2 p1 p2 p Q hn r1 r2 e k
 unfold dJ at e
 cases q:inP p1 p2 with
 | none=>rw[q] at e;cases e
 | some c=>
  rw[q] at e
  cases e
  have fin:=k (.bl (!c)) H (Same.refl _) (.bl _)
  rcases Bm r1 r2 q with ⟨a,xs,rfl,h1,h2,h3,h4⟩ | ⟨i,j,rfl,rfl,h1⟩ | ⟨a,o,rfl,h1,h2⟩ | ⟨d,ds,h1,h2,c1,c2,c3,h4⟩
  ·subst h4;exact .inl (.inl ⟨a,xs,rfl,h1,h2,h3,fin⟩)
  ·subst h1;exact .inl (.inr ⟨i,j,rfl,rfl,fin⟩)
  ·subst h2;exact .inr (.inl ⟨a,o,rfl,h1,fin⟩)
  ·subst h4;exact .inr (.inr ⟨d,ds,h1,h2,c1,c2,c3,fin⟩)
end
@[simp] def vQ:PV->Bool
 | .non=>true
 | _=>false
noncomputable def isN (x y:PV):Option PV:=match y with
 | .non=>some (.bl (vQ x))
 | _=>none
@[simp] theorem Bo (x y:PV):isN x y=(match y with
 | .non=>some (.bl (vQ x))
 | _=>none):=id rfl
noncomputable def jW (x y:PV):Option PV:=match y with
 | .non=>some (.bl (!vQ x))
 | _=>none
@[simp] theorem Oc (x y:PV):jW x y=(match y with
 | .non=>some (.bl (!vQ x))
 | _=>none):=id rfl
theorem RepB.isN {C:MC}{A:Addr->Prop}{H:Hp}{v:V}{p:PV}(h:RepB C A H v p):decide (v=.non)=vQ p:=by
 cases p with
 | non=>rw[h.non];rfl
 | bl b=>rw[h.bl];rfl
 | int b=>rw[h.int];rfl
 | str b=>rw[h.str];rfl
 | lst b=>obtain⟨a,_,rfl,_⟩:=h.lst;rfl
 | frz b=>obtain⟨a,_,rfl,_⟩:=h.frz;rfl
 | tup b=>obtain⟨a,_,rfl,_⟩:=h.tup;rfl
 | ktp b=>obtain⟨a,_,rfl,_⟩:=h.ktp;rfl
 | dK b=>obtain⟨a,_,rfl,_⟩:=h.dK;rfl
 | dT b=>obtain⟨a,_,rfl,_⟩:=h.dT;rfl
 | obj c b=>obtain⟨a,_,_,rfl,_⟩:=h.obj;rfl
section
variable {b:BX}
theorem KC:Op2 b .val (λx y H Q=>y=.non/\Q (.bl (decide (x=.non))) H) isN:=by
 intro Ow H v1 v2 p1 p2 p Q hn r1 r2 e k
 cases p2 with
 | non=>
  simp only[isN] at e
  cases e
  exact⟨r2.non,by rw[r1.isN];exact k _ H (Same.refl _) (.bl _)⟩
 | _=>simp only[isN] at e;cases e
theorem Bp:Op2 b .val (λx y H Q=>y=.non/\Q (.bl (!decide (x=.non))) H) jW:=by
 intro Ow H v1 v2 p1 p2 p Q hn r1 r2 e k
 cases p2 with
 | non=>
  simp only[jW] at e
  cases e
  exact⟨r2.non,by rw[r1.isN];exact k _ H (Same.refl _) (.bl _)⟩
 | _=>simp only[jW] at e;cases e
end
section
variable {X:Cx}{b:BX}{G:List Nat}{m:Md}{e e1 e2 e3:Expr}{f f1 f2 f3:Env->Option PV}{pos:Pos}{m1 m2 m3:Md}
structure SC (X:Cx) (b:BX) (G:List Nat) (op:CmpOp) (e1 e2:Expr) (f:Env->Option PV):Prop where
 pe:∀ pos,SE X b G .val (.Compare e1 [op] [e2] pos) f
 pt:∀ pos,ST X b G (.Compare e1 [op] [e2] pos) (tV f)
theorem lR {op:CmpOp}{r:R2}{g:PV->PV->Option PV}(ho:OpR X (compareOp op) r) (hr:Op2 b .val r g) (h1:SE X b G m1 e1 f1) (h2:SE X b G m2 e2 f2) (hm:behindInMarks op e2=false):SC X b G op e1 e2 (b2 g f1 f2):=by
 refine⟨λpos=>PE.imp (Ha ho h1.bor h2.bor hm) fun σ H Q h=>yZ hr h,λpos=>PT.imp (Hb ho h1.bor h2.bor hm) fun σ H Q h=>?_⟩
 obtain⟨Ow,env,c,E,hf,k⟩:=h
 unfold tV at hf
 cases q:b2 g f1 f2 env with
 | none=>rw[q] at hf;cases hf
 | some p=>
  rw[q] at hf
  refine yZ (Q:=λx H'=>∃ k,x=.bl k/\_) hr ⟨Ow,env,p,E,q,λv H' s r=>?_⟩
  cases p with
  | bl d=>
   cases hf
   cases r
   exact⟨_,rfl,k H' s⟩
  | _=>cases hf
theorem cD {j:Nat}(hr:Room j X.A) (h1:SE X b G m1 e1 f1) (h2:SE X b G m2 e2 f2) (hK:X.K=b.C.K:=by rfl):SC X b G .Eq e1 e2 (b2 eqQ f1 f2):=lR (r:=Ku b.C.K) (by rw[← hK];exact OpR.or MJ (J6 hr.units)) M9 h1 h2 (mG _)
theorem lU {j:Nat}(hr:Room j X.A) (h1:SE X b G m1 e1 f1) (h2:SE X b G m2 e2 f2) (hK:X.K=b.C.K:=by rfl):SC X b G .NotEq e1 e2 (b2 neQ f1 f2):=lR (r:=Kv b.C.K) (by rw[← hK];exact OpR.or MK (J7 hr.units)) M_ h1 h2 (mG _)
theorem Ng (h1:SE X b G m1 e1 f1) (h2:SE X b G m2 e2 f2):SC X b G .Gt e1 e2 (b2 (sS λi j=>decide (j < i)) f1 f2):=lR M3 Kh h1 h2 (mG _)
theorem kj {j:Nat}(hr:Room j X.A) (h1:SE X b G m1 e1 f1) (h2:SE X b G m2 e2 f2) (hm:behindInMarks .In e2=false:=by rfl) (hK:X.K=b.C.K:=by rfl):SC X b G .In e1 e2 (b2 inQ f1 f2):=
 lR (r:=Kz b.C.K) (by rw[← hK];exact OpR.or (OpR.or Ba Ar) (OpR.or (Kw (yS hr)) (Ky hr.units))) Nf h1 h2 hm
theorem iz {j:Nat}(hr:Room j X.A) (h1:SE X b G m1 e1 f1) (h2:SE X b G m2 e2 f2) (hm:behindInMarks .NotIn e2=false:=by rfl) (hK:X.K=b.C.K:=by rfl):SC X b G .NotIn e1 e2 (b2 dJ f1 f2):=
 lR (r:=yf b.C.K) (by rw[← hK];exact OpR.or (OpR.or vD vG) (OpR.or (Bl (yS hr)) (Bk hr.units))) D_ h1 h2 hm
theorem pN (h1:SE X b G m1 e1 f1) (h2:SE X b G m2 e2 f2):SC X b G .Is e1 e2 (b2 isN f1 f2):=lR JN KC h1 h2 (mG _)
theorem vR (h1:SE X b G m1 e1 f1) (h2:SE X b G m2 e2 f2):SC X b G .IsNot e1 e2 (b2 jW f1 f2):=lR G_ Bp h1 h2 (mG _)
theorem cQ {op:CmpOp}(h:SC X b G op e1 e2 f):SE X b G .val (.Compare e1 [op] [e2] pos) f:=h.pe pos
theorem aW {op:CmpOp}(h:SC X b G op e1 e2 f):ST X b G (.Compare e1 [op] [e2] pos) (tV f):=h.pt pos
noncomputable def oU (g g':Int->Int->Bool) (f1 f2 f3:Env->Option PV) (env:Env):Option PV:=(f1 env).bind λx=>(f2 env).bind λy=>match x,y with
 | .int i,.int j=>if g i j=true then (f3 env).bind λz=>sS g' y z else some (.bl false)
 | _,_=>none
@[simp] theorem Od (g g':Int->Int->Bool) (f1 f2 f3:Env->Option PV) (env:Env):oU g g' f1 f2 f3 env=((f1 env).bind λx=>(f2 env).bind λy=>match x,y with
 | .int i,.int j=>if g i j=true then (f3 env).bind λz=>sS g' y z else some (.bl false)
 | _,_=>none):=id rfl
theorem xN {g g':Int->Int->Bool}{f1 f2 f3:Env->Option PV}{env:Env}{p:PV}(h:oU g g' f1 f2 f3 env=some p):
  ∃ i j,f1 env=some (.int i)/\f2 env=some (.int j)/\((g i j=false/\p=.bl false)\/(g i j=true/\∃ l,f3 env=some (.int l)/\p=.bl (g' j l))):=by
 unfold oU at h
 cases q1:f1 env with
 | none=>rw[q1] at h;cases h
 | some p1=>
  cases q2:f2 env with
  | none=>rw[q1,q2] at h;cases h
  | some p2=>
   rw[q1,q2] at h
   simp only[Option.bind_some] at h
   split at h
   ·rename_i i j
    refine⟨i,j,rfl,rfl,?_⟩
    cases hg:g i j with
    | false=>
     rw[hg] at h
     cases h
     exact .inl ⟨rfl,rfl⟩
    | true=>
     rw[hg] at h
     simp only[if_true] at h
     obtain⟨p3,q3,h⟩:=Option.bind_eq_some_iff.mp h
     cases p3 with
     | int l=>
      cases h
      exact .inr ⟨rfl,l,q3,rfl⟩
     | _=>cases h
   ·cases h
theorem Ea {op op':CmpOp}{g g':Int->Int->Bool}(ho:OpR X (compareOp op) (rI0 λi j=>.bl (g i j))) (ho':OpR X (compareOp op') (rI0 λi j=>.bl (g' i j))) (h1:SE X b G m1 e1 f1) (h2:SE X b G m2 e2 f2) (h3:SE X b G m3 e3 f3)
  (hm:lastMarks [op,op'] [e2,e3]=false:=by with_unfolding_all rfl):SE X b G .val (.Compare e1 [op,op'] [e2,e3] pos) (oU g g' f1 f2 f3):=
 PE.imp (Dp ho ho' h1.bor h2.bor h3.bor hm)<|by
  rintro σ H Q ⟨Ow,env,p,E,hf,k⟩
  obtain⟨i,j,q1,q2,hc⟩:=xN hf
  refine⟨Ow,env,_,E,q1,λv1 H1 s1 r1=>⟨Ow,env,_,E.up s1,q2,λv2 H2 s2 r2=>?_⟩⟩
  have r1':RepB b.C (Bs b Ow) H2 v1 (.int i):=Res.up (m:=.bor) r1 s2
  have r2':RepB b.C (Bs b Ow) H2 v2 (.int j):=r2
  rw[r1'.int,r2'.int]
  refine⟨i,j,rfl,rfl,g i j,rfl,?_⟩
  rcases hc with ⟨hc,rfl⟩ | ⟨hc,l,q3,rfl⟩
  ·rw[hc]
   simp only[Bool.false_eq_true,if_false]
   exact k _ H2 (s1.trans s2) (.bl false)
  ·rw[hc]
   simp only[if_true]
   refine⟨Ow,env,_,E.up (s1.trans s2),q3,λv3 H3 s3 r3=>?_⟩
   have r3':RepB b.C (Bs b Ow) H3 v3 (.int l):=r3
   rw[r3'.int]
   exact⟨_,_,rfl,rfl,k _ H3 (s1.trans (s2.trans s3)) (.bl _)⟩
theorem jc {op}(h:SE X b G m e f):SE X b G m (.BoolOp op [e] pos) f:=Ah h
theorem jw {rest:List Expr}(h1:SE X b G .val e1 f1) (h2:SE X b G .val (.BoolOp .And (e2::rest) pos) f2):SE X b G .val (.BoolOp .And (e1::e2::rest) pos) (iy f1 f2):=
 PE.imp (Jw h1 h2)<|by
  rintro σ H Q ⟨Ow,env,p,E,hf,k⟩
  unfold iy at hf
  cases q1:f1 env with
  | none=>rw[q1] at hf;cases hf
  | some p1=>
   rw[q1] at hf
   refine⟨Ow,env,p1,E,q1,λv1 H1 s1 r1=>?_⟩
   cases p1 with
   | bl c=>
    cases r1
    refine⟨c,rfl,?_⟩
    cases c with
    | true=>exact⟨Ow,env,p,E.up s1,hf,λv H' s r=>k v H' (s1.trans s) r⟩
    | false=>cases hf;exact k _ H1 s1 (.bl false)
   | _=>cases hf
theorem zc {rest:List Expr}(h1:SE X b G .val e1 f1) (h2:SE X b G .val (.BoolOp .Or (e2::rest) pos) f2):SE X b G .val (.BoolOp .Or (e1::e2::rest) pos) (bOr f1 f2):=
 PE.imp (Gj h1 h2)<|by
  rintro σ H Q ⟨Ow,env,p,E,hf,k⟩
  unfold bOr at hf
  cases q1:f1 env with
  | none=>rw[q1] at hf;cases hf
  | some p1=>
   rw[q1] at hf
   refine⟨Ow,env,p1,E,q1,λv1 H1 s1 r1=>?_⟩
   cases p1 with
   | bl c=>
    cases r1
    refine⟨c,rfl,?_⟩
    cases c with
    | false=>exact⟨Ow,env,p,E.up s1,hf,λv H' s r=>k v H' (s1.trans s) r⟩
    | true=>cases hf;exact k _ H1 s1 (.bl true)
   | _=>cases hf
@[simp] noncomputable def iB:PV->Option PV
 | .int i=>some (.int (-i))
 | _=>none
theorem lz (h1:SE X b G m e1 f1):SE X b G .val (.UnaryOp .USub e1 pos) (b1 iB f1):=
 PE.imp (MF JM h1.bor) fun σ H Q h=>y_ (r:=rU λi=>.int (-i)) (λOw H v1 p1 p Q hn r1 e k=>by
  cases p1 <;> simp only[iB] at e <;> cases e
  exact⟨_,r1.int,k _ H (Same.refl _) (.int _)⟩) h
theorem gh (h:SE X b G .val e f) (he:∀ whole,isTrue e X.env whole=(do let v ← whole;standAt e.pos;holding [v] (truthy v)):=by intro _;rfl):ST X b G e (tV f):=
 PT.imp (Ae h he)<|by
  rintro σ H Q ⟨Ow,env,c,E,hf,k⟩
  unfold tV at hf
  cases q1:f env with
  | none=>rw[q1] at hf;cases hf
  | some p1=>
   rw[q1] at hf
   refine⟨Ow,env,p1,E,q1,λv1 H1 s1 r1=>?_⟩
   cases p1 with
   | bl d=>cases r1;cases hf;exact⟨_,rfl,k H1 s1⟩
   | _=>cases hf
theorem mK {g:Env->Option Bool}(h:ST X b G e g):ST X b G (.UnaryOp .Not e pos) (tN g):=
 PT.imp (Ag h)<|by
  rintro σ H Q ⟨Ow,env,c,E,hf,k⟩
  unfold tN at hf
  cases q1:g env with
  | none=>rw[q1] at hf;cases hf
  | some p1=>rw[q1] at hf;cases hf;exact⟨Ow,env,p1,E,q1,λH' s=>k H' s⟩
abbrev SW (X:Cx) (b:BX) (G:List Nat) (e:Expr) (g:Env->Option Bool):Prop:=PW X e (tMT b G g)
theorem PW.imp {t u:TT}(h:PW X e t) (i:∀ σ H Q,u σ H Q->t σ H Q):PW X e u:=λwh pins s σ H Q I q=>h wh pins s σ H Q I (i σ H Q q)
variable {g1 g2:Env->Option Bool}
theorem gU (h:ST X b G e g1):SW X b G (.BoolOp .And [e] pos) g1:=G7 h
theorem lB (h:ST X b G e g1):SW X b G (.BoolOp .Or [e] pos) g1:=Af h
theorem iC {rest:List Expr}(h1:ST X b G e1 g1) (h2:SW X b G (.BoolOp .And (e2::rest) pos) g2):SW X b G (.BoolOp .And (e1::e2::rest) pos) (tA g1 g2):=
 PW.imp (Jv h1 h2)<|by
  rintro σ H Q ⟨Ow,env,c,E,hf,k⟩
  unfold tA at hf
  cases q1:g1 env with
  | none=>rw[q1] at hf;cases hf
  | some p1=>
   rw[q1] at hf
   refine⟨Ow,env,p1,E,q1,λH1 s1=>?_⟩
   cases p1 with
   | true=>exact⟨Ow,env,c,E.up s1,hf,λH' s=>k H' (s1.trans s)⟩
   | false=>cases hf;exact k H1 s1
theorem lV {rest:List Expr}(h1:ST X b G e1 g1) (h2:SW X b G (.BoolOp .Or (e2::rest) pos) g2):SW X b G (.BoolOp .Or (e1::e2::rest) pos) (tO g1 g2):=
 PW.imp (Gi h1 h2)<|by
  rintro σ H Q ⟨Ow,env,c,E,hf,k⟩
  unfold tO at hf
  cases q1:g1 env with
  | none=>rw[q1] at hf;cases hf
  | some p1=>
   rw[q1] at hf
   refine⟨Ow,env,p1,E,q1,λH1 s1=>?_⟩
   cases p1 with
   | false=>exact⟨Ow,env,c,E.up s1,hf,λH' s=>k H' (s1.trans s)⟩
   | true=>cases hf;exact k H1 s1
theorem SW.st (h:SW X b G e g1):ST X b G e g1:=h _
theorem zf {c:Expr}(hc:ST X b G c g1) (h1:SE X b G m e1 f1) (h2:SE X b G m e2 f2):SE X b G m (.IfExp c e1 e2 pos) (bIf g1 f1 f2):=
 PE.imp (Di hc h1 h2)<|by
  rintro σ H Q ⟨Ow,env,p,E,hf,k⟩
  unfold bIf at hf
  cases q1:g1 env with
  | none=>rw[q1] at hf;cases hf
  | some c=>
   rw[q1] at hf
   refine⟨Ow,env,c,E,q1,λH1 s1=>?_⟩
   cases c with
   | true=>exact⟨Ow,env,p,E.up s1,hf,λv H' s r=>k v H' (s1.trans s) (r.down s1)⟩
   | false=>exact⟨Ow,env,p,E.up s1,hf,λv H' s r=>k v H' (s1.trans s) (r.down s1)⟩
end
end MR
namespace MR
open PySem L2
def ArA (b:BX) (Ow:Addr->Prop) (L:Bool) (H:Hp) (a:Addr):Prop:=Bs b Ow a\/(L=true/\∃ vs,H a=some (.lst vs))
def tMA (b:BX) (G:List Nat) (L:Bool) (g:Env->Option (List PV)):TA:=fun σ H Q=>∃ Ow env ps,ER b Ow G σ env H/\g env=some ps/\∀ vs H',Same H H'->Reps b.C (ArA b Ow L H') H' vs ps->Q vs H'
abbrev SA (X:Cx) (b:BX) (G:List Nat) (L:Bool) (es:List Expr) (g:Env->Option (List PV)):Prop:=PA X es (tMA b G L g)
theorem PA.imp {X:Cx}{es:List Expr}{t u:TA}(h:PA X es t) (i:∀ σ H Q,u σ H Q->t σ H Q):PA X es u:=λpos pins s σ H Q I q=>h pos pins s σ H Q I (i σ H Q q)
section
variable {X:Cx}{b:BX}{G:List Nat}{m m1 m2:Md}{L:Bool}{e e1 e2:Expr}{es:List Expr}{f f1 f2:Env->Option PV}{g:Env->Option (List PV)}{pos p:Pos}
theorem aA:SA X b G L [] aq:=PA.imp dR<|by rintro σ H Q ⟨Ow,env,ps,E,hg,k⟩;cases hg;exact k [] H (Same.refl _) .nil
theorem ak (h1:SE X b G .val e f) (h2:SA X b G L es g) (hs:starEach (e::es) X.env=(false,eval e X.env)::starEach es X.env:=by rfl):SA X b G L (e::es) (aj f g):=
 PA.imp (b7 h1 h2 hs)<|by
  rintro σ H Q ⟨Ow,env,ps,E,hg,k⟩
  unfold aj at hg
  cases q1:f env with
  | none=>rw[q1] at hg;cases hg
  | some p1=>
   rw[q1] at hg
   cases q2:g env with
   | none=>rw[q2] at hg;cases hg
   | some ps'=>
    rw[q2] at hg
    cases hg
    exact⟨Ow,env,p1,E,q1,λv H1 s1 r1=>⟨Ow,env,ps',E.up s1,q2,λvs H2 s2 r2=>k (v::vs) H2 (s1.trans s2) (.cons (Rep.ex (λa o h=>⟨λq=>⟨s2 _ _ h,.inl q⟩,λ_=>s2 _ _ h⟩) r1) r2)⟩⟩
def bL (f:Env->Option PV) (env:Env):Option PV:=(f env).bind λp=>match p with | .lst xs=>some (.lst xs) | _=>none
@[simp] theorem QQ (f:Env->Option PV) (env:Env):bL f env=((f env).bind λp=>match p with | .lst xs=>some (.lst xs) | _=>none):=id rfl
theorem jh (h1:SE X b G m e f) (h2:SA X b G true es g) (hs:starEach (e::es) X.env=(false,eval e X.env)::starEach es X.env:=by rfl):SA X b G true (e::es) (aj (bL f) g):=
 PA.imp (b7 h1.bor h2 hs)<|by
  rintro σ H Q ⟨Ow,env,ps,E,hg,k⟩
  unfold aj bL at hg
  cases q1:f env with
  | none=>rw[q1] at hg;cases hg
  | some p1=>
   rw[q1] at hg
   cases p1 with
   | lst xs=>
    simp only[Option.bind_some] at hg
    cases q2:g env with
    | none=>rw[q2] at hg;cases hg
    | some ps'=>
     rw[q2] at hg
     cases hg
     refine⟨Ow,env,_,E,q1,λv H1 s1 r1=>⟨Ow,env,ps',E.up s1,q2,λvs H2 s2 r2=>k (v::vs) H2 (s1.trans s2) (.cons ?_ r2)⟩⟩
     have r1':RepB b.C (Bs b Ow) H1 v (.lst xs):=r1
     obtain⟨a,us,rfl,ha,ra⟩:=r1'.lst
     exact .lst (s2 _ _ ha) (.inr ⟨rfl,us,s2 _ _ ha⟩) (ra.ex λa o h=>⟨λq=>⟨s2 _ _ h,.inl q⟩,λ_=>s2 _ _ h⟩)
   | _=>cases hg
theorem u6 {b:BX}{Ow:Addr->Prop}{H:Hp}{vs:List V}{ps:List PV}(h:Reps b.C (ArA b Ow false H) H vs ps):Reps b.C (Bs b Ow) H vs ps:=h.ex (dH λa o _ q=>q.elim id λz=>by cases z.1)
theorem bF (h:SA X b G false es g):SE X b G .own (.List es pos) (aO g):=PE.imp (vy h)<|by
 rintro σ H Q ⟨Ow,env,p,E,hf,k⟩
 unfold aO at hf
 cases q1:g env with
 | none=>rw[q1] at hf;cases hf
 | some ps=>
  rw[q1] at hf
  simp only[Option.bind_some] at hf
  split at hf
  ·rename_i hl
   cases hf
   refine⟨Ow,env,ps,E,q1,λvs H1 s1 r=>⟨iT (by rw[r.length];exact hl),λq hq=>k _ _ (s1.trans (cT hq _)) (Res.down s1 (mJ hq (u6 r)))⟩⟩
  ·cases hf
theorem cj {x1}(h:SA X b G false es g):SE X b G .val (.Tuple es x1 pos) (bI g):=PE.imp (JR h)<|by
 rintro σ H Q ⟨Ow,env,p,E,hf,k⟩
 unfold bI at hf
 cases q1:g env with
 | none=>rw[q1] at hf;cases hf
 | some ps=>
  rw[q1] at hf
  simp only[Option.bind_some] at hf
  split at hf
  ·rename_i hl
   cases hf
   refine⟨Ow,env,ps,E,q1,λvs H1 s1 r=>⟨iT (by rw[r.length];exact hl),λq hq=>k _ _ (s1.trans (cT hq _)) (pM hq (u6 r))⟩⟩
  ·cases hf
@[simp] noncomputable def ixP:PV->PV->Option PV
 | .lst xs,.int i=>atI xs i
 | .frz xs,.int i=>atI xs i
 | .tup xs,.int i=>atI xs i
 | .ktp xs,.int i=>atI xs i
 | .str x,.int i=>if x.length<=1000000 then (atI x.cps.toList i).map λc=>.str ⟨#[c]⟩ else none
 | .dK kvs,y=>(keyOf y).bind λk=>ju kvs k
 | .dT kvs,.tup ys=>(keysB ys).bind λk=>ju kvs k
 | _,_=>none
theorem Reps.atI {C:MC}{A:Addr->Prop}{H:Hp}{vs:List V}{ps:List PV}{i:Int}{p:PV}(h:Reps C A H vs ps) (e:atI ps i=some p):∃ v,L2.atI vs i=some v/\Rep C A H v p:=by
 unfold L2.atI at e ⊢
 rw[h.length]
 cases q:ixN ps.length i with
 | none=>rw[q] at e;cases e
 | some j=>rw[q] at e;exact h.get e
theorem bc {j:Nat}(hr:Room j X.A) (h1:SE X b G m1 e1 f1) (h2:SE X b G m2 e2 f2) (hs:sH e2:=by intro _ _;rfl) (hs':Dr e2:=by intro _ _;rfl) (hK:X.K=b.C.K:=by rfl):SE X b G .val (.Subscript e1 e2 pos) (b2 ixP f1 f2):=by
 refine PE.imp (PE.or (Gs (r:=rIx b.C.K) (by rw[← hK];exact J1) h1.bor h2.bor hs) (Hh (yS hr) h1.bor h2.bor hs')) fun σ H Q h=>?_
 obtain⟨Ow,env,p,E,hf,k⟩:=h
 unfold b2 at hf
 cases q1:f1 env with
 | none=>rw[q1] at hf;cases hf
 | some p1=>
  rw[q1] at hf
  cases q2:f2 env with
  | none=>rw[q2] at hf;cases hf
  | some p2=>
   rw[q2] at hf
   simp only[Option.bind_some] at hf
   have step:∀ (R:V->V->Hp->VK->Prop),(∀ H2 v1 v2,RepB b.C (Bs b Ow) H2 v1 p1->RepB b.C (Bs b Ow) H2 v2 p2->Same H H2->R v1 v2 H2 Q)->tM b G .bor f1 σ H λx H1=>tM b G .bor f2 σ H1 λy H2=>R x y H2 Q:=λR hR=>
    ⟨Ow,env,p1,E,q1,λv1 H1 s1 r1=>⟨Ow,env,p2,E.up s1,q2,λv2 H2 s2 r2=>hR H2 v1 v2 (Res.up (m:=.bor) r1 s2) r2 (s1.trans s2)⟩⟩
   unfold ixP at hf
   split at hf
   ·refine .inl (step _ λH2 v1 v2 r1 r2 s=>?_)
    obtain⟨a,vs,rfl,ha,ra⟩:=r1.lst
    obtain⟨v,hv,rv⟩:=ra.atI hf
    rw[r2.int]
    exact .inl ⟨a,vs,_,v,rfl,rfl,SqL.of ha,hv,k v H2 s rv⟩
   ·refine .inl (step _ λH2 v1 v2 r1 r2 s=>?_)
    obtain⟨a,vs,rfl,ha,ra⟩:=r1.frz
    obtain⟨v,hv,rv⟩:=ra.atI hf
    rw[r2.int]
    exact .inl ⟨a,vs,_,v,rfl,rfl,ha,hv,k v H2 s rv⟩
   ·refine .inl (step _ λH2 v1 v2 r1 r2 s=>?_)
    obtain⟨a,vs,rfl,ha,ra⟩:=r1.tup
    obtain⟨v,hv,rv⟩:=ra.atI hf
    rw[r2.int]
    exact .inr (.inl ⟨a,vs,_,v,rfl,rfl,ha.sq,hv,k v H2 s rv⟩)
   ·refine .inl (step _ λH2 v1 v2 r1 r2 s=>?_)
    obtain⟨a,vs,rfl,ha,ra⟩:=r1.ktp
    obtain⟨v,hv,rv⟩:=ra.atI hf
    rw[r2.int]
    exact .inr (.inl ⟨a,vs,_,v,rfl,rfl,ha,hv,k v H2 s rv⟩)
   ·split at hf
    ·rename_i x i hx
     cases q3:atI x.cps.toList i with
     | none=>rw[q3] at hf;cases hf
     | some c=>
      rw[q3] at hf
      cases hf
      refine .inl (step _ λH2 v1 v2 r1 r2 s=>?_)
      rw[r1.str,r2.int]
      exact .inr (.inr ⟨x,i,c,rfl,rfl,iT hx,q3,k _ H2 s (.str _)⟩)
    ·cases hf
   ·rename_i kvs
    cases q3:keyOf p2 with
    | none=>rw[q3] at hf;cases hf
    | some ky=>
     rw[q3] at hf
     simp only[Option.bind_some] at hf
     refine .inr (step (λx y H2 Q=>∃ a v,x=.ref a/\DGet X.K H2 a y (some v)/\Q v H2) λH2 v1 v2 r1 r2 s=>?_)
     obtain⟨a,kv,rfl,ha,ra⟩:=r1.dK
     rw[r2.key q3]
     unfold ju at hf
     rcases RepK.val (k:=ky) ra with ⟨v,p',h1,h2,rv⟩ | ⟨h1,h2⟩
     ·rw[h2] at hf
      cases hf
      exact⟨a,v,rfl,by rw[← h1];exact DGet.k ha,k v H2 s rv⟩
     ·rw[h2] at hf;cases hf
   ·rename_i kvs ys
    cases q3:keysB ys with
    | none=>rw[q3] at hf;cases hf
    | some ky=>
     rw[q3] at hf
     simp only[Option.bind_some] at hf
     refine .inr (step (λx y H2 Q=>∃ a v,x=.ref a/\DGet X.K H2 a y (some v)/\Q v H2) λH2 v1 v2 r1 r2 s=>?_)
     obtain⟨a,kv,rfl,ha,ra⟩:=r1.dT
     obtain⟨c,vs,rfl,hc,rc⟩:=r2.tup
     unfold ju at hf
     rcases RepT.val (k:=ky) ra with ⟨v,p',h1,h2,rv⟩ | ⟨h1,h2⟩
     ·rw[h2] at hf
      cases hf
      exact⟨a,v,rfl,by rw[← h1,hK];exact DGet.t ha (hc.key (rc.keysB q3)),k v H2 s rv⟩
     ·rw[h2] at hf;cases hf
   ·cases hf
noncomputable def fG (xs:List PV) (lo hi:Option Int):List PV:=(xs.drop (HT.sIx xs.length 0 lo)).take (HT.sIx xs.length xs.length hi - HT.sIx xs.length 0 lo)
theorem Reps.cut {C:MC}{A:Addr->Prop}{H:Hp}{vs:List V}{ps:List PV}(h:Reps C A H vs ps) (lo hi:Option Int):Reps C A H (dZ vs lo hi) (fG ps lo hi):=by
 unfold dZ fG
 rw[h.length]
 exact(h.drop _).take _
noncomputable def oN (env:Env):Option (Option Int):=some none
@[simp] theorem QR (env:Env):oN env=(some none):=id rfl
noncomputable def oS (f:Env->Option PV) (env:Env):Option (Option Int):=(f env).bind λp=>match p with | .int i=>some (some i) | _=>none
@[simp] theorem QS (f:Env->Option PV) (env:Env):oS f env=((f env).bind λp=>match p with | .int i=>some (some i) | _=>none):=id rfl
def tMO (b:BX) (G:List Nat) (f:Env->Option (Option Int)):TO:=fun σ H Q=>∃ Ow env o,ER b Ow G σ env H/\f env=some o/\∀ H',Same H H'->Q o H'
theorem PO.imp {x:Option Expr}{t u:TO}(h:PO X x t) (i:∀ σ H Q,u σ H Q->t σ H Q):PO X x u:=by
 intro pins s σ H Q I q
 exact h pins s σ H Q I (i σ H Q q)
abbrev SO (X:Cx) (b:BX) (G:List Nat) (e:Option Expr) (f:Env->Option (Option Int)):Prop:=PO X e (tMO b G f)
theorem kY:SO X b G none oN:=PO.imp Hj<|by rintro σ H Q ⟨Ow,env,o,E,hf,k⟩;cases hf;exact k H (Same.refl _)
theorem gW (h:SE X b G m e f):SO X b G (some e) (oS f):=PO.imp (Hk h.bor)<|by
 rintro σ H Q ⟨Ow,env,o,E,hf,k⟩
 unfold oS at hf
 cases q1:f env with
 | none=>rw[q1] at hf;cases hf
 | some p1=>
  rw[q1] at hf
  refine⟨Ow,env,p1,E,q1,λv H1 s1 r1=>?_⟩
  have r1':RepB b.C (Bs b Ow) H1 v p1:=r1
  cases p1 <;> simp only[Option.bind_some] at hf <;> cases hf
  exact⟨_,r1'.int,k H1 s1⟩
noncomputable def bSl (f:Env->Option PV) (lo hi:Env->Option (Option Int)) (env:Env):Option PV:=(f env).bind λx=>(lo env).bind λl=>(hi env).bind λh=>match x with
 | .lst xs=>some (.lst (fG xs l h))
 | .frz xs=>some (.lst (fG xs l h))
 | .str x=>if x.length<=1000000 then some (.str (oO x l h)) else none
 | _=>none
@[simp] theorem Qm (f:Env->Option PV) (lo hi:Env->Option (Option Int)) (env:Env):bSl f lo hi env=((f env).bind λx=>(lo env).bind λl=>(hi env).bind λh=>match x with
 | .lst xs=>some (.lst (fG xs l h))
 | .frz xs=>some (.lst (fG xs l h))
 | .str x=>if x.length<=1000000 then some (.str (oO x l h)) else none
 | _=>none):=id rfl
theorem nJ {lo hi:Option Expr}{p2:Pos}{fl fh:Env->Option (Option Int)}(h1:SE X b G m e f) (hl:SO X b G lo fl) (hh:SO X b G hi fh) (hK:X.K=b.C.K:=by rfl):SE X b G .val (.Subscript e (.Slice lo hi none p2) pos) (bSl f fl fh):=by
 refine PE.imp (vB (r:=J_ b.C.K) (by rw[← hK];exact Ka) h1.bor hl hh) fun σ H Q ⟨Ow,env,p,E,hf,k⟩=>?_
 unfold bSl at hf
 cases q1:f env with
 | none=>rw[q1] at hf;cases hf
 | some p1=>
  rw[q1] at hf
  cases q2:fl env with
  | none=>rw[q2] at hf;cases hf
  | some l=>
   rw[q2] at hf
   cases q3:fh env with
   | none=>rw[q3] at hf;cases hf
   | some h=>
    rw[q3] at hf
    refine⟨Ow,env,p1,E,q1,λv H1 s1 r1=>⟨Ow,env,l,E.up s1,q2,λH2 s2=>⟨Ow,env,h,E.up (s1.trans s2),q3,λH3 s3=>?_⟩⟩⟩
    have r1':RepB b.C (Bs b Ow) H3 v p1:=Res.up (m:=.bor) r1 (s2.trans s3)
    cases p1 <;> simp only[Option.bind_some] at hf
    case lst xs=>
     cases hf
     obtain⟨a,vs,rfl,ha,ra⟩:=r1'.lst
     exact .inl ⟨a,vs,rfl,SqL.of ha,λq hq=>k _ _ (s1.trans (s2.trans (s3.trans (cT hq _)))) (Res.val (m:=.own) E (λz=>nomatch z) (Res.down (s1.trans (s2.trans s3)) (mJ hq (ra.cut l h))))⟩
    case frz xs=>
     cases hf
     obtain⟨a,vs,rfl,ha,ra⟩:=r1'.frz
     exact .inl ⟨a,vs,rfl,ha,λq hq=>k _ _ (s1.trans (s2.trans (s3.trans (cT hq _)))) (Res.val (m:=.own) E (λz=>nomatch z) (Res.down (s1.trans (s2.trans s3)) (mJ hq (ra.cut l h))))⟩
    case str x=>
     split at hf
     ·rename_i hx
      cases hf
      exact .inr ⟨x,r1'.str,iT hx,k _ _ (s1.trans (s2.trans s3)) (.str _)⟩
     ·cases hf
    all_goals cases hf
theorem rm {id:String}{x:Str}{r:List V->Hp->VK->Prop}{g:PV->Option PV}(hc:CallR X (.builtin id) r) (hr:Op1 b m (λv H Q=>r [v] H Q) g) (hm:X.mg x=none) (hv:bootBuiltins x=some (.builtin id)) (h:SE X b G m1 e f)
  (hg:Gl X x:=by rfl) (hn:x ≠ "__name__" := by decide) (hdb:(x == ("__debug__" : Str))=false:=by decide) (he:starEach [e] X.env=(false,eval e X.env)::starEach [] X.env:=by rfl):
  SE X b G m (.Call (.Name x p) [e] [] pos) (b1 g f):=
 PE.imp (lg hc hg hm hv (b7 h.bor dR he) hn hdb he rfl) fun σ H Q h=>y_ hr h
theorem sU {id:String}{x:Str}{r:List V->Hp->VK->Prop}{g:PV->Option PV}(hc:CallR X (.type id) r) (hr:Op1 b m (λv H Q=>r [v] H Q) g) (hm:X.mg x=none) (hv:bootBuiltins x=some (.type id)) (h:SE X b G m1 e f)
  (hg:Gl X x:=by rfl) (hn:x ≠ "__name__" := by decide) (hdb:(x == ("__debug__" : Str))=false:=by decide) (he:starEach [e] X.env=(false,eval e X.env)::starEach [] X.env:=by rfl):
  SE X b G m (.Call (.Name x p) [e] [] pos) (b1 g f):=
 PE.imp (Ax hc hg hm hv (b7 h.bor dR he) hn hdb he rfl) fun σ H Q h=>y_ hr h
@[simp] noncomputable def lenV:PV->Option PV
 | .lst xs=>some (.int xs.length)
 | .frz xs=>some (.int xs.length)
 | .tup xs=>some (.int xs.length)
 | .ktp xs=>some (.int xs.length)
 | .str x=>if x.length<=1000000 then some (.int x.length) else none
 | .dK kvs=>some (.int kvs.length)
 | _=>none
theorem RepK.length {C:MC}{A:Addr->Prop}{H:Hp}:∀ {vs:List (Key×V)}{ps:List (Key×PV)},RepK C A H vs ps->vs.length=ps.length
 | _,_,.nil=>rfl
 | _,_,.cons _ t=>by simp[RepK.length t]
theorem cJ (hm:X.mg "len" = none) (h:SE X b G m1 e f) (hK:X.K=b.C.K:=by rfl) (hg:Gl X "len" := by rfl) (he:starEach [e] X.env=(false,eval e X.env)::starEach [] X.env:=by rfl):SE X b G .val (.Call (.Name "len" p) [e] [] pos) (b1 lenV f):=by
 refine rm (CallR.or (CallR.or vH vI) Bf) (λOw H v1 p1 p Q hn r1 e k=>?_) hm PySem.boot_len h hg (by decide) (by decide) he
 rw[hK]
 cases p1 <;> simp only[lenV] at e
 case lst xs=>cases e;obtain⟨a,vs,rfl,ha,ra⟩:=r1.lst;exact .inl (.inl ⟨a,vs,rfl,.inl (SqL.of ha),by rw[ra.length];exact k _ H (Same.refl _) (.int _)⟩)
 case frz xs=>cases e;obtain⟨a,vs,rfl,ha,ra⟩:=r1.frz;exact .inl (.inl ⟨a,vs,rfl,.inl ha,by rw[ra.length];exact k _ H (Same.refl _) (.int _)⟩)
 case tup xs=>cases e;obtain⟨a,vs,rfl,ha,ra⟩:=r1.tup;exact .inl (.inl ⟨a,vs,rfl,.inr ha.sq,by rw[ra.length];exact k _ H (Same.refl _) (.int _)⟩)
 case ktp xs=>cases e;obtain⟨a,vs,rfl,ha,ra⟩:=r1.ktp;exact .inl (.inl ⟨a,vs,rfl,.inr ha,by rw[ra.length];exact k _ H (Same.refl _) (.int _)⟩)
 case str x=>
  split at e
  ·rename_i hx
   cases e
   rw[r1.str]
   exact .inl (.inr ⟨x,rfl,iT hx,k _ H (Same.refl _) (.int _)⟩)
  ·cases e
 case dK kvs=>cases e;obtain⟨a,vs,rfl,ha,ra⟩:=r1.dK;exact .inr ⟨a,vs,rfl,ha,by rw[ra.length];exact k _ H (Same.refl _) (.int _)⟩
 all_goals cases e
@[simp] def bools:List PV->Option (List Bool)
 | []=>some []
 | .bl c::r=>(bools r).map (c::·)
 | _::_=>none
theorem Reps.bools {C:MC}{A:Addr->Prop}{H:Hp}:∀ {vs:List V}{ps:List PV}{bs:List Bool},Reps C A H vs ps->bools ps=some bs->vs=bs.map V.bl
 | _,_,_,.nil,e=>by cases e;rfl
 | _,_,_,.cons (p:=p) (ps:=ps) h t,e=>by
  cases p <;> simp only[MR.bools] at e <;> first | cases e | skip
  rename_i c
  cases q:MR.bools ps with
  | none=>rw[q] at e;cases e
  | some bs=>rw[q] at e;cases e;cases h;rw[Reps.bools t q];rfl
@[simp] noncomputable def Eb:PV->Option PV
 | .lst xs=>(bools xs).map λbs=>.bl (bs.all id)
 | _=>none
@[simp] def zg:PV->Option PV
 | .lst xs=>(bools xs).map λbs=>.bl (bs.any id)
 | _=>none
theorem KD (hm:X.mg "all" = none) (h:SE X b G m1 e f) (hcm:X.calm=true:=by rfl) (hg:Gl X "all" := by rfl) (he:starEach [e] X.env=(false,eval e X.env)::starEach [] X.env:=by rfl):SE X b G .val (.Call (.Name "all" p) [e] [] pos) (b1 Eb f):=by
 refine rm (DQ hcm) (λOw H v1 p1 p Q hn r1 e k=>?_) hm PyProof.Rows.boot_all h hg (by decide) (by decide) he
 cases p1 <;> simp only[Eb] at e <;> first | cases e | skip
 rename_i xs
 cases q:bools xs with
 | none=>rw[q] at e;cases e
 | some bs=>
  rw[q] at e
  cases e
  obtain⟨a,vs,rfl,ha,ra⟩:=r1.lst
  have hv:=ra.bools q
  subst hv
  exact⟨a,bs,rfl,SqL.of ha,k _ H (Same.refl _) (.bl _)⟩
theorem KH (hm:X.mg "any" = none) (h:SE X b G m1 e f) (hcm:X.calm=true:=by rfl) (hg:Gl X "any" := by rfl) (he:starEach [e] X.env=(false,eval e X.env)::starEach [] X.env:=by rfl):SE X b G .val (.Call (.Name "any" p) [e] [] pos) (b1 zg f):=by
 refine rm (DR hcm) (λOw H v1 p1 p Q hn r1 e k=>?_) hm PyProof.Rows.boot_any h hg (by decide) (by decide) he
 cases p1 <;> simp only[zg] at e <;> first | cases e | skip
 rename_i xs
 cases q:bools xs with
 | none=>rw[q] at e;cases e
 | some bs=>
  rw[q] at e
  cases e
  obtain⟨a,vs,rfl,ha,ra⟩:=r1.lst
  have hv:=ra.bools q
  subst hv
  exact⟨a,bs,rfl,SqL.of ha,k _ H (Same.refl _) (.bl _)⟩
@[simp] def strsP:List PV->Option (List Str)
 | []=>some []
 | .str c::r=>(strsP r).map (c::·)
 | _::_=>none
theorem Reps.strsP {C:MC}{A:Addr->Prop}{H:Hp}:∀ {vs:List V}{ps:List PV}{bs:List Str},Reps C A H vs ps->strsP ps=some bs->vs=bs.map V.str
 | _,_,_,.nil,e=>by cases e;rfl
 | _,_,_,.cons (p:=p) (ps:=ps) h t,e=>by
  cases p <;> simp only[MR.strsP] at e <;> first | cases e | skip
  rename_i c
  cases q:MR.strsP ps with
  | none=>rw[q] at e;cases e
  | some bs=>rw[q] at e;cases e;cases h;rw[Reps.strsP t q];rfl
@[simp] def u9:PV->PV->Option PV
 | .str z,.lst xs=>(strsP xs).bind λzs=>if JoinOk z zs=true then some (.str (Str.join z zs)) else none
 | _,_=>none
@[simp] def gQ:PV->PV->Option PV
 | .str z,.str y=>if (y.length == 0)=false/\z.length<=1000000 then some (.lst ((Txt.split z y).map .str)) else none
 | _,_=>none
theorem Gu {id:String}{name:Str}{apos cpos:Pos}{o:Expr}{fo:Env->Option PV}{r:V->List V->Hp->VK->Prop}{g:PV->PV->Option PV}(slot:Slot "str" name id) (hty:typeOf (.builtin id)=pure (.type "method_descriptor")) (pa:PlainAttrs "str") (hm:MtR X id r)
  (hr:Op2 b m (λx y H Q=>(∃ z,x=.str z)->r x [y] H Q) g) (hgs:∀ x y p,g x y=some p->∃ z,x=.str z) (ho:SE X b G m1 o fo) (h:SE X b G m2 e f)
  (hbase:attributeBase o name X.env (eval o X.env)=eval o X.env:=by rfl)
  (hfew:((backTo cpos (starEach [e] X.env)).all (λx=>!x.1)&&(backToKw cpos (keywordEach [] X.env)).all (λx=>x.1.isSome)
   && decide ([e].length+([]:List Keyword).length+(if ([]:List Keyword).isEmpty then 0 else 1) < 30))=true:=by rfl)
  (hline:(apos.endLine == cpos.line)=true:=by rfl) (hs:starEach [e] X.env=(false,eval e X.env)::starEach [] X.env:=by rfl):
  SE X b G m (.Call (.Attribute o name apos) [e] [] cpos) (b2 g fo f):=by
 refine PE.imp (yR pa slot hty hm ho.bor (b7 h.bor dR hs) hbase hfew hline hs rfl) fun σ H Q h=>?_
 obtain⟨Ow,env,p,E,hf,k⟩:=h
 unfold b2 at hf
 cases q1:fo env with
 | none=>rw[q1] at hf;cases hf
 | some p1=>
  rw[q1] at hf
  cases q2:f env with
  | none=>rw[q2] at hf;cases hf
  | some p2=>
   rw[q2] at hf
   simp only[Option.bind_some] at hf
   obtain⟨z,rfl⟩:=hgs _ _ _ hf
   refine⟨Ow,env,_,E,q1,λv1 H1 s1 r1=>?_⟩
   have r1':RepB b.C (Bs b Ow) H1 v1 (.str z):=r1
   have ev:=r1'.str
   subst ev
   refine⟨rfl,Ow,env,p2,E.up s1,q2,λv2 H2 s2 r2=>?_⟩
   exact hr Ow H2 _ v2 _ p2 p Q (λa=>(E.up (s1.trans s2)).fresh) (RepB.ex (.of_same s2) s2 r1') r2 hf (λv H' s r=>k v H' (s1.trans (s2.trans s)) (r.down (s1.trans s2))) ⟨z,rfl⟩
theorem Hy:Op2 b .val (λx y H Q=>(∃ z,x=.str z)->rJoin b.C.K x [y] H Q) u9:=by
 intro Ow H v1 v2 p1 p2 p Q hn r1 r2 e k _
 unfold u9 at e
 split at e
 ·rename_i z xs
  cases q:strsP xs with
  | none=>rw[q] at e;cases e
  | some zs=>
   rw[q] at e
   simp only[Option.bind_some] at e
   split at e
   ·rename_i hj
    cases e
    obtain⟨a,vs,rfl,ha,ra⟩:=r2.lst
    have hv:=ra.strsP q
    subst hv
    exact⟨z,a,zs,r1.str,rfl,SqL.of ha,hj,k _ H (Same.refl _) (.str _)⟩
   ·cases e
 ·cases e
theorem Ec:Op2 b .own (λx y H Q=>(∃ z,x=.str z)->Bh x [y] H Q) gQ:=by
 intro Ow H v1 v2 p1 p2 p Q hn r1 r2 e k _
 unfold gQ at e
 split at e
 ·rename_i z y
  split at e
  ·rename_i hj
   cases e
   refine⟨z,y,r1.str,by rw[r2.str],hj.1,hj.2,λl hl=>k _ _ (cT hl _) (mJ hl (sJ _ _ (λx=>.str x) _))⟩
  ·cases e
 ·cases e
theorem lC {apos cpos:Pos}{o:Expr}{fo:Env->Option PV}(ho:SE X b G m1 o fo) (h:SE X b G m2 e f) (hbase:attributeBase o "split" X.env (eval o X.env)=eval o X.env:=by rfl)
  (hfew:((backTo cpos (starEach [e] X.env)).all (λx=>!x.1)&&(backToKw cpos (keywordEach [] X.env)).all (λx=>x.1.isSome)
   && decide ([e].length+([]:List Keyword).length+(if ([]:List Keyword).isEmpty then 0 else 1) < 30))=true:=by rfl)
  (hline:(apos.endLine == cpos.line)=true:=by rfl) (hs:starEach [e] X.env=(false,eval e X.env)::starEach [] X.env:=by rfl):
  SE X b G .own (.Call (.Attribute o "split" apos) [e] [] cpos) (b2 gQ fo f):=
 Gu PySem.F.slot_str_split PySem.F.type_str_split PySem.F.plainAttrs_str DP Ec (λx y p e=>by
  unfold gQ at e
  split at e
  ·exact⟨_,rfl⟩
  ·cases e) ho h hbase hfew hline hs
def Ret (C:MC) (A:Addr->Prop) (H:Hp) (ro:Bool) (H':Hp) (v:V) (p:PV):Prop:=match ro with
 | true=>∃ a,v=.ref a/\H a=none/\Top C (λc=>(A c\/H c=none)/\c≠a) H' a p
 | false=>Rep C (λc=>A c\/H c=none) H' v p
def spM (C:MC) (m:List PV->Option PV) (ro:Bool):Sp:=λvs H Q _=>∃ A ps p,Reps C A H vs ps/\m ps=some p/\∀ v H',Same H H'->Ret C A H ro H' v p->Q v H'
def KJ:Bool->Md
 | true=>.own
 | false=>.val
theorem Ret.res {Ow:Addr->Prop}{σ:St}{env:Env}{H H1 H':Hp}{ro:Bool}{v:V}{q:PV}(E:ER b Ow G σ env H) (s:Same H H1) (r:Ret b.C (Bs b Ow) H1 ro H' v q):Res b Ow H H' (KJ ro) v q:=by
 cases ro with
 | true=>
  obtain⟨a,rfl,h,t⟩:=r
  exact⟨a,rfl,s.free h,t.ex (dH λc o _ z=>⟨z.1.elim id λw=>(E.up s).fresh w,z.2⟩) λo z=>z⟩
 | false=>exact Rep.ex (dH λc o _ z=>z.elim id λw=>(E.up s).fresh w) r
theorem Hz {k j:Nat}{x:Str}{ps:List Str}{mi:List PV->Option PV}{ro:Bool}(c:Cal X.prog X.w X.K X.mg X.base k x ps (spM b.C mi ro)) (hr:Room j X.A) (ha:SA X b G false (e::es) g) (hle:k<=j:=by decide) (hg:Gl X x:=by rfl)
  (hdb:(x == ("__debug__" : Str))=false:=by decide) (he:starEach (e::es) X.env=(false,eval e X.env)::starEach es X.env:=by rfl) (hpl:(backTo pos (starEach es X.env)).any (·.1)=false:=by rfl):
  SE X b G (KJ ro) (.Call (.Name x p) (e::es) [] pos) (aN mi g):=by
 refine PE.imp (vN c hr ha hle hg hdb he hpl) ?_
 rintro σ H Q ⟨Ow,env,q,E,hf,kk⟩
 unfold aN at hf
 cases q1:g env with
 | none=>rw[q1] at hf;cases hf
 | some qs=>
  rw[q1] at hf
  refine⟨Ow,env,qs,E,q1,λvs H1 s1 r=>?_⟩
  dsimp only
  rw[List.append_nil]
  exact⟨Bs b Ow,qs,q,u6 r,hf,λv H' s' rr=>kk v H' (s1.trans s') (Ret.res E s1 rr)⟩
mutual
def noL:PV->Bool
 | .lst _=>false
 | .tup xs=>sV xs
 | .ktp xs=>sV xs
 | .frz xs=>sV xs
 | .dK kvs=>zj kvs
 | .dT kvs=>zm kvs
 | .obj _ fs=>zp fs
 | _=>true
def sV:List PV->Bool
 | []=>true
 | x::xs=>noL x&&sV xs
def zj:List (Key×PV)->Bool
 | []=>true
 | x::xs=>noL x.2&&zj xs
def zm:List (List Key×PV)->Bool
 | []=>true
 | x::xs=>noL x.2&&zm xs
def zp:List (Str×PV)->Bool
 | []=>true
 | x::xs=>noL x.2&&zp xs
end
def NL (A A':Addr->Prop) (H:Hp):Prop:=∀ a o,H a=some o->A a->A' a\/∃ vs,o=.lst vs
mutual
theorem Rep.nl {C:MC}{A A':Addr->Prop}{H:Hp}(e:NL A A' H):∀ {v:V}{p:PV},Rep C A H v p->noL p=true->Rep C A' H v p
 | _,_,.non,_=>.non
 | _,_,.bl b,_=>.bl b
 | _,_,.int i,_=>.int i
 | _,_,.str x,_=>.str x
 | _,_,.lst h q r,n=>by simp only[noL] at n;cases n
 | _,_,.lstF h r,n=>.lstF h (Reps.nl e r (by simpa only [noL] using n))
 | _,_,.lstK h r,n=>.lstK h (Reps.nl e r (by simpa only [noL] using n))
 | _,_,.tup h r,n=>.tup h (Reps.nl e r (by simpa only [noL] using n))
 | _,_,.tupC h r,n=>.tupC h (Reps.nl e r (by simpa only [noL] using n))
 | _,_,.tupK h r,n=>.tupK h (Reps.nl e r (by simpa only [noL] using n))
 | _,_,.dK h q r,n=>.dK h ((e _ _ h q).elim id λ⟨_,z⟩=>nomatch z) (RepK.nl e r (by simpa only [noL] using n))
 | _,_,.dT h q r,n=>.dT h ((e _ _ h q).elim id λ⟨_,z⟩=>nomatch z) (RepT.nl e r (by simpa only [noL] using n))
 | _,_,.obj h q r,n=>.obj h ((e _ _ h q).elim id λ⟨_,z⟩=>nomatch z) (RepF.nl e r (by simpa only [noL] using n))
theorem Reps.nl {C:MC}{A A':Addr->Prop}{H:Hp}(e:NL A A' H):∀ {v:List V}{p:List PV},Reps C A H v p->sV p=true->Reps C A' H v p
 | _,_,.nil,_=>.nil
 | _,_,.cons h t,n=>by
  simp only[sV,Bool.and_eq_true] at n
  exact .cons (Rep.nl e h n.1) (Reps.nl e t n.2)
theorem RepK.nl {C:MC}{A A':Addr->Prop}{H:Hp}(e:NL A A' H):∀ {v:List (Key×V)}{p:List (Key×PV)},RepK C A H v p->zj p=true->RepK C A' H v p
 | _,_,.nil,_=>.nil
 | _,_,.cons h t,n=>by
  simp only[zj,Bool.and_eq_true] at n
  exact .cons (Rep.nl e h n.1) (RepK.nl e t n.2)
theorem RepT.nl {C:MC}{A A':Addr->Prop}{H:Hp}(e:NL A A' H):∀ {v:List (List Key×V)}{p:List (List Key×PV)},RepT C A H v p->zm p=true->RepT C A' H v p
 | _,_,.nil,_=>.nil
 | _,_,.cons h t,n=>by
  simp only[zm,Bool.and_eq_true] at n
  exact .cons (Rep.nl e h n.1) (RepT.nl e t n.2)
theorem RepF.nl {C:MC}{A A':Addr->Prop}{H:Hp}(e:NL A A' H):∀ {v:List (Str×V)}{p:List (Str×PV)},RepF C A H v p->zp p=true->RepF C A' H v p
 | _,_,.nil,_=>.nil
 | _,_,.cons h t,n=>by
  simp only[zp,Bool.and_eq_true] at n
  exact .cons (Rep.nl e h n.1) (RepF.nl e t n.2)
end
def jx (mi:List PV->Option PV) (g:Env->Option (List PV)) (env:Env):Option PV:=((g env).bind mi).bind λp=>if noL p=true then some p else none
@[simp] theorem Oe (mi:List PV->Option PV) (g:Env->Option (List PV)) (env:Env):jx mi g env=(((g env).bind mi).bind λp=>if noL p=true then some p else none):=id rfl
theorem ji {k j:Nat}{x:Str}{ps:List Str}{mi:List PV->Option PV}(c:Cal X.prog X.w X.K X.mg X.base k x ps (spM b.C mi false)) (hr:Room j X.A) (ha:SA X b G true (e::es) g) (hle:k<=j:=by decide) (hg:Gl X x:=by rfl)
  (hdb:(x == ("__debug__" : Str))=false:=by decide) (he:starEach (e::es) X.env=(false,eval e X.env)::starEach es X.env:=by rfl) (hpl:(backTo pos (starEach es X.env)).any (·.1)=false:=by rfl):
  SE X b G .val (.Call (.Name x p) (e::es) [] pos) (jx mi g):=by
 refine PE.imp (vN c hr ha hle hg hdb he hpl) ?_
 rintro σ H Q ⟨Ow,env,q,E,hf,kk⟩
 unfold jx at hf
 cases q1:g env with
 | none=>rw[q1] at hf;cases hf
 | some qs=>
  rw[q1] at hf
  simp only[Option.bind_some] at hf
  cases q2:mi qs with
  | none=>rw[q2] at hf;cases hf
  | some q'=>
   rw[q2] at hf
   simp only[Option.bind_some] at hf
   split at hf
   ·rename_i hl
    cases hf
    refine⟨Ow,env,qs,E,q1,λvs H1 s1 r=>?_⟩
    dsimp only
    rw[List.append_nil]
    refine⟨ArA b Ow true H1,qs,q,r,q2,λv H' s' rr=>kk v H' (s1.trans s') ?_⟩
    have rr':Rep b.C (λc=>ArA b Ow true H1 c\/H1 c=none) H' v q:=rr
    refine rr'.nl (λa o ha z=>?_) hl
    rcases z with (z | ⟨_,us,z⟩) | z
    ·exact .inl z
    ·have:=s' _ _ z
     rw[this] at ha
     exact .inr ⟨us,(Option.some.inj ha).symm⟩
    ·exact .inl ((E.up s1).fresh z)
   ·cases hf
theorem aP {k j:Nat}{x:Str}{ps:List Str}{mi:List PV->Option PV}(c:Cal X.prog X.w X.K X.mg X.base k x ps (spM b.C mi false)) (hr:Room j X.A) (ha:SA X b G false (e::es) g) (hle:k<=j:=by decide) (hg:Gl X x:=by rfl)
  (hdb:(x == ("__debug__" : Str))=false:=by decide) (he:starEach (e::es) X.env=(false,eval e X.env)::starEach es X.env:=by rfl) (hpl:(backTo pos (starEach es X.env)).any (·.1)=false:=by rfl):
  SE X b G .val (.Call (.Name x p) (e::es) [] pos) (aN mi g):=Hz c hr ha hle hg hdb he hpl
end
end MR
namespace MR
open PySem L2
section
variable {b:BX}{Ow:Addr->Prop}{G:List Nat}{σ:St}{env:Env}{H H':Hp}
theorem ER.set (E:ER b Ow G σ env H){i:Nat}{v:V}{p:PV}(hi:i∉G) (r:Rep b.C (Bs b Ow) H v p) (hx:b.fx i=none):ER b Ow G (σ.set i (some v)) (env.set i (some p)) H:=by
 refine⟨by rw[List.length_set,List.length_set];exact E.len,E.same,E.live,E.new,λj q e n=>?_,λj q e n=>?_,λj k a q q' e1 n1 s1 e2 n2 s2=>?_,λk w hw=>?_⟩
 ·by_cases hj:i=j
  ·subst hj
   rw[List.getElem?_set] at e
   split at e
   ·split at e
    ·rename_i hl
     have:=Option.some.inj (Option.some.inj e)
     subst this
     exact⟨v,by rw[List.getElem?_set_self (by rw[E.len];exact hl)],r⟩
    ·cases e
   ·exact absurd rfl ‹_›
  ·rw[List.getElem?_set_ne hj] at e ⊢
   exact E.val j q e n
 ·have hj:i≠j:=λz=>hi (z▸n)
  rw[List.getElem?_set_ne hj] at e ⊢
  exact E.own j q e n
 ·have hj:i≠j:=λz=>hi (z▸n1)
  have hk:i≠k:=λz=>hi (z▸n2)
  rw[List.getElem?_set_ne hj] at e1 s1
  rw[List.getElem?_set_ne hk] at e2 s2
  exact E.sep j k a q q' e1 n1 s1 e2 n2 s2
 ·by_cases hk:i=k
  ·subst hk;rw[hx] at hw;cases hw
  ·rw[List.getElem?_set_ne hk];exact E.fix k w hw
theorem ER.setO (E:ER b Ow G σ env H){i:Nat}{a:Addr}{p:PV}{H0:Hp}{G':List Nat}(hG:∀ j,j∈G'↔(j∈G\/j=i)) (s0:Same H0 H) (hn:H0 a=none) (hE0:ER b Ow G σ env H0) (t:Top b.C (λc=>Bs b Ow c/\c≠a) H a p) (hx:b.fx i=none):
  ER b (λc=>Ow c\/c=a) G' (σ.set i (some (.ref a))) (env.set i (some p)) H/\Ex (Bs b Ow) H0 (Bs b λc=>Ow c\/c=a) H:=by
 have hx0:Ex (Bs b Ow) H0 (Bs b λc=>Ow c\/c=a) H:=λc o h=>⟨λq=>⟨s0 _ _ h,λz=>z.elim q.1 (aV h hn),q.2⟩,λ_=>s0 _ _ h⟩
 have ht:Top b.C (Bs b λc=>Ow c\/c=a) H a p:=t.ex (dH λc o _ q=>⟨λz=>z.elim q.1.1 q.2,q.1.2⟩) λo z=>z
 refine⟨⟨by rw[List.length_set,List.length_set];exact E.len,E.same,λc w=>w.elim (E.live c) λz=>by subst z;obtain⟨o,h,_⟩:=t.live;exact⟨o,h⟩,λc w=>w.elim (E.new c) λz=>by subst z;exact hE0.same.free hn,λj q e n=>?_,λj q e n=>?_,λj k c q q' e1 n1 s1 e2 n2 s2=>?_,λk w hw=>?_⟩,hx0⟩
 ·have hj:i≠j:=λz=>n ((hG j).mpr (.inr z.symm))
  rw[List.getElem?_set_ne hj] at e ⊢
  obtain⟨v,h1,h2⟩:=hE0.val j q e λz=>n ((hG j).mpr (.inl z))
  exact⟨v,h1,h2.ex hx0⟩
 ·by_cases hj:i=j
  ·subst hj
   rw[List.getElem?_set] at e
   split at e
   ·split at e
    ·rename_i hl
     have:=Option.some.inj (Option.some.inj e)
     subst this
     exact⟨a,by rw[List.getElem?_set_self (by rw[E.len];exact hl)],.inr rfl,ht⟩
    ·cases e
   ·exact absurd rfl ‹_›
  ·rw[List.getElem?_set_ne hj] at e ⊢
   have nG:j∈G:=((hG j).mp n).elim id λz=>absurd z.symm hj
   obtain⟨c,h1,h2,h3⟩:=hE0.own j q e nG
   exact⟨c,h1,.inl h2,h3.ex hx0 λo z=>s0 _ _ z⟩
 ·have old:∀ {j:Nat}{q:PV},i≠j->j∈G'->env[j]?=some (some q)->σ[j]?=some (some (.ref c))->c≠a:=λ{j q} hj n e s=>by
   have nG:j∈G:=((hG j).mp n).elim id λz=>absurd z.symm hj
   obtain⟨c',h1,h2,h3⟩:=hE0.own j q e nG
   rw[s] at h1
   cases h1
   obtain⟨o,h4,_⟩:=h3.live
   exact aV h4 hn
  by_cases hj:i=j
  ·by_cases hk:i=k
   ·exact hj.symm.trans hk
   ·subst hj
    rw[List.getElem?_set_ne hk] at e2 s2
    have hl:i < σ.length:=by
     by_cases hl:i < σ.length
     ·exact hl
     ·rw[List.getElem?_eq_none (by rw[List.length_set];omega)] at s1;cases s1
    rw[List.getElem?_set_self hl] at s1
    cases s1
    exact absurd rfl (old hk n2 e2 s2)
  ·by_cases hk:i=k
   ·subst hk
    rw[List.getElem?_set_ne hj] at e1 s1
    have hl:i < σ.length:=by
     by_cases hl:i < σ.length
     ·exact hl
     ·rw[List.getElem?_eq_none (by rw[List.length_set];omega)] at s2;cases s2
    rw[List.getElem?_set_self hl] at s2
    cases s2
    exact absurd rfl (old hj n1 e1 s1)
   ·rw[List.getElem?_set_ne hj] at e1 s1
    rw[List.getElem?_set_ne hk] at e2 s2
    have g1:j∈G:=((hG j).mp n1).elim id λz=>absurd z.symm hj
    have g2:k∈G:=((hG k).mp n2).elim id λz=>absurd z.symm hk
    exact E.sep j k c q q' e1 g1 s1 e2 g2 s2
 ·by_cases hk:i=k
  ·subst hk;rw[hx] at hw;cases hw
  ·rw[List.getElem?_set_ne hk];exact E.fix k w hw
theorem ER.write (E:ER b Ow G σ env H){i:Nat}{a:Addr}{p p':PV}{o':HO}(hi:i∈G) (hσ:σ[i]?=some (some (.ref a))) (he:env[i]?=some (some p)) (hw:Ow a) (t:Top b.C (Bs b Ow) H a p) (t':Top b.C (Bs b Ow) (upd H a o') a p'):
  ER b Ow G σ (env.set i (some p')) (upd H a o')/\Ex (Bs b Ow) H (Bs b Ow) (upd H a o'):=by
 obtain⟨o,ho,hm⟩:=t.live
 have hx:Ex (Bs b Ow) H (Bs b Ow) (upd H a o'):=λc u h=>⟨λq=>⟨by rw[aH (λz:c=a=>q.1 (z▸hw))];exact h,q⟩,λm=>by
  have hc:c≠a:=λz=>by subst z;rw[ho] at h;cases h;rw[hm] at m;cases m
  rw[aH hc];exact h⟩
 refine⟨⟨by rw[List.length_set];exact E.len,λc u h=>?_,λc w=>?_,E.new,λj q e n=>?_,λj q e n=>?_,λj k c q q' e1 n1 s1 e2 n2 s2=>?_,E.fix⟩,hx⟩
 ·have hc:c≠a:=aV h (E.new a hw)
  rw[aH hc];exact E.same c u h
 ·by_cases hc:c=a
  ·subst hc;exact⟨o',bf⟩
  ·obtain⟨u,h⟩:=E.live c w
   exact⟨u,by rw[aH hc];exact h⟩
 ·have hj:i≠j:=λz=>n (z▸hi)
  rw[List.getElem?_set_ne hj] at e
  obtain⟨v,h1,h2⟩:=E.val j q e n
  exact⟨v,h1,h2.ex hx⟩
 ·by_cases hj:i=j
  ·subst hj
   rw[List.getElem?_set] at e
   split at e
   ·split at e
    ·have:=Option.some.inj (Option.some.inj e)
     subst this
     exact⟨a,hσ,hw,t'⟩
    ·cases e
   ·exact absurd rfl ‹_›
  ·rw[List.getElem?_set_ne hj] at e
   obtain⟨c,h1,h2,h3⟩:=E.own j q e n
   have hc:c≠a:=λz=>by subst z;exact hj (E.sep i j c p q he hi hσ e n h1)
   exact⟨c,h1,h2,h3.ex hx λu z=>by rw[aH hc];exact z⟩
 ·have back:∀ {j:Nat}{q:PV},(env.set i (some p'))[j]?=some (some q)->∃ q,env[j]?=some (some q):=λ{j q} e=>by
   by_cases hj:i=j
   ·subst hj;exact⟨p,he⟩
   ·rw[List.getElem?_set_ne hj] at e;exact⟨q,e⟩
  obtain⟨r1,e1'⟩:=back e1
  obtain⟨r2,e2'⟩:=back e2
  exact E.sep j k c r1 r2 e1' n1 s1 e2' n2 s2
theorem ER.weak {G':List Nat}(E:ER b Ow G σ env H) (h:∀ j,j∈G'->j∈G):∃ Ow',ER b Ow' G' σ env H/\Ex (Bs b Ow) H (Bs b Ow') H:=by
 refine⟨λa=>Ow a/\∃ j q,j∈G'/\env[j]?=some (some q)/\σ[j]?=some (some (.ref a)),?_⟩
 have hx:Ex (Bs b Ow) H (Bs b λa=>Ow a/\∃ j q,j∈G'/\env[j]?=some (some q)/\σ[j]?=some (some (.ref a))) H:=dH λc o _ q=>⟨λz=>q.1 z.1,q.2⟩
 refine⟨⟨E.len,E.same,λa w=>E.live a w.1,λa w=>E.new a w.1,λi p e n=>?_,λi p e n=>?_,λi j a p q e1 n1 s1 e2 n2 s2=>E.sep i j a p q e1 (h i n1) s1 e2 (h j n2) s2,E.fix⟩,hx⟩
 ·by_cases hi:i∈G
  ·obtain⟨a,h1,h2,h3⟩:=E.own i p e hi
   refine⟨_,h1,(h3.ex hx λo z=>z).rep ⟨λz=>?_,.inr (E.new a h2)⟩⟩
   obtain⟨_,j,q,hj,e',s'⟩:=z
   have:=E.sep i j a p q e hi h1 e' (h j hj) s'
   subst this
   exact n hj
  ·obtain⟨v,h1,h2⟩:=E.val i p e hi
   exact⟨v,h1,h2.ex hx⟩
 ·obtain⟨a,h1,h2,h3⟩:=E.own i p e (h i n)
  exact⟨a,h1,⟨h2,i,p,n,e,h1⟩,h3.ex hx λo z=>z⟩
theorem ER.forget (E:ER b Ow G σ env H) (i:Nat):ER b Ow G σ (env.set i none) H:=by
 have back:∀ {j:Nat}{q:PV},(env.set i none)[j]?=some (some q)->env[j]?=some (some q):=λ{j q} e=>by
  by_cases hj:i=j
  ·subst hj
   rw[List.getElem?_set] at e
   split at e
   ·split at e <;> cases e
   ·exact absurd rfl ‹_›
  ·rw[List.getElem?_set_ne hj] at e;exact e
 exact⟨by rw[List.length_set];exact E.len,E.same,E.live,E.new,λj q e n=>E.val j q (back e) n,λj q e n=>E.own j q (back e) n,λj k a q q' e1 n1 s1 e2 n2 s2=>E.sep j k a q q' (back e1) n1 s1 (back e2) n2 s2,E.fix⟩
@[simp] noncomputable def clr:List Nat->Env->Env
 | [],env=>env
 | i::r,env=>clr r (env.set i none)
theorem ER.clr:∀ {ds:List Nat}{env:Env},ER b Ow G σ env H->ER b Ow G σ (clr ds env) H
 | [],_,E=>E
 | i::r,env,E=>ER.clr (ds:=r) (E.forget i)
end
inductive Out where
 | nx (e:Env) | bk (e:Env) | ct (e:Env) | rt (p:PV)
def Post (b:BX) (Ow:Addr->Prop) (H:Hp) (G L:List Nat) (ro:Bool) (D:Ends):Out->Prop
 | .nx e=>∀ Ow' σ' H',ER b Ow' G σ' e H'->Ex (Bs b Ow) H (Bs b Ow') H'->D.nx σ' H'
 | .bk e=>∀ Ow' σ' H',ER b Ow' L σ' e H'->Ex (Bs b Ow) H (Bs b Ow') H'->D.bk σ' H'
 | .ct e=>∀ Ow' σ' H',ER b Ow' L σ' e H'->Ex (Bs b Ow) H (Bs b Ow') H'->D.ct σ' H'
 | .rt p=>∀ v H',Same b.H0 H'->Ret b.C b.A b.H0 ro H' v p->D.rt v H'
def tS (b:BX) (G G' L:List Nat) (ro:Bool) (f:Env->Option Out):TS:=λD σ H=>∃ Ow env out,ER b Ow G σ env H/\f env=some out/\Post b Ow H G' L ro D out
abbrev SS (X:Cx) (b:BX) (G G' L:List Nat) (ro:Bool) (st:Stmt) (f:Env->Option Out):Prop:=PS X st (tS b G G' L ro f)
abbrev SSs (X:Cx) (b:BX) (G G' L:List Nat) (ro:Bool) (st:List Stmt) (f:Env->Option Out):Prop:=PSs X st (tS b G G' L ro f)
theorem PSs.imp {X:Cx}{e:List Stmt}{t u:TS}(h:PSs X e t) (i:∀ D σ H,u D σ H->t D σ H):PSs X e u:=λpins s σ H D I q=>h pins s σ H D I (i D σ H q)
theorem Post.ex {b:BX}{Ow Ow1:Addr->Prop}{H H1:Hp}{G L:List Nat}{ro:Bool}{D:Ends}{o:Out}(e:Ex (Bs b Ow) H (Bs b Ow1) H1) (h:Post b Ow H G L ro D o):Post b Ow1 H1 G L ro D o:=by
 cases o with
 | nx e'=>exact λOw' σ' H' E x=>h Ow' σ' H' E (e.trans x)
 | bk e'=>exact λOw' σ' H' E x=>h Ow' σ' H' E (e.trans x)
 | ct e'=>exact λOw' σ' H' E x=>h Ow' σ' H' E (e.trans x)
 | rt p=>exact h
noncomputable def sNx (env:Env):Option Out:=some (.nx env)
@[simp] theorem Qn (env:Env):sNx env=(some (.nx env)):=id rfl
noncomputable def sNo (env:Env):Option Out:=none
@[simp] theorem Qo (env:Env):sNo env=(none):=id rfl
noncomputable def aG (f g:Env->Option Out) (env:Env):Option Out:=(f env).bind λo=>match o with | .nx e=>g e | o=>some o
@[simp] theorem Pz (f g:Env->Option Out) (env:Env):aG f g env=((f env).bind λo=>match o with | .nx e=>g e | o=>some o):=id rfl
noncomputable def aJ (i:Nat) (f:Env->Option PV) (env:Env):Option Out:=(f env).bind λp=>some (.nx (env.set i (some p)))
@[simp] theorem PB (i:Nat) (f:Env->Option PV) (env:Env):aJ i f env=((f env).bind λp=>some (.nx (env.set i (some p)))):=id rfl
noncomputable def aQ (f:Env->Option PV) (env:Env):Option Out:=(f env).bind λp=>some (.rt p)
@[simp] theorem PJ (f:Env->Option PV) (env:Env):aQ f env=((f env).bind λp=>some (.rt p)):=id rfl
noncomputable def sIf (c:Env->Option Bool) (f g:Env->Option Out) (env:Env):Option Out:=(c env).bind λk=>if k=true then f env else g env
@[simp] theorem Qp (c:Env->Option Bool) (f g:Env->Option Out) (env:Env):sIf c f g env=((c env).bind λk=>if k=true then f env else g env):=id rfl
noncomputable def zq (f:Env->Option PV) (env:Env):Option Out:=(f env).bind λ_=>some (.nx env)
@[simp] theorem O3 (f:Env->Option PV) (env:Env):zq f env=((f env).bind λ_=>some (.nx env)):=id rfl
noncomputable def cV (g:PV->PV->Option PV) (i:Nat) (f:Env->Option PV) (env:Env):Option Out:=(bV i env).bind λx=>(f env).bind λp=>(g x p).bind λy=>some (.nx (env.set i (some y)))
@[simp] theorem O4 (g:PV->PV->Option PV) (i:Nat) (f:Env->Option PV) (env:Env):cV g i f env=((bV i env).bind λx=>(f env).bind λp=>(g x p).bind λy=>some (.nx (env.set i (some y)))):=id rfl
@[simp] noncomputable def dU:PV->PV->Option PV
 | .lst xs,p=>if xs.length < 1000000 then some (.lst (xs++[p])) else none
 | _,_=>none
section
variable {X:Cx}{b:BX}{G G' G1 L:List Nat}{ro:Bool}{st:Stmt}{rest:List Stmt}{f g:Env->Option Out}{e e1 e2:Expr}{h h1 h2:Env->Option PV}{m m1 m2:Md}{pos:Pos}
theorem cu:SSs X b G G L ro [] sNx:=PSs.imp xX<|by rintro D σ H ⟨Ow,env,o,E,hf,k⟩;cases hf;exact k Ow σ H E (Ex.refl _ _)
theorem aC (a:SS X b G G1 L ro st f) (c:SSs X b G1 G' L ro rest g):SSs X b G G' L ro (st::rest) (aG f g):=PSs.imp (gK a c)<|by
 rintro D σ H ⟨Ow,env,o,E,hf,k⟩
 unfold aG at hf
 cases q:f env with
 | none=>rw[q] at hf;cases hf
 | some o1=>
  rw[q] at hf
  refine⟨Ow,env,o1,E,q,?_⟩
  cases o1 with
  | nx e'=>exact λOw' σ' H' E' x=>⟨Ow',e',o,E',hf,k.ex x⟩
  | bk e'=>cases hf;exact k
  | ct e'=>cases hf;exact k
  | rt p=>cases hf;exact k
theorem aM (a:SS X b G G' L ro st f):SSs X b G G' L ro [st] f:=pI a
theorem vU (c:SSs X b G1 G' L ro rest g) (hs:∀ j,j∈G1->j∈G:=by decide):SSs X b G G' L ro rest g:=PSs.imp c<|by
 rintro D σ H ⟨Ow,env,o,E,hf,k⟩
 obtain⟨Ow',E',x⟩:=E.weak hs
 exact⟨Ow',env,o,E',hf,k.ex x⟩
theorem zr:SS X b G G' L ro st sNo:=PS.imp Dj<|by rintro D σ H ⟨Ow,env,o,E,hf,k⟩;cases hf
theorem Nh {sts:List Stmt}:SSs X b G G' L ro sts sNo:=PSs.imp oE<|by rintro D σ H ⟨Ow,env,o,E,hf,k⟩;cases hf
theorem aD {α β:Type}{x:Option α}{k:α->Option β}{y:β}(h:x.bind k=some y):∃ a,x=some a/\k a=some y:=by
 cases x with
 | none=>cases h
 | some a=>exact⟨a,rfl,h⟩
theorem KQ {i:Nat}{D:Ends}{σ:St}{H:Hp}(hi:i∉G) (hx:b.fx i=none) (q:tS b G G L ro (aJ i h) D σ H):tM b G .val h σ H λv H1=>D.nx (σ.set i (some v)) H1:=by
 obtain⟨Ow,env,o,E,hf,k⟩:=q
 obtain⟨p,hp,e⟩:=aD hf
 cases e
 exact⟨Ow,env,p,E,hp,λv H' s r=>k Ow _ H' ((E.up s).set hi r hx) (.of_same s)⟩
theorem Ni {i:Nat}{D:Ends}{σ:St}{H:Hp}(hG:∀ j,j∈G'↔(j∈G\/j=i)) (hx:b.fx i=none) (q:tS b G G' L ro (aJ i h) D σ H):tM b G .own h σ H λv H1=>D.nx (σ.set i (some v)) H1:=by
 obtain⟨Ow,env,o,E,hf,k⟩:=q
 obtain⟨p,hp,e⟩:=aD hf
 cases e
 refine⟨Ow,env,p,E,hp,?_⟩
 rintro v H' s ⟨a,ev,hn,t⟩
 subst ev
 obtain⟨E',x⟩:=(E.up s).setO hG s hn E t hx
 exact k _ _ H' E' x
theorem bG (i:Nat){x:Str}{pos':Pos}(nd:X.N.Nodup) (he:SE X b G .val e h) (hG:i∉G:=by decide) (hx:b.fx i=none:=by first | rfl | assumption) (hi:X.N[i]?=some x:=by rfl) (hl:Loc X.env.scope x:=by first | exact Or.inl rfl | exact Or.inr rfl)
  (hs:swapsWith e (some (.Name x pos')) pos.line X.env=pure false:=by rfl) (hf:X.fn x=true\/X.env.scope.names.lookup x=some .local:=by first | exact .inl rfl | exact .inr rfl | assumption):SS X b G G L ro (.Assign [.Name x pos'] e pos) (aJ i h):=
 PS.imp (qU nd hi hl he hs hf) λD σ H q=>KQ hG hx q
theorem mL (i:Nat){x:Str}{pos':Pos}(nd:X.N.Nodup) (he:SE X b G .own e h) (hG:i∈G:=by decide) (hx:b.fx i=none:=by first | rfl | assumption) (hi:X.N[i]?=some x:=by rfl) (hl:Loc X.env.scope x:=by first | exact Or.inl rfl | exact Or.inr rfl)
  (hs:swapsWith e (some (.Name x pos')) pos.line X.env=pure false:=by rfl) (hf:X.fn x=true\/X.env.scope.names.lookup x=some .local:=by first | exact .inl rfl | exact .inr rfl | assumption):SS X b G G L ro (.Assign [.Name x pos'] e pos) (aJ i h):=
 PS.imp (qU nd hi hl he hs hf) λD σ H q=>Ni (λj=>⟨.inl,λz=>z.elim id λy=>y▸hG⟩) hx q
theorem bH (he:SE X b G .val e h):SS X b G G' L false (.Return (some e) pos) (aQ h):=PS.imp (Ai he)<|by
 rintro D σ H ⟨Ow,env,o,E,hf,k⟩
 obtain⟨p,hp,z1⟩:=aD hf
 clear hf
 cases z1
 exact⟨Ow,env,p,E,hp,λv H' s r=>k v H' (E.same.trans s) (Rep.ex (dH λc o _ q=>q.2) r)⟩
theorem dI {c:Expr}{k:Env->Option Bool}{sa sb:List Stmt}(hc:ST X b G c k) (ha:SSs X b G G' L ro sa f) (hb:SSs X b G G' L ro sb g):SS X b G G' L ro (.If c sa sb pos) (sIf k f g):=PS.imp (yI hc ha hb)<|by
 rintro D σ H ⟨Ow,env,o,E,hf,kk⟩
 obtain⟨p,hp,z1⟩:=aD hf
 clear hf
 refine⟨Ow,env,p,E,hp,λH' s=>?_⟩
 cases p with
 | true=>exact DK ⟨Ow,env,o,E.up s,z1,kk.ex (.of_same s)⟩
 | false=>exact DG ⟨Ow,env,o,E.up s,z1,kk.ex (.of_same s)⟩
theorem KR (he:SE X b G m e h) (hs:swapsWith e none pos.line X.env=pure false:=by rfl):SS X b G G L ro (.Expr e pos) (zq h):=PS.imp (sE he.bor hs)<|by
 rintro D σ H ⟨Ow,env,o,E,hf,k⟩
 obtain⟨p,hp,z1⟩:=aD hf
 clear hf
 cases z1
 exact⟨Ow,env,p,E,hp,λv H' s r=>k Ow σ H' (E.up s) (.of_same s)⟩
theorem fZ (i:Nat){x:Str}{p1 apos cpos:Pos}(he:SE X b G .val e h) (hi:i∈G:=by decide) (hN:X.N[i]?=some x:=by rfl) (hv:Vis X.env.scope x:=by first | exact Or.inl rfl | exact Or.inr (Or.inl rfl) | exact Or.inr (Or.inr rfl)) (hd:(x == ("__debug__" : Str))=false:=by decide)
  (hcd:(x == ("__classdict__" : Str))=false:=by decide) (hbase:attributeBase (.Name x p1) "append" X.env (eval (.Name x p1) X.env)=eval (.Name x p1) X.env:=by rfl)
  (hfew:((backTo cpos (starEach [e] X.env)).all (λx=>!x.1)&&(backToKw cpos (keywordEach [] X.env)).all (λx=>x.1.isSome)
   && decide ([e].length+([]:List Keyword).length+(if ([]:List Keyword).isEmpty then 0 else 1) < 30))=true:=by rfl)
  (hline:(apos.endLine == cpos.line)=true:=by rfl) (hs:starEach [e] X.env=(false,eval e X.env)::starEach [] X.env:=by rfl):
  SS X b G G L ro (.Expr (.Call (.Attribute (.Name x p1) "append" apos) [e] [] cpos) pos) (cV dU i h):=
 PS.imp (sE (yR PySem.F.plainAttrs_list PySem.F.slot_list_append PySem.F.type_list_append oH (eY hN hv hd hcd) (b7 he dR hs) hbase hfew hline hs rfl))<|by
  rintro D σ H ⟨Ow,env,o,E,hf,k⟩
  obtain⟨px,hpx,z1⟩:=aD hf
  clear hf
  obtain⟨p,hp,z2⟩:=aD z1
  clear z1
  obtain⟨y,hy,z3⟩:=aD z2
  clear z2
  cases z3
  obtain⟨a,ea,w,t⟩:=E.own i px (kW hpx) hi
  cases px <;> simp only[dU] at hy <;> first | cases hy | skip
  rename_i xs
  split at hy
  ·rename_i hl
   cases hy
   obtain⟨vs,ha,ra⟩:=id t
   refine⟨_,ea,.inl ⟨rfl,_,SqL.of ha⟩,Ow,env,p,E,hp,λv H' s r=>?_⟩
   refine⟨a,vs,v,rfl,rfl,s _ _ ha,pL (by rw[ra.length];omega),?_⟩
   have ra':Reps b.C (Bs b Ow) (upd H' a (.lst (vs++[v]))) (vs++[v]) (xs++[p]):=by
    refine(ra.ex (.of_same s)).append (.cons r .nil) |>.ex λc o h=>⟨λq=>⟨by rw[aH (λz:c=a=>q.1 (z▸w))];exact h,q⟩,λm=>?_⟩
    have hc:c≠a:=λz=>by subst z;rw[s _ _ ha] at h;cases h;cases m
    rw[aH hc];exact h
   obtain⟨E',x⟩:=(E.up s).write hi ea (kW hpx) w (t.ex (.of_same s) λo z=>s _ _ z) (o':=.lst (vs++[v])) (p':=.lst (xs++[p])) ⟨_,bf,ra'⟩
   exact k Ow σ _ E' ((Ex.of_same s).trans x)
  ·cases hy
theorem Ed {Ow:Addr->Prop}{H:Hp}{a:Addr}{o o':HO}(w:Ow a) (ha:H a=some o) (hm:yX o=true):Ex (Bs b Ow) H (Bs b Ow) (upd H a o'):=λc u h=>⟨λq=>⟨by rw[aH (λz:c=a=>q.1 (z▸w))];exact h,q⟩,λm=>by
 have hc:c≠a:=λz=>by subst z;rw[ha] at h;cases h;rw[hm] at m;cases m
 rw[aH hc];exact h⟩
def IW (b:BX) (Ow:Addr->Prop) (fr:Bool) (H1:Hp) (J:It) (ps:List PV):Prop:=∀ Ow' H,(fr=false->Same H1 H)->Ex (Bs b Ow) H1 (Bs b Ow') H->(∀ a,H a=none->Bs b Ow' a)->
 (∀ i p,ps[i]?=some p->J.go i H/\∀ x H',J.yld i H x H'->Same H H'/\Rep b.C (Bs b Ow') H' x p)/\J.stop ps.length H
def tMI (b:BX) (G:List Nat) (fr:Bool) (g:Env->Option (List PV)):TI:=fun σ H R=>∃ Ow env ps,ER b Ow G σ env H/\g env=some ps/\∀ J H1,Same H H1->IW b Ow fr H1 J ps->R J H1
abbrev SI (X:Cx) (b:BX) (G:List Nat) (fr:Bool) (tg it:Expr) (g:Env->Option (List PV)):Prop:=PI X tg it (tMI b G fr g)
theorem PI.imp {tg it:Expr}{t u:TI}(h:PI X tg it t) (i:∀ σ H R,u σ H R->t σ H R):PI X tg it u:=λpins s σ H R I q=>h pins s σ H R I (i σ H R q)
theorem PI.or {tg it:Expr}{t u:TI}(h:PI X tg it t) (h':PI X tg it u):PI X tg it (fun σ H R=>t σ H R\/u σ H R):=λpins s σ H R I q=>q.elim (h pins s σ H R I) (h' pins s σ H R I)
def chV (x:Str):List PV:=x.cps.toList.map λc=>.str ⟨#[c]⟩
@[simp] def itV:PV->Option (List PV)
 | .lst xs=>some xs
 | .frz xs=>some xs
 | .tup xs=>some xs
 | .ktp xs=>some xs
 | .str x=>some (chV x)
 | _=>none
noncomputable def iV (f:Env->Option PV) (env:Env):Option (List PV):=(f env).bind itV
@[simp] theorem QT (f:Env->Option PV) (env:Env):iV f env=((f env).bind itV):=id rfl
theorem sW {Ow:Addr->Prop}{fr:Bool}{H1:Hp}{a:Addr}{vs:List V}{xs:List PV}(hq:∀ Ow' H,(fr=false->Same H1 H)->Ex (Bs b Ow) H1 (Bs b Ow') H->SqL b.C.K H a vs/\Reps b.C (Bs b Ow') H vs xs):IW b Ow fr H1 (Itl b.C.K a) xs:=by
 intro Ow' H h0 h1 hn
 obtain⟨q,r⟩:=hq Ow' H h0 h1
 refine⟨λi p hp=>?_,⟨vs,q,by rw[r.length];exact Nat.le_refl _⟩⟩
 obtain⟨v,hv,rv⟩:=r.get hp
 refine⟨⟨vs,v,q,hv⟩,λx H' y=>?_⟩
 obtain⟨e,y⟩:=y
 subst e
 have e2:=y vs q
 rw[hv] at e2
 cases e2
 exact⟨Same.refl _,rv⟩
theorem Bq {Ow:Addr->Prop}{fr:Bool}{H1:Hp}{a:Addr}{vs:List V}{xs:List PV}(hq:∀ Ow' H,(fr=false->Same H1 H)->Ex (Bs b Ow) H1 (Bs b Ow') H->SqT b.C.K H a vs/\Reps b.C (Bs b Ow') H vs xs):IW b Ow fr H1 (Itt b.C.K a) xs:=by
 intro Ow' H h0 h1 hn
 obtain⟨q,r⟩:=hq Ow' H h0 h1
 refine⟨λi p hp=>?_,⟨vs,q,by rw[r.length];exact Nat.le_refl _⟩⟩
 obtain⟨v,hv,rv⟩:=r.get hp
 refine⟨⟨vs,v,q,hv⟩,λx H' y=>?_⟩
 obtain⟨e,y⟩:=y
 subst e
 have e2:=y vs q
 rw[hv] at e2
 cases e2
 exact⟨Same.refl _,rv⟩
theorem KY {Ow:Addr->Prop}{fr:Bool}{H1:Hp}{x:Str}:IW b Ow fr H1 (Its x) (chV x):=by
 intro Ow' H h0 h1 hn
 refine⟨λi p hp=>?_,by show (chV x).length=x.cps.size;unfold chV;rw[List.length_map,Array.length_toList]⟩
 unfold chV at hp
 rw[List.getElem?_map] at hp
 cases q:x.cps.toList[i]? with
 | none=>rw[q] at hp;cases hp
 | some c=>
  rw[q] at hp
  cases hp
  have hc:x.cps[i]?=some c:=by rw[← Array.getElem?_toList];exact q
  refine⟨(Array.getElem?_eq_some_iff.mp hc).1,λv H' y=>?_⟩
  obtain⟨e,c',h',ev⟩:=y
  subst e
  rw[hc] at h'
  cases h'
  subst ev
  exact⟨Same.refl _,.str _⟩
theorem jb {tg:Expr}{fr:Bool}(he:SE X b G m e h) (hm:fr=true->m≠.bor:=by simp) (hK:X.K=b.C.K:=by rfl):SI X b G fr tg e (iV h):=by
 have hPI:=PI.or (tg:=tg) (PI.or (G8 he) (JD he)) (J5 he)
 refine PI.imp hPI ?_
 rintro σ H R ⟨Ow,env,ps,E,hg,k⟩
 rw[hK]
 obtain⟨p,hp,hps⟩:=aD hg
 have keep:∀ {H1 Ow' H2}{v:V},Same H H1->Res b Ow H H1 m v p->(fr=false->Same H1 H2)->Ex (Bs b Ow) H1 (Bs b Ow') H2->RepB b.C (Bs b Ow') H2 v p:=λ{H1 Ow' H2 v} s r h0 h1=>by
  cases fr with
  | false=>exact RepB.ex h1 (h0 rfl) r.bor
  | true=>exact .inl (Rep.ex h1 (r.val E (hm rfl)))
 unfold itV at hps
 split at hps
 ·cases hps
  refine .inl (.inl ⟨Ow,env,_,E,hp,λv H1 s r=>?_⟩)
  have r1:RepB b.C (Bs b Ow) H1 v (.lst _):=r.bor
  obtain⟨a,vs,rfl,ha,ra⟩:=r1.lst
  refine⟨a,rfl,⟨vs,SqL.of ha⟩,k _ _ s (sW (vs:=vs) λOw' H2 h0 h1=>?_)⟩
  obtain⟨a',vs',e',ha',ra'⟩:=(keep s r h0 h1).lst
  cases e'
  have:H2 a=some (.lst vs):=by
   cases fr with
   | false=>exact h0 rfl _ _ ha
   | true=>
    have rv:Rep b.C (Bs b Ow) H1 (.ref a) (.lst _):=r.val E (hm rfl)
    cases rv with
    | lst q1 q2 q3=>rw[ha] at q1;cases q1;exact((h1 _ _ ha).1 q2).1
  rw[ha'] at this
  cases this
  exact⟨SqL.of ha',ra'⟩
 ·cases hps
  refine .inl (.inl ⟨Ow,env,_,E,hp,λv H1 s r=>?_⟩)
  have r1:Rep b.C (Bs b Ow) H1 v (.frz _):=(by rcases r.bor with z | ⟨_,_,z⟩;exact z;exact z.elim)
  cases r1 with
  | lstF q1 q3=>exact⟨_,rfl,⟨_,.inl (.inr ⟨_,q1⟩)⟩,k _ _ s (sW λOw' H2 h0 h1=>⟨.inl (.inr ⟨_,(h1 _ _ q1).2 rfl⟩),q3.ex h1⟩)⟩
  | lstK q1 q3=>exact⟨_,rfl,⟨_,sqK q1⟩,k _ _ s (sW λOw' H2 h0 h1=>⟨sqK q1,q3.ex h1⟩)⟩
 ·cases hps
  refine .inl (.inr ⟨Ow,env,_,E,hp,λv H1 s r=>?_⟩)
  have r1:RepB b.C (Bs b Ow) H1 v (.tup _):=r.bor
  obtain⟨a,vs,rfl,ha,ra⟩:=r1.tup
  exact⟨a,rfl,⟨vs,ha.sq⟩,k _ _ s (Bq (vs:=vs) λOw' H2 h0 h1=>⟨(ha.ex h1).sq,ra.ex h1⟩)⟩
 ·cases hps
  refine .inl (.inr ⟨Ow,env,_,E,hp,λv H1 s r=>?_⟩)
  have r1:RepB b.C (Bs b Ow) H1 v (.ktp _):=r.bor
  rcases r1 with r1 | ⟨_,_,t⟩
  ·cases r1 with
   | tupK q1 q3=>exact⟨_,rfl,⟨_,sO q1⟩,k _ _ s (Bq λOw' H2 h0 h1=>⟨sO q1,q3.ex h1⟩)⟩
  ·exact t.elim
 ·cases hps
  refine .inr ⟨Ow,env,_,E,hp,λv H1 s r=>?_⟩
  have r1:RepB b.C (Bs b Ow) H1 v (.str _):=r.bor
  exact⟨_,r1.str,k _ _ s KY⟩
 ·cases hps
noncomputable def rgI (i:Int):Bool:=@decide (-4611686018427387904<=i/\i < 4611686018427387904) (Classical.propDecidable _)
theorem rn {i:Int}(h:-4611686018427387904<=i) (h':i < 4611686018427387904):rgI i=true:=@decide_eq_true _ (Classical.propDecidable _) ⟨h,h'⟩
theorem mO {i:Int}(h:rgI i=true):-(2 ^ 62)<=i/\i < 2 ^ 62:=by
 simp only[rgI,decide_eq_true_eq] at h
 exact h
noncomputable def gj (lo hi:Int):List PV:=(List.range (hi - lo).toNat).map λi=>.int (lo+(i:Nat))
noncomputable def iR1 (f:Env->Option PV) (env:Env):Option (List PV):=(f env).bind λp=>match p with
 | .int j=>if rgI j=true then some (gj 0 j) else none
 | _=>none
@[simp] theorem Qq (f:Env->Option PV) (env:Env):iR1 f env=((f env).bind λp=>match p with
 | .int j=>if rgI j=true then some (gj 0 j) else none
 | _=>none):=id rfl
noncomputable def iR2 (f g:Env->Option PV) (env:Env):Option (List PV):=(f env).bind λp=>(g env).bind λq=>match p,q with
 | .int i,.int j=>if (rgI i&&rgI j)=true then some (gj i j) else none
 | _,_=>none
@[simp] theorem Qs (f g:Env->Option PV) (env:Env):iR2 f g env=((f env).bind λp=>(g env).bind λq=>match p,q with
 | .int i,.int j=>if (rgI i&&rgI j)=true then some (gj i j) else none
 | _,_=>none):=id rfl
theorem Br {Ow:Addr->Prop}{fr:Bool}{H1:Hp}{lo hi:Int}:IW b Ow fr H1 (Itr lo (hi - lo).toNat) (gj lo hi):=by
 intro Ow' H h0 h1 hn
 have hl:(gj lo hi).length=(hi - lo).toNat:=by unfold gj;rw[List.length_map,List.length_range]
 refine⟨λi p hp=>?_,by show (hi - lo).toNat<=(gj lo hi).length;rw[hl];exact Nat.le_refl _⟩
 have hi':i < (hi - lo).toNat:=by rw[← hl];exact(List.getElem?_eq_some_iff.mp hp).1
 refine⟨hi',λx H' y=>?_⟩
 obtain⟨e,ex⟩:=y
 subst e ex
 unfold gj at hp
 rw[List.getElem?_map,List.getElem?_range hi'] at hp
 cases hp
 exact⟨Same.refl _,.int _⟩
theorem Gv {tg:Expr}{fr:Bool}{p pos:Pos}(hm:X.mg "range" = none) (he:SE X b G m e h) (hg:Gl X "range" := by rfl) (hs:starEach [e] X.env=[(false,eval e X.env)]:=by rfl) (hs':starEach [e] X.env=(false,eval e X.env)::starEach [] X.env:=by rfl):SI X b G fr tg (.Call (.Name "range" p) [e] [] pos) (iR1 h):=by
 refine PI.imp (Am hg hm (b7 he.bor dR hs') hs) ?_
 rintro σ H R ⟨Ow,env,ps,E,hf,k⟩
 obtain⟨p1,hp,hps⟩:=aD hf
 refine⟨Ow,env,p1,E,hp,λv H1 s r=>?_⟩
 have r1:RepB b.C (Bs b Ow) H1 v p1:=r
 cases p1 <;> simp only at hps <;> first | cases hps | skip
 rename_i j
 split at hps
 ·rename_i hj
  cases hps
  have hw:IW b Ow fr H1 (Itr 0 (j - 0).toNat) (gj 0 j):=Br
  rw[Int.sub_zero] at hw
  exact⟨j,by rw[r1.int],(mO hj).1,(mO hj).2,k _ _ s hw⟩
 ·cases hps
theorem Nj {tg:Expr}{fr:Bool}{p pos:Pos}(hm:X.mg "range" = none) (he:SE X b G m1 e1 h1) (he2:SE X b G m2 e2 h2) (hg:Gl X "range" := by rfl) (hs:starEach [e1,e2] X.env=[(false,eval e1 X.env),(false,eval e2 X.env)]:=by rfl) (hs2:starEach [e2] X.env=[(false,eval e2 X.env)]:=by rfl)
  (hs':starEach [e1,e2] X.env=(false,eval e1 X.env)::starEach [e2] X.env:=by rfl) (hs2':starEach [e2] X.env=(false,eval e2 X.env)::starEach [] X.env:=by rfl):SI X b G fr tg (.Call (.Name "range" p) [e1,e2] [] pos) (iR2 h1 h2):=by
 refine PI.imp (An hg hm (b7 he.bor (b7 he2.bor dR hs2') hs') hs hs2) ?_
 rintro σ H R ⟨Ow,env,ps,E,hf,k⟩
 obtain⟨p1,hp,hps1⟩:=aD hf
 clear hf
 obtain⟨p2,hp2,hps⟩:=aD hps1
 clear hps1
 refine⟨Ow,env,p1,E,hp,λv H1 s r=>⟨Ow,env,p2,E.up s,hp2,λv2 H2 s2 r2=>?_⟩⟩
 have r1:RepB b.C (Bs b Ow) H1 v p1:=r
 have r2':RepB b.C (Bs b Ow) H2 v2 p2:=r2
 cases p1 <;> cases p2 <;> simp only at hps <;> first | cases hps | skip
 rename_i i j
 split at hps
 ·rename_i hj
  cases hps
  exact⟨i,j,by rw[r1.int,r2'.int],(by rw[Bool.and_eq_true] at hj;exact⟨(mO hj.1).1,(mO hj.1).2,(mO hj.2).1,(mO hj.2).2⟩),k _ _ (s.trans s2) Br⟩
 ·cases hps
noncomputable def jd (n:Nat):List PV->List PV
 | []=>[]
 | x::xs=>.tup [.int (n:Nat),x]::jd (n+1) xs
theorem uE {p:PV}:∀ {xs:List PV}{n i:Nat},(jd n xs)[i]?=some p->∃ x,xs[i]?=some x/\p=.tup [.int ((n+i:Nat):Int),x]
 | [],n,i,e=>by simp[jd] at e
 | x::xs,n,0,e=>by
  simp[jd] at e
  exact⟨x,rfl,by rw[← e];rfl⟩
 | x::xs,n,i+1,e=>by
  simp only[jd,List.getElem?_cons_succ] at e
  obtain⟨y,h1,h2⟩:=uE e
  exact⟨y,by simpa using h1,by rw[h2,Nat.add_right_comm,Nat.add_assoc]⟩
theorem oV:∀ {xs:List PV}{n:Nat},(jd n xs).length=xs.length
 | [],_=>rfl
 | x::xs,n=>by simp[jd,oV (xs:=xs)]
end
end MR
namespace MR
open PySem L2
noncomputable def gN (i:Nat) (p:PV) (env:Env):Option Env:=some (env.set i (some p))
@[simp] theorem QV (i:Nat) (p:PV) (env:Env):gN i p env=(some (env.set i (some p))):=id rfl
@[simp] noncomputable def gNs:List Nat->List PV->Env->Option Env
 | [],[],env=>some env
 | i::is,p::ps,env=>gNs is ps (env.set i (some p))
 | _,_,_=>none
noncomputable def gT (is:List Nat) (p:PV) (env:Env):Option Env:=match p with
 | .tup xs=>gNs is xs env
 | _=>none
@[simp] theorem QW (is:List Nat) (p:PV) (env:Env):gT is p env=(match p with
 | .tup xs=>gNs is xs env
 | _=>none):=id rfl
def tMG (b:BX) (G:List Nat) (g:PV->Env->Option Env):TG:=λv σ H Q=>∃ Ow env p env',ER b Ow G σ env H/\Rep b.C (Bs b Ow) H v p/\g p env=some env'/\∀ σ',ER b Ow G σ' env' H->Q σ' H
def O5 (b:BX) (G:List Nat) (is:List Nat):TGs:=λvs σ H Q=>∃ Ow env ps env',ER b Ow G σ env H/\Reps b.C (Bs b Ow) H vs ps/\gNs is ps env=some env'/\∀ σ',ER b Ow G σ' env' H->Q σ' H
abbrev SG (X:Cx) (b:BX) (G:List Nat) (tg:Expr) (g:PV->Env->Option Env):Prop:=PG X tg (tMG b G g)
abbrev SGs (X:Cx) (b:BX) (G:List Nat) (tgs:List Expr) (is:List Nat):Prop:=PGs X tgs (O5 b G is)
theorem PG.imp {X:Cx}{tg:Expr}{t u:TG}(h:PG X tg t) (i:∀ v σ H Q,u v σ H Q->t v σ H Q):PG X tg u:=λpins s σ H v w Q I r q=>h pins s σ H v w Q I r (i v σ H Q q)
theorem PGs.imp {X:Cx}{tg:List Expr}{t u:TGs}(h:PGs X tg t) (i:∀ v σ H Q,u v σ H Q->t v σ H Q):PGs X tg u:=λpins s σ H v w Q I r q=>h pins s σ H v w Q I r (i v σ H Q q)
section
variable {X:Cx}{b:BX}{G G' L:List Nat}{ro:Bool}{pos:Pos}
theorem vV (i:Nat){x:Str}(nd:X.N.Nodup) (hG:i∉G:=by decide) (hx:b.fx i=none:=by first | rfl | assumption) (hi:X.N[i]?=some x:=by rfl) (hl:Loc X.env.scope x:=by first | exact Or.inl rfl | exact Or.inr rfl)
  (hf:X.fn x=true\/X.env.scope.names.lookup x=some .local:=by first | exact .inl rfl | exact .inr rfl | assumption):SG X b G (.Name x pos) (gN i):=
 PG.imp (dh nd hi hl hf)<|by rintro v σ H Q ⟨Ow,env,p,env',E,r,e,k⟩;cases e;exact k _ (E.set hG r hx)
theorem mQ:SGs X b G [] []:=PGs.imp xY<|by
 rintro vs σ H Q ⟨Ow,env,ps,env',E,r,e,k⟩
 cases ps with
 | nil=>cases r;cases e;exact⟨rfl,k σ E⟩
 | cons p ps=>cases e
theorem fO (i:Nat){x:Str}{es:List Expr}{is:List Nat}{p1:Pos}(nd:X.N.Nodup) (h2:SGs X b G es is) (hG:i∉G:=by decide) (hx:b.fx i=none:=by first | rfl | assumption) (hi:X.N[i]?=some x:=by rfl) (hl:Loc X.env.scope x:=by first | exact Or.inl rfl | exact Or.inr rfl)
  (hf:X.fn x=true\/X.env.scope.names.lookup x=some .local:=by first | exact .inl rfl | exact .inr rfl | assumption) (hs:(assignEach (.Name x p1::es) X.env).map (·.2)=assign (.Name x p1) X.env::(assignEach es X.env).map (·.2):=by rfl):SGs X b G (.Name x p1::es) (i::is):=
 PGs.imp (qw (dh nd hi hl hf) h2 hs)<|by
  rintro vs σ H Q ⟨Ow,env,ps,env',E,r,e,k⟩
  cases ps with
  | nil=>cases e
  | cons p ps=>
   cases r with
   | cons r1 r2=>exact⟨_,_,rfl,Ow,env.set i (some p),ps,env',E.set hG r1 hx,r2,e,k⟩
theorem sX:∀ {is:List Nat}{ps:List PV}{env env':Env},gNs is ps env=some env'->ps.length=is.length
 | [],[],_,_,_=>rfl
 | i::is,p::ps,env,env',e=>by simp[sX (is:=is) (ps:=ps) e]
 | [],_::_,_,_,e=>by cases e
 | _::_,[],_,_,e=>by cases e
theorem vW {es:List Expr}{k:Nat}{is:List Nat}(h:SGs X b G es is) (hc:X.calm=true:=by rfl) (hn:(assignEach es X.env).length=is.length:=by rfl) (hst:(assignEach es X.env).findIdx? (·.1)=none:=by rfl) (hK:X.K=b.C.K:=by rfl):SG X b G (.Tuple es k pos) (gT is):=
 PG.imp (Ak hc h hn hst)<|by
  rintro v σ H Q ⟨Ow,env,p,env',E,r,e,k⟩
  cases p <;> simp only[gT] at e <;> first | cases e | skip
  rename_i xs
  obtain⟨a,vs,rfl,ha,ra⟩:=RepB.tup (.inl r)
  rw[hK]
  exact⟨a,vs,rfl,ha.sq,by rw[ra.length];exact sX e,Ow,env,xs,env',E,ra,e,k⟩
noncomputable def cW (g:PV->Env->Option Env) (ds:List Nat) (body:Env->Option Out):List PV->Env->Option Out
 | [],env=>some (.nx env)
 | x::xs,env=>(g x env).bind λe1=>(body e1).bind λo=>match o with
  | .nx e=>cW g ds body xs (clr ds e)
  | .ct e=>cW g ds body xs (clr ds e)
  | .bk e=>some (.nx (clr ds e))
  | .rt p=>some (.rt p)
noncomputable def mq (g:PV->Env->Option Env) (src:Env->Option (List PV)) (ds:List Nat) (body:Env->Option Out) (env:Env):Option Out:=(src env).bind λxs=>cW g ds body xs (clr ds env)
@[simp] theorem PK (g:PV->Env->Option Env) (src:Env->Option (List PV)) (ds:List Nat) (body:Env->Option Out) (env:Env):mq g src ds body env=((src env).bind λxs=>cW g ds body xs (clr ds env)):=id rfl
theorem pO {tg it:Expr}{body:List Stmt}{g:PV->Env->Option Env}{src:Env->Option (List PV)}{f:Env->Option Out}(ds:List Nat) (hi:SI X b G true tg it src) (hg:SG X b G tg g) (hb:SSs X b G G G ro body f) (hp:PassesOwn (model X.prog X.w) X.A X.env X.xe) (hc:X.calm=true:=by rfl)
  (hs:∀ x,foldedSetIterable it X.env x=pure x:=by intro _;rfl):SS X b G G L ro (.For tg it body [] pos) (mq g src ds f):=by
 refine PS.imp (vp hp hc hi hg hb hs) ?_
 rintro D σ H ⟨Ow,env,out,E,hf,k⟩
 obtain⟨ps,hps,hl⟩:=aD hf
 refine⟨Ow,env,ps,E,hps,λJ H1 s1 iw=>?_⟩
 refine⟨λi m σ2 H2=>m=ps.length - i/\i<=ps.length/\∃ Ow2 env2,ER b Ow2 G σ2 env2 H2/\Ex (Bs b Ow) H1 (Bs b Ow2) H2/\cW g ds f (ps.drop i) env2=some out,⟨ps.length,by simp,Nat.zero_le _,Ow,clr ds env,(E.up s1).clr,Ex.refl _ _,by simpa using hl⟩,?_⟩
 rintro i m σ2 H2 ⟨rfl,hi,Ow2,env2,E2,x2,l2⟩
 obtain⟨w1,w2⟩:=iw Ow2 H2 (λz=>by cases z) x2 λa=>E2.fresh
 have xk:Ex (Bs b Ow) H (Bs b Ow2) H2:=(Ex.of_same s1).trans x2
 by_cases hlt:i < ps.length
 ·rw[List.drop_eq_getElem_cons hlt] at l2
  obtain⟨e1,he1,l2⟩:=aD l2
  obtain⟨o,ho,l2⟩:=aD l2
  obtain⟨g1,g2⟩:=w1 i ps[i] (List.getElem?_eq_getElem hlt)
  refine .inr ⟨g1,fun σ' H'=>i+1<=ps.length/\∃ Ow2 env2,ER b Ow2 G σ' env2 H'/\Ex (Bs b Ow) H1 (Bs b Ow2) H'/\cW g ds f (ps.drop (i+1)) env2=some out,fun σ' H' q=>⟨ps.length - (i+1),by omega,rfl,q⟩,λx H' y=>?_⟩
  obtain⟨s3,r3⟩:=g2 x H' y
  refine⟨Ow2,env2,_,e1,E2.up s3,r3,he1,fun σ3 E3=>⟨Ow2,e1,o,E3,ho,?_⟩⟩
  cases o with
  | nx e'=>exact λOw' σ' H'' E' x'=>⟨hlt,Ow',_,E'.clr,x2.trans ((Ex.of_same s3).trans x'),l2⟩
  | ct e'=>exact λOw' σ' H'' E' x'=>⟨hlt,Ow',_,E'.clr,x2.trans ((Ex.of_same s3).trans x'),l2⟩
  | bk e'=>cases l2;exact λOw' σ' H'' E' x'=>k Ow' σ' H'' E'.clr (xk.trans ((Ex.of_same s3).trans x'))
  | rt p=>cases l2;exact k
 ·have e:i=ps.length:=by omega
  subst e
  rw[List.drop_length] at l2
  cases l2
  exact .inl ⟨w2,k Ow2 σ2 H2 E2 xk⟩
end
def lD (cap:List (Option Nat)) (env:Env):Env:=cap.map λo=>match o with | some i=>(env[i]?).getD none | none=>none
@[simp] theorem PL (cap:List (Option Nat)) (env:Env):lD cap env=(cap.map λo=>match o with | some i=>(env[i]?).getD none | none=>none):=id rfl
def jK (cap:List (Option Nat)) (G:List Nat):List Nat:=(List.range cap.length).filter λj=>match cap[j]? with | some (some i)=>decide (i∈G) | _=>false
def BX.in (b:BX):BX:={ b with fx:=λ_=>none }
noncomputable def cX (env:Env) (g:PV->Env->Option Env) (t:Env->Option Bool) (f:Env->Option PV):List PV->Option (List PV)
 | []=>some []
 | x::xs=>(g x env).bind λe=>(t e).bind λk=>if k=true then (f e).bind λy=>(cX env g t f xs).bind λys=>some (y::ys) else cX env g t f xs
noncomputable def bY (cap:List (Option Nat)) (src:Env->Option (List PV)) (g:PV->Env->Option Env) (t:Env->Option Bool) (f:Env->Option PV) (env:Env):Option PV:=(src env).bind λxs=>if xs.length<=1000000 then (cX (lD cap env) g t f xs).bind λys=>some (.lst ys) else none
@[simp] theorem O6 (cap:List (Option Nat)) (src:Env->Option (List PV)) (g:PV->Env->Option Env) (t:Env->Option Bool) (f:Env->Option PV) (env:Env):bY cap src g t f env=((src env).bind λxs=>if xs.length<=1000000 then (cX (lD cap env) g t f xs).bind λys=>some (.lst ys) else none):=id rfl
noncomputable def cL (env:Env):Option Bool:=some true
@[simp] theorem O7 (env:Env):cL env=(some true):=id rfl
theorem capG_mem {cap:List (Option Nat)}{G:List Nat}{j:Nat}:j∈jK cap G↔∃ i,cap[j]?=some (some i)/\i∈G:=by
 unfold jK
 rw[List.mem_filter,List.mem_range]
 constructor
 ·rintro ⟨h1,h2⟩
  split at h2
  ·rename_i i e;exact⟨i,e,by simpa using h2⟩
  ·cases h2
 ·rintro ⟨i,e,h⟩
  refine⟨(List.getElem?_eq_some_iff.mp e).1,?_⟩
  rw[e];simpa using h
theorem nM {cap:List (Option Nat)}{env:Env}{j:Nat}{p:PV}(h:(lD cap env)[j]?=some (some p)):∃ i,cap[j]?=some (some i)/\env[i]?=some (some p):=by
 unfold lD at h
 rw[List.getElem?_map] at h
 cases q:cap[j]? with
 | none=>rw[q] at h;cases h
 | some o=>
  rw[q] at h
  cases o with
  | none=>cases h
  | some i=>
   refine⟨i,rfl,?_⟩
   have h':(env[i]?).getD none=some p:=by simpa using h
   cases q2:env[i]? with
   | none=>rw[q2] at h';cases h'
   | some o=>rw[q2] at h';simp at h';rw[h']
theorem lW {cap:List (Option Nat)}{σ:St}{j i:Nat}{v:V}(h:cap[j]?=some (some i)) (e:σ[i]?=some (some v)):(fD cap σ)[j]?=some (some v):=by
 unfold fD
 rw[List.getElem?_map,h]
 simp[vJ,e]
def oW (cap:List (Option Nat)):Bool:=(List.range cap.length).all λj=>(List.range cap.length).all λk=>match cap[j]?,cap[k]? with
 | some (some i),some (some i')=>decide (i=i'->j=k)
 | _,_=>true
theorem Bt {cap:List (Option Nat)}(h:oW cap=true){j k i:Nat}(h1:cap[j]?=some (some i)) (h2:cap[k]?=some (some i)):j=k:=by
 have a:=List.all_eq_true.mp h j (List.mem_range.mpr (List.getElem?_eq_some_iff.mp h1).1)
 have c:=List.all_eq_true.mp a k (List.mem_range.mpr (List.getElem?_eq_some_iff.mp h2).1)
 rw[h1,h2] at c
 simpa using c
theorem ER.cap {b:BX}{Ow:Addr->Prop}{G:List Nat}{σ:St}{env:Env}{H:Hp}{cap:List (Option Nat)}(E:ER b Ow G σ env H) (hc:oW cap=true):ER b.in Ow (jK cap G) (fD cap σ) (lD cap env) H:=by
 refine⟨by unfold fD lD;rw[List.length_map,List.length_map],E.same,E.live,E.new,λj p e n=>?_,λj p e n=>?_,λj k a p q e1 n1 s1 e2 n2 s2=>?_,λk v z=>by cases z⟩
 ·obtain⟨i,h1,h2⟩:=nM e
  obtain⟨v,h3,h4⟩:=E.val i p h2 λz=>n (capG_mem.mpr ⟨i,h1,z⟩)
  exact⟨v,lW h1 h3,h4⟩
 ·obtain⟨i,h1,h2⟩:=nM e
  obtain⟨i',h1',hG⟩:=capG_mem.mp n
  rw[h1] at h1';cases h1'
  obtain⟨a,h3,h4,h5⟩:=E.own i p h2 hG
  exact⟨a,lW h1 h3,h4,h5⟩
 ·obtain⟨i,h1,h2⟩:=nM e1
  obtain⟨i',h1',hG⟩:=capG_mem.mp n1
  rw[h1] at h1';cases h1'
  obtain⟨k',h3,h4⟩:=nM e2
  obtain⟨k'',h3',hG2⟩:=capG_mem.mp n2
  rw[h3] at h3';cases h3'
  obtain⟨c,g1,_,_⟩:=E.own i p h2 hG
  obtain⟨c2,g2,_,_⟩:=E.own k' q h4 hG2
  have t1:=lW (cap:=cap) h1 g1
  have t2:=lW (cap:=cap) h3 g2
  rw[s1] at t1;cases t1
  rw[s2] at t2;cases t2
  have:=E.sep i k' _ p q h2 hG g1 h4 hG2 g2
  subst this
  exact Bt hc h1 h3
theorem ER.more {b:BX}{Ow:Addr->Prop}{G:List Nat}{σ:St}{env:Env}{H H':Hp}{D:Addr}(E:ER b Ow G σ env H) (hD:H D=none) (s:Same H H') (hl:∃ o,H' D=some o):ER b (λc=>Ow c\/c=D) G σ env H'/\Ex (Bs b Ow) H (Bs b λc=>Ow c\/c=D) H':=by
 have hx:Ex (Bs b Ow) H (Bs b λc=>Ow c\/c=D) H':=λc o h=>⟨λq=>⟨s _ _ h,λz=>z.elim q.1 (aV h hD),q.2⟩,λ_=>s _ _ h⟩
 exact⟨⟨E.len,E.same.trans s,λc w=>w.elim (λz=>let ⟨o,h⟩:=E.live c z;⟨o,s _ _ h⟩) λz=>by subst z;exact hl,λc w=>w.elim (E.new c) λz=>by subst z;exact E.same.free hD,λi p e n=>let ⟨v,h1,h2⟩:=E.val i p e n;⟨v,h1,h2.ex hx⟩,
  λi p e n=>let ⟨a,h1,h2,h3⟩:=E.own i p e n;⟨a,h1,.inl h2,h3.ex hx λo z=>s _ _ z⟩,E.sep,E.fix⟩,hx⟩
structure TgOk (K:PySem.W.Frag) (cap:List (Option Nat)) (g:TG) (gm:PV->Env->Option Env):Prop where
 go:∀ (b:BX) (Ow:Addr->Prop) (G:List Nat) (σ:St) (env e:Env) (H:Hp) (v:V) (p:PV) (Q:St->Hp->Prop),b.C.K=K->(∀ i,b.fx i=none)->ER b Ow (jK cap G) (fD cap σ) (lD cap env) H->Rep b.C (Bs b Ow) H v p->gm p (lD cap env)=some e->
  (∀ σ',Kp (fD cap σ) σ'->ER b Ow (jK cap G) σ' e H->Q σ' H)->g v (fD cap σ) H Q
theorem Bu {σ σ':St}{i:Nat}{v:V}(h:Kp σ σ') (hn:∀ w,σ[i]?≠some (some w)):Kp σ (σ'.set i (some v)):=by
 refine⟨by rw[List.length_set];exact h.1,λj w e=>?_⟩
 by_cases hj:i=j
 ·subst hj;exact absurd e (hn w)
 ·rw[List.getElem?_set_ne hj];exact h.2 j w e
theorem yg (σ:St):Kp σ σ:=⟨rfl,λ_ _ e=>e⟩
theorem rz {cap:List (Option Nat)}{σ:St}{i:Nat}(h:cap[i]?=some none) (w:V):(fD cap σ)[i]?≠some (some w):=by
 unfold fD
 rw[List.getElem?_map,h]
 intro z;cases z
theorem uF {cap:List (Option Nat)}{G:List Nat}{i:Nat}(h:cap[i]?=some none):i∉jK cap G:=λz=>by
 obtain⟨k,e,_⟩:=capG_mem.mp z
 rw[h] at e;cases e
theorem jL {K:PySem.W.Frag}{cap:List (Option Nat)}(i:Nat) (h:cap[i]?=some none:=by rfl):TgOk K cap (pJ i) (gN i):=
 ⟨λb Ow G σ env e H v p Q hK hx E r he k=>by
  cases he
  exact k _ (Bu (yg _) (rz h)) (E.set (uF h) r (hx _))⟩
def vX:List Nat->TGs
 | []=>Jz
 | i::is=>Gk (pJ i) (vX is)
theorem O8 {K:PySem.W.Frag}{cap:List (Option Nat)}(is:List Nat) (h:(is.all λi=>decide (cap[i]?=some none))=true:=by rfl):TgOk K cap (JB K is.length (vX is)) (gT is):=
 ⟨λb Ow G σ env e H v p Q hK hx E r he k=>by
  subst hK
  cases p <;> simp only[gT] at he <;> first | cases he | skip
  rename_i xs
  obtain⟨a,vs,rfl,ha,ra⟩:=RepB.tup (.inl r)
  refine⟨a,vs,rfl,ha.sq,by rw[ra.length];exact sX he,?_⟩
  have gen:∀ (is:List Nat) (vs:List V) (xs:List PV) (σ1:St) (env1:Env),(is.all λi=>decide (cap[i]?=some none))=true->Kp (fD cap σ) σ1->ER b Ow (jK cap G) σ1 env1 H->Reps b.C (Bs b Ow) H vs xs->gNs is xs env1=some e->vX is vs σ1 H Q:=by
   intro is
   induction is with
   | nil=>
    intro vs xs σ1 env1 _ kp E1 r1 e1
    cases xs with
    | nil=>cases r1;cases e1;exact⟨rfl,k σ1 kp E1⟩
    | cons x xs=>cases e1
   | cons i is ih=>
    intro vs xs σ1 env1 hall kp E1 r1 e1
    cases xs with
    | nil=>cases e1
    | cons x xs=>
     cases r1 with
     | cons r2 r3=>
      rw[List.all_cons,Bool.and_eq_true] at hall
      have hi:cap[i]?=some none:=by simpa using hall.1
      exact⟨_,_,rfl,ih _ xs _ _ hall.2 (Bu kp (rz hi)) (E1.set (uF hi) r2 (hx _)) r3 e1⟩
  exact gen is vs xs _ _ h (yg _) E ra he⟩
section
variable {X:Cx}{b:BX}{G L:List Nat}{ro:Bool}{pos:Pos}{tg iter elt:Expr}{ifs:List Expr}{scope osc:Scope}{ON N:List Str}{cap:List (Option Nat)}{src:Env->Option (List PV)}{g:TG}{gm:PV->Env->Option Env}{t:Env->Option Bool}{f:Env->Option PV}
theorem Gw {σ:St}{H:Hp}{Q:VK}(tgo:TgOk b.C.K cap g gm) (hc:oW cap=true) (h:tM b G .own (bY cap src gm t f) σ H Q):
  u5 (tMI b G false src) cap g (tMT b.in (jK cap G) t) (tM b.in (jK cap G) .val f) σ H Q:=by
 obtain⟨Ow,env,p,E,hf,k⟩:=h
 obtain⟨xs,hxs,hf⟩:=aD hf
 split at hf
 ·rename_i hlen
  obtain⟨ys,hys,hf⟩:=aD hf
  cases hf
  refine⟨Ow,env,xs,E,hxs,λJ H1 s1 iw D hD=>?_⟩
  have E1:=E.up s1
  have nD:H D=none:=s1.free hD
  refine⟨λi m vs H2=>m=xs.length - i/\i<=xs.length/\Same H1 H2/\H2 D=some (.lst vs)/\vs.length<=i/\∃ done rest,Reps b.C (Bs b λc=>Ow c\/c=D) H2 vs done/\cX (lD cap env) gm t f (xs.drop i)=some rest/\done++rest=ys,
   ⟨xs.length,by simp,Nat.zero_le _,cT hD _,bf,Nat.le_refl _,[],ys,.nil,by simpa using hys,rfl⟩,?_⟩
  rintro i m vs H2 ⟨rfl,hi,s2,d2,hv,done,rest,rd,cl,hdone⟩
  refine⟨d2,?_⟩
  obtain⟨E2,x2⟩:=E1.more hD s2 ⟨_,d2⟩
  obtain⟨w1,w2⟩:=iw _ H2 (λ_=>s2) x2 λa=>E2.fresh
  by_cases hlt:i < xs.length
  ·rw[List.drop_eq_getElem_cons hlt] at cl
   obtain⟨e1,he1,cl⟩:=aD cl
   obtain⟨kk,hk,cl⟩:=aD cl
   obtain⟨g1,g2⟩:=w1 i xs[i] (List.getElem?_eq_getElem hlt)
   refine .inr ⟨g1,λvs' H'=>i+1<=xs.length/\Same H1 H'/\H' D=some (.lst vs')/\vs'.length<=i+1/\∃ done rest,Reps b.C (Bs b λc=>Ow c\/c=D) H' vs' done/\cX (lD cap env) gm t f (xs.drop (i+1))=some rest/\done++rest=ys,λvs' H' q=>⟨xs.length - (i+1),by omega,rfl,q⟩,λx H' y=>?_⟩
   obtain⟨s3,r3⟩:=g2 x H' y
   have E3:=(E2.up s3).cap hc
   refine tgo.go b.in _ G σ env e1 H' x _ _ rfl (λ_=>rfl) E3 r3 he1 fun σ3 kp E4=>⟨kp,_,e1,kk,E4,hk,λH4 s4=>?_⟩
   have d4:H4 D=some (.lst vs):=s4 _ _ (s3 _ _ d2)
   have s24:Same H2 H4:=s3.trans s4
   cases kk with
   | false=>
    refine DG ⟨hlt,s2.trans s24,d4,Nat.le_succ_of_le hv,done,rest,rd.ex (.of_same s24),?_,hdone⟩
    simpa using cl
   | true=>
    simp only[if_true] at cl
    obtain⟨y1,hy1,cl⟩:=aD cl
    obtain⟨ys1,hys1,cl⟩:=aD cl
    cases cl
    refine DK ⟨_,e1,y1,E4.up s4,hy1,λv5 H5 s5 r5=>⟨s5 _ _ d4,pL (by omega),hlt,?_,bf,by rw[List.length_append];show vs.length+1<=i+1;omega,done++[y1],ys1,?_,hys1,by rw[List.append_assoc];exact hdone⟩⟩
    ·exact λc o h=>by rw[aH (aV h hD)];exact s5 _ _ (s24 _ _ (s2 _ _ h))
    ·have r5':Rep b.C (Bs b λc=>Ow c\/c=D) H5 v5 y1:=r5
     refine((rd.ex (.of_same (s24.trans s5))).append (.cons r5' .nil)).ex ?_
     exact Ed (b:=b) (Ow:=λc=>Ow c\/c=D) (.inr rfl) (s5 _ _ d4) rfl
  ·have e:i=xs.length:=by omega
   subst e
   rw[List.drop_length] at cl
   cases cl
   rw[List.append_nil] at hdone
   subst hdone
   refine .inl ⟨w2,k _ H2 (s1.trans s2) ⟨D,rfl,nD,vs,d2,rd.ex (dH λc o _ q=>⟨⟨λz=>q.1 (.inl z),q.2⟩,λz=>q.1 (.inr z)⟩)⟩⟩
 ·cases hf
theorem gM {X:Cx}:oK X [] (tMT b G cL):=by rintro pins s σ H Q I ⟨Ow,env,k,E,hf,kk⟩;cases hf;exact DN pins s σ H Q I (kk H (Same.refl _))
theorem gY (S:CSc osc scope ON N cap) (tgo:TgOk b.C.K cap g gm) (hi:SI X b G false tg iter src) (hg:∀ C s H fp,PG (X.comp N scope C s H fp) tg g) (ht:∀ C s H fp,oK (X.comp N scope C s H fp) ifs (tMT b.in (jK cap G) t)) (he:∀ C s H fp,SE (X.comp N scope C s H fp) b.in (jK cap G) .val elt f)
  (hci:oW cap=true:=by rfl) (hc:X.calm=true:=by rfl) (hsc:X.env.scope=osc:=by rfl) (hN:X.N=ON:=by rfl) (hs:∀ x,foldedSetIterable iter X.env x=pure x:=by intro _;rfl):SE X b G .own (.ListComp elt [⟨tg,iter,ifs,0⟩] scope pos) (bY cap src gm t f):=
 PE.imp (Hr S hi hg ht he hc hsc hN hs) fun σ H Q h=>Gw tgo hci h
theorem rA (i:Nat){y:Str}{py spos:Pos}(nd:X.N.Nodup) (S:CSc osc scope ON N cap) (tgo:TgOk b.C.K cap g gm) (hi:SI X b G false tg iter src) (hg:∀ C s H fp,PG (X.comp N scope C s H fp) tg g) (ht:∀ C s H fp,oK (X.comp N scope C s H fp) ifs (tMT b.in (jK cap G) t)) (he:∀ C s H fp,SE (X.comp N scope C s H fp) b.in (jK cap G) .val elt f)
  (hG:i∉G:=by decide) (hx:b.fx i=none:=by first | rfl | assumption) (hi':X.N[i]?=some y:=by rfl) (hy:Loc X.env.scope y:=by first | exact Or.inl rfl | exact Or.inr rfl) (hci:oW cap=true:=by rfl)
  (hsw:swapsWith (.ListComp elt [⟨tg,iter,ifs,0⟩] scope pos) (some (.Name y py)) spos.line X.env=pure true:=by rfl)
  (hc:X.calm=true:=by rfl) (hsc:X.env.scope=osc:=by rfl) (hN:X.N=ON:=by rfl) (hs:∀ x,foldedSetIterable iter X.env x=pure x:=by intro _;rfl)
  (hf:X.fn y=true\/X.env.scope.names.lookup y=some .local:=by first | exact .inl rfl | exact .inr rfl | assumption):
  SS X b G G L ro (.Assign [.Name y py] (.ListComp elt [⟨tg,iter,ifs,0⟩] scope pos) spos) (aJ i (bY cap src gm t f)):=
 PS.imp (Hs S nd hi' hy hi hg ht he hsw hc hsc hN hs hf) λD σ H q=>Gw tgo hci (by
  obtain⟨Ow,env,p,E,hf,k⟩:=KQ hG hx q
  exact⟨Ow,env,p,E,hf,λv H' s r=>k v H' s (r.val E (by intro z;cases z))⟩)
end
noncomputable def cP (n k:Nat) (ro:Bool) (f:Env->Option Out) (ps:List PV):Option PV:=if ps.length=k then (f (ps.map some++List.replicate (n - k) none)).bind λo=>match o with
 | .nx _=>if ro=true then none else some .non
 | .rt p=>some p
 | _=>none
 else none
@[simp] theorem PN (n k:Nat) (ro:Bool) (f:Env->Option Out) (ps:List PV):cP n k ro f ps=(if ps.length=k then (f (ps.map some++List.replicate (n - k) none)).bind λo=>match o with
 | .nx _=>if ro=true then none else some .non
 | .rt p=>some p
 | _=>none
 else none):=id rfl
theorem vY {C:MC}{A:Addr->Prop}{H:Hp}{N:List Str}{vs:List V}{ps:List PV}{G:List Nat}(r:Reps C A H vs ps) (hG:∀ i,i∈G->ps.length<=i) (hn:ps.length<=N.length):ER ⟨C,A,H,λ_=>none⟩ (λ_=>False) G (L2.start N vs) (ps.map some++List.replicate (N.length - ps.length) none) H:=by
 have hl:=r.length
 have old:∀ i p,(ps.map some++List.replicate (N.length - ps.length) none)[i]?=some (some p)->ps[i]?=some p:=λi p e=>by
  by_cases hi:i < ps.length
  ·rw[List.getElem?_append_left (by rw[List.length_map];exact hi),List.getElem?_map] at e
   cases q:ps[i]? with
   | none=>rw[q] at e;cases e
   | some p'=>rw[q] at e;cases e;rfl
  ·rw[List.getElem?_append_right (by rw[List.length_map];omega),List.getElem?_replicate] at e
   split at e <;> cases e
 refine⟨?_,Same.refl _,λa w=>w.elim,λa w=>w.elim,λi p e n=>?_,λi p e n=>?_,λi j a p q e1 n1 s1 e2 n2 s2=>?_,λk v z=>by cases z⟩
 ·unfold L2.start
  simp only[List.length_append,List.length_map,List.length_replicate]
  omega
 ·obtain⟨v,hv,rv⟩:=r.get (old i p e)
  refine⟨v,?_,rv.ex (dH λa o _ q=>⟨λz=>z,.inl q⟩)⟩
  unfold L2.start
  have hi:i < vs.length:=(List.getElem?_eq_some_iff.mp hv).1
  rw[List.getElem?_append_left (by rw[List.length_map];exact hi),List.getElem?_map,hv]
  rfl
 ·have h1:=(List.getElem?_eq_some_iff.mp (old i p e)).1
  have h2:=hG i n
  omega
 ·have h1:=(List.getElem?_eq_some_iff.mp (old i p e1)).1
  have h2:=hG i n1
  omega
theorem bR {X:Cx}{C:MC}{N:List Str}{n k:Nat}{G G' L:List Nat}{ro:Bool}{body:List Stmt}{f:Env->Option Out}(hN:N.length=n) (hk:k<=n) (hG:(G.all λi=>decide (k<=i))=true) (hb:∀ A H,SSs X ⟨C,A,H,λ_=>none⟩ G G' L ro body f)
  {vs:List V}{H:Hp}{Q:VK}{E:XK}(h:spM C (cP n k ro f) ro vs H Q E):∃ t,PSs X body t/\t { nx:=λ_ H'=>Q .non H',rt:=Q } (L2.start N vs) H:=by
 obtain⟨A,ps,p,r,hm,kk⟩:=h
 refine⟨_,hb A H,?_⟩
 unfold cP at hm
 split at hm
 ·rename_i hl
  obtain⟨o,ho,hm⟩:=aD hm
  refine⟨_,_,o,vY (N:=N) (G:=G) r (λi hi=>by rw[hl];simpa using List.all_eq_true.mp hG i hi) (by omega),by rw[hN,hl];exact ho,?_⟩
  cases o with
  | nx e=>
   cases ro with
   | true=>cases hm
   | false=>cases hm;exact λOw' σ' H' E' _=>kk .non H' E'.same .non
  | rt q=>cases hm;exact λv H' s rr=>kk v H' s rr
  | bk e=>cases hm
  | ct e=>cases hm
 ·cases hm
theorem bZ {C:MC}{n k:Nat}{f:Env->Option Out}{ro ro':Bool}{vs:List V}{H:Hp}{Q:VK}{E:XK}(h:spM C (cP n k ro' f) ro vs H Q E):vs.length=k:=by
 obtain⟨A,ps,p,r,hm,kk⟩:=h
 unfold cP at hm
 split at hm
 ·rename_i hl;rw[r.length];exact hl
 ·cases hm
section
variable {X:Cx}{b:BX}{G:List Nat}{pos p:Pos}{e:Expr}{es:List Expr}{g:Env->Option (List PV)}
end
end MR
namespace MR
open PySem L2
section
variable {X:Cx}{b:BX}{G G' L:List Nat}{ro:Bool}{pos:Pos}
end
end MR
namespace L2
open PySem PySem.Spec PyProof.Rows
section
variable {X:Cx}
end
end L2
namespace MR
open PySem L2
section
variable {X:Cx}{b:BX}{G G' L:List Nat}{ro:Bool}{pos p:Pos}{m m1 m2:Md}{e e1 e2:Expr}{f f1 f2:Env->Option PV}
@[simp] def maxV:PV->PV->Option PV
 | .int i,.int j=>some (.int (if j > i then j else i))
 | _,_=>none
theorem Bv (hm:X.mg "max" = none) (h1:SE X b G m1 e1 f1) (h2:SE X b G m2 e2 f2) (hc:X.calm=true:=by rfl) (hg:Gl X "max" := by rfl) (hbi:bootBuiltins "max" = some (.builtin "max"):=by decide +kernel)
  (he:starEach [e1,e2] X.env=(false,eval e1 X.env)::starEach [e2] X.env:=by rfl) (he2:starEach [e2] X.env=(false,eval e2 X.env)::starEach [] X.env:=by rfl) (hpl:(backTo pos (starEach [e2] X.env)).any (·.1)=false:=by rfl):
  SE X b G .val (.Call (.Name "max" p) [e1,e2] [] pos) (b2 maxV f1 f2):=by
 refine PE.imp (lg (Av hc) hg hm hbi (b7 h1.bor (b7 h2.bor dR he2) he) (by decide) (by decide) he hpl) ?_
 rintro σ H Q ⟨Ow,env,q,E,hf,kk⟩
 obtain⟨p1,hp1,hf⟩:=aD hf
 obtain⟨p2,hp2,hf⟩:=aD hf
 refine⟨Ow,env,p1,E,hp1,λv H1 s r=>⟨Ow,env,p2,E.up s,hp2,λv2 H2 s2 r2=>?_⟩⟩
 have r1:RepB b.C (Bs b Ow) H1 v p1:=r
 have r2':RepB b.C (Bs b Ow) H2 v2 p2:=r2
 cases p1 <;> cases p2 <;> simp only[maxV] at hf <;> cases hf
 exact⟨_,_,by rw[r1.int,r2'.int],kk _ H2 (s.trans s2) (.int _)⟩
end
end MR
namespace MR
open PySem L2
section
variable {X:Cx}{b:BX}{G G' L:List Nat}{ro:Bool}{pos p:Pos}{m m1 m2:Md}{e e1 e2:Expr}{f f1 f2 h:Env->Option PV}
@[simp] noncomputable def mR:PV->Option PV
 | .lst xs=>some (.tup xs)
 | .frz xs=>some (.tup xs)
 | .tup xs=>some (.tup xs)
 | _=>none
theorem qz (hm:X.mg "tuple" = none) (h:SE X b G m1 e f) (hK:X.K=b.C.K:=by rfl) (hg:Gl X "tuple" := by rfl) (he:starEach [e] X.env=(false,eval e X.env)::starEach [] X.env:=by rfl):SE X b G .val (.Call (.Name "tuple" p) [e] [] pos) (b1 mR f):=by
 refine sU uQ (λOw H v1 p1 p Q hn r1 e k=>?_) hm PyProof.Rows.boot_tuple h hg (by decide) (by decide) he
 rw[hK]
 cases p1 <;> simp only[mR] at e <;> cases e
 case lst xs=>obtain⟨a,vs,rfl,ha,ra⟩:=r1.lst;exact⟨a,vs,rfl,.inl ⟨SqL.of ha,λl hl=>k _ _ (cT hl _) (pM hl ra)⟩⟩
 case frz xs=>obtain⟨a,vs,rfl,ha,ra⟩:=r1.frz;exact⟨a,vs,rfl,.inl ⟨ha,λl hl=>k _ _ (cT hl _) (pM hl ra)⟩⟩
 case tup xs=>obtain⟨a,vs,rfl,ha,ra⟩:=r1.tup;exact⟨a,vs,rfl,.inr ⟨ha.sq,k _ _ (Same.refl _) (ha.rep ra)⟩⟩
noncomputable def vZ (g:PV->Env->Option Env) (f:Env->Option PV) (env:Env):Option Out:=(f env).bind λp=>(g p env).bind λe=>some (.nx e)
@[simp] theorem PQ (g:PV->Env->Option Env) (f:Env->Option PV) (env:Env):vZ g f env=((f env).bind λp=>(g p env).bind λe=>some (.nx e)):=id rfl
theorem Gx {tg:Expr}{g:PV->Env->Option Env}(he:SE X b G .val e h) (hg:SG X b G tg g) (hs:swapsWithSole [tg] e pos.line X.env=pure false:=by rfl) (hw:swappedStores [tg] e X.env=pure none:=by rfl)
  (h1:(assignEach [tg] X.env).map (·.2)=[assign tg X.env]:=by rfl):SS X b G G L ro (.Assign [tg] e pos) (vZ g h):=
 PS.imp (JC he hg hs hw h1)<|by
  rintro D σ H ⟨Ow,env,o,E,hf,k⟩
  obtain⟨p,hp,z1⟩:=aD hf
  clear hf
  obtain⟨env',he',z2⟩:=aD z1
  clear z1
  cases z2
  exact⟨Ow,env,p,E,hp,λv H' s r=>⟨Ow,env,p,env',E.up s,r,he',fun σ' E'=>k Ow σ' H' E' (.of_same s)⟩⟩
end
end MR
namespace MR
open PySem L2
section
variable {X:Cx}{b:BX}{G G' L:List Nat}{ro:Bool}{pos p p2 pos2:Pos}{m m1 m2:Md}{e e1 e2:Expr}{f f1 f2 h:Env->Option PV}
end
end MR
namespace MR
theorem Ef {α:Type}{n:Nat}{us:List α}(hl:us.length=n+1):∃ a r,us=a::r/\r.length=n:=by
 cases us with
 | nil=>cases hl
 | cons a r=>exact⟨a,r,rfl,Nat.succ.inj hl⟩
@[elab_as_elim] theorem len0 {α:Type}{P:List α->Prop}(us:List α) (hl:us.length=0) (h:P []):P us:=by
 cases us with
 | nil=>exact h
 | cons a r=>cases hl
@[elab_as_elim] theorem len1 {α:Type}{P:List α->Prop}(us:List α) (hl:us.length=1) (h:∀ a,P [a]):P us:=by
 obtain⟨a,r,rfl,hr⟩:=Ef hl
 exact len0 (P:=λr=>P (a::r)) r hr (h a)
@[elab_as_elim] theorem len2 {α:Type}{P:List α->Prop}(us:List α) (hl:us.length=2) (h:∀ a b,P [a,b]):P us:=by
 obtain⟨a,r,rfl,hr⟩:=Ef hl
 exact len1 (P:=λr=>P (a::r)) r hr (h a)
@[elab_as_elim] theorem len3 {α:Type}{P:List α->Prop}(us:List α) (hl:us.length=3) (h:∀ a b c,P [a,b,c]):P us:=by
 obtain⟨a,r,rfl,hr⟩:=Ef hl
 exact len2 (P:=λr=>P (a::r)) r hr (h a)
end MR
namespace MR
open PySem L2
@[simp] def oX:PV->Option (List PV)
 | .lst xs=>some xs
 | .frz xs=>some xs
 | .tup xs=>some xs
 | .ktp xs=>some xs
 | _=>none
def kd:PV->SK
 | .tup _=>.T
 | .ktp _=>.T
 | _=>.L
section
variable {X:Cx}{b:BX}{G G' L:List Nat}{ro:Bool}{pos p:Pos}{m m1 m2:Md}{e e1 e2:Expr}
theorem Eg {Ow:Addr->Prop}{σ:St}{env:Env}{H H2:Hp}{fr:Bool}{v:V}{p:PV}{xs:List PV}(E:ER b Ow G σ env H) (r:Res b Ow H H2 m v p) (hmd:fr=true->m≠.bor) (hs:oX p=some xs):
  ∃ a vs,v=.ref a/\SK.sq (kd p) b.C.K H2 a vs/\Reps b.C (Bs b Ow) H2 vs xs/\∀ Ow' H3,(fr=false->Same H2 H3)->Ex (Bs b Ow) H2 (Bs b Ow') H3->SK.sq (kd p) b.C.K H3 a vs/\Reps b.C (Bs b Ow') H3 vs xs:=by
 have b1:RepB b.C (Bs b Ow) H2 v p:=r.bor
 unfold oX at hs
 split at hs
 ·cases hs
  obtain⟨a,vs,rfl,ha,ra⟩:=b1.lst
  refine⟨a,vs,rfl,SqL.of ha,ra,λOw' H3 h0 hx=>?_⟩
  have hq:H3 a=some (.lst vs):=by
   cases fr with
   | false=>exact h0 rfl _ _ ha
   | true=>
    have rv:Rep b.C (Bs b Ow) H2 (.ref a) (.lst _):=r.val E (hmd rfl)
    cases rv with
    | lst q1 q2 q3=>rw[ha] at q1;cases q1;exact((hx _ _ ha).1 q2).1
  exact⟨SqL.of hq,ra.ex hx⟩
 ·cases hs
  have r1:Rep b.C (Bs b Ow) H2 v (.frz _):=(by rcases b1 with z | ⟨_,_,z⟩;exact z;exact z.elim)
  cases r1 with
  | lstF q1 q3=>exact⟨_,_,rfl,.inl (.inr ⟨_,q1⟩),q3,λOw' H3 h0 hx=>⟨.inl (.inr ⟨_,(hx _ _ q1).2 rfl⟩),q3.ex hx⟩⟩
  | lstK q1 q3=>exact⟨_,_,rfl,sqK q1,q3,λOw' H3 h0 hx=>⟨sqK q1,q3.ex hx⟩⟩
 ·cases hs
  obtain⟨a,vs,rfl,ha,ra⟩:=b1.tup
  exact⟨a,vs,rfl,ha.sq,ra,λOw' H3 h0 hx=>⟨(ha.ex hx).sq,ra.ex hx⟩⟩
 ·cases hs
  have r1:Rep b.C (Bs b Ow) H2 v (.ktp _):=(by rcases b1 with z | ⟨_,_,z⟩;exact z;exact z.elim)
  cases r1 with
  | tupK q1 q3=>exact⟨_,_,rfl,sO q1,q3,λOw' H3 h0 hx=>⟨sO q1,q3.ex hx⟩⟩
 ·cases hs
theorem PI.all {α:Type}{tg iter:Expr}{wi:α->TI}(h:∀ a,PI X tg iter (wi a)):PI X tg iter (fun σ H R=>∃ a,wi a σ H R):=λpins s σ H R I ⟨a,q⟩=>h a pins s σ H R I q
end
end MR
namespace MR
open PySem L2
section
variable {X:Cx}{b:BX}{G G' L:List Nat}{pos p p2 pos2:Pos}{m m1 m2:Md}{e:Expr}{f:Env->Option PV}
end
end MR
namespace L2
open PySem PyProof
section
variable {X:Cx}
theorem oY:∀ {zs:List Str}{us:List Value},Vals (zs.map V.str) us->PyProof.Rows.StrsAre us zs
 | [],_,r=>by cases r;constructor
 | z::zs,_,r=>by cases r with | cons h t=>obtain⟨t',rfl⟩:=h;exact .cons _ _ (oY t)
def v4 (K:PySem.W.Frag):V->List V->Hp->VK->Prop:=λx vs H Q=>rJoin K x vs H Q\/∃ z l zs,x=.str z/\vs=[.ref l]/\SqT K H l (zs.map V.str)/\z.length<=64/\(zs.map (·.length)).sum+zs.length*64<=16777216/\Q (.str (Str.join z zs)) H
theorem Eh:MtR X "str.join" (v4 X.K):=by
 intro pins s σ H x vs v us Q I rx rv h
 rcases h with h | h
 ·exact Ht _ _ _ _ _ _ _ _ _ I rx rv h
 obtain⟨z,l,zs,rfl,rfl,hl,h1,h2,q⟩:=h
 obtain⟨t,rfl⟩:=rx
 obtain⟨u,rfl,ru⟩:=rv.one
 cases ru
 obtain⟨its,r,p,_⟩:=I.tuple hl
 refine PyProof.Rows.join_tupleC p (oY r) h1 h2 λt' k=>⟨.str (Str.join z zs),H,I.tok _,⟨t',?_⟩,q⟩
 unfold Txt.join
 rw[StrLaws.glued_eq_join]
end
end L2
namespace MR
open PySem L2
section
variable {X:Cx}{b:BX}{G G' L:List Nat}{pos p p2 pos2:Pos}{m m1 m2:Md}{e:Expr}{f:Env->Option PV}
@[simp] noncomputable def bQ:PV->PV->Option PV
 | .str z,.tup xs=>(strsP xs).bind λzs=>if z.length<=64/\(zs.map (·.length)).sum+zs.length*64<=16777216 then some (.str (Str.join z zs)) else none
 | x,y=>u9 x y
theorem Ei:Op2 b .val (λx y H Q=>(∃ z,x=.str z)->v4 b.C.K x [y] H Q) bQ:=by
 intro Ow H v1 v2 p1 p2 p Q hn r1 r2 e k hz
 unfold bQ at e
 split at e
 ·rename_i z xs
  obtain⟨zs,q,e⟩:=aD e
  split at e
  ·rename_i hj
   cases e
   obtain⟨a,vs,rfl,ha,ra⟩:=r2.tup
   have hv:=ra.strsP q
   subst hv
   exact .inr ⟨z,a,zs,r1.str,rfl,ha.sq,hj.1,hj.2,k _ H (Same.refl _) (.str _)⟩
  ·cases e
 ·exact .inl (Hy Ow H v1 v2 _ _ p Q hn r1 r2 e k hz)
theorem c7 {apos cpos:Pos}{o:Expr}{fo:Env->Option PV}(ho:SE X b G m1 o fo) (h:SE X b G m2 e f) (hK:X.K=b.C.K:=by rfl) (hbase:attributeBase o "join" X.env (eval o X.env)=eval o X.env:=by rfl)
  (hfew:((backTo cpos (starEach [e] X.env)).all (λx=>!x.1)&&(backToKw cpos (keywordEach [] X.env)).all (λx=>x.1.isSome)
   && decide ([e].length+([]:List Keyword).length+(if ([]:List Keyword).isEmpty then 0 else 1) < 30))=true:=by rfl)
  (hline:(apos.endLine == cpos.line)=true:=by rfl) (hs:starEach [e] X.env=(false,eval e X.env)::starEach [] X.env:=by rfl):
  SE X b G .val (.Call (.Attribute o "join" apos) [e] [] cpos) (b2 bQ fo f):=
 Gu PySem.F.slot_str_join PySem.F.type_str_join PySem.F.plainAttrs_str (r:=v4 b.C.K) (by rw[← hK];exact Eh) Ei (λx y p e=>by
  unfold bQ at e
  split at e
  ·exact⟨_,rfl⟩
  ·unfold u9 at e
   split at e
   ·exact⟨_,rfl⟩
   ·cases e) ho h hbase hfew hline hs
end
end MR
namespace L2
open PySem PySem.Spec PyProof PyProof.Rows
section
variable {X:Cx}
theorem Ej (hc:X.calm=true:=by rfl):CallR X (.builtin "sum") (λxs H Q=>∃ (p:Addr) (ns:List Int),xs=[.ref p]/\SqL X.K H p (ns.map V.int)/\Q (.int ns.sum) H):=by
 intro pins s σ H xs us Q I r h
 obtain⟨l,ns,rfl,hq,q⟩:=h
 obtain⟨u,rfl,rx⟩:=vals1 r
 cases rx
 obtain⟨its,r',pl,hz⟩:=I.list hq
 have hi:=intsAre_of r'
 obtain⟨ys,hy⟩:=hi.allInts.items
 have hl:s.heap.IsList l (intItems ys):=hy▸pl.isList
 refine sum_intListG (I.ok.hd hc) hl λh' tk t' hk=>⟨.int ns.sum,H,I.kept hk,⟨t',?_⟩,q⟩
 have e1:ns=ys.toList.map (·.1):=by
  rw[← nums_intItems,← hy]
  exact(show numsOf its.toArray.toList=ns from hi.numsOf).symm
 rw[preSum_eq,List.take_of_length_le (by simp),← e1]
end
end L2
namespace MR
open PySem L2
section
variable {X:Cx}{b:BX}{G G' L:List Nat}{pos p p2 pos2:Pos}{m m1 m2:Md}{e:Expr}{f:Env->Option PV}
@[simp] noncomputable def intsP:List PV->Option (List Int)
 | []=>some []
 | .int c::r=>(intsP r).map (c::·)
 | _::_=>none
theorem Reps.intsP {C:MC}{A:Addr->Prop}{H:Hp}:∀ {vs:List V}{ps:List PV}{bs:List Int},Reps C A H vs ps->intsP ps=some bs->vs=bs.map V.int
 | _,_,_,.nil,e=>by cases e;rfl
 | _,_,_,.cons (p:=p) (ps:=ps) h t,e=>by
  cases p <;> simp only[MR.intsP] at e <;> first | cases e | skip
  rename_i c
  cases q:MR.intsP ps with
  | none=>rw[q] at e;cases e
  | some bs=>rw[q] at e;cases e;cases h;rw[Reps.intsP t q];rfl
@[simp] noncomputable def sY:PV->Option PV
 | .lst xs=>(intsP xs).map λns=>.int ns.sum
 | _=>none
theorem KZ (hm:X.mg "sum" = none) (h:SE X b G m1 e f) (hcm:X.calm=true:=by rfl) (hK:X.K=b.C.K:=by rfl) (hg:Gl X "sum" := by rfl) (he:starEach [e] X.env=(false,eval e X.env)::starEach [] X.env:=by rfl):SE X b G .val (.Call (.Name "sum" p) [e] [] pos) (b1 sY f):=by
 refine rm (Ej hcm) (λOw H v1 p1 p Q hn r1 e k=>?_) hm PyProof.Rows.boot_sum h hg (by decide) (by decide) he
 rw[hK]
 cases p1 <;> simp only[sY] at e <;> first | cases e | skip
 rename_i xs
 obtain⟨a,vs,rfl,ha,ra⟩:=r1.lst
 cases q:MR.intsP xs with
 | none=>rw[q] at e;cases e
 | some ns=>
  rw[q] at e
  cases e
  have hv:=ra.intsP q
  subst hv
  exact⟨a,ns,rfl,SqL.of ha,k _ H (Same.refl _) (.int _)⟩
end
end MR
namespace MR
open PySem L2
section
variable {X:Cx}{b:BX}{G G' L:List Nat}{ro:Bool}{pos p p2 pos2:Pos}{m m1 m2:Md}{e:Expr}{f:Env->Option PV}
end
end MR
namespace MR
open PySem L2
section
variable {X:Cx}{b:BX}{G G' L:List Nat}{ro:Bool}{pos p p2 pos2:Pos}{m m1 m2:Md}{e:Expr}{h:Env->Option PV}
end
end MR
namespace MR
open PySem L2
section
variable {X:Cx}{b:BX}{G G' L:List Nat}{ro:Bool}{pos p:Pos}{m m1 m2:Md}{e e1 e2:Expr}
end
end MR
namespace MR
open PySem L2
section
variable {X:Cx}{b:BX}{G:List Nat}{pos:Pos}{m1 m2 m3:Md}{e1 e2 e3:Expr}{f1 f2 f3:Env->Option PV}
end
end MR
namespace MR
open PySem L2
section
variable {X:Cx}{b:BX}{G G' L:List Nat}{pos p p2 pos2:Pos}{m m1 m2:Md}{e1 e2:Expr}{f1 f2:Env->Option PV}
@[simp] noncomputable def v7:PV->PV->Option PV
 | .int i,.int j=>some (.bl (decide (i < j)))
 | .lst xs,.lst ys=>(intsP xs).bind λns=>(intsP ys).bind λms=>some (.bl (HT.lexLt ns ms))
 | _,_=>none
theorem K1:Op2 b .val (λx y H Q=>rI0 (λi j=>.bl (decide (i < j))) x y H Q\/DX b.C.K x y H Q) v7:=by
 intro Ow H v1 v2 p1 p2 p Q hn r1 r2 e k
 unfold v7 at e
 split at e
 ·cases e
  rw[r1.int,r2.int]
  exact .inl ⟨_,_,rfl,rfl,k _ H (Same.refl _) (.bl _)⟩
 ·rename_i xs ys
  obtain⟨a,vs,rfl,ha,ra⟩:=r1.lst
  obtain⟨c,ws,rfl,hc,rc⟩:=r2.lst
  obtain⟨ns,q1,e⟩:=aD e
  obtain⟨ms,q2,e⟩:=aD e
  cases e
  have h1:=ra.intsP q1
  have h2:=rc.intsP q2
  subst h1 h2
  exact .inr ⟨a,c,ns,ms,rfl,rfl,SqL.of ha,SqL.of hc,k _ H (Same.refl _) (.bl _)⟩
 ·cases e
theorem Bw {j:Nat}(hr:Room j X.A) (h1:SE X b G m1 e1 f1) (h2:SE X b G m2 e2 f2) (hK:X.K=b.C.K:=by rfl):SC X b G .Lt e1 e2 (b2 v7 f1 f2):=
 lR (r:=λx y H Q=>rI0 (λi j=>.bl (decide (i < j))) x y H Q\/DX b.C.K x y H Q) (by rw[← hK];exact OpR.or MP (Ke hr.units0)) K1 h1 h2 (mG _)
end
end MR
namespace MR
open PySem L2
noncomputable def iE2 (f:Env->Option PV) (env:Env):Option (List PV):=(f env).bind λp=>(oX p).bind λxs=>some (jd 0 xs)
@[simp] theorem Qt (f:Env->Option PV) (env:Env):iE2 f env=((f env).bind λp=>(oX p).bind λxs=>some (jd 0 xs)):=id rfl
section
variable {X:Cx}{b:BX}{G G' L:List Nat}{ro:Bool}{pos p:Pos}{m m1 m2:Md}{e e1 e2:Expr}
theorem qC {fr:Bool}{h:Env->Option PV}{es:List Expr}{x1:Nat}{tpos:Pos}(hm:X.mg "enumerate" = none) (he:SE X b G m e h) (hmd:fr=true->m≠.bor:=by simp) (hK:X.K=b.C.K:=by rfl) (hg:Gl X "enumerate" := by rfl) (hs:starEach [e] X.env=[(false,eval e X.env)]:=by rfl) (hs':starEach [e] X.env=(false,eval e X.env)::starEach [] X.env:=by rfl):
  SI X b G fr (.Tuple es x1 tpos) (.Call (.Name "enumerate" p) [e] [] pos) (iE2 h):=by
 refine PI.imp (PI.all λk:SK=>DY (k:=k) hg hm (b7 he dR hs') hs) ?_
 rintro σ H R ⟨Ow,env,ps,E,hf,k⟩
 rw[hK]
 obtain⟨p1,hp1,z1⟩:=aD hf
 clear hf
 obtain⟨xs,hxs,z4⟩:=aD z1
 clear z1
 cases z4
 refine⟨kd p1,Ow,env,p1,E,hp1,λv H1 s r=>?_⟩
 obtain⟨a,vs,rfl,qa,ra,ka⟩:=Eg (fr:=fr) E r hmd hxs
 refine⟨a,rfl,⟨vs,qa⟩,k _ _ s λOw' H3 h0 hx hn=>?_⟩
 obtain⟨qa',ra'⟩:=ka Ow' H3 h0 hx
 refine⟨λi p hp'=>?_,⟨vs,qa',by rw[oV,ra'.length]⟩⟩
 obtain⟨x,hx',rfl⟩:=uE hp'
 obtain⟨v,hv,rv⟩:=ra'.get hx'
 refine⟨⟨vs,v,qa',hv⟩,λy H' yl=>?_⟩
 obtain⟨t,x',ht,e1,e2,yl⟩:=yl
 subst e1 e2
 have e3:=yl vs qa'
 rw[hv] at e3
 cases e3
 refine⟨cT ht _,.tup bf (.cons ?_ (.cons (rv.ex (.of_same (cT ht _))) .nil))⟩
 rw[Nat.zero_add]
 exact .int _
end
end MR
namespace HT
open PySem PyProof.Rows
section
open PySem.SeqAt
open PySem.AutoSeq1 (wpAny_loadPart')
open PySem.MeetsSeq PySem.MeetsSeq2 PySem.MeetsSeq3
end
section
variable {A:Around}{s:Shared}
end
end HT
namespace HT
open PySem PyProof.Rows
def ltTwo (n1 n2 m1 m2:List Int):Bool:=if n1=m1 then lexLt n2 m2 else lexLt n1 m1
end HT
namespace L2
open PySem PyProof.Rows
section
variable {X:Cx}
end
end L2
namespace MR
open PySem L2
inductive Inn (C:MC) (A:Addr->Prop) (H:Hp):List Addr->List (List PV)->Prop
 | nil:Inn C A H [] []
 | cons {c:Addr}{cs:List Addr}{us:List V}{ys:List PV}{yss:List (List PV)}:H c=some (.lst us)->Reps C A H us ys->Inn C A H cs yss->Inn C A H (c::cs) (ys::yss)
theorem Inn.ex {C:MC}{A A':Addr->Prop}{H H':Hp}(e:Ex A H A' H'):∀ {cs:List Addr}{yss:List (List PV)},(∀ c∈cs,H' c=H c)->Inn C A H cs yss->Inn C A' H' cs yss
 | _,_,_,.nil=>.nil
 | _,_,h,.cons q r t=>.cons ((h _ List.mem_cons_self).trans q) (r.ex e) (Inn.ex e (λc hc=>h c (List.mem_cons_of_mem _ hc)) t)
theorem Inn.live {C:MC}{A:Addr->Prop}{H:Hp}:∀ {cs:List Addr}{yss:List (List PV)},Inn C A H cs yss->∀ c∈cs,∃ us,H c=some (.lst us)
 | _,_,.nil,c,hc=>by cases hc
 | _,_,.cons q r t,c,hc=>by
  rcases List.mem_cons.mp hc with z | z
  ·subst z;exact⟨_,q⟩
  ·exact Inn.live t c z
theorem Inn.length {C:MC}{A:Addr->Prop}{H:Hp}:∀ {cs:List Addr}{yss:List (List PV)},Inn C A H cs yss->cs.length=yss.length
 | _,_,.nil=>rfl
 | _,_,.cons q r t=>by rw[List.length_cons,List.length_cons,Inn.length t]
theorem Inn.reps {C:MC}{A A':Addr->Prop}{H:Hp}(e:Ex A H A' H):∀ {cs:List Addr}{yss:List (List PV)},(∀ c∈cs,A' c)->Inn C A H cs yss->Reps C A' H (cs.map V.ref) (yss.map PV.lst)
 | _,_,_,.nil=>.nil
 | _,_,h,.cons q r t=>.cons (.lst q (h _ List.mem_cons_self) (r.ex e)) (Inn.reps e (λc hc=>h c (List.mem_cons_of_mem _ hc)) t)
theorem Inn.get {C:MC}{A:Addr->Prop}{H:Hp}:∀ {cs:List Addr}{yss:List (List PV)}{j:Nat}{ys:List PV},Inn C A H cs yss->yss[j]?=some ys->∃ c us,cs[j]?=some c/\H c=some (.lst us)/\Reps C A H us ys
 | _,_,_,_,.nil,e=>by simp at e
 | _,_,0,_,.cons q r t,e=>by simp at e;subst e;exact⟨_,_,rfl,q,r⟩
 | _,_,j+1,_,.cons q r t,e=>by
  obtain⟨c,us,h1,h2,h3⟩:=Inn.get t (j:=j) (by simpa using e)
  exact⟨c,us,by simpa using h1,h2,h3⟩
theorem Inn.set {C:MC}{A:Addr->Prop}{H H':Hp}{us:List V}{ys:List PV}(e:Ex A H A H') (r':Reps C A H' us ys):∀ {cs:List Addr}{yss:List (List PV)}{j:Nat}{c:Addr},cs.Nodup->cs[j]?=some c->H' c=some (.lst us)->(∀ x∈cs,x≠c->H' x=H x)->Inn C A H cs yss->Inn C A H' cs (yss.set j ys)
 | _,_,_,_,_,h,_,_,.nil=>by simp at h
 | _,_,0,_,nd,h,hc,k,.cons q r t=>by
  simp at h
  subst h
  rw[List.nodup_cons] at nd
  exact .cons hc r' (Inn.ex e (λx hx=>k x (List.mem_cons_of_mem _ hx) λz=>nd.1 (z▸hx)) t)
 | _,_,j+1,_,nd,h,hc,k,.cons q r t=>by
  rw[List.nodup_cons] at nd
  have h':=h
  rw[List.getElem?_cons_succ] at h'
  have hm:=List.mem_of_getElem? h'
  exact .cons ((k _ List.mem_cons_self λz=>nd.1 (z▸hm)).trans q) (r.ex e) (Inn.set e r' (j:=j) nd.2 h' hc (λx hx=>k x (List.mem_cons_of_mem _ hx)) t)
def bn (b:BX) (i:Nat) (a:Addr) (cs:List Addr) (H:Hp):BX:=⟨b.C,λx=>b.A x/\x∉a::cs,λx=>if x∈a::cs then H x else b.H0 x,λj=>if j=i then some (.ref a) else b.fx j⟩
def KN (b:BX) (Ow:Addr->Prop) (a:Addr) (cs:List Addr) (x:Addr):Prop:=Bs b Ow x/\x∉a::cs
theorem Nk {b:BX}{i:Nat}{a:Addr}{cs:List Addr}{H H':Hp}(h:∀ x∈a::cs,H' x=H x):bn b i a cs H'=bn b i a cs H:=by
 unfold bn
 congr 1
 funext x
 by_cases hx:x∈a::cs
 ·rw[if_pos hx,if_pos hx,h x hx]
 ·rw[if_neg hx,if_neg hx]
theorem je {b:BX}{i:Nat}{a:Addr}{cs:List Addr}{H:Hp}{Ow:Addr->Prop}(lv:∀ x∈a::cs,∃ o,H x=some o){x:Addr}:Bs (bn b i a cs H) Ow x↔KN b Ow a cs x:=by
 constructor
 ·rintro ⟨n,(⟨h,z⟩ | h)⟩
  ·exact⟨⟨n,.inl h⟩,z⟩
  ·have h':(if x∈a::cs then H x else b.H0 x)=none:=h
   by_cases hx:x∈a::cs
   ·rw[if_pos hx] at h'
    obtain⟨o,e⟩:=lv x hx
    rw[h'] at e;cases e
   ·rw[if_neg hx] at h'
    exact⟨⟨n,.inr h'⟩,hx⟩
 ·rintro ⟨⟨n,(h | h)⟩,z⟩
  ·exact⟨n,.inl ⟨h,z⟩⟩
  ·exact⟨n,.inr (by show (if x∈a::cs then H x else b.H0 x)=none;rw[if_neg z];exact h)⟩
structure EN (b:BX) (Ow:Addr->Prop) (G:List Nat) (i:Nat) (σ:St) (env:Env) (H:Hp) (a:Addr) (cs:List Addr) (yss:List (List PV)):Prop where
 val:env[i]?=some (some (.lst (yss.map PV.lst)))
 top:H a=some (.lst (cs.map V.ref))
 nd:(a::cs).Nodup
 new:∀ x∈a::cs,b.H0 x=none
 inn:Inn b.C (KN b Ow a cs) H cs yss
 er:ER (bn b i a cs H) Ow G σ (env.set i none) H
section
variable {b:BX}{Ow:Addr->Prop}{G:List Nat}{i:Nat}{σ:St}{env:Env}{H H':Hp}{a:Addr}{cs:List Addr}{yss:List (List PV)}
theorem EN.live (E:EN b Ow G i σ env H a cs yss):∀ x∈a::cs,∃ o,H x=some o:=λx hx=>by
 rcases List.mem_cons.mp hx with z | z
 ·subst z;exact⟨_,E.top⟩
 ·obtain⟨us,h⟩:=E.inn.live x z;exact⟨_,h⟩
theorem EN.slot (E:EN b Ow G i σ env H a cs yss):σ[i]?=some (some (.ref a)):=E.er.fix i (.ref a) (by show (if i=i then _ else _)=_;rw[if_pos rfl])
theorem EN.not_ow (E:EN b Ow G i σ env H a cs yss):∀ x∈a::cs,¬ Ow x:=λx hx w=>by
 have h:=E.er.new x w
 have h':(if x∈a::cs then H x else b.H0 x)=none:=h
 rw[if_pos hx] at h'
 obtain⟨o,e⟩:=E.live x hx
 rw[h'] at e;cases e
theorem EN.of {Ow':Addr->Prop}{σ':St}{e:Env}(E:EN b Ow G i σ env H a cs yss) (E':ER (bn b i a cs H) Ow' G σ' e H') (x:Ex (Bs (bn b i a cs H) Ow) H (Bs (bn b i a cs H) Ow') H'):
  EN b Ow' G i σ' (e.set i (some (.lst (yss.map PV.lst)))) H' a cs yss/\Ex (KN b Ow a cs) H (KN b Ow' a cs) H':=by
 have st:∀ y∈a::cs,H' y=H y:=λy hy=>by
  obtain⟨o,h⟩:=E.live y hy
  rw[h]
  exact E'.same y o (by show (if y∈a::cs then H y else b.H0 y)=some o;rw[if_pos hy];exact h)
 have lv':∀ y∈a::cs,∃ o,H' y=some o:=λy hy=>by rw[st y hy];exact E.live y hy
 have x':Ex (KN b Ow a cs) H (KN b Ow' a cs) H':=λc o hc=>⟨λq=>by
  obtain⟨h1,h2⟩:=(x c o hc).1 ((je E.live).mpr q)
  exact⟨h1,(je E.live).mp h2⟩,(x c o hc).2⟩
 have hl:i < e.length:=by
  have h:=E'.fix i (.ref a) (by show (if i=i then _ else _)=_;rw[if_pos rfl])
  rw[← E'.len]
  rcases Nat.lt_or_ge i σ'.length with z | z
  ·exact z
  ·rw[List.getElem?_eq_none z] at h;cases h
 refine⟨⟨by rw[List.getElem?_set_self hl],by rw[st a List.mem_cons_self];exact E.top,E.nd,E.new,E.inn.ex x' λc hc=>st c (List.mem_cons_of_mem _ hc),?_⟩,x'⟩
 rw[Nk st,List.set_set]
 exact E'.forget i
theorem EN.up (E:EN b Ow G i σ env H a cs yss) (s:Same H H'):EN b Ow G i σ env H' a cs yss:=by
 have h:=(E.of (E.er.up s) (.of_same s)).1
 rw[List.set_set] at h
 have hl:i < env.length:=by
  rcases Nat.lt_or_ge i env.length with z | z
  ·exact z
  ·have:=E.val;rw[List.getElem?_eq_none z] at this;cases this
 have e:env.set i (some (.lst (yss.map PV.lst)))=env:=by
  refine List.ext_getElem? λj=>?_
  by_cases hj:i=j
  ·subst hj;rw[List.getElem?_set_self hl,E.val]
  ·rw[List.getElem?_set_ne hj]
 rw[e] at h
 exact h
theorem EN.out (E:EN b Ow G i σ env H a cs yss) (hi:i∉G) (hx:b.fx i=none):ER b Ow G σ env H:=by
 have no:=E.not_ow
 have w:Ex (KN b Ow a cs) H (Bs b Ow) H:=dH λc o _ q=>q.1
 have w':Ex (Bs (bn b i a cs H) Ow) H (Bs b Ow) H:=dH λc o _ q=>((je E.live).mp q).1
 have back:∀ {j:Nat}{q:PV},i≠j->env[j]?=some (some q)->(env.set i none)[j]?=some (some q):=λ{j q} hj e=>by rw[List.getElem?_set_ne hj];exact e
 refine⟨by rw[E.er.len,List.length_set],λc o h=>E.er.same c o ?_,E.er.live,λc z=>?_,λj q e n=>?_,λj q e n=>?_,λj k c q q' e1 n1 s1 e2 n2 s2=>?_,λk v hv=>E.er.fix k v ?_⟩
 ·have hc:c∉a::cs:=λz=>by rw[E.new c z] at h;cases h
  show (if c∈a::cs then H c else b.H0 c)=some o
  rw[if_neg hc];exact h
 ·have h:=E.er.new c z
  have h':(if c∈a::cs then H c else b.H0 c)=none:=h
  rw[if_neg λy=>no c y z] at h'
  exact h'
 ·by_cases hj:i=j
  ·subst hj
   rw[E.val] at e
   cases e
   have ha:Bs b Ow a:=⟨no a List.mem_cons_self,.inr (E.new a List.mem_cons_self)⟩
   exact⟨_,E.slot,.lst E.top ha (E.inn.reps w λc hc=>⟨no c (List.mem_cons_of_mem _ hc),.inr (E.new c (List.mem_cons_of_mem _ hc))⟩)⟩
  ·obtain⟨v,h1,h2⟩:=E.er.val j q (back hj e) n
   exact⟨v,h1,h2.ex w'⟩
 ·have hj:i≠j:=λz=>hi (z▸n)
  obtain⟨c,h1,h2,h3⟩:=E.er.own j q (back hj e) n
  exact⟨c,h1,h2,h3.ex w' λo z=>z⟩
 ·have hj:i≠j:=λz=>hi (z▸n1)
  have hk:i≠k:=λz=>hi (z▸n2)
  exact E.er.sep j k c q q' (back hj e1) n1 s1 (back hk e2) n2 s2
 ·show (if k=i then some (V.ref a) else b.fx k)=some v
  rw[if_neg λz=>by rw[z,hx] at hv;cases hv]
  exact hv
end
end MR
namespace MR
open PySem L2
def tNe (b:BX) (G:List Nat) (i:Nat) (f:Env->Option Out):TS:=λD σ H=>∃ Ow env a cs yss env',EN b Ow G i σ env H a cs yss/\f env=some (.nx env') /\
 ∀ Ow' σ' H' cs' yss',EN b Ow' G i σ' env' H' a cs' yss'->(∀ x∈cs,x∈cs')->Ex (KN b Ow a cs) H (KN b Ow' a cs') H'->D.nx σ' H'
abbrev NS (X:Cx) (b:BX) (G:List Nat) (i:Nat) (st:Stmt) (f:Env->Option Out):Prop:=PS X st (tNe b G i f)
abbrev NSs (X:Cx) (b:BX) (G:List Nat) (i:Nat) (st:List Stmt) (f:Env->Option Out):Prop:=PSs X st (tNe b G i f)
noncomputable def hid (i:Nat) (f:Env->Option Out) (env:Env):Option Out:=(f (env.set i none)).bind λo=>match o with
 | .nx e=>some (.nx (e.set i (env.getD i none)))
 | _=>none
@[simp] theorem Qu (i:Nat) (f:Env->Option Out) (env:Env):hid i f env=((f (env.set i none)).bind λo=>match o with
 | .nx e=>some (.nx (e.set i (env.getD i none)))
 | _=>none):=id rfl
noncomputable def nIf (i:Nat) (c:Env->Option Bool) (f g:Env->Option Out) (env:Env):Option Out:=(c (env.set i none)).bind λk=>if k=true then f env else g env
@[simp] theorem Qv (i:Nat) (c:Env->Option Bool) (f g:Env->Option Out) (env:Env):nIf i c f g env=((c (env.set i none)).bind λk=>if k=true then f env else g env):=id rfl
def gH (i:Nat) (g:PV->Env->Option Env) (p:PV) (env:Env):Option Env:=(g p (env.set i none)).map λe=>e.set i (env.getD i none)
@[simp] theorem QX (i:Nat) (g:PV->Env->Option Env) (p:PV) (env:Env):gH i g p env=((g p (env.set i none)).map λe=>e.set i (env.getD i none)):=id rfl
noncomputable def onx (f:Env->Option Out) (env:Env):Option Out:=(f env).bind λo=>match o with
 | .nx e=>some (.nx e)
 | _=>none
@[simp] theorem Qw (f:Env->Option Out) (env:Env):onx f env=((f env).bind λo=>match o with
 | .nx e=>some (.nx e)
 | _=>none):=id rfl
noncomputable def Ek (i:Nat) (g:PV->Env->Option Env) (src:Env->Option (List PV)) (ds:List Nat) (f:Env->Option Out) (env:Env):Option Out:=(src (env.set i none)).bind λxs=>cW (gH i g) ds (onx f) xs (clr ds env)
@[simp] theorem PX (i:Nat) (g:PV->Env->Option Env) (src:Env->Option (List PV)) (ds:List Nat) (f:Env->Option Out) (env:Env):Ek i g src ds f env=((src (env.set i none)).bind λxs=>cW (gH i g) ds (onx f) xs (clr ds env)):=id rfl
@[simp] noncomputable def apV:PV->PV->PV->Option PV
 | .lst ws,.int k,p=>(ixN ws.length k).bind λj=>(ws[j]?).bind λw=>match w with
  | .lst ys=>if ys.length < 1000000 then some (.lst (ws.set j (.lst (ys++[p])))) else none
  | _=>none
 | _,_,_=>none
noncomputable def El (i:Nat) (f h:Env->Option PV) (env:Env):Option Out:=(bV i env).bind λx=>(f (env.set i none)).bind λk=>(h (env.set i none)).bind λp=>(apV x k p).bind λy=>some (.nx (env.set i (some y)))
@[simp] theorem P0 (i:Nat) (f h:Env->Option PV) (env:Env):El i f h env=((bV i env).bind λx=>(f (env.set i none)).bind λk=>(h (env.set i none)).bind λp=>(apV x k p).bind λy=>some (.nx (env.set i (some y)))):=id rfl
section
variable {X:Cx}{b:BX}{G G' L:List Nat}{ro:Bool}{i:Nat}{st:Stmt}{rest:List Stmt}{f g:Env->Option Out}{e e1 e2:Expr}{h h1 h2:Env->Option PV}{m m1 m2:Md}{pos:Pos}
theorem v8 {env:Env}{i:Nat}{p:PV}(h:env[i]?=some (some p)):env.getD i none=some p:=by rw[List.getD_eq_getElem?_getD,h];rfl
theorem K3 (x:NS X b G i st f) (c:NSs X b G i rest g):NSs X b G i (st::rest) (aG f g):=PSs.imp (gK x c)<|by
 rintro D σ H ⟨Ow,env,a,cs,yss,env',E,hf,k⟩
 unfold aG at hf
 cases q:f env with
 | none=>rw[q] at hf;cases hf
 | some o1=>
  rw[q] at hf
  cases o1 with
  | nx e'=>exact⟨Ow,env,a,cs,yss,e',E,q,λOw1 σ1 H1 cs1 yss1 E1 s1 x1=>⟨Ow1,e',a,cs1,yss1,env',E1,hf,λOw2 σ2 H2 cs2 yss2 E2 s2 x2=>k Ow2 σ2 H2 cs2 yss2 E2 (λz hz=>s2 z (s1 z hz)) (x1.trans x2)⟩⟩
  | bk e'=>cases hf
  | ct e'=>cases hf
  | rt p=>cases hf
theorem zu (x:NS X b G i st f):NSs X b G i [st] f:=pI x
theorem rB (x:∀ a cs H,SS X (bn b i a cs H) G G [] false st f):NS X b G i st (hid i f):=by
 rintro pins s σ H D I ⟨Ow,env,a,cs,yss,env',E,hf,k⟩
 obtain⟨o,ho,z⟩:=aD hf
 refine x a cs H pins s σ H D I ⟨Ow,env.set i none,o,E.er,ho,?_⟩
 cases o with
 | nx e'=>
  rw[v8 E.val] at z
  cases z
  intro Ow' σ' H' E' x'
  obtain⟨E2,x2⟩:=E.of E' x'
  exact k Ow' σ' H' cs yss E2 (λ_ z=>z) x2
 | bk e'=>cases z
 | ct e'=>cases z
 | rt p=>cases z
theorem O9 {c:Expr}{k:Env->Option Bool}{sa sb:List Stmt}(hc:∀ a cs H,ST X (bn b i a cs H) G c k) (ha:NSs X b G i sa f) (hb:NSs X b G i sb g):NS X b G i (.If c sa sb pos) (nIf i k f g):=by
 rintro pins s σ H D I ⟨Ow,env,a,cs,yss,env',E,hf,kk⟩
 obtain⟨p,hp,z1⟩:=aD hf
 refine yI (hc a cs H) ha hb pins s σ H D I ⟨Ow,env.set i none,p,E.er,hp,λH' s'=>?_⟩
 have go:∀ {f:Env->Option Out},f env=some (.nx env')->tNe b G i f D σ H':=λ{f} hz=>⟨Ow,env,a,cs,yss,env',E.up s',hz,λOw2 σ2 H2 cs2 yss2 E2 s2 x2=>kk Ow2 σ2 H2 cs2 yss2 E2 s2 ((Ex.of_same s').trans x2)⟩
 cases p with
 | true=>exact DK (go z1)
 | false=>exact DG (go z1)
end
end MR
namespace MR
open PySem L2
section
variable {X:Cx}{b:BX}{G G' L:List Nat}{ro:Bool}{i:Nat}{st:Stmt}{rest:List Stmt}{f g:Env->Option Out}{e e1 e2:Expr}{h h1 h2:Env->Option PV}{m m1 m2:Md}{pos:Pos}
def tGN (b:BX) (G:List Nat) (i:Nat) (g:PV->Env->Option Env):TG:=λv σ H Q=>∃ a cs H0,tMG (bn b i a cs H0) G g v σ H Q
theorem yh:∀ {ds:List Nat}{env:Env}{i:Nat},i∉ds->(clr ds env)[i]?=env[i]?
 | [],_,_,_=>rfl
 | d::ds,env,i,h=>by
  rw[List.mem_cons,not_or] at h
  show (clr ds (env.set d none))[i]?=_
  rw[yh h.2,List.getElem?_set_ne (Ne.symm h.1)]
theorem yj:∀ {ds:List Nat}{env:Env}{i:Nat}{v:Option PV},i∉ds->(clr ds env).set i v=clr ds (env.set i v)
 | [],_,_,_,_=>rfl
 | d::ds,env,i,v,h=>by
  rw[List.mem_cons,not_or] at h
  show (clr ds (env.set d none)).set i v=clr ds ((env.set i v).set d none)
  rw[yj h.2,List.set_comm _ _ (Ne.symm h.1)]
theorem EN.clr {Ow:Addr->Prop}{σ:St}{env:Env}{H:Hp}{a:Addr}{cs:List Addr}{yss:List (List PV)}{ds:List Nat}(E:EN b Ow G i σ env H a cs yss) (hd:i∉ds):EN b Ow G i σ (clr ds env) H a cs yss:=
 ⟨by rw[yh hd];exact E.val,E.top,E.nd,E.new,E.inn,by rw[yj hd];exact E.er.clr⟩
theorem Nm {tg it:Expr}{body:List Stmt}{g:PV->Env->Option Env}{src:Env->Option (List PV)}{f:Env->Option Out}(ds:List Nat) (hi:∀ a cs H,SI X (bn b i a cs H) G true tg it src) (hg:∀ a cs H,SG X (bn b i a cs H) G tg g) (hb:NSs X b G i body f)
  (hp:PassesOwn (model X.prog X.w) X.A X.env X.xe) (hd:i∉ds:=by decide) (hc:X.calm=true:=by rfl) (hs:∀ x,foldedSetIterable it X.env x=pure x:=by intro _;rfl):NS X b G i (.For tg it body [] pos) (Ek i g src ds f):=by
 rintro pins s σ H D I ⟨Ow,env,a,cs,yss,env',E,hf,k⟩
 obtain⟨ps,hps,hl⟩:=aD hf
 have hgN:PG X tg (tGN b G i g):=λpins s σ H v w Q I r ⟨a,cs,H0,q⟩=>hg a cs H0 pins s σ H v w Q I r q
 refine vp hp hc (hi a cs H) hgN hb hs pins s σ H D I ⟨Ow,env.set i none,ps,E.er,hps,λJ H1 s1 iw=>?_⟩
 refine⟨λn m σ2 H2=>m=ps.length - n/\n<=ps.length/\∃ Ow2 env2 cs2 yss2,EN b Ow2 G i σ2 env2 H2 a cs2 yss2/\(∀ x∈cs,x∈cs2)/\Ex (KN b Ow a cs) H1 (KN b Ow2 a cs2) H2/\cW (gH i g) ds (onx f) (ps.drop n) env2=some (.nx env'),⟨ps.length,by simp,Nat.zero_le _,Ow,clr ds env,cs,yss,(E.up s1).clr hd,λ_ z=>z,Ex.refl _ _,by simpa using hl⟩,?_⟩
 rintro n m σ2 H2 ⟨rfl,hn,Ow2,env2,cs2,yss2,E2,tY,x2,l2⟩
 have sub':∀ x,x∉a::cs2->x∉a::cs:=λx hx z=>hx (by
  rcases List.mem_cons.mp z with q | q
  ·rw[q];exact List.mem_cons_self
  ·exact List.mem_cons_of_mem _ (tY x q))
 have into:∀ x,KN b Ow2 a cs2 x->Bs (bn b i a cs H) (λy=>Ow2 y\/y∈a::cs2) x:=λx q=>by
  have z:=(je (i:=i) E.live (Ow:=Ow2)).mpr ⟨q.1,sub' x q.2⟩
  exact⟨λy=>y.elim q.1.1 q.2,z.2⟩
 have outof:∀ x,Bs (bn b i a cs H) (λy=>Ow2 y\/y∈a::cs2) x->KN b Ow2 a cs2 x:=λx q=>by
  have z:=(je (i:=i) E.live (Ow:=λy=>Ow2 y\/y∈a::cs2)).mp q
  exact⟨⟨λy=>z.1.1 (.inl y),z.1.2⟩,λy=>z.1.1 (.inr y)⟩
 obtain⟨w1,w2⟩:=iw (λy=>Ow2 y\/y∈a::cs2) H2 (λz=>by cases z) (λc o hc=>⟨λq=>by
  obtain⟨h1,h2⟩:=(x2 c o hc).1 ((je E.live).mp q)
  exact⟨h1,into c h2⟩,(x2 c o hc).2⟩) λc hc=>into c ((je E2.live).mp (E2.er.fresh hc))
 have xk:Ex (KN b Ow a cs) H (KN b Ow2 a cs2) H2:=(Ex.of_same s1).trans x2
 by_cases hlt:n < ps.length
 ·rw[List.drop_eq_getElem_cons hlt] at l2
  obtain⟨e1,he1,l2⟩:=aD l2
  obtain⟨o,ho,l2⟩:=aD l2
  obtain⟨e0,he0,rfl⟩:=Option.map_eq_some_iff.mp he1
  obtain⟨o',ho',hz⟩:=aD ho
  obtain⟨g1,g2⟩:=w1 n ps[n] (List.getElem?_eq_getElem hlt)
  refine .inr ⟨g1,fun σ' H'=>n+1<=ps.length/\∃ Ow2 env2 cs2 yss2,EN b Ow2 G i σ' env2 H' a cs2 yss2/\(∀ x∈cs,x∈cs2)/\Ex (KN b Ow a cs) H1 (KN b Ow2 a cs2) H'/\cW (gH i g) ds (onx f) (ps.drop (n+1)) env2=some (.nx env'),fun σ' H' q=>⟨ps.length - (n+1),by omega,rfl,q⟩,λx H' y=>?_⟩
  obtain⟨s3,r3⟩:=g2 x H' y
  have E3:=E2.up s3
  have r3':Rep b.C (Bs (bn b i a cs2 H') Ow2) H' x ps[n]:=r3.ex (dH λc o _ q=>(je E3.live).mpr (outof c q))
  refine⟨a,cs2,H',Ow2,env2.set i none,ps[n],e0,E3.er,r3',he0,fun σ3 E4=>?_⟩
  obtain⟨E5,x5⟩:=E3.of E4 (Ex.refl _ _)
  rw[v8 E2.val] at ho'
  cases o' with
  | nx e'=>
   cases hz
   exact⟨Ow2,_,a,cs2,yss2,e',E5,ho',λOw6 σ6 H6 cs6 yss6 E6 s6 x6=>⟨hlt,Ow6,_,cs6,yss6,E6.clr hd,λz hz=>s6 z (tY z hz),x2.trans ((Ex.of_same s3).trans (x5.trans x6)),l2⟩⟩
  | bk e'=>cases hz
  | ct e'=>cases hz
  | rt p=>cases hz
 ·have e:n=ps.length:=by omega
  subst e
  rw[List.drop_length] at l2
  cases l2
  exact .inl ⟨w2,k Ow2 σ2 H2 cs2 yss2 E2 tY xk⟩
end
end MR
namespace MR
open PySem L2
section
variable {X:Cx}{b:BX}{G G' L:List Nat}{ro:Bool}{i:Nat}{st:Stmt}{rest:List Stmt}{f g:Env->Option Out}{e e1 e2:Expr}{h h1 h2:Env->Option PV}{m m1 m2:Md}{pos:Pos}
theorem EN.rebase {Ow:Addr->Prop}{σ:St}{env:Env}{H H':Hp}{a:Addr}{cs cs':List Addr}{yss yss':List (List PV)}(E:EN b Ow G i σ env H a cs yss) (sub:∀ x∈cs,x∈cs') (hx:∀ x o,H x=some o->x∉a::cs'->H' x=some o) (hnew:∀ x∈a::cs',x∉a::cs->H x=none)
  (nd':(a::cs').Nodup) (nw':∀ x∈a::cs',b.H0 x=none) (top':H' a=some (.lst (cs'.map V.ref))) (inn':Inn b.C (KN b Ow a cs') H' cs' yss'):
  EN b Ow G i σ (env.set i (some (.lst (yss'.map PV.lst)))) H' a cs' yss'/\Ex (KN b Ow a cs) H (KN b Ow a cs') H':=by
 have lv':∀ x∈a::cs',∃ o,H' x=some o:=λx hx'=>by
  rcases List.mem_cons.mp hx' with z | z
  ·subst z;exact⟨_,top'⟩
  ·obtain⟨us,q⟩:=inn'.live x z;exact⟨_,q⟩
 have sub':∀ x∈a::cs,x∈a::cs':=λx hx'=>by
  rcases List.mem_cons.mp hx' with z | z
  ·rw[z];exact List.mem_cons_self
  ·exact List.mem_cons_of_mem _ (sub x z)
 have no:=E.not_ow
 have no':∀ x∈a::cs',¬ Ow x:=λx hx' w=>by
  by_cases z:x∈a::cs
  ·exact no x z w
  ·obtain⟨o,q⟩:=E.er.live x w
   rw[hnew x hx' z] at q;cases q
 have mutN:∀ x∈a::cs,∃ us,H x=some (.lst us):=λx hx'=>by
  rcases List.mem_cons.mp hx' with z | z
  ·subst z;exact⟨_,E.top⟩
  ·exact E.inn.live x z
 have out:∀ x o,H x=some o->x∉a::cs->x∉a::cs':=λx o q z y=>by rw[hnew x y z] at q;cases q
 have xk:Ex (KN b Ow a cs) H (KN b Ow a cs') H':=λc o hc=>⟨λq=>⟨hx c o hc (out c o hc q.2),q.1,out c o hc q.2⟩,λmm=>hx c o hc (out c o hc λz=>by
  obtain⟨us,q⟩:=mutN c z
  rw[hc] at q;cases q;cases mm)⟩
 have xb:Ex (Bs (bn b i a cs H) Ow) H (Bs (bn b i a cs' H') Ow) H':=λc o hc=>⟨λq=>by
  obtain⟨z1,z2⟩:=(xk c o hc).1 ((je E.live).mp q)
  exact⟨z1,(je lv').mpr z2⟩,(xk c o hc).2⟩
 have hl:i < env.length:=by
  rcases Nat.lt_or_ge i env.length with z | z
  ·exact z
  ·have:=E.val;rw[List.getElem?_eq_none z] at this;cases this
 refine⟨⟨by rw[List.getElem?_set_self hl],top',nd',nw',inn',?_⟩,xk⟩
 rw[List.set_set]
 refine⟨E.er.len,λc o hc=>?_,λc w=>?_,λc w=>?_,λj q eq n=>?_,λj q eq n=>?_,E.er.sep,E.er.fix⟩
 ·have hc':(if c∈a::cs' then H' c else b.H0 c)=some o:=hc
  by_cases z:c∈a::cs'
  ·rw[if_pos z] at hc';exact hc'
  ·rw[if_neg z] at hc'
   refine hx c o (E.er.same c o ?_) z
   show (if c∈a::cs then H c else b.H0 c)=some o
   rw[if_neg λy=>z (sub' c y)];exact hc'
 ·obtain⟨o,q⟩:=E.er.live c w
  exact⟨o,hx c o q λz=>no' c z w⟩
 ·show (if c∈a::cs' then H' c else b.H0 c)=none
  rw[if_neg λz=>no' c z w]
  have q:=E.er.new c w
  have q':(if c∈a::cs then H c else b.H0 c)=none:=q
  rw[if_neg λz=>no c z w] at q'
  exact q'
 ·obtain⟨v,z1,z2⟩:=E.er.val j q eq n
  exact⟨v,z1,z2.ex xb⟩
 ·obtain⟨c,z1,z2,z3⟩:=E.er.own j q eq n
  exact⟨c,z1,z2,z3.ex xb λo y=>hx c o y λz=>no' c z z2⟩
theorem Bx {n:Nat}{k:Int}{j:Nat}(h:ixN n k=some j):j < n:=by
 unfold ixN at h
 split at h
 ·split at h
  ·cases h;omega
  ·cases h
 ·split at h
  ·cases h;omega
  ·cases h
theorem Np (i:Nat){x:Str}{p1 spos apos cpos:Pos}(he1:∀ a cs H,SE X (bn b i a cs H) G m1 e1 h1) (he2:∀ a cs H,SE X (bn b i a cs H) G .val e2 h2) (hN:X.N[i]?=some x:=by rfl) (hv:Vis X.env.scope x:=by first | exact Or.inl rfl | exact Or.inr (Or.inl rfl) | exact Or.inr (Or.inr rfl)) (hd:(x == ("__debug__" : Str))=false:=by decide)
  (hcd:(x == ("__classdict__" : Str))=false:=by decide) (hpi:sH e1:=by intro _ _;rfl) (hbase:attributeBase (.Subscript (.Name x p1) e1 spos) "append" X.env (eval (.Subscript (.Name x p1) e1 spos) X.env)=eval (.Subscript (.Name x p1) e1 spos) X.env:=by rfl)
  (hfew:((backTo cpos (starEach [e2] X.env)).all (λx=>!x.1)&&(backToKw cpos (keywordEach [] X.env)).all (λx=>x.1.isSome)
   && decide ([e2].length+([]:List Keyword).length+(if ([]:List Keyword).isEmpty then 0 else 1) < 30))=true:=by rfl)
  (hline:(apos.endLine == cpos.line)=true:=by rfl) (hs:starEach [e2] X.env=(false,eval e2 X.env)::starEach [] X.env:=by rfl) (hK:X.K=b.C.K:=by rfl):
  NS X b G i (.Expr (.Call (.Attribute (.Subscript (.Name x p1) e1 spos) "append" apos) [e2] [] cpos) pos) (El i h1 h2):=by
 rintro pins s σ H D I ⟨Ow,env,a,cs,yss,env',E,hf,kk⟩
 obtain⟨px,hpx,z1⟩:=aD hf
 clear hf
 obtain⟨pk,hpk,z2⟩:=aD z1
 clear z1
 obtain⟨p,hp,z3⟩:=aD z2
 clear z2
 obtain⟨y,hy,z4⟩:=aD z3
 clear z3
 cases z4
 have hpx':=kW hpx
 rw[E.val] at hpx'
 cases hpx'
 cases pk <;> simp only[apV] at hy <;> first | cases hy | skip
 rename_i k
 obtain⟨j,hj,z5⟩:=aD hy
 clear hy
 obtain⟨w,hw,z6⟩:=aD z5
 clear z5
 rw[List.getElem?_map] at hw
 obtain⟨ys,hys,rfl⟩:=Option.map_eq_some_iff.mp hw
 simp only at z6
 split at z6
 ·rename_i hlt
  cases z6
  obtain⟨c,us,hc,hHc,hr⟩:=E.inn.get hys
  have hcm:c∈cs:=List.mem_of_getElem? hc
  have hat:atI (cs.map V.ref) k=some (.ref c):=by
   unfold atI
   rw[List.length_map] at hj ⊢
   rw[E.inn.length,hj]
   simp[hc]
  refine sE (yR PySem.F.plainAttrs_list PySem.F.slot_list_append PySem.F.type_list_append oH (Gs (r:=Dw X.K) ix_list (eY hN hv hd hcd) ((he1 a cs H).bor) hpi) (b7 (he2 a cs H) dR hs) hbase hfew hline hs rfl) rfl pins s σ H D I ?_
  refine⟨_,E.slot,Ow,env.set i none,.int k,E.er,hpk,λv H1 s1 r1=>?_⟩
  refine⟨a,_,k,_,rfl,RepB.int r1,SqL.of (s1 _ _ E.top),hat,.inl ⟨rfl,_,SqL.of (s1 _ _ hHc)⟩,Ow,env.set i none,p,E.er.up s1,hp,λv2 H2 s2 r2=>?_⟩
  have hHc2:=s2 _ _ (s1 _ _ hHc)
  refine⟨c,us,v2,rfl,rfl,hHc2,pL (by rw[hr.length];omega),?_⟩
  have E2:=E.up (s1.trans s2)
  have hac:a≠c:=λz=>(List.nodup_cons.mp E.nd).1 (z▸hcm)
  have ndc:=(List.nodup_cons.mp E.nd).2
  have xc:Ex (KN b Ow a cs) H2 (KN b Ow a cs) (upd H2 c (.lst (us++[v2]))):=λd o hd=>⟨λq=>⟨by rw[aH (λz:d=c=>q.2 (z▸List.mem_cons_of_mem _ hcm))];exact hd,q⟩,λmm=>by
   have hdc:d≠c:=λz=>by subst z;rw[hHc2] at hd;cases hd;cases mm
   rw[aH hdc];exact hd⟩
  have rr:Reps b.C (KN b Ow a cs) H2 (us++[v2]) (ys++[p]):=by
   have r2':Rep b.C (Bs (bn b i a cs H) Ow) H2 v2 p:=r2
   exact((hr.ex (.of_same (s1.trans s2)))).append (.cons (r2'.ex (dH λc o _ q=>(je E.live).mp q)) .nil)
  have inn':=Inn.set xc (rr.ex xc) ndc hc bf (λz hz hne=>aH hne) E2.inn
  obtain⟨E3,x3⟩:=E2.rebase (cs':=cs) (H':=upd H2 c (.lst (us++[v2]))) (λ_ z=>z) (λz o hz hn=>by rw[aH (λq:z=c=>hn (q▸List.mem_cons_of_mem _ hcm))];exact hz) (λz h1 h2=>absurd h1 h2) E.nd E.new (by rw[aH hac];exact E2.top) inn'
  rw[List.map_set] at E3
  exact kk Ow σ _ cs _ E3 (λ_ z=>z) ((Ex.of_same (s1.trans s2)).trans x3)
 ·cases z6
end
end MR
namespace MR
open PySem L2
def tEm:Nat->TA
 | 0=>Dq
 | n+1=>Gn (JQ Dq) (tEm n)
theorem ym:∀ (n:Nat){σ:St}{H:Hp}{Q:List V->Hp->Prop},(∀ (cs:List Addr) (H2:Hp),cs.length=n->cs.Nodup->(∀ c∈cs,H c=none/\H2 c=some (.lst []))->(∀ x,x∉cs->H2 x=H x)->Q (cs.map V.ref) H2)->tEm n σ H Q
 | 0,σ,H,Q,h=>h [] H rfl .nil (λc hc=>by cases hc) λ_ _=>rfl
 | n+1,σ,H,Q,h=>by
  refine⟨Nat.zero_le _,λp hp=>?_⟩
  refine ym n λcs H2 hl nd hc ho=>?_
  have np:p∉cs:=λz=>by
   have:=(hc p z).1
   rw[bf] at this;cases this
  refine h (p::cs) H2 (by rw[List.length_cons,hl]) (List.nodup_cons.mpr ⟨np,nd⟩) (λc hcm=>?_) λx hx=>?_
  ·rcases List.mem_cons.mp hcm with z | z
   ·subst z;exact⟨hp,by rw[ho c np,bf]⟩
   ·have hne:c≠p:=λq=>np (q▸z)
    refine⟨?_,(hc c z).2⟩
    have:=(hc c z).1
    rw[aH hne] at this
    exact this
  ·rw[List.mem_cons,not_or] at hx
   rw[ho x hx.2,aH hx.1]
noncomputable def u_ (i n:Nat) (env:Env):Option Out:=if i < env.length/\n<=1000 then some (.nx (env.set i (some (.lst (List.replicate n (.lst [])))))) else none
@[simp] theorem Em (i n:Nat) (env:Env):u_ i n env=if i < env.length/\n<=1000 then some (.nx (env.set i (some (.lst (List.replicate n (.lst [])))))) else none:=id rfl
section
variable {X:Cx}{b:BX}{G G' L:List Nat}{ro:Bool}{i n:Nat}{st:Stmt}{es:List Expr}{rest:List Stmt}{f g:Env->Option Out}{e e1 e2:Expr}{h h1 h2:Env->Option PV}{m m1 m2:Md}{pos:Pos}
theorem K4:PA X [] (tEm 0):=dR
theorem sZ {p:Pos}(hr:PA X es (tEm n)) (hs:starEach (.List [] p::es) X.env=(false,eval (.List [] p) X.env)::starEach es X.env:=by rfl):PA X (.List [] p::es) (tEm (n+1)):=b7 (vy dR) hr hs
def tNi (b:BX) (G:List Nat) (i:Nat) (f:Env->Option Out):TS:=λD σ H=>∃ Ow env env',ER b Ow G σ env H/\f env=some (.nx env') /\
 ∀ σ' H' a cs yss,EN b Ow G i σ' env' H' a cs yss->Ex (Bs b Ow) H (KN b Ow a cs) H'->D.nx σ' H'
theorem EN.start {Ow:Addr->Prop}{σ:St}{env:Env}{H H2:Hp}{a:Addr}{cs:List Addr}(E:ER b Ow G σ env H) (hl:i < env.length) (nd:cs.Nodup) (hc:∀ c∈cs,H c=none/\H2 c=some (.lst [])) (ho:∀ x,x∉cs->H2 x=H x) (ha:H2 a=none) (hG:i∉G) (hxi:b.fx i=none):
  EN b Ow G i (σ.set i (some (.ref a))) (env.set i (some (.lst (List.replicate cs.length (.lst []))))) (upd H2 a (.lst (cs.map V.ref))) a cs (List.replicate cs.length [])/\Ex (Bs b Ow) H (KN b Ow a cs) (upd H2 a (.lst (cs.map V.ref))):=by
 have nac:a∉cs:=λz=>by rw[(hc a z).2] at ha;cases ha
 have hHa:H a=none:=by rw[← ho a nac];exact ha
 have hnone:∀ x∈a::cs,H x=none:=λx hx=>by
  rcases List.mem_cons.mp hx with z | z
  ·rw[z];exact hHa
  ·exact(hc x z).1
 have st:∀ x o,H x=some o->(upd H2 a (.lst (cs.map V.ref))) x=some o:=λx o q=>by
  have z:x∉a::cs:=λy=>by rw[hnone x y] at q;cases q
  rw[List.mem_cons,not_or] at z
  rw[aH z.1,ho x z.2];exact q
 have lv':∀ x∈a::cs,∃ o,(upd H2 a (.lst (cs.map V.ref))) x=some o:=λx hx=>by
  rcases List.mem_cons.mp hx with z | z
  ·rw[z];exact⟨_,bf⟩
  ·rw[aH (λq:x=a=>nac (q▸z))];exact⟨_,(hc x z).2⟩
 have xk:Ex (Bs b Ow) H (KN b Ow a cs) (upd H2 a (.lst (cs.map V.ref))):=λc o q=>⟨λw=>⟨st c o q,w,λy=>by rw[hnone c y] at q;cases q⟩,λ_=>st c o q⟩
 have xb:Ex (Bs b Ow) H (Bs (bn b i a cs (upd H2 a (.lst (cs.map V.ref)))) Ow) (upd H2 a (.lst (cs.map V.ref))):=λc o q=>⟨λw=>⟨st c o q,(je lv').mpr ((xk c o q).1 w).2⟩,λ_=>st c o q⟩
 have nw:∀ x∈a::cs,b.H0 x=none:=λx hx=>E.same.free (hnone x hx)
 have now:∀ x∈a::cs,¬ Ow x:=λx hx w=>by obtain⟨o,q⟩:=E.live x w;rw[hnone x hx] at q;cases q
 have inn:∀ ds:List Addr,(∀ c∈ds,c∈cs)->Inn b.C (KN b Ow a cs) (upd H2 a (.lst (cs.map V.ref))) ds (List.replicate ds.length []):=λds=>by
  induction ds with
  | nil=>exact λ_=>.nil
  | cons d ds ih=>
   intro hd
   have hdc:=hd d List.mem_cons_self
   exact .cons (by rw[aH (λq:d=a=>nac (q▸hdc))];exact(hc d hdc).2) .nil (ih λc z=>hd c (List.mem_cons_of_mem _ z))
 have back:∀ {j:Nat}{q:PV},(env.set i none)[j]?=some (some q)->i≠j/\env[j]?=some (some q):=λ{j q} e=>by
  by_cases hj:i=j
  ·subst hj
   rw[List.getElem?_set_self hl] at e;cases e
  ·rw[List.getElem?_set_ne hj] at e;exact⟨hj,e⟩
 refine⟨⟨by rw[List.getElem?_set_self hl,List.map_replicate],bf,List.nodup_cons.mpr ⟨nac,nd⟩,nw,inn cs λ_ z=>z,?_⟩,xk⟩
 rw[List.set_set]
 refine⟨by rw[List.length_set,List.length_set];exact E.len,λc o q=>?_,λc w=>?_,λc w=>?_,λj q e n=>?_,λj q e n=>?_,λj k c q q' e1 n1 s1 e2 n2 s2=>?_,λk v hv=>?_⟩
 ·have q':(if c∈a::cs then (upd H2 a (.lst (cs.map V.ref))) c else b.H0 c)=some o:=q
  by_cases z:c∈a::cs
  ·rw[if_pos z] at q';exact q'
  ·rw[if_neg z] at q';exact st c o (E.same c o q')
 ·obtain⟨o,q⟩:=E.live c w
  exact⟨o,st c o q⟩
 ·show (if c∈a::cs then (upd H2 a (.lst (cs.map V.ref))) c else b.H0 c)=none
  rw[if_neg λz=>now c z w];exact E.new c w
 ·obtain⟨hj,e'⟩:=back e
  obtain⟨v,z1,z2⟩:=E.val j q e' n
  exact⟨v,by rw[List.getElem?_set_ne hj];exact z1,z2.ex xb⟩
 ·obtain⟨hj,e'⟩:=back e
  obtain⟨c,z1,z2,z3⟩:=E.own j q e' n
  exact⟨c,by rw[List.getElem?_set_ne hj];exact z1,z2,z3.ex xb λo y=>st c o y⟩
 ·obtain⟨hj,e1'⟩:=back e1
  obtain⟨hk,e2'⟩:=back e2
  rw[List.getElem?_set_ne hj] at s1
  rw[List.getElem?_set_ne hk] at s2
  exact E.sep j k c q q' e1' n1 s1 e2' n2 s2
 ·have hv':(if k=i then some (V.ref a) else b.fx k)=some v:=hv
  by_cases hk:k=i
  ·rw[if_pos hk] at hv'
   cases hv'
   rw[hk,List.getElem?_set_self (by rw[E.len];exact hl)]
  ·rw[if_neg hk] at hv'
   rw[List.getElem?_set_ne (Ne.symm hk)]
   exact E.fix k v hv'
theorem K5 (i:Nat){x:Str}{pos' lpos:Pos}(nd:X.N.Nodup) (he:PA X es (tEm n)) (hG:i∉G:=by decide) (hx:b.fx i=none:=by first | rfl | assumption) (hi:X.N[i]?=some x:=by rfl) (hl:Loc X.env.scope x:=by first | exact Or.inl rfl | exact Or.inr rfl)
  (hs:swapsWith (.List es lpos) (some (.Name x pos')) pos.line X.env=pure false:=by rfl) (hf:X.fn x=true\/X.env.scope.names.lookup x=some .local:=by first | exact .inl rfl | exact .inr rfl | assumption):PS X (.Assign [.Name x pos'] (.List es lpos) pos) (tNi b G i (u_ i n)):=
 PS.imp (qU nd hi hl (vy he) hs hf)<|by
  rintro D σ H ⟨Ow,env,env',E,hz,k⟩
  rw[Em] at hz
  split at hz
  ·rename_i hle
   cases hz
   refine ym n λcs H2 hlen nd hc ho=>⟨iT (by rw[List.length_map];omega),λa ha=>?_⟩
   obtain⟨E1,x1⟩:=EN.start E hle.1 nd hc ho ha hG hx
   rw[hlen] at E1
   exact k _ _ a cs _ E1 x1
  ·cases hz
def PostK (b:BX) (A:Addr->Prop) (H:Hp) (G L:List Nat) (ro:Bool) (D:Ends):Out->Prop
 | .nx e=>∀ Ow' σ' H',ER b Ow' G σ' e H'->Ex A H (Bs b Ow') H'->D.nx σ' H'
 | .bk e=>∀ Ow' σ' H',ER b Ow' L σ' e H'->Ex A H (Bs b Ow') H'->D.bk σ' H'
 | .ct e=>∀ Ow' σ' H',ER b Ow' L σ' e H'->Ex A H (Bs b Ow') H'->D.ct σ' H'
 | .rt p=>∀ v H',Same b.H0 H'->Ret b.C b.A b.H0 ro H' v p->D.rt v H'
def tNX (b:BX) (G G' L:List Nat) (ro:Bool) (i:Nat) (f:Env->Option Out):TS:=λD σ H=>∃ Ow env a cs yss out,EN b Ow G i σ env H a cs yss/\f env=some out/\PostK b (KN b Ow a cs) H G' L ro D out
abbrev NXs (X:Cx) (b:BX) (G G' L:List Nat) (ro:Bool) (i:Nat) (st:List Stmt) (f:Env->Option Out):Prop:=PSs X st (tNX b G G' L ro i f)
theorem PostK.ex {A A':Addr->Prop}{H H':Hp}{D:Ends}{o:Out}(e:Ex A H A' H') (p:PostK b A H G L ro D o):PostK b A' H' G L ro D o:=by
 cases o with
 | nx e'=>exact λOw' σ' H2 E x=>p Ow' σ' H2 E (e.trans x)
 | bk e'=>exact λOw' σ' H2 E x=>p Ow' σ' H2 E (e.trans x)
 | ct e'=>exact λOw' σ' H2 E x=>p Ow' σ' H2 E (e.trans x)
 | rt p'=>exact p
theorem HB (c:SSs X b G G' L ro rest g) (hG:i∉G:=by decide) (hx:b.fx i=none:=by first | rfl | assumption):NXs X b G G' L ro i rest g:=PSs.imp c<|by
 rintro D σ H ⟨Ow,env,a,cs,yss,out,E,hf,k⟩
 refine⟨Ow,env,out,E.out hG hx,hf,?_⟩
 have w:Ex (KN b Ow a cs) H (Bs b Ow) H:=dH λc o _ q=>q.1
 have k':=PostK.ex w k
 cases out with
 | nx e'=>exact k'
 | bk e'=>exact k'
 | ct e'=>exact k'
 | rt p'=>exact k'
theorem tu (x:NS X b G i st f) (c:NXs X b G G' L ro i rest g):NXs X b G G' L ro i (st::rest) (aG (onx f) g):=PSs.imp (gK x c)<|by
 rintro D σ H ⟨Ow,env,a,cs,yss,out,E,hf,k⟩
 unfold aG at hf
 obtain⟨o,ho,hz⟩:=aD hf
 obtain⟨o',ho',hz'⟩:=aD ho
 cases o' with
 | nx e'=>
  cases hz'
  exact⟨Ow,env,a,cs,yss,e',E,ho',λOw1 σ1 H1 cs1 yss1 E1 s1 x1=>⟨Ow1,e',a,cs1,yss1,out,E1,hz,k.ex x1⟩⟩
 | bk e'=>cases hz'
 | ct e'=>cases hz'
 | rt p'=>cases hz'
theorem HF (x:PS X st (tNi b G i f)) (c:NXs X b G G' L ro i rest g):SSs X b G G' L ro (st::rest) (aG (onx f) g):=PSs.imp (gK x c)<|by
 rintro D σ H ⟨Ow,env,out,E,hf,k⟩
 unfold aG at hf
 obtain⟨o,ho,hz⟩:=aD hf
 obtain⟨o',ho',hz'⟩:=aD ho
 cases o' with
 | nx e'=>
  cases hz'
  refine⟨Ow,env,e',E,ho',fun σ1 H1 a cs yss E1 x1=>⟨Ow,e',a,cs,yss,out,E1,hz,?_⟩⟩
  cases out with
  | nx e''=>exact λOw' σ' H2 E2 x2=>k Ow' σ' H2 E2 (x1.trans x2)
  | bk e''=>exact λOw' σ' H2 E2 x2=>k Ow' σ' H2 E2 (x1.trans x2)
  | ct e''=>exact λOw' σ' H2 E2 x2=>k Ow' σ' H2 E2 (x1.trans x2)
  | rt p'=>exact k
 | bk e'=>cases hz'
 | ct e'=>cases hz'
 | rt p'=>cases hz'
end
end MR
namespace MR
open PySem L2
section
variable {X:Cx}{b:BX}{G G' L:List Nat}{pos:Pos}
end
end MR
namespace MR
open PySem L2
section
variable {X:Cx}{b:BX}{G G' L:List Nat}{ro:Bool}{i:Nat}{st:Stmt}{rest:List Stmt}{f g:Env->Option Out}{e e1 e2:Expr}{h h1 h2:Env->Option PV}{m m1 m2:Md}{pos:Pos}
variable {Ow Ow':Addr->Prop}{σ σ':St}{env env':Env}{H H':Hp}{j:Nat}{a:Addr}
end
end MR
namespace MR
open PySem L2
section
variable {X:Cx}{b:BX}{G G' L:List Nat}{ro:Bool}{i:Nat}{st:Stmt}{rest:List Stmt}{f g:Env->Option Out}{e e1 e2:Expr}{h h1 h2:Env->Option PV}{m m1 m2:Md}{pos:Pos}
end
end MR
namespace MR
open PySem L2
section
variable {X:Cx}{b:BX}{G:List Nat}{pos p p2 pos2:Pos}{m1 m2:Md}{e1 e2:Expr}{f1 f2:Env->Option PV}
end
end MR
namespace MR
open PySem L2
@[simp] noncomputable def QZ:PV->PV->PV->Option PV
 | .dK kvs,y,z=>(keyOf y).map λk=>(ju kvs k).getD z
 | .dT kvs,.tup ys,z=>(keysB ys).map λk=>(ju kvs k).getD z
 | _,_,_=>none
section
variable {X:Cx}{b:BX}{G:List Nat}{apos cpos:Pos}{m1 m2:Md}{e1 e2 e3:Expr}{f1 f2 f3:Env->Option PV}
end
end MR
namespace MR
open PySem L2
def numT:List (Str×Int):=[("0",0),("1",1),("2",2),("3",3),("4",4),("5",5),("6",6),("7",7),("8",8),("9",9),("10",10),("11",11),("12",12),("13",13)]
def numOf (x:Str):Option Int:=(numT.find? λz=>decide (z.1=x)).map λz=>z.2
def km (i:Int):Option Str:=(numT.find? λz=>decide (z.2=i)).map λz=>z.1
@[simp] def kE:PV->Option PV
 | .int i=>some (.int i)
 | .bl k=>some (.int (if k then 1 else 0))
 | .str x=>(numOf x).map .int
 | _=>none
@[simp] def jM:PV->Option PV
 | .int i=>(km i).map .str
 | .str x=>some (.str x)
 | _=>none
@[simp] def v9:PV->Option PV
 | .str x=>if x = "abcdefghijklmnopqrstuvwxyz" then some (.str "ABCDEFGHIJKLMNOPQRSTUVWXYZ") else none
 | _=>none
theorem yo:∀ z∈numT,PySem.intText? z.1=some z.2/\z.1.length<=640/\z.2.natAbs.log2 < 1920/\(toString z.2:Str)=z.1:=by
 decide +kernel
theorem En {x:Str}{i:Int}(h:numOf x=some i):PySem.intText? x=some i/\x.length<=640:=by
 unfold numOf at h
 obtain⟨z,h1,h2⟩:=Option.map_eq_some_iff.mp h
 have hm:=List.mem_of_find?_eq_some h1
 have he:=List.find?_some h1
 have he':z.1=x:=of_decide_eq_true he
 obtain⟨k1,k2,_⟩:=yo z hm
 subst he'
 subst h2
 exact⟨k1,k2⟩
theorem Eo {x:Str}{i:Int}(h:km i=some x):i.natAbs.log2 < 1920/\(toString i:Str)=x:=by
 unfold km at h
 obtain⟨z,h1,h2⟩:=Option.map_eq_some_iff.mp h
 have hm:=List.mem_of_find?_eq_some h1
 have he:=List.find?_some h1
 have he':z.2=i:=of_decide_eq_true he
 obtain⟨_,_,k1,k2⟩:=yo z hm
 subst he'
 subst h2
 exact⟨k1,k2⟩
section
variable {X:Cx}{b:BX}{G:List Nat}{p pos:Pos}{m1:Md}{e:Expr}{f:Env->Option PV}
theorem By:CallR X (.type "int") (λxs H Q=>(∃ i,xs=[.int i]/\Q (.int i) H)\/(∃ k,xs=[.bl k]/\Q (.int (if k then 1 else 0)) H)\/∃ x i,xs=[.str x]/\PySem.intText? x=some i/\x.length<=640/\Q (.int i) H):=by
 intro pins s σ H xs us Q I r h
 rcases h with h | h | ⟨x,i,rfl,h1,h2,q⟩
 ·exact uq pins s σ H xs us Q I r (.inl h)
 ·exact uq pins s σ H xs us Q I r (.inr h)
 ·obtain⟨u,rfl,t,rfl⟩:=vals1 r
  exact PySem.W.KIN.call_text h1 h2 ⟨.int i,H,I.tok _,⟨_,rfl⟩,q⟩
theorem kZ (hm:X.mg "int" = none) (h:SE X b G m1 e f) (hg:Gl X "int" := by rfl) (he:starEach [e] X.env=(false,eval e X.env)::starEach [] X.env:=by rfl):SE X b G .val (.Call (.Name "int" p) [e] [] pos) (b1 kE f):=by
 refine sU By (λOw H v1 p1 p Q hn r1 e k=>?_) hm PyProof.Rows.boot_int h hg (by decide) (by decide) he
 unfold kE at e
 split at e
 ·cases e;rw[r1.int];exact .inl ⟨_,rfl,k _ H (Same.refl _) (.int _)⟩
 ·cases e;rw[r1.bl];exact .inr (.inl ⟨_,rfl,k _ H (Same.refl _) (.int _)⟩)
 ·obtain⟨i,h1,h2⟩:=Option.map_eq_some_iff.mp e
  obtain⟨k1,k2⟩:=En h1
  subst h2
  rw[r1.str];exact .inr (.inr ⟨_,_,rfl,k1,k2,k _ H (Same.refl _) (.int _)⟩)
 ·cases e
theorem BJ:CallR X (.type "str") (λxs H Q=>(∃ i,xs=[.int i]/\i.natAbs.log2 < 1920/\Q (.str (toString i)) H)\/∃ x,xs=[.str x]/\Q (.str x) H):=by
 intro pins s σ H xs us Q I r h
 rcases h with h | ⟨x,rfl,q⟩
 ·exact vq pins s σ H xs us Q I r h
 ·obtain⟨u,rfl,t,rfl⟩:=vals1 r
  exact PySem.P.str_of_str ⟨.str x,H,I,⟨_,rfl⟩,q⟩
theorem pQ (hm:X.mg "str" = none) (h:SE X b G m1 e f) (hg:Gl X "str" := by rfl) (he:starEach [e] X.env=(false,eval e X.env)::starEach [] X.env:=by rfl):SE X b G .val (.Call (.Name "str" p) [e] [] pos) (b1 jM f):=by
 refine sU BJ (λOw H v1 p1 p Q hn r1 e k=>?_) hm PyProof.Rows.boot_str h hg (by decide) (by decide) he
 unfold jM at e
 split at e
 ·obtain⟨x,h1,h2⟩:=Option.map_eq_some_iff.mp e
  obtain⟨k1,k2⟩:=Eo h1
  subst h2
  rw[r1.int];exact .inl ⟨_,rfl,k1,by rw[k2];exact k _ H (Same.refl _) (.str _)⟩
 ·cases e;rw[r1.str];exact .inr ⟨_,rfl,k _ H (Same.refl _) (.str _)⟩
 ·cases e
theorem Ep:Txt.upper "abcdefghijklmnopqrstuvwxyz" = "ABCDEFGHIJKLMNOPQRSTUVWXYZ" := by decide +kernel
def rUp (x:V) (xs:List V) (H:Hp) (Q:VK):Prop:=x=.str "abcdefghijklmnopqrstuvwxyz" /\ xs=[]/\Q (.str "ABCDEFGHIJKLMNOPQRSTUVWXYZ") H
theorem Es:MtR X "str.upper" rUp:=by
 intro pins s σ H x vs v us Q I rx rv h
 obtain⟨rfl,rfl,q⟩:=h
 obtain⟨t,rfl⟩:=rx
 cases rv
 have hfit:Builtin.Str.tooLong (Txt.upper "abcdefghijklmnopqrstuvwxyz").length=false:=by decide +kernel
 have hz:EP X pins σ Q (.str (Txt.upper "abcdefghijklmnopqrstuvwxyz") s.toks) { s with toks:=s.toks+1 }:=by
  rw[Ep]
  exact⟨.str _,H,I.tok _,⟨_,rfl⟩,q⟩
 exact call_gives F.slot_str_upper (typeIs_str _ _ _) F.entry_str_upper (F.args_str_upper_1 _) (gives_str_upper _ t hfit) ⟨fit_le hfit,hz⟩
theorem Et {apos cpos:Pos}(h:SE X b G m1 e f) (hbase:attributeBase e "upper" X.env (eval e X.env)=eval e X.env:=by rfl) (hline:(apos.endLine == cpos.line)=true:=by rfl):
  SE X b G .val (.Call (.Attribute e "upper" apos) [] [] cpos) (b1 v9 f):=by
 refine PE.imp (J4 PySem.F.plainAttrs_str PySem.F.slot_str_upper PySem.F.type_str_upper Es h.bor hbase hline) fun σ H Q h=>?_
 obtain⟨Ow,env,p,E,hf,k⟩:=h
 obtain⟨p1,q1,hf⟩:=aD hf
 unfold v9 at hf
 split at hf
 ·split at hf
  ·rename_i z hz
   subst hz
   cases hf
   refine⟨Ow,env,_,E,q1,λv1 H1 s1 r1=>?_⟩
   have r1':RepB b.C (Bs b Ow) H1 v1 (.str "abcdefghijklmnopqrstuvwxyz"):=r1
   have ev:=r1'.str
   subst ev
   exact⟨rfl,rfl,rfl,k _ H1 s1 (.str _)⟩
  ·cases hf
 ·cases hf
end
end MR
namespace L2
open PySem PySem.Spec PyProof PyProof.Rows
section
variable {X:Cx}
end
end L2
namespace MR
open PySem L2
section
variable {X:Cx}{b:BX}{G:List Nat}{pos p:Pos}{m1:Md}{e:Expr}{f:Env->Option PV}
end
end MR
namespace MR
open PySem L2
@[simp] noncomputable def Q0:PV->PV->Option PV
 | .lst xs,.lst ys=>if ys.length=xs.length then some (.lst (List.zipWith (λa c=>.tup [a,c]) xs ys)) else none
 | _,_=>none
@[simp] noncomputable def Q3:PV->PV->Option PV
 | .tup ys,v=>if cN v=true then (keysB ys).map λk=>.dT [(k,v)] else none
 | .ktp ys,v=>if cN v=true then (keysB ys).map λk=>.dT [(k,v)] else none
 | _,_=>none
def kP:Key->PV
 | .inl i=>.int i
 | .inr x=>.str x
@[simp] noncomputable def Gy:PV->Option (List PV)
 | .dT kvs=>if (kvs.all λkv=>kv.1.length != 2)=true then some (kvs.map λkv=>.tup (kv.1.map kP)) else none
 | _=>none
noncomputable def iK (f:Env->Option PV) (env:Env):Option (List PV):=(f env).bind Gy
@[simp] theorem Q4 (f:Env->Option PV) (env:Env):iK f env=((f env).bind Gy):=id rfl
@[simp] noncomputable def Q5:PV->PV->PV->Option PV
 | .dT kvs,.ktp ys,z=>(keysB ys).map λk=>(ju kvs k).getD z
 | _,_,_=>none
section
variable {X:Cx}{b:BX}{G:List Nat}{apos cpos p p2 pos pos2:Pos}{m m1 m2:Md}{e e1 e2 e3:Expr}{f f1 f2 f3:Env->Option PV}
end
end MR
namespace MR
open PySem L2
def asL:List PV->Option (List (List PV))
 | []=>some []
 | .lst ys::r=>(asL r).map λl=>ys::l
 | _=>none
section
variable {X:Cx}{b:BX}{G G' G1 L:List Nat}{ro:Bool}{i j n:Nat}{st s1 s2:Stmt}{es:List Expr}{rest:List Stmt}{f g f1 f2:Env->Option Out}{e e1 e2 e3:Expr}{h h1 h2 h3:Env->Option PV}{m m1 m2:Md}{pos:Pos}
def Nq (i j:Nat) (f1 f2:Env->Option Out) (env:Env):Option Out:=(f1 (env.set i none)).bind λo1=>match o1 with
 | .nx e1=>(f2 e1).bind λo2=>match o2 with
  | .nx e2=>(bV j e2).bind λy=>(bV i env).bind λx=>match y,x with
   | .lst ys,.lst ws=>if ws.length < 1000000 then some (.nx ((e2.set j none).set i (some (.lst (ws++[.lst ys]))))) else none
   | _,_=>none
  | _=>none
 | _=>none
@[simp] theorem O_ (i j:Nat) (f1 f2:Env->Option Out) (env:Env):Nq i j f1 f2 env=((f1 (env.set i none)).bind λo1=>match o1 with
 | .nx e1=>(f2 e1).bind λo2=>match o2 with
  | .nx e2=>(bV j e2).bind λy=>(bV i env).bind λx=>match y,x with
   | .lst ys,.lst ws=>if ws.length < 1000000 then some (.nx ((e2.set j none).set i (some (.lst (ws++[.lst ys]))))) else none
   | _,_=>none
  | _=>none
 | _=>none):=id rfl
theorem EN.same {Ow:Addr->Prop}{σ:St}{env:Env}{H:Hp}{a:Addr}{cs:List Addr}{yss:List (List PV)}(E:EN b Ow G i σ env H a cs yss):Same b.H0 H:=λc o q=>E.er.same c o (by
 show (if c∈a::cs then H c else b.H0 c)=some o
 rw[if_neg λz=>by rw[E.new c z] at q;cases q];exact q)
def Nr (i:Nat) (mi:List PV->Option PV) (ga:Env->Option (List PV)) (env:Env):Option Out:=(ga env).bind λqs=>(mi qs).bind λp=>match p with
 | .lst ws=>(asL ws).bind λ_=>if i < env.length then some (.nx (env.set i (some (.lst ws)))) else none
 | _=>none
@[simp] theorem Pa (i:Nat) (mi:List PV->Option PV) (ga:Env->Option (List PV)) (env:Env):Nr i mi ga env=((ga env).bind λqs=>(mi qs).bind λp=>match p with
 | .lst ws=>(asL ws).bind λ_=>if i < env.length then some (.nx (env.set i (some (.lst ws)))) else none
 | _=>none):=id rfl
end
end MR
namespace MR
open PySem L2
section
variable {X:Cx}{b:BX}{G G' L:List Nat}{i j:Nat}{e1 e2 e3:Expr}{h1 h2 h3:Env->Option PV}{pos pos2:Pos}
@[simp] def atL:PV->PV->Option (Nat×List PV)
 | .lst ws,.int k=>(ixN ws.length k).bind λp=>(ws[p]?).bind λw=>match w with
  | .lst ys=>some (p,ys)
  | _=>none
 | _,_=>none
@[simp] def puL:PV->Nat×List PV->PV->PV->Option PV
 | .lst ws,(p,ys),.int n,q=>(ixN ys.length n).bind λm=>some (.lst (ws.set p (.lst (ys.set m q))))
 | _,_,_,_=>none
def Pb (i j:Nat) (h1 h2 h3:Env->Option PV) (env:Env):Option Out:=(bV i env).bind λx=>(h1 env).bind λk=>(atL x k).bind λw=>(h3 ((env.set j none).set i none)).bind λq=>(h2 (env.set j (some (.lst w.2)))).bind λn=>(puL x w n q).bind λy=>if j < env.length then some (.nx ((env.set j none).set i (some y))) else none
@[simp] theorem P_ (i j:Nat) (h1 h2 h3:Env->Option PV) (env:Env):Pb i j h1 h2 h3 env=((bV i env).bind λx=>(h1 env).bind λk=>(atL x k).bind λw=>(h3 ((env.set j none).set i none)).bind λq=>(h2 (env.set j (some (.lst w.2)))).bind λn=>(puL x w n q).bind λy=>if j < env.length then some (.nx ((env.set j none).set i (some y))) else none):=id rfl
end
end MR
namespace MR
open PySem L2
@[simp] noncomputable def BK:PV->Option (List PV)
 | .dT kvs=>if (kvs.all λkv=>kv.1.length != 2)=true then some (kvs.map λkv=>.tup [.tup (kv.1.map kP),kv.2]) else none
 | _=>none
noncomputable def iDi (f:Env->Option PV) (env:Env):Option (List PV):=(f env).bind BK
@[simp] theorem Qx (f:Env->Option PV) (env:Env):iDi f env=((f env).bind BK):=id rfl
section
variable {X:Cx}{b:BX}{G:List Nat}{apos cpos:Pos}{m:Md}{e:Expr}{f:Env->Option PV}
end
end MR
namespace MR
open PySem L2
section
variable {X:Cx}{b:BX}{G G' L:List Nat}{pos p p2 pos2:Pos}{m m1 m2:Md}{e1 e2:Expr}{f1 f2:Env->Option PV}
@[simp] noncomputable def Q6:PV->PV->Option PV
 | .tup [.lst xs,.lst xs'],.tup [.lst ys,.lst ys']=>(intsP xs).bind λns=>(intsP xs').bind λns'=>(intsP ys).bind λms=>(intsP ys').bind λms'=>some (.bl (HT.ltTwo ns ns' ms ms'))
 | _,_=>none
end
end MR
namespace My
open PySem L2 MR
@[simp] theorem Qa (i j:Int):eqP (.int i) (.int j)=some (decide (i=j)):=rfl
@[simp] theorem Qc (i j:Str):eqP (.str i) (.str j)=some (decide (i=j)):=rfl
@[simp] theorem Qy (i j:Bool):eqP (.bl i) (.bl j)=some (decide (i=j)):=rfl
theorem tD {α β:Type}(f:α->β) (xs:List α) (i:Int):atI (xs.map f) i=(atI xs i).map f:=by
 unfold atI
 rw[List.length_map]
 cases ixN xs.length i with
 | none=>rfl
 | some j=>simp
theorem gR {α:Type}{xs:List α}{k:Nat}{x:α}(h:xs[k]?=some x):atI xs (k:Int)=some x:=Hm h
section
variable {α:Type}{env:MR.Env}{g:PV->MR.Env->Option MR.Env}{t:MR.Env->Option Bool}{f:MR.Env->Option PV}
theorem jn (c h:α->PV):∀ (ys:List α),(∀ y∈ys,∃ e,g (c y) env=some e/\f e=some (h y))->cX env g cL f (ys.map c)=some (ys.map h)
 | [],_=>rfl
 | y::ys,hh=>by
  obtain⟨e,h1,h2⟩:=hh y List.mem_cons_self
  have ih:=jn c h ys λz hz=>hh z (List.mem_cons_of_mem _ hz)
  simp[cX,h1,h2,ih]
theorem gk (c h:α->PV) (p:α->Bool):∀ (ys:List α),(∀ y∈ys,∃ e,g (c y) env=some e/\t e=some (p y)/\(p y=true->f e=some (h y)))->cX env g t f (ys.map c)=some ((ys.filter p).map h)
 | [],_=>rfl
 | y::ys,hh=>by
  obtain⟨e,h1,h2,h3⟩:=hh y List.mem_cons_self
  have ih:=gk c h p ys λz hz=>hh z (List.mem_cons_of_mem _ hz)
  cases hp:p y with
  | true=>simp[cX,h1,h2,h3 hp,ih,hp]
  | false=>simp[cX,h1,h2,ih,hp]
end
theorem uG {α:Type}(c:α->PV):∀ (ys:List α) (n:Nat),jd n (ys.map c)=(ys.zipIdx n).map λy=>.tup [.int (y.2:Nat),c y.1]
 | [],_=>rfl
 | y::ys,n=>by simp[jd,uG c ys]
end My
namespace My
open PySem L2 MR
section
variable {α:Type}(a b c d e f g h:α) (l:List α)
@[simp] theorem at0:atI (a::l) 0=some a:=gR (k:=0) rfl
@[simp] theorem at1:atI (a::b::l) 1=some b:=gR (k:=1) rfl
@[simp] theorem at2:atI (a::b::c::l) 2=some c:=gR (k:=2) rfl
@[simp] theorem at3:atI (a::b::c::d::l) 3=some d:=gR (k:=3) rfl
end
@[simp] noncomputable def nxt (ds:List Nat):Option Out->Option MR.Env
 | some (.nx e)=>some (clr ds e)
 | some (.ct e)=>some (clr ds e)
 | _=>none
noncomputable def turn (g:PV->MR.Env->Option MR.Env) (ds:List Nat) (body:MR.Env->Option Out) (x:PV) (env:MR.Env):Option MR.Env:=(g x env).bind λe=>nxt ds (body e)
theorem dY (g:PV->MR.Env->Option MR.Env) (ds:List Nat) (body:MR.Env->Option Out) (x:PV) (env:MR.Env):turn g ds body x env=(g x env).bind λe=>nxt ds (body e):=id rfl
theorem dz {g:PV->MR.Env->Option MR.Env}{ds:List Nat}{body:MR.Env->Option Out}{x:PV}{xs:List PV}{env env':MR.Env}(h:turn g ds body x env=some env'):cW g ds body (x::xs) env=cW g ds body xs env':=by
 unfold turn at h
 obtain⟨e,h1,h2⟩:=aD h
 unfold nxt at h2
 split at h2
 ·rename_i q;cases h2;simp[cW,h1,q]
 ·rename_i q;cases h2;simp[cW,h1,q]
 ·cases h2
theorem qd {α:Type}{g:PV->MR.Env->Option MR.Env}{ds:List Nat}{body:MR.Env->Option Out}{env:MR.Env}(c:α->PV):∀ (ys:List α),(∀ y∈ys,turn g ds body (c y) env=some env)->cW g ds body (ys.map c) env=some (.nx env)
 | [],_=>rfl
 | y::ys,h=>by
  rw[List.map_cons,dz (h y List.mem_cons_self)]
  exact qd c ys λz hz=>h z (List.mem_cons_of_mem _ hz)
theorem aF {f g:MR.Env->Option Out}{env e:MR.Env}(h:f env=some (.nx e)):aG f g env=g e:=by simp[h]
theorem mU {f g:MR.Env->Option Out}{env:MR.Env}{p:PV}(h:f env=some (.rt p)):aG f g env=some (.rt p):=by simp[h]
theorem qD (n:Nat):gj 0 (n:Int)=(List.range n).map λk=>PV.int (k:Nat):=by
 unfold gj
 simp
def cell (ns:List Int) (k:Nat):Int:=ns.getD k 0
def okP:Nat->PV->Prop
 | _,.non=>True
 | _,.bl _=>True
 | _,.int _=>True
 | _,.str x=>PyData.strOk x=true
 | n+1,.lst xs=>∀ x∈xs,okP n x
 | n+1,.tup xs=>∀ x∈xs,okP n x
 | _,_=>False
theorem rC {n:Nat}(ih:∀ p,okP n p->∃ d,toD p=some d/\d.canLay0=true/\d.depth<=n/\PyData.eqv d d=true):∀ xs:List PV,(∀ x∈xs,okP n x)->∃ ds,du xs=some ds/\PyData.canLayAll0 ds=true/\PyData.depthAll ds<=n/\PyData.eqvAll ds ds=true
 | [],_=>⟨[],rfl,rfl,Nat.zero_le _,rfl⟩
 | x::xs,h=>by
  obtain⟨d,h1,h2,h3,h4⟩:=ih x (h x List.mem_cons_self)
  obtain⟨ds,g1,g2,g3,g4⟩:=rC ih xs λz hz=>h z (List.mem_cons_of_mem _ hz)
  refine⟨d::ds,by simp[du,h1,g1],by simp[PyData.canLayAll0,h2,g2],?_,by simp[PyData.eqvAll,h4,g4]⟩
  simp only[PyData.depthAll]
  omega
theorem rD:∀ (n:Nat) (p:PV),okP n p->∃ d,toD p=some d/\d.canLay0=true/\d.depth<=n/\PyData.eqv d d=true
 | n,.non,_=>⟨.none,by simp[toD],by simp[PyData.canLay0],by simp[PyData.depth],by simp[PyData.eqv]⟩
 | n,.bl b,_=>⟨.bool b,by simp[toD],by simp[PyData.canLay0],by simp[PyData.depth],by simp[PyData.eqv]⟩
 | n,.int b,_=>⟨.int b,by simp[toD],by simp[PyData.canLay0],by simp[PyData.depth],by simp[PyData.eqv]⟩
 | n,.str b,h=>⟨.str b,by simp[toD],by simpa [PyData.canLay0,okP] using h,by simp[PyData.depth],by simp[PyData.eqv]⟩
 | n+1,.lst xs,h=>by
  obtain⟨ds,g1,g2,g3,g4⟩:=rC (rD n) xs (by simpa [okP] using h)
  exact⟨.list ds,by simp[toD,g1],by simp[PyData.canLay0,g2],by simp only[PyData.depth];omega,by simp[PyData.eqv,g4]⟩
 | n+1,.tup xs,h=>by
  obtain⟨ds,g1,g2,g3,g4⟩:=rC (rD n) xs (by simpa [okP] using h)
  exact⟨.tuple ds,by simp[toD,g1],by simp[PyData.canLay0,g2],by simp only[PyData.depth];omega,by simp[PyData.eqv,g4]⟩
 | 0,.lst _,h=>by simp[okP] at h
 | 0,.tup _,h=>by simp[okP] at h
 | _,.frz _,h=>by simp[okP] at h
 | _,.ktp _,h=>by simp[okP] at h
 | _,.dK _,h=>by simp[okP] at h
 | _,.dT _,h=>by simp[okP] at h
 | _,.obj _ _,h=>by simp[okP] at h
theorem Eu {n:Nat}{p:PV}(h:okP n p) (hn:n<=64):eqD p p=some true:=by
 obtain⟨d,h1,h2,h3,h4⟩:=rD n p h
 have hs:SeqAt.shaped d=true:=by
  unfold SeqAt.shaped
  rw[h2,Bool.true_and,decide_eq_true_eq]
  omega
 simp[eqD,h1,hs,h4]
theorem Ew {p:PV}{k:Bool}(h:eqS p p=some k):k=true:=by
 cases p <;> simp at h <;> first | exact h | exact h.symm | cases h
theorem Ey {n:Nat}{p:PV}(h:okP n p) (hn:n<=64):eqP p p=some true:=by
 unfold eqP
 cases q:eqS p p with
 | none=>exact Eu h hn
 | some k=>rw[Ew q]
theorem my {n:Nat}{x:PV}{xs:List PV}(h:okP (n+1) (.lst (x::xs))) (hn:n<=60):eqP (.lst (x::xs)) (.lst [])=some false:=by
 have h':∀ y∈x::xs,okP n y:=by simpa [okP] using h
 obtain⟨d,a1,a2,a3,a4⟩:=rD n x (h' x List.mem_cons_self)
 obtain⟨ds,g1,g2,g3,g4⟩:=rC (rD n) xs λz hz=>h' z (List.mem_cons_of_mem _ hz)
 have hs:SeqAt.shaped (.list (d::ds))=true:=by
  have h1:(PyData.list (d::ds)).canLay0=true:=by simp[PyData.canLay0,PyData.canLayAll0,a2,g2]
  have h2:(PyData.list (d::ds)).depth<=64:=by simp only[PyData.depth,PyData.depthAll];omega
  simp[SeqAt.shaped,h1,h2]
 have hs2:SeqAt.shaped (.list [])=true:=by decide
 simp[eqP,eqS,eqD,toD,du,a1,g1,hs,hs2,PyData.eqv,PyData.eqvAll]
@[simp] theorem Qd:eqP (.lst []) (.lst [])=some true:=Ey (n:=1) (by simp[okP]) (by decide)
end My
namespace L2
open PySem PySem.Spec PyProof.Rows
def Still {α:Type}:Sem α->Prop
 | .pure _=>True
 | .raise _=>True
 | .unsupported _=>True
 | .finish _=>True
 | .rule _ k=>Still (k ())
 | .at _ k=>Still (k ())
 | .load _ _ k=>∀ o,Still (k o)
 | .update _ _ f k=>(∀ o,(f o).dict=o.dict/\(o.isFreed=false->(f o).isFreed=false))/\Still (k ())
 | .alloc _ k=>∀ a,Still (k a)
 | .loadIfAlive _ k=>∀ o,Still (k o)
 | .point _ k=>Still (k ())
 | .register _ _=>True
 | .fresh k=>∀ t,Still (k t)
 | .ask k=>∀ t,Still (k t)
 | .stack k=>∀ l,Still (k l)
 | .handled _ k=>∀ l,Still (k l)
 | .choose ..=>False
 | .os ..=>False
 | .call ..=>False
 | .newGen ..=>False
 | .genState ..=>False
 | .resume ..=>False
 | .yield ..=>False
 | .fork ..=>False
 | .thread _=>False
 | .await ..=>False
def Dk (h h':Heap):Prop:=∀ b o,h.get? b=some o->∃ o',h'.get? b=some o'/\o'.dict=o.dict
theorem Dk.refl (h:Heap):Dk h h:=λb o e=>⟨o,e,rfl⟩
theorem Dk.trans {h h' h'':Heap}(x:Dk h h') (y:Dk h' h''):Dk h h'':=λb o e=>
 let ⟨o1,e1,d1⟩:=x b o e
 let ⟨o2,e2,d2⟩:=y b o1 e1
 ⟨o2,e2,d2.trans d1⟩
theorem Ez {α:Type}{M:PySem.Model}{Γ:PySem.Ctx}{E:Value->Pos->Shared->Prop}:∀ (t:Sem α) (Q:α->Pos->Shared->Prop) (p:Pos) (s0 s:Shared),Still t->Dk s0.heap s.heap->Sem.wp M Γ t Q E p s->Sem.wp M Γ t (λa p' s'=>Q a p' s'/\Dk s0.heap s'.heap) E p s:=by
 intro t
 induction t with
 | pure a=>intro Q p s0 s st d h;rw[Sem.wp_pure] at h ⊢;exact⟨h,d⟩
 | raise e=>intro Q p s0 s st d h;rw[Sem.wp] at h ⊢;exact h
 | unsupported w=>intro Q p s0 s st d h;rw[Sem.wp] at h;exact h.elim
 | finish w=>intro Q p s0 s st d h;rw[Sem.wp] at h;exact h.elim
 | rule t k ih=>intro Q p s0 s st d h;rw[Sem.wp] at h ⊢;exact ih () Q p s0 s st d h
 | «at» q k ih=>intro Q p s0 s st d h;rw[Sem.wp] at h ⊢;exact ih () Q q s0 s st d h
 | load a part k ih=>intro Q p s0 s st d h;rw[Sem.wp] at h ⊢;obtain⟨o,e,h⟩:=h;exact⟨o,e,ih o Q p s0 s (st o) d h⟩
 | update a part f k ih=>
  intro Q p s0 s st d h
  rw[Sem.wp] at h ⊢
  refine⟨h.1,ih () Q p s0 _ st.2 (d.trans λb o e=>?_) h.2⟩
  by_cases hb:a=b
  ·subst hb
   exact⟨_,Heap.get?_update_self f e ((st.1 o).2 (Heap.get?_some_iff.mp e).2),(st.1 o).1⟩
  ·exact⟨o,(Heap.get?_update_other _ f hb).trans e,rfl⟩
 | alloc o k ih=>
  intro Q p s0 s st d h
  rw[Sem.wp] at h ⊢
  exact ih _ Q p s0 _ (st _) (d.trans λb o' e=>⟨o',Heap.get?_push_of_some o e,rfl⟩) h
 | loadIfAlive a k ih=>intro Q p s0 s st d h;rw[Sem.wp] at h ⊢;exact ih _ Q p s0 s (st _) d h
 | point l k ih=>intro Q p s0 s st d h;rw[Sem.wp] at h ⊢;exact ih _ Q p s0 s st d h
 | register a k ih=>intro Q p s0 s st d h;rw[Sem.wp] at h;exact h.elim
 | fresh k ih=>intro Q p s0 s st d h;rw[Sem.wp] at h ⊢;exact ih _ Q p s0 _ (st _) d h
 | ask k ih=>intro Q p s0 s st d h;rw[Sem.wp] at h ⊢;exact ih _ Q p s0 s (st _) d h
 | stack k ih=>intro Q p s0 s st d h;rw[Sem.wp] at h ⊢;exact ih _ Q p s0 s (st _) d h
 | handled own k ih=>intro Q p s0 s st d h;rw[Sem.wp] at h ⊢;exact ih _ Q p s0 s (st _) d h
 | _=>intro Q p s0 s st d h;exact False.elim st
theorem jX {α:Type}{M:PySem.Model}{A:Around}{E:Value->Shared->Prop}{t:Sem α}{Q:α->Shared->Prop}{s:Shared}(st:Still t) (h:wpAny M A t Q E s):wpAny M A t (λa s'=>Q a s'/\Dk s.heap s'.heap) E s:=fun Γ p hΓ=>
 Ez t _ p s s st (Dk.refl _) (h Γ p hΓ)
theorem Still.bind {α β:Type}:∀ {t:Sem α}{f:α->Sem β},Still t->(∀ a,Still (f a))->Still (t.bind f):=by
 intro t
 induction t with
 | pure a=>intro f _ h;exact h a
 | raise e=>intro f _ h;trivial
 | unsupported w=>intro f _ h;trivial
 | finish w=>intro f _ h;trivial
 | rule t k ih=>intro f st h;exact ih () st h
 | «at» q k ih=>intro f st h;exact ih () st h
 | load a part k ih=>intro f st h;exact λo=>ih o (st o) h
 | update a part g k ih=>intro f st h;exact⟨st.1,ih () st.2 h⟩
 | alloc o k ih=>intro f st h;exact λo=>ih o (st o) h
 | loadIfAlive a k ih=>intro f st h;exact λo=>ih o (st o) h
 | point l k ih=>intro f st h;exact ih () st h
 | register a k ih=>intro f st h;trivial
 | fresh k ih=>intro f st h;exact λo=>ih o (st o) h
 | ask k ih=>intro f st h;exact λo=>ih o (st o) h
 | stack k ih=>intro f st h;exact λo=>ih o (st o) h
 | handled own k ih=>intro f st h;exact λo=>ih o (st o) h
 | _=>intro f st h;exact False.elim st
theorem bh {α β:Type}{t:Sem α}{f:α->Sem β}(h1:Still t) (h2:∀ a,Still (f a)):Still (t >>= f):=Still.bind h1 h2
theorem nO {a:Addr}:Still (load a):=λo=>trivial
theorem tE {v:Value}:Still (fieldsOf v):=by
 unfold fieldsOf
 cases v <;> first | trivial | skip
 refine bh nO λo=>?_
 split <;> trivial
theorem jU {v:Value}{i:Nat}:Still (field v i):=by
 unfold field
 refine bh tE λa=>?_
 split <;> trivial
theorem rE (g:Array Value->Array Value) (o:Obj):(Obj.mapFields g o).dict=o.dict/\(o.isFreed=false->(Obj.mapFields g o).isFreed=false):=by
 unfold Obj.mapFields
 split
 ·exact⟨rfl,λ_=>rfl⟩
 ·exact⟨rfl,id⟩
theorem jN {v:Value}{i:Nat}{x:Value}:Still (setField v i x):=by
 unfold setField
 cases v <;> first | trivial | skip
 unfold updateField
 refine bh nO λo=>?_
 split
 ·split
  ·exact⟨rE _,trivial⟩
  ·trivial
 ·trivial
theorem jy {e:Value}{f:Option Addr}:Still (setFlight e f):=by
 unfold setFlight
 refine bh jU λtb=>?_
 split
 ·exact jN
 ·trivial
theorem j_:∀ l:List Env,Still (readyFrames l)
 | []=>trivial
 | env::outer=>by
  unfold readyFrames
  cases env.frame with
  | none=>trivial
  | some f=>
   refine bh nO λo=>?_
   split
   ·trivial
   ·refine bh ?_ λim=>bh ?_ λback=>?_
    ·unfold behindIsImport
     split
     ·trivial
     ·split
      ·trivial
      ·exact bh jU λ_=>trivial
    ·unfold keptBack
     split
     ·split
      ·trivial
      ·refine bh ?_ λ_=>trivial
       unfold underTheClaimsCaller
       exact λl=>trivial
     ·trivial
    ·exact⟨λo=>⟨rfl,λh=>by cases o;rename_i d _;cases d <;> first | rfl | exact h⟩,j_ outer⟩
theorem uT {env:Env}:Still (PySem.frameOf env):=by
 unfold PySem.frameOf frameEnvs
 refine bh (bh (λl=>trivial) λl=>?_) λa=>?_
 ·trivial
 ·refine bh ?_ λo=>?_
  ·unfold frameObject
   split
   ·trivial
   ·exact bh (j_ _) λ_=>trivial
  ·split <;> trivial
theorem qF {f:Addr}{h:Bool}:Still (entryPlaceOf f h):=by
 unfold entryPlaceOf
 refine bh (λl=>trivial) λacts=>?_
 split <;> trivial
theorem tG {a b c d e:Value}{pl:List Value}:Still (EntryCells.newEntry a b c d e pl):=by
 unfold EntryCells.newEntry newFields newObj
 have h:∀ x:Data,Still (newObjAsIs (.type "traceback") x):=λx=>by
  unfold newObjAsIs
  exact bh (λa=>trivial) λa=>trivial
 generalize ([a,b,c,d,e]++if pl.isEmpty=true then List.replicate 6 Value.none else pl).toArray=vs
 by_cases hq:vs.size > sizeLine+2
 ·simp only[if_pos hq];exact bh trivial λ_=>h _
 ·simp only[if_neg hq];exact h _
theorem lX {e:Value}{env:Env}:Still (noteFrame e env):=by
 unfold noteFrame
 cases env.frame with
 | none=>trivial
 | some f=>
  refine bh jU λhead=>?_
  have rest:∀ q:Bool,Still (do setField e 1 (← EntryCells.newEntry head (← PySem.frameOf env) .none (rawInt f) .none (← entryPlaceOf f q)):Sem Unit):=λq=>
   bh uT λa=>bh qF λpl=>bh tG λb=>jN
  split
  ·refine bh jU λy=>?_
   split
   ·trivial
   ·exact bh jN λ_=>rest _
  ·exact rest _
theorem n6 {env:Env}{e:Value}:Still (leaving env e):=bh lX λ_=>jy
end L2
namespace L2
open PySem PySem.Builtin PySem.Builtin.ObjectAttr
inductive TailN (h:Heap) (bmB:List Value) (ns:List Str):List Value->Prop
 | base:TailN h bmB ns bmB
 | own {A:Addr}{c0:Value}{dd:Option Addr}{cd:ClassData}{sl:Array (Option Value)}{mA:Str->Option Value}{tl:List Value}:
   h.get? A=some { cls:=c0,dict:=dd,data:=.cls cd,slots:=sl }->h.Ns cd.ns mA->(∀ n∈ns,mA n=none)->TailN h bmB ns tl->TailN h bmB ns (.ref A::tl)
theorem TailN.has {h:Heap}{bmB tl:List Value}{ns:List Str}(T:TailN h bmB ns tl){X:String}{b:Bool}(hb:bmB.contains (.type X)=b):tl.contains (.type X)=b:=by
 induction T with
 | base=>exact hb
 | own _ _ _ _ ih=>rw[List.contains_cons,ih];rfl
theorem TailN.refuse {h:Heap}{bmB tl:List Value}{ns:List Str}(T:TailN h bmB ns tl) (self:Value) (what:Str):refuseLoop self what tl=refuseLoop self what bmB:=by
 induction T with
 | base=>rfl
 | own _ _ _ _ ih=>rw[refuseLoop_ref];exact ih
section
variable {M:PySem.Model}{A:Around}{E:Value->Shared->Prop}{h:Heap}{g:Array GenState}{d:Drawn}{t:Nat}{os:OsState}
theorem TailN.along {bmB tl:List Value}{ns:List Str}{n:Str}{y:Option Value}{Q:Option Value->Shared->Prop}(hn:n∈ns) (T:TailN h bmB ns tl) (hr:lookupAlong bmB n=pure y) (hq:Q y ⟨h,g,d,t,os⟩):
  wpAny M A (lookupAlong tl n) Q E ⟨h,g,d,t,os⟩:=by
 induction T with
 | base=>rw[hr];exact wpAny_pure hq
 | own hA hN hni _ ih=>
  rw[lookupAlong_cons]
  refine wpAny_bind (wpAny_classOwn_cls hA hN ?_)
  rw[hni n hn]
  exact ih
variable {nm q:Str}{C N x:Addr}{bs bm bmB:List Value}{hdct:Bool}{sn:List Str}{sub:List Value}{ab:Bool}{col:Option Bool}{dd:Option Addr}{k0 k1 k2 k3 k5:Option Value}{B newId sa owner:String}
 {mN mA:Str->Option Value}{name:Str}{v:Value}{ns:List Str}
theorem jY {n:Str}{y:Option Value}{Q:Option Value->Shared->Prop}(hn:n∈ns) (hC:h.get? C=some (excClassObj nm q C N bs bm hdct sn sub ab col dd k0 k1 k2 k3 k5 newId)) (hN:h.Ns N mN) (hm:mN n=none)
  (T:TailN h bmB ns bm) (hb:mroOf (.type B)=pure bmB) (hB:typeLookup (.type B) n=pure y) (hq:Q y ⟨h,g,d,t,os⟩):wpAny M A (typeLookup (.ref C) n) Q E ⟨h,g,d,t,os⟩:=by
 have hr:lookupAlong bmB n=pure y:=by rw[typeLookup_eq,hb] at hB;exact hB
 rw[typeLookup_eq]
 refine wpAny_bind (wpAny_mroOf_exc hC ?_)
 rw[lookupAlong_cons]
 refine wpAny_bind (wpAny_classOwn_exc hC hN ?_)
 rw[hm]
 exact T.along hn hr hq
end
theorem zx {M:PySem.Model}{A:Around}{E:Value->Shared->Prop}{h:Heap}{g:Array GenState}{d:Drawn}{t:Nat}{os:OsState}{nm q:Str}{C N x:Addr}{bs bm bmB:List Value}{hdct:Bool}{sn:List Str}{sub:List Value}{ab:Bool}{col:Option Bool}{dd:Option Addr}{k0 k1 k2 k3 k5:Option Value}{B newId sa owner:String}
  {v nv:Value}{ns:List Str}{o:Obj}{Q:Unit->Shared->Prop}(SF:StoreFacts B bmB sa owner) (hC:h.get? C=some (excClassObj nm q C N bs bm hdct sn sub ab col dd k0 k1 k2 k3 k5 newId)) (T:TailN h bmB ns bm) (hx:h.get? x=some o) (hc:o.cls=.ref C) (hq:Q () ⟨h,g,d,t,os⟩):
  wpAny M A (checkBuiltinCall sa ⟨[.ref x,nv,v],[]⟩) Q E ⟨h,g,d,t,os⟩:=by
 have hcB:(Value.ref C::bm).contains (.type owner)=true:=by rw[List.contains_cons,T.has SF.hasOwner,Bool.or_true]
 have ha:=SF.args (.ref x) nv v
 simp only[checkBuiltinCall,SF.kind,SF.split]
 refine wpAny_bind ?_
 unfold isInstance
 repeat (first | (with_reducible refine wpAny_loadPart_at hx ?_;rw[hc]) | (with_reducible refine wpAny_isSubtype_exc hC ?_;rw[hcB]) | wp_step)
 cases hsig:Manifest.signature? sa with
 | none=>exact wpAny_pure hq
 | some sig=>
  simp only[argsOk,hsig] at ha
  show wpAny M A (Bind.checkArgs sa sig ⟨[.ref x,nv,v],[]⟩) Q E _
  rw[show Bind.checkArgs sa sig ⟨[.ref x,nv,v],[]⟩=pure () from ha]
  exact wpAny_pure hq
section
variable {prog:Program}{w:World}{A:Around}{E:Value->Shared->Prop}{h:Heap}{g:Array GenState}{d:Drawn}{t:Nat}{os:OsState}
variable {nm q:Str}{C N x:Addr}{bs bm bmB:List Value}{sn:List Str}{sub:List Value}{ab:Bool}{col:Option Bool}{dd:Option Addr}{k0 k1 k2 k3 k5:Option Value}{B newId sa owner:String}
 {mN:Str->Option Value}{name:Str}{v:Value}{ns:List Str}
theorem xO {tk:Tok}{o:Obj}{Q:Fin->Shared->Prop}(SF:StoreFacts B bmB sa owner) (hC:h.get? C=some (excClassObj nm q C N bs bm true sn sub ab col dd k0 k1 k2 k3 k5 newId)) (hN:h.Ns N mN) (T:TailN h bmB ns bm)
  (hn:name∈ns) (hmn:mN name=none) (hB:typeLookup (.type B) name=pure none)
  (hx:h.get? x=some o) (hc:o.cls=.ref C) (hnc:∀ c,o.data≠.cls c) (hd:o.dict=none)
  (hq:∀ h' tk',h'.get? x=some { o with dict:=some h.objs.size }->h'.Ns1 h.objs.size (λy=>if y=name then some v else none)->(∀ b ob,b≠x->h.get? b=some ob->h'.get? b=some ob)->Q (.done (.ret .none)) ⟨h',g,d,tk',os⟩):
  wpAny (model prog w) A (Builtin.«object.__setattr__» ⟨[.ref x,.str name tk,v],[]⟩) Q E ⟨h,g,d,t,os⟩:=by
 have hpass:=SF.passes (.ref x)
 unfold Builtin.«object.__setattr__»
 repeat (first | rw[refuse_eq] | (rw[refuseLoop_ref,T.refuse,hpass]) | (with_reducible refine wpAny_loadPart_at hx ?_;rw[hc]) | with_reducible refine wpAny_mroOf_exc hC ?_ | (with_reducible refine jY hn hC hN hmn T SF.mro hB ?_) | wp_step)
 have hx1:(h.push { cls:=.type "dict",data:=.dict #[] }).get? x=some o:=Heap.get?_push_of_some _ hx
 have hxs:x≠h.objs.size:=Nat.ne_of_lt (Heap.lt_size hx)
 rw[hd,if_neg (by simp[typeHasDict])]
 split
 ·rename_i z;cases z
 split
 ·rename_i c z;exact absurd z (hnc c)
 refine wpAny_bind (wpAny_alloc' (wpAny_bind (wpAny_update' hx1 (wpAny_pure ?_))))
 have fr:({ o with dict:=some h.objs.size }:Obj).isFreed=false:=by
  have z:=(Heap.get?_some_iff.mp hx).2
  obtain⟨_,_,od,_⟩:=o
  cases od <;> first | rfl | exact z
 have gx:=Heap.get?_update_self (h:=h.push { cls:=.type "dict",data:=.dict #[] }) (λo:Obj=>{ cls:=o.cls,dict:=some h.objs.size,data:=o.data,slots:=o.slots }) hx1 fr
 have gd:=(Heap.get?_update_other (h.push { cls:=.type "dict",data:=.dict #[] }) (λo:Obj=>{ cls:=o.cls,dict:=some h.objs.size,data:=o.data,slots:=o.slots }) hxs).trans (Heap.get?_push_size h rfl)
 have n0:((h.push { cls:=.type "dict",data:=.dict #[] }).update x λo:Obj=>{ cls:=o.cls,dict:=some h.objs.size,data:=o.data,slots:=o.slots }).Ns h.objs.size λ_=>none:=⟨_,#[],_,gd,rfl,λe he=>absurd he (by simp),λ_=>rfl⟩
 show wpAny _ _ (storeInDict h.objs.size (.str name tk) name v) _ _ _
 unfold storeInDict newKeyGuard
 refine wpAny_bind (wpAny_pure (wpAny_bind (wpAny_nsSet1 (Heap.Ns1.of_empty n0) λh' hn' hs=>?_)))
 obtain⟨oD,esD,epD,hoD,hdD,hcD⟩:=hn'.count (Within.cons name v Within.nil)
 refine wpAny_bind (wpAny_lookBehind hoD (by rw[hdD];exact pastItsLine_dict (Nat.le_trans hcD (by simp[sizeLine_eq]))) ?_)
 wp_walk
 refine hq h' _ ((hs.2 x hxs).trans gx) hn' λb ob hb e=>?_
 exact(hs.2 b (Nat.ne_of_lt (Heap.lt_size e))).trans ((Heap.get?_update_other _ _ hb.symm).trans (Heap.get?_push_of_some _ e))
theorem xP {o:Obj}{Q:Unit->Shared->Prop}(SF:StoreFacts B bmB sa owner) (hC:h.get? C=some (excClassObj nm q C N bs bm true sn sub ab col dd k0 k1 k2 k3 k5 newId)) (hN:h.Ns N mN) (T:TailN h bmB ns bm)
  (hs:("__setattr__" : Str)∈ns) (hn:name∈ns) (hms:mN "__setattr__" = none) (hmn:mN name=none) (hB:typeLookup (.type B) name=pure none)
  (hx:h.get? x=some o) (hc:o.cls=.ref C) (hnc:∀ c,o.data≠.cls c) (hd:o.dict=none)
  (hq:∀ h' tk',h'.get? x=some { o with dict:=some h.objs.size }->h'.Ns1 h.objs.size (λy=>if y=name then some v else none)->(∀ b ob,b≠x->h.get? b=some ob->h'.get? b=some ob)->Q () ⟨h',g,d,tk',os⟩):
  wpAny (model prog w) A (setAttr (.ref x) name v) Q E ⟨h,g,d,t,os⟩:=by
 have f3:=SF.slot.bind (.ref x)
 unfold setAttr callSpecial? specialOf
 repeat (any_goals (first | assumption | (with_reducible refine wpAny_loadPart_at hx ?_;rw[hc]) | (with_reducible refine jY hs hC hN hms T SF.mro SF.slot.lookup ?_) | wp_step))
 refine codeAny_call_builtin SF.slot.plain SF.entry (zx SF hC T hx hc (xO SF hC hN T hn hmn hB hx hc hnc hd λh' tk' e1 e2 e3=>?_))
 repeat (any_goals (first | assumption | wp_step))
 exact hq h' tk' e1 e2 e3
end
end L2
namespace L2
open PySem PySem.Builtin PySem.Builtin.ObjectAttr
section
variable {prog:Program}{w:World}{A:Around}{E:Value->Shared->Prop}{h:Heap}{g:Array GenState}{d:Drawn}{t:Nat}{os:OsState}
variable {nm q:Str}{C N x dx:Addr}{bs bm bmB:List Value}{sn:List Str}{sub:List Value}{ab:Bool}{col:Option Bool}{dd:Option Addr}{k0 k1 k2 k3 k5:Option Value}{B newId:String}
 {mN mA:Str->Option Value}{name:Str}{v:Value}{ns:List Str}{o:Obj}
theorem EY {M:PySem.Model}{nv:Value}{hdct:Bool}{Q:Unit->Shared->Prop}(FB:ExcAttrBase B bmB) (hC:h.get? C=some (excClassObj nm q C N bs bm hdct sn sub ab col dd k0 k1 k2 k3 k5 newId)) (T:TailN h bmB ns bm)
  (hx:h.get? x=some o) (hc:o.cls=.ref C) (hq:Q () ⟨h,g,d,t,os⟩):wpAny M A (checkBuiltinCall "BaseException.__getattribute__" ⟨[.ref x,nv],[]⟩) Q E ⟨h,g,d,t,os⟩:=by
 have hk:builtinKind "BaseException.__getattribute__" = some .slot:=by decide +kernel
 have hsp:splitId "BaseException.__getattribute__" = some ("BaseException", "__getattribute__"):=by decide +kernel
 have hcB:(Value.ref C::bm).contains (.type "BaseException")=true:=by rw[List.contains_cons,T.has FB.hasBase];rfl
 have ha:=F.args_bexc_ga (.ref x) nv
 simp only[checkBuiltinCall,hk,hsp]
 refine wpAny_bind ?_
 unfold isInstance
 repeat (first | (with_reducible refine wpAny_loadPart_at hx ?_;rw[hc]) | (with_reducible refine wpAny_isSubtype_exc hC ?_;rw[hcB]) | wp_step)
 exact hq
theorem entry_get {tk:Tok}{Q:Fin->Shared->Prop}(FB:ExcAttrBase B bmB) (hC:h.get? C=some (excClassObj nm q C N bs bm true sn sub ab col dd k0 k1 k2 k3 k5 newId)) (hN:h.Ns N mN) (T:TailN h bmB ns bm) (hn:name∈ns) (hmn:mN name=none)
  (hB:typeLookup (.type B) name=pure none) (hx:h.get? x=some o) (hc:o.cls=.ref C) (hnc:∀ c,o.data≠.cls c) (hd:o.dict=some dx) (hA:h.Ns dx mA) (hv:mA name=some v) (hq:Q (.done (.ret v)) ⟨h,g,d,t,os⟩):
  wpAny (model prog w) A (Builtin.«object.__getattribute__» ⟨[.ref x,.str name tk],[]⟩) Q E ⟨h,g,d,t,os⟩:=by
 unfold Builtin.«object.__getattribute__»
 repeat (first | (with_reducible refine wpAny_loadPart_at hx ?_;rw[hc]) | (with_reducible refine jY hn hC hN hmn T FB.mro hB ?_) | wp_step)
 split
 ·rename_i c z;exact absurd z (hnc c)
 unfold instanceDict
 repeat (first | (with_reducible refine wpAny_loadPart_at hx ?_;rw[hc]) | with_reducible refine wpAny_loadPart_at hC ?_ | wp_step)
 rw[hd]
 repeat (first | (with_reducible refine wpAny_nsGet hA ?_;rw[hv]) | wp_step)
 exact hq
theorem uy {expr:Bool}{Q:Value->Shared->Prop}(FB:ExcAttrBase B bmB) (hC:h.get? C=some (excClassObj nm q C N bs bm true sn sub ab col dd k0 k1 k2 k3 k5 newId)) (hN:h.Ns N mN) (T:TailN h bmB ns bm)
  (h1:("__getattribute__" : Str)∈ns) (h2:("__getattr__" : Str)∈ns) (hn:name∈ns) (m1:mN "__getattribute__" = none) (m2:mN "__getattr__" = none) (hmn:mN name=none)
  (hB:typeLookup (.type B) name=pure none) (hx:h.get? x=some o) (hc:o.cls=.ref C) (hnc:∀ c,o.data≠.cls c) (hd:o.dict=some dx) (hA:h.Ns dx mA) (hv:mA name=some v) (hh:handedOut v=pure v) (hq:Q v ⟨h,g,d,t+1,os⟩):
  wpAny (model prog w) A (getAttr (.ref x) name expr) Q E ⟨h,g,d,t,os⟩:=by
 have f3:=FB.ga.bind (.ref x)
 have hx0:(expr&&onTheHeap (Value.builtin "BaseException.__getattribute__"))=false:=by cases expr <;> rfl
 have hx2:(Value.builtin "BaseException.__getattribute__" == Value.builtin "object.__getattribute__")=false:=by decide +kernel
 have hx1:(onTheHeap (Value.ref C)&&Value.builtin "BaseException.__getattribute__" == Value.builtin "object.__getattribute__")=false:=by rw[hx2];rfl
 unfold getAttr getAttrBy
 repeat (any_goals (first | assumption | (with_reducible refine wpAny_loadPart_at hx ?_;rw[hc]) | (with_reducible refine jY h1 hC hN m1 T FB.mro FB.ga.lookup ?_) | (with_reducible refine jY h2 hC hN m2 T FB.mro FB.noGetattr ?_) | wp_step))
 refine codeAny_call_builtin FB.ga.plain F.entry_bexc_ga (EY FB hC T hx hc (entry_get FB hC hN T hn hmn hB hx hc hnc hd hA hv ?_))
 show wpAny _ _ (handedOut v) _ _ _
 rw[hh]
 exact wpAny_pure hq
end
end L2
namespace L2
open PySem
section
variable {prog:Program}{w:World}{A:Around}{E:Value->Shared->Prop}{h:Heap}{g:Array GenState}{d:Drawn}{t:Nat}{os:OsState}
variable {nm q:Str}{C N fI:Addr}{bs bm bmB rest:List Value}{hdct:Bool}{sn:List Str}{sub:List Value}{ab:Bool}{col:Option Bool}{dd:Option Addr}{k0 k1 k2 k3 k5:Option Value}{B newId initId:String}{mN:Str->Option Value}{oI:Obj}
theorem tH (F:ExcBaseFacts B newId initId bmB) (T:OwnTail h bmB bm){Q:Fin->Shared->Prop}(hC:h.get? C=some (excClassObj nm q C N bs bm hdct sn sub ab col dd k0 k1 k2 k3 k5 newId)) (hn:h.Ns N mN) (hi:mN "__init__" = some (.ref fI))
  (hf:h.get? fI=some oI) (hfc:oI.cls=.type "function")
  (hq:∀ h' e,Heap.MadeExcOf h h' e (.ref C) rest->wpAny (model prog w) A (call (.ref fI) (.ref e::rest)) (λr s'=>r=.none/\Q (.done (.ret (.ref e))) s') E ⟨h',g,d,t,os⟩) (hrest:rest.length<=sizeLine:=by size_fits):
  wpAny (model prog w) A (Builtin.«type.__call__» ⟨.ref C::rest,[]⟩) Q E ⟨h,g,d,t,os⟩:=by
 repeat (first | with_reducible refine wpAny_loadPart_at hC ?_ | with_reducible refine wpAny_madeBy_exc hC ?_ | wp_step)
 refine codeAny_call_builtin_code (Code.quiet_builtin _ F.quiet) (wpAny_check_new_subT F T hC (codeAny_exc_new_subT F T hC ?_ hrest))
 show wpAny _ _ _ _ _ _
 have up:∀ b o,h.get? b=some o->((h.push { cls:=.type "tuple",data:=.seq rest.toArray }).push { cls:=.ref C,data:=.fields #[.ref h.objs.size,.none,.none,.none,.bool false,.none] }).get? b=some o:=λb o e=>Heap.get?_push_of_some _ (Heap.get?_push_of_some _ e)
 have ge:((h.push { cls:=.type "tuple",data:=.seq rest.toArray }).push { cls:=.ref C,data:=.fields #[.ref h.objs.size,.none,.none,.none,.bool false,.none] }).get? (h.objs.size+1)=some { cls:=.ref C,data:=.fields #[.ref h.objs.size,.none,.none,.none,.bool false,.none] }:=by heap_get
 have c1:=up _ _ hC
 have f1:=up _ _ hf
 have n1:=hn.keeps up
 have t1:=T.keeps up
 have hcC:(Value.ref C::bm).contains (.ref C)=true:=by simp
 unfold isInstance
 repeat (first | with_reducible refine wpAny_loadPart_at ge ?_ | (with_reducible refine wpAny_isSubtype_exc c1 ?_;rw[hcC]) | wp_step)
 show wpAny _ _ (typeLookup (.ref C) _) _ _ _
 refine wpAny_typeLookup_tail c1 n1 t1 F.mroIs F.init.lookup ?_
 rw[hi]
 refine wpAny_holding (wpAny_bind ?_)
 unfold bindSpecial
 refine wpAny_bind (wpAny_typeOf (T := "function") ⟨_,f1,hfc⟩ ?_)
 rw[if_pos (by decide)]
 refine wpAny_pure (wpAny_bind (wpAny_mono (hq _ (h.objs.size+1) ⟨up,Heap.get?_none_of_le (Nat.le_succ _),h.objs.size,ge,Heap.get?_none_of_le (Nat.le_refl _),Heap.get?_push_of_some _ (Heap.get?_push_size h rfl)⟩) (λr s' hr=>?_) λ_ _ z=>z))
 obtain⟨rfl,hr⟩:=hr
 wp_walk
 exact hr
theorem BL (F:ExcBaseFacts B newId initId bmB) (T:OwnTail h bmB bm){Q:Value->Shared->Prop}(hC:h.get? C=some (excClassObj nm q C N bs bm hdct sn sub ab col dd k0 k1 k2 k3 k5 newId)) (hn:h.Ns N mN) (hi:mN "__init__" = some (.ref fI))
  (hf:h.get? fI=some oI) (hfc:oI.cls=.type "function")
  (hq:∀ h' e,Heap.MadeExcOf h h' e (.ref C) rest->wpAny (model prog w) (A.under (.builtin "type.__call__" ⟨.ref C::rest,[]⟩)) (call (.ref fI) (.ref e::rest)) (λr s'=>r=.none/\Q (.ref e) s') E ⟨h',g,d,t,os⟩) (hrest:rest.length<=sizeLine:=by size_fits):
  wpAny (model prog w) A (call (.ref C) rest) Q E ⟨h,g,d,t,os⟩:=by
 have f1:=tc_lookup
 have f2:=tc_bind (.ref C)
 have hT:(⟨h,g,d,t,os⟩:Shared).TypeIs (.ref C) "type" := ⟨_,hC,rfl⟩
 refine wpAny_call (codeAny_of_tree ?_)
 show wpAny _ _ (callAny (.ref C) _) _ _ _
 repeat (any_goals (first | assumption | with_reducible refine wpAny_loadPart_at hC ?_ | wp_step))
 refine⟨rfl,?_⟩
 exact codeAny_call_builtin_at (Code.quiet_builtin _ (by decide +kernel)) entry_typeCall (wpAny_check_type_call_sub hC (tH F T hC hn hi hf hfc (λh' e hm=>hq h' e hm) hrest))
end
end L2
namespace L2
open PySem PySem.Spec PyProof.Rows
def Fld (h:Heap) (a dx:Addr):Option Nat->Prop
 | none=>True
 | some n=>(∃ oe,h.get? a=some oe/\oe.dict=some dx)/\∃ m t,h.Ns dx m/\m "at" = some (.int (n:Int) t)
theorem Fld.go {h h':Heap}{a dx:Addr}{d:Option Nat}(f:Fld h a dx d) (k:Dk h h') (u:h.UpToSlots h'):Fld h' a dx d:=by
 cases d with
 | none=>trivial
 | some n=>
  obtain⟨⟨oe,e1,e2⟩,m,t,e3,e4⟩:=f
  obtain⟨o',e5,e6⟩:=k a oe e1
  exact⟨⟨o',e5,e6.trans e2⟩,m,t,u.ns e3,e4⟩
section
variable {M:PySem.Model}{A:Around}{E:Value->Shared->Prop}{s:Shared}{B:Heap}{env:Env}{outer:List Env}{L e:Addr}{cls a0:Value}{Q:Unit->Shared->Prop}{dx:Addr}{d:Option Nat}
theorem zy (hfr:A.frames=some (env::outer)) (hf:env.frame=some L) (fl:Heap.FlyingW B (env::outer) e cls a0 s.heap) (f:Fld s.heap e dx d)
  (hQ:∀ h',Heap.FlyingW B outer e cls a0 h'->s.heap.UpToSlots h'->Fld h' e dx d->Q () { s with heap:=h' }):wpAny M A (leaving env (.ref e)) Q E s:=by
 refine wpAny_mono (jX n6 (wpAny_leaves_onW (Q:=λ_ s'=>∃ h',s'={ s with heap:=h' }/\Heap.FlyingW B outer e cls a0 h'/\s.heap.UpToSlots h') hfr hf fl λh' f1 u=>⟨h',rfl,f1,u⟩)) (λ_ s' z=>?_) λ_ _ z=>z
 obtain⟨⟨h',rfl,f1,u⟩,k⟩:=z
 exact hQ h' f1 u (f.go k u)
theorem BP (hfr:A.frames=some (env::outer)) (hf:env.frame=some L) (fl:Heap.FlyingW B (env::outer) e cls a0 s.heap) (f:Fld s.heap e dx d)
  (hQ:∀ h',Heap.HeldW B (env::outer) e cls a0 L h'->s.heap.UpToSlots h'->Fld h' e dx d->Q () { s with heap:=h' }):wpAny M A (noteFrame (.ref e) env) Q E s:=by
 refine wpAny_mono (jX lX (wpAny_looks_onW (Q:=λ_ s'=>∃ h',s'={ s with heap:=h' }/\Heap.HeldW B (env::outer) e cls a0 L h'/\s.heap.UpToSlots h') hfr hf fl λh' f1 u=>⟨h',rfl,f1,u⟩)) (λ_ s' z=>?_) λ_ _ z=>z
 obtain⟨⟨h',rfl,f1,u⟩,k⟩:=z
 exact hQ h' f1 u (f.go k u)
theorem BR {l:List Env}(hh:Heap.HeldW B l e cls a0 L s.heap) (f:Fld s.heap e dx d) (hQ:∀ h',Heap.FlyingW B l e cls a0 h'->s.heap.UpToSlots h'->Fld h' e dx d->Q () { s with heap:=h' }):wpAny M A (setFlight (.ref e) none) Q E s:=by
 refine wpAny_mono (jX jy (wpAny_landsW (Q:=λ_ s'=>∃ h',s'={ s with heap:=h' }/\Heap.FlyingW B l e cls a0 h'/\s.heap.UpToSlots h') hh λh' f1 u=>⟨h',rfl,f1,u⟩)) (λ_ s' z=>?_) λ_ _ z=>z
 obtain⟨⟨h',rfl,f1,u⟩,k⟩:=z
 exact hQ h' f1 u (f.go k u)
theorem zz {l:List Env}(hh:Heap.FlyingW B l e cls a0 s.heap) (f:Fld s.heap e dx d) (hQ:∀ h',Heap.FlyingW B l e cls a0 h'->s.heap.UpToSlots h'->Fld h' e dx d->Q () { s with heap:=h' }):wpAny M A (setFlight (.ref e) none) Q E s:=by
 refine wpAny_mono (jX jy (lands_againW (Q:=λ_ s'=>∃ h',s'={ s with heap:=h' }/\Heap.FlyingW B l e cls a0 h'/\s.heap.UpToSlots h') hh λh' f1 u=>⟨h',rfl,f1,u⟩)) (λ_ s' z=>?_) λ_ _ z=>z
 obtain⟨⟨h',rfl,f1,u⟩,k⟩:=z
 exact hQ h' f1 u (f.go k u)
theorem BV {oe:Obj}{vs:Array Value}(hfr:A.frames=some (env::outer)) (hl:s.heap.FunFrames B (env::outer)) (hf:env.frame=some L) (he:s.heap.get? e=some oe) (hkb:B.StaysIn s.heap) (hen:B.get? e=none) (hd:oe.data=.fields vs) (h1:vs[1]?=some .none) (h0:vs[0]?=some a0) (f:Fld s.heap e dx d)
  (hQ:∀ h',Heap.FlyingW B outer e oe.cls a0 h'->s.heap.UpToSlots h'->Fld h' e dx d->Q () { s with heap:=h' }):wpAny M A (leaving env (.ref e)) Q E s:=by
 refine wpAny_mono (jX n6 (wpAny_leaving_firstW (Q:=λ_ s'=>∃ h',s'={ s with heap:=h' }/\Heap.LeftW B (env::outer) e oe.cls a0 s.heap h') hfr hl hf he hkb hen hd h1 h0 λh' z=>⟨h',rfl,z⟩)) (λ_ s' z=>?_) λ_ _ z=>z
 obtain⟨⟨h',rfl,k1,⟨_,_,k2⟩,k3,k4⟩,k⟩:=z
 exact hQ h' ⟨k1,hen,k2,k3⟩ k4 (f.go k k4)
end
end L2
namespace L2
open PySem
section
variable {M:PySem.Model}{A:Around}{E:Value->Shared->Prop}{env:Env}
variable {nm q:Str}{C N fI:Addr}{bs bm bmB:List Value}{hdct:Bool}{sn:List Str}{sub:List Value}{ab:Bool}{col:Option Bool}{dd:Option Addr}{k0 k1 k2 k3 k5:Option Value}{B newId initId:String}{mN:Str->Option Value}
theorem BW {s:Shared}{x:Sem Value}{Q:Flow->Shared->Prop}(hbase:bm.contains (.type "BaseException")=true) (hh:A.handled=none)
  (h:wpAny M A x (λv s₁=>∃ e t dx,v=.ref e/\s₁.heap.get? C=some (excClassObj nm q C N bs bm hdct sn sub ab col dd k0 k1 k2 k3 k5 newId)/\s₁.heap.get? e=some { cls:=.ref C,dict:=dx,data:=.fields #[.ref t,.none,.none,.none,.bool false,.none] }/\E (.ref e) s₁) E s):wpAny M A (raiseStmt env (some x) none) Q E s:=by
 have hcB:(Value.ref C::bm).contains (.type "BaseException")=true:=by rw[List.contains_cons,hbase,Bool.or_true]
 unfold raiseStmt
 refine wpAny_bind (wpAny_mono h (λv s₁ h₁=>?_) λ_ _ x=>x)
 obtain⟨e,t,dx,rfl,hC,he,hE⟩:=h₁
 obtain⟨hp,g,d,tk,os⟩:=s₁
 repeat (first | with_reducible refine wpAny_loadPart_at he ?_ | with_reducible refine wpAny_loadPart_at hC ?_ | (with_reducible refine wpAny_isSubtype_exc hC ?_;rw[hcB]) | wp_step)
 exact wpAny_raiseNew_none hh hE
end
section
variable {prog:Program}{w:World}{A:Around}{E:Value->Shared->Prop}{s:Shared}{env:Env}
variable {nm q:Str}{C N fI:Addr}{bs bm bmB:List Value}{hdct:Bool}{sn:List Str}{sub:List Value}{ab:Bool}{col:Option Bool}{dd:Option Addr}{k0 k1 k2 k3 k5:Option Value}{B newId initId:String}{mN:Str->Option Value}
theorem zA (F:ExcBaseFacts B newId initId bmB){x:Str}{np cpos pos:Pos}{args:List Expr}{Q:Flow->Shared->Prop}(hbase:bm.contains (.type "BaseException")=true) (hh:A.handled=none)
  (hplain:(backTo cpos (starEach args env)).any (·.1)=false) (hi:mN "__init__" = some (.ref fI))
  (h:wpAny (model prog w) A (eval (.Name x np) env) (λf s₁=>f=.ref C/\wpAny (model prog w) A (evalArgs (.ref C) true (backTo cpos (starEach args env)) [])
   (λa s₂=>a.kw=[]/\a.pos.length<=sizeLine/\s₂.heap.get? C=some (excClassObj nm q C N bs bm hdct sn sub ab col dd k0 k1 k2 k3 k5 newId)/\s₂.heap.Ns N mN/\OwnTail s₂.heap bmB bm/\(∃ oI,s₂.heap.get? fI=some oI/\oI.cls=.type "function") /\
    ∀ h' e,Heap.MadeExcOf s₂.heap h' e (.ref C) a.pos->wpAny (model prog w) (A.under (.builtin "type.__call__" ⟨.ref C::a.pos,[]⟩)) (call (.ref fI) (.ref e::a.pos))
     (λr s'=>r=.none/\s'.heap.get? C=some (excClassObj nm q C N bs bm hdct sn sub ab col dd k0 k1 k2 k3 k5 newId)/\(∃ t dx,s'.heap.get? e=some { cls:=.ref C,dict:=dx,data:=.fields #[.ref t,.none,.none,.none,.bool false,.none] })/\E (.ref e) s') E { s₂ with heap:=h' }) E s₁) E s):
  wpAny (model prog w) A (exec (.Raise (some (.Call (.Name x np) args [] cpos)) none pos) env) Q E s:=by
 rw[arm_exec_Raise]
 refine wpAny_bind (wpAny_standAt (BW (C:=C) (nm:=nm) (q:=q) (N:=N) (bs:=bs) (bm:=bm) (hdct:=hdct) (sn:=sn) (sub:=sub) (ab:=ab) (col:=col) (dd:=dd) (k0:=k0) (k1:=k1) (k2:=k2) (k3:=k3) (k5:=k5) (newId:=newId) hbase hh (wpAny_bind (wpAny_mono (wpAny_Call_ofName (wpAny_mono h (λf s₁ h₁=>?_) λ_ _ x=>x)) (λv s₃ h₃=>wpAny_bind (wpAny_standAt (wpAny_pure h₃))) λ_ _ x=>x))))
 obtain⟨rfl,h₁⟩:=h₁
 unfold callWith
 refine wpAny_bind (wpAny_holding (wpAny_mono h₁ (λa s₂ h₂=>wpAny_bind (wpAny_standAt ?_)) λ_ _ x=>x))
 obtain⟨apos,akw⟩:=a
 obtain⟨hkw,hlen,hC,hn,T,⟨oI,hf,hfc⟩,h₂⟩:=h₂
 obtain rfl:akw=[]:=hkw
 obtain⟨hp,g,d,tk,os⟩:=s₂
 simp only[hplain]
 refine wpAny_bind (wpAny_keeperOf_exc hC ?_)
 refine wpAny_bind (BL F T hC hn hi hf hfc (λh' e hm=>wpAny_mono (h₂ h' e hm) (λr s' z=>?_) λ_ _ z=>z) hlen)
 obtain⟨rfl,z1,⟨t,dx,z2⟩,z4⟩:=z
 exact⟨rfl,wpAny_bind (wpAny_holding (wpAny_point (wpAny_pure ⟨e,t,dx,rfl,z1,z2,z4⟩)))⟩
end
end L2
namespace L2
open PySem PySem.Spec PyProof.Rows
theorem ObjOk.there {P:Program}{w:World}{K:PySem.W.Frag}{H:Hp}{h:Heap}{a:Addr}{o:HO}(x:ObjOk P w K H h a o):∃ u,h.get? a=some u:=by
 cases o with
 | lst xs=>obtain⟨_,_,_,_,e⟩:=x;exact⟨_,e⟩
 | tup xs=>obtain⟨_,_,_,_,e,_⟩:=x;exact⟨_,e⟩
 | dK kvs=>obtain⟨_,_,_,_,o,_,_,e,_⟩:=x;exact⟨_,e⟩
 | dT kvs=>obtain⟨_,_,_,_,o,_,_,e,_⟩:=x;exact⟨_,e⟩
 | set S n=>obtain⟨o,_,_,_,e,_⟩:=x;exact⟨_,e⟩
 | ins C dx fs=>obtain⟨_,_,_,e,_⟩:=x;exact⟨_,e⟩
 | own y=>exact x
 | xd fs=>obtain⟨_,⟨_,_,_,e,_⟩,_⟩:=x;exact⟨_,e⟩
 | rng lo hi=>obtain⟨_,_,_,e⟩:=x;exact⟨_,e⟩
 | frz ob u=>obtain⟨e,_⟩:=x;exact⟨_,e⟩
 | tbl ps=>exact⟨_,(show h.get? a=some _ from x)⟩
 | met f y=>exact⟨_,(show h.get? a=some _ from x)⟩
 | ext φ=>exact x.2.1
def Grd (B h₀ h:Heap) (H:Hp) (l:List Env):Prop:=∀ b o,h.get? b=some o->B.get? b=none->b∈frs l\/(h₀.get? b=none/\H b=none)
structure Lies (X:Cx) (pins:List (Addr×Obj)) (σ:St) (H:Hp) (C:Value) (d:Option Nat) (e:Value) (s:Shared):Prop where
 inv:Inv X pins σ H s
 ex:∃ a a0 B,e=.ref a/\Heap.FlyingW B X.stack a C a0 s.heap/\X.s₀.heap.get? a=none/\H a=none/\(∀ p∈X.pn++pins,B.get? p.1=some p.2)/\Grd B X.s₀.heap s.heap H X.stack/\∃ dx,Fld s.heap a dx d/\X.s₀.heap.get? dx=none/\H dx=none/\(∀ p∈X.pn++pins,p.1≠dx)/\X.env.locals≠dx/\∀ x c,X.env.cells.lookup x=some c->c≠dx
def CXW (P:Program) (w:World) (K:PySem.W.Frag):CXT:=λouter H s E e s'=>∃ a C a0 B H',e=.ref a/\s'.os=s.os/\AllBare s'.gens/\Un (frs outer) [] H H' s.heap s'.heap/\HOk P w K H' s'.heap /\
 Heap.FlyingW B outer a C a0 s'.heap/\s.heap.get? a=none/\H' a=none/\Grd B s.heap s'.heap H' outer/\∃ dx d,Fld s'.heap a dx d/\s.heap.get? dx=none/\H' dx=none/\E C d H'
section
variable {P:Program}{w:World}{K:PySem.W.Frag}{mg:Str->Option Value}{base:Heap}{N:List Str}{qual:Str}{scope:Scope}{f:Addr}{cd:Value}{A:Around}{outer:List Env}{s:Shared}{H:Hp}{E:XK}{CX:CXT}
variable {pins:List (Addr×Obj)}{σ:St}{H1:Hp}{s1:Shared}
theorem uH {b:Addr}{env:Env}{outer:List Env}{L:Addr}(hf:env.frame=some L) (h:b∈frs (env::outer)):b=L\/b∈frs outer:=by
 unfold frs at h ⊢
 rw[List.filterMap_cons,hf] at h
 exact List.mem_cons.mp h
theorem yp (I:Inv (cR CX P w K mg base N qual scope f cd A outer s H E) pins σ H1 s1){B h2:Heap}(bs:∀ b o,B.get? b=some o->s1.heap.get? b=some o) (st:B.StaysIn h2)
  (gr:Grd B s.heap s1.heap H1 (envOfC qual scope s.heap.objs.size f cd::outer)) (up:s1.heap.UpToSlots h2):
  Un (frs outer) [] H H1 s.heap h2/\HOk P w K H1 h2/\Grd B s.heap h2 H1 outer:=by
 have u:Un (frs outer) [] H H1 s.heap s1.heap:=I.base
 have kept:∀ b o,s1.heap.get? b=some o->b∉frs (envOfC qual scope s.heap.objs.size f cd::outer)->(s.heap.get? b≠none\/H1 b≠none)->h2.get? b=some o:=λb o e n1 n2=>by
  cases q:B.get? b with
  | none=>exact((gr b o e q).elim n1 λz=>n2.elim (λy=>y z.1) λy=>y z.2).elim
  | some o'=>
   have:=bs b o' q
   rw[e] at this
   cases this
   exact st b o q
 have old:∀ b o,s.heap.get? b=some o->b∉frs outer->b∉frs (envOfC qual scope s.heap.objs.size f cd::outer):=λb o e n z=>by
  rcases uH rfl z with y | y
  ·subst y;exact absurd (Heap.lt_size e) (Nat.lt_irrefl _)
  ·exact n y
 have fr:∀ b o,s1.heap.get? b=some o->b∈frs (envOfC qual scope s.heap.objs.size f cd::outer)->∃ sl,h2.get? b=some { o with slots:=sl }:=λb o e hb=>by
  obtain⟨_,o',e',hd⟩:=I.stack.mem hb
  rw[e] at e'
  cases e'
  exact up b o e hd
 refine⟨⟨λb o q n hb hx=>?_,λb o q n hb hx=>?_,u.free,λb o q hx=>?_,u.tups,u.frzs,u.tbls⟩,λb v q=>?_,λb o q n=>?_⟩
 ·exact kept b o (u.keep b o q n hb hx) (old b o q hb) (.inl (by rw[q];exact λz=>nomatch z))
 ·obtain⟨sl,e1⟩:=u.slot b o q n hb hx
  obtain⟨sl',e2⟩:=fr b _ e1 (by unfold frs at hb ⊢;rw[List.filterMap_cons];exact List.mem_cons_of_mem _ hb)
  exact⟨sl',e2⟩
 ·obtain⟨o',e1⟩:=u.there b o q hx
  by_cases hb:b∈frs (envOfC qual scope s.heap.objs.size f cd::outer)
  ·obtain⟨sl,e2⟩:=fr b o' e1 hb
   exact⟨_,e2⟩
  ·exact⟨o',kept b o' e1 hb (.inl (by rw[q];exact λz=>nomatch z))⟩
 ·refine(I.hok b v q).stay (λc x hc r=>?_) (λ_ q=>q) λ_ _ q=>q
  have hn:H1 c≠none:=by
   rcases hc with rfl | hc
   ·rw[q];exact λz=>nomatch z
   ·rw[hc];exact λz=>nomatch z
  exact kept c x r (λz=>hn (I.stkFree c z)) (.inr hn)
 ·cases e1:s1.heap.get? b with
  | some o'=>
   rcases gr b o' e1 n with z | z
   ·rcases uH rfl z with y | y
    ·subst y;exact .inr ⟨Heap.get?_none_of_le (Nat.le_refl _),I.free⟩
    ·exact .inl y
   ·exact .inr z
  | none=>
   refine .inr ⟨?_,?_⟩
   ·cases q2:s.heap.get? b with
    | none=>rfl
    | some o2=>
     obtain⟨_,e2⟩:=u.there b o2 q2 (by simp)
     rw[e1] at e2;cases e2
   ·cases q2:H1 b with
    | none=>rfl
    | some v=>
     obtain⟨_,e2⟩:=(I.hok b v q2).there
     rw[e1] at e2;cases e2
theorem zB {C e:Value}{d:Option Nat}(L:Lies (cR (CXW P w K) P w K mg base N qual scope f cd A outer s H E) pins σ H1 C d e s1) (hE:E C d H1):(cR (CXW P w K) P w K mg base N qual scope f cd A outer s H E).xe e s1:=by
 obtain⟨a,a0,B,rfl,fl,na,nH,np,gr,dx,fd,nd,nHd,npd⟩:=L.ex
 have I:=L.inv
 show wpAny (model P w) (A.deeper (envOfC qual scope s.heap.objs.size f cd)) (leaving (envOfC qual scope s.heap.objs.size f cd) (.ref a)) (λ_ s''=>CXW P w K outer H s E (.ref a) s'') (λe' s''=>CXW P w K outer H s E e' s'') s1
 refine zy I.ok.frames rfl fl fd λh2 fl2 up fd2=>?_
 obtain⟨u2,hok2,gr2⟩:=yp I (λb o q=>fl.1 b o q) fl2.1 gr up
 exact⟨a,C,a0,B,H1,rfl,I.os,I.bare,u2,hok2,fl2,na,nH,gr2,dx,d,fd2,nd,nHd,hE⟩
theorem lies_of {X:Cx}(I:Inv X pins σ H1 s1) (hex:X.ex=[]){Q:XK}{e:Value}{s2:Shared}(h:CXW X.prog X.w X.K X.stack H1 s1 Q e s2):∃ C d H2,Lies X pins σ H2 C d e s2/\Q C d H2:=by
 obtain⟨a,C,a0,B,H2,rfl,os,bare,un,hok,fl,na,nH,gr,dx,d,fd,nd,nHd,hQ⟩:=h
 have there:∀ b o,X.s₀.heap.get? b=some o->∃ o',s1.heap.get? b=some o':=λb o q=>I.base.there b o q (by rw[hex];simp)
 have fresh:∀ b,s1.heap.get? b=none->X.s₀.heap.get? b=none:=λb q=>by
  cases z:X.s₀.heap.get? b with
  | none=>rfl
  | some o=>obtain⟨_,y⟩:=there b o z;rw[q] at y;cases y
 refine⟨C,d,H2,⟨I.call' os un hok bare (λb z=>nomatch z),a,a0,B,rfl,fl,fresh a na,nH,λp hp=>?_,λb o q n=>?_,dx,fd,fresh dx nd,nHd,λp hp z=>?_,λz=>?_,λx c q z=>?_⟩,hQ⟩
 ·obtain⟨e1,n1,nl,nf,_⟩:=I.pin p hp
  have nfr:p.1∉frs X.stack:=λz=>(List.mem_cons.mp (I.stkSub _ z)).elim nl nf
  have e2:=un.keep p.1 p.2 e1 n1 nfr (by simp)
  cases q:B.get? p.1 with
  | none=>
   rcases gr p.1 p.2 e2 q with z | z
   ·exact absurd z nfr
   ·rw[e1] at z;cases z.1
  | some o=>
   have:=fl.1 _ _ q
   rw[e2] at this
   cases this
   rfl
 ·rcases gr b o q n with z | z
  ·exact .inl z
  ·exact .inr ⟨fresh b z.1,z.2⟩
 ·obtain⟨e1,_⟩:=I.pin p hp
  rw[z,nd] at e1;cases e1
 ·obtain⟨m,⟨o,es,ep,ho,_⟩,_⟩:=I.loc
  rw[z,nd] at ho;cases ho
 ·obtain⟨v,o,ho,_⟩:=I.cell x c q
  rw[z,nd] at ho;cases ho
end
end L2
namespace L2
open PySem PySem.Spec PyProof.Rows
abbrev RX:=List (Addr×Obj)->St->Hp->Prop
def XE (X:Cx) (r:RX) (e:Expr):Prop:=∀ (pins:List (Addr×Obj)) (s:Shared) (σ:St) (H:Hp),Inv X pins σ H s->r pins σ H->wpAny (model X.prog X.w) X.A (eval e X.env) (λ_ _=>False) X.xe s
def XS (X:Cx) (r:RX) (st:Stmt):Prop:=∀ (pins:List (Addr×Obj)) (s:Shared) (σ:St) (H:Hp),Inv X pins σ H s->r pins σ H->wpAny (model X.prog X.w) X.A (exec st X.env) (λ_ _=>False) X.xe s
def XSs (X:Cx) (r:RX) (st:List Stmt):Prop:=∀ (pins:List (Addr×Obj)) (s:Shared) (σ:St) (H:Hp),Inv X pins σ H s->r pins σ H->wpAny (model X.prog X.w) X.A (execs st X.env) (λ_ _=>False) X.xe s
structure CalX (P:Program) (w:World) (K:PySem.W.Frag) (mg:Str->Option Value) (base:Heap) (k:Nat) (x:Str) (ps:List Str) (sp:Sp):Prop where
 ex:∃ f fd,FnOk P w K mg base (CXW P w K) k f fd ps sp/\Binds K fd ps []/\PySem.W.keepIn K (.ref f)=true/\mg x=some (.ref f)
theorem HJ {P:Program}{w:World}{K:PySem.W.Frag}{mg:Str->Option Value}{base:Heap}{k:Nat}{x:Str}{ps:List Str}{sp:Sp}{st:Stmt}{f:Addr}{fd:FuncData}(F:Fun K x x st f fd)
  (hm:mg x=some (.ref f)) (hb:Binds K fd ps []) (G:FnOk P w K mg base (CXW P w K) k f fd ps sp):CalX P w K mg base k x ps sp:=⟨f,fd,G,hb,F.kp,hm⟩
section
variable {X:Cx}{r r':RX}{e:Expr}{st:Stmt}{rest:List Stmt}{pos:Pos}
theorem HN (h:XE X r e) (hs:swapsWith e none pos.line X.env=pure false:=by rfl):XS X r (.Expr e pos):=λpins s σ H I q=>
 wpAny_Expr_any (thn (h pins s σ H I q) λ_ _ z=>z.elim) I.quiet hs
theorem jO (h:XS X r st):XSs X r (st::rest):=λpins s σ H I q=>wpAny_execs_cons (thn (h pins s σ H I q) λ_ _ z=>z.elim)
end
end L2
namespace MR
open PySem L2
abbrev XV:=Nat×Option Nat
def spX (C:MC) (mi:List PV->Option PV) (ro:Bool) (xi:List PV->Option XV):Sp:=λvs H Q E=>spM C mi ro vs H Q E\/∃ A ps c,Reps C A H vs ps/\xi ps=some c/\∀ H',Same H H'->E (.ref (C.cl c.1)) c.2 H'
def tX (b:BX) (G:List Nat) (W:List (Addr×Obj)->St->Hp->XV->Prop) (xf:Env->Option XV):RX:=λpins σ H=>∃ Ow env c,ER b Ow G σ env H/\xf env=some c/\W pins σ H c
def WD (b:BX) (E:XK):List (Addr×Obj)->St->Hp->XV->Prop:=λ_ _ _ c=>∀ H1,Same b.H0 H1->E (.ref (b.C.cl c.1)) c.2 H1
def WT (X:Cx) (b:BX):List (Addr×Obj)->St->Hp->XV->Prop:=λpins σ H c=>∀ H1 e s,Same H H1->Lies X pins σ H1 (.ref (b.C.cl c.1)) c.2 e s->X.xe e s
structure WOk (X:Cx) (b:BX) (W:List (Addr×Obj)->St->Hp->XV->Prop):Prop where
 up:∀ pins σ H H1 c,Same H H1->W pins σ H c->W pins σ H1 c
 go:∀ pins σ H c H1 e s,Same b.H0 H->W pins σ H c->Same H H1->Lies X pins σ H1 (.ref (b.C.cl c.1)) c.2 e s->X.xe e s
 ex:X.ex=[]
theorem Nt {X:Cx}{b:BX}(h:X.ex=[]):WOk X b (WT X b):=⟨λpins σ H H1 c s w H2 e s' s2 L=>w H2 e s' (s.trans s2) L,λpins σ H c H1 e s _ w s1 L=>w H1 e s s1 L,h⟩
theorem Gz {P:Program}{w:World}{K:PySem.W.Frag}{mg:Str->Option Value}{base:Heap}{N:List Str}{qual:Str}{scope:Scope}{f:Addr}{cd:Value}{A:Around}{outer:List PySem.Env}{s:Shared}{H:Hp}{E:XK}{b:BX}:
  WOk (cR (CXW P w K) P w K mg base N qual scope f cd A outer s H E) b (WD b E):=⟨λpins σ H H1 c s w=>w,λpins σ H c H1 e s s0 w s1 L=>zB L (w H1 (s0.trans s1)),rfl⟩
noncomputable def zE (ga:Env->Option (List PV)) (xi:List PV->Option XV) (env:Env):Option XV:=(ga env).bind xi
@[simp] theorem Pg (ga:Env->Option (List PV)) (xi:List PV->Option XV) (env:Env):zE ga xi env=((ga env).bind xi):=id rfl
noncomputable def xIf (c:Env->Option Bool) (f g:Env->Option XV) (env:Env):Option XV:=(c env).bind λk=>if k=true then f env else g env
@[simp] theorem Qz (c:Env->Option Bool) (f g:Env->Option XV) (env:Env):xIf c f g env=((c env).bind λk=>if k=true then f env else g env):=id rfl
noncomputable def tK (f:Env->Option Out) (g:Env->Option XV) (env:Env):Option XV:=(f env).bind λo=>match o with
 | .nx e=>g e
 | _=>none
@[simp] theorem Qe (f:Env->Option Out) (g:Env->Option XV) (env:Env):tK f g env=((f env).bind λo=>match o with
 | .nx e=>g e
 | _=>none):=id rfl
noncomputable def xNo (env:Env):Option XV:=none
@[simp] theorem QB (env:Env):xNo env=none:=id rfl
def xOr (f g:Env->Option XV) (env:Env):Option XV:=match f env with
 | some c=>some c
 | none=>g env
@[simp] theorem K6 (f g:Env->Option XV) (env:Env):xOr f g env=(match f env with
 | some c=>some c
 | none=>g env):=id rfl
section
variable {X:Cx}{b:BX}{G G1 L:List Nat}{ro:Bool}{W:List (Addr×Obj)->St->Hp->XV->Prop}{e:Expr}{es:List Expr}{st:Stmt}{rest sa sb:List Stmt}{pos p:Pos}{f g:Env->Option XV}
theorem HQ (wo:WOk X b W){k j:Nat}{x:Str}{ps:List Str}{mi:List PV->Option PV}{rc:Bool}{xi:List PV->Option XV}{ga:Env->Option (List PV)}(c:CalX X.prog X.w X.K X.mg X.base k x ps (spX b.C mi rc xi)) (hr:Room j X.A) (ha:SA X b G false (e::es) ga)
  (hle:k<=j:=by decide) (hgl:Gl X x:=by rfl) (hdb:(x == ("__debug__" : Str))=false:=by decide) (he:starEach (e::es) X.env=(false,eval e X.env)::starEach es X.env:=by rfl) (hpl:(backTo pos (starEach es X.env)).any (·.1)=false:=by rfl):
  XE X (tX b G W (zE ga xi)) (.Call (.Name x p) (e::es) [] pos):=by
 intro pins s σ H I ⟨Ow,env,c0,E,hx,hW⟩
 obtain⟨fa,fd,F,hb,kp,hm⟩:=c.ex
 obtain⟨qs,hga,hxi⟩:=aD hx
 refine wpAny_Call_Name_kw (kO I hgl hm ?_ hdb)
 refine PySem.W.callWith_K (h₀:=X.base) I.ok.mod.kin kp (thn (ha pos pins s σ H (λvs H1=>Same H H1/\Reps b.C (ArA b Ow false H1) H1 vs qs) I ⟨Ow,env,qs,E,hga,λvs H1 s1 rr=>⟨s1,rr⟩⟩) λus s1 ⟨vs,H1,I1,r,sm,rr⟩=>⟨I1.kIn,?_⟩) he hpl
 have hsp:spX b.C mi rc xi vs H1 (λ_ _=>False) (λC d H2=>C=.ref (b.C.cl c0.1)/\d=c0.2/\Same H1 H2):=.inr ⟨Bs b Ow,qs,c0,u6 rr,hxi,λH' s'=>⟨rfl,rfl,s'⟩⟩
 have hl:us.length=ps.length:=by rw[← r.length];exact F.len _ _ _ _ hsp
 have hbb:=hb s1 us I1.kIn (by rw[List.append_nil];exact hl)
 rw[List.append_nil] at hbb
 refine wpAny_call (codeAny_mono (F.run X.A X.stack s1 H1 ⟨us,[]⟩ us vs _ _ (hr.mono hle) I1.env0 hbb r hsp) λres s' hq=>?_)
 cases res with
 | error ex=>
  have hq':CXW X.prog X.w X.K X.stack H1 s1 (λC d H2=>C=.ref (b.C.cl c0.1)/\d=c0.2/\Same H1 H2) ex s':=hq
  obtain⟨C,d,H2,Li,hC,hd,s2⟩:=lies_of I1 wo.ex hq'
  subst hC hd
  exact wo.go pins σ H c0 H2 ex s' E.same hW (sm.trans s2) Li
 | ok fl=>
  cases fl with
  | ret u=>obtain⟨_,_,_,_,_,_,_,z⟩:=hq;exact z.elim
  | next=>exact hq.elim
  | brk=>exact hq.elim
  | cont=>exact hq.elim
theorem GC (wo:WOk X b W){c:Expr}{k:Env->Option Bool}(hc:ST X b G c k) (ha:XSs X (tX b G W f) sa) (hb:XSs X (tX b G W g) sb):XS X (tX b G W (xIf k f g)) (.If c sa sb pos):=by
 intro pins s σ H I ⟨Ow,env,c0,E,hx,hW⟩
 obtain⟨kk,hk,hx⟩:=aD hx
 refine wpAny_If (thn (hc pins s σ H (λd H1=>d=kk/\Same H H1) I ⟨Ow,env,kk,E,hk,λH1 s1=>⟨rfl,s1⟩⟩) ?_)
 rintro d s1 ⟨H1,I1,hd,sm⟩
 subst hd
 cases d with
 | true=>exact ha pins s1 σ H1 I1 ⟨Ow,env,c0,E.up sm,hx,wo.up _ _ _ _ _ sm hW⟩
 | false=>exact hb pins s1 σ H1 I1 ⟨Ow,env,c0,E.up sm,hx,wo.up _ _ _ _ _ sm hW⟩
theorem BZ:XSs X (tX b G W xNo) rest:=λpins s σ H I ⟨Ow,env,c0,E,hx,hW⟩=>nomatch hx
theorem K7 (h1:XSs X (tX b G W f) rest) (h2:XSs X (tX b G W g) rest):XSs X (tX b G W (xOr f g)) rest:=by
 rintro pins s σ H I ⟨Ow,env,c0,E,hx,hW⟩
 rw[K6] at hx
 cases q:f env with
 | some c=>rw[q] at hx;cases hx;exact h1 pins s σ H I ⟨Ow,env,_,E,q,hW⟩
 | none=>rw[q] at hx;exact h2 pins s σ H I ⟨Ow,env,c0,E,hx,hW⟩
theorem nP {E0:XK}{h:Env->Option Out}(a:SS X b G G1 L ro st h) (c:XSs X (tX b G1 (WD b E0) g) rest):XSs X (tX b G (WD b E0) (tK h g)) (st::rest):=by
 intro pins s σ H I ⟨Ow,env,c0,E,hx,hW⟩
 obtain⟨o,ho,hx⟩:=aD hx
 cases o with
 | nx e1=>
  refine wpAny_execs_cons (thn (a pins s σ H { nx:=fun σ1 H1=>tX b G1 (WD b E0) g pins σ1 H1,rt:=λ_ _=>False } I ⟨Ow,env,_,E,ho,λOw' σ' H' E' _=>⟨Ow',e1,c0,E',hx,hW⟩⟩) λfl s1 hs=>?_)
  cases fl with
  | next=>obtain⟨σ1,H1,I1,q⟩:=hs;exact c pins s1 σ1 H1 I1 q
  | ret u=>obtain⟨_,_,_,_,_,q⟩:=hs;exact q.elim
  | brk=>obtain⟨_,_,_,q⟩:=hs;exact q.elim
  | cont=>obtain⟨_,_,_,q⟩:=hs;exact q.elim
 | rt v=>cases hx
 | bk e1=>cases hx
 | ct e1=>cases hx
end
end MR
namespace MR
open PySem L2 PyProof.Rows PySem.Spec
section
variable {P:Program}{w:World}{K:PySem.W.Frag}{mg:Str->Option Value}{base:Heap}{N:List Str}{qual:Str}{scope:Scope}{f:Addr}{cd:Value}{A:Around}{outer:List PySem.Env}{s:Shared}{H:Hp}{E:XK}
noncomputable def tL (n k:Nat) (f:Env->Option XV) (ps:List PV):Option XV:=if ps.length=k then f (ps.map some++List.replicate (n - k) none) else none
@[simp] theorem Qf (n k:Nat) (f:Env->Option XV) (ps:List PV):tL n k f ps=(if ps.length=k then f (ps.map some++List.replicate (n - k) none) else none):=id rfl
theorem HR {C:MC}{n k:Nat}{ro:Bool}{g:Env->Option Out}{xf:Env->Option XV}{ps:List Str}(hk:ps.length=k){vs:List V}{H:Hp}{Q:VK}{E:XK}(h:spX C (cP n k ro g) ro (tL n k xf) vs H Q E):vs.length=ps.length:=by
 rcases h with ⟨A,qs,p,r,hm,_⟩ | ⟨A,qs,c,r,hm,_⟩
 ·unfold cP at hm
  split at hm
  ·rename_i hl;rw[r.length,hl,hk]
  ·cases hm
 ·unfold tL at hm
  split at hm
  ·rename_i hl;rw[r.length,hl,hk]
  ·cases hm
theorem E_ {C:MC}{n k:Nat}{G G' L:List Nat}{ro:Bool}{body:List Stmt}{g:Env->Option Out}{xf:Env->Option XV}(hN:N.length=n) (hk:k<=n) (hG:(G.all λi=>decide (k<=i))=true)
  (hb:∀ B H',SSs (cR (CXW P w K) P w K mg base N qual scope f cd A outer s H E).nox ⟨C,B,H',λ_=>none⟩ G G' L ro body g)
  (hx:∀ B H',XSs (cR (CXW P w K) P w K mg base N qual scope f cd A outer s H E) (tX ⟨C,B,H',λ_=>none⟩ G (WD ⟨C,B,H',λ_=>none⟩ E) xf) body)
  {vs:List V}{Q:VK}(h:spX C (cP n k ro g) ro (tL n k xf) vs H Q E):∃ t,PSs (cR (CXW P w K) P w K mg base N qual scope f cd A outer s H E) body t/\t { nx:=λ_ H'=>Q .non H',rt:=Q } (L2.start N vs) H:=by
 rcases h with h | ⟨B,ps,c,r,hm,kk⟩
 ·obtain⟨t,h1,h2⟩:=bR (X:=(cR (CXW P w K) P w K mg base N qual scope f cd A outer s H E).nox) hN hk hG hb h
  exact⟨t,h1.nox,h2⟩
 ·refine⟨λ_ σ H'=>tX ⟨C,B,H,λ_=>none⟩ G (WD ⟨C,B,H,λ_=>none⟩ E) xf [] σ H',λpins s1 σ H1 D I q=>?_,?_⟩
  ·obtain⟨Ow,env,c0,Er,hx1,hW⟩:=q
   exact wpAny_mono (hx B H pins s1 σ H1 I ⟨Ow,env,c0,Er,hx1,hW⟩) (λ_ _ z=>z.elim) λ_ _ z=>z
  ·unfold tL at hm
   split at hm
   ·rename_i hl
    exact⟨_,_,c,vY (N:=N) (G:=G) r (λi hi=>by rw[hl];simpa using List.all_eq_true.mp hG i hi) (by omega),by rw[hN,hl];exact hm,λH1 s1=>kk H1 s1⟩
   ·cases hm
end
section
variable {P:Program}{w:World}{K:PySem.W.Frag}{mg:Str->Option Value}{base:Heap}
theorem HS {x qual:Str}{st:Stmt}{f:Addr}{fd:FuncData}{N ps:List Str}{k:Nat}{sp:Sp}(F:Fun K x qual st f fd) (S:FnScope N ps (au st)) (len:∀ vs H Q E,sp vs H Q E->vs.length=ps.length)
  (hbody:∀ (cdv:Value) (A:Around) (outer:List PySem.Env) (s:Shared) (H:Hp) (vs:List V) (Q:VK) (E:XK),Room k (A.deeper (envOfC qual (au st) s.heap.objs.size f cdv))->sp vs H Q E->
   ∃ t,PSs (cR (CXW P w K) P w K mg base N qual (au st) f cdv A outer s H E) (aR st) t/\t { nx:=λ_ H'=>Q .non H',rt:=Q } (start N vs) H):FnOk P w K mg base (CXW P w K) (k+1) f fd ps sp:=by
 obtain⟨oc,od,kV,doc,pm,an,cdv,ct,osl,rfl,lk,hcd⟩:=F.ex
 exact Gq lk hcd S len λA outer s H vs Q E hr hsp=>hbody cdv A outer s H vs Q E hr hsp
theorem HW {C:MC}{k:Nat}{f:Addr}{fd:FuncData}{ps:List Str}{mi:List PV->Option PV}{ro:Bool}{xi:List PV->Option XV}(F:FnOk P w K mg base (CXW P w K) k f fd ps (spX C mi ro xi)):FnOk P w K mg base CX0 k f fd ps (spM C mi ro):=by
 refine⟨λvs H Q E h=>F.len vs H Q E (.inl h),λA outer s H args us vs Q E hr e0 hb hv hs=>?_⟩
 refine codeAny_mono (F.run A outer s H args us vs Q E0 hr e0 hb hv (.inl hs)) λr s' h=>?_
 cases r with
 | ok fl=>cases fl <;> exact h
 | error e=>
  obtain⟨_,_,_,_,_,_,_,_,_,_,_,_,_,_,_,_,_,_,_,z⟩:=(show CXW P w K outer H s E0 e s' from h)
  exact z.elim
theorem Fb {C:MC}{k:Nat}{x:Str}{ps:List Str}{mi:List PV->Option PV}{ro:Bool}{xi:List PV->Option XV}(c:CalX P w K mg base k x ps (spX C mi ro xi)):Cal P w K mg base k x ps (spM C mi ro):=by
 obtain⟨f,fd,F,hb,kp,hm⟩:=c.ex
 exact⟨f,fd,HW F,hb,kp,hm⟩
end
end MR
namespace L2
open PySem PySem.Spec PyProof.Rows
def ExcAt (a C:Addr) (dx:Option Addr) (h:Heap):Prop:=∃ o vs,h.get? a=some o/\o.cls=.ref C/\o.data=.fields vs/\∀ x,dx=some x->o.dict=some x
def exo (a C:Addr) (dx:Option Addr):HO:=.ext (ExcAt a C dx)
theorem B_ {P:Program}{w:World}{K:PySem.W.Frag}{H:Hp}{h:Heap}{a C:Addr}{dx:Option Addr}(e:ExcAt a C dx h):ObjOk P w K H h a (exo a C dx):=by
 obtain⟨o,vs,q1,q2,q3,q4⟩:=e
 exact⟨⟨o,vs,q1,q2,q3,q4⟩,⟨o,q1⟩,λg1 g2 ⟨o',vs',r1,r2,r3,r4⟩ k=>⟨o',vs',k _ r1,r2,r3,r4⟩⟩
def XAt (x:Addr) (n:Nat) (h:Heap):Prop:=∃ m t,h.Ns x m/\m "at" = some (.int (n:Int) t)
def xat (x:Addr) (n:Nat):HO:=.ext (XAt x n)
theorem K8 {P:Program}{w:World}{K:PySem.W.Frag}{H:Hp}{h:Heap}{x:Addr}{n:Nat}(e:XAt x n h):ObjOk P w K H h x (xat x n):=by
 obtain⟨m,t,⟨o,es,ep,ho,r⟩,e2⟩:=e
 exact⟨⟨m,t,⟨o,es,ep,ho,r⟩,e2⟩,⟨o,ho⟩,λg1 g2 ⟨m',t',⟨o',es',ep',ho',r'⟩,e2'⟩ k=>⟨m',t',⟨o',es',ep',k _ ho',r'⟩,e2'⟩⟩
def v_ (H:Hp) (a dx C:Addr):Option Nat->Hp
 | none=>upd H a (exo a C none)
 | some n=>upd (upd H dx (xat dx n)) a (exo a C (some dx))
def Cx.hd1 (X:Cx) (a:Addr):Cx:={ X with A:=X.A.mark (some (.ref a)),calm:=false,xe:=λ_ _=>False }
section
variable {X:Cx}{pins:List (Addr×Obj)}{σ:St}{H:Hp}{s:Shared}
theorem Inv.mark1 (I:Inv X pins σ H s) (a:Addr):Inv (X.hd1 a) pins σ H s:=
 ⟨⟨I.ok.mod,I.ok.kind,I.ok.glob,I.ok.blt,I.ok.above,I.ok.inj,I.ok.has,I.ok.cab,(λz=>nomatch z),I.ok.frames,I.ok.stk,I.ok.exf,I.ok.bs,I.ok.bsz,I.ok.noex,I.ok.exfs,I.ok.funs,I.ok.frf⟩,I.os,I.bare,I.base,I.loc,I.cell,I.free,I.freeC,I.pin,I.hok,I.len⟩
theorem Inv.unmark1 (ok:X.Ok){a:Addr}(I:Inv (X.hd1 a) pins σ H s):Inv X pins σ H s:=⟨ok,I.os,I.bare,I.base,I.loc,I.cell,I.free,I.freeC,I.pin,I.hok,I.len⟩
theorem yq (I:Inv X pins σ H s) (hex:X.ex=[]){B h2:Heap}(bs:∀ b o,B.get? b=some o->s.heap.get? b=some o) (st:B.StaysIn h2) (gr:Grd B X.s₀.heap s.heap H X.stack) (up:s.heap.UpToSlots h2)
  (pn:∀ p∈X.pn++pins,B.get? p.1=some p.2):Inv X pins σ H { s with heap:=h2 }:=by
 have u:=I.base
 have kept:∀ b o,s.heap.get? b=some o->b∉frs X.stack->(X.s₀.heap.get? b≠none\/H b≠none)->h2.get? b=some o:=λb o e n1 n2=>by
  cases q:B.get? b with
  | none=>exact((gr b o e q).elim n1 λz=>n2.elim (λy=>y z.1) λy=>y z.2).elim
  | some o'=>
   have:=bs b o' q
   rw[e] at this
   cases this
   exact st b o q
 have old:∀ b o,X.s₀.heap.get? b=some o->b∉X.fs->b∉frs X.stack:=λb o e n z=>by
  rcases List.mem_cons.mp (I.stkSub b z) with y | y
  ·subst y;exact absurd (Nat.lt_of_lt_of_le (Heap.lt_size e) I.ok.above) (Nat.lt_irrefl _)
  ·exact n y
 have cells:∀ c v,s.heap.IsCell c v->h2.IsCell c v:=by
  rintro c v ⟨o,ho,hd⟩
  obtain⟨sl,e⟩:=up c o ho λvs z=>by rw[hd] at z;cases z
  exact⟨_,e,hd⟩
 refine⟨I.ok,I.os,I.bare,⟨λb o q n hb hx=>?_,λb o q n hb hx=>?_,u.free,λb o q hx=>?_,u.tups,u.frzs,u.tbls⟩,?_,λx c e=>?_,I.free,I.freeC,λp hp=>?_,λb v q=>?_,I.len⟩
 ·exact kept b o (u.keep b o q n hb hx) (old b o q hb) (.inl (by rw[q];exact λz=>nomatch z))
 ·obtain⟨sl,e1⟩:=u.slot b o q n hb hx
  obtain⟨_,o',e',hd⟩:=I.funs.mem hb
  rw[e1] at e'
  cases e'
  obtain⟨sl',e2⟩:=up b _ e1 hd
  exact⟨sl',e2⟩
 ·obtain⟨o',e1⟩:=u.there b o q hx
  by_cases hb:b∈frs X.stack
  ·obtain⟨_,o2,e2,hd⟩:=I.stack.mem hb
   rw[e1] at e2
   cases e2
   obtain⟨sl,e3⟩:=up b _ e1 hd
   exact⟨_,e3⟩
  ·exact⟨o',kept b o' e1 hb (.inl (by rw[q];exact λz=>nomatch z))⟩
 ·obtain⟨m,hn,hl⟩:=I.loc
  refine⟨m,up.ns hn,λi x v e1 e2 e3=>?_⟩
  obtain⟨w',r,l⟩:=hl i x v e1 e2 e3
  refine⟨w',r,?_⟩
  rcases l with l | ⟨k,c,e,z⟩
  ·exact .inl l
  ·exact .inr ⟨k,c,e,cells c _ z⟩
 ·obtain⟨v,z⟩:=I.cell x c e
  exact⟨v,cells c v z⟩
 ·obtain⟨_,n,nl,nf,d⟩:=I.pin p hp
  exact⟨st _ _ (pn p hp),n,nl,nf,d⟩
 ·refine(I.hok b v q).stay (λc x hc r=>?_) (λ_ q=>q) λ_ _ q=>q
  have hn:H c≠none:=by
   rcases hc with rfl | hc
   ·rw[q];exact λz=>nomatch z
   ·rw[hc];exact λz=>nomatch z
  exact kept c x r (λz=>hn (I.stkFree c z)) (.inr hn)
theorem Inv.trackE (I:Inv X pins σ H s){a:Addr}{φ:Heap->Prop}(e:∀ H',ObjOk X.prog X.w X.K H' s.heap a (.ext φ)) (na:X.s₀.heap.get? a=none) (nH:H a=none) (np:∀ p∈X.pn++pins,p.1≠a) (nL:X.env.locals≠a) (nC:∀ x c,X.env.cells.lookup x=some c->c≠a):Inv X pins σ (upd H a (.ext φ)) s:=by
 have u:=I.base
 refine⟨I.ok,I.os,I.bare,⟨u.keep,u.slot,λb o q n hx=>?_,u.there,λb xs q=>?_,λb o xs q=>?_,λb ps q=>?_⟩,I.loc,I.cell,?_,λx c q=>?_,λp hp=>?_,λb v q=>?_,I.len⟩
 ·rw[aH (λz=>by rw[z,na] at q;cases q)];exact u.free b o q n hx
 ·rw[aH (aV (u.tups b xs q) nH)];exact u.tups b xs q
 ·rw[aH (aV (u.frzs b o xs q) nH)];exact u.frzs b o xs q
 ·obtain⟨more,z⟩:=u.tbls b ps q
  exact⟨more,by rw[aH (aV z nH)];exact z⟩
 ·rw[aH nL];exact I.free
 ·rw[aH (nC x c q)];exact I.freeC x c q
 ·obtain⟨e1,n,nl,nf,d⟩:=I.pin p hp
  exact⟨e1,by rw[aH (np p hp)];exact n,nl,nf,d⟩
 ·by_cases hb:b=a
  ·subst hb
   rw[bf] at q
   cases q
   exact e _
  ·rw[aH hb] at q
   exact(I.hok b v q).stay (λc x _ r=>r) (λc r=>by rw[aH (aV r nH)];exact r) λc xs r=>by rw[aH (aV r nH)];exact r
theorem jz (I:Inv X pins σ H s){a:Addr}{oe:Obj}{vs:Array Value}(he:s.heap.get? a=some oe) (hd:oe.data=.fields vs):X.env.locals≠a/\∀ x c,X.env.cells.lookup x=some c->c≠a:=by
 refine⟨λz=>?_,λx c q z=>?_⟩
 ·obtain⟨m,⟨o,es,ep,ho,hdd,_⟩,_⟩:=I.loc
  rw[z,he] at ho
  cases ho
  rw[hd] at hdd;cases hdd
 ·obtain⟨v,o,ho,hdd⟩:=I.cell x c q
  rw[z,he] at ho
  cases ho
  rw[hd] at hdd;cases hdd
theorem Inv.trackX (I:Inv X pins σ H s){a dx C:Addr}{d:Option Nat}{oe:Obj}{vs:Array Value}(he:s.heap.get? a=some oe) (hc:oe.cls=.ref C) (hd:oe.data=.fields vs) (f:Fld s.heap a dx d)
  (na:X.s₀.heap.get? a=none) (nH:H a=none) (np:∀ p∈X.pn++pins,p.1≠a) (nd:X.s₀.heap.get? dx=none) (nHd:H dx=none) (npd:∀ p∈X.pn++pins,p.1≠dx) (nL:X.env.locals≠dx) (nC:∀ x c,X.env.cells.lookup x=some c->c≠dx):Inv X pins σ (v_ H a dx C d) s:=by
 cases d with
 | none=>exact I.trackE (λH'=>B_ ⟨oe,vs,he,hc,hd,λx z=>nomatch z⟩) na nH np (jz I he hd).1 (jz I he hd).2
 | some n=>
  obtain⟨⟨oe',e1,e2⟩,m,t,hn,hm⟩:=f
  rw[he] at e1
  cases e1
  have ne:a≠dx:=λz=>by
   obtain⟨o,es,ep,ho,hdd,_⟩:=hn
   rw[← z,he] at ho
   cases ho
   rw[hd] at hdd;cases hdd
  have I1:=I.trackE (φ:=XAt dx n) (λH'=>K8 ⟨m,t,hn,hm⟩) nd nHd npd nL nC
  exact I1.trackE (φ:=ExcAt a C (some dx)) (λH'=>B_ ⟨oe,vs,he,hc,hd,λx z=>by cases z;exact e2⟩) na (by rw[aH ne];exact nH) np (jz I he hd).1 (jz I he hd).2
theorem name_goes {M:Model}{A:Around}{E:Value->Shared->Prop}{Q:Unit->Shared->Prop}{i:Nat}{n:Str}{pos:Pos}(I:Inv X pins σ H s) (nd:X.N.Nodup) (hi:X.N[i]?=some n) (hk:X.env.scope.names.lookup n=some .local)
  (h:∀ s',Inv X pins (σ.set i none) H s'->Q () s'):wpAny M A (do bindName X.env n .none;unbindBehindTheSuite X.env n pos) Q E s:=by
 obtain⟨m,hn,hl⟩:=id I.loc
 have hcls:(X.env.scope.kind == .class||(X.env.scope.kind == .module&&X.env.locals != X.env.globals))=false:=by rw[I.ok.kind];rfl
 refine wpAny_nameGoes_keeps hk hn hcls λh' v hn' hs=>?_
 obtain⟨oL,_,_,hoL,_⟩:=id hn
 have far:∀ b o,X.s₀.heap.get? b=some o->b≠X.env.locals:=λb o e=>Nat.ne_of_lt (Nat.lt_of_lt_of_le (Heap.lt_size e) I.ok.above)
 refine h _ ⟨I.ok,I.os,I.bare,⟨λb o e n hb hx=>(hs.2 b (far b o e)).trans (I.base.keep b o e n hb hx),λb o e n hb hx=>?_,I.base.free,λb o e hx=>?_,I.base.tups,I.base.frzs,I.base.tbls⟩,⟨_,hn',λj y v' e1 e2 e3=>?_⟩,λy c e=>?_,I.free,I.freeC,λp hp=>?_,λb v q=>?_,by rw[List.length_set];exact I.len⟩
 ·obtain⟨sl,e1⟩:=I.base.slot b o e n hb hx
  exact⟨sl,(hs.2 b (far b o e)).trans e1⟩
 ·obtain⟨o',e1⟩:=I.base.there b o e hx
  exact⟨o',(hs.2 b (far b o e)).trans e1⟩
 ·have hj:i≠j:=λz=>by
   subst z
   rw[List.getElem?_set] at e2
   split at e2
   ·split at e2 <;> cases e2
   ·exact absurd rfl ‹¬ i=i›
  rw[List.getElem?_set_ne hj] at e2
  obtain⟨u',r',q⟩:=hl j y v' e1 e2 e3
  refine⟨u',r',?_⟩
  rcases q with ⟨k,e⟩ | ⟨k,c,e,z⟩
  ·refine .inl ⟨k,?_⟩
   have:y≠n:=λe=>hj (qt nd (e▸hi) e1)
   show (if y=n then v else m y)=some u'
   rw[if_neg this];exact e
  ·exact .inr ⟨k,c,e,z.sameBut hs (I.cne y c e)⟩
 ·obtain⟨w',z⟩:=I.cell y c e
  exact⟨w',z.sameBut hs (I.cne y c e)⟩
 ·obtain⟨e,n,ne,nf,d⟩:=I.pin p hp
  exact⟨(hs.2 p.1 ne).trans e,n,ne,nf,d⟩
 ·refine(I.hok b v q).stay (λc x hc r=>(hs.2 c ?_).trans r) (λ_ q=>q) λ_ _ q=>q
  rintro rfl
  rcases hc with z | z
  ·rw[← z,I.free] at q;cases q
  ·rw[I.free] at z;cases z
end
end L2
namespace MR
open PySem L2 PyProof.Rows PySem.Spec
theorem yr {X:Cx}{b:BX}{G:List Nat}{body:List Stmt}{tn:TS}{xf:Env->Option XV}{cx n wn:Str}{Cc:Addr}{iw ie:Nat}{np p1 p2 p3 hp pos:Pos}(hX:∀ e s,X.xe e s->False) (hex:X.ex=[]) (hst:X.stack=X.env::X.outer) (hfr:X.env.frame=some X.env.locals) (ndp:X.N.Nodup)
  (hn:X.N[ie]?=some n) (hnl:X.env.scope.names.lookup n=some .local) (hw:X.N[iw]?=some wn) (hwl:Loc X.env.scope wn) (hgl:Gl X cx) (hm:X.mg cx=some (.ref Cc)) (h1:PSs X body tn) (h2:∀ E',XSs (X.wish E') (tX b G (WT (X.wish E') b) xf) body)
  (hd:(cx == ("__debug__" : Str))=false:=by decide) (hdn:(n == ("__debug__" : Str))=false:=by decide) (hcn:(n == ("__classdict__" : Str))=false:=by decide)
  (hsw:swapsWith (.Name n p2) (some (.Name wn p1)) p3.line X.env=pure false:=by rfl) (hfn:X.fn wn=true\/X.env.scope.names.lookup wn=some .local:=by first | exact .inl rfl | exact .inr rfl | assumption):
  PS X (.Try body [.ExceptHandler (some (.Name cx np)) (some n) [.Assign [.Name wn p1] (.Name n p2) p3] hp] [] [] pos) (λD σ H=>tn D σ H\/∃ Ow env c,ER b Ow G σ env H/\xf env=some c/\PySem.W.exmOne X.K (.ref (b.C.cl c.1)) (.ref Cc)=some true /\
   ∀ a dx H1,Same H H1->H1 a=none->H1 dx=none->(c.2.isSome=true->a≠dx)->D.nx (((σ.set ie (some (.ref a))).set iw (some (.ref a))).set ie none) (v_ H1 a dx (b.C.cl c.1) c.2)):=by
 intro pins s σ H D I q
 rcases q with q | ⟨Ow,env,c,E,hxf,hexm,kk⟩
 ·refine wpAny_Try_except (wpAny_mono (h1 pins s σ H D I q) (λf s1 hs=>?_) λe s1 hs=>(hX e s1 hs).elim)
  cases f with
  | next=>exact wpAny_execs_nil hs
  | ret u=>exact hs
  | brk=>exact hs
  | cont=>exact hs
 ·refine wpAny_Try_except (wpAny_mono (h2 (λe s₁=>wpAny (model X.prog X.w) X.A (noteFrame e X.env) (λ_ s₂=>wpAny (model X.prog X.w) X.A (setFlight e none) (λ_ s₃=>wpAny (model X.prog X.w) X.A (handleBy e X.env [.ExceptHandler (some (.Name cx np)) (some n) [.Assign [.Name wn p1] (.Name n p2) p3] hp]) (SP X pins D) X.xe s₃) X.xe s₂) X.xe s₁) pins s σ H (I.wish _) ⟨Ow,env,c,E,hxf,λH1 ex s1 sm Li=>?_⟩) (λ_ _ z=>z.elim) λ_ _ z=>z)
  obtain⟨a,a0,B,rfl,fl,na,nH,pn,gr,dx,fd,nd,nHd,npd,nLd,nCd⟩:=Li.ex
  have I1:Inv X pins σ H1 s1:=Li.inv.wish X.xe
  have fl:Heap.FlyingW B X.stack a (.ref (b.C.cl c.1)) a0 s1.heap:=fl
  have pn:∀ p∈X.pn++pins,B.get? p.1=some p.2:=pn
  have gr:Grd B X.s₀.heap s1.heap H1 X.stack:=gr
  have npd:∀ p∈X.pn++pins,p.1≠dx:=npd
  have nd:X.s₀.heap.get? dx=none:=nd
  have nLd:X.env.locals≠dx:=nLd
  have nCd:∀ x c,X.env.cells.lookup x=some c->c≠dx:=nCd
  rw[hst] at fl
  have ok:=I.ok
  have frm:X.A.frames=some (X.env::X.outer):=by rw[← hst];exact ok.frames
  show wpAny (model X.prog X.w) X.A (noteFrame (.ref a) X.env) _ X.xe s1
  refine BP frm hfr fl fd λh4 held4 up4 fd4=>?_
  refine BR held4 fd4 λh5 fl5 up5 fd5=>?_
  have np:∀ p∈X.pn++pins,p.1≠a:=λp hp z=>by
   have:=pn p hp
   rw[z,fl.2.1] at this;cases this
  have up45:=up4.trans up5
  have I5:Inv X pins σ H1 { s1 with heap:=h5 }:=yq I1 hex (λb o q=>fl.1 b o q) fl5.1 gr up45 pn
  obtain⟨oe,vs,hoe,hoc,hod,_⟩:=fl5.first
  refine wpAny_handleBy_cons (codeAny_handlers_test ?_) (by intro q;cases q)
  refine kO (X:=X.hd1 a) (I5.mark1 a) hgl hm ?_ hd
  have LT:PySem.W.Looks (model X.prog X.w) h5 (typeOf (.ref a)) (.ref (b.C.cl c.1)):=hoc▸(PySem.W.Looks.ld hoe).andThen .now
  refine PySem.W.Looks.here (PySem.W.exm_one I5.kIn LT hexm) ?_
  show codeAny (model X.prog X.w) (X.A.mark (some (.ref a))) (.handlers (.ref a) [.ExceptHandler none (some n) [.Assign [.Name wn p1] (.Name n p2) p3] hp] X.env) _ { s1 with heap:=h5 }
  refine codeAny_handlers_suite_as ?_
  refine zz fl5 fd5 λh6 fl6 up6 fd6=>?_
  have I6:Inv X pins σ H1 { s1 with heap:=h6 }:=yq I1 hex (λb o q=>fl.1 b o q) fl6.1 gr (up45.trans up6) pn
  obtain⟨o6,v6,ho6,hc6,hd6,_⟩:=fl6.first
  have I7:=(I6.trackX (a:=a) (C:=b.C.cl c.1) ho6 hc6 hd6 fd6 na nH np nd nHd npd nLd nCd).mark1 a
  have ned:c.2.isSome=true->a≠dx:=λz y=>by
   cases q:c.2 with
   | none=>rw[q] at z;cases z
   | some n=>
    rw[q] at fd6
    obtain⟨_,m,t,⟨o,es,ep,ho,hdd,_⟩,_⟩:=fd6
    rw[← y,ho6] at ho
    cases ho
    rw[hd6] at hdd;cases hdd
  have hil:ie < σ.length:=by rw[I.len];exact(List.getElem?_eq_some_iff.mp hn).1
  refine qu (X:=X.hd1 a) I7 ndp hn (.inl hnl) (v:=.ref a) rfl (λs8 I8=>?_) (.inr hnl)
  have st:=pI (qU (X:=X.hd1 a) (pos':=p1) (pos:=p3) ndp hw hwl (eY (X:=X.hd1 a) (pos:=p2) hn (.inl hnl) hdn hcn) hsw hfn)
  refine wpAny_mono (st pins s8 _ _ { nx:=fun σ9 H9=>σ9=(σ.set ie (some (.ref a))).set iw (some (.ref a))/\H9=v_ H1 a dx (b.C.cl c.1) c.2,rt:=λ_ _=>False } I8 ⟨.ref a,List.getElem?_set_self hil,rfl,rfl⟩) (λf s9 hs=>?_) λ_ _ z=>z.elim
  cases f with
  | next=>
   obtain⟨σ9,H9,I9,e1,e2⟩:=hs
   subst e1 e2
   exact name_goes (I9.unmark1 ok) ndp hn hnl λs10 I10=>⟨_,_,I10,kk a dx H1 sm nH nHd ned⟩
  | ret u=>obtain⟨_,_,_,_,_,z⟩:=hs;exact z.elim
  | brk=>obtain⟨_,_,_,z⟩:=hs;exact z.elim
  | cont=>obtain⟨_,_,_,z⟩:=hs;exact z.elim
end MR
namespace L2
open PySem PySem.Spec PyProof.Rows
structure XCls (K:PySem.W.Frag) (C:Addr):Prop where
 ga:PySem.W.findIn K (.ref C) "__getattribute__" = some (some (.builtin "BaseException.__getattribute__"))
 gr:PySem.W.findIn K (.ref C) "__getattr__" = some none
 cl:PySem.W.findIn K (.ref C) "__class__" = some (some (.builtin "object.__class__"))
 bo:PySem.W.mroIn K C (.type "object")=some true
 be:PySem.W.mroIn K C (.type "BaseException")=some true
section
variable {prog:Program}{w:World}{A:Around}{E:Value->Shared->Prop}{h:Heap}{g:Array GenState}{d:Drawn}{t:Nat}{os:OsState}{a C:Addr}{dx:Option Addr}{K:PySem.W.Frag}
theorem Fd {R:Result->Shared->Prop}(KI:K.In h) (xc:XCls K C) (ex:ExcAt a C dx h) (hq:R (.ok (.ret (.ref C))) ⟨h,g,d,t,os⟩):
  codeAny (model prog w) A (.call (.builtin "getset_descriptor.__get__") ⟨[.builtin "object.__class__",.ref a,.ref C],[]⟩) R ⟨h,g,d,t,os⟩:=by
 obtain⟨o,vs,hx,hc,hd,_⟩:=ex
 have hT5:(⟨h,g,d,t,os⟩:Shared).TypeIs (.builtin "object.__class__") "getset_descriptor" := F.typeOf_object_class
 have Lo:=PySem.W.looks_mroIn (M:=model prog w) KI xc.bo
 refine codeAny_call_builtin F.slot_gs_get.plain F.entry_gs_get (F.slot_gs_get.check _ _ _ _ _ _ _ _ hT5 (F.args_gs_get _ _ _) ?_)
 repeat (any_goals (first | assumption | (with_reducible refine wpAny_loadPart_at hx ?_;rw[hc]) | (rw[F.owner_object_class];with_reducible refine Lo.at ?_) | with_reducible refine Lo.at ?_ | wp_step))
 refine⟨Code.quiet_builtin _ (by decide +kernel),codeAny_builtin F.entry_object_class ?_⟩
 repeat (any_goals (first | assumption | (with_reducible refine wpAny_loadPart_at hx ?_;rw[hc]) | wp_step))
theorem Fe {tk:Tok}{Q:Fin->Shared->Prop}(KI:K.In h) (xc:XCls K C) (ex:ExcAt a C dx h) (hq:Q (.done (.ret (.ref C))) ⟨h,g,d,t,os⟩):
  wpAny (model prog w) A (Builtin.«object.__getattribute__» ⟨[.ref a,.str "__class__" tk],[]⟩) Q E ⟨h,g,d,t,os⟩:=by
 obtain⟨o,vs,hx,hc,hd,_⟩:=id ex
 have hT5:(⟨h,g,d,t,os⟩:Shared).TypeIs (.builtin "object.__class__") "getset_descriptor" := F.typeOf_object_class
 have f5:=F.typeOf_object_class
 have f6:=F.slot_gs_get.lookup
 have f7:=F.slot_gs_set.lookup
 have Lc:=PySem.W.looks_findIn (M:=model prog w) KI xc.cl
 repeat (any_goals (first | assumption | (with_reducible refine wpAny_loadPart_at hx ?_;rw[hc]) | with_reducible refine Lc.at ?_ | wp_step))
 refine Fd KI xc ex ?_
 repeat (any_goals (first | assumption | wp_step))
theorem HX {M:Model}{nameV:Value}{Q:Unit->Shared->Prop}(KI:K.In h) (xc:XCls K C) (ex:ExcAt a C dx h) (hq:Q () ⟨h,g,d,t,os⟩):wpAny M A (checkBuiltinCall "BaseException.__getattribute__" ⟨[.ref a,nameV],[]⟩) Q E ⟨h,g,d,t,os⟩:=by
 obtain⟨o,vs,hx,hc,hd,_⟩:=ex
 have k1:builtinKind "BaseException.__getattribute__" = some .slot:=by decide +kernel
 have k2:splitId "BaseException.__getattribute__" = some ("BaseException", "__getattribute__"):=by decide +kernel
 have ha:=F.args_bexc_ga (.ref a) nameV
 have Lb:=PySem.W.looks_mroIn (M:=M) KI xc.be
 simp only[checkBuiltinCall,k1,k2]
 refine wpAny_bind ?_
 unfold isInstance
 repeat (first | (with_reducible refine wpAny_loadPart_at hx ?_;rw[hc]) | with_reducible refine Lb.at ?_ | wp_step)
 exact hq
theorem Ff {tk:Tok}{fill expr:Bool}{Q:Value->Shared->Prop}(KI:K.In h) (xc:XCls K C) (ex:ExcAt a C dx h) (hq:Q (.ref C) ⟨h,g,d,t,os⟩):wpAny (model prog w) A (getAttrBy (.ref a) (.str "__class__" tk) fill expr) Q E ⟨h,g,d,t,os⟩:=by
 obtain⟨o,vs,hx,hc,hd,_⟩:=id ex
 have f3:=F.excAttr_ValueError.ga.bind (.ref a)
 have x0:(expr&&onTheHeap (Value.builtin "BaseException.__getattribute__"))=false:=by cases expr <;> rfl
 have x2:(Value.builtin "BaseException.__getattribute__" == Value.builtin "object.__getattribute__")=false:=by decide +kernel
 have x1:(onTheHeap (Value.ref C)&&Value.builtin "BaseException.__getattribute__" == Value.builtin "object.__getattribute__")=false:=by rw[x2];exact Bool.and_false _
 have Lg:=PySem.W.looks_findIn (M:=model prog w) KI xc.ga
 have Lr:=PySem.W.looks_findIn (M:=model prog w) KI xc.gr
 repeat (any_goals (first | assumption | (with_reducible refine wpAny_loadPart_at hx ?_;rw[hc]) | with_reducible refine Lg.at ?_ | with_reducible refine Lr.at ?_ | wp_step))
 refine codeAny_call_builtin F.excAttr_ValueError.ga.plain F.entry_bexc_ga (HX KI xc ex (Fe KI xc ex ?_))
 repeat (any_goals (first | assumption | wp_step))
theorem Ca {Q:Option Value->Shared->Prop}(KI:K.In h) (xc:XCls K C) (ex:ExcAt a C dx h) (hq:Q (some (.ref C)) ⟨h,g,d,t+1,os⟩):wpAny (model prog w) A (getAttr? (.ref a) "__class__") Q E ⟨h,g,d,t,os⟩:=by
 unfold getAttr? getAttrBy?
 repeat (any_goals (first | assumption | with_reducible apply Ff KI xc ex | wp_step))
end
theorem yt {K:PySem.W.Frag}{C:Addr}{base:Value}{r:Bool}(e:PySem.W.mroIn K C base=some r):∃ c dd cd sl,K.lookup C=some ⟨c,dd,.cls cd,sl⟩:=by
 obtain⟨cd,q,_⟩:=Option.bind_eq_some_iff.mp e
 unfold PySem.W.clsIn at q
 split at q
 ·rename_i c' d' cd' sl' ho;exact⟨_,_,_,_,ho⟩
 ·cases q
theorem Fg {K:PySem.W.Frag}{a C:Addr}{dx:Option Addr}(xc:XCls K C):PySem.W.KitX K (.ref a) (.ref C) (ExcAt a C dx) where
 ty:=λM h _ ⟨o,vs,hx,hc,_⟩=>hc▸(PySem.W.Looks.ld hx).andThen .now
 it:=λM h KI _=>by
  obtain⟨c,dd,cd,sl,ho⟩:=yt xc.bo
  intro A' Q' E' s' k q
  unfold isType loadHead
  exact wpAny_bind (wpAny_loadPart (k _ _ (KI _ _ ho)) (wpAny_pure q))
 ne:=λh tp dd its n sl KI htp=>by
  obtain⟨c,dd',cd,sl',ho⟩:=yt xc.bo
  refine Bool.eq_false_iff.mpr λq=>?_
  have e:C=tp:=Value.ref.inj (beq_iff_eq.mp q)
  subst e
  cases (KI _ _ ho).symm.trans htp
 ca:=λ{prog w A E Q s} KI ex k=>by
  obtain⟨h,g,d,t,os⟩:=s
  exact Ca KI xc ex k
end L2
namespace L2
open PySem
section
variable {prog:Program}{w:World}{A:Around}{E:Value->Shared->Prop}{h:Heap}{g:Array GenState}{d:Drawn}{t:Nat}{os:OsState}
variable {nm q:Str}{C N e t0:Addr}{bs bm bmB rest:List Value}{hdct:Bool}{sn:List Str}{sub:List Value}{ab:Bool}{col:Option Bool}{dd dx:Option Addr}{k0 k1 k2 k3 k5:Option Value}{B newId initId:String}
theorem Cd (F:ExcBaseFacts B newId initId bmB) (T:OwnTail h bmB bm){Q:Value->Shared->Prop}(hC:h.get? C=some (excClassObj nm q C N bs bm hdct sn sub ab col dd k0 k1 k2 k3 k5 newId))
  (he:h.get? e=some { cls:=.ref C,dict:=dx,data:=.fields #[.ref t0,.none,.none,.none,.bool false,.none] }) (hl:rest.length<=sizeLine)
  (hq:∀ h',h'.get? e=some { cls:=.ref C,dict:=dx,data:=.fields #[.ref h.objs.size,.none,.none,.none,.bool false,.none] }->(∀ b o,b≠e->h.get? b=some o->h'.get? b=some o)->Q .none ⟨h',g,d,t,os⟩):
  wpAny (model prog w) A (call (.builtin initId) (.ref e::rest)) Q E ⟨h,g,d,t,os⟩:=by
 refine wpAny_call (codeAny_call_builtin F.init.plain F.initEntry (wpAny_check_init_subT F T hC he rfl ?_))
 have he1:=Heap.get?_push_of_some (h:=h) { cls:=.type "tuple",data:=.seq rest.toArray } he
 unfold Builtin.«BaseException.__init__»
 dsimp only
 rw[if_neg (by simp)]
 unfold newTuple Builtin.BaseException.bexcPut
 refine wpAny_bind (wpAny_newObj_type (wpAny_bind (wpAny_bind (wpAny_field he1 rfl rfl (wpAny_bind (wpAny_setField he1 rfl (Nat.zero_lt_succ 5) ?_))))) (by show rest.toArray.size<=sizeLine;rw[List.size_toArray];exact hl))
 refine wpAny_letGo (wpAny_pure (hq _ (Heap.get?_update_self _ he1 rfl) λb o hb q=>?_))
 exact(Heap.get?_update_other _ _ hb.symm).trans (Heap.get?_push_of_some _ q)
end
end L2
namespace L2
open PySem
structure BaseInit (K:PySem.W.Frag) (C:Addr) (I:String):Prop where
 ga:PySem.W.specialIn K (.ref C) "__getattribute__" = some (some (.builtin "type.__getattribute__"))
 rd:PySem.W.readsIn K C (.type "type")=true
 fd:PySem.W.findCls K (.ref C) (.type "type") "__init__" = some (.val (.builtin I))
 hd:PySem.W.handedIn (.builtin I)=true
theorem Fi {prog:Program}{w:World}{A:Around}{E:Value->Shared->Prop}{s:Shared}{K:PySem.W.Frag}{C:Addr}{I:String}{pl:Sem Bool}{Q:Value×List Value->Shared->Prop}(X:K.In s.heap) (b:BaseInit K C I)
  (h:Q (.builtin I,[]) { s with toks:=s.toks+1 }):wpAny (model prog w) A (getMethod (.ref C) "__init__" pl) Q E s:=PySem.W.method_cls X b.ga (PySem.W.cls_value X b.rd b.fd b.hd h)
end L2
namespace L2
open PySem PySem.Spec PyProof.Rows
def tQ (e C:Addr) (dx:Option Addr) (h:Heap):Prop:=∃ t,h.get? e=some { cls:=.ref C,dict:=dx,data:=.fields #[.ref t,.none,.none,.none,.bool false,.none] }
def d7 (e C:Addr) (dx:Option Addr):HO:=.ext (tQ e C dx)
theorem tR {P:Program}{w:World}{K:PySem.W.Frag}{H:Hp}{h:Heap}{e C:Addr}{dx:Option Addr}(r:tQ e C dx h):ObjOk P w K H h e (d7 e C dx):=by
 obtain⟨t,q⟩:=r
 exact⟨⟨t,q⟩,⟨_,q⟩,λg1 g2 ⟨t',q'⟩ k=>⟨t',k _ q'⟩⟩
def pR (K:PySem.W.Frag) (bmB:List Value) (ns:List Str):List Value->Bool
 | []=>bmB == []
 | v::r=>(v::r) == bmB||match v with
  | .ref A=>(match K.lookup A with
   | some ⟨_,_,.cls cd,_⟩=>PySem.W.nsOkIn K cd.ns&&ns.all (λn=>PySem.W.nsIn K cd.ns n == some none)&&pR K bmB ns r
   | _=>false)
  | _=>false
theorem qe {K:PySem.W.Frag}{h:Heap}{bmB:List Value}{ns:List Str}(X:K.In h):∀ {l:List Value},pR K bmB ns l=true->TailN h bmB ns l
 | [],e=>by rw[← beq_iff_eq.mp e];exact .base
 | v::r,e=>by
  unfold pR at e
  rcases Bool.or_eq_true_iff.mp e with q | q
  ·rw[beq_iff_eq.mp q];exact .base
  ·split at q
   ·split at q
    ·rename_i ho
     simp only[Bool.and_eq_true,List.all_eq_true,beq_iff_eq] at q
     exact .own (X _ _ ho) (.of_isNs (PySem.W.isNs_of_in X q.1.1)) (λn hn=>PySem.W.nsMap_none_of_in X q.1.1 (q.1.2 n hn)) (qe X q.2)
    ·cases q
   ·cases q
abbrev bmV:List Value:=[.type "ValueError",.type "Exception",.type "BaseException",.type "object"]
abbrev nsX:List Str:=["__setattr__", "__getattribute__", "__getattr__", "at"]
def jC (K:PySem.W.Frag) (C fI:Addr):Bool:=match K.lookup C with
 | some ⟨.type "type",_,.cls cd,sl⟩=>(match cd.mro,sl.toList with
  | .ref C'::bm,[_,_,_,_,some (.builtin n),_]=>C' == C&&n == "ValueError.__new__" && !cd.hasDel&&cd.hasDict&&PySem.W.tailIn K bmV bm&&pR K bmV nsX bm&&PySem.W.nsOkIn K cd.ns &&
    PySem.W.nsIn K cd.ns "__init__" == some (some (.ref fI))&&nsX.all (λn=>PySem.W.nsIn K cd.ns n == some none)
  | _,_=>false)
 | _=>false
structure ExcI (h:Heap) (C fI:Addr):Prop where
 ex:∃ (bm:List Value) (N:Addr) (nm qn:Str) (bs:List Value) (sn:List Str) (su:List Value) (ab:Bool) (co:Option Bool) (dd:Option Addr) (k0 k1 k2 k3 k5:Option Value) (mN:Str->Option Value),
   h.get? C=some (excClassObj nm qn C N bs bm true sn su ab co dd k0 k1 k2 k3 k5 "ValueError.__new__")/\h.Ns N mN/\mN "__init__" = some (.ref fI)/\(∀ n∈nsX,mN n=none)/\OwnTail h bmV bm/\TailN h bmV nsX bm
theorem qG {K:PySem.W.Frag}{h:Heap}{N:Addr}{x:Str}{v:Value}{m:Str->Option Value}(X:K.In h) (G:h.Ns N m) (e:PySem.W.nsIn K N x=some (some v)):m x=some v:=by
 obtain⟨o,es,ep,ho,hd,_,hf⟩:=G
 unfold PySem.W.nsIn at e
 split at e
 ·rename_i c d es' n' sl q
  have:=X _ _ q
  rw[ho] at this
  cases this
  cases hd
  split at e
  ·rename_i en he
   cases e
   rw[← hf]
   unfold nsFind findBy
   rw[← Array.find?_toList,he]
   rfl
  ·split at e <;> cases e
 ·cases e
theorem nQ {K:PySem.W.Frag}{h:Heap}{C fI:Addr}(KI:K.In h) (q:jC K C fI=true):ExcI h C fI:=by
 unfold jC at q
 split at q
 ·rename_i dd cdd sl lk
  split at q
  ·rename_i C1 bm k0 k1 k2 k3 nw k5 hmro hsl
   simp only[Bool.and_eq_true,beq_iff_eq,Bool.not_eq_true',List.all_eq_true] at q
   obtain⟨⟨⟨⟨⟨⟨⟨⟨r1,r2⟩,hdel⟩,hdc⟩,htl⟩,htn⟩,hns⟩,hini⟩,hno⟩:=q
   subst r1 r2
   cases cdd with
   | mk nm bs mro ns qn hdd sn su ab co del=>
    have e1:mro=.ref C1::bm:=hmro
    have e2:del=false:=hdel
    have e4:hdd=true:=hdc
    subst e1 e2 e4
    have e3:sl=#[k0,k1,k2,k3,some (.builtin "ValueError.__new__"),k5]:=by cases sl with | mk l=>exact congrArg Array.mk hsl
    subst e3
    have hN:h.Ns ns _:=.of_isNs (PySem.W.isNs_of_in KI hns)
    exact⟨bm,ns,nm,qn,bs,sn,su,ab,co,dd,k0,k1,k2,k3,k5,_,KI _ _ lk,hN,qG KI hN hini,λn hn=>PySem.W.nsMap_none_of_in KI hns (hno n hn),PySem.W.tail_of_in KI htl,qe KI htn⟩
  ·cases q
 ·cases q
end L2
set_option exponentiation.threshold 500
namespace L2
open PySem PySem.Spec PyProof.Rows
section
variable {X:Cx}
def tFs (i:Nat):TE:=fun σ H Q=>∃ n:Int,σ[i]?=some (some (.int n))/\n.natAbs < 10 ^ 100/\∀ y,y.length<=3000->Q (.str y) H
theorem Ce {n:Int}(h:n.natAbs < 10 ^ 100):n.natAbs.log2 < 1920:=by
 by_cases h0:n.natAbs=0
 ·rw[h0];decide
 ·exact(Nat.log2_lt h0).mpr (Nat.lt_of_lt_of_le h (Nat.le_trans (show 10 ^ 100<=2 ^ 400 by decide) (Nat.pow_le_pow_right (by decide) (by decide))))
theorem tU {x:Str}(h:x.length<=3000):x.length<=sizeLine:=Nat.le_trans h (by rw[sizeLine_eq];decide)
theorem K9 {i:Nat}{c x:Str}{jj:Nat}{p1 p2 p3 p4:Pos}(hN:X.N[i]?=some x) (hv:Vis X.env.scope x) (hc:c.length<=1000) (hd:(x == ("__debug__" : Str))=false:=by decide) (hcd:(x == ("__classdict__" : Str))=false:=by decide):
  PE X (.JoinedStr [.Constant (.str c) jj p1,.FormattedValue (.Name x p2) (-1) none p3] p4) (tFs i):=by
 intro pins s σ H Q I ⟨n,hn,hb,k⟩
 have e10:=int_text_length_le10 (k:=100) (by decide) hb
 have le:(Str.ofString (toString n)).length<=101:=by rw[PySem.ofString_length];exact e10
 have l1:(Str.empty++c).length<=1000:=by rw[strLen_append];show 0+c.length<=1000;omega
 have l2:(Str.empty++c++Str.ofString (toString n)).length<=3000:=by rw[strLen_append];omega
 refine wpAny_JoinedStr ?_
 show wpAny _ _ (eval (.Constant (.str c) jj p1) X.env) _ _ s
 refine thn (Ad pins s σ H (λv H1=>v=.str c/\H1=H) I ⟨rfl,rfl⟩) ?_
 rintro u s1 ⟨v,H1,I1,r,e1,e2⟩
 subst e1 e2
 obtain⟨t,rfl⟩:=r
 refine⟨c,t,rfl,tU (Nat.le_trans l1 (by decide)),?_⟩
 show wpAny _ _ (eval (.FormattedValue (.Name x p2) (-1) none p3) X.env) _ _ s1
 refine wpAny_FormattedValue_plain (thn (eY hN hv hd hcd pins s1 σ H1 (λv H2=>v=.int n/\H2=H1) I1 ⟨.int n,hn,rfl,rfl⟩) ?_)
 rintro u s2 ⟨v,H2,I2,r,e1,e2⟩
 subst e1 e2
 obtain⟨t2,rfl⟩:=r
 refine wpAny_formatField_int (Ce hb) ⟨_,_,rfl,tU l2,tU l2,?_⟩
 exact⟨.str _,H2,I2.tok _,⟨_,rfl⟩,k _ l2⟩
def tBi (i j:Nat) (C:Addr):TS:=λD σ H=>∃ e n,σ[i]?=some (some (.ref e))/\H e=some (d7 e C none)/\σ[j]?=some (some (.int n))/\n.natAbs < 10 ^ 100/\D.nx σ H
theorem K_ {H:Hp}{a:Addr}{o:HO}(h:H a=some o):upd H a o=H:=by
 funext b
 by_cases hb:b=a
 ·subst hb;rw[bf,h]
 ·rw[aH hb]
theorem HY {i j:Nat}{C CL fI:Addr}{x bn:Str}{a:Expr}{p1 p2 p3 p4 p5:Pos}(hC:jC X.K C fI=true) (b:BaseInit X.K CL "ValueError.__init__") (hN:X.N[i]?=some x) (hv:Vis X.env.scope x) (hg:Gl X bn) (hm:X.mg bn=some (.ref CL)) (ha:PE X a (tFs j))
  (he:starEach [.Name x p3,a] X.env=(false,eval (.Name x p3) X.env)::starEach [a] X.env) (he2:starEach [a] X.env=(false,eval a X.env)::starEach [] X.env) (hpl:(backTo p4 (starEach [a] X.env)).any (·.1)=false)
  (hs:swapsWith (.Call (.Attribute (.Name bn p1) "__init__" p2) [.Name x p3,a] [] p4) none p5.line X.env=pure false){pl:Sem Bool}
  (ht:eval (.Call (.Attribute (.Name bn p1) "__init__" p2) [.Name x p3,a] [] p4) X.env=(do
   let ov ← eval (.Name bn p1) X.env
   standAt p2.atName
   let (f,first) ← holding [ov] (getMethod ov "__init__" pl)
   callWith p4 f first (backTo p4 (starEach [.Name x p3,a] X.env)) (backToKw p4 (keywordEach [] X.env))))
  (hd:(x == ("__debug__" : Str))=false:=by decide) (hcd:(x == ("__classdict__" : Str))=false:=by decide) (hdb:(bn == ("__debug__" : Str))=false:=by decide):
  PS X (.Expr (.Call (.Attribute (.Name bn p1) "__init__" p2) [.Name x p3,a] [] p4) p5) (tBi i j C):=by
 intro pins s σ H D I ⟨e,n,hi,hH,hj,hb,qn⟩
 refine wpAny_Expr_any ?_ I.quiet hs
 refine PySem.W.methodCall_KW (pl:=pl) (kO I hg hm ?_ hdb) ht
 refine Fi I.kIn b ?_
 refine callWith_builtin1 (thn (b7 (eY hN hv hd hcd) (b7 ha dR he2) he p4 pins _ σ H (λvs H1=>H1=H/\∃ y,vs=[.ref e,y]) (I.tok _) ⟨.ref e,hi,n,hj,hb,λy _=>⟨rfl,.str y,rfl⟩⟩) ?_) he hpl
 rintro us s1 ⟨vs,H1,I1,r,e1,⟨y,e2⟩⟩
 subst e1 e2
 obtain⟨u,w',rfl,r1,r2⟩:=vals2 r
 cases r1
 obtain⟨bm,N,nm,qn',bs,sn,su,ab,co,dd,k0,k1,k2,k3,k5,mN,c1,c2,c3,c4,c5,c6⟩:=(nQ I1.kIn hC).ex
 obtain⟨t0,he0⟩:tQ e C none s1.heap:=(I1.hok e _ hH).1
 obtain⟨hh,g,d,tk,os⟩:=s1
 refine Cd F.excBase_ValueError c5 c1 he0 (show 1<=sizeLine by decide) λh' g1 g2=>?_
 have I2:=I1.write (x:=e) (e:=e) (o:=d7 e C none) (h':=h') (t':=tk) (by rw[hH];trivial) (.inl rfl) (λb u hb q=>g2 b u hb q) ⟨_,g1⟩ (tR ⟨_,g1⟩)
 rw[K_ hH] at I2
 exact⟨σ,_,I2,qn⟩
def tSt (i j:Nat) (C:Addr):TS:=λD σ H=>∃ e n,σ[i]?=some (some (.ref e))/\H e=some (d7 e C none)/\σ[j]?=some (some (.int n))/\∀ dx,H dx=none->dx≠e->D.nx σ (upd (upd H dx (.xd [("at",.int n)])) e (d7 e C (some dx)))
theorem yu:typeLookup (.type "ValueError") "at" = pure none:=by rw[typeLookup_type,builtinLookup_eq_fast];kernel_rfl
theorem Nu {i j:Nat}{C fI:Addr}{x y:Str}{p1 p2 p3 p4:Pos}(hC:jC X.K C fI=true) (hN:X.N[i]?=some x) (hv:Vis X.env.scope x) (hN':X.N[j]?=some y) (hv':Vis X.env.scope y)
  (hs:swapsWith (.Name y p3) (some (.Attribute (.Name x p1) "at" p2)) p4.line X.env=pure false)
  (hd:(x == ("__debug__" : Str))=false:=by decide) (hcd:(x == ("__classdict__" : Str))=false:=by decide) (hd':(y == ("__debug__" : Str))=false:=by decide) (hcd':(y == ("__classdict__" : Str))=false:=by decide):
  PS X (.Assign [.Attribute (.Name x p1) "at" p2] (.Name y p3) p4) (tSt i j C):=by
 intro pins s σ H D I ⟨e,n,hi,hH,hj,qn⟩
 refine plainObj_wpAny_Assign_Attribute (thn (eY hN' hv' hd' hcd' pins s σ H (λv H1=>v=.int n/\H1=H) I ⟨.int n,hj,rfl,rfl⟩) ?_) hs
 rintro u s1 ⟨v,H1,I1,r,e1,e2⟩
 subst e1 e2
 obtain⟨t,rfl⟩:=r
 refine thn (eY hN hv hd hcd pins s1 σ H1 (λv H2=>v=.ref e/\H2=H1) I1 ⟨.ref e,hi,rfl,rfl⟩) ?_
 rintro u s2 ⟨v,H2,I2,r,e1,e2⟩
 subst e1 e2
 obtain rfl:u=Value.ref e:=r
 obtain⟨bm,N,nm,qn',bs,sn,su,ab,co,dd,k0,k1,k2,k3,k5,mN,c1,c2,c3,c4,c5,c6⟩:=(nQ I2.kIn hC).ex
 obtain⟨t0,he0⟩:tQ e C none s2.heap:=(I2.hok e _ hH).1
 obtain⟨hh,g,d,tk,os⟩:=s2
 refine xP F.store_ValueError c1 c2 c6 (by decide) (by decide) (c4 _ (by decide)) (c4 _ (by decide)) yu he0 rfl (λc z=>nomatch z) rfl λh' tk' g1 g2 g3=>?_
 have hnd:H2 hh.objs.size=none:=I2.hok.fresh (Nat.le_refl _)
 have ned:hh.objs.size≠e:=Nat.ne_of_gt (Heap.lt_size he0)
 refine⟨σ,_,I2.un (h':=h') (t':=tk') ?_ ?_,qn hh.objs.size hnd ned⟩
 ·have ne:∀ b,H2 b=none->b≠e:=λb n z=>by subst z;rw[hH] at n;cases n
  have ot:∀ b o,H2 b=some o->o≠d7 e C none->upd (upd H2 hh.objs.size (.xd [("at",.int n)])) e (d7 e C (some hh.objs.size)) b=some o:=λb o q z=>by
   rw[aH (λy=>by subst y;rw[hH] at q;cases q;exact z rfl),aH (aV q hnd)];exact q
  refine⟨λb o q n _ _=>g3 b o (ne b n) q,λb o q n _ _=>⟨o.slots,g3 b o (ne b n) q⟩,λb o q n _=>?_,λb o q _=>?_,λb xs q=>ot b _ q (λz=>by unfold d7 at z;cases z),λb o u q=>ot b _ q (λz=>by unfold d7 at z;cases z),λb ps q=>⟨#[],by rw[ot b _ q (λz=>by unfold d7 at z;cases z)];simp⟩⟩
  ·rw[aH (ne b n),aH (Nat.ne_of_lt (Heap.lt_size q))];exact n
  ·by_cases hb:b=e
   ·subst hb;exact⟨_,g1⟩
   ·exact⟨o,g3 b o hb q⟩
 ·intro b o q
  by_cases hb:b=e
  ·subst hb
   rw[bf] at q
   cases q
   exact tR ⟨_,g1⟩
  ·rw[aH hb] at q
   by_cases hbd:b=hh.objs.size
   ·subst hbd
    rw[bf] at q
    cases q
    refine⟨_,g2,λf=>?_⟩
    by_cases hf:f = "at"
    ·subst hf;simp only[if_true];exact⟨t,rfl⟩
    ·simp only[List.lookup,if_neg hf]
     have:(f == ("at" : Str))=false:=by simpa using hf
     rw[this];trivial
   ·rw[aH hbd] at q
    refine(I2.hok b o q).stay (λc x hc r=>g3 c x ?_ r) (λc r=>?_) λc xs r=>?_
    ·rintro rfl
     rcases hc with z | z
     ·exact hb z.symm
     ·rw[hH] at z;unfold d7 at z;cases z
    ·rw[aH (λy=>by subst y;rw[hH] at r;unfold d7 at r;cases r),aH (aV r hnd)];exact r
    ·rw[aH (λy=>by subst y;rw[hH] at r;unfold d7 at r;cases r),aH (aV r hnd)];exact r
end
end L2
namespace MR
open PySem L2
def KnA (C:Addr) (d:Option Nat) (a:Addr) (H:Hp):Prop:=∃ dx,H a=some (exo a C dx)/\∀ n,d=some n->∃ x,dx=some x/\H x=some (xat x n)
theorem KnA.up {C:Addr}{d:Option Nat}{a:Addr}{H H':Hp}(k:KnA C d a H) (s:Same H H'):KnA C d a H':=let ⟨dx,e2,e3⟩:=k;⟨dx,s _ _ e2,λn e=>let ⟨x,q1,q2⟩:=e3 n e;⟨x,q1,s _ _ q2⟩⟩
def Kn (i:Nat) (C:Addr) (d:Option Nat) (σ:St) (H:Hp):Prop:=∃ a,σ[i]?=some (some (.ref a))/\KnA C d a H
theorem Kn.up {i:Nat}{C:Addr}{d:Option Nat}{σ:St}{H H':Hp}(k:Kn i C d σ H) (s:Same H H'):Kn i C d σ H':=let ⟨a,e1,e2⟩:=k;⟨a,e1,e2.up s⟩
def tKn (i:Nat) (C:Addr) (dd:Option Nat) (v:V):TE:=fun σ H Q=>Kn i C dd σ H/\∀ H',Same H H'->Q v H'
def tKt (i:Nat) (C:Addr) (dd:Option Nat) (k:Bool):TT:=fun σ H Q=>Kn i C dd σ H/\∀ H',Same H H'->Q k H'
def tKs (i:Nat) (C:Addr) (dd:Option Nat) (p:PV):TS:=λD σ H=>Kn i C dd σ H/\∀ v H',Same H H'->(∀ (M:MC) (A:Addr->Prop),Rep M A H' v p)->D.rt v H'
def spE (C:Addr) (dd:Option Nat) (p:PV):Sp:=λvs H Q _=>∃ a,vs=[.ref a]/\KnA C dd a H/\∀ v H',Same H H'->(∀ (M:MC) (A:Addr->Prop),Rep M A H' v p)->Q v H'
def atV:PV->Option V
 | .non=>some .non
 | .bl b=>some (.bl b)
 | .int i=>some (.int i)
 | .str x=>some (.str x)
 | _=>none
theorem H_ {C:MC}{A:Addr->Prop}{H:Hp}{p:PV}{v:V}(h:atV p=some v):Rep C A H v p:=by
 cases p with
 | non=>cases h;exact .non
 | bl b=>cases h;exact .bl b
 | int i=>cases h;exact .int i
 | str x=>cases h;exact .str x
 | _=>cases h
theorem La {C:MC}{A:Addr->Prop}{H:Hp}{p:PV}{v v':V}(h:atV p=some v') (r:Rep C A H v p):v=v':=by
 cases p with
 | non=>cases h;cases r;rfl
 | bl b=>cases h;cases r;rfl
 | int i=>cases h;cases r;rfl
 | str x=>cases h;cases r;rfl
 | _=>cases h
section
variable {X:Cx}{i:Nat}{C D:Addr}{dd:Option Nat}{v:V}{a c e:Expr}{b:Expr}{rest:List Expr}{pos p p1 p2:Pos}{x dn:Str}{j k:Bool}
theorem wg:CallR X (.builtin "isinstance") (λxs H Q=>∃ a C dx d c b,xs=[.ref a,d]/\(∀ u,RelV d u->u=c)/\H a=some (exo a C dx)/\XCls X.K C/\PySem.W.kitOne X.K (.ref C) c=some b/\Q (.bl b) H):=by
 intro pins s σ H xs us Q I r h
 obtain⟨a,C,dx,d,c,b,rfl,hd,ea,xc,hk,q⟩:=h
 obtain⟨u,w',rfl,r1,r2⟩:=vals2 r
 cases r1
 cases hd _ r2
 have ok:ExcAt a C dx s.heap:=(I.hok a _ ea).1
 exact PySem.W.kia_one (Fg xc) I.kIn ok hk (λz=>nomatch z) λtk=>⟨.bl b,H,I.tok _,rfl,q⟩
theorem lF (i:Nat) (xc:XCls X.K C) (hk:PySem.W.kitOne X.K (.ref C) (.ref D)=some k) (hm:X.mg "isinstance" = none) (hmd:X.mg dn=some (.ref D)) (hN:X.N[i]?=some x:=by rfl)
  (hv:Vis X.env.scope x:=by first | exact Or.inl rfl | exact Or.inr (Or.inl rfl) | exact Or.inr (Or.inr rfl)) (hd:(x == ("__debug__" : Str))=false:=by decide) (hcd:(x == ("__classdict__" : Str))=false:=by decide)
  (hg:Gl X "isinstance" := by rfl) (hgd:Gl X dn:=by rfl) (hdd:(dn == ("__debug__" : Str))=false:=by decide) (hbi:bootBuiltins "isinstance" = some (.builtin "isinstance"):=by decide +kernel)
  (he:starEach [.Name x p1,.Name dn p2] X.env=(false,eval (.Name x p1) X.env)::starEach [.Name dn p2] X.env:=by rfl) (he2:starEach [.Name dn p2] X.env=(false,eval (.Name dn p2) X.env)::starEach [] X.env:=by rfl) (hpl:(backTo pos (starEach [.Name dn p2] X.env)).any (·.1)=false:=by rfl):
  PE X (.Call (.Name "isinstance" p) [.Name x p1,.Name dn p2] [] pos) (tKn i C dd (.bl k)):=
 PE.imp (lg wg hg hm hbi (b7 (eY hN hv hd hcd) (b7 (pH (v:=.ref D) hgd hmd rfl hdd) dR he2) he) (by decide) (by decide) he hpl) fun σ H Q ⟨⟨a,e1,dx,e2,_⟩,kk⟩=>⟨.ref a,e1,a,C,dx,.ref D,.ref D,k,rfl,λu h=>h,e2,xc,hk,kk H (Same.refl _)⟩
theorem Ia (i:Nat){dn':String}(xc:XCls X.K C) (hk:PySem.W.kitOne X.K (.ref C) (.type dn')=some k) (hm:X.mg "isinstance" = none) (hmd:X.mg dn=none) (hbn:bootBuiltins dn=some (.type dn'):=by decide +kernel) (hN:X.N[i]?=some x:=by rfl)
  (hv:Vis X.env.scope x:=by first | exact Or.inl rfl | exact Or.inr (Or.inl rfl) | exact Or.inr (Or.inr rfl)) (hd:(x == ("__debug__" : Str))=false:=by decide) (hcd:(x == ("__classdict__" : Str))=false:=by decide)
  (hg:Gl X "isinstance" := by rfl) (hgd:Gl X dn:=by rfl) (hdn:dn ≠ "__name__" := by decide) (hdd:(dn == ("__debug__" : Str))=false:=by decide) (hbi:bootBuiltins "isinstance" = some (.builtin "isinstance"):=by decide +kernel)
  (he:starEach [.Name x p1,.Name dn p2] X.env=(false,eval (.Name x p1) X.env)::starEach [.Name dn p2] X.env:=by rfl) (he2:starEach [.Name dn p2] X.env=(false,eval (.Name dn p2) X.env)::starEach [] X.env:=by rfl) (hpl:(backTo pos (starEach [.Name dn p2] X.env)).any (·.1)=false:=by rfl):
  PE X (.Call (.Name "isinstance" p) [.Name x p1,.Name dn p2] [] pos) (tKn i C dd (.bl k)):=
 PE.imp (lg wg hg hm hbi (b7 (eY hN hv hd hcd) (b7 (xW (v:=.ty dn') hgd hmd hbn rfl hdn hdd) dR he2) he) (by decide) (by decide) he hpl) fun σ H Q ⟨⟨a,e1,dx,e2,_⟩,kk⟩=>⟨.ref a,e1,a,C,dx,.ty dn',.type dn',k,rfl,λu h=>h,e2,xc,hk,kk H (Same.refl _)⟩
theorem Ld (i:Nat){jj:Nat}(hN:X.N[i]?=some x:=by rfl) (hv:Vis X.env.scope x:=by first | exact Or.inl rfl | exact Or.inr (Or.inl rfl) | exact Or.inr (Or.inr rfl)) (hd:(x == ("__debug__" : Str))=false:=by decide) (hcd:(x == ("__classdict__" : Str))=false:=by decide):
  PT X (.Compare (.Name x p1) [.Is] [.Constant .none jj p2] pos) (tKt i C dd false):=
 PT.imp (Ju (Jt (eY hN hv hd hcd))) fun σ H Q ⟨⟨a,e1,e2⟩,kk⟩=>⟨.ref a,e1,false,rfl,kk H (Same.refl _)⟩
theorem Ib (i:Nat){kd j0:Nat}{f:Str}{ps:List Str}{p0:PV}(hv0:atV p0=some v) (cc:Cal X.prog X.w X.K X.mg X.base kd f ps (spE C dd p0)) (hr:Room j0 X.A) (hN:X.N[i]?=some x:=by rfl) (hv:Vis X.env.scope x:=by first | exact Or.inl rfl | exact Or.inr (Or.inl rfl) | exact Or.inr (Or.inr rfl))
  (hd:(x == ("__debug__" : Str))=false:=by decide) (hcd:(x == ("__classdict__" : Str))=false:=by decide) (hle:kd<=j0:=by decide) (hg:Gl X f:=by rfl) (hdb:(f == ("__debug__" : Str))=false:=by decide)
  (he:starEach [.Name x p1] X.env=(false,eval (.Name x p1) X.env)::starEach [] X.env:=by rfl) (hpl:(backTo pos (starEach [] X.env)).any (·.1)=false:=by rfl):PE X (.Call (.Name f p) [.Name x p1] [] pos) (tKn i C dd v):=
 PE.imp (vN cc hr (b7 (eY hN hv hd hcd) dR he) hle hg hdb he hpl) fun σ H Q ⟨⟨a,e1,e2⟩,kk⟩=>⟨.ref a,e1,a,rfl,e2,λv' H' s' r=>by rw[La hv0 (r ⟨X.K,λ_=>0⟩ λ_=>True)];exact kk H' s'⟩
theorem Le {op:BoolOp}(h:PE X a (tKn i C dd v)):PE X (.BoolOp op [a] pos) (tKn i C dd v):=Ah h
theorem GD (h1:PE X a (tKn i C dd (.bl j))) (h2:PE X (.BoolOp .Or (b::rest) pos) (tKn i C dd (.bl k))):PE X (.BoolOp .Or (a::b::rest) pos) (tKn i C dd (.bl (j||k))):=
 PE.imp (Gj h1 h2) fun σ H Q ⟨kn,kk⟩=>⟨kn,λH' s=>⟨j,rfl,by
  cases j with
  | false=>exact⟨kn.up s,λH2 s2=>kk H2 (s.trans s2)⟩
  | true=>exact kk H' s⟩⟩
theorem jZ (h:PE X e (tKn i C dd (.bl j))) (he:∀ whole,isTrue e X.env whole=(do let v ← whole;standAt e.pos;holding [v] (truthy v)):=by intro _;rfl):PT X e (tKt i C dd j):=PT.imp (Ae h he) fun σ H Q ⟨kn,kk⟩=>⟨kn,λH' s=>⟨j,rfl,kk H' s⟩⟩
theorem wj (h:PT X a (tKt i C dd j)):PW X (.BoolOp .Or [a] pos) (tKt i C dd j):=Af h
theorem rF (h1:PT X a (tKt i C dd j)) (h2:PW X (.BoolOp .Or (b::rest) pos) (tKt i C dd k)):PW X (.BoolOp .Or (a::b::rest) pos) (tKt i C dd (j||k)):=λwh pins s σ H Q I ⟨kn,kk⟩=>Gi h1 h2 wh pins s σ H Q I ⟨kn,λH' s'=>by
 cases j with
 | false=>exact⟨kn.up s',λH2 s2=>kk H2 (s'.trans s2)⟩
 | true=>exact kk H' s'⟩
theorem wk (h:PT X a (tKt i C dd j)):PT X (.UnaryOp .Not a pos) (tKt i C dd (!j)):=PT.imp (Ag h) fun σ H Q ⟨kn,kk⟩=>⟨kn,λH' s=>kk H' s⟩
variable {sa sb:List Stmt}{st:List Stmt}{p':PV}
theorem Cg (hv:atV p'=some v) (h:PE X e (tKn i C dd v)):PSs X (.Return (some e) pos::st) (tKs i C dd p'):=PSs.imp (gK (Ai h) oE) λD σ H ⟨q1,q2⟩=>⟨q1,λH' s=>q2 v H' s λM A=>H_ hv⟩
theorem rG (hc:PT X c (tKt i C dd false)) (h:PSs X st (tKs i C dd p')):PSs X (.If c sa [] pos::st) (tKs i C dd p'):=PSs.imp (gK (yI hc oE xX) h) λD σ H ⟨kn,kk⟩=>⟨kn,λH' s=>⟨kn.up s,λv H2 s2 r=>kk v H2 (s.trans s2) r⟩⟩
end
theorem PSs.or {X:Cx}{e:List Stmt}{t u:TS}(h:PSs X e t) (h':PSs X e u):PSs X e (λD σ H=>t D σ H\/u D σ H):=λpins s σ H D I q=>q.elim (h pins s σ H D I) (h' pins s σ H D I)
def Fj (f:Env->Option Out) (xf:Env->Option XV) (c0:Nat) (v:Option Nat->Option PV) (r:Env->Option Out) (env:Env):Option Out:=match xf env with
 | some c=>if c.1=c0 then (v c.2).map .rt else none
 | none=>(f env).bind λo=>match o with
  | .nx e=>r e
  | o=>some o
@[simp] theorem Ie (f:Env->Option Out) (xf:Env->Option XV) (c0:Nat) (v:Option Nat->Option PV) (r:Env->Option Out) (env:Env):Fj f xf c0 v r env=(match xf env with
 | some c=>if c.1=c0 then (v c.2).map .rt else none
 | none=>(f env).bind λo=>match o with
  | .nx e=>r e
  | o=>some o):=id rfl
def onN (g:Nat->PV) (d:Option Nat):Option PV:=d.map g
@[simp] theorem QC (g:Nat->PV) (d:Option Nat):onN g d=d.map g:=id rfl
theorem Lf {X:Cx}{rest:List Stmt}{iw:Nat}{C:Addr}{g:Nat->PV}(h:∀ n,PSs X rest (tKs iw C (some n) (g n))) (d:Option Nat) (q:PV) (e:onN g d=some q):PSs X rest (tKs iw C d q):=by
 cases d with
 | none=>cases e
 | some n=>cases e;exact h n
theorem Ig {H1:Hp}{a dx C:Addr}{d:Option Nat}(nd:d.isSome=true->a≠dx):KnA C d a (v_ H1 a dx C d):=by
 cases d with
 | none=>exact⟨none,bf,λn z=>nomatch z⟩
 | some n=>exact⟨some dx,bf,λm z=>by cases z;exact⟨dx,rfl,by show upd (upd H1 dx (xat dx n)) a (exo a C (some dx)) dx=_;rw[aH (Ne.symm (nd rfl)),bf]⟩⟩
theorem Ci {H1:Hp}{a dx C:Addr}{d:Option Nat}(nH:H1 a=none) (nHd:H1 dx=none):Same H1 (v_ H1 a dx C d):=by
 cases d with
 | none=>exact cT nH _
 | some n=>
  intro b o q
  show upd (upd H1 dx (xat dx n)) a (exo a C (some dx)) b=_
  rw[aH (aV q nH),aH (aV q nHd)];exact q
theorem Lh {X:Cx}{b:BX}{G G' L:List Nat}{body rest:List Stmt}{f r:Env->Option Out}{xf:Env->Option XV}{cx n wn:Str}{Cc:Addr}(iw ie c0:Nat){p:Option Nat->Option PV}{np p1 p2 p3 hp pos:Pos}(nd:X.N.Nodup)
  (hm:X.mg cx=some (.ref Cc)) (hexm:PySem.W.exmOne X.K (.ref (b.C.cl c0)) (.ref Cc)=some true) (h1:SSs X b G G L false body f) (h2:∀ E',XSs (X.wish E') (tX b G (WT (X.wish E') b) xf) body) (hr:SSs X b G G' L false rest r) (hR:∀ d q,p d=some q->PSs X rest (tKs iw (b.C.cl c0) d q))
  (hX:∀ e s,X.xe e s->False:=by exact λ_ _ z=>z) (hex:X.ex=[]:=by rfl) (hst:X.stack=X.env::X.outer:=by rfl) (hfr:X.env.frame=some X.env.locals:=by rfl)
  (hn:X.N[ie]?=some n:=by rfl) (hnl:X.env.scope.names.lookup n=some .local:=by rfl) (hw:X.N[iw]?=some wn:=by rfl) (hwl:Loc X.env.scope wn:=by first | exact Or.inl rfl | exact Or.inr rfl) (hwe:(iw == ie)=false:=by rfl) (hgl:Gl X cx:=by rfl)
  (hd:(cx == ("__debug__" : Str))=false:=by decide) (hdn:(n == ("__debug__" : Str))=false:=by decide) (hcn:(n == ("__classdict__" : Str))=false:=by decide)
  (hsw:swapsWith (.Name n p2) (some (.Name wn p1)) p3.line X.env=pure false:=by rfl) (hfn:X.fn wn=true\/X.env.scope.names.lookup wn=some .local:=by first | exact .inl rfl | exact .inr rfl | assumption):
  SSs X b G G' L false (.Try body [.ExceptHandler (some (.Name cx np)) (some n) [.Assign [.Name wn p1] (.Name n p2) p3] hp] [] [] pos::rest) (Fj f xf c0 p r):=by
 intro pins s σ H D I ⟨Ow,env,o,E,hq,kk⟩
 rw[Ie] at hq
 cases q:xf env with
 | some c=>
  rw[q] at hq
  have hq:(if c.1=c0 then (p c.2).map Out.rt else none)=some o:=hq
  by_cases hc:c.1=c0
  ·rw[if_pos hc] at hq
   obtain⟨pv,hpv,rfl⟩:=Option.map_eq_some_iff.mp hq
   refine gK (yr hX hex hst hfr nd hn hnl hw hwl hgl hm h1 h2 hd hdn hcn hsw hfn) (hR c.2 pv hpv) pins s σ H D I ?_
   refine .inr ⟨Ow,env,c,E,q,by rw[hc];exact hexm,λa dx H1 sm nH nHd ned=>⟨⟨a,?_,by rw[hc];exact Ig ned⟩,λv H' s' r'=>?_⟩⟩
   ·have hil:iw < σ.length:=by rw[I.len];exact(List.getElem?_eq_some_iff.mp hw).1
    have ne:ie≠iw:=λz=>by subst z;simp at hwe
    rw[List.getElem?_set_ne ne,List.getElem?_set_self (by rw[List.length_set];exact hil)]
   ·have kk':∀ v H',Same b.H0 H'->Ret b.C b.A b.H0 false H' v pv->D.rt v H':=kk
    exact kk' v H' (E.same.trans (sm.trans ((Ci nH nHd).trans s'))) (r' _ _)
  ·rw[if_neg hc] at hq
   cases hq
 | none=>
  rw[q] at hq
  obtain⟨o1,ho,hq⟩:=aD hq
  refine gK (yr hX hex hst hfr nd hn hnl hw hwl hgl hm h1 h2 hd hdn hcn hsw hfn) hr pins s σ H D I ?_
  refine .inl ⟨Ow,env,o1,E,ho,?_⟩
  cases o1 with
  | nx e1=>exact λOw' σ' H' E' x=>⟨Ow',e1,o,E',hq,kk.ex x⟩
  | bk e1=>cases hq;exact kk
  | ct e1=>cases hq;exact kk
  | rt p1=>cases hq;exact kk
theorem Lj {P:Program}{w:World}{K:PySem.W.Frag}{mg:Str->Option Value}{base:Heap}{x qual:Str}{st:Stmt}{f:Addr}{fd:FuncData}{N:List Str}{y:Str}{k:Nat}{C:Addr}{dd:Option Nat}{p:PV}(F:Fun K x qual st f fd) (S:FnScope N [y] (au st))
  (hb:∀ (cdv:Value) (A:Around) (outer:List PySem.Env) (s:Shared) (H:Hp) (E:XK),Room k (A.deeper (PyProof.Rows.envOfC qual (au st) s.heap.objs.size f cdv))->PSs (cR CX0 P w K mg base N qual (au st) f cdv A outer s H E).nox (aR st) (tKs 0 C dd p)):
  FnOk P w K mg base CX0 (k+1) f fd [y] (spE C dd p):=by
 refine F.ok S (by rintro vs H Q E ⟨a,e,_⟩;rw[e];rfl) λcdv A outer s H vs Q E hr ⟨a,e,ha,kk⟩=>⟨_,hb cdv A outer s H E hr,⟨a,?_,ha⟩,λv H' s' r=>kk v H' s' r⟩
 subst e
 rfl
end MR
namespace MR
open PySem L2
section
variable {X:Cx}{i:Nat}{C D fI:Addr}{dd:Option Nat}{n:Nat}{x dn:Str}{k:Bool}{p p1 p2 p3 pos:Pos}
theorem zF (i:Nat) (hC:∃ f,jC X.K C f=true) (hN:X.N[i]?=some x:=by rfl) (hv:Vis X.env.scope x:=by first | exact Or.inl rfl | exact Or.inr (Or.inl rfl) | exact Or.inr (Or.inr rfl)) (hd:(x == ("__debug__" : Str))=false:=by decide) (hcd:(x == ("__classdict__" : Str))=false:=by decide)
  (hb:attributeBase (.Name x p1) "at" X.env (eval (.Name x p1) X.env)=eval (.Name x p1) X.env:=by rfl):PE X (.Attribute (.Name x p1) "at" pos) (tKn i C (some n) (.int n)):=by
 intro pins s σ H Q I ⟨⟨a,e1,dx,e2,e3⟩,kk⟩
 obtain⟨y,rfl,e4⟩:=e3 n rfl
 refine Hc hb (thn (eY hN hv hd hcd pins s σ H (λv H1=>v=.ref a/\H1=H) I ⟨.ref a,e1,rfl,rfl⟩) ?_)
 rintro u s1 ⟨v,H1,I1,r,q1,q2⟩
 subst q1 q2
 obtain rfl:u=Value.ref a:=r
 obtain⟨bm,N,nm,qn',bs,sn,su,ab,co,ddd,k0,k1,k2,k3,k5,mN,c1,c2,c3,c4,c5,c6⟩:=(nQ I1.kIn hC.choose_spec).ex
 obtain⟨o,vs,hx,hc,hdt,hdx⟩:ExcAt a C (some y) s1.heap:=(I1.hok a _ e2).1
 obtain⟨m,t,hn,hm⟩:XAt y n s1.heap:=(I1.hok y _ e4).1
 obtain⟨hh,g,d,tk,os⟩:=s1
 refine uy F.attrBase_ValueError c1 c2 c6 (by decide) (by decide) (by decide) (c4 _ (by decide)) (c4 _ (by decide)) (c4 _ (by decide)) yu hx hc (λc z=>by rw[hdt] at z;cases z) (hdx y rfl) hn hm rfl ?_
 exact⟨.int n,H1,I1.tok _,⟨t,rfl⟩,kk H1 (Same.refl _)⟩
theorem zG:CallR X (.builtin "isinstance") (λxs H Q=>∃ (j:Int) (d:V) (c:Value) (b:Bool),xs=[.int j,d]/\(∀ u,RelV d u->u=c)/\PySem.W.kitOne X.K (.type "int") c=some b/\Q (.bl b) H):=by
 intro pins s σ H xs us Q I r h
 obtain⟨j,d,c,b,rfl,hd,hk,q⟩:=h
 obtain⟨u,w',rfl,r1,r2⟩:=vals2 r
 obtain⟨t,rfl⟩:=r1
 cases hd _ r2
 exact PySem.W.kia_one PySem.W.kitx_int I.kIn trivial hk (λz=>nomatch z) λtk=>⟨.bl b,H,I.tok _,rfl,q⟩
theorem yw {a:Expr}{j:Int}{dn':String}(ha:PE X a (tKn i C dd (.int j))) (hk:PySem.W.kitOne X.K (.type "int") (.type dn')=some k) (hm:X.mg "isinstance" = none) (hmd:X.mg dn=none) (hbn:bootBuiltins dn=some (.type dn'):=by decide +kernel)
  (hg:Gl X "isinstance" := by rfl) (hgd:Gl X dn:=by rfl) (hdn:dn ≠ "__name__" := by decide) (hdd:(dn == ("__debug__" : Str))=false:=by decide) (hbi:bootBuiltins "isinstance" = some (.builtin "isinstance"):=by decide +kernel)
  (he:starEach [a,.Name dn p2] X.env=(false,eval a X.env)::starEach [.Name dn p2] X.env:=by rfl) (he2:starEach [.Name dn p2] X.env=(false,eval (.Name dn p2) X.env)::starEach [] X.env:=by rfl) (hpl:(backTo pos (starEach [.Name dn p2] X.env)).any (·.1)=false:=by rfl):
  PE X (.Call (.Name "isinstance" p) [a,.Name dn p2] [] pos) (tKn i C dd (.bl k)):=
 PE.imp (lg zG hg hm hbi (b7 ha (b7 (xW (v:=.ty dn') hgd hmd hbn rfl hdn hdd) dR he2) he) (by decide) (by decide) he hpl) fun σ H Q ⟨kn,kk⟩=>⟨kn,λH1 s1=>⟨j,.ty dn',.type dn',k,rfl,λu h=>h,hk,kk H1 s1⟩⟩
end
end MR
namespace L2
open PySem PySem.Spec PyProof.Rows
def del (H:Hp) (a:Addr):Hp:=λb=>if b=a then none else H b
theorem nR {H:Hp}{a:Addr}:del H a a=none:=by unfold del;rw[if_pos rfl]
theorem mV {H:Hp}{a b:Addr}(h:b≠a):del H a b=H b:=by unfold del;rw[if_neg h]
theorem Inv.forget {X:Cx}{pins:List (Addr×Obj)}{σ:St}{H:Hp}{s:Shared}(I:Inv X pins σ H s){a:Addr}{o:HO}(h:H a=some o) (n1:∀ xs,o≠.tup xs) (n2:∀ ob u,o≠.frz ob u) (n3:∀ ps,o≠.tbl ps) (n4:∀ y,o≠.own y):Inv X pins σ (del H a) s:=by
 have u:=I.base
 have kp:∀ b v,H b=some v->v≠o->del H a b=some v:=λb v q z=>by
  rw[mV (λy=>by subst y;rw[h] at q;cases q;exact z rfl)];exact q
 have fr:∀ b,H b=none->del H a b=none:=λb q=>by
  by_cases hb:b=a
  ·subst hb;exact nR
  ·rw[mV hb];exact q
 refine⟨I.ok,I.os,I.bare,⟨u.keep,u.slot,λb o' q n hx=>fr b (u.free b o' q n hx),u.there,λb xs q=>kp b _ (u.tups b xs q) λz=>n1 _ z.symm,λb o' xs q=>kp b _ (u.frzs b o' xs q) λz=>n2 _ _ z.symm,λb ps q=>?_⟩,I.loc,I.cell,fr _ I.free,λx c q=>fr _ (I.freeC x c q),λp hp=>?_,λb v q=>?_,I.len⟩
 ·obtain⟨more,z⟩:=u.tbls b ps q
  exact⟨more,kp b _ z λy=>n3 _ y.symm⟩
 ·obtain⟨e1,n,nl,nf,d⟩:=I.pin p hp
  exact⟨e1,fr _ n,nl,nf,d⟩
 ·have hb:b≠a:=λz=>by subst z;rw[nR] at q;cases q
  rw[mV hb] at q
  exact(I.hok b v q).stay (λc x _ r=>r) (λc r=>kp c _ r λz=>n4 _ z.symm) λc xs r=>kp c _ r λz=>n1 _ z.symm
def zH (C:Addr):Sp:=λvs H Q _=>∃ e n,vs=[.ref e,.int n]/\H e=some (d7 e C none)/\n.natAbs < 10 ^ 100/\∀ dx,H dx=none->dx≠e->Q .non (upd (upd H dx (.xd [("at",.int n)])) e (d7 e C (some dx)))
theorem Lk {P:Program}{w:World}{K:PySem.W.Frag}{mg:Str->Option Value}{base:Heap}{qual:Str}{st:Stmt}{f:Addr}{fd:FuncData}{C:Addr}{k:Nat}{x y:Str}(F:Fun K "__init__" qual st f fd) (S:FnScope [x,y] [x,y] (au st))
  (hb:∀ (cdv:Value) (A:Around) (outer:List Env) (s:Shared) (H:Hp) (E:XK),PSs (cR CX0 P w K mg base [x,y] qual (au st) f cdv A outer s H E).nox (aR st) (Jy (tBi 0 1 C) (tSt 0 1 C))):
  FnOk P w K mg base CX0 (k+1) f fd [x,y] (zH C):=by
 refine F.ok S (by rintro vs H Q E ⟨e,n,z,_⟩;rw[z];rfl) λcdv A outer s H vs Q E hr ⟨e,n,z,hH,hn,kk⟩=>⟨_,hb cdv A outer s H E,?_⟩
 subst z
 exact⟨e,n,rfl,hH,rfl,hn,e,n,rfl,hH,rfl,kk⟩
end L2
namespace MR
open PySem L2 PyProof.Rows PySem.Spec
def pU (ga:Env->Option (List PV)) (c:Nat) (env:Env):Option XV:=(ga env).bind λqs=>match qs with
 | [.int k]=>if 0<=k/\k<=1000000 then some (c,some k.toNat) else none
 | _=>none
@[simp] theorem Nv (ga:Env->Option (List PV)) (c:Nat) (env:Env):pU ga c env=((ga env).bind λqs=>match qs with
 | [.int k]=>if 0<=k/\k<=1000000 then some (c,some k.toNat) else none
 | _=>none):=id rfl
structure CalXi (P:Program) (w:World) (K:PySem.W.Frag) (mg:Str->Option Value) (base:Heap) (C:Addr) (k:Nat):Prop where
 ex:∃ f fd x y,FnOk P w K mg base CX0 k f fd [x,y] (zH C)/\Binds K fd [x,y] []/\PySem.W.isFn K (.ref f)=true/\jC K C f=true
section
variable {P:Program}{w:World}{K:PySem.W.Frag}{mg:Str->Option Value}{base:Heap}{N:List Str}{qual:Str}{scope:Scope}{f:Addr}{cd:Value}{A:Around}{outer:List PySem.Env}{s:Shared}{H:Hp}{E:XK}
theorem uI (c:Nat){k j:Nat}{b:BX}{G:List Nat}{e:Expr}{x:Str}{np cpos pos:Pos}{ga:Env->Option (List PV)}(cx:CalXi P w K mg base (b.C.cl c) k) (hr:Room j (cR (CXW P w K) P w K mg base N qual scope f cd A outer s H E).A)
  (hm:mg x=some (.ref (b.C.cl c))) (ha:SA (cR (CXW P w K) P w K mg base N qual scope f cd A outer s H E) b G false [e] ga) (hle:k+1<=j:=by decide)
  (hgl:Gl (cR (CXW P w K) P w K mg base N qual scope f cd A outer s H E) x:=by rfl) (hdb:(x == ("__debug__" : Str))=false:=by decide)
  (he:starEach [e] (envOfC qual scope s.heap.objs.size f cd)=(false,eval e (envOfC qual scope s.heap.objs.size f cd))::starEach [] (envOfC qual scope s.heap.objs.size f cd):=by rfl):
  XS (cR (CXW P w K) P w K mg base N qual scope f cd A outer s H E) (tX b G (WD b E) (pU ga c)) (.Raise (some (.Call (.Name x np) [e] [] cpos)) none pos):=by
 intro pins s1 σ H1 I ⟨Ow,env,c0,Er,hx,hW⟩
 obtain⟨qs,hga,hx⟩:=aD hx
 obtain⟨fI,fd,y1,y2,FI,hB,hfn,hC⟩:=cx.ex
 split at hx
 rotate_left
 ·cases hx
 rename_i kk
 split at hx
 rotate_left
 ·cases hx
 rename_i hkk
 cases hx
 generalize hXX:cR (CXW P w K) P w K mg base N qual scope f cd A outer s H E=X at *
 obtain⟨bm,Nn,nm,qn,bs,sn,su,ab,co,ddd,k0,k1,k2,k3,k5,mN,c1,c2,c3,c4,c5,c6⟩:=(nQ I.ok.mod.kin (by subst hXX;exact hC)).ex
 obtain⟨oI,hoI,hoc⟩:∃ oI,K.lookup fI=some oI/\oI.cls=.type "function" := by
  have z:PySem.W.typeIn K (.ref fI)=some (.type "function"):=beq_iff_eq.mp hfn
  obtain⟨oI,z1,z2⟩:=Option.map_eq_some_iff.mp z
  exact⟨oI,z1,z2⟩
 have hpl:(backTo cpos (starEach [e] X.env)).any (·.1)=false:=by
  subst hXX
  show (backTo cpos (starEach [e] (envOfC qual scope s.heap.objs.size f cd))).any (·.1)=false
  rw[he];rfl
 subst hXX
 refine zA (C:=b.C.cl c) (nm:=nm) (q:=qn) (N:=Nn) (bs:=bs) (bm:=bm) (hdct:=true) (sn:=sn) (sub:=su) (ab:=ab) (col:=co) (dd:=ddd) (k0:=k0) (k1:=k1) (k2:=k2) (k3:=k3) (k5:=k5) (mN:=mN) (fI:=fI)
  F.excBase_ValueError (c5.hasType F.excBase_ValueError.hasBase) (I.ok.hd rfl) hpl c3 (kO I hgl hm ⟨rfl,?_⟩ hdb)
 have h1:=ha cpos pins s1 σ H1 (λvs H2=>Same H1 H2/\vs=[.int kk]) I ⟨Ow,env,_,Er,hga,λvs H2 s2 rr=>⟨s2,by cases rr with | cons r1 r2=>cases r1;cases r2;rfl⟩⟩
 have h2:wpAny (model P w) (A.deeper (envOfC qual scope s.heap.objs.size f cd)) (spliced (backTo cpos (starEach [e] (envOfC qual scope s.heap.objs.size f cd)))) _ _ s1:=h1
 show wpAny (model P w) (A.deeper (envOfC qual scope s.heap.objs.size f cd)) (evalArgs (.ref (b.C.cl c)) true (backTo cpos (starEach [e] (envOfC qual scope s.heap.objs.size f cd))) []) _ _ s1
 rw[he] at h2 ⊢
 refine Calls.evalArgs_plain (wpAny_mono h2 (?_) λ_ _ y=>y)
 rintro us s2 ⟨vs,H2,I2,r,sm,hl⟩
 subst hl
 obtain⟨u0,rfl,t,rfl⟩:∃ u0,us=[u0]/\∃ t,u0=Value.int kk t:=by
  cases r with
  | cons r1 r2=>cases r2;exact⟨_,rfl,r1⟩
 refine⟨rfl,(show 1<=sizeLine by decide),I2.bk _ _ c1,c2.keeps I2.bk,c5.keeps I2.bk,⟨oI,I2.kIn _ _ hoI,hoc⟩,λh' ex hmk=>?_⟩
 obtain⟨t0,he0,ht0,_⟩:=hmk.there
 have I3:=I2.kept (t':=s2.toks) hmk.keeps
 have old:∀ a,s2.heap.get? a=none->s.heap.get? a=none:=λa n=>by
  cases z:s.heap.get? a with
  | none=>rfl
  | some o=>
   obtain⟨_,y⟩:=I2.base.there a o z (λz=>nomatch z)
   rw[n] at y;cases y
 have nH:H2 ex=none:=by
  cases z:H2 ex with
  | none=>rfl
  | some o=>
   obtain⟨_,y⟩:=(I2.hok ex o z).there
   rw[hmk.new] at y;cases y
 have np:∀ p∈(cR (CXW P w K) P w K mg base N qual scope f cd A outer s H E).pn++pins,p.1≠ex:=λp hp z=>by
  have:=(I2.pin p hp).1
  rw[z,hmk.new] at this;cases this
 have nLC:=jz I3 he0 rfl
 have I4:=I3.trackE (φ:=tQ ex (b.C.cl c) none) (λH'=>tR ⟨t0,he0⟩) (old ex hmk.new) nH np nLC.1 nLC.2
 have r2:Vals [V.ref ex,V.int kk] [Value.ref ex,Value.int kk t]:=.cons rfl (.cons ⟨t,rfl⟩ .nil)
 have hsp:zH (b.C.cl c) [.ref ex,.int kk] (upd H2 ex (d7 ex (b.C.cl c) none)) (λv H5=>v=.non/\∃ dx,upd H2 ex (d7 ex (b.C.cl c) none) dx=none/\dx≠ex/\H5=upd (upd (upd H2 ex (d7 ex (b.C.cl c) none)) dx (.xd [("at",.int kk)])) ex (d7 ex (b.C.cl c) (some dx))) E0:=
  ⟨ex,kk,rfl,bf,Nat.lt_of_le_of_lt (show kk.natAbs<=1000000 by omega) (by decide),λdx h1 h2=>⟨rfl,dx,h1,h2,rfl⟩⟩
 refine wpAny_call (codeAny_mono (FI.run _ _ _ _ ⟨[Value.ref ex,Value.int kk t],[]⟩ [Value.ref ex,Value.int kk t] _ _ E0 ((hr.mono hle).make (b.C.cl c) [Value.int kk t] []) (I4.env0.make (b.C.cl c) [Value.int kk t] []) (hB _ [Value.ref ex,Value.int kk t] I4.kIn rfl) r2 hsp) λres s5 hq=>?_)
 cases res with
 | error ex2=>exact False.elim hq
 | ok fl=>
  cases fl with
  | next=>exact False.elim hq
  | brk=>exact False.elim hq
  | cont=>exact False.elim hq
  | ret u=>
   have hq':CE (cR (CXW P w K) P w K mg base N qual scope f cd A outer s H E).stack P w K _ _ _ u s5:=hq
   obtain⟨v,H5,os5,bare5,un5,hok5,rv,hv,dx,nd1,ned,hH5⟩:=id hq'
   obtain⟨v',H5',I5,rv',hv',hH5'⟩:=I4.after (Q:=λv0 H0=>v0=v/\H0=H5) ⟨v,H5,os5,bare5,un5,hok5,rv,rfl,rfl⟩
   subst hv' hH5' hv hH5
   have ndH:H2 dx=none:=by rw[aH ned] at nd1;exact nd1
   have ndh:h'.get? dx=none:=by
    cases z:h'.get? dx with
    | none=>rfl
    | some o=>
     have:=un5.free dx o z nd1 (λz=>nomatch z)
     rw[aH ned,bf] at this;cases this
   have nd2:s2.heap.get? dx=none:=by
    cases z:s2.heap.get? dx with
    | none=>rfl
    | some o=>rw[hmk.keeps dx o z] at ndh;cases ndh
   obtain⟨t1,he5⟩:tQ ex (b.C.cl c) (some dx) s5.heap:=(I5.hok ex _ bf).1
   obtain⟨mA,hmA,hrel⟩:∃ mA,s5.heap.Ns1 dx mA/\∀ f,RelO (([("at",V.int kk)]:List (Str×V)).lookup f) (mA f):=I5.hok dx (.xd [("at",.int kk)]) (by rw[aH ned,bf])
   obtain⟨tt,htt⟩:∃ tt,mA "at" = some (.int kk tt):=by
    have z:=hrel "at"
    have z1:([("at",V.int kk)]:List (Str×V)).lookup (("at" : Str))=some (V.int kk):=rfl
    rw[z1] at z
    cases q:mA "at" with
    | none=>rw[q] at z;exact z.elim
    | some u=>rw[q] at z;obtain⟨t',rfl⟩:=(show ∃ t',u=Value.int kk t' from z);exact⟨t',rfl⟩
   have eD:del (del (upd (upd (upd H2 ex (d7 ex (b.C.cl c) none)) dx (.xd [("at",.int kk)])) ex (d7 ex (b.C.cl c) (some dx))) ex) dx=H2:=by
    funext a
    by_cases h1:a=dx
    ·subst h1;rw[nR,ndH]
    ·rw[mV h1]
     by_cases h2:a=ex
     ·subst h2;rw[nR,nH]
     ·rw[mV h2,aH h2,aH h1,aH h2]
   have I6:=(I5.forget (a:=ex) bf (λ_ z=>by unfold d7 at z;cases z) (λ_ _ z=>by unfold d7 at z;cases z) (λ_ z=>by unfold d7 at z;cases z) (λ_ z=>by unfold d7 at z;cases z)).forget (a:=dx) (o:=.xd [("at",.int kk)]) (by rw[mV ned,aH ned,bf]) (λ_ z=>nomatch z) (λ_ _ z=>nomatch z) (λ_ z=>nomatch z) (λ_ z=>nomatch z)
   rw[eD] at I6
   obtain rfl:u=Value.none:=rv
   refine⟨rfl,I6.bk _ _ c1,⟨t1,some dx,he5⟩,?_⟩
   show wpAny (model P w) (A.deeper (envOfC qual scope s.heap.objs.size f cd)) (leaving (envOfC qual scope s.heap.objs.size f cd) (.ref ex)) (λ_ s''=>CXW P w K outer H s E (.ref ex) s'') (λe' s''=>CXW P w K outer H s E e' s'') s5
   have fld:Fld s5.heap ex dx (some kk.toNat):=⟨⟨_,he5,rfl⟩,mA,tt,hmA.ns,by rw[htt,Int.toNat_of_nonneg hkk.1]⟩
   refine BV (B:=PySem.W.hideAll s5.heap (ex::frs (envOfC qual scope s.heap.objs.size f cd::outer))) (a0:=.ref t1) I6.ok.frames (PySem.W.funFrames_hide I6.stack λen hen a hfa=>List.mem_cons_of_mem _ (List.mem_filterMap.mpr ⟨en,hen,hfa⟩)) rfl he5 (λb o q=>PySem.W.of_hideAll _ q) (PySem.W.hideAll_none _ List.mem_cons_self) rfl rfl rfl fld λh6 fl6 up6 fd6=>?_
   have gr:Grd (PySem.W.hideAll s5.heap (ex::frs (envOfC qual scope s.heap.objs.size f cd::outer))) s.heap s5.heap H2 (envOfC qual scope s.heap.objs.size f cd::outer):=λa o q n=>by
    by_cases ha:a=ex
    ·subst ha;exact .inr ⟨old a hmk.new,nH⟩
    ·by_cases hb:a∈frs (envOfC qual scope s.heap.objs.size f cd::outer)
     ·exact .inl hb
     ·rw[PySem.W.hideAll_get _ q (λz=>(List.mem_cons.mp z).elim ha hb)] at n;cases n
   obtain⟨u2,hok2,gr2⟩:=yp I6 (λa o q=>PySem.W.of_hideAll _ q) fl6.1 gr up6
   exact⟨ex,.ref (b.C.cl c),.ref t1,_,H2,rfl,I6.os,I6.bare,u2,hok2,fl6,old ex hmk.new,nH,gr2,dx,some kk.toNat,fd6,old dx nd2,ndH,hW H2 (Er.same.trans sm)⟩
end
end MR
namespace MR
open PySem L2 PyProof.Rows PySem.Spec
theorem PS.nox {X:Cx}{st:Stmt}{t:TS}(h:PS X.nox st t):PS X st t:=λpins s σ H D I hw=>wpAny_mono (h pins s σ H D (I.wish _) hw) (λ_ _ q=>q.unwish) λ_ _ z=>z.elim
def ik (g:PV->Env->Option Env) (ds:List Nat) (f:Env->Option Out) (xf:Env->Option XV):List PV->Env->Option XV
 | [],_=>none
 | x::xs,env=>(g x env).bind λe1=>match xf e1 with
  | some c=>some c
  | none=>(f e1).bind λo=>match o with
   | .nx e=>ik g ds f xf xs (clr ds e)
   | .ct e=>ik g ds f xf xs (clr ds e)
   | _=>none
def Fl (g:PV->Env->Option Env) (src:Env->Option (List PV)) (ds:List Nat) (f:Env->Option Out) (xf:Env->Option XV) (env:Env):Option XV:=(src env).bind λxs=>ik g ds f xf xs (clr ds env)
@[simp] theorem Qg (g:PV->Env->Option Env) (src:Env->Option (List PV)) (ds:List Nat) (f:Env->Option Out) (xf:Env->Option XV) (env:Env):Fl g src ds f xf env=((src env).bind λxs=>ik g ds f xf xs (clr ds env)):=id rfl
section
variable {P:Program}{w:World}{K:PySem.W.Frag}{mg:Str->Option Value}{base:Heap}{N:List Str}{qual:Str}{scope:Scope}{f:Addr}{cd:Value}{A:Around}{outer:List PySem.Env}{s:Shared}{H:Hp}{E:XK}
theorem zJ:PassesOwn (model P w) (cR (CXW P w K) P w K mg base N qual scope f cd A outer s H E).A (cR (CXW P w K) P w K mg base N qual scope f cd A outer s H E).env (cR (CXW P w K) P w K mg base N qual scope f cd A outer s H E).xe:=by
 show PassesOwn (model P w) (A.deeper (envOfC qual scope s.heap.objs.size f cd)) (envOfC qual scope s.heap.objs.size f cd) (λe s'=>wpAny (model P w) (A.deeper (envOfC qual scope s.heap.objs.size f cd)) (leaving (envOfC qual scope s.heap.objs.size f cd) e) (λ_ s''=>CXW P w K outer H s E e s'') (λe' s''=>CXW P w K outer H s E e' s'') s')
 passes_own
theorem Ln {b:BX}{G:List Nat}{ro:Bool}{tg it:Expr}{body:List Stmt}{g:PV->Env->Option Env}{src:Env->Option (List PV)}{h:Env->Option Out}{xf:Env->Option XV}{pos:Pos}(ds:List Nat)
  (hi:SI (cR (CXW P w K) P w K mg base N qual scope f cd A outer s H E) b G true tg it src) (hg:SG (cR (CXW P w K) P w K mg base N qual scope f cd A outer s H E) b G tg g)
  (hb:SSs (cR (CXW P w K) P w K mg base N qual scope f cd A outer s H E).nox b G G G ro body h) (hx:XSs (cR (CXW P w K) P w K mg base N qual scope f cd A outer s H E) (tX b G (WD b E) xf) body)
  (hs:∀ x,foldedSetIterable it (envOfC qual scope s.heap.objs.size f cd) x=pure x:=by intro _;rfl):XS (cR (CXW P w K) P w K mg base N qual scope f cd A outer s H E) (tX b G (WD b E) (Fl g src ds h xf)) (.For tg it body [] pos):=by
 intro pins s1 σ H1 I ⟨Ow,env,c0,Er,hx0,hW⟩
 have hxs:PSs (cR (CXW P w K) P w K mg base N qual scope f cd A outer s H E) body (λ_ σ H=>tX b G (WD b E) xf [] σ H):=λpins s1 σ H1 D I ⟨Ow,env,c0,Er,q,hW⟩=>wpAny_mono (hx pins s1 σ H1 I ⟨Ow,env,c0,Er,q,hW⟩) (λ_ _ z=>z.elim) λ_ _ z=>z
 refine wpAny_mono (vp zJ rfl hi hg (PSs.or (PSs.nox hb) hxs) hs pins s1 σ H1 { nx:=λ_ _=>False,rt:=λ_ _=>False } I ?_) (λfl s2 z=>?_) λ_ _ z=>z
 rotate_left
 ·cases fl with
  | next=>obtain⟨_,_,_,q⟩:=z;exact q
  | ret u=>obtain⟨_,_,_,_,_,q⟩:=z;exact q
  | brk=>obtain⟨_,_,_,q⟩:=z;exact q
  | cont=>obtain⟨_,_,_,q⟩:=z;exact q
 obtain⟨ps,hps,hl⟩:=aD hx0
 refine⟨Ow,env,ps,Er,hps,λJ H2 s2 iw=>?_⟩
 refine⟨λi m σ2 H3=>m=ps.length - i/\i<=ps.length/\∃ Ow2 env2,ER b Ow2 G σ2 env2 H3/\Ex (Bs b Ow) H2 (Bs b Ow2) H3/\ik g ds h xf (ps.drop i) env2=some c0,⟨ps.length,by simp,Nat.zero_le _,Ow,clr ds env,(Er.up s2).clr,Ex.refl _ _,by simpa using hl⟩,?_⟩
 rintro i m σ2 H3 ⟨rfl,hi,Ow2,env2,E2,x2,l2⟩
 obtain⟨w1,w2⟩:=iw Ow2 H3 (λz=>by cases z) x2 λa=>E2.fresh
 by_cases hlt:i < ps.length
 ·rw[List.drop_eq_getElem_cons hlt] at l2
  obtain⟨e1,he1,l2⟩:=aD l2
  obtain⟨g1,g2⟩:=w1 i ps[i] (List.getElem?_eq_getElem hlt)
  refine .inr ⟨g1,fun σ' H'=>i+1<=ps.length/\∃ Ow2 env2,ER b Ow2 G σ' env2 H'/\Ex (Bs b Ow) H2 (Bs b Ow2) H'/\ik g ds h xf (ps.drop (i+1)) env2=some c0,fun σ' H' q=>⟨ps.length - (i+1),by omega,rfl,q⟩,λx H' y=>?_⟩
  obtain⟨s3,r3⟩:=g2 x H' y
  refine⟨Ow2,env2,_,e1,E2.up s3,r3,he1,fun σ3 E3=>?_⟩
  cases q:xf e1 with
  | some c=>
   rw[q] at l2
   cases l2
   exact .inr ⟨Ow2,e1,_,E3,q,hW⟩
  | none=>
   rw[q] at l2
   obtain⟨o,ho,l2⟩:=aD l2
   refine .inl ⟨Ow2,e1,o,E3,ho,?_⟩
   cases o with
   | nx e'=>exact λOw' σ' H'' E' x'=>⟨hlt,Ow',_,E'.clr,x2.trans ((Ex.of_same s3).trans x'),l2⟩
   | ct e'=>exact λOw' σ' H'' E' x'=>⟨hlt,Ow',_,E'.clr,x2.trans ((Ex.of_same s3).trans x'),l2⟩
   | bk e'=>cases l2
   | rt p=>cases l2
 ·have e:i=ps.length:=by omega
  subst e
  rw[List.drop_length] at l2
  cases l2
end
end MR
namespace L2
open PySem PySem.Spec PyProof.Rows
section
open HT
variable {prog:Program}{w:World}{A:Around}{E:Value->Shared->Prop}{s:Shared}
theorem n_ {t sl:Addr}{items:Array Value}{vl vu:Value}{lo hi:Option Int}{Q:Value->Shared->Prop}(ht:IsTup s.heap t items) (hs:s.heap.IsSliceOf sl vl vu .none) (pl:IsPart vl lo) (pu:IsPart vu hi)
  (hw1:sIx items.size 0 lo=0) (hw2:sIx items.size items.size hi=items.size) (h:Q (.ref t) s):wpAny (model prog w) A (getItem (.ref t) (.ref sl)) Q E s:=by
 obtain⟨os,hos,hcs,hds⟩:=id hs
 have hTs:s.TypeIs (.ref sl) "slice" := ⟨os,hos,hcs⟩
 unfold getItem
 try with_reducible refine wpAny_holding ?_
 first | refine wpAny_bind (wpAny_pure ?_) | skip
 refine wpAny_bind (wpAny_sequenceKey ht.typeIs (by decide) ?_)
 refine wpAny_bind (wpAny_callSpecial?_slot (name:=Str.ofString "__getitem__") ht.typeIs PyProof.Rows.slot_tuple_getitem
  (wpAny_call_entry PyProof.Rows.slot_tuple_getitem ht.typeIs entry_tuple_getitem ?_ (args_tuple_getitem _ _)))
 show wpAny _ _ (Builtin.Tuple.tupleItemsOf (.ref t) >>= _) _ _ s
 refine wpAny_bind (tupleItemsOf_ ht ?_)
 refine wpAny_bind (wpAny_typeOf hTs ?_)
 rw[if_pos (by decide)]
 refine wpAny_bind (lq hs pl pu ?_)
 have hy:(((sIx items.size 0 lo:Nat):Int) == 0&&(1:Int) == 1&&(sIx items.size items.size hi - sIx items.size 0 lo) == items.size)=true:=by rw[hw1,hw2];simp
 show wpAny _ _ (if (((sIx items.size 0 lo:Nat):Int) == 0&&(1:Int) == 1&&(sIx items.size items.size hi - sIx items.size 0 lo) == items.size)=true then _ else _) _ _ s
 rw[if_pos hy]
 refine wpAny_bind ?_
 unfold Builtin.Tuple.tupleIsExact
 refine wpAny_bind (wpAny_typeOf ht.typeIs (wpAny_pure ?_))
 rw[if_pos (by decide)]
 refine wpAny_bind (wpAny_rule ?_)
 exact wpAny_pure ⟨_,rfl,wpAny_pure h⟩
end
variable {X:Cx}
def Lp (K:PySem.W.Frag):V->Option Int->Option Int->Hp->VK->Prop:=λx lo hi H Q=>∃ a xs,x=.ref a/\SqT K H a xs/\HT.sIx xs.length 0 lo=0/\HT.sIx xs.length xs.length hi=xs.length/\Q x H
theorem Ih:SlR X (Lp X.K):=by
 intro pins s σ H x v vl vu lo hi sl Q I rx hs pl pu h
 obtain⟨a,xs,rfl,hx,hw1,hw2,q⟩:=h
 cases rx
 obtain⟨its,r,ht,hz⟩:=I.tuple hx
 have hlen:its.toArray.size=xs.length:=by rw[List.size_toArray];exact r.length.symm
 refine⟨"tuple",_,PyProof.Rows.slot_tuple_getitem.lookup,ht.typeIs,?_⟩
 exact n_ ht hs pl pu (by rw[hlen];exact hw1) (by rw[hlen];exact hw2) ⟨.ref a,H,I,rfl,q⟩
end L2
namespace MR
open PySem PySem.Spec PyProof.Rows L2
def zK (x:PV) (l h:Option Int):Option PV:=match x,l,h with
 | .tup xs,none,some i=>if 0<=i then some (.tup (fG xs none (some i))) else none
 | _,_,_=>none
def lY (f:Env->Option PV) (lo hi:Env->Option (Option Int)) (env:Env):Option PV:=(f env).bind λx=>(lo env).bind λl=>(hi env).bind λh=>zK x l h
@[simp] theorem Ph (f:Env->Option PV) (lo hi:Env->Option (Option Int)) (env:Env):lY f lo hi env=((f env).bind λx=>(lo env).bind λl=>(hi env).bind λh=>zK x l h):=id rfl
section
variable {X:Cx}{b:BX}{G:List Nat}{m:Md}{e:Expr}{f:Env->Option PV}{pos:Pos}
theorem Ii {lo hi:Option Expr}{p2:Pos}{fl fh:Env->Option (Option Int)}(h1:SE X b G m e f) (hl:SO X b G lo fl) (hh:SO X b G hi fh) (hK:X.K=b.C.K:=by rfl):SE X b G .val (.Subscript e (.Slice lo hi none p2) pos) (lY f fl fh):=by
 refine PE.imp (vB (r:=λx lo hi H Q=>JV b.C.K x lo hi H Q\/Lp b.C.K x lo hi H Q) (by rw[← hK];exact SlR.or JW Ih) h1.bor hl hh) fun σ H Q ⟨Ow,env,p,E,hf,k⟩=>?_
 unfold lY at hf
 cases q1:f env with
 | none=>rw[q1] at hf;cases hf
 | some p1=>
  rw[q1] at hf
  cases q2:fl env with
  | none=>rw[q2] at hf;cases hf
  | some l=>
   rw[q2] at hf
   cases q3:fh env with
   | none=>rw[q3] at hf;cases hf
   | some h=>
    rw[q3] at hf
    refine⟨Ow,env,p1,E,q1,λv H1 s1 r1=>⟨Ow,env,l,E.up s1,q2,λH2 s2=>⟨Ow,env,h,E.up (s1.trans s2),q3,λH3 s3=>?_⟩⟩⟩
    have r1':RepB b.C (Bs b Ow) H3 v p1:=Res.up (m:=.bor) r1 (s2.trans s3)
    simp only[Option.bind_some] at hf
    unfold zK at hf
    split at hf
    ·rename_i xs i
     split at hf
     ·rename_i hi
      cases hf
      obtain⟨a,vs,rfl,ha,ra⟩:=r1'.tup
      have hln:=ra.length
      have hix:HT.sIx vs.length vs.length (some i)=min i.toNat vs.length:=by
       show (if i < 0 then (i+(vs.length:Int)).toNat else min i.toNat vs.length)=_
       rw[if_neg (by omega)]
      by_cases hlt:i.toNat < vs.length
      ·refine .inl ⟨a,vs,rfl,ha.sq,?_,λq hq=>k _ _ (s1.trans (s2.trans (s3.trans (cT hq _)))) (Res.down (s1.trans (s2.trans s3)) (pM hq (ra.cut none (some i))))⟩
       rintro ⟨_,z⟩
       omega
      ·refine .inr ⟨a,vs,rfl,ha.sq,rfl,by rw[hix];omega,?_⟩
       have e:fG xs none (some i)=xs:=by
        unfold fG
        have hix2:HT.sIx xs.length xs.length (some i)=min i.toNat xs.length:=by
         show (if i < 0 then (i+(xs.length:Int)).toNat else min i.toNat xs.length)=_
         rw[if_neg (by omega)]
        rw[hix2,HT.sIx_none,List.drop_zero,Nat.sub_zero,Nat.min_eq_right (by omega),List.take_length]
       rw[e] at k
       exact k _ _ (s1.trans (s2.trans s3)) (Res.down (s1.trans (s2.trans s3)) (ha.rep ra))
     ·cases hf
    ·cases hf
end
end MR
namespace MR
open PySem L2
@[simp] def Jx:PV->Option PV
 | .int i=>some (.int (if i < 0 then -i else i))
 | _=>none
end MR
namespace MR
open PySem PySem.Spec PyProof.Rows L2
section
variable {X:Cx}{b:BX}{G:List Nat}{p pos:Pos}{m1:Md}{e:Expr}{f:Env->Option PV}
end
end MR
namespace MR
open PySem L2
def dB (ys:List Str) (env:Env):Option (List PV):=some (ys.map PV.str)
@[simp] theorem Pj (ys:List Str) (env:Env):dB ys env=some (ys.map PV.str):=id rfl
def strsOf:List Expr->Option (List Str)
 | []=>some []
 | .Constant (.str y) _ _::es=>(strsOf es).map (y::·)
 | _=>none
theorem jP {X:Cx}{b:BX}{G:List Nat}:∀ {es:List Expr}{ys:List Str},strsOf es=some ys->SA X b G false es (dB ys)
 | [],ys,h=>by
  cases h
  exact aA
 | e::es,ys,h=>by
  cases e with
  | Constant c j p=>
   cases c with
   | str y=>
    obtain⟨zs,h1,rfl⟩:=Option.map_eq_some_iff.mp h
    exact ak (f:=bC (.str y)) (g:=dB zs) aB (jP h1) rfl
   | _=>cases h
  | _=>cases h
def Cj:List Stmt->Option (Str×List Str)
 | .Assign [.Name x _] (.List es _) _::_=>(strsOf es).map λys=>(x,ys)
 | _=>none
theorem Fo {B:List Stmt}{x:Str}{ys:List Str}(h:Cj B=some (x,ys)):∃ es p1 p2 p3,strsOf es=some ys/\B=.Assign [.Name x p1] (.List es p2) p3::B.tail:=by
 unfold Cj at h
 split at h
 ·rename_i y p1 es p2 p3 r
  obtain⟨zs,h1,h2⟩:=Option.map_eq_some_iff.mp h
  cases h2
  exact⟨es,p1,p2,p3,h1,rfl⟩
 ·cases h
def Ck:List Stmt->Option (Str×Str×List Str)
 | .Assign [.Name x _] (.BinOp (.Name y _) .Add (.List es _) _) _::_=>(strsOf es).map λys=>(x,y,ys)
 | _=>none
theorem wu {B:List Stmt}{x y:Str}{ys:List Str}(h:Ck B=some (x,y,ys)):∃ es p1 p2 p3 p4 p5,strsOf es=some ys/\B=.Assign [.Name x p1] (.BinOp (.Name y p2) .Add (.List es p3) p4) p5::B.tail:=by
 unfold Ck at h
 split at h
 ·obtain⟨zs,h1,h2⟩:=Option.map_eq_some_iff.mp h
  cases h2
  exact⟨_,_,_,_,_,_,h1,rfl⟩
 ·cases h
end MR
namespace My
open PySem L2 MR
noncomputable section
def pW:PV:=.ktp [.str "1",.str "2",.str "3",.str "4"]
def rH:PV:=.ktp [.str "0",.str "1",.str "2",.str "3",.str "4"]
def aK:PV:=.ktp [.str "("]
def bU:=(sIf (tV (b2 inQ (b2 ixP (bV 4) (bC (.int 0))) (bI (aj (bC (.str "(")) (aj (bC (.str ")")) aq))))) (aJ 3 (b2 eqQ (b2 ixP (bV 4) (bC (.int 0))) (bC (.str "(")))) (aG (aJ 2 (b2 bz (bV 2) (bC (.int 1)))) (sIf (tV (b2 eqQ (b2 ixP (bV 4) (bC (.int 0))) (bC (.str "row")))) (cV dU 1 (bI (aj (bV 2) (aj (bV 3) aq)))) sNx)))
def j8:=(aG (aJ 1 (aO aq)) (aG (aJ 2 (bC (.int 0))) (aG (aJ 3 (bC (.bl false))) (aG (mq (gN 4) (iV (bV 0)) [4] bU) (aQ (bV 1))))))
def d8:=cP 5 1 false j8
def jm:=(bV 0)
def dg:=(tA (tV (b2 eqQ (b2 ixP (bV 0) (bC (.int 0))) (bC (.str ")")))) (tV (b2 eqQ (b2 ixP (bV 0) (bC (.int 1))) (bC (.int 0)))))
def jQ:=(aQ (b2 neQ (bY [none] (iV (bV 0)) (gN 0) dg jm) (aO aq)))
def di:=cP 1 1 false jQ
def oZ:=(aG (aJ 1 (aO (dB ["a", "as", "x", "iamb", "long", "b", "measured", "u"]))) (aQ (b2 ixP (bV 1) (b2 cM (bV 0) (bC (.int 8))))))
def fc:=cP 2 1 false oZ
def o4:=(aG (aJ 1 (aO (aj (bC .non) (aj (bC (.str "a")) (aj (bC (.str "b")) (aj (bC (.str "c")) (aj (bC (.str "A")) (aj (bC (.str "B")) (aj (bC (.str "a")) (aj (bC (.str "z")) aq)))))))))) (aQ (b2 ixP (bV 1) (b2 cM (bV 0) (bC (.int 8))))))
def fj:=cP 2 1 false o4
def iU:=(b2 ixP (bV 0) (bC (.int 0)))
def gn:=(bV 0)
def gq:=(tN (tV (b2 ixP (bV 0) (bC (.int 1)))))
def fu:=(aG (aJ 2 (bY [none] (iV (bV 0)) (gN 0) cL iU)) (aG (aJ 3 (b2 jt (bV 1) (bC (.int 9)))) (aG (aJ 4 (iy (b2 inQ (bC (.str "(")) (bV 2)) (b2 dJ (bC (.str ")")) (bV 2)))) (aG (aJ 5 (b2 cM (bV 3) (bC (.int 4)))) (aG (sIf (tA (tV (b2 eqQ (b2 cM (bV 1) (bC (.int 9))) (bC (.int 7)))) (tV (b2 dJ (bC (.str "(")) (bV 2)))) (aQ (bI (aj (bC (.str "(")) aq))) sNx) (aG (sIf (tA (tV (b2 eqQ (b2 cM (bV 1) (bC (.int 9))) (bC (.int 8)))) (tA (tV (bV 4)) (tV (b2 neQ (b2 ixP (bV 2) (b1 iB (bC (.int 1)))) (bC (.str "(")))))) (aQ (bI (aj (bC (.str ")")) (aj (bV 5) (aj (b2 bz (b2 maxV (bC (.int 1)) (bV 5)) (b2 cM (b2 jt (bV 3) (bC (.int 4))) (b2 subV (bC (.int 5)) (b2 maxV (bC (.int 1)) (bV 5))))) aq))))) sNx) (aG (aJ 6 (aN d8 (aj (bV 0) aq))) (aG (sIf (tA (tN (tV (bV 4))) (tV (aN di (aj (bV 0) aq)))) (aJ 6 (bY [none] (iV (bV 6)) (gN 0) gq gn)) sNx) (aG (sIf (tA (tV (b2 inQ (b2 cM (bV 1) (bC (.int 9))) (bI (aj (bC (.int 5)) (aj (bC (.int 6)) aq))))) (tV (b2 neQ (bV 6) (aO aq)))) (aQ (bI (aj (bC (.str "as")) (aj (b2 ixP (b2 ixP (bV 6) (b2 cM (bV 3) (b1 lenV (bV 6)))) (bC (.int 0))) aq)))) sNx) (aQ (bI (aj (bC (.str "row")) (aj (aN fc (aj (bV 3) aq)) (aj (aN fj (aj (b2 jt (bV 3) (bC (.int 8))) aq)) aq))))))))))))))
def dW:=cP 7 2 false fu
def eQ:=(cV dU 1 (jx dW (aj (bL (bV 1)) (aj (bV 2) aq))))
def iW:=(b2 ixP (bV 0) (bC (.int 0)))
def jD:=(aG (aJ 1 (aO aq)) (aG (mq (gN 2) (iV (bV 0)) [2] eQ) (aG (aJ 3 (bY [none] (iV (bV 1)) (gN 0) cL iW)) (aG (sIf (tO (tV (b2 eqQ (bV 3) (aO aq))) (tV (b2 eqQ (b2 ixP (bV 3) (b1 iB (bC (.int 1)))) (bC (.str "("))))) (cV dU 1 (bI (aj (bC (.str "row")) (aj (bC (.str "x")) (aj (bC (.str "a")) aq))))) sNx) (aG (sIf (tA (tV (b2 inQ (bC (.str "(")) (bV 3))) (tV (b2 dJ (bC (.str ")")) (bV 3)))) (cV dU 1 (bI (aj (bC (.str ")")) (aj (bC (.int 1)) (aj (bC (.int 2)) aq))))) sNx) (aQ (b1 mR (bV 1))))))))
def dX:=cP 4 1 false jD
def mW:=(b1 jM (bV 0))
def eU:=(sIf (tV (b2 eqQ (b2 ixP (bV 2) (bC (.int 0))) (bC (.str "row")))) (cV dU 1 (b2 bz (b2 bz (b2 ixP (bV 2) (bC (.int 1))) (bC (.str " "))) (b2 ixP (aO (aj (bC (.str "-")) (aj (b2 ixP (bV 2) (bC (.int 2))) aq))) (b1 kE (b2 jW (b2 ixP (bV 2) (bC (.int 2))) (bC .non)))))) (cV dU 1 (b2 bQ (bC (.str " ")) (bY [none] (iV (bV 2)) (gN 0) cL mW))))
def o5:=(aG (aJ 1 (aO aq)) (aG (mq (gN 2) (iV (bV 0)) [2] eU) (aQ (b2 bQ (bC (.str "; ")) (bV 1)))))
def bN:=cP 3 1 false o5
def eG:=(bV 0)
def eH:=(tV (b2 dJ (b2 ixP (bV 0) (bC (.int 0))) (bI (aj (bC (.str "(")) (aj (bC (.str ")")) (aj (bC (.str "as")) aq))))))
def il:=(aG (aJ 1 (bSl (bY [none] (iV (bV 0)) (gN 0) eH eG) oN (oS (bC (.int 11))))) (aG (aJ 2 (b2 gQ (aN bN (aj (b1 mR (bV 1)) aq)) (bC (.str "; ")))) (aG (aJ 3 (aO (aj (bI (aj (b2 bQ (bC (.str "; ")) (b2 a_ (aO (aj (bC (.str "(")) aq)) (bV 2))) (aj (b2 bz (b1 lenV (bV 2)) (bC (.int 1))) aq))) (aj (bI (aj (b2 bQ (bC (.str "; ")) (b2 a_ (bV 2) (aO (aj (bC (.str "(")) aq)))) (aj (b2 bz (b1 lenV (bV 2)) (bC (.int 1))) aq))) aq)))) (aG (cV dU 3 (bI (aj (b2 bQ (bC (.str "; ")) (b2 a_ (bV 2) (aO (aj (bC (.str "(")) (aj (bC (.str ") 1 2")) aq))))) (aj (b2 bz (b1 lenV (bV 2)) (bC (.int 1))) aq)))) (aG (cV dU 3 (bI (aj (b2 bQ (bC (.str "; ")) (b2 a_ (bV 2) (aO (aj (bC (.str "(")) (aj (bC (.str "(")) aq))))) (aj (b2 bz (b1 lenV (bV 2)) (bC (.int 1))) aq)))) (aG (cV dU 3 (bI (aj (b2 bQ (bC (.str "; ")) (b2 a_ (bV 2) (aO (aj (bC (.str ") 1 2")) aq)))) (aj (b1 lenV (bV 2)) aq)))) (aG (cV dU 3 (bI (aj (b2 bQ (bC (.str "; ")) (b2 a_ (b2 a_ (aO (aj (bC (.str "(")) aq)) (bV 2)) (aO (aj (bC (.str ") 1 2")) (aj (bC (.str ") 1 2")) aq))))) (aj (b2 bz (b1 lenV (bV 2)) (bC (.int 2))) aq)))) (aG (cV dU 3 (bI (aj (b2 bQ (bC (.str "; ")) (b2 a_ (b2 a_ (aO (aj (bC (.str "(")) aq)) (bV 2)) (aO (dB [") 1 2", "(", "x a", ") 1 1"])))) (aj (b2 bz (b1 lenV (bV 2)) (bC (.int 2))) aq)))) (aG (cV dU 3 (bI (aj (b2 bQ (bC (.str "; ")) (b2 a_ (b2 a_ (aO (aj (bC (.str "(")) aq)) (bV 2)) (aO (aj (bC (.str ") 0 2")) (aj (bC (.str "as 1")) aq))))) (aj (b2 bz (b1 lenV (bV 2)) (bC (.int 2))) aq)))) (aG (cV dU 3 (bI (aj (b2 bQ (bC (.str "; ")) (b2 a_ (bV 2) (aO (aj (bC (.str "as 1")) (aj (b2 bz (bC (.str "as ")) (b1 jM (b2 bz (b1 lenV (bV 2)) (bC (.int 1))))) aq))))) (aj (b2 bz (b1 lenV (bV 2)) (bC (.int 1))) aq)))) (aQ (bV 3))))))))))))
def dC:=cP 4 1 false il
def iY:=(bV 0)
def gw:=(tV (b2 eqQ (b2 ixP (bV 0) (bC (.int 0))) (bC (.str ")"))))
def o7:=(aG (aJ 1 (bY [none] (iV (bV 0)) (gN 0) gw iY)) (aQ (bIf (tV (b2 (sS λi j=>decide (j < i)) (b1 lenV (bV 1)) (bC (.int 0)))) (b2 ixP (bV 1) (bC (.int 0))) (bC .non))))
def b_:=cP 2 1 false o7
def nT:=(aQ (iy (b2 inQ (bC aK) (bV 0)) (b2 isN (aN b_ (aj (bV 0) aq)) (bC .non))))
def bw:=cP 1 1 false nT
def mX:=(aG (sIf (tO (tV (b2 dJ (bV 0) (bC rH))) (tO (tV (b2 dJ (bV 1) (bC pW))) (tV (b2 v7 (b1 kE (bV 1)) (b1 kE (bV 0)))))) (aQ (bC .non)) sNx) (aQ (bI (aj (bC (.str ")")) (aj (b1 kE (bV 0)) (aj (b1 kE (bV 1)) aq))))))
def dj:=cP 2 2 false mX
def iD:=(b1 jM (bV 0))
def lG:=(aQ (b2 inQ (bV 0) (bY [none] (iR2 (bC (.int 1)) (b2 bz (bC (.int 12)) (bC (.int 1)))) (gN 0) cL iD)))
def cO:=cP 1 1 false lG
def lH:=(b2 inQ (bV 0) (bC (.str "abcdefghijklmnopqrstuvwxyz")))
def rJ:=(aQ (iy (oU (λi j=>decide (i<=j)) (λi j=>decide (i<=j)) (bC (.int 1)) (b1 lenV (bV 0)) (bC (.int 8))) (b1 Eb (bY [none] (iV (bV 0)) (gN 0) cL lH))))
def fM:=cP 1 1 false rJ
def o8:=(aQ (iy (b2 eqQ (b1 lenV (bV 0)) (bC (.int 1))) (b2 inQ (bV 0) (bC (.str "abcdefghijklmnopqrstuvwxyz")))))
def iG:=cP 1 1 false o8
def kI:=(aQ (bOr (b2 eqQ (bV 0) (bC (.str "-"))) (bOr (aN iG (aj (bV 0) aq)) (iy (b2 eqQ (b1 lenV (bV 0)) (bC (.int 1))) (b2 inQ (bV 0) (b1 v9 (bC (.str "abcdefghijklmnopqrstuvwxyz"))))))))
def dD:=cP 1 1 false kI
def iH:=(aG (aJ 1 (b2 gQ (bV 0) (bC (.str " ")))) (aG (sIf (tV (b2 eqQ (bV 1) (aO (aj (bC (.str "(")) aq)))) (aQ (bC aK)) sNx) (aG (sIf (tA (tV (b2 eqQ (b1 lenV (bV 1)) (bC (.int 3)))) (tV (b2 eqQ (b2 ixP (bV 1) (bC (.int 0))) (bC (.str ")"))))) (aQ (aN dj (aj (b2 ixP (bV 1) (bC (.int 1))) (aj (b2 ixP (bV 1) (bC (.int 2))) aq)))) sNx) (aG (sIf (tV (b2 neQ (b1 lenV (bV 1)) (bC (.int 2)))) (aQ (bC .non)) sNx) (aG (sIf (tA (tV (b2 eqQ (b2 ixP (bV 1) (bC (.int 0))) (bC (.str "as")))) (tV (aN cO (aj (b2 ixP (bV 1) (bC (.int 1))) aq)))) (aQ (bI (aj (bC (.str "as")) (aj (b1 kE (b2 ixP (bV 1) (bC (.int 1)))) aq)))) sNx) (aG (sIf (tA (tV (aN fM (aj (b2 ixP (bV 1) (bC (.int 0))) aq))) (tV (aN dD (aj (b2 ixP (bV 1) (bC (.int 1))) aq)))) (aQ (bI (aj (bC (.str "row")) (aj (b2 ixP (bV 1) (bC (.int 0))) (aj (bIf (tV (b2 eqQ (b2 ixP (bV 1) (bC (.int 1))) (bC (.str "-")))) (bC .non) (b2 ixP (bV 1) (bC (.int 1)))) aq))))) sNx) (aQ (bC .non))))))))
def bO:=cP 2 1 false iH
def bT:=(nIf 1 (tO (tV (b2 eqQ (b2 ixP (bV 4) (bC (.int 0))) (bC (.str "(")))) (tV (b2 eqQ (b2 ixP (bV 4) (bC (.int 0))) (bC (.str ")"))))) (hid 1 (aJ 2 (b2 bz (bV 2) (bC (.int 1))))) (aG (hid 1 (aJ 3 (b2 bz (bV 3) (bC (.int 1))))) (El 1 (bV 2) (bI (aj (bV 3) (aj (bV 4) aq))))))
def jV:=(aG (onx (u_ 1 3)) (aG (onx (hid 1 (aJ 2 (bC (.int 0))))) (aG (onx (hid 1 (aJ 3 (bC (.int 0))))) (aG (onx (Ek 1 (gN 4) (iV (bV 0)) [4] bT)) (aQ (bV 1))))))
def bW:=cP 5 1 false jV
def dm:=(iy (b2 eqQ (bV 0) (bV 2)) (b2 eqQ (b2 ixP (bV 1) (bC (.int 0))) (bC (.str "row"))))
def jE:=(aG (aJ 2 (aN bW (aj (bV 0) aq))) (aG (aJ 3 (aN b_ (aj (bV 0) aq))) (aG (aJ 4 (bIf (tA (tV (b2 jW (bV 3) (bC .non))) (tV (b2 eqQ (b2 ixP (bV 3) (bC (.int 1))) (bC (.int 0))))) (aO aq) (b2 ixP (bV 2) (bC (.int 1))))) (aQ (b1 zg (bY [none,none,some 1] (iV (b2 a_ (b2 bz (b2 ixP (bV 2) (bC (.int 0))) (bV 4)) (b2 ixP (bV 2) (bC (.int 2))))) (gT [0,1]) cL dm))))))
def cZ:=cP 5 2 false jE
def fB:=(b1 lenV (bV 0))
def cF:=(aG (sIf (tV (b2 eqQ (bV 1) (bC aK))) (aQ (b2 dJ (bC aK) (bV 0))) sNx) (aG (sIf (tV (b2 eqQ (b2 ixP (bV 1) (bC (.int 0))) (bC (.str ")")))) (aQ (iy (aN bw (aj (bV 0) aq)) (b2 neQ (b2 ixP (bV 0) (b1 iB (bC (.int 1)))) (bC aK)))) sNx) (aG (sIf (tV (b2 eqQ (b1 sY (bY [none] (iV (aN bW (aj (bV 0) aq))) (gN 0) cL fB)) (bC (.int 12)))) (aQ (bC (.bl false))) sNx) (aQ (bOr (b2 eqQ (b2 ixP (bV 1) (bC (.int 0))) (bC (.str "row"))) (aN cZ (aj (bV 0) (aj (b2 ixP (bV 1) (bC (.int 1))) aq))))))))
def aZ:=cP 2 2 false cF
def bj:=(aG (aJ 5 (aN bO (aj (bV 4) aq))) (aG (sIf (tO (tV (b2 isN (bV 5) (bC .non))) (tN (tV (jx aZ (aj (bL (bV 2)) (aj (bV 5) aq)))))) sNo sNx) (cV dU 2 (bV 5))))
def bK:=(tK (aJ 5 (aN bO (aj (bV 4) aq))) (xIf (tO (tV (b2 isN (bV 5) (bC .non))) (tN (tV (jx aZ (aj (bL (bV 2)) (aj (bV 5) aq)))))) (pU (aj (bV 3) aq) 13) xNo))
def mY:=(aG (aJ 5 (aN bO (aj (bV 4) aq))) (aG (sIf (tO (tV (b2 isN (bV 5) (bC .non))) (tN (tV (jx aZ (aj (bL (bV 2)) (aj (bV 5) aq)))))) sNo sNx) (cV dU 2 (bV 5))))
def o9:=(aG (aJ 1 (b2 gQ (bV 0) (bC (.str "; ")))) (aG (aJ 2 (aO aq)) (aG (mq (gT [3,4]) (iE2 (bV 1)) [3,4,5] bj) (aG (sIf (tV (jx bw (aj (bL (bV 2)) aq))) sNo sNx) (aQ (b1 mR (bV 2)))))))
def gA:=cP 6 1 false o9
def jF:=(tK (aJ 1 (b2 gQ (bV 0) (bC (.str "; ")))) (tK (aJ 2 (aO aq)) (xOr (Fl (gT [3,4]) (iE2 (bV 1)) [3,4,5] bj bK) (tK (mq (gT [3,4]) (iE2 (bV 1)) [3,4,5] mY) (xIf (tV (jx bw (aj (bL (bV 2)) aq))) (pU (aj (b1 lenV (bV 1)) aq) 13) xNo)))))
def dF:=tL 6 1 jF
def f9:=(zq (aN gA (aj (bV 0) aq)))
def gf:=(zE (aj (bV 0) aq) dF)
def ir:=(aG (aJ 1 (bC .non)) (Fj f9 gf 13 (onN λn=>(.int (n:Int))) (aG (sIf (tV (b2 isN (bV 1) (bC .non))) (aQ (b1 iB (bC (.int 1)))) sNx) sNo)))
def aL:=cP 3 1 false ir
def cz:=(bV 0)
def cC:=(tV (b2 dJ (b2 ixP (bV 0) (bC (.int 0))) (bI (aj (bC (.str "(")) (aj (bC (.str ")")) aq)))))
def qH:=(aG (aJ 3 (b1 lenV (bY [none] (iV (lY (bV 0) oN (oS (bV 1)))) (gN 0) cC cz))) (aG (aJ 4 (aO (dB ["", " ", "x", "x ", " x", "x  a", "x aa", "x 1", "x -a", "X a", "x1 a", "measuredx a", "x a ", "x a b"]))) (aG (aJ 4 (b2 a_ (bV 4) (aO (dB ["as", "as ", "as 0", "as 01", "as -1", "as 13", "as 100000000000000000000", "as 1 2", "As 1"])))) (aG (aJ 4 (b2 a_ (bV 4) (aO (aj (bC (.str "- a")) (aj (bC (.str "as 1a")) aq))))) (aG (aJ 4 (b2 a_ (bV 4) (aO (aj (b2 bz (bC (.str "as ")) (b1 jM (b2 bz (bV 3) (bC (.int 1))))) (aj (bC (.str "( ")) (aj (bC (.str "()")) (aj (bC (.str "(a")) (aj (bC (.str ")")) (aj (bC (.str ") 1")) (aj (bC (.str ") 1 2 3")) (aj (bC (.str ") 2 1")) (aj (bC (.str ") 0 0")) (aj (bC (.str ") 1 5")) (aj (bC (.str ") 5 5")) aq)))))))))))))) (aG (aJ 4 (b2 a_ (bV 4) (aO (dB [") 01 2", ") 1 02", ") -1 2", ") a b", ") 1  2", "x a;", "x;a"])))) (aQ (b2 ixP (bV 4) (b2 cM (bV 2) (bC (.int 43)))))))))))
def dM:=cP 5 3 false qH
def d9:=(aG (aJ 2 (b2 gQ (aN bN (aj (bV 0) aq)) (bC (.str "; ")))) (aG (aJ 3 (b2 cM (bV 1) (b2 bz (b1 lenV (bV 2)) (bC (.int 1))))) (aG (aJ 4 (b2 jt (bV 1) (b2 bz (b1 lenV (bV 2)) (bC (.int 1))))) (aG (aJ 5 (aN dM (aj (bV 0) (aj (bV 3) (aj (b2 jt (bV 4) (bC (.int 2))) aq))))) (aG (sIf (tV (b2 eqQ (b2 cM (bV 4) (bC (.int 2))) (bC (.int 0)))) (aQ (bI (aj (b2 bQ (bC (.str "; ")) (b2 a_ (b2 a_ (bSl (bV 2) oN (oS (bV 3))) (aO (aj (bV 5) aq))) (bSl (bV 2) (oS (bV 3)) oN))) (aj (bV 3) aq)))) sNx) (aQ (bI (aj (b2 bQ (bC (.str "; ")) (b2 a_ (b2 a_ (bSl (bV 2) oN (oS (bV 3))) (aO (aj (bV 5) aq))) (bSl (bV 2) (oS (b2 bz (bV 3) (bC (.int 1)))) oN))) (aj (bV 3) aq)))))))))
def d_:=cP 6 2 false d9
def jG:=(aG (sIf (tV (b2 v7 (bV 1) (b1 lenV (bV 0)))) (aQ (b2 ixP (bV 0) (bV 1))) sNx) (aQ (bC (.int 0))))
def aX:=cP 2 2 false jG
def jR:=(aG (vZ (gT [4,5]) (aN d_ (aj (bV 1) (aj (bV 3) aq)))) (sIf (tV (b2 neQ (aN aL (aj (bV 4) aq)) (bV 5))) (aQ (bC (.bl false))) sNx))
def lJ:=(b2 ixP (bV 1) (b2 cM (b2 bz (bV 2) (bV 0)) (bC (.int 4))))
def lK:=(b2 ixP (bV 1) (b2 cM (b2 bz (bV 2) (bV 0)) (bC (.int 4))))
def rK:=(aG (aJ 1 (aN dX (aj (bSl (bV 0) (oS (bC (.int 3))) (oS (bC (.int 15)))) aq))) (aG (aJ 2 (aN bN (aj (bV 1) aq))) (aG (sIf (tV (b2 neQ (aN aL (aj (bV 2) aq)) (b1 iB (bC (.int 1))))) (aQ (bC (.bl false))) sNx) (aG (mq (gN 3) (iV (b2 a_ (aO (aj (aN aX (aj (bV 0) (aj (bC (.int 0)) aq))) aq)) (bSl (bV 0) (oS (bC (.int 15))) (oS (bC (.int 27)))))) [3,4,5] jR) (aG (aJ 6 (aN dC (aj (bV 1) aq))) (aG (vZ (gT [4,5]) (b2 ixP (bV 6) (b2 cM (aN aX (aj (bV 0) (aj (bC (.int 1)) aq))) (b1 lenV (bV 6))))) (aG (sIf (tV (b2 neQ (aN aL (aj (bV 4) aq)) (bV 5))) (aQ (bC (.bl false))) sNx) (aG (aJ 7 (b2 cM (aN aX (aj (bV 0) (aj (bC (.int 2)) aq))) (bC (.int 4)))) (aG (aJ 8 (aO (dB ["x a", "as 1", "x -", "b B"]))) (aG (aJ 9 (b2 bQ (bC (.str "; ")) (b2 a_ (aO (aj (bC (.str "x a")) aq)) (bY [none,some 8,some 7] (iR1 (bC (.int 12))) (gN 0) cL lJ)))) (aG (aJ 10 (b2 bQ (bC (.str "; ")) (b2 a_ (aO (aj (bC (.str "x a")) aq)) (bY [none,some 8,some 7] (iR1 (bC (.int 11))) (gN 0) cL lK)))) (aQ (iy (b2 eqQ (aN aL (aj (bV 9) aq)) (bC (.int 12))) (iy (b2 eqQ (aN aL (aj (bV 10) aq)) (b1 iB (bC (.int 1)))) (b2 eqQ (aN aL (aj (bV 2) aq)) (b1 iB (bC (.int 1))))))))))))))))))
def rM:=cP 11 1 false rK
end
end My
namespace My
open PySem L2 MR
theorem qI {α S:Type}{g:PV->MR.Env->Option MR.Env}{ds:List Nat}{body:MR.Env->Option Out}(c:α->PV) (E:S->MR.Env) (I:List α->S->Prop) (hh:∀ y ys s,I (y::ys) s->∃ s',I ys s'/\turn g ds body (c y) (E s)=some (E s')):∀ (ys:List α) (s:S),I ys s->
  ∃ s',I [] s'/\cW g ds body (ys.map c) (E s)=some (.nx (E s'))
 | [],s,i=>⟨s,i,rfl⟩
 | y::ys,s,i=>by
  obtain⟨s1,i1,h1⟩:=hh y ys s i
  obtain⟨s2,i2,h2⟩:=qI c E I hh ys s1 i1
  exact⟨s2,i2,by rw[List.map_cons,dz h1,h2]⟩
theorem lL (x:Str) (cs:List Str):inP (.str x) (.lst (cs.map .str))=some (decide (x∈cs)):=by
 have h1:(cs.map PV.str).all cN=true:=by rw[List.all_map,List.all_eq_true];exact λ_ _=>rfl
 have h2:((cs.map PV.str).any λy=>eqF y (.str x))=decide (x∈cs):=by
  rw[List.any_map]
  induction cs with
  | nil=>simp
  | cons c r ih=>
   rw[List.any_cons,ih (by rw[List.all_map,List.all_eq_true];exact λ_ _=>rfl)]
   by_cases e:x=c
   ·subst e;simp[eqF]
   ·have e':¬ c=x:=λz=>e z.symm
    simp[eqF,e,e']
 simp[inP,cN,h1,h2]
inductive Pt where
 | op | cl (lo hi:Nat) | as (r:Nat) | rw(nm:Str) (bd:Option Str)
def hdS:Pt->Str
 | .op => "("
 | .cl _ _ => ")"
 | .as _ => "as"
 | .rw _ _ => "row"
def bdP:Option Str->PV
 | none=>.non
 | some b=>.str b
def ptP:Pt->PV
 | .op=>.tup [.str "("]
 | .cl lo hi=>.tup [.str ")",.int (lo:Nat),.int (hi:Nat)]
 | .as r=>.tup [.str "as",.int (r:Nat)]
 | .rw nm bd=>.tup [.str "row",.str nm,bdP bd]
def isIt:Pt->Bool
 | .as _=>true
 | .rw _ _=>true
 | _=>false
def six:List Str:=["a", "b", "c", "A", "B", "z"]
def eightN:List Str:=["a", "as", "x", "iamb", "long", "b", "measured", "u"]
theorem o_:∀ x∈eightN,PyData.strOk x=true:=by
 intro x hx
 simp only[eightN,List.mem_cons,List.not_mem_nil,or_false] at hx
 rcases hx with e | e | e | e | e | e | e | e <;> subst e <;> decide +kernel
structure PtOk (p:Pt):Prop where
 nm:∀ n b,p=.rw n b->n∈eightN/\∀ x,b=some x->x∈six
theorem ww:∀ x∈six,PyData.strOk x=true:=by
 intro x hx
 simp only[six,List.mem_cons,List.not_mem_nil,or_false] at hx
 rcases hx with e | e | e | e | e | e <;> subst e <;> decide +kernel
theorem zL (p:Pt):∃ r,ptP p=.tup (.str (hdS p)::r):=by
 cases p with
 | op=>exact⟨_,rfl⟩
 | cl lo hi=>exact⟨_,rfl⟩
 | as r=>exact⟨_,rfl⟩
 | rw n b=>exact⟨_,rfl⟩
theorem e1:¬ (("(" : Str) = ")"):=by decide
theorem e2:¬ (("as" : Str) = "("):=by decide
theorem e3:¬ (("as" : Str) = ")"):=by decide
theorem e4:¬ (("row" : Str) = "("):=by decide
theorem e5:¬ (("row" : Str) = ")"):=by decide
theorem e6:¬ (("as" : Str) = "row"):=by decide
theorem e7:¬ ((")" : Str) = "("):=by decide
theorem e8:¬ (("row" : Str) = "as"):=by decide
theorem Cm {p:Pt}(h:PtOk p):okP 1 (ptP p):=by
 have k1:PyData.strOk ("(" : Str)=true:=by decide +kernel
 have k2:PyData.strOk (")" : Str)=true:=by decide +kernel
 have k3:PyData.strOk ("as" : Str)=true:=by decide +kernel
 have k4:PyData.strOk ("row" : Str)=true:=by decide +kernel
 cases p with
 | op=>simp[ptP,okP,k1]
 | cl lo hi=>simp[ptP,okP,k2]
 | as r=>simp[ptP,okP,k3]
 | rw n b=>
  obtain⟨h1,h2⟩:=h.nm n b rfl
  have h1:=o_ n h1
  cases b with
  | none=>simp[ptP,okP,k4,h1,bdP]
  | some x=>simp[ptP,okP,k4,h1,bdP,ww x (h2 x rfl)]
theorem Ij (n:Int):∃ x,x∈eightN/\fc [.int n]=some (.str x):=by
 obtain⟨k,hk,e⟩:∃ k:Nat,k < 8/\n % 8=k:=⟨(n % 8).toNat,by omega,by omega⟩
 have hl:k < eightN.length:=hk
 have hat:atI [PV.str "a",.str "as",.str "x",.str "iamb",.str "long",.str "b",.str "measured",.str "u"] (n % 8)=some (.str eightN[k]):=by
  have:atI (eightN.map PV.str) (k:Int)=some (.str eightN[k]):=gR (by simp[hl])
  rw[e];exact this
 refine⟨eightN[k],List.getElem_mem _,?_⟩
 generalize eightN[k]=x at *
 simp[fc,oZ,hat]
def eightB:List (Option Str):=[none,some "a",some "b",some "c",some "A",some "B",some "a",some "z"]
theorem Ik (n:Int):∃ b:Option Str,(∀ x,b=some x->x∈six)/\fj [.int n]=some (bdP b):=by
 obtain⟨k,hk,e⟩:∃ k:Nat,k < 8/\n % 8=k:=⟨(n % 8).toNat,by omega,by omega⟩
 have hl:k < eightB.length:=hk
 have hat:atI [PV.non,.str "a",.str "b",.str "c",.str "A",.str "B",.str "a",.str "z"] (n % 8)=some (bdP eightB[k]):=by
  have:atI (eightB.map bdP) (k:Int)=some (bdP eightB[k]):=gR (by simp[hl])
  rw[e];exact this
 refine⟨eightB[k],?_,?_⟩
 ·intro x hx
  have hm:some x∈eightB:=by rw[← hx];exact List.getElem_mem _
  simp only[eightB,List.mem_cons,List.not_mem_nil,or_false,Option.some.injEq,reduceCtorEq,false_or] at hm
  simp only[six,List.mem_cons,List.not_mem_nil,or_false]
  rcases hm with h | h | h | h | h | h | h <;> simp[h]
 ·generalize bdP eightB[k]=x at *
  simp[fj,o4,hat]
def aU:List Pt->Nat->Bool->List (Nat×Bool)
 | [],_,_=>[]
 | .op::l,n,_=>aU l n true
 | .cl _ _::l,n,_=>aU l n false
 | .as _::l,n,b=>aU l (n+1) b
 | .rw _ _::l,n,b=>(n+1,b)::aU l (n+1) b
def rtP (z:Nat×Bool):PV:=.tup [.int (z.1:Nat),.bl z.2]
theorem wy (x:Str):inP (.str x) (.tup [.str "(",.str ")"])=some (decide (x=("(" : Str))||decide (x=(")" : Str))):=by
 have h:inP (.str x) (.tup [.str "(",.str ")"])=some ([PV.str "(",.str ")"].any λy=>eqF y (.str x)):=by
  show (if cN (.str x)=true/\[PV.str "(",.str ")"].all cN=true then some ([PV.str "(",.str ")"].any λy=>eqF y (.str x)) else inD (.str x) [PV.str "(",.str ")"])=_
  rw[if_pos ⟨rfl,rfl⟩]
 rw[h]
 simp only[List.any_cons,List.any_nil,Bool.or_false]
 congr 1
 have a1:eqF (.str ("(" : Str)) (.str x)=decide (x=("(" : Str)):=by
  by_cases q:x=("(" : Str)
  ·simp[eqF,q]
  ·have q':¬ ("(" : Str)=x:=λz=>q z.symm
   simp[eqF,q,q']
 have a2:eqF (.str (")" : Str)) (.str x)=decide (x=(")" : Str)):=by
  by_cases q:x=(")" : Str)
  ·simp[eqF,q]
  ·have q':¬ (")" : Str)=x:=λz=>q z.symm
   simp[eqF,q,q']
 rw[a1,a2]
theorem mZ {GP:PV}:∀ (l:List Pt) (R:List (Nat×Bool)) (n:Nat) (b:Bool),R.length+l.length < 1000->
  ∃ x2 x3,cW (gN 4) [4] bU (l.map ptP) [some GP,some (.lst (R.map rtP)),some (.int (n:Nat)),some (.bl b),none]=some (.nx [some GP,some (.lst ((R++aU l n b).map rtP)),x2,x3,none])
 | [],R,n,b,_=>⟨_,_,by simp[aU,cW];exact⟨rfl,rfl⟩⟩
 | p::l,R,n,b,h=>by
  have q1:=e1;have q2:=e2;have q3:=e3;have q4:=e4;have q5:=e5;have q6:=e6;have q7:=e7
  have hR:R.length < 1000000:=by omega
  simp only[List.length_cons] at h
  cases p with
  | op=>
   obtain⟨x2,x3,ih⟩:=mZ (GP:=GP) l R n true (by omega)
   have ht:turn (gN 4) [4] bU (ptP .op) [some GP,some (.lst (R.map rtP)),some (.int (n:Nat)),some (.bl b),none]=some [some GP,some (.lst (R.map rtP)),some (.int (n:Nat)),some (.bl true),none]:=by
    simp[dY,bU,ptP,wy]
   exact⟨x2,x3,by rw[List.map_cons,dz ht];exact ih⟩
  | cl lo hi=>
   obtain⟨x2,x3,ih⟩:=mZ (GP:=GP) l R n false (by omega)
   have ht:turn (gN 4) [4] bU (ptP (.cl lo hi)) [some GP,some (.lst (R.map rtP)),some (.int (n:Nat)),some (.bl b),none]=some [some GP,some (.lst (R.map rtP)),some (.int (n:Nat)),some (.bl false),none]:=by
    simp[dY,bU,ptP,wy,q7]
   exact⟨x2,x3,by rw[List.map_cons,dz ht];exact ih⟩
  | as r=>
   obtain⟨x2,x3,ih⟩:=mZ (GP:=GP) l R (n+1) b (by omega)
   have ht:turn (gN 4) [4] bU (ptP (.as r)) [some GP,some (.lst (R.map rtP)),some (.int (n:Nat)),some (.bl b),none]=some [some GP,some (.lst (R.map rtP)),some (.int ((n+1:Nat):Int)),some (.bl b),none]:=by
    simp[dY,bU,ptP,wy,q2,q3,q6]
   exact⟨x2,x3,by rw[List.map_cons,dz ht];exact ih⟩
  | rw nm bd=>
   obtain⟨x2,x3,ih⟩:=mZ (GP:=GP) l (R++[(n+1,b)]) (n+1) b (by simp;omega)
   have ht:turn (gN 4) [4] bU (ptP (.rw nm bd)) [some GP,some (.lst (R.map rtP)),some (.int (n:Nat)),some (.bl b),none]=some [some GP,some (.lst ((R++[(n+1,b)]).map rtP)),some (.int ((n+1:Nat):Int)),some (.bl b),none]:=by
    simp[dY,bU,ptP,wy,q4,q5,hR,rtP]
   refine⟨x2,x3,by rw[List.map_cons,dz ht,ih];simp[aU]⟩
def pP (l:List Pt):PV:=.lst (l.map ptP)
theorem Fp {l:List Pt}(h:l.length < 900):d8 [pP l]=some (.lst ((aU l 0 false).map rtP)):=by
 obtain⟨x2,x3,lp⟩:=mZ (GP:=pP l) l [] 0 false (by simpa using by omega)
 have hp:pP l=.lst (l.map ptP):=rfl
 simp only[List.map_nil,List.nil_append] at lp
 have hb:j8 [some (pP l),none,none,none,none]=some (.rt (.lst ((aU l 0 false).map rtP))):=by
  unfold j8
  generalize bU=B at *
  rw[hp] at lp ⊢
  have lp':cW (gN 4) [4] B (l.map ptP) [some (.lst (l.map ptP)),some (.lst []),some (.int 0),some (.bl false),none]=_:=lp
  simp[itV,lp']
 simp[d8,hb]
end My
namespace My
open PySem L2 MR
def heads (l:List Pt):List Str:=l.map hdS
theorem Fq (p:Pt):PyData.strOk (hdS p)=true:=by
 have k1:PyData.strOk ("(" : Str)=true:=by decide +kernel
 have k2:PyData.strOk (")" : Str)=true:=by decide +kernel
 have k3:PyData.strOk ("as" : Str)=true:=by decide +kernel
 have k4:PyData.strOk ("row" : Str)=true:=by decide +kernel
 cases p with
 | op=>exact k1
 | cl lo hi=>exact k2
 | as r=>exact k3
 | rw n b=>exact k4
theorem Il (l:List Pt):okP 1 (.lst ((heads l).map .str)):=by
 simp only[okP,List.mem_map,heads]
 rintro x ⟨y,⟨p,_,rfl⟩,rfl⟩
 simp[okP,Fq p]
theorem ix0 (p:Pt):ixP (ptP p) (.int 0)=some (.str (hdS p)):=by
 obtain⟨r,h⟩:=zL p
 rw[h]
 simp
theorem rN {ce:MR.Env->Option PV}(hce:ce=b2 ixP (bV 0) (bC (.int 0))) (l:List Pt):cX [none] (gN 0) cL ce (l.map ptP)=some ((heads l).map .str):=by
 subst hce
 rw[heads,List.map_map]
 exact jn _ _ l λp _=>⟨_,rfl,by obtain⟨r,h⟩:=zL p;simp[h]⟩
def jH:Pt->Bool
 | .cl 0 _=>true
 | _=>false
def lM (l:List Pt):Bool:=l.any jH
theorem Lq {l:List Pt}(hl:l.length < 900) (ok:∀ p∈l,PtOk p):di [pP l]=some (.bl (lM l)):=by
 have q2:=e3
 have q5:=e5
 have q1:=e1
 have hc:=gk (env:=[none]) (g:=gN 0) (t:=dg) (f:=jm) ptP ptP jH l λp _=>⟨[some (ptP p)],rfl,by
  cases p with
  | op=>simp[dg,ptP,jH,q1]
  | cl lo hi=>
   cases lo with
   | zero=>simp[dg,ptP,jH]
   | succ k=>
    have:¬ ((k+1:Nat):Int)=0:=by omega
    have h2:¬ ((k:Int)+1=0):=by omega
    simp[dg,ptP,jH,h2]
  | as r=>simp[dg,ptP,jH,q2]
  | rw n b=>simp[dg,ptP,jH,q5],λ_=>by simp[jm]⟩
 have hle:l.length<=1000000:=by omega
 have hp:pP l=.lst (l.map ptP):=rfl
 cases hf:l.filter jH with
 | nil=>
  have hb:lM l=false:=by
   unfold lM
   cases h:l.any jH with
   | false=>rfl
   | true=>
    obtain⟨p,h1,h2⟩:=List.any_eq_true.mp h
    have:p∈l.filter jH:=List.mem_filter.mpr ⟨h1,h2⟩
    rw[hf] at this;cases this
  rw[hf] at hc
  rw[hb,hp]
  simp[di,jQ,itV,hle,hc]
 | cons p ps=>
  have hb:lM l=true:=by
   have:p∈l.filter jH:=by rw[hf];exact List.mem_cons_self
   have h2:=List.mem_filter.mp this
   exact List.any_eq_true.mpr ⟨p,h2.1,h2.2⟩
  rw[hf] at hc
  rw[hb,hp]
  have he:eqP (.lst (ptP p::ps.map ptP)) (.lst [])=some false:=my (n:=1) (by
   simp only[okP,List.mem_cons,List.mem_map]
   have hm:∀ q∈p::ps,PtOk q:=λq hq=>ok q (by
    have:q∈l.filter jH:=by rw[hf];exact hq
    exact(List.mem_filter.mp this).1)
   rintro x (rfl | ⟨q,hq,rfl⟩)
   ·exact Cm (hm p List.mem_cons_self)
   ·exact Cm (hm q (List.mem_cons_of_mem _ hq))) (by decide)
  rw[List.map_cons] at hc
  simp[di,jQ,itV,hle,hc,he]
def rts (l:List Pt) (inner:Bool):List (Nat×Bool):=if (!inner&&lM l)=true then (aU l 0 false).filter λz=>!z.2 else aU l 0 false
def aY (l:List Pt):Bool:=decide (("(" : Str)∈heads l)&&!decide ((")" : Str)∈heads l)
theorem j4:∀ (l:List Pt) (n:Nat) (b:Bool),(aU l n b).length<=l.length
 | [],_,_=>Nat.le_refl _
 | .op::l,n,_=>by have:=j4 l n true;simp[aU];omega
 | .cl _ _::l,n,_=>by have:=j4 l n false;simp[aU];omega
 | .as _::l,n,b=>by have:=j4 l (n+1) b;simp[aU];omega
 | .rw _ _::l,n,b=>by have:=j4 l (n+1) b;simp[aU];omega
theorem Ls (R:List (Nat×Bool)):okP 2 (.lst (R.map rtP)):=by
 simp only[okP,List.mem_map]
 rintro x ⟨z,_,rfl⟩
 simp[rtP,okP]
theorem Pk (i:Int):inP (.int i) (.tup [.int 5,.int 6])=some (decide (i=5\/i=6)):=by
 have h:inP (.int i) (.tup [.int 5,.int 6])=some ([PV.int 5,.int 6].any λy=>eqF y (.int i)):=by
  show (if cN (.int i)=true/\[PV.int 5,.int 6].all cN=true then some ([PV.int 5,.int 6].any λy=>eqF y (.int i)) else inD (.int i) [PV.int 5,.int 6])=_
  rw[if_pos ⟨rfl,rfl⟩]
 rw[h]
 congr 1
 have a1:∀ k:Int,eqF (.int k) (.int i)=decide (i=k):=λk=>by
  by_cases q:i=k
  ·simp[eqF,q]
  ·have q':¬ k=i:=λz=>q z.symm
   simp[eqF,q,q']
 simp only[List.any_cons,List.any_nil,Bool.or_false,a1]
 rw[Bool.decide_or]
def nxE (l:List Pt) (c:Int) (x4 x5 x6:Option PV):MR.Env:=[some (pP l),some (.int c),some (.lst ((heads l).map .str)),some (.int (c / 9)),x4,x5,x6]
inductive Nx (l:List Pt):Pt->Prop
 | op:¬ ("(" : Str)∈heads l->Nx l .op
 | cl {lo hi:Nat}:aY l=true->(∀ h,(heads l).getLast?=some h->h ≠ "(")->lo<=hi->1<=hi->hi<=4->Nx l (.cl lo hi)
 | as {r:Nat}{b:Bool}:(r,b)∈rts l (aY l)->Nx l (.as r)
 | rw {n:Str}{b:Option Str}:n∈eightN->(∀ x,b=some x->x∈six)->Nx l (.rw n b)
theorem Im {l:List Pt}(c:Int) (hl:l.length < 900) (ok:∀ p∈l,PtOk p):∃ q,Nx l q/\dW [pP l,.int c]=some (ptP q):=by
 have hle:l.length<=1000000:=by omega
 have hp:pP l=.lst (l.map ptP):=rfl
 have hc1:=rN (ce:=iU) rfl l
 have hO:=lL "(" (heads l)
 have hC:=lL ")" (heads l)
 have hlow:=Lq hl ok
 have hrt:=Fp hl
 have done:∀ q,fu [some (pP l),some (.int c),none,none,none,none,none]=some (.rt (ptP q))->dW [pP l,.int c]=some (ptP q):=λq hb=>by
  unfold dW
  generalize fu=B at *
  simp[hb]
 have s1:aJ 2 (bY [none] (iV (bV 0)) (gN 0) cL iU) [some (pP l),some (.int c),none,none,none,none,none]=some (.nx [some (pP l),some (.int c),some (.lst ((heads l).map .str)),none,none,none,none]):=by
  rw[hp]
  generalize iU=ce at *
  simp[itV,hle,hc1]
 have s2:aJ 3 (b2 jt (bV 1) (bC (.int 9))) [some (pP l),some (.int c),some (.lst ((heads l).map .str)),none,none,none,none]=some (.nx (nxE l c none none none)):=by
  unfold nxE
  simp
 have s3:aJ 4 (iy (b2 inQ (bC (.str "(")) (bV 2)) (b2 dJ (bC (.str ")")) (bV 2))) (nxE l c none none none)=some (.nx (nxE l c (some (.bl (aY l))) none none)):=by
  unfold nxE aY
  generalize pP l=PP,(heads l).map PV.str=HP at *
  by_cases h1:("(" : Str)∈heads l <;> simp[hO,hC,h1]
 have s4:aJ 5 (b2 cM (bV 3) (bC (.int 4))) (nxE l c (some (.bl (aY l))) none none)=some (.nx (nxE l c (some (.bl (aY l))) (some (.int (c / 9 % 4))) none)):=by
  unfold nxE
  simp
 by_cases h7:c % 9=7/\¬ ("(" : Str)∈heads l
 ·refine⟨.op,.op h7.2,done _ ?_⟩
  have s5:sIf (tA (tV (b2 eqQ (b2 cM (bV 1) (bC (.int 9))) (bC (.int 7)))) (tV (b2 dJ (bC (.str "(")) (bV 2)))) (aQ (bI (aj (bC (.str "(")) aq))) sNx (nxE l c (some (.bl (aY l))) (some (.int (c / 9 % 4))) none)=some (.rt (ptP .op)):=by
   unfold nxE
   generalize pP l=PP,(heads l).map PV.str=HP at *
   simp[h7.1,h7.2,hO,ptP]
  unfold fu
  rw[aF s1,aF s2,aF s3,aF s4,mU s5]
 ·have s5:sIf (tA (tV (b2 eqQ (b2 cM (bV 1) (bC (.int 9))) (bC (.int 7)))) (tV (b2 dJ (bC (.str "(")) (bV 2)))) (aQ (bI (aj (bC (.str "(")) aq))) sNx (nxE l c (some (.bl (aY l))) (some (.int (c / 9 % 4))) none)=some (.nx (nxE l c (some (.bl (aY l))) (some (.int (c / 9 % 4))) none)):=by
   unfold nxE
   generalize pP l=PP,(heads l).map PV.str=HP at *
   by_cases h1:c % 9=7
   ·have h2:("(" : Str)∈heads l:=Classical.byContradiction λz=>h7 ⟨h1,z⟩
    simp[h1,h2,hO]
   ·simp[h1]
  by_cases h8:c % 9=8/\aY l=true/\∀ h,(heads l).getLast?=some h->h≠("(" : Str)
  ·obtain⟨k1,k2,k3⟩:=h8
   have hne:heads l≠[]:=λz=>by
    unfold aY at k2
    rw[z] at k2
    simp at k2
   obtain⟨h,hh⟩:∃ h,(heads l).getLast?=some h:=⟨_,List.getLast?_eq_some_getLast hne⟩
   have hx:=k3 h hh
   have hat:atI ((heads l).map PV.str) (-1)=some (.str h):=by
    rw[tD]
    have hl':0 < (heads l).length:=List.length_pos_iff.mpr hne
    have:atI (heads l) (-1)=some h:=by
     unfold atI ixN
     rw[if_neg (by decide),if_pos (by omega),Option.bind_some,← hh,List.getLast?_eq_getElem?]
     congr 1
     omega
    rw[this]
    rfl
   obtain⟨lo,hlo,elo⟩:∃ lo:Nat,lo < 4/\c / 9 % 4=lo:=⟨(c / 9 % 4).toNat,by omega,by omega⟩
   obtain⟨mx,hmx3,hmx⟩:∃ mx:Nat,(1<=mx/\mx<=3/\lo<=mx)/\maxV (.int 1) (.int (lo:Int))=some (.int (mx:Nat)):=by
    rcases(show lo=0\/lo=1\/lo=2\/lo=3 by omega) with rfl | rfl | rfl | rfl
    ·exact⟨1,by decide,rfl⟩
    ·exact⟨1,by decide,rfl⟩
    ·exact⟨2,by decide,rfl⟩
    ·exact⟨3,by decide,rfl⟩
   obtain⟨hi,hhi1,hhi2⟩:∃ hi:Nat,(mx<=hi/\hi<=4)/\(mx:Int)+c / 9 / 4 % (5 - (mx:Int))=hi:=by
    have q1:=Int.emod_nonneg (c / 9 / 4) (b:=5 - (mx:Int)) (by omega)
    have q2:=Int.emod_lt_of_pos (c / 9 / 4) (b:=5 - (mx:Int)) (by omega)
    exact⟨((mx:Int)+c / 9 / 4 % (5 - (mx:Int))).toNat,by omega,by omega⟩
   refine⟨.cl lo hi,.cl k2 k3 (by omega) (by omega) hhi1.2,done _ ?_⟩
   have hpos:0 < 5 - (mx:Int):=by omega
   have s6:sIf (tA (tV (b2 eqQ (b2 cM (bV 1) (bC (.int 9))) (bC (.int 8)))) (tA (tV (bV 4)) (tV (b2 neQ (b2 ixP (bV 2) (b1 iB (bC (.int 1)))) (bC (.str "(")))))) (aQ (bI (aj (bC (.str ")")) (aj (bV 5) (aj (b2 bz (b2 maxV (bC (.int 1)) (bV 5)) (b2 cM (b2 jt (bV 3) (bC (.int 4))) (b2 subV (bC (.int 5)) (b2 maxV (bC (.int 1)) (bV 5))))) aq))))) sNx (nxE l c (some (.bl (aY l))) (some (.int (c / 9 % 4))) none)=some (.rt (ptP (.cl lo hi))):=by
    unfold nxE
    rw[k2,elo]
    generalize pP l=PP,(heads l).map PV.str=HP at *
    simp only[ptP]
    have hm5:(mx:Int) < 5:=by omega
    simp[k1,hat,hx,hmx,hm5,hpos,hhi2,-maxV]
   unfold fu
   rw[aF s1,aF s2,aF s3,aF s4,aF s5,mU s6]
  ·have s6:sIf (tA (tV (b2 eqQ (b2 cM (bV 1) (bC (.int 9))) (bC (.int 8)))) (tA (tV (bV 4)) (tV (b2 neQ (b2 ixP (bV 2) (b1 iB (bC (.int 1)))) (bC (.str "(")))))) (aQ (bI (aj (bC (.str ")")) (aj (bV 5) (aj (b2 bz (b2 maxV (bC (.int 1)) (bV 5)) (b2 cM (b2 jt (bV 3) (bC (.int 4))) (b2 subV (bC (.int 5)) (b2 maxV (bC (.int 1)) (bV 5))))) aq))))) sNx (nxE l c (some (.bl (aY l))) (some (.int (c / 9 % 4))) none)=some (.nx (nxE l c (some (.bl (aY l))) (some (.int (c / 9 % 4))) none)):=by
    unfold nxE
    by_cases k1:c % 9=8
    ·cases k2:aY l with
     | false=>
      generalize pP l=PP,(heads l).map PV.str=HP at *
      simp[k1]
     | true=>
      have hne:heads l≠[]:=λz=>by
       unfold aY at k2
       rw[z] at k2
       simp at k2
      obtain⟨h,hh⟩:∃ h,(heads l).getLast?=some h:=⟨_,List.getLast?_eq_some_getLast hne⟩
      have hx:h=("(" : Str):=Classical.byContradiction λz=>h8 ⟨k1,k2,λh' hh'=>by rw[hh] at hh';cases hh';exact z⟩
      have hat:atI ((heads l).map PV.str) (-1)=some (.str h):=by
       rw[tD]
       have hl':0 < (heads l).length:=List.length_pos_iff.mpr hne
       have:atI (heads l) (-1)=some h:=by
        unfold atI ixN
        rw[if_neg (by decide),if_pos (by omega),Option.bind_some,← hh,List.getLast?_eq_getElem?]
        congr 1
        omega
       rw[this]
       rfl
      generalize pP l=PP,(heads l).map PV.str=HP at *
      simp[k1,hat,hx]
    ·generalize pP l=PP,(heads l).map PV.str=HP at *
     simp[k1]
   have hrl:=j4 l 0 false
   have s7:aJ 6 (aN d8 (aj (bV 0) aq)) (nxE l c (some (.bl (aY l))) (some (.int (c / 9 % 4))) none)=some (.nx (nxE l c (some (.bl (aY l))) (some (.int (c / 9 % 4))) (some (.lst ((aU l 0 false).map rtP))))):=by
    unfold nxE
    generalize d8=mr at *
    simp[hrt]
   have s8:sIf (tA (tN (tV (bV 4))) (tV (aN di (aj (bV 0) aq)))) (aJ 6 (bY [none] (iV (bV 6)) (gN 0) gq gn)) sNx (nxE l c (some (.bl (aY l))) (some (.int (c / 9 % 4))) (some (.lst ((aU l 0 false).map rtP))))=some (.nx (nxE l c (some (.bl (aY l))) (some (.int (c / 9 % 4))) (some (.lst ((rts l (aY l)).map rtP))))):=by
    have hc3:=gk (env:=[none]) (g:=gN 0) (t:=gq) (f:=gn) rtP rtP (λz=>!z.2) (aU l 0 false) λz _=>⟨[some (rtP z)],rfl,by simp[gq,rtP],λ_=>by simp[gn]⟩
    have hle2:(aU l 0 false).length<=1000000:=by omega
    unfold nxE rts
    generalize pP l=PP,(heads l).map PV.str=HP,di=mw,gq=cc,gn=ce at *
    cases hi:aY l <;> cases hw:lM l <;> rw[hw] at hlow <;> simp[hlow,itV,hle2,hc3]
   have hrl2:(rts l (aY l)).length<=l.length:=by
    unfold rts
    split
    ·exact Nat.le_trans (List.length_filter_le _ _) hrl
    ·exact hrl
   have hin:=Pk (c % 9)
   by_cases h5:(c % 9=5\/c % 9=6)/\rts l (aY l)≠[]
   ·obtain⟨z,zs,hz⟩:=List.exists_cons_of_ne_nil h5.2
    have hpos:0 < (rts l (aY l)).length:=List.length_pos_iff.mpr h5.2
    obtain⟨k,hk,ek⟩:∃ k:Nat,k < (rts l (aY l)).length/\c / 9 % ((rts l (aY l)).length:Int)=k:=by
     have q1:=Int.emod_nonneg (c / 9) (b:=((rts l (aY l)).length:Int)) (by omega)
     have q2:=Int.emod_lt_of_pos (c / 9) (b:=((rts l (aY l)).length:Int)) (by omega)
     exact⟨(c / 9 % ((rts l (aY l)).length:Int)).toNat,by omega,by omega⟩
    have hkm:=List.getElem_mem hk
    have hat:atI ((rts l (aY l)).map rtP) (k:Int)=some (rtP (rts l (aY l))[k]):=gR (by simp[hk])
    generalize hzz:(rts l (aY l))[k]=z0 at *
    have hneq:eqP (.lst ((rts l (aY l)).map rtP)) (.lst [])=some false:=by
     have:=Ls (rts l (aY l))
     rw[hz,List.map_cons] at this ⊢
     exact my (n:=1) this (by decide)
    refine⟨.as z0.1,.as (b:=z0.2) hkm,done _ ?_⟩
    have hlm:((rts l (aY l)).map rtP).length=(rts l (aY l)).length:=List.length_map ..
    have hpos':(0:Int) < ((rts l (aY l)).length:Int):=by omega
    rw[decide_eq_true h5.1] at hin
    have hat':atI ((rts l (aY l)).map rtP) (k:Int)=some (.tup [.int (z0.1:Nat),.bl z0.2]):=hat
    have s9:sIf (tA (tV (b2 inQ (b2 cM (bV 1) (bC (.int 9))) (bI (aj (bC (.int 5)) (aj (bC (.int 6)) aq))))) (tV (b2 neQ (bV 6) (aO aq)))) (aQ (bI (aj (bC (.str "as")) (aj (b2 ixP (b2 ixP (bV 6) (b2 cM (bV 3) (b1 lenV (bV 6)))) (bC (.int 0))) aq)))) sNx (nxE l c (some (.bl (aY l))) (some (.int (c / 9 % 4))) (some (.lst ((rts l (aY l)).map rtP))))=some (.rt (ptP (.as z0.1))):=by
     unfold nxE
     simp only[ptP]
     generalize pP l=PP,(heads l).map PV.str=HP,(rts l (aY l)).map rtP=RP at *
     simp[hin,hneq,hlm,hpos,hpos',ek,hat']
    unfold fu
    rw[aF s1,aF s2,aF s3,aF s4,aF s5,aF s6,aF s7,aF s8,mU s9]
   ·have s9:sIf (tA (tV (b2 inQ (b2 cM (bV 1) (bC (.int 9))) (bI (aj (bC (.int 5)) (aj (bC (.int 6)) aq))))) (tV (b2 neQ (bV 6) (aO aq)))) (aQ (bI (aj (bC (.str "as")) (aj (b2 ixP (b2 ixP (bV 6) (b2 cM (bV 3) (b1 lenV (bV 6)))) (bC (.int 0))) aq)))) sNx (nxE l c (some (.bl (aY l))) (some (.int (c / 9 % 4))) (some (.lst ((rts l (aY l)).map rtP))))=some (.nx (nxE l c (some (.bl (aY l))) (some (.int (c / 9 % 4))) (some (.lst ((rts l (aY l)).map rtP))))):=by
     unfold nxE
     by_cases k5:c % 9=5\/c % 9=6
     ·have hr0:rts l (aY l)=[]:=Classical.byContradiction λz=>h5 ⟨k5,z⟩
      rw[decide_eq_true k5] at hin
      rw[hr0]
      generalize pP l=PP,(heads l).map PV.str=HP at *
      simp[hin]
     ·rw[decide_eq_false k5] at hin
      generalize pP l=PP,(heads l).map PV.str=HP,(rts l (aY l)).map rtP=RP at *
      simp[hin]
    obtain⟨nm,n1,n2⟩:=Ij (c / 9)
    obtain⟨bd,b1',b2'⟩:=Ik (c / 9 / 8)
    refine⟨.rw nm bd,.rw n1 b1',done _ ?_⟩
    have s10:aQ (bI (aj (bC (.str "row")) (aj (aN fc (aj (bV 3) aq)) (aj (aN fj (aj (b2 jt (bV 3) (bC (.int 8))) aq)) aq)))) (nxE l c (some (.bl (aY l))) (some (.int (c / 9 % 4))) (some (.lst ((rts l (aY l)).map rtP))))=some (.rt (ptP (.rw nm bd))):=by
     unfold nxE
     simp only[ptP]
     generalize fc=m1,fj=m2 at *
     simp[n2,b2']
    unfold fu
    rw[aF s1,aF s2,aF s3,aF s4,aF s5,aF s6,aF s7,aF s8,aF s9]
    exact s10
end My
namespace My
open PySem L2 MR
inductive Fm where
 | f0 (A:List Pt) | f1 (A B:List Pt) | f2 (A B:List Pt) (lo hi:Nat) (C:List Pt)
def parts:Fm->List Pt
 | .f0 A=>A
 | .f1 A B=>A++.op::B
 | .f2 A B lo hi C=>A++.op::(B++.cl lo hi::C)
def Its (l:List Pt):Prop:=∀ p∈l,isIt p=true
def AsOk (N:List Pt) (a b lo:Nat):Prop:=∀ (i r:Nat),N[i]?=some (.as r)->1<=r/\r<=i/\(∃ nm bd,N[r - 1]?=some (.rw nm bd))/\(a+b<=i->lo=0->r<=a\/a+b < r)
def FOk:Fm->Prop
 | .f0 A=>Its A/\AsOk A A.length 0 1
 | .f1 A B=>Its A/\Its B/\AsOk (A++B) A.length B.length 1
 | .f2 A B lo hi C=>Its A/\Its B/\Its C/\AsOk (A++B++C) A.length B.length lo/\lo<=hi/\1<=hi/\hi<=4/\B≠[]
theorem j5:∀ (l rest:List Pt) (n:Nat) (b:Bool),Its l->aU (l++rest) n b=aU l n b++aU rest (n+l.length) b
 | [],rest,n,b,_=>by simp[aU]
 | .op::l,_,_,_,h=>by have:=h _ List.mem_cons_self;cases this
 | .cl _ _::l,_,_,_,h=>by have:=h _ List.mem_cons_self;cases this
 | .as r::l,rest,n,b,h=>by
  have ih:=j5 l rest (n+1) b λp hp=>h p (List.mem_cons_of_mem _ hp)
  show aU (l++rest) (n+1) b=aU l (n+1) b++_
  rw[ih,List.length_cons,show n+1+l.length=n+(l.length+1) by omega]
 | .rw nm bd::l,rest,n,b,h=>by
  have ih:=j5 l rest (n+1) b λp hp=>h p (List.mem_cons_of_mem _ hp)
  show (n+1,b)::aU (l++rest) (n+1) b=(n+1,b)::aU l (n+1) b++_
  rw[ih,List.length_cons,show n+1+l.length=n+(l.length+1) by omega]
  rfl
theorem gG:∀ {l:List Pt}{n:Nat}{b:Bool}{r:Nat}{c:Bool},Its l->(r,c)∈aU l n b->c=b/\n < r/\r<=n+l.length/\∃ nm bd,l[r - n - 1]?=some (.rw nm bd)
 | [],_,_,_,_,_,h=>by simp[aU] at h
 | .op::l,_,_,_,_,h,_=>by have:=h _ List.mem_cons_self;cases this
 | .cl _ _::l,_,_,_,_,h,_=>by have:=h _ List.mem_cons_self;cases this
 | .as q::l,n,b,r,c,h,hm=>by
  have hm':(r,c)∈aU l (n+1) b:=hm
  obtain⟨h1,h2,h3,nm,bd,h4⟩:=gG (λp hp=>h p (List.mem_cons_of_mem _ hp)) hm'
  refine⟨h1,by omega,by simp;omega,nm,bd,?_⟩
  rw[show r - n - 1=(r - (n+1) - 1)+1 by omega,List.getElem?_cons_succ]
  exact h4
 | .rw nm0 bd0::l,n,b,r,c,h,hm=>by
  have hm':(r,c)∈(n+1,b)::aU l (n+1) b:=hm
  rcases List.mem_cons.mp hm' with z | z
  ·cases z
   refine⟨rfl,by omega,by simp,nm0,bd0,?_⟩
   rw[show n+1 - n - 1=0 by omega]
   rfl
  ·obtain⟨h1,h2,h3,nm,bd,h4⟩:=gG (λp hp=>h p (List.mem_cons_of_mem _ hp)) z
   refine⟨h1,by omega,by simp;omega,nm,bd,?_⟩
   rw[show r - n - 1=(r - (n+1) - 1)+1 by omega,List.getElem?_cons_succ]
   exact h4
theorem pX {p:Pt}(h:isIt p=true):hdS p≠("(" : Str)/\hdS p≠(")" : Str):=by
 cases p with
 | op=>cases h
 | cl lo hi=>cases h
 | as r=>exact⟨e2,e3⟩
 | rw n b=>exact⟨e4,e5⟩
theorem gO {l:List Pt}(h:Its l):¬ ("(" : Str)∈heads l/\¬ (")" : Str)∈heads l:=by
 refine⟨λz=>?_,λz=>?_⟩
 ·obtain⟨p,h1,h2⟩:=List.mem_map.mp z
  exact(pX (h p h1)).1 h2
 ·obtain⟨p,h1,h2⟩:=List.mem_map.mp z
  exact(pX (h p h1)).2 h2
theorem rO {l:List Pt}(h:Its l):lM l=false:=by
 cases q:lM l with
 | false=>rfl
 | true=>
  obtain⟨p,h1,h2⟩:=List.any_eq_true.mp q
  have:=h p h1
  cases p <;> simp[jH] at h2 <;> cases this
theorem eE {l:List Pt}{p:Pt}(h:Its l) (hp:isIt p=true):Its (l++[p]):=λq hq=>by
 rcases List.mem_append.mp hq with z | z
 ·exact h q z
 ·rw[List.mem_singleton] at z;rw[z];exact hp
theorem Io {N:List Pt}{q x:Pt}{i:Nat}(h:(N++[q])[i]?=some x):(i < N.length/\N[i]?=some x)\/(i=N.length/\x=q):=by
 rcases Nat.lt_trichotomy i N.length with z | z | z
 ·rw[List.getElem?_append_left z] at h;exact .inl ⟨z,h⟩
 ·subst z
  rw[List.getElem?_append_right (Nat.le_refl _)] at h
  simp at h
  exact .inr ⟨rfl,h.symm⟩
 ·rw[List.getElem?_eq_none (by simp;omega)] at h;cases h
theorem AsOk.more {N:List Pt}{a b a' b' lo:Nat}{q:Pt}(h:AsOk N a b lo) (hab:a'+b'=N.length+1\/(a'=a/\b'=b)) (hq:∀ r,q=.as r->1<=r/\r<=N.length/\(∃ nm bd,N[r - 1]?=some (.rw nm bd))/\(a'+b'<=N.length->lo=0->r<=a'\/a'+b' < r)):AsOk (N++[q]) a' b' lo:=λi r hi=>by
 rcases Io hi with ⟨z1,z2⟩ | ⟨z1,z2⟩
 ·obtain⟨h1,h2,⟨nm,bd,h3⟩,h4⟩:=h i r z2
  refine⟨h1,h2,⟨nm,bd,by rw[List.getElem?_append_left (by omega)];exact h3⟩,λk1 k2=>?_⟩
  rcases hab with y | ⟨y1,y2⟩
  ·omega
  ·subst y1 y2;exact h4 k1 k2
 ·subst z1
  obtain⟨h1,h2,⟨nm,bd,h3⟩,h4⟩:=hq r z2.symm
  exact⟨h1,h2,⟨nm,bd,by rw[List.getElem?_append_left (by omega)];exact h3⟩,h4⟩
theorem Ip {f:Fm}{q:Pt}(h:FOk f) (hq:Nx (parts f) q):∃ f',FOk f'/\parts f'=parts f++[q]:=by
 have q7:=e7
 cases f with
 | f0 A=>
  obtain⟨h1,h2⟩:=h
  have hh:=gO h1
  have hin:aY A=false:=by unfold aY;rw[decide_eq_false hh.1];rfl
  have hlw:=rO h1
  cases hq with
  | op _=>exact⟨.f1 A [],⟨h1,(λp hp=>by cases hp),λi r hi=>by
    rw[List.append_nil] at hi ⊢
    obtain⟨k1,k2,k3,k4⟩:=h2 i r hi
    exact⟨k1,k2,k3,λy1 y2=>by cases y2⟩⟩,rfl⟩
  | cl hi _ _ _ _=>rw[show parts (.f0 A)=A from rfl,hin] at hi;cases hi
  | @as r b hr=>
   have hr':(r,b)∈aU A 0 false:=by
    have:parts (.f0 A)=A:=rfl
    rw[this] at hr
    unfold rts at hr
    rw[hlw,Bool.and_false,if_neg (by decide)] at hr
    exact hr
   obtain⟨k1,k2,k3,nm,bd,k4⟩:=gG h1 hr'
   refine⟨.f0 (A++[.as r]),⟨eE h1 rfl,?_⟩,rfl⟩
   exact h2.more (.inl (by simp)) λr' e=>by
    cases e
    exact⟨by omega,by omega,⟨nm,bd,by simpa using k4⟩,λy1 y2=>by cases y2⟩
  | @rw n0 b0 _ _=>
   refine⟨.f0 (A++[.rw n0 b0]),⟨eE h1 rfl,?_⟩,rfl⟩
   exact h2.more (.inl (by simp)) λr' e=>by cases e
 | f1 A B=>
  obtain⟨h1,h2,h3⟩:=h
  have hp:parts (.f1 A B)=A++.op::B:=rfl
  have ho:("(" : Str)∈heads (A++.op::B):=by simp[heads,hdS]
  have hcn:¬ (")" : Str)∈heads (A++.op::B):=by
   have a1:=(gO h1).2
   have a2:=(gO h2).2
   unfold heads at *
   simp only[List.map_append,List.map_cons,List.mem_append,List.mem_cons,hdS,not_or]
   exact⟨a1,q7,a2⟩
  have hin:aY (A++.op::B)=true:=by unfold aY;rw[decide_eq_true ho,decide_eq_false hcn];rfl
  have hroots:aU (A++.op::B) 0 false=aU A 0 false++aU B A.length true:=by
   rw[j5 A _ 0 false h1,Nat.zero_add]
   rfl
  rw[hp] at hq ⊢
  cases hq with
  | op hn=>exact absurd ho hn
  | @cl lo hi _ hlast k1 k2 k3=>
   refine⟨.f2 A B lo hi [],⟨h1,h2,(λp hp=>by cases hp),λi r hi'=>?_,k1,k2,k3,λe=>by subst e;exact hlast "(" (by simp[heads,hdS]) rfl⟩,by simp[parts]⟩
   rw[List.append_nil] at hi' ⊢
   obtain⟨k1,k2,k3,k4⟩:=h3 i r hi'
   refine⟨k1,k2,k3,λy1 _=>?_⟩
   have:i < (A++B).length:=by
    rcases Nat.lt_or_ge i (A++B).length with z | z
    ·exact z
    ·rw[List.getElem?_eq_none z] at hi';cases hi'
   rw[List.length_append] at this
   omega
  | @as r b hr=>
   have hr':(r,b)∈aU A 0 false++aU B A.length true:=by
    rw[← hroots]
    unfold rts at hr
    rw[hin] at hr
    exact hr
   have hrow:1<=r/\r<=(A++B).length/\∃ nm bd,(A++B)[r - 1]?=some (.rw nm bd):=by
    rcases List.mem_append.mp hr' with z | z
    ·obtain⟨k1,k2,k3,nm,bd,k4⟩:=gG h1 z
     refine⟨by omega,by simp;omega,nm,bd,?_⟩
     rw[List.getElem?_append_left (by omega)]
     simpa using k4
    ·obtain⟨k1,k2,k3,nm,bd,k4⟩:=gG h2 z
     refine⟨by omega,by simp;omega,nm,bd,?_⟩
     rw[List.getElem?_append_right (by omega),show r - 1 - A.length=r - A.length - 1 by omega]
     exact k4
   refine⟨.f1 A (B++[.as r]),⟨h1,eE h2 rfl,?_⟩,by simp[parts]⟩
   rw[← List.append_assoc]
   exact h3.more (.inl (by simp;omega)) λr' e=>by
    cases e
    exact⟨hrow.1,hrow.2.1,hrow.2.2,λy1 y2=>by cases y2⟩
  | @rw n0 b0 _ _=>
   refine⟨.f1 A (B++[.rw n0 b0]),⟨h1,eE h2 rfl,?_⟩,by simp[parts]⟩
   rw[← List.append_assoc]
   exact h3.more (.inl (by simp;omega)) λr' e=>by cases e
 | f2 A B lo hi C=>
  obtain⟨h1,h2,h3,h4,h5,h6,h7⟩:=h
  have hp:parts (.f2 A B lo hi C)=A++.op::(B++.cl lo hi::C):=rfl
  have ho:("(" : Str)∈heads (A++.op::(B++.cl lo hi::C)):=by simp[heads,hdS]
  have hc:(")" : Str)∈heads (A++.op::(B++.cl lo hi::C)):=by simp[heads,hdS]
  have hin:aY (A++.op::(B++.cl lo hi::C))=false:=by unfold aY;rw[decide_eq_true ho,decide_eq_true hc];rfl
  have hlw:lM (A++.op::(B++.cl lo hi::C))=decide (lo=0):=by
   unfold lM
   rw[List.any_append,List.any_cons,List.any_append,List.any_cons]
   have a1:=rO h1
   have a2:=rO h2
   have a3:=rO h3
   unfold lM at a1 a2 a3
   rw[a1,a2,a3]
   cases lo <;> simp[jH]
  have hroots:aU (A++.op::(B++.cl lo hi::C)) 0 false=aU A 0 false++(aU B A.length true++aU C (A.length+B.length) false):=by
   rw[j5 A _ 0 false h1,Nat.zero_add]
   show aU A 0 false++aU (B++.cl lo hi::C) A.length true=_
   rw[j5 B _ A.length true h2]
   rfl
  rw[hp] at hq ⊢
  cases hq with
  | op hn=>exact absurd ho hn
  | cl hi' _ _ _ _=>rw[hin] at hi';cases hi'
  | @as r b hr=>
   have hr':(r,b)∈aU A 0 false++(aU B A.length true++aU C (A.length+B.length) false)/\(lo=0->b=false):=by
    rw[← hroots]
    unfold rts at hr
    rw[hin,hlw] at hr
    by_cases h0:lo=0
    ·rw[decide_eq_true h0,if_pos (by decide)] at hr
     have:=List.mem_filter.mp hr
     exact⟨this.1,λ_=>by simpa using this.2⟩
    ·rw[decide_eq_false h0,if_neg (by decide)] at hr
     exact⟨hr,λz=>absurd z h0⟩
   have hrow:1<=r/\r<=(A++B++C).length/\(∃ nm bd,(A++B++C)[r - 1]?=some (.rw nm bd))/\(lo=0->r<=A.length\/A.length+B.length < r):=by
    obtain⟨hm,hb⟩:=hr'
    rcases List.mem_append.mp hm with z | z
    ·obtain⟨k1,k2,k3,nm,bd,k4⟩:=gG h1 z
     refine⟨by omega,by simp;omega,⟨nm,bd,?_⟩,λ_=>.inl (by omega)⟩
     rw[List.append_assoc,List.getElem?_append_left (by omega)]
     simpa using k4
    ·rcases List.mem_append.mp z with z | z
     ·obtain⟨k1,k2,k3,nm,bd,k4⟩:=gG h2 z
      refine⟨by omega,by simp;omega,⟨nm,bd,?_⟩,λy=>by have:=hb y;rw[k1] at this;cases this⟩
      rw[List.getElem?_append_left (by simp;omega),List.getElem?_append_right (by omega),show r - 1 - A.length=r - A.length - 1 by omega]
      exact k4
     ·obtain⟨k1,k2,k3,nm,bd,k4⟩:=gG h3 z
      refine⟨by omega,by simp;omega,⟨nm,bd,?_⟩,λ_=>.inr (by omega)⟩
      rw[List.getElem?_append_right (by simp;omega),List.length_append,show r - 1 - (A.length+B.length)=r - (A.length+B.length) - 1 by omega]
      exact k4
   refine⟨.f2 A B lo hi (C++[.as r]),⟨h1,h2,eE h3 rfl,?_,h5,h6,h7⟩,by simp[parts]⟩
   rw[← List.append_assoc]
   exact h4.more (.inr ⟨rfl,rfl⟩) λr' e=>by
    cases e
    exact⟨hrow.1,hrow.2.1,hrow.2.2.1,λ_ y=>hrow.2.2.2 y⟩
  | @rw n0 b0 _ _=>
   refine⟨.f2 A B lo hi (C++[.rw n0 b0]),⟨h1,h2,eE h3 rfl,?_,h5,h6,h7⟩,by simp[parts]⟩
   rw[← List.append_assoc]
   exact h4.more (.inr ⟨rfl,rfl⟩) λr' e=>by cases e
end My
namespace My
open PySem L2 MR
theorem Nx.ok {l:List Pt}{q:Pt}(h:Nx l q):PtOk q:=by
 cases h with
 | op _=>exact⟨λn b e=>by cases e⟩
 | cl _ _ _ _ _=>exact⟨λn b e=>by cases e⟩
 | as _=>exact⟨λn b e=>by cases e⟩
 | rw h1 h2=>exact⟨λn b e=>by cases e;exact⟨h1,h2⟩⟩
theorem Lw (q:Pt):noL (ptP q)=true:=by
 cases q with
 | op=>rfl
 | cl lo hi=>rfl
 | as r=>rfl
 | rw n b=>cases b <;> rfl
theorem Ir {CP:PV}{l:List Pt}{q:Pt}{c:Int}(h:dW [pP l,.int c]=some (ptP q)) (hl:l.length < 900):
  turn (gN 2) [2] eQ (.int c) [some CP,some (pP l),none,none]=some [some CP,some (pP (l++[q])),none,none]:=by
 have e:pP (l++[q])=.lst (l.map ptP++[ptP q]):=by simp[pP]
 have hll:(l.map ptP).length < 1000000:=by rw[List.length_map];omega
 have hp:pP l=.lst (l.map ptP):=rfl
 rw[e]
 rw[hp] at h ⊢
 unfold eQ
 have hn:=Lw q
 generalize dW=mn,l.map ptP=LP,ptP q=QP at *
 simp[dY,h,hll,hn]
def tP (l:List Pt):PV:=.tup (l.map ptP)
inductive Whole:Fm->Prop
 | w0 {A:List Pt}:A≠[]->Whole (.f0 A)
 | w2 {A B:List Pt}{lo hi:Nat}{C:List Pt}:Whole (.f2 A B lo hi C)
theorem Cp (l:List Pt):(l.filter isIt).length<=l.length:=List.length_filter_le _ _
theorem Lx {l:List Pt}{b1 b2:Bool}(h:l.length<=12) (h1:(decide (l=[])||decide ((heads l).getLast?=some ("(" : Str)))=b1):
  ((if b2=true then (if b1=true then l++[Pt.rw "x" (some "a")] else l)++[.cl 1 2] else (if b1=true then l++[Pt.rw "x" (some "a")] else l)).filter isIt).length<=12:=by
 have hx:((if b1=true then l++[Pt.rw "x" (some "a")] else l).filter isIt).length<=12:=by
  have hf:=Cp l
  cases b1 with
  | false=>rw[if_neg (by decide)];omega
  | true=>
   rw[if_pos rfl,List.filter_append,List.length_append]
   have e:([Pt.rw "x" (some "a")].filter isIt).length=1:=rfl
   rw[e]
   rw[Bool.or_eq_true] at h1
   rcases h1 with z | z
   ·have z:=of_decide_eq_true z
    rw[z];decide
   ·have z:=of_decide_eq_true z
    rcases List.eq_nil_or_concat l with w | ⟨i,p,w⟩
    ·rw[w];decide
    ·rw[List.concat_eq_append] at w
     subst w
     have hp:hdS p=("(" : Str):=by simpa [heads] using z
     have hi:isIt p=false:=by
      cases p with
      | op=>rfl
      | cl lo hi=>rfl
      | as r=>exact absurd hp e2
      | rw n b=>exact absurd hp e4
     rw[List.filter_append,List.filter_cons_of_neg (by rw[hi];decide),List.filter_nil,List.append_nil]
     have:=Cp i
     simp only[List.length_append,List.length_cons,List.length_nil] at h
     omega
 cases b2 with
 | false=>rw[if_neg (by decide)];exact hx
 | true=>
  rw[if_pos rfl,List.filter_append]
  have e:[Pt.cl 1 2].filter isIt=[]:=rfl
  rw[e,List.append_nil]
  exact hx
theorem Iu {cs:List Int}(hc:cs.length<=12):∃ f,FOk f/\Whole f/\(∀ p∈parts f,PtOk p)/\(parts f).length < 20/\((parts f).filter isIt).length<=12/\dX [.lst (cs.map .int)]=some (tP (parts f)):=by
 obtain⟨f,⟨i1,i2,i3⟩,lp⟩:=qI (g:=gN 2) (ds:=[2]) (body:=eQ) PV.int (λf:Fm=>[some (.lst (cs.map .int)),some (pP (parts f)),none,none])
  (λr f=>FOk f/\(∀ p∈parts f,PtOk p)/\(parts f).length+r.length<=12)
  (by
   rintro c r f ⟨i1,i2,i3⟩
   simp only[List.length_cons] at i3
   obtain⟨q,hq,hm⟩:=Im c (l:=parts f) (by omega) i2
   obtain⟨f',j1,j2⟩:=Ip i1 hq
   refine⟨f',⟨j1,λp hp=>?_,by rw[j2];simp;omega⟩,by rw[j2];exact Ir hm (by omega)⟩
   rw[j2] at hp
   rcases List.mem_append.mp hp with z | z
   ·exact i2 p z
   ·rw[List.mem_singleton] at z;rw[z];exact hq.ok)
  cs (.f0 []) ⟨⟨(λp hp=>by cases hp),λi r hi=>by simp at hi⟩,(λp hp=>by cases hp),by simpa [parts] using hc⟩
 have hp0:parts (.f0 [])=[]:=rfl
 rw[hp0] at lp
 simp only[List.length_nil,Nat.add_zero] at i3
 have h0:pP []=.lst []:=rfl
 rw[h0] at lp
 have s1:aJ 1 (aO aq) [some (.lst (cs.map .int)),none,none,none]=some (.nx [some (.lst (cs.map .int)),some (.lst []),none,none]):=by simp
 have s2:mq (gN 2) (iV (bV 0)) [2] eQ [some (.lst (cs.map .int)),some (.lst []),none,none]=some (.nx [some (.lst (cs.map .int)),some (pP (parts f)),none,none]):=by
  generalize eQ=B at *
  simp[itV,lp]
 have hcp:=rN (ce:=iW) rfl (parts f)
 have s3:aJ 3 (bY [none] (iV (bV 1)) (gN 0) cL iW) [some (.lst (cs.map .int)),some (pP (parts f)),none,none]=some (.nx [some (.lst (cs.map .int)),some (pP (parts f)),none,some (.lst ((heads (parts f)).map .str))]):=by
  have hle:(parts f).length<=1000000:=by omega
  have hp:pP (parts f)=.lst ((parts f).map ptP):=rfl
  rw[hp]
  generalize iW=ce at *
  simp[itV,hle,hcp]
 have hO:=lL "(" (heads (parts f))
 have hC:=lL ")" (heads (parts f))
 have xa:PtOk (.rw "x" (some "a")):=⟨λn b e=>by cases e;exact⟨by decide +kernel,λx hx=>by cases hx;simp[six]⟩⟩
 have cok:PtOk (.cl 1 2):=⟨λn b e=>by cases e⟩
 have c1:∀ b:Bool,(decide (parts f=[])||decide ((heads (parts f)).getLast?=some ("(" : Str)))=b->sIf (tO (tV (b2 eqQ (bV 3) (aO aq))) (tV (b2 eqQ (b2 ixP (bV 3) (b1 iB (bC (.int 1)))) (bC (.str "("))))) (cV dU 1 (bI (aj (bC (.str "row")) (aj (bC (.str "x")) (aj (bC (.str "a")) aq))))) sNx [some (.lst (cs.map .int)),some (pP (parts f)),none,some (.lst ((heads (parts f)).map .str))]=some (.nx [some (.lst (cs.map .int)),some (pP (if b=true then parts f++[.rw "x" (some "a")] else parts f)),none,some (.lst ((heads (parts f)).map .str))]):=λb hb=>by
  have hl:(parts f).length < 1000000:=by omega
  have e:pP (parts f++[.rw "x" (some "a")])=.lst ((parts f).map ptP++[.tup [.str "row",.str "x",.str "a"]]):=by simp[pP,ptP,bdP]
  have hp:pP (parts f)=.lst ((parts f).map ptP):=rfl
  cases hz:parts f with
  | nil=>
   rw[hz] at hb
   simp at hb
   subst hb
   simp[pP,heads,ptP,bdP]
  | cons p ps=>
   rw[← hz]
   have hne:heads (parts f)≠[]:=by rw[hz];simp[heads]
   have hok:=Il (parts f)
   obtain⟨h,hh⟩:∃ h,(heads (parts f)).getLast?=some h:=⟨_,List.getLast?_eq_some_getLast hne⟩
   have hat:atI ((heads (parts f)).map PV.str) (-1)=some (.str h):=by
    rw[tD]
    have hl':0 < (heads (parts f)).length:=List.length_pos_iff.mpr hne
    have:atI (heads (parts f)) (-1)=some h:=by
     unfold atI ixN
     rw[if_neg (by decide),if_pos (by omega),Option.bind_some,← hh,List.getLast?_eq_getElem?]
     congr 1
     omega
    rw[this]
    rfl
   have heq:eqP (.lst ((heads (parts f)).map .str)) (.lst [])=some false:=by
    obtain⟨y,ys,hy⟩:=List.exists_cons_of_ne_nil hne
    rw[hy,List.map_cons] at hok ⊢
    exact my (n:=0) hok (by decide)
   rw[hh] at hb
   have hpn:¬ parts f=[]:=by rw[hz];simp
   rw[decide_eq_false hpn,Bool.false_or] at hb
   by_cases hx:h=("(" : Str)
   ·rw[decide_eq_true (by rw[hx])] at hb
    subst hb
    rw[if_pos rfl,e,hp]
    have hll:((parts f).map ptP).length < 1000000:=by rw[List.length_map];omega
    generalize (parts f).map ptP=LP,(heads (parts f)).map PV.str=HP at *
    simp[heq,hat,hx,hll]
   ·rw[decide_eq_false (λz=>hx (Option.some.inj z))] at hb
    subst hb
    rw[if_neg (by decide)]
    generalize pP (parts f)=LP,(heads (parts f)).map PV.str=HP at *
    simp[heq,hat,hx]
 have c2:∀ (l:List Pt) (b:Bool),l.length < 900->aY (parts f)=b->sIf (tA (tV (b2 inQ (bC (.str "(")) (bV 3))) (tV (b2 dJ (bC (.str ")")) (bV 3)))) (cV dU 1 (bI (aj (bC (.str ")")) (aj (bC (.int 1)) (aj (bC (.int 2)) aq))))) sNx [some (.lst (cs.map .int)),some (pP l),none,some (.lst ((heads (parts f)).map .str))]=some (.nx [some (.lst (cs.map .int)),some (pP (if b=true then l++[.cl 1 2] else l)),none,some (.lst ((heads (parts f)).map .str))]):=λl b hl hb=>by
  have e:pP (l++[.cl 1 2])=.lst (l.map ptP++[.tup [.str ")",.int 1,.int 2]]):=by simp[pP,ptP]
  have hp:pP l=.lst (l.map ptP):=rfl
  have hll:(l.map ptP).length < 1000000:=by rw[List.length_map];omega
  unfold aY at hb
  cases b with
  | true=>
   rw[if_pos rfl,e,hp]
   rw[Bool.and_eq_true] at hb
   have k1:("(" : Str)∈heads (parts f):=of_decide_eq_true hb.1
   have k2:¬ (")" : Str)∈heads (parts f):=by simpa using hb.2
   generalize l.map ptP=LP,(heads (parts f)).map PV.str=HP at *
   simp[hO,hC,k1,k2,hll]
  | false=>
   rw[if_neg (by decide)]
   generalize pP l=LP,(heads (parts f)).map PV.str=HP at *
   by_cases k1:("(" : Str)∈heads (parts f)
   ·have k2:(")" : Str)∈heads (parts f):=by
     rw[decide_eq_true k1] at hb
     simpa using hb
    simp[hO,hC,k1,k2]
   ·simp[hO,k1]
 have done:∀ (b1' b2':Bool) (f':Fm),(decide (parts f=[])||decide ((heads (parts f)).getLast?=some ("(" : Str)))=b1'->aY (parts f)=b2'->parts f'=(if b2'=true then (if b1'=true then parts f++[.rw "x" (some "a")] else parts f)++[.cl 1 2] else (if b1'=true then parts f++[.rw "x" (some "a")] else parts f))->FOk f'->Whole f'->∃ f,FOk f/\Whole f/\(∀ p∈parts f,PtOk p)/\(parts f).length < 20/\((parts f).filter isIt).length<=12/\dX [.lst (cs.map .int)]=some (tP (parts f)):=λb1' b2' f' h1 h2 h3 h4 h5=>by
  have hmem:∀ p∈parts f',PtOk p:=λp hp=>by
   rw[h3] at hp
   have g1:∀ p∈(if b1'=true then parts f++[.rw "x" (some "a")] else parts f),PtOk p:=λp hp=>by
    split at hp
    ·rcases List.mem_append.mp hp with z | z
     ·exact i2 p z
     ·rw[List.mem_singleton] at z;rw[z];exact xa
    ·exact i2 p hp
   split at hp
   ·rcases List.mem_append.mp hp with z | z
    ·exact g1 p z
    ·rw[List.mem_singleton] at z;rw[z];exact cok
   ·exact g1 p hp
  have hlen:(if b1'=true then parts f++[Pt.rw "x" (some "a")] else parts f).length<=13:=by split <;> first | (simp;omega) | omega
  have hlen2:(parts f').length < 20:=by rw[h3];split <;> first | (simp only[List.length_append,List.length_cons,List.length_nil];omega) | omega
  refine⟨f',h4,h5,hmem,hlen2,by rw[h3];exact Lx i3 h1,?_⟩
  have hb:jD [some (.lst (cs.map .int)),none,none,none]=some (.rt (tP (parts f'))):=by
   unfold jD
   rw[aF s1,aF s2,aF s3,aF (c1 b1' h1),aF (c2 _ b2' (by omega) h2),← h3]
   have hp:pP (parts f')=.lst ((parts f').map ptP):=rfl
   rw[hp]
   have hle:(parts f').length<=1000000:=by omega
   simp[tP,hle]
  unfold dX
  generalize jD=B at *
  simp[hb]
 have q2:=e1
 cases f with
 | f0 A=>
  obtain⟨k1,k2⟩:=i1
  have hin:aY A=false:=by unfold aY;rw[decide_eq_false (gO k1).1];rfl
  cases A with
  | nil=>
   refine done true false (.f0 [.rw "x" (some "a")]) (by simp[parts]) hin rfl ⟨(λp hp=>by simp at hp;subst hp;rfl),λi r hi=>?_⟩ (.w0 (by simp))
   cases i <;> simp at hi
  | cons p ps=>
   refine done false false (.f0 (p::ps)) ?_ hin rfl ⟨k1,k2⟩ (.w0 (by simp))
   show (decide (p::ps=[])||decide ((heads (p::ps)).getLast?=some ("(" : Str)))=false
   have hn:¬ (heads (p::ps)).getLast?=some ("(" : Str):=λz=>(gO k1).1 (List.mem_of_getLast? z)
   rw[decide_eq_false hn]
   rfl
 | f1 A B=>
  obtain⟨k1,k2,k3⟩:=i1
  have ho:("(" : Str)∈heads (A++.op::B):=by simp[heads,hdS]
  have hcn:¬ (")" : Str)∈heads (A++.op::B):=by
   have a1:=(gO k1).2
   have a2:=(gO k2).2
   have q7:=e7
   unfold heads at *
   simp only[List.map_append,List.map_cons,List.mem_append,List.mem_cons,hdS,not_or]
   exact⟨a1,q7,a2⟩
  have hin:aY (A++.op::B)=true:=by unfold aY;rw[decide_eq_true ho,decide_eq_false hcn];rfl
  have as1:∀ N:List Pt,AsOk N A.length B.length 1->∀ x y z,AsOk N x y z->True:=λ_ _ _ _ _ _=>trivial
  have lift:∀ (N:List Pt) (a b:Nat),AsOk N a b 1->N.length=a+b->∀ b' ,AsOk N a b' 1:=λN a b h _ b' i r hi=>by
   obtain⟨y1,y2,y3,y4⟩:=h i r hi
   exact⟨y1,y2,y3,λ_ z=>by cases z⟩
  cases B with
  | nil=>
   refine done true true (.f2 A [.rw "x" (some "a")] 1 2 []) (by simp[parts,heads,hdS]) hin (by simp[parts]) ⟨k1,(λp hp=>by simp at hp;subst hp;rfl),(λp hp=>by cases hp),?_,by decide,by decide,by decide,by simp⟩ .w2
   rw[List.append_nil] at k3 ⊢
   exact k3.more (.inl (by simp)) λr e=>by cases e
  | cons p ps=>
   refine done false true (.f2 A (p::ps) 1 2 []) ?_ hin (by simp[parts]) ⟨k1,k2,(λp hp=>by cases hp),?_,by decide,by decide,by decide,by simp⟩ .w2
   ·show (decide (A++.op::p::ps=[])||decide ((heads (A++.op::p::ps)).getLast?=some ("(" : Str)))=false
    have hn:¬ (heads (A++.op::p::ps)).getLast?=some ("(" : Str):=λz=>by
     have e:heads (A++.op::p::ps)=heads (A++[.op])++heads (p::ps):=by simp[heads]
     rw[e,List.getLast?_append] at z
     obtain⟨h,hh⟩:∃ h,(heads (p::ps)).getLast?=some h:=⟨_,List.getLast?_eq_some_getLast (by simp[heads])⟩
     rw[hh] at z
     simp at z
     rw[z] at hh
     exact(gO k2).1 (List.mem_of_getLast? hh)
    have hn2:¬ (A++.op::p::ps=[]):=by simp
    rw[decide_eq_false hn,decide_eq_false hn2]
    rfl
   ·rw[List.append_nil]
    exact k3
 | f2 A B lo hi C=>
  have ho:("(" : Str)∈heads (A++.op::(B++.cl lo hi::C)):=by simp[heads,hdS]
  have hc:(")" : Str)∈heads (A++.op::(B++.cl lo hi::C)):=by simp[heads,hdS]
  have hin:aY (A++.op::(B++.cl lo hi::C))=false:=by unfold aY;rw[decide_eq_true ho,decide_eq_true hc];rfl
  refine done false false (.f2 A B lo hi C) ?_ hin rfl i1 .w2
  show (decide (A++.op::(B++.cl lo hi::C)=[])||decide ((heads (A++.op::(B++.cl lo hi::C))).getLast?=some ("(" : Str)))=false
  have hn:¬ (heads (A++.op::(B++.cl lo hi::C))).getLast?=some ("(" : Str):=λz=>by
   have e:heads (A++.op::(B++.cl lo hi::C))=heads (A++.op::B)++heads (.cl lo hi::C):=by simp[heads]
   rw[e,List.getLast?_append] at z
   obtain⟨h,hh⟩:∃ h,(heads (.cl lo hi::C)).getLast?=some h:=⟨_,List.getLast?_eq_some_getLast (by simp[heads])⟩
   rw[hh] at z
   simp at z
   rw[z] at hh
   have hm:=List.mem_of_getLast? hh
   simp only[heads,List.map_cons,List.mem_cons] at hm
   rcases hm with y | y
   ·exact e1 y
   ·exact(gO i1.2.2.1).1 y
  have hn2:¬ (A++.op::(B++.cl lo hi::C)=[]):=by simp
  rw[decide_eq_false hn,decide_eq_false hn2]
  rfl
end My
namespace My
open PySem
def isAt (x:Str) (c i:Nat):Bool:=decide (x.cps.toList[i]?=some c)
theorem tW (x:Str) (c limit:Nat):∀ (n a:Nat) (st:Array Nat×Nat),st.2<=a->st.1.size+n<=limit->
  (forIn (List.range' a n) st (StrLaws.occBody x ⟨#[c]⟩ x.length limit)).run.fst.toList=st.1.toList++(List.range' a n).filter (isAt x c)
 | 0,a,st,_,_=>by simp
 | n+1,a,st,h1,h2=>by
  rw[List.range'_succ,List.forIn_cons]
  unfold StrLaws.occBody
  have hs:=StrLaws.subAt_one x c a
  by_cases h:x.cps.toList[a]?=some c
  ·obtain⟨h3,h4⟩:=hs.mpr h
   rw[if_pos ⟨⟨⟨by omega,h1⟩,h3⟩,h4⟩]
   have ih:=tW x c limit n (a+1) (st.1.push a,a+(⟨#[c]⟩:Str).length) (by show a+1<=a+1;omega) (by simp;omega)
   show (forIn (List.range' (a+1) n) (st.1.push a,a+(⟨#[c]⟩:Str).length) (StrLaws.occBody x ⟨#[c]⟩ x.length limit)).run.fst.toList=_
   rw[ih,List.filter_cons]
   have hi:isAt x c a=true:=by simp[isAt,h]
   rw[if_pos hi]
   simp
  ·rw[if_neg (λz=>h (hs.mp ⟨z.1.2,z.2⟩))]
   have ih:=tW x c limit n (a+1) (st.1,st.2) (by show st.2<=a+1;omega) (by show st.1.size+n<=limit;omega)
   show (forIn (List.range' (a+1) n) (st.1,st.2) (StrLaws.occBody x ⟨#[c]⟩ x.length limit)).run.fst.toList=_
   rw[ih,List.filter_cons]
   have hi:isAt x c a=false:=decide_eq_false h
   rw[if_neg (by rw[hi];exact Bool.false_ne_true)]
theorem Iv (x:Str) (c:Nat):Builtin.Str.occurrences x ⟨#[c]⟩ 0 x.length (x.length+1)=(List.range' 0 (x.length+1)).filter (isAt x c):=by
 rw[StrLaws.occ_eq,tW x c (x.length+1) (x.length+1 - 0) 0 (#[],0) (Nat.le_refl _) (by simp)]
 simp
def spl (c:Nat):List Nat->List (List Nat)
 | []=>[[]]
 | a::l=>if a=c then []::spl c l else match spl c l with
  | p::ps=>(a::p)::ps
  | []=>[[a]]
theorem rQ (c:Nat):∀ l:List Nat,∃ p ps,spl c l=p::ps
 | []=>⟨_,_,rfl⟩
 | a::l=>by
  obtain⟨p,ps,e⟩:=rQ c l
  unfold spl
  split
  ·exact⟨_,_,rfl⟩
  ·rw[e];exact⟨_,_,rfl⟩
def glue (w:List Nat):List (List Nat)->List (List Nat)
 | p::ps=>(w++p)::ps
 | []=>[w]
theorem j9 (x:Str) (c:Nat):∀ (n a b:Nat),b+n=x.length->a<=b->(StrLaws.partsFrom x 1 a ((List.range' b (n+1)).filter (isAt x c))).map (λp=>p.cps.toList)=glue ((x.cps.toList.drop a).take (b - a)) (spl c (x.cps.toList.drop b))
 | 0,a,b,h,hab=>by
  have hl:x.cps.toList.length=x.length:=Array.length_toList
  have hi:isAt x c b=false:=by
   unfold isAt
   rw[List.getElem?_eq_none (by omega)]
   simp
  rw[List.range'_succ,List.filter_cons,if_neg (by rw[hi];exact Bool.false_ne_true)]
  simp only[List.range'_zero,List.filter_nil,StrLaws.partsFrom,List.map_cons,List.map_nil]
  rw[StrLaws.strSub_toList,List.drop_eq_nil_of_le (by omega:x.cps.toList.length<=b)]
  simp only[spl,glue,List.append_nil]
  rw[show x.length - a=b - a by omega]
 | n+1,a,b,h,hab=>by
  have hl:x.cps.toList.length=x.length:=Array.length_toList
  have hb:b < x.cps.toList.length:=by omega
  rw[List.range'_succ,List.filter_cons]
  have ed:x.cps.toList.drop b=x.cps.toList[b]::x.cps.toList.drop (b+1):=List.drop_eq_getElem_cons hb
  by_cases hc:x.cps.toList[b]=c
  ·have hi:isAt x c b=true:=by
    unfold isAt
    rw[List.getElem?_eq_getElem hb,hc]
    simp
   rw[if_pos hi]
   have ih:=j9 x c n (b+1) (b+1) (by omega) (Nat.le_refl _)
   simp only[StrLaws.partsFrom,List.map_cons]
   rw[ih,StrLaws.strSub_toList,ed]
   obtain⟨p,ps,e⟩:=rQ c (x.cps.toList.drop (b+1))
   simp only[spl,if_pos hc,e,glue,Nat.sub_self,List.take_zero,List.nil_append,List.append_nil]
  ·have hi:isAt x c b=false:=by
    unfold isAt
    rw[List.getElem?_eq_getElem hb]
    exact decide_eq_false λz=>hc (Option.some.inj z)
   rw[if_neg (by rw[hi];exact Bool.false_ne_true)]
   have ih:=j9 x c n a (b+1) (by omega) (by omega)
   rw[ih,ed]
   obtain⟨p,ps,e⟩:=rQ c (x.cps.toList.drop (b+1))
   simp only[spl,if_neg hc,e,glue]
   have e2:(x.cps.toList.drop a).take (b+1 - a)=(x.cps.toList.drop a).take (b - a)++[x.cps.toList[b]]:=by
    rw[show b+1 - a=(b - a)+1 by omega,List.take_add_one,List.getElem?_drop,show a+(b - a)=b by omega,List.getElem?_eq_getElem hb]
    rfl
   rw[e2]
   simp
theorem wz {c:Nat}:∀ {l:List Nat},c∉l->spl c l=[l]
 | [],_=>rfl
 | a::l,h=>by
  have h1:¬ a=c:=λe=>h (by simp[e])
  have h2:c∉l:=λe=>h (List.mem_cons_of_mem _ e)
  unfold spl
  rw[if_neg h1,wz h2]
theorem yx {c:Nat}{r:List Nat}:∀ {l:List Nat},c∉l->spl c (l++c::r)=l::spl c r
 | [],_=>by simp[spl]
 | a::l,h=>by
  have h1:¬ a=c:=λe=>h (by simp[e])
  have h2:c∉l:=λe=>h (List.mem_cons_of_mem _ e)
  rw[List.cons_append]
  have e:=yx (r:=r) h2
  show (if a=c then []::spl c (l++c::r) else match spl c (l++c::r) with | p::ps=>(a::p)::ps | []=>[[a]])=_
  rw[if_neg h1,e]
def mkS (l:List Nat):Str:=⟨l.toArray⟩
theorem kJ (x:Str):mkS x.cps.toList=x:=by
 unfold mkS
 simp
theorem Ft {c:Nat}(hc:c < 128) (x:Str):(decide (x.length < (⟨#[c]⟩:Str).length)||decide (Builtin.Str.strKind x < Builtin.Str.strKind ⟨#[c]⟩))=true->x.length=0:=by
 intro h
 rw[Bool.or_eq_true] at h
 rcases h with h | h
 ·have h':=of_decide_eq_true h
  have:(⟨#[c]⟩:Str).length=1:=rfl
  omega
 ·exfalso
  have h':=of_decide_eq_true h
  have e:Builtin.Str.strKind ⟨#[c]⟩=1:=by
   unfold Builtin.Str.strKind
   rw[if_pos (by simp;omega)]
  have e2:1<=Builtin.Str.strKind x:=by
   unfold Builtin.Str.strKind
   split
   ·exact Nat.le_refl _
   ·split <;> decide
  omega
theorem ph {c:Nat}(hc:c < 128) (x:Str):Txt.split x (⟨#[c]⟩:Str)=(spl c x.cps.toList).map mkS:=by
 have hl:x.cps.toList.length=x.length:=Array.length_toList
 have key:(StrLaws.partsFrom x 1 0 (Builtin.Str.occurrences x ⟨#[c]⟩ 0 x.length (x.length+1))).map (λp=>p.cps.toList)=spl c x.cps.toList:=by
  rw[Iv]
  have h:=j9 x c x.length 0 0 (by omega) (Nat.le_refl _)
  rw[h]
  obtain⟨p,ps,e⟩:=rQ c x.cps.toList
  simp[glue,e]
 have key2:StrLaws.partsFrom x 1 0 (Builtin.Str.occurrences x ⟨#[c]⟩ 0 x.length (x.length+1))=(spl c x.cps.toList).map mkS:=by
  rw[← key,List.map_map]
  have:(mkS∘λ(p:Str)=>p.cps.toList)=id:=by
   funext p
   exact kJ p
  rw[this,List.map_id]
 unfold Txt.split
 split
 ·rename_i h
  have h0:=Ft hc x h
  have:x.cps.toList=[]:=List.length_eq_zero_iff.mp (by omega)
  rw[this]
  simp only[spl,List.map_cons,List.map_nil]
  rw[← this,kJ]
 ·split
  ·rename_i h2
   have e0:Builtin.Str.occurrences x ⟨#[c]⟩ 0 x.length (x.length+1)=[]:=List.isEmpty_iff.mp h2
   rw[← key2,e0]
   simp only[StrLaws.partsFrom]
   rw[StrLaws.sub_whole]
  ·rw[StrLaws.partsBetween_eq]
   exact key2
theorem qg {c:Nat}(hc:c < 128){x:Str}(h:c∉x.cps.toList):Txt.split x ⟨#[c]⟩=[x]:=by
 rw[ph hc,wz h]
 simp[kJ]
theorem qi {c:Nat}(hc:c < 128){w r:Str}(h:c∉w.cps.toList):Txt.split (w++(⟨#[c]⟩:Str)++r) ⟨#[c]⟩=w::Txt.split r ⟨#[c]⟩:=by
 rw[ph hc,ph hc]
 have e:(w++(⟨#[c]⟩:Str)++r).cps.toList=w.cps.toList++c::r.cps.toList:=by
  rw[Str.cps_append,Str.cps_append]
  simp
 rw[e,yx h,List.map_cons,kJ]
theorem qj {c:Nat}(hc:c < 128):∀ {zs:List Str},zs≠[]->(∀ z∈zs,c∉z.cps.toList)->Txt.split (Str.join ⟨#[c]⟩ zs) ⟨#[c]⟩=zs
 | [],h,_=>absurd rfl h
 | [z],_,h=>qg hc (h z (by simp))
 | z::y::r,_,h=>by
  show Txt.split (z++(⟨#[c]⟩:Str)++Str.join ⟨#[c]⟩ (y::r)) ⟨#[c]⟩=_
  rw[qi hc (h z (by simp)),qj hc (by simp) λx hx=>h x (List.mem_cons_of_mem _ hx)]
end My
namespace My
open PySem
def isA (x:Str) (i:Nat):Bool:=decide (x.cps.toList[i]?=some 59)
def sep2:Str:=⟨#[59,32]⟩
theorem tY (x:Str) (i:Nat):(i+sep2.length<=x.length/\Builtin.Str.subAt x sep2 i=true)↔x.cps.toList[i]?=some 59/\x.cps.toList[i+1]?=some 32:=by
 have hl:x.cps.toList.length=x.length:=Array.length_toList
 rw[StrLaws.subAt_eq]
 show (i+2<=x.length/\((x.cps.toList.drop i).take 2 == [59,32])=true)↔_
 rw[beq_iff_eq]
 generalize x.cps.toList=l at *
 have e1:(l.drop i).take 2=(l[i]?).toList++(l[i+1]?).toList:=by
  rw[show (2:Nat)=1+1 from rfl,List.take_add_one,List.getElem?_drop,show (1:Nat)=0+1 from rfl,List.take_add_one,List.getElem?_drop]
  simp
 rw[e1]
 constructor
 ·rintro ⟨h1,h2⟩
  rw[List.getElem?_eq_getElem (by omega:i < l.length),List.getElem?_eq_getElem (by omega:i+1 < l.length)] at h2 ⊢
  simpa using h2
 ·rintro ⟨h1,h2⟩
  obtain⟨k1,_⟩:=List.getElem?_eq_some_iff.mp h2
  refine⟨by omega,by rw[h1,h2];rfl⟩
theorem qJ (x:Str) (limit:Nat) (hx:∀ i,x.cps.toList[i]?=some 59->x.cps.toList[i+1]?=some 32):∀ (n a:Nat) (st:Array Nat×Nat),(st.2<=a\/(st.2=a+1/\x.cps.toList[a]?≠some 59))->st.1.size+n<=limit->
  (forIn (List.range' a n) st (StrLaws.occBody x sep2 x.length limit)).run.fst.toList=st.1.toList++(List.range' a n).filter (isA x)
 | 0,a,st,_,_=>by simp
 | n+1,a,st,h1,h2=>by
  rw[List.range'_succ,List.forIn_cons]
  unfold StrLaws.occBody
  have hs:=tY x a
  by_cases h:x.cps.toList[a]?=some 59
  ·obtain⟨h3,h4⟩:=hs.mpr ⟨h,hx a h⟩
   have h5:st.2<=a:=by
    rcases h1 with z | ⟨_,z⟩
    ·exact z
    ·exact absurd h z
   rw[if_pos ⟨⟨⟨by omega,h5⟩,h3⟩,h4⟩]
   have ih:=qJ x limit hx n (a+1) (st.1.push a,a+sep2.length) (.inr ⟨rfl,by rw[hx a h];decide⟩) (by simp;omega)
   show (forIn (List.range' (a+1) n) (st.1.push a,a+sep2.length) (StrLaws.occBody x sep2 x.length limit)).run.fst.toList=_
   rw[ih,List.filter_cons]
   have hi:isA x a=true:=by simp[isA,h]
   rw[if_pos hi]
   simp
  ·rw[if_neg (λz=>h (hs.mp ⟨z.1.2,z.2⟩).1)]
   have ih:=qJ x limit hx n (a+1) (st.1,st.2) (.inl (by
    show st.2<=a+1
    rcases h1 with z | ⟨z,_⟩ <;> omega)) (by show st.1.size+n<=limit;omega)
   show (forIn (List.range' (a+1) n) (st.1,st.2) (StrLaws.occBody x sep2 x.length limit)).run.fst.toList=_
   rw[ih,List.filter_cons]
   have hi:isA x a=false:=decide_eq_false h
   rw[if_neg (by rw[hi];exact Bool.false_ne_true)]
theorem Fv (x:Str) (hx:∀ i,x.cps.toList[i]?=some 59->x.cps.toList[i+1]?=some 32):Builtin.Str.occurrences x sep2 0 x.length (x.length+1)=(List.range' 0 (x.length+1)).filter (isA x):=by
 rw[StrLaws.occ_eq,qJ x (x.length+1) hx (x.length+1 - 0) 0 (#[],0) (.inl (Nat.le_refl _)) (by simp)]
 simp
def jl:List (List Nat)->List Nat
 | []=>[]
 | [w]=>w
 | w::v::r=>w++59::32::jl (v::r)
theorem GF:∀ (ws:List (List Nat)),(∀ w∈ws,59∉w)->∀ i,(jl ws)[i]?=some 59->(jl ws)[i+1]?=some 32
 | [],_,i,h=>by simp[jl] at h
 | [w],h0,i,h=>absurd (List.mem_of_getElem? h) (h0 w (by simp))
 | w::v::r,h0,i,h=>by
  have ih:=GF (v::r) (λz hz=>h0 z (List.mem_cons_of_mem _ hz))
  unfold jl at h ⊢
  generalize jl (v::r)=J at *
  rcases Nat.lt_trichotomy i w.length with z | z | z
  ·rw[List.getElem?_append_left z] at h
   exact absurd (List.mem_of_getElem? h) (h0 w (by simp))
  ·subst z
   rw[List.getElem?_append_right (by omega),Nat.add_sub_cancel_left]
   rfl
  ·obtain⟨k,rfl⟩:∃ k,i=w.length+1+k:=⟨i - w.length - 1,by omega⟩
   rw[List.getElem?_append_right (by omega),show w.length+1+k - w.length=k+1 by omega,List.getElem?_cons_succ] at h
   rw[List.getElem?_append_right (by omega),show w.length+1+k+1 - w.length=k+1+1 by omega,List.getElem?_cons_succ]
   cases k with
   | zero=>simp at h
   | succ k=>
    rw[List.getElem?_cons_succ] at h ⊢
    exact ih k h
theorem Cq {x:Str}{a n:Nat}(h:∀ i,a<=i->i < a+n->x.cps.toList[i]?≠some 59):(List.range' a n).filter (isA x)=[]:=by
 rw[List.filter_eq_nil_iff]
 intro i hi
 obtain⟨k,hk,rfl⟩:=List.mem_range'.mp hi
 unfold isA
 rw[decide_eq_true_eq]
 exact h _ (by omega) (by omega)
theorem Cr (x:Str):∀ (ws:List (List Nat)) (pre:List Nat),ws≠[]->(∀ w∈ws,59∉w)->x.cps.toList=pre++jl ws->
  (StrLaws.partsFrom x 2 pre.length ((List.range' pre.length ((jl ws).length+1)).filter (isA x))).map (λp=>p.cps.toList)=ws
 | [],_,h,_,_=>absurd rfl h
 | [w],pre,_,h0,hx=>by
  have hl:x.cps.toList.length=x.length:=Array.length_toList
  have hw:59∉w:=h0 w (by simp)
  rw[Cq λi h1 h2 z=>?_]
  ·simp only[StrLaws.partsFrom,List.map_cons,List.map_nil]
   rw[StrLaws.strSub_toList,hx]
   have e:x.length - pre.length=w.length:=by rw[← hl,hx];simp[jl]
   rw[e,List.drop_left]
   simp[jl]
  ·rw[hx,List.getElem?_append_right h1] at z
   exact hw (List.mem_of_getElem? z)
 | w::v::r,pre,_,h0,hx=>by
  have hl:x.cps.toList.length=x.length:=Array.length_toList
  have hw:59∉w:=h0 w (by simp)
  have ih:=Cr x (v::r) (pre++(w++[59,32])) (by simp) (λz hz=>h0 z (List.mem_cons_of_mem _ hz)) (by rw[hx,jl];simp)
  have hj:jl (w::v::r)=w++59::32::jl (v::r):=rfl
  rw[hj] at hx ⊢
  generalize jl (v::r)=J at *
  have e0:(w++59::32::J).length+1=w.length+(1+(1+(J.length+1))):=by simp;omega
  rw[e0,← List.range'_append_1,← List.range'_append_1,← List.range'_append_1,List.filter_append,List.filter_append,List.filter_append]
  have f1:(List.range' pre.length w.length).filter (isA x)=[]:=Cq λi h1 h2 z=>by
   rw[hx,List.getElem?_append_right h1,List.getElem?_append_left (by omega)] at z
   exact hw (List.mem_of_getElem? z)
  have g59:x.cps.toList[pre.length+w.length]?=some 59:=by
   rw[hx,List.getElem?_append_right (by omega),List.getElem?_append_right (by omega),show pre.length+w.length - pre.length - w.length=0 by omega]
   rfl
  have g32:x.cps.toList[pre.length+w.length+1]?=some 32:=by
   rw[hx,List.getElem?_append_right (by omega),List.getElem?_append_right (by omega),show pre.length+w.length+1 - pre.length - w.length=1 by omega]
   rfl
  have f2:(List.range' (pre.length+w.length) 1).filter (isA x)=[pre.length+w.length]:=by
   simp[isA,g59]
  have f3:(List.range' (pre.length+w.length+1) 1).filter (isA x)=[]:=by
   simp[isA,g32]
  rw[f1,f2,f3]
  have e1:(pre++(w++[59,32])).length=pre.length+w.length+1+1:=by simp;omega
  rw[e1] at ih
  simp only[List.nil_append,List.cons_append,StrLaws.partsFrom,List.map_cons]
  rw[show pre.length+w.length+2=pre.length+w.length+1+1 by omega,ih]
  congr 1
  rw[StrLaws.strSub_toList,hx,List.drop_left,show pre.length+w.length - pre.length=w.length by omega,List.take_left]
theorem tZ:∀ ws:List Str,(Str.join sep2 ws).cps.toList=jl (ws.map λw=>w.cps.toList)
 | []=>rfl
 | [w]=>rfl
 | w::v::r=>by
  have ih:=tZ (v::r)
  show (w++sep2++Str.join sep2 (v::r)).cps.toList=w.cps.toList++59::32::jl ((v::r).map λw=>w.cps.toList)
  rw[Str.cps_append,Str.cps_append]
  simp only[Array.toList_append,ih,List.append_assoc]
  rfl
def t6 (l:List Nat):Str:=⟨l.toArray⟩
theorem ql (x:Str):t6 x.cps.toList=x:=by
 unfold t6
 simp
theorem xQ {ws:List Str}(hn:ws≠[]) (h:∀ w∈ws,59∉w.cps.toList):Txt.split (Str.join sep2 ws) sep2=ws:=by
 have hj:=tZ ws
 have hn':ws.map (λw=>w.cps.toList)≠[]:=by simpa using hn
 have h':∀ w∈ws.map (λw=>w.cps.toList),59∉w:=λw hw=>by
  obtain⟨z,h1,rfl⟩:=List.mem_map.mp hw
  exact h z h1
 have h59:=GF _ h'
 rw[← hj] at h59
 have hl:(Str.join sep2 ws).cps.toList.length=(Str.join sep2 ws).length:=Array.length_toList
 have key:StrLaws.partsFrom (Str.join sep2 ws) 2 0 (Builtin.Str.occurrences (Str.join sep2 ws) sep2 0 (Str.join sep2 ws).length ((Str.join sep2 ws).length+1))=ws:=by
  rw[Fv _ h59]
  have k:=Cr (Str.join sep2 ws) _ [] hn' h' (by rw[hj];rfl)
  rw[← hj,hl] at k
  have k2:=congrArg (List.map t6) k
  rw[List.map_map,List.map_map] at k2
  have e:(t6∘λ(p:Str)=>p.cps.toList)=id:=by
   funext p
   exact ql p
  rw[e,List.map_id,List.map_id] at k2
  exact k2
 unfold Txt.split
 split
 ·rename_i hk
  cases ws with
  | nil=>exact absurd rfl hn
  | cons w r=>
   cases r with
   | nil=>rfl
   | cons v r=>
    exfalso
    have h2:2<=(Str.join sep2 (w::v::r)).length:=by
     rw[← hl,hj]
     simp[jl]
     omega
    rw[Bool.or_eq_true] at hk
    rcases hk with z | z
    ·have z:=of_decide_eq_true z
     have:sep2.length=2:=rfl
     omega
    ·have z:=of_decide_eq_true z
     have e:Builtin.Str.strKind sep2=1:=by decide +kernel
     have e2:1<=Builtin.Str.strKind (Str.join sep2 (w::v::r)):=by
      unfold Builtin.Str.strKind
      split
      ·exact Nat.le_refl _
      ·split <;> decide
     omega
 ·split
  ·rename_i h2
   have e0:=List.isEmpty_iff.mp h2
   rw[e0] at key
   simp only[StrLaws.partsFrom] at key
   rw[StrLaws.sub_whole] at key
   exact key
  ·rw[StrLaws.partsBetween_eq]
   exact key
end My
namespace My
open PySem L2 MR
theorem iI:∀ ws:List Str,strsP (ws.map PV.str)=some ws
 | []=>rfl
 | w::ws=>by simp[iI ws]
theorem rR {α:Type}:∀ l:List α,bools (l.map λ_=>PV.bl true)=some (l.map λ_=>true)
 | []=>rfl
 | w::ws=>by simp[rR ws]
def nS (k:Nat):Str:=(km (k:Int)).getD ""
theorem jf:∀ k:Nat,k<=12->km (k:Int)=some (nS k)/\numOf (nS k)=some (k:Int)/\(nS k).length<=2/\32∉(nS k).cps.toList/\59∉(nS k).cps.toList:=by
 intro k hk
 rcases(show k=0\/k=1\/k=2\/k=3\/k=4\/k=5\/k=6\/k=7\/k=8\/k=9\/k=10\/k=11\/k=12 by omega) with h | h | h | h | h | h | h | h | h | h | h | h | h <;> subst h <;> decide +kernel
def words:Pt->List Str
 | .op=>["("]
 | .cl lo hi=>[")",nS lo,nS hi]
 | .as r=>["as",nS r]
 | .rw n b=>[n,b.getD "-"]
def wr (p:Pt):Str:=Str.join " " (words p)
def WOk:Pt->Prop
 | .op=>True
 | .cl lo hi=>lo<=hi/\1<=hi/\hi<=4
 | .as r=>1<=r/\r<=12
 | .rw n b=>n∈eightN/\∀ x,b=some x->x∈six
theorem mz:∀ x∈eightN,x.length<=8/\32∉x.cps.toList/\59∉x.cps.toList:=by
 intro x hx
 simp only[eightN,List.mem_cons,List.not_mem_nil,or_false] at hx
 rcases hx with e | e | e | e | e | e | e | e <;> subst e <;> decide +kernel
theorem pq:∀ x∈six,x.length<=2/\32∉x.cps.toList/\59∉x.cps.toList/\x ≠ "-" := by
 intro x hx
 simp only[six,List.mem_cons,List.not_mem_nil,or_false] at hx
 rcases hx with e | e | e | e | e | e <;> subst e <;> decide +kernel
theorem wA {b:Option Str}(h:∀ x,b=some x->x∈six):(b.getD "-").length<=2/\32∉(b.getD "-").cps.toList/\59∉(b.getD "-").cps.toList:=by
 cases b with
 | none=>decide +kernel
 | some x=>obtain⟨h1,h2,h3,_⟩:=pq x (h x rfl);exact⟨h1,h2,h3⟩
theorem nU {p:Pt}(h:WOk p):words p≠[]/\(words p).length<=3/\∀ w∈words p,w.length<=8/\32∉w.cps.toList/\59∉w.cps.toList:=by
 cases p with
 | op=>exact⟨by simp[words],by simp[words],λw hw=>by simp only[words,List.mem_singleton] at hw;subst hw;decide +kernel⟩
 | cl lo hi=>
  obtain⟨h1,h2,h3⟩:=h
  obtain⟨_,_,a1,a2,a3⟩:=jf lo (by omega)
  obtain⟨_,_,b1,b2,b3⟩:=jf hi (by omega)
  refine⟨by simp[words],by simp[words],λw hw=>?_⟩
  simp only[words,List.mem_cons,List.not_mem_nil,or_false] at hw
  rcases hw with e | e | e
  ·subst e;decide +kernel
  ·subst e;exact⟨by omega,a2,a3⟩
  ·subst e;exact⟨by omega,b2,b3⟩
 | as r=>
  obtain⟨h1,h2⟩:=h
  obtain⟨_,_,a1,a2,a3⟩:=jf r (by omega)
  refine⟨by simp[words],by simp[words],λw hw=>?_⟩
  simp only[words,List.mem_cons,List.not_mem_nil,or_false] at hw
  rcases hw with e | e
  ·subst e;decide +kernel
  ·subst e;exact⟨by omega,a2,a3⟩
 | rw n b=>
  obtain⟨h1,h2⟩:=h
  obtain⟨a1,a2,a3⟩:=mz n h1
  obtain⟨b1,b2,b3⟩:=wA h2
  refine⟨by simp[words],by simp[words],λw hw=>?_⟩
  simp only[words,List.mem_cons,List.not_mem_nil,or_false] at hw
  rcases hw with e | e
  ·subst e;exact⟨a1,a2,a3⟩
  ·subst e;exact⟨by omega,b2,b3⟩
theorem blank_eq:(" " : Str)=⟨#[32]⟩:=by decide +kernel
theorem Cu:("; " : Str)=sep2:=by decide +kernel
theorem Fw {p:Pt}(h:WOk p):Txt.split (wr p) " " = words p:=by
 obtain⟨h1,_,h2⟩:=nU h
 unfold wr
 rw[blank_eq]
 exact qj (by decide) h1 λz hz=>(h2 z hz).2.1
theorem wB:∀ (ws:List Str),(∀ w∈ws,w.length<=8)->(Str.join " " ws).length<=9*ws.length
 | [],_=>by decide +kernel
 | [w],h=>by
  have:=h w (by simp)
  show w.length<=_
  simp
  omega
 | w::v::r,h=>by
  have h1:=h w (by simp)
  have ih:=wB (v::r) λz hz=>h z (List.mem_cons_of_mem _ hz)
  show (w++(" " : Str)++Str.join " " (v::r)).length<=_
  rw[Str.length_append,Str.length_append]
  have e:(" " : Str).length=1:=by decide +kernel
  simp only[List.length_cons] at ih ⊢
  omega
theorem m8 {p:Pt}(h:WOk p):(wr p).length<=27:=by
 obtain⟨_,h1,h2⟩:=nU h
 have:=wB (words p) λw hw=>(h2 w hw).1
 unfold wr
 omega
theorem yz:∀ (ws:List Str),(∀ w∈ws,59∉w.cps.toList)->59∉(Str.join " " ws).cps.toList
 | [],_=>by decide +kernel
 | [w],h=>h w (by simp)
 | w::v::r,h=>by
  have h1:=h w (by simp)
  have ih:=yz (v::r) λz hz=>h z (List.mem_cons_of_mem _ hz)
  show 59∉(w++(" " : Str)++Str.join " " (v::r)).cps.toList
  have e:¬ 59∈(" " : Str).cps.toList:=by decide +kernel
  rw[Str.cps_append,Str.cps_append]
  simp only[Array.toList_append,List.mem_append,not_or]
  exact⟨⟨h1,e⟩,ih⟩
theorem GJ {p:Pt}(h:WOk p):59∉(wr p).cps.toList:=by
 obtain⟨_,_,h2⟩:=nU h
 exact yz (words p) λw hw=>(h2 w hw).2.2
theorem pF:∀ (sep:Str) (ts:List Str),(Str.join sep ts).length<=(ts.map (·.length)).sum+ts.length*sep.length
 | sep,[]=>by
  show (Str.empty).length<=_
  have:Str.empty.length=0:=by decide +kernel
  omega
 | sep,[w]=>by
  show w.length<=_
  simp
 | sep,w::v::r=>by
  have ih:=pF sep (v::r)
  show (w++sep++Str.join sep (v::r)).length<=_
  rw[Str.length_append,Str.length_append]
  simp only[List.map_cons,List.sum_cons,List.length_cons,Nat.succ_mul] at ih ⊢
  omega
theorem joinOk_of {sep:Str}{ts:List Str}(h:(ts.map (·.length)).sum+ts.length*sep.length<=10000):JoinOk sep ts=true:=by
 unfold JoinOk Builtin.Str.tooLong
 rw[StrLaws.joinTotal]
 have:(10000:Nat)<=sizeLine:=by decide
 simp
 omega
theorem m9 {k:Nat}:∀ {ts:List Str},(∀ t∈ts,t.length<=k)->(ts.map (·.length)).sum<=ts.length*k
 | [],_=>by simp
 | t::r,h=>by
  have h1:=h t (by simp)
  have ih:=m9 (ts:=r) λz hz=>h z (List.mem_cons_of_mem _ hz)
  simp only[List.map_cons,List.sum_cons,List.length_cons,Nat.succ_mul]
  omega
end My
namespace My
open PySem L2 MR
theorem r1:¬ (("(" : Str) = "row"):=by decide
theorem r2:¬ ((")" : Str) = "row"):=by decide
theorem r3:¬ (("as" : Str) = "row"):=by decide
theorem bl1:(" " : Str).length=1:=by decide +kernel
theorem Iw {ws:List Str}(h:∀ w∈ws,w.length<=8) (hl:ws.length<=3):JoinOk (" " : Str) ws=true:=joinOk_of (by
 have h1:=m9 h
 rw[bl1]
 omega)
theorem vM {p:Pt}{ce:MR.Env->Option PV}(hce:ce=b1 jM (bV 0)) (h:WOk p) (hr:hdS p ≠ "row"):∃ xs,ptP p=.tup xs/\xs.length<=3/\cX [none] (gN 0) cL ce xs=some ((words p).map .str):=by
 subst hce
 cases p with
 | op=>exact⟨_,rfl,by simp,by simp[cX,words]⟩
 | cl lo hi=>
  obtain⟨h1,h2,h3⟩:=h
  have a:=(jf lo (by omega)).1
  have b:=(jf hi (by omega)).1
  exact⟨_,rfl,by simp,by simp[cX,words,a,b]⟩
 | as r=>
  obtain⟨h1,h2⟩:=h
  have a:=(jf r (by omega)).1
  exact⟨_,rfl,by simp,by simp[cX,words,a]⟩
 | rw n b=>exact absurd rfl hr
theorem Fx {n:Str}{b:Option Str}(h:WOk (.rw n b)):n.length+(" " : Str).length<=1000000/\(n++(" " : Str)).length+(b.getD "-").length<=1000000/\wr (.rw n b)=n++(" " : Str)++b.getD "-" := by
 obtain⟨h1,h2⟩:=h
 have a1:=(mz n h1).1
 have b1:=(wA h2).1
 have e:=bl1
 refine⟨by omega,by rw[Str.length_append];omega,rfl⟩
theorem Cv {p:Pt}(h:WOk p){l:List Pt}(hl:l.length < 1000){M:PV}:
  turn (gN 2) [2] eU (ptP p) [some M,some (.lst ((l.map wr).map .str)),none]=some [some M,some (.lst (((l++[p]).map wr).map .str)),none]:=by
 have hl':l.length < 1000000:=by omega
 by_cases hr:hdS p = "row"
 ·cases p with
  | op=>exact absurd hr r1
  | cl lo hi=>exact absurd hr r2
  | as r=>exact absurd hr r3
  | rw n b=>
   obtain⟨k1,k2,k3⟩:=Fx h
   rw[List.map_append,List.map_append,List.map_singleton,List.map_singleton,k3]
   cases b with
   | none=>
    simp only[Option.getD_none] at k2 ⊢
    simp[dY,eU,ptP,bdP,k1,k2,hl']
   | some x=>
    simp only[Option.getD_some] at k2 ⊢
    simp[dY,eU,ptP,bdP,k1,k2,hl']
 ·obtain⟨xs,e,hx,hc⟩:=vM (ce:=mW) rfl h hr
  obtain⟨w1,w2,w3⟩:=nU h
  have hj:=Iw (λw hw=>(w3 w hw).1) w2
  have hs:=iI (words p)
  have h0:=ix0 p
  have hle:xs.length<=1000000:=by omega
  have hw:wr p=Str.join " " (words p):=rfl
  rw[e] at h0
  rw[List.map_append,List.map_append,List.map_singleton,List.map_singleton,hw,e]
  generalize words p=WP,hdS p=HD at *
  simp[dY,eU,-ixP,h0,hr,hc,hj,hs,hle,hl',itV]
def fP (l:List Pt):Str:=Str.join "; " (l.map wr)
theorem Ly {l:List Pt}(h:∀ p∈l,WOk p) (hl:l.length < 20):JoinOk ("; " : Str) (l.map wr)=true:=joinOk_of (by
 have h1:=m9 (ts:=l.map wr) (k:=27) λt ht=>by
  obtain⟨p,hp,rfl⟩:=List.mem_map.mp ht
  exact m8 (h p hp)
 have e:("; " : Str).length=2:=by decide +kernel
 rw[List.length_map] at h1 ⊢
 rw[e]
 omega)
theorem wC {l:List Pt}(h:∀ p∈l,WOk p) (hl:l.length < 20):(fP l).length<=1000000:=by
 have h0:=pF "; " (l.map wr)
 have h1:=m9 (ts:=l.map wr) (k:=27) λt ht=>by
  obtain⟨p,hp,rfl⟩:=List.mem_map.mp ht
  exact m8 (h p hp)
 have e:("; " : Str).length=2:=by decide +kernel
 rw[List.length_map] at h0 h1
 rw[e] at h0
 unfold fP
 omega
theorem uJ {l:List Pt}(h:∀ p∈l,WOk p) (hn:l≠[]):Txt.split (fP l) "; " = l.map wr:=by
 unfold fP
 rw[Cu]
 exact xQ (by simpa using hn) λw hw=>by
  obtain⟨p,hp,rfl⟩:=List.mem_map.mp hw
  exact GJ (h p hp)
theorem t7 {l:List Pt}(h:∀ p∈l,WOk p) (hl:l.length < 20):bN [tP l]=some (.str (fP l)):=by
 obtain⟨l',⟨d,e1,e2⟩,lp⟩:=qI (g:=gN 2) (ds:=[2]) (body:=eU) ptP (λl':List Pt=>[some (tP l),some (.lst ((l'.map wr).map .str)),none])
  (λr l'=>∃ d,l=d++r/\l'=d)
  (by
   rintro s r l' ⟨d,e1,e2⟩
   subst e2
   have hd:l'.length < 1000:=by have:=congrArg List.length e1;simp at this;omega
   exact⟨l'++[s],⟨l'++[s],by rw[e1];simp,rfl⟩,Cv (h s (by rw[e1];simp)) hd⟩)
  l [] ⟨[],rfl,rfl⟩
 rw[List.append_nil] at e1
 rw[e2,← e1] at lp
 have h1:=Ly h hl
 have h2:=iI (l.map wr)
 simp only[List.map_nil] at lp
 have hm:tP l=.tup (l.map ptP):=rfl
 have ht:fP l=Str.join "; " (l.map wr):=rfl
 rw[hm] at lp ⊢
 rw[ht]
 generalize l.map wr=ts at *
 simp[bN,o5,lp,h1,h2]
end My
namespace My
open PySem L2 MR
def rdP:Pt->PV
 | .op=>aK
 | p=>ptP p
theorem qm:∀ ws vs:List Str,PyData.eqvAll (ws.map PyData.str) (vs.map PyData.str)=decide (ws=vs)
 | [],[]=>by simp[PyData.eqvAll]
 | [],v::vs=>by simp[PyData.eqvAll]
 | w::ws,[]=>by simp[PyData.eqvAll]
 | w::ws,v::vs=>by
  have ih:=qm ws vs
  simp only[List.map_cons,PyData.eqvAll,PyData.eqv,ih,List.cons.injEq]
  by_cases h:w=v
  ·subst h;simp
  ·have:(w == v)=false:=by simpa using h
   simp[this,h]
theorem uK:∀ ws:List Str,du (ws.map PV.str)=some (ws.map PyData.str)
 | []=>rfl
 | w::ws=>by simp[du,toD,uK ws]
theorem wD:∀ ws:List Str,(∀ w∈ws,PyData.strOk w=true)->PyData.canLayAll0 (ws.map PyData.str)=true/\PyData.depthAll (ws.map PyData.str)<=0
 | [],_=>⟨rfl,Nat.le_refl _⟩
 | w::ws,h=>by
  obtain⟨h1,h2⟩:=wD ws λz hz=>h z (List.mem_cons_of_mem _ hz)
  have h3:=h w (by simp)
  exact⟨by simp[PyData.canLayAll0,PyData.canLay0,h3,h1],by simp only[List.map_cons,PyData.depthAll,PyData.depth];omega⟩
theorem qp {ws:List Str}(h:∀ w∈ws,PyData.strOk w=true):SeqAt.shaped (.list (ws.map PyData.str))=true:=by
 obtain⟨h1,h2⟩:=wD ws h
 have h3:(PyData.list (ws.map PyData.str)).canLay0=true:=by simp[PyData.canLay0,h1]
 have h4:(PyData.list (ws.map PyData.str)).depth<=64:=by simp only[PyData.depth];omega
 simp[SeqAt.shaped,h3,h4]
theorem wF {ws vs:List Str}(h:∀ w∈ws,PyData.strOk w=true) (h':∀ w∈vs,PyData.strOk w=true):eqP (.lst (ws.map .str)) (.lst (vs.map .str))=some (decide (ws=vs)):=by
 have a:=qp h
 have b:=qp h'
 simp[eqP,eqS,eqD,toD,uK,a,b,PyData.eqv,qm]
theorem wG:∀ k:Nat,k<=12->PyData.strOk (nS k)=true:=by
 intro k hk
 rcases(show k=0\/k=1\/k=2\/k=3\/k=4\/k=5\/k=6\/k=7\/k=8\/k=9\/k=10\/k=11\/k=12 by omega) with h | h | h | h | h | h | h | h | h | h | h | h | h <;> subst h <;> decide +kernel
theorem Cw {p:Pt}(h:WOk p):∀ w∈words p,PyData.strOk w=true:=by
 have k1:PyData.strOk ("(" : Str)=true:=by decide +kernel
 have k2:PyData.strOk (")" : Str)=true:=by decide +kernel
 have k3:PyData.strOk ("as" : Str)=true:=by decide +kernel
 have k4:PyData.strOk ("-" : Str)=true:=by decide +kernel
 intro w hw
 cases p with
 | op=>simp only[words,List.mem_singleton] at hw;subst hw;exact k1
 | cl lo hi=>
  obtain⟨h1,h2,h3⟩:=h
  simp only[words,List.mem_cons,List.not_mem_nil,or_false] at hw
  rcases hw with e | e | e
  ·subst e;exact k2
  ·subst e;exact wG lo (by omega)
  ·subst e;exact wG hi (by omega)
 | as r=>
  obtain⟨h1,h2⟩:=h
  simp only[words,List.mem_cons,List.not_mem_nil,or_false] at hw
  rcases hw with e | e
  ·subst e;exact k3
  ·subst e;exact wG r (by omega)
 | rw n b=>
  obtain⟨h1,h2⟩:=h
  simp only[words,List.mem_cons,List.not_mem_nil,or_false] at hw
  rcases hw with e | e
  ·subst e;exact o_ _ h1
  ·subst e
   cases b with
   | none=>exact k4
   | some x=>exact ww x (h2 x rfl)
theorem Fy {p:Pt}(h:WOk p):eqP (.lst ((words p).map .str)) (.lst [.str "("])=some (decide (words p=([("(" : Str)]:List Str))):=by
 have:=wF (Cw h) (vs:=[("(" : Str)]) (λw hw=>by rw[List.mem_singleton] at hw;subst hw;decide +kernel)
 exact this
theorem Lz:∀ k:Nat,k<=4->inP (.str (nS k)) rH=some true:=by
 intro k hk
 rcases(show k=0\/k=1\/k=2\/k=3\/k=4 by omega) with h | h | h | h | h <;> subst h <;> decide +kernel
theorem Iz:∀ k:Nat,1<=k->k<=4->inP (.str (nS k)) pW=some true:=by
 intro k h0 hk
 rcases(show k=1\/k=2\/k=3\/k=4 by omega) with h | h | h | h <;> subst h <;> decide +kernel
theorem IK {lo hi:Nat}(h:WOk (.cl lo hi)):dj [.str (nS lo),.str (nS hi)]=some (ptP (.cl lo hi)):=by
 obtain⟨h1,h2,h3⟩:=h
 have a1:=Lz lo (by omega)
 have a2:=Iz hi h2 h3
 have b1:=(jf lo (by omega)).2.1
 have b2:=(jf hi (by omega)).2.1
 have h4:¬ hi < lo:=by omega
 generalize nS lo=L,nS hi=HH at *
 simp[dj,mX,a1,a2,b1,b2,h4,ptP]
def twelve:List Str:=["1", "2", "3", "4", "5", "6", "7", "8", "9", "10", "11", "12"]
theorem I_:cX [none] (gN 0) cL iD (gj 1 13)=some (twelve.map .str):=by
 have hr:gj 1 13=(List.range' 1 12).map λk=>PV.int (k:Nat):=rfl
 have hm:twelve.map PV.str=(List.range' 1 12).map λk=>PV.str (nS k):=by
  have:twelve=(List.range' 1 12).map nS:=by decide +kernel
  rw[this,List.map_map]
  rfl
 rw[hr,hm]
 exact jn _ _ _ λk hk=>⟨_,rfl,by
  obtain⟨i,hi,rfl⟩:=List.mem_range'.mp hk
  generalize 1+1*i=k at *
  have:=(jf k (by have:=List.mem_range'.mp hk;omega)).1
  simp[iD,this]⟩
theorem wH (x:Str):cO [.str x]=some (.bl (decide (x∈twelve))):=by
 have r1:rgI 1=true:=rn (by omega) (by omega)
 have r2:rgI 13=true:=rn (by omega) (by omega)
 have hc:=I_
 have hi:=lL x twelve
 generalize twelve.map PV.str=TW at *
 have hl:(gj 1 13).length<=1000000:=by decide
 simp[cO,lG,r1,r2,hc,hi,hl]
end My
namespace My
open PySem L2 MR
theorem xR:∀ x∈eightN,1<=x.length/\∀ c∈x.cps.toList,inP (.str ⟨#[c]⟩) (.str "abcdefghijklmnopqrstuvwxyz")=some true:=by
 intro x hx
 simp only[eightN,List.mem_cons,List.not_mem_nil,or_false] at hx
 rcases hx with e | e | e | e | e | e | e | e <;> subst e <;> decide +kernel
theorem uL {n:Str}(h:n∈eightN):fM [.str n]=some (.bl true):=by
 obtain⟨a1,a2⟩:=xR n h
 have a3:=(mz n h).1
 have h1:n.length<=1000000:=by omega
 have h2:(1:Int)<=(n.length:Int):=by omega
 have h3:(n.length:Int)<=8:=by omega
 have hl:n.cps.size<=1000000:=by simpa [Str.length] using h1
 have hc:=jn (env:=[none]) (g:=gN 0) (f:=lH) (λc:Nat=>PV.str ⟨#[c]⟩) (λ_=>PV.bl true) n.cps.toList (λc hc=>⟨[some (.str ⟨#[c]⟩)],rfl,by simp[lH,a2 c hc]⟩)
 have hb:=rR n.cps.toList
 have hv:chV n=n.cps.toList.map λc=>PV.str ⟨#[c]⟩:=rfl
 simp[hv,fM,rJ,h1,h2,h3,hl,hc,hb]
theorem LC:∀ x∈six,x.length=1/\∃ k,inP (.str x) (.str "abcdefghijklmnopqrstuvwxyz")=some k/\(k=false->inP (.str x) (.str "ABCDEFGHIJKLMNOPQRSTUVWXYZ")=some true):=by
 intro x hx
 simp only[six,List.mem_cons,List.not_mem_nil,or_false] at hx
 rcases hx with e | e | e | e | e | e <;> subst e
 ·exact⟨by decide +kernel,true,by decide +kernel,λz=>by cases z⟩
 ·exact⟨by decide +kernel,true,by decide +kernel,λz=>by cases z⟩
 ·exact⟨by decide +kernel,true,by decide +kernel,λz=>by cases z⟩
 ·exact⟨by decide +kernel,false,by decide +kernel,λ_=>by decide +kernel⟩
 ·exact⟨by decide +kernel,false,by decide +kernel,λ_=>by decide +kernel⟩
 ·exact⟨by decide +kernel,true,by decide +kernel,λz=>by cases z⟩
theorem Cy {b:Option Str}(h:∀ x,b=some x->x∈six):dD [.str (b.getD "-")]=some (.bl true):=by
 cases b with
 | none=>simp[dD,kI]
 | some x=>
  obtain⟨h1,k,h2,h3⟩:=LC x (h x rfl)
  have h4:=(pq x (h x rfl)).2.2.2
  have hl:iG [.str x]=some (.bl k):=by
   simp[iG,o8,h1,h2]
  cases k with
  | true=>simp[dD,kI,h4,hl]
  | false=>simp[dD,kI,h4,hl,h1,h3 rfl]
theorem LK:∀ x∈twelve,x ≠ "-" /\ x∉six:=by
 intro x hx
 simp only[twelve,List.mem_cons,List.not_mem_nil,or_false] at hx
 rcases hx with e | e | e | e | e | e | e | e | e | e | e | e <;> subst e <;> decide +kernel
theorem Pn:∀ k:Nat,1<=k->k<=12->nS k∈twelve:=by
 intro k h0 hk
 rcases(show k=1\/k=2\/k=3\/k=4\/k=5\/k=6\/k=7\/k=8\/k=9\/k=10\/k=11\/k=12 by omega) with h | h | h | h | h | h | h | h | h | h | h | h <;> subst h <;> decide +kernel
theorem wI {p:Pt}(h:WOk p):bO [.str (wr p)]=some (rdP p):=by
 have hs:=Fw h
 have hl:(wr p).length<=1000000:=by have:=m8 h;omega
 have hb1:(((" " : Str)).length == 0)=false:=by decide +kernel
 have ho:=Fy h
 have s1:aJ 1 (b2 gQ (bV 0) (bC (.str " "))) [some (.str (wr p)),none]=some (.nx [some (.str (wr p)),some (.lst ((words p).map .str))]):=by
  simp[hs,hl,bl1]
 have hb:iH [some (.str (wr p)),none]=some (.rt (rdP p)):=by
  unfold iH
  rw[aF s1]
  generalize wr p=W at *
  clear s1 hs
  cases p with
  | op=>
   have hw:(words .op).map PV.str=[PV.str "("]:=rfl
   rw[show words .op=[("(" : Str)] from rfl,decide_eq_true rfl] at ho
   rw[hw]
   have ho:eqP (.lst [.str ("(" : Str)]) (.lst [.str ("(" : Str)])=some true:=ho
   simp[ho,rdP]
  | cl lo hi=>
   have hr:=IK h
   have hw:(words (.cl lo hi)).map PV.str=[.str ")",.str (nS lo),.str (nS hi)]:=rfl
   rw[decide_eq_false (by simp[words]),hw] at ho
   rw[hw]
   have e:rdP (.cl lo hi)=ptP (.cl lo hi):=rfl
   rw[e]
   generalize nS lo=L,nS hi=HH,ptP (.cl lo hi)=PP,dj=MM at *
   simp[ho,hr]
  | as r=>
   have hr:=wH (nS r)
   rw[decide_eq_true (Pn r h.1 h.2)] at hr
   have hn:=(jf r h.2).2.1
   have hw:(words (.as r)).map PV.str=[.str "as",.str (nS r)]:=rfl
   rw[decide_eq_false (by simp[words]),hw] at ho
   rw[hw]
   have q3:=e3
   generalize nS r=R,cO=MM at *
   simp[ho,hr,hn,rdP,ptP,q3]
  | rw n b=>
   obtain⟨h1,h2⟩:=h
   have a1:=uL h1
   have a2:=Cy h2
   have hr:=wH (b.getD "-")
   have hnb:b.getD "-" ∉ twelve:=λz=>by
    obtain⟨z1,z2⟩:=LK _ z
    cases b with
    | none=>exact z1 rfl
    | some x=>exact z2 (h2 x rfl)
   rw[decide_eq_false hnb] at hr
   have hw:(words (.rw n b)).map PV.str=[.str n,.str (b.getD "-")]:=rfl
   rw[decide_eq_false (by simp[words]),hw] at ho
   rw[hw]
   have e:rdP (.rw n b)=.tup [.str "row",.str n,bdP b]:=rfl
   rw[e]
   generalize cO=MM,fM=MN,dD=MB at *
   have hb':(if b.getD ("-" : Str)=("-" : Str) then some PV.non else some (.str (b.getD ("-" : Str))))=some (bdP b):=by
    cases b with
    | none=>rfl
    | some x=>
     have:=(pq x (h2 x rfl)).2.2.2
     show (if x=("-" : Str) then some PV.non else some (.str x))=some (.str x)
     rw[if_neg this]
   generalize b.getD ("-" : Str)=BB at *
   have q0:∀ f:MR.Env->Option Out,aG (sIf (tV (b2 eqQ (bV 1) (aO (aj (bC (.str "(")) aq)))) (aQ (bC aK)) sNx) f [some (.str W),some (.lst [.str n,.str BB])]=f [some (.str W),some (.lst [.str n,.str BB])]:=λf=>aF (by simp[ho])
   have q1:∀ f:MR.Env->Option Out,aG (sIf (tA (tV (b2 eqQ (b1 lenV (bV 1)) (bC (.int 3)))) (tV (b2 eqQ (b2 ixP (bV 1) (bC (.int 0))) (bC (.str ")"))))) (aQ (aN dj (aj (b2 ixP (bV 1) (bC (.int 1))) (aj (b2 ixP (bV 1) (bC (.int 2))) aq)))) sNx) f [some (.str W),some (.lst [.str n,.str BB])]=f [some (.str W),some (.lst [.str n,.str BB])]:=λf=>aF (by simp)
   have q2:∀ f:MR.Env->Option Out,aG (sIf (tV (b2 neQ (b1 lenV (bV 1)) (bC (.int 2)))) (aQ (bC .non)) sNx) f [some (.str W),some (.lst [.str n,.str BB])]=f [some (.str W),some (.lst [.str n,.str BB])]:=λf=>aF (by simp)
   have q3:∀ f:MR.Env->Option Out,aG (sIf (tA (tV (b2 eqQ (b2 ixP (bV 1) (bC (.int 0))) (bC (.str "as")))) (tV (aN MM (aj (b2 ixP (bV 1) (bC (.int 1))) aq)))) (aQ (bI (aj (bC (.str "as")) (aj (b1 kE (b2 ixP (bV 1) (bC (.int 1)))) aq)))) sNx) f [some (.str W),some (.lst [.str n,.str BB])]=f [some (.str W),some (.lst [.str n,.str BB])]:=λf=>aF (by
    by_cases hz:n=("as" : Str)
    ·simp[hz,hr]
    ·simp[hz])
   have q4:∀ f:MR.Env->Option Out,aG (sIf (tA (tV (aN MN (aj (b2 ixP (bV 1) (bC (.int 0))) aq))) (tV (aN MB (aj (b2 ixP (bV 1) (bC (.int 1))) aq)))) (aQ (bI (aj (bC (.str "row")) (aj (b2 ixP (bV 1) (bC (.int 0))) (aj (bIf (tV (b2 eqQ (b2 ixP (bV 1) (bC (.int 1))) (bC (.str "-")))) (bC .non) (b2 ixP (bV 1) (bC (.int 1)))) aq))))) sNx) f [some (.str W),some (.lst [.str n,.str BB])]=some (.rt (.tup [.str "row",.str n,bdP b])):=λf=>mU (by
    by_cases hy:BB=("-" : Str)
    ·rw[if_pos hy] at hb'
     rw[← Option.some.inj hb']
     rw[hy] at a2 ⊢
     simp[a1,a2]
    ·rw[if_neg hy] at hb'
     rw[← Option.some.inj hb']
     simp[a1,a2,hy])
   rw[q0,q1,q2,q3,q4]
 unfold bO
 generalize iH=B at *
 simp[hb]
end My
namespace My
open PySem L2 MR
def bdD:Option Str->PyData
 | none=>.none
 | some x=>.str x
def pD:Pt->PyData
 | .op=>.tuple [.str "("]
 | .cl lo hi=>.tuple [.str ")",.int (lo:Nat),.int (hi:Nat)]
 | .as r=>.tuple [.str "as",.int (r:Nat)]
 | .rw n b=>.tuple [.str "row",.str n,bdD b]
theorem wJ (p:Pt):toD (ptP p)=some (pD p):=by
 cases p with
 | op=>simp[ptP,toD,du,pD]
 | cl lo hi=>simp[ptP,toD,du,pD]
 | as r=>simp[ptP,toD,du,pD]
 | rw n b=>cases b <;> simp[ptP,toD,du,pD,bdP,bdD]
theorem Cz (p:Pt):toD (rdP p)=some (pD p):=by
 cases p with
 | op=>simp[rdP,aK,toD,du,pD]
 | cl lo hi=>exact wJ (.cl lo hi)
 | as r=>exact wJ (.as r)
 | rw n b=>exact wJ (.rw n b)
theorem yC:∀ l:List Pt,du (l.map rdP)=some (l.map pD)
 | []=>rfl
 | p::l=>by simp[du,Cz,yC l]
theorem GK {p:Pt}(h:WOk p):(pD p).canLay0=true/\(pD p).depth<=1/\PyData.eqv (pD p) (pD p)=true:=by
 have k1:PyData.strOk ("(" : Str)=true:=by decide +kernel
 have k2:PyData.strOk (")" : Str)=true:=by decide +kernel
 have k3:PyData.strOk ("as" : Str)=true:=by decide +kernel
 have k4:PyData.strOk ("row" : Str)=true:=by decide +kernel
 cases p with
 | op=>simp[pD,PyData.canLay0,PyData.canLayAll0,PyData.depth,PyData.depthAll,PyData.eqv,PyData.eqvAll,k1]
 | cl lo hi=>simp[pD,PyData.canLay0,PyData.canLayAll0,PyData.depth,PyData.depthAll,PyData.eqv,PyData.eqvAll,k2]
 | as r=>simp[pD,PyData.canLay0,PyData.canLayAll0,PyData.depth,PyData.depthAll,PyData.eqv,PyData.eqvAll,k3]
 | rw n b=>
  obtain⟨h1,h2⟩:=h
  have k5:=o_ n h1
  cases b with
  | none=>simp[pD,bdD,PyData.canLay0,PyData.canLayAll0,PyData.depth,PyData.depthAll,PyData.eqv,PyData.eqvAll,k4,k5]
  | some x=>
   have k6:=ww x (h2 x rfl)
   simp[pD,bdD,PyData.canLay0,PyData.canLayAll0,PyData.depth,PyData.depthAll,PyData.eqv,PyData.eqvAll,k4,k5,k6]
theorem CG:∀ {l:List Pt},(∀ p∈l,WOk p)->PyData.canLayAll0 (l.map pD)=true/\PyData.depthAll (l.map pD)<=1/\PyData.eqvAll (l.map pD) (l.map pD)=true
 | [],_=>⟨rfl,Nat.zero_le _,rfl⟩
 | p::l,h=>by
  obtain⟨a1,a2,a3⟩:=GK (h p (by simp))
  obtain⟨b1,b2,b3⟩:=CG (l:=l) λz hz=>h z (List.mem_cons_of_mem _ hz)
  refine⟨by simp[PyData.canLayAll0,a1,b1],?_,by simp[PyData.eqvAll,a3,b3]⟩
  simp only[List.map_cons,PyData.depthAll]
  omega
def cg:Pt->Bool
 | .op=>true
 | _=>false
theorem CJ (p:Pt):PyData.eqv (pD p) (.tuple [.str "("])=cg p:=by
 cases p with
 | op=>decide +kernel
 | cl lo hi=>simp[pD,PyData.eqv,PyData.eqvAll,cg]
 | as r=>simp[pD,PyData.eqv,PyData.eqvAll,cg]
 | rw n b=>simp[pD,PyData.eqv,PyData.eqvAll,cg]
theorem GQ:toD aK=some (.tuple [.str "("]):=by simp[aK,toD,du]
theorem Fz:SeqAt.shaped (.tuple [.str "("])=true:=by decide +kernel
theorem FJ {p:Pt}(h:WOk p):SeqAt.shaped (pD p)=true:=by
 obtain⟨a1,a2,_⟩:=GK h
 have:(pD p).depth<=64:=by omega
 simp[SeqAt.shaped,a1,this]
theorem LQ (p:Pt):eqS (rdP p) aK=none:=by
 cases p with
 | op=>simp[rdP,aK]
 | cl lo hi=>simp[rdP,ptP,aK]
 | as r=>simp[rdP,ptP,aK]
 | rw n b=>simp[rdP,ptP,aK]
theorem pG {p:Pt}(h:WOk p):eqP (rdP p) aK=some (cg p):=by
 have h1:=FJ h
 have h2:=Fz
 have h3:=CJ p
 unfold eqP
 rw[LQ]
 simp only[eqD,Cz,GQ,h1,h2,h3]
 rfl
theorem zM {l:List Pt}(h:∀ p∈l,WOk p):inP aK (.lst (l.map rdP))=some (l.any cg):=by
 obtain⟨b1,b2,_⟩:=CG h
 have hf:cN aK=false:=rfl
 have e:inP aK (.lst (l.map rdP))=inD aK (l.map rdP):=by
  show (if cN aK=true/\(l.map rdP).all cN=true then some ((l.map rdP).any λy=>eqF y aK) else inD aK (l.map rdP))=_
  rw[if_neg (by rw[hf];simp)]
 rw[e]
 unfold inD
 rw[GQ,yC]
 have c1:(PyData.tuple [.str "("]).canLay0=true:=by decide +kernel
 have c2:(PyData.tuple [.str "("]).depth<=32:=by decide +kernel
 simp only
 rw[if_pos ⟨b1,c1,c2⟩,List.any_map]
 congr 2
 funext p
 exact CJ p
theorem rT (p:Pt):ixP (rdP p) (.int 0)=some (.str (hdS p)):=by
 cases p with
 | op=>exact at0 _ _
 | cl lo hi=>exact ix0 (.cl lo hi)
 | as r=>exact ix0 (.as r)
 | rw n b=>exact ix0 (.rw n b)
def iJ (p:Pt):Bool:=decide (hdS p=(")" : Str))
theorem j6 {l:List Pt}(h:Its l):l.filter iJ=[]:=by
 rw[List.filter_eq_nil_iff]
 intro p hp z
 exact(pX (h p hp)).2 (of_decide_eq_true z)
def gP (l:List Pt):PV:=match l.filter iJ with
 | []=>.non
 | p::_=>ptP p
theorem Ny {p:Pt}(h:iJ p=true):rdP p=ptP p:=by
 cases p with
 | op=>exact absurd (of_decide_eq_true h) e1
 | cl lo hi=>rfl
 | as r=>rfl
 | rw n b=>rfl
theorem Ja {c:Pt->PV}{FP:PV}{l:List Pt}(hi:itV FP=some (l.map c)) (h0:∀ p,ixP (c p) (.int 0)=some (.str (hdS p))) (hc':∀ p,iJ p=true->c p=ptP p) (hl:l.length < 900):b_ [FP]=some (gP l):=by
 have hc:=gk (env:=[none]) (g:=gN 0) (t:=gw) (f:=iY) c ptP iJ l λp _=>⟨[some (c p)],rfl,by
  have e:=h0 p
  unfold iJ
  by_cases q:hdS p=(")" : Str)
  ·simp[gw,-ixP,e,q]
  ·simp[gw,-ixP,e,q],λhp=>by simp[iY,hc' p hp]⟩
 have hll:l.length<=1000000:=by omega
 have hfl:(l.filter iJ).length<=1000000:=Nat.le_trans (List.length_filter_le _ _) hll
 unfold b_ o7 gP
 generalize gw=cc,iY=ce at *
 have hmap:(l.map c).length<=1000000:=by rw[List.length_map];exact hll
 generalize l.map c=PP at *
 cases q:l.filter iJ with
 | nil=>
  rw[q] at hc
  simp only[List.map_nil] at hc
  simp[-itV,hi,hmap,hc]
 | cons p ps=>
  rw[q] at hc hfl
  have hpos:(0:Int) < ((ps.length:Int)+1):=by omega
  simp only[List.map_cons] at hc
  have hfl':ps.length+1<=1000000:=by simpa using hfl
  have hat:atI (ptP p::ps.map ptP) 0=some (ptP p):=gR (k:=0) rfl
  simp[-itV,hi,hmap,hc,hpos,hfl',hat]
def rP (l:List Pt):PV:=.lst (l.map rdP)
theorem t8 {l:List Pt}(hl:l.length < 900):b_ [rP l]=some (gP l):=Ja (c:=rdP) rfl rT (λ_ h=>Ny h) hl
theorem qK {l:List Pt}(h:l.filter iJ=[]):gP l=.non:=by unfold gP;rw[h]
theorem pY {l:List Pt}(h:∀ p∈l,WOk p) (hl:l.length < 900) (hc:l.filter iJ=[]):bw [rP l]=some (.bl (l.any cg)):=by
 have h1:=zM h
 have h2:=t8 hl
 rw[qK hc] at h2
 have h1:inP aK (rP l)=some (l.any cg):=h1
 generalize rP l=FP at *
 unfold bw nT
 generalize b_=m at *
 cases hb:l.any cg with
 | true=>rw[hb] at h1;simp[h1,h2]
 | false=>rw[hb] at h1;simp[h1]
theorem wK {l:List Pt}{lo hi:Nat}(h:∀ p∈l,WOk p) (hl:l.length < 900) (hc:∃ r,l.filter iJ=.cl lo hi::r):bw [rP l]=some (.bl false):=by
 have h1:=zM h
 have h2:=t8 hl
 obtain⟨r,hc⟩:=hc
 have he:gP l=ptP (.cl lo hi):=by unfold gP;rw[hc]
 rw[he] at h2
 have h1:inP aK (rP l)=some (l.any cg):=h1
 generalize rP l=FP at *
 unfold bw nT
 generalize b_=m at *
 cases hb:l.any cg with
 | true=>rw[hb] at h1;simp[h1,h2,ptP]
 | false=>rw[hb] at h1;simp[h1]
end My
namespace My
open PySem L2 MR
def pA:Fm->List Pt
 | .f0 A=>A
 | .f1 A _=>A
 | .f2 A _ _ _ _=>A
def pB:Fm->List Pt
 | .f0 _=>[]
 | .f1 _ B=>B
 | .f2 _ B _ _ _=>B
def pC:Fm->List Pt
 | .f2 _ _ _ _ C=>C
 | _=>[]
def t_ (f:Fm):Prop:=Its (pA f)/\Its (pB f)/\Its (pC f)
def bx:Nat->List Pt->List (Nat×Pt)
 | _,[]=>[]
 | n,p::l=>(n+1,p)::bx (n+1) l
def nmP (z:Nat×Pt):PV:=.tup [.int (z.1:Nat),ptP z.2]
def npV (n:Nat) (l:List Pt):List PV:=(bx n l).map nmP
theorem lZ:∀ (n:Nat) (l:List Pt),(bx n l).length=l.length
 | _,[]=>rfl
 | n,p::l=>by simp[bx,lZ (n+1) l]
theorem jo (n:Nat) (l:List Pt):(npV n l).length=l.length:=by simp[npV,lZ]
theorem Bx {n k:Nat}(h:k < n):ixN n (k:Int)=some k:=by
 unfold ixN
 rw[if_pos (by omega)]
 simp[h]
theorem Nz {p:Pt}(h:isIt p=true):rdP p=ptP p:=by
 cases p with
 | op=>cases h
 | cl lo hi=>rfl
 | as r=>rfl
 | rw n b=>rfl
theorem FN {FP:PV}{W L:List PV}{at' n:Nat}{p:Pt}(hp:isIt p=true) (hw:W[at']?=some (.lst L)) (hl:L.length < 900):
  turn (gH 1 (gN 4)) [4] (onx bT) (rdP p) [some FP,some (.lst W),some (.int (at':Nat)),some (.int (n:Nat)),none]=some [some FP,some (.lst (W.set at' (.lst (L++[nmP (n+1,p)])))),some (.int (at':Nat)),some (.int ((n+1:Nat):Nat)),none]:=by
 obtain⟨r,e⟩:=zL p
 obtain⟨h1,h2⟩:=pX hp
 have hlt:at' < W.length:=by
  rcases Nat.lt_or_ge at' W.length with z | z
  ·exact z
  ·rw[List.getElem?_eq_none z] at hw;cases hw
 have hx:=Bx hlt
 have hl':L.length < 1000000:=by omega
 have hn:nmP (n+1,p)=.tup [.int ((n:Int)+1),ptP p]:=by simp[nmP]
 rw[hn,Nz hp,e]
 generalize hdS p=hd at *
 simp[dY,bT,h1,h2,hx,hw,hl']
theorem jT {FP:PV}{at':Nat}{rest:List PV}:∀ (l:List Pt){W L:List PV}{n:Nat},Its l->W[at']?=some (.lst L)->L.length+l.length < 900->
  cW (gH 1 (gN 4)) [4] (onx bT) (l.map rdP++rest) [some FP,some (.lst W),some (.int (at':Nat)),some (.int (n:Nat)),none]=cW (gH 1 (gN 4)) [4] (onx bT) rest [some FP,some (.lst (W.set at' (.lst (L++npV n l)))),some (.int (at':Nat)),some (.int ((n+l.length:Nat):Nat)),none]
 | [],W,L,n,_,hw,_=>by
  have:W.set at' (.lst (L++npV n []))=W:=by
   rw[show npV n []=[] from rfl,List.append_nil]
   obtain⟨h1,h2⟩:=List.getElem?_eq_some_iff.mp hw
   rw[← h2,List.set_getElem_self]
  rw[this]
  rfl
 | p::l,W,L,n,h,hw,hl=>by
  simp only[List.length_cons] at hl
  have hlt:at' < W.length:=(List.getElem?_eq_some_iff.mp hw).1
  rw[List.map_cons,List.cons_append,dz (FN (h p List.mem_cons_self) hw (by omega)),jT l (λq hq=>h q (List.mem_cons_of_mem _ hq)) (List.getElem?_set_self hlt) (by simp;omega),List.set_set,List.append_assoc]
  rw[show n+1+l.length=n+(p::l).length by simp;omega]
  rfl
theorem uc {FP:PV}{W:List PV}{at' n:Nat}{p:Pt}(hp:isIt p=false):
  turn (gH 1 (gN 4)) [4] (onx bT) (rdP p) [some FP,some (.lst W),some (.int (at':Nat)),some (.int (n:Nat)),none]=some [some FP,some (.lst W),some (.int ((at'+1:Nat):Nat)),some (.int (n:Nat)),none]:=by
 have q1:=e7
 cases p with
 | op=>simp[dY,bT,rdP,aK]
 | cl lo hi=>simp[dY,bT,rdP,ptP,q1]
 | as r=>cases hp
 | rw n b=>cases hp
def dZ (f:Fm):PV:=.lst [.lst (npV 0 (pA f)),.lst (npV (pA f).length (pB f)),.lst (npV ((pA f).length+(pB f).length) (pC f))]
theorem wL {f:Fm}(hf:t_ f) (hl:(parts f).length < 20):bW [rP (parts f)]=some (dZ f):=by
 obtain⟨h1,h2,h3⟩:=hf
 have lp:∃ x2 x3,cW (gH 1 (gN 4)) [4] (onx bT) ((parts f).map rdP) [some (rP (parts f)),some (.lst [.lst [],.lst [],.lst []]),some (.int 0),some (.int 0),none]=some (.nx [some (rP (parts f)),some (dZ f),x2,x3,none]):=by
  generalize rP (parts f)=FP
  cases f with
  | f0 A=>
   have h1:Its A:=h1
   have:=jT (FP:=FP) (at':=0) (rest:=[]) A (W:=[.lst [],.lst [],.lst []]) (L:=[]) (n:=0) h1 rfl (by simp only[parts] at hl;simp;omega)
   rw[List.append_nil] at this
   refine⟨some (.int ((0:Nat):Nat)),some (.int ((0+A.length:Nat):Nat)),?_⟩
   show cW (gH 1 (gN 4)) [4] (onx bT) (A.map rdP) [some FP,some (.lst [.lst [],.lst [],.lst []]),some (.int ((0:Nat):Nat)),some (.int ((0:Nat):Nat)),none]=_
   rw[this]
   rfl
  | f1 A B=>
   have h1:Its A:=h1
   have h2:Its B:=h2
   simp only[parts,List.length_append,List.length_cons] at hl
   refine⟨some (.int ((0+1:Nat):Nat)),some (.int ((0+A.length+B.length:Nat):Nat)),?_⟩
   show cW (gH 1 (gN 4)) [4] (onx bT) ((A++.op::B).map rdP) [some FP,some (.lst [.lst [],.lst [],.lst []]),some (.int ((0:Nat):Nat)),some (.int ((0:Nat):Nat)),none]=_
   rw[List.map_append,jT A h1 (L:=[]) rfl (by simp;omega),List.map_cons,dz (uc rfl)]
   have e:=jT (FP:=FP) (at':=0+1) (rest:=[]) B (W:=[PV.lst [],.lst [],.lst []].set 0 (.lst ([]++npV 0 A))) (L:=[]) (n:=0+A.length) h2 rfl (by simp;omega)
   rw[List.append_nil] at e
   rw[e]
   simp only[Nat.zero_add,List.nil_append]
   rfl
  | f2 A B lo hi C=>
   have h1:Its A:=h1
   have h2:Its B:=h2
   have h3:Its C:=h3
   simp only[parts,List.length_append,List.length_cons] at hl
   refine⟨some (.int ((0+1+1:Nat):Nat)),some (.int ((0+A.length+B.length+C.length:Nat):Nat)),?_⟩
   show cW (gH 1 (gN 4)) [4] (onx bT) ((A++.op::(B++.cl lo hi::C)).map rdP) [some FP,some (.lst [.lst [],.lst [],.lst []]),some (.int ((0:Nat):Nat)),some (.int ((0:Nat):Nat)),none]=_
   rw[List.map_append,jT A h1 (L:=[]) rfl (by simp;omega),List.map_cons,dz (uc rfl),List.map_append,jT B h2 (L:=[]) rfl (by simp;omega),List.map_cons,dz (uc rfl)]
   have e:=jT (FP:=FP) (at':=0+1+1) (rest:=[]) C (W:=([PV.lst [],.lst [],.lst []].set 0 (.lst ([]++npV 0 A))).set (0+1) (.lst ([]++npV (0+A.length) B))) (L:=[]) (n:=0+A.length+B.length) h3 rfl (by simp;omega)
   rw[List.append_nil] at e
   rw[e]
   simp only[Nat.zero_add,List.nil_append]
   rfl
 obtain⟨x2,x3,lp⟩:=lp
 have ht:rP (parts f)=.lst ((parts f).map rdP):=rfl
 have hb:jV [some (rP (parts f)),none,none,none,none]=some (.rt (dZ f)):=by
  unfold jV
  rw[ht] at lp ⊢
  generalize (parts f).map rdP=PP,dZ f=RP,bT=BB at *
  have e0:List.replicate 3 (PV.lst [])=[.lst [],.lst [],.lst []]:=rfl
  simp[itV,u_,e0,lp]
 unfold bW
 generalize jV=B at *
 simp[hb]
def fH (r:Nat) (z:Nat×Pt):Bool:=decide (z.1=r)&&decide (hdS z.2=("row" : Str))
theorem uM {α:Type}(g:α->Bool):∀ l:List α,bools (l.map λx=>PV.bl (g x))=some (l.map g)
 | []=>rfl
 | w::ws=>by simp[uM g ws]
theorem FQ {r:Nat}(zs:List (Nat×Pt)):cX [none,none,some (.int (r:Nat))] (gT [0,1]) cL dm (zs.map nmP)=some (zs.map λz=>PV.bl (fH r z)):=
 jn nmP _ zs λz _=>⟨[some (.int (z.1:Nat)),some (ptP z.2),some (.int (r:Nat))],by simp[nmP],by
  have h0:=ix0 z.2
  unfold fH
  by_cases h:z.1=r
  ·by_cases h2:hdS z.2=("row" : Str)
   ·rw[h2] at h0;simp[dm,-ixP,h0,h,h2]
   ·simp[dm,-ixP,h0,h,h2]
  ·have h':¬ (z.1:Int)=(r:Int):=by omega
   simp[dm,-ixP,decide_eq_false h',h]⟩
theorem nW {p:Pt}:∀ {l:List Pt}{n j:Nat},l[j]?=some p->(n+j+1,p)∈bx n l
 | [],_,_,h=>by simp at h
 | q::l,n,0,h=>by
  rw[List.getElem?_cons_zero] at h
  cases h
  exact List.mem_cons_self
 | q::l,n,j+1,h=>by
  rw[List.getElem?_cons_succ] at h
  have:=nW (n:=n+1) h
  rw[show n+(j+1)+1=n+1+j+1 by omega]
  exact List.mem_cons_of_mem _ this
def fC:Fm->List (Nat×Pt)
 | .f0 _=>[]
 | .f1 A B=>bx A.length B
 | .f2 A B lo _ _=>if lo=0 then [] else bx A.length B
theorem Jb {A:List Pt}(h:Its A):gP A=.non:=qK (j6 h)
theorem zN {A B:List Pt}(h1:Its A) (h2:Its B):(A++.op::B).filter iJ=[]:=by
 have n1:iJ .op=false:=by decide +kernel
 rw[List.filter_append,List.filter_cons,n1,j6 h1,j6 h2]
 rfl
theorem zO {A B C:List Pt}{lo hi:Nat}(h1:Its A) (h2:Its B) (h3:Its C):(A++.op::(B++.cl lo hi::C)).filter iJ=[.cl lo hi]:=by
 have n1:iJ .op=false:=by decide +kernel
 have n2:iJ (.cl lo hi)=true:=by unfold iJ;exact decide_eq_true rfl
 rw[List.filter_append,List.filter_cons,n1,List.filter_append,List.filter_cons,n2,j6 h1,j6 h2,j6 h3]
 rfl
theorem FT {f:Fm}{x0 x1:PV}(hf:t_ f):aJ 4 (bIf (tA (tV (b2 jW (bV 3) (bC .non))) (tV (b2 eqQ (b2 ixP (bV 3) (bC (.int 1))) (bC (.int 0))))) (aO aq) (b2 ixP (bV 2) (bC (.int 1)))) [some x0,some x1,some (dZ f),some (gP (parts f)),none]=some (.nx [some x0,some x1,some (dZ f),some (gP (parts f)),some (.lst ((fC f).map nmP))]):=by
 obtain⟨h1,h2,h3⟩:=hf
 have hc:dZ f=.lst [.lst (npV 0 (pA f)),.lst (npV (pA f).length (pB f)),.lst (npV ((pA f).length+(pB f).length) (pC f))]:=rfl
 cases f with
 | f0 A=>
  have e:gP (parts (.f0 A))=.non:=Jb h1
  have e2:(fC (.f0 A)).map nmP=[]:=rfl
  have e3:npV (pA (.f0 A)).length (pB (.f0 A))=[]:=rfl
  rw[e3] at hc
  rw[e,e2,hc]
  generalize npV 0 (pA (.f0 A))=N0
  generalize npV ((pA (.f0 A)).length+(pB (.f0 A)).length) (pC (.f0 A))=N2
  simp
 | f1 A B=>
  have e:gP (parts (.f1 A B))=.non:=qK (zN h1 h2)
  have e2:(fC (.f1 A B)).map nmP=npV A.length B:=rfl
  have e3:npV (pA (.f1 A B)).length (pB (.f1 A B))=npV A.length B:=rfl
  rw[e3] at hc
  rw[e,e2,hc]
  generalize npV 0 (pA (.f1 A B))=N0
  generalize npV ((pA (.f1 A B)).length+(pB (.f1 A B)).length) (pC (.f1 A B))=N2
  generalize npV A.length B=N1
  simp
 | f2 A B lo hi C=>
  have e:gP (parts (.f2 A B lo hi C))=.tup [.str ")",.int (lo:Nat),.int (hi:Nat)]:=by
   unfold gP
   rw[show parts (.f2 A B lo hi C)=A++.op::(B++.cl lo hi::C) from rfl,zO (A:=A) (B:=B) (C:=C) (lo:=lo) (hi:=hi) h1 h2 h3]
   rfl
  have e3:npV (pA (.f2 A B lo hi C)).length (pB (.f2 A B lo hi C))=npV A.length B:=rfl
  rw[e3] at hc
  rw[e,hc]
  generalize npV 0 (pA (.f2 A B lo hi C))=N0
  generalize npV ((pA (.f2 A B lo hi C)).length+(pB (.f2 A B lo hi C)).length) (pC (.f2 A B lo hi C))=N2
  by_cases hz:lo=0
  ·have e2:(fC (.f2 A B lo hi C)).map nmP=[]:=by show List.map nmP (if lo=0 then [] else bx A.length B)=_;rw[if_pos hz];rfl
   rw[e2]
   subst hz
   simp
  ·have e2:(fC (.f2 A B lo hi C)).map nmP=npV A.length B:=by show List.map nmP (if lo=0 then [] else bx A.length B)=_;rw[if_neg hz];rfl
   rw[e2]
   generalize npV A.length B=N1
   have hz':¬ (lo:Int)=0:=by omega
   simp[hz]
theorem wM {f:Fm}{r:Nat}(hf:t_ f) (hl:(parts f).length < 20) (hla:(pA f).length+(pB f).length+(pC f).length<=40):cZ [rP (parts f),.int (r:Nat)]=some (.bl ((bx 0 (pA f)++fC f++bx ((pA f).length+(pB f).length) (pC f)).any (fH r))):=by
 have h1:=wL hf hl
 have h2:b_ [rP (parts f)]=some (gP (parts f)):=t8 (by omega)
 have s1:aJ 2 (aN bW (aj (bV 0) aq)) [some (rP (parts f)),some (.int (r:Nat)),none,none,none]=some (.nx [some (rP (parts f)),some (.int (r:Nat)),some (dZ f),none,none]):=by
  generalize rP (parts f)=FP,dZ f=CV,bW=m at *
  simp[h1]
 have s2:aJ 3 (aN b_ (aj (bV 0) aq)) [some (rP (parts f)),some (.int (r:Nat)),some (dZ f),none,none]=some (.nx [some (rP (parts f)),some (.int (r:Nat)),some (dZ f),some (gP (parts f)),none]):=by
  generalize rP (parts f)=FP,dZ f=CV,gP (parts f)=EV,b_=m at *
  simp[h2]
 have s3:=FT (x0:=rP (parts f)) (x1:=.int (r:Nat)) hf
 have hi:(fC f).length<=(pB f).length:=by
  cases f with
  | f0 A=>exact Nat.le_refl _
  | f1 A B=>unfold fC;rw[lZ];exact Nat.le_refl _
  | f2 A B lo hi C=>
   show (if lo=0 then [] else bx A.length B).length<=B.length
   split
   ·exact Nat.zero_le _
   ·rw[lZ];exact Nat.le_refl _
 have hcm:=FQ (r:=r) (bx 0 (pA f)++fC f++bx ((pA f).length+(pB f).length) (pC f))
 have hbm:=uM (fH r) (bx 0 (pA f)++fC f++bx ((pA f).length+(pB f).length) (pC f))
 have hc:dZ f=.lst [.lst (npV 0 (pA f)),.lst (npV (pA f).length (pB f)),.lst (npV ((pA f).length+(pB f).length) (pC f))]:=rfl
 have l0:(npV 0 (pA f)).length=(pA f).length:=jo _ _
 have l2:(npV ((pA f).length+(pB f).length) (pC f)).length=(pC f).length:=jo _ _
 have l1:((fC f).map nmP).length=(fC f).length:=List.length_map _
 have eN:(bx 0 (pA f)++fC f++bx ((pA f).length+(pB f).length) (pC f)).map nmP=npV 0 (pA f)++(fC f).map nmP++npV ((pA f).length+(pB f).length) (pC f):=by simp[npV]
 have s4:aQ (b1 zg (bY [none,none,some 1] (iV (b2 a_ (b2 bz (b2 ixP (bV 2) (bC (.int 0))) (bV 4)) (b2 ixP (bV 2) (bC (.int 2))))) (gT [0,1]) cL dm)) [some (rP (parts f)),some (.int (r:Nat)),some (dZ f),some (gP (parts f)),some (.lst ((fC f).map nmP))]=some (.rt (.bl ((bx 0 (pA f)++fC f++bx ((pA f).length+(pB f).length) (pC f)).any (fH r)))):=by
  rw[eN] at hcm
  rw[hc]
  generalize bx 0 (pA f)++fC f++bx ((pA f).length+(pB f).length) (pC f)=ZZ,rP (parts f)=FP,gP (parts f)=EV,npV 0 (pA f)=N0,npV ((pA f).length+(pB f).length) (pC f)=N2,npV (pA f).length (pB f)=N1,(fC f).map nmP=NI at *
  have k1:N0.length+NI.length<=1000000:=by omega
  have k2:(N0++NI).length+N2.length<=1000000:=by rw[List.length_append];omega
  have k3:(N0++NI++N2).length<=1000000:=by rw[List.length_append,List.length_append];omega
  have ha:((ZZ.map (fH r)).any id)=ZZ.any (fH r):=by rw[List.any_map];rfl
  have k2':N0.length+NI.length+N2.length<=1000000:=by omega
  have w1:iV (b2 a_ (b2 bz (b2 ixP (bV 2) (bC (.int 0))) (bV 4)) (b2 ixP (bV 2) (bC (.int 2)))) [some FP,some (.int (r:Nat)),some (.lst [.lst N0,.lst N1,.lst N2]),some EV,some (.lst NI)]=some (N0++NI++N2):=by
   simp[k1,k2']
  have w2:bY [none,none,some 1] (iV (b2 a_ (b2 bz (b2 ixP (bV 2) (bC (.int 0))) (bV 4)) (b2 ixP (bV 2) (bC (.int 2))))) (gT [0,1]) cL dm [some FP,some (.int (r:Nat)),some (.lst [.lst N0,.lst N1,.lst N2]),some EV,some (.lst NI)]=some (.lst (ZZ.map λz=>PV.bl (fH r z))):=by
   generalize iV (b2 a_ (b2 bz (b2 ixP (bV 2) (bC (.int 0))) (bV 4)) (b2 ixP (bV 2) (bC (.int 2))))=IV,N0++NI++N2=NN at *
   simp[w1,k3,hcm]
  generalize bY [none,none,some 1] (iV (b2 a_ (b2 bz (b2 ixP (bV 2) (bC (.int 0))) (bV 4)) (b2 ixP (bV 2) (bC (.int 2))))) (gT [0,1]) cL dm=BC at *
  simp[w2,hbm,ha]
 unfold cZ
 have hb:jE [some (rP (parts f)),some (.int (r:Nat)),none,none,none]=some (.rt (.bl ((bx 0 (pA f)++fC f++bx ((pA f).length+(pB f).length) (pC f)).any (fH r)))):=by
  unfold jE
  rw[aF s1,aF s2,aF s3,s4]
 generalize jE=B at *
 simp[hb]
end My
namespace My
open PySem L2 MR
theorem qL {α:Type}{y q:α}:∀ {x z d r:List α},x++y::z=d++q::r->(∃ t,x=d++q::t)\/(d=x/\q=y)\/(∃ t,d=x++y::t/\z=t++q::r)
 | [],z,[],r,h=>by
  have:=List.cons.inj h
  exact .inr (.inl ⟨rfl,this.1.symm⟩)
 | [],z,e::d,r,h=>by
  have:=List.cons.inj h
  exact .inr (.inr ⟨d,by rw[this.1];rfl,this.2⟩)
 | a::x,z,[],r,h=>by
  have:=List.cons.inj h
  exact .inl ⟨x,by rw[this.1];rfl⟩
 | a::x,z,e::d,r,h=>by
  have h':=List.cons.inj h
  rcases qL h'.2 with ⟨t,k⟩ | ⟨k1,k2⟩ | ⟨t,k1,k2⟩
  ·exact .inl ⟨t,by rw[h'.1,k];rfl⟩
  ·exact .inr (.inl ⟨by rw[h'.1,k1],k2⟩)
  ·exact .inr (.inr ⟨t,by rw[h'.1,k1];rfl,k2⟩)
theorem rW {l:List Pt}(h:Its l):l.any cg=false:=by
 rw[List.any_eq_false]
 intro p hp z
 have:=h p hp
 cases p with
 | op=>cases this
 | cl lo hi=>cases z
 | as r=>cases z
 | rw n b=>cases z
theorem NB {A:List Pt}(h:Its A) (hw:∀ p∈A,WOk p):aZ [rP A,rdP .op]=some (.bl true):=by
 have h1:=zM hw
 rw[rW h] at h1
 have h1:inP aK (rP A)=some false:=h1
 have h2:eqP (rdP .op) aK=some true:=pG (p:=.op) trivial
 generalize rP A=FP,rdP .op=QP at *
 simp[aZ,cF,h2,h1]
theorem GR {A B:List Pt}{lo hi:Nat}(h1:Its A) (h2:Its B) (hn:B≠[]) (hw:∀ p∈A++.op::B,WOk p) (hq:WOk (.cl lo hi)) (hl:(A++.op::B).length < 900):aZ [rP (A++.op::B),rdP (.cl lo hi)]=some (.bl true):=by
 have ho:=pY hw hl (zN h1 h2)
 have ha:(A++.op::B).any cg=true:=by rw[List.any_append,List.any_cons];simp[cg]
 rw[ha] at ho
 have he:eqP (rdP (.cl lo hi)) aK=some false:=pG hq
 obtain⟨i,p,hp⟩:∃ i p,B=i++[p]:=by
  rcases List.eq_nil_or_concat B with z | ⟨i,p,z⟩
  ·exact absurd z hn
  ·exact⟨i,p,by rw[z,List.concat_eq_append]⟩
 have hip:isIt p=true:=h2 p (by rw[hp];simp)
 have hiop:cg p=false:=by cases p <;> first | rfl | cases hip
 have hlast:eqP (rdP p) aK=some false:=by rw[← hiop];exact pG (hw p (by rw[hp];simp))
 have hat:ixP (rP (A++.op::B)) (.int (-1))=some (rdP p):=by
  have e:A++.op::B=(A++.op::i)++[p]:=by rw[hp];simp
  show atI ((A++.op::B).map rdP) (-1)=some (rdP p)
  rw[e,List.map_append,List.map_singleton]
  generalize (A++.op::i).map rdP=L
  unfold atI ixN
  rw[if_neg (by decide),if_pos (by simp;omega),Option.bind_some]
  rw[show ((-1:Int)+((L++[rdP p]).length:Nat)).toNat=L.length by simp;omega]
  simp
 have h0:ixP (rdP (.cl lo hi)) (.int 0)=some (.str ")"):=rT (.cl lo hi)
 generalize rP (A++.op::B)=FP,rdP (.cl lo hi)=QP,rdP p=LP at *
 unfold aZ cF
 generalize bw=MO at *
 simp[-ixP,he,h0,ho,hat,hlast]
theorem vd {f:Fm}{q:Pt}(hf:t_ f) (hl:(parts f).length < 20) (hc:(pA f).length+(pB f).length+(pC f).length < 12) (hq:isIt q=true) (hqw:WOk q)
  (hr:∀ r,q=.as r->((bx 0 (pA f)++fC f++bx ((pA f).length+(pB f).length) (pC f)).any (fH r))=true):aZ [rP (parts f),rdP q]=some (.bl true):=by
 have h1:=wL hf hl
 have he:eqP (rdP q) aK=some false:=by
  rw[pG hqw]
  cases q <;> first | rfl | cases hq
 have h0:=rT q
 obtain⟨k1,k2⟩:=pX hq
 have hcv:dZ f=.lst [.lst (npV 0 (pA f)),.lst (npV (pA f).length (pB f)),.lst (npV ((pA f).length+(pB f).length) (pC f))]:=rfl
 have l0:(npV 0 (pA f)).length=(pA f).length:=jo _ _
 have l1:(npV (pA f).length (pB f)).length=(pB f).length:=jo _ _
 have l2:(npV ((pA f).length+(pB f).length) (pC f)).length=(pC f).length:=jo _ _
 have a1:sIf (tV (b2 eqQ (bV 1) (bC aK))) (aQ (b2 dJ (bC aK) (bV 0))) sNx [some (rP (parts f)),some (rdP q)]=some (.nx [some (rP (parts f)),some (rdP q)]):=by
  generalize rP (parts f)=FP,rdP q=QP at *
  simp[he]
 have a2:sIf (tV (b2 eqQ (b2 ixP (bV 1) (bC (.int 0))) (bC (.str ")")))) (aQ (iy (aN bw (aj (bV 0) aq)) (b2 neQ (b2 ixP (bV 0) (b1 iB (bC (.int 1)))) (bC aK)))) sNx [some (rP (parts f)),some (rdP q)]=some (.nx [some (rP (parts f)),some (rdP q)]):=by
  generalize rP (parts f)=FP,rdP q=QP at *
  simp[-ixP,h0,k2]
 have a3:sIf (tV (b2 eqQ (b1 sY (bY [none] (iV (aN bW (aj (bV 0) aq))) (gN 0) cL fB)) (bC (.int 12)))) (aQ (bC (.bl false))) sNx [some (rP (parts f)),some (rdP q)]=some (.nx [some (rP (parts f)),some (rdP q)]):=by
  rw[hcv] at h1
  generalize rP (parts f)=FP,rdP q=QP,npV 0 (pA f)=N0,npV ((pA f).length+(pB f).length) (pC f)=N2,npV (pA f).length (pB f)=N1,bW=MC at *
  have hne:¬ ((N0.length:Int)+((N1.length:Int)+(N2.length:Int))=12):=by omega
  simp[h1,cX,fB,hne]
 have a4:aQ (bOr (b2 eqQ (b2 ixP (bV 1) (bC (.int 0))) (bC (.str "row"))) (aN cZ (aj (bV 0) (aj (b2 ixP (bV 1) (bC (.int 1))) aq)))) [some (rP (parts f)),some (rdP q)]=some (.rt (.bl true)):=by
  cases q with
  | op=>cases hq
  | cl lo hi=>cases hq
  | rw n b=>
   generalize rP (parts f)=FP at *
   have h0:ixP (rdP (.rw n b)) (.int 0)=some (.str "row"):=h0
   generalize rdP (.rw n b)=QP at *
   simp[-ixP,h0]
  | as r=>
   have hm:=wM (r:=r) hf hl (by omega)
   rw[hr r rfl] at hm
   have h0:ixP (rdP (.as r)) (.int 0)=some (.str "as"):=h0
   have h1':ixP (rdP (.as r)) (.int 1)=some (.int (r:Nat)):=at1 _ _ _
   generalize rP (parts f)=FP,rdP (.as r)=QP,cZ=MN at *
   have hz:decide (Str.ofString "as" = Str.ofString "row")=false:=decide_eq_false e6
   simp[-ixP,h0,h1',hm,hz]
 have hb:cF [some (rP (parts f)),some (rdP q)]=some (.rt (.bl true)):=by
  unfold cF
  rw[aF a1,aF a2,aF a3,a4]
 unfold aZ
 generalize cF=B at *
 simp[hb]
theorem pZ {f:Fm}{r:Nat}{n:Str}{b:Option Str}(h1:1<=r) (hN:(pA f++pB f++pC f)[r - 1]?=some (.rw n b)) (hins:(pA f).length<=r - 1->r - 1 < (pA f).length+(pB f).length->fC f=bx (pA f).length (pB f)):
  ((bx 0 (pA f)++fC f++bx ((pA f).length+(pB f).length) (pC f)).any (fH r))=true:=by
 have hq:fH r (r,.rw n b)=true:=by
  unfold fH
  simp[hdS]
 rw[List.any_eq_true]
 refine⟨(r,.rw n b),?_,hq⟩
 rcases Nat.lt_or_ge (r - 1) (pA f).length with z | z
 ·rw[List.append_assoc,List.getElem?_append_left z] at hN
  have:=nW (n:=0) hN
  rw[show 0+(r - 1)+1=r by omega] at this
  exact List.mem_append_left _ (List.mem_append_left _ this)
 ·rcases Nat.lt_or_ge (r - 1) ((pA f).length+(pB f).length) with y | y
  ·rw[List.getElem?_append_left (by rw[List.length_append];exact y),List.getElem?_append_right z] at hN
   have:=nW (n:=(pA f).length) hN
   rw[show (pA f).length+(r - 1 - (pA f).length)+1=r by omega] at this
   rw[hins z y]
   exact List.mem_append_left _ (List.mem_append_right _ this)
  ·rw[List.getElem?_append_right (by rw[List.length_append];exact y),List.length_append] at hN
   have:=nW (n:=(pA f).length+(pB f).length) hN
   rw[show (pA f).length+(pB f).length+(r - 1 - ((pA f).length+(pB f).length))+1=r by omega] at this
   exact List.mem_append_right _ this
theorem iZ {l:List Pt}(h:Its l):l.filter isIt=l:=List.filter_eq_self.mpr h
theorem p6 {l d r:List Pt}{q:Pt}(h:(l.filter isIt).length<=12) (e:l=d++q::r) (hq:isIt q=true):(d.filter isIt).length < 12:=by
 rw[e,List.filter_append,List.filter_cons_of_pos hq] at h
 simp only[List.length_append,List.length_cons] at h
 omega
theorem CK {A B:List Pt}(h1:Its A) (h2:Its B):(A++.op::B).filter isIt=A++B:=by
 rw[List.filter_append,List.filter_cons_of_neg (by decide),iZ h1,iZ h2]
theorem wN {A B C:List Pt}{lo hi:Nat}(h1:Its A) (h2:Its B) (h3:Its C):(A++.op::(B++.cl lo hi::C)).filter isIt=A++B++C:=by
 have e:¬ isIt (.cl lo hi)=true:=λz=>by cases z
 rw[List.filter_append,List.filter_cons_of_neg (by decide),List.filter_append,List.filter_cons_of_neg e,iZ h1,iZ h2,iZ h3,List.append_assoc]
theorem Its.pre {l d r:List Pt}(h:Its l) (e:l=d++r):Its d:=λp hp=>h p (by rw[e];exact List.mem_append_left _ hp)
theorem gB:Its []:=λp hp=>by cases hp
theorem NK {F:Fm}(hF:FOk F) (hW:Whole F) (hw:∀ p∈parts F,WOk p) (hl:(parts F).length < 20) (hc:((parts F).filter isIt).length<=12){d r:List Pt}{q:Pt}(e:parts F=d++q::r):aZ [rP d,rdP q]=some (.bl true):=by
 have hwd:∀ p∈d,WOk p:=λp hp=>hw p (by rw[e];exact List.mem_append_left _ hp)
 have hwq:WOk q:=hw q (by rw[e];simp)
 have hld:d.length < 20:=by have:=congrArg List.length e;simp at this;omega
 cases hW with
 | @w0 A hA=>
  obtain⟨h1,h2⟩:=hF
  have e:A=d++q::r:=e
  have hq:isIt q=true:=h1 q (by rw[e];simp)
  have hd:Its d:=h1.pre e
  have hcn:=p6 (l:=A) hc e hq
  rw[iZ hd] at hcn
  refine vd (f:=.f0 d) ⟨hd,gB,gB⟩ hld (by show d.length+0+0 < 12;omega) hq hwq λr' hr=>?_
  subst hr
  obtain⟨k1,k2,⟨n,b,k3⟩,_⟩:=h2 d.length r' (by rw[e,List.getElem?_append_right (Nat.le_refl _),Nat.sub_self];rfl)
  refine pZ k1 (n:=n) (b:=b) ?_ (λy1 y2=>?_)
  ·show (d++[]++[])[r' - 1]?=_
   rw[e,List.getElem?_append_left (by omega)] at k3
   rw[List.append_nil,List.append_nil]
   exact k3
  ·have y1:d.length<=r' - 1:=y1
   have y2:r' - 1 < d.length+0:=y2
   omega
 | @w2 A B lo hi C=>
  obtain⟨h1,h2,h3,h4,h5,h6,h7,h8⟩:=hF
  have e:A++.op::(B++.cl lo hi::C)=d++q::r:=e
  have hc:((A++.op::(B++.cl lo hi::C)).filter isIt).length<=12:=hc
  rcases qL e with ⟨t,k⟩ | ⟨k1,k2⟩ | ⟨t,k1,k2⟩
  ·have hq:isIt q=true:=h1 q (by rw[k];simp)
   have hd:Its d:=h1.pre k
   have hcn:=p6 hc e hq
   rw[iZ hd] at hcn
   refine vd (f:=.f0 d) ⟨hd,gB,gB⟩ hld (by show d.length+0+0 < 12;omega) hq hwq λr' hr=>?_
   subst hr
   obtain⟨k1,k2,⟨n,b,k3⟩,_⟩:=h4 d.length r' (by rw[k,List.append_assoc,List.append_assoc,List.getElem?_append_right (Nat.le_refl _),Nat.sub_self];rfl)
   refine pZ k1 (n:=n) (b:=b) ?_ (λy1 y2=>?_)
   ·show (d++[]++[])[r' - 1]?=_
    rw[k,List.append_assoc,List.append_assoc,List.getElem?_append_left (by omega)] at k3
    rw[List.append_nil,List.append_nil]
    exact k3
   ·have y1:d.length<=r' - 1:=y1
    have y2:r' - 1 < d.length+0:=y2
    omega
  ·subst k1 k2
   exact NB h1 hwd
  ·rcases qL k2 with ⟨t2,m⟩ | ⟨m1,m2⟩ | ⟨t2,m1,m2⟩
   ·have hq:isIt q=true:=h2 q (by rw[m];simp)
    have ht:Its t:=h2.pre m
    have hcn:=p6 hc e hq
    rw[k1,CK h1 ht,List.length_append] at hcn
    rw[k1] at hld ⊢
    refine vd (f:=.f1 A t) ⟨h1,ht,gB⟩ hld (by show A.length+t.length+0 < 12;omega) hq hwq λr' hr=>?_
    subst hr
    obtain⟨k1,k2,⟨n,b,k3⟩,_⟩:=h4 (A++t).length r' (by rw[m,← List.append_assoc,List.append_assoc (A++t),List.getElem?_append_right (Nat.le_refl _),Nat.sub_self];rfl)
    refine pZ k1 (n:=n) (b:=b) ?_ (λy1 y2=>rfl)
    show (A++t++[])[r' - 1]?=_
    rw[m,← List.append_assoc,List.append_assoc (A++t),List.getElem?_append_left (by omega)] at k3
    rw[List.append_nil]
    exact k3
   ·subst m1 m2
    rw[k1] at hld ⊢
    exact GR h1 h2 h8 (by rw[← k1];exact hwd) hwq (by omega)
   ·have hq:isIt q=true:=h3 q (by rw[m2];simp)
    have ht:Its t2:=h3.pre m2
    have hcn:=p6 hc e hq
    rw[k1,m1,wN h1 h2 ht,List.length_append,List.length_append] at hcn
    rw[k1,m1] at hld ⊢
    refine vd (f:=.f2 A B lo hi t2) ⟨h1,h2,ht⟩ hld (by show A.length+B.length+t2.length < 12;omega) hq hwq λr' hr=>?_
    subst hr
    obtain⟨k1,k2,⟨n,b,k3⟩,k4⟩:=h4 (A++B++t2).length r' (by rw[m2,← List.append_assoc,List.getElem?_append_right (Nat.le_refl _),Nat.sub_self];rfl)
    refine pZ k1 (n:=n) (b:=b) ?_ (λy1 y2=>?_)
    ·show (A++B++t2)[r' - 1]?=_
     rw[m2,← List.append_assoc,List.getElem?_append_left (by omega)] at k3
     exact k3
    ·have y1:A.length<=r' - 1:=y1
     have y2:r' - 1 < A.length+B.length:=y2
     show (if lo=0 then [] else bx A.length B)=bx A.length B
     rw[if_neg]
     intro z
     rcases k4 (by simp) z with w | w <;> omega
end My
namespace My
open PySem L2 MR
end My
namespace My
open PySem L2 MR
def cU (f:Fm):Nat:=(pA f).length+(pB f).length+(pC f).length
def nY:Fm->Bool
 | .f1 _ _=>true
 | _=>false
def asB (f:Fm) (r:Nat):Bool:=(bx 0 (pA f)++fC f++bx ((pA f).length+(pB f).length) (pC f)).any (fH r)
def goB (f:Fm):Pt->Bool
 | .op=>match f with
  | .f0 _=>true
  | _=>false
 | .cl _ _=>match f with
  | .f1 _ B=>!B.isEmpty
  | _=>false
 | .rw _ _=>decide (cU f < 12)
 | .as r=>decide (cU f < 12)&&asB f r
def dN (f:Fm) (q:Pt):Fm:=match f with
 | .f0 A=>if cg q=true then .f1 A [] else .f0 (A++[q])
 | .f1 A B=>match q with
  | .cl lo hi=>.f2 A B lo hi []
  | q=>.f1 A (B++[q])
 | .f2 A B lo hi C=>.f2 A B lo hi (C++[q])
structure SOk (f:Fm):Prop where
 its:t_ f
 wok:∀ p∈parts f,WOk p
 cnt:cU f<=12
theorem SOk.len {f:Fm}(h:SOk f):(parts f).length < 20:=by
 have:=h.cnt
 cases f with
 | f0 A=>simp[parts,cU,pA,pB,pC] at *;omega
 | f1 A B=>simp[parts,cU,pA,pB,pC] at *;omega
 | f2 A B lo hi C=>simp[parts,cU,pA,pB,pC] at *;omega
theorem qM {f:Fm}(h:SOk f):bw [rP (parts f)]=some (.bl (nY f)):=by
 have hl:=h.len
 obtain⟨h1,h2,h3⟩:=h.its
 cases f with
 | f0 A=>
  have:=pY (l:=parts (.f0 A)) h.wok (by omega) (j6 h1)
  rw[show (parts (.f0 A)).any cg=false from rW h1] at this
  exact this
 | f1 A B=>
  have:=pY (l:=parts (.f1 A B)) h.wok (by omega) (zN h1 h2)
  rw[show (parts (.f1 A B)).any cg=true by show (A++Pt.op::B).any cg=true;rw[List.any_append,List.any_cons];simp[cg]] at this
  exact this
 | f2 A B lo hi C=>exact wK (l:=parts (.f2 A B lo hi C)) (lo:=lo) (hi:=hi) h.wok (by omega) ⟨[],zO (A:=A) (B:=B) (C:=C) h1 h2 h3⟩
theorem LR {f:Fm}(h:SOk f):aZ [rP (parts f),rdP .op]=some (.bl (goB f .op)):=by
 have h1:inP aK (rP (parts f))=some ((parts f).any cg):=zM h.wok
 have h2:eqP (rdP .op) aK=some true:=pG (p:=.op) trivial
 have e:goB f .op=!(parts f).any cg:=by
  cases f with
  | f0 A=>rw[show (parts (.f0 A)).any cg=false from rW h.its.1];rfl
  | f1 A B=>rw[show (parts (.f1 A B)).any cg=true by show (A++Pt.op::B).any cg=true;rw[List.any_append,List.any_cons];simp[cg]];rfl
  | f2 A B lo hi C=>rw[show (parts (.f2 A B lo hi C)).any cg=true by show (A++Pt.op::(B++.cl lo hi::C)).any cg=true;rw[List.any_append,List.any_cons];simp[cg]];rfl
 rw[e]
 generalize (parts f).any cg=k,rP (parts f)=FP,rdP .op=QP at *
 cases k <;> simp[aZ,cF,h2,h1]
theorem L_ {f:Fm}(h:SOk f){lo hi:Nat}(hq:WOk (.cl lo hi)):aZ [rP (parts f),rdP (.cl lo hi)]=some (.bl (goB f (.cl lo hi))):=by
 have ho:=qM h
 have he:eqP (rdP (.cl lo hi)) aK=some false:=pG hq
 have h0:ixP (rdP (.cl lo hi)) (.int 0)=some (.str ")"):=rT (.cl lo hi)
 have hF:nY f=false->aZ [rP (parts f),rdP (.cl lo hi)]=some (.bl false):=λz=>by
  rw[z] at ho
  generalize rP (parts f)=FP,rdP (.cl lo hi)=QP at *
  unfold aZ cF
  generalize bw=MO at *
  simp[-ixP,he,h0,ho]
 cases f with
 | f0 A=>exact hF rfl
 | f2 A B lo' hi' C=>exact hF rfl
 | f1 A B=>
  by_cases hB:B=[]
  ·subst hB
   have hlast:eqP (rdP .op) aK=some true:=pG (p:=.op) trivial
   have ho:bw [rP (parts (.f1 A []))]=some (.bl true):=ho
   have hat:ixP (rP (parts (.f1 A []))) (.int (-1))=some (rdP .op):=by
    show atI ((A++[Pt.op]).map rdP) (-1)=some (rdP .op)
    rw[List.map_append,List.map_singleton]
    generalize A.map rdP=L
    unfold atI ixN
    rw[if_neg (by decide),if_pos (by simp;omega),Option.bind_some]
    rw[show ((-1:Int)+((L++[rdP .op]).length:Nat)).toNat=L.length by simp;omega]
    simp
   show aZ [rP (parts (.f1 A [])),rdP (.cl lo hi)]=some (.bl false)
   generalize rP (parts (.f1 A []))=FP,rdP (.cl lo hi)=QP,rdP .op=LP at *
   unfold aZ cF
   generalize bw=MO at *
   simp[-ixP,he,h0,ho,hat,hlast]
  ·have e:goB (.f1 A B) (.cl lo hi)=true:=by
    show (!B.isEmpty)=true
    cases B with
    | nil=>exact absurd rfl hB
    | cons a b=>rfl
   rw[e]
   exact GR h.its.1 h.its.2.1 hB h.wok hq (by have:=h.len;have:(A++Pt.op::B).length < 20:=this;omega)
theorem CN {f:Fm}{q:Pt}(h:SOk f) (hq:isIt q=true) (hqw:WOk q):aZ [rP (parts f),rdP q]=some (.bl (goB f q)):=by
 have hl:=h.len
 have hf:=h.its
 have hcnt:=h.cnt
 have h1:=wL hf hl
 have he:eqP (rdP q) aK=some false:=by
  rw[pG hqw]
  cases q <;> first | rfl | cases hq
 have h0:=rT q
 obtain⟨k1,k2⟩:=pX hq
 have hcv:dZ f=.lst [.lst (npV 0 (pA f)),.lst (npV (pA f).length (pB f)),.lst (npV ((pA f).length+(pB f).length) (pC f))]:=rfl
 have l0:(npV 0 (pA f)).length=(pA f).length:=jo _ _
 have l1:(npV (pA f).length (pB f)).length=(pB f).length:=jo _ _
 have l2:(npV ((pA f).length+(pB f).length) (pC f)).length=(pC f).length:=jo _ _
 have hcnt':cU f=(pA f).length+(pB f).length+(pC f).length:=rfl
 have a1:sIf (tV (b2 eqQ (bV 1) (bC aK))) (aQ (b2 dJ (bC aK) (bV 0))) sNx [some (rP (parts f)),some (rdP q)]=some (.nx [some (rP (parts f)),some (rdP q)]):=by
  generalize rP (parts f)=FP,rdP q=QP at *
  simp[he]
 have a2:sIf (tV (b2 eqQ (b2 ixP (bV 1) (bC (.int 0))) (bC (.str ")")))) (aQ (iy (aN bw (aj (bV 0) aq)) (b2 neQ (b2 ixP (bV 0) (b1 iB (bC (.int 1)))) (bC aK)))) sNx [some (rP (parts f)),some (rdP q)]=some (.nx [some (rP (parts f)),some (rdP q)]):=by
  generalize rP (parts f)=FP,rdP q=QP at *
  simp[-ixP,h0,k2]
 by_cases h12:cU f < 12
 ·have a3:sIf (tV (b2 eqQ (b1 sY (bY [none] (iV (aN bW (aj (bV 0) aq))) (gN 0) cL fB)) (bC (.int 12)))) (aQ (bC (.bl false))) sNx [some (rP (parts f)),some (rdP q)]=some (.nx [some (rP (parts f)),some (rdP q)]):=by
   rw[hcv] at h1
   generalize rP (parts f)=FP,rdP q=QP,npV 0 (pA f)=N0,npV ((pA f).length+(pB f).length) (pC f)=N2,npV (pA f).length (pB f)=N1,bW=MC at *
   have hne:¬ ((N0.length:Int)+((N1.length:Int)+(N2.length:Int))=12):=by omega
   simp[h1,cX,fB,hne]
  have a4:aQ (bOr (b2 eqQ (b2 ixP (bV 1) (bC (.int 0))) (bC (.str "row"))) (aN cZ (aj (bV 0) (aj (b2 ixP (bV 1) (bC (.int 1))) aq)))) [some (rP (parts f)),some (rdP q)]=some (.rt (.bl (goB f q))):=by
   cases q with
   | op=>cases hq
   | cl lo hi=>cases hq
   | rw n b=>
    have e:goB f (.rw n b)=true:=decide_eq_true h12
    rw[e]
    generalize rP (parts f)=FP at *
    have h0:ixP (rdP (.rw n b)) (.int 0)=some (.str "row"):=h0
    generalize rdP (.rw n b)=QP at *
    simp[-ixP,h0]
   | as r=>
    have e:goB f (.as r)=asB f r:=by show (decide (cU f < 12)&&asB f r)=_;rw[decide_eq_true h12];rfl
    rw[e]
    have hm:=wM (r:=r) hf hl (by omega)
    have hm:cZ [rP (parts f),.int (r:Nat)]=some (.bl (asB f r)):=hm
    have h0:ixP (rdP (.as r)) (.int 0)=some (.str "as"):=h0
    have h1':ixP (rdP (.as r)) (.int 1)=some (.int (r:Nat)):=at1 _ _ _
    generalize rP (parts f)=FP,rdP (.as r)=QP,cZ=MN at *
    have hz:decide (Str.ofString "as" = Str.ofString "row")=false:=decide_eq_false e6
    simp[-ixP,h0,h1',hm,hz]
  have hb:cF [some (rP (parts f)),some (rdP q)]=some (.rt (.bl (goB f q))):=by
   unfold cF
   rw[aF a1,aF a2,aF a3,a4]
  unfold aZ
  generalize cF=B at *
  simp[hb]
 ·have e:goB f q=false:=by
   cases q with
   | op=>cases hq
   | cl lo hi=>cases hq
   | rw n b=>exact decide_eq_false h12
   | as r=>show (decide (cU f < 12)&&asB f r)=false;rw[decide_eq_false h12];rfl
  have a3:sIf (tV (b2 eqQ (b1 sY (bY [none] (iV (aN bW (aj (bV 0) aq))) (gN 0) cL fB)) (bC (.int 12)))) (aQ (bC (.bl false))) sNx [some (rP (parts f)),some (rdP q)]=some (.rt (.bl false)):=by
   rw[hcv] at h1
   generalize rP (parts f)=FP,rdP q=QP,npV 0 (pA f)=N0,npV ((pA f).length+(pB f).length) (pC f)=N2,npV (pA f).length (pB f)=N1,bW=MC at *
   have hne:((N0.length:Int)+((N1.length:Int)+(N2.length:Int))=12):=by omega
   simp[h1,cX,fB,hne]
  have hb:cF [some (rP (parts f)),some (rdP q)]=some (.rt (.bl false)):=by
   unfold cF
   rw[aF a1,aF a2,mU a3]
  rw[e]
  unfold aZ
  generalize cF=B at *
  simp[hb]
theorem wO {f:Fm}{q:Pt}(h:SOk f) (hqw:WOk q):aZ [rP (parts f),rdP q]=some (.bl (goB f q)):=by
 cases q with
 | op=>exact LR h
 | cl lo hi=>exact L_ h hqw
 | as r=>exact CN h rfl hqw
 | rw n b=>exact CN h rfl hqw
theorem p7 {f:Fm}{q:Pt}(hq:isIt q=true) (hg:goB f q=true):cU f < 12:=by
 cases q with
 | op=>cases hq
 | cl lo hi=>cases hq
 | as r=>exact of_decide_eq_true (Bool.and_eq_true_iff.mp hg).1
 | rw n b=>exact of_decide_eq_true hg
theorem wQ {f:Fm}{q:Pt}(h:SOk f) (hqw:WOk q) (hg:goB f q=true):SOk (dN f q)/\parts (dN f q)=parts f++[q]:=by
 have e:parts (dN f q)=parts f++[q]:=by
  cases f with
  | f0 A=>
   cases q with
   | op=>simp[dN,cg,parts]
   | cl lo hi=>cases hg
   | as r=>simp[dN,cg,parts]
   | rw n b=>simp[dN,cg,parts]
  | f1 A B=>
   cases q with
   | op=>cases hg
   | cl lo hi=>simp[dN,parts]
   | as r=>simp[dN,parts]
   | rw n b=>simp[dN,parts]
  | f2 A B lo hi C=>
   cases q with
   | op=>cases hg
   | cl lo hi=>cases hg
   | as r=>simp[dN,parts]
   | rw n b=>simp[dN,parts]
 refine⟨⟨?_,λp hp=>?_,?_⟩,e⟩
 ·obtain⟨h1,h2,h3⟩:=h.its
  cases f with
  | f0 A=>
   cases q with
   | op=>exact⟨h1,gB,gB⟩
   | cl lo hi=>cases hg
   | as r=>exact⟨eE h1 rfl,gB,gB⟩
   | rw n b=>exact⟨eE h1 rfl,gB,gB⟩
  | f1 A B=>
   cases q with
   | op=>cases hg
   | cl lo hi=>exact⟨h1,h2,gB⟩
   | as r=>exact⟨h1,eE h2 rfl,gB⟩
   | rw n b=>exact⟨h1,eE h2 rfl,gB⟩
  | f2 A B lo hi C=>
   cases q with
   | op=>cases hg
   | cl lo hi=>cases hg
   | as r=>exact⟨h1,h2,eE h3 rfl⟩
   | rw n b=>exact⟨h1,h2,eE h3 rfl⟩
 ·rw[e] at hp
  rcases List.mem_append.mp hp with z | z
  ·exact h.wok p z
  ·rw[List.mem_singleton] at z;subst z;exact hqw
 ·have hc:=h.cnt
  cases f with
  | f0 A=>
   cases q with
   | op=>simpa [dN,cg,cU,pA,pB,pC] using hc
   | cl lo hi=>cases hg
   | as r=>have z:=p7 (by rfl) hg;simp[cU,pA,pB,pC] at z;simp[dN,cg,cU,pA,pB,pC];omega
   | rw n b=>have z:=p7 (by rfl) hg;simp[cU,pA,pB,pC] at z;simp[dN,cg,cU,pA,pB,pC];omega
  | f1 A B=>
   cases q with
   | op=>cases hg
   | cl lo hi=>simpa [dN,cg,cU,pA,pB,pC] using hc
   | as r=>have z:=p7 (by rfl) hg;simp[cU,pA,pB,pC] at z;simp[dN,cg,cU,pA,pB,pC];omega
   | rw n b=>have z:=p7 (by rfl) hg;simp[cU,pA,pB,pC] at z;simp[dN,cg,cU,pA,pB,pC];omega
  | f2 A B lo hi C=>
   cases q with
   | op=>cases hg
   | cl lo hi=>cases hg
   | as r=>have z:=p7 (by rfl) hg;simp[cU,pA,pB,pC] at z;simp[dN,cg,cU,pA,pB,pC];omega
   | rw n b=>have z:=p7 (by rfl) hg;simp[cU,pA,pB,pC] at z;simp[dN,cg,cU,pA,pB,pC];omega
end My
namespace My
open PySem L2 MR
structure TX (w:Str) (o:Option Pt):Prop where
 rd:bO [.str w]=some (o.elim .non rdP)
 ok:∀ q,o=some q->WOk q
def rdF:List (Option Pt)->Nat->Fm->Sum Fm Nat
 | [],_,f=>.inl f
 | none::_,k,_=>.inr k
 | some q::os,k,f=>if goB f q=true then rdF os (k+1) (dN f q) else .inr k
theorem yD:∀ (A B:List (Option Pt)) (k:Nat) (f:Fm),rdF (A++B) k f=match rdF A k f with
  | .inl f'=>rdF B (k+A.length) f'
  | .inr j=>.inr j
 | [],B,k,f=>by simp[rdF]
 | none::A,B,k,f=>rfl
 | some q::A,B,k,f=>by
  simp only[List.cons_append,rdF]
  by_cases h:goB f q=true
  ·rw[if_pos h,if_pos h,yD A B (k+1),List.length_cons,show k+1+A.length=k+(A.length+1) by omega]
  ·rw[if_neg h,if_neg h]
theorem Ma {w:Str}(h:TX w none){f:Fm}{k:Nat}(hk:k<=1000){x0 x1:PV}:bK [some x0,some x1,some (rP (parts f)),some (.int (k:Nat)),some (.str w),none]=some (13,some k):=by
 have hr:=h.rd
 have hk2:(k:Int)<=1000000:=by omega
 simp only[Option.elim] at hr
 unfold bK
 generalize bO=mr,rP (parts f)=FP at *
 simp[hr,hk2]
theorem NQ {w:Str}{q:Pt}(h:TX w (some q)){f:Fm}(hf:SOk f){k:Nat}(hk:k<=1000){x0 x1:PV}:bK [some x0,some x1,some (rP (parts f)),some (.int (k:Nat)),some (.str w),none]=if goB f q=true then none else some (13,some k):=by
 have hr:=h.rd
 have hg:=wO hf (h.ok q rfl)
 have hk2:(k:Int)<=1000000:=by omega
 have hn:isN (rdP q) .non=some (.bl false):=by cases q <;> rfl
 have hp:rP (parts f)=.lst ((parts f).map rdP):=rfl
 simp only[Option.elim] at hr
 rw[hp] at hg ⊢
 generalize goB f q=gb at *
 unfold bK
 generalize bO=mr,aZ=mg',(parts f).map rdP=LP,rdP q=QP at *
 have nl:∀ b,noL (.bl b)=true:=λ_=>rfl
 cases gb <;> simp[hr,hn,hg,nl,hk2,-Bo]
theorem Jc {w:Str}{q:Pt}(h:TX w (some q)){f:Fm}(hf:SOk f) (hg:goB f q=true){k:Nat}{x0 x1:PV}:
  turn (gT [3,4]) [3,4,5] bj (.tup [.int (k:Nat),.str w]) [some x0,some x1,some (rP (parts f)),none,none,none]=some [some x0,some x1,some (rP (parts (dN f q))),none,none,none]:=by
 have hr:=h.rd
 have hgo:=wO hf (h.ok q rfl)
 have hl:=hf.len
 rw[hg] at hgo
 have e:rP (parts (dN f q))=.lst ((parts f).map rdP++[rdP q]):=by rw[(wQ hf (h.ok q rfl) hg).2];simp[rP]
 have hl:((parts f).map rdP).length < 1000000:=by rw[List.length_map];omega
 have hp:rP (parts f)=.lst ((parts f).map rdP):=rfl
 have hn:isN (rdP q) .non=some (.bl false):=by cases q <;> rfl
 simp only[Option.elim] at hr
 rw[e]
 rw[hp] at hgo ⊢
 unfold bj
 generalize bO=mr,aZ=mg',(parts f).map rdP=LP,rdP q=QP at *
 have nl:noL (.bl true)=true:=rfl
 simp[dY,hr,hn,hgo,hl,nl,-Bo]
abbrev zP (y:(Str×Option Pt)×Nat):PV:=PV.tup [.int (y.2:Nat),.str y.1.1]
theorem CQ {x0 x1:PV}:∀ (zs:List (Str×Option Pt)) (k:Nat) (f:Fm),(∀ z∈zs,TX z.1 z.2)->k+zs.length<=1000->SOk f->
  match rdF (zs.map (·.2)) k f with
  | .inl f'=>SOk f'/\cW (gT [3,4]) [3,4,5] bj ((zs.zipIdx k).map zP) [some x0,some x1,some (rP (parts f)),none,none,none]=some (.nx [some x0,some x1,some (rP (parts f')),none,none,none]) /\
    ik (gT [3,4]) [3,4,5] bj bK ((zs.zipIdx k).map zP) [some x0,some x1,some (rP (parts f)),none,none,none]=none
  | .inr j=>ik (gT [3,4]) [3,4,5] bj bK ((zs.zipIdx k).map zP) [some x0,some x1,some (rP (parts f)),none,none,none]=some (13,some j)
 | [],k,f,_,_,hf=>⟨hf,rfl,rfl⟩
 | z::zs,k,f,hz,hk,hf=>by
  have hk':k<=1000:=by simp at hk;omega
  have t:=hz z List.mem_cons_self
  obtain⟨w,o⟩:=z
  simp only[List.zipIdx_cons,List.map_cons]
  have hgT:gT [3,4] (zP ((w,o),k)) [some x0,some x1,some (rP (parts f)),none,none,none]=some [some x0,some x1,some (rP (parts f)),some (.int (k:Nat)),some (.str w),none]:=by
   generalize rP (parts f)=FP
   simp[zP]
  cases o with
  | none=>
   simp only[rdF]
   unfold ik
   rw[hgT]
   simp only[Option.bind_some,Ma t hk']
  | some q=>
   have hx:=NQ t hf hk' (x0:=x0) (x1:=x1)
   simp only[rdF]
   by_cases hg:goB f q=true
   ·rw[if_pos hg] at hx ⊢
    have hfa:=(wQ hf (t.ok q rfl) hg).1
    have s1:=Jc t hf hg (k:=k) (x0:=x0) (x1:=x1)
    have ih:=CQ zs (k+1) (dN f q) (λy hy=>hz y (List.mem_cons_of_mem _ hy)) (by simp at hk;omega) hfa (x0:=x0) (x1:=x1)
    have s1':=s1
    rw[dY,hgT] at s1'
    simp only[Option.bind_some] at s1'
    have lx:∀ xs:List PV,ik (gT [3,4]) [3,4,5] bj bK (zP ((w,some q),k)::xs) [some x0,some x1,some (rP (parts f)),none,none,none]=ik (gT [3,4]) [3,4,5] bj bK xs [some x0,some x1,some (rP (parts (dN f q))),none,none,none]:=λxs=>by
     rw[ik,hgT]
     simp only[Option.bind_some,hx]
     generalize bj [some x0,some x1,some (rP (parts f)),some (.int (k:Nat)),some (.str w),none]=o at s1' ⊢
     unfold nxt at s1'
     split at s1'
     ·rw[← Option.some.inj s1'];rfl
     ·rw[← Option.some.inj s1'];rfl
     ·cases s1'
    rw[dz s1,lx]
    exact ih
   ·rw[if_neg hg] at hx ⊢
    unfold ik
    rw[hgT]
    simp only[Option.bind_some,hx]
def fQ (os:List (Option Pt)):Int:=match rdF os 0 (.f0 []) with
 | .inl f=>if nY f=true then (os.length:Int) else -1
 | .inr j=>(j:Int)
theorem refused {t:Str}{zs:List (Str×Option Pt)}(hs:Txt.split t ("; " : Str)=zs.map (·.1)) (ht:t.length<=1000000) (hz:∀ z∈zs,TX z.1 z.2) (hk:zs.length<=1000):aL [.str t]=some (.int (fQ (zs.map (·.2)))):=by
 have hsl:¬ ("; " : Str).length=0:=by decide +kernel
 have f0:SOk (.f0 []):=⟨⟨gB,gB,gB⟩,(λp hp=>by cases hp),by simp[cU,pA,pB,pC]⟩
 have run:=CQ (x0:=.str t) (x1:=.lst ((zs.map (·.1)).map .str)) zs 0 (.f0 []) hz (by omega) f0
 have en:jd 0 ((zs.map (·.1)).map .str)=(zs.zipIdx 0).map zP:=by
  have:=uG (λz:Str×Option Pt=>PV.str z.1) zs 0
  rw[List.map_map]
  exact this
 have e0:rP (parts (.f0 []))=.lst []:=rfl
 have e31:mY=bj:=rfl
 have hlen:(((zs.map (·.1)).map PV.str).length:Int)=(zs.length:Int):=by simp
 unfold fQ
 rw[List.length_map]
 cases q:rdF (zs.map (·.2)) 0 (.f0 []) with
 | inr j=>
  rw[q] at run
  have run':ik (gT [3,4]) [3,4,5] bj bK ((zs.zipIdx 0).map zP) [some (.str t),some (.lst ((zs.map (·.1)).map .str)),some (rP (parts (.f0 []))),none,none,none]=some (13,some j):=run
  rw[e0] at run'
  have a2:dF [.str t]=some (13,some j):=by
   unfold dF jF
   rw[e31]
   generalize bj=BB,bK=XX,zs.map (·.1)=WS,bw=MO at *
   simp[hs,ht,hsl,en,run',oX]
  simp[aL,ir,f9,gf,a2]
 | inl f=>
  rw[q] at run
  obtain⟨hf,r1,r2⟩:=run
  rw[e0] at r1 r2
  have hop:=qM hf
  have hp:rP (parts f)=.lst ((parts f).map rdP):=rfl
  have hle:(parts f).length<=1000000:=by have:=hf.len;omega
  have nl:∀ b,noL (.bl b)=true:=λ_=>rfl
  have hk2:(zs.length:Int)<=1000000:=by omega
  rw[hp] at hop r1
  have hle':((parts f).map rdP).length<=1000000:=by rw[List.length_map];exact hle
  cases hb:nY f with
  | true=>
   rw[hb] at hop
   have a2:dF [.str t]=some (13,some zs.length):=by
    unfold dF jF
    rw[e31]
    generalize bj=BB,bK=XX,hWS:zs.map (·.1)=WS at *
    have hWl:WS.length=zs.length:=by rw[← hWS];simp
    generalize bw=MO,(parts f).map rdP=RP at *
    simp[hs,ht,hsl,en,r1,r2,oX,hop,nl,hWl,hk2]
   simp[aL,ir,f9,gf,a2,hb]
  | false=>
   rw[hb] at hop
   have a2:dF [.str t]=none:=by
    unfold dF jF
    rw[e31]
    generalize bj=BB,bK=XX,zs.map (·.1)=WS,bw=MO,(parts f).map rdP=RP at *
    simp[hs,ht,hsl,en,r1,r2,oX,hop,nl]
   have a1:∃ p,gA [.str t]=some p:=by
    refine⟨.tup ((parts f).map rdP),?_⟩
    unfold gA o9
    generalize bj=BB,zs.map (·.1)=WS,bw=MO,(parts f).map rdP=RP at *
    simp[hs,ht,hsl,en,r1,oX,hop,nl,hle']
   obtain⟨p,a1⟩:=a1
   simp[aL,ir,f9,gf,a1,a2,hb]
end My
namespace My
open PySem
def isB (x:Str) (i:Nat):Bool:=decide (x.cps.toList[i]?=some 59/\x.cps.toList[i+1]?=some 32)
def NS (w:List Nat):Prop:=∀ i,w[i]?=some 59->w[i+1]?≠some 32
theorem qN (x:Str) (limit:Nat):∀ (n a:Nat) (st:Array Nat×Nat),(st.2<=a\/(st.2=a+1/\x.cps.toList[a]?≠some 59))->st.1.size+n<=limit->
  (forIn (List.range' a n) st (StrLaws.occBody x sep2 x.length limit)).run.fst.toList=st.1.toList++(List.range' a n).filter (isB x)
 | 0,a,st,_,_=>by simp
 | n+1,a,st,h1,h2=>by
  rw[List.range'_succ,List.forIn_cons]
  unfold StrLaws.occBody
  have hs:=tY x a
  by_cases h:x.cps.toList[a]?=some 59/\x.cps.toList[a+1]?=some 32
  ·obtain⟨h3,h4⟩:=hs.mpr h
   have h5:st.2<=a:=by
    rcases h1 with z | ⟨_,z⟩
    ·exact z
    ·exact absurd h.1 z
   rw[if_pos ⟨⟨⟨by omega,h5⟩,h3⟩,h4⟩]
   have ih:=qN x limit n (a+1) (st.1.push a,a+sep2.length) (.inr ⟨rfl,by rw[h.2];decide⟩) (by simp;omega)
   show (forIn (List.range' (a+1) n) (st.1.push a,a+sep2.length) (StrLaws.occBody x sep2 x.length limit)).run.fst.toList=_
   rw[ih,List.filter_cons]
   have hi:isB x a=true:=by simp[isB,h]
   rw[if_pos hi]
   simp
  ·rw[if_neg (λz=>h (hs.mp ⟨z.1.2,z.2⟩))]
   have ih:=qN x limit n (a+1) (st.1,st.2) (.inl (by
    show st.2<=a+1
    rcases h1 with z | ⟨z,_⟩ <;> omega)) (by show st.1.size+n<=limit;omega)
   show (forIn (List.range' (a+1) n) (st.1,st.2) (StrLaws.occBody x sep2 x.length limit)).run.fst.toList=_
   rw[ih,List.filter_cons]
   have hi:isB x a=false:=decide_eq_false h
   rw[if_neg (by rw[hi];exact Bool.false_ne_true)]
theorem FW (x:Str):Builtin.Str.occurrences x sep2 0 x.length (x.length+1)=(List.range' 0 (x.length+1)).filter (isB x):=by
 rw[StrLaws.occ_eq,qN x (x.length+1) (x.length+1 - 0) 0 (#[],0) (.inl (Nat.le_refl _)) (by simp)]
 simp
theorem yE {x:Str}{a n:Nat}(h:∀ i,a<=i->i < a+n->¬ (x.cps.toList[i]?=some 59/\x.cps.toList[i+1]?=some 32)):(List.range' a n).filter (isB x)=[]:=by
 rw[List.filter_eq_nil_iff]
 intro i hi
 obtain⟨k,hk,rfl⟩:=List.mem_range'.mp hi
 unfold isB
 rw[decide_eq_true_eq]
 exact h _ (by omega) (by omega)
theorem CT (x:Str):∀ (ws:List (List Nat)) (pre:List Nat),ws≠[]->(∀ w∈ws,NS w)->x.cps.toList=pre++jl ws->
  (StrLaws.partsFrom x 2 pre.length ((List.range' pre.length ((jl ws).length+1)).filter (isB x))).map (λp=>p.cps.toList)=ws
 | [],_,h,_,_=>absurd rfl h
 | [w],pre,_,h0,hx=>by
  have hl:x.cps.toList.length=x.length:=Array.length_toList
  have hw:NS w:=h0 w (by simp)
  rw[yE λi h1 h2 z=>?_]
  ·simp only[StrLaws.partsFrom,List.map_cons,List.map_nil]
   rw[StrLaws.strSub_toList,hx]
   have e:x.length - pre.length=w.length:=by rw[← hl,hx];simp[jl]
   rw[e,List.drop_left]
   simp[jl]
  ·rw[hx,List.getElem?_append_right h1,List.getElem?_append_right (by omega),show i+1 - pre.length=i - pre.length+1 by omega] at z
   exact hw _ z.1 z.2
 | w::v::r,pre,_,h0,hx=>by
  have hl:x.cps.toList.length=x.length:=Array.length_toList
  have hw:NS w:=h0 w (by simp)
  have ih:=CT x (v::r) (pre++(w++[59,32])) (by simp) (λz hz=>h0 z (List.mem_cons_of_mem _ hz)) (by rw[hx,jl];simp)
  have hj:jl (w::v::r)=w++59::32::jl (v::r):=rfl
  rw[hj] at hx ⊢
  generalize jl (v::r)=J at *
  have e0:(w++59::32::J).length+1=w.length+(1+(1+(J.length+1))):=by simp;omega
  rw[e0,← List.range'_append_1,← List.range'_append_1,← List.range'_append_1,List.filter_append,List.filter_append,List.filter_append]
  have g59:x.cps.toList[pre.length+w.length]?=some 59:=by
   rw[hx,List.getElem?_append_right (by omega),List.getElem?_append_right (by omega),show pre.length+w.length - pre.length - w.length=0 by omega]
   rfl
  have g32:x.cps.toList[pre.length+w.length+1]?=some 32:=by
   rw[hx,List.getElem?_append_right (by omega),List.getElem?_append_right (by omega),show pre.length+w.length+1 - pre.length - w.length=1 by omega]
   rfl
  have f1:(List.range' pre.length w.length).filter (isB x)=[]:=yE λi h1 h2 z=>by
   by_cases hi:i+1=pre.length+w.length
   ·rw[hi,g59] at z
    cases z.2
   ·rw[hx,List.getElem?_append_right h1,List.getElem?_append_left (by omega),List.getElem?_append_right (by omega),List.getElem?_append_left (by omega),show i+1 - pre.length=i - pre.length+1 by omega] at z
    exact hw _ z.1 z.2
  have f2:(List.range' (pre.length+w.length) 1).filter (isB x)=[pre.length+w.length]:=by
   simp[isB,g59,g32]
  have f3:(List.range' (pre.length+w.length+1) 1).filter (isB x)=[]:=by
   simp[isB,g32]
  rw[f1,f2,f3]
  have e1:(pre++(w++[59,32])).length=pre.length+w.length+1+1:=by simp;omega
  rw[e1] at ih
  simp only[List.nil_append,List.cons_append,StrLaws.partsFrom,List.map_cons]
  rw[show pre.length+w.length+2=pre.length+w.length+1+1 by omega,ih]
  congr 1
  rw[StrLaws.strSub_toList,hx,List.drop_left,show pre.length+w.length - pre.length=w.length by omega,List.take_left]
theorem xT {ws:List Str}(hn:ws≠[]) (h:∀ w∈ws,NS w.cps.toList):Txt.split (Str.join sep2 ws) sep2=ws:=by
 have hj:=tZ ws
 have hn':ws.map (λw=>w.cps.toList)≠[]:=by simpa using hn
 have h':∀ w∈ws.map (λw=>w.cps.toList),NS w:=λw hw=>by
  obtain⟨z,h1,rfl⟩:=List.mem_map.mp hw
  exact h z h1
 have hl:(Str.join sep2 ws).cps.toList.length=(Str.join sep2 ws).length:=Array.length_toList
 have key:StrLaws.partsFrom (Str.join sep2 ws) 2 0 (Builtin.Str.occurrences (Str.join sep2 ws) sep2 0 (Str.join sep2 ws).length ((Str.join sep2 ws).length+1))=ws:=by
  rw[FW _]
  have k:=CT (Str.join sep2 ws) _ [] hn' h' (by rw[hj];rfl)
  rw[← hj,hl] at k
  have k2:=congrArg (List.map t6) k
  rw[List.map_map,List.map_map] at k2
  have e:(t6∘λ(p:Str)=>p.cps.toList)=id:=by
   funext p
   exact ql p
  rw[e,List.map_id,List.map_id] at k2
  exact k2
 unfold Txt.split
 split
 ·rename_i hk
  cases ws with
  | nil=>exact absurd rfl hn
  | cons w r=>
   cases r with
   | nil=>rfl
   | cons v r=>
    exfalso
    have h2:2<=(Str.join sep2 (w::v::r)).length:=by
     rw[← hl,hj]
     simp[jl]
     omega
    rw[Bool.or_eq_true] at hk
    rcases hk with z | z
    ·have z:=of_decide_eq_true z
     have:sep2.length=2:=rfl
     omega
    ·have z:=of_decide_eq_true z
     have e:Builtin.Str.strKind sep2=1:=by decide +kernel
     have e2:1<=Builtin.Str.strKind (Str.join sep2 (w::v::r)):=by
      unfold Builtin.Str.strKind
      split
      ·exact Nat.le_refl _
      ·split <;> decide
     omega
 ·split
  ·rename_i h2
   have e0:=List.isEmpty_iff.mp h2
   rw[e0] at key
   simp only[StrLaws.partsFrom] at key
   rw[StrLaws.sub_whole] at key
   exact key
  ·rw[StrLaws.partsBetween_eq]
   exact key
theorem zQ {w:List Nat}(h:59∉w):NS w:=λi z=>absurd (List.mem_of_getElem? z) h
end My
namespace My
open PySem L2 MR
def nsB:List Nat->Bool
 | a::b::r=>!(a == 59&&b == 32)&&nsB (b::r)
 | _=>true
theorem Mf:∀ {l:List Nat},nsB l=true->NS l
 | [],_,i,h=>by simp at h
 | [a],_,i,h=>by
  cases i with
  | zero=>simp
  | succ i=>simp at h
 | a::b::r,hl,i,h=>by
  unfold nsB at hl
  rw[Bool.and_eq_true] at hl
  cases i with
  | zero=>
   simp only[List.getElem?_cons_zero,Option.some.injEq] at h
   subst h
   intro z
   simp only[List.getElem?_cons_succ,List.getElem?_cons_zero,Option.some.injEq,Nat.zero_add] at z
   subst z
   simp at hl
  | succ i=>
   rw[List.getElem?_cons_succ] at h ⊢
   exact Mf hl.2 i h
def badK:List Str:=(["", " ", "x", "x ", " x", "x  a", "x aa", "x 1", "x -a", "X a", "x1 a", "measuredx a"]:List Str)++(["x a ", "x a b", "as", "as 1 2", "As 1", "- a", "( ", "()", "(a", ")", ") 1", ") 1 2 3"]:List Str)++([") 2 1", ") 0 0", ") 1 5", ") 5 5", ") 01 2", ") 1 02", ") -1 2", ") a b", ") 1  2", "x a;", "x;a"]:List Str)
theorem FZ:badK.map (λw=>bO [.str w])=badK.map (λ_=>some PV.non):=by kernel_rfl
theorem map_eq {α β:Type}{f g:α->β}:∀ {l:List α},l.map f=l.map g->∀ x∈l,f x=g x
 | [],_,x,hx=>by cases hx
 | a::l,h,x,hx=>by
  have h':=List.cons.inj h
  rcases List.mem_cons.mp hx with rfl | hx
  ·exact h'.1
  ·exact map_eq h'.2 x hx
theorem Jd:∀ w∈badK,bO [.str w]=some .non:=map_eq FZ
def badA:List Str:=["", "0", "01", "-1", "13", "100000000000000000000", "1a"]
theorem Je:∀ x∈badA,x∉twelve:=by
 intro x hx
 simp only[badA,List.mem_cons,List.not_mem_nil,or_false] at hx
 rcases hx with e | e | e | e | e | e | e <;> subst e <;> decide +kernel
theorem F_:badA.map (λw=>dD [.str w])=badA.map (λ_=>some (PV.bl false)):=by kernel_rfl
theorem CW:∀ x∈badA,dD [.str x]=some (.bl false):=map_eq F_
theorem uN:∀ x∈badA,32∉x.cps.toList/\59∉x.cps.toList/\x.length<=30/\PyData.strOk x=true:=by
 intro x hx
 simp only[badA,List.mem_cons,List.not_mem_nil,or_false] at hx
 rcases hx with e | e | e | e | e | e | e <;> subst e <;> decide +kernel
theorem CZ {x:Str}(hx:32∉x.cps.toList):Txt.split (("as " : Str)++x) " " = [("as" : Str),x]:=by
 have e:("as " : Str)++x=("as" : Str)++(⟨#[32]⟩:Str)++x:=by
  have:("as " : Str)=("as" : Str)++(⟨#[32]⟩:Str):=by decide +kernel
  rw[this]
 rw[e,blank_eq,qi (by decide) (by decide +kernel),qg (by decide) hx]
theorem Jf {x:Str}(h:x∈badA):bO [.str (("as " : Str)++x)]=some .non:=by
 obtain⟨f1,f2,f3,f4⟩:=uN x h
 have hs:=CZ f1
 have hl:(("as " : Str)++x).length<=1000000:=by
  have:(("as " : Str)++x).length=("as " : Str).length+x.length:=by show (("as " : Str).cps++x.cps).size=_;rw[Array.size_append];rfl
  have:("as " : Str).length=3:=by decide +kernel
  omega
 have hr:=wH x
 rw[decide_eq_false (Je x h)] at hr
 have hn:fM [.str "as"]=some (.bl true):=uL (by decide +kernel)
 have hb:=CW x h
 have ho:eqP (.lst [.str ("as" : Str),.str x]) (.lst [.str ("(" : Str)])=some false:=by
  have:=wF (ws:=[("as" : Str),x]) (vs:=[("(" : Str)]) (λw hw=>by
   simp only[List.mem_cons,List.not_mem_nil,or_false] at hw
   rcases hw with rfl | rfl
   ·decide +kernel
   ·exact f4) (λw hw=>by
   rw[List.mem_singleton] at hw
   subst hw
   decide +kernel)
  rw[decide_eq_false (by simp)] at this
  exact this
 have hb1:(((" " : Str)).length == 0)=false:=by decide +kernel
 generalize ("as " : Str)++x=W at *
 unfold bO iH
 generalize cO=MM,fM=MN,dD=MB,dj=ME at *
 simp[hs,hl,bl1,ho,hr,hn,hb]
end My
namespace My
open PySem L2 MR
def wR (n:Nat) (w:Str):Prop:=w.length<=100/\NS w.cps.toList/\∃ o,TX w o/\(o=none\/(o=some (.as (n+1))/\n < 12))
theorem uO:∀ w∈badK,w.length<=100/\nsB w.cps.toList=true:=by decide +kernel
theorem Mg {n:Nat}{w:Str}(h:w∈badK):wR n w:=⟨(uO w h).1,Mf (uO w h).2,none,⟨Jd w h,λq z=>nomatch z⟩,.inl rfl⟩
theorem C_ {x:Str}(h:59∉x.cps.toList):59∉(("as " : Str)++x).cps.toList:=by
 rw[Str.cps_append,Array.toList_append]
 intro z
 rcases List.mem_append.mp z with z | z
 ·exact absurd z (by decide +kernel)
 ·exact h z
theorem ud (x:Str):(("as " : Str)++x).length=3+x.length:=by
 show (("as " : Str).cps++x.cps).size=_
 rw[Array.size_append]
 have:("as " : Str).cps.size=3:=by decide +kernel
 rw[this]
 rfl
theorem Dc {n:Nat}{x:Str}(h:x∈badA):wR n (("as " : Str)++x):=by
 obtain⟨f1,f2,f3,f4⟩:=uN x h
 exact⟨by rw[ud];omega,zQ (C_ f2),none,⟨Jf h,λq z=>nomatch z⟩,.inl rfl⟩
theorem NT:km 13=some ("13" : Str):=by decide +kernel
theorem Jg {n:Nat}(hn:n<=12):∃ x,km ((n:Int)+1)=some x/\x.length<=30/\wR n (("as " : Str)++x):=by
 by_cases h:n=12
 ·subst h
  exact⟨"13",NT,by decide +kernel,Dc (by decide +kernel)⟩
 ·obtain⟨a1,a2,a3,a4,a5⟩:=jf (n+1) (by omega)
  have hw:WOk (.as (n+1)):=⟨by omega,by omega⟩
  have e:("as " : Str)++nS (n+1)=wr (.as (n+1)):=by
   show _=("as" : Str)++(" " : Str)++nS (n+1)
   have:("as " : Str)=("as" : Str)++(" " : Str):=by decide +kernel
   rw[this]
  refine⟨nS (n+1),by exact_mod_cast a1,by omega,by rw[ud];omega,zQ (C_ a5),some (.as (n+1)),⟨by rw[e];exact wI hw,λq z=>by cases z;exact hw⟩,.inr ⟨rfl,by omega⟩⟩
def bA:List Str:=["", " ", "x", "x ", " x", "x  a", "x aa", "x 1", "x -a", "X a", "x1 a", "measuredx a", "x a ", "x a b"]
def bB:List Str:=["as", "as ", "as 0", "as 01", "as -1", "as 13", "as 100000000000000000000", "as 1 2", "As 1"]
def bC':List Str:=["- a", "as 1a"]
def bD:List Str:=["( ", "()", "(a", ")", ") 1", ") 1 2 3", ") 2 1", ") 0 0", ") 1 5", ") 5 5"]
def bE:List Str:=[") 01 2", ") 1 02", ") -1 2", ") a b", ") 1  2", "x a;", "x;a"]
theorem inK:∀ w∈bA++bB++bC'++bD++bE,w∈badK\/w∈badA.map (("as " : Str)++·):=by decide +kernel
theorem lN {n:Nat}{w:Str}(h:w∈bA++bB++bC'++bD++bE):wR n w:=by
 rcases inK w h with z | z
 ·exact Mg z
 ·obtain⟨x,hx,rfl⟩:=List.mem_map.mp z
  exact Dc hx
theorem qO (xs:List PV) (n:Nat):fG xs none (some (n:Int))=xs.take n:=by
 unfold fG
 rw[HT.sIx_nat,HT.sIx_none,List.drop_zero,Nat.sub_zero]
 by_cases h:n<=xs.length
 ·rw[Nat.min_eq_left h]
 ·rw[Nat.min_eq_right (by omega),List.take_of_length_le (by omega),List.take_of_length_le (by omega)]
theorem wU (xs:List PV) (n:Nat):fG xs (some (n:Int)) none=xs.drop n:=by
 unfold fG
 rw[HT.sIx_nat,HT.sIx_none]
 by_cases h:n<=xs.length
 ·rw[Nat.min_eq_left h,List.take_of_length_le (by simp)]
 ·rw[Nat.min_eq_right (by omega),List.drop_length,List.drop_eq_nil_of_le (by omega)]
  simp
theorem NZ (p:Pt):(!(decide (hdS p=("(" : Str))||decide (hdS p=(")" : Str))))=isIt p:=by
 cases p with
 | op=>decide +kernel
 | cl lo hi=>
  show (!(decide ((")" : Str)=("(" : Str))||decide ((")" : Str)=(")" : Str))))=false
  decide +kernel
 | as r=>
  show (!(decide (("as" : Str)=("(" : Str))||decide (("as" : Str)=(")" : Str))))=true
  decide +kernel
 | rw n b=>
  show (!(decide (("row" : Str)=("(" : Str))||decide (("row" : Str)=(")" : Str))))=true
  decide +kernel
theorem Ga (l:List Pt):cX [none] (gN 0) cC cz (l.map ptP)=some ((l.filter isIt).map ptP):=
 gk ptP ptP isIt l λp _=>⟨[some (ptP p)],rfl,by
  have h0:=ix0 p
  have h2:=wy (hdS p)
  have h3:=NZ p
  generalize ptP p=P,hdS p=D at *
  simp[cC,-ixP,h0,h2]
  rw[← h3]
  simp,λ_=>by simp[cz]⟩
theorem Gb {l:List Pt}(hl:l.length < 20){a:Nat}{c:Int}{T:List Str}{x w:Str}{A B E:List Str}{D:List PV}
  (hx:km ((((l.take a).filter isIt).length:Int)+1)=some x) (hx2:x.length<=30)
  (e1:(A++B).map PV.str=A.map PV.str++B.map PV.str) (lA:A.length+B.length<=100) (lE:E.length<=100)
  (hT:T.map PV.str=(A.map PV.str++B.map PV.str++[PV.str "- a",PV.str "as 1a"])++(PV.str (("as " : Str)++x)::[PV.str "( ",.str "()",.str "(a",.str ")",.str ") 1",.str ") 1 2 3",.str ") 2 1",.str ") 0 0",.str ") 1 5",.str ") 5 5"])++E.map PV.str) (lT:T.length=43) (hw:T[(c % 43).toNat]?=some w):
  cP 5 3 false (aG (aJ 3 (b1 lenV (bY [none] (iV (lY (bV 0) oN (oS (bV 1)))) (gN 0) cC cz))) (aG (aJ 4 (aO (dB A))) (aG (aJ 4 (b2 a_ (bV 4) (aO (dB B)))) (aG (aJ 4 (b2 a_ (bV 4) (aO (aj (bC (.str "- a")) (aj (bC (.str "as 1a")) aq))))) (aG (aJ 4 (b2 a_ (bV 4) (aO (aj (b2 bz (bC (.str "as ")) (b1 jM (b2 bz (bV 3) (bC (.int 1))))) (aj (bC (.str "( ")) (aj (bC (.str "()")) (aj (bC (.str "(a")) (aj (bC (.str ")")) (aj (bC (.str ") 1")) (aj (bC (.str ") 1 2 3")) (aj (bC (.str ") 2 1")) (aj (bC (.str ") 0 0")) (aj (bC (.str ") 1 5")) (aj (bC (.str ") 5 5")) aq)))))))))))))) (aG (aJ 4 (b2 a_ (bV 4) (aO (dB E)))) (aQ (b2 ixP (bV 4) (b2 cM (bV 2) (bC (.int 43)))))))))))
   [tP l,.int (a:Nat),.int c]=some (.str w):=by
 have c1:fG (l.map ptP) none (some (a:Int))=(l.take a).map ptP:=by rw[qO,List.map_take]
 have cm:=Ga (l.take a)
 have hle:(l.take a).length<=1000000:=by rw[List.length_take];omega
 have ht:tP l=.tup (l.map ptP):=rfl
 generalize hn:((l.take a).filter isIt).length=n at *
 have has3:("as " : Str).length=3:=by decide +kernel
 have hal:("as " : Str).length+x.length<=1000000:=by omega
 have s1:aJ 3 (b1 lenV (bY [none] (iV (lY (bV 0) oN (oS (bV 1)))) (gN 0) cC cz)) [some (tP l),some (.int (a:Nat)),some (.int c),none,none]=some (.nx [some (tP l),some (.int (a:Nat)),some (.int c),some (.int (n:Nat)),none]):=by
  rw[ht]
  generalize cC=cc,cz=ce,l.take a=L2,l.map ptP=LP at *
  simp[zK,c1,cm,hle,hn]
 have hm0:0<=c % 43:=Int.emod_nonneg _ (by decide)
 have hm1:c % 43 < 43:=Int.emod_lt_of_pos _ (by decide)
 have hat:atI (T.map PV.str) (c % 43)=some (.str w):=by
  obtain⟨k,hk⟩:∃ k:Nat,c % 43=k:=⟨(c % 43).toNat,by omega⟩
  rw[hk] at hw ⊢
  have hw:T[k]?=some w:=by simpa using hw
  exact gR (by rw[List.getElem?_map,hw];rfl)
 have hb:(aG (aJ 3 (b1 lenV (bY [none] (iV (lY (bV 0) oN (oS (bV 1)))) (gN 0) cC cz))) (aG (aJ 4 (aO (dB A))) (aG (aJ 4 (b2 a_ (bV 4) (aO (dB B)))) (aG (aJ 4 (b2 a_ (bV 4) (aO (aj (bC (.str "- a")) (aj (bC (.str "as 1a")) aq))))) (aG (aJ 4 (b2 a_ (bV 4) (aO (aj (b2 bz (bC (.str "as ")) (b1 jM (b2 bz (bV 3) (bC (.int 1))))) (aj (bC (.str "( ")) (aj (bC (.str "()")) (aj (bC (.str "(a")) (aj (bC (.str ")")) (aj (bC (.str ") 1")) (aj (bC (.str ") 1 2 3")) (aj (bC (.str ") 2 1")) (aj (bC (.str ") 0 0")) (aj (bC (.str ") 1 5")) (aj (bC (.str ") 5 5")) aq)))))))))))))) (aG (aJ 4 (b2 a_ (bV 4) (aO (dB E)))) (aQ (b2 ixP (bV 4) (b2 cM (bV 2) (bC (.int 43)))))))))))
   [some (tP l),some (.int (a:Nat)),some (.int c),none,none]=some (.rt (.str w)):=by
  rw[aF s1]
  generalize tP l=TP at *
  have l1:A.length<=1000000:=by omega
  have l2:B.length<=1000000:=by omega
  have l3:A.length+B.length<=1000000:=by omega
  have l4:A.length+B.length+2<=1000000:=by omega
  have l5:E.length<=1000000:=by omega
  have l6:A.length+B.length+2+11<=1000000:=by omega
  have l7:A.length+B.length+2+11+E.length<=1000000:=by omega
  rw[hT] at hat
  have s2:aJ 4 (aO (dB A)) [some TP,some (.int (a:Nat)),some (.int c),some (.int (n:Nat)),none]=some (.nx [some TP,some (.int (a:Nat)),some (.int c),some (.int (n:Nat)),some (.lst (A.map .str))]):=by simp[l1]
  rw[aF s2]
  have s3:aJ 4 (b2 a_ (bV 4) (aO (dB B))) [some TP,some (.int (a:Nat)),some (.int c),some (.int (n:Nat)),some (.lst (A.map .str))]=some (.nx [some TP,some (.int (a:Nat)),some (.int c),some (.int (n:Nat)),some (.lst (A.map .str++B.map .str))]):=by simp[l2,l3]
  rw[aF s3]
  generalize hAB:A.map PV.str++B.map PV.str=AB at *
  have hABl:AB.length=A.length+B.length:=by rw[← hAB];simp
  have s4:aJ 4 (b2 a_ (bV 4) (aO (aj (bC (.str "- a")) (aj (bC (.str "as 1a")) aq)))) [some TP,some (.int (a:Nat)),some (.int c),some (.int (n:Nat)),some (.lst AB)]=some (.nx [some TP,some (.int (a:Nat)),some (.int c),some (.int (n:Nat)),some (.lst (AB++[.str "- a",.str "as 1a"]))]):=by simp[hABl,l4]
  rw[aF s4]
  have hn1:jM (.int ((n:Int)+1))=some (.str x):=by simp[hx]
  generalize hAC:AB++[PV.str "- a",PV.str "as 1a"]=AC at *
  have hACl:AC.length=A.length+B.length+2:=by rw[← hAC];simp[hABl]
  generalize ("as " : Str)=as3 at *
  have s5:aJ 4 (b2 a_ (bV 4) (aO (aj (b2 bz (bC (.str as3)) (b1 jM (b2 bz (bV 3) (bC (.int 1))))) (aj (bC (.str "( ")) (aj (bC (.str "()")) (aj (bC (.str "(a")) (aj (bC (.str ")")) (aj (bC (.str ") 1")) (aj (bC (.str ") 1 2 3")) (aj (bC (.str ") 2 1")) (aj (bC (.str ") 0 0")) (aj (bC (.str ") 1 5")) (aj (bC (.str ") 5 5")) aq))))))))))))) [some TP,some (.int (a:Nat)),some (.int c),some (.int (n:Nat)),some (.lst AC)]=some (.nx [some TP,some (.int (a:Nat)),some (.int c),some (.int (n:Nat)),some (.lst (AC++(PV.str (as3++x)::[PV.str "( ",.str "()",.str "(a",.str ")",.str ") 1",.str ") 1 2 3",.str ") 2 1",.str ") 0 0",.str ") 1 5",.str ") 5 5"])))]):=by simp[hx,hal,hACl,l6]
  rw[aF s5]
  generalize hAD:AC++(PV.str (as3++x)::[PV.str "( ",.str "()",.str "(a",.str ")",.str ") 1",.str ") 1 2 3",.str ") 2 1",.str ") 0 0",.str ") 1 5",.str ") 5 5"])=AD at *
  have hADl:AD.length=A.length+B.length+2+11:=by rw[← hAD];simp[hACl]
  have s6:aJ 4 (b2 a_ (bV 4) (aO (dB E))) [some TP,some (.int (a:Nat)),some (.int c),some (.int (n:Nat)),some (.lst AD)]=some (.nx [some TP,some (.int (a:Nat)),some (.int c),some (.int (n:Nat)),some (.lst (AD++E.map .str))]):=by simp[l5,hADl,l7]
  rw[aF s6]
  simp[hat]
 generalize (aG (aJ 3 (b1 lenV (bY [none] (iV (lY (bV 0) oN (oS (bV 1)))) (gN 0) cC cz))) (aG (aJ 4 (aO (dB A))) (aG (aJ 4 (b2 a_ (bV 4) (aO (dB B)))) (aG (aJ 4 (b2 a_ (bV 4) (aO (aj (bC (.str "- a")) (aj (bC (.str "as 1a")) aq))))) (aG (aJ 4 (b2 a_ (bV 4) (aO (aj (b2 bz (bC (.str "as ")) (b1 jM (b2 bz (bV 3) (bC (.int 1))))) (aj (bC (.str "( ")) (aj (bC (.str "()")) (aj (bC (.str "(a")) (aj (bC (.str ")")) (aj (bC (.str ") 1")) (aj (bC (.str ") 1 2 3")) (aj (bC (.str ") 2 1")) (aj (bC (.str ") 0 0")) (aj (bC (.str ") 1 5")) (aj (bC (.str ") 5 5")) aq)))))))))))))) (aG (aJ 4 (b2 a_ (bV 4) (aO (dB E)))) (aQ (b2 ixP (bV 4) (b2 cM (bV 2) (bC (.int 43)))))))))))=BB,tP l=TP at *
 simp[hb]
theorem Jh {l:List Pt}(hl:l.length < 20) (a:Nat) (c:Int) (hn:((l.take a).filter isIt).length<=12):∃ w,dM [tP l,.int (a:Nat),.int c]=some (.str w)/\wR ((l.take a).filter isIt).length w:=by
 obtain⟨x,hx,hx2,hbx⟩:=Jg hn
 have lT:(bA++bB++bC'++((("as " : Str)++x)::bD)++bE).length=43:=by simp[bA,bB,bC',bD,bE]
 have hm0:0<=c % 43:=Int.emod_nonneg _ (by decide)
 have hm1:c % 43 < 43:=Int.emod_lt_of_pos _ (by decide)
 have hk:(c % 43).toNat < (bA++bB++bC'++((("as " : Str)++x)::bD)++bE).length:=by rw[lT];omega
 refine⟨_,Gb (D:=[]) hl hx hx2 (by simp) (A:=bA) (B:=bB) (E:=bE) (T:=bA++bB++bC'++((("as " : Str)++x)::bD)++bE) (by decide) (by decide) (by simp only[List.map_append,List.map_cons];rfl) lT (List.getElem?_eq_getElem hk),?_⟩
 have hm:=List.getElem_mem hk
 generalize (bA++bB++bC'++((("as " : Str)++x)::bD)++bE)[(c % 43).toNat]=w at *
 simp only[List.mem_append,List.mem_cons] at hm
 rcases hm with (((h | h) | h) | (h | h)) | h
 ·exact lN (by simp[h])
 ·exact lN (by simp[h])
 ·exact lN (by simp[h])
 ·rw[h];exact hbx
 ·exact lN (by simp[h])
 ·exact lN (by simp[h])
end My
namespace My
open PySem L2 MR
theorem wV {F:Fm}(hF:FOk F) (hW:Whole F) (hw:∀ p∈parts F,WOk p) (hl:(parts F).length < 20) (hc:((parts F).filter isIt).length<=12):∀ (e d r:List Pt) (f:Fm) (k:Nat),parts F=d++(e++r)->SOk f->parts f=d->
  ∃ f',rdF (e.map some) k f=.inl f'/\SOk f'/\parts f'=d++e
 | [],d,r,f,k,_,hf,hp=>⟨f,rfl,hf,by simpa using hp⟩
 | q::e,d,r,f,k,h,hf,hp=>by
  have hq:WOk q:=hw q (by rw[h];simp)
  have g1:=NK hF hW hw hl hc (d:=d) (r:=e++r) (q:=q) (by rw[h];rfl)
  have g2:=wO hf hq
  rw[hp,g1] at g2
  have hg:goB f q=true:=by
   have:=Option.some.inj g2
   injection this with this
   exact this.symm
  obtain⟨hf2,hp2⟩:=wQ hf hq hg
  obtain⟨f',a1,a2,a3⟩:=wV hF hW hw hl hc e (d++[q]) r (dN f q) (k+1) (by rw[h];simp) hf2 (by rw[hp2,hp])
  refine⟨f',?_,a2,by rw[a3];simp⟩
  simp only[List.map_cons,rdF]
  rw[if_pos hg]
  exact a1
theorem GX:SOk (.f0 []):=⟨⟨gB,gB,gB⟩,(λp hp=>by cases hp),by simp[cU,pA,pB,pC]⟩
theorem Dd {f:Fm}(h:t_ f):((parts f).filter isIt).length=cU f:=by
 obtain⟨h1,h2,h3⟩:=h
 cases f with
 | f0 A=>
  show (A.filter isIt).length=A.length+0+0
  rw[iZ (l:=A) h1];rfl
 | f1 A B=>
  show ((A++Pt.op::B).filter isIt).length=A.length+B.length+0
  rw[CK (A:=A) (B:=B) h1 h2,List.length_append];rfl
 | f2 A B lo hi C=>
  show ((A++Pt.op::(B++.cl lo hi::C)).filter isIt).length=A.length+B.length+C.length
  rw[wN (A:=A) (B:=B) (C:=C) h1 h2 h3,List.length_append,List.length_append]
theorem k_:∀ {l:List Pt}{n:Nat}{z:Nat×Pt},z∈bx n l->z.1<=n+l.length
 | [],n,z,h=>by cases h
 | p::l,n,z,h=>by
  unfold bx at h
  rcases List.mem_cons.mp h with rfl | h
  ·simp
  ·have:=k_ h
   simp;omega
theorem N5 {f:Fm}{r:Nat}(hr:cU f < r):asB f r=false:=by
 unfold asB
 rw[List.any_eq_false]
 intro z hz
 have hz1:z.1<=cU f:=by
  unfold cU
  rcases List.mem_append.mp hz with hz | hz
  ·rcases List.mem_append.mp hz with hz | hz
   ·have:=k_ hz;omega
   ·cases f with
    | f0 A=>cases hz
    | f1 A B=>have:=k_ (show z∈bx A.length B from hz);show z.1<=A.length+B.length+0;omega
    | f2 A B lo hi C=>
     have hz:z∈(if lo=0 then [] else bx A.length B):=hz
     split at hz
     ·cases hz
     ·have:=k_ hz;show z.1<=A.length+B.length+C.length;omega
  ·have:=k_ hz;omega
 unfold fH
 rw[decide_eq_false (by omega)]
 simp
theorem De {F:Fm}(hF:FOk F) (hW:Whole F) (hw:∀ p∈parts F,WOk p) (hl:(parts F).length < 20) (hc:((parts F).filter isIt).length<=12){a:Nat}(ha:a<=(parts F).length){o:Option Pt}
  (ho:o=none\/(o=some (.as ((((parts F).take a).filter isIt).length+1))/\(((parts F).take a).filter isIt).length < 12)) (rest:List (Option Pt)):rdF (((parts F).take a).map some++o::rest) 0 (.f0 [])=.inr a:=by
 obtain⟨f',a1,a2,a3⟩:=wV hF hW hw hl hc ((parts F).take a) [] ((parts F).drop a) (.f0 []) 0 (by rw[List.take_append_drop];rfl) GX rfl
 rw[yD,a1]
 simp only
 rw[List.length_map,List.length_take,Nat.min_eq_left ha,Nat.zero_add]
 rcases ho with rfl | ⟨rfl,h12⟩
 ·rfl
 ·have hcn:=Dd a2.its
  rw[a3,List.nil_append] at hcn
  simp only[rdF]
  rw[if_neg]
  rw[hcn]
  show ¬ (decide (cU f' < 12)&&asB f' (cU f'+1))=true
  rw[N5 (by omega),Bool.and_false]
  exact Bool.false_ne_true
theorem N6 {F:Fm}(hF:FOk F) (hW:Whole F) (hw:∀ p∈parts F,WOk p) (hl:(parts F).length < 20):bw [rP (parts F)]=some (.bl false):=by
 cases hW with
 | @w0 A hA=>
  have h1:Its A:=hF.1
  have:=pY (l:=A) hw (by have:A.length < 20:=hl;omega) (j6 h1)
  rw[rW h1] at this
  exact this
 | @w2 A B lo hi C=>
  obtain⟨h1,h2,h3,_⟩:=hF
  exact wK (l:=A++.op::(B++.cl lo hi::C)) (lo:=lo) (hi:=hi) hw (by have:(A++Pt.op::(B++.cl lo hi::C)).length < 20:=hl;omega) ⟨[],zO h1 h2 h3⟩
theorem Ji {F:Fm}(hF:FOk F) (hW:Whole F) (hw:∀ p∈parts F,WOk p) (hl:(parts F).length < 20) (hc:((parts F).filter isIt).length<=12):fQ ((parts F).map some)=-1:=by
 obtain⟨f',a1,a2,a3⟩:=wV hF hW hw hl hc (parts F) [] [] (.f0 []) 0 (by simp) GX rfl
 have h1:=qM a2
 rw[a3,List.nil_append,N6 hF hW hw hl] at h1
 have hb:nY f'=false:=by
  have:=Option.some.inj h1
  injection this with this
  exact this.symm
 unfold fQ
 rw[a1]
 simp[hb]
structure ZOk (zs:List (Str×Option Pt)):Prop where
 tx:∀ z∈zs,TX z.1 z.2
 ns:∀ z∈zs,NS z.1.cps.toList
 le:∀ z∈zs,z.1.length<=100
 ne:zs≠[]
 len:zs.length<=100
abbrev wrZ (p:Pt):Str×Option Pt:=(wr p,some p)
theorem GZ {p:Pt}(h:WOk p):TX (wr p) (some p):=⟨wI h,λq z=>by cases z;exact h⟩
theorem p8 {zs:List (Str×Option Pt)}(h:ZOk zs):JoinOk ("; " : Str) (zs.map (·.1))=true/\aL [.str (Str.join ("; " : Str) (zs.map (·.1)))]=some (.int (fQ (zs.map (·.2)))):=by
 have hl2:("; " : Str).length=2:=by decide +kernel
 have h1:=m9 (k:=100) (ts:=zs.map (·.1)) (λt ht=>by
  obtain⟨z,hz,rfl⟩:=List.mem_map.mp ht
  exact h.le z hz)
 have h2:=pF ("; " : Str) (zs.map (·.1))
 rw[List.length_map] at h1 h2
 rw[hl2] at h2
 have h3:=h.len
 refine⟨?_,refused ?_ (by omega) h.tx (by omega)⟩
 ·unfold JoinOk Builtin.Str.tooLong
  rw[StrLaws.joinTotal,List.length_map,hl2]
  have:(1000000:Nat)<=sizeLine:=by decide
  simp
  simp at h1
  omega
 ·rw[Cu]
  refine xT (by simpa using h.ne) λw hw=>?_
  obtain⟨z,hz,rfl⟩:=List.mem_map.mp hw
  exact h.ns z hz
end My
namespace My
open PySem L2 MR
theorem G3 {p:Pt}(h:WOk p):NS (wr p).cps.toList:=zQ (GJ h)
theorem yF {l:List Pt}(hw:∀ p∈l,WOk p) (hl:l.length < 20){a b:Nat}{w:Str}{o:Option Pt}(h1:TX w o) (h2:NS w.cps.toList) (h3:w.length<=100):ZOk ((l.take a).map wrZ++(w,o)::(l.drop b).map wrZ):=by
 have key:∀ z∈(l.take a).map wrZ++(w,o)::(l.drop b).map wrZ,z=(w,o)\/∃ p∈l,z=wrZ p:=λz hz=>by
  rcases List.mem_append.mp hz with hz | hz
  ·obtain⟨p,hp,rfl⟩:=List.mem_map.mp hz
   exact .inr ⟨p,List.mem_of_mem_take hp,rfl⟩
  ·rcases List.mem_cons.mp hz with hz | hz
   ·exact .inl hz
   ·obtain⟨p,hp,rfl⟩:=List.mem_map.mp hz
    exact .inr ⟨p,List.mem_of_mem_drop hp,rfl⟩
 refine⟨λz hz=>?_,λz hz=>?_,λz hz=>?_,by simp,by simp;omega⟩
 ·rcases key z hz with rfl | ⟨p,hp,rfl⟩
  ·exact h1
  ·exact GZ (hw p hp)
 ·rcases key z hz with rfl | ⟨p,hp,rfl⟩
  ·exact h2
  ·exact G3 (hw p hp)
 ·rcases key z hz with rfl | ⟨p,hp,rfl⟩
  ·exact h3
  ·have:=m8 (hw p hp);show (wr p).length<=100;omega
theorem Gd {F:Fm}(hF:FOk F) (hW:Whole F) (hw:∀ p∈parts F,WOk p) (hl:(parts F).length < 20) (hc:((parts F).filter isIt).length<=12) (hne:parts F≠[]) (c:Int):
  ∃ (zs:List (Str×Option Pt)) (a:Nat),d_ [tP (parts F),.int c]=some (.tup [.str (Str.join ("; " : Str) (zs.map (·.1))),.int (a:Nat)])/\ZOk zs/\fQ (zs.map (·.2))=(a:Int):=by
 have ht:=t7 hw hl
 have hs:=uJ hw hne
 have htl:=wC hw hl
 have hsl:¬ ("; " : Str).length=0:=by decide +kernel
 generalize hll:parts F=l at *
 have hm0:0<=c % ((l.length:Int)+1):=Int.emod_nonneg _ (by omega)
 have hm1:c % ((l.length:Int)+1) < (l.length:Int)+1:=Int.emod_lt_of_pos _ (by omega)
 obtain⟨a,ha⟩:∃ a:Nat,c % ((l.length:Int)+1)=a:=⟨(c % ((l.length:Int)+1)).toNat,by omega⟩
 have ha1:a<=l.length:=by omega
 obtain⟨q,hq⟩:∃ q:Int,c / ((l.length:Int)+1)=q:=⟨_,rfl⟩
 have hcn:((l.take a).filter isIt).length<=12:=by
  have:=List.Sublist.length_le (List.Sublist.filter isIt (List.take_sublist a l))
  omega
 obtain⟨w,hbw,hlen,hns,o,htx,ho⟩:=Jh hl a (q / 2) hcn
 have hpos:(0:Int) < (l.length:Int)+1:=by omega
 have hbig:(l.length:Int)+1 < 1073741824:=by omega
 have hWl:((l.map wr).map PV.str).length=l.length:=by simp
 have c1:fG ((l.map wr).map PV.str) none (some (a:Int))=((l.take a).map wr).map .str:=by rw[qO,List.map_take,List.map_take]
 have c2:fG ((l.map wr).map PV.str) (some (a:Int)) none=((l.drop a).map wr).map .str:=by rw[wU,List.map_drop,List.map_drop]
 have c3:fG ((l.map wr).map PV.str) (some ((a:Int)+1)) none=((l.drop (a+1)).map wr).map .str:=by
  have:=wU ((l.map wr).map PV.str) (a+1)
  rw[List.map_drop,List.map_drop]
  exact_mod_cast this
 have s1:aJ 2 (b2 gQ (aN bN (aj (bV 0) aq)) (bC (.str "; "))) [some (tP l),some (.int c),none,none,none,none]=some (.nx [some (tP l),some (.int c),some (.lst ((l.map wr).map .str)),none,none,none]):=by
  generalize fP l=T,l.map wr=WS,tP l=TP,bN=MT at *
  simp[ht,hs,htl,hsl]
 have s2:aJ 3 (b2 cM (bV 1) (b2 bz (b1 lenV (bV 2)) (bC (.int 1)))) [some (tP l),some (.int c),some (.lst ((l.map wr).map .str)),none,none,none]=some (.nx [some (tP l),some (.int c),some (.lst ((l.map wr).map .str)),some (.int (a:Nat)),none,none]):=by
  generalize (l.map wr).map PV.str=WS,tP l=TP at *
  simp[hWl,hpos,ha]
 have s3:aJ 4 (b2 jt (bV 1) (b2 bz (b1 lenV (bV 2)) (bC (.int 1)))) [some (tP l),some (.int c),some (.lst ((l.map wr).map .str)),some (.int (a:Nat)),none,none]=some (.nx [some (tP l),some (.int c),some (.lst ((l.map wr).map .str)),some (.int (a:Nat)),some (.int q),none]):=by
  generalize (l.map wr).map PV.str=WS,tP l=TP at *
  simp[hWl,hpos,hbig,hq]
 have s4:aJ 5 (aN dM (aj (bV 0) (aj (bV 3) (aj (b2 jt (bV 4) (bC (.int 2))) aq)))) [some (tP l),some (.int c),some (.lst ((l.map wr).map .str)),some (.int (a:Nat)),some (.int q),none]=some (.nx [some (tP l),some (.int c),some (.lst ((l.map wr).map .str)),some (.int (a:Nat)),some (.int q),some (.str w)]):=by
  generalize (l.map wr).map PV.str=WS,tP l=TP,dM=MB at *
  simp[hbw]
 have hla:((l.take a).map wr).length=a:=by rw[List.length_map,List.length_take];omega
 subst hll
 by_cases hq2:q % 2=0
 ·have z0:=yF hw hl (a:=a) (b:=a) htx hns hlen
  obtain⟨j1,r1⟩:=p8 z0
  refine⟨_,a,?_,z0,?_⟩
  ·have hm:(((parts F).take a).map wrZ++(w,o)::((parts F).drop a).map wrZ).map (·.1)=((parts F).take a).map wr++w::((parts F).drop a).map wr:=by rw[List.map_append,List.map_cons,List.map_map,List.map_map];rfl
   rw[hm] at j1 ⊢
   have hp:=iI (((parts F).take a).map wr++w::((parts F).drop a).map wr)
   rw[List.map_append,List.map_cons] at hp
   have l2:(((parts F).drop a).map wr).length<=20:=by rw[List.length_map,List.length_drop];omega
   unfold d_
   have hb:d9 [some (tP (parts F)),some (.int c),none,none,none,none]=some (.rt (.tup [.str (Str.join ("; " : Str) (((parts F).take a).map wr++w::((parts F).drop a).map wr)),.int (a:Nat)])):=by
    unfold d9
    rw[aF s1,aF s2,aF s3,aF s4]
    generalize ((parts F).take a).map wr=AA,((parts F).drop a).map wr=DD,((parts F).map wr).map PV.str=WS,tP (parts F)=TP at *
    have g1:AA.length+1<=1000000:=by omega
    have g2:AA.length+1+DD.length<=1000000:=by omega
    have g3:AA.length+(DD.length+1)<=1000000:=by omega
    simp[hq2,c1,c2,g1,g2,g3,hp,j1]
   generalize d9=BB,tP (parts F)=TP at *
   simp[hb]
  ·have e:(((parts F).take a).map wrZ++(w,o)::((parts F).drop a).map wrZ).map (·.2)=((parts F).take a).map some++o::((parts F).drop a).map some:=by rw[List.map_append,List.map_cons,List.map_map,List.map_map];rfl
   rw[e]
   unfold fQ
   rw[De hF hW hw hl hc ha1 ho]
 ·have z0:=yF hw hl (a:=a) (b:=a+1) htx hns hlen
  obtain⟨j1,r1⟩:=p8 z0
  refine⟨_,a,?_,z0,?_⟩
  ·have hm:(((parts F).take a).map wrZ++(w,o)::((parts F).drop (a+1)).map wrZ).map (·.1)=((parts F).take a).map wr++w::((parts F).drop (a+1)).map wr:=by rw[List.map_append,List.map_cons,List.map_map,List.map_map];rfl
   rw[hm] at j1 ⊢
   have hp:=iI (((parts F).take a).map wr++w::((parts F).drop (a+1)).map wr)
   rw[List.map_append,List.map_cons] at hp
   have l2:(((parts F).drop (a+1)).map wr).length<=20:=by rw[List.length_map,List.length_drop];omega
   unfold d_
   have hb:d9 [some (tP (parts F)),some (.int c),none,none,none,none]=some (.rt (.tup [.str (Str.join ("; " : Str) (((parts F).take a).map wr++w::((parts F).drop (a+1)).map wr)),.int (a:Nat)])):=by
    unfold d9
    rw[aF s1,aF s2,aF s3,aF s4]
    generalize ((parts F).take a).map wr=AA,((parts F).drop (a+1)).map wr=DD,((parts F).map wr).map PV.str=WS,tP (parts F)=TP at *
    have g1:AA.length+1<=1000000:=by omega
    have g2:AA.length+1+DD.length<=1000000:=by omega
    have g3:AA.length+(DD.length+1)<=1000000:=by omega
    simp[hq2,c1,c3,g1,g2,g3,hp,j1]
   generalize d9=BB,tP (parts F)=TP at *
   simp[hb]
  ·have e:(((parts F).take a).map wrZ++(w,o)::((parts F).drop (a+1)).map wrZ).map (·.2)=((parts F).take a).map some++o::((parts F).drop (a+1)).map some:=by rw[List.map_append,List.map_cons,List.map_map,List.map_map];rfl
   rw[e]
   unfold fQ
   rw[De hF hW hw hl hc ha1 ho]
end My
namespace My
open PySem L2 MR
theorem Mh {W:List Str}{x9:Str}{FP RP:PV}(hN:W.length<=11) (hx:km ((W.length:Int)+1)=some x9) (hx2:x9.length<=30)
  (hj:∀ A B:List Str,(∀ v∈A,v.length<=40)->(∀ v∈B,v.length<=40)->A.length<=8->B.length<=8->JoinOk ("; " : Str) (A++(W++B))=true):
  (aG (aJ 3 (aO (aj (bI (aj (b2 bQ (bC (.str "; ")) (b2 a_ (aO (aj (bC (.str "(")) aq)) (bV 2))) (aj (b2 bz (b1 lenV (bV 2)) (bC (.int 1))) aq))) (aj (bI (aj (b2 bQ (bC (.str "; ")) (b2 a_ (bV 2) (aO (aj (bC (.str "(")) aq)))) (aj (b2 bz (b1 lenV (bV 2)) (bC (.int 1))) aq))) aq)))) (aG (cV dU 3 (bI (aj (b2 bQ (bC (.str "; ")) (b2 a_ (bV 2) (aO (aj (bC (.str "(")) (aj (bC (.str ") 1 2")) aq))))) (aj (b2 bz (b1 lenV (bV 2)) (bC (.int 1))) aq)))) (aG (cV dU 3 (bI (aj (b2 bQ (bC (.str "; ")) (b2 a_ (bV 2) (aO (aj (bC (.str "(")) (aj (bC (.str "(")) aq))))) (aj (b2 bz (b1 lenV (bV 2)) (bC (.int 1))) aq)))) (aG (cV dU 3 (bI (aj (b2 bQ (bC (.str "; ")) (b2 a_ (bV 2) (aO (aj (bC (.str ") 1 2")) aq)))) (aj (b1 lenV (bV 2)) aq)))) (aG (cV dU 3 (bI (aj (b2 bQ (bC (.str "; ")) (b2 a_ (b2 a_ (aO (aj (bC (.str "(")) aq)) (bV 2)) (aO (aj (bC (.str ") 1 2")) (aj (bC (.str ") 1 2")) aq))))) (aj (b2 bz (b1 lenV (bV 2)) (bC (.int 2))) aq)))) (aG (cV dU 3 (bI (aj (b2 bQ (bC (.str "; ")) (b2 a_ (b2 a_ (aO (aj (bC (.str "(")) aq)) (bV 2)) (aO (dB [") 1 2", "(", "x a", ") 1 1"])))) (aj (b2 bz (b1 lenV (bV 2)) (bC (.int 2))) aq)))) (aG (cV dU 3 (bI (aj (b2 bQ (bC (.str "; ")) (b2 a_ (b2 a_ (aO (aj (bC (.str "(")) aq)) (bV 2)) (aO (aj (bC (.str ") 0 2")) (aj (bC (.str "as 1")) aq))))) (aj (b2 bz (b1 lenV (bV 2)) (bC (.int 2))) aq)))) (aG (cV dU 3 (bI (aj (b2 bQ (bC (.str "; ")) (b2 a_ (bV 2) (aO (aj (bC (.str "as 1")) (aj (b2 bz (bC (.str "as ")) (b1 jM (b2 bz (b1 lenV (bV 2)) (bC (.int 1))))) aq))))) (aj (b2 bz (b1 lenV (bV 2)) (bC (.int 1))) aq)))) (aQ (bV 3)))))))))) [some FP,some RP,some (.lst (W.map .str)),none]=
  some (.rt (.lst [.tup [.str (Str.join ("; " : Str) (("(" : Str)::W)),.int ((W.length:Int)+1)],.tup [.str (Str.join ("; " : Str) (W++[("(" : Str)])),.int ((W.length:Int)+1)],.tup [.str (Str.join ("; " : Str) (W++[("(" : Str), ") 1 2"])),.int ((W.length:Int)+1)],.tup [.str (Str.join ("; " : Str) (W++[("(" : Str), "("])),.int ((W.length:Int)+1)],
   .tup [.str (Str.join ("; " : Str) (W++[(") 1 2" : Str)])),.int (W.length:Int)],.tup [.str (Str.join ("; " : Str) (("(" : Str)::(W++[(") 1 2" : Str), ") 1 2"]))),.int ((W.length:Int)+2)],.tup [.str (Str.join ("; " : Str) (("(" : Str)::(W++[(") 1 2" : Str), "(", "x a", ") 1 1"]))),.int ((W.length:Int)+2)],.tup [.str (Str.join ("; " : Str) (("(" : Str)::(W++[(") 0 2" : Str), "as 1"]))),.int ((W.length:Int)+2)],
   .tup [.str (Str.join ("; " : Str) (W++[("as 1" : Str),("as " : Str)++x9])),.int ((W.length:Int)+1)]])):=by
 have g:∀ k,k<=20->W.length+k<=1000000:=λk hk=>by omega
 have g':∀ k,k<=20->k+W.length<=1000000:=λk hk=>by omega
 have k1:1+W.length+2<=1000000:=by omega
 have k2:1+W.length+4<=1000000:=by omega
 have k3:=g 1 (by decide)
 have k4:=g 2 (by decide)
 have k5:=g' 1 (by decide)
 have k6:=g 0 (by decide)
 have has3:("as " : Str).length=3:=by decide +kernel
 have hal:("as " : Str).length+x9.length<=1000000:=by omega
 have q (V:List Str):strsP (V.map PV.str)=some V:=iI V
 have p0:strsP (PV.str "(" :: W.map PV.str)=some (("(" : Str)::W):=q (("(" : Str)::W)
 have p1:∀ V:List Str,strsP (W.map PV.str++V.map PV.str)=some (W++V):=λV=>by rw[← List.map_append];exact q _
 have p1a:=p1 [("(" : Str)]
 have p1b:=p1 [("(" : Str), ") 1 2"]
 have p1c:=p1 [("(" : Str), "("]
 have p1d:=p1 [(") 1 2" : Str)]
 have p1e:=p1 [("as 1" : Str),("as " : Str)++x9]
 have p3:=q W
 have p3a:=p1 [(") 1 2" : Str), ") 1 2"]
 have p3b:=p1 [(") 1 2" : Str), "(", "x a", ") 1 1"]
 have p3c:=p1 [(") 0 2" : Str), "as 1"]
 have p2:∀ V:List Str,strsP (PV.str "(" :: (W.map PV.str++V.map PV.str))=some (("(" : Str)::(W++V)):=λV=>by rw[← List.map_append];exact q (("(" : Str)::(W++V))
 have p2a:=p2 [(") 1 2" : Str), ") 1 2"]
 have p2b:=p2 [(") 1 2" : Str), "(", "x a", ") 1 1"]
 have p2c:=p2 [(") 0 2" : Str), "as 1"]
 have sm:∀ v∈([("(" : Str), ") 1 2", "x a", ") 1 1", ") 0 2", "as 1"]:List Str),v.length<=40:=by decide +kernel
 have sx:(("as " : Str)++x9).length<=40:=by rw[ud];omega
 have j0:=hj [("(" : Str)] [] (λv hv=>sm v (by simp at hv;simp[hv])) (λv hv=>by cases hv) (by decide) (by decide)
 have jj:∀ B:List Str,(∀ v∈B,v.length<=40)->B.length<=8->JoinOk ("; " : Str) (W++B)=true:=λB h1 h2=>hj [] B (λv hv=>by cases hv) h1 (by decide) h2
 have jk:∀ B:List Str,(∀ v∈B,v.length<=40)->B.length<=8->JoinOk ("; " : Str) (("(" : Str)::(W++B))=true:=λB h1 h2=>hj [("(" : Str)] B (λv hv=>sm v (by simp at hv;simp[hv])) h1 (by decide) h2
 have j1a:=jj [("(" : Str)] (λv hv=>sm v (by simp at hv;simp[hv])) (by decide)
 have j1b:=jj [("(" : Str), ") 1 2"] (λv hv=>sm v (by simp at hv;rcases hv with h | h <;> simp[h])) (by decide)
 have j1c:=jj [("(" : Str), "("] (λv hv=>sm v (by simp at hv;simp[hv])) (by decide)
 have j1d:=jj [(") 1 2" : Str)] (λv hv=>sm v (by simp at hv;simp[hv])) (by decide)
 have j1e:=jj [("as 1" : Str),("as " : Str)++x9] (λv hv=>by
  simp only[List.mem_cons,List.not_mem_nil,or_false] at hv
  rcases hv with rfl | rfl
  ·exact sm _ (by simp)
  ·exact sx) (by simp)
 have j2a:=jk [(") 1 2" : Str), ") 1 2"] (λv hv=>sm v (by simp at hv;simp[hv])) (by decide)
 have j2b:=jk [(") 1 2" : Str), "(", "x a", ") 1 1"] (λv hv=>sm v (by simp at hv;rcases hv with h | h | h | h <;> simp[h])) (by decide)
 have j2c:=jk [(") 0 2" : Str), "as 1"] (λv hv=>sm v (by simp at hv;rcases hv with h | h <;> simp[h])) (by decide)
 simp only[List.append_nil,List.singleton_append] at j0
 simp only[List.map_cons,List.map_nil] at p1a p1b p1c p1d p1e p3a p3b p3c
 clear hj jj jk p1 p2 q sm
 generalize hNN:(W.length:Int)=N,hWP:W.map PV.str=WP at *
 have hWl:WP.length=W.length:=by rw[← hWP];simp
 have hWl':(WP.length:Int)=N:=by rw[hWl,hNN]
 have m1:WP.length+1<=1000000:=by omega
 have m2:WP.length+2<=1000000:=by omega
 have m3:1+WP.length<=1000000:=by omega
 have m4:1+WP.length+2<=1000000:=by omega
 have m5:1+WP.length+4<=1000000:=by omega
 have m6:WP.length+1+2<=1000000:=by omega
 have m7:WP.length+1+4<=1000000:=by omega
 simp[hWl',m1,m2,m3,m4,m5,m6,m7,p0,p1a,p1b,p1c,p1d,p1e,p3,p3a,p3b,p3c,j0,j1a,j1b,j1c,j1d,j1e,j2a,j2b,j2c,hx,hal]
end My
namespace My
open PySem L2 MR
def fJ:Pt->Bool
 | .rw _ _=>true
 | _=>false
def Rows (l:List Pt):Prop:=∀ p∈l,fJ p=true
theorem rows0:∀ (R A:List Pt) (rest:List (Option Pt)) (k:Nat),Rows R->A.length+R.length<=12->rdF (R.map some++rest) k (.f0 A)=rdF rest (k+R.length) (.f0 (A++R))
 | [],A,rest,k,_,_=>by simp
 | p::R,A,rest,k,h,hl=>by
  have hp:=h p List.mem_cons_self
  cases p with
  | op=>cases hp
  | cl lo hi=>cases hp
  | as r=>cases hp
  | rw n b=>
   have hl':A.length+(R.length+1)<=12:=hl
   have hg:goB (.f0 A) (.rw n b)=true:=decide_eq_true (by show A.length+0+0 < 12;omega)
   have ih:=rows0 R (A++[.rw n b]) rest (k+1) (λq hq=>h q (List.mem_cons_of_mem _ hq)) (by simp;omega)
   simp only[List.map_cons,List.cons_append,rdF]
   rw[if_pos hg]
   show rdF (R.map some++rest) (k+1) (.f0 (A++[.rw n b]))=_
   rw[ih,List.append_assoc,List.length_cons,show k+1+R.length=k+(R.length+1) by omega]
   rfl
theorem G4:∀ (R A B:List Pt) (rest:List (Option Pt)) (k:Nat),Rows R->A.length+B.length+R.length<=12->rdF (R.map some++rest) k (.f1 A B)=rdF rest (k+R.length) (.f1 A (B++R))
 | [],A,B,rest,k,_,_=>by simp
 | p::R,A,B,rest,k,h,hl=>by
  have hp:=h p List.mem_cons_self
  cases p with
  | op=>cases hp
  | cl lo hi=>cases hp
  | as r=>cases hp
  | rw n b=>
   have hl':A.length+B.length+(R.length+1)<=12:=hl
   have hg:goB (.f1 A B) (.rw n b)=true:=decide_eq_true (by show A.length+B.length+0 < 12;omega)
   have ih:=G4 R A (B++[.rw n b]) rest (k+1) (λq hq=>h q (List.mem_cons_of_mem _ hq)) (by simp;omega)
   simp only[List.map_cons,List.cons_append,rdF]
   rw[if_pos hg]
   show rdF (R.map some++rest) (k+1) (.f1 A (B++[.rw n b]))=_
   rw[ih,List.append_assoc,List.length_cons,show k+1+R.length=k+(R.length+1) by omega]
   rfl
theorem nZ {q:Pt}{f:Fm}(h:goB f q=false) (os:List (Option Pt)) (k:Nat):rdF (some q::os) k f=.inr k:=by
 simp only[rdF]
 rw[if_neg (by rw[h];exact Bool.false_ne_true)]
theorem wW {q:Pt}{f:Fm}(h:goB f q=true) (os:List (Option Pt)) (k:Nat):rdF (some q::os) k f=rdF os (k+1) (dN f q):=by
 simp only[rdF]
 rw[if_pos h]
theorem Ge {R X:List Pt}(h:Rows R) (hn:R≠[]):asB (.f0 (R++X)) 1=true:=by
 cases R with
 | nil=>exact absurd rfl hn
 | cons p R=>
  have hp:=h p List.mem_cons_self
  cases p with
  | op=>cases hp
  | cl lo hi=>cases hp
  | as r=>cases hp
  | rw n b=>
   show ((0+1,Pt.rw n b)::bx 1 (R++X)++[]++[]).any (fH 1)=true
   rw[List.append_nil,List.append_nil,List.any_cons]
   have:fH 1 (0+1,Pt.rw n b)=true:=by
    unfold fH
    rw[show hdS (Pt.rw n b)=("row" : Str) from rfl]
    simp
   rw[this]
   rfl
theorem wX:∀ (A B:List Pt) (n:Nat),bx n (A++B)=bx n A++bx (n+A.length) B
 | [],B,n=>rfl
 | p::A,B,n=>by
  show (n+1,p)::bx (n+1) (A++B)=(n+1,p)::(bx (n+1) A++bx (n+(A.length+1)) B)
  rw[wX A B (n+1),show n+1+A.length=n+(A.length+1) by omega]
theorem Jj {A:List Pt}{r:Nat}:asB (.f0 (A++[.as r])) (A.length+1)=false:=by
 show (bx 0 (A++[Pt.as r])++[]++[]).any (fH (A.length+1))=false
 rw[List.append_nil,List.append_nil,wX,List.any_append,Bool.or_eq_false_iff]
 constructor
 ·rw[List.any_eq_false]
  intro z hz
  have:=k_ hz
  unfold fH
  rw[decide_eq_false (by omega)]
  simp
 ·show (fH (A.length+1) (0+A.length+1,Pt.as r)||false)=false
  unfold fH
  have:decide (hdS (Pt.as r)=("row" : Str))=false:=decide_eq_false e6
  rw[this]
  simp
def nine (R:List Pt):List (List Pt×Int):=[(.op::R,(R.length:Int)+1),(R++[.op],(R.length:Int)+1),(R++[.op,.cl 1 2],(R.length:Int)+1),(R++[.op,.op],(R.length:Int)+1),
 (R++[.cl 1 2],(R.length:Int)),(.op::(R++[.cl 1 2,.cl 1 2]),(R.length:Int)+2),(.op::(R++[.cl 1 2,.op,.rw "x" (some "a"),.cl 1 1]),(R.length:Int)+2),(.op::(R++[.cl 0 2,.as 1]),(R.length:Int)+2),
 (R++[.as 1,.as (R.length+1)],(R.length:Int)+1)]
theorem Gf {R:List Pt}(h:Rows R) (hn:R≠[]) (hl:R.length<=11):∀ z∈nine R,fQ (z.1.map some)=z.2:=by
 have a0:=λ(rest:List (Option Pt))=>rows0 R [] rest 0 h (by simp;omega)
 have a1:=λ(rest:List (Option Pt))=>G4 R [] [] rest 1 h (by simp;omega)
 simp only[List.nil_append,Nat.zero_add] at a0 a1
 have o0:∀ (f:List Pt) (os:List (Option Pt)) (k:Nat),rdF (some .op::os) k (.f0 f)=rdF os (k+1) (.f1 f []):=λf os k=>wW (f:=.f0 f) (q:=.op) rfl os k
 have hR:R.isEmpty=false:=by cases R with | nil=>exact absurd rfl hn | cons a b=>rfl
 have c1:∀ (lo hi:Nat) (os:List (Option Pt)) (k:Nat),rdF (some (.cl lo hi)::os) k (.f1 [] R)=rdF os (k+1) (.f2 [] R lo hi []):=λlo hi os k=>wW (f:=.f1 [] R) (q:=.cl lo hi) (by show (!R.isEmpty)=true;rw[hR];rfl) os k
 intro z hz
 simp only[nine,List.mem_cons,List.not_mem_nil,or_false] at hz
 rcases hz with rfl | rfl | rfl | rfl | rfl | rfl | rfl | rfl | rfl
 ·have e:=a1 []
  rw[List.append_nil] at e
  unfold fQ
  simp only[List.map_cons]
  rw[o0,e]
  simp[rdF,nY]
 ·unfold fQ
  simp only[List.map_append,List.map_cons,List.map_nil]
  rw[a0,o0]
  simp[rdF,nY]
 ·unfold fQ
  simp only[List.map_append,List.map_cons,List.map_nil]
  rw[a0,o0,nZ (f:=.f1 R []) (q:=.cl 1 2) rfl]
  simp
 ·unfold fQ
  simp only[List.map_append,List.map_cons,List.map_nil]
  rw[a0,o0,nZ (f:=.f1 R []) (q:=.op) rfl]
  simp
 ·unfold fQ
  simp only[List.map_append,List.map_cons,List.map_nil]
  rw[a0,nZ (f:=.f0 R) (q:=.cl 1 2) rfl]
 ·unfold fQ
  simp only[List.map_append,List.map_cons,List.map_nil]
  rw[o0,a1,c1,nZ (f:=.f2 [] R 1 2 []) (q:=.cl 1 2) rfl]
  simp;omega
 ·unfold fQ
  simp only[List.map_append,List.map_cons,List.map_nil]
  rw[o0,a1,c1,nZ (f:=.f2 [] R 1 2 []) (q:=.op) rfl]
  simp;omega
 ·unfold fQ
  simp only[List.map_append,List.map_cons,List.map_nil]
  rw[o0,a1,c1,nZ (f:=.f2 [] R 0 2 []) (q:=.as 1) (by show (decide _&&([]:List (Nat×Pt)).any _)=false;rw[List.any_nil,Bool.and_false])]
  simp;omega
 ·unfold fQ
  simp only[List.map_append,List.map_cons,List.map_nil]
  have g1:goB (.f0 R) (.as 1)=true:=by
   show (decide (R.length+0+0 < 12)&&asB (.f0 R) 1)=true
   have:=Ge (X:=[]) h hn
   rw[List.append_nil] at this
   rw[this,decide_eq_true (by omega)]
   rfl
  have g2:goB (.f0 (R++[.as 1])) (.as (R.length+1))=false:=by
   show (decide _&&asB (.f0 (R++[.as 1])) (R.length+1))=false
   rw[Jj,Bool.and_false]
  rw[a0,wW g1,show dN (.f0 R) (.as 1)=.f0 (R++[.as 1]) from rfl,nZ g2]
  simp
theorem Mi {Q:List Pt}(h:∀ p∈Q,WOk p) (hn:Q≠[]) (hl:Q.length<=100):ZOk (Q.map wrZ):=by
 refine⟨λz hz=>?_,λz hz=>?_,λz hz=>?_,by simpa using hn,by simpa using hl⟩
 all_goals obtain⟨p,hp,rfl⟩:=List.mem_map.mp hz
 ·exact GZ (h p hp)
 ·exact G3 (h p hp)
 ·have:=m8 (h p hp);show (wr p).length<=100;omega
theorem p_ {Q:List Pt}(h:∀ p∈Q,WOk p) (hn:Q≠[]) (hl:Q.length<=100):JoinOk ("; " : Str) (Q.map wr)=true/\aL [.str (Str.join ("; " : Str) (Q.map wr))]=some (.int (fQ (Q.map some))):=by
 have:=p8 (Mi h hn hl)
 rw[List.map_map,List.map_map] at this
 exact this
end My
namespace My
open PySem L2 MR
theorem Pq (x:Str):inP (.str x) (.tup [.str "(",.str ")",.str "as"])=some (decide (x=("(" : Str))||(decide (x=(")" : Str))||decide (x=("as" : Str)))):=by
 have h:inP (.str x) (.tup [.str "(",.str ")",.str "as"])=some ([PV.str "(",.str ")",.str "as"].any λy=>eqF y (.str x)):=by
  show (if cN (.str x)=true/\[PV.str "(",.str ")",.str "as"].all cN=true then some ([PV.str "(",.str ")",.str "as"].any λy=>eqF y (.str x)) else inD (.str x) [PV.str "(",.str ")",.str "as"])=_
  rw[if_pos ⟨rfl,rfl⟩]
 rw[h]
 simp only[List.any_cons,List.any_nil,Bool.or_false]
 have a:∀ y:Str,eqF (.str y) (.str x)=decide (x=y):=λy=>by
  by_cases q:x=y
  ·simp[eqF,q]
  ·have q':¬ y=x:=λz=>q z.symm
   simp[eqF,q,q']
 rw[a,a,a]
theorem N7 (p:Pt):(!(decide (hdS p=("(" : Str))||(decide (hdS p=(")" : Str))||decide (hdS p=("as" : Str)))))=fJ p:=by
 cases p with
 | op=>decide +kernel
 | cl lo hi=>
  show (!(decide ((")" : Str)=("(" : Str))||(decide ((")" : Str)=(")" : Str))||decide ((")" : Str)=("as" : Str)))))=false
  simp
 | as r=>
  show (!(decide (("as" : Str)=("(" : Str))||(decide (("as" : Str)=(")" : Str))||decide (("as" : Str)=("as" : Str)))))=false
  simp
 | rw n b=>
  have z1:decide (hdS (.rw n b)=("(" : Str))=false:=decide_eq_false e4
  have z2:decide (hdS (.rw n b)=(")" : Str))=false:=decide_eq_false e5
  have z3:decide (hdS (.rw n b)=("as" : Str))=false:=decide_eq_false e8
  rw[z1,z2,z3]
  rfl
theorem Gg (l:List Pt):cX [none] (gN 0) eH eG (l.map ptP)=some ((l.filter fJ).map ptP):=
 gk ptP ptP fJ l λp _=>⟨[some (ptP p)],rfl,by
  have h0:=ix0 p
  have h2:=Pq (hdS p)
  have h3:=N7 p
  generalize ptP p=P,hdS p=D at *
  simp[eH,-ixP,h0,h2]
  rw[← h3]
  simp,λ_=>by simp[eG]⟩
theorem Jk {F:Fm}(hF:FOk F) (hW:Whole F):∃ p∈parts F,fJ p=true:=by
 have key:∀ (N:List Pt) (a b lo:Nat),Its N->AsOk N a b lo->N≠[]->∃ p∈N,fJ p=true:=λN a b lo h1 h2 h3=>by
  cases N with
  | nil=>exact absurd rfl h3
  | cons p N=>
   refine⟨p,List.mem_cons_self,?_⟩
   have hp:=h1 p List.mem_cons_self
   cases p with
   | op=>cases hp
   | cl lo hi=>cases hp
   | as r=>obtain⟨k1,k2,_⟩:=h2 0 r rfl;omega
   | rw n b=>rfl
 cases hW with
 | @w0 A hA=>exact key A _ _ _ hF.1 hF.2 hA
 | @w2 A B lo hi C=>
  obtain⟨h1,h2,h3,h4,_,_,_,h8⟩:=hF
  obtain⟨p,hp,hr⟩:=key (A++B++C) _ _ _ (λq hq=>by
   rcases List.mem_append.mp hq with hq | hq
   ·rcases List.mem_append.mp hq with hq | hq
    ·exact h1 q hq
    ·exact h2 q hq
   ·exact h3 q hq) h4 (by simp[h8])
  refine⟨p,?_,hr⟩
  show p∈A++.op::(B++.cl lo hi::C)
  simp only[List.mem_append,List.mem_cons] at hp ⊢
  rcases hp with (z | z) | z
  ·exact .inl z
  ·exact .inr (.inr (.inl z))
  ·exact .inr (.inr (.inr (.inr z)))
def l_ (z:List Pt×Int):PV:=.tup [.str (Str.join ("; " : Str) (z.1.map wr)),.int z.2]
theorem Mj:wr .op=("(" : Str)/\wr (.cl 1 2)=(") 1 2" : Str)/\wr (.cl 1 1)=(") 1 1" : Str)/\wr (.cl 0 2)=(") 0 2" : Str)/\wr (.as 1)=("as 1" : Str)/\wr (.rw "x" (some "a"))=("x a" : Str):=by decide +kernel
theorem N8 {n:Nat}:("as " : Str)++nS n=wr (.as n):=by
 show _=("as" : Str)++(" " : Str)++nS n
 have:("as " : Str)=("as" : Str)++(" " : Str):=by decide +kernel
 rw[this]
theorem Gh {R:List Pt}(hw:∀ p∈R,WOk p) (hl:R.length<=11):∀ z∈nine R,(∀ p∈z.1,WOk p)/\z.1≠[]/\z.1.length<=100:=by
 have k0:WOk .op:=trivial
 have k1:WOk (.cl 1 2):=⟨by decide,by decide,by decide⟩
 have k2:WOk (.cl 1 1):=⟨by decide,by decide,by decide⟩
 have k3:WOk (.cl 0 2):=⟨by decide,by decide,by decide⟩
 have k4:WOk (.as 1):=⟨by decide,by decide⟩
 have k5:WOk (.rw "x" (some "a")):=⟨by decide +kernel,λx hx=>by cases hx;decide +kernel⟩
 have k6:WOk (.as (R.length+1)):=⟨by omega,by omega⟩
 intro z hz
 simp only[nine,List.mem_cons,List.not_mem_nil,or_false] at hz
 rcases hz with rfl | rfl | rfl | rfl | rfl | rfl | rfl | rfl | rfl
 all_goals
  refine⟨λp hp=>?_,by simp,by simp;omega⟩
  simp only[List.mem_append,List.mem_cons,List.not_mem_nil,or_false] at hp
  first
  | (rcases hp with rfl | hp <;> first | assumption | exact hw _ hp)
  | (rcases hp with hp | rfl <;> first | assumption | exact hw _ hp)
  | (rcases hp with hp | rfl | rfl <;> first | assumption | exact hw _ hp)
  | (rcases hp with rfl | hp | rfl | rfl <;> first | assumption | exact hw _ hp)
  | (rcases hp with rfl | hp | rfl | rfl | rfl | rfl <;> first | assumption | exact hw _ hp)
theorem zR {F:Fm}(hF:FOk F) (hW:Whole F) (hw:∀ p∈parts F,WOk p) (hl:(parts F).length < 20):
  ∃ R:List Pt,(∀ p∈R,WOk p)/\Rows R/\R≠[]/\R.length<=11/\dC [tP (parts F)]=some (.lst ((nine R).map l_)):=by
 obtain⟨p0,hp0,hr0⟩:=Jk hF hW
 generalize parts F=l at *
 have hm:∀ p∈(l.filter fJ).take 11,p∈l/\fJ p=true:=λp hp=>List.mem_filter.mp (List.mem_of_mem_take hp)
 have hRne:(l.filter fJ).take 11≠[]:=λz=>by
  have:p0∈l.filter fJ:=List.mem_filter.mpr ⟨hp0,hr0⟩
  cases q:l.filter fJ with
  | nil=>rw[q] at this;cases this
  | cons a b=>rw[q] at z;cases z
 have hRl:((l.filter fJ).take 11).length<=11:=by rw[List.length_take];omega
 have cm:=Gg l
 have c1:fG ((l.filter fJ).map ptP) none (some 11)=((l.filter fJ).take 11).map ptP:=by
  have:=qO ((l.filter fJ).map ptP) 11
  rw[List.map_take]
  exact this
 have hfl:(l.filter fJ).length<=1000000:=by have:=List.length_filter_le fJ l;omega
 have hll:l.length<=1000000:=by omega
 refine⟨_,λp hp=>hw p (hm p hp).1,λp hp=>(hm p hp).2,hRne,hRl,?_⟩
 have hwR:∀ p∈(l.filter fJ).take 11,WOk p:=λp hp=>hw p (hm p hp).1
 have ht:tP l=.tup (l.map ptP):=rfl
 have s1:aJ 1 (bSl (bY [none] (iV (bV 0)) (gN 0) eH eG) oN (oS (bC (.int 11)))) [some (tP l),none,none,none]=some (.nx [some (tP l),some (.lst (((l.filter fJ).take 11).map ptP)),none,none]):=by
  rw[ht]
  generalize eH=cc,eG=ce,(l.filter fJ).take 11=L2,hLF:(l.filter fJ).map ptP=LF at *
  have hLl:LF.length<=1000000:=by rw[← hLF,List.length_map];exact hfl
  generalize hLP:l.map ptP=LP at *
  have hPl:LP.length<=1000000:=by rw[← hLP,List.length_map];exact hll
  simp[c1,cm,hLl,hPl]
 generalize (l.filter fJ).take 11=R at *
 have tx:=t7 hwR (by omega)
 have sp:=uJ hwR hRne
 have tl:=wC hwR (by omega)
 have hsl:¬ ("; " : Str).length=0:=by decide +kernel
 have htR:tP R=.tup (R.map ptP):=rfl
 have s2:aJ 2 (b2 gQ (aN bN (aj (b1 mR (bV 1)) aq)) (bC (.str "; "))) [some (tP l),some (.lst (R.map ptP)),none,none]=some (.nx [some (tP l),some (.lst (R.map ptP)),some (.lst ((R.map wr).map .str)),none]):=by
  rw[htR] at tx
  generalize tP l=TP,bN=MT,R.map wr=WS,hRP:R.map ptP=RP at *
  have hRPl:RP.length<=1000000:=by rw[← hRP,List.length_map];omega
  generalize fP R=TX' at *
  simp[tx,sp,tl,hsl,hRPl]
 obtain⟨a1,a2,a3,a4,a5⟩:=jf (R.length+1) (by omega)
 have ug:=Mh (W:=R.map wr) (x9:=nS (R.length+1)) (FP:=tP l) (RP:=.lst (R.map ptP)) (by rw[List.length_map];exact hRl) (by rw[List.length_map];exact_mod_cast a1) (by omega) (λA B hA hB h1 h2=>by
  have hs:("; " : Str).length=2:=by decide +kernel
  have:=m9 (k:=40) (ts:=A++(R.map wr++B)) (λt ht=>by
   rcases List.mem_append.mp ht with ht | ht
   ·exact hA t ht
   ·rcases List.mem_append.mp ht with ht | ht
    ·obtain⟨p,hp,rfl⟩:=List.mem_map.mp ht
     have:=m8 (hwR p hp);omega
    ·exact hB t ht)
  have hln:(A++(R.map wr++B)).length<=27:=by simp;omega
  exact joinOk_of (by rw[hs];omega))
 have hb:il [some (tP l),none,none,none]=some (.rt (.lst ((nine R).map l_))):=by
  unfold il
  rw[aF s1,aF s2]
  refine ug.trans ?_
  obtain⟨w0,w1,w2,w3,w4,w5⟩:=Mj
  rw[N8,List.length_map]
  simp only[nine,l_,List.map_cons,List.map_nil,List.map_append,w0,w1,w2,w3,w4,w5]
 unfold dC
 generalize il=BB,tP l=TP at *
 simp[hb]
theorem wY {R:List Pt}(hw:∀ p∈R,WOk p) (hr:Rows R) (hn:R≠[]) (hl:R.length<=11):∀ z∈nine R,aL [.str (Str.join ("; " : Str) (z.1.map wr))]=some (.int z.2):=λz hz=>by
 obtain⟨k1,k2,k3⟩:=Gh hw hl z hz
 rw[(p_ k1 k2 k3).2,Gf hr hn hl z hz]
end My
namespace My
open PySem L2 MR
theorem wZ (xs:List PV) (a b:Nat):fG xs (some (a:Int)) (some (b:Int))=(xs.drop a).take (b - a):=by
 unfold fG
 rw[HT.sIx_nat,HT.sIx_nat]
 by_cases h:a<=xs.length
 ·rw[Nat.min_eq_left h]
  by_cases h2:b<=xs.length
  ·rw[Nat.min_eq_left h2]
  ·rw[Nat.min_eq_right (by omega),List.take_of_length_le (by simp),List.take_of_length_le (by simp;omega)]
 ·rw[show min a xs.length=xs.length by omega,List.drop_length,List.drop_eq_nil_of_le (by omega)]
  simp
theorem qP (ns:List Int) (k:Nat):∃ n:Int,aX [.frz (ns.map PV.int),.int (k:Nat)]=some (.int n):=by
 by_cases h:k < ns.length
 ·refine⟨ns[k],?_⟩
  have h1:(k:Int) < (ns.length:Int):=by omega
  have hat:atI (ns.map PV.int) (k:Int)=some (.int ns[k]):=gR (by rw[List.getElem?_map,List.getElem?_eq_getElem h];rfl)
  have hl:((ns.map PV.int).length:Int)=(ns.length:Int):=by simp
  generalize ns.map PV.int=NP at *
  simp[aX,jG,hl,h1,hat]
 ·refine⟨0,?_⟩
  have h1:¬ (k:Int) < (ns.length:Int):=by omega
  have hl:((ns.map PV.int).length:Int)=(ns.length:Int):=by simp
  generalize ns.map PV.int=NP at *
  simp[aX,jG,hl,h1]
theorem Ml {F:Fm}(hF:FOk F) (hW:Whole F) (hp:∀ p∈parts F,PtOk p) (hc:((parts F).filter isIt).length<=12):∀ p∈parts F,WOk p:=by
 have hrow:∀ n b,(.rw n b)∈parts F->WOk (.rw n b):=λn b h=>(hp _ h).nm n b rfl
 cases hW with
 | @w0 A hA=>
  obtain⟨h1,h2⟩:=hF
  have hc:(A.filter isIt).length<=12:=hc
  rw[iZ h1] at hc
  intro p hp'
  have hp':p∈A:=hp'
  cases p with
  | op=>trivial
  | cl lo hi=>have:=h1 _ hp';cases this
  | as r=>
   obtain⟨i,hi⟩:=List.getElem?_of_mem hp'
   obtain⟨k1,k2,_⟩:=h2 i r hi
   have:=(List.getElem?_eq_some_iff.mp hi).1
   exact⟨k1,by omega⟩
  | rw n b=>exact hrow n b hp'
 | @w2 A B lo hi C=>
  obtain⟨h1,h2,h3,h4,h5,h6,h7,h8⟩:=hF
  have hc:((A++.op::(B++.cl lo hi::C)).filter isIt).length<=12:=hc
  rw[wN h1 h2 h3] at hc
  intro p hp'
  have hp'':p∈A++.op::(B++.cl lo hi::C):=hp'
  cases p with
  | op=>trivial
  | cl lo' hi'=>
   simp only[List.mem_append,List.mem_cons] at hp''
   rcases hp'' with z | z | z | z | z
   ·have:=h1 _ z;cases this
   ·cases z
   ·have:=h2 _ z;cases this
   ·cases z;exact⟨h5,h6,h7⟩
   ·have:=h3 _ z;cases this
  | as r=>
   have hm:(.as r)∈A++B++C:=by
    simp only[List.mem_append,List.mem_cons,reduceCtorEq,false_or] at hp'' ⊢
    rcases hp'' with z | z | z
    ·exact .inl (.inl z)
    ·exact .inl (.inr z)
    ·exact .inr z
   obtain⟨i,hi'⟩:=List.getElem?_of_mem hm
   obtain⟨k1,k2,_⟩:=h4 i r hi'
   have:=(List.getElem?_eq_some_iff.mp hi').1
   exact⟨k1,by omega⟩
  | rw n b=>exact hrow n b hp'
def four:List Pt:=[.rw "x" (some "a"),.as 1,.rw "x" none,.rw "b" (some "B")]
def fk (m k:Nat):Pt:=four.getD ((m+k) % 4) .op
def cyc (n m:Nat):List Pt:=.rw "x" (some "a")::(List.range n).map (fk m)
theorem Jl:four.map wr=[("x a" : Str), "as 1", "x -", "b B"]:=by decide +kernel
theorem Mm (m k:Nat):fk m k∈four:=by
 have h:(m+k) % 4 < four.length:=Nat.mod_lt _ (by decide)
 unfold fk
 rw[List.getD_eq_getElem?_getD,List.getElem?_eq_getElem h,Option.getD_some]
 exact List.getElem_mem h
theorem yG:∀ p∈four,WOk p:=by
 intro p hp
 simp only[four,List.mem_cons,List.not_mem_nil,or_false] at hp
 rcases hp with rfl | rfl | rfl | rfl
 ·exact⟨by decide +kernel,λx hx=>by cases hx;decide +kernel⟩
 ·exact⟨by decide,by decide⟩
 ·exact⟨by decide +kernel,λx hx=>by cases hx⟩
 ·exact⟨by decide +kernel,λx hx=>by cases hx;decide +kernel⟩
theorem Df (n m:Nat):∀ p∈cyc n m,WOk p:=λp hp=>by
 rcases List.mem_cons.mp hp with rfl | hp
 ·exact yG _ List.mem_cons_self
 ·obtain⟨k,_,rfl⟩:=List.mem_map.mp hp
  exact yG _ (Mm m k)
theorem yH (n m:Nat):(cyc n m).length=n+1:=by simp[cyc]
theorem N_:∀ m,m < 4->fQ ((cyc 12 m).map some)=12:=by decide +kernel
theorem Oa:∀ m,m < 4->fQ ((cyc 11 m).map some)=-1:=by decide +kernel
theorem w6 {ce:MR.Env->Option PV}(hce:ce=b2 ixP (bV 1) (b2 cM (b2 bz (bV 2) (bV 0)) (bC (.int 4)))) (n m:Nat):cX [none,some (.lst (([("x a" : Str), "as 1", "x -", "b B"]:List Str).map .str)),some (.int (m:Nat))] (gN 0) cL ce (gj 0 n)=some (((List.range n).map (fk m)).map λp=>.str (wr p)):=by
 rw[qD,List.map_map,← Jl]
 exact jn _ _ _ λk hk=>⟨_,rfl,by
  have h:(m+k) % 4 < four.length:=Nat.mod_lt _ (by decide)
  have hat:atI ((four.map wr).map PV.str) (((m+k) % 4:Nat):Int)=some (.str (wr (fk m k))):=gR (by
   rw[List.getElem?_map,List.getElem?_map,List.getElem?_eq_getElem h]
   unfold fk
   rw[List.getD_eq_getElem?_getD,List.getElem?_eq_getElem h]
   rfl)
  have e:((m:Int)+(k:Int)) % 4=(((m+k) % 4:Nat):Int):=by omega
  subst hce
  generalize (m+k) % 4=j,(four.map wr).map PV.str=L at *
  simp[e,hat,Function.comp]⟩
theorem law_true (ns:List Int) (hn:ns.length<=63):rM [.frz (ns.map PV.int)]=some (.bl true):=by
 obtain⟨f,h1,h2,h3,h4,hcn,h5⟩:=Iu (cs:=(ns.drop 3).take 12) (by rw[List.length_take];omega)
 have hw:=Ml h1 h2 h3 hcn
 have hne:parts f≠[]:=by
  cases h2 with
  | @w0 A hA=>exact hA
  | @w2 A B lo hi C=>simp[parts]
 have c1:fG (ns.map PV.int) (some 3) (some 15)=((ns.drop 3).take 12).map .int:=by
  have:=wZ (ns.map PV.int) 3 15
  rw[List.map_take,List.map_drop]
  exact this
 have c2:fG (ns.map PV.int) (some 15) (some 27)=((ns.drop 15).take 12).map .int:=by
  have:=wZ (ns.map PV.int) 15 27
  rw[List.map_take,List.map_drop]
  exact this
 have htx:=t7 hw h4
 have hown:aL [.str (fP (parts f))]=some (.int (-1)):=by
  have:=(p_ hw hne (by omega)).2
  rw[Ji h1 h2 hw h4 hcn] at this
  exact this
 obtain⟨n0,k0⟩:=qP ns 0
 obtain⟨n1,k1⟩:=qP ns 1
 obtain⟨n2,k2⟩:=qP ns 2
 have k0:aX [.frz (ns.map PV.int),.int 0]=some (.int n0):=k0
 have k1:aX [.frz (ns.map PV.int),.int 1]=some (.int n1):=k1
 have k2:aX [.frz (ns.map PV.int),.int 2]=some (.int n2):=k2
 have s1:aJ 1 (aN dX (aj (bSl (bV 0) (oS (bC (.int 3))) (oS (bC (.int 15)))) aq)) [some (.frz (ns.map PV.int)),none,none,none,none,none,none,none,none,none,none]=some (.nx [some (.frz (ns.map PV.int)),some (tP (parts f)),none,none,none,none,none,none,none,none,none]):=by
  clear k0 k1 k2
  generalize dX=m1,tP (parts f)=FP,((ns.drop 3).take 12).map PV.int=CP,ns.map PV.int=NP at *
  simp[c1,h5]
 have s2:aJ 2 (aN bN (aj (bV 1) aq)) [some (.frz (ns.map PV.int)),some (tP (parts f)),none,none,none,none,none,none,none,none,none]=some (.nx [some (.frz (ns.map PV.int)),some (tP (parts f)),some (.str (fP (parts f))),none,none,none,none,none,none,none,none]):=by
  generalize PV.frz (ns.map PV.int)=P0',bN=m1,tP (parts f)=FP,fP (parts f)=T at *
  simp[htx]
 have s3:sIf (tV (b2 neQ (aN aL (aj (bV 2) aq)) (b1 iB (bC (.int 1))))) (aQ (bC (.bl false))) sNx [some (.frz (ns.map PV.int)),some (tP (parts f)),some (.str (fP (parts f))),none,none,none,none,none,none,none,none]=some (.nx [some (.frz (ns.map PV.int)),some (tP (parts f)),some (.str (fP (parts f))),none,none,none,none,none,none,none,none]):=by
  generalize PV.frz (ns.map PV.int)=P0',aL=m1,tP (parts f)=FP,fP (parts f)=T at *
  simp[hown]
 have tn:∀ c:Int,turn (gN 3) [3,4,5] jR (.int c) [some (.frz (ns.map PV.int)),some (tP (parts f)),some (.str (fP (parts f))),none,none,none,none,none,none,none,none]=some [some (.frz (ns.map PV.int)),some (tP (parts f)),some (.str (fP (parts f))),none,none,none,none,none,none,none,none]:=λc=>by
  obtain⟨zs,a,e1,e2,e3⟩:=Gd h1 h2 hw h4 hcn hne c
  have e4:=(p8 e2).2
  rw[e3] at e4
  unfold jR
  generalize PV.frz (ns.map PV.int)=P0',aL=m1,d_=m2,tP (parts f)=FP,fP (parts f)=T at *
  generalize Str.join ("; " : Str) (zs.map (·.1))=T2 at *
  simp[dY,e1,e4]
 have lp:=qd (g:=gN 3) (ds:=[3,4,5]) (body:=jR) PV.int (n0::(ns.drop 15).take 12) λc _=>tn c
 rw[List.map_cons] at lp
 have s4:mq (gN 3) (iV (b2 a_ (aO (aj (aN aX (aj (bV 0) (aj (bC (.int 0)) aq))) aq)) (bSl (bV 0) (oS (bC (.int 15))) (oS (bC (.int 27)))))) [3,4,5] jR [some (.frz (ns.map PV.int)),some (tP (parts f)),some (.str (fP (parts f))),none,none,none,none,none,none,none,none]=some (.nx [some (.frz (ns.map PV.int)),some (tP (parts f)),some (.str (fP (parts f))),none,none,none,none,none,none,none,none]):=by
  have hle:(((ns.drop 15).take 12).map PV.int).length<=12:=by simp;omega
  generalize ((ns.drop 15).take 12).map PV.int=CP,ns.map PV.int=NP,aX=m1,jR=BB,tP (parts f)=FP,fP (parts f)=T at *
  have hl1:CP.length+1<=1000000:=by omega
  have hl2:1+CP.length<=1000000:=by omega
  have hl3:CP.length<=1000000:=by omega
  have hl4:CP.length<=999999:=by omega
  simp[k0,c2,hl1,hl2,hl3,hl4,lp]
 obtain⟨R,r1,r2,r3,r4,r5⟩:=zR h1 h2 hw h4
 have rt:=wY r1 r2 r3 r4
 have l9:(nine R).length=9:=rfl
 have hm0:0<=n1 % 9:=Int.emod_nonneg _ (by decide)
 have hm1:n1 % 9 < 9:=Int.emod_lt_of_pos _ (by decide)
 obtain⟨j,hj⟩:∃ j:Nat,n1 % 9=j:=⟨(n1 % 9).toNat,by omega⟩
 have hj9:j < (nine R).length:=by rw[l9];omega
 have hat:atI ((nine R).map l_) (j:Int)=some (l_ (nine R)[j]):=gR (by rw[List.getElem?_map,List.getElem?_eq_getElem hj9];rfl)
 have rtj:=rt _ (List.getElem_mem hj9)
 have hlN:((nine R).map l_).length=9:=by rw[List.length_map];rfl
 generalize (nine R)[j]=z at *
 have hzP:l_ z=.tup [.str (Str.join ("; " : Str) (z.1.map wr)),.int z.2]:=rfl
 rw[hzP] at hat
 generalize (nine R).map l_=N9 at *
 generalize Str.join ("; " : Str) (z.1.map wr)=ZT at *
 generalize z.2=ZA,PV.frz (ns.map PV.int)=P0',tP (parts f)=FP,fP (parts f)=T at *
 have s5:aJ 6 (aN dC (aj (bV 1) aq)) [some P0',some FP,some (.str T),none,none,none,none,none,none,none,none]=some (.nx [some P0',some FP,some (.str T),none,none,none,some (.lst N9),none,none,none,none]):=by
  generalize dC=m1 at *
  simp[r5]
 have s6:vZ (gT [4,5]) (b2 ixP (bV 6) (b2 cM (aN aX (aj (bV 0) (aj (bC (.int 1)) aq))) (b1 lenV (bV 6)))) [some P0',some FP,some (.str T),none,none,none,some (.lst N9),none,none,none,none]=some (.nx [some P0',some FP,some (.str T),none,some (.str ZT),some (.int ZA),some (.lst N9),none,none,none,none]):=by
  generalize aX=m1 at *
  simp[k1,hlN,hj,hat]
 have s7:sIf (tV (b2 neQ (aN aL (aj (bV 4) aq)) (bV 5))) (aQ (bC (.bl false))) sNx [some P0',some FP,some (.str T),none,some (.str ZT),some (.int ZA),some (.lst N9),none,none,none,none]=some (.nx [some P0',some FP,some (.str T),none,some (.str ZT),some (.int ZA),some (.lst N9),none,none,none,none]):=by
  generalize aL=m1 at *
  simp[rtj]
 have hq0:0<=n2 % 4:=Int.emod_nonneg _ (by decide)
 have hq1:n2 % 4 < 4:=Int.emod_lt_of_pos _ (by decide)
 obtain⟨m,hm⟩:∃ m:Nat,n2 % 4=m:=⟨(n2 % 4).toNat,by omega⟩
 have hm4:m < 4:=by omega
 have s8:aJ 7 (b2 cM (aN aX (aj (bV 0) (aj (bC (.int 2)) aq))) (bC (.int 4))) [some P0',some FP,some (.str T),none,some (.str ZT),some (.int ZA),some (.lst N9),none,none,none,none]=some (.nx [some P0',some FP,some (.str T),none,some (.str ZT),some (.int ZA),some (.lst N9),some (.int (m:Nat)),none,none,none]):=by
  generalize aX=m1 at *
  simp[k2,hm]
 have s9:aJ 8 (aO (dB ["x a", "as 1", "x -", "b B"])) [some P0',some FP,some (.str T),none,some (.str ZT),some (.int ZA),some (.lst N9),some (.int (m:Nat)),none,none,none]=some (.nx [some P0',some FP,some (.str T),none,some (.str ZT),some (.int ZA),some (.lst N9),some (.int (m:Nat)),some (.lst (([("x a" : Str), "as 1", "x -", "b B"]:List Str).map .str)),none,none]):=by
  have hle:([("x a" : Str), "as 1", "x -", "b B"]:List Str).length<=1000000:=by decide
  generalize ([("x a" : Str), "as 1", "x -", "b B"]:List Str)=L4 at *
  simp[hle]
 have cA:=w6 (ce:=lJ) rfl 12 m
 have cB:=w6 (ce:=lK) rfl 11 m
 obtain⟨jA,tA'⟩:=p_ (Df 12 m) (by simp[cyc]) (by rw[yH];decide)
 obtain⟨jB,tB'⟩:=p_ (Df 11 m) (by simp[cyc]) (by rw[yH];decide)
 rw[N_ m hm4] at tA'
 rw[Oa m hm4] at tB'
 have wx:wr (.rw "x" (some "a"))=("x a" : Str):=by decide +kernel
 have jA':∀ n,(cyc n m).map wr=("x a" : Str)::((List.range n).map (fk m)).map wr:=λn=>by
  show wr (.rw "x" (some "a"))::_=_
  rw[wx]
 have pA:∀ n,strsP (((List.range n).map (fk m)).map λp=>PV.str (wr p))=some (((List.range n).map (fk m)).map wr):=λn=>by
  have:=iI (((List.range n).map (fk m)).map wr)
  rw[List.map_map] at this
  exact this
 have lA:∀ n,(((List.range n).map (fk m)).map λp=>PV.str (wr p)).length=n:=λn=>by simp
 generalize ([("x a" : Str), "as 1", "x -", "b B"]:List Str).map PV.str=L4 at *
 have s10:aJ 9 (b2 bQ (bC (.str "; ")) (b2 a_ (aO (aj (bC (.str "x a")) aq)) (bY [none,some 8,some 7] (iR1 (bC (.int 12))) (gN 0) cL lJ))) [some P0',some FP,some (.str T),none,some (.str ZT),some (.int ZA),some (.lst N9),some (.int (m:Nat)),some (.lst L4),none,none]=some (.nx [some P0',some FP,some (.str T),none,some (.str ZT),some (.int ZA),some (.lst N9),some (.int (m:Nat)),some (.lst L4),some (.str (Str.join ("; " : Str) ((cyc 12 m).map wr))),none]):=by
  have p:=pA 12
  have l:=lA 12
  rw[jA' 12] at jA ⊢
  have cA:cX [none,some (.lst L4),some (.int (m:Nat))] (gN 0) cL lJ (gj 0 12)=_:=cA
  have hr:rgI 12=true:=rn (by decide) (by decide)
  generalize (((List.range 12).map (fk m)).map λp=>PV.str (wr p))=XP,((List.range 12).map (fk m)).map wr=XS,lJ=ce at *
  have hrl:(gj 0 12).length<=1000000:=by rw[show (12:Int)=((12:Nat):Int) from rfl,qD];simp
  simp[hr,hrl,cA,l,p,jA]
 have s11:aJ 10 (b2 bQ (bC (.str "; ")) (b2 a_ (aO (aj (bC (.str "x a")) aq)) (bY [none,some 8,some 7] (iR1 (bC (.int 11))) (gN 0) cL lK))) [some P0',some FP,some (.str T),none,some (.str ZT),some (.int ZA),some (.lst N9),some (.int (m:Nat)),some (.lst L4),some (.str (Str.join ("; " : Str) ((cyc 12 m).map wr))),none]=some (.nx [some P0',some FP,some (.str T),none,some (.str ZT),some (.int ZA),some (.lst N9),some (.int (m:Nat)),some (.lst L4),some (.str (Str.join ("; " : Str) ((cyc 12 m).map wr))),some (.str (Str.join ("; " : Str) ((cyc 11 m).map wr)))]):=by
  have p:=pA 11
  have l:=lA 11
  generalize Str.join ("; " : Str) ((cyc 12 m).map wr)=C12 at *
  rw[jA' 11] at jB ⊢
  have cB:cX [none,some (.lst L4),some (.int (m:Nat))] (gN 0) cL lK (gj 0 11)=_:=cB
  have hr:rgI 11=true:=rn (by decide) (by decide)
  generalize (((List.range 11).map (fk m)).map λp=>PV.str (wr p))=XP,((List.range 11).map (fk m)).map wr=XS,lK=ce at *
  have hrl:(gj 0 11).length<=1000000:=by rw[show (11:Int)=((11:Nat):Int) from rfl,qD];simp
  simp[hr,hrl,cB,l,p,jB]
 have s12:aQ (iy (b2 eqQ (aN aL (aj (bV 9) aq)) (bC (.int 12))) (iy (b2 eqQ (aN aL (aj (bV 10) aq)) (b1 iB (bC (.int 1)))) (b2 eqQ (aN aL (aj (bV 2) aq)) (b1 iB (bC (.int 1)))))) [some P0',some FP,some (.str T),none,some (.str ZT),some (.int ZA),some (.lst N9),some (.int (m:Nat)),some (.lst L4),some (.str (Str.join ("; " : Str) ((cyc 12 m).map wr))),some (.str (Str.join ("; " : Str) ((cyc 11 m).map wr)))]=some (.rt (.bl true)):=by
  generalize Str.join ("; " : Str) ((cyc 12 m).map wr)=C12 at *
  generalize Str.join ("; " : Str) ((cyc 11 m).map wr)=C11 at *
  generalize aL=m1 at *
  simp[tA',tB',hown]
 have hb:rK [some P0',none,none,none,none,none,none,none,none,none,none]=some (.rt (.bl true)):=by
  unfold rK
  rw[aF s1,aF s2,aF s3,aF s4,aF s5,aF s6,aF s7,aF s8,aF s9,aF s10,aF s11,s12]
 unfold rM
 generalize rK=BB at *
 simp[hb]
end My
namespace My
open PySem L2 MR
def top (i:Nat):Stmt:=PySem.Challenge.pw_lilt_k71_no_form.main.body.getD i (.Pass ⟨0,0,0,0⟩)
abbrev gC:Stmt:=top 35
abbrev eF:Stmt:=top 36
abbrev gZ:Stmt:=top 33
abbrev g8:Stmt:=top 34
abbrev eO:Stmt:=top 37
abbrev fU:Stmt:=top 38
abbrev fW:Stmt:=top 39
abbrev dO:Stmt:=top 44
abbrev fX:Stmt:=top 26
abbrev jq:Stmt:=top 27
abbrev fK:Stmt:=top 23
abbrev dG:Stmt:=top 22
abbrev iM:Stmt:=top 20
abbrev g_:Stmt:=top 11
abbrev jr:Stmt:=top 21
abbrev h_:Stmt:=top 24
abbrev i_:Stmt:=top 25
abbrev fY:Stmt:=top 28
abbrev iQ:Stmt:=top 29
abbrev ig:Stmt:=top 30
abbrev eV:Stmt:=top 41
abbrev bM:Stmt:=top 42
abbrev gF:Stmt:=top 43
abbrev eX:Stmt:=top 32
abbrev jJ:Stmt:=top 45
abbrev fL:Stmt:=top 40
abbrev dq:Stmt:=inClass (top 4) 0
theorem sc__law_roots:FnScope ["_law_parts", "_law_found", "_law_number", "_law_inner", "_law_part"] ["_law_parts"] (au gC):=⟨rfl,rfl,rfl,by decide +kernel,rfl,by decide +kernel,by decide +kernel⟩
theorem ue:FnScope ["_law_parts"] ["_law_parts"] (au eF):=⟨rfl,rfl,rfl,by decide +kernel,rfl,by decide +kernel,by decide +kernel⟩
theorem sc__law_name:FnScope ["_law_number", "_law_some"] ["_law_number"] (au gZ):=⟨rfl,rfl,rfl,by decide +kernel,rfl,by decide +kernel,by decide +kernel⟩
theorem sc__law_bond:FnScope ["_law_number", "_law_some"] ["_law_number"] (au g8):=⟨rfl,rfl,rfl,by decide +kernel,rfl,by decide +kernel,by decide +kernel⟩
theorem sc__law_next:FnScope ["_law_parts", "_law_cell", "_law_heads", "_law_number", "_law_inner", "_law_low", "_law_roots_here"] ["_law_parts", "_law_cell"] (au eO):=⟨rfl,rfl,rfl,by decide +kernel,rfl,by decide +kernel,by decide +kernel⟩
theorem sc__law_form:FnScope ["_law_cells", "_law_parts", "_law_cell", "_law_heads"] ["_law_cells"] (au fU):=⟨rfl,rfl,rfl,by decide +kernel,rfl,by decide +kernel,by decide +kernel⟩
theorem sc__law_text:FnScope ["_law_form_here", "_law_words", "_law_part"] ["_law_form_here"] (au fW):=⟨rfl,rfl,rfl,by decide +kernel,rfl,by decide +kernel,by decide +kernel⟩
theorem sc__law_unended:FnScope ["_law_form_here", "_law_some", "_law_words", "_law_lines_here"] ["_law_form_here"] (au dO):=⟨rfl,rfl,rfl,by decide +kernel,rfl,by decide +kernel,by decide +kernel⟩
theorem sc_ending_of:FnScope ["form", "endings"] ["form"] (au fX):=⟨rfl,rfl,rfl,by decide +kernel,rfl,by decide +kernel,by decide +kernel⟩
theorem zT:FnScope ["form"] ["form"] (au jq):=⟨rfl,rfl,rfl,by decide +kernel,rfl,by decide +kernel,by decide +kernel⟩
theorem uf:FnScope ["low", "high"] ["low", "high"] (au fK):=⟨rfl,rfl,rfl,by decide +kernel,rfl,by decide +kernel,by decide +kernel⟩
theorem qQ:FnScope ["text"] ["text"] (au dG):=⟨rfl,rfl,rfl,by decide +kernel,rfl,by decide +kernel,by decide +kernel⟩
theorem zU:FnScope ["text"] ["text"] (au iM):=⟨rfl,rfl,rfl,by decide +kernel,rfl,by decide +kernel,by decide +kernel⟩
theorem xg:FnScope ["text"] ["text"] (au g_):=⟨rfl,rfl,rfl,by decide +kernel,rfl,by decide +kernel,by decide +kernel⟩
theorem zV:FnScope ["text"] ["text"] (au jr):=⟨rfl,rfl,rfl,by decide +kernel,rfl,by decide +kernel,by decide +kernel⟩
theorem sc_read_part:FnScope ["text", "words"] ["text"] (au h_):=⟨rfl,rfl,rfl,by decide +kernel,rfl,by decide +kernel,by decide +kernel⟩
theorem sc_cut_form:FnScope ["form", "lists", "where", "number", "part"] ["form"] (au i_):=⟨rfl,rfl,rfl,by decide +kernel,rfl,by decide +kernel,by decide +kernel⟩
theorem sc_names_row:FnScope ["form", "number", "cut", "ending", "inside"] ["form", "number"] (au fY):=⟨rfl,rfl,rfl,by decide +kernel,rfl,by decide +kernel,by decide +kernel⟩
theorem zW:FnScope ["form", "part"] ["form", "part"] (au iQ):=⟨rfl,rfl,rfl,by decide +kernel,rfl,by decide +kernel,by decide +kernel⟩
theorem sc_read_form:FnScope ["text", "texts", "form", "at", "written", "part"] ["text"] (au ig):=⟨rfl,rfl,rfl,by decide +kernel,rfl,by decide +kernel,by decide +kernel⟩
theorem sc__law_refused:FnScope ["_law_line", "_law_wrong", "_law_e"] ["_law_line"] (au eV):=⟨rfl,rfl,rfl,by decide +kernel,rfl,by decide +kernel,by decide +kernel⟩
theorem sc__law_bad_part:FnScope ["_law_form_here", "_law_at", "_law_cell", "_law_number", "_law_some"] ["_law_form_here", "_law_at", "_law_cell"] (au bM):=⟨rfl,rfl,rfl,by decide +kernel,rfl,by decide +kernel,by decide +kernel⟩
theorem sc__law_lines:FnScope ["_law_form_here", "_law_cell", "_law_words", "_law_at", "_law_more", "_law_bad"] ["_law_form_here", "_law_cell"] (au gF):=⟨rfl,rfl,rfl,by decide +kernel,rfl,by decide +kernel,by decide +kernel⟩
theorem rY:FnScope ["_law_script", "_law_k"] ["_law_script", "_law_k"] (au eX):=⟨rfl,rfl,rfl,by decide +kernel,rfl,by decide +kernel,by decide +kernel⟩
theorem sc_law:FnScope ["_law_script", "_law_form_here", "_law_line", "_law_cell", "_law_wrong", "_law_at", "_law_lines_here", "_law_many", "_law_rows", "_law_thirteen", "_law_twelve"] ["_law_script"] (au jJ):=⟨rfl,rfl,rfl,by decide +kernel,rfl,by decide +kernel,by decide +kernel⟩
theorem uh:FnScope ["_law_e"] ["_law_e"] (au fL):=⟨rfl,rfl,rfl,by decide +kernel,rfl,by decide +kernel,by decide +kernel⟩
theorem oh:FnScope ["self", "at"] ["self", "at"] (au dq):=⟨rfl,rfl,rfl,by decide +kernel,rfl,by decide +kernel,by decide +kernel⟩
structure Adr where
 a0:Nat:=0
 a_HIGHS:Addr
 t_LETTERS:Tok
 a_LOWS:Addr
 t_MOST_ROWS:Tok
 t_MOST_SIGNS:Tok
 t_NO_BOND:Tok
 a_OPENING:Addr
 t_PARTING:Tok
section
variable {P:Program}{w:World}{K:PySem.W.Frag}{mg:Str->Option Value}{base:Heap}{cl:Nat->Addr}{A:Adr}
structure Tx__law_others (P:Program) (w:World) (K:PySem.W.Frag) (mg:Str->Option Value) (base:Heap) (cl:Nat->Addr) (A:Adr):Prop where
 z_isinstance:mg "isinstance" = none
 k_NoForm_NoMetre:PySem.W.kitOne K (.ref (cl 13)) (.ref (cl 12))=some false
 k_NoForm_NoName:PySem.W.kitOne K (.ref (cl 13)) (.ref (cl 16))=some false
 k_NoForm_NoReading:PySem.W.kitOne K (.ref (cl 13)) (.ref (cl 15))=some false
 k_NoForm_NoRow:PySem.W.kitOne K (.ref (cl 13)) (.ref (cl 17))=some false
 k_NoForm_NoRule:PySem.W.kitOne K (.ref (cl 13)) (.ref (cl 11))=some false
 k_NoForm_NoWord:PySem.W.kitOne K (.ref (cl 13)) (.ref (cl 14))=some false
 m_NoMetre:mg "NoMetre" = some (.ref (cl 12))
 m_NoName:mg "NoName" = some (.ref (cl 16))
 m_NoReading:mg "NoReading" = some (.ref (cl 15))
 m_NoRow:mg "NoRow" = some (.ref (cl 17))
 m_NoRule:mg "NoRule" = some (.ref (cl 11))
 m_NoWord:mg "NoWord" = some (.ref (cl 14))
 xc_NoForm:XCls K (cl 13)
theorem mC {f:Addr}{fd:FuncData}(F:Fun K "_law_others" "_law_others" fL f fd) (T:Tx__law_others P w K mg base cl A) (d:Option Nat):FnOk P w K mg base CX0 1 f fd ["_law_e"] (spE (cl 13) d (.bl false)):=by
 refine Lj F uh λcdv A' outer s H E hr=>?_
 exact(rG (PW.pt (rF (j:=false) (k:=false) (jZ (lF 0 T.xc_NoForm T.k_NoForm_NoWord T.z_isinstance T.m_NoWord)) (rF (j:=false) (k:=false) (jZ (lF 0 T.xc_NoForm T.k_NoForm_NoMetre T.z_isinstance T.m_NoMetre)) (wj (jZ (lF 0 T.xc_NoForm T.k_NoForm_NoReading T.z_isinstance T.m_NoReading)))))) (Cg rfl (GD (j:=false) (k:=false) (lF 0 T.xc_NoForm T.k_NoForm_NoRule T.z_isinstance T.m_NoRule) (GD (j:=false) (k:=false) (lF 0 T.xc_NoForm T.k_NoForm_NoName T.z_isinstance T.m_NoName) (Le (lF 0 T.xc_NoForm T.k_NoForm_NoRow T.z_isinstance T.m_NoRow))))))
theorem xU {f:Addr}{fd:FuncData}(F:Fun K "__init__" "NoForm.__init__" dq f fd) (hC:jC K (cl 13) f=true) (hb:BaseInit K (cl 10) "ValueError.__init__") (hm:mg "LiltError" = some (.ref (cl 10))):FnOk P w K mg base CX0 1 f fd ["self", "at"] (zH (cl 13)):=
 Lk F oh λcdv A' outer s H E=>gK (HY hC hb rfl (.inl rfl) rfl hm (K9 rfl (.inl rfl) (by decide)) rfl rfl rfl rfl rfl) (pI (Nu hC rfl (.inl rfl) rfl (.inl rfl) rfl))
structure Tx__law_roots (P:Program) (w:World) (K:PySem.W.Frag) (mg:Str->Option Value) (base:Heap) (cl:Nat->Addr) (A:Adr):Prop where
 ok:True
theorem uU {f:Addr}{fd:FuncData}(F:Fun K "_law_roots" "_law_roots" gC f fd) (T:Tx__law_roots P w K mg base cl A):FnOk P w K mg base CX0 1 f fd ["_law_parts"] (spM ⟨K,cl⟩ d8 false):=by
 refine F.ok sc__law_roots (λvs H Q E h=>bZ h) (λcdv A' outer s H vs Q E hr h=>bR (G:=[1]) (G':=[]) (L:=[]) (N:=["_law_parts", "_law_found", "_law_number", "_law_inner", "_law_part"]) rfl (by decide) (by decide) (λB H'=>?_) h)
 exact(aC (mL 1 sc__law_roots.nd (bF aA)) (aC (bG 2 sc__law_roots.nd az) (aC (bG 3 sc__law_roots.nd q9) (aC (pO [4] (jb (ao 0) (λ_=>by intro z;cases z)) (vV 4 sc__law_roots.nd) (aM (dI (aW (kj hr (bc hr (ao 4) az) (cj (ak aB (ak aB aA))))) (aM (bG 3 sc__law_roots.nd (cQ (cD hr (bc hr (ao 4) az) aB)))) (aC (bG 2 sc__law_roots.nd (cG (ao 2) az)) (aM (dI (aW (cD hr (bc hr (ao 4) az) aB)) (aM (fZ 1 (cj (ak (ao 2) (ak (ao 3) aA))))) cu))))) PassesOwn.never) (vU (G1:=[]) (aM (bH (ao 1))))))))
structure Tx__law_is_low (P:Program) (w:World) (K:PySem.W.Frag) (mg:Str->Option Value) (base:Heap) (cl:Nat->Addr) (A:Adr):Prop where
 ok:True
theorem ul {f:Addr}{fd:FuncData}(F:Fun K "_law_is_low" "_law_is_low" eF f fd) (T:Tx__law_is_low P w K mg base cl A):FnOk P w K mg base CX0 1 f fd ["_law_parts"] (spM ⟨K,cl⟩ di false):=by
 refine F.ok ue (λvs H Q E h=>bZ h) (λcdv A' outer s H vs Q E hr h=>bR (G:=[]) (G':=[]) (L:=[]) (N:=["_law_parts"]) rfl (by decide) (by decide) (λB H'=>?_) h)
 exact(aM (bH (cQ (lU hr (gY (osc:=(au eF)) (ON:=["_law_parts"]) (N:=["_law_part"]) (cap:=[none]) ⟨rfl,by decide +kernel,by decide +kernel,by decide +kernel,by decide +kernel⟩ (jL 0) (jb (ao 0) (λz=>by cases z)) (λ_ _ _ _=>dh (i:=0) (show (["_law_part"]:List Str).Nodup by decide +kernel) rfl (Or.inl rfl)) (λ_ _ _ _=>lw (SW.st (iC (aW (cD hr (bc hr (ao 0) az) aB)) (gU (aW (cD hr (bc hr (ao 0) az) az)))))) (λ_ _ _ _=>(ao 0))) (bF aA)))))
structure Tx__law_name (P:Program) (w:World) (K:PySem.W.Frag) (mg:Str->Option Value) (base:Heap) (cl:Nat->Addr) (A:Adr):Prop where
 ok:True
theorem xj {f:Addr}{fd:FuncData}(F:Fun K "_law_name" "_law_name" gZ f fd) (T:Tx__law_name P w K mg base cl A):FnOk P w K mg base CX0 1 f fd ["_law_number"] (spM ⟨K,cl⟩ fc false):=by
 refine F.ok sc__law_name (λvs H Q E h=>bZ h) (λcdv A' outer s H vs Q E hr h=>bR (G:=[]) (G':=[]) (L:=[]) (N:=["_law_number", "_law_some"]) rfl (by decide) (by decide) (λB H'=>?_) h)
 exact(aC (bG 1 sc__law_name.nd (SE.val (bF (jP rfl)))) (aM (bH (bc hr (ao 1) (e_ (ao 0) az)))))
structure Tx__law_bond (P:Program) (w:World) (K:PySem.W.Frag) (mg:Str->Option Value) (base:Heap) (cl:Nat->Addr) (A:Adr):Prop where
 ok:True
theorem xm {f:Addr}{fd:FuncData}(F:Fun K "_law_bond" "_law_bond" g8 f fd) (T:Tx__law_bond P w K mg base cl A):FnOk P w K mg base CX0 1 f fd ["_law_number"] (spM ⟨K,cl⟩ fj false):=by
 refine F.ok sc__law_bond (λvs H Q E h=>bZ h) (λcdv A' outer s H vs Q E hr h=>bR (G:=[]) (G':=[]) (L:=[]) (N:=["_law_number", "_law_some"]) rfl (by decide) (by decide) (λB H'=>?_) h)
 exact(aC (bG 1 sc__law_bond.nd (SE.val (bF (ak eZ (ak aB (ak aB (ak aB (ak aB (ak aB (ak aB (ak aB aA))))))))))) (aM (bH (bc hr (ao 1) (e_ (ao 0) az)))))
structure Tx__law_next (P:Program) (w:World) (K:PySem.W.Frag) (mg:Str->Option Value) (base:Heap) (cl:Nat->Addr) (A:Adr):Prop where
 z_len:mg "len" = none
 z_max:mg "max" = none
 c__law_bond:Cal P w K mg base 1 "_law_bond" ["_law_number"] (spM ⟨K,cl⟩ fj false)
 c__law_is_low:Cal P w K mg base 1 "_law_is_low" ["_law_parts"] (spM ⟨K,cl⟩ di false)
 c__law_name:Cal P w K mg base 1 "_law_name" ["_law_number"] (spM ⟨K,cl⟩ fc false)
 c__law_roots:Cal P w K mg base 1 "_law_roots" ["_law_parts"] (spM ⟨K,cl⟩ d8 false)
theorem xn {f:Addr}{fd:FuncData}(F:Fun K "_law_next" "_law_next" eO f fd) (T:Tx__law_next P w K mg base cl A):FnOk P w K mg base CX0 2 f fd ["_law_parts", "_law_cell"] (spM ⟨K,cl⟩ dW false):=by
 refine F.ok sc__law_next (λvs H Q E h=>bZ h) (λcdv A' outer s H vs Q E hr h=>bR (G:=[]) (G':=[]) (L:=[]) (N:=["_law_parts", "_law_cell", "_law_heads", "_law_number", "_law_inner", "_law_low", "_law_roots_here"]) rfl (by decide) (by decide) (λB H'=>?_) h)
 exact(aC (rA 2 sc__law_next.nd (osc:=(au eO)) (ON:=["_law_parts", "_law_cell", "_law_heads", "_law_number", "_law_inner", "_law_low", "_law_roots_here"]) (N:=["_law_part"]) (cap:=[none]) ⟨rfl,by decide +kernel,by decide +kernel,by decide +kernel,by decide +kernel⟩ (jL 0) (jb (ao 0) (λz=>by cases z)) (λ_ _ _ _=>dh (i:=0) (show (["_law_part"]:List Str).Nodup by decide +kernel) rfl (Or.inl rfl)) (λ_ _ _ _=>gM) (λ_ _ _ _=>(bc hr (ao 0) az))) (aC (bG 3 sc__law_next.nd (oR (ao 1) az)) (aC (bG 4 sc__law_next.nd (jw (cQ (kj hr aB (ao 2))) (jc (cQ (iz hr aB (ao 2)))))) (aC (bG 5 sc__law_next.nd (e_ (ao 3) az)) (aC (dI (SW.st (iC (aW (cD hr (e_ (ao 1) az) az)) (gU (aW (iz hr aB (ao 2)))))) (aM (bH (cj (ak aB aA)))) cu) (aC (dI (SW.st (iC (aW (cD hr (e_ (ao 1) az) az)) (iC (gh (ao 4)) (gU (aW (lU hr (bc hr (ao 2) (lz az)) aB)))))) (aM (bH (cj (ak aB (ak (ao 5) (ak (cG (Bv T.z_max az (ao 5)) (e_ (oR (ao 3) az) (Ks az (Bv T.z_max az (ao 5))))) aA)))))) cu) (aC (bG 6 sc__law_next.nd (aP T.c__law_roots hr (ak (ao 0) aA))) (aC (dI (SW.st (iC (mK (gh (ao 4))) (gU (gh (aP T.c__law_is_low hr (ak (ao 0) aA)))))) (aM (rA 6 sc__law_next.nd (osc:=(au eO)) (ON:=["_law_parts", "_law_cell", "_law_heads", "_law_number", "_law_inner", "_law_low", "_law_roots_here"]) (N:=["_law_one"]) (cap:=[none]) ⟨rfl,by decide +kernel,by decide +kernel,by decide +kernel,by decide +kernel⟩ (jL 0) (jb (ao 6) (λz=>by cases z)) (λ_ _ _ _=>dh (i:=0) (show (["_law_one"]:List Str).Nodup by decide +kernel) rfl (Or.inl rfl)) (λ_ _ _ _=>lw (mK (gh (bc hr (ao 0) az)))) (λ_ _ _ _=>(ao 0)))) cu) (aC (dI (SW.st (iC (aW (kj hr (e_ (ao 1) az) (cj (ak az (ak az aA))))) (gU (aW (lU hr (ao 6) (bF aA)))))) (aM (bH (cj (ak aB (ak (bc hr (bc hr (ao 6) (e_ (ao 3) (cJ T.z_len (ao 6)))) az) aA))))) cu) (aM (bH (cj (ak aB (ak (aP T.c__law_name hr (ak (ao 3) aA)) (ak (aP T.c__law_bond hr (ak (oR (ao 3) az) aA)) aA)))))))))))))))
structure Tx__law_form (P:Program) (w:World) (K:PySem.W.Frag) (mg:Str->Option Value) (base:Heap) (cl:Nat->Addr) (A:Adr):Prop where
 z_tuple:mg "tuple" = none
 c__law_next:Cal P w K mg base 2 "_law_next" ["_law_parts", "_law_cell"] (spM ⟨K,cl⟩ dW false)
theorem xq {f:Addr}{fd:FuncData}(F:Fun K "_law_form" "_law_form" fU f fd) (T:Tx__law_form P w K mg base cl A):FnOk P w K mg base CX0 3 f fd ["_law_cells"] (spM ⟨K,cl⟩ dX false):=by
 refine F.ok sc__law_form (λvs H Q E h=>bZ h) (λcdv A' outer s H vs Q E hr h=>bR (G:=[1]) (G':=[1]) (L:=[]) (N:=["_law_cells", "_law_parts", "_law_cell", "_law_heads"]) rfl (by decide) (by decide) (λB H'=>?_) h)
 exact(aC (mL 1 sc__law_form.nd (bF aA)) (aC (pO [2] (jb (ao 0) (λ_=>by intro z;cases z)) (vV 2 sc__law_form.nd) (aM (fZ 1 (ji T.c__law_next hr (jh (mj 1) (ak (ao 2) aA))))) PassesOwn.never) (aC (rA 3 sc__law_form.nd (osc:=(au fU)) (ON:=["_law_cells", "_law_parts", "_law_cell", "_law_heads"]) (N:=["_law_part"]) (cap:=[none]) ⟨rfl,by decide +kernel,by decide +kernel,by decide +kernel,by decide +kernel⟩ (jL 0) (jb (mj 1) (λz=>by cases z)) (λ_ _ _ _=>dh (i:=0) (show (["_law_part"]:List Str).Nodup by decide +kernel) rfl (Or.inl rfl)) (λ_ _ _ _=>gM) (λ_ _ _ _=>(bc hr (ao 0) az))) (aC (dI (SW.st (lV (aW (cD hr (ao 3) (bF aA))) (lB (aW (cD hr (bc hr (ao 3) (lz az)) aB))))) (aM (fZ 1 (cj (ak aB (ak aB (ak aB aA)))))) cu) (aC (dI (SW.st (iC (aW (kj hr aB (ao 3))) (gU (aW (iz hr aB (ao 3)))))) (aM (fZ 1 (cj (ak aB (ak az (ak az aA)))))) cu) (aM (bH (qz T.z_tuple (mj 1)))))))))
structure Tx__law_text (P:Program) (w:World) (K:PySem.W.Frag) (mg:Str->Option Value) (base:Heap) (cl:Nat->Addr) (A:Adr):Prop where
 z_int:mg "int" = none
 z_str:mg "str" = none
theorem xr {f:Addr}{fd:FuncData}(F:Fun K "_law_text" "_law_text" fW f fd) (T:Tx__law_text P w K mg base cl A):FnOk P w K mg base CX0 1 f fd ["_law_form_here"] (spM ⟨K,cl⟩ bN false):=by
 refine F.ok sc__law_text (λvs H Q E h=>bZ h) (λcdv A' outer s H vs Q E hr h=>bR (G:=[1]) (G':=[]) (L:=[]) (N:=["_law_form_here", "_law_words", "_law_part"]) rfl (by decide) (by decide) (λB H'=>?_) h)
 exact(aC (mL 1 sc__law_text.nd (bF aA)) (aC (pO [2] (jb (ao 0) (λ_=>by intro z;cases z)) (vV 2 sc__law_text.nd) (aM (dI (aW (cD hr (bc hr (ao 2) az) aB)) (aM (fZ 1 (cG (cG (bc hr (ao 2) az) aB) (bc hr (bF (ak aB (ak (bc hr (ao 2) az) aA))) (kZ T.z_int (cQ (vR (bc hr (ao 2) az) eZ))))))) (aM (fZ 1 (c7 aB (gY (osc:=(au fW)) (ON:=["_law_form_here", "_law_words", "_law_part"]) (N:=["_law_word"]) (cap:=[none]) ⟨rfl,by decide +kernel,by decide +kernel,by decide +kernel,by decide +kernel⟩ (jL 0) (jb (ao 2) (λz=>by cases z)) (λ_ _ _ _=>dh (i:=0) (show (["_law_word"]:List Str).Nodup by decide +kernel) rfl (Or.inl rfl)) (λ_ _ _ _=>gM) (λ_ _ _ _=>(pQ T.z_str (ao 0))))))))) PassesOwn.never) (vU (G1:=[]) (aM (bH (c7 aB (ao 1)))))))
structure Tx__law_unended (P:Program) (w:World) (K:PySem.W.Frag) (mg:Str->Option Value) (base:Heap) (cl:Nat->Addr) (A:Adr):Prop where
 z_len:mg "len" = none
 z_str:mg "str" = none
 z_tuple:mg "tuple" = none
 c__law_text:Cal P w K mg base 1 "_law_text" ["_law_form_here"] (spM ⟨K,cl⟩ bN false)
theorem rZ {f:Addr}{fd:FuncData}(F:Fun K "_law_unended" "_law_unended" dO f fd) (T:Tx__law_unended P w K mg base cl A):FnOk P w K mg base CX0 2 f fd ["_law_form_here"] (spM ⟨K,cl⟩ dC false):=by
 refine F.ok sc__law_unended (λvs H Q E h=>bZ h) (λcdv A' outer s H vs Q E hr h=>bR (G:=[3]) (G':=[]) (L:=[]) (N:=["_law_form_here", "_law_some", "_law_words", "_law_lines_here"]) rfl (by decide) (by decide) (λB H'=>?_) h)
 exact(aC (bG 1 sc__law_unended.nd (nJ (gY (osc:=(au dO)) (ON:=["_law_form_here", "_law_some", "_law_words", "_law_lines_here"]) (N:=["_law_part"]) (cap:=[none]) ⟨rfl,by decide +kernel,by decide +kernel,by decide +kernel,by decide +kernel⟩ (jL 0) (jb (ao 0) (λz=>by cases z)) (λ_ _ _ _=>dh (i:=0) (show (["_law_part"]:List Str).Nodup by decide +kernel) rfl (Or.inl rfl)) (λ_ _ _ _=>lw (aW (iz hr (bc hr (ao 0) az) (cj (ak aB (ak aB (ak aB aA))))))) (λ_ _ _ _=>(ao 0))) kY (gW az))) (aC (bG 2 sc__law_unended.nd (SE.val (lC (aP T.c__law_text hr (ak (qz T.z_tuple (ao 1)) aA)) aB))) (aC (mL 3 sc__law_unended.nd (bF (ak (cj (ak (c7 aB (cI (bF (ak aB aA)) (ao 2))) (ak (cG (cJ T.z_len (ao 2)) az) aA))) (ak (cj (ak (c7 aB (cI (ao 2) (bF (ak aB aA)))) (ak (cG (cJ T.z_len (ao 2)) az) aA))) aA)))) (aC (fZ 3 (cj (ak (c7 aB (cI (ao 2) (bF (ak aB (ak aB aA))))) (ak (cG (cJ T.z_len (ao 2)) az) aA)))) (aC (fZ 3 (cj (ak (c7 aB (cI (ao 2) (bF (ak aB (ak aB aA))))) (ak (cG (cJ T.z_len (ao 2)) az) aA)))) (aC (fZ 3 (cj (ak (c7 aB (cI (ao 2) (bF (ak aB aA)))) (ak (cJ T.z_len (ao 2)) aA)))) (aC (fZ 3 (cj (ak (c7 aB (cI (cI (bF (ak aB aA)) (ao 2)) (bF (ak aB (ak aB aA))))) (ak (cG (cJ T.z_len (ao 2)) az) aA)))) (aC (fZ 3 (cj (ak (c7 aB (cI (cI (bF (ak aB aA)) (ao 2)) (bF (jP rfl)))) (ak (cG (cJ T.z_len (ao 2)) az) aA)))) (aC (fZ 3 (cj (ak (c7 aB (cI (cI (bF (ak aB aA)) (ao 2)) (bF (ak aB (ak aB aA))))) (ak (cG (cJ T.z_len (ao 2)) az) aA)))) (aC (fZ 3 (cj (ak (c7 aB (cI (ao 2) (bF (ak aB (ak (cG aB (pQ T.z_str (cG (cJ T.z_len (ao 2)) az))) aA))))) (ak (cG (cJ T.z_len (ao 2)) az) aA)))) (vU (G1:=[]) (aM (bH (ao 3))))))))))))))
structure Tx_ending_of (P:Program) (w:World) (K:PySem.W.Frag) (mg:Str->Option Value) (base:Heap) (cl:Nat->Addr) (A:Adr):Prop where
 z_len:mg "len" = none
theorem xu {f:Addr}{fd:FuncData}(F:Fun K "ending_of" "ending_of" fX f fd) (T:Tx_ending_of P w K mg base cl A):FnOk P w K mg base CX0 1 f fd ["form"] (spM ⟨K,cl⟩ b_ false):=by
 refine F.ok sc_ending_of (λvs H Q E h=>bZ h) (λcdv A' outer s H vs Q E hr h=>bR (G:=[]) (G':=[]) (L:=[]) (N:=["form", "endings"]) rfl (by decide) (by decide) (λB H'=>?_) h)
 exact(aC (rA 1 sc_ending_of.nd (osc:=(au fX)) (ON:=["form", "endings"]) (N:=["part"]) (cap:=[none]) ⟨rfl,by decide +kernel,by decide +kernel,by decide +kernel,by decide +kernel⟩ (jL 0) (jb (ao 0) (λz=>by cases z)) (λ_ _ _ _=>dh (i:=0) (show (["part"]:List Str).Nodup by decide +kernel) rfl (Or.inl rfl)) (λ_ _ _ _=>lw (aW (cD hr (bc hr (ao 0) az) aB))) (λ_ _ _ _=>(ao 0))) (aM (bH (zf (aW (Ng (cJ T.z_len (ao 1)) az)) (bc hr (ao 1) az) eZ))))
structure Tx_is_open (P:Program) (w:World) (K:PySem.W.Frag) (mg:Str->Option Value) (base:Heap) (cl:Nat->Addr) (A:Adr):Prop where
 g_OPENING:mg "OPENING" = some (.ref A.a_OPENING)
 r_OPENING:∀ (B:Addr->Prop) (H:Hp),Rep ⟨K,cl⟩ B H (.ref A.a_OPENING) aK
 c_ending_of:Cal P w K mg base 1 "ending_of" ["form"] (spM ⟨K,cl⟩ b_ false)
theorem zX {f:Addr}{fd:FuncData}(F:Fun K "is_open" "is_open" jq f fd) (T:Tx_is_open P w K mg base cl A):FnOk P w K mg base CX0 2 f fd ["form"] (spM ⟨K,cl⟩ bw false):=by
 refine F.ok zT (λvs H Q E h=>bZ h) (λcdv A' outer s H vs Q E hr h=>bR (G:=[]) (G':=[]) (L:=[]) (N:=["form"]) rfl (by decide) (by decide) (λB H'=>?_) h)
 exact(aM (bH (jw (cQ (kj hr (nA T.g_OPENING (T.r_OPENING)) (ao 0))) (jc (cQ (pN (aP T.c_ending_of hr (ak (ao 0) aA)) eZ))))))
structure Tx_read_ending (P:Program) (w:World) (K:PySem.W.Frag) (mg:Str->Option Value) (base:Heap) (cl:Nat->Addr) (A:Adr):Prop where
 z_int:mg "int" = none
 g_HIGHS:mg "HIGHS" = some (.ref A.a_HIGHS)
 r_HIGHS:∀ (B:Addr->Prop) (H:Hp),Rep ⟨K,cl⟩ B H (.ref A.a_HIGHS) pW
 g_LOWS:mg "LOWS" = some (.ref A.a_LOWS)
 r_LOWS:∀ (B:Addr->Prop) (H:Hp),Rep ⟨K,cl⟩ B H (.ref A.a_LOWS) rH
theorem um {f:Addr}{fd:FuncData}(F:Fun K "read_ending" "read_ending" fK f fd) (T:Tx_read_ending P w K mg base cl A):FnOk P w K mg base CX0 1 f fd ["low", "high"] (spM ⟨K,cl⟩ dj false):=by
 refine F.ok uf (λvs H Q E h=>bZ h) (λcdv A' outer s H vs Q E hr h=>bR (G:=[]) (G':=[]) (L:=[]) (N:=["low", "high"]) rfl (by decide) (by decide) (λB H'=>?_) h)
 exact(aC (dI (SW.st (lV (aW (iz hr (ao 0) (nA T.g_LOWS (T.r_LOWS)))) (lV (aW (iz hr (ao 1) (nA T.g_HIGHS (T.r_HIGHS)))) (lB (aW (Bw hr (kZ T.z_int (ao 1)) (kZ T.z_int (ao 0)))))))) (aM (bH eZ)) cu) (aM (bH (cj (ak aB (ak (kZ T.z_int (ao 0)) (ak (kZ T.z_int (ao 1)) aA)))))))
structure Tx_is_row_number (P:Program) (w:World) (K:PySem.W.Frag) (mg:Str->Option Value) (base:Heap) (cl:Nat->Addr) (A:Adr):Prop where
 z_range:mg "range" = none
 z_str:mg "str" = none
 g_MOST_ROWS:mg "MOST_ROWS" = some (.int 12 A.t_MOST_ROWS)
theorem qR {f:Addr}{fd:FuncData}(F:Fun K "is_row_number" "is_row_number" dG f fd) (T:Tx_is_row_number P w K mg base cl A):FnOk P w K mg base CX0 1 f fd ["text"] (spM ⟨K,cl⟩ cO false):=by
 refine F.ok qQ (λvs H Q E h=>bZ h) (λcdv A' outer s H vs Q E hr h=>bR (G:=[]) (G':=[]) (L:=[]) (N:=["text"]) rfl (by decide) (by decide) (λB H'=>?_) h)
 exact(aM (bH (cQ (kj hr (ao 0) (gY (osc:=(au dG)) (ON:=["text"]) (N:=["number"]) (cap:=[none]) ⟨rfl,by decide +kernel,by decide +kernel,by decide +kernel,by decide +kernel⟩ (jL 0) (Nj T.z_range az (cG (za T.g_MOST_ROWS) az)) (λ_ _ _ _=>dh (i:=0) (show (["number"]:List Str).Nodup by decide +kernel) rfl (Or.inl rfl)) (λ_ _ _ _=>gM) (λ_ _ _ _=>(pQ T.z_str (ao 0))))))))
structure Tx_is_name (P:Program) (w:World) (K:PySem.W.Frag) (mg:Str->Option Value) (base:Heap) (cl:Nat->Addr) (A:Adr):Prop where
 z_all:mg "all" = none
 z_len:mg "len" = none
 g_LETTERS:mg "LETTERS" = some (.str "abcdefghijklmnopqrstuvwxyz" A.t_LETTERS)
 g_MOST_SIGNS:mg "MOST_SIGNS" = some (.int 8 A.t_MOST_SIGNS)
theorem zY {f:Addr}{fd:FuncData}(F:Fun K "is_name" "is_name" iM f fd) (T:Tx_is_name P w K mg base cl A):FnOk P w K mg base CX0 1 f fd ["text"] (spM ⟨K,cl⟩ fM false):=by
 refine F.ok zU (λvs H Q E h=>bZ h) (λcdv A' outer s H vs Q E hr h=>bR (G:=[]) (G':=[]) (L:=[]) (N:=["text"]) rfl (by decide) (by decide) (λB H'=>?_) h)
 exact(aM (bH (jw (Ea Gm Gm az (cJ T.z_len (ao 0)) (za T.g_MOST_SIGNS)) (jc (KD T.z_all (gY (osc:=(au iM)) (ON:=["text"]) (N:=["sign"]) (cap:=[none]) ⟨rfl,by decide +kernel,by decide +kernel,by decide +kernel,by decide +kernel⟩ (jL 0) (jb (ao 0) (λz=>by cases z)) (λ_ _ _ _=>dh (i:=0) (show (["sign"]:List Str).Nodup by decide +kernel) rfl (Or.inl rfl)) (λ_ _ _ _=>gM) (λ_ _ _ _=>(cQ (kj hr (ao 0) (nu T.g_LETTERS))))))))))
structure Tx_is_letter (P:Program) (w:World) (K:PySem.W.Frag) (mg:Str->Option Value) (base:Heap) (cl:Nat->Addr) (A:Adr):Prop where
 z_len:mg "len" = none
 g_LETTERS:mg "LETTERS" = some (.str "abcdefghijklmnopqrstuvwxyz" A.t_LETTERS)
theorem xx {f:Addr}{fd:FuncData}(F:Fun K "is_letter" "is_letter" g_ f fd) (T:Tx_is_letter P w K mg base cl A):FnOk P w K mg base CX0 1 f fd ["text"] (spM ⟨K,cl⟩ iG false):=by
 refine F.ok xg (λvs H Q E h=>bZ h) (λcdv A' outer s H vs Q E hr h=>bR (G:=[]) (G':=[]) (L:=[]) (N:=["text"]) rfl (by decide) (by decide) (λB H'=>?_) h)
 exact(aM (bH (jw (cQ (cD hr (cJ T.z_len (ao 0)) az)) (jc (cQ (kj hr (ao 0) (nu T.g_LETTERS)))))))
structure Tx_is_bond (P:Program) (w:World) (K:PySem.W.Frag) (mg:Str->Option Value) (base:Heap) (cl:Nat->Addr) (A:Adr):Prop where
 z_len:mg "len" = none
 g_LETTERS:mg "LETTERS" = some (.str "abcdefghijklmnopqrstuvwxyz" A.t_LETTERS)
 g_NO_BOND:mg "NO_BOND" = some (.str "-" A.t_NO_BOND)
 c_is_letter:Cal P w K mg base 1 "is_letter" ["text"] (spM ⟨K,cl⟩ iG false)
theorem zZ {f:Addr}{fd:FuncData}(F:Fun K "is_bond" "is_bond" jr f fd) (T:Tx_is_bond P w K mg base cl A):FnOk P w K mg base CX0 2 f fd ["text"] (spM ⟨K,cl⟩ dD false):=by
 refine F.ok zV (λvs H Q E h=>bZ h) (λcdv A' outer s H vs Q E hr h=>bR (G:=[]) (G':=[]) (L:=[]) (N:=["text"]) rfl (by decide) (by decide) (λB H'=>?_) h)
 exact(aM (bH (zc (cQ (cD hr (ao 0) (nu T.g_NO_BOND))) (zc (aP T.c_is_letter hr (ak (ao 0) aA)) (jc (jw (cQ (cD hr (cJ T.z_len (ao 0)) az)) (jc (cQ (kj hr (ao 0) (Et (nu T.g_LETTERS)))))))))))
structure Tx_read_part (P:Program) (w:World) (K:PySem.W.Frag) (mg:Str->Option Value) (base:Heap) (cl:Nat->Addr) (A:Adr):Prop where
 z_int:mg "int" = none
 z_len:mg "len" = none
 g_NO_BOND:mg "NO_BOND" = some (.str "-" A.t_NO_BOND)
 g_OPENING:mg "OPENING" = some (.ref A.a_OPENING)
 r_OPENING:∀ (B:Addr->Prop) (H:Hp),Rep ⟨K,cl⟩ B H (.ref A.a_OPENING) aK
 c_is_bond:Cal P w K mg base 2 "is_bond" ["text"] (spM ⟨K,cl⟩ dD false)
 c_is_name:Cal P w K mg base 1 "is_name" ["text"] (spM ⟨K,cl⟩ fM false)
 c_is_row_number:Cal P w K mg base 1 "is_row_number" ["text"] (spM ⟨K,cl⟩ cO false)
 c_read_ending:Cal P w K mg base 1 "read_ending" ["low", "high"] (spM ⟨K,cl⟩ dj false)
theorem xF {f:Addr}{fd:FuncData}(F:Fun K "read_part" "read_part" h_ f fd) (T:Tx_read_part P w K mg base cl A):FnOk P w K mg base CX0 3 f fd ["text"] (spM ⟨K,cl⟩ bO false):=by
 refine F.ok sc_read_part (λvs H Q E h=>bZ h) (λcdv A' outer s H vs Q E hr h=>bR (G:=[]) (G':=[]) (L:=[]) (N:=["text", "words"]) rfl (by decide) (by decide) (λB H'=>?_) h)
 exact(aC (bG 1 sc_read_part.nd (SE.val (lC (ao 0) aB))) (aC (dI (aW (cD hr (ao 1) (bF (ak aB aA)))) (aM (bH (nA T.g_OPENING (T.r_OPENING)))) cu) (aC (dI (SW.st (iC (aW (cD hr (cJ T.z_len (ao 1)) az)) (gU (aW (cD hr (bc hr (ao 1) az) aB))))) (aM (bH (aP T.c_read_ending hr (ak (bc hr (ao 1) az) (ak (bc hr (ao 1) az) aA))))) cu) (aC (dI (aW (lU hr (cJ T.z_len (ao 1)) az)) (aM (bH eZ)) cu) (aC (dI (SW.st (iC (aW (cD hr (bc hr (ao 1) az) aB)) (gU (gh (aP T.c_is_row_number hr (ak (bc hr (ao 1) az) aA)))))) (aM (bH (cj (ak aB (ak (kZ T.z_int (bc hr (ao 1) az)) aA))))) cu) (aC (dI (SW.st (iC (gh (aP T.c_is_name hr (ak (bc hr (ao 1) az) aA))) (gU (gh (aP T.c_is_bond hr (ak (bc hr (ao 1) az) aA)))))) (aM (bH (cj (ak aB (ak (bc hr (ao 1) az) (ak (zf (aW (cD hr (bc hr (ao 1) az) (nu T.g_NO_BOND))) eZ (bc hr (ao 1) az)) aA)))))) cu) (aM (bH eZ))))))))
structure Tx_cut_form (P:Program) (w:World) (K:PySem.W.Frag) (mg:Str->Option Value) (base:Heap) (cl:Nat->Addr) (A:Adr):Prop where
 ok:True
theorem xV {f:Addr}{fd:FuncData}(F:Fun K "cut_form" "cut_form" i_ f fd) (T:Tx_cut_form P w K mg base cl A):FnOk P w K mg base CX0 1 f fd ["form"] (spM ⟨K,cl⟩ bW false):=by
 refine F.ok sc_cut_form (λvs H Q E h=>bZ h) (λcdv A' outer s H vs Q E hr h=>bR (G:=[]) (G':=[]) (L:=[]) (N:=["form", "lists", "where", "number", "part"]) rfl (by decide) (by decide) (λB H'=>?_) h)
 exact(HF (K5 1 sc_cut_form.nd (sZ (sZ (sZ K4)))) (tu (rB λ_ _ _=>(bG 2 sc_cut_form.nd az)) (tu (rB λ_ _ _=>(bG 3 sc_cut_form.nd az)) (tu (Nm [4] (λ_ _ _=>(jb (ao 0) (λ_=>by intro z;cases z))) (λ_ _ _=>(vV 4 sc_cut_form.nd)) (zu (O9 (λ_ _ _=>(SW.st (lV (aW (cD hr (bc hr (ao 4) az) aB)) (lB (aW (cD hr (bc hr (ao 4) az) aB)))))) (zu (rB λ_ _ _=>(bG 2 sc_cut_form.nd (cG (ao 2) az)))) (K3 (rB λ_ _ _=>(bG 3 sc_cut_form.nd (cG (ao 3) az))) (zu (Np 1 (λ_ _ _=>(ao 2)) (λ_ _ _=>(cj (ak (ao 3) (ak (ao 4) aA))))))))) PassesOwn.never) (HB (aM (bH (ao 1))))))))
structure Tx_names_row (P:Program) (w:World) (K:PySem.W.Frag) (mg:Str->Option Value) (base:Heap) (cl:Nat->Addr) (A:Adr):Prop where
 z_any:mg "any" = none
 c_cut_form:Cal P w K mg base 1 "cut_form" ["form"] (spM ⟨K,cl⟩ bW false)
 c_ending_of:Cal P w K mg base 1 "ending_of" ["form"] (spM ⟨K,cl⟩ b_ false)
theorem xG {f:Addr}{fd:FuncData}(F:Fun K "names_row" "names_row" fY f fd) (T:Tx_names_row P w K mg base cl A):FnOk P w K mg base CX0 2 f fd ["form", "number"] (spM ⟨K,cl⟩ cZ false):=by
 refine F.ok sc_names_row (λvs H Q E h=>bZ h) (λcdv A' outer s H vs Q E hr h=>bR (G:=[]) (G':=[]) (L:=[]) (N:=["form", "number", "cut", "ending", "inside"]) rfl (by decide) (by decide) (λB H'=>?_) h)
 exact(aC (bG 2 sc_names_row.nd (aP T.c_cut_form hr (ak (ao 0) aA))) (aC (bG 3 sc_names_row.nd (aP T.c_ending_of hr (ak (ao 0) aA))) (aC (bG 4 sc_names_row.nd (zf (SW.st (iC (aW (vR (ao 3) eZ)) (gU (aW (cD hr (bc hr (ao 3) az) az))))) (SE.val (bF aA)) (bc hr (ao 2) az))) (aM (bH (KH T.z_any (gY (osc:=(au fY)) (ON:=["form", "number", "cut", "ending", "inside"]) (N:=["told", "part", "number"]) (cap:=[none,none,some 1]) ⟨rfl,by decide +kernel,by decide +kernel,by decide +kernel,by decide +kernel⟩ (O8 [0,1]) (jb (cI (cG (bc hr (ao 2) az) (ao 4)) (bc hr (ao 2) az)) (λz=>by cases z)) (λ_ _ _ _=>Ak rfl (qw (dh (i:=0) (show (["told", "part", "number"]:List Str).Nodup by decide +kernel) rfl (Or.inl rfl)) (qw (dh (i:=1) (show (["told", "part", "number"]:List Str).Nodup by decide +kernel) rfl (Or.inl rfl)) xY))) (λ_ _ _ _=>gM) (λ_ _ _ _=>(jw (cQ (cD hr (ao 0) (ao 2))) (jc (cQ (cD hr (bc hr (ao 1) az) aB))))))))))))
structure Tx_goes_on (P:Program) (w:World) (K:PySem.W.Frag) (mg:Str->Option Value) (base:Heap) (cl:Nat->Addr) (A:Adr):Prop where
 z_len:mg "len" = none
 z_sum:mg "sum" = none
 g_MOST_ROWS:mg "MOST_ROWS" = some (.int 12 A.t_MOST_ROWS)
 g_OPENING:mg "OPENING" = some (.ref A.a_OPENING)
 r_OPENING:∀ (B:Addr->Prop) (H:Hp),Rep ⟨K,cl⟩ B H (.ref A.a_OPENING) aK
 c_cut_form:Cal P w K mg base 1 "cut_form" ["form"] (spM ⟨K,cl⟩ bW false)
 c_is_open:Cal P w K mg base 2 "is_open" ["form"] (spM ⟨K,cl⟩ bw false)
 c_names_row:Cal P w K mg base 2 "names_row" ["form", "number"] (spM ⟨K,cl⟩ cZ false)
theorem z7 {f:Addr}{fd:FuncData}(F:Fun K "goes_on" "goes_on" iQ f fd) (T:Tx_goes_on P w K mg base cl A):FnOk P w K mg base CX0 3 f fd ["form", "part"] (spM ⟨K,cl⟩ aZ false):=by
 refine F.ok zW (λvs H Q E h=>bZ h) (λcdv A' outer s H vs Q E hr h=>bR (G:=[]) (G':=[]) (L:=[]) (N:=["form", "part"]) rfl (by decide) (by decide) (λB H'=>?_) h)
 exact(aC (dI (aW (cD hr (ao 1) (nA T.g_OPENING (T.r_OPENING)))) (aM (bH (cQ (iz hr (nA T.g_OPENING (T.r_OPENING)) (ao 0))))) cu) (aC (dI (aW (cD hr (bc hr (ao 1) az) aB)) (aM (bH (jw (aP T.c_is_open hr (ak (ao 0) aA)) (jc (cQ (lU hr (bc hr (ao 0) (lz az)) (nA T.g_OPENING (T.r_OPENING)))))))) cu) (aC (dI (aW (cD hr (KZ T.z_sum (gY (osc:=(au iQ)) (ON:=["form", "part"]) (N:=["rows"]) (cap:=[none]) ⟨rfl,by decide +kernel,by decide +kernel,by decide +kernel,by decide +kernel⟩ (jL 0) (jb (aP T.c_cut_form hr (ak (ao 0) aA)) (λz=>by cases z)) (λ_ _ _ _=>dh (i:=0) (show (["rows"]:List Str).Nodup by decide +kernel) rfl (Or.inl rfl)) (λ_ _ _ _=>gM) (λ_ _ _ _=>(cJ T.z_len (ao 0))))) (za T.g_MOST_ROWS))) (aM (bH q9)) cu) (aM (bH (zc (cQ (cD hr (bc hr (ao 1) az) aB)) (jc (aP T.c_names_row hr (ak (ao 0) (ak (bc hr (ao 1) az) aA))))))))))
structure Tx_read_form (P:Program) (w:World) (K:PySem.W.Frag) (mg:Str->Option Value) (base:Heap) (cl:Nat->Addr) (A:Adr):Prop where
 z_enumerate:mg "enumerate" = none
 z_len:mg "len" = none
 z_tuple:mg "tuple" = none
 g_PARTING:mg "PARTING" = some (.str "; " A.t_PARTING)
 c_goes_on:Cal P w K mg base 3 "goes_on" ["form", "part"] (spM ⟨K,cl⟩ aZ false)
 c_is_open:Cal P w K mg base 2 "is_open" ["form"] (spM ⟨K,cl⟩ bw false)
 c_read_part:Cal P w K mg base 3 "read_part" ["text"] (spM ⟨K,cl⟩ bO false)
 m_NoForm:mg "NoForm" = some (.ref (cl 13))
 xi_NoForm:CalXi P w K mg base (cl 13) 1
theorem uV {f:Addr}{fd:FuncData}(F:Fun K "read_form" "read_form" ig f fd) (T:Tx_read_form P w K mg base cl A):FnOk P w K mg base (CXW P w K) 4 f fd ["text"] (spX ⟨K,cl⟩ gA false dF):=by
 refine HS F sc_read_form (λvs H Q E h=>HR rfl h) (λcdv A' outer s H vs Q E hr h=>E_ (G:=[2]) (G':=[2]) (L:=[]) (N:=["text", "texts", "form", "at", "written", "part"]) rfl (by decide) (by decide) (λB H'=>?_) (λB H'=>?_) h)
 ·exact(aC (bG 1 sc_read_form.nd (SE.val (lC (ao 0) (nu T.g_PARTING)))) (aC (mL 2 sc_read_form.nd (bF aA)) (aC (pO [3,4,5] (qC T.z_enumerate (ao 1) (λ_=>by intro z;cases z)) (vW (fO 3 sc_read_form.nd (fO 4 sc_read_form.nd mQ))) (aC (bG 5 sc_read_form.nd (aP T.c_read_part hr (ak (ao 4) aA))) (aC (dI (SW.st (lV (aW (pN (ao 5) eZ)) (lB (mK (gh (ji T.c_goes_on hr (jh (mj 2) (ak (ao 5) aA)))))))) (aM zr) cu) (aM (fZ 2 (ao 5))))) PassesOwn.never) (aC (dI (gh (ji T.c_is_open hr (jh (mj 2) aA))) (aM zr) cu) (aM (bH (qz T.z_tuple (mj 2))))))))
 ·exact(nP (L:=[]) (ro:=false) (PS.nox (bG 1 sc_read_form.nd (SE.val (lC (ao 0) (nu T.g_PARTING))))) (nP (L:=[]) (ro:=false) (PS.nox (mL 2 sc_read_form.nd (bF aA))) (K7 (jO (Ln (ro:=false) [3,4,5] (qC T.z_enumerate (ao 1) (λ_=>by intro z;cases z)) (vW (fO 3 sc_read_form.nd (fO 4 sc_read_form.nd mQ))) (aC (bG 5 sc_read_form.nd (aP T.c_read_part hr (ak (ao 4) aA))) (aC (dI (SW.st (lV (aW (pN (ao 5) eZ)) (lB (mK (gh (ji T.c_goes_on hr (jh (mj 2) (ak (ao 5) aA)))))))) (aM zr) cu) (aM (fZ 2 (ao 5))))) (nP (L:=[]) (ro:=false) (PS.nox (bG 5 sc_read_form.nd (aP T.c_read_part hr (ak (ao 4) aA)))) (jO (GC Gz (SW.st (lV (aW (pN (ao 5) eZ)) (lB (mK (gh (ji T.c_goes_on hr (jh (mj 2) (ak (ao 5) aA)))))))) (jO (uI 13 T.xi_NoForm hr T.m_NoForm (ak (ao 3) aA))) BZ))))) (nP (L:=[]) (ro:=false) (PS.nox (pO [3,4,5] (qC T.z_enumerate (ao 1) (λ_=>by intro z;cases z)) (vW (fO 3 sc_read_form.nd (fO 4 sc_read_form.nd mQ))) (aC (bG 5 sc_read_form.nd (aP T.c_read_part hr (ak (ao 4) aA))) (aC (dI (SW.st (lV (aW (pN (ao 5) eZ)) (lB (mK (gh (ji T.c_goes_on hr (jh (mj 2) (ak (ao 5) aA)))))))) (aM zr) cu) (aM (fZ 2 (ao 5))))) PassesOwn.never)) (jO (GC Gz (gh (ji T.c_is_open hr (jh (mj 2) aA))) (jO (uI 13 T.xi_NoForm hr T.m_NoForm (ak (cJ T.z_len (ao 1)) aA))) BZ))))))
structure Tx__law_refused (P:Program) (w:World) (K:PySem.W.Frag) (mg:Str->Option Value) (base:Heap) (cl:Nat->Addr) (A:Adr):Prop where
 z_ValueError:mg "ValueError" = none
 z_bool:mg "bool" = none
 z_int:mg "int" = none
 z_isinstance:mg "isinstance" = none
 c_read_form:Cal P w K mg base 4 "read_form" ["text"] (spM ⟨K,cl⟩ gA false)
 h_NoForm:∃ f,jC K (cl 13) f=true
 k_NoForm_NoForm:PySem.W.kitOne K (.ref (cl 13)) (.ref (cl 13))=some true
 k_NoForm_ValueError:PySem.W.kitOne K (.ref (cl 13)) (.type "ValueError")=some true
 k_int_bool:PySem.W.kitOne K (.type "int") (.type "bool")=some false
 k_int_int:PySem.W.kitOne K (.type "int") (.type "int")=some true
 m_LiltError:mg "LiltError" = some (.ref (cl 10))
 m_NoForm:mg "NoForm" = some (.ref (cl 13))
 q__law_others_NoForm:∀ d,Cal P w K mg base 1 "_law_others" ["_law_e"] (spE (cl 13) d (.bl false))
 x_read_form:CalX P w K mg base 4 "read_form" ["text"] (spX ⟨K,cl⟩ gA false dF)
 xc_NoForm:XCls K (cl 13)
 xm_NoForm_LiltError:PySem.W.exmOne K (.ref (cl 13)) (.ref (cl 10))=some true
theorem sr {f:Addr}{fd:FuncData}(F:Fun K "_law_refused" "_law_refused" eV f fd) (T:Tx__law_refused P w K mg base cl A):FnOk P w K mg base CX0 5 f fd ["_law_line"] (spM ⟨K,cl⟩ aL false):=by
 refine F.ok sc__law_refused (λvs H Q E h=>bZ h) (λcdv A' outer s H vs Q E hr h=>bR (G:=[]) (G':=[]) (L:=[]) (N:=["_law_line", "_law_wrong", "_law_e"]) rfl (by decide) (by decide) (λB H'=>?_) h)
 exact(aC (bG 1 sc__law_refused.nd eZ) (Lh 1 2 13 (p:=(onN λn=>(.int (n:Int)))) sc__law_refused.nd T.m_LiltError T.xm_NoForm_LiltError (aM (KR (aP T.c_read_form hr (ak (ao 0) aA)))) (λ_=>(jO (HN (HQ (Nt rfl) T.x_read_form hr (ak (ao 0) aA))))) (aC (dI (aW (pN (ao 1) eZ)) (aM (bH (lz az))) cu) Nh) (Lf λn=>(rG (Ld 1) (rG (PW.pt (rF (j:=false) (k:=false) (wk (j:=true) (jZ (lF 1 T.xc_NoForm T.k_NoForm_NoForm T.z_isinstance T.m_NoForm))) (rF (j:=false) (k:=false) (wk (j:=true) (jZ (Ia 1 (dn' := "ValueError") T.xc_NoForm T.k_NoForm_ValueError T.z_isinstance T.z_ValueError))) (wj (jZ (Ib 1 rfl (T.q__law_others_NoForm _) hr)))))) (rG (PW.pt (rF (j:=false) (k:=false) (wk (j:=true) (jZ (yw (dn' := "int") (zF 1 T.h_NoForm) T.k_int_int T.z_isinstance T.z_int))) (wj (jZ (yw (dn' := "bool") (zF 1 T.h_NoForm) T.k_int_bool T.z_isinstance T.z_bool))))) (Cg rfl (zF 1 T.h_NoForm))))))))
structure Tx__law_bad_part (P:Program) (w:World) (K:PySem.W.Frag) (mg:Str->Option Value) (base:Heap) (cl:Nat->Addr) (A:Adr):Prop where
 z_len:mg "len" = none
 z_str:mg "str" = none
theorem qT {f:Addr}{fd:FuncData}(F:Fun K "_law_bad_part" "_law_bad_part" bM f fd) (T:Tx__law_bad_part P w K mg base cl A):FnOk P w K mg base CX0 1 f fd ["_law_form_here", "_law_at", "_law_cell"] (spM ⟨K,cl⟩ dM false):=by
 refine F.ok sc__law_bad_part (λvs H Q E h=>bZ h) (λcdv A' outer s H vs Q E hr h=>bR (G:=[]) (G':=[]) (L:=[]) (N:=["_law_form_here", "_law_at", "_law_cell", "_law_number", "_law_some"]) rfl (by decide) (by decide) (λB H'=>?_) h)
 generalize hB:aR bM=B0
 have q0:B0=(aR bM).getD 0 (.Pass ⟨0,0,0,0⟩)::B0.tail:=by rw[← hB];rfl
 obtain⟨e1,_,_,_,h1,q1⟩:=Fo (B:=B0.tail) (x := "_law_some") (ys:=["", " ", "x", "x ", " x", "x  a", "x aa", "x 1", "x -a", "X a", "x1 a", "measuredx a", "x a ", "x a b"]) (by rw[← hB];rfl)
 obtain⟨e2,_,_,_,_,_,h2,q2⟩:=wu (B:=B0.tail.tail) (x := "_law_some") (y := "_law_some") (ys:=["as", "as ", "as 0", "as 01", "as -1", "as 13", "as 100000000000000000000", "as 1 2", "As 1"]) (by rw[← hB];rfl)
 have q3:B0.tail.tail.tail=(aR bM).getD 3 (.Pass ⟨0,0,0,0⟩)::B0.tail.tail.tail.tail:=by rw[← hB];rfl
 have q4:B0.tail.tail.tail.tail=(aR bM).getD 4 (.Pass ⟨0,0,0,0⟩)::B0.tail.tail.tail.tail.tail:=by rw[← hB];rfl
 obtain⟨e5,_,_,_,_,_,h5,q5⟩:=wu (B:=B0.tail.tail.tail.tail.tail) (x := "_law_some") (y := "_law_some") (ys:=[") 01 2", ") 1 02", ") -1 2", ") a b", ") 1  2", "x a;", "x;a"]) (by rw[← hB];rfl)
 have q6:B0.tail.tail.tail.tail.tail.tail=(aR bM).tail.tail.tail.tail.tail.tail:=by rw[← hB]
 rw[q0,q1,q2,q3,q4,q5,q6]
 clear hB q0 q1 q2 q3 q4 q5 q6
 exact(aC (bG 3 sc__law_bad_part.nd (cJ T.z_len (gY (osc:=(au bM)) (ON:=["_law_form_here", "_law_at", "_law_cell", "_law_number", "_law_some"]) (N:=["_law_part"]) (cap:=[none]) ⟨rfl,by decide +kernel,by decide +kernel,by decide +kernel,by decide +kernel⟩ (jL 0) (jb (Ii (ao 0) kY (gW (ao 1))) (λz=>by cases z)) (λ_ _ _ _=>dh (i:=0) (show (["_law_part"]:List Str).Nodup by decide +kernel) rfl (Or.inl rfl)) (λ_ _ _ _=>lw (aW (iz hr (bc hr (ao 0) az) (cj (ak aB (ak aB aA)))))) (λ_ _ _ _=>(ao 0))))) (aC (bG 4 sc__law_bad_part.nd (SE.val (bF (jP h1)))) (aC (bG 4 sc__law_bad_part.nd (SE.val (cI (ao 4) (bF (jP h2))))) (aC (bG 4 sc__law_bad_part.nd (SE.val (cI (ao 4) (bF (ak aB (ak aB aA)))))) (aC (bG 4 sc__law_bad_part.nd (SE.val (cI (ao 4) (bF (ak (cG aB (pQ T.z_str (cG (ao 3) az))) (ak aB (ak aB (ak aB (ak aB (ak aB (ak aB (ak aB (ak aB (ak aB (ak aB aA))))))))))))))) (aC (bG 4 sc__law_bad_part.nd (SE.val (cI (ao 4) (bF (jP h5))))) (aM (bH (bc hr (ao 4) (e_ (ao 2) az))))))))))
structure Tx__law_lines (P:Program) (w:World) (K:PySem.W.Frag) (mg:Str->Option Value) (base:Heap) (cl:Nat->Addr) (A:Adr):Prop where
 z_len:mg "len" = none
 c__law_bad_part:Cal P w K mg base 1 "_law_bad_part" ["_law_form_here", "_law_at", "_law_cell"] (spM ⟨K,cl⟩ dM false)
 c__law_text:Cal P w K mg base 1 "_law_text" ["_law_form_here"] (spM ⟨K,cl⟩ bN false)
theorem uW {f:Addr}{fd:FuncData}(F:Fun K "_law_lines" "_law_lines" gF f fd) (T:Tx__law_lines P w K mg base cl A):FnOk P w K mg base CX0 2 f fd ["_law_form_here", "_law_cell"] (spM ⟨K,cl⟩ d_ false):=by
 refine F.ok sc__law_lines (λvs H Q E h=>bZ h) (λcdv A' outer s H vs Q E hr h=>bR (G:=[]) (G':=[]) (L:=[]) (N:=["_law_form_here", "_law_cell", "_law_words", "_law_at", "_law_more", "_law_bad"]) rfl (by decide) (by decide) (λB H'=>?_) h)
 exact(aC (bG 2 sc__law_lines.nd (SE.val (lC (aP T.c__law_text hr (ak (ao 0) aA)) aB))) (aC (bG 3 sc__law_lines.nd (e_ (ao 1) (cG (cJ T.z_len (ao 2)) az))) (aC (bG 4 sc__law_lines.nd (oR (ao 1) (cG (cJ T.z_len (ao 2)) az))) (aC (bG 5 sc__law_lines.nd (aP T.c__law_bad_part hr (ak (ao 0) (ak (ao 3) (ak (oR (ao 4) az) aA))))) (aC (dI (aW (cD hr (e_ (ao 4) az) az)) (aM (bH (cj (ak (c7 aB (cI (cI (nJ (ao 2) kY (gW (ao 3))) (bF (ak (ao 5) aA))) (nJ (ao 2) (gW (ao 3)) kY))) (ak (ao 3) aA))))) cu) (aM (bH (cj (ak (c7 aB (cI (cI (nJ (ao 2) kY (gW (ao 3))) (bF (ak (ao 5) aA))) (nJ (ao 2) (gW (cG (ao 3) az)) kY))) (ak (ao 3) aA))))))))))
structure Tx__law_cell_at (P:Program) (w:World) (K:PySem.W.Frag) (mg:Str->Option Value) (base:Heap) (cl:Nat->Addr) (A:Adr):Prop where
 z_len:mg "len" = none
theorem sy {f:Addr}{fd:FuncData}(F:Fun K "_law_cell_at" "_law_cell_at" eX f fd) (T:Tx__law_cell_at P w K mg base cl A):FnOk P w K mg base CX0 1 f fd ["_law_script", "_law_k"] (spM ⟨K,cl⟩ aX false):=by
 refine F.ok rY (λvs H Q E h=>bZ h) (λcdv A' outer s H vs Q E hr h=>bR (G:=[]) (G':=[]) (L:=[]) (N:=["_law_script", "_law_k"]) rfl (by decide) (by decide) (λB H'=>?_) h)
 exact(aC (dI (aW (Bw hr (ao 1) (cJ T.z_len (ao 0)))) (aM (bH (bc hr (ao 0) (ao 1)))) cu) (aM (bH az)))
structure Tx_law (P:Program) (w:World) (K:PySem.W.Frag) (mg:Str->Option Value) (base:Heap) (cl:Nat->Addr) (A:Adr):Prop where
 z_len:mg "len" = none
 z_range:mg "range" = none
 c__law_cell_at:Cal P w K mg base 1 "_law_cell_at" ["_law_script", "_law_k"] (spM ⟨K,cl⟩ aX false)
 c__law_form:Cal P w K mg base 3 "_law_form" ["_law_cells"] (spM ⟨K,cl⟩ dX false)
 c__law_lines:Cal P w K mg base 2 "_law_lines" ["_law_form_here", "_law_cell"] (spM ⟨K,cl⟩ d_ false)
 c__law_refused:Cal P w K mg base 5 "_law_refused" ["_law_line"] (spM ⟨K,cl⟩ aL false)
 c__law_text:Cal P w K mg base 1 "_law_text" ["_law_form_here"] (spM ⟨K,cl⟩ bN false)
 c__law_unended:Cal P w K mg base 2 "_law_unended" ["_law_form_here"] (spM ⟨K,cl⟩ dC false)
theorem Mp {f:Addr}{fd:FuncData}(F:Fun K "law" "law" jJ f fd) (T:Tx_law P w K mg base cl A):FnOk P w K mg base CX0 6 f fd ["_law_script"] (spM ⟨K,cl⟩ rM false):=by
 refine F.ok sc_law (λvs H Q E h=>bZ h) (λcdv A' outer s H vs Q E hr h=>bR (G:=[]) (G':=[]) (L:=[]) (N:=["_law_script", "_law_form_here", "_law_line", "_law_cell", "_law_wrong", "_law_at", "_law_lines_here", "_law_many", "_law_rows", "_law_thirteen", "_law_twelve"]) rfl (by decide) (by decide) (λB H'=>?_) h)
 exact(aC (bG 1 sc_law.nd (aP T.c__law_form hr (ak (nJ (ao 0) (gW az) (gW az)) aA))) (aC (bG 2 sc_law.nd (aP T.c__law_text hr (ak (ao 1) aA))) (aC (dI (aW (lU hr (aP T.c__law_refused hr (ak (ao 2) aA)) (lz az))) (aM (bH q9)) cu) (aC (pO [3,4,5] (jb (cI (bF (ak (aP T.c__law_cell_at hr (ak (ao 0) (ak az aA))) aA)) (nJ (ao 0) (gW az) (gW az))) (λ_=>by intro z;cases z)) (vV 3 sc_law.nd) (aC (Gx (aP T.c__law_lines hr (ak (ao 1) (ak (ao 3) aA))) (vW (fO 4 sc_law.nd (fO 5 sc_law.nd mQ)))) (aM (dI (aW (lU hr (aP T.c__law_refused hr (ak (ao 4) aA)) (ao 5))) (aM (bH q9)) cu))) PassesOwn.never) (aC (bG 6 sc_law.nd (aP T.c__law_unended hr (ak (ao 1) aA))) (aC (Gx (bc hr (ao 6) (e_ (aP T.c__law_cell_at hr (ak (ao 0) (ak az aA))) (cJ T.z_len (ao 6)))) (vW (fO 4 sc_law.nd (fO 5 sc_law.nd mQ)))) (aC (dI (aW (lU hr (aP T.c__law_refused hr (ak (ao 4) aA)) (ao 5))) (aM (bH q9)) cu) (aC (bG 7 sc_law.nd (e_ (aP T.c__law_cell_at hr (ak (ao 0) (ak az aA))) az)) (aC (bG 8 sc_law.nd (SE.val (bF (jP rfl)))) (aC (bG 9 sc_law.nd (c7 aB (cI (bF (ak aB aA)) (gY (osc:=(au jJ)) (ON:=["_law_script", "_law_form_here", "_law_line", "_law_cell", "_law_wrong", "_law_at", "_law_lines_here", "_law_many", "_law_rows", "_law_thirteen", "_law_twelve"]) (N:=["_law_k", "_law_rows", "_law_many"]) (cap:=[none,some 8,some 7]) ⟨rfl,by decide +kernel,by decide +kernel,by decide +kernel,by decide +kernel⟩ (jL 0) (Gv T.z_range az) (λ_ _ _ _=>dh (i:=0) (show (["_law_k", "_law_rows", "_law_many"]:List Str).Nodup by decide +kernel) rfl (Or.inl rfl)) (λ_ _ _ _=>gM) (λ_ _ _ _=>(bc hr (ao 1) (e_ (cG (ao 2) (ao 0)) az))))))) (aC (bG 10 sc_law.nd (c7 aB (cI (bF (ak aB aA)) (gY (osc:=(au jJ)) (ON:=["_law_script", "_law_form_here", "_law_line", "_law_cell", "_law_wrong", "_law_at", "_law_lines_here", "_law_many", "_law_rows", "_law_thirteen", "_law_twelve"]) (N:=["_law_k", "_law_rows", "_law_many"]) (cap:=[none,some 8,some 7]) ⟨rfl,by decide +kernel,by decide +kernel,by decide +kernel,by decide +kernel⟩ (jL 0) (Gv T.z_range az) (λ_ _ _ _=>dh (i:=0) (show (["_law_k", "_law_rows", "_law_many"]:List Str).Nodup by decide +kernel) rfl (Or.inl rfl)) (λ_ _ _ _=>gM) (λ_ _ _ _=>(bc hr (ao 1) (e_ (cG (ao 2) (ao 0)) az))))))) (aM (bH (jw (cQ (cD hr (aP T.c__law_refused hr (ak (ao 9) aA)) az)) (jw (cQ (cD hr (aP T.c__law_refused hr (ak (ao 10) aA)) (lz az))) (jc (cQ (cD hr (aP T.c__law_refused hr (ak (ao 2) aA)) (lz az)))))))))))))))))))
end
end My
namespace My
open PySem L2 MR
def vf (K:PySem.W.Frag):Sp:=λvs H Q _=>∃ (a:Addr) (ns:List Int),vs=[V.ref a]/\Only H/\SqL K H a (ns.map V.int)/\ns.length<=63/\∀ J,Q (.bl true) J
theorem Mq {K:PySem.W.Frag}{cl:Nat->Addr}{vs:List V}{H:Hp}{Q:VK}{E:XK}(h:vf K vs H Q E):spM ⟨K,cl⟩ rM false vs H Q E:=by
 obtain⟨a,ns,rfl,ho,hs,hl,k⟩:=h
 have ri:Reps ⟨K,cl⟩ (λ_=>True) H (ns.map V.int) (ns.map PV.int):=sJ _ _ (λi=>.int i) ns
 refine⟨λ_=>True,[.frz (ns.map PV.int)],.bl true,.cons ?_ .nil,law_true ns hl,λv H' s r=>?_⟩
 ·rcases hs with (hs | ⟨o,hs⟩) | hs
  ·rcases ho a with z | ⟨o,xs,z⟩
   ·rw[z] at hs;cases hs
   ·rw[z] at hs;cases hs
  ·exact .lstF hs ri
  ·exact .lstK (.inr hs) ri
 ·cases r
  exact k _
theorem all_mk {l:PySem.W.OpenLaw}{w:World}{K:PySem.W.Frag}{h:Heap}{mg:Str->Option Value}{fa:Addr}(X:K.In h) (G:h.Ns mainGlobals mg) (hfa:mg "law" = some (.ref fa))
  (aC_LiltError:PySem.W.nsIn K mainGlobals "LiltError" = some (some (.ref C_LiltError)))
  (aC_NoForm:PySem.W.nsIn K mainGlobals "NoForm" = some (some (.ref C_NoForm)))
  (aC_NoMetre:PySem.W.nsIn K mainGlobals "NoMetre" = some (some (.ref C_NoMetre)))
  (aC_NoName:PySem.W.nsIn K mainGlobals "NoName" = some (some (.ref C_NoName)))
  (aC_NoReading:PySem.W.nsIn K mainGlobals "NoReading" = some (some (.ref C_NoReading)))
  (aC_NoRow:PySem.W.nsIn K mainGlobals "NoRow" = some (some (.ref C_NoRow)))
  (aC_NoRule:PySem.W.nsIn K mainGlobals "NoRule" = some (some (.ref C_NoRule)))
  (aC_NoWord:PySem.W.nsIn K mainGlobals "NoWord" = some (some (.ref C_NoWord)))
  (a_0:PySem.W.nsIn K mainGlobals "_law_roots" = some (some (.ref f_0)))
  (l_0:K.lookup f_0=some ⟨oc_0,od_0,.func (PySem.W.fnOf "_law_roots" "_law_roots" (bu gC) (aR gC) (au gC) .none kV_0 dc_0 pm_0 an_0 cd_0 ct_0),sl_0⟩)
  (c_0:PySem.W.codeIn K cd_0 "_law_roots" = true)
  (k_0:PySem.W.keepIn K (.ref f_0)=true)
  (a_1:PySem.W.nsIn K mainGlobals "_law_is_low" = some (some (.ref f_1)))
  (l_1:K.lookup f_1=some ⟨oc_1,od_1,.func (PySem.W.fnOf "_law_is_low" "_law_is_low" (bu eF) (aR eF) (au eF) .none kV_1 dc_1 pm_1 an_1 cd_1 ct_1),sl_1⟩)
  (c_1:PySem.W.codeIn K cd_1 "_law_is_low" = true)
  (k_1:PySem.W.keepIn K (.ref f_1)=true)
  (a_2:PySem.W.nsIn K mainGlobals "_law_name" = some (some (.ref f_2)))
  (l_2:K.lookup f_2=some ⟨oc_2,od_2,.func (PySem.W.fnOf "_law_name" "_law_name" (bu gZ) (aR gZ) (au gZ) .none kV_2 dc_2 pm_2 an_2 cd_2 ct_2),sl_2⟩)
  (c_2:PySem.W.codeIn K cd_2 "_law_name" = true)
  (k_2:PySem.W.keepIn K (.ref f_2)=true)
  (a_3:PySem.W.nsIn K mainGlobals "_law_bond" = some (some (.ref f_3)))
  (l_3:K.lookup f_3=some ⟨oc_3,od_3,.func (PySem.W.fnOf "_law_bond" "_law_bond" (bu g8) (aR g8) (au g8) .none kV_3 dc_3 pm_3 an_3 cd_3 ct_3),sl_3⟩)
  (c_3:PySem.W.codeIn K cd_3 "_law_bond" = true)
  (k_3:PySem.W.keepIn K (.ref f_3)=true)
  (a_4:PySem.W.nsIn K mainGlobals "_law_next" = some (some (.ref f_4)))
  (l_4:K.lookup f_4=some ⟨oc_4,od_4,.func (PySem.W.fnOf "_law_next" "_law_next" (bu eO) (aR eO) (au eO) .none kV_4 dc_4 pm_4 an_4 cd_4 ct_4),sl_4⟩)
  (c_4:PySem.W.codeIn K cd_4 "_law_next" = true)
  (k_4:PySem.W.keepIn K (.ref f_4)=true)
  (a_5:PySem.W.nsIn K mainGlobals "_law_form" = some (some (.ref f_5)))
  (l_5:K.lookup f_5=some ⟨oc_5,od_5,.func (PySem.W.fnOf "_law_form" "_law_form" (bu fU) (aR fU) (au fU) .none kV_5 dc_5 pm_5 an_5 cd_5 ct_5),sl_5⟩)
  (c_5:PySem.W.codeIn K cd_5 "_law_form" = true)
  (k_5:PySem.W.keepIn K (.ref f_5)=true)
  (a_6:PySem.W.nsIn K mainGlobals "_law_text" = some (some (.ref f_6)))
  (l_6:K.lookup f_6=some ⟨oc_6,od_6,.func (PySem.W.fnOf "_law_text" "_law_text" (bu fW) (aR fW) (au fW) .none kV_6 dc_6 pm_6 an_6 cd_6 ct_6),sl_6⟩)
  (c_6:PySem.W.codeIn K cd_6 "_law_text" = true)
  (k_6:PySem.W.keepIn K (.ref f_6)=true)
  (a_7:PySem.W.nsIn K mainGlobals "_law_unended" = some (some (.ref f_7)))
  (l_7:K.lookup f_7=some ⟨oc_7,od_7,.func (PySem.W.fnOf "_law_unended" "_law_unended" (bu dO) (aR dO) (au dO) .none kV_7 dc_7 pm_7 an_7 cd_7 ct_7),sl_7⟩)
  (c_7:PySem.W.codeIn K cd_7 "_law_unended" = true)
  (k_7:PySem.W.keepIn K (.ref f_7)=true)
  (a_8:PySem.W.nsIn K mainGlobals "ending_of" = some (some (.ref f_8)))
  (l_8:K.lookup f_8=some ⟨oc_8,od_8,.func (PySem.W.fnOf "ending_of" "ending_of" (bu fX) (aR fX) (au fX) .none kV_8 dc_8 pm_8 an_8 cd_8 ct_8),sl_8⟩)
  (c_8:PySem.W.codeIn K cd_8 "ending_of" = true)
  (k_8:PySem.W.keepIn K (.ref f_8)=true)
  (a_9:PySem.W.nsIn K mainGlobals "is_open" = some (some (.ref f_9)))
  (l_9:K.lookup f_9=some ⟨oc_9,od_9,.func (PySem.W.fnOf "is_open" "is_open" (bu jq) (aR jq) (au jq) .none kV_9 dc_9 pm_9 an_9 cd_9 ct_9),sl_9⟩)
  (c_9:PySem.W.codeIn K cd_9 "is_open" = true)
  (k_9:PySem.W.keepIn K (.ref f_9)=true)
  (a_10:PySem.W.nsIn K mainGlobals "read_ending" = some (some (.ref f_10)))
  (l_10:K.lookup f_10=some ⟨oc_10,od_10,.func (PySem.W.fnOf "read_ending" "read_ending" (bu fK) (aR fK) (au fK) .none kV_10 dc_10 pm_10 an_10 cd_10 ct_10),sl_10⟩)
  (c_10:PySem.W.codeIn K cd_10 "read_ending" = true)
  (k_10:PySem.W.keepIn K (.ref f_10)=true)
  (a_11:PySem.W.nsIn K mainGlobals "is_row_number" = some (some (.ref f_11)))
  (l_11:K.lookup f_11=some ⟨oc_11,od_11,.func (PySem.W.fnOf "is_row_number" "is_row_number" (bu dG) (aR dG) (au dG) .none kV_11 dc_11 pm_11 an_11 cd_11 ct_11),sl_11⟩)
  (c_11:PySem.W.codeIn K cd_11 "is_row_number" = true)
  (k_11:PySem.W.keepIn K (.ref f_11)=true)
  (a_12:PySem.W.nsIn K mainGlobals "is_name" = some (some (.ref f_12)))
  (l_12:K.lookup f_12=some ⟨oc_12,od_12,.func (PySem.W.fnOf "is_name" "is_name" (bu iM) (aR iM) (au iM) .none kV_12 dc_12 pm_12 an_12 cd_12 ct_12),sl_12⟩)
  (c_12:PySem.W.codeIn K cd_12 "is_name" = true)
  (k_12:PySem.W.keepIn K (.ref f_12)=true)
  (a_13:PySem.W.nsIn K mainGlobals "is_letter" = some (some (.ref f_13)))
  (l_13:K.lookup f_13=some ⟨oc_13,od_13,.func (PySem.W.fnOf "is_letter" "is_letter" (bu g_) (aR g_) (au g_) .none kV_13 dc_13 pm_13 an_13 cd_13 ct_13),sl_13⟩)
  (c_13:PySem.W.codeIn K cd_13 "is_letter" = true)
  (k_13:PySem.W.keepIn K (.ref f_13)=true)
  (a_14:PySem.W.nsIn K mainGlobals "is_bond" = some (some (.ref f_14)))
  (l_14:K.lookup f_14=some ⟨oc_14,od_14,.func (PySem.W.fnOf "is_bond" "is_bond" (bu jr) (aR jr) (au jr) .none kV_14 dc_14 pm_14 an_14 cd_14 ct_14),sl_14⟩)
  (c_14:PySem.W.codeIn K cd_14 "is_bond" = true)
  (k_14:PySem.W.keepIn K (.ref f_14)=true)
  (a_15:PySem.W.nsIn K mainGlobals "read_part" = some (some (.ref f_15)))
  (l_15:K.lookup f_15=some ⟨oc_15,od_15,.func (PySem.W.fnOf "read_part" "read_part" (bu h_) (aR h_) (au h_) .none kV_15 dc_15 pm_15 an_15 cd_15 ct_15),sl_15⟩)
  (c_15:PySem.W.codeIn K cd_15 "read_part" = true)
  (k_15:PySem.W.keepIn K (.ref f_15)=true)
  (a_16:PySem.W.nsIn K mainGlobals "cut_form" = some (some (.ref f_16)))
  (l_16:K.lookup f_16=some ⟨oc_16,od_16,.func (PySem.W.fnOf "cut_form" "cut_form" (bu i_) (aR i_) (au i_) .none kV_16 dc_16 pm_16 an_16 cd_16 ct_16),sl_16⟩)
  (c_16:PySem.W.codeIn K cd_16 "cut_form" = true)
  (k_16:PySem.W.keepIn K (.ref f_16)=true)
  (a_17:PySem.W.nsIn K mainGlobals "names_row" = some (some (.ref f_17)))
  (l_17:K.lookup f_17=some ⟨oc_17,od_17,.func (PySem.W.fnOf "names_row" "names_row" (bu fY) (aR fY) (au fY) .none kV_17 dc_17 pm_17 an_17 cd_17 ct_17),sl_17⟩)
  (c_17:PySem.W.codeIn K cd_17 "names_row" = true)
  (k_17:PySem.W.keepIn K (.ref f_17)=true)
  (a_18:PySem.W.nsIn K mainGlobals "goes_on" = some (some (.ref f_18)))
  (l_18:K.lookup f_18=some ⟨oc_18,od_18,.func (PySem.W.fnOf "goes_on" "goes_on" (bu iQ) (aR iQ) (au iQ) .none kV_18 dc_18 pm_18 an_18 cd_18 ct_18),sl_18⟩)
  (c_18:PySem.W.codeIn K cd_18 "goes_on" = true)
  (k_18:PySem.W.keepIn K (.ref f_18)=true)
  (a_19:PySem.W.nsIn K mainGlobals "read_form" = some (some (.ref f_19)))
  (l_19:K.lookup f_19=some ⟨oc_19,od_19,.func (PySem.W.fnOf "read_form" "read_form" (bu ig) (aR ig) (au ig) .none kV_19 dc_19 pm_19 an_19 cd_19 ct_19),sl_19⟩)
  (c_19:PySem.W.codeIn K cd_19 "read_form" = true)
  (k_19:PySem.W.keepIn K (.ref f_19)=true)
  (a_20:PySem.W.nsIn K mainGlobals "_law_refused" = some (some (.ref f_20)))
  (l_20:K.lookup f_20=some ⟨oc_20,od_20,.func (PySem.W.fnOf "_law_refused" "_law_refused" (bu eV) (aR eV) (au eV) .none kV_20 dc_20 pm_20 an_20 cd_20 ct_20),sl_20⟩)
  (c_20:PySem.W.codeIn K cd_20 "_law_refused" = true)
  (k_20:PySem.W.keepIn K (.ref f_20)=true)
  (a_21:PySem.W.nsIn K mainGlobals "_law_bad_part" = some (some (.ref f_21)))
  (l_21:K.lookup f_21=some ⟨oc_21,od_21,.func (PySem.W.fnOf "_law_bad_part" "_law_bad_part" (bu bM) (aR bM) (au bM) .none kV_21 dc_21 pm_21 an_21 cd_21 ct_21),sl_21⟩)
  (c_21:PySem.W.codeIn K cd_21 "_law_bad_part" = true)
  (k_21:PySem.W.keepIn K (.ref f_21)=true)
  (a_22:PySem.W.nsIn K mainGlobals "_law_lines" = some (some (.ref f_22)))
  (l_22:K.lookup f_22=some ⟨oc_22,od_22,.func (PySem.W.fnOf "_law_lines" "_law_lines" (bu gF) (aR gF) (au gF) .none kV_22 dc_22 pm_22 an_22 cd_22 ct_22),sl_22⟩)
  (c_22:PySem.W.codeIn K cd_22 "_law_lines" = true)
  (k_22:PySem.W.keepIn K (.ref f_22)=true)
  (a_23:PySem.W.nsIn K mainGlobals "_law_cell_at" = some (some (.ref f_23)))
  (l_23:K.lookup f_23=some ⟨oc_23,od_23,.func (PySem.W.fnOf "_law_cell_at" "_law_cell_at" (bu eX) (aR eX) (au eX) .none kV_23 dc_23 pm_23 an_23 cd_23 ct_23),sl_23⟩)
  (c_23:PySem.W.codeIn K cd_23 "_law_cell_at" = true)
  (k_23:PySem.W.keepIn K (.ref f_23)=true)
  (a_24:PySem.W.nsIn K mainGlobals "law" = some (some (.ref f_24)))
  (l_24:K.lookup f_24=some ⟨oc_24,od_24,.func (PySem.W.fnOf "law" "law" (bu jJ) (aR jJ) (au jJ) .none kV_24 dc_24 pm_24 an_24 cd_24 ct_24),sl_24⟩)
  (c_24:PySem.W.codeIn K cd_24 "law" = true)
  (k_24:PySem.W.keepIn K (.ref f_24)=true)
  (a_25:PySem.W.nsIn K mainGlobals "_law_others" = some (some (.ref f_25)))
  (l_25:K.lookup f_25=some ⟨oc_25,od_25,.func (PySem.W.fnOf "_law_others" "_law_others" (bu fL) (aR fL) (au fL) .none kV_25 dc_25 pm_25 an_25 cd_25 ct_25),sl_25⟩)
  (c_25:PySem.W.codeIn K cd_25 "_law_others" = true)
  (k_25:PySem.W.keepIn K (.ref f_25)=true)
  (a_xNoForm:PySem.W.findIn K (.ref C_NoForm) "__init__" = some (some (.ref fx_NoForm)))
  (i_xNoForm:PySem.W.isFn K (.ref fx_NoForm)=true)
  (l_xNoForm:K.lookup fx_NoForm=some ⟨oc_xNoForm,od_xNoForm,.func (PySem.W.fnOf "__init__" "NoForm.__init__" (bu dq) (aR dq) (au dq) .none kV_xNoForm dc_xNoForm pm_xNoForm an_xNoForm cd_xNoForm ct_xNoForm),sl_xNoForm⟩)
  (c_xNoForm:PySem.W.codeIn K cd_xNoForm "NoForm.__init__" = true)
  (k_xNoForm:PySem.W.keepIn K (.ref fx_NoForm)=true)
  (z_ValueError:PySem.W.nsIn K mainGlobals "ValueError" = some none)
  (z_all:PySem.W.nsIn K mainGlobals "all" = some none)
  (z_any:PySem.W.nsIn K mainGlobals "any" = some none)
  (z_bool:PySem.W.nsIn K mainGlobals "bool" = some none)
  (z_enumerate:PySem.W.nsIn K mainGlobals "enumerate" = some none)
  (z_int:PySem.W.nsIn K mainGlobals "int" = some none)
  (z_isinstance:PySem.W.nsIn K mainGlobals "isinstance" = some none)
  (z_len:PySem.W.nsIn K mainGlobals "len" = some none)
  (z_max:PySem.W.nsIn K mainGlobals "max" = some none)
  (z_range:PySem.W.nsIn K mainGlobals "range" = some none)
  (z_str:PySem.W.nsIn K mainGlobals "str" = some none)
  (z_sum:PySem.W.nsIn K mainGlobals "sum" = some none)
  (z_tuple:PySem.W.nsIn K mainGlobals "tuple" = some none)
  (g_HIGHS:PySem.W.nsIn K mainGlobals "HIGHS" = some (some (.ref a_HIGHS)))
  (lk_HIGHS:K.lookup a_HIGHS=some ⟨.type "tuple",o_HIGHS,.seq #[.str "1" t_HIGHS_0,.str "2" t_HIGHS_1,.str "3" t_HIGHS_2,.str "4" t_HIGHS_3] n_HIGHS,sl_HIGHS⟩)
  (g_LETTERS:PySem.W.nsIn K mainGlobals "LETTERS" = some (some (.str "abcdefghijklmnopqrstuvwxyz" t_LETTERS)))
  (g_LOWS:PySem.W.nsIn K mainGlobals "LOWS" = some (some (.ref a_LOWS)))
  (lk_LOWS:K.lookup a_LOWS=some ⟨.type "tuple",o_LOWS,.seq #[.str "0" t_LOWS_0,.str "1" t_LOWS_1,.str "2" t_LOWS_2,.str "3" t_LOWS_3,.str "4" t_LOWS_4] n_LOWS,sl_LOWS⟩)
  (g_MOST_ROWS:PySem.W.nsIn K mainGlobals "MOST_ROWS" = some (some (.int 12 t_MOST_ROWS)))
  (g_MOST_SIGNS:PySem.W.nsIn K mainGlobals "MOST_SIGNS" = some (some (.int 8 t_MOST_SIGNS)))
  (g_NO_BOND:PySem.W.nsIn K mainGlobals "NO_BOND" = some (some (.str "-" t_NO_BOND)))
  (g_OPENING:PySem.W.nsIn K mainGlobals "OPENING" = some (some (.ref a_OPENING)))
  (lk_OPENING:K.lookup a_OPENING=some ⟨.type "tuple",o_OPENING,.seq #[.str "(" t_OPENING_0] n_OPENING,sl_OPENING⟩)
  (g_PARTING:PySem.W.nsIn K mainGlobals "PARTING" = some (some (.str "; " t_PARTING)))
  (xa_NoForm:PySem.W.findIn K (.ref C_NoForm) "__getattribute__" = some (some (.builtin "BaseException.__getattribute__")))
  (xb_NoForm:PySem.W.findIn K (.ref C_NoForm) "__getattr__" = some none)
  (xd_NoForm:PySem.W.findIn K (.ref C_NoForm) "__class__" = some (some (.builtin "object.__class__")))
  (xe_NoForm:PySem.W.mroIn K C_NoForm (.type "object")=some true)
  (xf_NoForm:PySem.W.mroIn K C_NoForm (.type "BaseException")=some true)
  (xk_NoForm_NoForm:PySem.W.kitOne K (.ref C_NoForm) (.ref C_NoForm)=some true)
  (xk_NoForm_NoMetre:PySem.W.kitOne K (.ref C_NoForm) (.ref C_NoMetre)=some false)
  (xk_NoForm_NoName:PySem.W.kitOne K (.ref C_NoForm) (.ref C_NoName)=some false)
  (xk_NoForm_NoReading:PySem.W.kitOne K (.ref C_NoForm) (.ref C_NoReading)=some false)
  (xk_NoForm_NoRow:PySem.W.kitOne K (.ref C_NoForm) (.ref C_NoRow)=some false)
  (xk_NoForm_NoRule:PySem.W.kitOne K (.ref C_NoForm) (.ref C_NoRule)=some false)
  (xk_NoForm_NoWord:PySem.W.kitOne K (.ref C_NoForm) (.ref C_NoWord)=some false)
  (xk_NoForm_ValueError:PySem.W.kitOne K (.ref C_NoForm) (.type "ValueError")=some true)
  (xk_int_bool:PySem.W.kitOne K (.type "int") (.type "bool")=some false)
  (xk_int_int:PySem.W.kitOne K (.type "int") (.type "int")=some true)
  (xm_NoForm_LiltError:PySem.W.exmOne K (.ref C_NoForm) (.ref C_LiltError)=some true)
  (xs_NoForm:jC K C_NoForm fx_NoForm=true)
  (xt_LiltError:PySem.W.specialIn K (.ref C_LiltError) "__getattribute__" = some (some (.builtin "type.__getattribute__")))
  (xu_LiltError:PySem.W.readsIn K C_LiltError (.type "type")=true)
  (xv_LiltError:PySem.W.findCls K (.ref C_LiltError) (.type "type") "__init__" = some (.val (.builtin "ValueError.__init__"))):
  ∃ fd:FuncData,(∀ (s:Shared) (v:Value),BindsTo s fd ⟨[v],[]⟩ [("_law_script",v)])/\∀ base:Heap,K.In base->base.Ns mainGlobals mg->FnOk l.prog w K mg base CX0 6 fa fd ["_law_script"] (vf K):=by
 have e:=hfa.symm.trans (PySem.W.mg_of X G a_24)
 cases e
 have F_0:=b8 (st:=gC) l_0 c_0 k_0
 have b_0:=F_0.binds (ps:=["_law_parts"]) λ_ _ _ _ _ _ us hl=>MR.len1 us hl (λ_=>rfl)
 have F_1:=b8 (st:=eF) l_1 c_1 k_1
 have b_1:=F_1.binds (ps:=["_law_parts"]) λ_ _ _ _ _ _ us hl=>MR.len1 us hl (λ_=>rfl)
 have F_2:=b8 (st:=gZ) l_2 c_2 k_2
 have b_2:=F_2.binds (ps:=["_law_number"]) λ_ _ _ _ _ _ us hl=>MR.len1 us hl (λ_=>rfl)
 have F_3:=b8 (st:=g8) l_3 c_3 k_3
 have b_3:=F_3.binds (ps:=["_law_number"]) λ_ _ _ _ _ _ us hl=>MR.len1 us hl (λ_=>rfl)
 have F_4:=b8 (st:=eO) l_4 c_4 k_4
 have b_4:=F_4.binds (ps:=["_law_parts", "_law_cell"]) λ_ _ _ _ _ _ us hl=>MR.len2 us hl (λ_ _=>rfl)
 have F_5:=b8 (st:=fU) l_5 c_5 k_5
 have b_5:=F_5.binds (ps:=["_law_cells"]) λ_ _ _ _ _ _ us hl=>MR.len1 us hl (λ_=>rfl)
 have F_6:=b8 (st:=fW) l_6 c_6 k_6
 have b_6:=F_6.binds (ps:=["_law_form_here"]) λ_ _ _ _ _ _ us hl=>MR.len1 us hl (λ_=>rfl)
 have F_7:=b8 (st:=dO) l_7 c_7 k_7
 have b_7:=F_7.binds (ps:=["_law_form_here"]) λ_ _ _ _ _ _ us hl=>MR.len1 us hl (λ_=>rfl)
 have F_8:=b8 (st:=fX) l_8 c_8 k_8
 have b_8:=F_8.binds (ps:=["form"]) λ_ _ _ _ _ _ us hl=>MR.len1 us hl (λ_=>rfl)
 have F_9:=b8 (st:=jq) l_9 c_9 k_9
 have b_9:=F_9.binds (ps:=["form"]) λ_ _ _ _ _ _ us hl=>MR.len1 us hl (λ_=>rfl)
 have F_10:=b8 (st:=fK) l_10 c_10 k_10
 have b_10:=F_10.binds (ps:=["low", "high"]) λ_ _ _ _ _ _ us hl=>MR.len2 us hl (λ_ _=>rfl)
 have F_11:=b8 (st:=dG) l_11 c_11 k_11
 have b_11:=F_11.binds (ps:=["text"]) λ_ _ _ _ _ _ us hl=>MR.len1 us hl (λ_=>rfl)
 have F_12:=b8 (st:=iM) l_12 c_12 k_12
 have b_12:=F_12.binds (ps:=["text"]) λ_ _ _ _ _ _ us hl=>MR.len1 us hl (λ_=>rfl)
 have F_13:=b8 (st:=g_) l_13 c_13 k_13
 have b_13:=F_13.binds (ps:=["text"]) λ_ _ _ _ _ _ us hl=>MR.len1 us hl (λ_=>rfl)
 have F_14:=b8 (st:=jr) l_14 c_14 k_14
 have b_14:=F_14.binds (ps:=["text"]) λ_ _ _ _ _ _ us hl=>MR.len1 us hl (λ_=>rfl)
 have F_15:=b8 (st:=h_) l_15 c_15 k_15
 have b_15:=F_15.binds (ps:=["text"]) λ_ _ _ _ _ _ us hl=>MR.len1 us hl (λ_=>rfl)
 have F_16:=b8 (st:=i_) l_16 c_16 k_16
 have b_16:=F_16.binds (ps:=["form"]) λ_ _ _ _ _ _ us hl=>MR.len1 us hl (λ_=>rfl)
 have F_17:=b8 (st:=fY) l_17 c_17 k_17
 have b_17:=F_17.binds (ps:=["form", "number"]) λ_ _ _ _ _ _ us hl=>MR.len2 us hl (λ_ _=>rfl)
 have F_18:=b8 (st:=iQ) l_18 c_18 k_18
 have b_18:=F_18.binds (ps:=["form", "part"]) λ_ _ _ _ _ _ us hl=>MR.len2 us hl (λ_ _=>rfl)
 have F_19:=b8 (st:=ig) l_19 c_19 k_19
 have b_19:=F_19.binds (ps:=["text"]) λ_ _ _ _ _ _ us hl=>MR.len1 us hl (λ_=>rfl)
 have F_20:=b8 (st:=eV) l_20 c_20 k_20
 have b_20:=F_20.binds (ps:=["_law_line"]) λ_ _ _ _ _ _ us hl=>MR.len1 us hl (λ_=>rfl)
 have F_21:=b8 (st:=bM) l_21 c_21 k_21
 have b_21:=F_21.binds (ps:=["_law_form_here", "_law_at", "_law_cell"]) λ_ _ _ _ _ _ us hl=>MR.len3 us hl (λ_ _ _=>rfl)
 have F_22:=b8 (st:=gF) l_22 c_22 k_22
 have b_22:=F_22.binds (ps:=["_law_form_here", "_law_cell"]) λ_ _ _ _ _ _ us hl=>MR.len2 us hl (λ_ _=>rfl)
 have F_23:=b8 (st:=eX) l_23 c_23 k_23
 have b_23:=F_23.binds (ps:=["_law_script", "_law_k"]) λ_ _ _ _ _ _ us hl=>MR.len2 us hl (λ_ _=>rfl)
 have F_24:=b8 (st:=jJ) l_24 c_24 k_24
 have b_24:=F_24.binds (ps:=["_law_script"]) λ_ _ _ _ _ _ us hl=>MR.len1 us hl (λ_=>rfl)
 have F_25:=b8 (st:=fL) l_25 c_25 k_25
 have b_25:=F_25.binds (ps:=["_law_e"]) λ_ _ _ _ _ _ us hl=>MR.len1 us hl (λ_=>rfl)
 refine⟨PySem.W.fnOf "law" "law" (bu jJ) (aR jJ) (au jJ) .none kV_24 dc_24 pm_24 an_24 cd_24 ct_24,λs v=>.of_eq rfl,λbase _ _=>?_⟩
 let cl:Nat->Addr:=λn=>match n with | 10=>C_LiltError | 13=>C_NoForm | 12=>C_NoMetre | 16=>C_NoName | 15=>C_NoReading | 17=>C_NoRow | 11=>C_NoRule | 14=>C_NoWord | _=>0
 let A:Adr:={ a_HIGHS:=a_HIGHS,t_LETTERS:=t_LETTERS,a_LOWS:=a_LOWS,t_MOST_ROWS:=t_MOST_ROWS,t_MOST_SIGNS:=t_MOST_SIGNS,t_NO_BOND:=t_NO_BOND,a_OPENING:=a_OPENING,t_PARTING:=t_PARTING }
 have r_HIGHS:∀ (B:Addr->Prop) (H:Hp),Rep ⟨K,cl⟩ B H (.ref a_HIGHS) pW:=λB H=>.tupK (vs:=[V.str "1",V.str "2",V.str "3",V.str "4"]) (.inr ⟨_,_,_,lk_HIGHS,rfl,rfl,(by show 4<=sizeLine;decide),(.cons ⟨_,rfl⟩ (.cons ⟨_,rfl⟩ (.cons ⟨_,rfl⟩ (.cons ⟨_,rfl⟩ .nil))))⟩) (.cons (.str _) (.cons (.str _) (.cons (.str _) (.cons (.str _) .nil))))
 have r_LOWS:∀ (B:Addr->Prop) (H:Hp),Rep ⟨K,cl⟩ B H (.ref a_LOWS) rH:=λB H=>.tupK (vs:=[V.str "0",V.str "1",V.str "2",V.str "3",V.str "4"]) (.inr ⟨_,_,_,lk_LOWS,rfl,rfl,(by show 5<=sizeLine;decide),(.cons ⟨_,rfl⟩ (.cons ⟨_,rfl⟩ (.cons ⟨_,rfl⟩ (.cons ⟨_,rfl⟩ (.cons ⟨_,rfl⟩ .nil)))))⟩) (.cons (.str _) (.cons (.str _) (.cons (.str _) (.cons (.str _) (.cons (.str _) .nil)))))
 have r_OPENING:∀ (B:Addr->Prop) (H:Hp),Rep ⟨K,cl⟩ B H (.ref a_OPENING) aK:=λB H=>.tupK (vs:=[V.str "("]) (.inr ⟨_,_,_,lk_OPENING,rfl,rfl,(by show 1<=sizeLine;decide),(.cons ⟨_,rfl⟩ .nil)⟩) (.cons (.str _) .nil)
 have F_xNoForm:=b8 (st:=dq) l_xNoForm c_xNoForm k_xNoForm
 have b_xNoForm:=F_xNoForm.binds (ps:=["self", "at"]) λ_ _ _ _ _ _ us hl=>MR.len2 us hl (λ_ _=>rfl)
 have kxi_NoForm:CalXi l.prog w K mg base (cl 13) 1:=⟨_,_,_,_,xU (cl:=cl) F_xNoForm xs_NoForm ⟨xt_LiltError,xu_LiltError,xv_LiltError,by decide +kernel⟩ (PySem.W.mg_of X G aC_LiltError),b_xNoForm,i_xNoForm,xs_NoForm⟩
 have kq__law_others_NoForm:=λd=>cH F_25 (PySem.W.mg_of X G a_25) b_25 (mC (P:=l.prog) (w:=w) (mg:=mg) (base:=base) (cl:=cl) (A:=A) F_25 ⟨PySem.W.mg_none_of X G z_isinstance,xk_NoForm_NoMetre,xk_NoForm_NoName,xk_NoForm_NoReading,xk_NoForm_NoRow,xk_NoForm_NoRule,xk_NoForm_NoWord,PySem.W.mg_of X G aC_NoMetre,PySem.W.mg_of X G aC_NoName,PySem.W.mg_of X G aC_NoReading,PySem.W.mg_of X G aC_NoRow,PySem.W.mg_of X G aC_NoRule,PySem.W.mg_of X G aC_NoWord,⟨xa_NoForm,xb_NoForm,xd_NoForm,xe_NoForm,xf_NoForm⟩⟩ d)
 have G_0:=uU (P:=l.prog) (w:=w) (mg:=mg) (base:=base) (cl:=cl) (A:=A) F_0 ⟨trivial⟩
 have k__law_roots:=cH F_0 (PySem.W.mg_of X G a_0) b_0 G_0
 have G_1:=ul (P:=l.prog) (w:=w) (mg:=mg) (base:=base) (cl:=cl) (A:=A) F_1 ⟨trivial⟩
 have k__law_is_low:=cH F_1 (PySem.W.mg_of X G a_1) b_1 G_1
 have G_2:=xj (P:=l.prog) (w:=w) (mg:=mg) (base:=base) (cl:=cl) (A:=A) F_2 ⟨trivial⟩
 have k__law_name:=cH F_2 (PySem.W.mg_of X G a_2) b_2 G_2
 have G_3:=xm (P:=l.prog) (w:=w) (mg:=mg) (base:=base) (cl:=cl) (A:=A) F_3 ⟨trivial⟩
 have k__law_bond:=cH F_3 (PySem.W.mg_of X G a_3) b_3 G_3
 have G_4:=xn (P:=l.prog) (w:=w) (mg:=mg) (base:=base) (cl:=cl) (A:=A) F_4 ⟨PySem.W.mg_none_of X G z_len,PySem.W.mg_none_of X G z_max,k__law_bond,k__law_is_low,k__law_name,k__law_roots⟩
 have k__law_next:=cH F_4 (PySem.W.mg_of X G a_4) b_4 G_4
 have G_5:=xq (P:=l.prog) (w:=w) (mg:=mg) (base:=base) (cl:=cl) (A:=A) F_5 ⟨PySem.W.mg_none_of X G z_tuple,k__law_next⟩
 have k__law_form:=cH F_5 (PySem.W.mg_of X G a_5) b_5 G_5
 have G_6:=xr (P:=l.prog) (w:=w) (mg:=mg) (base:=base) (cl:=cl) (A:=A) F_6 ⟨PySem.W.mg_none_of X G z_int,PySem.W.mg_none_of X G z_str⟩
 have k__law_text:=cH F_6 (PySem.W.mg_of X G a_6) b_6 G_6
 have G_7:=rZ (P:=l.prog) (w:=w) (mg:=mg) (base:=base) (cl:=cl) (A:=A) F_7 ⟨PySem.W.mg_none_of X G z_len,PySem.W.mg_none_of X G z_str,PySem.W.mg_none_of X G z_tuple,k__law_text⟩
 have k__law_unended:=cH F_7 (PySem.W.mg_of X G a_7) b_7 G_7
 have G_8:=xu (P:=l.prog) (w:=w) (mg:=mg) (base:=base) (cl:=cl) (A:=A) F_8 ⟨PySem.W.mg_none_of X G z_len⟩
 have k_ending_of:=cH F_8 (PySem.W.mg_of X G a_8) b_8 G_8
 have G_9:=zX (P:=l.prog) (w:=w) (mg:=mg) (base:=base) (cl:=cl) (A:=A) F_9 ⟨PySem.W.mg_of X G g_OPENING,r_OPENING,k_ending_of⟩
 have k_is_open:=cH F_9 (PySem.W.mg_of X G a_9) b_9 G_9
 have G_10:=um (P:=l.prog) (w:=w) (mg:=mg) (base:=base) (cl:=cl) (A:=A) F_10 ⟨PySem.W.mg_none_of X G z_int,PySem.W.mg_of X G g_HIGHS,r_HIGHS,PySem.W.mg_of X G g_LOWS,r_LOWS⟩
 have k_read_ending:=cH F_10 (PySem.W.mg_of X G a_10) b_10 G_10
 have G_11:=qR (P:=l.prog) (w:=w) (mg:=mg) (base:=base) (cl:=cl) (A:=A) F_11 ⟨PySem.W.mg_none_of X G z_range,PySem.W.mg_none_of X G z_str,PySem.W.mg_of X G g_MOST_ROWS⟩
 have k_is_row_number:=cH F_11 (PySem.W.mg_of X G a_11) b_11 G_11
 have G_12:=zY (P:=l.prog) (w:=w) (mg:=mg) (base:=base) (cl:=cl) (A:=A) F_12 ⟨PySem.W.mg_none_of X G z_all,PySem.W.mg_none_of X G z_len,PySem.W.mg_of X G g_LETTERS,PySem.W.mg_of X G g_MOST_SIGNS⟩
 have k_is_name:=cH F_12 (PySem.W.mg_of X G a_12) b_12 G_12
 have G_13:=xx (P:=l.prog) (w:=w) (mg:=mg) (base:=base) (cl:=cl) (A:=A) F_13 ⟨PySem.W.mg_none_of X G z_len,PySem.W.mg_of X G g_LETTERS⟩
 have k_is_letter:=cH F_13 (PySem.W.mg_of X G a_13) b_13 G_13
 have G_14:=zZ (P:=l.prog) (w:=w) (mg:=mg) (base:=base) (cl:=cl) (A:=A) F_14 ⟨PySem.W.mg_none_of X G z_len,PySem.W.mg_of X G g_LETTERS,PySem.W.mg_of X G g_NO_BOND,k_is_letter⟩
 have k_is_bond:=cH F_14 (PySem.W.mg_of X G a_14) b_14 G_14
 have G_15:=xF (P:=l.prog) (w:=w) (mg:=mg) (base:=base) (cl:=cl) (A:=A) F_15 ⟨PySem.W.mg_none_of X G z_int,PySem.W.mg_none_of X G z_len,PySem.W.mg_of X G g_NO_BOND,PySem.W.mg_of X G g_OPENING,r_OPENING,k_is_bond,k_is_name,k_is_row_number,k_read_ending⟩
 have k_read_part:=cH F_15 (PySem.W.mg_of X G a_15) b_15 G_15
 have G_16:=xV (P:=l.prog) (w:=w) (mg:=mg) (base:=base) (cl:=cl) (A:=A) F_16 ⟨trivial⟩
 have k_cut_form:=cH F_16 (PySem.W.mg_of X G a_16) b_16 G_16
 have G_17:=xG (P:=l.prog) (w:=w) (mg:=mg) (base:=base) (cl:=cl) (A:=A) F_17 ⟨PySem.W.mg_none_of X G z_any,k_cut_form,k_ending_of⟩
 have k_names_row:=cH F_17 (PySem.W.mg_of X G a_17) b_17 G_17
 have G_18:=z7 (P:=l.prog) (w:=w) (mg:=mg) (base:=base) (cl:=cl) (A:=A) F_18 ⟨PySem.W.mg_none_of X G z_len,PySem.W.mg_none_of X G z_sum,PySem.W.mg_of X G g_MOST_ROWS,PySem.W.mg_of X G g_OPENING,r_OPENING,k_cut_form,k_is_open,k_names_row⟩
 have k_goes_on:=cH F_18 (PySem.W.mg_of X G a_18) b_18 G_18
 have kx_read_form:=HJ F_19 (PySem.W.mg_of X G a_19) b_19 (uV (P:=l.prog) (w:=w) (mg:=mg) (base:=base) (cl:=cl) (A:=A) F_19 ⟨PySem.W.mg_none_of X G z_enumerate,PySem.W.mg_none_of X G z_len,PySem.W.mg_none_of X G z_tuple,PySem.W.mg_of X G g_PARTING,k_goes_on,k_is_open,k_read_part,PySem.W.mg_of X G aC_NoForm,kxi_NoForm⟩)
 have k_read_form:=Fb kx_read_form
 have G_20:=sr (P:=l.prog) (w:=w) (mg:=mg) (base:=base) (cl:=cl) (A:=A) F_20 ⟨PySem.W.mg_none_of X G z_ValueError,PySem.W.mg_none_of X G z_bool,PySem.W.mg_none_of X G z_int,PySem.W.mg_none_of X G z_isinstance,k_read_form,⟨_,xs_NoForm⟩,xk_NoForm_NoForm,xk_NoForm_ValueError,xk_int_bool,xk_int_int,PySem.W.mg_of X G aC_LiltError,PySem.W.mg_of X G aC_NoForm,kq__law_others_NoForm,kx_read_form,⟨xa_NoForm,xb_NoForm,xd_NoForm,xe_NoForm,xf_NoForm⟩,xm_NoForm_LiltError⟩
 have k__law_refused:=cH F_20 (PySem.W.mg_of X G a_20) b_20 G_20
 have G_21:=qT (P:=l.prog) (w:=w) (mg:=mg) (base:=base) (cl:=cl) (A:=A) F_21 ⟨PySem.W.mg_none_of X G z_len,PySem.W.mg_none_of X G z_str⟩
 have k__law_bad_part:=cH F_21 (PySem.W.mg_of X G a_21) b_21 G_21
 have G_22:=uW (P:=l.prog) (w:=w) (mg:=mg) (base:=base) (cl:=cl) (A:=A) F_22 ⟨PySem.W.mg_none_of X G z_len,k__law_bad_part,k__law_text⟩
 have k__law_lines:=cH F_22 (PySem.W.mg_of X G a_22) b_22 G_22
 have G_23:=sy (P:=l.prog) (w:=w) (mg:=mg) (base:=base) (cl:=cl) (A:=A) F_23 ⟨PySem.W.mg_none_of X G z_len⟩
 have k__law_cell_at:=cH F_23 (PySem.W.mg_of X G a_23) b_23 G_23
 have G_24:=Mp (P:=l.prog) (w:=w) (mg:=mg) (base:=base) (cl:=cl) (A:=A) F_24 ⟨PySem.W.mg_none_of X G z_len,PySem.W.mg_none_of X G z_range,k__law_cell_at,k__law_form,k__law_lines,k__law_refused,k__law_text,k__law_unended⟩
 exact G_24.imp λvs H Q E h=>Mq h
theorem walk {l:PySem.W.OpenLaw}{q:Program}{loose:List Str}{XP:(Str->Option Value)->Heap->Prop}{YP:World->Heap->Prop}{d:DefRec}{K:Params->PySem.W.Frag}(hn:l.most=some 63) (hdf:d.params.defaults=[])
  (hY:∀ (w:World) (h:Heap),YP w h->(K w.params).In h)
  (F:∀ (w:World) (mg:Str->Option Value) (fa:Addr) (h:Heap),(K w.params).In h->h.Ns mainGlobals mg->mg d.name=some (.ref fa)->
   ∃ fd:FuncData,(∀ (s:Shared) (u:Value),BindsTo s fd ⟨[u],[]⟩ [("_law_script",u)])/\∀ base:Heap,(K w.params).In base->base.Ns mainGlobals mg->FnOk l.prog w (K w.params) mg base CX0 6 fa fd ["_law_script"] (vf (K w.params))):
  PySem.W.WalkO q loose XP YP l.row.toRowW d [] (λf vs=>PySem.call f vs):=
 L2.walk_of (n:=63) (k:=6) (x := "_law_script") (CX:=λ_=>CX0) (sp:=λw=>vf (K w.params)) hn (by decide) hdf ⟨rfl,by decide,by decide⟩ hY F (λ_ _ a ns hl hO hS=>⟨a,ns,rfl,hO,hS,hl,λ_=>rfl⟩) λ_ _ _ _ _ z=>z
end My
end
open PySem PySem.W PyProof.Rows
def PySem.W.Fast.tw3032388468092705185 : Unit := ()
def PySem.W.Fast.tw16462536615981129362 : Unit := ()
def PySem.W.Fast.tw5784094026743536759 : Unit := ()
def PySem.W.Fast.tw4370505474111858432 : Unit := ()
def PySem.W.Fast.tw9204663873310890777 : Unit := ()
def PySem.W.Fast.tw872287613083681366 : Unit := ()
def PySem.W.Fast.tw7281388748423867927 : Unit := ()
def PySem.W.Fast.tw8381069167589127430 : Unit := ()
def PySem.W.Fast.tw7307491778556407163 : Unit := ()
def PySem.W.Fast.tw12230798451498709563 : Unit := ()
def PySem.W.Fast.tw3013085589208433812 : Unit := ()
def PySem.W.Fast.tw3662275808659624168 : Unit := ()
def PySem.W.Fast.tw2522241781596766162 : Unit := ()
def PySem.W.Fast.tw5598735026241137751 : Unit := ()
def PySem.W.Fast.tw9583139528011995937 : Unit := ()
def PySem.W.Fast.tw16724986304520382705 : Unit := ()
def PySem.W.Fast.tw12263338350801791658 : Unit := ()
def PySem.W.Fast.tw11430859670765790859 : Unit := ()
def PySem.W.Fast.tw11603927762299124274 : Unit := ()
def PySem.W.Fast.tw18306829204509263112 : Unit := ()
def PySem.W.Fast.tw16395915732346835369 : Unit := ()
def PySem.W.Fast.tw8304481209842274660 : Unit := ()
def PySem.W.Fast.tw12428022651345571919 : Unit := ()
def PySem.W.Fast.tw16123010072219876332 : Unit := ()
def PySem.W.Fast.tw14082503976754565513 : Unit := ()
def PySem.W.Fast.tw16121830016740981332 : Unit := ()
def PySem.W.Fast.tw9424737416622296662 : Unit := ()
def PySem.W.Fast.tw10079469254797228213 : Unit := ()
def PySem.W.Fast.tw10489281161046201254 : Unit := ()
def PySem.W.Fast.tw17301849821664381680 : Unit := ()
def PySem.W.Fast.tw6284388476210939585 : Unit := ()
def PySem.W.Fast.tw12689943823083882922 : Unit := ()
def PySem.W.Fast.tw3264118807994102047 : Unit := ()
def PySem.W.Fast.tw9274614434896131814 : Unit := ()
def PySem.W.Fast.tw9664724641704707106 : Unit := ()
def PySem.W.Fast.tw18261928329469270261 : Unit := ()
def PySem.W.Fast.tw17646585393704676208 : Unit := ()
def PySem.W.Fast.tw13396426932319572858 : Unit := ()
def PySem.W.Fast.tw11201537899197969678 : Unit := ()
def PySem.W.Fast.tw1077951741037293774 : Unit := ()
def PySem.W.Fast.tw15661859877424234422 : Unit := ()
def PySem.W.Fast.tw2649125129942015262 : Unit := ()
def PySem.W.Fast.tw15065709099705367792 : Unit := ()
def PySem.W.Fast.tw17681955996298900851 : Unit := ()
def PySem.W.Fast.tw815872115085427210 : Unit := ()
set_option maxRecDepth 100000 in
set_option maxHeartbeats 0 in
theorem PySem.Challenge.cw_lilt_k71_no_form_holds : PySem.Challenge.rw_lilt_k71_no_form.Holds := by
 w_on;o_law;k_head;(case hw=>w_witness2)
 k_fill
 refine My.walk (l:=PySem.Challenge.rw_lilt_k71_no_form) rfl rfl (λw h Y=>PySem.W.kIn_of Y) ?F
 case F=>
  intro w mg fa h KX G hmg
  refine' My.all_mk KX G hmg ?aC_LiltError ?aC_NoForm ?aC_NoMetre ?aC_NoName ?aC_NoReading ?aC_NoRow ?aC_NoRule ?aC_NoWord ?a_0 ?l_0 ?c_0 ?k_0 ?a_1 ?l_1 ?c_1 ?k_1 ?a_2 ?l_2 ?c_2 ?k_2 ?a_3 ?l_3 ?c_3 ?k_3 ?a_4 ?l_4 ?c_4 ?k_4 ?a_5 ?l_5 ?c_5 ?k_5 ?a_6 ?l_6 ?c_6 ?k_6 ?a_7 ?l_7 ?c_7 ?k_7 ?a_8 ?l_8 ?c_8 ?k_8 ?a_9 ?l_9 ?c_9 ?k_9 ?a_10 ?l_10 ?c_10 ?k_10 ?a_11 ?l_11 ?c_11 ?k_11 ?a_12 ?l_12 ?c_12 ?k_12 ?a_13 ?l_13 ?c_13 ?k_13 ?a_14 ?l_14 ?c_14 ?k_14 ?a_15 ?l_15 ?c_15 ?k_15 ?a_16 ?l_16 ?c_16 ?k_16 ?a_17 ?l_17 ?c_17 ?k_17 ?a_18 ?l_18 ?c_18 ?k_18 ?a_19 ?l_19 ?c_19 ?k_19 ?a_20 ?l_20 ?c_20 ?k_20 ?a_21 ?l_21 ?c_21 ?k_21 ?a_22 ?l_22 ?c_22 ?k_22 ?a_23 ?l_23 ?c_23 ?k_23 ?a_24 ?l_24 ?c_24 ?k_24 ?a_25 ?l_25 ?c_25 ?k_25 ?a_xNoForm ?i_xNoForm ?l_xNoForm ?c_xNoForm ?k_xNoForm ?z_ValueError ?z_all ?z_any ?z_bool ?z_enumerate ?z_int ?z_isinstance ?z_len ?z_max ?z_range ?z_str ?z_sum ?z_tuple ?g_HIGHS ?lk_HIGHS ?g_LETTERS ?g_LOWS ?lk_LOWS ?g_MOST_ROWS ?g_MOST_SIGNS ?g_NO_BOND ?g_OPENING ?lk_OPENING ?g_PARTING ?xa_NoForm ?xb_NoForm ?xd_NoForm ?xe_NoForm ?xf_NoForm ?xk_NoForm_NoForm ?xk_NoForm_NoMetre ?xk_NoForm_NoName ?xk_NoForm_NoReading ?xk_NoForm_NoRow ?xk_NoForm_NoRule ?xk_NoForm_NoWord ?xk_NoForm_ValueError ?xk_int_bool ?xk_int_int ?xm_NoForm_LiltError ?xs_NoForm ?xt_LiltError ?xu_LiltError ?xv_LiltError
  (case aC_LiltError | aC_NoForm | aC_NoMetre | aC_NoName | aC_NoReading | aC_NoRow | aC_NoRule | aC_NoWord | a_0 | l_0 | c_0 | k_0 | a_1 | l_1 | c_1 | k_1 | a_2 | l_2 | c_2 | k_2 | a_3 | l_3 | c_3 | k_3 | a_4 | l_4 | c_4 | k_4 | a_5 | l_5 | c_5 | k_5 | a_6 | l_6 | c_6 | k_6 | a_7 | l_7 | c_7 | k_7 | a_8 | l_8 | c_8 | k_8 | a_9 | l_9 | c_9 | k_9 | a_10 | l_10 | c_10 | k_10 | a_11 | l_11 | c_11 | k_11 | a_12 | l_12 | c_12 | k_12 | a_13 | l_13 | c_13 | k_13 | a_14 | l_14 | c_14 | k_14 | a_15 | l_15 | c_15 | k_15 | a_16 | l_16 | c_16 | k_16 | a_17 | l_17 | c_17 | k_17 | a_18 | l_18 | c_18 | k_18 | a_19 | l_19 | c_19 | k_19 | a_20 | l_20 | c_20 | k_20 | a_21 | l_21 | c_21 | k_21 | a_22 | l_22 | c_22 | k_22 | a_23 | l_23 | c_23 | k_23 | a_24 | l_24 | c_24 | k_24 | a_25 | l_25 | c_25 | k_25 | a_xNoForm | i_xNoForm | l_xNoForm | c_xNoForm | k_xNoForm | z_ValueError | z_all | z_any | z_bool | z_enumerate | z_int | z_isinstance | z_len | z_max | z_range | z_str | z_sum | z_tuple | g_HIGHS | lk_HIGHS | g_LETTERS | g_LOWS | lk_LOWS | g_MOST_ROWS | g_MOST_SIGNS | g_NO_BOND | g_OPENING | lk_OPENING | g_PARTING=>k_is)
  (case xa_NoForm=>k_is)
  (case xb_NoForm=>k_is)
  (case xd_NoForm=>k_is)
  (case xe_NoForm=>k_is)
  (case xf_NoForm=>k_is)
  (case xk_NoForm_NoForm=>first | rfl | k_is | kit_is)
  (case xk_NoForm_NoMetre=>first | rfl | k_is | kit_is)
  (case xk_NoForm_NoName=>first | rfl | k_is | kit_is)
  (case xk_NoForm_NoReading=>first | rfl | k_is | kit_is)
  (case xk_NoForm_NoRow=>first | rfl | k_is | kit_is)
  (case xk_NoForm_NoRule=>first | rfl | k_is | kit_is)
  (case xk_NoForm_NoWord=>first | rfl | k_is | kit_is)
  (case xk_NoForm_ValueError=>first | rfl | k_is | kit_is)
  (case xk_int_bool=>first | rfl | k_is | kit_is)
  (case xk_int_int=>first | rfl | k_is | kit_is)
  (case xm_NoForm_LiltError=>kts_exm)
  (case xs_NoForm=>kernel_rfl)
  (case xt_LiltError=>first | k_is | kernel_rfl)
  (case xu_LiltError=>first | k_is | kernel_rfl)
  (case xv_LiltError=>first | k_is | kernel_rfl)
