import PyProof.Rows.All
import Wide.All
import OpenK.AllK
import Wide.FinOn
import Lean
import PyProof.EqAt
import PyProof.EqKinds
import PyProof.TupleCall
import PyProof.ZipIter
import PyProof.ListStr
import KE.KRevIter
import PyProof.Rows.Range3
import PyProof.Rows.SetFrom
import PyProof.DictWalks
import PyProof.Rows.TupDisplay
import PyProof.DictItems
import KE.KPairComp
import KE.KIntText
import PyProof.WalkInts
import PyProof.InstStore
import PyProof.InstStoreFacts
import PyProof.ExcArgsOwn
import PyProof.ExcInit
import PyProof.ExcClass2
import OpenK.KCls
import PyProof.FString
import PyProof.FitsInt
import PyProof.AutoListH
import KE.RegKTryMore
import PySem.Challenge.RW_lilt_k05_rows_refused
set_option compiler.extract_closed false
set_option Elab.async false
set_option linter.all false
set_option maxRecDepth 100000
set_option maxHeartbeats 4000000
noncomputable section
namespace L2
open PySem PySem.Spec PyProof.Rows
section
variable {prog:Program}{w:World}{κ:Type} [DecidableEq κ] {kd:HeapKind prog w κ}{A:Around}{E:Value->Shared->Prop}{s:Shared}{d a it:Addr}{xs:List (κ×Addr×Value)}{k:κ}{v:Value}
def DictE (kd:HeapKind prog w κ) (h:Heap) (d:Addr) (xs:List (κ×Addr×Value)):Prop:=
 ∃ o es,h.get? d=some o/\o.ExactDict/\o.data=.dict es xs.length/\es.toList=xs.map (entryOfKey kd)/\(∀ x∈xs,kd.is h x.1 x.2.1)/\(xs.map (·.1)).Nodup
theorem DictE.of {h:Heap}(m:DictE kd h d xs):h.DictOfH kd d xs:=let ⟨o,es,q⟩:=m;⟨o,es,_,q⟩
theorem CW {Q:Unit->Shared->Prop}(hu:kd.room A) (hk:kd.is s.heap k a) (m:DictE kd s.heap d xs) (hz:xs.length<=sizeLine)
  (q:∀ h',DictE kd h' d (storedH xs k a v)->Heap.SameBut d s.heap h'->Q () { s with heap:=h',toks:=s.toks+kd.draws k }):wpAny (model prog w) A (dictSet d (.ref a) v) Q E s:=by
 obtain⟨o,es,o1,o2,o3,o4,o5,o6⟩:=m
 unfold dictSet
 try with_reducible refine wpAny_holding ?_
 refine wpAny_bind (kd.pyHash hu hk ?_)
 unfold dictSetHashed
 try with_reducible refine wpAny_holding ?_
 refine wpAny_bind (wpAny_dictFind_heap (s:={ s with toks:=s.toks+kd.draws k }) hu hk o1 o3 o4 o5 o6 (λno=>?_) λj p hj=>?_)
 ·have nk:k∉xs.map (·.1):=not_mem_keys_of_get no
  have e:=storedH_new (atKey_none_of_get no) a v
  rw[e] at q
  refine wpAny_bind (wpAny_rule (wpAny_updateDictKeys (hz:=by have:=size_of_entries o4;omega) (s:={ s with toks:=s.toks+kd.draws k }) o1 o3 (q _ ⟨_,_,Heap.get?_update_self _ o1 (Obj.isFreed_of_dict (Obj.data_mapDictKeys o3 _)),o2.mapDictKeys _,by rw[List.length_append];exact Obj.data_mapDictKeys o3 _,?_,λx hx=>?_,?_⟩ (Heap.SameBut.update ..))))
  ·simp[o4,entryOfKey]
  ·rcases List.mem_append.mp hx with z | z
   ·exact kd.keeps (o5 x z) o1 o3 (Heap.SameBut.update ..)
   ·rw[List.mem_singleton.mp z];exact kd.keeps hk o1 o3 (Heap.SameBut.update ..)
  ·rw[List.map_append]
   exact List.nodup_append.mpr ⟨o6,by simp,λx hx y hy z=>nk (by rw[List.map_cons,List.map_nil,List.mem_singleton] at hy;have hy:y=k:=hy;subst hy z;exact hx)⟩
 ·have e:=storedH_old (atKey_of_get o6 hj) a v
  rw[e] at q
  refine wpAny_bind (wpAny_rule (wpAny_bind (wpAny_updateDict (s:={ s with toks:=s.toks+kd.draws k }) o1 o3 (wpAny_point (q _ ⟨_,_,Heap.get?_update_self _ o1 (Obj.isFreed_of_dict (Obj.data_mapDict o3 _)),o2.mapDict _,by rw[List.length_map];exact Obj.data_mapDict o3 _,?_,λx hx=>?_,?_⟩ (Heap.SameBut.update ..))))))
  ·have y:=modify_map_putAt (entryOfKey kd) (λe:DictEntry=>{ e with val:=v }) k v (λ_ _=>rfl) o6 hj
   rw[← o4] at y
   cases es
   simpa using y
  ·obtain⟨y,hy,rfl⟩:=List.mem_map.mp hx
   unfold putAt
   split <;> exact kd.keeps (o5 y hy) o1 o3 (Heap.SameBut.update ..)
  ·rw[keys_map_putAt];exact o6
theorem CZ {Q:Unit->Shared->Prop}(hu:kd.room A.in1) (hk:kd.is s.heap k a) (m:DictE kd s.heap d xs) (hz:xs.length<=sizeLine)
  (q:∀ h',DictE kd h' d (storedH xs k a v)->Heap.SameBut d s.heap h'->Q () { s with heap:=h',toks:=s.toks+kd.draws k }):wpAny (model prog w) A (setItem (.ref d) (.ref a) v) Q E s:=by
 have ty:=m.of.typeIs
 unfold setItem
 try with_reducible refine wpAny_holding ?_
 refine wpAny_bind (wpAny_sequenceKey ty (by decide) (wpAny_bind (wpAny_callSpecial?_slot (name:=Str.ofString "__setitem__") ty slot_dict_setitem (wpAny_call_entry slot_dict_setitem ty entry_dict_setitem ?_ (args_dict_setitem _ _ _)))))
 show wpAny _ _ (Builtin.Dict.notOrdered "__setitem__" ⟨[.ref d,.ref a,v],[]⟩ >>= _) _ _ s
 refine wpAny_bind (wpAny_notOrdered_dict ty ?_)
 show wpAny _ _ (dictSet d (.ref a) v >>= λ_=>_) _ _ s
 exact wpAny_bind (CW hu hk m hz λh' m' hs'=>wpAny_pure ⟨.none,rfl,wpAny_pure (q h' m' hs')⟩)
end
end L2
namespace L2
open PySem PySem.Spec PyProof.Rows
section
variable {prog:Program}{w:World}{A:Around}{E:Value->Shared->Prop}{s:Shared}{z TI TO T i1 i2 l1 l2:Addr}{k:Nat}{xs ys:Array Value}{x y:Value}{f:Bool}{oT:Obj}
def ZIts (h:Heap) (xs ys:Array Value) (B:Addr) (W:List Addr) (acc:Array Value) (n:Nat):Prop:=
 acc.size=n/\∀ i,i < n->∃ t x y,acc[i]?=some (.ref t)/\xs[i]?=some x/\ys[i]?=some y/\IsPair h t x y/\B<=t/\t∉W/\∀ j,j < i->acc[j]?≠some (.ref t)
theorem ZIts.keep {h h':Heap}{B:Addr}{W:List Addr}{acc:Array Value}{n:Nat}(q:ZIts h xs ys B W acc n) (k:∀ c o,c∉W->h.get? c=some o->h'.get? c=some o):ZIts h' xs ys B W acc n:=
 ⟨q.1,λi hi=>let ⟨t,x,y,a,b,c,d,e,f,g⟩:=q.2 i hi;⟨t,x,y,a,b,c,k _ _ f d,e,f,g⟩⟩
theorem ZIts.push {h:Heap}{B t:Addr}{W:List Addr}{acc:Array Value}{n:Nat}{x y:Value}(q:ZIts h xs ys B W acc n) (hx:xs[n]?=some x) (hy:ys[n]?=some y) (ht:IsPair h t x y) (hB:B<=t) (hW:t∉W) (hw:∀ j,j < n->acc[j]?≠some (.ref t)):ZIts h xs ys B W (acc.push (.ref t)) (n+1):=by
 obtain⟨q1,q2⟩:=q
 refine⟨by rw[Array.size_push,q1],λi hi=>?_⟩
 rcases Nat.lt_or_ge i n with h1 | h1
 ·obtain⟨t',x',y',a,b,c,d,e,f,g⟩:=q2 i h1
  exact⟨t',x',y',by rw[Array.getElem?_push_lt (by omega)];rw[Array.getElem?_eq_getElem (by omega)] at a;exact a,b,c,d,e,f,λj hj=>by rw[Array.getElem?_push_lt (by omega),← Array.getElem?_eq_getElem (by omega)];exact g j hj⟩
 ·have e:i=n:=by omega
  subst e
  exact⟨t,x,y,by rw[← q1];exact Array.getElem?_push_size,hx,hy,ht,hB,hW,λj hj=>by rw[Array.getElem?_push_lt (by omega),← Array.getElem?_eq_getElem (by omega)];exact hw j hj⟩
end
end L2
namespace L2
open PySem PySem.Spec PyProof.Rows
abbrev Key:=Sum Int Str
def lU:Key->Value->Bool
 | .inl k,v=>Value.isInt k v
 | .inr x,v=>Value.isStrOf x v
def HX (w:World):Key->Int
 | .inl k=>hashInt k
 | .inr x=>hashStr w x
theorem cC:∀ {k:Key}{v:Value},lU k v=true->(∃ i t,k=Sum.inl i/\v=Value.int i t)\/(∃ x t,k=Sum.inr x/\v=Value.str x t)
 | .inl i,v,h=>by
  obtain⟨t,e⟩:=Value.isInt_shape (k:=i) (v:=v) h
  exact .inl ⟨i,t,rfl,e⟩
 | .inr x,v,h=>by
  obtain⟨t,e⟩:=Value.isStrOf_shape (x:=x) (v:=v) h
  exact .inr ⟨x,t,rfl,e⟩
theorem z6 (i:Int) (t:Tok):lU (.inl i) (.int i t)=true:=by simp[lU,Value.isInt]
theorem z7 (x:Str) (t:Tok):lU (.inr x) (.str x t)=true:=by simp[lU,Value.isStrOf]
theorem oH (a b:Int):decide ((Sum.inl a:Key)=Sum.inl b)=(a == b):=by
 by_cases e:a=b
 ·subst e;simp
 ·have h:¬ (Sum.inl a:Key)=Sum.inl b:=λq=>e (Sum.inl.inj q)
  rw[decide_eq_false h]
  exact(beq_eq_false_iff_ne.mpr e).symm
theorem z8 (a b:Str):decide ((Sum.inr a:Key)=Sum.inr b)=decide (a=b):=by
 by_cases e:a=b
 ·subst e;simp
 ·have h:¬ (Sum.inr a:Key)=Sum.inr b:=λq=>e (Sum.inr.inj q)
  rw[decide_eq_false h,decide_eq_false e]
theorem vL (a:Int) (b:Str):decide ((Sum.inl a:Key)=Sum.inr b)=false:=decide_eq_false (λq=>nomatch q)
theorem vM (a:Str) (b:Int):decide ((Sum.inr a:Key)=Sum.inl b)=false:=decide_eq_false (λq=>nomatch q)
def ig (prog:Program) (w:World):PySem.KeyKind prog w Key where
 is:=lU
 hash:=HX w
 inj:=λv a b ha hb=>by
  rcases cC ha with ⟨i,t,rfl,rfl⟩ | ⟨x,t,rfl,rfl⟩
  ·rcases cC hb with ⟨j,u,rfl,e⟩ | ⟨y,u,rfl,e⟩
   ·injection e with e1 _;rw[e1]
   ·exact nomatch e
  ·rcases cC hb with ⟨j,u,rfl,e⟩ | ⟨y,u,rfl,e⟩
   ·exact nomatch e
   ·injection e with e1 _;rw[e1]
 byValue:=λk v h=>by
  rcases cC h with ⟨i,t,rfl,rfl⟩ | ⟨x,t,rfl,rfl⟩ <;> rfl
 pyHash:=λhv h=>by
  rcases cC hv with ⟨i,t,rfl,rfl⟩ | ⟨x,t,rfl,rfl⟩
  ·exact wpAny_pyHash_int h
  ·exact wpAny_pyHash_str h
 eqBool:=λhu hv h=>by
  rcases cC hu with ⟨i,t,rfl,rfl⟩ | ⟨x,t,rfl,rfl⟩
  ·rcases cC hv with ⟨j,u,rfl,rfl⟩ | ⟨y,u,rfl,rfl⟩
   ·rw[oH] at h;exact wpAny_eqBool_int h
   ·rw[vL] at h;exact SeqAt.EqAt.int_str i t y u _ _ _ _ h
  ·rcases cC hv with ⟨j,u,rfl,rfl⟩ | ⟨y,u,rfl,rfl⟩
   ·rw[vM] at h;exact SeqAt.EqAt.str_int x t j u _ _ _ _ h
   ·rw[z8] at h;exact wpAny_eqBool_str h
 «strs»:=λk x t v h=>by
  rcases cC h with ⟨i,u,rfl,e⟩ | ⟨y,u,rfl,e⟩
  ·exact nomatch e
  ·injection e with e1 _
   subst e1
   cases v <;> rfl
def oJ:Key->Value->Bool
 | .inl k,.bool b=>decide (k=if b=true then 1 else 0)
 | k,v=>lU k v
theorem cW {k:Key}{v:Value}(h:oJ k v=true):(∃ b,k=Sum.inl (if b=true then 1 else 0)/\v=Value.bool b)\/(∃ i t,k=Sum.inl i/\v=Value.int i t)\/(∃ x t,k=Sum.inr x/\v=Value.str x t):=by
 unfold oJ at h
 split at h
 ·exact .inl ⟨_,congrArg _ (of_decide_eq_true h),rfl⟩
 ·exact .inr (cC h)
theorem z9 {k:Key}{v:Value}(h:lU k v=true):oJ k v=true:=by
 rcases cC h with ⟨i,t,rfl,rfl⟩ | ⟨x,t,rfl,rfl⟩ <;> exact h
theorem xq (b:Bool):oJ (.inl (if b=true then 1 else 0)) (.bool b)=true:=decide_eq_true rfl
theorem HY (a b:Bool):decide ((Sum.inl (if a=true then 1 else 0):Key)=Sum.inl (if b=true then 1 else 0))=(a == b):=by
 rw[oH];cases a <;> cases b <;> rfl
theorem z_ {prog:Program}{w:World}{A:Around}{E:Value->Shared->Prop}{s:Shared}(b:Bool){Q:Int->Shared->Prop}(h:Q (hashInt (if b=true then 1 else 0)) { s with toks:=s.toks+1 }):
  wpAny (model prog w) A (pyHash (.bool b)) Q E s:=by
 refine PySem.W.pyHash_slot (s:=s) (T := "bool") (by cases b <;> exact PySem.typeIs_bool s _) PySem.F.slot_bool_hash entry_int_hash (args_int_hash _) (by rw[beq_builtin_none]) (.inl rfl) ?_
 have e:reduceHash (rawHash (if b=true then 1 else 0))=hashInt (if b=true then 1 else 0):=by cases b <;> decide
 show wpAny _ _ (do ret (← mkInt (rawHash (if b=true then 1 else 0)))) _ _ s
 refine wpAny_mono (wpAny_ret_mkInt (Q:=λv s'=>∃ t,v=.int (rawHash (if b=true then 1 else 0)) t/\s'={ s with toks:=s.toks+1 }) ⟨_,rfl,rfl⟩) (λfin s' hq=>?_) λ_ _ x=>x
 obtain⟨v,rfl,t,rfl,rfl⟩:=hq
 exact⟨_,_,rfl,by rw[e];exact h⟩
def gn (prog:Program) (w:World):PySem.KeyKind prog w Key where
 is:=oJ
 hash:=HX w
 inj:=λv a b ha hb=>by
  rcases cW ha with ⟨c,rfl,rfl⟩ | ⟨i,t,rfl,rfl⟩ | ⟨x,t,rfl,rfl⟩ <;> rcases cW hb with ⟨d,rfl,e⟩ | ⟨j,u,rfl,e⟩ | ⟨y,u,rfl,e⟩ <;> cases e <;> rfl
 byValue:=λk v h=>by
  rcases cW h with ⟨c,rfl,rfl⟩ | ⟨i,t,rfl,rfl⟩ | ⟨x,t,rfl,rfl⟩ <;> rfl
 pyHash:=λhv h=>by
  rcases cW hv with ⟨c,rfl,rfl⟩ | ⟨i,t,rfl,rfl⟩ | ⟨x,t,rfl,rfl⟩
  ·exact z_ c h
  ·exact wpAny_pyHash_int h
  ·exact wpAny_pyHash_str h
 eqBool:=λhu hv h=>by
  rcases cW hu with ⟨c,rfl,rfl⟩ | ⟨i,t,rfl,rfl⟩ | ⟨x,t,rfl,rfl⟩
  ·rcases cW hv with ⟨d,rfl,rfl⟩ | ⟨j,u,rfl,rfl⟩ | ⟨y,u,rfl,rfl⟩
   ·rw[HY] at h;exact SeqAt.EqAt.bool_bool _ _ _ _ _ _ h
   ·rw[oH] at h;exact SeqAt.EqAt.bool_int _ _ _ _ _ _ _ h
   ·rw[vL] at h;exact SeqAt.EqAt.bool_str _ _ _ _ _ _ _ h
  ·rcases cW hv with ⟨d,rfl,rfl⟩ | ⟨j,u,rfl,rfl⟩ | ⟨y,u,rfl,rfl⟩
   ·rw[oH] at h;exact SeqAt.EqAt.int_bool _ _ _ _ _ _ _ h
   ·rw[oH] at h;exact wpAny_eqBool_int h
   ·rw[vL] at h;exact SeqAt.EqAt.int_str i t y u _ _ _ _ h
  ·rcases cW hv with ⟨d,rfl,rfl⟩ | ⟨j,u,rfl,rfl⟩ | ⟨y,u,rfl,rfl⟩
   ·rw[vM] at h;exact SeqAt.EqAt.str_bool _ _ _ _ _ _ _ h
   ·rw[vM] at h;exact SeqAt.EqAt.str_int x t j u _ _ _ _ h
   ·rw[z8] at h;exact wpAny_eqBool_str h
 «strs»:=λk x t v h=>by
  rcases cW h with ⟨c,rfl,e⟩ | ⟨i,u,rfl,e⟩ | ⟨y,u,rfl,e⟩
  ·exact nomatch e
  ·exact nomatch e
  ·injection e with e1 _
   subst e1
   cases v <;> rfl
theorem xr (prog:Program) (w:World) (i:Int) (t:Tok):(ig prog w).is (.inl i) (.int i t)=true:=z6 i t
theorem xu (prog:Program) (w:World) (x:Str) (t:Tok):(ig prog w).is (.inr x) (.str x t)=true:=z7 x t
end L2
namespace L2
open PySem PySem.Spec PyProof.Rows
inductive V where
 | non | bl (b:Bool) | int (i:Int) | str (x:Str) | byt (b:Array UInt8) | flt (b:UInt64) | ref (a:Addr) | ty (n:String)
 deriving DecidableEq
def RelV:V->Value->Prop
 | .non,u=>u=Value.none
 | .bl b,u=>u=Value.bool b
 | .int i,u=>∃ t,u=Value.int i t
 | .str x,u=>∃ t,u=Value.str x t
 | .byt b,u=>∃ t,u=Value.bytes b t
 | .flt b,u=>∃ t,u=Value.float b t
 | .ref a,u=>u=Value.ref a
 | .ty n,u=>u=Value.type n
abbrev Vals:List V->List Value->Prop:=Paired RelV
theorem Vals.length {xs:List V}{us:List Value}(r:Vals xs us):xs.length=us.length:=Paired.length r
theorem Vals.get:∀ {xs:List V}{us:List Value}{i:Nat}{x:V},Vals xs us->xs[i]?=some x->∃ u,us[i]?=some u/\RelV x u
 | _,_,_,_,.nil,e=>by simp at e
 | _,_,0,_,.cons r _,e=>by simp at e;subst e;exact⟨_,rfl,r⟩
 | _,_,i+1,x,.cons _ t,e=>by
  obtain⟨u,h1,h2⟩:=Vals.get (i:=i) (x:=x) t (by simpa using e)
  exact⟨u,by simpa using h1,h2⟩
theorem Vals.set {x:V}{u:Value}(r:RelV x u):∀ {xs:List V}{us:List Value}(i:Nat),Vals xs us->Vals (xs.set i x) (us.set i u)
 | _,_,_,.nil=>.nil
 | _,_,0,.cons _ t=>.cons r t
 | _,_,i+1,.cons q t=>.cons q (Vals.set r i t)
theorem Vals.append:∀ {xs ys:List V}{us ws:List Value},Vals xs us->Vals ys ws->Vals (xs++ys) (us++ws)
 | _,_,_,_,.nil,s=>s
 | _,_,_,_,.cons r t,s=>.cons r (Vals.append t s)
theorem Vals.take:∀ {xs:List V}{us:List Value}(n:Nat),Vals xs us->Vals (xs.take n) (us.take n)
 | _,_,0,_=>.nil
 | _,_,_+1,.nil=>.nil
 | _,_,n+1,.cons r t=>.cons r (Vals.take n t)
theorem Vals.drop:∀ {xs:List V}{us:List Value}(n:Nat),Vals xs us->Vals (xs.drop n) (us.drop n)
 | _,_,0,r=>r
 | _,_,_+1,.nil=>.nil
 | _,_,n+1,.cons _ t=>Vals.drop n t
def RelO:Option V->Option Value->Prop
 | some v,some u=>RelV v u
 | none,none=>True
 | _,_=>False
def KV {κ:Type}:List (κ×V)->List (κ×Value)->Prop:=Paired λ(p:κ×V) (q:κ×Value)=>p.1=q.1/\RelV p.2 q.2
def kV:Key->V
 | .inl i=>.int i
 | .inr x=>.str x
inductive HO where
 | lst (xs:List V)
 | tup (xs:List V)
 | dK (kvs:List (Key×V)) | dT (kvs:List (List Key×V))
 | set (S:Int->Bool) (n:Nat)
 | ins (C dx:Addr) (fs:List (Str×V))
 | own (x:Addr)
 | xd (fs:List (Str×V))
 | met (f x:Addr)
 | rng (lo hi:Int)
 | frz (o:Obj) (u:HO)
 | tbl (ps:Array Value)
 | ext (φ:Heap->Prop)
abbrev Hp:=Addr->Option HO
def upd (H:Hp) (a:Addr) (o:HO):Hp:=λb=>if b=a then some o else H b
theorem aU {H:Hp}{a:Addr}{o:HO}:upd H a o a=some o:=by unfold upd;rw[if_pos rfl]
theorem aH {H:Hp}{a b:Addr}{o:HO}(h:b≠a):upd H a o b=H b:=by unfold upd;rw[if_neg h]
theorem La {H:Hp}{a b:Addr}{o u:HO}(h:H a=some o) (h':H b=some u) (d:o≠u):a≠b:=by
 intro e;subst e;rw[h] at h';exact d (Option.some.inj h')
theorem aN {H:Hp}{a b:Addr}{o:HO}(h:H a=some o) (h':H b=none):a≠b:=by
 intro e;subst e;rw[h] at h';cases h'
def vN (ks:List Key) (vs:List V):Prop:=vs=ks.map kV\/∃ x b,ks=[.inr x,.inl (if b=true then 1 else 0)]/\vs=[.str x,.bl b]
abbrev H_ (H:Hp) (b:Addr) (ks:List Key):Prop:=∃ vs,H b=some (.tup vs)/\vN ks vs
def KTup (K:PySem.W.Frag) (a:Addr) (xs:List V):Prop:=∃ (o:Obj) (its:Array Value) (n:Nat),K.lookup a=some o/\o.cls=.type "tuple" /\ o.data=.seq its n/\its.size<=sizeLine/\Vals xs its.toList
def CKey (K:PySem.W.Frag) (H:Hp) (b:Addr) (ks:List Key):Prop:=H_ H b ks\/∃ vs,KTup K b vs/\vN ks vs
theorem CKey.keeps {K:PySem.W.Frag}{H H':Hp}{b:Addr}{ks:List Key}(c:CKey K H b ks) (ht:∀ b ys,H b=some (.tup ys)->H' b=some (.tup ys)):CKey K H' b ks:=c.imp (λ⟨vs,e,k⟩=>⟨vs,ht _ _ e,k⟩) id
section
variable (P:Program) (w:World) (K:PySem.W.Frag)
def ObjOk (H:Hp) (h:Heap) (a:Addr):HO->Prop
 | .lst xs=>xs.length<=sizeLine/\∃ (its:List Value) (n:Nat),Vals xs its/\h.get? a=some { cls:=.type "list",data:=.seq its.toArray n }
 | .tup xs=>xs.length<=sizeLine/\∃ its:List Value,Vals xs its/\IsTup h a its.toArray
 | .dK kvs=>kvs.length<=sizeLine/\(a == sysModules)=false/\∃ vs,KV kvs vs/\h.DictOf (ig P w) a vs
 | .dT kvs=>kvs.length<=sizeLine/\(a == sysModules)=false/\∃ xs:List (List Key×Addr×Value),
   Paired (λ(p:List Key×V) (q:List Key×Addr×Value)=>p.1=q.1/\CKey K H q.2.1 p.1/\RelV p.2 q.2.2) kvs xs /\
   ∃ o es ep,h.get? a=some o/\o.ExactDict/\o.data=.dict es ep/\es.toList=xs.map (entryOfKey (tupleKind (gn P w)))/\(xs.map (·.1)).Nodup/\ep=xs.length
 | .set S n=>h.SetOf (intKind P w) a S n
 | .ins C dx fs=>H dx=some (.own a)/\fs.length<=1000/\dx≠a/\h.get? a=some (PySem.W.instObj C dx) /\
   ∃ mA,h.Ns1 dx mA/\(∀ f,RelO (fs.lookup f) (mA f))/\PySem.Within mA (fs.map (·.1))
 | .own _=>∃ o,h.get? a=some o
 | .xd fs=>∃ mA,h.Ns1 a mA/\∀ f,RelO (fs.lookup f) (mA f)
 | .rng lo hi=>∃ t u v,h.get? a=some { cls:=.type "range",data:=.fields #[.int lo t,.int hi u,.int 1 v] }
 | .frz o u=>h.get? a=some o/\ObjOk H h a u
 | .tbl ps=>h.get? a=some { cls:=.none,data:=.fields ps }
 | .met f x=>h.get? a=some (PySem.W.methodObj (.ref f) (.ref x))
 | .ext φ=>φ h/\(∃ o,h.get? a=some o)/\∀ h1 h2:Heap,φ h1->(∀ o,h1.get? a=some o->h2.get? a=some o)->φ h2
def HOk (H:Hp) (h:Heap):Prop:=∀ a o,H a=some o->ObjOk P w K H h a o
end
section
variable {P:Program}{w:World}{K:PySem.W.Frag}{H H':Hp}{h h':Heap}{a:Addr}{o:HO}
theorem ObjOk.lt (x:ObjOk P w K H h a o):a < h.objs.size:=by
 cases o with
 | lst xs=>obtain⟨_,_,_,_,e⟩:=x;exact Heap.lt_size e
 | tup xs=>obtain⟨_,_,_,p⟩:=x;exact p.lt
 | dK kvs=>obtain⟨_,_,_,_,o,_,_,e,_⟩:=x;exact Heap.lt_size e
 | dT kvs=>obtain⟨_,_,_,_,o,_,_,e,_⟩:=x;exact Heap.lt_size e
 | set S n=>obtain⟨o,_,_,_,e,_⟩:=x;exact Heap.lt_size e
 | ins C dx fs=>obtain⟨_,_,_,e,_⟩:=x;exact Heap.lt_size e
 | own y=>obtain⟨_,e⟩:=x;exact Heap.lt_size e
 | xd fs=>obtain⟨_,⟨_,_,_,e,_⟩,_⟩:=x;exact Heap.lt_size e
 | rng lo hi=>obtain⟨_,_,_,e⟩:=x;exact Heap.lt_size e
 | frz ob u=>obtain⟨e,_⟩:=x;exact Heap.lt_size e
 | tbl ps=>exact Heap.lt_size (show h.get? a=some _ from x)
 | met f y=>exact Heap.lt_size (show h.get? a=some _ from x)
 | ext φ=>obtain⟨_,⟨_,e⟩,_⟩:=x;exact Heap.lt_size e
theorem Paired.mapP {α β:Type}{F G:α->β->Prop}:∀ {l₁:List α}{l₂:List β},Paired F l₁ l₂->(∀ a b,F a b->G a b)->Paired G l₁ l₂
 | _,_,.nil,_=>.nil
 | _,_,.cons r t,f=>.cons (f _ _ r) (Paired.mapP t f)
theorem ObjOk.stay (x:ObjOk P w K H h a o) (k:∀ b u,(b=a\/H b=some (.own a))->h.get? b=some u->h'.get? b=some u)
  (ho:∀ b,H b=some (.own a)->H' b=some (.own a)) (ht:∀ b xs,H b=some (.tup xs)->H' b=some (.tup xs)):ObjOk P w K H' h' a o:=by
 induction o with
 | lst xs=>obtain⟨z,its,n,r,e⟩:=x;exact⟨z,its,n,r,k _ _ (.inl rfl) e⟩
 | tup xs=>obtain⟨z,its,r,ob,e,c⟩:=x;exact⟨z,its,r,ob,k _ _ (.inl rfl) e,c⟩
 | dK kvs=>obtain⟨z,y,vs,r,ob,es,ep,e,c⟩:=x;exact⟨z,y,vs,r,ob,es,ep,k _ _ (.inl rfl) e,c⟩
 | dT kvs=>
  obtain⟨z,y,xs,r,ob,es,ep,e,c⟩:=x
  exact⟨z,y,xs,Paired.mapP r λp q z=>⟨z.1,z.2.1.keeps ht,z.2.2⟩,ob,es,ep,k _ _ (.inl rfl) e,c⟩
 | set S n=>obtain⟨ob,es,ep,t,e,c⟩:=x;exact⟨ob,es,ep,t,k _ _ (.inl rfl) e,c⟩
 | ins C dx fs=>
  obtain⟨d,z,ne,e,mA,⟨od,es,ep,e2,c⟩,r⟩:=x
  exact⟨ho _ d,z,ne,k _ _ (.inl rfl) e,mA,⟨od,es,ep,k _ _ (.inr d) e2,c⟩,r⟩
 | own y=>obtain⟨ob,e⟩:=x;exact⟨ob,k _ _ (.inl rfl) e⟩
 | xd fs=>obtain⟨mA,⟨od,es,ep,e,c⟩,r⟩:=x;exact⟨mA,⟨od,es,ep,k _ _ (.inl rfl) e,c⟩,r⟩
 | rng lo hi=>obtain⟨t,u,v,e⟩:=x;exact⟨t,u,v,k _ _ (.inl rfl) e⟩
 | frz ob u ih=>obtain⟨e,q⟩:=x;exact⟨k _ _ (.inl rfl) e,ih q⟩
 | tbl ps=>
  have e:h.get? a=some { cls:=.none,data:=.fields ps }:=x
  show h'.get? a=some { cls:=.none,data:=.fields ps }
  exact k a _ (.inl rfl) e
 | met f y=>
  have e:h.get? a=some (PySem.W.methodObj (.ref f) (.ref y)):=x
  show h'.get? a=some (PySem.W.methodObj (.ref f) (.ref y))
  exact k a _ (.inl rfl) e
 | ext φ=>obtain⟨p,⟨o,e⟩,st⟩:=x;exact⟨st _ _ p λo q=>k _ _ (.inl rfl) q,⟨o,k _ _ (.inl rfl) e⟩,st⟩
theorem HOk.lt (x:HOk P w K H h) (e:H a=some o):a < h.objs.size:=(x a o e).lt
theorem HOk.fresh (x:HOk P w K H h) (e:h.objs.size<=a):H a=none:=by
 cases q:H a with
 | none=>rfl
 | some u=>exact absurd (Nat.lt_of_lt_of_le (x.lt q) e) (Nat.lt_irrefl _)
theorem HOk.kept (x:HOk P w K H h) (k:∀ b u,h.get? b=some u->h'.get? b=some u):HOk P w K H h':=λa o e=>
 (x a o e).stay (λb u _ q=>k b u q) (λ_ q=>q) λ_ _ q=>q
theorem HOk.laid (x:HOk P w K H h) (k:∀ b u,h.get? b=some u->h'.get? b=some u) (hp:h.objs.size<=a) (new:ObjOk P w K (upd H a o) h' a o):HOk P w K (upd H a o) h':=λb u e=>by
 have hn:=x.fresh hp
 by_cases hb:b=a
 ·subst hb;rw[aU] at e;cases e;exact new
 ·rw[aH hb] at e
  exact(x b u e).stay (λc v _ q=>k c v q) (λc q=>by rw[aH (aN q hn)];exact q) λc xs q=>by rw[aH (aN q hn)];exact q
end
def Rd (H:Hp) (a:Addr) (u:HO):Prop:=H a=some u\/∃ o,H a=some (.frz o u)
theorem Rd.of {H:Hp}{a:Addr}{u:HO}(h:H a=some u):Rd H a u:=.inl h
theorem Rd.ok {P:Program}{w:World}{K:PySem.W.Frag}{H:Hp}{h:Heap}{a:Addr}{u:HO}(r:Rd H a u) (x:HOk P w K H h):ObjOk P w K H h a u:=by
 rcases r with r | ⟨o,r⟩
 ·exact x a u r
 ·obtain⟨_,q⟩:=x a _ r
  exact q
def Mut:Option HO->Prop
 | some (.lst _)=>True
 | some (.dK _)=>True
 | some (.dT _)=>True
 | some (.set _ _)=>True
 | some (.ins _ _ _)=>True
 | some (.ext _)=>True
 | _=>False
section
variable {P:Program}{w:World}{K:PySem.W.Frag}{H:Hp}{h h':Heap}{x e:Addr}{o':HO}
theorem HOk.write (ok:HOk P w K H h) (mu:Mut (H x)) (he:e=x\/H e=some (.own x)) (k:∀ b u,b≠e->h.get? b=some u->h'.get? b=some u) (heo:∃ u,h'.get? e=some u)
  (new:ObjOk P w K (upd H x o') h' x o'):HOk P w K (upd H x o') h':=λb u q=>by
 have nown:∀ c y,H c=some (.own y)->c≠x:=λc y r z=>by subst z;rw[r] at mu;exact mu
 have ntup:∀ c xs,H c=some (.tup xs)->c≠x:=λc xs r z=>by subst z;rw[r] at mu;exact mu
 by_cases hb:b=x
 ·subst hb;rw[aU] at q;cases q;exact new
 ·rw[aH hb] at q
  by_cases hbe:b=e
  ·have q':H b=some (.own x):=by
    rcases he with z | z
    ·exact absurd (hbe.trans z) hb
    ·rw[hbe];exact z
   rw[q] at q';cases q'
   obtain⟨v,hv⟩:=heo
   exact⟨v,by rw[hbe];exact hv⟩
  ·refine(ok b u q).stay (λc v hc r=>k c v ?_ r) (λc r=>by rw[aH (nown c b r)];exact r) λc xs r=>by rw[aH (ntup c xs r)];exact r
   rcases hc with rfl | hc
   ·exact hbe
   ·rintro rfl
    rcases he with z | z
    ·exact nown c b hc z
    ·rw[hc] at z;cases z;exact hb rfl
end
structure Un (fs ex:List Addr) (H H':Hp) (h h':Heap):Prop where
 keep:∀ b o,h.get? b=some o->H b=none->b∉fs->b∉ex->h'.get? b=some o
 slot:∀ b o,h.get? b=some o->H b=none->b∈fs->b∉ex->∃ sl,h'.get? b=some { o with slots:=sl }
 free:∀ b o,h.get? b=some o->H b=none->b∉ex->H' b=none
 there:∀ b o,h.get? b=some o->b∉ex->∃ o',h'.get? b=some o'
 tups:∀ b xs,H b=some (.tup xs)->H' b=some (.tup xs)
 frzs:∀ b o u,H b=some (.frz o u)->H' b=some (.frz o u)
 tbls:∀ b ps,H b=some (.tbl ps)->∃ more,H' b=some (.tbl (ps++more))
section
variable {fs fs' ex ex':List Addr}{H H1 H2:Hp}{h h1 h2 h':Heap}{a x e:Addr}{o:HO}
theorem Un.any (u:Un fs ex H H1 h h1){b:Addr}{ob:Obj}(q:h.get? b=some ob) (n:H b=none) (hx:b∉ex):∃ sl,h1.get? b=some { ob with slots:=sl }:=by
 by_cases hb:b∈fs
 ·exact u.slot b ob q n hb hx
 ·exact⟨ob.slots,u.keep b ob q n hb hx⟩
theorem Un.trans (a:Un fs ex H H1 h h1) (b:Un fs ex H1 H2 h1 h2):Un fs ex H H2 h h2 where
 keep:=λc ob q n hc hx=>b.keep c ob (a.keep c ob q n hc hx) (a.free c ob q n hx) hc hx
 slot:=λc ob q n hc hx=>by
  obtain⟨sl,e1⟩:=a.slot c ob q n hc hx
  obtain⟨sl',e2⟩:=b.slot c _ e1 (a.free c ob q n hx) hc hx
  exact⟨sl',e2⟩
 free:=λc ob q n hx=>by
  obtain⟨o',e1⟩:=a.there c ob q hx
  exact b.free c o' e1 (a.free c ob q n hx) hx
 there:=λc ob q hx=>by
  obtain⟨o',e1⟩:=a.there c ob q hx
  exact b.there c o' e1 hx
 tups:=λc xs q=>b.tups c xs (a.tups c xs q)
 frzs:=λc ob xs q=>b.frzs c ob xs (a.frzs c ob xs q)
 tbls:=λc ps q=>by
  obtain⟨m1,e1⟩:=a.tbls c ps q
  obtain⟨m2,e2⟩:=b.tbls c _ e1
  exact⟨m1++m2,by rw[e2,Array.append_assoc]⟩
theorem Un.kept (k:∀ b u,h.get? b=some u->h'.get? b=some u):Un fs ex H H h h':=
 ⟨λb ob q _ _ _=>k b ob q,λb ob q _ _ _=>⟨ob.slots,k b ob q⟩,λ_ _ _ n _=>n,λb ob q _=>⟨ob,k b ob q⟩,λ_ _ q=>q,λ_ _ _ q=>q,λ_ ps q=>⟨#[],by rw[q];simp⟩⟩
theorem Un.refl:Un fs ex H H h h:=Un.kept λ_ _ q=>q
theorem Un.laid (k:∀ b u,h.get? b=some u->h'.get? b=some u) (hp:h.objs.size<=a) (hn:H a=none):Un fs ex H (upd H a o) h h' where
 keep:=λb u q _ _ _=>k b u q
 slot:=λb u q _ _ _=>⟨u.slots,k b u q⟩
 free:=λb u q n _=>by rw[aH (Nat.ne_of_lt (Nat.lt_of_lt_of_le (Heap.lt_size q) hp))];exact n
 there:=λb u q _=>⟨u,k b u q⟩
 tups:=λb xs q=>by rw[aH (aN q hn)];exact q
 frzs:=λb u xs q=>by rw[aH (aN q hn)];exact q
 tbls:=λb ps q=>⟨#[],by rw[aH (aN q hn),q];simp⟩
theorem Un.write (mu:Mut (H x)) (he:e=x\/H e=some (.own x)) (k:∀ b u,b≠e->h.get? b=some u->h'.get? b=some u) (heo:∃ u,h'.get? e=some u):Un fs ex H (upd H x o) h h':=by
 have hx:∀ b,H b=none->b≠x:=λb n z=>by subst z;rw[n] at mu;exact mu
 have hb:∀ b,H b=none->b≠e:=λb n z=>by
  subst z
  rcases he with r | r
  ·exact hx b n r
  ·rw[n] at r;cases r
 have hm:∀ b u,H b=some u->¬ Mut (some u)->b≠x:=λb u q nm z=>by subst z;rw[q] at mu;exact nm mu
 refine⟨λb u q n _ _=>k b u (hb b n) q,λb u q n _ _=>⟨u.slots,k b u (hb b n) q⟩,λb u q n _=>by rw[aH (hx b n)];exact n,λb u q _=>?_,
  λb xs q=>by rw[aH (hm b _ q λz=>z)];exact q,λb u xs q=>by rw[aH (hm b _ q λz=>z)];exact q,λb ps q=>⟨#[],by rw[aH (hm b _ q λz=>z),q];simp⟩⟩
 by_cases hbe:b=e
 ·subst hbe;exact heo
 ·exact⟨u,k b u hbe q⟩
theorem Un.mono (u:Un fs ex H H1 h h1) (hs:∀ b∈fs,b∈fs') (hx:∀ b∈ex,b∈ex'):Un fs' ex' H H1 h h1:=
 ⟨λb ob q n hb he=>u.keep b ob q n (λz=>hb (hs b z)) λz=>he (hx b z),λ_ _ q n _ he=>u.any q n λz=>he (hx _ z),λb ob q n he=>u.free b ob q n λz=>he (hx b z),λb ob q he=>u.there b ob q λz=>he (hx b z),u.tups,u.frzs,u.tbls⟩
end
def trk (h:Heap) (H:Hp):List Addr:=(List.range h.objs.size).filter λa=>(H a).isSome
def mZ (h:Heap) (H:Hp):Heap:=PySem.W.hideAll h (trk h H)
theorem Aa (h:Heap) (H:Hp):(mZ h H).objs.size=h.objs.size:=PySem.W.hideAll_size _ _
theorem C_ {h:Heap}{H:Hp}{b:Addr}{o:Obj}(e:h.get? b=some o) (n:H b=none):(mZ h H).get? b=some o:=
 PySem.W.hideAll_get _ e λhm=>by
  have q:(H b).isSome=true:=(List.mem_filter.mp hm).2
  rw[n] at q;simp at q
theorem Gh {h:Heap}{H:Hp}{b:Addr}{o:Obj}(e:(mZ h H).get? b=some o):h.get? b=some o/\H b=none:=by
 have e':h.get? b=some o:=PySem.W.of_hideAll (trk h H) e
 refine⟨e',?_⟩
 cases q:H b with
 | none=>rfl
 | some x=>
  have hm:b∈trk h H:=List.mem_filter.mpr ⟨List.mem_range.mpr (Heap.lt_size e'),by simp[q]⟩
  have z:(mZ h H).get? b=none:=PySem.W.hideAll_none (trk h H) hm
  rw[z] at e;cases e
def Gi (g h:Heap) (L:Addr):List (Addr×Obj):=(List.range h.objs.size).filterMap λa=>if a=L\/(g.get? a).isSome=true then none else (h.get? a).map λo=>(a,o)
def rest (g h:Heap) (L d:Addr):List (Addr×Obj):=(Gi g h L).filter λp=>decide (p.1≠d)
end L2
namespace L2
open PySem PySem.Spec PyProof.Rows
structure Mod (K:PySem.W.Frag) (mg:Str->Option Value) (base:Heap):Prop where
 kin:K.In base
 glob:base.Ns mainGlobals mg
 blt:∃ mb,base.Ns builtinsNs mb/\∀ x:Str,x ≠ "__name__" -> mb x=bootBuiltins x
 nolimit:base.NoLimit
structure Cx where
 prog:Program
 w:World
 K:PySem.W.Frag
 mg:Str->Option Value
 base:Heap
 A:Around
 N:List Str
 s₀:Shared
 H₀:Hp
 env:Env
 outer:List Env
 stack:List Env
 ex:List Addr
 fn:Str->Bool
 calm:Bool
 pn:List (Addr×Obj)
 xe:Value->Shared->Prop
def frs (l:List Env):List Addr:=l.filterMap (·.frame)
abbrev Cx.fs (X:Cx):List Addr:=frs X.outer
def Vis (sc:Scope) (x:Str):Prop:=sc.names.lookup x=some .local\/sc.names.lookup x=some .cell\/sc.names.lookup x=some .free
def Loc (sc:Scope) (x:Str):Prop:=sc.names.lookup x=some .local\/sc.names.lookup x=some .cell
def Look (env:Env) (h:Heap) (m:Str->Option Value) (x:Str) (u:Value):Prop:=
 (env.kindOf x=some .local/\m x=some u)\/((env.kindOf x=some .cell\/env.kindOf x=some .free)/\∃ c,env.cells.lookup x=some c/\h.IsCell c (some u))
structure Cx.Ok (X:Cx):Prop where
 mod:Mod X.K X.mg X.base
 kind:X.env.scope.kind=.function
 glob:X.env.globals=mainGlobals
 blt:X.env.builtins=builtinsNs
 above:X.s₀.heap.objs.size<=X.env.locals
 inj:∀ x y c,X.env.cells.lookup x=some c->X.env.cells.lookup y=some c->x=y
 has:∀ x,(X.env.kindOf x=some .cell\/X.env.kindOf x=some .free)->∃ c,X.env.cells.lookup x=some c
 cab:∀ x c,X.fn x=true->X.env.cells.lookup x=some c->X.s₀.heap.objs.size<=c
 hd:X.calm=true->X.A.handled=none
 frames:X.A.frames=some X.stack
 stk:X.stack=X.outer\/(X.stack=X.env::X.outer/\X.env.frame=some X.env.locals)
 exf:∀ b∈X.ex,b≠X.env.locals/\∀ x c,X.env.cells.lookup x=some c->c≠b
 bs:∀ b o,X.base.get? b=some o->X.s₀.heap.get? b=some o/\X.H₀ b=none
 bsz:X.base.objs.size<=X.s₀.heap.objs.size
 noex:∀ b o,X.base.get? b=some o->b∉X.ex
 exfs:∀ b∈X.ex,b∉X.fs
 funs:X.s₀.heap.FunFrames X.base X.outer
 frf:∀ b∈X.fs,X.H₀ b=none
structure Inv (X:Cx) (pins:List (Addr×Obj)) (σ:List (Option V)) (H:Hp) (s:Shared):Prop where
 ok:X.Ok
 os:s.os=X.s₀.os
 bare:AllBare s.gens
 base:Un X.fs X.ex X.H₀ H X.s₀.heap s.heap
 loc:∃ m,s.heap.Ns X.env.locals m/\∀ (i:Nat) (x:Str) (v:V),X.N[i]?=some x->σ[i]?=some (some v)->Vis X.env.scope x->∃ u,RelV v u/\Look X.env s.heap m x u
 cell:∀ x c,X.env.cells.lookup x=some c->∃ v,s.heap.IsCell c v
 free:H X.env.locals=none
 freeC:∀ x c,X.env.cells.lookup x=some c->H c=none
 pin:∀ p∈X.pn++pins,s.heap.get? p.1=some p.2/\H p.1=none/\p.1≠X.env.locals/\p.1∉X.fs/\∀ v,p.2.data≠.cell v
 hok:HOk X.prog X.w X.K H s.heap
 len:σ.length=X.N.length
section
variable {X:Cx}{pins:List (Addr×Obj)}{σ:List (Option V)}{H H':Hp}{s:Shared}{h':Heap}
theorem Cx.Ok.nofr (ok:X.Ok){b:Addr}{o:Obj}(e:X.base.get? b=some o):b∉X.fs:=λhb=>by
 have:=(ok.funs.mem hb).1
 rw[e] at this;cases this
theorem Inv.bs (I:Inv X pins σ H s):∀ b o,X.base.get? b=some o->s.heap.get? b=some o/\H b=none:=λb o e=>
 ⟨I.base.keep b o (I.ok.bs b o e).1 (I.ok.bs b o e).2 (I.ok.nofr e) (I.ok.noex b o e),I.base.free b o (I.ok.bs b o e).1 (I.ok.bs b o e).2 (I.ok.noex b o e)⟩
theorem Inv.bk (I:Inv X pins σ H s):∀ b o,X.base.get? b=some o->s.heap.get? b=some o:=λb o e=>(I.bs b o e).1
theorem Inv.mod (I:Inv X pins σ H s):Mod X.K X.mg X.base:=I.ok.mod
theorem Inv.kIn (I:Inv X pins σ H s):X.K.In s.heap:=I.ok.mod.kin.keeps I.bk
theorem Inv.nolimit (I:Inv X pins σ H s):s.heap.NoLimit:=I.ok.mod.nolimit.keeps I.bk
theorem Inv.fr (I:Inv X pins σ H s):∃ m,Fr X.base X.env.locals s.heap m:=
 let ⟨m,hn,_⟩:=I.loc
 ⟨m,hn,I.bk,Nat.le_trans I.ok.bsz I.ok.above⟩
theorem Inv.lt (I:Inv X pins σ H s):X.env.locals < s.heap.objs.size:=let ⟨_,hn,_⟩:=I.loc;hn.lt
theorem Inv.sz (I:Inv X pins σ H s):X.s₀.heap.objs.size<=s.heap.objs.size:=Nat.le_trans I.ok.above (Nat.le_of_lt I.lt)
theorem Inv.nofs (I:Inv X pins σ H s){a:Addr}(h:s.heap.objs.size<=a):a∉X.fs:=λhb=>by
 obtain⟨_,o,ho,_⟩:=I.ok.funs.mem hb
 exact absurd (Nat.lt_of_lt_of_le (Heap.lt_size ho) (Nat.le_trans I.sz h)) (Nat.lt_irrefl _)
theorem Inv.cne (I:Inv X pins σ H s):∀ x c,X.env.cells.lookup x=some c->c≠X.env.locals:=λx c e z=>by
 obtain⟨v,o,ho,hd⟩:=I.cell x c e
 obtain⟨m,⟨o',es,ep,ho',hd',_⟩,_⟩:=I.loc
 rw[z,ho'] at ho;cases ho;rw[hd'] at hd;cases hd
theorem Inv.funs (I:Inv X pins σ H s):s.heap.FunFrames X.base X.outer:=by
 have all:∀ (l:List Env),(∀ b∈frs l,b∈X.fs)->X.s₀.heap.FunFrames X.base l->s.heap.FunFrames X.base l:=by
  intro l
  induction l with
  | nil=>intro _ _;trivial
  | cons env r ih=>
   intro hs hl
   obtain⟨hk,⟨L,o,hf,hn,ho,hd⟩,hr⟩:=hl
   have hL:L∈X.fs:=hs L (by unfold frs;rw[List.filterMap_cons,hf];exact List.mem_cons_self)
   obtain⟨sl,e⟩:=I.base.slot L o ho (I.ok.frf L hL) hL λz=>I.ok.exfs L z hL
   exact⟨hk,⟨L,_,hf,hn,e,hd⟩,ih (λb hb=>hs b (by unfold frs;rw[List.filterMap_cons,hf];exact List.mem_cons_of_mem _ hb)) hr⟩
 exact all X.outer (λ_ hb=>hb) I.ok.funs
theorem Inv.stack (I:Inv X pins σ H s):s.heap.FunFrames X.base X.stack:=by
 rcases I.ok.stk with e | ⟨e,hf⟩
 ·rw[e];exact I.funs
 ·rw[e]
  obtain⟨m,hn,_⟩:=I.loc
  refine .cons (by rw[I.ok.kind];decide) hf hn ?_ I.funs
  exact Heap.get?_none_of_le (Nat.le_trans I.ok.bsz I.ok.above)
theorem Inv.stkSub (I:Inv X pins σ H s):∀ b∈frs X.stack,b∈X.env.locals::X.fs:=λb hb=>by
 rcases I.ok.stk with e | ⟨e,hf⟩
 ·rw[e] at hb;exact List.mem_cons_of_mem _ hb
 ·rw[e] at hb
  unfold frs at hb
  rw[List.filterMap_cons,hf] at hb
  exact hb
theorem Inv.stkFree (I:Inv X pins σ H s):∀ b∈frs X.stack,H b=none:=λb hb=>by
 rcases List.mem_cons.mp (I.stkSub b hb) with e | hb
 ·rw[e];exact I.free
 ·obtain⟨_,o,ho,_⟩:=I.ok.funs.mem hb
  exact I.base.free b o ho (I.ok.frf b hb) λz=>I.ok.exfs b z hb
theorem Inv.step {g':Array GenState}{t':Nat}{d':Drawn}{ch:List Addr}(I:Inv X pins σ H s)
  (hch:∀ b∈ch,(b∈X.ex\/X.s₀.heap.objs.size<=b)/\b≠X.env.locals/\(∀ x c,X.env.cells.lookup x=some c->c≠b)/\∀ p∈X.pn++pins,p.1≠b)
  (keep:∀ b o,b≠X.env.locals->b∉X.fs->b∉ch->s.heap.get? b=some o->H b=none->h'.get? b=some o)
  (slot:∀ b o,b≠X.env.locals->b∈X.fs->b∉ch->s.heap.get? b=some o->H b=none->∃ sl,h'.get? b=some { o with slots:=sl }) (free:∀ b o,b∉ch->s.heap.get? b=some o->H b=none->H' b=none)
  (there:∀ b o,b∉ch->s.heap.get? b=some o->∃ o',h'.get? b=some o')
  (tups:∀ b xs,H b=some (.tup xs)->H' b=some (.tup xs)) (frzs:∀ b o u,H b=some (.frz o u)->H' b=some (.frz o u)) (tbls:∀ b ps,H b=some (.tbl ps)->∃ more,H' b=some (.tbl (ps++more)))
  (ns:∀ m,s.heap.Ns X.env.locals m->h'.Ns X.env.locals m) (hok:HOk X.prog X.w X.K H' h') (hg:AllBare g'):
  Inv X pins σ H' { s with heap:=h',gens:=g',drawn:=d',toks:=t' }:=by
 have neL:∀ b o,X.s₀.heap.get? b=some o->b≠X.env.locals:=λb o e=>Nat.ne_of_lt (Nat.lt_of_lt_of_le (Heap.lt_size e) I.ok.above)
 have neC:∀ b o,X.s₀.heap.get? b=some o->b∉X.ex->b∉ch:=λb o e hx hb=>by
  rcases(hch b hb).1 with z | z
  ·exact hx z
  ·exact absurd (Nat.lt_of_lt_of_le (Heap.lt_size e) z) (Nat.lt_irrefl _)
 have cellK:∀ x c,X.env.cells.lookup x=some c->∀ v,s.heap.IsCell c v->h'.IsCell c v:=by
  rintro x c e v ⟨o,ho,hd⟩
  have nch:c∉ch:=λz=>(hch c z).2.2.1 x c e rfl
  by_cases hc:c∈X.fs
  ·obtain⟨sl,q⟩:=slot c o (I.cne x c e) hc nch ho (I.freeC x c e)
   exact⟨_,q,hd⟩
  ·exact⟨o,keep c o (I.cne x c e) hc nch ho (I.freeC x c e),hd⟩
 refine⟨I.ok,I.os,hg,⟨λb o e n hb hx=>?_,λb o e n hb hx=>?_,λb o e n hx=>?_,λb o e hx=>?_,λb xs e=>tups b xs (I.base.tups b xs e),λb o xs e=>frzs b o xs (I.base.frzs b o xs e),λb ps e=>?_⟩,?_,λx c e=>?_,?_,λx c e=>?_,λp hp=>?_,hok,I.len⟩
 ·exact keep b o (neL b o e) hb (neC b o e hx) (I.base.keep b o e n hb hx) (I.base.free b o e n hx)
 ·obtain⟨sl,e1⟩:=I.base.slot b o e n hb hx
  obtain⟨sl',e2⟩:=slot b _ (neL b o e) hb (neC b o e hx) e1 (I.base.free b o e n hx)
  exact⟨sl',e2⟩
 ·obtain⟨o',e1⟩:=I.base.there b o e hx
  exact free b o' (neC b o e hx) e1 (I.base.free b o e n hx)
 ·obtain⟨o',e1⟩:=I.base.there b o e hx
  exact there b o' (neC b o e hx) e1
 ·obtain⟨m1,e1⟩:=I.base.tbls b ps e
  obtain⟨m2,e2⟩:=tbls b _ e1
  exact⟨m1++m2,by rw[e2,Array.append_assoc]⟩
 ·obtain⟨m,hn,hl⟩:=I.loc
  refine⟨m,ns m hn,λi x v e1 e2 e3=>?_⟩
  obtain⟨u,r,l⟩:=hl i x v e1 e2 e3
  refine⟨u,r,?_⟩
  rcases l with l | ⟨k,c,e,z⟩
  ·exact .inl l
  ·exact .inr ⟨k,c,e,cellK x c e _ z⟩
 ·obtain⟨v,z⟩:=I.cell x c e
  exact⟨v,cellK x c e v z⟩
 ·obtain⟨m,⟨o,_,_,ho,_⟩,_⟩:=I.loc
  exact free _ o (λz=>(hch _ z).2.1 rfl) ho I.free
 ·obtain⟨v,o,ho,hd⟩:=I.cell x c e
  exact free c o (λz=>(hch c z).2.2.1 x c e rfl) ho (I.freeC x c e)
 ·obtain⟨e,n,ne,nf,d⟩:=I.pin p hp
  have nch:p.1∉ch:=λz=>(hch p.1 z).2.2.2 p hp rfl
  exact⟨keep p.1 p.2 ne nf nch e n,free p.1 p.2 nch e n,ne,nf,d⟩
theorem Inv.un {t':Nat}(I:Inv X pins σ H s) (u:Un X.fs [] H H' s.heap h') (hok:HOk X.prog X.w X.K H' h'):Inv X pins σ H' { s with heap:=h',toks:=t' }:=by
 obtain⟨m,⟨o,es,ep,ho,r⟩,_⟩:=id I.loc
 obtain⟨sl,hL⟩:=u.any ho I.free (by simp)
 exact I.step (g':=s.gens) (d':=s.drawn) (ch:=[]) (λ_ z=>nomatch z) (λb o _ hb _ e n=>u.keep b o e n hb (by simp)) (λb o _ hb _ e n=>u.slot b o e n hb (by simp)) (λb o _ e n=>u.free b o e n (by simp)) (λb o _ e=>u.there b o e (by simp)) u.tups u.frzs u.tbls (λm' hm=>by
  obtain⟨o',es',ep',ho',r'⟩:=hm
  rw[ho] at ho';cases ho'
  exact⟨_,es',ep',hL,r'⟩) hok I.bare
theorem Inv.call {g':Array GenState}{t':Nat}{d':Drawn}{ch:List Addr}(I:Inv X pins σ H s) (u:Un (frs X.stack) ch H H' s.heap h') (hok:HOk X.prog X.w X.K H' h') (hg:AllBare g')
  (hch:∀ b∈ch,(b∈X.ex\/X.s₀.heap.objs.size<=b)/\b≠X.env.locals/\(∀ x c,X.env.cells.lookup x=some c->c≠b)/\∀ p∈X.pn++pins,p.1≠b):
  Inv X pins σ H' { s with heap:=h',gens:=g',drawn:=d',toks:=t' }:=by
 obtain⟨m,⟨o,es,ep,ho,r⟩,_⟩:=id I.loc
 obtain⟨sl,hL⟩:=u.any ho I.free λz=>(hch _ z).2.1 rfl
 exact I.step (ch:=ch) hch (λb o hL hb hc e n=>u.keep b o e n (λz=>(List.mem_cons.mp (I.stkSub b z)).elim hL hb) hc) (λb o _ _ hc e n=>u.any e n hc) (λb o hc e n=>u.free b o e n hc) (λb o hc e=>u.there b o e hc) u.tups u.frzs u.tbls (λm' hm=>by
  obtain⟨o',es',ep',ho',r'⟩:=hm
  rw[ho] at ho';cases ho'
  exact⟨_,es',ep',hL,r'⟩) hok hg
theorem Inv.turned {t':Nat}{it:Addr}(I:Inv X pins σ H s) (k:∀ b o,b≠it->s.heap.get? b=some o->h'.get? b=some o) (hn:H it=none) (hL:it≠X.env.locals)
  (h1:it∈X.ex\/X.s₀.heap.objs.size<=it) (h2:∀ x c,X.env.cells.lookup x=some c->c≠it) (h3:∀ p∈X.pn++pins,p.1≠it):Inv X pins σ H { s with heap:=h',toks:=t' }:=by
 have nit:∀ b u,H b=some u->b≠it:=λb u e z=>by rw[z,hn] at e;cases e
 refine I.step (g':=s.gens) (d':=s.drawn) (ch:=[it]) (λb hb=>?_) (λb o _ _ hc e _=>k b o (λz=>hc (by simp[z])) e) (λb o _ _ hc e _=>⟨o.slots,k b o (λz=>hc (by simp[z])) e⟩) (λ_ _ _ _ n=>n)
  (λb o hc e=>⟨o,k b o (λz=>hc (by simp[z])) e⟩) (λ_ _ e=>e) (λ_ _ _ e=>e) (λb ps e=>⟨#[],by rw[e];simp⟩) (λm hm=>?_) (λb u e=>?_) I.bare
 ·have e:b=it:=by simpa using hb
  subst e
  exact⟨h1,hL,h2,h3⟩
 ·obtain⟨o,es,ep,ho,r⟩:=hm
  exact⟨o,es,ep,k _ o (Ne.symm hL) ho,r⟩
 ·refine(I.hok b u e).stay (λc v hc q=>k c v ?_ q) (λ_ q=>q) λ_ _ q=>q
  rcases hc with z | z
  ·rw[z];exact nit b u e
  ·exact nit c _ z
theorem Inv.tok (I:Inv X pins σ H s) (t:Nat):Inv X pins σ H { s with toks:=t }:=I.un (h':=s.heap) (t':=t) Un.refl I.hok
theorem Inv.kept {t':Nat}(I:Inv X pins σ H s) (k:∀ b u,s.heap.get? b=some u->h'.get? b=some u):Inv X pins σ H { s with heap:=h',toks:=t' }:=I.un (Un.kept k) (I.hok.kept k)
theorem Inv.laid {a:Addr}{o:HO}{t':Nat}(I:Inv X pins σ H s) (k:∀ b u,s.heap.get? b=some u->h'.get? b=some u) (hp:s.heap.objs.size<=a) (new:ObjOk X.prog X.w X.K (upd H a o) h' a o):
  Inv X pins σ (upd H a o) { s with heap:=h',toks:=t' }:=I.un (Un.laid k hp (I.hok.fresh hp)) (I.hok.laid k hp new)
theorem Inv.write {x e:Addr}{o:HO}{t':Nat}(I:Inv X pins σ H s) (mu:Mut (H x)) (he:e=x\/H e=some (.own x)) (k:∀ b u,b≠e->s.heap.get? b=some u->h'.get? b=some u) (heo:∃ u,h'.get? e=some u)
  (new:ObjOk X.prog X.w X.K (upd H x o) h' x o):Inv X pins σ (upd H x o) { s with heap:=h',toks:=t' }:=I.un (Un.write mu he k heo) (I.hok.write mu he k heo new)
theorem Inv.weak {σ':List (Option V)}(I:Inv X pins σ H s) (hl:σ'.length=σ.length) (w:∀ (i:Nat) v,σ'[i]?=some (some v)->σ[i]?=some (some v)):Inv X pins σ' H s:=
 ⟨I.ok,I.os,I.bare,I.base,let ⟨m,hn,hl'⟩:=I.loc;⟨m,hn,λi x v e1 e2 e3=>hl' i x v e1 (w i v e2) e3⟩,I.cell,I.free,I.freeC,I.pin,I.hok,hl.trans I.len⟩
theorem Inv.pins_of {pins':List (Addr×Obj)}(I:Inv X pins σ H s) (h:∀ p∈pins',s.heap.get? p.1=some p.2/\H p.1=none/\p.1≠X.env.locals/\p.1∉X.fs/\∀ v,p.2.data≠.cell v):Inv X pins' σ H s:=
 ⟨I.ok,I.os,I.bare,I.base,I.loc,I.cell,I.free,I.freeC,λp hp=>(List.mem_append.mp hp).elim (λz=>I.pin p (List.mem_append_left _ z)) (h p),I.hok,I.len⟩
theorem qL {N:List Str}(hN:N.Nodup){i j:Nat}{x:Str}(a:N[i]?=some x) (b:N[j]?=some x):i=j:=by
 obtain⟨h1,e1⟩:=List.getElem?_eq_some_iff.mp a
 obtain⟨h2,e2⟩:=List.getElem?_eq_some_iff.mp b
 exact(List.getElem_inj hN).mp (e1.trans e2.symm)
theorem uy {M:Model}{A:Around}{E:Value->Shared->Prop}{i:Nat}{x:Str}{v:V}{u:Value}{Q:Unit->Shared->Prop}(I:Inv X pins σ H s) (hN:X.N.Nodup) (hi:X.N[i]?=some x) (hx:Loc X.env.scope x) (r:RelV v u)
  (h:∀ s',Inv X pins (σ.set i (some v)) H s'->(∃ a,Heap.SameBut a s.heap s'.heap/\(a=X.env.locals\/X.env.cells.lookup x=some a))->Q () s') (hf:X.fn x=true\/X.env.scope.names.lookup x=some .local:=by first | exact .inl rfl | exact .inr rfl | assumption):wpAny M A (storeName X.env x u) Q E s:=by
 obtain⟨m,hn,hl⟩:=id I.loc
 have hcls:(X.env.scope.kind == .class||(X.env.scope.kind == .module&&X.env.locals != X.env.globals))=false:=by rw[I.ok.kind];rfl
 have hiσ:i < σ.length:=by rw[I.len];exact(List.getElem?_eq_some_iff.mp hi).1
 have cne:=I.cne
 have tracked:∀ {a:Addr}{h':Heap},(∃ o,s.heap.get? a=some o/\H a=none)->Heap.SameBut a s.heap h'->HOk X.prog X.w X.K H h':=λ{a h'} ha hs b ob e=>by
  obtain⟨_,_,hfree⟩:=ha
  refine(I.hok b ob e).stay (λc w' hc q=>(hs.2 c ?_).trans q) (λ_ q=>q) λ_ _ q=>q
  rintro rfl
  rcases hc with rfl | hc
  ·rw[hfree] at e;cases e
  ·rw[hfree] at hc;cases hc
 rcases hx with hk | hk
 ·refine wpAny_storeName_local hk hn (λh' hn' hs=>?_) hcls
  obtain⟨oL,_,_,hoL,_⟩:=id hn
  refine h _ ⟨I.ok,I.os,I.bare,⟨λb o e n hb hx=>?_,λb o e n hb hx=>?_,I.base.free,λb o e hx=>?_,I.base.tups,I.base.frzs,I.base.tbls⟩,⟨_,hn',λj y v' e1 e2 e3=>?_⟩,λy c e=>?_,I.free,I.freeC,λp hp=>?_,tracked ⟨oL,hoL,I.free⟩ hs,by simpa using I.len⟩ ⟨_,hs,.inl rfl⟩
  ·exact(hs.2 b (Nat.ne_of_lt (Nat.lt_of_lt_of_le (Heap.lt_size e) I.ok.above))).trans (I.base.keep b o e n hb hx)
  ·obtain⟨sl,e1⟩:=I.base.slot b o e n hb hx
   exact⟨sl,(hs.2 b (Nat.ne_of_lt (Nat.lt_of_lt_of_le (Heap.lt_size e) I.ok.above))).trans e1⟩
  ·obtain⟨o',e1⟩:=I.base.there b o e hx
   exact⟨o',(hs.2 b (Nat.ne_of_lt (Nat.lt_of_lt_of_le (Heap.lt_size e) I.ok.above))).trans e1⟩
  ·by_cases hj:j=i
   ·subst hj
    rw[hi] at e1;cases e1
    rw[List.getElem?_set_self hiσ] at e2
    cases e2
    exact⟨u,r,.inl ⟨hk,by simp⟩⟩
   ·rw[List.getElem?_set_ne (Ne.symm hj)] at e2
    obtain⟨u',r',q⟩:=hl j y v' e1 e2 e3
    refine⟨u',r',?_⟩
    rcases q with ⟨k,e⟩ | ⟨k,c,e,z⟩
    ·refine .inl ⟨k,?_⟩
     have:y≠x:=λe=>hj (qL hN e1 (e▸hi))
     simp[this,e]
    ·exact .inr ⟨k,c,e,z.sameBut hs (cne y c e)⟩
  ·obtain⟨w',z⟩:=I.cell y c e
   exact⟨w',z.sameBut hs (cne y c e)⟩
  ·obtain⟨e,n,ne,nf,d⟩:=I.pin p hp
   exact⟨(hs.2 p.1 ne).trans e,n,ne,nf,d⟩
 ·have hfn:X.fn x=true:=by
   rcases hf with z | z
   ·exact z
   ·rw[z] at hk;cases hk
  obtain⟨c,hc⟩:=I.ok.has x (.inl hk)
  obtain⟨w',z⟩:=I.cell x c hc
  refine wpAny_storeName_cell I.ok.kind hk hc z (λh' hc' hs=>?_)
  obtain⟨oc,hoc,hocd⟩:=id z
  refine h { s with heap:=h' } ⟨I.ok,I.os,I.bare,⟨λb o e n hb hx=>?_,λb o e n hb hx=>?_,I.base.free,λb o e hx=>?_,I.base.tups,I.base.frzs,I.base.tbls⟩,⟨m,hn.sameBut hs (Ne.symm (cne x c hc)),λj y v' e1 e2 e3=>?_⟩,λy c' e=>?_,I.free,I.freeC,λp hp=>?_,tracked ⟨oc,hoc,I.freeC x c hc⟩ hs,by simpa using I.len⟩ ⟨c,hs,.inr hc⟩
  ·exact(hs.2 b (Nat.ne_of_lt (Nat.lt_of_lt_of_le (Heap.lt_size e) (I.ok.cab x c hfn hc)))).trans (I.base.keep b o e n hb hx)
  ·obtain⟨sl,e1⟩:=I.base.slot b o e n hb hx
   exact⟨sl,(hs.2 b (Nat.ne_of_lt (Nat.lt_of_lt_of_le (Heap.lt_size e) (I.ok.cab x c hfn hc)))).trans e1⟩
  ·obtain⟨o',e1⟩:=I.base.there b o e hx
   exact⟨o',(hs.2 b (Nat.ne_of_lt (Nat.lt_of_lt_of_le (Heap.lt_size e) (I.ok.cab x c hfn hc)))).trans e1⟩
  ·by_cases hj:j=i
   ·subst hj
    rw[hi] at e1;cases e1
    rw[List.getElem?_set_self hiσ] at e2
    cases e2
    exact⟨u,r,.inr ⟨.inl hk,c,hc,hc'⟩⟩
   ·rw[List.getElem?_set_ne (Ne.symm hj)] at e2
    obtain⟨u',r',q⟩:=hl j y v' e1 e2 e3
    refine⟨u',r',?_⟩
    rcases q with q | ⟨k,c',e,z'⟩
    ·exact .inl q
    ·refine .inr ⟨k,c',e,z'.sameBut hs ?_⟩
     rintro rfl
     exact hj (qL hN e1 (I.ok.inj _ _ _ e hc▸hi))
  ·by_cases hcc:c'=c
   ·subst hcc;exact⟨_,hc'⟩
   ·obtain⟨w2,z2⟩:=I.cell y c' e
    exact⟨w2,z2.sameBut hs hcc⟩
  ·obtain⟨e,n,ne,nf,d⟩:=I.pin p hp
   refine⟨(hs.2 p.1 ?_).trans e,n,ne,nf,d⟩
   intro q
   rw[q,hoc] at e
   have q':oc=p.2:=Option.some.inj e
   exact d w' (by rw[← q'];exact hocd)
theorem qM {M:Model}{A:Around}{E:Value->Shared->Prop}{i:Nat}{x:Str}{v:V}{u:Value}{Q:Unit->Shared->Prop}(I:Inv X pins σ H s) (hN:X.N.Nodup) (hi:X.N[i]?=some x) (hx:Loc X.env.scope x) (r:RelV v u)
  (h:∀ s',Inv X pins (σ.set i (some v)) H s'->Q () s') (hf:X.fn x=true\/X.env.scope.names.lookup x=some .local:=by first | exact .inl rfl | exact .inr rfl | assumption):wpAny M A (storeName X.env x u) Q E s:=
 uy I hN hi hx r (λs' I' _=>h s' I') hf
theorem Inv.call' {s':Shared}{ch:List Addr}(I:Inv X pins σ H s) (ho:s'.os=s.os) (u:Un (frs X.stack) ch H H' s.heap s'.heap) (hok:HOk X.prog X.w X.K H' s'.heap) (hg:AllBare s'.gens)
  (hch:∀ b∈ch,(b∈X.ex\/X.s₀.heap.objs.size<=b)/\b≠X.env.locals/\(∀ x c,X.env.cells.lookup x=some c->c≠b)/\∀ p∈X.pn++pins,p.1≠b):Inv X pins σ H' s':=by
 obtain⟨h',g',d',t',o'⟩:=s'
 have e:o'=s.os:=ho
 subst e
 exact I.call (g':=g') (t':=t') (d':=d') u hok hg hch
end
abbrev XK:=Value->Option Addr->Hp->Prop
abbrev St:=List (Option V)
abbrev VK:=V->Hp->Prop
abbrev TE:=St->Hp->VK->Prop
abbrev TT:=St->Hp->(Bool->Hp->Prop)->Prop
abbrev TA:=St->Hp->(List V->Hp->Prop)->Prop
structure Ends where
 nx:St->Hp->Prop
 rt:VK
 bk:St->Hp->Prop:=λ_ _=>False
 ct:St->Hp->Prop:=λ_ _=>False
abbrev TS:=Ends->St->Hp->Prop
def EP (X:Cx) (pins:List (Addr×Obj)) (σ:St) (Q:VK) (u:Value) (s':Shared):Prop:=∃ v H',Inv X pins σ H' s'/\RelV v u/\Q v H'
def TP (X:Cx) (pins:List (Addr×Obj)) (σ:St) (Q:Bool->Hp->Prop) (b:Bool) (s':Shared):Prop:=∃ H',Inv X pins σ H' s'/\Q b H'
def AP (X:Cx) (pins:List (Addr×Obj)) (σ:St) (Q:List V->Hp->Prop) (us:List Value) (s':Shared):Prop:=∃ vs H',Inv X pins σ H' s'/\Vals vs us/\Q vs H'
def SP (X:Cx) (pins:List (Addr×Obj)) (D:Ends) (f:Flow) (s':Shared):Prop:=
 match f with
 | .next=>∃ σ' H',Inv X pins σ' H' s'/\D.nx σ' H'
 | .brk=>∃ σ' H',Inv X pins σ' H' s'/\D.bk σ' H'
 | .cont=>∃ σ' H',Inv X pins σ' H' s'/\D.ct σ' H'
 | .ret u=>∃ v σ' H',Inv X pins σ' H' s'/\RelV v u/\D.rt v H'
def PE (X:Cx) (e:Expr) (t:TE):Prop:=
 ∀ (pins:List (Addr×Obj)) (s:Shared) (σ:St) (H:Hp) (Q:VK),Inv X pins σ H s->t σ H Q->wpAny (model X.prog X.w) X.A (eval e X.env) (EP X pins σ Q) X.xe s
def PT (X:Cx) (e:Expr) (t:TT):Prop:=
 ∀ (pins:List (Addr×Obj)) (s:Shared) (σ:St) (H:Hp) (Q:Bool->Hp->Prop),Inv X pins σ H s->t σ H Q->wpAny (model X.prog X.w) X.A (isTrue e X.env (eval e X.env)) (TP X pins σ Q) X.xe s
def PW (X:Cx) (e:Expr) (t:TT):Prop:=
 ∀ (whole:Sem Value) (pins:List (Addr×Obj)) (s:Shared) (σ:St) (H:Hp) (Q:Bool->Hp->Prop),Inv X pins σ H s->t σ H Q->wpAny (model X.prog X.w) X.A (isTrue e X.env whole) (TP X pins σ Q) X.xe s
theorem PW.pt {X:Cx}{e:Expr}{t:TT}(h:PW X e t):PT X e t:=h _
def PA (X:Cx) (es:List Expr) (t:TA):Prop:=
 ∀ (pos:Pos) (pins:List (Addr×Obj)) (s:Shared) (σ:St) (H:Hp) (Q:List V->Hp->Prop),Inv X pins σ H s->t σ H Q->wpAny (model X.prog X.w) X.A (spliced (backTo pos (starEach es X.env))) (AP X pins σ Q) X.xe s
def PS (X:Cx) (st:Stmt) (t:TS):Prop:=
 ∀ (pins:List (Addr×Obj)) (s:Shared) (σ:St) (H:Hp) (D:Ends),Inv X pins σ H s->t D σ H->wpAny (model X.prog X.w) X.A (exec st X.env) (SP X pins D) X.xe s
def PSs (X:Cx) (st:List Stmt) (t:TS):Prop:=
 ∀ (pins:List (Addr×Obj)) (s:Shared) (σ:St) (H:Hp) (D:Ends),Inv X pins σ H s->t D σ H->wpAny (model X.prog X.w) X.A (execs st X.env) (SP X pins D) X.xe s
theorem thn {α:Type}{t:Sem α}{Q Q':α->Shared->Prop}{M:Model}{A:Around}{E:Value->Shared->Prop}{s:Shared}(h:wpAny M A t Q E s) (hQ:∀ a s,Q a s->Q' a s):wpAny M A t Q' E s:=wpAny_mono h hQ λ_ _ x=>x
end L2
namespace L2
open PySem PySem.Spec PyProof.Rows
section
variable {X:Cx}
def Ia (i:Nat):TE:=fun σ H Q=>∃ v,σ[i]?=some (some v)/\Q v H
def tC (v:V):TE:=λ_ H Q=>Q v H
theorem dj {i:Nat}{x:Str}{pos:Pos}(hN:X.N[i]?=some x) (hv:Vis X.env.scope x) (hd:(x == ("__debug__" : Str))=false:=by decide) (hcd:(x == ("__classdict__" : Str))=false:=by decide):PE X (.Name x pos) (Ia i):=by
 intro pins s σ H Q I h
 obtain⟨v,e,h⟩:=h
 obtain⟨m,hn,hl⟩:=I.loc
 obtain⟨u,r,l⟩:=hl i x v hN e hv
 have fin:EP X pins σ Q u s:=⟨v,H,I,r,h⟩
 rcases l with ⟨hk,hm⟩ | ⟨hk,c,hc,hcell⟩
 ·exact wpAny_Name (wpAny_loadName_local I.ok.kind hk hn hm fin) hd
 ·rcases hk with hk | hk
  ·exact wpAny_Name (wpAny_loadName_cell I.ok.kind hk hc hcell fin) hd
  ·exact wpAny_Name (wpAny_loadName_free I.ok.kind hk hc hcell fin hcd) hd
theorem Ib {i j pos}:PE X (.Constant (.int i) j pos) (tC (.int i)):=λ_ _ _ H _ I h=>wpAny_Constant_int ⟨.int i,H,I.tok _,⟨_,rfl⟩,h⟩
theorem Ld {b j pos}:PE X (.Constant (.bool b) j pos) (tC (.bl b)):=λ_ _ _ H _ I h=>Constant_bool ⟨.bl b,H,I,rfl,h⟩
theorem Ie {j pos}:PE X (.Constant .none j pos) (tC .non):=λ_ _ _ H _ I h=>Constant_none ⟨.non,H,I,rfl,h⟩
theorem vO {x j pos}:PE X (.Constant (.str x) j pos) (tC (.str x)):=λ_ _ _ H _ I h=>Calls.Constant_str ⟨.str x,H,I.tok _,⟨_,rfl⟩,h⟩
def Gl (X:Cx) (x:Str):Prop:=X.env.kindOf x=some .globalImplicit
theorem jB {E:Value->Shared->Prop}{pins:List (Addr×Obj)}{s:Shared}{σ:St}{H:Hp}{x:Str}{u:Value}{pos:Pos}{Q:Value->Shared->Prop}(I:Inv X pins σ H s) (hg:Gl X x) (hm:X.mg x=some u) (h:Q u s)
  (hd:(x == ("__debug__" : Str))=false:=by decide):wpAny (model X.prog X.w) X.A (eval (.Name x pos) X.env) Q E s:=
 Calls.Name_function_global I.ok.kind hg (Calls.loadGlobal_global (by rw[I.ok.glob];exact I.mod.glob.keeps I.bk) hm h) hd
theorem oK {E:Value->Shared->Prop}{pins:List (Addr×Obj)}{s:Shared}{σ:St}{H:Hp}{x:Str}{u:Value}{pos:Pos}{Q:Value->Shared->Prop}(I:Inv X pins σ H s) (hg:Gl X x) (hm:X.mg x=none) (hv:bootBuiltins x=some u) (h:Q u s)
  (hn:x ≠ "__name__" := by decide) (hd:(x == ("__debug__" : Str))=false:=by decide):wpAny (model X.prog X.w) X.A (eval (.Name x pos) X.env) Q E s:=by
 obtain⟨mb,h1,h2⟩:=I.mod.blt
 exact Calls.Name_function_global I.ok.kind hg (Calls.loadGlobal_builtin (by rw[I.ok.glob];exact I.mod.glob.keeps I.bk) hm (by rw[I.ok.blt];exact h1.keeps I.bk) ((h2 x hn).trans hv) h) hd
theorem pW {x:Str}{v:V}{u:Value}{pos:Pos}(hg:Gl X x) (hm:X.mg x=some u) (r:RelV v u) (hd:(x == ("__debug__" : Str))=false:=by decide):PE X (.Name x pos) (tC v):=
 λ_ _ _ H _ I h=>jB I hg hm ⟨v,H,I,r,h⟩ hd
theorem xR {x:Str}{v:V}{u:Value}{pos:Pos}(hg:Gl X x) (hm:X.mg x=none) (hv:bootBuiltins x=some u) (r:RelV v u) (hn:x ≠ "__name__" := by decide) (hd:(x == ("__debug__" : Str))=false:=by decide):PE X (.Name x pos) (tC v):=
 λ_ _ _ H _ I h=>oK I hg hm hv ⟨v,H,I,r,h⟩ hn hd
variable {a b:Expr}{ta tb:TE}{pos:Pos}
def PC (X:Cx) (op:CmpOp) (a b:Expr) (t:TE):Prop:=
 ∀ (pins:List (Addr×Obj)) (s:Shared) (σ:St) (H:Hp) (Q:VK),Inv X pins σ H s->t σ H Q->
  wpAny (model X.prog X.w) X.A (eval a X.env) (λv s₁=>wpAny (model X.prog X.w) X.A (eval b X.env) (λu s₂=>wpAny (model X.prog X.w) X.A (compareOp op v u) (EP X pins σ Q) X.xe s₂) X.xe s₁) X.xe s
theorem Dc (b:Expr){op:CmpOp}(h:op≠.In) (h2:op≠.NotIn):behindInMarks op b=false:=by
 have e1:(op == CmpOp.In)=false:=by cases op <;> first | rfl | exact absurd rfl h
 have e2:(op == CmpOp.NotIn)=false:=by cases op <;> first | rfl | exact absurd rfl h2
 cases b <;> simp[behindInMarks,e1,e2]
def NQ (ta:TE):TE:=fun σ H Q=>ta σ H λx H1=>Q (.bl (decide (x=.non))) H1
theorem RelV.none_iff {x:V}{v:Value}(r:RelV x v):(v == Value.none)=decide (x=.non):=by
 cases x with
 | non=>cases r;rfl
 | bl _=>cases r;rfl
 | int _=>obtain⟨t,rfl⟩:=r;rfl
 | str _=>obtain⟨t,rfl⟩:=r;rfl
 | byt _=>obtain⟨t,rfl⟩:=r;rfl
 | flt _=>obtain⟨t,rfl⟩:=r;rfl
 | ref _=>cases r;rfl
 | ty _=>cases r;rfl
theorem Ig {j pos'}(ha:PE X a ta):PC X .Is a (.Constant .none j pos') (NQ ta):=by
 intro pins s σ H Q I h
 refine thn (ha pins s σ H _ I h) ?_
 rintro v s1 ⟨x,H1,I1,r1,q1⟩
 exact Constant_none (is_none_gen ⟨.bl _,H1,I1,by rw[r1.none_iff];rfl,q1⟩)
def tB (t:TE):TT:=fun σ H Q=>t σ H λx H1=>∃ c,x=.bl c/\Q c H1
theorem Ih {op:CmpOp}{t:TE}(h:PC X op a b t) (h1:behindInMarks op b=false:=by first | exact Dc _ (by decide) (by decide) | rfl):PT X (.Compare a [op] [b] pos) (tB t):=by
 intro pins s σ H Q I hw
 refine wpAny_isTrue_Compare1 (thn (h pins s σ H _ I hw) λv s1 h1=>thn h1 λu s2 h2=>thn h2 ?_) h1
 rintro c s3 ⟨x,H1,I1,r1,q1⟩
 obtain⟨d,rfl,q⟩:=q1
 cases r1
 exact wpAny_truthy_bool ⟨H1,I1,q⟩
theorem Ab {e:Expr}{t:TE}(h:PE X e t) (he:∀ whole,isTrue e X.env whole=(do let v ← whole;standAt e.pos;holding [v] (truthy v)):=by intro _;rfl):PT X e (tB t):=by
 intro pins s σ H Q I hw
 refine isTrue_plain (thn (h pins s σ H _ I hw) ?_) (he _)
 rintro v s1 ⟨x,H1,I1,r1,q1⟩
 obtain⟨d,rfl,q⟩:=q1
 cases r1
 exact wpAny_truthy_bool ⟨H1,I1,q⟩
variable {tA tB':TT}{rest:List Expr}
def tOr (t u:TT):TT:=fun σ H Q=>t σ H λc H1=>if c=true then Q true H1 else u σ H1 Q
def NT (t:TT):TT:=fun σ H Q=>t σ H λc H1=>Q (!c) H1
theorem Ac (ha:PT X a tA):PW X (.BoolOp .Or [a] pos) tA:=by
 intro wh pins s σ H Q I h
 refine isTrue_or (thn (ha pins s σ H Q I h) λc s1 e=>?_)
 cases c with
 | false=>exact isTrue_or_nil e
 | true=>exact e
theorem Ft (ha:PT X a tA) (hb:PW X (.BoolOp .Or (b::rest) pos) tB'):PW X (.BoolOp .Or (a::b::rest) pos) (tOr tA tB'):=by
 intro wh pins s σ H Q I h
 refine isTrue_or (thn (ha pins s σ H _ I h) ?_)
 rintro c s1 ⟨H1,I1,q1⟩
 cases c with
 | true=>exact⟨H1,I1,q1⟩
 | false=>exact hb wh pins s1 σ H1 Q I1 q1
theorem Ad (ha:PT X a tA):PT X (.UnaryOp .Not a pos) (NT tA):=by
 intro pins s σ H Q I h
 exact isTrue_not (ha pins s σ H (λc H1=>Q (!c) H1) I h)
def Le (ta tb:TE):TE:=fun σ H Q=>ta σ H λx H1=>∃ c,x=.bl c/\if c=true then tb σ H1 Q else Q (.bl false) H1
def NZ (ta tb:TE):TE:=fun σ H Q=>ta σ H λx H1=>∃ c,x=.bl c/\if c=true then Q (.bl true) H1 else tb σ H1 Q
theorem Ae {op}{t:TE}(h:PE X a t):PE X (.BoolOp op [a] pos) t:=λpins s σ H Q I hw=>BoolOp_one (h pins s σ H Q I hw)
theorem Ii (ha:PE X a ta) (hb:PE X (.BoolOp .And (b::rest) pos) tb):PE X (.BoolOp .And (a::b::rest) pos) (Le ta tb):=by
 intro pins s σ H Q I h
 refine BoolOp_and (thn (ha pins s σ H _ I h) ?_)
 rintro v s1 ⟨x,H1,I1,r1,q1⟩
 obtain⟨c,rfl,q1⟩:=q1
 cases r1
 refine wpAny_truthy_bool ?_
 cases c with
 | true=>exact hb pins s1 σ H1 Q I1 q1
 | false=>exact⟨.bl false,H1,I1,rfl,q1⟩
theorem Fv (ha:PE X a ta) (hb:PE X (.BoolOp .Or (b::rest) pos) tb):PE X (.BoolOp .Or (a::b::rest) pos) (NZ ta tb):=by
 intro pins s σ H Q I h
 refine BoolOp_or (thn (ha pins s σ H _ I h) ?_)
 rintro v s1 ⟨x,H1,I1,r1,q1⟩
 obtain⟨c,rfl,q1⟩:=q1
 cases r1
 refine wpAny_truthy_bool ?_
 cases c with
 | false=>exact hb pins s1 σ H1 Q I1 q1
 | true=>exact⟨.bl true,H1,I1,rfl,q1⟩
end
end L2
namespace L2
open PySem PySem.Spec PyProof.Rows
def SqL (K:PySem.W.Frag) (H:Hp) (a:Addr) (xs:List V):Prop:=
 Rd H a (.lst xs) \/
  ∃ (o:Obj) (its:Array Value) (n:Nat),K.lookup a=some o/\o.cls=.type "list" /\ o.dict=none/\o.data=.seq its n/\its.size<=sizeLine/\Vals xs its.toList
def SqT (K:PySem.W.Frag) (H:Hp) (a:Addr) (xs:List V):Prop:=
 Rd H a (.tup xs) \/
  ∃ (o:Obj) (its:Array Value) (n:Nat),K.lookup a=some o/\o.cls=.type "tuple" /\ o.data=.seq its n/\its.size<=sizeLine/\Vals xs its.toList
def N5:Value->Option V
 | .none=>some .non
 | .bool b=>some (.bl b)
 | .int i _=>some (.int i)
 | .str x _=>some (.str x)
 | .bytes b _=>some (.byt b)
 | .float b _=>some (.flt b)
 | .ref a=>some (.ref a)
 | .type n=>some (.ty n)
 | _=>none
theorem RelV.abs {x:V}{u:Value}(r:RelV x u):N5 u=some x:=by
 cases x with
 | non=>cases r;rfl
 | bl _=>cases r;rfl
 | int _=>obtain⟨t,rfl⟩:=r;rfl
 | str _=>obtain⟨t,rfl⟩:=r;rfl
 | byt _=>obtain⟨t,rfl⟩:=r;rfl
 | flt _=>obtain⟨t,rfl⟩:=r;rfl
 | ref _=>cases r;rfl
 | ty _=>cases r;rfl
theorem RelV.inj {x y:V}{u:Value}(r:RelV x u) (q:RelV y u):x=y:=Option.some.inj (r.abs.symm.trans q.abs)
theorem Vals.inj:∀ {xs ys:List V}{us:List Value},Vals xs us->Vals ys us->xs=ys
 | _,_,_,.nil,.nil=>rfl
 | _,_,_,.cons r t,.cons r' t'=>by rw[r.inj r',Vals.inj t t']
section
variable {X:Cx}{pins:List (Addr×Obj)}{σ:St}{H:Hp}{s:Shared}{a:Addr}{xs ys:List V}
theorem SqL.of {K:PySem.W.Frag}(h:H a=some (.lst xs)):SqL K H a xs:=.inl (.inl h)
theorem SqT.of {K:PySem.W.Frag}(h:H a=some (.tup xs)):SqT K H a xs:=.inl (.inl h)
theorem Inv.list (I:Inv X pins σ H s) (h:SqL X.K H a xs):∃ its:List Value,Vals xs its/\PlainL s.heap a its.toArray/\xs.length<=sizeLine:=by
 rcases h with h | ⟨o,its,n,hk,hc,hd,hs,hz,r⟩
 ·obtain⟨z,its,n,r,e⟩:=h.ok I.hok
  exact⟨its,r,⟨_,n,e,rfl,rfl,rfl⟩,z⟩
 ·refine⟨its.toList,r,⟨o,n,I.kIn a o hk,hc,hd,by simpa using hs⟩,?_⟩
  have e:=r.length
  simp only[Array.length_toList] at e
  omega
theorem Inv.tuple (I:Inv X pins σ H s) (h:SqT X.K H a xs):∃ its:List Value,Vals xs its/\IsTup s.heap a its.toArray/\xs.length<=sizeLine:=by
 rcases h with h | ⟨o,its,n,hk,hc,hs,hz,r⟩
 ·obtain⟨z,its,r,p⟩:=h.ok I.hok
  exact⟨its,r,p,z⟩
 ·refine⟨its.toList,r,⟨o,I.kIn a o hk,hc,n,by simpa using hs⟩,?_⟩
  have e:=r.length
  simp only[Array.length_toList] at e
  omega
theorem Inv.list_inj (I:Inv X pins σ H s) (h:SqL X.K H a xs) (h':SqL X.K H a ys):xs=ys:=by
 obtain⟨its,r,⟨o,n,e,_,_,d⟩,_⟩:=I.list h
 obtain⟨its',r',⟨o',n',e',_,_,d'⟩,_⟩:=I.list h'
 rw[e] at e';cases e'
 rw[d] at d'
 injection d' with d1 _
 have:its=its':=by simpa using congrArg Array.toList d1
 subst this
 exact r.inj r'
theorem Inv.tuple_inj (I:Inv X pins σ H s) (h:SqT X.K H a xs) (h':SqT X.K H a ys):xs=ys:=by
 obtain⟨its,r,⟨o,e,_,n,d⟩,_⟩:=I.tuple h
 obtain⟨its',r',⟨o',e',_,n',d'⟩,_⟩:=I.tuple h'
 rw[e] at e';cases e'
 rw[d] at d'
 injection d' with d1 _
 have:its=its':=by simpa using congrArg Array.toList d1
 subst this
 exact r.inj r'
end
abbrev Cx.wish (X:Cx) (E:Value->Shared->Prop):Cx:={ X with xe:=E }
abbrev Cx.nox (X:Cx):Cx:=X.wish λ_ _=>False
theorem Cx.Ok.wish {X:Cx}(ok:X.Ok) (E:Value->Shared->Prop):(X.wish E).Ok:=
 ⟨ok.mod,ok.kind,ok.glob,ok.blt,ok.above,ok.inj,ok.has,ok.cab,ok.hd,ok.frames,ok.stk,ok.exf,ok.bs,ok.bsz,ok.noex,ok.exfs,ok.funs,ok.frf⟩
theorem Cx.Ok.unwish {X:Cx}{E:Value->Shared->Prop}(ok:(X.wish E).Ok):X.Ok:=
 ⟨ok.mod,ok.kind,ok.glob,ok.blt,ok.above,ok.inj,ok.has,ok.cab,ok.hd,ok.frames,ok.stk,ok.exf,ok.bs,ok.bsz,ok.noex,ok.exfs,ok.funs,ok.frf⟩
section
variable {X:Cx}{pins:List (Addr×Obj)}{σ:St}{H:Hp}{s:Shared}{E:Value->Shared->Prop}
theorem Inv.wish (I:Inv X pins σ H s) (E:Value->Shared->Prop):Inv (X.wish E) pins σ H s:=⟨I.ok.wish E,I.os,I.bare,I.base,I.loc,I.cell,I.free,I.freeC,I.pin,I.hok,I.len⟩
theorem Inv.unwish (I:Inv (X.wish E) pins σ H s):Inv X pins σ H s:=⟨I.ok.unwish,I.os,I.bare,I.base,I.loc,I.cell,I.free,I.freeC,I.pin,I.hok,I.len⟩
theorem SP.unwish {D:Ends}{f:Flow}{s':Shared}(h:SP (X.wish E) pins D f s'):SP X pins D f s':=by
 cases f with
 | next=>obtain⟨σ',H',I,q⟩:=h;exact⟨σ',H',I.unwish,q⟩
 | brk=>obtain⟨σ',H',I,q⟩:=h;exact⟨σ',H',I.unwish,q⟩
 | cont=>obtain⟨σ',H',I,q⟩:=h;exact⟨σ',H',I.unwish,q⟩
 | ret u=>obtain⟨v,σ',H',I,r,q⟩:=h;exact⟨v,σ',H',I.unwish,r,q⟩
theorem PE.nox {e:Expr}{t:TE}(h:PE X.nox e t):PE X e t:=λpins s σ H Q I hw=>
 wpAny_mono (h pins s σ H Q (I.wish _) hw) (λ_ _ ⟨v,H',I',r,q⟩=>⟨v,H',I'.unwish,r,q⟩) λ_ _ z=>False.elim z
theorem PT.nox {e:Expr}{t:TT}(h:PT X.nox e t):PT X e t:=λpins s σ H Q I hw=>
 wpAny_mono (h pins s σ H Q (I.wish _) hw) (λ_ _ ⟨H',I',q⟩=>⟨H',I'.unwish,q⟩) λ_ _ z=>False.elim z
theorem PSs.nox {st:List Stmt}{t:TS}(h:PSs X.nox st t):PSs X st t:=λpins s σ H D I hw=>
 wpAny_mono (h pins s σ H D (I.wish _) hw) (λ_ _ q=>q.unwish) λ_ _ z=>False.elim z
end
section
variable {X:Cx}{st:Stmt}{rest:List Stmt}{t u:TS}{e:Expr}{te:TE}{pos:Pos}
def Lf:TS:=λD σ H=>D.nx σ H
def Ij (t u:TS):TS:=λD σ H=>t { D with nx:=u D } σ H
theorem xT:PSs X [] Lf:=λ_ _ σ H _ I h=>wpAny_execs_nil ⟨σ,H,I,h⟩
theorem jC (h1:PS X st t) (h2:PSs X rest u):PSs X (st::rest) (Ij t u):=by
 intro pins s σ H D I h
 refine wpAny_execs_cons (thn (h1 pins s σ H { D with nx:=u D } I h) λf s1 q=>?_)
 cases f with
 | next=>
  obtain⟨σ',H',I',q⟩:=q
  exact h2 pins s1 σ' H' D I' q
 | ret v=>exact q
 | brk=>exact q
 | cont=>exact q
theorem sY (h1:PS X st t):PSs X [st] t:=by
 intro pins s σ H D I h
 refine wpAny_execs_cons (thn (h1 pins s σ H D I h) λf s1 q=>?_)
 cases f with
 | next=>exact wpAny_execs_nil q
 | ret v=>exact q
 | brk=>exact q
 | cont=>exact q
theorem Inv.quiet {pins:List (Addr×Obj)}{σ:St}{H:Hp}{s:Shared}(I:Inv X pins σ H s):interactive X.env=false:=by simp[interactive,I.ok.kind]
def Lh (te:TE):TS:=λD σ H=>te σ H λ_ H1=>D.nx σ H1
theorem sZ (he:PE X e te) (hs:swapsWith e none pos.line X.env=pure false:=by rfl):PS X (.Expr e pos) (Lh te):=by
 intro pins s σ H D I h
 exact wpAny_Expr_any (thn (he pins s σ H _ I h) λv s1 ⟨x,H1,I1,r1,q1⟩=>⟨σ,H1,I1,q1⟩) I.quiet hs
def N6 (te:TE):TS:=λD σ H=>te σ H D.rt
theorem vP (he:PE X e te):PS X (.Return (some e) pos) (N6 te):=by
 intro pins s σ H D I h
 exact wpAny_Return_some (thn (he pins s σ H _ I h) λv s1 ⟨x,H1,I1,r1,q1⟩=>⟨x,σ,H1,I1,r1,q1⟩)
def N7 (c:TT) (t u:TS):TS:=λD σ H=>c σ H λb H1=>if b=true then t D σ H1 else u D σ H1
theorem Fw {c:Expr}{a b:List Stmt}{tc:TT}(hc:PT X c tc) (ha:PSs X a t) (hb:PSs X b u):PS X (.If c a b pos) (N7 tc t u):=by
 intro pins s σ H D I h
 refine wpAny_If (thn (hc pins s σ H _ I h) ?_)
 rintro d s1 ⟨H1,I1,q1⟩
 cases d with
 | true=>exact ha pins s1 σ H1 D I1 q1
 | false=>exact hb pins s1 σ H1 D I1 q1
def Af:TS:=λ_ _ _=>False
theorem Dd:PS X st Af:=λ_ _ _ _ _ _ h=>h.elim
theorem oM {sts:List Stmt}:PSs X sts Af:=λ_ _ _ _ _ _ h=>h.elim
end
abbrev TG:=V->St->Hp->(St->Hp->Prop)->Prop
abbrev TGs:=List V->St->Hp->(St->Hp->Prop)->Prop
def PG (X:Cx) (target:Expr) (t:TG):Prop:=
 ∀ (pins:List (Addr×Obj)) (s:Shared) (σ:St) (H:Hp) (v:V) (u:Value) (Q:St->Hp->Prop),Inv X pins σ H s->RelV v u->t v σ H Q->
  wpAny (model X.prog X.w) X.A (assign target X.env u) (λ_ s'=>∃ σ' H',Inv X pins σ' H' s'/\Q σ' H') X.xe s
def PGs (X:Cx) (ts:List Expr) (t:TGs):Prop:=
 ∀ (pins:List (Addr×Obj)) (s:Shared) (σ:St) (H:Hp) (vs:List V) (us:List Value) (Q:St->Hp->Prop),Inv X pins σ H s->Vals vs us->t vs σ H Q->
  wpAny (model X.prog X.w) X.A (assignInOrder ((assignEach ts X.env).map (·.2)) us) (λ_ s'=>∃ σ' H',Inv X pins σ' H' s'/\Q σ' H') X.xe s
abbrev De:=V->V->V->Hp->(Hp->Prop)->Prop
def Ik (X:Cx) (t:De):Prop:=
 ∀ (pins:List (Addr×Obj)) (s:Shared) (σ:St) (H:Hp) (o i v:V) (ov iv u:Value) (Q:Hp->Prop),Inv X pins σ H s->RelV o ov->RelV i iv->RelV v u->t o i v H Q->
  wpAny (model X.prog X.w) X.A (setItem ov iv u) (λ_ s'=>∃ H',Inv X pins σ H' s'/\Q H') X.xe s
section
variable {X:Cx}{pos:Pos}
def vo (i:Nat):TG:=λv σ H Q=>Q (σ.set i (some v)) H
theorem bQ {i:Nat}{x:Str}(hN:X.N.Nodup) (hi:X.N[i]?=some x) (hx:Loc X.env.scope x) (hf:X.fn x=true\/X.env.scope.names.lookup x=some .local:=by first | exact .inl rfl | exact .inr rfl | assumption):PG X (.Name x pos) (vo i):=by
 intro pins s σ H v u Q I r h
 exact wpAny_assign_Name (qM I hN hi hx r (λs' I'=>⟨_,H,I',h⟩) hf)
def N8:TGs:=λvs σ H Q=>vs=[]/\Q σ H
def Lj (t:TG) (u:TGs):TGs:=λvs σ H Q=>∃ v r,vs=v::r/\t v σ H fun σ' H'=>u r σ' H' Q
theorem Gj:PGs X [] N8:=by
 intro pins s σ H vs us Q I r h
 obtain⟨e,h⟩:=h
 subst e
 cases r
 exact assignInOrder_nil ⟨σ,H,I,h⟩
theorem Df {e:Expr}{es:List Expr}{t:TG}{u:TGs}(h1:PG X e t) (h2:PGs X es u)
  (hs:(assignEach (e::es) X.env).map (·.2)=assign e X.env::(assignEach es X.env).map (·.2):=by rfl):PGs X (e::es) (Lj t u):=by
 intro pins s σ H vs us Q I r h
 obtain⟨v,vr,e1,h⟩:=h
 subst e1
 cases r with
 | cons r rr=>
  rw[hs]
  refine assignInOrder_cons (thn (h1 pins s σ H _ _ _ I r h) ?_)
  rintro _ s1 ⟨σ1,H1,I1,q1⟩
  exact h2 pins s1 σ1 H1 _ _ Q I1 rr q1
def N_ (K:PySem.W.Frag) (n:Nat) (t:TGs):TG:=λv σ H Q=>∃ a xs,v=.ref a/\SqT K H a xs/\xs.length=n/\t xs σ H Q
theorem Il {es:List Expr}{k:Nat}{t:TGs}{n:Nat}(hc:X.calm=true) (h:PGs X es t)
  (hn:(assignEach es X.env).length=n:=by rfl) (hst:(assignEach es X.env).findIdx? (·.1)=none:=by rfl):PG X (.Tuple es k pos) (N_ X.K n t):=by
 intro pins s σ H v u Q I r hw
 obtain⟨a,xs,e1,hq,hl,hw⟩:=hw
 subst e1
 cases r
 obtain⟨its,rv,ht,hz⟩:=I.tuple hq
 refine assign_Tuple_tuple (I.ok.hd hc) ht (by simp[hn,← hl,rv.length]) hst λh' hx=>?_
 have I1:Inv X pins σ H { s with heap:=h' }:=I.kept (t':=s.toks) λb o e=>hx b o (Nat.ne_of_lt (Heap.lt_size e)) e
 exact h pins _ σ H xs _ Q I1 (by simpa using rv) hw
def Oa (to ti:TE) (t:De):TG:=λv σ H Q=>to σ H λo H1=>ti σ H1 λi H2=>t o i v H2 λH3=>Q σ H3
theorem Im {o i:Expr}{to ti:TE}{t:De}(ho:PE X o to) (hi:PE X i ti) (hs:Ik X t)
  (ha:∀ v,assign (.Subscript o i pos) X.env v=(do
   let ov ← holding [v] (eval o X.env)
   let iv ← holding [v,ov] (eval i X.env)
   standAt pos
   holding [v,ov,iv] (setItem ov iv v)
   release [v,ov,iv] []):=by intro _;rfl):PG X (.Subscript o i pos) (Oa to ti t):=by
 intro pins s σ H v u Q I r h
 rw[ha]
 refine wpAny_bind (wpAny_holding (thn (ho pins s σ H _ I h) ?_))
 rintro ov s1 ⟨x,H1,I1,r1,q1⟩
 refine wpAny_bind (wpAny_holding (thn (hi pins s1 σ H1 _ I1 q1) ?_))
 rintro iv s2 ⟨y,H2,I2,r2,q2⟩
 refine wpAny_bind (wpAny_standAt (wpAny_bind (wpAny_holding (thn (hs pins s2 σ H2 x y v ov iv u _ I2 r1 r2 r q2) ?_))))
 rintro _ s3 ⟨H3,I3,q3⟩
 exact wpAny_release ⟨σ,H3,I3,q3⟩
def Dg (te:TE) (g:TG):TS:=λD σ H=>te σ H λx H1=>g x σ H1 D.nx
theorem Io {tg e:Expr}{te:TE}{g:TG}(he:PE X e te) (hg:PG X tg g) (hs:swapsWithSole [tg] e pos.line X.env=pure false:=by rfl) (hw:swappedStores [tg] e X.env=pure none:=by rfl)
  (h1:(assignEach [tg] X.env).map (·.2)=[assign tg X.env]:=by rfl):PS X (.Assign [tg] e pos) (Dg te g):=by
 intro pins s σ H D I h
 refine wpAny_Assign_stores (thn (he pins s σ H _ I h) ?_) hs hw
 rintro v s1 ⟨x,H1,I1,r1,q1⟩
 rw[h1]
 exact thn (hg pins s1 σ H1 x v _ I1 r1 q1) λ_ s2 q=>q
theorem vQ {i:Nat}{x:Str}{e:Expr}{te:TE}{pos':Pos}(hN:X.N.Nodup) (hi:X.N[i]?=some x) (hx:Loc X.env.scope x) (he:PE X e te) (hs:swapsWith e (some (.Name x pos')) pos.line X.env=pure false:=by rfl) (hf:X.fn x=true\/X.env.scope.names.lookup x=some .local:=by first | exact .inl rfl | exact .inr rfl | assumption):
  PS X (.Assign [.Name x pos'] e pos) (Dg te (vo i)):=by
 intro pins s σ H D I h
 refine wpAny_Assign_Name (thn (he pins s σ H _ I h) ?_) hs
 rintro v s1 ⟨y,H1,I1,r1,q1⟩
 exact qM I1 hN hi hx r1 (λs2 I2=>⟨_,H1,I2,q1⟩) hf
end
section
variable {X:Cx}{pos:Pos}
end
structure It where
 go:Nat->Hp->Prop
 yld:Nat->Hp->V->Hp->Prop
 stop:Nat->Hp->Prop
def j8 (X:Cx) (pins:List (Addr×Obj)) (H:Hp) (b:Addr):Prop:=
 H b=none/\b≠X.env.locals/\b∉X.fs/\(b∈X.ex\/X.s₀.heap.objs.size<=b)/\(∀ x c,X.env.cells.lookup x=some c->c≠b)/\∀ p∈X.pn++pins,p.1≠b
theorem Inv.fpOk {X:Cx}{pins:List (Addr×Obj)}{σ:St}{H H':Hp}{s:Shared}{b:Addr}(I:Inv X pins σ H s) (hb:s.heap.objs.size<=b) (hn:H' b=none):j8 X pins H' b:=by
 refine⟨hn,Nat.ne_of_gt (Nat.lt_of_lt_of_le I.lt hb),I.nofs hb,.inr (Nat.le_trans I.sz hb),λx c e z=>?_,λp hp z=>?_⟩
 ·obtain⟨v,q⟩:=I.cell x c e
  exact absurd (Nat.lt_of_lt_of_le q.lt (by rw[z];exact hb)) (Nat.lt_irrefl _)
 ·exact absurd (Nat.lt_of_lt_of_le (Heap.lt_size (I.pin p hp).1) (by rw[z];exact hb)) (Nat.lt_irrefl _)
structure Turn (P:Program) (w:World) (K:PySem.W.Frag) (tg:Expr) (J:It) (fp:List Addr) (it:Addr) (tn:Nat->Heap->Prop):Prop where
 mem:it∈fp
 obj:∀ i h,tn i h->∀ b∈fp,∃ o,h.get? b=some o/\∀ v,o.data≠.cell v
 keep:∀ i h h',tn i h->(∀ b∈fp,∀ o,h.get? b=some o->h'.get? b=some o)->tn i h'
 item:∀ (X:Cx),X.prog=P->X.w=w->X.K=K->X.calm=true->∀ (i:Nat) (pins:List (Addr×Obj)) (s:Shared) (σ:St) (H:Hp) (E:Value->Shared->Prop),Inv X pins σ H s->(∀ b∈fp,j8 X pins H b)->tn i s.heap->J.go i H->
  wpAny (model P w) X.A (pyNext (.ref it)) (λr s1=>∃ u,r=some u /\
   wpAny (model P w) X.A (letOwnedTupleGo tg (.ref it) u) (λ_ s2=>∃ x H',Inv X pins σ H' s2/\RelV x u/\J.yld i H x H'/\tn (i+1) s2.heap/\∀ b∈fp,H' b=none) E s1) E s
 done:∀ (X:Cx),X.prog=P->X.w=w->X.K=K->X.calm=true->∀ (i:Nat) (pins:List (Addr×Obj)) (s:Shared) (σ:St) (H:Hp) (E:Value->Shared->Prop),Inv X pins σ H s->(∀ b∈fp,j8 X pins H b)->tn i s.heap->J.stop i H->
  wpAny (model P w) X.A (pyNext (.ref it)) (λr s1=>r=none/\Inv X pins σ H s1) E s
 self:∀ (A:Around) (i:Nat) (s:Shared) (Q:Value->Shared->Prop) (E:Value->Shared->Prop),tn i s.heap->Q (.ref it) s->wpAny (model P w) A (pyIter (.ref it)) Q E s
abbrev TI:=St->Hp->(It->Hp->Prop)->Prop
def PIE (X:Cx) (pins:List (Addr×Obj)) (σ:St) (tg:Expr) (R:It->Hp->Prop) (itv:Value) (s2:Shared):Prop:=
 ∃ (it:Addr) (fp:List Addr) (tn:Nat->Heap->Prop) (J:It) (H':Hp),itv=.ref it/\Inv X pins σ H' s2/\Turn X.prog X.w X.K tg J fp it tn/\tn 0 s2.heap/\(∀ b∈fp,j8 X pins H' b)/\R J H'
def PI (X:Cx) (tg iter:Expr) (wi:TI):Prop:=
 ∀ (pins:List (Addr×Obj)) (s:Shared) (σ:St) (H:Hp) (R:It->Hp->Prop),Inv X pins σ H s->wi σ H R->
  wpAny (model X.prog X.w) X.A (eval iter X.env) (λv s1=>wpAny (model X.prog X.w) X.A (pyIter v) (PIE X pins σ tg R) X.xe s1) X.xe s
theorem vp {M:Model}{A:Around}{E:Value->Shared->Prop}{s:Shared}{tg:Expr}{it:Addr}{u:Value}{o:Obj}{n:String}{vs:Array Value}{Q:Unit->Shared->Prop}(ho:s.heap.get? it=some o) (hc:o.cls=.type n) (hd:o.data=.fields vs)
    (hn:["enumerate", "zip", "dict_itemiterator", "dict_reverseitemiterator", "odict_iterator", "itertools.zip_longest", "itertools.pairwise"].contains n=false) (hQ:Q () s):wpAny M A (letOwnedTupleGo tg (.ref it) u) Q E s:=by
  unfold letOwnedTupleGo
  cases tg <;> first
    | exact wpAny_pure hQ
    | (cases u <;> first
        | exact wpAny_pure hQ
        | (refine wpAny_bind (wpAny_load ho ?_)
           rw[hc,hd]
           show wpAny M A (if (["enumerate", "zip", "dict_itemiterator", "dict_reverseitemiterator", "odict_iterator", "itertools.zip_longest", "itertools.pairwise"].contains n&&vs[0]? == some (rawInt _))=true then _ else _) Q E s
           rw[if_neg (by intro h;rw[hn,Bool.false_and] at h;cases h)]
           exact wpAny_pure hQ))
def Itl (K:PySem.W.Frag) (a:Addr):It:=
 ⟨λi H=>∃ xs x,SqL K H a xs/\xs[i]?=some x,λi H x H'=>H'=H/\∀ xs,SqL K H a xs->xs[i]?=some x,λi H=>∃ xs,SqL K H a xs/\xs.length<=i⟩
def Itt (K:PySem.W.Frag) (a:Addr):It:=
 ⟨λi H=>∃ xs x,SqT K H a xs/\xs[i]?=some x,λi H x H'=>H'=H/\∀ xs,SqT K H a xs->xs[i]?=some x,λi H=>∃ xs,SqT K H a xs/\xs.length<=i⟩
def Itr (lo:Int) (n:Nat):It:=⟨λi _=>i < n,λi H x H'=>H'=H/\x=.int (lo+i),λi _=>n<=i⟩
theorem Ag {P:Program}{w:World}{K:PySem.W.Frag}{tg:Expr}(a it:Addr):Turn P w K tg (Itl K a) [it] it (λi h=>h.IsListIter it a i) where
 mem:=by simp
 obj:=λi h st b hb=>by
  have e:b=it:=by simpa using hb
  subst e
  obtain⟨o,e,c,d⟩:=st
  exact⟨o,e,λv z=>by rw[d] at z;cases z⟩
 keep:=λi h h' st k=>st.at λo e=>k it (by simp) o e
 item:=by
  intro X hP hw hK hc i pins s σ H E I hf st hg
  subst hP hw hK
  obtain⟨xs,x,hq,hx⟩:=hg
  obtain⟨its,rv,p,hz⟩:=I.list hq
  obtain⟨u,hu,ru⟩:=rv.get hx
  obtain⟨f0,f1,f2,f3,f4,f5⟩:=hf it (by simp)
  refine wpAny_pyNext_list_item st p.isList (x:=u) (by simpa using hu) λh' st' sb=>?_
  have I1:Inv X pins σ H { s with heap:=h' }:=I.turned (t':=s.toks) (λb o hb e=>(sb.2 b hb).trans e) f0 f1 f3 f4 f5
  obtain⟨o,e,c,d⟩:=id st'
  exact⟨u,rfl,vp (s:={ s with heap:=h' }) e c d (by decide) ⟨x,H,I1,ru,⟨rfl,λys hy=>by rw[I.list_inj hy hq];exact hx⟩,st',λb hb=>(hf b hb).1⟩⟩
 done:=by
  intro X hP hw hK hc i pins s σ H E I hf st hg
  subst hP hw hK
  obtain⟨xs,hq,hx⟩:=hg
  obtain⟨its,rv,p,hz⟩:=I.list hq
  obtain⟨f0,f1,f2,f3,f4,f5⟩:=hf it (by simp)
  have hl:=rv.length
  exact wpAny_pyNext_list_end (I.ok.hd hc) st p.isList (by simp;omega) λh' eb=>⟨rfl,I.turned (t':=s.toks) (λb o hb e=>eb b o hb e) f0 f1 f3 f4 f5⟩
 self:=λ_ _ _ _ _ st h=>wpAny_pyIter_listiter st h
theorem yN {P:Program}{w:World}{K:PySem.W.Frag}{tg:Expr}(a it:Addr):Turn P w K tg (Itt K a) [it] it (λi h=>h.IsTupleIter it a i) where
 mem:=by simp
 obj:=λi h st b hb=>by
  have e:b=it:=by simpa using hb
  subst e
  obtain⟨o,e,c,d⟩:=st
  exact⟨o,e,λv z=>by rw[d] at z;cases z⟩
 keep:=λi h h' st k=>st.at λo e=>k it (by simp) o e
 item:=by
  intro X hP hw hK hc i pins s σ H E I hf st hg
  subst hP hw hK
  obtain⟨xs,x,hq,hx⟩:=hg
  obtain⟨its,rv,p,hz⟩:=I.tuple hq
  obtain⟨u,hu,ru⟩:=rv.get hx
  obtain⟨f0,f1,f2,f3,f4,f5⟩:=hf it (by simp)
  refine wpAny_pyNext_tuple_item st (show s.heap.IsTuple a its.toArray from p) (x:=u) (by simpa using hu) λh' st' sb=>?_
  have I1:Inv X pins σ H { s with heap:=h' }:=I.turned (t':=s.toks) (λb o hb e=>(sb.2 b hb).trans e) f0 f1 f3 f4 f5
  obtain⟨o,e,c,d⟩:=id st'
  exact⟨u,rfl,vp (s:={ s with heap:=h' }) e c d (by decide) ⟨x,H,I1,ru,⟨rfl,λys hy=>by rw[I.tuple_inj hy hq];exact hx⟩,st',λb hb=>(hf b hb).1⟩⟩
 done:=by
  intro X hP hw hK hc i pins s σ H E I hf st hg
  subst hP hw hK
  obtain⟨xs,hq,hx⟩:=hg
  obtain⟨its,rv,p,hz⟩:=I.tuple hq
  obtain⟨f0,f1,f2,f3,f4,f5⟩:=hf it (by simp)
  have hl:=rv.length
  exact wpAny_pyNext_tuple_end (I.ok.hd hc) st (show s.heap.IsTuple a its.toArray from p) (by simp;omega) λh' eb=>⟨rfl,I.turned (t':=s.toks) (λb o hb e=>eb b o hb e) f0 f1 f3 f4 f5⟩
 self:=λ_ _ _ _ _ st h=>wpAny_pyIter_tupleiter st h
theorem yO {P:Program}{w:World}{K:PySem.W.Frag}{tg:Expr}(it:Addr) (lo:Int) (n:Nat):Turn P w K tg (Itr lo n) [it] it (λi h=>IsRangeIter h it (lo+(i:Nat)*1) ((n:Int) - (i:Nat)) 1) where
 mem:=by simp
 obj:=λi h st b hb=>by
  have e:b=it:=by simpa using hb
  subst e
  exact⟨_,st,λv z=>by
   have z':Data.fields _=Data.cell v:=z
   cases z'⟩
 keep:=λi h h' st k=>k it (by simp) _ st
 item:=by
  intro X hP hw hK hc i pins s σ H E I hf st hg
  subst hP hw hK
  obtain⟨f0,f1,f2,f3,f4,f5⟩:=hf it (by simp)
  have W:=Walks.range (prog:=X.prog) (w:=X.w) (I.ok.hd hc) it lo 1 n
  refine W.item i s _ _ hg st λv h' tk hv st' kk=>?_
  obtain⟨t,rfl⟩:=hv
  have I1:Inv X pins σ H { s with heap:=h',toks:=tk }:=I.turned (λb o hb e=>kk b o (by simpa using hb) e) f0 f1 f3 f4 f5
  refine⟨_,rfl,vp (s:={ s with heap:=h',toks:=tk }) (n := "range_iterator") st' rfl rfl (by decide) ⟨.int (lo+i),H,I1,⟨t,?_⟩,⟨rfl,rfl⟩,st',λb hb=>(hf b hb).1⟩⟩
  rw[Int.mul_one]
 done:=by
  intro X hP hw hK hc i pins s σ H E I hf st hg
  subst hP hw hK
  obtain⟨f0,f1,f2,f3,f4,f5⟩:=hf it (by simp)
  exact wpAny_pyNext_range_end (I.ok.hd hc) st (by have:n<=i:=hg;omega) λh' eb=>⟨rfl,I.turned (t':=s.toks) (λb o hb e=>eb b o hb e) f0 f1 f3 f4 f5⟩
 self:=λ_ _ _ _ _ st h=>wpAny_pyIter_rangeiter st h
end L2
namespace L2
open PySem PySem.Spec PyProof.Rows
section
variable {X:Cx}{tg:Expr}
def Lk (K:PySem.W.Frag) (tl:TE):TI:=fun σ H R=>tl σ H λx H1=>∃ a,x=.ref a/\(∃ xs,SqL K H1 a xs)/\R (Itl K a) H1
def Ob (K:PySem.W.Frag) (tl:TE):TI:=fun σ H R=>tl σ H λx H1=>∃ a,x=.ref a/\(∃ xs,SqT K H1 a xs)/\R (Itt K a) H1
theorem Gk {l:Expr}{tl:TE}(hl:PE X l tl):PI X tg l (Lk X.K tl):=by
 intro pins s σ H R I h
 refine thn (hl pins s σ H _ I h) ?_
 rintro v s1 ⟨x,H1,I1,r1,q1⟩
 obtain⟨a,e,⟨xs,hq⟩,q⟩:=q1
 subst e
 cases r1
 obtain⟨its,rv,p,hz⟩:=I1.list hq
 refine wpAny_pyIter_list p.isList ?_
 refine⟨s1.heap.objs.size,[s1.heap.objs.size],_,_,H1,rfl,I1.kept (t':=s1.toks) λb o e=>Heap.get?_push_of_some _ e,Ag a _,⟨_,Heap.get?_push_size _ rfl,rfl,rfl⟩,λb hb=>?_,q⟩
 have e:b=s1.heap.objs.size:=by simpa using hb
 subst e
 exact I1.fpOk (Nat.le_refl _) (I1.hok.fresh (Nat.le_refl _))
theorem Ip {l:Expr}{tl:TE}(hl:PE X l tl):PI X tg l (Ob X.K tl):=by
 intro pins s σ H R I h
 refine thn (hl pins s σ H _ I h) ?_
 rintro v s1 ⟨x,H1,I1,r1,q1⟩
 obtain⟨a,e,⟨xs,hq⟩,q⟩:=q1
 subst e
 cases r1
 obtain⟨its,rv,p,hz⟩:=I1.tuple hq
 refine wpAny_pyIter_tuple (show s1.heap.IsTuple a its.toArray from p) ?_
 refine⟨s1.heap.objs.size,[s1.heap.objs.size],_,_,H1,rfl,I1.kept (t':=s1.toks) λb o e=>Heap.get?_push_of_some _ e,yN a _,⟨_,Heap.get?_push_size _ rfl,rfl,rfl⟩,λb hb=>?_,q⟩
 have e:b=s1.heap.objs.size:=by simpa using hb
 subst e
 exact I1.fpOk (Nat.le_refl _) (I1.hok.fresh (Nat.le_refl _))
theorem Dh {pins:List (Addr×Obj)}{σ:St}{H:Hp}{s:Shared}{R:It->Hp->Prop}{E:Value->Shared->Prop}{lo hi:Int}{t u v:Tok}{tk:Nat}(I:Inv X pins σ H s) (h1:-(2 ^ 62)<=lo) (h2:lo < 2 ^ 62) (h3:-(2 ^ 62)<=hi) (h4:hi < 2 ^ 62)
  (q:R (Itr lo (hi - lo).toNat) H):wpAny (model X.prog X.w) X.A (pyIter (.ref s.heap.objs.size)) (PIE X pins σ tg R) E { s with heap:=s.heap.push { cls:=.type "range",data:=.fields #[.int lo t,.int hi u,.int 1 v] },toks:=tk }:=by
 refine wpAny_pyIter_range (IsRange.new ..) (small_one h1 h2 h3 h4) ?_
 have I1:Inv X pins σ H { s with heap:=s.heap.push { cls:=.type "range",data:=.fields #[.int lo t,.int hi u,.int 1 v] },toks:=tk }:=I.kept λb o e=>Heap.get?_push_of_some _ e
 refine⟨(s.heap.push { cls:=.type "range",data:=.fields #[.int lo t,.int hi u,.int 1 v] }).objs.size,[(s.heap.push { cls:=.type "range",data:=.fields #[.int lo t,.int hi u,.int 1 v] }).objs.size],_,_,H,rfl,
  I1.kept (t':=tk) λb o e=>Heap.get?_push_of_some _ e,yO _ lo (hi - lo).toNat,?_,λb hb=>?_,q⟩
 ·have e1:lo+((0:Nat):Int)*1=lo:=by simp
  have e2:(((hi - lo).toNat:Nat):Int) - ((0:Nat):Int)=Builtin.Range.rangeSize lo hi 1:=by rw[rangeSize_one];split <;> omega
  show IsRangeIter _ _ (lo+((0:Nat):Int)*1) ((((hi - lo).toNat:Nat):Int) - ((0:Nat):Int)) 1
  rw[e1,e2]
  exact Heap.get?_push_size _ rfl
 ·have e:b=(s.heap.push { cls:=.type "range",data:=.fields #[.int lo t,.int hi u,.int 1 v] }).objs.size:=by simpa using hb
  subst e
  exact I1.fpOk (Nat.le_refl _) (I1.hok.fresh (Nat.le_refl _))
def Ln (ta:TA):TI:=fun σ H R=>ta σ H λvs H1=>∃ j:Int,vs=[.int j]/\-(2 ^ 62)<=j/\j < 2 ^ 62/\R (Itr 0 j.toNat) H1
theorem Ah {a:Expr}{ta:TA}{p pos:Pos}(hg:Gl X "range") (hm:X.mg "range" = none) (ha:PA X [a] ta) (hs:starEach [a] X.env=[(false,eval a X.env)]:=by rfl):PI X tg (.Call (.Name "range" p) [a] [] pos) (Ln ta):=by
 intro pins s σ H R I h
 refine Call_ (oK I hg hm boot_range (PyProof.Rows.callWith_type1 (thn (ha pos pins s σ H _ I h) ?_) hs rfl))
 rintro us s1 ⟨vs,H1,I1,r1,q1⟩
 obtain⟨j,e,q1,q2,q⟩:=q1
 subst e
 cases r1 with
 | cons r rr=>
  cases rr
  obtain⟨t,rfl⟩:=r
  exact call_range_1 (Dh I1 (by omega) (by omega) q1 q2 (by simpa using q))
def Oc (wi:TI) (g:TG) (tb:TS):TS:=λD σ H=>wi σ H λJ H1=>∃ W:Nat->Nat->St->Hp->Prop,(∃ m,W 0 m σ H1)/\∀ i m σ H,W i m σ H->
 (J.stop i H/\D.nx σ H)\/(J.go i H/\∃ N:St->Hp->Prop,(∀ σ' H',N σ' H'->∃ m',m' < m/\W (i+1) m' σ' H')/\∀ x H',J.yld i H x H'->g x σ H' fun σ2 H2=>tb { D with nx:=N,ct:=N,bk:=D.nx } σ2 H2)
def oO (fp:List Addr) (h:Heap):List (Addr×Obj):=fp.filterMap λb=>(h.get? b).map λo=>(b,o)
theorem kI {fp:List Addr}{h:Heap}{b:Addr}{o:Obj}(hb:b∈fp) (e:h.get? b=some o):(b,o)∈oO fp h:=List.mem_filterMap.mpr ⟨b,hb,by rw[e];rfl⟩
theorem Ai {fp:List Addr}{h:Heap}{p:Addr×Obj}(hp:p∈oO fp h):p.1∈fp/\h.get? p.1=some p.2:=by
 obtain⟨b,hb,e⟩:=List.mem_filterMap.mp hp
 cases q:h.get? b with
 | none=>rw[q] at e;cases e
 | some o=>
  rw[q] at e
  have e':(b,o)=p:=Option.some.inj e
  subst e'
  exact⟨hb,q⟩
theorem Inv.pinned {pins:List (Addr×Obj)}{σ:St}{H:Hp}{s:Shared}{fp:List Addr}(I:Inv X pins σ H s) (hf:∀ b∈fp,j8 X pins H b) (ho:∀ b∈fp,∃ o,s.heap.get? b=some o/\∀ v,o.data≠.cell v):Inv X (pins++oO fp s.heap) σ H s:=
 I.pins_of λp hp=>(List.mem_append.mp hp).elim (λz=>I.pin p (List.mem_append_right _ z)) λz=>by
  obtain⟨hb,e⟩:=Ai z
  obtain⟨f0,f1,f2,_⟩:=hf p.1 hb
  obtain⟨o,e',d⟩:=ho p.1 hb
  rw[e] at e';cases e'
  exact⟨e,f0,f1,f2,d⟩
theorem Inv.unpinned {pins pl:List (Addr×Obj)}{σ:St}{H:Hp}{s:Shared}(I:Inv X (pins++pl) σ H s):Inv X pins σ H s:=I.pins_of λp hp=>I.pin p (List.mem_append_right _ (List.mem_append_left _ hp))
theorem Aj {iter:Expr}{body:List Stmt}{wi:TI}{g:TG}{tb:TS}{pos:Pos}(hp:PassesOwn (model X.prog X.w) X.A X.env X.xe) (hc:X.calm=true) (hi:PI X tg iter wi) (hg:PG X tg g) (hb:PSs X body tb)
  (hs:∀ x,foldedSetIterable iter X.env x=pure x:=by intro _;rfl):PS X (.For tg iter body [] pos) (Oc wi g tb):=by
 intro pins s σ H D I h
 refine wpAny_For (thn (hi pins s σ H _ I h) λv s1 h1=>thn h1 λitv s2 h2=>?_) hs
 obtain⟨it,fp,tn,J,H2,e,I2,T,st2,f2,W,⟨m0,w0⟩,turn⟩:=h2
 subst e
 have stat:∀ {H':Hp},(∀ b∈fp,H' b=none)->∀ b∈fp,j8 X pins H' b:=λhn b hb=>⟨hn b hb,(f2 b hb).2⟩
 refine codeAny_forLoop_any (λn s'=>∃ i σ' H',Inv X pins σ' H' s'/\tn i s'.heap/\(∀ b∈fp,H' b=none)/\W i n σ' H') ?_ m0 ⟨0,σ,H2,I2,st2,λb hb=>(f2 b hb).1,w0⟩
 rintro n s3 ⟨i,σ3,H3,I3,st3,fr3,w3⟩
 rcases turn i n σ3 H3 w3 with ⟨stop,qn⟩ | ⟨go,N,hN,step⟩
 ·refine wpAny_passesOwn hp (thn (T.done X rfl rfl rfl hc i pins s3 σ3 H3 X.xe I3 (stat fr3) st3 stop) ?_)
  rintro r s4 ⟨hr,I4⟩
  subst hr
  exact wpAny_execs_nil ⟨σ3,H3,I4,qn⟩
 ·refine wpAny_passesOwn hp (thn (T.item X rfl rfl rfl hc i pins s3 σ3 H3 X.xe I3 (stat fr3) st3 go) ?_)
  rintro r s4 ⟨u,hr,h4⟩
  subst hr
  refine wpAny_passesOwn hp (thn h4 ?_)
  rintro _ s5 ⟨x,H5,I5,r5,y5,st5,fr5⟩
  have I5':=I5.pinned (stat fr5) (T.obj _ _ st5)
  refine wpAny_passesOwn hp (thn (hg _ s5 σ3 H5 x u _ I5' r5 (step x H5 y5)) ?_)
  rintro _ s6 ⟨σ6,H6,I6,q6⟩
  refine wpAny_passesOwn hp (thn (hb _ s6 σ6 H6 _ I6 q6) λf s7 q7=>?_)
  have again:∀ {σ7:St}{H7:Hp},Inv X (pins++oO fp s5.heap) σ7 H7 s7->N σ7 H7->∃ m,m < n/\∃ i σ' H',Inv X pins σ' H' s7/\tn i s7.heap/\(∀ b∈fp,H' b=none)/\W i m σ' H':=λ{σ7 H7} I7 n7=>by
   obtain⟨m',hm,w7⟩:=hN σ7 H7 n7
   refine⟨m',hm,i+1,σ7,H7,I7.unpinned,T.keep _ _ _ st5 λb hb o e=>(I7.pin (b,o) (List.mem_append_right _ (List.mem_append_right _ (kI hb e)))).1,λb hb=>?_,w7⟩
   obtain⟨o,e,d⟩:=T.obj _ _ st5 b hb
   exact(I7.pin (b,o) (List.mem_append_right _ (List.mem_append_right _ (kI hb e)))).2.1
  cases f with
  | next=>obtain⟨σ7,H7,I7,n7⟩:=q7;exact again I7 n7
  | cont=>obtain⟨σ7,H7,I7,n7⟩:=q7;exact again I7 n7
  | brk=>obtain⟨σ7,H7,I7,q7⟩:=q7;exact⟨σ7,H7,I7.unpinned,q7⟩
  | ret v=>obtain⟨x7,σ7,H7,I7,r7,q7⟩:=q7;exact⟨x7,σ7,H7,I7.unpinned,r7,q7⟩
end
end L2
namespace L2
open PySem PySem.Spec PyProof.Rows
abbrev R2:=V->V->Hp->VK->Prop
def OpR (X:Cx) (f:Value->Value->Sem Value) (r:R2):Prop:=
 ∀ (pins:List (Addr×Obj)) (s:Shared) (σ:St) (H:Hp) (x y:V) (v u:Value) (Q:VK),Inv X pins σ H s->RelV x v->RelV y u->r x y H Q->
  wpAny (model X.prog X.w) X.A (f v u) (EP X pins σ Q) X.xe s
def UnR (X:Cx) (f:Value->Sem Value) (r:V->Hp->VK->Prop):Prop:=
 ∀ (pins:List (Addr×Obj)) (s:Shared) (σ:St) (H:Hp) (x:V) (v:Value) (Q:VK),Inv X pins σ H s->RelV x v->r x H Q->
  wpAny (model X.prog X.w) X.A (f v) (EP X pins σ Q) X.xe s
def CallR (X:Cx) (f:Value) (r:List V->Hp->VK->Prop):Prop:=
 ∀ (pins:List (Addr×Obj)) (s:Shared) (σ:St) (H:Hp) (xs:List V) (us:List Value) (Q:VK),Inv X pins σ H s->Vals xs us->r xs H Q->
  wpAny (model X.prog X.w) X.A (call f us) (EP X pins σ Q) X.xe s
def tOp (r:R2) (ta tb:TE):TE:=fun σ H Q=>ta σ H λx H1=>tb σ H1 λy H2=>r x y H2 Q
def tUn (r:V->Hp->VK->Prop) (ta:TE):TE:=fun σ H Q=>ta σ H λx H1=>r x H1 Q
def rI (C:Int->Int->Prop) (g:Int->Int->V):R2:=λx y H Q=>∃ i j,x=.int i/\y=.int j/\C i j/\Q (g i j) H
def rI0 (g:Int->Int->V):R2:=λx y H Q=>∃ i j,x=.int i/\y=.int j/\Q (g i j) H
def rU (g:Int->V):V->Hp->VK->Prop:=λx H Q=>∃ i,x=.int i/\Q (g i) H
section
variable {X:Cx}{a b c:Expr}{ta tb tc:TE}{pos:Pos}
theorem Di (ha:PE X a ta) (hb:PE X b tb){pins:List (Addr×Obj)}{s:Shared}{σ:St}{H:Hp}{R:V->V->Hp->Prop}(I:Inv X pins σ H s)
  (h:ta σ H λx H1=>tb σ H1 λy H2=>R x y H2){Q:Value->Shared->Prop}{f:Value->Value->Sem Value}
  (hf:∀ v u s2 x y H2,Inv X pins σ H2 s2->RelV x v->RelV y u->R x y H2->wpAny (model X.prog X.w) X.A (f v u) Q X.xe s2):
  wpAny (model X.prog X.w) X.A (eval a X.env) (λv s₁=>wpAny (model X.prog X.w) X.A (eval b X.env) (λu s₂=>wpAny (model X.prog X.w) X.A (f v u) Q X.xe s₂) X.xe s₁) X.xe s:=by
 refine thn (ha pins s σ H _ I h) ?_
 rintro v s1 ⟨x,H1,I1,r1,q1⟩
 refine thn (hb pins s1 σ H1 _ I1 q1) ?_
 rintro u s2 ⟨y,H2,I2,r2,q2⟩
 exact hf v u s2 x y H2 I2 r1 r2 q2
theorem Lp {op:Operator}{r:R2}(ho:OpR X (binaryOp op) r) (ha:PE X a ta) (hb:PE X b tb):PE X (.BinOp a op b pos) (tOp r ta tb):=by
 intro pins s σ H Q I h
 exact wpAny_BinOp (Di ha hb I h λv u s2 x y H2 I2 rx ry q=>ho pins s2 σ H2 x y v u Q I2 rx ry q)
theorem Lq {op:UnaryOp}{r:V->Hp->VK->Prop}(ho:UnR X (unaryOp op) r) (ha:PE X a ta):PE X (.UnaryOp op a pos) (tUn r ta):=by
 intro pins s σ H Q I h
 exact UnaryOp_ (thn (ha pins s σ H _ I h) λv s1 ⟨x,H1,I1,r1,q1⟩=>ho pins s1 σ H1 x v Q I1 r1 q1)
theorem opI {f:Value->Value->Sem Value}{C:Int->Int->Prop}{g:Int->Int->Int}
  (rule:∀ (i j:Int) (t u:Tok) (s:Shared) (Q:Value->Shared->Prop) (E:Value->Shared->Prop),C i j->Q (.int (g i j) s.toks) { s with toks:=s.toks+1 }->wpAny (model X.prog X.w) X.A (f (.int i t) (.int j u)) Q E s):
  OpR X f (rI C λi j=>.int (g i j)):=by
 intro pins s σ H x y v u Q I rx ry h
 obtain⟨i,j,rfl,rfl,hc,q⟩:=h
 obtain⟨t,rfl⟩:=rx
 obtain⟨t',rfl⟩:=ry
 exact rule i j t t' s _ _ hc ⟨.int (g i j),H,I.tok _,⟨_,rfl⟩,q⟩
theorem Ir {f:Value->Value->Sem Value}{g:Int->Int->Int}
  (rule:∀ (i j:Int) (t u:Tok) (s:Shared) (Q:Value->Shared->Prop) (E:Value->Shared->Prop),Q (.int (g i j) s.toks) { s with toks:=s.toks+1 }->wpAny (model X.prog X.w) X.A (f (.int i t) (.int j u)) Q E s):
  OpR X f (rI0 λi j=>.int (g i j)):=by
 intro pins s σ H x y v u Q I rx ry h
 obtain⟨i,j,rfl,rfl,q⟩:=h
 obtain⟨t,rfl⟩:=rx
 obtain⟨t',rfl⟩:=ry
 exact rule i j t t' s _ _ ⟨.int (g i j),H,I.tok _,⟨_,rfl⟩,q⟩
theorem Dj {f:Value->Value->Sem Value}{g:Int->Int->Bool}
  (rule:∀ (i j:Int) (t u:Tok) (s:Shared) (Q:Value->Shared->Prop) (E:Value->Shared->Prop),Q (.bool (g i j)) s->wpAny (model X.prog X.w) X.A (f (.int i t) (.int j u)) Q E s):
  OpR X f (rI0 λi j=>.bl (g i j)):=by
 intro pins s σ H x y v u Q I rx ry h
 obtain⟨i,j,rfl,rfl,q⟩:=h
 obtain⟨t,rfl⟩:=rx
 obtain⟨t',rfl⟩:=ry
 exact rule i j t t' s _ _ ⟨.bl (g i j),H,I,rfl,q⟩
def Iu (i j:Int):Prop:=0 < j/\j < 1073741824
def CMul (i j:Int):Prop:=(-(2 ^ 64) < i/\i < 2 ^ 64)\/(-(2 ^ 64) < j/\j < 2 ^ 64)
theorem CMul.ok {i j:Int}(h:CMul i j):IntMulOk i j:=by
 rcases h with ⟨h1,h2⟩ | ⟨h1,h2⟩
 ·exact .of_left (intBits_le_64 h1 h2)
 ·exact .of_right (intBits_le_64 h1 h2)
theorem Iv:OpR X (binaryOp .Add) (rI0 λi j=>.int (i+j)):=Ir λ_ _ _ _ _ _ _ q=>add_int q
theorem Iw:OpR X (binaryOp .Sub) (rI0 λi j=>.int (i - j)):=Ir λ_ _ _ _ _ _ _ q=>sub_int q
theorem Ak:OpR X (binaryOp .Mult) (rI CMul λi j=>.int (i*j)):=opI λ_ _ _ _ _ _ _ hc q=>mul_int q hc.ok
theorem Gm:OpR X (binaryOp .FloorDiv) (rI Iu λi j=>.int (i / j)):=opI λi j _ _ _ _ _ hc q=>by
 have h1:(0:Int) < j:=hc.1
 have h2:j < 1073741824:=hc.2
 exact floordiv_int (by omega) (by rw[Int.fdiv_eq_ediv_of_nonneg i (by omega)];exact q) (.inl (PyProof.noPylong_small (by omega)))
theorem Iz:OpR X (binaryOp .Mod) (rI (λ_ j=>0 < j) λi j=>.int (i % j)):=opI λi j _ _ _ _ _ hc q=>by
 have h1:(0:Int) < j:=hc
 exact mod_int' (by omega) (by rw[Int.fmod_eq_emod_of_nonneg i (by omega)];exact q)
theorem unI {f:Value->Sem Value}{g:Int->Int}
  (rule:∀ (i:Int) (t:Tok) (s:Shared) (Q:Value->Shared->Prop) (E:Value->Shared->Prop),Q (.int (g i) s.toks) { s with toks:=s.toks+1 }->wpAny (model X.prog X.w) X.A (f (.int i t)) Q E s):
  UnR X f (rU λi=>.int (g i)):=by
 intro pins s σ H x v Q I rx h
 obtain⟨i,rfl,q⟩:=h
 obtain⟨t,rfl⟩:=rx
 exact rule i t s _ _ ⟨.int (g i),H,I.tok _,⟨_,rfl⟩,q⟩
theorem IK:UnR X (unaryOp .USub) (rU λi=>.int (-i)):=unI λ_ _ _ _ _ q=>neg_int q
end
def Dl:V->V->Bool
 | .non,.non=>true | .non,.int _=>true | .int _,.non=>true | .non,.bl _=>true | .bl _,.non=>true | .non,.str _=>true | .str _,.non=>true
 | .int _,.int _=>true | .bl _,.bl _=>true | .str _,.str _=>true | .byt _,.byt _=>true
 | .int _,.str _=>true | .str _,.int _=>true | .bl _,.str _=>true | .str _,.bl _=>true
 | _,_=>false
def rEq:R2:=λx y H Q=>Dl x y=true/\Q (.bl (decide (x=y))) H
def rNe:R2:=λx y H Q=>Dl x y=true/\Q (.bl (!decide (x=y))) H
theorem xU {i j:Int}:decide (V.int i=V.int j)=(i == j):=by
 rw[Bool.eq_iff_iff]
 simp
theorem Al {i j:Bool}:decide (V.bl i=V.bl j)=(i == j):=by
 rw[Bool.eq_iff_iff]
 simp
theorem xV {i j:Str}:decide (V.str i=V.str j)=(i == j):=by
 rw[Bool.eq_iff_iff]
 simp
theorem xW {i j:Array UInt8}:decide (V.byt i=V.byt j)=(i.toList == j.toList):=by
 rw[Bool.eq_iff_iff]
 cases i
 cases j
 simp
section
variable {X:Cx}{a b c:Expr}{ta tb tc:TE}{pos:Pos}
theorem bD {pins:List (Addr×Obj)}{σ:St}{H:Hp}{s:Shared}{Q:VK}{k k':Bool}(I:Inv X pins σ H s) (q:Q (.bl k) H) (e:k=k'):EP X pins σ Q (.bool k') s:=by
 subst e
 exact⟨.bl k,H,I,rfl,q⟩
theorem Ls:OpR X (compareOp .Eq) rEq:=by
 intro pins s σ H x y v u Q I rx ry h
 obtain⟨hs,q⟩:=h
 cases x with
 | non=>
  cases rx
  cases y with
  | non=>cases ry;exact PySem.EqNone.eq_none_none (bD I q (by simp))
  | bl j=>cases ry;exact PySem.EqNone.eq_none_bool (bD I q (by simp))
  | int j=>obtain⟨t',rfl⟩:=ry;exact PySem.EqNone.eq_none_int (bD I q (by simp))
  | str j=>obtain⟨t',rfl⟩:=ry;exact PySem.EqNone.eq_none_str (bD I q (by simp))
  | _=>exact absurd (show false=true from hs) Bool.false_ne_true
 | bl i=>
  cases rx
  cases y with
  | non=>cases ry;exact PySem.EqNone.eq_bool_none (bD I q (by simp))
  | bl j=>cases ry;exact eq_bool (bD I q Al)
  | str j=>obtain⟨t',rfl⟩:=ry;exact PySem.EqMixed.eq_bool_str (bD I q (by simp))
  | _=>exact absurd (show false=true from hs) Bool.false_ne_true
 | int i=>
  obtain⟨t,rfl⟩:=rx
  cases y with
  | non=>cases ry;exact PySem.EqNone.eq_int_none (bD I q (by simp))
  | int j=>obtain⟨t',rfl⟩:=ry;exact eq_int (bD I q xU)
  | str j=>obtain⟨t',rfl⟩:=ry;exact PySem.EqMixed.eq_int_str (bD I q (by simp))
  | _=>exact absurd (show false=true from hs) Bool.false_ne_true
 | str i=>
  obtain⟨t,rfl⟩:=rx
  cases y with
  | non=>cases ry;exact PySem.EqNone.eq_str_none (bD I q (by simp))
  | bl j=>cases ry;exact PySem.EqMixed.eq_str_bool (bD I q (by simp))
  | int j=>obtain⟨t',rfl⟩:=ry;exact PySem.EqMixed.eq_str_int (bD I q (by simp))
  | str j=>obtain⟨t',rfl⟩:=ry;exact eq_str (bD I q xV)
  | _=>exact absurd (show false=true from hs) Bool.false_ne_true
 | byt i=>
  obtain⟨t,rfl⟩:=rx
  cases y with
  | byt j=>obtain⟨t',rfl⟩:=ry;exact PySem.W.eq_bytes (bD I q xW)
  | _=>exact absurd (show false=true from hs) Bool.false_ne_true
 | _=>cases y <;> exact absurd (show false=true from hs) Bool.false_ne_true
theorem Lw:OpR X (compareOp .NotEq) rNe:=by
 intro pins s σ H x y v u Q I rx ry h
 obtain⟨hs,q⟩:=h
 cases x with
 | non=>
  cases rx
  cases y with
  | non=>cases ry;exact PySem.EqNone.ne_none_none (bD I q (by simp))
  | bl j=>cases ry;exact PySem.EqNone.ne_none_bool (bD I q (by simp))
  | int j=>obtain⟨t',rfl⟩:=ry;exact PySem.EqNone.ne_none_int (bD I q (by simp))
  | str j=>obtain⟨t',rfl⟩:=ry;exact PySem.EqNone.ne_none_str (bD I q (by simp))
  | _=>exact absurd (show false=true from hs) Bool.false_ne_true
 | bl i=>
  cases rx
  cases y with
  | non=>cases ry;exact PySem.EqNone.ne_bool_none (bD I q (by simp))
  | bl j=>cases ry;exact ne_bool (bD I q (congrArg not Al))
  | str j=>obtain⟨t',rfl⟩:=ry;exact PySem.EqMixed.ne_bool_str (bD I q (by simp))
  | _=>exact absurd (show false=true from hs) Bool.false_ne_true
 | int i=>
  obtain⟨t,rfl⟩:=rx
  cases y with
  | non=>cases ry;exact PySem.EqNone.ne_int_none (bD I q (by simp))
  | int j=>obtain⟨t',rfl⟩:=ry;exact ne_int (bD I q (congrArg not xU))
  | str j=>obtain⟨t',rfl⟩:=ry;exact PySem.EqMixed.ne_int_str (bD I q (by simp))
  | _=>exact absurd (show false=true from hs) Bool.false_ne_true
 | str i=>
  obtain⟨t,rfl⟩:=rx
  cases y with
  | non=>cases ry;exact PySem.EqNone.ne_str_none (bD I q (by simp))
  | bl j=>cases ry;exact PySem.EqMixed.ne_str_bool (bD I q (by simp))
  | int j=>obtain⟨t',rfl⟩:=ry;exact PySem.EqMixed.ne_str_int (bD I q (by simp))
  | str j=>obtain⟨t',rfl⟩:=ry;exact ne_str (bD I q (congrArg not xV))
  | _=>exact absurd (show false=true from hs) Bool.false_ne_true
 | byt i=>
  obtain⟨t,rfl⟩:=rx
  cases y with
  | byt j=>obtain⟨t',rfl⟩:=ry;exact PySem.W.ne_bytes (bD I q (congrArg not xW))
  | _=>exact absurd (show false=true from hs) Bool.false_ne_true
 | _=>cases y <;> exact absurd (show false=true from hs) Bool.false_ne_true
theorem Lx:OpR X (compareOp .Lt) (rI0 λi j=>.bl (decide (i < j))):=Dj λ_ _ _ _ _ _ _ q=>lt_int q
theorem Fx:OpR X (compareOp .LtE) (rI0 λi j=>.bl (decide (i<=j))):=Dj λ_ _ _ _ _ _ _ q=>le_int q
theorem Ly:OpR X (compareOp .Gt) (rI0 λi j=>.bl (decide (j < i))):=Dj λ_ _ _ _ _ _ _ q=>gt_int q
theorem Am:OpR X (compareOp .In) (λx y H Q=>∃ i j,x=.str i/\y=.str j/\Q (.bl (!(Builtin.Str.occurrences j i 0 j.length 1).isEmpty)) H):=by
 intro pins s σ H x y v u Q I rx ry h
 obtain⟨i,j,rfl,rfl,q⟩:=h
 obtain⟨t,rfl⟩:=rx
 obtain⟨t',rfl⟩:=ry
 exact in_str (bD I q rfl)
theorem IV:OpR X (compareOp .Is) (λx y H Q=>y=.non/\Q (.bl (decide (x=.non))) H):=by
 intro pins s σ H x y v u Q I rx ry h
 obtain⟨rfl,q⟩:=h
 cases ry
 refine is_none_gen (bD I q ?_)
 cases x <;> first
  | (cases rx;rfl)
  | (obtain⟨t,rfl⟩:=rx;rfl)
theorem OpR.or {f:Value->Value->Sem Value}{r r':R2}(h:OpR X f r) (h':OpR X f r'):OpR X f (λx y H Q=>r x y H Q\/r' x y H Q):=by
 intro pins s σ H x y v u Q I rx ry q
 rcases q with q | q
 ·exact h pins s σ H x y v u Q I rx ry q
 ·exact h' pins s σ H x y v u Q I rx ry q
theorem oR (b:Expr){op:CmpOp}(h:op≠.In:=by decide) (h2:op≠.NotIn:=by decide):behindInMarks op b=false:=by
 have e1:(op == CmpOp.In)=false:=by cases op <;> first | rfl | exact absurd rfl h
 have e2:(op == CmpOp.NotIn)=false:=by cases op <;> first | rfl | exact absurd rfl h2
 cases b <;> simp[behindInMarks,e1,e2]
theorem Gn {op:CmpOp}{r:R2}(ho:OpR X (compareOp op) r) (ha:PE X a ta) (hb:PE X b tb) (hm:behindInMarks op b=false):PE X (.Compare a [op] [b] pos) (tOp r ta tb):=by
 intro pins s σ H Q I h
 exact wpAny_Compare1 (Di ha hb I h λv u s2 x y H2 I2 rx ry q=>ho pins s2 σ H2 x y v u Q I2 rx ry q) hm
def Lz (t:TE):TT:=fun σ H Q=>t σ H λx H'=>∃ k,x=.bl k/\Q k H'
theorem Gp {op:CmpOp}{r:R2}(ho:OpR X (compareOp op) r) (ha:PE X a ta) (hb:PE X b tb) (hm:behindInMarks op b=false):PT X (.Compare a [op] [b] pos) (Lz (tOp r ta tb)):=by
 intro pins s σ H Q I h
 refine wpAny_isTrue_Compare1 (thn (ha pins s σ H _ I h) λv s1 ⟨x,H1,I1,r1,q1⟩=>thn (hb pins s1 σ H1 _ I1 q1) λu s2 ⟨y,H2,I2,r2,q2⟩=>
  thn (ho pins s2 σ H2 x y v u _ I2 r1 r2 q2) λc s3 ⟨z,H3,I3,r3,k,e,q3⟩=>?_) hm
 subst e
 cases r3
 exact wpAny_truthy_bool ⟨H3,I3,q3⟩
def I_ (r r':R2) (ta tb tc:TE):TE:=fun σ H Q=>ta σ H λx H1=>tb σ H1 λy H2=>r x y H2 λz H3=>∃ k,z=.bl k /\
 (if k=true then tc σ H3 λw' H4=>r' y w' H4 Q else Q (.bl false) H3)
theorem Dm {op op':CmpOp}{r r':R2}(ho:OpR X (compareOp op) r) (ho':OpR X (compareOp op') r') (ha:PE X a ta) (hb:PE X b tb) (hc:PE X c tc)
  (hm:lastMarks [op,op'] [b,c]=false:=by with_unfolding_all rfl):PE X (.Compare a [op,op'] [b,c] pos) (I_ r r' ta tb tc):=by
 intro pins s σ H Q I h
 refine Compare_chain (thn (ha pins s σ H _ I h) λv s1 ⟨x,H1,I1,r1,q1⟩=>chain_link (thn (hb pins s1 σ H1 _ I1 q1) λu s2 ⟨y,H2,I2,r2,q2⟩=>
  thn (ho pins s2 σ H2 x y v u _ I2 r1 r2 q2) λd s3 ⟨z,H3,I3,r3,k,e,q3⟩=>?_)) hm
 subst e
 cases r3
 refine wpAny_truthy_bool ?_
 cases k with
 | false=>exact ite_ff ⟨.bl false,H3,I3,rfl,q3⟩
 | true=>exact ite_tt (chain_last (thn (hc pins s3 σ H3 _ I3 q3) λw' s4 ⟨z',H4,I4,r4,q4⟩=>ho' pins s4 σ H4 y z' u w' Q I4 r2 r4 q4))
theorem mF:(sizeLine:Nat) < 2 ^ 63:=by rw[sizeLine_eq];decide
theorem yP:OpR X (binaryOp .Add) (λx y H Q=>∃ i j,x=.str i/\y=.str j/\i.length+j.length<=sizeLine/\Q (.str (i++j)) H):=by
 intro pins s σ H x y v u Q I rx ry h
 obtain⟨i,j,rfl,rfl,hz,q⟩:=h
 obtain⟨t,rfl⟩:=rx
 obtain⟨t',rfl⟩:=ry
 exact add_str (λt' tk=>⟨.str (i++j),H,I.tok _,⟨_,rfl⟩,q⟩) hz
theorem vals1 {x:V}{us:List Value}(r:Vals [x] us):∃ u,us=[u]/\RelV x u:=by
 cases r with
 | cons r1 r2=>cases r2;exact⟨_,rfl,r1⟩
theorem vals2 {x y:V}{us:List Value}(r:Vals [x,y] us):∃ u w',us=[u,w']/\RelV x u/\RelV y w':=by
 cases r with
 | cons r1 r2=>
  cases r2 with
  | cons r3 r4=>cases r4;exact⟨_,_,rfl,r1,r3⟩
end
end L2
namespace L2
open PySem PySem.Spec PyProof.Rows
structure ObjM (h:Heap) (x dx C:Addr) (mA:Str->Option Value):Prop where
 obj:h.get? x=some (PySem.W.instObj C dx)
 ns:h.Ns1 dx mA
 ne:dx≠x
theorem An {h:Heap}{dx:Addr}{mA:Str->Option Value}(n:h.Ns1 dx mA):∃ od,h.get? dx=some od/\∀ name,PySem.W.lookIn name od=some (mA name):=by
 obtain⟨o,es,ep,ho,hd,hk,_,hm⟩:=n
 refine⟨o,ho,λname=>?_⟩
 have e:=hm name
 unfold nsFind findBy at e
 rw[← Array.find?_toList] at e
 unfold PySem.W.lookIn
 rw[hd]
 dsimp only
 split
 ·rename_i y q
  rw[q] at e
  exact congrArg some e
 ·rename_i q
  rw[q] at e
  have a:es.toList.any (·.refKey)=false:=by
   rw[List.any_eq_false]
   intro y hy
   obtain⟨z,t,hkey⟩:=hk y (Array.mem_toList_iff.mp hy)
   simp[DictEntry.refKey,hkey]
  have a':¬ es.toList.any (·.refKey)=true:=by rw[a];exact Bool.false_ne_true
  rw[if_neg a']
  exact congrArg some e
theorem ObjM.look {h:Heap}{x dx C:Addr}{mA:Str->Option Value}(I:ObjM h x dx C mA):∃ od,PySem.W.InstAt h x (PySem.W.instObj C dx) C (some od)/\∀ name,PySem.W.lookIn name od=some (mA name):=
 let ⟨od,ho,hl⟩:=An I.ns
 ⟨od,⟨I.obj,rfl,rfl,ho⟩,hl⟩
section
variable {prog:Program}{w:World}{A:Around}{E:Value->Shared->Prop}{s:Shared}{K:PySem.W.Frag}{x dx C f:Addr}{mA:Str->Option Value}{name:Str}{v:Value}
theorem Gq {expr:Bool}{Q:Value->Shared->Prop}(X:K.In s.heap) (I:ObjM s.heap x dx C mA) (hg:PySem.W.plainGet K C name=true) (hh:PySem.W.hasDictIn K C=true)
  (ha:PySem.W.findIn K (.ref C) name=some none) (hv:mA name=some v) (hv':PySem.W.handedIn v=true) (h:Q v { s with toks:=s.toks+1 }):
  wpAny (model prog w) A (getAttr (.ref x) name expr) Q E s:=by
 obtain⟨od,J,hl⟩:=I.look
 exact PySem.W.get_value X J (PySem.W.plainGet_of hg).1 (PySem.W.findObj_own hh ha rfl (by rw[hl,hv])) hv' h
theorem Gr {ns:List Str}{Q:Unit->Shared->Prop}(X:K.In s.heap) (I:ObjM s.heap x dx C mA)
  (hs:PySem.W.findIn K (.ref C) "__setattr__" = some (some (.builtin "object.__setattr__"))) (hp:PySem.W.plainOver K C=true) (ht:PySem.W.takerIn K C name=some none) (hh:PySem.W.hasDictIn K C=true)
  (hw:PySem.Within mA ns) (hsz:ns.length<=sizeLine)
  (h:∀ h',ObjM h' x dx C (λy=>if y=name then some v else mA y)->Heap.SameBut dx s.heap h'->Q () { s with heap:=h',toks:=s.toks+2 }):
  wpAny (model prog w) A (setAttr (.ref x) name v) Q E s:=by
 obtain⟨od,J,hl⟩:=I.look
 refine PySem.W.set_plain X J hs (PySem.W.osa_open (s:={ s with toks:=s.toks+1 }) (r:=none) X J hp ht λb=>?_)
 obtain⟨cd,hc,hd'⟩:=PySem.W.any_some hh
 have hx:s.heap.get? x=some ⟨.ref C,some dx,.plain,#[]⟩:=I.obj
 refine wpAny_bind (wpAny_pure (wpAny_bind (wpAny_bind (wpAny_loadPart hx (wpAny_bind (PySem.W.Looks.here (s:={ s with toks:=s.toks+1 }) (PySem.W.looks_clsIn X hc) ?_))))))
 rw[hd']
 refine wpAny_pure (a:=some dx) (wpAny_bind (wpAny_pure (wpAny_bind ?_)))
 refine wpAny_nsSet1 (s:={ s with toks:=s.toks+1 }) I.ns λh' hn2 hs2=>?_
 obtain⟨oD,esD,epD,hoD,hdD,hcD⟩:=hn2.count (PySem.Within.cons name v hw)
 refine wpAny_bind (wpAny_lookBehind hoD (by rw[hdD];exact pastItsLine_dict (Nat.le_trans hcD (by rw[List.length_cons];omega))) ?_)
 exact wpAny_pure (h _ ⟨(hs2.2 _ (Ne.symm I.ne)).trans I.obj,hn2,I.ne⟩ hs2)
theorem vR {R:Result->Shared->Prop}{vs:List Value}{kw:List (Str×Value)}(X:K.In s.heap) (hm:PySem.W.makesIn K C=true)
  (hi:PySem.W.findIn K (.ref C) "__init__" = some (some (.ref f))) (hf:PySem.W.typeIn K (.ref f)=some (.type "function"))
  (h:codeAny (model prog w) (A.under (.builtin "type.__call__" ⟨.ref C::vs,kw⟩)) (.call (.ref f) ⟨.ref (s.heap.objs.size+1)::vs,kw⟩) (PySem.W.InitBack (s.heap.objs.size+1) R)
   { s with heap:=(s.heap.push PySem.W.emptyDict).push (PySem.W.instObj C s.heap.objs.size) }):
  codeAny (model prog w) A (.call (.ref C) ⟨vs,kw⟩) R s:=by
 obtain⟨hh,g,d,t,os⟩:=s
 exact PySem.W.make_core (PySem.W.makes_of X hm) (PySem.W.looks_findIn X hi) (λself=>PySem.W.bind_fn X self hf) (.inl rfl) h
end
def gq (f:Str) (v:V):List (Str×V)->List (Str×V)
 | []=>[(f,v)]
 | (g,x)::r=>if g=f then (g,v)::r else (g,x)::gq f v r
theorem qC (f g:Str) (v:V):∀ fs:List (Str×V),(gq f v fs).lookup g=if g=f then some v else fs.lookup g
 | []=>by
  show List.lookup g [(f,v)]=_
  by_cases h:g=f
  ·have hb:(g == f)=true:=beq_iff_eq.mpr h
   simp only[List.lookup,hb,if_pos h]
  ·have hb:(g == f)=false:=beq_eq_false_iff_ne.mpr h
   simp only[List.lookup,hb,if_neg h]
 | (k,x)::r=>by
  have ih:=qC f g v r
  rw[show gq f v ((k,x)::r)=(if k=f then (k,v)::r else (k,x)::gq f v r) from rfl]
  by_cases hk:k=f
  ·rw[if_pos hk]
   by_cases h:g=k
   ·have hb:(g == k)=true:=beq_iff_eq.mpr h
    simp only[List.lookup,hb,if_pos (h.trans hk)]
   ·have hb:(g == k)=false:=beq_eq_false_iff_ne.mpr h
    simp only[List.lookup,hb,if_neg (λe:g=f=>h (e.trans hk.symm))]
  ·rw[if_neg hk]
   by_cases h:g=k
   ·have hb:(g == k)=true:=beq_iff_eq.mpr h
    simp only[List.lookup,hb,if_neg (λe:g=f=>hk (h.symm.trans e))]
   ·have hb:(g == k)=false:=beq_eq_false_iff_ne.mpr h
    simp only[List.lookup,hb]
    exact ih
theorem oU (f:Str) (v:V):∀ fs:List (Str×V),f∈(gq f v fs).map (·.1)/\∀ g,g∈fs.map (·.1)->g∈(gq f v fs).map (·.1)
 | []=>⟨by simp[gq],λg h=>by simp at h⟩
 | (k,x)::r=>by
  obtain⟨i1,i2⟩:=oU f v r
  rw[show gq f v ((k,x)::r)=(if k=f then (k,v)::r else (k,x)::gq f v r) from rfl]
  by_cases hk:k=f
  ·rw[if_pos hk]
   subst hk
   exact⟨by simp,λg h=>by simpa using h⟩
  ·rw[if_neg hk]
   refine⟨?_,λg h=>?_⟩
   ·rw[List.map_cons]
    exact List.mem_cons_of_mem _ i1
   ·rw[List.map_cons] at h ⊢
    rcases List.mem_cons.mp h with e | e
    ·exact List.mem_cons.mpr (.inl e)
    ·exact List.mem_cons_of_mem _ (i2 g e)
theorem qD (f:Str) (v:V):∀ fs:List (Str×V),(gq f v fs).length<=fs.length+1
 | []=>by simp[gq]
 | (k,x)::r=>by
  have ih:=qD f v r
  rw[show gq f v ((k,x)::r)=(if k=f then (k,v)::r else (k,x)::gq f v r) from rfl]
  by_cases hk:k=f
  ·rw[if_pos hk,List.length_cons,List.length_cons];omega
  ·rw[if_neg hk,List.length_cons,List.length_cons];omega
theorem RelO.some_of {v:V}{o:Option Value}(r:RelO (some v) o):∃ u,o=some u/\RelV v u:=by
 cases o with
 | none=>exact(show False from r).elim
 | some u=>exact⟨u,rfl,r⟩
theorem Ao {v:V}{u:Value}(r:RelV v u):PySem.W.handedIn u=true:=by
 cases v with
 | non=>cases (show u=Value.none from r);rfl
 | bl b=>cases (show u=Value.bool b from r);rfl
 | int i=>obtain⟨t,e⟩:=(show ∃ t,u=Value.int i t from r);cases e;rfl
 | str x=>obtain⟨t,e⟩:=(show ∃ t,u=Value.str x t from r);cases e;rfl
 | byt b=>obtain⟨t,e⟩:=(show ∃ t,u=Value.bytes b t from r);cases e;rfl
 | flt b=>obtain⟨t,e⟩:=(show ∃ t,u=Value.float b t from r);cases e;rfl
 | ref a=>cases (show u=Value.ref a from r);rfl
 | ty n=>cases (show u=Value.type n from r);rfl
section
variable {P:Program}{w:World}{H H':Hp}{h h':Heap}{a C dx:Addr}{fs fs':List (Str×V)}
theorem xX {K:PySem.W.Frag}(hok:HOk P w K H h) (e:H a=some (.ins C dx fs)):∃ mA,ObjM h a dx C mA/\(∀ f,RelO (fs.lookup f) (mA f))/\PySem.Within mA (fs.map (·.1))/\fs.length<=1000/\H dx=some (.own a):=by
 obtain⟨d,z,ne,ob,mA,n,r,q⟩:=(show ObjOk P w K H h a (.ins C dx fs) from hok a _ e)
 exact⟨mA,⟨ob,n,ne⟩,r,q,z,d⟩
end
structure Cls (K:PySem.W.Frag) (C:Addr):Prop where
 pg:PySem.W.plainGet K C Str.empty=true
 hd:PySem.W.hasDictIn K C=true
 po:PySem.W.plainOver K C=true
 sa:PySem.W.findIn K (.ref C) "__setattr__" = some (some (.builtin "object.__setattr__"))
theorem Cls.get {K:PySem.W.Frag}{C:Addr}(c:Cls K C) (f:Str):PySem.W.plainGet K C f=true:=c.pg
def NoAttr (K:PySem.W.Frag) (C:Addr) (f:Str):Prop:=PySem.W.findIn K (.ref C) f=some none
theorem NoAttr.taker {K:PySem.W.Frag}{C:Addr}{f:Str}(n:NoAttr K C f):PySem.W.takerIn K C f=some none:=by
 unfold PySem.W.takerIn
 rw[show PySem.W.findIn K (.ref C) f=some none from n]
 rfl
section
variable {X:Cx}{pins:List (Addr×Obj)}{σ:St}{H:Hp}{s:Shared}{a C dx:Addr}{fs:List (Str×V)}{f:Str}{v:V}{A:Around}{E:Value->Shared->Prop}
theorem yQ {b:Bool}{Q:Value->Shared->Prop}(I:Inv X pins σ H s) (e:H a=some (.ins C dx fs)) (c:Cls X.K C) (n:NoAttr X.K C f) (l:fs.lookup f=some v)
  (h:∀ u s',Inv X pins σ H s'->RelV v u->Q u s'):wpAny (model X.prog X.w) A (getAttr (.ref a) f b) Q E s:=by
 obtain⟨mA,O,r,_,_,_⟩:=xX I.hok e
 obtain⟨u,hu,ru⟩:=RelO.some_of (v:=v) (o:=mA f) (by rw[← l];exact r f)
 exact Gq I.kIn O (c.get f) c.hd n hu (Ao ru) (h u _ (I.tok _) ru)
theorem yR {y:V}{u:Value}{Q:Unit->Shared->Prop}(I:Inv X pins σ H s) (e:H a=some (.ins C dx fs)) (c:Cls X.K C) (n:NoAttr X.K C f) (hl:fs.length < 1000) (ry:RelV y u)
  (h:∀ s',Inv X pins σ (upd H a (.ins C dx (gq f y fs))) s'->Q () s'):wpAny (model X.prog X.w) A (setAttr (.ref a) f u) Q E s:=by
 obtain⟨mA,O,r,wi,_,ho⟩:=xX I.hok e
 have hz:(fs.map (·.1)).length<=sizeLine:=by rw[List.length_map,sizeLine_eq];omega
 refine Gr I.kIn O c.sa c.po n.taker c.hd wi hz λh' O' sb=>h _ ?_
 have hd:∃ o,h'.get? dx=some o:=let ⟨o,_,_,e',_⟩:=O'.ns;⟨o,e'⟩
 refine I.write (x:=a) (e:=dx) (by rw[e];exact True.intro) (.inr ho) (λb q hb z=>(sb.2 b hb).trans z) hd ?_
 refine⟨by rw[aH O.ne];exact ho,?_,O.ne,O'.obj,_,O'.ns,λg=>?_,λg hg=>?_⟩
 ·have:=qD f y fs;omega
 ·show RelO ((gq f y fs).lookup g) (if g=f then some u else mA g)
  rw[qC]
  by_cases q:g=f
  ·rw[if_pos q,if_pos q];exact ry
  ·rw[if_neg q,if_neg q];exact r g
 ·by_cases q:g=f
  ·rw[q];exact(oU f y fs).1
  ·refine(oU f y fs).2 g (wi g λz=>hg ?_)
   show (if g=f then some u else mA g)=none
   rw[if_neg q];exact z
theorem Inv.made (I:Inv X pins σ H s):Inv X pins σ (upd (upd H s.heap.objs.size (.own (s.heap.objs.size+1))) (s.heap.objs.size+1) (.ins C s.heap.objs.size []))
  { s with heap:=(s.heap.push PySem.W.emptyDict).push (PySem.W.instObj C s.heap.objs.size) }:=by
 have e1:(s.heap.push PySem.W.emptyDict).get? s.heap.objs.size=some PySem.W.emptyDict:=Heap.get?_push_size s.heap rfl
 have e2:((s.heap.push PySem.W.emptyDict).push (PySem.W.instObj C s.heap.objs.size)).get? (s.heap.objs.size+1)=some (PySem.W.instObj C s.heap.objs.size):=by
  have:=Heap.get?_push_size (s.heap.push PySem.W.emptyDict) (o:=PySem.W.instObj C s.heap.objs.size) rfl
  rwa [Heap.size_push] at this
 have e3:(s.heap.push PySem.W.emptyDict).Ns s.heap.objs.size (λ_=>none):=⟨PySem.W.emptyDict,#[],_,e1,rfl,(λe he=>absurd he (by simp)),λ_=>rfl⟩
 have I1:=I.laid (a:=s.heap.objs.size) (o:=.own (s.heap.objs.size+1)) (h':=s.heap.push PySem.W.emptyDict) (t':=s.toks) (λb u q=>Heap.get?_push_of_some _ q) (Nat.le_refl _) ⟨_,e1⟩
 refine I1.laid (a:=s.heap.objs.size+1) (o:=.ins C s.heap.objs.size []) (t':=s.toks) (λb u q=>Heap.get?_push_of_some _ q) (Nat.le_of_eq (Heap.size_push _ _)) ?_
 have ne:s.heap.objs.size≠s.heap.objs.size+1:=Nat.ne_of_lt (Nat.lt_succ_self _)
 refine⟨by rw[aH ne,aU],Nat.zero_le _,ne,e2,λ_=>none,(Heap.Ns1.of_empty e3).at λo q=>Heap.get?_push_of_some _ q,λ_=>True.intro,λy hy=>absurd rfl hy⟩
theorem xY {prog:Program}{w:World}{env:Env}{e:Expr}{f:Str}{pos:Pos}{s:Shared}{Q:Value->Shared->Prop}(hb:attributeBase e f env (eval e env)=eval e env)
  (h:wpAny (model prog w) A (eval e env) (λo s₁=>wpAny (model prog w) A (getAttr o f true) Q E s₁) E s):wpAny (model prog w) A (eval (.Attribute e f pos) env) Q E s:=
 Attribute_any_ h (by rw[arm_eval_Attribute,hb])
end
def Od (K:PySem.W.Frag) (ta:TE) (f:Str):TE:=fun σ H Q=>ta σ H λx H1=>∃ a C dx fs v,x=.ref a/\H1 a=some (.ins C dx fs)/\Cls K C/\NoAttr K C f/\fs.lookup f=some v/\Q v H1
def Oe (K:PySem.W.Frag) (ta tv:TE) (f:Str):TS:=λD σ H=>tv σ H λy H1=>ta σ H1 λx H2=>∃ a C dx fs,x=.ref a/\H2 a=some (.ins C dx fs)/\Cls K C/\NoAttr K C f/\fs.length < 1000 /\
 D.nx σ (upd H2 a (.ins C dx (gq f y fs)))
section
variable {X:Cx}{o e value:Expr}{f:Str}{pos pos' tpos:Pos}{ta tv:TE}
theorem Ja (he:PE X e ta) (hb:attributeBase e f X.env (eval e X.env)=eval e X.env):PE X (.Attribute e f pos) (Od X.K ta f):=by
 intro pins s σ H Q I h
 refine xY hb (thn (he pins s σ H _ I h) ?_)
 rintro u s1 ⟨x,H1,I1,rx,a,C,dx,fs,v,ex,ea,c,n,l,q⟩
 subst ex
 obtain rfl:u=Value.ref a:=rx
 exact yQ I1 ea c n l λu' s2 I2 ru=>⟨v,H1,I2,ru,q⟩
theorem Jb (ha:PE X o ta) (hv:PE X value tv) (hs:swapsWith value (some (.Attribute o f pos')) pos.line X.env=pure false):PS X (.Assign [.Attribute o f pos'] value pos) (Oe X.K ta tv f):=by
 intro pins s σ H D I h
 refine plainObj_wpAny_Assign_Attribute (thn (hv pins s σ H _ I h) λu s1 ⟨y,H1,I1,ry,q⟩=>thn (ha pins s1 σ H1 _ I1 q) ?_) hs
 rintro ov s2 ⟨x,H2,I2,rx,a,C,dx,fs,ex,ea,c,n,l,q2⟩
 subst ex
 obtain rfl:ov=Value.ref a:=rx
 exact yR I2 ea c n l ry λs3 I3=>⟨σ,_,I3,q2⟩
end
section
variable {X:Cx}{pins:List (Addr×Obj)}{σ:St}{H:Hp}{s:Shared}{A:Around}{E:Value->Shared->Prop}{Q:Value->Shared->Prop}{c:Value}{b:Bool}
inductive TyOf (K:PySem.W.Frag) (H:Hp):V->Value->Prop where
 | non:TyOf K H .non (.type "NoneType")
 | bl (x:Bool):TyOf K H (.bl x) (.type "bool")
 | int (i:Int):TyOf K H (.int i) (.type "int")
 | str (x:Str):TyOf K H (.str x) (.type "str")
 | flt (x:UInt64):TyOf K H (.flt x) (.type "float")
 | lst {a:Addr}{xs:List V}(e:H a=some (.lst xs)):TyOf K H (.ref a) (.type "list")
 | frz {a:Addr}{o:Obj}{xs:List V}(e:H a=some (.frz o (.lst xs))):TyOf K H (.ref a) (.type "list")
 | tup {a:Addr}{xs:List V}(e:H a=some (.tup xs)):TyOf K H (.ref a) (.type "tuple")
 | tupC {a:Addr}{xs:List V}(e:KTup K a xs):TyOf K H (.ref a) (.type "tuple")
 | dK {a:Addr}{kvs:List (Key×V)}(e:H a=some (.dK kvs)):TyOf K H (.ref a) (.type "dict")
 | dT {a:Addr}{kvs:List (List Key×V)}(e:H a=some (.dT kvs)):TyOf K H (.ref a) (.type "dict")
 | ins {a C dx:Addr}{fs:List (Str×V)}(e:H a=some (.ins C dx fs)) (cl:Cls K C) (ha:PySem.W.findIn K (.ref C) "__class__" = some (some (.builtin "object.__class__")))
   (hn:PySem.W.specialIn K (.builtin "object.__class__") "__get__" = some (some (.builtin "getset_descriptor.__get__"))) (htk:PySem.W.takesIn K (.builtin "object.__class__")=some true)
   (hm:PySem.W.mroIn K C (.type "object")=some true):TyOf K H (.ref a) (.ref C)
end
end L2
namespace L2
open PySem PySem.Spec PyProof.Rows
structure Room (k:Nat) (A:Around):Prop where
 hd:A.handled=none
 dp:A.depth+3*k+5 < recursionLimit
 un:A.units+16*k+200 < cLine
theorem Room.mono {j k:Nat}{A:Around}(r:Room k A) (h:j<=k):Room j A:=⟨r.hd,by have:=r.dp;omega,by have:=r.un;omega⟩
theorem Room.deeper {k:Nat}{A:Around}(r:Room (k+1) A) (env:Env):Room k (A.deeper env):=
 ⟨r.hd,by have:=r.dp;show A.depth+1+3*k+5 < _;omega,by have:=r.un;show A.units+3+16*k+200 < _;omega⟩
theorem Room.in1 {k:Nat}{A:Around}(r:Room (k+1) A):Room k A.in1:=
 ⟨r.hd,by have:=r.dp;show A.depth+3*k+5 < _;omega,by have:=r.un;show A.units+1+16*k+200 < _;omega⟩
theorem yS {A:Around}{C:Addr}{us:List Value}{kw:List (Str×Value)}:(A.under (.builtin "type.__call__" ⟨.ref C::us,kw⟩)).depth=A.depth+1:=by
 first | rfl | simp[Around.under,Code.weight,Code.isCreation,Code.isGuard,Code.isCaller,Code.frames,Code.isFrame,guardIds]
theorem yU {A:Around}{C:Addr}{us:List Value}{kw:List (Str×Value)}:(A.under (.builtin "type.__call__" ⟨.ref C::us,kw⟩)).units=A.units+1:=by
 first | rfl | simp[Around.under,Code.cUnits,Code.frames,Code.isFrame]
theorem Room.make {k:Nat}{A:Around}(r:Room (k+1) A) (C:Addr) (us:List Value) (kw:List (Str×Value)):Room k (A.under (.builtin "type.__call__" ⟨.ref C::us,kw⟩)):=
 ⟨r.hd,by have:=r.dp;rw[yS];omega,by have:=r.un;rw[yU];omega⟩
theorem Room.depth {k:Nat}{A:Around}(r:Room k A):A.depth < recursionLimit:=by have:=r.dp;omega
theorem Room.units {k:Nat}{A:Around}(r:Room k A):A.units+64 < cLine:=by have:=r.un;omega
def Og:TA:=λ_ H Q=>Q [] H
def LC (ta:TE) (tr:TA):TA:=fun σ H Q=>ta σ H λx H1=>tr σ H1 λxs H2=>Q (x::xs) H2
section
variable {X:Cx}{e:Expr}{es:List Expr}{te:TE}{t:TA}{pos:Pos}
theorem fK:PA X [] Og:=λ_ _ _ _ H Q I h=>Calls.spliced_nil ⟨[],H,I,.nil,h⟩
theorem cL (ha:PE X e te) (hr:PA X es t) (hs:starEach (e::es) X.env=(false,eval e X.env)::starEach es X.env:=by rfl):PA X (e::es) (LC te t):=by
 intro pos pins s σ H Q I h
 rw[hs]
 show wpAny _ _ (spliced ((false,eval e X.env)::backTo pos (starEach es X.env))) _ _ s
 refine Calls.spliced_cons (thn (ha pins s σ H _ I h) ?_)
 rintro u s1 ⟨x,H1,I1,r1,q1⟩
 exact thn (hr pos pins s1 σ H1 _ I1 q1) λus s2 ⟨xs,H2,I2,r2,q2⟩=>⟨x::xs,H2,I2,.cons r1 r2,q2⟩
def Oh (t:TA):TE:=fun σ H Q=>t σ H λxs H1=>xs.length<=sizeLine/\∀ p,H1 p=none->Q (.ref p) (upd H1 p (.tup xs))
def Oi (t:TA):TE:=fun σ H Q=>t σ H λxs H1=>xs.length<=sizeLine/\∀ p,H1 p=none->Q (.ref p) (upd H1 p (.lst xs))
theorem Jc {x1}(h:PA X es t):PE X (.Tuple es x1 pos) (Oh t):=by
 intro pins s σ H Q I hq
 refine wpAny_Tuple_spliced (thn (h pos pins s σ H _ I hq) λus s1 ⟨xs,H1,I1,r,z,q⟩=>⟨by rw[← r.length];exact z,?_⟩)
 have hf:H1 s1.heap.objs.size=none:=I1.hok.fresh (Nat.le_refl _)
 refine⟨.ref s1.heap.objs.size,upd H1 s1.heap.objs.size (.tup xs),I1.laid (t':=s1.toks) (λb u e=>Heap.get?_push_of_some _ e) (Nat.le_refl _) ?_,rfl,q _ hf⟩
 exact⟨z,us,r,⟨_,Heap.get?_push_size _ rfl,rfl,_,rfl⟩⟩
theorem Jd (h:PA X es t):PE X (.List es pos) (Oi t):=by
 intro pins s σ H Q I hq
 refine wpAny_List_spliced (thn (h pos pins s σ H _ I hq) λus s1 ⟨xs,H1,I1,r,z,q⟩=>⟨by rw[← r.length];exact z,?_⟩)
 have hf:H1 s1.heap.objs.size=none:=I1.hok.fresh (Nat.le_refl _)
 refine⟨.ref s1.heap.objs.size,upd H1 s1.heap.objs.size (.lst xs),I1.laid (t':=s1.toks) (λb u e=>Heap.get?_push_of_some _ e) (Nat.le_refl _) ?_,rfl,q _ hf⟩
 exact⟨z,us,0,r,Heap.get?_push_size _ rfl⟩
end
abbrev Sp:=List V->Hp->VK->XK->Prop
abbrev CXT:=List Env->Hp->Shared->XK->Value->Shared->Prop
structure Env0 (P:Program) (w:World) (K:PySem.W.Frag) (mg:Str->Option Value) (base:Heap) (A:Around) (outer:List Env) (s:Shared) (H:Hp):Prop where
 frames:A.frames=some outer
 mod:Mod K mg base
 bs:∀ b o,base.get? b=some o->s.heap.get? b=some o/\H b=none
 bsz:base.objs.size<=s.heap.objs.size
 funs:s.heap.FunFrames base outer
 frf:∀ b∈frs outer,H b=none
 hok:HOk P w K H s.heap
 bare:AllBare s.gens
def CE (outer:List Env) (P:Program) (w:World) (K:PySem.W.Frag) (H:Hp) (s:Shared) (Q:VK) (u:Value) (s':Shared):Prop:=
 ∃ v H',s'.os=s.os/\AllBare s'.gens/\Un (frs outer) [] H H' s.heap s'.heap/\HOk P w K H' s'.heap/\RelV v u/\Q v H'
def CR (CX:CXT) (outer:List Env) (P:Program) (w:World) (K:PySem.W.Frag) (H:Hp) (s:Shared) (Q:VK) (E:XK) (r:Result) (s':Shared):Prop:=
 match r with
 | .ok (.ret u)=>CE outer P w K H s Q u s'
 | .ok _=>False
 | .error e=>CX outer H s E e s'
structure FnOk (P:Program) (w:World) (K:PySem.W.Frag) (mg:Str->Option Value) (base:Heap) (CX:CXT) (k:Nat) (f:Addr) (fd:FuncData) (ps:List Str) (sp:Sp):Prop where
 len:∀ vs H Q E,sp vs H Q E->vs.length=ps.length
 run:∀ (A:Around) (outer:List Env) (s:Shared) (H:Hp) (args:Args) (us:List Value) (vs:List V) (Q:VK) (E:XK),Room k A->Env0 P w K mg base A outer s H->BindsTo s fd args (ps.zip us)->Vals vs us->sp vs H Q E->
  codeAny (model P w) A (.call (.ref f) args) (CR CX outer P w K H s Q E) s
theorem FnOk.mono {P:Program}{w:World}{K:PySem.W.Frag}{mg:Str->Option Value}{base:Heap}{CX:CXT}{j k:Nat}{f:Addr}{fd:FuncData}{ps:List Str}{sp:Sp}(F:FnOk P w K mg base CX j f fd ps sp) (h:j<=k):
  FnOk P w K mg base CX k f fd ps sp:=⟨F.len,λA outer s H args us vs Q E hr=>F.run A outer s H args us vs Q E (hr.mono h)⟩
theorem FnOk.imp {P:Program}{w:World}{K:PySem.W.Frag}{mg:Str->Option Value}{base:Heap}{CX:CXT}{k:Nat}{f:Addr}{fd:FuncData}{ps:List Str}{sp sp':Sp}(F:FnOk P w K mg base CX k f fd ps sp)
  (h:∀ vs H Q E,sp' vs H Q E->sp vs H Q E):FnOk P w K mg base CX k f fd ps sp':=
 ⟨λvs H Q E q=>F.len vs H Q E (h _ _ _ _ q),λA outer s H args us vs Q E hr he hb hv hs=>F.run A outer s H args us vs Q E hr he hb hv (h _ _ _ _ hs)⟩
theorem Env0.make {P:Program}{w:World}{K:PySem.W.Frag}{mg:Str->Option Value}{base:Heap}{A:Around}{outer:List Env}{s:Shared}{H:Hp}(e:Env0 P w K mg base A outer s H) (C:Addr) (us:List Value) (kw:List (Str×Value)):
  Env0 P w K mg base (A.under (.builtin "type.__call__" ⟨.ref C::us,kw⟩)) outer s H:=⟨by first | exact e.frames | (simpa [Around.under,Code.envs,Code.isFrame,pushEnvs] using e.frames),e.mod,e.bs,e.bsz,e.funs,e.frf,e.hok,e.bare⟩
theorem Env0.in1 {P:Program}{w:World}{K:PySem.W.Frag}{mg:Str->Option Value}{base:Heap}{A:Around}{outer:List Env}{s:Shared}{H:Hp}(e:Env0 P w K mg base A outer s H):
  Env0 P w K mg base A.in1 outer s H:=⟨e.frames,e.mod,e.bs,e.bsz,e.funs,e.frf,e.hok,e.bare⟩
section
variable {X:Cx}{pins:List (Addr×Obj)}{σ:St}{H:Hp}{s s':Shared}
theorem Inv.env0 (I:Inv X pins σ H s):Env0 X.prog X.w X.K X.mg X.base X.A X.stack s H:=
 ⟨I.ok.frames,I.ok.mod,I.bs,Nat.le_trans I.ok.bsz I.sz,I.stack,I.stkFree,I.hok,I.bare⟩
theorem Inv.after {Q:VK}{u:Value}(I:Inv X pins σ H s) (h:CE X.stack X.prog X.w X.K H s Q u s'):EP X pins σ Q u s':=by
 obtain⟨v,H',os,bare,un,hok,r,q⟩:=h
 obtain⟨hh,g,d,t,os'⟩:=s'
 obtain rfl:os'=s.os:=os
 exact⟨v,H',I.call (h':=hh) (g':=g) (d':=d) (t':=t) (ch:=[]) un hok bare (λb z=>absurd z (by simp)),r,q⟩
end
def Fy (sp:Sp) (dvs:List V) (E:XK) (t:TA):TE:=fun σ H Q=>t σ H λvs H1=>sp (vs++dvs) H1 Q E
def Fz (C:Addr) (sp:Sp) (dvs:List V) (E:XK) (t:TA):TE:=fun σ H Q=>t σ H λvs H1=>∀ x dx,H1 x=none->H1 dx=none->dx≠x->
 sp (.ref x::(vs++dvs)) (upd (upd H1 dx (.own x)) x (.ins C dx [])) (λv H2=>v=.non/\Q (.ref x) H2) E
def Binds (K:PySem.W.Frag) (fd:FuncData) (ps:List Str) (ds:List Value):Prop:=
 ∀ (s:Shared) (us:List Value),K.In s.heap->(us++ds).length=ps.length->BindsTo s fd ⟨us,[]⟩ (ps.zip (us++ds))
theorem Binds.all {K:PySem.W.Frag}{fd:FuncData}{ps:List Str}(h:∀ us:List Value,us.length=ps.length->bindArgs fd ⟨us,[]⟩=pure (ps.zip us)):Binds K fd ps []:=λs us _ hl=>by
 rw[List.append_nil] at hl ⊢
 exact .of_eq (h us hl)
def oV (CX:CXT) (X:Cx) (E:XK):Prop:=∀ (pins:List (Addr×Obj)) (σ:St) (H:Hp) (s:Shared) (e:Value) (s':Shared),Inv X pins σ H s->CX X.stack H s E e s'->X.xe e s'
section
variable {X:Cx}{CX:CXT}{k:Nat}{f C:Addr}{fd:FuncData}{ps:List Str}{sp:Sp}{dvs:List V}{ds:List Value}{E:XK}{x m:Str}{p pos apos:Pos}{e o:Expr}{es:List Expr}{ta:TE}{t:TA}
theorem Je {pins:List (Addr×Obj)}{σ:St}{H:Hp}{s:Shared}{Q:VK}{us:List Value}{vs:List V}(F:FnOk X.prog X.w X.K X.mg X.base CX k f fd ps sp) (hr:Room k X.A) (hb:Binds X.K fd ps ds) (hd:Vals dvs ds) (hx:oV CX X E)
  (I:Inv X pins σ H s) (r:Vals vs us) (h:sp (vs++dvs) H Q E):wpAny (model X.prog X.w) X.A (call (.ref f) us) (EP X pins σ Q) X.xe s:=by
 have r2:Vals (vs++dvs) (us++ds):=r.append hd
 have hl:(us++ds).length=ps.length:=by rw[← r2.length];exact F.len _ _ _ _ h
 refine wpAny_call (codeAny_mono (F.run X.A X.stack s H ⟨us,[]⟩ (us++ds) (vs++dvs) Q E hr I.env0 (hb s us I.kIn hl) r2 h) λr s' hq=>?_)
 cases r with
 | error e=>exact hx pins σ H s e s' I hq
 | ok fl=>
  cases fl with
  | ret u=>exact I.after hq
  | next=>exact False.elim hq
  | brk=>exact False.elim hq
  | cont=>exact False.elim hq
theorem Gs (F:FnOk X.prog X.w X.K X.mg X.base CX k f fd ps sp) (hr:Room k X.A) (hg:Gl X x) (hm:X.mg x=some (.ref f)) (hk:PySem.W.keepIn X.K (.ref f)=true) (hb:Binds X.K fd ps ds) (hd:Vals dvs ds) (hx:oV CX X E)
  (ha:PA X (e::es) t) (hdb:(x == ("__debug__" : Str))=false:=by decide) (he:starEach (e::es) X.env=(false,eval e X.env)::starEach es X.env:=by rfl) (hpl:(backTo pos (starEach es X.env)).any (·.1)=false:=by rfl):
  PE X (.Call (.Name x p) (e::es) [] pos) (Fy sp dvs E t):=by
 intro pins s σ H Q I h
 refine wpAny_Call_Name_kw (jB I hg hm ?_ hdb)
 refine PySem.W.callWith_K (h₀:=X.base) I.ok.mod.kin hk (thn (ha pos pins s σ H _ I h) λus s1 ⟨vs,H1,I1,r,q⟩=>⟨I1.kIn,?_⟩) he hpl
 exact Je F hr hb hd hx I1 r q
structure Mk (K:PySem.W.Frag) (C f:Addr):Prop where
 makes:PySem.W.makesIn K C=true
 init:PySem.W.findIn K (.ref C) "__init__" = some (some (.ref f))
 fn:PySem.W.isFn K (.ref f)=true
 kp:PySem.W.keepIn K (.ref C)=true
theorem Dn {pins:List (Addr×Obj)}{σ:St}{H:Hp}{s:Shared}{Q:VK}{us:List Value}{vs:List V}(M:Mk X.K C f) (F:FnOk X.prog X.w X.K X.mg X.base CX k f fd ps sp) (hr:Room (k+1) X.A) (hb:Binds X.K fd ps ds) (hd:Vals dvs ds)
  (hx:oV CX X E) (I:Inv X pins σ H s) (r:Vals vs us)
  (h:∀ x dx,H x=none->H dx=none->dx≠x->sp (.ref x::(vs++dvs)) (upd (upd H dx (.own x)) x (.ins C dx [])) (λv H2=>v=.non/\Q (.ref x) H2) E):
  wpAny (model X.prog X.w) X.A (call (.ref C) us) (EP X pins σ Q) X.xe s:=by
 have hq:=h (s.heap.objs.size+1) s.heap.objs.size (I.hok.fresh (Nat.le_succ _)) (I.hok.fresh (Nat.le_refl _)) (Nat.ne_of_lt (Nat.lt_succ_self _))
 have I2:=Inv.made (C:=C) I
 have r2:Vals (V.ref (s.heap.objs.size+1)::(vs++dvs)) (Value.ref (s.heap.objs.size+1)::(us++ds)):=.cons rfl (r.append hd)
 have hl:(Value.ref (s.heap.objs.size+1)::us++ds).length=ps.length:=by
  have e:=r2.length
  rw[F.len _ _ _ _ hq] at e
  exact e.symm
 refine wpAny_call (vR (f:=f) I.kIn M.makes M.init (beq_iff_eq.mp M.fn) (codeAny_mono (F.run _ X.stack _ _ ⟨Value.ref (s.heap.objs.size+1)::us,[]⟩ (Value.ref (s.heap.objs.size+1)::(us++ds)) _ _ E (hr.make C us [])
  (I2.env0.make C us []) (hb _ (Value.ref (s.heap.objs.size+1)::us) I2.kIn hl) r2 hq) λr s' hq'=>?_))
 cases r with
 | error e=>exact hx pins σ _ _ e s' I2 hq'
 | ok fl=>
  cases fl with
  | ret u=>
   obtain⟨v,H',I3,rv,ev,q3⟩:=I2.after hq'
   subst ev
   exact⟨rv,⟨V.ref (s.heap.objs.size+1),H',I3,rfl,q3⟩⟩
  | next=>exact False.elim hq'
  | brk=>exact False.elim hq'
  | cont=>exact False.elim hq'
theorem Gu (M:Mk X.K C f) (F:FnOk X.prog X.w X.K X.mg X.base CX k f fd ps sp) (hr:Room (k+1) X.A) (hg:Gl X x) (hm:X.mg x=some (.ref C)) (hb:Binds X.K fd ps ds) (hd:Vals dvs ds) (hx:oV CX X E)
  (ha:PA X (e::es) t) (hdb:(x == ("__debug__" : Str))=false:=by decide) (he:starEach (e::es) X.env=(false,eval e X.env)::starEach es X.env:=by rfl) (hpl:(backTo pos (starEach es X.env)).any (·.1)=false:=by rfl):
  PE X (.Call (.Name x p) (e::es) [] pos) (Fz C sp dvs E t):=by
 intro pins s σ H Q I h
 refine wpAny_Call_Name_kw (jB I hg hm ?_ hdb)
 refine PySem.W.callWith_K (h₀:=X.base) I.ok.mod.kin M.kp (thn (ha pos pins s σ H _ I h) λus s1 ⟨vs,H1,I1,r,q⟩=>⟨I1.kIn,?_⟩) he hpl
 exact Dn M F hr hb hd hx I1 r q
end
section
variable {X:Cx}{CX:CXT}{k:Nat}{f C:Addr}{fd:FuncData}{ps ks:List Str}{sp:Sp}{E:XK}{x m:Str}{p pos apos kpos:Pos}{e o:Expr}{es:List Expr}{kws:List Keyword}{te ta:TE}{t tk:TA}{nm:Option Str}
variable {g:List Value->List Value->List Value}{gV:List V->List V->List V}
end
structure FnScope (N P:List Str) (sc:Scope):Prop where
 kind:sc.kind=.function
 co:sc.isCoroutine=false
 gen:sc.isGenerator=false
 nd:N.Nodup
 pre:N.take P.length=P
 par:∀ x∈P,sc.names.lookup x=some .local\/sc.names.lookup x=some .cell
 nofree:∀ y∈sc.names,y.2≠.free
theorem uz {kindOf:Str->Option NameKind}{x:Str}:∀ {binds:List (Str×Value)}{m:Str->Option Value},(∀ v,(x,v)∉binds)->bindL kindOf binds m x=m x
 | [],_,_=>rfl
 | (n,v)::r,m,h=>by
  unfold bindL
  rw[uz λw hw=>h w (List.mem_cons_of_mem _ hw)]
  split
  ·have:x≠n:=by rintro rfl;exact h v List.mem_cons_self
   simp[this]
  ·rfl
theorem uA {kindOf:Str->Option NameKind}{x:Str}:∀ {binds:List (Str×Value)}{m:Str->Option Value},(∀ v,(x,v)∉binds)->bindC kindOf binds m x=m x
 | [],_,_=>rfl
 | (n,v)::r,m,h=>by
  unfold bindC
  rw[uA λw hw=>h w (List.mem_cons_of_mem _ hw)]
  split
  ·rfl
  ·have:x≠n:=by rintro rfl;exact h v List.mem_cons_self
   simp[this]
theorem uB {kindOf:Str->Option NameKind}{x:Str}{v:Value}:∀ {P:List Str}{vs:List Value}{i:Nat}{m:Str->Option Value},P.Nodup->P[i]?=some x->vs[i]?=some v->kindOf x=some .local->
  bindL kindOf (P.zip vs) m x=some v
 | [],_,_,_,_,h,_,_=>by simp at h
 | _::_,[],_,_,_,_,h,_=>by simp at h
 | p::P,w::vs,0,m,nd,h1,h2,hk=>by
  simp at h1 h2;subst h1;subst h2
  show bindL kindOf ((p,w)::P.zip vs) m p=_
  unfold bindL
  rw[uz λv hv=>(List.nodup_cons.mp nd).1 (List.of_mem_zip hv).1,if_pos hk]
  simp
 | p::P,w::vs,i+1,m,nd,h1,h2,hk=>by
  show bindL kindOf ((p,w)::P.zip vs) m x=_
  unfold bindL
  exact uB (i:=i) (List.nodup_cons.mp nd).2 (by simpa using h1) (by simpa using h2) hk
theorem uC {kindOf:Str->Option NameKind}{x:Str}{v:Value}:∀ {P:List Str}{vs:List Value}{i:Nat}{m:Str->Option Value},P.Nodup->P[i]?=some x->vs[i]?=some v->kindOf x≠some .local->
  bindC kindOf (P.zip vs) m x=some v
 | [],_,_,_,_,h,_,_=>by simp at h
 | _::_,[],_,_,_,_,h,_=>by simp at h
 | p::P,w::vs,0,m,nd,h1,h2,hk=>by
  simp at h1 h2;subst h1;subst h2
  show bindC kindOf ((p,w)::P.zip vs) m p=_
  unfold bindC
  rw[uA λv hv=>(List.nodup_cons.mp nd).1 (List.of_mem_zip hv).1,if_neg hk]
  simp
 | p::P,w::vs,i+1,m,nd,h1,h2,hk=>by
  show bindC kindOf ((p,w)::P.zip vs) m x=_
  unfold bindC
  exact uC (i:=i) (List.nodup_cons.mp nd).2 (by simpa using h1) (by simpa using h2) hk
def start (N:List Str) (vs:List V):St:=vs.map some++List.replicate (N.length - vs.length) none
def cG (CX:CXT) (P:Program) (w:World) (K:PySem.W.Frag) (mg:Str->Option Value) (base:Heap) (N:List Str) (qual:Str) (scope:Scope) (f:Addr) (cd:Value) (A:Around) (outer:List Env) (s:Shared) (H:Hp) (E:XK):Cx where
 prog:=P
 w:=w
 K:=K
 mg:=mg
 base:=base
 A:=A.deeper (envOfC qual scope s.heap.objs.size f cd)
 N:=N
 s₀:=s
 H₀:=H
 env:=envOfC qual scope s.heap.objs.size f cd
 outer:=outer
 stack:=envOfC qual scope s.heap.objs.size f cd::outer
 ex:=[]
 calm:=true
 fn:=λ_=>true
 pn:=[]
 xe:=λe s'=>wpAny (model P w) (A.deeper (envOfC qual scope s.heap.objs.size f cd)) (leaving (envOfC qual scope s.heap.objs.size f cd) e) (λ_ s''=>CX outer H s E e s'') (λe' s''=>CX outer H s E e' s'') s'
theorem vU {sc:Scope}{n:Nat}{x:Str}(h:sc.names.lookup x=some .cell):∃ c,(cellsFrom n sc.names []).lookup x=some c:=by
 have q:=PySem.W.cellsFrom_some sc.names n [] (.inl h)
 exact Option.isSome_iff_exists.mp q
theorem Aq {CX:CXT}{P:Program}{w:World}{K:PySem.W.Frag}{mg:Str->Option Value}{base:Heap}{N ps:List Str}{qual:Str}{scope:Scope}{f:Addr}{cd:Value}{A:Around}{outer:List Env}{s s1:Shared}{H:Hp}{E:XK}{us:List Value}{vs:List V}
  (S:FnScope N ps scope) (hd:A.handled=none) (e0:Env0 P w K mg base A outer s H) (hl:vs.length=ps.length) (r:Vals vs us)
  (x:InCallC s s.heap.objs.size (bindL (envOfC qual scope s.heap.objs.size f cd).kindOf (ps.zip us) λ_=>none) (cellsFrom (s.heap.objs.size+1) scope.names []) (bindC (envOfC qual scope s.heap.objs.size f cd).kindOf (ps.zip us) λ_=>none) s1):
  Inv (cG CX P w K mg base N qual scope f cd A outer s H E) [] (start N vs) H s1:=by
 have hpl:ps.length<=N.length:=by have:=congrArg List.length S.pre;rw[List.length_take] at this;omega
 obtain⟨h1,tk,rfl,hk⟩:=x.done
 have noA:∀ b:Addr,b∉(cG CX P w K mg base N qual scope f cd A outer s H E).ex:=λb z=>absurd (show b∈([]:List Addr) from z) (by simp)
 refine⟨⟨e0.mod,S.kind,rfl,rfl,Nat.le_refl _,λy z c h1 h2=>?_,λy hy=>?_,λy c _ h=>?_,λ_=>hd,Around.frames_deeper e0.frames,.inr ⟨rfl,rfl⟩,λb z=>absurd z (noA b),e0.bs,e0.bsz,λb _ _=>noA b,λb z=>absurd z (noA b),e0.funs,e0.frf⟩,
  rfl,e0.bare,Un.kept hk,⟨_,x.toInCall.ns,λi y v h1 h2 h3=>?_⟩,λy c h=>⟨_,x.cell y c h⟩,e0.hok.fresh (Nat.le_refl _),λy c h=>?_,λp hp=>absurd (show p∈([]:List (Addr×Obj)) from hp) (by simp),e0.hok.kept hk,?_⟩
 ·exact name_of_addr x.apart (PySem.mem_of_lookup h1) (PySem.mem_of_lookup h2)
 ·have hy:scope.names.lookup y=some .cell\/scope.names.lookup y=some .free:=hy
  rcases hy with hy | hy
  ·exact vU hy
  ·exact absurd rfl (S.nofree _ (PySem.mem_of_lookup hy))
 ·exact Nat.le_of_lt (x.above y c (PySem.mem_of_lookup h))
 ·have hi:i < vs.length:=by
   unfold start at h2
   by_cases hi:i < vs.length
   ·exact hi
   ·rw[List.getElem?_append_right (by simpa using hi)] at h2
    rw[List.getElem?_replicate] at h2
    split at h2 <;> cases h2
  have ha:vs[i]?=some v:=by
   unfold start at h2
   rw[List.getElem?_append_left (by simpa using hi),List.getElem?_map] at h2
   cases e:vs[i]? with
   | none=>rw[e] at h2;cases h2
   | some a=>rw[e] at h2;cases h2;rfl
  obtain⟨u,hu,rv⟩:=r.get ha
  have hp:ps[i]?=some y:=by
   rw[← S.pre,List.getElem?_take_of_lt (by omega)];exact h1
  have ndP:ps.Nodup:=by rw[← S.pre];exact S.nd.sublist (List.take_sublist _ _)
  refine⟨u,rv,?_⟩
  rcases S.par y (List.mem_of_getElem? hp) with k | k
  ·exact .inl ⟨k,uB ndP hp hu k⟩
  ·obtain⟨c,e⟩:=vU (n:=s.heap.objs.size+1) k
   refine .inr ⟨.inl k,c,e,?_⟩
   have q:=x.cell y c e
   rw[uC ndP hp hu (by show scope.names.lookup y≠_;rw[k];decide)] at q
   exact q
 ·exact e0.hok.fresh (Nat.le_of_lt (x.above y c (PySem.mem_of_lookup h)))
 ·unfold start
  show _=N.length
  rw[List.length_append,List.length_map,List.length_replicate]
  omega
theorem FJ {CX:CXT}{P:Program}{w:World}{K:PySem.W.Frag}{mg:Str->Option Value}{base:Heap}{k:Nat}{f:Addr}{name qual:Str}{params:Arguments}{body:List Stmt}{scope:Scope}{dV kV doc pm cdv ct oc:Value}{an od:Option Addr}
  {osl:Array (Option Value)}{N ps:List Str}{sp:Sp}(lk:K.lookup f=some ⟨oc,od,.func (PySem.W.fnOf name qual params body scope dV kV doc pm an cdv ct),osl⟩) (hcd:PySem.W.codeIn K cdv qual=true) (S:FnScope N ps scope)
  (len:∀ vs H Q E,sp vs H Q E->vs.length=ps.length)
  (hbody:∀ (A:Around) (outer:List Env) (s:Shared) (H:Hp) (vs:List V) (Q:VK) (E:XK),Room k (A.deeper (envOfC qual scope s.heap.objs.size f cdv))->sp vs H Q E->
   ∃ t,PSs (cG CX P w K mg base N qual scope f cdv A outer s H E) body t/\t { nx:=λ_ H'=>Q .non H',rt:=Q } (start N vs) H):
  FnOk P w K mg base CX (k+1) f (PySem.W.fnOf name qual params body scope dV kV doc pm an cdv ct) ps sp:=by
 refine⟨len,λA outer s H args us vs Q E hr e0 hb r hsp=>?_⟩
 have hl:=len _ _ _ _ hsp
 have KX:K.In s.heap:=e0.mod.kin.keeps λb o e=>(e0.bs b o e).1
 have lim:s.heap.NoLimit:=e0.mod.nolimit.keeps λb o e=>(e0.bs b o e).1
 have hkind:∀ y∈ps.zip us,scope.names.lookup y.1=some .local\/(scope.names.lookup y.1=some .cell/\((cellsFrom (s.heap.objs.size+1) scope.names []).lookup y.1).isSome=true):=by
  rintro ⟨n,v⟩ hy
  rcases S.par n (List.of_mem_zip hy).1 with q | q
  ·exact .inl q
  ·exact .inr ⟨q,PySem.W.cellsFrom_some _ _ _ (.inl q)⟩
 refine codeAny_call_function hr.depth (KX _ _ lk) rfl S.co S.gen rfl (PySem.W.codeRec_of KX hcd) (hb _ _ _ _ ?_)
 refine wpAny_newFunctionEnv_cells S.kind hkind λenv he s1 x=>?_
 subst he
 refine⟨lim.keeps x.toInCall.keep,codeAny_func ?_⟩
 obtain⟨t,ht,hq⟩:=hbody A outer s H vs Q E (hr.deeper _) hsp
 have I:Inv (cG CX P w K mg base N qual scope f cdv A outer s H E) [] (start N vs) H s1:=Aq S hr.hd e0 hl r x
 refine wpAny_mono (ht [] s1 (start N vs) H _ I hq) (λfl s' hs=>?_) λe s' hs=>hs
 have fin:∀ {σ':St}{H':Hp}{v:V}{u:Value},Inv (cG CX P w K mg base N qual scope f cdv A outer s H E) [] σ' H' s'->RelV v u->Q v H'->CE outer P w K H s Q u s':=
  λ{σ' H' v u} J rv q=>⟨v,H',J.os,J.bare,J.base,J.hok,rv,q⟩
 cases fl with
 | ret u=>
  obtain⟨v,σ',H',J,rv,q⟩:=hs
  exact fin J rv q
 | next=>
  obtain⟨σ',H',J,q⟩:=hs
  exact fin (v:=V.non) (u:=Value.none) J rfl q
 | brk=>
  obtain⟨_,_,_,q⟩:=hs
  exact False.elim q
 | cont=>
  obtain⟨_,_,_,q⟩:=hs
  exact False.elim q
end L2
namespace L2
open PySem PySem.Spec PyProof.Rows
section
variable {X:Cx}{x:Str}{p pos:Pos}{e:Expr}{es:List Expr}{t:TA}{id T:String}{r:List V->Hp->VK->Prop}
def tCB (r:List V->Hp->VK->Prop) (t:TA):TE:=fun σ H Q=>t σ H λvs H1=>r vs H1 Q
theorem m8 (hc:CallR X (.builtin id) r) (hg:Gl X x) (hm:X.mg x=none) (hv:bootBuiltins x=some (.builtin id)) (ha:PA X (e::es) t) (hn:x ≠ "__name__" := by decide) (hdb:(x == ("__debug__" : Str))=false:=by decide)
  (he:starEach (e::es) X.env=(false,eval e X.env)::starEach es X.env:=by rfl) (hpl:(backTo pos (starEach es X.env)).any (·.1)=false:=by rfl):PE X (.Call (.Name x p) (e::es) [] pos) (tCB r t):=by
 intro pins s σ H Q I h
 refine wpAny_Call_Name_kw (oK I hg hm hv ?_ hn hdb)
 exact PyProof.Rows.callWith_builtin1 (thn (ha pos pins s σ H _ I h) λus s1 ⟨vs,H1,I1,r1,q1⟩=>hc pins s1 σ H1 vs us Q I1 r1 q1) he hpl
theorem Ar (hc:CallR X (.type T) r) (hg:Gl X x) (hm:X.mg x=none) (hv:bootBuiltins x=some (.type T)) (ha:PA X (e::es) t) (hn:x ≠ "__name__" := by decide) (hdb:(x == ("__debug__" : Str))=false:=by decide)
  (he:starEach (e::es) X.env=(false,eval e X.env)::starEach es X.env:=by rfl) (hpl:(backTo pos (starEach es X.env)).any (·.1)=false:=by rfl):PE X (.Call (.Name x p) (e::es) [] pos) (tCB r t):=by
 intro pins s σ H Q I h
 refine wpAny_Call_Name_kw (oK I hg hm hv ?_ hn hdb)
 exact PyProof.Rows.callWith_type1 (thn (ha pos pins s σ H _ I h) λus s1 ⟨vs,H1,I1,r1,q1⟩=>hc pins s1 σ H1 vs us Q I1 r1 q1) he hpl
end
end L2
namespace L2
open PySem PySem.Spec PyProof.Rows
section
variable {κ:Type} [DecidableEq κ]
def iz (kvs:List (κ×V)) (k:κ):Option V:=(kvs.find? λkv=>decide (kv.1=k)).map (·.2)
def putK (kvs:List (κ×V)) (k:κ) (v:V):List (κ×V):=
 if (kvs.any λkv=>decide (kv.1=k))=true then kvs.map (λkv=>if kv.1=k then (kv.1,v) else kv) else kvs++[(k,v)]
def FN (kvs:List (κ×V)) (k:κ):List (κ×V):=kvs.filter λkv=>decide (kv.1≠k)
theorem lC {p:κ×V}{r:List (κ×V)}{k:κ}(e:p.1=k):iz (p::r) k=some p.2:=by simp[iz,List.find?_cons,e]
theorem lD {p:κ×V}{r:List (κ×V)}{k:κ}(e:¬ p.1=k):iz (p::r) k=iz r k:=by simp[iz,List.find?_cons,e]
theorem vV (k:κ):∀ kvs:List (κ×V),(kvs.any λkv=>decide (kv.1=k))=(iz kvs k).isSome
 | []=>rfl
 | p::r=>by
  rw[List.any_cons]
  by_cases e:p.1=k
  ·simp only[lC e,decide_eq_true e,Bool.true_or,Option.isSome_some]
  ·rw[lD e,decide_eq_false e,Bool.false_or];exact vV k r
theorem qF (kvs:List (κ×V)) (k:κ) (v:V):(putK kvs k v).length<=kvs.length+1:=by
 unfold putK
 split
 ·rw[List.length_map];omega
 ·rw[List.length_append,List.length_cons,List.length_nil];omega
theorem RelO.isSome_eq {o:Option V}{u:Option Value}(r:RelO o u):o.isSome=u.isSome:=by
 cases o with
 | none=>cases u with
  | none=>rfl
  | some _=>exact(show False from r).elim
 | some _=>cases u with
  | none=>exact(show False from r).elim
  | some _=>rfl
theorem RelO.getD {o:Option V}{u:Option Value}{d:V}{d':Value}(r:RelO o u) (rd:RelV d d'):RelV (o.getD d) (u.getD d'):=by
 cases o with
 | none=>cases u with
  | none=>exact rd
  | some _=>exact(show False from r).elim
 | some _=>cases u with
  | none=>exact(show False from r).elim
  | some _=>exact r
theorem KV.val {kvs:List (κ×V)}{vs:List (κ×Value)}(r:KV kvs vs) (k:κ):RelO (iz kvs k) (valueAt vs k):=by
 unfold KV at r
 induction r with
 | nil=>exact True.intro
 | @cons p q ps qs h t ih=>
  obtain⟨h1,h2⟩:=h
  by_cases e:p.1=k
  ·have e':q.1=k:=h1.symm.trans e
   have b:valueAt (q::qs) k=some q.2:=by simp[valueAt,List.find?_cons,e']
   rw[lC e,b];exact h2
  ·have e':¬ q.1=k:=λz=>e (h1.trans z)
   have b:valueAt (q::qs) k=valueAt qs k:=by simp[valueAt,List.find?_cons,e']
   rw[lD e,b];exact ih
theorem KV.any {kvs:List (κ×V)}{vs:List (κ×Value)}(r:KV kvs vs) (k:κ):(kvs.any λkv=>decide (kv.1=k))=vs.any λkv=>decide (kv.1=k):=by
 unfold KV at r
 induction r with
 | nil=>rfl
 | cons h t ih=>rw[List.any_cons,List.any_cons,ih,h.1]
theorem KV.repl {kvs:List (κ×V)}{vs:List (κ×Value)}(r:KV kvs vs) (k:κ){y:V}{u:Value}(ry:RelV y u):
  KV (kvs.map λkv=>if kv.1=k then (kv.1,y) else kv) (vs.map λkv=>if kv.1=k then (kv.1,u) else kv):=by
 unfold KV at r ⊢
 induction r with
 | nil=>exact .nil
 | @cons p q ps qs h t ih=>
  rw[List.map_cons,List.map_cons]
  refine .cons ?_ ih
  obtain⟨h1,h2⟩:=h
  by_cases e:p.1=k
  ·rw[if_pos e,if_pos (h1.symm.trans e)];exact⟨h1,ry⟩
  ·rw[if_neg e,if_neg (λz=>e (h1.trans z))];exact⟨h1,h2⟩
theorem KV.put {kvs:List (κ×V)}{vs:List (κ×Value)}(r:KV kvs vs) (k:κ){y:V}{u:Value}(ry:RelV y u):KV (putK kvs k y) (stored vs k u):=by
 unfold putK stored
 rw[r.any k]
 by_cases e:(vs.any λkv=>decide (kv.1=k))=true
 ·rw[if_pos e,if_pos e];exact r.repl k ry
 ·rw[if_neg e,if_neg e];exact Paired.snoc r ⟨rfl,ry⟩
theorem KV.drop {kvs:List (κ×V)}{vs:List (κ×Value)}(r:KV kvs vs) (k:κ):KV (FN kvs k) (without vs k):=by
 unfold KV at r ⊢
 unfold FN without
 induction r with
 | nil=>exact .nil
 | @cons p q ps qs h t ih=>
  obtain⟨h1,h2⟩:=h
  rw[List.filter_cons,List.filter_cons]
  by_cases e:p.1=k
  ·have a:¬ decide (p.1≠k)=true:=by simp[e]
   have b:¬ decide (q.1≠k)=true:=by simp[h1.symm.trans e]
   rw[if_neg a,if_neg b];exact ih
  ·have e':¬ q.1=k:=λz=>e (h1.trans z)
   have a:decide (p.1≠k)=true:=by simp[e]
   have b:decide (q.1≠k)=true:=by simp[e']
   rw[if_pos a,if_pos b];exact .cons ⟨h1,h2⟩ ih
theorem KV.keys {kvs:List (κ×V)}{vs:List (κ×Value)}(r:KV kvs vs):kvs.map (·.1)=vs.map (·.1):=by
 unfold KV at r
 induction r with
 | nil=>rfl
 | cons h t ih=>rw[List.map_cons,List.map_cons,ih,h.1]
theorem KV.length {kvs:List (κ×V)}{vs:List (κ×Value)}(r:KV kvs vs):kvs.length=vs.length:=Paired.length r
end
theorem rB {P:Program}{w:World}{k:Key}{u:Value}(r:RelV (kV k) u):(ig P w).is k u=true:=by
 cases k with
 | inl i=>obtain⟨t,e⟩:=(show ∃ t,u=Value.int i t from r);subst e;exact xr P w i t
 | inr x=>obtain⟨t,e⟩:=(show ∃ t,u=Value.str x t from r);subst e;exact xu P w x t
theorem Av {P:Program}{w:World}{k:Key}{u:Value}(r:RelV (kV k) u):(gn P w).is k u=true:=z9 (rB (P:=P) (w:=w) r)
theorem xZ {P:Program}{w:World}:∀ {ks:List Key}{us:List Value},Vals (ks.map kV) us->ItemsAre (gn P w) ks us
 | [],_,r=>by rw[List.map_nil] at r;cases r;exact .nil
 | k::ks,_,r=>by
  rw[List.map_cons] at r
  cases r with
  | cons h t=>exact .cons (Av h) (xZ t)
theorem uD {P:Program}{w:World}{ks:List Key}{vs:List V}{us:List Value}(kt:vN ks vs) (r:Vals vs us):ItemsAre (gn P w) ks us:=by
 rcases kt with rfl | ⟨x,b,rfl,rfl⟩
 ·exact xZ r
 ·cases r with
  | cons h1 t=>cases t with
   | cons h2 t=>
    cases t
    cases (show _=Value.bool b from h2)
    exact .cons (Av (k:=.inr x) h1) (.cons (xq b) .nil)
abbrev KT (K:PySem.W.Frag) (H:Hp):List (List Key×V)->List (List Key×Addr×Value)->Prop:=Paired λp q=>p.1=q.1/\CKey K H q.2.1 p.1/\RelV p.2 q.2.2
theorem KT.val {K:PySem.W.Frag}{H:Hp}{kvs:List (List Key×V)}{xs:List (List Key×Addr×Value)}(r:KT K H kvs xs) (k:List Key):RelO (iz kvs k) ((atKey xs k).map (·.2)):=by
 induction r with
 | nil=>exact True.intro
 | @cons p q ps qs h t ih=>
  obtain⟨h1,_,h2⟩:=h
  by_cases e:p.1=k
  ·have e':q.1=k:=h1.symm.trans e
   have b:atKey (q::qs) k=some q.2:=by simp[atKey,List.find?_cons,e']
   rw[lC e,b];exact h2
  ·have e':¬ q.1=k:=λz=>e (h1.trans z)
   have b:atKey (q::qs) k=atKey qs k:=by simp[atKey,List.find?_cons,e']
   rw[lD e,b];exact ih
theorem KT.repl {K:PySem.W.Frag}{H:Hp}{kvs:List (List Key×V)}{xs:List (List Key×Addr×Value)}(r:KT K H kvs xs) (k:List Key){y:V}{u:Value}(ry:RelV y u):
  KT K H (kvs.map λkv=>if kv.1=k then (kv.1,y) else kv) (xs.map (putAt k u)):=by
 induction r with
 | nil=>exact .nil
 | @cons p q ps qs h t ih=>
  rw[List.map_cons,List.map_cons]
  refine .cons ?_ ih
  obtain⟨h1,h2,h3⟩:=h
  unfold putAt
  by_cases e:p.1=k
  ·rw[if_pos e,if_pos (h1.symm.trans e)];exact⟨h1,h2,ry⟩
  ·rw[if_neg e,if_neg (λz=>e (h1.trans z))];exact⟨h1,h2,h3⟩
theorem KT.put {K:PySem.W.Frag}{H:Hp}{kvs:List (List Key×V)}{xs:List (List Key×Addr×Value)}(r:KT K H kvs xs) (k:List Key){b:Addr}{y:V}{u:Value}(hb:CKey K H b k) (ry:RelV y u):
  KT K H (putK kvs k y) (storedH xs k b u):=by
 have e:(kvs.any λkv=>decide (kv.1=k))=(atKey xs k).isSome:=by
  rw[vV,(r.val k).isSome_eq,Option.isSome_map]
 unfold putK storedH
 rw[e]
 by_cases q:(atKey xs k).isSome=true
 ·rw[if_pos q,if_pos q];exact r.repl k ry
 ·rw[if_neg q,if_neg q];exact Paired.snoc r ⟨rfl,hb,ry⟩
theorem KT.keeps {K:PySem.W.Frag}{H H':Hp}{kvs:List (List Key×V)}{xs:List (List Key×Addr×Value)}(r:KT K H kvs xs) (ht:∀ b ys,H b=some (.tup ys)->H' b=some (.tup ys)):KT K H' kvs xs:=
 Paired.mapP r λ_ _ z=>⟨z.1,z.2.1.keeps ht,z.2.2⟩
section
variable {P:Program}{w:World}{K:PySem.W.Frag}{H:Hp}{h:Heap}{a:Addr}
theorem FP {u:HO}(ok:HOk P w K H h) (e:Rd H a u):ObjOk P w K H h a u:=e.ok ok
theorem pX {kvs:List (Key×V)}(ok:HOk P w K H h) (e:Rd H a (.dK kvs)):kvs.length<=sizeLine/\(a == sysModules)=false/\∃ vs,KV kvs vs/\h.DictOf (ig P w) a vs:=
 show ObjOk P w K H h a (.dK kvs) from FP ok e
theorem FQ {kvs:List (Key×V)}(ok:HOk P w K H h) (e:H a=some (.dK kvs)):kvs.length<=sizeLine/\(a == sysModules)=false/\∃ vs,KV kvs vs/\h.DictOf (ig P w) a vs:=pX ok (.inl e)
theorem Jf {ks:List Key}(ok:HOk P w K H h) (e:H_ H a ks):(tupleKind (gn P w)).is h ks a:=by
 obtain⟨vs,e,kt⟩:=e
 obtain⟨_,its,r,o,h1,h2,n,h3⟩:=(show ObjOk P w K H h a (.tup vs) from ok a _ e)
 exact⟨o,its.toArray,n,h1,h2,h3,by simpa using uD kt r⟩
theorem mG {ks:List Key}(kin:K.In h) (ok:HOk P w K H h) (e:CKey K H a ks):(tupleKind (gn P w)).is h ks a:=by
 rcases e with e | ⟨vs,⟨o,its,n,e1,e2,e3,_,r⟩,kt⟩
 ·exact Jf ok e
 ·exact⟨o,its,n,kin a o e1,e2,e3,uD kt r⟩
theorem Jg {kvs:List (List Key×V)}(kin:K.In h) (ok:HOk P w K H h) (e:Rd H a (.dT kvs)):kvs.length<=sizeLine/\(a == sysModules)=false/\∃ xs,KT K H kvs xs/\DictE (tupleKind (gn P w)) h a xs:=by
 obtain⟨z,y,xs,r,o,es,ep,h1,h2,h3,h4,h5,h6⟩:=(show ObjOk P w K H h a (.dT kvs) from FP ok e)
 subst h6
 refine⟨z,y,xs,r,o,es,h1,h2,h3,h4,λx hx=>?_,h5⟩
 have all:∀ {l:List (List Key×V)}{m:List (List Key×Addr×Value)},KT K H l m->∀ x∈m,(tupleKind (gn P w)).is h x.1 x.2.1:=by
  intro l m q
  induction q with
  | nil=>intro x hx;exact nomatch hx
  | cons hq t ih=>
   intro x hx
   rcases List.mem_cons.mp hx with e | hx
   ·rw[e];exact mG kin ok (by rw[← hq.1];exact hq.2.1)
   ·exact ih x hx
 exact all r x hx
theorem vq {kvs:List (List Key×V)}(kin:K.In h) (ok:HOk P w K H h) (e:Rd H a (.dT kvs)):kvs.length<=sizeLine/\(a == sysModules)=false /\
  ∃ xs,KT K H kvs xs/\h.DictOfH (tupleKind (gn P w)) a xs:=let ⟨z,y,xs,r,q⟩:=Jg kin ok e;⟨z,y,xs,r,q.of⟩
end
def DGet (K:PySem.W.Frag) (H:Hp) (a:Addr) (y:V) (r:Option V):Prop:=
 (∃ kvs k,Rd H a (.dK kvs)/\y=kV k/\r=iz kvs k)\/∃ kvs k b,Rd H a (.dT kvs)/\y=.ref b/\CKey K H b k/\r=iz kvs k
def DPut (K:PySem.W.Frag) (H:Hp) (a:Addr) (y v:V) (H':Hp):Prop:=
 (∃ kvs k,H a=some (.dK kvs)/\y=kV k/\kvs.length < sizeLine/\H'=upd H a (.dK (putK kvs k v))) \/
 ∃ kvs k b,H a=some (.dT kvs)/\y=.ref b/\CKey K H b k/\kvs.length < sizeLine/\H'=upd H a (.dT (putK kvs k v))
theorem DGet.k {K:PySem.W.Frag}{H:Hp}{a:Addr}{kvs:List (Key×V)}{k:Key}(e:H a=some (.dK kvs)):DGet K H a (kV k) (iz kvs k):=.inl ⟨kvs,k,.inl e,rfl,rfl⟩
theorem DGet.t {K:PySem.W.Frag}{H:Hp}{a b:Addr}{kvs:List (List Key×V)}{k:List Key}(e:H a=some (.dT kvs)) (eb:CKey K H b k):DGet K H a (.ref b) (iz kvs k):=.inr ⟨kvs,k,b,.inl e,rfl,eb,rfl⟩
theorem DPut.k {K:PySem.W.Frag}{H:Hp}{a:Addr}{kvs:List (Key×V)}{k:Key}{v:V}(e:H a=some (.dK kvs)) (hl:kvs.length < sizeLine):DPut K H a (kV k) v (upd H a (.dK (putK kvs k v))):=.inl ⟨kvs,k,e,rfl,hl,rfl⟩
theorem DPut.t {K:PySem.W.Frag}{H:Hp}{a b:Addr}{kvs:List (List Key×V)}{k:List Key}{v:V}(e:H a=some (.dT kvs)) (eb:CKey K H b k) (hl:kvs.length < sizeLine):
  DPut K H a (.ref b) v (upd H a (.dT (putK kvs k v))):=.inr ⟨kvs,k,b,e,rfl,eb,hl,rfl⟩
section
variable {X:Cx}{pins:List (Addr×Obj)}{σ:St}{H:Hp}{s:Shared}{a:Addr}{y v:V}{u r:Value}{o:Option V}{A:Around}{E:Value->Shared->Prop}
theorem Inv.big (I:Inv X pins σ H s):sysModules < s.heap.objs.size:=by
 have h:mainGlobals < s.heap.objs.size:=(I.mod.glob.keeps I.bk).lt
 exact Nat.lt_trans (by decide) h
theorem Aw {Q:Value->Shared->Prop}(hu:A.units+1 < cLine) (I:Inv X pins σ H s) (g:DGet X.K H a y (some v)) (ry:RelV y u) (h:∀ w' s',Inv X pins σ H s'->RelV v w'->Q w' s'):
  wpAny (model X.prog X.w) A (getItem (.ref a) u) Q E s:=by
 rcases g with ⟨kvs,k,e,ey,l⟩ | ⟨kvs,k,b,e,ey,eb,l⟩
 ·subst ey
  obtain⟨z,hd,vs,rel,dd⟩:=pX I.hok e
  obtain⟨w',hw,rw'⟩:=RelO.some_of (v:=v) (o:=valueAt vs k) (by rw[l];exact rel.val k)
  exact wpAny_getItem_of (rB ry) dd.mapOf hw (h w' _ (I.tok _) rw')
 ·subst ey
  cases (show u=Value.ref b from ry)
  obtain⟨z,hd,xs,rel,dd⟩:=vq I.kIn I.hok e
  obtain⟨w',hw,rw'⟩:=RelO.some_of (v:=v) (o:=(atKey xs k).map (·.2)) (by rw[l];exact rel.val k)
  obtain⟨p,hp,hp2⟩:=Option.map_eq_some_iff.mp hw
  refine wpAny_getItem_heap (tupleKind_room_in1 hu) (mG I.kIn I.hok eb) dd hp ?_
  rw[hp2]
  exact h w' _ (I.tok _) rw'
theorem Oj {Q:Value->Shared->Prop}(hu:A.units+1 < cLine) (I:Inv X pins σ H s) (g:DGet X.K H a y o) (ry:RelV y u) (h:∀ s',Inv X pins σ H s'->Q (.bool o.isSome) s'):
  wpAny (model X.prog X.w) A (compareOp .In u (.ref a)) Q E s:=by
 rcases g with ⟨kvs,k,e,ey,l⟩ | ⟨kvs,k,b,e,ey,eb,l⟩
 ·subst ey
  obtain⟨z,hd,vs,rel,dd⟩:=pX I.hok e
  refine wpAny_in_of (rB ry) hd dd.mapOf ?_
  rw[← (rel.val k).isSome_eq,← l]
  exact h _ (I.tok _)
 ·subst ey
  cases (show u=Value.ref b from ry)
  obtain⟨z,hd,xs,rel,dd⟩:=vq I.kIn I.hok e
  refine wpAny_in_heap (tupleKind_room_in1 hu) (mG I.kIn I.hok eb) hd dd ?_
  have q:=(rel.val k).isSome_eq
  rw[Option.isSome_map] at q
  rw[← q,← l]
  exact h _ (I.tok _)
theorem Gv {Q:Value->Shared->Prop}(hu:A.units+1 < cLine) (I:Inv X pins σ H s) (g:DGet X.K H a y o) (ry:RelV y u) (h:∀ s',Inv X pins σ H s'->Q (.bool (!o.isSome)) s'):
  wpAny (model X.prog X.w) A (compareOp .NotIn u (.ref a)) Q E s:=by
 rcases g with ⟨kvs,k,e,ey,l⟩ | ⟨kvs,k,b,e,ey,eb,l⟩
 ·subst ey
  obtain⟨z,hd,vs,rel,dd⟩:=pX I.hok e
  refine wpAny_notIn_of (rB ry) hd dd.mapOf ?_
  rw[← (rel.val k).isSome_eq,← l]
  exact h _ (I.tok _)
 ·subst ey
  cases (show u=Value.ref b from ry)
  obtain⟨z,hd,xs,rel,dd⟩:=vq I.kIn I.hok e
  refine wpAny_notIn_heap (tupleKind_room_in1 hu) (mG I.kIn I.hok eb) hd dd ?_
  have q:=(rel.val k).isSome_eq
  rw[Option.isSome_map] at q
  rw[← q,← l]
  exact h _ (I.tok _)
theorem x_ {h':Heap}{t':Nat}{ob:HO}(I:Inv X pins σ H s) (mu:Mut (H a)) (hs:Heap.SameBut a s.heap h') (he:∃ q,h'.get? a=some q) (new:ObjOk X.prog X.w X.K (upd H a ob) h' a ob):
  Inv X pins σ (upd H a ob) { s with heap:=h',toks:=t' }:=
 I.write (x:=a) (e:=a) mu (.inl rfl) (λb q hb z=>(hs.2 b hb).trans z) he new
theorem Jh {K:PySem.W.Frag}{P:Program}{w:World}{H':Hp}{h':Heap}{kvs:List (Key×V)}{vs:List (Key×Value)}(z:kvs.length<=sizeLine) (hd:(a == sysModules)=false) (rel:KV kvs vs) (dd:h'.DictOf (ig P w) a vs):
  ObjOk P w K H' h' a (.dK kvs):=⟨z,hd,vs,rel,dd⟩
theorem Ax {H':Hp}{Q:Unit->Shared->Prop}(hu:A.units+1 < cLine) (I:Inv X pins σ H s) (g:DPut X.K H a y v H') (ry:RelV y u) (rv:RelV v r) (h:∀ s',Inv X pins σ H' s'->Q () s'):
  wpAny (model X.prog X.w) A (setItem (.ref a) u r) Q E s:=by
 rcases g with ⟨kvs,k,e,ey,l,eH⟩ | ⟨kvs,k,b,e,ey,eb,l,eH⟩
 ·subst ey eH
  obtain⟨z,hd,vs,rel,dd⟩:=FQ I.hok e
  have hz:vs.length<=sizeLine:=by rw[← rel.length];exact z
  have hl:(putK kvs k v).length<=sizeLine:=by have:=qF kvs k v;omega
  refine wpAny_setItem_pairs (hsz:=hz) (rB ry) dd λh' dd' hs=>h _ ?_
  have he:∃ q,h'.get? a=some q:=let ⟨q,_,_,hq,_⟩:=dd';⟨q,hq⟩
  exact x_ I (by rw[e];exact True.intro) hs he (Jh hl hd (rel.put k rv) dd')
 ·subst ey eH
  cases (show u=Value.ref b from ry)
  obtain⟨z,hd,xs,rel,dd⟩:=Jg I.kIn I.hok (.inl e)
  have hz:xs.length<=sizeLine:=by rw[← Paired.length rel];exact z
  have hl:(putK kvs k v).length<=sizeLine:=by have:=qF kvs k v;omega
  refine CZ (tupleKind_room_in1 hu) (mG I.kIn I.hok eb) dd hz λh' dd' hs=>h _ ?_
  obtain⟨q,es,hq,h2,h3,h4,_,h5⟩:=dd'
  refine x_ I (by rw[e];exact True.intro) hs ⟨q,hq⟩ ⟨hl,hd,_,(rel.put k eb rv).keeps λc ys ec=>?_,q,es,_,hq,h2,h3,h4,h5,rfl⟩
  rw[aH (La ec e (λz=>nomatch z))]
  exact ec
end
section
variable {X:Cx}{pins:List (Addr×Obj)}{σ:St}{H:Hp}{s:Shared}{a:Addr}{kvs:List (Key×V)}{k:Key}{u:Value}{A:Around}{E:Value->Shared->Prop}
theorem LK {Q:Value->Shared->Prop}(I:Inv X pins σ H s) (e:Rd H a (.dK kvs)) (h:∀ t s',Inv X pins σ H s'->Q (.int kvs.length t) s'):wpAny (model X.prog X.w) A (call (.builtin "len") [.ref a]) Q E s:=by
 obtain⟨z,hd,vs,rel,dd⟩:=pX I.hok e
 refine call_len_dict hd dd (by rw[← rel.length];rw[sizeLine_eq] at z;omega) ?_
 rw[← rel.length]
 exact h _ _ (I.tok _)
end
def Do (i:Expr):Prop:=∀ ov iv,subscripted i false ov iv=operate [ov,iv] (getItem ov iv)
theorem Gw {prog:Program}{w:World}{A:Around}{E:Value->Shared->Prop}{s:Shared}{env:Env}{value slice:Expr}{pos:Pos}{T id:String}{Q:Value->Shared->Prop}
  (hl:typeLookup (.type T) "__getitem__" = pure (some (.builtin id))) (hs:Do slice)
  (h:wpAny (model prog w) A (eval value env) (λo s₁=>wpAny (model prog w) A (eval slice env) (λi s₂=>s₂.TypeIs o T/\wpAny (model prog w) A (getItem o i) Q E s₂) E s₁) E s):
  wpAny (model prog w) A (eval (.Subscript value slice pos) env) Q E s:=by
 refine Subscript_ (wpAny_mono h (λo s₁ h₁=>wpAny_mono h₁ (λi s₂ h₂=>?_) λ_ _ x=>x) λ_ _ x=>x)
 obtain⟨hT,h₂⟩:=h₂
 unfold subscriptTail
 refine wpAny_bind ?_
 rw[getitemInPython_of_ne hT.not_modules]
 refine wpAny_bind (wpAny_specialOf hT hl ?_)
 have fin:wpAny (model prog w) A (subscripted slice false o i) (λr s₃=>wpAny (model prog w) A (letTemporaryGo value o r >>= λ_=>pure r) Q E s₃) E s₂:=by
  rw[hs o i]
  exact wpAny_operating (wpAny_mono h₂ (λr s₃ h₃=>wpAny_bind (wpAny_letTemporaryGo (wpAny_pure h₃))) λ_ _ x=>x)
 first
  | exact wpAny_pure (wpAny_bind fin)
  | exact wpAny_bind (wpAny_pure (wpAny_bind fin))
  | exact wpAny_bind fin
theorem xx {X:Cx}{pins:List (Addr×Obj)}{σ:St}{H:Hp}{s:Shared}{a:Addr}{y:V}{o:Option V}(I:Inv X pins σ H s) (g:DGet X.K H a y o):s.TypeIs (.ref a) "dict" := by
 rcases g with ⟨kvs,k,e,_,_⟩ | ⟨kvs,k,b,e,_,_,_⟩
 ·obtain⟨_,_,vs,_,dd⟩:=pX I.hok e
  exact dd.typeIs
 ·obtain⟨_,_,xs,_,dd⟩:=vq I.kIn I.hok e
  exact dd.typeIs
def LQ (K:PySem.W.Frag) (td ty:TE):TE:=fun σ H Q=>td σ H λx H1=>ty σ H1 λy H2=>∃ a v,x=.ref a/\DGet K H2 a y (some v)/\Q v H2
def LR (K:PySem.W.Frag) (td ty tv:TE):TS:=λD σ H=>tv σ H λv H1=>td σ H1 λx H2=>ty σ H2 λy H3=>∃ a H4,x=.ref a/\DPut K H3 a y v H4/\D.nx σ H4
section
variable {X:Cx}{o i e value:Expr}{pos pos' tpos:Pos}{td ty tv:TE}
theorem Gx (hu:X.A.units+1 < cLine) (ho:PE X o td) (hi:PE X i ty) (hs:Do i):PE X (.Subscript o i pos) (LQ X.K td ty):=by
 intro pins s σ H Q I h
 refine Gw PySem.F.slot_dict_getitem.lookup hs (thn (ho pins s σ H _ I h) λu s1 ⟨x,H1,I1,rx,q1⟩=>thn (hi pins s1 σ H1 _ I1 q1) ?_)
 rintro iv s2 ⟨y,H2,I2,ry,a,v,ex,g,q2⟩
 subst ex
 obtain rfl:u=Value.ref a:=rx
 exact⟨xx I2 g,Aw hu I2 g ry λw' s3 I3 rw'=>⟨v,H2,I3,rw',q2⟩⟩
theorem Gy (hu:X.A.units+1 < cLine) (ho:PE X o td) (hi:PE X i ty) (hv:PE X value tv) (hs:swapsWith value (some (.Subscript o i pos')) pos.line X.env=pure false):
  PS X (.Assign [.Subscript o i pos'] value pos) (LR X.K td ty tv):=by
 intro pins s σ H D I h
 refine wpAny_Assign_Subscript (thn (hv pins s σ H _ I h) λr s1 ⟨v,H1,I1,rv,q1⟩=>thn (ho pins s1 σ H1 _ I1 q1) λu s2 ⟨x,H2,I2,rx,q2⟩=>thn (hi pins s2 σ H2 _ I2 q2) ?_) hs
 rintro iv s3 ⟨y,H3,I3,ry,a,H4,ex,g,q3⟩
 subst ex
 obtain rfl:u=Value.ref a:=rx
 exact Ax hu I3 g ry rv λs4 I4=>⟨σ,H4,I4,q3⟩
end
theorem Dp {P:Program}{w:World}{K:PySem.W.Frag}{H:Hp}(h:Heap) (hb:sysModules < h.objs.size):ObjOk P w K H (h.push { cls:=.type "dict",data:=.dict #[] }) h.objs.size (.dK []):=
 ⟨Nat.zero_le _,beq_eq_false_iff_ne.mpr (Ne.symm (Nat.ne_of_lt hb)),[],.nil,Heap.DictOf.new h⟩
theorem Dq {P:Program}{w:World}{K:PySem.W.Frag}{H:Hp}(h:Heap) (hb:sysModules < h.objs.size):ObjOk P w K H (h.push { cls:=.type "dict",data:=.dict #[] }) h.objs.size (.dT []):=
 ⟨Nat.zero_le _,beq_eq_false_iff_ne.mpr (Ne.symm (Nat.ne_of_lt hb)),[],.nil,_,#[],0,Heap.get?_push_size _ rfl,⟨rfl,rfl,rfl⟩,rfl,rfl,List.nodup_nil,rfl⟩
def Ji:TE:=λ_ H Q=>∀ p,H p=none->Q (.ref p) (upd H p (.dK []))
def Jj:TE:=λ_ H Q=>∀ p,H p=none->Q (.ref p) (upd H p (.dT []))
section
variable {X:Cx}{pos:Pos}
theorem Dr:PE X (.Dict [] [] pos) Ji:=λpins s σ H Q I h=>
 wpAny_Dict_empty ⟨.ref s.heap.objs.size,_,I.laid (a:=s.heap.objs.size) (o:=.dK []) (t':=s.toks) (λ_ _ q=>Heap.get?_push_of_some _ q) (Nat.le_refl _) (Dp s.heap I.big),rfl,h _ (I.hok.fresh (Nat.le_refl _))⟩
theorem Ds:PE X (.Dict [] [] pos) Jj:=λpins s σ H Q I h=>
 wpAny_Dict_empty ⟨.ref s.heap.objs.size,_,I.laid (a:=s.heap.objs.size) (o:=.dT []) (t':=s.toks) (λ_ _ q=>Heap.get?_push_of_some _ q) (Nat.le_refl _) (Dq s.heap I.big),rfl,h _ (I.hok.fresh (Nat.le_refl _))⟩
end
structure M1 (X:Cx) (o:Expr) (m:Str) (apos:Pos) (e:Expr) (cpos:Pos):Prop where
 base:attributeBase o m X.env (eval o X.env)=eval o X.env
 few:((backTo cpos (starEach [e] X.env)).all (λx=>!x.1)&&(backToKw cpos (keywordEach [] X.env)).all (λx=>x.1.isSome)
  && decide (([e]:List Expr).length+([]:List Keyword).length+(if ([]:List Keyword).isEmpty then 0 else 1) < 30))=true
 line:(apos.endLine == cpos.line)=true
 trees:backTo cpos (starEach [e] X.env)=[(false,eval e X.env)]
structure M2 (X:Cx) (o:Expr) (m:Str) (apos:Pos) (e f:Expr) (cpos:Pos):Prop where
 base:attributeBase o m X.env (eval o X.env)=eval o X.env
 few:((backTo cpos (starEach [e,f] X.env)).all (λx=>!x.1)&&(backToKw cpos (keywordEach [] X.env)).all (λx=>x.1.isSome)
  && decide (([e,f]:List Expr).length+([]:List Keyword).length+(if ([]:List Keyword).isEmpty then 0 else 1) < 30))=true
 line:(apos.endLine == cpos.line)=true
 trees:backTo cpos (starEach [e,f] X.env)=[(false,eval e X.env),(false,eval f X.env)]
section
variable {X:Cx}{pins:List (Addr×Obj)}{σ:St}{H:Hp}{s:Shared}{a:Addr}{y d:V}{u r:Value}{o:Option V}{A:Around}{E:Value->Shared->Prop}
end
section
variable {X:Cx}{o e f:Expr}{apos cpos:Pos}{td ty tx:TE}
end
section
variable {X:Cx}{pins:List (Addr×Obj)}{σ:St}{H:Hp}{s:Shared}{a:Addr}{kvs:List (Key×V)}{A:Around}{E:Value->Shared->Prop}
end
section
variable {X:Cx}{pins:List (Addr×Obj)}{σ:St}{H:Hp}{s:Shared}{a:Addr}{y:V}{u:Value}{A:Around}{E:Value->Shared->Prop}
end
end L2
namespace HT
open PySem PyProof.Rows
def lexLt:List Int->List Int->Bool
 | [],[]=>false
 | [],_::_=>true
 | _::_,[]=>false
 | x::xs,y::ys=>if x=y then lexLt xs ys else decide (x < y)
section
open PySem.SeqAt
open PySem.AutoSeq1 (wpAny_loadPart')
open PySem.MeetsSeq PySem.MeetsSeq2 PySem.MeetsSeq3
end
section
variable {prog:Program}{w:World}{A:Around}{E:Value->Shared->Prop}{s:Shared}
def sIx (n d:Nat):Option Int->Nat
 | none=>d
 | some v=>if v < 0 then (v+(n:Int)).toNat else min v.toNat n
theorem sIx_none (n d:Nat):sIx n d none=d:=rfl
theorem sIx_nat (n d k:Nat):sIx n d (some (k:Int))=min k n:=by
 show (if (k:Int) < 0 then ((k:Int)+(n:Int)).toNat else min (k:Int).toNat n)=min k n
 rw[if_neg (by omega),Int.toNat_natCast]
theorem sIx_le (n d:Nat) (hd:d<=n) (o:Option Int):sIx n d o<=n:=by
 cases o with
 | none=>exact hd
 | some v=>
  show (if v < 0 then (v+(n:Int)).toNat else min v.toNat n)<=n
  by_cases hv:v < 0
  ·rw[if_pos hv];omega
  ·rw[if_neg hv];exact Nat.min_le_right _ _
end
end HT
namespace L2
open PySem PySem.Spec PyProof.Rows
abbrev TO:=St->Hp->(Option Int->Hp->Prop)->Prop
def PO (X:Cx) (e:Option Expr) (t:TO):Prop:=
 ∀ (pins:List (Addr×Obj)) (s:Shared) (σ:St) (H:Hp) (Q:Option Int->Hp->Prop),Inv X pins σ H s->t σ H Q->
  wpAny (model X.prog X.w) X.A (evalPart e X.env) (λu s'=>∃ o H',Inv X pins σ H' s'/\IsPart u o/\Q o H') X.xe s
def Gz:TO:=λ_ H Q=>Q none H
def L_ (t:TE):TO:=fun σ H Q=>t σ H λx H1=>∃ i,x=.int i/\Q (some i) H1
section
variable {X:Cx}{e:Expr}{te:TE}{lo hi:Option Expr}{tl th:TO}{pos p2:Pos}
theorem GC:PO X none Gz:=by
 intro pins s σ H Q I h
 rw[evalPart_none]
 exact wpAny_pure ⟨none,H,I,.none,h⟩
theorem GD (h:PE X e te):PO X (some e) (L_ te):=by
 intro pins s σ H Q I hw
 rw[evalPart_some]
 refine thn (h pins s σ H _ I hw) ?_
 rintro u s1 ⟨x,H1,I1,r1,q1⟩
 obtain⟨i,rfl,q⟩:=q1
 obtain⟨t,rfl⟩:=r1
 exact⟨some i,H1,I1,.int i t,q⟩
def SlR (X:Cx) (r:V->Option Int->Option Int->Hp->VK->Prop):Prop:=
 ∀ (pins:List (Addr×Obj)) (s:Shared) (σ:St) (H:Hp) (x:V) (v vl vu:Value) (lo hi:Option Int) (sl:Addr) (Q:VK),Inv X pins σ H s->RelV x v->s.heap.IsSliceOf sl vl vu .none->IsPart vl lo->IsPart vu hi->r x lo hi H Q->
  ∃ T id,typeLookup (.type T) "__getitem__" = pure (some (.builtin id))/\s.TypeIs v T/\wpAny (model X.prog X.w) X.A (getItem v (.ref sl)) (EP X pins σ Q) X.xe s
theorem SlR.or {r r':V->Option Int->Option Int->Hp->VK->Prop}(h:SlR X r) (h':SlR X r'):SlR X (λx lo hi H Q=>r x lo hi H Q\/r' x lo hi H Q):=by
 intro pins s σ H x v vl vu lo hi sl Q I rx hs pl pu q
 rcases q with q | q
 ·exact h pins s σ H x v vl vu lo hi sl Q I rx hs pl pu q
 ·exact h' pins s σ H x v vl vu lo hi sl Q I rx hs pl pu q
def tSl (r:V->Option Int->Option Int->Hp->VK->Prop) (te:TE) (tl th:TO):TE:=fun σ H Q=>te σ H λx H1=>tl σ H1 λl H2=>th σ H2 λu H3=>r x l u H3 Q
theorem Du {r:V->Option Int->Option Int->Hp->VK->Prop}(hr:SlR X r) (he:PE X e te) (hl:PO X lo tl) (hu:PO X hi th):PE X (.Subscript e (.Slice lo hi none p2) pos) (tSl r te tl th):=by
 intro pins s σ H Q I h
 refine Subscript_ (thn (he pins s σ H _ I h) ?_)
 rintro v s1 ⟨x,H1,I1,r1,q1⟩
 refine wpAny_Slice (thn (hl pins s1 σ H1 _ I1 q1) λvl s2 ⟨l,H2,I2,pl,q2⟩=>thn (hu pins s2 σ H2 _ I2 q2) ?_)
 rintro vu s3 ⟨u,H3,I3,pu,q3⟩
 rw[evalPart_none]
 refine wpAny_pure ?_
 have I4:Inv X pins σ H3 { s3 with heap:=s3.heap.push { cls:=.type "slice",data:=.fields #[vl,vu,.none] } }:=I3.kept (t':=s3.toks) λb ob q=>Heap.get?_push_of_some _ q
 obtain⟨T,id,hT,ht,hg⟩:=hr pins { s3 with heap:=s3.heap.push { cls:=.type "slice",data:=.fields #[vl,vu,.none] } } σ H3 x v vl vu l u s3.heap.objs.size Q I4 r1 (Heap.IsSliceOf.new ..) pl pu q3
 show wpAny (model X.prog X.w) X.A (subscriptTail e (.Slice lo hi none p2) v (.ref s3.heap.objs.size)) (EP X pins σ Q) X.xe { s3 with heap:=s3.heap.push { cls:=.type "slice",data:=.fields #[vl,vu,.none] } }
 exact tail_any (ops:=[.ref s3.heap.objs.size,v]) ht hT hg (by with_unfolding_all rfl)
def tu (xs:List V) (lo hi:Option Int):List V:=(xs.drop (HT.sIx xs.length 0 lo)).take (HT.sIx xs.length xs.length hi - HT.sIx xs.length 0 lo)
theorem xF (xs:List V) (lo hi:Option Int):(tu xs lo hi).length<=xs.length:=by
 unfold tu
 rw[List.length_take,List.length_drop]
 omega
end
end L2
namespace L2
open PySem PySem.Spec PyProof.Rows
def ixN (n:Nat) (i:Int):Option Nat:=if 0<=i then (if i < n then some i.toNat else none) else if -(n:Int)<=i then some (i+n).toNat else none
def atI {α:Type}(xs:List α) (i:Int):Option α:=(ixN xs.length i).bind λj=>xs[j]?
theorem yc {n:Nat}{i:Int}{j:Nat}(h:ixN n i=some j):seqIndex? i n=some j/\j < n/\-(n:Int)<=i/\i < n:=by
 unfold ixN at h
 by_cases h0:0<=i
 ·rw[if_pos h0] at h
  by_cases h1:i < n
  ·rw[if_pos h1] at h
   have e:i.toNat=j:=Option.some.inj h
   exact⟨by rw[seqIndex_of h0 h1,e],by omega,by omega,h1⟩
  ·rw[if_neg h1] at h;cases h
 ·rw[if_neg h0] at h
  by_cases h1:-(n:Int)<=i
  ·rw[if_pos h1] at h
   have e:(i+n).toNat=j:=Option.some.inj h
   exact⟨by rw[seqIndex_neg (by omega) h1,e],by omega,h1,by omega⟩
  ·rw[if_neg h1] at h;cases h
theorem tD {α:Type}{xs:List α}{i:Int}{v:α}(h:atI xs i=some v):∃ j,seqIndex? i xs.length=some j/\xs[j]?=some v/\j < xs.length/\-(xs.length:Int)<=i/\i < xs.length:=by
 unfold atI at h
 cases e:ixN xs.length i with
 | none=>rw[e] at h;cases h
 | some j=>
  rw[e] at h
  obtain⟨h1,h2,h3,h4⟩:=yc e
  exact⟨j,h1,h,h2,h3,h4⟩
theorem GF {α:Type}{xs:List α}{j:Nat}{v:α}(h:xs[j]?=some v):atI xs (j:Int)=some v:=by
 have hj:j < xs.length:=(List.getElem?_eq_some_iff.mp h).1
 have e:ixN xs.length (j:Int)=some j:=by
  unfold ixN
  rw[if_pos (by omega),if_pos (by omega)];simp
 unfold atI;rw[e];exact h
def yd (b:Expr):Prop:=∀ o i,subscripted b false o i=operate [o,i] (getItem o i)
def IxR (X:Cx) (r:R2):Prop:=
 ∀ (value slice:Expr) (pins:List (Addr×Obj)) (s:Shared) (σ:St) (H:Hp) (x y:V) (v u:Value) (Q:VK),Inv X pins σ H s->RelV x v->RelV y u->r x y H Q->
  subscripted slice false v u=operate [v,u] (getItem v u)->wpAny (model X.prog X.w) X.A (subscriptTail value slice v u) (EP X pins σ Q) X.xe s
def MtR (X:Cx) (id:String) (r:V->List V->Hp->VK->Prop):Prop:=
 ∀ (pins:List (Addr×Obj)) (s:Shared) (σ:St) (H:Hp) (x:V) (xs:List V) (v:Value) (us:List Value) (Q:VK),Inv X pins σ H s->RelV x v->Vals xs us->r x xs H Q->
  wpAny (model X.prog X.w) X.A (call (.builtin id) (v::us)) (EP X pins σ Q) X.xe s
section
variable {X:Cx}{a b:Expr}{ta tb:TE}{pos:Pos}
theorem IxR.or {r r':R2}(h:IxR X r) (h':IxR X r'):IxR X (λx y H Q=>r x y H Q\/r' x y H Q):=by
 intro value slice pins s σ H x y v u Q I rx ry q hs
 rcases q with q | q
 ·exact h value slice pins s σ H x y v u Q I rx ry q hs
 ·exact h' value slice pins s σ H x y v u Q I rx ry q hs
theorem MtR.or {id:String}{r r':V->List V->Hp->VK->Prop}(h:MtR X id r) (h':MtR X id r'):MtR X id (λx xs H Q=>r x xs H Q\/r' x xs H Q):=by
 intro pins s σ H x xs v us Q I rx rs q
 rcases q with q | q
 ·exact h pins s σ H x xs v us Q I rx rs q
 ·exact h' pins s σ H x xs v us Q I rx rs q
theorem Ma {r:R2}(hr:IxR X r) (ha:PE X a ta) (hb:PE X b tb) (hs:yd b):PE X (.Subscript a b pos) (tOp r ta tb):=by
 intro pins s σ H Q I h
 exact Subscript_ (Di ha hb I h λv u s2 x y H2 I2 rx ry q=>hr a b pins s2 σ H2 x y v u Q I2 rx ry q (hs _ _))
def Jk (K:PySem.W.Frag):R2:=λx y H Q=>∃ p xs i v,x=.ref p/\y=.int i/\SqL K H p xs/\atI xs i=some v/\Q v H
def Jl (K:PySem.W.Frag):R2:=λx y H Q=>∃ p xs i v,x=.ref p/\y=.int i/\SqT K H p xs/\atI xs i=some v/\Q v H
def Jm:R2:=λx y H Q=>∃ z i c,x=.str z/\y=.int i/\z.length<=sizeLine/\atI z.cps.toList i=some c/\Q (.str ⟨#[c]⟩) H
theorem ix_list:IxR X (Jk X.K):=by
 intro value slice pins s σ H x y v u Q I rx ry h hs
 obtain⟨p,xs,i,z,rfl,rfl,hq,he,q⟩:=h
 cases rx
 obtain⟨t,rfl⟩:=ry
 obtain⟨its,r,pl,hz⟩:=I.list hq
 obtain⟨j,h1,h2,h3,h4,h5⟩:=tD he
 obtain⟨w,ew,rw'⟩:=r.get h2
 have hl:=r.length
 have hn:=mF
 have fin:EP X pins σ Q w s:=⟨z,H,I,rw',q⟩
 by_cases h0:0<=i
 ·have hj:i.toNat=j:=by
   rw[seqIndex_of h0 h5] at h1
   exact Option.some.inj h1
  exact item_listR pl.isList h0 (by omega) (by rw[hj];simpa using ew) fin hs
 ·have hj:(i+(its.toArray.size:Int)).toNat=j:=by
   rw[seqIndex_neg (by omega) h4] at h1
   rw[List.size_toArray,← hl]
   exact Option.some.inj h1
  exact subscriptTail_builtinR (x:=w) pl.isList.typeIs slot_list_getitem.lookup
   (wpAny_getItem_list_neg (Q:=λr s'=>r=w/\EP X pins σ Q r s') pl.isList (by omega) (by rw[List.size_toArray] <;> omega) (by omega) (by rw[hj];simpa using ew) ⟨rfl,fin⟩) hs
theorem ix_tup:IxR X (Jl X.K):=by
 intro value slice pins s σ H x y v u Q I rx ry h hs
 obtain⟨p,xs,i,z,rfl,rfl,hq,he,q⟩:=h
 cases rx
 obtain⟨t,rfl⟩:=ry
 obtain⟨its,r,pl,hz⟩:=I.tuple hq
 obtain⟨j,h1,h2,h3,h4,h5⟩:=tD he
 obtain⟨w,ew,rw'⟩:=r.get h2
 have hl:=r.length
 have hn:=mF
 have fin:EP X pins σ Q w s:=⟨z,H,I,rw',q⟩
 exact subscriptTail_builtinR (x:=w) pl.typeIs slot_tuple_getitem.lookup
  (getItem_tuple (j:=j) (Q:=λr s'=>r=w/\EP X pins σ Q r s') pl (by omega) (by omega) (by rw[List.size_toArray,← hl];exact h1) (by simpa using ew) ⟨rfl,fin⟩) hs
theorem Jo:IxR X Jm:=by
 intro value slice pins s σ H x y v u Q I rx ry h hs
 obtain⟨z,i,c,rfl,rfl,hz,he,q⟩:=h
 obtain⟨t,rfl⟩:=rx
 obtain⟨t',rfl⟩:=ry
 obtain⟨j,h1,h2,h3,h4,h5⟩:=tD he
 have hl:z.cps.toList.length=z.length:=by simp[Str.length]
 rw[hl] at h1 h4 h5
 have hn:=mF
 exact tail_any (typeIs_str s z t) slot_str_getitem.lookup (getItem_str (c:=c) (by
  have e1:decide (i < -(2 ^ 63:Int))=false:=decide_eq_false (by omega)
  have e2:decide (i ≥ 2 ^ 63)=false:=decide_eq_false (by omega)
  rw[e1,e2,Bool.or_false]) (by rw[h1];simpa using h2) ⟨.str ⟨#[c]⟩,H,I.tok _,⟨_,rfl⟩,q⟩) hs
def rIx (K:PySem.W.Frag):R2:=λx y H Q=>Jk K x y H Q\/Jl K x y H Q\/Jm x y H Q
theorem Jp:IxR X (rIx X.K):=ix_list.or (ix_tup.or Jo)
theorem yV (its:List Value) (n j:Nat) (u:Value):Obj.mapSeq (·.setIfInBounds j u) { cls:=.type "list",data:=.seq its.toArray n }={ cls:=.type "list",data:=.seq (its.set j u).toArray n }:=by
 simp[Obj.mapSeq]
theorem Inv.lst {pins:List (Addr×Obj)}{σ:St}{H:Hp}{s:Shared}{p:Addr}{xs:List V}(I:Inv X pins σ H s) (h:H p=some (.lst xs)):
  ∃ (its:List Value) (n:Nat),Vals xs its/\s.heap.get? p=some { cls:=.type "list",data:=.seq its.toArray n }/\xs.length<=sizeLine:=by
 obtain⟨z,its,n,r,e⟩:=I.hok p _ h
 exact⟨its,n,r,e,z⟩
theorem Inv.lstUpd {pins:List (Addr×Obj)}{σ:St}{H:Hp}{s:Shared}{p:Addr}{xs ys:List V}{its its':List Value}{n n':Nat}{f:Obj->Obj}(I:Inv X pins σ H s) (h:H p=some (.lst xs))
  (ho:s.heap.get? p=some { cls:=.type "list",data:=.seq its.toArray n }) (hf:f { cls:=.type "list",data:=.seq its.toArray n }={ cls:=.type "list",data:=.seq its'.toArray n' }) (r:Vals ys its') (hz:ys.length<=sizeLine) (t:Nat):
  Inv X pins σ (upd H p (.lst ys)) { s with heap:=s.heap.update p f,toks:=t }:=by
 have e:(s.heap.update p f).get? p=some { cls:=.type "list",data:=.seq its'.toArray n' }:=by
  rw[Heap.get?_update_self f ho (by rw[hf] <;> rfl),hf]
 refine I.write (x:=p) (e:=p) (by rw[h];trivial) (.inl rfl) (λb u hb q=>(Heap.get?_update_other _ _ (Ne.symm hb)).trans q) ⟨_,e⟩ ?_
 exact⟨hz,its',n',r,e⟩
def Mf:V->V->V->Hp->(Hp->Prop)->Prop:=λo i v H Q=>∃ p xs k j,o=.ref p/\i=.int k/\H p=some (.lst xs)/\ixN xs.length k=some j/\Q (upd H p (.lst (xs.set j v)))
theorem set_list:Ik X Mf:=by
 intro pins s σ H o i v ov iv u Q I ro ri rv h
 obtain⟨p,xs,k,j,rfl,rfl,hp,hj,q⟩:=h
 cases ro
 obtain⟨t,rfl⟩:=ri
 obtain⟨its,n,r,ho,hz⟩:=I.lst hp
 obtain⟨h1,h2,h3,h4⟩:=yc hj
 have hl:=r.length
 have hn:=mF
 have I':Inv X pins σ (upd H p (.lst (xs.set j v))) { s with heap:=s.heap.update p (Obj.mapSeq (·.setIfInBounds j u)) }:=
  I.lstUpd hp ho (yV its n j u) (r.set rv j) (by rw[List.length_set];exact hz) s.toks
 by_cases h0:0<=k
 ·have hk:k.toNat=j:=by
   rw[seqIndex_of h0 h4] at h1
   exact Option.some.inj h1
  exact PySem.W.ki_setAt ho h0 (by omega) (by rw[List.size_toArray,← hl];exact h4) (by rw[hk];exact⟨_,I',q⟩)
 ·have hk:(k+(its.toArray.size:Int)).toNat=j:=by
   rw[seqIndex_neg (by omega) h3] at h1
   rw[List.size_toArray,← hl]
   exact Option.some.inj h1
  exact PySem.W.ki_setBack ho (by omega) (by rw[List.size_toArray,← hl];exact h3) (by omega) (by rw[hk];exact⟨_,I',q⟩)
theorem vW (lo hi:Option Int) (n:Nat):(sliceBounds lo hi none n).1=((HT.sIx n 0 lo:Nat):Int)/\(sliceBounds lo hi none n).2.1=((HT.sIx n n hi:Nat):Int)/\(sliceBounds lo hi none n).2.2=1:=by
 refine⟨?_,?_,rfl⟩
 ·cases lo with
  | none=>simp[sliceBounds,HT.sIx]
  | some i=>
   simp only[sliceBounds,HT.sIx,Option.getD_none,show (1:Int) > 0 by decide,if_true]
   by_cases h:i < 0
   ·simp only[h,if_true] <;> omega
   ·simp only[h,if_false] <;> omega
 ·cases hi with
  | none=>simp[sliceBounds,HT.sIx]
  | some i=>
   simp only[sliceBounds,HT.sIx,Option.getD_none,show (1:Int) > 0 by decide,if_true]
   by_cases h:i < 0
   ·simp only[h,if_true] <;> omega
   ·simp only[h,if_false] <;> omega
theorem uZ (its:List Value) (lo hi:Option Int):slicePick its.toArray lo hi none=((its.drop (HT.sIx its.length 0 lo)).take (HT.sIx its.length its.length hi - HT.sIx its.length 0 lo)).toArray:=by
 obtain⟨h1,h2,h3⟩:=vW lo hi its.toArray.size
 unfold slicePick
 rw[h1,h2,h3]
 simp only[sliceRange_one,pick_run,List.size_toArray] <;> rfl
def Jq (K:PySem.W.Frag):V->Option Int->Option Int->Hp->VK->Prop:=λx lo hi H Q=>∃ a xs,x=.ref a/\SqL K H a xs/\∀ p,H p=none->Q (.ref p) (upd H p (.lst (tu xs lo hi)))
theorem sl_list:SlR X (Jq X.K):=by
 intro pins s σ H x v vl vu lo hi sl Q I rx hs pl pu h
 obtain⟨a,xs,rfl,hx,q⟩:=h
 cases rx
 obtain⟨its,r,ht,hz⟩:=I.list hx
 have hlen:=r.length
 refine⟨"list",_,slot_list_getitem.lookup,ht.isList.typeIs,?_⟩
 refine wpAny_getItem_list_slice ht.isList hs pl pu .none (by simp) ?_ (by rw[List.size_toArray] <;> omega)
 rw[uZ,← hlen]
 refine⟨.ref s.heap.objs.size,_,I.laid (t':=s.toks) (o:=.lst (tu xs lo hi)) (λb ob q=>Heap.get?_push_of_some _ q) (Nat.le_refl _) ?_,rfl,q _ (I.hok.fresh (Nat.le_refl _))⟩
 exact⟨Nat.le_trans (xF xs lo hi) hz,_,0,(r.drop (HT.sIx xs.length 0 lo)).take (HT.sIx xs.length xs.length hi - HT.sIx xs.length 0 lo),Heap.get?_push_size _ rfl⟩
def ik:V->Bool
 | .non=>true
 | .bl _=>true
 | .int _=>true
 | .str _=>true
 | _=>false
def eqV:V->V->Bool
 | .non,.non=>true
 | .bl a,.bl b=>a == b
 | .bl a,.int b=>(if a then 1 else 0) == b
 | .int a,.bl b=>a == (if b then 1 else 0)
 | .int a,.int b=>a == b
 | .str a,.str b=>a == b
 | _,_=>false
theorem Jr {A:Around}{s:Shared}{y x:V}{u v:Value}(ry:RelV y u) (rx:RelV x v) (fy:ik y=true) (fx:ik x=true):SeqAt.EqAt A s u v (eqV y x):=by
 cases y with
 | non=>
  cases ry
  cases x with
  | non=>cases rx;exact SeqAt.EqAt.same _
  | bl b=>cases rx;exact SeqAt.EqAt.none_bool b
  | int b=>obtain⟨t,rfl⟩:=rx;exact SeqAt.EqAt.none_int b t
  | str b=>obtain⟨t,rfl⟩:=rx;exact SeqAt.EqAt.none_str b t
  | _=>exact absurd (show false=true from fx) Bool.false_ne_true
 | bl a=>
  cases ry
  cases x with
  | non=>cases rx;exact SeqAt.EqAt.bool_none a
  | bl b=>cases rx;exact SeqAt.EqAt.bool_bool a b
  | int b=>obtain⟨t,rfl⟩:=rx;exact SeqAt.EqAt.bool_int a b t
  | str b=>obtain⟨t,rfl⟩:=rx;exact SeqAt.EqAt.bool_str a b t
  | _=>exact absurd (show false=true from fx) Bool.false_ne_true
 | int a=>
  obtain⟨t',rfl⟩:=ry
  cases x with
  | non=>cases rx;exact SeqAt.EqAt.int_none a t'
  | bl b=>cases rx;exact SeqAt.EqAt.int_bool a t' b
  | int b=>obtain⟨t,rfl⟩:=rx;exact SeqAt.EqAt.int_int a t' b t
  | str b=>obtain⟨t,rfl⟩:=rx;exact SeqAt.EqAt.int_str a t' b t
  | _=>exact absurd (show false=true from fx) Bool.false_ne_true
 | str a=>
  obtain⟨t',rfl⟩:=ry
  cases x with
  | non=>cases rx;exact SeqAt.EqAt.str_none a t'
  | bl b=>cases rx;exact SeqAt.EqAt.str_bool a t' b
  | int b=>obtain⟨t,rfl⟩:=rx;exact SeqAt.EqAt.str_int a t' b t
  | str b=>obtain⟨t,rfl⟩:=rx;exact SeqAt.EqAt.str_str a t' b t
  | _=>exact absurd (show false=true from fx) Bool.false_ne_true
 | _=>exact absurd (show false=true from fy) Bool.false_ne_true
def eqU (x:V) (u:Value):Bool:=match u with
 | .none=>eqV .non x
 | .bool b=>eqV (.bl b) x
 | .int i _=>eqV (.int i) x
 | .str z _=>eqV (.str z) x
 | _=>false
theorem Ay {x y:V}{u:Value}(r:RelV y u) (f:ik y=true):eqU x u=eqV y x:=by
 cases y with
 | non=>cases r;rfl
 | bl b=>cases r;rfl
 | int i=>obtain⟨t,rfl⟩:=r;rfl
 | str z=>obtain⟨t,rfl⟩:=r;rfl
 | _=>exact absurd (show false=true from f) Bool.false_ne_true
theorem mH {x:V}:∀ {xs:List V}{us:List Value},Vals xs us->xs.all ik=true->us.any (eqU x)=xs.any λy=>eqV y x
 | _,_,.nil,_=>rfl
 | y::xs,u::us,.cons r t,f=>by
  rw[List.all_cons,Bool.and_eq_true] at f
  rw[List.any_cons,List.any_cons,Ay r f.1,mH t f.2]
theorem lE {A:Around}{s:Shared}{x:V}{v:Value}(rx:RelV x v) (fx:ik x=true):∀ {xs:List V}{us:List Value},Vals xs us->xs.all ik=true->∀ u∈us,SeqAt.EqAt A s u v (eqU x u)
 | _,_,.nil,_=>λu hu=>by cases hu
 | y::xs,u::us,.cons r t,f=>λu' hu=>by
  rw[List.all_cons,Bool.and_eq_true] at f
  rcases List.mem_cons.mp hu with rfl | hu
  ·rw[Ay r f.1];exact Jr r rx f.1 fx
  ·exact lE rx fx t f.2 u' hu
def inV (x:V) (xs:List V):Bool:=xs.any λy=>eqV y x
def rIn (K:PySem.W.Frag) (neg:Bool):R2:=λx y H Q=>∃ p xs,y=.ref p/\(SqL K H p xs\/SqT K H p xs)/\ik x=true/\xs.all ik=true/\Q (.bl (if neg then !inV x xs else inV x xs)) H
theorem Az:OpR X (compareOp .In) (rIn X.K false):=by
 intro pins s σ H x y v u Q I rx ry h
 obtain⟨p,xs,rfl,hq,fx,fs,q⟩:=h
 cases ry
 rcases hq with hq | hq
 ·obtain⟨its,r,pl,hz⟩:=I.list hq
  refine SeqAt.in_listAt (eqU x) pl.isList (λw hw=>lE rx fx r fs w (by simpa using hw)) ⟨.bl _,H,I,rfl,?_⟩
  rw[show its.toArray.any (eqU x)=its.any (eqU x) by simp,mH r fs]
  exact q
 ·obtain⟨its,r,pl,hz⟩:=I.tuple hq
  refine SeqAt.in_tupleAt (eqU x) pl (λw hw=>lE rx fx r fs w (by simpa using hw)) ⟨.bl _,H,I,rfl,?_⟩
  rw[show its.toArray.any (eqU x)=its.any (eqU x) by simp,mH r fs]
  exact q
theorem vX:OpR X (compareOp .NotIn) (rIn X.K true):=by
 intro pins s σ H x y v u Q I rx ry h
 obtain⟨p,xs,rfl,hq,fx,fs,q⟩:=h
 cases ry
 rcases hq with hq | hq
 ·obtain⟨its,r,pl,hz⟩:=I.list hq
  refine SeqAt.notIn_listAt (eqU x) pl.isList (λw hw=>lE rx fx r fs w (by simpa using hw)) ⟨.bl _,H,I,rfl,?_⟩
  rw[show its.toArray.any (eqU x)=its.any (eqU x) by simp,mH r fs]
  exact q
 ·obtain⟨its,r,pl,hz⟩:=I.tuple hq
  refine SeqAt.notIn_tupleAt (eqU x) pl (λw hw=>lE rx fx r fs w (by simpa using hw)) ⟨.bl _,H,I,rfl,?_⟩
  rw[show its.toArray.any (eqU x)=its.any (eqU x) by simp,mH r fs]
  exact q
theorem vY:OpR X (compareOp .NotIn) (λx y H Q=>∃ i j,x=.str i/\y=.str j/\Q (.bl (!(!(Builtin.Str.occurrences j i 0 j.length 1).isEmpty))) H):=by
 intro pins s σ H x y v u Q I rx ry h
 obtain⟨i,j,rfl,rfl,q⟩:=h
 obtain⟨t,rfl⟩:=rx
 obtain⟨t',rfl⟩:=ry
 exact notIn_str ⟨.bl _,H,I,rfl,q⟩
theorem vZ:CallR X (.builtin "len") (λxs H Q=>∃ p ys,xs=[.ref p]/\(SqL X.K H p ys\/SqT X.K H p ys)/\Q (.int ys.length) H):=by
 intro pins s σ H xs us Q I r h
 obtain⟨p,ys,rfl,hq,q⟩:=h
 obtain⟨u,rfl,rx⟩:=vals1 r
 cases rx
 have hn:=mF
 rcases hq with hq | hq
 ·obtain⟨its,r',pl,hz⟩:=I.list hq
  have hlen:=r'.length
  exact Calls.call_len_list pl.isList (by simp only[List.size_toArray] <;> omega) ⟨.int ys.length,H,I.tok _,⟨s.toks+1,by rw[List.size_toArray,hlen]⟩,q⟩
 ·obtain⟨its,r',pl,hz⟩:=I.tuple hq
  have hlen:=r'.length
  exact len_tuple pl (by simp only[List.size_toArray] <;> omega) ⟨.int ys.length,H,I.tok _,⟨s.toks+1,by rw[List.size_toArray,hlen]⟩,q⟩
theorem v4:CallR X (.builtin "len") (λxs H Q=>∃ z,xs=[.str z]/\z.length<=sizeLine/\Q (.int z.length) H):=by
 intro pins s σ H xs us Q I r h
 obtain⟨z,rfl,hz,q⟩:=h
 obtain⟨u,rfl,t,rfl⟩:=vals1 r
 have hn:=mF
 exact len_str (by omega) ⟨.int z.length,H,I.tok _,⟨_,rfl⟩,q⟩
theorem CallR.or {f:Value}{r r':List V->Hp->VK->Prop}(h:CallR X f r) (h':CallR X f r'):CallR X f (λxs H Q=>r xs H Q\/r' xs H Q):=by
 intro pins s σ H xs us Q I rs q
 rcases q with q | q
 ·exact h pins s σ H xs us Q I rs q
 ·exact h' pins s σ H xs us Q I rs q
theorem v7:CallR X (.type "list") (λxs H Q=>∃ p ys,xs=[.ref p]/\(SqL X.K H p ys\/SqT X.K H p ys)/\∀ l,H l=none->Q (.ref l) (upd H l (.lst ys))):=by
 intro pins s σ H xs us Q I r h
 obtain⟨p,ys,rfl,hq,q⟩:=h
 obtain⟨u,rfl,rx⟩:=vals1 r
 cases rx
 have fin:∀ (its:List Value),Vals ys its->ys.length<=sizeLine->∀ (h':Heap) (c':Nat),(∀ b o',s.heap.get? b=some o'->h'.get? b=some o')->
   h'.get? s.heap.objs.size=some { cls:=.type "list",dict:=none,data:=.seq its.toArray c',slots:=#[] }->EP X pins σ Q (.ref s.heap.objs.size) { s with heap:=h' }:=λits r' hz h' c' kp e=>
  ⟨.ref s.heap.objs.size,_,I.laid (t':=s.toks) kp (Nat.le_refl _) (show ObjOk X.prog X.w X.K _ h' _ (.lst ys) from ⟨hz,its,c',r',e⟩),rfl,q _ (I.hok.fresh (Nat.le_refl _))⟩
 rcases hq with hq | hq
 ·obtain⟨its,r',pl,hz⟩:=I.list hq
  have hlen:=r'.length
  obtain⟨o,ho,hc,n,hd⟩:=pl.isList
  exact call_list_seq p (.inl rfl) ho hc hd (λh' c' kp e=>fin its r' hz h' c' kp e) (by simp only[List.size_toArray] <;> omega)
 ·obtain⟨its,r',pl,hz⟩:=I.tuple hq
  have hlen:=r'.length
  obtain⟨o,ho,hc,n,hd⟩:=pl
  exact call_list_seq p (.inr rfl) ho hc hd (λh' c' kp e=>fin its r' hz h' c' kp e) (by simp only[List.size_toArray] <;> omega)
def tyV (K:PySem.W.Frag) (T:String) (x:V) (H:Hp):Prop:=match x with
 | .str _=>T = "str"
 | .int _=>T = "int"
 | .ref p=>(T = "list" /\ ∃ xs,SqL K H p xs)\/(T = "tuple" /\ ∃ o,K.lookup p=some o/\o.cls=.type "tuple" /\ o.dict=none) \/
   (T = "dict" /\ ((∃ kvs,H p=some (.dK kvs))\/∃ kvs,H p=some (.dT kvs)))\/(T = "set" /\ ∃ S n,H p=some (.set S n))
 | _=>False
theorem A_ {pins:List (Addr×Obj)}{σ:St}{H:Hp}{s:Shared}{T:String}{x:V}{v:Value}(I:Inv X pins σ H s) (r:RelV x v) (ty:tyV X.K T x H):
  s.TypeIs v T/\∀ a,v=.ref a->∃ ob,s.heap.get? a=some ob/\ob.dict=none:=by
 cases x with
 | str z=>
  obtain⟨t,rfl⟩:=r
  cases (show T = "str" from ty)
  exact⟨typeIs_str s z t,λ_ e=>nomatch e⟩
 | int i=>
  obtain⟨t,rfl⟩:=r
  cases (show T = "int" from ty)
  exact⟨typeIs_int s i t,λ_ e=>nomatch e⟩
 | ref p=>
  cases r
  rcases ty with ⟨rfl,xs,hq⟩ | ⟨rfl,o,hk,hc,hd⟩ | ⟨rfl,hk⟩ | ⟨rfl,S,n,hk⟩
  ·obtain⟨its,_,pl,_⟩:=I.list hq
   refine⟨pl.isList.typeIs,λa e=>?_⟩
   cases e
   obtain⟨o,n,e,c,hd,_⟩:=pl
   exact⟨o,e,hd⟩
  ·refine⟨⟨o,I.kIn p o hk,hc⟩,λa e=>?_⟩
   cases e
   exact⟨o,I.kIn _ o hk,hd⟩
  ·have z:∃ o,s.heap.get? p=some o/\o.ExactDict:=by
    rcases hk with ⟨kvs,hk⟩ | ⟨kvs,hk⟩
    ·obtain⟨_,_,_,_,o,_,_,e,ex,_⟩:=I.hok p _ hk
     exact⟨o,e,ex⟩
    ·obtain⟨_,_,_,_,o,_,_,e,ex,_⟩:=I.hok p _ hk
     exact⟨o,e,ex⟩
   obtain⟨o,e,ex⟩:=z
   refine⟨⟨o,e,ex.1⟩,λa e2=>?_⟩
   cases e2
   exact⟨o,e,ex.2.1⟩
  ·obtain⟨o,_,_,_,e,ex,_⟩:=I.hok p _ hk
   refine⟨⟨o,e,ex.1⟩,λa e2=>?_⟩
   cases e2
   exact⟨o,e,ex.2.1⟩
 | _=>exact False.elim ty
def Ol (K:PySem.W.Frag) (T:String) (r:V->List V->Hp->VK->Prop) (to:TE):TE:=fun σ H Q=>to σ H λx H1=>tyV K T x H1/\r x [] H1 Q
def tBM (K:PySem.W.Frag) (T:String) (r:V->List V->Hp->VK->Prop) (to:TE) (t:TA):TE:=fun σ H Q=>to σ H λx H1=>tyV K T x H1/\t σ H1 λxs H2=>r x xs H2 Q
variable {o e:Expr}{es:List Expr}{to:TE}{t:TA}{name:Str}{apos cpos:Pos}{T id:String}{r:V->List V->Hp->VK->Prop}
theorem Js (pa:PlainAttrs T) (slot:Slot T name id) (hty:typeOf (.builtin id)=pure (.type "method_descriptor")) (hm:MtR X id r) (ho:PE X o to)
  (hbase:attributeBase o name X.env (eval o X.env)=eval o X.env:=by rfl) (hline:(apos.endLine == cpos.line)=true:=by rfl):PE X (.Call (.Attribute o name apos) [] [] cpos) (Ol X.K T r to):=by
 intro pins s σ H Q I h
 refine wpAny_Call_method0_late hbase hline (thn (ho pins s σ H _ I h) ?_)
 rintro v s1 ⟨x,H1,I1,r1,ty,q1⟩
 obtain⟨h1,h2⟩:=A_ I1 r1 ty
 exact⟨T,id,pa,slot,hty,h1,h2,Calls.callWith_builtin rfl (PySem.evalArgs_none (hm pins s1 σ H1 x [] v [] Q I1 r1 .nil q1))⟩
theorem yW (pa:PlainAttrs T) (slot:Slot T name id) (hty:typeOf (.builtin id)=pure (.type "method_descriptor")) (hm:MtR X id r) (ho:PE X o to) (ha:PA X (e::es) t)
  (hbase:attributeBase o name X.env (eval o X.env)=eval o X.env:=by rfl)
  (hfew:((backTo cpos (starEach (e::es) X.env)).all (λx=>!x.1)&&(backToKw cpos (keywordEach [] X.env)).all (λx=>x.1.isSome)
   && decide ((e::es).length+([]:List Keyword).length+(if ([]:List Keyword).isEmpty then 0 else 1) < 30))=true:=by rfl)
  (hline:(apos.endLine == cpos.line)=true:=by rfl) (hs:starEach (e::es) X.env=(false,eval e X.env)::starEach es X.env:=by rfl) (hplain:(backTo cpos (starEach es X.env)).any (·.1)=false:=by rfl):
  PE X (.Call (.Attribute o name apos) (e::es) [] cpos) (tBM X.K T r to t):=by
 intro pins s σ H Q I h
 refine wpAny_Call_method_late hbase hfew hline rfl (thn (ho pins s σ H _ I h) ?_)
 rintro v s1 ⟨x,H1,I1,r1,ty,q1⟩
 obtain⟨h1,h2⟩:=A_ I1 r1 ty
 refine⟨T,id,pa,slot,hty,h1,h2,?_⟩
 have hA:=ha cpos pins s1 σ H1 _ I1 q1
 rw[hs] at hA ⊢
 refine Calls.callWith_builtin (by show (false||(backTo cpos (starEach es X.env)).any (·.1))=false;rw[hplain] <;> rfl) (Calls.evalArgs_plain ?_)
 exact thn hA λus s2 ⟨vs,H2,I2,r2,q2⟩=>hm pins s2 σ H2 x vs v us Q I2 r1 r2 q2
end
end L2
namespace L2
open PySem PySem.Spec PyProof.Rows
def MtM (X:Cx) (id:String) (r:V->List V->Hp->VK->Prop):Prop:=
 ∀ (pins:List (Addr×Obj)) (s:Shared) (σ:St) (H:Hp) (x:V) (xs:List V) (v:Value) (us:List Value) (Q:VK),Inv X pins σ H s->RelV x v->Vals xs us->r x xs H Q->
  wpAny (model X.prog X.w) X.A (call (.builtin id) (v::us)) (EP X pins σ Q) X.xe s
theorem Vals.one {x:V}{us:List Value}(h:Vals [x] us):∃ u,us=[u]/\RelV x u:=by
 cases h with
 | cons r t=>cases t;exact⟨_,rfl,r⟩
theorem Vals.two {x y:V}{us:List Value}(h:Vals [x,y] us):∃ u v,us=[u,v]/\RelV x u/\RelV y v:=by
 cases h with
 | cons r t=>
  obtain⟨v,rfl,q⟩:=Vals.one t
  exact⟨_,v,rfl,r,q⟩
theorem Vals.zero {us:List Value}(h:Vals [] us):us=[]:=by cases h;rfl
theorem Vals.reverse {xs:List V}{us:List Value}(h:Vals xs us):Vals xs.reverse us.reverse:=by
 induction h with
 | nil=>exact .nil
 | cons r t ih=>rw[List.reverse_cons,List.reverse_cons];exact Vals.append ih (.cons r .nil)
theorem Vals.rep {xs:List V}{us:List Value}(h:Vals xs us):∀ k:Nat,Vals (List.replicate k xs).flatten (List.replicate k us).flatten
 | 0=>.nil
 | k+1=>by
  rw[List.replicate_succ,List.replicate_succ,List.flatten_cons,List.flatten_cons]
  exact Vals.append h (Vals.rep h k)
section
variable {X:Cx}{pins:List (Addr×Obj)}{σ:St}{H:Hp}{s:Shared}{l b:Addr}{xs ys zs:List V}
theorem Inv.lset {its its':List Value}{n:Nat}{f:Array Value->Array Value}{t':Nat}(I:Inv X pins σ H s) (hH:H l=some (.lst xs))
  (e:s.heap.get? l=some { cls:=.type "list",data:=.seq its.toArray n }) (hf:f its.toArray=its'.toArray) (hv:Vals ys its') (hz:ys.length<=sizeLine):
  Inv X pins σ (upd H l (.lst ys)) { s with heap:=s.heap.update l (Obj.mapSeq f),toks:=t' }:=by
 have q:=PySem.IsL.update e f
 rw[hf] at q
 refine I.write (x:=l) (e:=l) (by rw[hH];exact trivial) (.inl rfl) (λb' u hb hu=>(Heap.get?_update_other s.heap (Obj.mapSeq f) (Ne.symm hb)).trans hu) ⟨_,q⟩ ?_
 exact⟨hz,its',_,hv,q⟩
theorem Inv.lnew {its:List Value}{t':Nat}(I:Inv X pins σ H s) (hv:Vals ys its) (hz:ys.length<=sizeLine):
  Inv X pins σ (upd H s.heap.objs.size (.lst ys)) { s with heap:=s.heap.push { cls:=.type "list",data:=.seq its.toArray },toks:=t' }:=
 I.laid (λ_ _ q=>Heap.get?_push_of_some _ q) (Nat.le_refl _) ⟨hz,its,0,hv,Heap.get?_push_size _ rfl⟩
theorem Inv.fresh (I:Inv X pins σ H s):H s.heap.objs.size=none:=I.hok.fresh (Nat.le_refl _)
theorem Inv.lstM (I:Inv X pins σ H s) (hH:H l=some (.lst xs)):xs.length<=sizeLine/\∃ (its:List Value) (n:Nat),Vals xs its/\xs.length=its.length/\s.heap.get? l=some { cls:=.type "list",data:=.seq its.toArray n }:=by
 obtain⟨z,its,n,r,e⟩:=I.hok l _ hH
 exact⟨z,its,n,r,r.length,e⟩
end
section
variable {X:Cx}
def GJ:V->List V->Hp->VK->Prop:=λx vs H Q=>∃ l xs y,x=.ref l/\vs=[y]/\H l=some (.lst xs)/\xs.length < sizeLine/\Q .non (upd H l (.lst (xs++[y])))
theorem uE:MtM X "list.append" GJ:=by
 intro pins s σ H x vs v us Q I rx rv h
 obtain⟨l,xs,y,rfl,rfl,hH,hz,q⟩:=h
 cases rx
 obtain⟨u,rfl,ru⟩:=rv.one
 obtain⟨z,its,n,r,hl,e⟩:=I.lstM hH
 refine call_meets F.slot_list_append ⟨_,e,rfl⟩ F.entry_list_append (F.args_list_append_2 _ _) (PySem.list_append l its.toArray n u (by rw[List.size_toArray];omega)) ⟨e,?_⟩
 refine⟨.non,_,I.lset (its':=its++[u]) hH e (by simp) (r.append (.cons ru .nil)) ?_,rfl,q⟩
 rw[List.length_append,List.length_singleton]
 omega
def Dv:R2:=λx y H Q=>∃ l b xs zs,x=.ref l/\y=.ref b/\H l=some (.lst xs)/\H b=some (.lst zs)/\xs.length+zs.length<=sizeLine/\∀ p,H p=none->Q (.ref p) (upd H p (.lst (xs++zs)))
theorem Ba:OpR X (binaryOp .Add) Dv:=by
 intro pins s σ H x y v u Q I rx ry h
 obtain⟨l,b,xs,zs,rfl,rfl,hH,hB,hz,q⟩:=h
 cases rx
 cases ry
 obtain⟨z,its,n,r,hl,e⟩:=I.lstM hH
 obtain⟨z2,its2,n2,r2,hl2,e2⟩:=I.lstM hB
 refine PySem.P.add_list e e2 ?_ (by rw[List.size_toArray,List.size_toArray];omega)
 have ea:its.toArray++its2.toArray=(its++its2).toArray:=by simp
 rw[ea]
 exact⟨.ref _,_,I.lnew (t':=s.toks) (r.append r2) (by rw[List.length_append];omega),rfl,q _ I.fresh⟩
end
section
variable {prog:Program}{w:World}{A:Around}{E:Value->Shared->Prop}{s:Shared}
end
section
variable {X:Cx}
end
end L2
namespace Att
open PySem PySem.W PySem.Calls PyProof.Rows
theorem rC {P:Params}{h:Heap}:∀ (ns:List Int) (vs:List Value),WellAll P h vs (ns.map WData.int)->IntsAre vs ns:=by
 intro ns
 induction ns with
 | nil=>
  intro vs w
  rw[List.map_nil] at w
  cases w
  exact .nil
 | cons n ns ih=>
  intro vs w
  rw[List.map_cons] at w
  cases w with
  | cons a b=>
   cases a
   exact .cons _ _ (ih _ b)
theorem Bb {l:OpenLaw}{n:Nat}(hn:l.most=some n){P:Params}{h:Heap}{args:List WData}{vals:List Value}
  (hpre:l.row.toRowW.claim.pre args=true) (hwl:WellAll P h vals args):
  ∃ a vs ns,vals=[Value.ref a]/\args=[WData.list (ns.map WData.int)]/\h.get? a=some { cls:=.type "list",data:=.seq vs.toArray }/\IntsAre vs ns/\ns.length<=n:=by
 have hsh:WShape.hasAll [] args [.list .int]=true:=(pre_splitW hpre).1
 have hc:l.pre.holds [] { args:=args }=true:=(pre_splitW hpre).2
 obtain⟨d,r,rfl,h1,h2⟩:=hasAllW_cons hsh
 obtain rfl:=hasAllW_nil h2
 obtain⟨xs,rfl,h3⟩:=hasW_list h1
 obtain⟨ns,rfl⟩:=items_int h3
 have hlen:ns.length<=n:=by
  unfold OpenLaw.pre at hc
  have h4:(WTm.not (.lt (.lit (.int (n:Int))) (.len (.arg 0)))).holds [] { args:=[.list (ns.map .int)] }=true:=by
   have h4:=(holds_andW hc).1
   rw[hn] at h4
   exact h4
  have h5:=condW_of h4 (w_not (w_lt w_lit (w_len_list (w_arg rfl))))
  rw[List.length_map] at h5
  refine Nat.le_of_not_lt λq=>?_
  have q':(n:Int) < ((ns.length:Nat):Int):=by omega
  first
   | (rw[decide_eq_true q'] at h5;exact absurd h5 (by decide))
   | (simp at h5;omega)
 cases hwl with
 | cons w1 w2=>
  cases w2
  cases w1 with
  | list ho hall=>exact⟨_,_,ns,rfl,rfl,ho,rC ns _ hall,hlen⟩
theorem Bc (l:OpenLaw) (args:List WData):l.row.toRowW.claim.post args (.bool true) args=true:=
 postW_of (r:=l.row.toRowW) (X:=(true == true))
  (show WShape.has [] (.bool true) .bool=true by first | rfl | decide | simp[WShape.has,WShape.arms,WShape.armsAll])
  (show (WTm.eq .res (.lit (.bool true))).value [] { args:=args,res:=some (.bool true),after:=args }=some (.bool (true == true)) from w_eq_bool (w_res rfl) w_lit) rfl
theorem attach_call {l:OpenLaw}{n:Nat}{q:Program}{loose:List Str}{XP:(Str->Option Value)->Heap->Prop}{YP:World->Heap->Prop}{d:DefRec}
  (hn:l.most=some n) (hdf:d.params.defaults=[])
  (call:∀ (w:World) (s₀ s₁:Shared) (mg mb:Str->Option Value) (fa:Addr) (o:Obj) (pm cd doc:Value) (a:Addr) (vs:List Value) (ns:List Int),
   Ground q loose [] XP w s₀ mg mb s₁.heap->YP w s₁.heap->
   s₁.heap.get? fa=some o->o.data=.func (docDef d.name d.params d.body d.scope pm cd doc)->s₁.heap.CodeRec cd d.name->mg d.name=some (.ref fa)->
   s₁.heap.get? a=some { cls:=.type "list",data:=.seq vs.toArray }->IntsAre vs ns->ns.length<=n->s₁.gens=#[]->
   codeAny (model l.prog w) callerA (.call (.ref fa) ⟨[.ref a],[]⟩) (λr s'=>r=.ok (.ret (.bool true))/\OldK s₁.heap s'.heap/\s'.os=s₁.os/\AllBare s'.gens) s₁):
  WalkO q loose XP YP l.row.toRowW d [] (λf vs=>PySem.call f vs):=by
 intro w s₀ s₁ mg mb G Y fa o pm cd doc dV kV ho hd hcd hD hmg hg args vals as hpre hlay hrd hwl hlo
 obtain rfl:dV=.none:=Dflts.none hD hdf
 obtain rfl:kV=.none:=Dflts.noKw hD
 obtain⟨a,vs,ns,rfl,rfl,hobj,hints,hlen⟩:=Bb hn hpre hwl
 refine enter_call (codeAny_mono (call w s₀ s₁ mg mb fa o pm cd doc a vs ns G Y ho (fd_plain hd) hcd hmg hobj hints hlen hg) λr s' hq=>?_)
 obtain⟨rfl,h2,h3,h4⟩:=hq
 exact⟨.inl ⟨.bool true,.bool true,[],rfl,λ_=>rfl,.bool true,Bc l _,λ_=>⟨List.Pairwise.nil,λ_ hm=>(nomatch hm)⟩⟩,h2,h3,h4⟩
section
variable {prog:Program}{w:World}{A:Around}{E:Value->Shared->Prop}{s:Shared}{K:Frag}
theorem uF {x C:Addr}{ox:Obj}{es:List DictEntry}{n:Nat}{name:Str}{expr:Bool}{v:Value}{Q:Value->Shared->Prop}
  (X:K.In s.heap) (I:PySem.W.InstAt s.heap x ox C (some (dictOf es n))) (hg:plainGet K C name=true) (hh:hasDictIn K C=true) (ha:findIn K (.ref C) name=some none)
  (hl:getL name es=some (some v)) (hv:handedIn v=true) (h:Q v { s with toks:=s.toks+1 }):wpAny (model prog w) A (getAttr (.ref x) name expr) Q E s:=
 get_value X I (plainGet_of hg).1 (findObj_own hh ha rfl hl) hv h
def ledger (h:Heap) (L d:Addr):List (Addr×Obj):=(List.range h.objs.size).filterMap λa=>if a=L\/a=d then none else (h.get? a).map λo=>(a,o)
end
end Att
namespace L2
open PySem PySem.Spec PyProof.Rows
theorem uG:∀ {vs:List Value}{ns:List Int},IntsAre vs ns->Vals (ns.map V.int) vs
 | _,_,.nil=>.nil
 | _,_,.cons n t h=>.cons ⟨t,rfl⟩ (uG h)
def Only (H:Hp):Prop:=∀ b,H b=none\/∃ o xs,H b=some (.frz o (.lst xs))
theorem Dw {P:Program}{w:World}{K:PySem.W.Frag}{mg mb:Str->Option Value}{CX:CXT}{k:Nat}{fa a:Addr}{fd:FuncData}{x:Str}{sp:Sp}{s₁:Shared}{vs:List Value}{ns:List Int}
  (KX:K.In s₁.heap) (hns:s₁.heap.Ns mainGlobals mg) (hb:s₁.heap.Ns builtinsNs mb) (hbb:∀ x:Str,x ≠ "__name__" -> mb x=bootBuiltins x) (hlim:s₁.heap.NoLimit) (hg:s₁.gens=#[])
  (ha:s₁.heap.get? a=some { cls:=.type "list",data:=.seq vs.toArray }) (hi:IntsAre vs ns) (hl:ns.length<=sizeLine) (hr:Room k callerA)
  (F:∀ base:Heap,K.In base->base.Ns mainGlobals mg->FnOk P w K mg base CX k fa fd [x] sp) (hbind:∀ (s:Shared) (u:Value),BindsTo s fd ⟨[u],[]⟩ [(x,u)])
  (hsp:∀ H:Hp,Only H->SqL K H a (ns.map V.int)->sp [.ref a] H (λv _=>v=.bl true) λ_ _ _=>False)
  (hCX:∀ H e s',CX [] H s₁ (λ_ _ _=>False) e s'->False):
  codeAny (model P w) callerA (.call (.ref fa) ⟨[.ref a],[]⟩) (λr s'=>r=.ok (.ret (.bool true))/\OldK s₁.heap s'.heap/\s'.os=s₁.os/\AllBare s'.gens) s₁:=by
 have rv:=uG hi
 have lenV:=hi.length
 have core:∀ H:Hp,Only H->SqL K H a (ns.map V.int)->HOk P w K H s₁.heap->(∀ b,H b≠none->b=a)->(H a≠none->K.lookup a=none)->
   codeAny (model P w) callerA (.call (.ref fa) ⟨[.ref a],[]⟩) (λr s'=>r=.ok (.ret (.bool true))/\OldK s₁.heap s'.heap/\s'.os=s₁.os/\AllBare s'.gens) s₁:=by
  intro H hO hS hok hA hK
  have base_of:∀ {b:Addr}{o:Obj},s₁.heap.get? b=some o->H b=none->(mZ s₁.heap H).get? b=some o:=λe n=>C_ e n
  have noA:∀ {b:Addr}{o:Obj}{es:Array DictEntry}{ep:Nat},s₁.heap.get? b=some o->o.data=.dict es ep->H b=none:=λ{b o es ep} e d=>by
   cases q:H b with
   | none=>rfl
   | some u=>
    have e':b=a:=hA b (by rw[q];simp)
    subst e'
    rw[ha] at e;cases e
    have d':Data.seq vs.toArray _=Data.dict es ep:=d
    cases d'
  have nsK:∀ {b:Addr}{m:Str->Option Value},s₁.heap.Ns b m->(mZ s₁.heap H).Ns b m:=λ{b m} ⟨o,es,ep,e,d,r⟩=>⟨o,es,ep,base_of e (noA e d),d,r⟩
  have hKb:K.In (mZ s₁.heap H):=λb o e=>base_of (KX b o e) (by
   cases q:H b with
   | none=>rfl
   | some u=>
    have e':b=a:=hA b (by rw[q];simp)
    subst e'
    rw[hK (by rw[q];simp)] at e;cases e)
  have hM:Mod K mg (mZ s₁.heap H):=⟨hKb,nsK hns,⟨mb,nsK hb,hbb⟩,let ⟨mc,h1,h2⟩:=hlim;⟨mc,nsK h1,h2⟩⟩
  have e0:Env0 P w K mg (mZ s₁.heap H) callerA [] s₁ H:=⟨rfl,hM,λb o e=>Gh e,Nat.le_of_eq (Aa _ _),trivial,λb hb=>absurd (show b∈([]:List Addr) from hb) (by simp),hok,.of_eq hg⟩
  refine codeAny_mono ((F _ hKb (nsK hns)).run callerA [] s₁ H ⟨[.ref a],[]⟩ [.ref a] [.ref a] _ _ hr e0 (hbind s₁ (.ref a)) (.cons rfl .nil) (hsp H hO hS)) λr s' h=>?_
  cases r with
  | error e=>exact(hCX H e s' h).elim
  | ok fl=>
   cases fl with
   | next=>exact False.elim h
   | brk=>exact False.elim h
   | cont=>exact False.elim h
   | ret u=>
    obtain⟨v,H',os,bare,un,hok',r',q⟩:=h
    have q':v=.bl true:=q
    subst q'
    obtain rfl:u=Value.bool true:=r'
    refine⟨rfl,OldK.of_keep λb o e=>?_,os,bare⟩
    cases q:H b with
    | none=>exact un.keep b o e q (by intro z;exact absurd (show b∈([]:List Addr) from z) (by simp)) (by simp)
    | some u=>
     rcases hO b with z | ⟨ob,xs,z⟩
     ·rw[q] at z;cases z
     ·have z2:=un.frzs b ob _ z
      obtain⟨e1,_⟩:=hok b _ z
      obtain⟨e2,_⟩:=hok' b _ z2
      rw[e] at e1;cases e1
      exact e2
 cases hk:K.lookup a with
 | some o=>
  have e:=KX a o hk
  rw[ha] at e
  cases e
  refine core (λ_=>none) (λ_=>.inl rfl) (.inr ⟨_,vs.toArray,_,hk,rfl,rfl,rfl,by rw[List.size_toArray,lenV];exact hl,by simpa using rv⟩) (λb u z=>by have z':(none:Option HO)=some u:=z;cases z') (λb z=>absurd rfl z) λz=>absurd rfl z
 | none=>
  refine core (λb=>if b=a then some (.frz { cls:=.type "list",data:=.seq vs.toArray } (.lst (ns.map V.int))) else none) (λb=>?_) (.inl (.inr ⟨{ cls:=.type "list",data:=.seq vs.toArray },if_pos rfl⟩)) (λb u z=>?_) (λb z=>?_) λ_=>hk
  ·by_cases hb:b=a
   ·exact .inr ⟨_,_,if_pos hb⟩
   ·exact .inl (if_neg hb)
  ·by_cases hb:b=a
   ·have z':=(if_pos hb).symm.trans z
    cases z'
    subst hb
    exact⟨ha,by rw[List.length_map];exact hl,vs,_,rv,ha⟩
   ·have z':=(if_neg hb).symm.trans z
    cases z'
  ·by_cases hb:b=a
   ·exact hb
   ·exact absurd (if_neg hb) z
end L2
namespace L2
open PySem PySem.Spec PyProof.Rows
theorem walk_of {l:PySem.W.OpenLaw}{n k:Nat}{q:Program}{loose:List Str}{XP:(Str->Option Value)->Heap->Prop}{YP:World->Heap->Prop}{d:DefRec}{K:Params->PySem.W.Frag}{CX:World->CXT}{sp:World->Sp}{x:Str}
  (hn:l.most=some n) (hn2:n<=sizeLine) (hdf:d.params.defaults=[]) (hr:Room k callerA)
  (hY:∀ (w:World) (h:Heap),YP w h->(K w.params).In h)
  (F:∀ (w:World) (mg:Str->Option Value) (fa:Addr) (h:Heap),(K w.params).In h->h.Ns mainGlobals mg->mg d.name=some (.ref fa)->
   ∃ fd:FuncData,(∀ (s:Shared) (u:Value),BindsTo s fd ⟨[u],[]⟩ [(x,u)]) /\
    ∀ base:Heap,(K w.params).In base->base.Ns mainGlobals mg->FnOk l.prog w (K w.params) mg base (CX w) k fa fd [x] (sp w))
  (hsp:∀ (w:World) (H:Hp) (a:Addr) (ns:List Int),ns.length<=n->Only H->SqL (K w.params) H a (ns.map V.int)->sp w [.ref a] H (λv _=>v=.bl true) λ_ _ _=>False)
  (hCX:∀ (w:World) (H:Hp) (s:Shared) (e:Value) (s':Shared),CX w [] H s (λ_ _ _=>False) e s'->False):
  PySem.W.WalkO q loose XP YP l.row.toRowW d [] (λf vs=>PySem.call f vs):=by
 refine Att.attach_call hn hdf λw s₀ s₁ mg mb fa o pm cd doc a vs ns G Y ho hd hcd hmg hobj hints hlen hg=>?_
 have KX:=hY w _ Y
 obtain⟨fd,hb,hF⟩:=F w mg fa _ KX G.T.g hmg
 exact Dw KX G.T.g G.T.b G.T.builtins G.T.nolimit hg hobj hints (Nat.le_trans hlen hn2) hr hF hb (λH hO hS=>hsp w H a ns hlen hO hS) λH e s'=>hCX w H s₁ e s'
end L2
namespace L2
open PySem PySem.Spec PyProof.Rows
def inClass (s:Stmt) (j:Nat):Stmt:=match s with
 | .ClassDef _ _ _ body _ _ _ _ _ _ _=>body.getD j (.Pass ⟨0,0,0,0⟩)
 | _=>.Pass ⟨0,0,0,0⟩
def bz (s:Stmt):Arguments:=match s with
 | .FunctionDef _ a _ _ _ _ _ _ _ _=>a
 | _=>{ posonlyargs:=[],args:=[],vararg:=none,kwonlyargs:=[],kw_defaults:=[],kwarg:=none,defaults:=[] }
def bc (s:Stmt):List Stmt:=match s with
 | .FunctionDef _ _ b _ _ _ _ _ _ _=>b
 | _=>[]
def au (s:Stmt):Scope:=match s with
 | .FunctionDef _ _ _ _ _ _ sc _ _ _=>sc
 | _=>{ kind:=.function,names:=[],isGenerator:=false,isCoroutine:=false }
abbrev CX0:CXT:=λ_ _ _ _ _ _=>False
abbrev E0:XK:=λ_ _ _=>False
theorem FT {X:Cx}:oV CX0 X E0:=λ_ _ _ _ _ _ _ h=>h.elim
structure Fun (K:PySem.W.Frag) (x qual:Str) (st:Stmt) (f:Addr) (fd:FuncData):Prop where
 ex:∃ (oc:Value) (od:Option Addr) (kV doc pm:Value) (an:Option Addr) (cdv ct:Value) (osl:Array (Option Value)),
  fd=PySem.W.fnOf x qual (bz st) (bc st) (au st) .none kV doc pm an cdv ct/\K.lookup f=some ⟨oc,od,.func fd,osl⟩/\PySem.W.codeIn K cdv qual=true
 kp:PySem.W.keepIn K (.ref f)=true
section
variable {P:Program}{w:World}{K:PySem.W.Frag}{mg:Str->Option Value}{base:Heap}
theorem Fun.ok {x qual:Str}{st:Stmt}{f:Addr}{fd:FuncData}{N ps:List Str}{k:Nat}{sp:Sp}(F:Fun K x qual st f fd) (S:FnScope N ps (au st)) (len:∀ vs H Q E,sp vs H Q E->vs.length=ps.length)
  (hbody:∀ (cdv:Value) (A:Around) (outer:List Env) (s:Shared) (H:Hp) (vs:List V) (Q:VK) (E:XK),Room k (A.deeper (envOfC qual (au st) s.heap.objs.size f cdv))->sp vs H Q E->
   ∃ t,PSs (cG CX0 P w K mg base N qual (au st) f cdv A outer s H E).nox (bc st) t/\t { nx:=λ_ H'=>Q .non H',rt:=Q } (start N vs) H):FnOk P w K mg base CX0 (k+1) f fd ps sp:=by
 obtain⟨oc,od,kV,doc,pm,an,cdv,ct,osl,rfl,lk,hcd⟩:=F.ex
 refine FJ lk hcd S len λA outer s H vs Q E hr hsp=>?_
 obtain⟨t,h,q⟩:=hbody cdv A outer s H vs Q E hr hsp
 exact⟨t,h.nox,q⟩
theorem Fun.binds {x qual:Str}{st:Stmt}{f:Addr}{fd:FuncData}{ps:List Str}(F:Fun K x qual st f fd)
  (h:∀ (kV doc pm:Value) (an:Option Addr) (cdv ct:Value) (us:List Value),us.length=ps.length->bindArgs (PySem.W.fnOf x qual (bz st) (bc st) (au st) .none kV doc pm an cdv ct) ⟨us,[]⟩=pure (ps.zip us)):Binds K fd ps []:=by
 obtain⟨oc,od,kV,doc,pm,an,cdv,ct,osl,rfl,lk,hcd⟩:=F.ex
 exact .all (h kV doc pm an cdv ct)
theorem cz {x qual:Str}{st:Stmt}{f:Addr}{oc:Value}{od an:Option Addr}{osl:Array (Option Value)}{kV doc pm cdv ct:Value}(l:K.lookup f=some ⟨oc,od,.func (PySem.W.fnOf x qual (bz st) (bc st) (au st) .none kV doc pm an cdv ct),osl⟩)
  (c:PySem.W.codeIn K cdv qual=true) (k:PySem.W.keepIn K (.ref f)=true):Fun K x qual st f (PySem.W.fnOf x qual (bz st) (bc st) (au st) .none kV doc pm an cdv ct):=⟨⟨oc,od,kV,doc,pm,an,cdv,ct,osl,rfl,l,c⟩,k⟩
end
theorem vy {A:Around}{k:Nat}(hr:Room k A):A.units+1 < cLine:=Nat.lt_of_le_of_lt (Nat.add_le_add_left (by decide:1<=64) _) hr.units
theorem Bd {n:Nat}(h:n<=1000):n < sizeLine:=Nat.lt_of_le_of_lt h (by decide)
section
variable {X:Cx}
theorem pv (i:Nat){x:Str}{pos:Pos}(hN:X.N[i]?=some x:=by rfl) (hv:Vis X.env.scope x:=by first | exact Or.inl rfl | exact Or.inr (Or.inl rfl) | exact Or.inr (Or.inr rfl)) (hd:(x == ("__debug__" : Str))=false:=by decide)
  (hcd:(x == ("__classdict__" : Str))=false:=by decide):PE X (.Name x pos) (Ia i):=dj hN hv hd hcd
end
theorem Jt {A B:Prop}(h:B):if false=true then A else B:=by
 rw[if_neg Bool.false_ne_true]
 exact h
theorem Ju {A B:Prop}(h:A):if true=true then A else B:=by
 rw[if_pos rfl]
 exact h
def Same (H H':Hp):Prop:=∀ b o,H b=some o->H' b=some o
theorem Same.refl (H:Hp):Same H H:=λ_ _ h=>h
theorem Same.trans {H H1 H2:Hp}(a:Same H H1) (b:Same H1 H2):Same H H2:=λc o h=>b c o (a c o h)
theorem Same.free {H H':Hp}(e:Same H H'){l:Addr}(h:H' l=Option.none):H l=Option.none:=by
 cases q:H l with
 | none=>rfl
 | some o=>
  rw[e l o q] at h
  cases h
theorem Same.seq {K:PySem.W.Frag}{H H':Hp}{a:Addr}{xs:List V}(e:Same H H') (h:SqL K H a xs):SqL K H' a xs:=by
 rcases h with (h | ⟨o,h⟩) | h
 ·exact .inl (.inl (e _ _ h))
 ·exact .inl (.inr ⟨o,e _ _ h⟩)
 ·exact .inr h
end L2
namespace L2
open PySem PySem.Spec PyProof.Rows
section
variable {X:Cx}
theorem Be:CallR X (.builtin "len") (λxs H Q=>∃ a kvs,xs=[V.ref a]/\H a=some (.dK kvs)/\Q (.int kvs.length) H):=by
 intro pins s σ H xs us Q I r h
 obtain⟨a,kvs,rfl,ha,q⟩:=h
 obtain⟨u,rfl,ru⟩:=vals1 r
 cases ru
 exact LK I (.inl ha) λt s' I'=>⟨.int kvs.length,H,I',⟨t,rfl⟩,q⟩
end
section
variable {κ:Type} [DecidableEq κ]
end
end L2
namespace L2
open PySem PySem.Spec PyProof.Rows
theorem qN {α β:Type}{l:List α}{f:α->β->Sem (ForInStep β)}(g:α->β->β):∀ (c:β),(∀ x∈l,∀ c,f x c=pure (.yield (g x c)))->
  forIn l c f=pure (l.foldl (λc x=>g x c) c):=by
 induction l with
 | nil=>intro c _;rfl
 | cons x l ih=>
  intro c h
  rw[List.forIn_cons,h x List.mem_cons_self,pure_bind]
  exact ih _ λy hy=>h y (List.mem_cons_of_mem _ hy)
def h_ (env:Env) (x:Str×NameKind) (c:List (Str×Addr)):List (Str×Addr):=if x.2=.free then (x.1,(env.cells.lookup x.1).getD 0)::c else c
def qO (env:Env) (names:List (Str×NameKind)):List (Str×Addr):=names.foldl (λc x=>h_ env x c) []
theorem u5 {scope:Scope}{env:Env}(h:∀ x∈scope.names,x.2=.free->∃ c,env.cells.lookup x.1=some c):closureFor scope env=pure (qO env scope.names):=by
 simp only[closureFor]
 rw[qN (h_ env) [] (λx hx c=>by
  obtain⟨n,kind⟩:=x
  by_cases e:kind=.free
  ·subst e
   obtain⟨a,ha⟩:=h _ hx rfl
   have ha':env.cells.lookup n=some a:=ha
   simp[h_,cellOf,ha']
  ·have:(kind == NameKind.free)=false:=by simpa using e
   simp[h_,e,this])]
 rfl
theorem rD {env:Env}:∀ (l:List (Str×NameKind)) (cs:List (Str×Addr)),(∀ x∈l,x.2=.free->∃ c,env.cells.lookup x.1=some c)->(∀ y c,cs.lookup y=some c->env.cells.lookup y=some c)->
  ∀ y c,(l.foldl (λc x=>h_ env x c) cs).lookup y=some c->env.cells.lookup y=some c
 | [],cs,_,h2,y,c,e=>h2 y c e
 | x::r,cs,h1,h2,y,c,e=>by
  refine rD r (h_ env x cs) (λz hz=>h1 z (List.mem_cons_of_mem _ hz)) (λz d q=>?_) y c e
  unfold h_ at q
  by_cases k:x.2=.free
  ·rw[if_pos k] at q
   obtain⟨a,ha⟩:=h1 x List.mem_cons_self k
   rw[List.lookup_cons] at q
   cases hb:z == x.1 with
   | true=>
    rw[hb] at q
    have ez:z=x.1:=by simpa using hb
    rw[ha] at q
    have q':a=d:=by simpa using q
    rw[ez,ha,q']
   | false=>
    rw[hb] at q
    exact h2 z d q
  ·rw[if_neg k] at q
   exact h2 z d q
theorem lF {env:Env}{names:List (Str×NameKind)}(h:∀ x∈names,x.2=.free->∃ c,env.cells.lookup x.1=some c){y:Str}{c:Addr}(e:(qO env names).lookup y=some c):env.cells.lookup y=some c:=
 rD names [] h (λy c q=>by simp at q) y c e
theorem rE {env:Env}{y:Str}:∀ (l:List (Str×NameKind)) (cs:List (Str×Addr)),((y,.free)∈l\/∃ c,cs.lookup y=some c)->∃ c,(l.foldl (λc x=>h_ env x c) cs).lookup y=some c
 | [],cs,h=>by
  rcases h with h | h
  ·simp at h
  ·exact h
 | x::r,cs,h=>by
  refine rE r (h_ env x cs) ?_
  rcases h with h | ⟨c,h⟩
  ·rcases List.mem_cons.mp h with e | e
   ·refine .inr ⟨(env.cells.lookup y).getD 0,?_⟩
    rw[← e]
    simp[h_]
   ·exact .inl e
  ·refine .inr ?_
   unfold h_
   split
   ·rw[List.lookup_cons]
    split
    ·exact⟨_,rfl⟩
    ·exact⟨c,h⟩
   ·exact⟨c,h⟩
theorem Bf {env:Env}{names:List (Str×NameKind)}{y:Str}(h:(y,.free)∈names):∃ c,(qO env names).lookup y=some c:=rE names [] (.inl h)
theorem mem_of_lookup {x:Str}{k:NameKind}:∀ {l:List (Str×NameKind)},l.lookup x=some k->(x,k)∈l
 | [],h=>by simp at h
 | (n,j)::r,h=>by
  rw[List.lookup_cons] at h
  cases hb:x == n with
  | true=>
   rw[hb] at h
   have e:x=n:=by simpa using hb
   have e2:j=k:=by simpa using h
   rw[e,e2]
   exact List.mem_cons_self
  | false=>
   rw[hb] at h
   exact List.mem_cons_of_mem _ (mem_of_lookup h)
theorem oW {env:Env}:∀ {names:List (Str×NameKind)}{x:Str},names.lookup x=some .free->
  (names.map λ(n,k)=>if (k == NameKind.free&&env.scope.kind == .function&&env.kindOf n == some .cell) then (n,NameKind.cell) else (n,k)).lookup x=some .cell \/
  (names.map λ(n,k)=>if (k == NameKind.free&&env.scope.kind == .function&&env.kindOf n == some .cell) then (n,NameKind.cell) else (n,k)).lookup x=some .free
 | [],_,h=>by simp at h
 | (n,k)::r,x,h=>by
  have ih:=@oW env r x
  cases hx:x == n with
  | true=>
   simp only[List.lookup_cons,hx] at h
   cases h
   by_cases hc:(NameKind.free == NameKind.free&&env.scope.kind == .function&&env.kindOf n == some .cell)=true
   ·refine .inl ?_
    simp only[List.map_cons,if_pos hc,List.lookup_cons,hx]
   ·refine .inr ?_
    simp only[List.map_cons,if_neg hc,List.lookup_cons,hx]
  | false=>
   simp only[List.lookup_cons,hx] at h
   have ih:=ih h
   by_cases hc:(k == NameKind.free&&env.scope.kind == .function&&env.kindOf n == some .cell)=true
   ·simp only[List.map_cons,if_pos hc,List.lookup_cons,hx]
    exact ih
   ·simp only[List.map_cons,if_neg hc,List.lookup_cons,hx]
    exact ih
theorem m9 {env:Env}:∀ {names:List (Str×NameKind)}{x:Str}{j:NameKind},(∀ y∈names,y.2≠.cell)->(j=.cell\/j=.free)->
  (names.map λ(n,k)=>if (k == NameKind.free&&env.scope.kind == .function&&env.kindOf n == some .cell) then (n,NameKind.cell) else (n,k)).lookup x=some j->(x,.free)∈names
 | [],_,_,_,_,h=>by simp at h
 | (n,k)::r,x,j,hn,hj,h=>by
  have ih:=@m9 env r x j (λy hy=>hn y (List.mem_cons_of_mem _ hy)) hj
  cases hx:x == n with
  | true=>
   have e:x=n:=by simpa using hx
   subst e
   by_cases hc:(k == NameKind.free&&env.scope.kind == .function&&env.kindOf x == some .cell)=true
   ·have hk:k=.free:=by
     simp only[Bool.and_eq_true,beq_iff_eq] at hc
     exact hc.1.1
    subst hk
    exact List.mem_cons_self
   ·simp only[List.map_cons,if_neg hc,List.lookup_cons,hx] at h
    have hk:k=j:=by simpa using h
    rcases hj with z | z
    ·exact absurd (hk.trans z) (hn (x,k) List.mem_cons_self)
    ·rw[hk,z]
     exact List.mem_cons_self
  | false=>
   by_cases hc:(k == NameKind.free&&env.scope.kind == .function&&env.kindOf n == some .cell)=true
   ·simp only[List.map_cons,if_pos hc,List.lookup_cons,hx] at h
    exact List.mem_cons_of_mem _ (ih h)
   ·simp only[List.map_cons,if_neg hc,List.lookup_cons,hx] at h
    exact List.mem_cons_of_mem _ (ih h)
abbrev Cx.comp (X:Cx) (N:List Str) (scope:Scope) (C:Addr) (s:Shared) (H:Hp) (fp:List Addr):Cx where
 prog:=X.prog
 w:=X.w
 K:=X.K
 mg:=X.mg
 base:=X.base
 A:=X.A
 N:=N
 s₀:=s
 H₀:=H
 env:=compEnvC scope (qO X.env scope.names) C X.env
 outer:=X.stack
 stack:=X.stack
 ex:=fp
 fn:=λ_=>false
 calm:=X.calm
 pn:=[]
 xe:=λ_ _=>False
def yX (scope:Scope) (ON N:List Str) (cap:List (Option Nat)):Bool:=
 cap.length == N.length&&(List.range N.length).all λj=>match cap[j]? with
  | some (some i)=>(match N[j]?,ON[i]? with
   | some x,some y=>x == y&&(scope.names.lookup x == some NameKind.free)
   | _,_=>false)
  | _=>true
structure CSc (osc scope:Scope) (ON N:List Str) (cap:List (Option Nat)):Prop where
 kind:scope.kind=.function
 noc:∀ y∈scope.names,y.2≠.cell
 loc:∀ y∈scope.names,y.2=.local->scope.names.lookup y.1=some .local
 fr:∀ y∈scope.names,y.2=.free->osc.names.lookup y.1=some .cell\/osc.names.lookup y.1=some .free
 cap:yX scope ON N cap=true
theorem CSc.at {osc scope:Scope}{ON N:List Str}{cap:List (Option Nat)}(S:CSc osc scope ON N cap){j i:Nat}{x:Str}(h:cap[j]?=some (some i)) (hx:N[j]?=some x):ON[i]?=some x/\scope.names.lookup x=some .free:=by
 have h0:=S.cap
 unfold yX at h0
 rw[Bool.and_eq_true] at h0
 have hj:j < N.length:=(List.getElem?_eq_some_iff.mp hx).1
 have h1:=List.all_eq_true.mp h0.2 j (List.mem_range.mpr hj)
 rw[h] at h1
 dsimp only at h1
 rw[hx] at h1
 cases hy:ON[i]? with
 | none=>rw[hy] at h1;simp at h1
 | some y=>
  rw[hy] at h1
  simp only[Bool.and_eq_true,beq_iff_eq] at h1
  exact⟨by rw[h1.1],h1.2⟩
theorem CSc.len {osc scope:Scope}{ON N:List Str}{cap:List (Option Nat)}(S:CSc osc scope ON N cap):cap.length=N.length:=by
 have h0:=S.cap
 unfold yX at h0
 rw[Bool.and_eq_true,beq_iff_eq] at h0
 exact h0.1
def v8 (σ:St):Option Nat->Option V
 | some i=>(σ[i]?).getD none
 | none=>none
def fc (cap:List (Option Nat)) (σ:St):St:=cap.map (v8 σ)
def oX (X:Cx) (ifs:List Expr) (t:TT):Prop:=
 ∀ (pins:List (Addr×Obj)) (s:Shared) (σ:St) (H:Hp) (Q:Bool->Hp->Prop),Inv X pins σ H s->t σ H Q->
  wpAny (model X.prog X.w) X.A (forIn ifs true λc r=>if r=true then do let ok ← isTrue c X.env (eval c X.env);pure (ForInStep.yield ok) else pure (ForInStep.yield r)) (TP X pins σ Q) X.xe s
def Om:TT:=λ_ H Q=>Q true H
theorem Dy {X:Cx}:oX X [] Om:=λ_ _ _ H _ I h=>wpAny_tests_nil ⟨H,I,h⟩
theorem jD {X:Cx}{c:Expr}{t:TT}(h:PT X c t):oX X [c] t:=λpins s σ H Q I q=>wpAny_tests_one (h pins s σ H Q I q)
theorem lR {prog:Program}{w:World}{A:Around}{R:Result->Shared->Prop}{s:Shared}{elt target iter:Expr}{ifs:List Expr}{scope:Scope}{pos:Pos}{it acc:Value}{env:Env}(I:Nat->Shared->Prop)
  (turn:∀ n s,I n s->wpAny (model prog w) A (pyNext it) (λr s₁=>match r with
   | none=>R (.ok .next) s₁
   | some v=>wpAny (model prog w) A (letOwnedTupleGo target it v) (λ_ s₁'=>wpAny (model prog w) A (assign target env v) (λ_ s₂=>
     wpAny (model prog w) A (forIn ifs true λc r=>if r=true then do let ok ← isTrue c env (eval c env);pure (ForInStep.yield ok) else pure (ForInStep.yield r)) (λok s₃=>
      if ok=true then wpAny (model prog w) A (eval elt env) (λx s₄=>
       wpAny (model prog w) A (call (.builtin "list.append") [acc,x]) (λ_ s₅=>∃ m,m < n/\I m s₅) (λ_ _=>False) s₄) (λ_ _=>False) s₃
      else ∃ m,m < n/\I m s₃) (λ_ _=>False) s₂) (λ_ _=>False) s₁') (λ_ _=>False) s₁) (λ_ _=>False) s)
  (n:Nat) (h:I n s):
  codeAny (model prog w) A (.compLoop (.ListComp elt [⟨target,iter,ifs,0⟩] scope pos) 0 it acc env) R s:=by
 refine codeAny_loop rfl I (λn s hI=>?_) n h
 show wpAny _ A ((compTurn (.ListComp elt [⟨target,iter,ifs,0⟩] scope pos) 0 it acc env).onRaise (λx=>do noteFrame x env;theTreesLotGoes x)) _ _ s
 refine wpAny_noted ?_
 rw[compTurn_list]
 refine wpAny_bind (wpAny_standAt (wpAny_bind (wpAny_mono (turn n s hI) (λr s₁ h₁=>?_) λ_ _ h'=>h'.elim)))
 cases r with
 | none=>exact wpAny_pure h₁
 | some v=>
  refine wpAny_bind (wpAny_mono h₁ (λ_ s₁' h₁'=>?_) λ_ _ h'=>h'.elim)
  refine wpAny_bind (wpAny_mono h₁' (λ_ s₂ h₂=>wpAny_bind (wpAny_mono h₂ (λok s₃ h₃=>?_) λ_ _ h'=>h'.elim)) λ_ _ h'=>h'.elim)
  cases ok with
  | false=>exact wpAny_pure ⟨rfl,h₃⟩
  | true=>
   exact wpAny_bind (wpAny_bind (wpAny_mono h₃ (λx s₄ h₄=>wpAny_bind (wpAny_mono h₄ (λ_ s₅ h₅=>wpAny_pure (wpAny_pure ⟨rfl,h₅⟩)) λ_ _ h'=>h'.elim)) λ_ _ h'=>h'.elim))
def Kp (σ σ2:St):Prop:=σ.length=σ2.length/\∀ (i:Nat) (v:V),σ[i]?=some (some v)->σ2[i]?=some (some v)
structure TComp (wi:TI) (cap:List (Option Nat)) (g:TG) (tt:TT) (te:TE) (σ:St) (H:Hp) (Q:VK):Prop where
 ex:wi σ H λJ H1=>∀ D,H1 D=none->∃ W:Nat->Nat->List V->Hp->Prop,
 (∃ m,W 0 m [] (upd H1 D (.lst [])))/\∀ i m ys H,W i m ys H->H D=some (.lst ys)/\((J.stop i H/\Q (.ref D) H) \/
  (J.go i H/\∃ N:List V->Hp->Prop,(∀ ys' H',N ys' H'->∃ m',m' < m/\W (i+1) m' ys' H')/\∀ x H',J.yld i H x H'->g x (fc cap σ) H' fun σ2 H2=>Kp (fc cap σ) σ2/\tt σ2 H2 λb H3=>
   if b=true then te σ2 H3 λy H4=>H4 D=some (.lst ys)/\ys.length < sizeLine/\N (ys++[y]) (upd H4 D (.lst (ys++[y]))) else N ys H3))
def vz (wi:TI) (cap:List (Option Nat)) (g:TG) (tt:TT) (te:TE):TE:=fun σ H Q=>TComp wi cap g tt te σ H Q
section
variable {X:Cx}{tg iter elt:Expr}{ifs:List Expr}{scope osc:Scope}{ON N:List Str}{cap:List (Option Nat)}{wi:TI}{g:TG}{tt:TT}{te:TE}{pos:Pos}
theorem GK {pins:List (Addr×Obj)}{σ:St}{H2:Hp}{s2:Shared}{fp:List Addr}{C:Addr}(I2:Inv X pins σ H2 s2) (S:CSc osc scope ON N cap) (hsc:X.env.scope=osc) (f2:∀ b∈fp,j8 X pins H2 b)
  (hfp:∀ b∈fp,b < s2.heap.objs.size) (hC:s2.heap.objs.size<=C):(X.comp N scope C s2 H2 fp).Ok:=by
 have hfr:∀ x∈scope.names,x.2=.free->∃ c,X.env.cells.lookup x.1=some c:=λx hx e=>I2.ok.has x.1 (by
  rcases S.fr x hx e with z | z
  ·exact .inl (by rw[Env.kindOf,hsc];exact z)
  ·exact .inr (by rw[Env.kindOf,hsc];exact z))
 refine⟨I2.mod,S.kind,I2.ok.glob,I2.ok.blt,hC,λx y c h1 h2=>I2.ok.inj x y c (lF hfr h1) (lF hfr h2),λx h=>?_,λx c h=>by simp at h,I2.ok.hd,I2.ok.frames,.inl rfl,λb hb=>⟨?_,λx c e=>?_⟩,λb o e=>I2.bs b o e,?_,λb o e hb=>?_,λb hb hz=>?_,I2.stack,I2.stkFree⟩
 ·have hm:(x,NameKind.free)∈scope.names:=by
   rcases h with h | h
   ·exact m9 (env:=X.env) S.noc (.inl rfl) h
   ·exact m9 (env:=X.env) S.noc (.inr rfl) h
  exact Bf hm
 ·exact Nat.ne_of_lt (Nat.lt_of_lt_of_le (hfp b hb) hC)
 ·exact(f2 b hb).2.2.2.2.1 x c (lF hfr e)
 ·exact Nat.le_trans I2.ok.bsz I2.sz
 ·rcases(f2 b hb).2.2.2.1 with z | z
  ·exact I2.ok.noex b o e z
  ·exact absurd (Nat.lt_of_lt_of_le (Heap.lt_size e) (Nat.le_trans I2.ok.bsz z)) (Nat.lt_irrefl _)
 ·obtain⟨_,f1,f3,_⟩:=f2 b hb
  rcases List.mem_cons.mp (I2.stkSub b hz) with z | z
  ·exact f1 z
  ·exact f3 z
theorem uH {pins:List (Addr×Obj)}{s:Shared}{σ:St}{H:Hp}{Q:VK}{RR:Value->Addr->Result->Shared->Prop}{cqual:Str}(hc:X.calm=true) (S:CSc osc scope ON N cap) (hsc:X.env.scope=osc) (hN:X.N=ON)
  (hi:PI X tg iter wi) (hg:∀ C s H fp,PG (X.comp N scope C s H fp) tg g) (ht:∀ C s H fp,oX (X.comp N scope C s H fp) ifs tt) (he:∀ C s H fp,PE (X.comp N scope C s H fp) elt te)
  (I:Inv X pins σ H s) (h:vz wi cap g tt te σ H Q)
  (fin:∀ D C H' s',Inv X pins σ H' s'->j8 X pins H' C->(∃ m,s'.heap.Ns C m)->Q (.ref D) H'->RR (.ref D) C (.ok .next) s'):
  wpAny (model X.prog X.w) X.A (eval iter X.env) (λx s₁=>wpAny (model X.prog X.w) X.A (pyIter x) (λitv s₂=>wpAny (model X.prog X.w) X.A (newList []) (λacc s₃=>
   wpAny (model X.prog X.w) X.A (newFunctionEnv scope X.env.globals (qO X.env scope.names) [] X.env.qual none .none (some X.env)) (λcenv s₄=>
    codeAny (model X.prog X.w) X.A (.compStart (.ListComp elt [⟨tg,iter,ifs,0⟩] scope pos) 0 itv acc { cenv with scope:=relabel scope X.env }) (RR acc cenv.locals) s₄) X.xe s₃) X.xe s₂) X.xe s₁) X.xe s:=by
 refine thn (hi pins s σ H _ I h.ex) λv s1 h1=>thn h1 λitv s2 h2=>?_
 obtain⟨it,fp,tn,J,H2,e,I2,T,st2,f2,q2⟩:=h2
 subst e
 refine wpAny_newObj_type (wpAny_newFunctionEnv S.noc (by intro y hy;simp at hy) (λh₁ hns₁ hsb₁=>?_) S.kind)
 dsimp only at hns₁ hsb₁ ⊢
 generalize hH2:s2.heap.push { cls:=.type "list",dict:=none,data:=.seq ([]:List Value).toArray }=P2 at hns₁ hsb₁ ⊢
 generalize hD:s2.heap.objs.size=D
 generalize hCe:P2.objs.size=C at hns₁ hsb₁ ⊢
 have hCD:C=D+1:=by rw[← hCe,← hH2,Heap.size_push,hD]
 have hCle:s2.heap.objs.size<=C:=by rw[hCD,hD];exact Nat.le_succ _
 have hfp:∀ b∈fp,b < s2.heap.objs.size:=λb hb=>by
  obtain⟨o,e,_⟩:=T.obj 0 _ st2 b hb
  exact Heap.lt_size e
 have below:∀ b,b < s2.heap.objs.size->b≠C:=λb hb=>Nat.ne_of_lt (Nat.lt_of_lt_of_le hb hCle)
 have k1:∀ b o,s2.heap.get? b=some o->h₁.get? b=some o:=λb o e=>hsb₁.extBut b o (below b (Heap.lt_size e)) (Heap.get?_push_of_some _ (hH2▸Heap.get?_push_of_some _ e))
 have hDC:D≠C:=by rw[hCD];exact Nat.ne_of_lt (Nat.lt_succ_self _)
 have gD:h₁.get? D=some { cls:=.type "list",dict:=none,data:=.seq ([]:List Value).toArray }:=by
  refine hsb₁.extBut D _ hDC (Heap.get?_push_of_some _ ?_)
  rw[← hH2,← hD]
  exact Heap.get?_push_size _ rfl
 have nD:H2 D=none:=I2.hok.fresh (by rw[hD];exact Nat.le_refl _)
 have nC:H2 C=none:=I2.hok.fresh hCle
 have hfr:∀ x∈scope.names,x.2=.free->∃ c,X.env.cells.lookup x.1=some c:=λx hx e=>I2.ok.has x.1 (by
  rcases S.fr x hx e with z | z
  ·exact .inl (by rw[Env.kindOf,hsc];exact z)
  ·exact .inr (by rw[Env.kindOf,hsc];exact z))
 obtain⟨W,⟨m0,w0⟩,turn⟩:=q2 D nD
 have IY:Inv (X.comp N scope C s2 H2 fp) [] (fc cap σ) (upd H2 D (.lst [])) { s2 with heap:=h₁,toks:=s2.toks+([]:List (Str×Value)).length }:=by
  have hp:s2.heap.objs.size<=D:=by rw[hD];exact Nat.le_refl _
  refine⟨GK I2 S hsc f2 hfp hCle,rfl,I2.bare,Un.laid k1 hp nD,⟨_,hns₁,λj x v e1 e2 e3=>?_⟩,λx c e=>?_,?_,λx c e=>?_,λp hp=>by simp at hp,I2.hok.laid k1 hp ⟨Nat.zero_le _,[],_,.nil,gD⟩,?_⟩
  ·have e2':(cap.map (v8 σ))[j]?=some (some v):=e2
   rw[List.getElem?_map] at e2'
   cases q:cap[j]? with
   | none=>rw[q] at e2';cases e2'
   | some o=>
    rw[q] at e2'
    have e4:v8 σ o=some v:=Option.some.inj e2'
    cases o with
    | none=>cases e4
    | some i=>
     have hσ:σ[i]?=some (some v):=by
      have e5:(σ[i]?).getD none=some v:=e4
      cases z:σ[i]? with
      | none=>rw[z] at e5;cases e5
      | some w=>rw[z] at e5;exact congrArg some e5
     obtain⟨hx1,hx2⟩:=S.at q e1
     have hk:X.env.kindOf x=some .cell\/X.env.kindOf x=some .free:=by
      rcases S.fr _ (mem_of_lookup hx2) rfl with z | z
      ·exact .inl (by rw[Env.kindOf,hsc];exact z)
      ·exact .inr (by rw[Env.kindOf,hsc];exact z)
     obtain⟨m,hn,hl⟩:=I2.loc
     obtain⟨u,r,l⟩:=hl i x v (by rw[hN];exact hx1) hσ (by
      rcases hk with z | z
      ·exact .inr (.inl z)
      ·exact .inr (.inr z))
     refine⟨u,r,?_⟩
     rcases l with ⟨z,_⟩ | ⟨_,c,hc',hcell⟩
     ·rcases hk with y | y
      ·rw[y] at z;cases z
      ·rw[y] at z;cases z
     ·obtain⟨c',hc2⟩:=Bf (env:=X.env) (mem_of_lookup hx2)
      have e6:=lF hfr hc2
      rw[hc'] at e6
      have e7:c=c':=Option.some.inj e6
      subst e7
      obtain⟨oc,ho,hd⟩:=hcell
      exact .inr ⟨oW (env:=X.env) hx2,c,hc2,⟨oc,k1 c oc ho,hd⟩⟩
  ·obtain⟨v,oc,ho,hd⟩:=I2.cell x c (lF hfr e)
   exact⟨v,oc,k1 c oc ho,hd⟩
  ·show upd H2 D (.lst []) C=none
   rw[aH (Ne.symm hDC)]
   exact nC
  ·have e':=lF hfr e
   obtain⟨v,oc,ho,hd⟩:=I2.cell x c e'
   show upd H2 D (.lst []) c=none
   rw[aH (λz=>absurd (Heap.lt_size ho) (by rw[z,hD];exact Nat.lt_irrefl _))]
   exact I2.freeC x c e'
  ·show (cap.map (v8 σ)).length=N.length
   rw[List.length_map]
   exact S.len
 have stat:∀ {H':Hp},(∀ b∈fp,H' b=none)->∀ b∈fp,j8 (X.comp N scope C s2 H2 fp) [] H' b:=λhn b hb=>by
  obtain⟨_,f1,f3,f4,f5,f6⟩:=f2 b hb
  refine⟨hn b hb,below b (hfp b hb),λhz=>?_,.inl hb,λx c e=>f5 x c (lF hfr e),λp hp=>by simp at hp⟩
  rcases List.mem_cons.mp (I2.stkSub b hz) with z | z
  ·exact f1 z
  ·exact f3 z
 have back:∀ {σ':St}{H':Hp}{s':Shared},Inv (X.comp N scope C s2 H2 fp) [] σ' H' s'->Inv X pins σ H' s':=λ{σ' H' s'} I'=>
  I2.call' (ch:=fp) I'.os I'.base I'.hok I'.bare λb hb=>let ⟨_,f1,_,f4,f5,f6⟩:=f2 b hb;⟨f4,f1,f5,f6⟩
 have st1:tn 0 h₁:=T.keep 0 _ _ st2 λb _ o e=>k1 b o e
 have fr1:∀ b∈fp,upd H2 D (.lst []) b=none:=λb hb=>by
  rw[aH (λz=>absurd (hfp b hb) (by rw[z,hD];exact Nat.lt_irrefl _))]
  exact(f2 b hb).1
 have loop:codeAny (model X.prog X.w) X.A (.compLoop (.ListComp elt [⟨tg,iter,ifs,0⟩] scope pos) 0 (.ref it) (.ref D) (compEnvC scope (qO X.env scope.names) C X.env)) (RR (.ref D) C) { s2 with heap:=h₁,toks:=s2.toks+([]:List (Str×Value)).length }:=by
  refine lR (λn s'=>∃ i ys H',Inv (X.comp N scope C s2 H2 fp) [] (fc cap σ) H' s'/\tn i s'.heap/\(∀ b∈fp,H' b=none)/\W i n ys H') ?_ m0 ⟨0,[],_,IY,st1,fr1,w0⟩
  rintro n s3 ⟨i,ys,H3,I3,st3,fr3,w3⟩
  obtain⟨hDy,hturn⟩:=turn i n ys H3 w3
  rcases hturn with ⟨stop,qn⟩ | ⟨go,Nx,hNx,step⟩
  ·refine thn (T.done (X.comp N scope C s2 H2 fp) rfl rfl rfl hc i [] s3 (fc cap σ) H3 _ I3 (stat fr3) st3 stop) ?_
   rintro r s4 ⟨hr,I4⟩
   subst hr
   obtain⟨m,hm,_⟩:=I4.loc
   exact fin D C H3 s4 (back I4) (I2.fpOk hCle I4.free) ⟨m,hm⟩ qn
  ·refine thn (T.item (X.comp N scope C s2 H2 fp) rfl rfl rfl hc i [] s3 (fc cap σ) H3 _ I3 (stat fr3) st3 go) ?_
   rintro r s4 ⟨u,hr,h4⟩
   subst hr
   refine thn h4 ?_
   rintro _ s5 ⟨x,H5,I5,r5,y5,st5,fr5⟩
   have I5':=I5.pinned (stat fr5) (T.obj _ _ st5)
   refine thn (hg C s2 H2 fp _ s5 (fc cap σ) H5 x u _ I5' r5 (step x H5 y5)) ?_
   rintro _ s6 ⟨σ6,H6,I6,kp6,q6⟩
   refine thn (ht C s2 H2 fp _ s6 σ6 H6 _ I6 q6) ?_
   rintro b s7 ⟨H7,I7,q7⟩
   have again:∀ {ys':List V}{H7:Hp}{s7:Shared},Inv (X.comp N scope C s2 H2 fp) ([]++oO fp s5.heap) σ6 H7 s7->Nx ys' H7->∃ m,m < n/\∃ i ys H',Inv (X.comp N scope C s2 H2 fp) [] (fc cap σ) H' s7/\tn i s7.heap/\(∀ b∈fp,H' b=none)/\W i m ys H':=λ{ys' H7 s7} I7 n7=>by
    obtain⟨m',hm,w7⟩:=hNx ys' H7 n7
    refine⟨m',hm,i+1,ys',H7,I7.unpinned.weak kp6.1 kp6.2,T.keep _ _ _ st5 λb hb o e=>(I7.pin (b,o) (List.mem_append_right _ (List.mem_append_right _ (kI hb e)))).1,λb hb=>?_,w7⟩
    obtain⟨o,e,d⟩:=T.obj _ _ st5 b hb
    exact(I7.pin (b,o) (List.mem_append_right _ (List.mem_append_right _ (kI hb e)))).2.1
   cases b with
   | false=>
    rw[if_neg Bool.false_ne_true] at q7 ⊢
    exact again I7 q7
   | true=>
    rw[if_pos rfl] at q7 ⊢
    refine thn (he C s2 H2 fp _ s7 σ6 H7 _ I7 q7) ?_
    rintro xv s8 ⟨y,H8,I8,r8,hD8,hl8,n8⟩
    refine thn (uE (X:=X.comp N scope C s2 H2 fp) _ s8 σ6 H8 (.ref D) [y] (.ref D) [xv] (λ_ H9=>Nx (ys++[y]) H9) I8 rfl (.cons r8 .nil) ⟨D,ys,y,rfl,rfl,hD8,hl8,n8⟩) ?_
    rintro _ s9 ⟨_,H9,I9,_,n9⟩
    exact again I9 n9
 subst hD hCe
 exact codeAny_compStart_list loop (T.self _ 0 _ _ _ st1 loop)
theorem v9 {pins:List (Addr×Obj)}{s:Shared}{σ:St}{H:Hp}(S:CSc osc scope ON N cap) (hsc:X.env.scope=osc) (I:Inv X pins σ H s):closureFor scope X.env=pure (qO X.env scope.names):=
 u5 λx hx e=>I.ok.has x.1 (by
  rcases S.fr x hx e with z | z
  ·exact .inl (by rw[Env.kindOf,hsc];exact z)
  ·exact .inr (by rw[Env.kindOf,hsc];exact z))
theorem Inv.letgo {pins:List (Addr×Obj)}{s':Shared}{σ:St}{H':Hp}{C:Addr}{h':Heap}(I:Inv X pins σ H' s') (f:j8 X pins H' C) (hs:Heap.SameBut C s'.heap h'):Inv X pins σ H' { s' with heap:=h' }:=
 I.turned (t':=s'.toks) (it:=C) (λb o hb e=>(hs.2 b hb).trans e) f.1 f.2.1 f.2.2.2.1 f.2.2.2.2.1 f.2.2.2.2.2
theorem GP (S:CSc osc scope ON N cap) (hi:PI X tg iter wi) (hg:∀ C s H fp,PG (X.comp N scope C s H fp) tg g) (ht:∀ C s H fp,oX (X.comp N scope C s H fp) ifs tt) (he:∀ C s H fp,PE (X.comp N scope C s H fp) elt te)
  (hc:X.calm=true:=by rfl) (hsc:X.env.scope=osc:=by rfl) (hN:X.N=ON:=by rfl) (hs:∀ x,foldedSetIterable iter X.env x=pure x:=by intro _;rfl):PE X (.ListComp elt [⟨tg,iter,ifs,0⟩] scope pos) (vz wi cap g tt te):=by
 intro pins s σ H Q I h
 rw[eval_ListComp]
 refine wpAny_comprehension_free (use:=none) rfl hs (v9 S hsc I) S.kind S.loc ?_
 refine uH (RR:=λacc C=>compPost (model X.prog X.w) X.A X.xe none (EP X pins σ Q) acc C) (cqual := "") hc S hsc hN hi hg ht he I h λD C H' s' I' f hm q=>?_
 obtain⟨m,hm⟩:=hm
 exact⟨m,hm,λh' hs'=>⟨.ref D,H',I'.letgo f hs',rfl,q⟩⟩
theorem GQ {i:Nat}{y:Str}{py spos:Pos}(S:CSc osc scope ON N cap) (hNd:X.N.Nodup) (hi':X.N[i]?=some y) (hy:Loc X.env.scope y) (hi:PI X tg iter wi) (hg:∀ C s H fp,PG (X.comp N scope C s H fp) tg g) (ht:∀ C s H fp,oX (X.comp N scope C s H fp) ifs tt) (he:∀ C s H fp,PE (X.comp N scope C s H fp) elt te)
  (hsw:swapsWith (.ListComp elt [⟨tg,iter,ifs,0⟩] scope pos) (some (.Name y py)) spos.line X.env=pure true:=by rfl)
  (hc:X.calm=true:=by rfl) (hsc:X.env.scope=osc:=by rfl) (hN:X.N=ON:=by rfl) (hs:∀ x,foldedSetIterable iter X.env x=pure x:=by intro _;rfl)
  (hf:X.fn y=true\/X.env.scope.names.lookup y=some .local:=by first | exact .inl rfl | exact .inr rfl | assumption):
  PS X (.Assign [.Name y py] (.ListComp elt [⟨tg,iter,ifs,0⟩] scope pos) spos) (Dg (vz wi cap g tt te) (vo i)):=by
 intro pins s σ H D0 I h
 rw[exec_Assign_Name_used _ _ _ _ hsw]
 refine wpAny_bind (wpAny_standAt (wpAny_bind ?_))
 show wpAny _ _ (do let _ ← comprehension (.ListComp elt [⟨tg,iter,ifs,0⟩] scope pos) scope X.env _ (newList []) false (eval iter X.env) (some (assign (.Name y py) X.env))) _ _ s
 refine wpAny_bind (wpAny_mono (wpAny_comprehension_free (use:=some (assign (.Name y py) X.env)) (Q:=λ_ s'=>SP X pins D0 .next s') rfl hs (v9 S hsc I) S.kind S.loc
  (uH (RR:=λacc C=>compPost (model X.prog X.w) X.A X.xe (some (assign (.Name y py) X.env)) (λ_ s'=>SP X pins D0 .next s') acc C) (cqual := "") hc S hsc hN hi hg ht he I h λD C H' s' I' f hm q=>?_))
  (λ_ s' hq=>wpAny_pure (wpAny_pure hq)) λ_ _ e=>e)
 obtain⟨m,hm⟩:=hm
 show wpAny _ _ (assign (.Name y py) X.env (.ref D)) _ _ s'
 refine wpAny_assign_Name (uy I' hNd hi' hy (v:=.ref D) rfl (λs'' I'' hch=>?_) hf)
 obtain⟨a,hsb,ha⟩:=hch
 have nCa:C≠a:=by
  rintro rfl
  rcases ha with z | z
  ·exact f.2.1 z
  ·exact f.2.2.2.2.1 y C z rfl
 refine⟨m,hm.sameBut hsb nCa,λh' hs'=>⟨_,H',I''.letgo f hs',q⟩⟩
end
section
variable {tt:TT}{te:TE}{Q:VK}{σ0 rest:St}{H:Hp}{D:Addr}
end
end L2
namespace L2
open PySem PySem.Spec PyProof.Rows
section
variable {X:Cx}{pins:List (Addr×Obj)}{σ:St}{H H':Hp}{s:Shared}{h':Heap}
theorem Inv.turnedL {t':Nat}{ch:List Addr}{a:Addr}{o:HO}(I:Inv X pins σ H s) (k:∀ b u,b∉ch->s.heap.get? b=some u->h'.get? b=some u) (ht:∀ b u,s.heap.get? b=some u->∃ u',h'.get? b=some u') (hf:∀ b∈ch,j8 X pins H b)
  (hp:s.heap.objs.size<=a) (new:ObjOk X.prog X.w X.K (upd H a o) h' a o):Inv X pins σ (upd H a o) { s with heap:=h',toks:=t' }:=by
 have hn:H a=none:=I.hok.fresh hp
 have nch:∀ b u,H b=some u->b∉ch:=λb u e hb=>by
  rw[(hf b hb).1] at e;cases e
 have na:∀ b u,s.heap.get? b=some u->b≠a:=λb u e=>Nat.ne_of_lt (Nat.lt_of_lt_of_le (Heap.lt_size e) hp)
 have hhok:HOk X.prog X.w X.K (upd H a o) h':=λb u e=>by
  by_cases hb:b=a
  ·subst hb;rw[aU] at e;cases e;exact new
  ·rw[aH hb] at e
   refine(I.hok b u e).stay (λc v hc q=>k c v ?_ q) (λc q=>by rw[aH (aN q hn)];exact q) λc xs q=>by rw[aH (aN q hn)];exact q
   rcases hc with rfl | hc
   ·exact nch c u e
   ·exact nch c _ hc
 refine I.step (g':=s.gens) (d':=s.drawn) (ch:=ch) (λb hb=>let ⟨_,f1,_,f4,f5,f6⟩:=hf b hb;⟨f4,f1,f5,f6⟩) (λb o _ _ hc e _=>k b o hc e) (λb o _ _ hc e _=>⟨o.slots,k b o hc e⟩)
  (λb o _ e n=>by rw[aH (na b o e)];exact n) (λb o _ e=>ht b o e) (λb xs q=>by rw[aH (aN q hn)];exact q) (λb u xs q=>by rw[aH (aN q hn)];exact q)
  (λb ps q=>⟨#[],by rw[aH (aN q hn),q];simp⟩) (λm hm=>?_) hhok I.bare
 obtain⟨oL,es,ep,ho,r⟩:=hm
 have nL:X.env.locals∉ch:=λhb=>(hf _ hb).2.1 rfl
 exact⟨oL,es,ep,k _ oL nL ho,r⟩
end
def Ite (K:PySem.W.Frag) (a:Addr):It:=
 ⟨λi H=>∃ xs x,SqL K H a xs/\xs[i]?=some x,λi H v H'=>∃ t x,H t=none/\v=.ref t/\H'=upd H t (.tup [.int (i:Nat),x])/\∀ xs,SqL K H a xs->xs[i]?=some x,λi H=>∃ xs,SqL K H a xs/\xs.length<=i⟩
def Jv (e it a:Addr) (i:Nat) (h:Heap):Prop:=(∃ old,IsEnum h e it (i:Nat) old)/\h.IsListIter it a i
theorem uI {P:Program}{w:World}{K:PySem.W.Frag}{es:List Expr}{x1:Nat}{tpos:Pos}(a e it:Addr) (hne:e≠it):Turn P w K (.Tuple es x1 tpos) (Ite K a) [it,e] e (Jv e it a) where
 mem:=by simp
 obj:=λi h st b hb=>by
  obtain⟨⟨old,he⟩,o,e1,c,d⟩:=st
  rcases List.mem_cons.mp hb with z | z
  ·subst z
   exact⟨o,e1,λv y=>by rw[d] at y;cases y⟩
  ·have z':b=e:=by simpa using z
   subst z'
   exact⟨_,he,λv y=>by
    have y':Data.fields _=Data.cell v:=y
    cases y'⟩
 keep:=λi h h' st k=>by
  obtain⟨⟨old,he⟩,st⟩:=st
  exact⟨⟨old,k e (by simp) _ he⟩,st.at λo q=>k it (by simp) o q⟩
 item:=by
  intro X hP hw hK hc i pins s σ H E I hf st hg
  subst hP hw hK
  obtain⟨xs,x,hq,hx⟩:=hg
  obtain⟨⟨old,he⟩,hit⟩:=st
  obtain⟨its,rv,p,hz⟩:=I.list hq
  obtain⟨u,hu,ru⟩:=rv.get hx
  refine wpAny_pyNext_enum_item he hit p.isList (x:=u) (by simpa using hu) hne λh' heo hit' htup hsz hk=>⟨_,rfl,?_⟩
  refine wpAny_letOwnedTupleGo_enum (s:={ s with heap:=h',toks:=s.toks+1 }) heo λh2 he2 hs2=>?_
  have hel:e < s.heap.objs.size:=Heap.lt_size he
  have g2:h2.get? s.heap.objs.size=some { cls:=.type "tuple",data:=.seq #[.int i s.toks,u] }:=(hs2.2 _ (Nat.ne_of_gt hel)).trans htup
  have k2:∀ b o,b∉[it,e]->s.heap.get? b=some o->h2.get? b=some o:=λb o hb q=>by
   have h1:b≠it:=λz=>hb (by simp[z])
   have h3:b≠e:=λz=>hb (by simp[z])
   exact(hs2.2 b h3).trans (hk b o h3 h1 q)
  have ht2:∀ b o,s.heap.get? b=some o->∃ o',h2.get? b=some o':=λb o q=>by
   by_cases h1:b=it
   ·subst h1
    obtain⟨o',e',_⟩:=hit'
    exact⟨o',(hs2.2 b (Ne.symm hne)).trans e'⟩
   ·by_cases h3:b=e
    ·subst h3;exact⟨_,he2⟩
    ·exact⟨o,k2 b o (by simp[h1,h3]) q⟩
  have I2:Inv X pins σ (upd H s.heap.objs.size (.tup [.int (i:Nat),x])) { s with heap:=h2,toks:=s.toks+1 }:=
   I.turnedL (ch:=[it,e]) k2 ht2 hf (Nat.le_refl _) ⟨by show 2<=sizeLine;decide,[.int i s.toks,u],.cons ⟨_,rfl⟩ (.cons ru .nil),⟨_,g2,rfl,_,rfl⟩⟩
  refine⟨.ref s.heap.objs.size,_,I2,rfl,⟨s.heap.objs.size,x,I.fresh,rfl,rfl,λys hy=>by rw[I.list_inj hy hq];exact hx⟩,⟨⟨u,he2⟩,?_⟩,λb hb=>?_⟩
  ·exact hit'.extBut hs2.extBut (Ne.symm hne)
  ·have hb0:=(hf b hb).1
   rw[aH ?_]
   ·exact hb0
   ·rcases List.mem_cons.mp hb with z | z
    ·subst z
     obtain⟨o,e1,_⟩:=hit
     exact Nat.ne_of_lt (Heap.lt_size e1)
    ·have z':b=e:=by simpa using z
     subst z'
     exact Nat.ne_of_lt hel
 done:=by
  intro X hP hw hK hc i pins s σ H E I hf st hg
  subst hP hw hK
  obtain⟨xs,hq,hx⟩:=hg
  obtain⟨⟨old,he⟩,hit⟩:=st
  obtain⟨its,rv,p,hz⟩:=I.list hq
  obtain⟨f0,f1,f2,f3,f4,f5⟩:=hf it (by simp)
  have hl:=rv.length
  exact wpAny_pyNext_enum_end (I.ok.hd hc) he hit p.isList (by simp;omega) λh' eb=>⟨rfl,I.turned (t':=s.toks) (λb o hb q=>eb b o hb q) f0 f1 f3 f4 f5⟩
 self:=λA i s Q E st h=>by
  obtain⟨⟨old,he⟩,hit⟩:=st
  have hT:s.TypeIs (.ref e) "enumerate" := ⟨_,he,rfl⟩
  refine wpAny_pyIter_slot hT F.slot_enumerate_iter (wpAny_call_entry F.slot_enumerate_iter hT F.entry_enumerate_iter ?_ (F.args_enumerate_iter_1 _))
  show wpAny _ _ (ret (.ref e)) _ _ s
  exact wpAny_pure ⟨_,rfl, "enumerate",_,hT,F.slot_enumerate_next.lookup,h⟩
section
variable {X:Cx}
def Mg (K:PySem.W.Frag) (ta:TA):TI:=fun σ H R=>ta σ H λvs H1=>∃ a,vs=[.ref a]/\(∃ xs,SqL K H1 a xs)/\R (Ite K a) H1
theorem GR {l:Expr}{ta:TA}{es:List Expr}{x1:Nat}{tpos p pos:Pos}(hg:Gl X "enumerate") (hm:X.mg "enumerate" = none) (ha:PA X [l] ta) (hs:starEach [l] X.env=[(false,eval l X.env)]:=by rfl):
  PI X (.Tuple es x1 tpos) (.Call (.Name "enumerate" p) [l] [] pos) (Mg X.K ta):=by
 intro pins s σ H R I h
 refine Call_ (oK I hg hm PyProof.Rows.boot_enumerate (PyProof.Rows.callWith_type1 (thn (ha pos pins s σ H _ I h) ?_) hs rfl))
 rintro us s1 ⟨vs,H1,I1,r1,q1⟩
 obtain⟨a,e,⟨xs,hq⟩,q⟩:=q1
 subst e
 obtain⟨u,rfl,ru⟩:=vals1 r1
 cases ru
 obtain⟨its,rv,p,hz⟩:=I1.list hq
 refine call_enumerate_list p.isList λh' he hit hsz hk=>?_
 have I2:Inv X pins σ H1 { s1 with heap:=h' }:=I1.kept (t':=s1.toks) hk
 have hT:(⟨h',s1.gens,s1.drawn,s1.toks,s1.os⟩:Shared).TypeIs (.ref (s1.heap.objs.size+1)) "enumerate" := ⟨_,he,rfl⟩
 refine(uI (P:=X.prog) (w:=X.w) (K:=X.K) (es:=es) (x1:=x1) (tpos:=tpos) a (s1.heap.objs.size+1) s1.heap.objs.size (Nat.succ_ne_self _)).self X.A 0 { s1 with heap:=h' } _ _ ⟨⟨.none,he⟩,hit⟩ ?_
 refine⟨s1.heap.objs.size+1,[s1.heap.objs.size,s1.heap.objs.size+1],_,_,H1,rfl,I2,uI a _ _ (Nat.succ_ne_self _),⟨⟨.none,he⟩,hit⟩,λb hb=>?_,q⟩
 have hb':s1.heap.objs.size<=b:=by
  rcases List.mem_cons.mp hb with z | z
  ·rw[z];exact Nat.le_refl _
  ·rw[List.mem_singleton.mp z];exact Nat.le_succ _
 exact I1.fpOk hb' (I1.hok.fresh hb')
end
def Its (x:Str):It:=⟨λi _=>i < x.cps.size,λi H v H'=>H'=H/\∃ c,x.cps[i]?=some c/\v=.str ⟨#[c]⟩,λi _=>i=x.cps.size⟩
theorem v_ {P:Program}{w:World}{K:PySem.W.Frag}{tg:Expr}(it:Addr) (x:Str) (t:Tok) (ty:String) (hty:["enumerate", "zip", "dict_itemiterator", "dict_reverseitemiterator", "odict_iterator", "itertools.zip_longest", "itertools.pairwise"].contains ty=false)
  (W:∀ A:Around,A.handled=none->Walks P w A it [it] [it] x.cps.size (SignAt x) (λi h=>h.IsStrIter it ty x t i))
  (slf:∀ (A:Around) (i:Nat) (s:Shared) (Q:Value->Shared->Prop) (E:Value->Shared->Prop),s.heap.IsStrIter it ty x t i->Q (.ref it) s->wpAny (model P w) A (pyIter (.ref it)) Q E s):
  Turn P w K tg (Its x) [it] it (λi h=>h.IsStrIter it ty x t i) where
 mem:=by simp
 obj:=λi h st b hb=>by
  have e:b=it:=by simpa using hb
  subst e
  obtain⟨o,e,c,d⟩:=st
  exact⟨o,e,λv z=>by rw[d] at z;cases z⟩
 keep:=λi h h' st k=>by
  obtain⟨o,e,r⟩:=st
  exact⟨o,k it (by simp) o e,r⟩
 item:=by
  intro X hP hw hK hc i pins s σ H E I hf st hg
  subst hP hw hK
  obtain⟨f0,f1,f2,f3,f4,f5⟩:=hf it (by simp)
  refine(W X.A (I.ok.hd hc)).item i s _ _ hg st λv h' tk hv st' kk=>?_
  obtain⟨c,u,hx,rfl⟩:=hv
  have I1:Inv X pins σ H { s with heap:=h',toks:=tk }:=I.turned (λb o hb e=>kk b o (by simpa using hb) e) f0 f1 f3 f4 f5
  obtain⟨o,e,cc,d⟩:=id st'
  exact⟨_,rfl,vp (s:={ s with heap:=h',toks:=tk }) e cc d hty ⟨.str ⟨#[c]⟩,H,I1,⟨u,rfl⟩,⟨rfl,c,hx,rfl⟩,st',λb hb=>(hf b hb).1⟩⟩
 done:=by
  intro X hP hw hK hc i pins s σ H E I hf st hg
  subst hP hw hK
  obtain⟨f0,f1,f2,f3,f4,f5⟩:=hf it (by simp)
  have hg':i=x.cps.size:=hg
  subst hg'
  exact(W X.A (I.ok.hd hc)).done s _ _ st λh' tk kk=>⟨rfl,I.turned (λb o hb e=>kk b o (by simpa using hb) e) f0 f1 f3 f4 f5⟩
 self:=slf
section
variable {X:Cx}{tg:Expr}
def Oo (tl:TE):TI:=fun σ H R=>tl σ H λx H1=>∃ z,x=.str z/\R (Its z) H1
theorem Jw {l:Expr}{tl:TE}(hl:PE X l tl):PI X tg l (Oo tl):=by
 intro pins s σ H R I h
 refine thn (hl pins s σ H _ I h) ?_
 rintro v s1 ⟨x,H1,I1,r1,q1⟩
 obtain⟨z,e,q⟩:=q1
 subst e
 obtain⟨t,rfl⟩:=r1
 have fp:∀ b∈[s1.heap.objs.size],j8 X pins H1 b:=λb hb=>by
  have e:b=s1.heap.objs.size:=by simpa using hb
  subst e
  exact I1.fpOk (Nat.le_refl _) (I1.hok.fresh (Nat.le_refl _))
 cases ha:z.cps.all (· < 128)
 ·exact wpAny_pyIter_wide ha ⟨s1.heap.objs.size,[s1.heap.objs.size],_,_,H1,rfl,I1.kept (t':=s1.toks) λb o e=>Heap.get?_push_of_some _ e,v_ _ z t "str_iterator" (by decide) (λA hA=>Walks.strWide hA _ z t) (λA i s Q E st h=>wpAny_pyIter_striter_wide st h),⟨_,Heap.get?_push_size _ rfl,rfl,rfl⟩,fp,q⟩
 ·exact wpAny_pyIter_ascii ha ⟨s1.heap.objs.size,[s1.heap.objs.size],_,_,H1,rfl,I1.kept (t':=s1.toks) λb o e=>Heap.get?_push_of_some _ e,v_ _ z t "str_ascii_iterator" (by decide) (λA hA=>Walks.strAscii hA _ z t) (λA i s Q E st h=>wpAny_pyIter_striter_ascii st h),⟨_,Heap.get?_push_size _ rfl,rfl,rfl⟩,fp,q⟩
end
section
variable {tt:TT}{te:TE}{Q:VK}{σ0 rest:St}{H:Hp}{D:Addr}
end
section
variable {X:Cx}
theorem uJ:∀ {l:List (Str×Tok)}{zs:List Str},l.map (·.1)=zs->Vals (zs.map V.str) (strValues l)
 | [],_,e=>by subst e;exact .nil
 | (x,t)::r,_,e=>by subst e;exact .cons ⟨t,rfl⟩ (uJ rfl)
theorem oY:∀ {zs:List Str}{us:List Value},Vals (zs.map V.str) us->∃ l:List (Str×Tok),us=strValues l/\l.map (·.1)=zs
 | [],_,r=>by cases r;exact⟨[],rfl,rfl⟩
 | z::zs,_,r=>by
  cases r with
  | cons r1 r2=>
   obtain⟨t,rfl⟩:=r1
   obtain⟨l,rfl,e⟩:=oY r2
   exact⟨(z,t)::l,rfl,by rw[List.map_cons,e]⟩
def Bg:V->List V->Hp->VK->Prop:=λx vs H Q=>∃ z y,x=.str z/\vs=[.str y]/\(y.length == 0)=false/\z.length<=1000000/\∀ l,H l=none->Q (.ref l) (upd H l (.lst ((Txt.split z y).map V.str)))
theorem uK (x y:Str):(Builtin.Str.partsBetween x (Builtin.Str.occurrences x y 0 x.length (x.length+1)) y.length).length<=x.length+2:=by
 have h:=StrLaws.occ_length_le_len x y 0 x.length (x.length+1)
 unfold Builtin.Str.partsBetween
 simp only[List.length_map,List.length_zip,List.length_cons,List.length_append,List.length_nil]
 omega
theorem split_len {x y:Str}:(Txt.split x y).length<=x.length+2:=by
 unfold Txt.split
 split
 ·simp
 ·split
  ·simp
  ·exact uK x y
theorem Dz:MtR X "str.split" Bg:=by
 intro pins s σ H x vs v us Q I rx rv h
 obtain⟨z,y,rfl,rfl,hy,hz,q⟩:=h
 obtain⟨t,rfl⟩:=rx
 obtain⟨u,rfl,u',rfl⟩:=rv.one
 have sl:=@split_len z y
 have hz2:z.length<=sizeLine:=Nat.le_trans hz (by decide)
 have hz3:z.length+2<=sizeLine:=Nat.le_trans (Nat.add_le_add_right hz 2) (by decide)
 have e0:∀ (l:List (Str×Tok)) (t':Nat),l.map (·.1)=Txt.split z y->EP X pins σ Q (.ref s.heap.objs.size) { s with heap:=s.heap.push { cls:=.type "list",data:=.seq (strValues l).toArray },toks:=t' }:=λl t' e=>
  ⟨.ref s.heap.objs.size,_,I.lnew (uJ e) (by
   rw[List.length_map]
   exact Nat.le_trans sl hz3),rfl,q _ I.fresh⟩
 cases h1:(decide (z.length < y.length)||decide (Builtin.Str.strKind z < Builtin.Str.strKind y))
 ·cases hf:(Builtin.Str.occurrences z y 0 z.length (z.length+1)).isEmpty
  ·refine call_meets F.slot_str_split (typeIs_str _ _ _) F.entry_str_split (F.args_str_split_2 _ _) (meets_str_split_sep z y t u' h1 hy hf hz2 (Nat.le_trans (uK z y) hz3)) ?_
   show wants _ _ _ { s with toks:=_,heap:=s.heap.push { cls:=.type "list",data:=.seq (strsFrom s.toks (Builtin.Str.partsBetween z (Builtin.Str.occurrences z y 0 z.length (z.length+1)) y.length)).toArray } }
   rw[strsFrom_eq]
   exact e0 (numbered s.toks _) _ ((numbered_texts _ _).trans ((if_neg (ne_true_of_eq_false h1)).trans (if_neg (ne_true_of_eq_false hf))).symm)
  ·exact call_meets F.slot_str_split (typeIs_str _ _ _) F.entry_str_split (F.args_str_split_2 _ _) (meets_str_split_not_found z y t u' h1 hy hf)
    (e0 [(z,t)] s.toks ((if_neg (ne_true_of_eq_false h1)).trans (if_pos hf)).symm)
 ·exact call_meets F.slot_str_split (typeIs_str _ _ _) F.entry_str_split (F.args_str_split_2 _ _) (meets_str_split_cannot_occur z y t u' h1) (e0 [(z,t)] s.toks (if_pos h1).symm)
def rJoin (K:PySem.W.Frag):V->List V->Hp->VK->Prop:=λx vs H Q=>∃ z l zs,x=.str z/\vs=[.ref l]/\SqL K H l (zs.map V.str)/\JoinOk z zs=true/\Q (.str (Str.join z zs)) H
theorem GX:MtR X "str.join" (rJoin X.K):=by
 intro pins s σ H x vs v us Q I rx rv h
 obtain⟨z,l,zs,rfl,rfl,hl,ok,q⟩:=h
 obtain⟨t,rfl⟩:=rx
 obtain⟨u,rfl,ru⟩:=rv.one
 cases ru
 obtain⟨its,r,p,_⟩:=I.list hl
 obtain⟨l',e,e2⟩:=oY r
 subst e
 refine SC.join p.isList e2 ok λt' k=>⟨.str (Str.join z zs),H,I.tok _,⟨t',?_⟩,q⟩
 unfold Txt.join
 rw[StrLaws.glued_eq_join]
theorem Bh {bs:List Bool}{us:List Value}(r:Vals (bs.map V.bl) us){i:Nat}{v:Value}(e:us[i]?=some v):∃ b,bs[i]?=some b/\v=.bool b:=by
 have hl:=r.length
 rw[List.length_map] at hl
 have hi:i < us.length:=(List.getElem?_eq_some_iff.mp e).1
 have hb:bs[i]?=some bs[i]:=List.getElem?_eq_getElem (by omega)
 obtain⟨u,h1,h2⟩:=r.get (i:=i) (x:=.bl bs[i]) (by rw[List.getElem?_map,hb] <;> rfl)
 rw[e] at h1
 cases h1
 exact⟨_,hb,h2⟩
theorem range_all {bs:List Bool}{n:Nat}(hn:n=bs.length):((List.range n).all λi=>(bs[i]?).getD true)=bs.all id:=by
 subst hn
 rw[Bool.eq_iff_iff]
 simp only[List.all_eq_true,List.mem_range,id]
 constructor
 ·intro h x hx
  obtain⟨i,hi,e⟩:=List.mem_iff_getElem.mp hx
  have:=h i hi
  rw[List.getElem?_eq_getElem hi] at this
  rw[← e]
  exact this
 ·intro h i hi
  rw[List.getElem?_eq_getElem hi]
  exact h _ (List.getElem_mem hi)
theorem kept_iter {h h':Heap}{o:Obj}(hk:∀ b x,b∉[h.objs.size]->(h.push o).get? b=some x->h'.get? b=some x):∀ b x,h.get? b=some x->h'.get? b=some x:=
 λb x e=>hk b x (λhm=>by rw[List.mem_singleton.mp hm] at e;exact Nat.lt_irrefl _ (Heap.lt_size e)) (Heap.get?_push_of_some _ e)
theorem DG (hc:X.calm=true:=by rfl):CallR X (.builtin "all") (λxs H Q=>∃ (p:Addr) (bs:List Bool),xs=[.ref p]/\SqL X.K H p (bs.map V.bl)/\Q (.bl (bs.all id)) H):=by
 intro pins s σ H xs us Q I r h
 obtain⟨l,bs,rfl,hq,q⟩:=h
 obtain⟨u,rfl,rx⟩:=vals1 r
 cases rx
 obtain⟨its,r',pl,hz⟩:=I.list hq
 have hl:=pl.isList
 have hlen:=r'.length
 rw[List.length_map] at hlen
 have hlt:l < s.heap.objs.size:=by obtain⟨_,e,_⟩:=hl;exact Heap.lt_size e
 have hh:=I.ok.hd hc
 refine call_all_walk (wpAny_pyIter_list hl ?_)
 refine⟨s.heap.objs.size,[s.heap.objs.size,l],[s.heap.objs.size],its.toArray.size,_,_,λi=>(bs[i]?).getD true,rfl,Walks.list (A:=X.A.in1) hh _ l (Nat.ne_of_lt hlt) its.toArray,
  ⟨⟨_,Heap.get?_push_size _ rfl,rfl,rfl⟩,hl.push _⟩,λi v s' Q' E' hP hQ=>?_,λh' tk hk=>?_⟩
 ·obtain⟨b,e,rfl⟩:=Bh r' (i:=i) (v:=v) (by simpa using hP)
  simp only[e,Option.getD_some] at hQ
  exact wpAny_truthy_bool hQ
 ·refine⟨.bl (bs.all id),H,I.kept (kept_iter hk),?_,q⟩
  rw[range_all (by simp[hlen])]
  rfl
theorem tE (hc:X.calm=true:=by rfl):CallR X (.type "list") (λxs H Q=>∃ p kvs,xs=[.ref p]/\H p=some (.dK kvs)/\∀ l,H l=none->Q (.ref l) (upd H l (.lst (kvs.map λkv=>kV kv.1)))):=by
 intro pins s σ H xs us Q I r h
 obtain⟨p,kvs,rfl,hp,q⟩:=h
 obtain⟨u,rfl,rx⟩:=vals1 r
 cases rx
 obtain⟨hz,lo,vs,rel,hD⟩:=FQ I.hok hp
 obtain⟨o,es,ep,ho,hx,hd,hk,hpr,hn⟩:=hD
 have hlen:=rel.length
 refine PySem.W.kdl_call (PySem.W.kdl_dict (knd:=ig X.prog X.w) (kvs:=vs) (ep:=ep) lo) (I.ok.hd hc) ⟨o,es,ho,hx,hd,hk,hpr,hn⟩ (by omega) λh' tk acc' c' kk hS hacc=>?_
 have hv:Vals (kvs.map λkv=>kV kv.1) acc'.toList:=by
  have gen:∀ (l:List (Key×V)) (l2:List (Key×Value)) (us:List Value),KV l l2->us.length=l2.length->(∀ (j:Nat) (v:Value),us[j]?=some v->∃ k x,l2[j]?=some (k,x)/\(ig X.prog X.w).is k v=true)->Vals (l.map λkv=>kV kv.1) us:=by
   intro l
   induction l with
   | nil=>
    intro l2 us hr hl hu
    cases hr
    have:us=[]:=List.length_eq_zero_iff.mp hl
    subst this
    exact .nil
   | cons a r ih=>
    intro l2 us hr hl hu
    cases hr with
    | @cons _ b _ r2 h1 h2=>
     cases us with
     | nil=>simp at hl
     | cons v us=>
      obtain⟨k,x,e,hk⟩:=hu 0 v rfl
      have e':b=(k,x):=by simpa using e
      have ek:a.1=k:=by rw[h1.1,e']
      refine .cons ?_ (ih r2 us h2 (by simpa using hl) λj w e=>by simpa using hu (j+1) w (by simpa using e))
      show RelV (kV a.1) v
      rw[ek]
      rcases cC hk with ⟨i,t,rfl,rfl⟩ | ⟨x,t,rfl,rfl⟩
      ·exact⟨t,rfl⟩
      ·exact⟨t,rfl⟩
  refine gen kvs vs acc'.toList rel (by rw[Array.length_toList];exact hacc.1) λj v e=>hacc.2 j v (by rw[← Array.getElem?_toList];exact e)
 refine⟨.ref s.heap.objs.size,_,I.laid kk (Nat.le_refl _) (show ObjOk X.prog X.w X.K _ h' _ (.lst _) from ⟨?_,acc'.toList,c',hv,?_⟩),rfl,q _ I.fresh⟩
 ·rw[List.length_map];omega
 ·simpa using hS
mutual
inductive Dt (K:PySem.W.Frag) (H:Hp):V->PyData->Prop
 | non:Dt K H .non .none
 | bl (b:Bool):Dt K H (.bl b) (.bool b)
 | int (i:Int):Dt K H (.int i) (.int i)
 | str (x:Str):Dt K H (.str x) (.str x)
 | lst {a:Addr}{xs:List V}{ds:List PyData}:SqL K H a xs->Dts K H xs ds->Dt K H (.ref a) (.list ds)
 | tup {a:Addr}{xs:List V}{ds:List PyData}:SqT K H a xs->Dts K H xs ds->Dt K H (.ref a) (.tuple ds)
inductive Dts (K:PySem.W.Frag) (H:Hp):List V->List PyData->Prop
 | nil:Dts K H [] []
 | cons {x:V}{xs:List V}{d:PyData}{ds:List PyData}:Dt K H x d->Dts K H xs ds->Dts K H (x::xs) (d::ds)
end
mutual
theorem Dt.reads {pins:List (Addr×Obj)}{σ:St}{H:Hp}{s:Shared}(I:Inv X pins σ H s):∀ {x:V}{d:PyData}{u:Value},Dt X.K H x d->RelV x u->∃ as,Reads s.heap u d as
 | _,_,_,.non,r=>by cases r;exact⟨[],.none⟩
 | _,_,_,.bl b,r=>by cases r;exact⟨[],.bool b⟩
 | _,_,_,.int i,r=>by obtain⟨t,rfl⟩:=r;exact⟨[],.int i t⟩
 | _,_,_,.str x,r=>by obtain⟨t,rfl⟩:=r;exact⟨[],.str x t⟩
 | _,_,_,.lst hq hs,r=>by
  cases r
  obtain⟨its,rv,pl,_⟩:=I.list hq
  obtain⟨o,e,c,n,d⟩:=pl.isList
  obtain⟨as,ra⟩:=Dts.reads I hs rv
  exact⟨_,.list e c d (by simpa using ra)⟩
 | _,_,_,.tup hq hs,r=>by
  cases r
  obtain⟨its,rv,pl,_⟩:=I.tuple hq
  obtain⟨o,e,c,n,d⟩:=pl
  obtain⟨as,ra⟩:=Dts.reads I hs rv
  exact⟨_,.tuple e c d (by simpa using ra)⟩
theorem Dts.reads {pins:List (Addr×Obj)}{σ:St}{H:Hp}{s:Shared}(I:Inv X pins σ H s):∀ {xs:List V}{ds:List PyData}{us:List Value},Dts X.K H xs ds->Vals xs us->∃ as,ReadsAll s.heap us ds as
 | _,_,_,.nil,r=>by cases r;exact⟨[],.nil⟩
 | _,_,_,.cons h hs,r=>by
  cases r with
  | cons r1 r2=>
   obtain⟨as,ra⟩:=Dt.reads I h r1
   obtain⟨bs,rb⟩:=Dts.reads I hs r2
   exact⟨_,.cons ra rb⟩
end
theorem Jx (hu:X.A.units+64 < cLine):OpR X (compareOp .Eq) (λx y H Q=>∃ d e,Dt X.K H x d/\Dt X.K H y e/\SeqAt.shaped d=true/\SeqAt.shaped e=true/\Q (.bl (PyData.eqv d e)) H):=by
 intro pins s σ H x y v u Q I rx ry h
 obtain⟨d,e,h1,h2,s1,s2,q⟩:=h
 obtain⟨as,ra⟩:=h1.reads I rx
 obtain⟨bs,rb⟩:=h2.reads I ry
 exact eq_dataH ra rb s1 s2 hu ⟨.bl _,H,I,rfl,q⟩
theorem Jy (hu:X.A.units+64 < cLine):OpR X (compareOp .NotEq) (λx y H Q=>∃ d e,Dt X.K H x d/\Dt X.K H y e/\SeqAt.shaped d=true/\SeqAt.shaped e=true/\Q (.bl (!PyData.eqv d e)) H):=by
 intro pins s σ H x y v u Q I rx ry h
 obtain⟨d,e,h1,h2,s1,s2,q⟩:=h
 obtain⟨as,ra⟩:=h1.reads I rx
 obtain⟨bs,rb⟩:=h2.reads I ry
 exact ne_dataH ra rb s1 s2 hu ⟨.bl _,H,I,rfl,q⟩
end
end L2
namespace L2
open PySem PySem.Spec PyProof.Rows
structure Cal (P:Program) (w:World) (K:PySem.W.Frag) (mg:Str->Option Value) (base:Heap) (k:Nat) (x:Str) (ps:List Str) (sp:Sp):Prop where
 ex:∃ f fd,FnOk P w K mg base CX0 k f fd ps sp/\Binds K fd ps []/\PySem.W.keepIn K (.ref f)=true/\mg x=some (.ref f)
theorem cN {P:Program}{w:World}{K:PySem.W.Frag}{mg:Str->Option Value}{base:Heap}{k:Nat}{x:Str}{ps:List Str}{sp:Sp}{st:Stmt}{f:Addr}{fd:FuncData}(F:Fun K x x st f fd)
  (hm:mg x=some (.ref f)) (hb:Binds K fd ps []) (G:FnOk P w K mg base CX0 k f fd ps sp):Cal P w K mg base k x ps sp:=⟨f,fd,G,hb,F.kp,hm⟩
theorem Bj {X:Cx}{k j:Nat}{x:Str}{ps:List Str}{sp:Sp}{p pos:Pos}{e:Expr}{es:List Expr}{t:TA}(c:Cal X.prog X.w X.K X.mg X.base k x ps sp) (hr:Room j X.A) (ha:PA X (e::es) t) (hle:k<=j:=by decide) (hg:Gl X x:=by rfl)
  (hdb:(x == ("__debug__" : Str))=false:=by decide) (he:starEach (e::es) X.env=(false,eval e X.env)::starEach es X.env:=by rfl) (hpl:(backTo pos (starEach es X.env)).any (·.1)=false:=by rfl):
  PE X (.Call (.Name x p) (e::es) [] pos) (Fy sp [] E0 t):=by
 obtain⟨f,fd,G,hb,kp,hm⟩:=c.ex
 exact Gs G (hr.mono hle) hg hm kp hb .nil FT ha hdb he hpl
theorem bK {H:Hp}{p:Addr}(h:H p=none) (o:HO):Same H (upd H p o):=λb u q=>by rw[aH (aN q h)];exact q
theorem Same.new {H H':Hp}{p:Addr}(s:Same H H') (h:H' p=none) (o:HO):Same H (upd H' p o):=s.trans (bK h o)
theorem Same.over {H H':Hp}{p:Addr}(s:Same H H') (h:H p=none) (o:HO):Same H (upd H' p o):=λb u q=>by rw[aH (aN q h)];exact s b u q
theorem small {n:Nat}(h:n<=1000):n<=sizeLine:=Nat.le_of_lt (Bd h)
theorem lA {n:Nat}(h:n<=1000000):n < sizeLine:=Nat.lt_of_le_of_lt h (by decide)
abbrev PureAt (t:TE) (σ:St) (H:Hp) (v:V):Prop:=∀ H',Same H H'->∀ Q:VK,(∀ H'',Same H' H''->Q v H'')->t σ H' Q
abbrev PureT (t:TT) (σ:St) (H:Hp) (b:Bool):Prop:=∀ H',Same H H'->∀ Q:Bool->Hp->Prop,(∀ H'',Same H' H''->Q b H'')->t σ H' Q
section
variable {tt:TT}{te:TE}{Q:VK}{σ0 rest:St}{H:Hp}{D:Addr}
end
section
variable {K:PySem.W.Frag}{wi:TI}{cap:List (Option Nat)}{tt:TT}{te:TE}{σ rest:St}{H:Hp}{Q:VK}{xs:List V}
theorem PureAt.same {t:TE}{H1:Hp}{v:V}(h:PureAt t σ H v) (s:Same H H1):PureAt t σ H1 v:=λH' s' Q q=>h H' (s.trans s') Q q
theorem PureT.same {t:TT}{H1:Hp}{b:Bool}(h:PureT t σ H b) (s:Same H H1):PureT t σ H1 b:=λH' s' Q q=>h H' (s.trans s') Q q
end
def Txts (K:PySem.W.Frag) (H:Hp) (v:V) (ws:List Str):Prop:=∃ l,v=.ref l/\SqL K H l (ws.map V.str)
theorem Txts.mono {K:PySem.W.Frag}{H H':Hp}{v:V}{ws:List Str}(h:Txts K H v ws) (s:Same H H'):Txts K H' v ws:=let ⟨l,e,q⟩:=h;⟨l,e,s.seq q⟩
def Rws (K:PySem.W.Frag) (H:Hp) (v:V) (rs:List (List Str)):Prop:=∃ l ys,v=.ref l/\SqL K H l ys/\Paired (λws y=>Txts K H y ws) rs ys
theorem qG {α β:Type}{F G:α->β->Prop}(f:∀ a b,F a b->G a b):∀ {l₁:List α}{l₂:List β},Paired F l₁ l₂->Paired G l₁ l₂
 | _,_,.nil=>.nil
 | _,_,.cons h t=>.cons (f _ _ h) (qG f t)
theorem Rws.mono {K:PySem.W.Frag}{H H':Hp}{v:V}{rs:List (List Str)}(h:Rws K H v rs) (s:Same H H'):Rws K H' v rs:=let ⟨l,ys,e,q,p⟩:=h;⟨l,ys,e,s.seq q,qG (λ_ _ t=>t.mono s) p⟩
theorem Paired.get {α β:Type}{F:α->β->Prop}:∀ {l₁:List α}{l₂:List β}{i:Nat}{y:β},Paired F l₁ l₂->l₂[i]?=some y->∃ x,l₁[i]?=some x/\F x y
 | _,_,_,_,.nil,e=>by simp at e
 | _,_,0,_,.cons r _,e=>by simp at e;subst e;exact⟨_,rfl,r⟩
 | _,_,i+1,y,.cons _ t,e=>by
  obtain⟨x,h1,h2⟩:=Paired.get (i:=i) (y:=y) t (by simpa using e)
  exact⟨x,by simpa using h1,h2⟩
section
variable (K:PySem.W.Frag){X:Cx}
end
end L2
namespace L2
open PySem PySem.Spec PyProof.Rows
def oZ (x:Str) (lo hi:Option Int):Str:=⟨((x.cps.toList.drop (HT.sIx x.length 0 lo)).take (HT.sIx x.length x.length hi - HT.sIx x.length 0 lo)).toArray⟩
theorem GZ (lo hi:Option Int) (n:Nat):Builtin.Str.strSliceIndices lo hi 1 n=(List.range (HT.sIx n n hi - HT.sIx n 0 lo)).map (HT.sIx n 0 lo+·):=by
 rw[← sliceRange_one]
 unfold Builtin.Str.strSliceIndices
 have cl:∀ (o:Option Int) (d:Nat),d<=n->(match o with | none=>(d:Int) | some i=>let i:=if i < 0 then i+(n:Int) else i;if (1:Int) > 0 then max 0 (min i (n:Int)) else max (-1) (min i ((n:Int) - 1)))=((HT.sIx n d o:Nat):Int):=λo d hd=>by
  cases o with
  | none=>rfl
  | some i=>
   simp only[HT.sIx,show (1:Int) > 0 by decide,if_true]
   by_cases h:i < 0
   ·simp only[h,if_true] <;> omega
   ·simp only[h,if_false] <;> omega
 have c1:=cl lo 0 (Nat.zero_le _)
 have c2:=cl hi n (Nat.le_refl _)
 simp only[show (1:Int) > 0 by decide,if_true] at c1 c2 ⊢
 exact congr (congrArg sliceRange c1) c2▸rfl
theorem DK (x:Str) (t:Tok) (l u:Option (Int×Tok)){Q:Value->Shared->Prop}{s:Shared}(hl:x.length<=sizeLine)
  (h:∀ t' s',(s'=s\/s'={ s with toks:=s.toks+1 })->Q (.str (oZ x (l.map (·.1)) (u.map (·.1))) t') s'):(sliceMade x t l u none).post Q s:=by
 unfold sliceMade slicePicked
 have e:Builtin.Str.strSliceIndices (l.map (·.1)) (u.map (·.1)) ((((none:Option (Int×Tok)).map (·.1)).getD 1)) x.length=_:=GZ (l.map (·.1)) (u.map (·.1)) x.length
 rw[e]
 have hp:=pick_run x.cps (HT.sIx x.length 0 (l.map (·.1))) (HT.sIx x.length x.length (u.map (·.1)) - HT.sIx x.length 0 (l.map (·.1)))
 have hs:HT.sIx x.length x.length (u.map (·.1))<=x.length:=HT.sIx_le _ _ (Nat.le_refl _) _
 have hc:x.length=x.cps.toList.length:=by simp[Str.length]
 by_cases hw:((((none:Option (Int×Tok)).map (·.1)).getD 1 == 1&&((List.range (HT.sIx x.length x.length (u.map (·.1)) - HT.sIx x.length 0 (l.map (·.1)))).map (HT.sIx x.length 0 (l.map (·.1))+·)).length == x.length)=true)
 ·rw[if_pos hw]
  show Q (.str x t) s
  have hn:HT.sIx x.length x.length (u.map (·.1)) - HT.sIx x.length 0 (l.map (·.1))=x.length:=by
   have:=(Bool.and_eq_true _ _▸hw).2
   simpa using this
  have e2:oZ x (l.map (·.1)) (u.map (·.1))=x:=by
   unfold oZ
   rw[hn]
   by_cases h0:x.length=0
   ·have:x.cps.toList=[]:=List.eq_nil_of_length_eq_zero (by omega)
    cases x with | mk c=>simp at this;subst this;simp
   ·have h1:HT.sIx x.length 0 (l.map (·.1))=0:=by omega
    rw[h1,List.drop_zero,hc,List.take_length]
  have:=h t s (.inl rfl)
  rw[e2] at this
  exact this
 ·rw[if_neg hw,hp]
  refine⟨?_,h _ _ (.inr rfl)⟩
  show ((x.cps.toList.drop _).take _).toArray.size<=sizeLine
  rw[List.size_toArray,List.length_take,List.length_drop,← hc]
  omega
section
variable {X:Cx}
def Jz:V->Option Int->Option Int->Hp->VK->Prop:=λx lo hi H Q=>∃ z,x=.str z/\z.length<=sizeLine/\Q (.str (oZ z lo hi)) H
theorem JB:SlR X Jz:=by
 intro pins s σ H x v vl vu lo hi sl Q I rx hs pl pu h
 obtain⟨z,rfl,hz,q⟩:=h
 obtain⟨t,rfl⟩:=rx
 refine⟨"str",_,slot_str_getitem.lookup,typeIs_str s z t,?_⟩
 have part:∀ {v:Value}{o:Option Int},IsPart v o->∃ p:Option (Int×Tok),v=partValue p/\p.map (·.1)=o:=λp=>by
  cases p with
  | none=>exact⟨none,rfl,rfl⟩
  | int i t=>exact⟨some (i,t),rfl,rfl⟩
 obtain⟨l,rfl,rfl⟩:=part pl
 obtain⟨u,rfl,rfl⟩:=part pu
 refine wpAny_getItem_str_slice (l:=l) (u:=u) (st:=none) hs rfl (DK z t l u hz λt' s' hs'=>?_)
 rcases hs' with rfl | rfl
 ·exact⟨.str (oZ z (l.map (·.1)) (u.map (·.1))),H,I,⟨t',rfl⟩,q⟩
 ·exact⟨.str (oZ z (l.map (·.1)) (u.map (·.1))),H,I.tok _,⟨t',rfl⟩,q⟩
def JC (K:PySem.W.Frag):V->Option Int->Option Int->Hp->VK->Prop:=λx lo hi H Q=>Jq K x lo hi H Q\/Jz x lo hi H Q
theorem JD:SlR X (JC X.K):=sl_list.or JB
end
end L2
namespace L2
open PySem PySem.Spec PyProof.Rows
section
variable {X:Cx}{pins:List (Addr×Obj)}{σ:St}{H H':Hp}{s:Shared}{h':Heap}
end
section
variable {X:Cx}
end
end L2
namespace L2
open PySem PySem.Spec PyProof.Rows
section
variable {X:Cx}
end
end L2
namespace L2
open PySem PySem.Spec PyProof.Rows
section
variable {prog:Program}{w:World}{A:Around}{E:Value->Shared->Prop}{s:Shared}
end
section
variable {X:Cx}{tg:Expr}
end
end L2
namespace L2
open PySem PySem.Spec PyProof.Rows
section
variable {X:Cx}{tg:Expr}
end
end L2
namespace L2
open PySem PySem.Spec PyProof.Rows
section
variable {prog:Program}{w:World}{A:Around}{E:Value->Shared->Prop}{s:Shared}
variable {z TI TO i1 i2:Addr}{fp1 fp2:List Addr}{n1 n2:Nat}{P1 P2:Nat->Value->Prop}{St1 St2:Nat->Heap->Prop}
end
inductive SK where | L | T
def SK.ty:SK->String
 | .L => "list_iterator"
 | .T => "tuple_iterator"
def SK.is (k:SK) (h:Heap) (a:Addr) (items:Array Value):Prop:=match k with
 | .L=>h.IsList a items
 | .T=>h.IsTuple a items
def SK.at (k:SK) (h:Heap) (it a:Addr) (i:Nat):Prop:=match k with
 | .L=>h.IsListIter it a i
 | .T=>h.IsTupleIter it a i
end L2
namespace L2
open PySem PySem.Spec PyProof.Rows
section
variable {prog:Program}{w:World}{A:Around}{E:Value->Shared->Prop}{s:Shared}
end
def SK.sq (k:SK) (K:PySem.W.Frag) (H:Hp) (a:Addr) (xs:List V):Prop:=match k with
 | .L=>SqL K H a xs
 | .T=>SqT K H a xs
section
variable {X:Cx}{pins:List (Addr×Obj)}{σ:St}{H:Hp}{s:Shared}
end
section
variable {X:Cx}
end
end L2
namespace L2
open PySem PySem.Spec PyProof.Rows
def yZ (val:Nat->Str):Nat->List Str
 | 0=>[]
 | i+1=>if val i∈yZ val i then yZ val i else yZ val i++[val i]
section
variable {prog:Program}{w:World}{A:Around}{R:Result->Shared->Prop}{J:Addr}{fp wr:List Addr}{G:Array GenState->Array GenState->Prop}{n:Nat}{P:Nat->Value->Prop}{St:Nat->Shared->Prop}
end
section
variable {prog:Program}{w:World}{A:Around}{E:Value->Shared->Prop}{s:Shared}
end
end L2
namespace L2
open PySem PySem.Spec PyProof.Rows
def unlike (xs:List Str):Nat:=(yZ (λi=>xs.getD i ⟨#[]⟩) xs.length).length
section
variable {X:Cx}
end
end L2
namespace L2
open PySem PySem.Spec PyProof.Rows
section
variable {X:Cx}{tg:Expr}
end
end L2
namespace L2
open PySem PySem.Spec PyProof.Rows
section
variable {X:Cx}{tg:Expr}{pins:List (Addr×Obj)}{σ:St}{H:Hp}{s:Shared}{apos cpos pos:Pos}{td ty tx tv:TE}{o e f:Expr}
theorem KT.get {K:PySem.W.Frag}{kvs:List (List Key×V)}{xs:List (List Key×Addr×Value)}(r:KT K H kvs xs):∀ {i:Nat}{p:List Key×V},kvs[i]?=some p->∃ b u,xs[i]?=some (p.1,b,u)/\CKey K H b p.1:=by
 induction r with
 | nil=>intro i p h;simp at h
 | @cons p q ps qs h t ih=>
  intro i p' e
  cases i with
  | zero=>
   cases e
   obtain⟨k,b,u⟩:=q
   obtain⟨h1,h2,_⟩:=h
   dsimp only at h1 h2
   exact⟨b,u,by rw[h1];rfl,h2⟩
  | succ i=>exact ih (i:=i) e
end
end L2
namespace L2
open PySem PySem.Spec PyProof.Rows
section
variable {prog:Program}{w:World}{κ:Type} [DecidableEq κ] {kd:HeapKind prog w κ}{A:Around}{E:Value->Shared->Prop}{s:Shared}{d a it vw:Addr}{xs:List (κ×Addr×Value)}{k:κ}{v ok ov:Value}
end
end L2
namespace L2
open PySem PySem.Spec PyProof.Rows
section
variable {X:Cx}{tg:Expr}{pins:List (Addr×Obj)}{σ:St}{H:Hp}{s:Shared}{apos cpos pos:Pos}{td:TE}{o:Expr}
def Oq (K:PySem.W.Frag) (a:Addr) (n:Nat):It:=
 ⟨λi H=>∃ kvs,Rd H a (.dT kvs)/\kvs.length=n/\i < n,λi H x H'=>∃ t kvs b ks y,H t=none/\x=.ref t/\H'=upd H t (.tup [.ref b,y])/\Rd H a (.dT kvs)/\kvs[i]?=some (ks,y)/\CKey K H b ks,λi H=>∃ kvs,Rd H a (.dT kvs)/\kvs.length=n/\n<=i⟩
noncomputable def iDi (K:PySem.W.Frag) (tl:TE):TI:=fun σ H R=>tl σ H λx H1=>∃ a kvs,x=.ref a/\Rd H1 a (.dT kvs)/\R (Oq K a kvs.length) H1
end
end L2
namespace L2
open PySem PySem.Spec PyProof.Rows
def IsRvd (h:Heap) (a t:Addr) (i:Int):Prop:=∃ o,h.get? a=some o/\o.cls=.type "reversed" /\ o.data=.fields #[.ref t,rawInt i]
theorem IsRvd.at {h h':Heap}{a l:Addr}{i:Int}(x:IsRvd h a l i) (e:∀ o,h.get? a=some o->h'.get? a=some o):IsRvd h' a l i:=let ⟨o,ho,r⟩:=x;⟨o,e _ ho,r⟩
section
variable {prog:Program}{w:World}{A:Around}{E:Value->Shared->Prop}{s:Shared}
end
section
variable {X:Cx}{tg:Expr}
end
end L2
namespace L2
open PySem PySem.Spec PyProof.Rows
section
variable {prog:Program}{w:World}{A:Around}{E:Value->Shared->Prop}{s:Shared}
end
section
variable {X:Cx}
end
end L2
namespace HT
open PySem PyProof.Rows
section
open PySem.SeqAt
open PySem.AutoSeq1 (wpAny_loadPart')
open PySem.MeetsSeq PySem.MeetsSeq2 PySem.MeetsSeq3
end
end HT
namespace L2
open PySem PyProof.Rows
section
variable {X:Cx}
end
end L2
namespace L2
open PySem PySem.Spec PyProof.Rows
section
variable {X:Cx}
end
end L2
namespace L2
open PySem PySem.Spec PyProof.Rows
section
variable {prog:Program}{w:World}{A:Around}{E:Value->Shared->Prop}{s:Shared}
end
section
variable {X:Cx}{pos:Pos}
end
end L2
namespace L2
open PySem PySem.Spec PyProof.Rows
section
variable {X:Cx}
end
end L2
namespace MR
open PySem L2
inductive PV where
 | non | bl (b:Bool) | int (i:Int) | str (x:Str)
 | lst (xs:List PV) | frz (xs:List PV) | tup (xs:List PV) | ktp (xs:List PV)
 | dK (kvs:List (Key×PV)) | dT (kvs:List (List Key×PV))
 | obj (c:Nat) (fs:List (Str×PV))
structure MC where
 K:PySem.W.Frag
 cl:Nat->Addr
mutual
inductive Rep (C:MC) (A:Addr->Prop) (H:Hp):V->PV->Prop
 | non:Rep C A H .non .non
 | bl (b:Bool):Rep C A H (.bl b) (.bl b)
 | int (i:Int):Rep C A H (.int i) (.int i)
 | str (x:Str):Rep C A H (.str x) (.str x)
 | lst {a:Addr}{vs:List V}{xs:List PV}:H a=some (.lst vs)->A a->Reps C A H vs xs->Rep C A H (.ref a) (.lst xs)
 | lstF {a:Addr}{o:Obj}{vs:List V}{xs:List PV}:H a=some (.frz o (.lst vs))->Reps C A H vs xs->Rep C A H (.ref a) (.frz xs)
 | lstK {a:Addr}{vs:List V}{xs:List PV}:SqL C.K (λ_=>none) a vs->Reps C A H vs xs->Rep C A H (.ref a) (.frz xs)
 | tup {a:Addr}{vs:List V}{xs:List PV}:H a=some (.tup vs)->Reps C A H vs xs->Rep C A H (.ref a) (.tup xs)
 | tupC {a:Addr}{vs:List V}{xs:List PV}:KTup C.K a vs->Reps C A H vs xs->Rep C A H (.ref a) (.tup xs)
 | tupK {a:Addr}{vs:List V}{xs:List PV}:SqT C.K (λ_=>none) a vs->Reps C A H vs xs->Rep C A H (.ref a) (.ktp xs)
 | dK {a:Addr}{kv:List (Key×V)}{kvs:List (Key×PV)}:H a=some (.dK kv)->A a->RepK C A H kv kvs->Rep C A H (.ref a) (.dK kvs)
 | dT {a:Addr}{kv:List (List Key×V)}{kvs:List (List Key×PV)}:H a=some (.dT kv)->A a->RepT C A H kv kvs->Rep C A H (.ref a) (.dT kvs)
 | obj {a dx:Addr}{c:Nat}{f:List (Str×V)}{fs:List (Str×PV)}:H a=some (.ins (C.cl c) dx f)->A a->RepF C A H f fs->Rep C A H (.ref a) (.obj c fs)
inductive Reps (C:MC) (A:Addr->Prop) (H:Hp):List V->List PV->Prop
 | nil:Reps C A H [] []
 | cons {v:V}{p:PV}{vs:List V}{ps:List PV}:Rep C A H v p->Reps C A H vs ps->Reps C A H (v::vs) (p::ps)
inductive RepK (C:MC) (A:Addr->Prop) (H:Hp):List (Key×V)->List (Key×PV)->Prop
 | nil:RepK C A H [] []
 | cons {k:Key}{v:V}{p:PV}{vs:List (Key×V)}{ps:List (Key×PV)}:Rep C A H v p->RepK C A H vs ps->RepK C A H ((k,v)::vs) ((k,p)::ps)
inductive RepT (C:MC) (A:Addr->Prop) (H:Hp):List (List Key×V)->List (List Key×PV)->Prop
 | nil:RepT C A H [] []
 | cons {k:List Key}{v:V}{p:PV}{vs:List (List Key×V)}{ps:List (List Key×PV)}:Rep C A H v p->RepT C A H vs ps->RepT C A H ((k,v)::vs) ((k,p)::ps)
inductive RepF (C:MC) (A:Addr->Prop) (H:Hp):List (Str×V)->List (Str×PV)->Prop
 | nil:RepF C A H [] []
 | cons {k:Str}{v:V}{p:PV}{vs:List (Str×V)}{ps:List (Str×PV)}:Rep C A H v p->RepF C A H vs ps->RepF C A H ((k,v)::vs) ((k,p)::ps)
end
def y_:HO->Bool
 | .lst _=>true
 | .dK _=>true
 | .dT _=>true
 | .ins _ _ _=>true
 | _=>false
def Ex (A:Addr->Prop) (H:Hp) (A':Addr->Prop) (H':Hp):Prop:=∀ a o,H a=some o->(A a->H' a=some o/\A' a)/\(y_ o=false->H' a=some o)
theorem Ex.refl (A:Addr->Prop) (H:Hp):Ex A H A H:=λa o h=>⟨λq=>⟨h,q⟩,λ_=>h⟩
theorem Ex.trans {A B C:Addr->Prop}{H I J:Hp}(e:Ex A H B I) (f:Ex B I C J):Ex A H C J:=λa o h=>⟨λq=>by
 obtain⟨h1,q1⟩:=(e a o h).1 q
 exact(f a o h1).1 q1,λm=>(f a o ((e a o h).2 m)).2 m⟩
theorem Ex.of_same {A:Addr->Prop}{H H':Hp}(s:Same H H'):Ex A H A H':=λa o h=>⟨λq=>⟨s a o h,q⟩,λ_=>s a o h⟩
mutual
theorem Rep.ex {C:MC}{A A':Addr->Prop}{H H':Hp}(e:Ex A H A' H'):∀ {v:V}{p:PV},Rep C A H v p->Rep C A' H' v p
 | _,_,.non=>.non
 | _,_,.bl b=>.bl b
 | _,_,.int i=>.int i
 | _,_,.str x=>.str x
 | _,_,.lst h q r=>.lst ((e _ _ h).1 q).1 ((e _ _ h).1 q).2 (Reps.ex e r)
 | _,_,.lstF h r=>.lstF ((e _ _ h).2 rfl) (Reps.ex e r)
 | _,_,.lstK h r=>.lstK h (Reps.ex e r)
 | _,_,.tup h r=>.tup ((e _ _ h).2 rfl) (Reps.ex e r)
 | _,_,.tupC h r=>.tupC h (Reps.ex e r)
 | _,_,.tupK h r=>.tupK h (Reps.ex e r)
 | _,_,.dK h q r=>.dK ((e _ _ h).1 q).1 ((e _ _ h).1 q).2 (RepK.ex e r)
 | _,_,.dT h q r=>.dT ((e _ _ h).1 q).1 ((e _ _ h).1 q).2 (RepT.ex e r)
 | _,_,.obj h q r=>.obj ((e _ _ h).1 q).1 ((e _ _ h).1 q).2 (RepF.ex e r)
theorem Reps.ex {C:MC}{A A':Addr->Prop}{H H':Hp}(e:Ex A H A' H'):∀ {v:List V}{p:List PV},Reps C A H v p->Reps C A' H' v p
 | _,_,.nil=>.nil
 | _,_,.cons h t=>.cons (Rep.ex e h) (Reps.ex e t)
theorem RepK.ex {C:MC}{A A':Addr->Prop}{H H':Hp}(e:Ex A H A' H'):∀ {v:List (Key×V)}{p:List (Key×PV)},RepK C A H v p->RepK C A' H' v p
 | _,_,.nil=>.nil
 | _,_,.cons h t=>.cons (Rep.ex e h) (RepK.ex e t)
theorem RepT.ex {C:MC}{A A':Addr->Prop}{H H':Hp}(e:Ex A H A' H'):∀ {v:List (List Key×V)}{p:List (List Key×PV)},RepT C A H v p->RepT C A' H' v p
 | _,_,.nil=>.nil
 | _,_,.cons h t=>.cons (Rep.ex e h) (RepT.ex e t)
theorem RepF.ex {C:MC}{A A':Addr->Prop}{H H':Hp}(e:Ex A H A' H'):∀ {v:List (Str×V)}{p:List (Str×PV)},RepF C A H v p->RepF C A' H' v p
 | _,_,.nil=>.nil
 | _,_,.cons h t=>.cons (Rep.ex e h) (RepF.ex e t)
end
theorem cM {A A':Addr->Prop}{H:Hp}(h:∀ a o,H a=some o->A a->A' a):Ex A H A' H:=λa o e=>⟨λq=>⟨e,h a o e q⟩,λ_=>e⟩
theorem Reps.length {C:MC}{A:Addr->Prop}{H:Hp}:∀ {vs:List V}{ps:List PV},Reps C A H vs ps->vs.length=ps.length
 | _,_,.nil=>rfl
 | _,_,.cons _ t=>by simp[Reps.length t]
theorem Reps.append {C:MC}{A:Addr->Prop}{H:Hp}:∀ {vs us:List V}{ps qs:List PV},Reps C A H vs ps->Reps C A H us qs->Reps C A H (vs++us) (ps++qs)
 | _,_,_,_,.nil,h=>h
 | _,_,_,_,.cons h t,r=>.cons h (Reps.append t r)
theorem Reps.get {C:MC}{A:Addr->Prop}{H:Hp}:∀ {vs:List V}{ps:List PV}{i:Nat}{p:PV},Reps C A H vs ps->ps[i]?=some p->∃ v,vs[i]?=some v/\Rep C A H v p
 | _,_,_,_,.nil,e=>by simp at e
 | _,_,0,_,.cons h t,e=>by simp at e;subst e;exact⟨_,rfl,h⟩
 | _,_,i+1,p,.cons h t,e=>by
  obtain⟨v,e1,r⟩:=Reps.get (i:=i) (p:=p) t (by simpa using e)
  exact⟨v,by simpa using e1,r⟩
theorem Reps.drop {C:MC}{A:Addr->Prop}{H:Hp}:∀ {vs:List V}{ps:List PV}(n:Nat),Reps C A H vs ps->Reps C A H (vs.drop n) (ps.drop n)
 | _,_,0,h=>by simpa using h
 | _,_,n+1,.nil=>by simpa using Reps.nil
 | _,_,n+1,.cons _ t=>by simpa using Reps.drop n t
theorem Reps.take {C:MC}{A:Addr->Prop}{H:Hp}:∀ {vs:List V}{ps:List PV}(n:Nat),Reps C A H vs ps->Reps C A H (vs.take n) (ps.take n)
 | _,_,0,h=>by simpa using Reps.nil
 | _,_,n+1,.nil=>by simpa using Reps.nil
 | _,_,n+1,.cons h t=>by simpa using Reps.cons h (Reps.take n t)
theorem Reps.set {C:MC}{A:Addr->Prop}{H:Hp}{v:V}{p:PV}(r:Rep C A H v p):∀ {vs:List V}{ps:List PV}(n:Nat),Reps C A H vs ps->Reps C A H (vs.set n v) (ps.set n p)
 | _,_,_,.nil=>.nil
 | _,_,0,.cons _ t=>.cons r t
 | _,_,n+1,.cons h t=>.cons h (Reps.set r n t)
theorem Reps.reverse {C:MC}{A:Addr->Prop}{H:Hp}:∀ {vs:List V}{ps:List PV},Reps C A H vs ps->Reps C A H vs.reverse ps.reverse
 | _,_,.nil=>.nil
 | _,_,.cons h t=>by
  rw[List.reverse_cons,List.reverse_cons]
  exact(Reps.reverse t).append (.cons h .nil)
theorem tG {C:MC}{A:Addr->Prop}{H:Hp}{α:Type}(f:α->V) (g:α->PV) (h:∀ x,Rep C A H (f x) (g x)):∀ l:List α,Reps C A H (l.map f) (l.map g)
 | []=>.nil
 | x::l=>.cons (h x) (tG f g h l)
theorem RepK.val {C:MC}{A:Addr->Prop}{H:Hp}{k:Key}:∀ {kv:List (Key×V)}{kvs:List (Key×PV)},RepK C A H kv kvs->(∃ v p,iz kv k=some v/\(kvs.find? λx=>decide (x.1=k)).map (·.2)=some p/\Rep C A H v p)\/(iz kv k=none/\(kvs.find? λx=>decide (x.1=k)).map (·.2)=none)
 | _,_,.nil=>.inr ⟨rfl,rfl⟩
 | _,_,.cons (k:=k') (v:=v) (p:=p) h t=>by
  by_cases e:k'=k
  ·subst e
   exact .inl ⟨v,p,lC rfl,by simp,h⟩
  ·rw[lD e,List.find?_cons_of_neg (by simpa using e)]
   exact RepK.val t
theorem RepT.val {C:MC}{A:Addr->Prop}{H:Hp}{k:List Key}:∀ {kv:List (List Key×V)}{kvs:List (List Key×PV)},RepT C A H kv kvs->(∃ v p,iz kv k=some v/\(kvs.find? λx=>decide (x.1=k)).map (·.2)=some p/\Rep C A H v p)\/(iz kv k=none/\(kvs.find? λx=>decide (x.1=k)).map (·.2)=none)
 | _,_,.nil=>.inr ⟨rfl,rfl⟩
 | _,_,.cons (k:=k') (v:=v) (p:=p) h t=>by
  by_cases e:k'=k
  ·subst e
   exact .inl ⟨v,p,lC rfl,by simp,h⟩
  ·rw[lD e,List.find?_cons_of_neg (by simpa using e)]
   exact RepT.val t
theorem RepF.look {C:MC}{A:Addr->Prop}{H:Hp}{k:Str}{p:PV}:∀ {f:List (Str×V)}{fs:List (Str×PV)},RepF C A H f fs->fs.lookup k=some p->∃ v,f.lookup k=some v/\Rep C A H v p
 | _,_,.nil,e=>by cases e
 | _,_,.cons (k:=k') (v:=v) (p:=p') h t,e=>by
  rw[List.lookup_cons] at e ⊢
  cases q:k == k' with
  | true=>rw[q] at e;cases e;exact⟨v,rfl,h⟩
  | false=>rw[q] at e;exact RepF.look t e
def Top (C:MC) (A:Addr->Prop) (H:Hp) (a:Addr):PV->Prop
 | .lst xs=>∃ vs,H a=some (.lst vs)/\Reps C A H vs xs
 | .dK kvs=>∃ kv,H a=some (.dK kv)/\RepK C A H kv kvs
 | .dT kvs=>∃ kv,H a=some (.dT kv)/\RepT C A H kv kvs
 | .obj c fs=>∃ dx f,H a=some (.ins (C.cl c) dx f)/\RepF C A H f fs
 | _=>False
theorem Top.ex {C:MC}{A A':Addr->Prop}{H H':Hp}{a:Addr}{p:PV}(e:Ex A H A' H') (h:∀ o,H a=some o->H' a=some o) (t:Top C A H a p):Top C A' H' a p:=by
 cases p with
 | lst xs=>obtain⟨vs,q,r⟩:=t;exact⟨vs,h _ q,r.ex e⟩
 | dK kvs=>obtain⟨vs,q,r⟩:=t;exact⟨vs,h _ q,r.ex e⟩
 | dT kvs=>obtain⟨vs,q,r⟩:=t;exact⟨vs,h _ q,r.ex e⟩
 | obj c fs=>obtain⟨dx,f,q,r⟩:=t;exact⟨dx,f,h _ q,r.ex e⟩
 | _=>exact t
theorem Top.live {C:MC}{A:Addr->Prop}{H:Hp}{a:Addr}{p:PV}(t:Top C A H a p):∃ o,H a=some o/\y_ o=true:=by
 cases p with
 | lst xs=>obtain⟨vs,q,r⟩:=t;exact⟨_,q,rfl⟩
 | dK kvs=>obtain⟨vs,q,r⟩:=t;exact⟨_,q,rfl⟩
 | dT kvs=>obtain⟨vs,q,r⟩:=t;exact⟨_,q,rfl⟩
 | obj c fs=>obtain⟨dx,f,q,r⟩:=t;exact⟨_,q,rfl⟩
 | _=>exact t.elim
theorem Top.rep {C:MC}{A:Addr->Prop}{H:Hp}{a:Addr}{p:PV}(t:Top C A H a p) (h:A a):Rep C A H (.ref a) p:=by
 cases p with
 | lst xs=>obtain⟨vs,q,r⟩:=t;exact .lst q h r
 | dK kvs=>obtain⟨vs,q,r⟩:=t;exact .dK q h r
 | dT kvs=>obtain⟨vs,q,r⟩:=t;exact .dT q h r
 | obj c fs=>obtain⟨dx,f,q,r⟩:=t;exact .obj q h r
 | _=>exact t.elim
def RepB (C:MC) (A:Addr->Prop) (H:Hp) (v:V) (p:PV):Prop:=Rep C A H v p\/∃ a,v=.ref a/\Top C A H a p
theorem RepB.ex {C:MC}{A A':Addr->Prop}{H H':Hp}{v:V}{p:PV}(e:Ex A H A' H') (s:Same H H') (h:RepB C A H v p):RepB C A' H' v p:=by
 rcases h with h | ⟨a,q,t⟩
 ·exact .inl (h.ex e)
 ·exact .inr ⟨a,q,t.ex e λo z=>s _ _ z⟩
section
variable {C:MC}{A:Addr->Prop}{H:Hp}{v:V}
theorem sqK {K:PySem.W.Frag}{a:Addr}{vs:List V}(h:SqL K (λ_=>none) a vs):SqL K H a vs:=by
 rcases h with (h | ⟨o,h⟩) | h
 ·cases h
 ·cases h
 ·exact .inr h
theorem za {K:PySem.W.Frag}{a:Addr}{vs:List V}(h:SqT K (λ_=>none) a vs):SqT K H a vs:=by
 rcases h with (h | ⟨o,h⟩) | h
 ·cases h
 ·cases h
 ·exact .inr h
theorem RepB.lst {xs:List PV}(h:RepB C A H v (.lst xs)):∃ a vs,v=.ref a/\H a=some (.lst vs)/\Reps C A H vs xs:=by
 rcases h with h | ⟨a,rfl,vs,q,r⟩
 ·cases h with
  | lst q _ r=>exact⟨_,_,rfl,q,r⟩
 ·exact⟨a,vs,rfl,q,r⟩
theorem RepB.frz {xs:List PV}(h:RepB C A H v (.frz xs)):∃ a vs,v=.ref a/\SqL C.K H a vs/\Reps C A H vs xs:=by
 rcases h with h | ⟨a,rfl,t⟩
 ·cases h with
  | lstF q r=>exact⟨_,_,rfl,.inl (.inr ⟨_,q⟩),r⟩
  | lstK q r=>exact⟨_,_,rfl,sqK q,r⟩
 ·exact t.elim
def TupR (K:PySem.W.Frag) (H:Hp) (a:Addr) (vs:List V):Prop:=H a=some (.tup vs)\/KTup K a vs
theorem TupR.sq {K:PySem.W.Frag}{H:Hp}{a:Addr}{vs:List V}(h:TupR K H a vs):SqT K H a vs:=h.elim (λq=>SqT.of q) Or.inr
theorem TupR.rep {C:MC}{A:Addr->Prop}{H:Hp}{a:Addr}{vs:List V}{xs:List PV}(h:TupR C.K H a vs) (r:Reps C A H vs xs):Rep C A H (.ref a) (.tup xs):=h.elim (λq=>.tup q r) λq=>.tupC q r
theorem TupR.ex {K:PySem.W.Frag}{A A':Addr->Prop}{H H':Hp}{a:Addr}{vs:List V}(h:TupR K H a vs) (e:Ex A H A' H'):TupR K H' a vs:=h.imp (λq=>(e _ _ q).2 rfl) id
theorem TupR.up {K:PySem.W.Frag}{H H':Hp}{a:Addr}{vs:List V}(h:TupR K H a vs) (s:Same H H'):TupR K H' a vs:=h.imp (λq=>s _ _ q) id
theorem TupR.key {K:PySem.W.Frag}{H:Hp}{a:Addr}{vs:List V}{ks:List Key}(h:TupR K H a vs) (k:vN ks vs):CKey K H a ks:=h.imp (λq=>⟨vs,q,k⟩) λq=>⟨vs,q,k⟩
theorem RepB.tup {xs:List PV}(h:RepB C A H v (.tup xs)):∃ a vs,v=.ref a/\TupR C.K H a vs/\Reps C A H vs xs:=by
 rcases h with h | ⟨a,rfl,t⟩
 ·cases h with
  | tup q r=>exact⟨_,_,rfl,.inl q,r⟩
  | tupC q r=>exact⟨_,_,rfl,.inr q,r⟩
 ·exact t.elim
theorem RepB.ktp {xs:List PV}(h:RepB C A H v (.ktp xs)):∃ a vs,v=.ref a/\SqT C.K H a vs/\Reps C A H vs xs:=by
 rcases h with h | ⟨a,rfl,t⟩
 ·cases h with
  | tupK q r=>exact⟨_,_,rfl,za q,r⟩
 ·exact t.elim
theorem RepB.dK {kvs:List (Key×PV)}(h:RepB C A H v (.dK kvs)):∃ a kv,v=.ref a/\H a=some (.dK kv)/\RepK C A H kv kvs:=by
 rcases h with h | ⟨a,rfl,vs,q,r⟩
 ·cases h with
  | dK q _ r=>exact⟨_,_,rfl,q,r⟩
 ·exact⟨a,vs,rfl,q,r⟩
theorem RepB.dT {kvs:List (List Key×PV)}(h:RepB C A H v (.dT kvs)):∃ a kv,v=.ref a/\H a=some (.dT kv)/\RepT C A H kv kvs:=by
 rcases h with h | ⟨a,rfl,vs,q,r⟩
 ·cases h with
  | dT q _ r=>exact⟨_,_,rfl,q,r⟩
 ·exact⟨a,vs,rfl,q,r⟩
theorem RepB.obj {c:Nat}{fs:List (Str×PV)}(h:RepB C A H v (.obj c fs)):∃ a dx f,v=.ref a/\H a=some (.ins (C.cl c) dx f)/\RepF C A H f fs:=by
 rcases h with h | ⟨a,rfl,dx,vs,q,r⟩
 ·cases h with
  | obj q _ r=>exact⟨_,_,_,rfl,q,r⟩
 ·exact⟨a,dx,vs,rfl,q,r⟩
theorem RepB.int {i:Int}(h:RepB C A H v (.int i)):v=.int i:=by
 rcases h with h | ⟨a,rfl,t⟩
 ·cases h;rfl
 ·exact t.elim
theorem RepB.str {x:Str}(h:RepB C A H v (.str x)):v=.str x:=by
 rcases h with h | ⟨a,rfl,t⟩
 ·cases h;rfl
 ·exact t.elim
theorem RepB.bl {x:Bool}(h:RepB C A H v (.bl x)):v=.bl x:=by
 rcases h with h | ⟨a,rfl,t⟩
 ·cases h;rfl
 ·exact t.elim
theorem RepB.non (h:RepB C A H v .non):v=.non:=by
 rcases h with h | ⟨a,rfl,t⟩
 ·cases h;rfl
 ·exact t.elim
end
structure BX where
 C:MC
 A:Addr->Prop
 H0:Hp
 fx:Nat->Option V
def fx0 (x:V):Nat->Option V
 | 0=>some x
 | _+1=>none
abbrev Env:=List (Option PV)
def Bs (b:BX) (Ow:Addr->Prop) (a:Addr):Prop:=¬ Ow a/\(b.A a\/b.H0 a=none)
structure ER (b:BX) (Ow:Addr->Prop) (G:List Nat) (σ:St) (env:Env) (H:Hp):Prop where
 len:σ.length=env.length
 same:Same b.H0 H
 live:∀ a,Ow a->∃ o,H a=some o
 new:∀ a,Ow a->b.H0 a=none
 val:∀ i p,env[i]?=some (some p)->i∉G->∃ v,σ[i]?=some (some v)/\Rep b.C (Bs b Ow) H v p
 own:∀ i p,env[i]?=some (some p)->i∈G->∃ a,σ[i]?=some (some (.ref a))/\Ow a/\Top b.C (Bs b Ow) H a p
 sep:∀ i j a p q,env[i]?=some (some p)->i∈G->σ[i]?=some (some (.ref a))->env[j]?=some (some q)->j∈G->σ[j]?=some (some (.ref a))->i=j
 fix:∀ i v,b.fx i=some v->σ[i]?=some (some v)
inductive Md where | val | own | bor
def Res (b:BX) (Ow:Addr->Prop) (H H':Hp) (m:Md) (v:V) (p:PV):Prop:=match m with
 | .val=>Rep b.C (Bs b Ow) H' v p
 | .own=>∃ a,v=.ref a/\H a=none/\Top b.C (λc=>Bs b Ow c/\c≠a) H' a p
 | .bor=>RepB b.C (Bs b Ow) H' v p
def tM (b:BX) (G:List Nat) (m:Md) (f:Env->Option PV):TE:=fun σ H Q=>∃ Ow env p,ER b Ow G σ env H/\f env=some p/\∀ v H',Same H H'->Res b Ow H H' m v p->Q v H'
def tMT (b:BX) (G:List Nat) (f:Env->Option Bool):TT:=fun σ H Q=>∃ Ow env k,ER b Ow G σ env H/\f env=some k/\∀ H',Same H H'->Q k H'
section
variable {b:BX}{Ow:Addr->Prop}{G:List Nat}{σ:St}{env:Env}{H H':Hp}
theorem ER.up (E:ER b Ow G σ env H) (s:Same H H'):ER b Ow G σ env H':=
 ⟨E.len,E.same.trans s,λa h=>let ⟨o,e⟩:=E.live a h;⟨o,s _ _ e⟩,E.new,λi p h n=>let ⟨v,e,r⟩:=E.val i p h n;⟨v,e,r.ex (.of_same s)⟩,
  λi p h n=>let ⟨a,e,w,t⟩:=E.own i p h n;⟨a,e,w,t.ex (.of_same s) λo z=>s _ _ z⟩,E.sep,E.fix⟩
theorem ER.fresh (E:ER b Ow G σ env H){a:Addr}(h:H a=none):Bs b Ow a:=
 ⟨λw=>(by obtain⟨o,e⟩:=E.live a w;rw[h] at e;cases e),.inr (E.same.free h)⟩
theorem Res.val {m:Md}{v:V}{p:PV}(E:ER b Ow G σ env H) (hm:m≠.bor) (r:Res b Ow H H' m v p):Res b Ow H H' .val v p:=by
 cases m with
 | val=>exact r
 | bor=>exact absurd rfl hm
 | own=>
  obtain⟨a,rfl,h,t⟩:=r
  have hw:Ex (λc=>Bs b Ow c/\c≠a) H' (Bs b Ow) H':=cM λ_ _ _ z=>z.1
  exact(t.ex hw λo z=>z).rep (E.fresh h)
theorem Res.bor {m:Md}{v:V}{p:PV}(r:Res b Ow H H' m v p):Res b Ow H H' .bor v p:=by
 cases m with
 | val=>exact .inl r
 | bor=>exact r
 | own=>
  obtain⟨a,rfl,h,t⟩:=r
  have hw:Ex (λc=>Bs b Ow c/\c≠a) H' (Bs b Ow) H':=cM λ_ _ _ z=>z.1
  exact .inr ⟨a,rfl,t.ex hw λo z=>z⟩
theorem Res.up {m:Md}{v:V}{p:PV}{H'':Hp}(r:Res b Ow H H' m v p) (s:Same H' H''):Res b Ow H H'' m v p:=by
 cases m with
 | val=>exact Rep.ex (.of_same s) r
 | bor=>exact RepB.ex (.of_same s) s r
 | own=>
  obtain⟨a,e,h,t⟩:=r
  exact⟨a,e,h,t.ex (.of_same s) λo z=>s _ _ z⟩
theorem Res.down {m:Md}{v:V}{p:PV}{H'':Hp}(s:Same H H') (r:Res b Ow H' H'' m v p):Res b Ow H H'' m v p:=by
 cases m with
 | val=>exact r
 | bor=>exact r
 | own=>
  obtain⟨a,e,h,t⟩:=r
  exact⟨a,e,s.free h,t⟩
end
theorem PE.imp {X:Cx}{e:Expr}{t u:TE}(h:PE X e t) (i:∀ σ H Q,u σ H Q->t σ H Q):PE X e u:=λpins s σ H Q I q=>h pins s σ H Q I (i σ H Q q)
theorem PT.imp {X:Cx}{e:Expr}{t u:TT}(h:PT X e t) (i:∀ σ H Q,u σ H Q->t σ H Q):PT X e u:=λpins s σ H Q I q=>h pins s σ H Q I (i σ H Q q)
theorem PS.imp {X:Cx}{e:Stmt}{t u:TS}(h:PS X e t) (i:∀ D σ H,u D σ H->t D σ H):PS X e u:=λpins s σ H D I q=>h pins s σ H D I (i D σ H q)
theorem PE.or {X:Cx}{e:Expr}{t u:TE}(h:PE X e t) (h':PE X e u):PE X e (fun σ H Q=>t σ H Q\/u σ H Q):=λpins s σ H Q I q=>q.elim (h pins s σ H Q I) (h' pins s σ H Q I)
theorem OpR.or {X:Cx}{op:Value->Value->Sem Value}{r r':R2}(h:OpR X op r) (h':OpR X op r'):OpR X op (λx y H Q=>r x y H Q\/r' x y H Q):=λpins s σ H x y v u Q I rx ry q=>q.elim (h pins s σ H x y v u Q I rx ry) (h' pins s σ H x y v u Q I rx ry)
abbrev SE (X:Cx) (b:BX) (G:List Nat) (m:Md) (e:Expr) (f:Env->Option PV):Prop:=PE X e (tM b G m f)
abbrev ST (X:Cx) (b:BX) (G:List Nat) (e:Expr) (f:Env->Option Bool):Prop:=PT X e (tMT b G f)
theorem SE.bor {X:Cx}{b:BX}{G:List Nat}{m:Md}{e:Expr}{f:Env->Option PV}(h:SE X b G m e f):SE X b G .bor e f:=
 PE.imp h fun σ H Q ⟨Ow,env,p,E,hf,k⟩=>⟨Ow,env,p,E,hf,λv H' s r=>k v H' s r.bor⟩
theorem SE.val {X:Cx}{b:BX}{G:List Nat}{e:Expr}{f:Env->Option PV}(h:SE X b G .own e f):SE X b G .val e f:=
 PE.imp h fun σ H Q ⟨Ow,env,p,E,hf,k⟩=>⟨Ow,env,p,E,hf,λv H' s r=>k v H' s (r.val E (by intro z;cases z))⟩
end MR
namespace MR
open PySem L2
noncomputable def bC (p:PV) (env:Env):Option PV:=some p
@[simp] theorem rF (p:PV) (env:Env):bC p env=(some p):=id rfl
noncomputable def bV (i:Nat) (env:Env):Option PV:=match env[i]? with | some o=>o | none=>none
@[simp] theorem Mh (i:Nat) (env:Env):bV i env=(match env[i]? with | some o=>o | none=>none):=id rfl
noncomputable def b1 (g:PV->Option PV) (f:Env->Option PV) (env:Env):Option PV:=(f env).bind g
@[simp] theorem zb (g:PV->Option PV) (f:Env->Option PV) (env:Env):b1 g f env=((f env).bind g):=id rfl
noncomputable def b2 (g:PV->PV->Option PV) (f h:Env->Option PV) (env:Env):Option PV:=(f env).bind λx=>(h env).bind λy=>g x y
@[simp] theorem kJ (g:PV->PV->Option PV) (f h:Env->Option PV) (env:Env):b2 g f h env=((f env).bind λx=>(h env).bind λy=>g x y):=id rfl
noncomputable def b3 (g:PV->PV->PV->Option PV) (f h k:Env->Option PV) (env:Env):Option PV:=(f env).bind λx=>(h env).bind λy=>(k env).bind λz=>g x y z
@[simp] theorem Q_ (g:PV->PV->PV->Option PV) (f h k:Env->Option PV) (env:Env):b3 g f h k env=((f env).bind λx=>(h env).bind λy=>(k env).bind λz=>g x y z):=id rfl
noncomputable def d8 (f g:Env->Option PV) (env:Env):Option PV:=(f env).bind λx=>match x with | .bl true=>g env | .bl false=>some (.bl false) | _=>none
@[simp] theorem tH (f g:Env->Option PV) (env:Env):d8 f g env=((f env).bind λx=>match x with | .bl true=>g env | .bl false=>some (.bl false) | _=>none):=id rfl
noncomputable def bOr (f g:Env->Option PV) (env:Env):Option PV:=(f env).bind λx=>match x with | .bl true=>some (.bl true) | .bl false=>g env | _=>none
@[simp] theorem Qt (f g:Env->Option PV) (env:Env):bOr f g env=((f env).bind λx=>match x with | .bl true=>some (.bl true) | .bl false=>g env | _=>none):=id rfl
noncomputable def Ot (f:Env->Option PV) (env:Env):Option PV:=(f env).bind λx=>match x with | .bl c=>some (.bl (!c)) | _=>none
@[simp] theorem PL (f:Env->Option PV) (env:Env):Ot f env=((f env).bind λx=>match x with | .bl c=>some (.bl (!c)) | _=>none):=id rfl
noncomputable def bIf (c:Env->Option Bool) (f g:Env->Option PV) (env:Env):Option PV:=(c env).bind λx=>if x=true then f env else g env
@[simp] theorem Qu (c:Env->Option Bool) (f g:Env->Option PV) (env:Env):bIf c f g env=((c env).bind λx=>if x=true then f env else g env):=id rfl
noncomputable def tV (f:Env->Option PV) (env:Env):Option Bool:=(f env).bind λx=>match x with | .bl c=>some c | _=>none
@[simp] theorem Mi (f:Env->Option PV) (env:Env):tV f env=((f env).bind λx=>match x with | .bl c=>some c | _=>none):=id rfl
noncomputable def tA (f g:Env->Option Bool) (env:Env):Option Bool:=(f env).bind λx=>if x=true then g env else some false
@[simp] theorem Ra (f g:Env->Option Bool) (env:Env):tA f g env=((f env).bind λx=>if x=true then g env else some false):=id rfl
noncomputable def tO (f g:Env->Option Bool) (env:Env):Option Bool:=(f env).bind λx=>if x=true then some true else g env
@[simp] theorem Mj (f g:Env->Option Bool) (env:Env):tO f g env=((f env).bind λx=>if x=true then some true else g env):=id rfl
noncomputable def tN (f:Env->Option Bool) (env:Env):Option Bool:=(f env).bind λx=>some (!x)
@[simp] theorem Rb (f:Env->Option Bool) (env:Env):tN f env=((f env).bind λx=>some (!x)):=id rfl
noncomputable def aA (env:Env):Option (List PV):=some []
@[simp] theorem PN (env:Env):aA env=(some []):=id rfl
noncomputable def aa (f:Env->Option PV) (g:Env->Option (List PV)) (env:Env):Option (List PV):=(f env).bind λx=>(g env).bind λxs=>some (x::xs)
@[simp] theorem DN (f:Env->Option PV) (g:Env->Option (List PV)) (env:Env):aa f g env=((f env).bind λx=>(g env).bind λxs=>some (x::xs)):=id rfl
noncomputable def aX (g:Env->Option (List PV)) (env:Env):Option PV:=(g env).bind λxs=>if xs.length<=1000000 then some (.lst xs) else none
@[simp] theorem G3 (g:Env->Option (List PV)) (env:Env):aX g env=((g env).bind λxs=>if xs.length<=1000000 then some (.lst xs) else none):=id rfl
noncomputable def tK (g:Env->Option (List PV)) (env:Env):Option PV:=(g env).bind λxs=>if xs.length<=1000000 then some (.tup xs) else none
@[simp] theorem PP (g:Env->Option (List PV)) (env:Env):tK g env=((g env).bind λxs=>if xs.length<=1000000 then some (.tup xs) else none):=id rfl
noncomputable def aL (m:List PV->Option PV) (g:Env->Option (List PV)) (env:Env):Option PV:=(g env).bind m
@[simp] theorem wg (m:List PV->Option PV) (g:Env->Option (List PV)) (env:Env):aL m g env=((g env).bind m):=id rfl
section
variable {b:BX}{G:List Nat}{m:Md}{σ:St}{H:Hp}{Q:VK}
def Op2 (b:BX) (m:Md) (r:R2) (g:PV->PV->Option PV):Prop:=∀ (Ow:Addr->Prop) (H:Hp) (v1 v2:V) (p1 p2 p:PV) (Q:VK),(∀ a,H a=none->Bs b Ow a)->RepB b.C (Bs b Ow) H v1 p1->RepB b.C (Bs b Ow) H v2 p2->g p1 p2=some p->
 (∀ v H',Same H H'->Res b Ow H H' m v p->Q v H')->r v1 v2 H Q
theorem zc {r:R2}{g:PV->PV->Option PV}{f1 f2:Env->Option PV}(hr:Op2 b m r g) (h:tM b G m (b2 g f1 f2) σ H Q):tOp r (tM b G .bor f1) (tM b G .bor f2) σ H Q:=by
 obtain⟨Ow,env,p,E,hf,k⟩:=h
 unfold b2 at hf
 cases h1:f1 env with
 | none=>rw[h1] at hf;cases hf
 | some p1=>
  rw[h1] at hf
  cases h2:f2 env with
  | none=>rw[h2] at hf;cases hf
  | some p2=>
   rw[h2] at hf
   exact⟨Ow,env,p1,E,h1,λv1 H1 s1 r1=>⟨Ow,env,p2,E.up s1,h2,λv2 H2 s2 r2=>hr Ow H2 v1 v2 p1 p2 p Q (λa=>(E.up (s1.trans s2)).fresh) (r1.up s2) r2 hf λv H' s r=>k v H' (s1.trans (s2.trans s)) (r.down (s1.trans s2))⟩⟩
def Op1 (b:BX) (m:Md) (r:V->Hp->VK->Prop) (g:PV->Option PV):Prop:=∀ (Ow:Addr->Prop) (H:Hp) (v1:V) (p1 p:PV) (Q:VK),(∀ a,H a=none->Bs b Ow a)->RepB b.C (Bs b Ow) H v1 p1->g p1=some p->
 (∀ v H',Same H H'->Res b Ow H H' m v p->Q v H')->r v1 H Q
theorem zf {r:V->Hp->VK->Prop}{g:PV->Option PV}{f1:Env->Option PV}(hr:Op1 b m r g) (h:tM b G m (b1 g f1) σ H Q):tM b G .bor f1 σ H λx H1=>r x H1 Q:=by
 obtain⟨Ow,env,p,E,hf,k⟩:=h
 unfold b1 at hf
 cases h1:f1 env with
 | none=>rw[h1] at hf;cases hf
 | some p1=>
  rw[h1] at hf
  exact⟨Ow,env,p1,E,h1,λv1 H1 s1 r1=>hr Ow H1 v1 p1 p Q (λa=>(E.up s1).fresh) r1 hf λv H' s r=>k v H' (s1.trans s) (r.down s1)⟩
end
@[simp] noncomputable def ak:PV->PV->Option PV
 | .int i,.int j=>some (.int (i+j))
 | .str x,.str y=>if x.length+y.length<=1000000 then some (.str (x++y)) else none
 | .lst xs,.lst ys=>if xs.length+ys.length<=1000000 then some (.lst (xs++ys)) else none
 | _,_=>none
@[simp] noncomputable def cX:PV->PV->Option PV
 | .lst xs,.lst ys=>if xs.length+ys.length<=1000000 then some (.lst (xs++ys)) else none
 | _,_=>none
@[simp] noncomputable def subV:PV->PV->Option PV
 | .int i,.int j=>some (.int (i - j))
 | _,_=>none
noncomputable def smI (i:Int):Bool:=@decide (-18446744073709551616 < i/\i < 18446744073709551616) (Classical.propDecidable _)
@[simp] noncomputable def o7:PV->PV->Option PV
 | .int i,.int j=>if (smI i||smI j)=true then some (.int (i*j)) else none
 | _,_=>none
@[simp] noncomputable def g8:PV->PV->Option PV
 | .int i,.int j=>if 0 < j/\j < 1073741824 then some (.int (i / j)) else none
 | _,_=>none
@[simp] noncomputable def cV:PV->PV->Option PV
 | .int i,.int j=>if 0 < j then some (.int (i % j)) else none
 | _,_=>none
@[simp] noncomputable def Ry:PV->PV->Option PV
 | .int i,.int j=>if 0<=j/\j<=1000000/\i.natAbs < 2 ^ 64 then some (.int (i ^ j.toNat)) else none
 | _,_=>none
@[simp] noncomputable def jm (g:Int->Int->Bool):PV->PV->Option PV
 | .int i,.int j=>some (.bl (g i j))
 | _,_=>none
theorem jc {n:Nat}(h:n<=1000000):n<=sizeLine:=Nat.le_of_lt (lA h)
section
variable {b:BX}
theorem G4 {g:Int->Int->Int}{f:PV->PV->Option PV}(hf:∀ x y p,f x y=some p->∃ i j,x=.int i/\y=.int j/\p=.int (g i j)):Op2 b .val (rI0 λi j=>.int (g i j)) f:=by
 intro Ow H v1 v2 p1 p2 p Q hn r1 r2 e k
 obtain⟨i,j,rfl,rfl,rfl⟩:=hf _ _ _ e
 rw[r1.int,r2.int]
 exact⟨i,j,rfl,rfl,k _ H (Same.refl _) (.int _)⟩
theorem Bk {g:Int->Int->Bool}:Op2 b .val (rI0 λi j=>.bl (g i j)) (jm g):=by
 intro Ow H v1 v2 p1 p2 p Q hn r1 r2 e k
 unfold jm at e
 split at e
 ·cases e
  rw[r1.int,r2.int]
  exact⟨_,_,rfl,rfl,k _ H (Same.refl _) (.bl _)⟩
 ·cases e
theorem JF:Op2 b .val (rI0 λi j=>.int (i - j)) subV:=G4 λx y p e=>by
 unfold subV at e
 split at e
 ·cases e;exact⟨_,_,rfl,rfl,rfl⟩
 ·cases e
theorem Bl:Op2 b .val (rI CMul λi j=>.int (i*j)) o7:=by
 intro Ow H v1 v2 p1 p2 p Q hn r1 r2 e k
 unfold o7 at e
 split at e
 ·split at e
  ·rename_i h
   cases e
   rw[r1.int,r2.int]
   refine⟨_,_,rfl,rfl,?_,k _ H (Same.refl _) (.int _)⟩
   simp only[smI,Bool.or_eq_true,decide_eq_true_eq] at h
   exact h
  ·cases e
 ·cases e
theorem o8 {i:Int}(h:-18446744073709551616 < i) (h':i < 18446744073709551616):smI i=true:=@decide_eq_true _ (Classical.propDecidable _) ⟨h,h'⟩
theorem JG:Op2 b .val (rI Iu λi j=>.int (i / j)) g8:=by
 intro Ow H v1 v2 p1 p2 p Q hn r1 r2 e k
 unfold g8 at e
 split at e
 ·split at e
  ·rename_i h
   cases e
   rw[r1.int,r2.int]
   exact⟨_,_,rfl,rfl,h,k _ H (Same.refl _) (.int _)⟩
  ·cases e
 ·cases e
theorem JH:Op2 b .val (rI (λ_ j=>0 < j) λi j=>.int (i % j)) cV:=by
 intro Ow H v1 v2 p1 p2 p Q hn r1 r2 e k
 unfold cV at e
 split at e
 ·split at e
  ·rename_i h
   cases e
   rw[r1.int,r2.int]
   exact⟨_,_,rfl,rfl,h,k _ H (Same.refl _) (.int _)⟩
  ·cases e
 ·cases e
end
theorem gR {b:BX}{Ow:Addr->Prop}{H:Hp}{a:Addr}{vs:List V}{xs:List PV}(h:H a=none) (r:Reps b.C (Bs b Ow) H vs xs):Res b Ow H (upd H a (.lst vs)) .own (.ref a) (.lst xs):=by
 refine⟨a,rfl,h,vs,aU,r.ex λc o e=>?_⟩
 have hc:c≠a:=aN e h
 exact⟨λq=>⟨by rw[aH hc];exact e,q,hc⟩,λ_=>by rw[aH hc];exact e⟩
theorem G5 {b:BX}{Ow:Addr->Prop}{H H0:Hp}{a:Addr}{vs:List V}{xs:List PV}(h:H a=none) (r:Reps b.C (Bs b Ow) H vs xs):Res b Ow H0 (upd H a (.tup vs)) .val (.ref a) (.tup xs):=
 Rep.tup aU (r.ex (.of_same (bK h _)))
section
variable {b:BX}
theorem JK:Op2 b .val (λx y H Q=>(rI0 (λi j=>.int (i+j)) x y H Q\/∃ i j,x=.str i/\y=.str j/\i.length+j.length<=sizeLine/\Q (.str (i++j)) H)\/Dv x y H Q) ak:=by
 intro Ow H v1 v2 p1 p2 p Q hn r1 r2 e k
 unfold ak at e
 split at e
 ·cases e
  rw[r1.int,r2.int]
  exact .inl (.inl ⟨_,_,rfl,rfl,k _ H (Same.refl _) (.int _)⟩)
 ·split at e
  ·rename_i h
   cases e
   rw[r1.str,r2.str]
   exact .inl (.inr ⟨_,_,rfl,rfl,jc h,k _ H (Same.refl _) (.str _)⟩)
  ·cases e
 ·split at e
  ·rename_i h
   cases e
   obtain⟨a,vs,rfl,ha,ra⟩:=r1.lst
   obtain⟨c,us,rfl,hc,rc⟩:=r2.lst
   exact .inr ⟨a,c,vs,us,rfl,rfl,ha,hc,jc (by rw[ra.length,rc.length];exact h),λq hq=>k _ _ (bK hq _) (.lst aU (hn q hq) ((ra.append rc).ex (.of_same (bK hq _))))⟩
  ·cases e
 ·cases e
theorem JL:Op2 b .own Dv cX:=by
 intro Ow H v1 v2 p1 p2 p Q hn r1 r2 e k
 unfold cX at e
 split at e
 ·split at e
  ·rename_i h
   cases e
   obtain⟨a,vs,rfl,ha,ra⟩:=r1.lst
   obtain⟨c,us,rfl,hc,rc⟩:=r2.lst
   refine⟨a,c,vs,us,rfl,rfl,ha,hc,jc (by rw[ra.length,rc.length];exact h),λq hq=>k _ _ (bK hq _) (gR hq (ra.append rc))⟩
  ·cases e
 ·cases e
end
section
variable {X:Cx}{b:BX}{G:List Nat}{m:Md}{e e1 e2:Expr}{f f1 f2:Env->Option PV}{pos:Pos}
theorem aq {i j pos}:SE X b G .val (.Constant (.int i) j pos) (bC (.int i)):=PE.imp Ib<|by rintro σ H Q ⟨Ow,env,p,E,hf,k⟩;cases hf;exact k _ H (Same.refl _) (.int i)
theorem lV {i j pos}:SE X b G .val (.Constant (.bool i) j pos) (bC (.bl i)):=PE.imp Ld<|by rintro σ H Q ⟨Ow,env,p,E,hf,k⟩;cases hf;exact k _ H (Same.refl _) (.bl i)
theorem az {i j pos}:SE X b G .val (.Constant (.str i) j pos) (bC (.str i)):=PE.imp vO<|by rintro σ H Q ⟨Ow,env,p,E,hf,k⟩;cases hf;exact k _ H (Same.refl _) (.str i)
theorem Bm {j pos}:SE X b G .val (.Constant .none j pos) (bC .non):=PE.imp Ie<|by rintro σ H Q ⟨Ow,env,p,E,hf,k⟩;cases hf;exact k _ H (Same.refl _) .non
theorem fL {i:Nat}{env:Env}{p:PV}(h:bV i env=some p):env[i]?=some (some p):=by
 unfold bV at h
 split at h
 ·rename_i o e;rw[e,h]
 ·cases h
theorem ao (i:Nat){x:Str}{pos:Pos}(hN:X.N[i]?=some x:=by rfl) (hv:Vis X.env.scope x:=by first | exact Or.inl rfl | exact Or.inr (Or.inl rfl) | exact Or.inr (Or.inr rfl)) (hG:i∉G:=by decide) (hd:(x == ("__debug__" : Str))=false:=by decide)
  (hcd:(x == ("__classdict__" : Str))=false:=by decide):SE X b G .val (.Name x pos) (bV i):=PE.imp (dj hN hv hd hcd)<|by
 rintro σ H Q ⟨Ow,env,p,E,hf,k⟩
 obtain⟨v,e,r⟩:=E.val i p (fL hf) hG
 exact⟨v,e,k v H (Same.refl _) r⟩
theorem iB (i:Nat){x:Str}{pos:Pos}(hN:X.N[i]?=some x:=by rfl) (hv:Vis X.env.scope x:=by first | exact Or.inl rfl | exact Or.inr (Or.inl rfl) | exact Or.inr (Or.inr rfl)) (hd:(x == ("__debug__" : Str))=false:=by decide)
  (hcd:(x == ("__classdict__" : Str))=false:=by decide):SE X b G .bor (.Name x pos) (bV i):=PE.imp (dj hN hv hd hcd)<|by
 rintro σ H Q ⟨Ow,env,p,E,hf,k⟩
 by_cases hG:i∈G
 ·obtain⟨a,e,_,t⟩:=E.own i p (fL hf) hG
  exact⟨_,e,k _ H (Same.refl _) (.inr ⟨a,rfl,t⟩)⟩
 ·obtain⟨v,e,r⟩:=E.val i p (fL hf) hG
  exact⟨v,e,k v H (Same.refl _) (.inl r)⟩
theorem Ml {x z:Str}{t:Tok}{pos:Pos}(hm:X.mg x=some (.str z t)) (hg:Gl X x:=by rfl) (hd:(x == ("__debug__" : Str))=false:=by decide):SE X b G .val (.Name x pos) (bC (.str z)):=
 PE.imp (pW hg hm (v:=.str z) ⟨_,rfl⟩ hd)<|by rintro σ H Q ⟨Ow,env,p,E,hf,k⟩;cases hf;exact k _ H (Same.refl _) (.str z)
theorem FW {x:Str}{i:Int}{t:Tok}{pos:Pos}(hm:X.mg x=some (.int i t)) (hg:Gl X x:=by rfl) (hd:(x == ("__debug__" : Str))=false:=by decide):SE X b G .val (.Name x pos) (bC (.int i)):=
 PE.imp (pW hg hm (v:=.int i) ⟨_,rfl⟩ hd)<|by rintro σ H Q ⟨Ow,env,p,E,hf,k⟩;cases hf;exact k _ H (Same.refl _) (.int i)
theorem Mm {x:Str}{a:Addr}{q:PV}{pos:Pos}(hm:X.mg x=some (.ref a)) (hr:∀ A H,Rep b.C A H (.ref a) q) (hg:Gl X x:=by rfl) (hd:(x == ("__debug__" : Str))=false:=by decide):SE X b G .val (.Name x pos) (bC q):=
 PE.imp (pW hg hm (v:=.ref a) rfl hd)<|by rintro σ H Q ⟨Ow,env,p,E,hf,k⟩;cases hf;exact k _ H (Same.refl _) (hr _ _)
theorem m_ {op:Operator}{r:R2}{g:PV->PV->Option PV}(ho:OpR X (binaryOp op) r) (hr:Op2 b m r g){m1 m2:Md}(h1:SE X b G m1 e1 f1) (h2:SE X b G m2 e2 f2):SE X b G m (.BinOp e1 op e2 pos) (b2 g f1 f2):=
 PE.imp (Lp ho h1.bor h2.bor) fun σ H Q h=>zc hr h
theorem aB {m1 m2:Md}(h1:SE X b G m1 e1 f1) (h2:SE X b G m2 e2 f2):SE X b G .val (.BinOp e1 .Add e2 pos) (b2 ak f1 f2):=m_ (OpR.or (OpR.or Iv yP) Ba) JK h1 h2
theorem fM {m1 m2:Md}(h1:SE X b G m1 e1 f1) (h2:SE X b G m2 e2 f2):SE X b G .own (.BinOp e1 .Add e2 pos) (b2 cX f1 f2):=m_ Ba JL h1 h2
theorem JM {m1 m2:Md}(h1:SE X b G m1 e1 f1) (h2:SE X b G m2 e2 f2):SE X b G .val (.BinOp e1 .Sub e2 pos) (b2 subV f1 f2):=m_ Iw JF h1 h2
theorem o9 {m1 m2:Md}(h1:SE X b G m1 e1 f1) (h2:SE X b G m2 e2 f2):SE X b G .val (.BinOp e1 .Mult e2 pos) (b2 o7 f1 f2):=m_ Ak Bl h1 h2
theorem gO {m1 m2:Md}(h1:SE X b G m1 e1 f1) (h2:SE X b G m2 e2 f2):SE X b G .val (.BinOp e1 .FloorDiv e2 pos) (b2 g8 f1 f2):=m_ Gm JG h1 h2
theorem cD {m1 m2:Md}(h1:SE X b G m1 e1 f1) (h2:SE X b G m2 e2 f2):SE X b G .val (.BinOp e1 .Mod e2 pos) (b2 cV f1 f2):=m_ Iz JH h1 h2
end
end MR
namespace MR
open PySem L2
@[simp] noncomputable def eqS:PV->PV->Option Bool
 | .non,.non=>some true
 | .non,.int _=>some false | .int _,.non=>some false | .non,.bl _=>some false | .bl _,.non=>some false | .non,.str _=>some false | .str _,.non=>some false
 | .int i,.int j=>some (decide (i=j))
 | .bl i,.bl j=>some (decide (i=j))
 | .str i,.str j=>some (decide (i=j))
 | .int _,.str _=>some false | .str _,.int _=>some false | .bl _,.str _=>some false | .str _,.bl _=>some false
 | _,_=>none
mutual
noncomputable def toD:PV->Option PyData
 | .non=>some .none
 | .bl b=>some (.bool b)
 | .int i=>some (.int i)
 | .str x=>some (.str x)
 | .lst xs=>(fO xs).map .list
 | .frz xs=>(fO xs).map .list
 | .tup xs=>(fO xs).map .tuple
 | .ktp xs=>(fO xs).map .tuple
 | _=>none
noncomputable def fO:List PV->Option (List PyData)
 | []=>some []
 | x::xs=>match toD x,fO xs with
  | some d,some ds=>some (d::ds)
  | _,_=>none
end
noncomputable def eqD (x y:PV):Option Bool:=match toD x,toD y with
 | some d,some e=>if SeqAt.shaped d=true/\SeqAt.shaped e=true then some (PyData.eqv d e) else none
 | _,_=>none
noncomputable def eqP (x y:PV):Option Bool:=match eqS x y with
 | some k=>some k
 | none=>eqD x y
noncomputable def eqQ (x y:PV):Option PV:=(eqP x y).map .bl
@[simp] theorem Bo (x y:PV):eqQ x y=((eqP x y).map .bl):=id rfl
noncomputable def neQ (x y:PV):Option PV:=(eqP x y).map λk=>.bl (!k)
@[simp] theorem Bp (x y:PV):neQ x y=((eqP x y).map λk=>.bl (!k)):=id rfl
mutual
theorem Rep.dt {C:MC}{A:Addr->Prop}{H:Hp}:∀ {v:V}{p:PV}{d:PyData},Rep C A H v p->toD p=some d->Dt C.K H v d
 | _,_,_,.non,e=>by simp only[toD] at e;cases e;exact .non
 | _,_,_,.bl b,e=>by simp only[toD] at e;cases e;exact .bl b
 | _,_,_,.int b,e=>by simp only[toD] at e;cases e;exact .int b
 | _,_,_,.str b,e=>by simp only[toD] at e;cases e;exact .str b
 | _,_,_,.lst (xs:=xs) h _ r,e=>by
  simp only[toD] at e
  cases q:fO xs with
  | none=>rw[q] at e;cases e
  | some ds=>rw[q] at e;cases e;exact .lst (SqL.of h) (Reps.dt r q)
 | _,_,_,.lstF (xs:=xs) h r,e=>by
  simp only[toD] at e
  cases q:fO xs with
  | none=>rw[q] at e;cases e
  | some ds=>rw[q] at e;cases e;exact .lst (.inl (.inr ⟨_,h⟩)) (Reps.dt r q)
 | _,_,_,.lstK (xs:=xs) h r,e=>by
  simp only[toD] at e
  cases q:fO xs with
  | none=>rw[q] at e;cases e
  | some ds=>rw[q] at e;cases e;exact .lst (sqK h) (Reps.dt r q)
 | _,_,_,.tup (xs:=xs) h r,e=>by
  simp only[toD] at e
  cases q:fO xs with
  | none=>rw[q] at e;cases e
  | some ds=>rw[q] at e;cases e;exact .tup (SqT.of h) (Reps.dt r q)
 | _,_,_,.tupC (xs:=xs) h r,e=>by
  simp only[toD] at e
  cases q:fO xs with
  | none=>rw[q] at e;cases e
  | some ds=>rw[q] at e;cases e;exact .tup (.inr h) (Reps.dt r q)
 | _,_,_,.tupK (xs:=xs) h r,e=>by
  simp only[toD] at e
  cases q:fO xs with
  | none=>rw[q] at e;cases e
  | some ds=>rw[q] at e;cases e;exact .tup (za h) (Reps.dt r q)
 | _,_,_,.dK h _ r,e=>by simp only[toD] at e;cases e
 | _,_,_,.dT h _ r,e=>by simp only[toD] at e;cases e
 | _,_,_,.obj h _ r,e=>by simp only[toD] at e;cases e
theorem Reps.dt {C:MC}{A:Addr->Prop}{H:Hp}:∀ {v:List V}{p:List PV}{d:List PyData},Reps C A H v p->fO p=some d->Dts C.K H v d
 | _,_,_,.nil,e=>by simp only[fO] at e;cases e;exact .nil
 | _,_,_,.cons (p:=p) (ps:=ps) h t,e=>by
  simp only[fO] at e
  cases q:toD p with
  | none=>rw[q] at e;cases e
  | some d=>
   cases q2:fO ps with
   | none=>rw[q,q2] at e;cases e
   | some ds=>rw[q,q2] at e;cases e;exact .cons (Rep.dt h q) (Reps.dt t q2)
end
theorem RepB.dt {C:MC}{A:Addr->Prop}{H:Hp}{v:V}{p:PV}{d:PyData}(h:RepB C A H v p) (e:toD p=some d):Dt C.K H v d:=by
 rcases h with h | ⟨a,rfl,t⟩
 ·exact h.dt e
 ·cases p with
  | lst xs=>
   obtain⟨vs,q,r⟩:=t
   exact(Rep.lst (A:=λ_=>True) q True.intro (r.ex (cM λ_ _ _ _=>True.intro))).dt e
  | dK kvs=>simp only[toD] at e;cases e
  | dT kvs=>simp only[toD] at e;cases e
  | obj c fs=>simp only[toD] at e;cases e
  | _=>exact t.elim
theorem wj {C:MC}{A:Addr->Prop}{H:Hp}{v u:V}{p q:PV}{k:Bool}(h:RepB C A H v p) (h':RepB C A H u q) (e:eqS p q=some k):Dl v u=true/\decide (v=u)=k:=by
 unfold eqS at e
 split at e <;> first | cases e | skip
 ·rw[h.non,h'.non];exact⟨rfl,rfl⟩
 ·rw[h.non,h'.int];exact⟨rfl,rfl⟩
 ·rw[h.int,h'.non];exact⟨rfl,rfl⟩
 ·rw[h.non,h'.bl];exact⟨rfl,rfl⟩
 ·rw[h.bl,h'.non];exact⟨rfl,rfl⟩
 ·rw[h.non,h'.str];exact⟨rfl,rfl⟩
 ·rw[h.str,h'.non];exact⟨rfl,rfl⟩
 ·rw[h.int,h'.int];exact⟨rfl,by simp⟩
 ·rw[h.bl,h'.bl];exact⟨rfl,by simp⟩
 ·rw[h.str,h'.str];exact⟨rfl,by simp⟩
 ·rw[h.int,h'.str];exact⟨rfl,rfl⟩
 ·rw[h.str,h'.int];exact⟨rfl,rfl⟩
 ·rw[h.bl,h'.str];exact⟨rfl,rfl⟩
 ·rw[h.str,h'.bl];exact⟨rfl,rfl⟩
def JN (K:PySem.W.Frag):R2:=λx y H Q=>rEq x y H Q\/∃ d e,Dt K H x d/\Dt K H y e/\SeqAt.shaped d=true/\SeqAt.shaped e=true/\Q (.bl (PyData.eqv d e)) H
def JP (K:PySem.W.Frag):R2:=λx y H Q=>rNe x y H Q\/∃ d e,Dt K H x d/\Dt K H y e/\SeqAt.shaped d=true/\SeqAt.shaped e=true/\Q (.bl (!PyData.eqv d e)) H
section
variable {b:BX}
theorem Mp:Op2 b .val (JN b.C.K) eqQ:=by
 intro Ow H v1 v2 p1 p2 p Q hn r1 r2 e k
 unfold eqQ eqP at e
 cases q:eqS p1 p2 with
 | some c=>
  rw[q] at e
  cases e
  obtain⟨h1,h2⟩:=wj r1 r2 q
  exact .inl ⟨h1,by rw[h2];exact k _ H (Same.refl _) (.bl c)⟩
 | none=>
  rw[q] at e
  simp only[eqD] at e
  cases q1:toD p1 with
  | none=>rw[q1] at e;cases e
  | some d=>
   cases q2:toD p2 with
   | none=>rw[q1,q2] at e;cases e
   | some d'=>
    rw[q1,q2] at e
    simp only at e
    split at e
    ·rename_i hs
     cases e
     exact .inr ⟨d,d',r1.dt q1,r2.dt q2,hs.1,hs.2,k _ H (Same.refl _) (.bl _)⟩
    ·cases e
theorem Mq:Op2 b .val (JP b.C.K) neQ:=by
 intro Ow H v1 v2 p1 p2 p Q hn r1 r2 e k
 unfold neQ eqP at e
 cases q:eqS p1 p2 with
 | some c=>
  rw[q] at e
  cases e
  obtain⟨h1,h2⟩:=wj r1 r2 q
  exact .inl ⟨h1,by rw[h2];exact k _ H (Same.refl _) (.bl _)⟩
 | none=>
  rw[q] at e
  simp only[eqD] at e
  cases q1:toD p1 with
  | none=>rw[q1] at e;cases e
  | some d=>
   cases q2:toD p2 with
   | none=>rw[q1,q2] at e;cases e
   | some d'=>
    rw[q1,q2] at e
    simp only at e
    split at e
    ·rename_i hs
     cases e
     exact .inr ⟨d,d',r1.dt q1,r2.dt q2,hs.1,hs.2,k _ H (Same.refl _) (.bl _)⟩
    ·cases e
end
@[simp] noncomputable def keyOf:PV->Option Key
 | .int i=>some (.inl i)
 | .str x=>some (.inr x)
 | _=>none
@[simp] noncomputable def keysOf:List PV->Option (List Key)
 | []=>some []
 | x::xs=>match keyOf x,keysOf xs with
  | some k,some ks=>some (k::ks)
  | _,_=>none
@[simp] noncomputable def keysB:List PV->Option (List Key)
 | [.str x,.bl b]=>some [.inr x,.inl (if b=true then 1 else 0)]
 | xs=>keysOf xs
@[simp] def dG:PV->Bool
 | .non=>true
 | .bl _=>true
 | .int _=>true
 | .str _=>true
 | _=>false
noncomputable def eqF:PV->PV->Bool
 | .non,.non=>true
 | .bl a,.bl b=>a == b
 | .bl a,.int b=>(if a then 1 else 0) == b
 | .int a,.bl b=>a == (if b then 1 else 0)
 | .int a,.int b=>a == b
 | .str a,.str b=>a == b
 | _,_=>false
noncomputable def il {κ:Type} [DecidableEq κ] (kvs:List (κ×PV)) (k:κ):Option PV:=(kvs.find? λx=>decide (x.1=k)).map (·.2)
def inD (x:PV) (ys:List PV):Option Bool:=match toD x,fO ys with
 | some d,some ds=>if PyData.canLayAll0 ds=true/\d.canLay0=true/\d.depth<=32 then some (ds.any λy=>PyData.eqv y d) else none
 | _,_=>none
theorem ni {x:PV}{ys:List PV}{k:Bool}(h:inD x ys=some k):∃ d ds,toD x=some d/\fO ys=some ds/\PyData.canLayAll0 ds=true/\d.canLay0=true/\d.depth<=32/\(ds.any λy=>PyData.eqv y d)=k:=by
 unfold inD at h
 split at h
 ·rename_i d ds h1 h2
  split at h
  ·rename_i hc
   exact⟨d,ds,h1,h2,hc.1,hc.2.1,hc.2.2,Option.some.inj h⟩
  ·cases h
 ·cases h
noncomputable def inP:PV->PV->Option Bool
 | x,.lst ys=>if dG x=true/\ys.all dG=true then some (ys.any λy=>eqF y x) else inD x ys
 | x,.frz ys=>if dG x=true/\ys.all dG=true then some (ys.any λy=>eqF y x) else inD x ys
 | x,.ktp ys=>if dG x=true/\ys.all dG=true then some (ys.any λy=>eqF y x) else inD x ys
 | x,.tup ys=>if dG x=true/\ys.all dG=true then some (ys.any λy=>eqF y x) else inD x ys
 | .str x,.str y=>some (!(Builtin.Str.occurrences y x 0 y.length 1).isEmpty)
 | x,.dK kvs=>(keyOf x).map λk=>(il kvs k).isSome
 | .tup xs,.dT kvs=>(keysB xs).map λk=>(il kvs k).isSome
 | _,_=>none
theorem Reps.keys {C:MC}{A:Addr->Prop}{H:Hp}:∀ {vs:List V}{ps:List PV}{ks:List Key},Reps C A H vs ps->keysOf ps=some ks->vs=ks.map kV
 | _,_,_,.nil,e=>by cases e;rfl
 | _,_,_,.cons (p:=p) (ps:=ps) h t,e=>by
  unfold keysOf at e
  cases q:keyOf p with
  | none=>rw[q] at e;cases e
  | some k=>
   cases q2:keysOf ps with
   | none=>rw[q,q2] at e;cases e
   | some ks=>
    rw[q,q2] at e
    cases e
    have ih:=Reps.keys t q2
    rw[List.map_cons,ih]
    congr 1
    unfold keyOf at q
    split at q <;> cases q <;> cases h <;> rfl
theorem Reps.keysB {C:MC}{A:Addr->Prop}{H:Hp}{vs:List V}{ps:List PV}{ks:List Key}(r:Reps C A H vs ps) (e:keysB ps=some ks):vN ks vs:=by
 unfold MR.keysB at e
 split at e
 ·cases e
  cases r with
  | cons h1 t=>cases t with
   | cons h2 t=>cases t;cases h1;cases h2;exact .inr ⟨_,_,rfl,rfl⟩
 ·exact .inl (r.keys e)
theorem RepB.key {C:MC}{A:Addr->Prop}{H:Hp}{v:V}{p:PV}{k:Key}(h:RepB C A H v p) (e:keyOf p=some k):v=kV k:=by
 unfold keyOf at e
 split at e
 ·cases e;exact h.int
 ·cases e;exact h.str
 ·cases e
theorem RepB.flat {C:MC}{A:Addr->Prop}{H:Hp}{v:V}{p:PV}(h:RepB C A H v p) (e:dG p=true):ik v=true:=by
 unfold dG at e
 split at e
 ·rw[h.non];rfl
 ·rw[h.bl];rfl
 ·rw[h.int];rfl
 ·rw[h.str];rfl
 ·cases e
def fV:PV->V
 | .bl b=>.bl b
 | .int i=>.int i
 | .str x=>.str x
 | _=>.non
theorem RepB.fV {C:MC}{A:Addr->Prop}{H:Hp}{v:V}{p:PV}(h:RepB C A H v p) (e:dG p=true):v=fV p:=by
 cases p with
 | non=>exact h.non
 | bl b=>exact h.bl
 | int i=>exact h.int
 | str x=>exact h.str
 | _=>cases e
theorem Mr (p q:PV) (hp:dG p=true) (hq:dG q=true):L2.eqV (fV p) (fV q)=eqF p q:=by
 cases p <;> cases q <;> first | rfl | (cases hp;done) | (cases hq;done)
theorem Reps.flat {C:MC}{A:Addr->Prop}{H:Hp}{v:V}{p:PV}(h:RepB C A H v p) (e:dG p=true):∀ {vs:List V}{ps:List PV},Reps C A H vs ps->ps.all dG=true->vs.all ik=true/\inV v vs=ps.any λy=>eqF y p
 | _,_,.nil,_=>⟨rfl,rfl⟩
 | _,_,.cons (v:=v') (p:=p') (vs:=vs) (ps:=ps) q t,e'=>by
  rw[List.all_cons,Bool.and_eq_true] at e'
  obtain⟨h1,h2⟩:=Reps.flat h e t e'.2
  have hf:ik v'=true:=RepB.flat (.inl q) e'.1
  refine⟨by rw[List.all_cons,hf,h1];rfl,?_⟩
  unfold inV at h2 ⊢
  rw[List.any_cons,List.any_cons,h2]
  have q1:=h.fV e
  have q2:=RepB.fV (.inl q) e'.1
  rw[q1,q2,Mr _ _ e'.1 e]
section
variable {X:Cx}
theorem JQ (hu:X.A.units+1 < cLine):OpR X (compareOp .In) (λx y H Q=>∃ a o,y=.ref a/\DGet X.K H a x o/\Q (.bl o.isSome) H):=by
 intro pins s σ H x y v u Q I rx ry h
 obtain⟨a,o,rfl,g,q⟩:=h
 obtain rfl:u=Value.ref a:=ry
 exact Oj hu I g rx λs3 I3=>⟨.bl o.isSome,H,I3,rfl,q⟩
def zg (K:PySem.W.Frag) (neg:Bool):R2:=λx y H Q=>∃ d ds,(Dt K H y (.list ds)\/Dt K H y (.tuple ds))/\Dt K H x d/\PyData.canLayAll0 ds=true/\d.canLay0=true/\d.depth<=32/\Q (.bl (if neg then !(ds.any λy=>PyData.eqv y d) else ds.any λy=>PyData.eqv y d)) H
theorem JR (hu:X.A.units+64 < cLine):OpR X (compareOp .In) (zg X.K false):=by
 intro pins s σ H x y v u Q I rx ry h
 obtain⟨d,ds,h1,h2,c1,c2,c3,q⟩:=h
 have hm:min (PyData.depthAll ds) d.depth<=d.depth:=Nat.min_le_right _ _
 obtain⟨as,ra⟩:=h2.reads I rx
 rcases h1 with h1 | h1
 ·obtain⟨bs,rb⟩:=h1.reads I ry
  exact PySem.SeqAt.in_list_reads rb ra c1 c2 (by omega) ⟨.bl _,H,I,rfl,q⟩
 ·obtain⟨bs,rb⟩:=h1.reads I ry
  exact PySem.SeqAt.in_tuple_reads rb ra c1 c2 (by omega) ⟨.bl _,H,I,rfl,q⟩
theorem Bq (hu:X.A.units+64 < cLine):OpR X (compareOp .NotIn) (zg X.K true):=by
 intro pins s σ H x y v u Q I rx ry h
 obtain⟨d,ds,h1,h2,c1,c2,c3,q⟩:=h
 have hm:min (PyData.depthAll ds) d.depth<=d.depth:=Nat.min_le_right _ _
 obtain⟨as,ra⟩:=h2.reads I rx
 rcases h1 with h1 | h1
 ·obtain⟨bs,rb⟩:=h1.reads I ry
  exact PySem.SeqAt.notIn_list_reads rb ra c1 c2 (by omega) ⟨.bl _,H,I,rfl,q⟩
 ·obtain⟨bs,rb⟩:=h1.reads I ry
  exact PySem.SeqAt.notIn_tuple_reads rb ra c1 c2 (by omega) ⟨.bl _,H,I,rfl,q⟩
theorem Br (hu:X.A.units+1 < cLine):OpR X (compareOp .NotIn) (λx y H Q=>∃ a o,y=.ref a/\DGet X.K H a x o/\Q (.bl (!o.isSome)) H):=by
 intro pins s σ H x y v u Q I rx ry h
 obtain⟨a,o,rfl,g,q⟩:=h
 obtain rfl:u=Value.ref a:=ry
 exact Gv hu I g rx λs3 I3=>⟨.bl (!o.isSome),H,I3,rfl,q⟩
end
def JS (K:PySem.W.Frag):R2:=λx y H Q=>(rIn K false x y H Q\/∃ i j,x=.str i/\y=.str j/\Q (.bl (!(Builtin.Str.occurrences j i 0 j.length 1).isEmpty)) H)\/(∃ a o,y=.ref a/\DGet K H a x o/\Q (.bl o.isSome) H)\/zg K false x y H Q
def ye (K:PySem.W.Frag):R2:=λx y H Q=>(rIn K true x y H Q\/∃ i j,x=.str i/\y=.str j/\Q (.bl (!(!(Builtin.Str.occurrences j i 0 j.length 1).isEmpty))) H)\/(∃ a o,y=.ref a/\DGet K H a x o/\Q (.bl (!o.isSome)) H)\/zg K true x y H Q
noncomputable def inQ (x y:PV):Option PV:=(inP x y).map .bl
@[simp] theorem Qv (x y:PV):inQ x y=((inP x y).map .bl):=id rfl
noncomputable def o_ (x y:PV):Option PV:=(inP x y).map λk=>.bl (!k)
@[simp] theorem Nr (x y:PV):o_ x y=((inP x y).map λk=>.bl (!k)):=id rfl
theorem Bt {C:MC}{A:Addr->Prop}{H:Hp}{v1 v2:V}{p1 p2:PV}{k:Bool}(r1:RepB C A H v1 p1) (r2:RepB C A H v2 p2) (e:inP p1 p2=some k):
  (∃ p xs,v2=.ref p/\(SqL C.K H p xs\/SqT C.K H p xs)/\ik v1=true/\xs.all ik=true/\inV v1 xs=k)\/(∃ i j,v1=.str i/\v2=.str j/\(!(Builtin.Str.occurrences j i 0 j.length 1).isEmpty)=k)\/(∃ a o,v2=.ref a/\DGet C.K H a v1 o/\o.isSome=k)\/∃ d ds,(Dt C.K H v2 (.list ds)\/Dt C.K H v2 (.tuple ds))/\Dt C.K H v1 d/\PyData.canLayAll0 ds=true/\d.canLay0=true/\d.depth<=32/\(ds.any λy=>PyData.eqv y d)=k:=by
 unfold inP at e
 split at e
 ·split at e
  ·rename_i h
   cases e
   obtain⟨a,vs,rfl,ha,ra⟩:=r2.lst
   obtain⟨h1,h2⟩:=Reps.flat r1 h.1 ra h.2
   exact .inl ⟨a,vs,rfl,.inl (SqL.of ha),r1.flat h.1,h1,h2⟩
  ·obtain⟨d,ds,t1,t2,c1,c2,c3,c4⟩:=ni e
   exact .inr (.inr (.inr ⟨d,ds,.inl (r2.dt (by simp[toD,t2])),r1.dt t1,c1,c2,c3,c4⟩))
 ·split at e
  ·rename_i h
   cases e
   obtain⟨a,vs,rfl,ha,ra⟩:=r2.frz
   obtain⟨h1,h2⟩:=Reps.flat r1 h.1 ra h.2
   exact .inl ⟨a,vs,rfl,.inl ha,r1.flat h.1,h1,h2⟩
  ·obtain⟨d,ds,t1,t2,c1,c2,c3,c4⟩:=ni e
   exact .inr (.inr (.inr ⟨d,ds,.inl (r2.dt (by simp[toD,t2])),r1.dt t1,c1,c2,c3,c4⟩))
 ·split at e
  ·rename_i h
   cases e
   obtain⟨a,vs,rfl,ha,ra⟩:=r2.ktp
   obtain⟨h1,h2⟩:=Reps.flat r1 h.1 ra h.2
   exact .inl ⟨a,vs,rfl,.inr ha,r1.flat h.1,h1,h2⟩
  ·obtain⟨d,ds,t1,t2,c1,c2,c3,c4⟩:=ni e
   exact .inr (.inr (.inr ⟨d,ds,.inr (r2.dt (by simp[toD,t2])),r1.dt t1,c1,c2,c3,c4⟩))
 ·split at e
  ·rename_i h
   cases e
   obtain⟨a,vs,rfl,ha,ra⟩:=r2.tup
   obtain⟨h1,h2⟩:=Reps.flat r1 h.1 ra h.2
   exact .inl ⟨a,vs,rfl,.inr ha.sq,r1.flat h.1,h1,h2⟩
  ·obtain⟨d,ds,t1,t2,c1,c2,c3,c4⟩:=ni e
   exact .inr (.inr (.inr ⟨d,ds,.inr (r2.dt (by simp[toD,t2])),r1.dt t1,c1,c2,c3,c4⟩))
 ·cases e
  exact .inr (.inl ⟨_,_,r1.str,r2.str,rfl⟩)
 ·obtain⟨a,kv,rfl,ha,ra⟩:=r2.dK
  cases q:keyOf p1 with
  | none=>rw[q] at e;cases e
  | some ky=>
   rw[q] at e
   cases e
   rw[r1.key q]
   refine .inr (.inr (.inl ⟨a,_,rfl,DGet.k ha,?_⟩))
   unfold il
   dsimp only
   rcases RepK.val (k:=ky) ra with ⟨v,p,h1,h2,_⟩ | ⟨h1,h2⟩
   ·rw[h1,h2];rfl
   ·rw[h1,h2];rfl
 ·rename_i xs kvs
  obtain⟨a,kv,rfl,ha,ra⟩:=r2.dT
  obtain⟨c,vs,rfl,hc,rc⟩:=r1.tup
  cases q:keysB xs with
  | none=>rw[q] at e;cases e
  | some ky=>
   rw[q] at e
   cases e
   refine .inr (.inr (.inl ⟨a,_,rfl,DGet.t ha (hc.key (rc.keysB q)),?_⟩))
   unfold il
   dsimp only
   rcases RepT.val (k:=ky) ra with ⟨v,p,h1,h2,_⟩ | ⟨h1,h2⟩
   ·rw[h1,h2];rfl
   ·rw[h1,h2];rfl
 ·cases e
section
variable {b:BX}
theorem Ms:Op2 b .val (JS b.C.K) inQ:=by
 intro Ow H v1 v2 p1 p2 p Q hn r1 r2 e k
 unfold inQ at e
 cases q:inP p1 p2 with
 | none=>rw[q] at e;cases e
 | some c=>
  rw[q] at e
  cases e
  have fin:=k (.bl c) H (Same.refl _) (.bl c)
  rcases Bt r1 r2 q with ⟨a,xs,rfl,h1,h2,h3,h4⟩ | ⟨i,j,rfl,rfl,h1⟩ | ⟨a,o,rfl,h1,h2⟩ | ⟨d,ds,h1,h2,c1,c2,c3,h4⟩
  ·subst h4;exact .inl (.inl ⟨a,xs,rfl,h1,h2,h3,fin⟩)
  ·subst h1;exact .inl (.inr ⟨i,j,rfl,rfl,fin⟩)
  ·subst h2;exact .inr (.inl ⟨a,o,rfl,h1,fin⟩)
  ·subst h4;exact .inr (.inr ⟨d,ds,h1,h2,c1,c2,c3,fin⟩)
theorem DP:Op2 b .val (ye b.C.K) o_:=by
 intro Ow H v1 v2 p1 p2 p Q hn r1 r2 e k
 unfold o_ at e
 cases q:inP p1 p2 with
 | none=>rw[q] at e;cases e
 | some c=>
  rw[q] at e
  cases e
  have fin:=k (.bl (!c)) H (Same.refl _) (.bl _)
  rcases Bt r1 r2 q with ⟨a,xs,rfl,h1,h2,h3,h4⟩ | ⟨i,j,rfl,rfl,h1⟩ | ⟨a,o,rfl,h1,h2⟩ | ⟨d,ds,h1,h2,c1,c2,c3,h4⟩
  ·subst h4;exact .inl (.inl ⟨a,xs,rfl,h1,h2,h3,fin⟩)
  ·subst h1;exact .inl (.inr ⟨i,j,rfl,rfl,fin⟩)
  ·subst h2;exact .inr (.inl ⟨a,o,rfl,h1,fin⟩)
  ·subst h4;exact .inr (.inr ⟨d,ds,h1,h2,c1,c2,c3,fin⟩)
end
@[simp] def tL:PV->Bool
 | .non=>true
 | _=>false
noncomputable def isN (x y:PV):Option PV:=match y with
 | .non=>some (.bl (tL x))
 | _=>none
@[simp] theorem Qw (x y:PV):isN x y=(match y with
 | .non=>some (.bl (tL x))
 | _=>none):=id rfl
noncomputable def JT (x y:PV):Option PV:=match y with
 | .non=>some (.bl (!tL x))
 | _=>none
@[simp] theorem Nt (x y:PV):JT x y=(match y with
 | .non=>some (.bl (!tL x))
 | _=>none):=id rfl
theorem RepB.isN {C:MC}{A:Addr->Prop}{H:Hp}{v:V}{p:PV}(h:RepB C A H v p):decide (v=.non)=tL p:=by
 cases p with
 | non=>rw[h.non];rfl
 | bl b=>rw[h.bl];rfl
 | int b=>rw[h.int];rfl
 | str b=>rw[h.str];rfl
 | lst b=>obtain⟨a,_,rfl,_⟩:=h.lst;rfl
 | frz b=>obtain⟨a,_,rfl,_⟩:=h.frz;rfl
 | tup b=>obtain⟨a,_,rfl,_⟩:=h.tup;rfl
 | ktp b=>obtain⟨a,_,rfl,_⟩:=h.ktp;rfl
 | dK b=>obtain⟨a,_,rfl,_⟩:=h.dK;rfl
 | dT b=>obtain⟨a,_,rfl,_⟩:=h.dT;rfl
 | obj c b=>obtain⟨a,_,_,rfl,_⟩:=h.obj;rfl
section
variable {b:BX}
theorem JV:Op2 b .val (λx y H Q=>y=.non/\Q (.bl (decide (x=.non))) H) isN:=by
 intro Ow H v1 v2 p1 p2 p Q hn r1 r2 e k
 cases p2 with
 | non=>
  simp only[isN] at e
  cases e
  exact⟨r2.non,by rw[r1.isN];exact k _ H (Same.refl _) (.bl _)⟩
 | _=>simp only[isN] at e;cases e
end
section
variable {X:Cx}{b:BX}{G:List Nat}{m:Md}{e e1 e2 e3:Expr}{f f1 f2 f3:Env->Option PV}{pos:Pos}{m1 m2 m3:Md}
structure SC (X:Cx) (b:BX) (G:List Nat) (op:CmpOp) (e1 e2:Expr) (f:Env->Option PV):Prop where
 pe:∀ pos,SE X b G .val (.Compare e1 [op] [e2] pos) f
 pt:∀ pos,ST X b G (.Compare e1 [op] [e2] pos) (tV f)
theorem nj {op:CmpOp}{r:R2}{g:PV->PV->Option PV}(ho:OpR X (compareOp op) r) (hr:Op2 b .val r g) (h1:SE X b G m1 e1 f1) (h2:SE X b G m2 e2 f2) (hm:behindInMarks op e2=false):SC X b G op e1 e2 (b2 g f1 f2):=by
 refine⟨λpos=>PE.imp (Gn ho h1.bor h2.bor hm) fun σ H Q h=>zc hr h,λpos=>PT.imp (Gp ho h1.bor h2.bor hm) fun σ H Q h=>?_⟩
 obtain⟨Ow,env,c,E,hf,k⟩:=h
 unfold tV at hf
 cases q:b2 g f1 f2 env with
 | none=>rw[q] at hf;cases hf
 | some p=>
  rw[q] at hf
  refine zc (Q:=λx H'=>∃ k,x=.bl k/\_) hr ⟨Ow,env,p,E,q,λv H' s r=>?_⟩
  cases p with
  | bl d=>
   cases hf
   cases r
   exact⟨_,rfl,k H' s⟩
  | _=>cases hf
theorem cY {j:Nat}(hr:Room j X.A) (h1:SE X b G m1 e1 f1) (h2:SE X b G m2 e2 f2) (hK:X.K=b.C.K:=by rfl):SC X b G .Eq e1 e2 (b2 eqQ f1 f2):=nj (r:=JN b.C.K) (by rw[← hK];exact OpR.or Ls (Jx hr.units)) Mp h1 h2 (oR _)
theorem kO {j:Nat}(hr:Room j X.A) (h1:SE X b G m1 e1 f1) (h2:SE X b G m2 e2 f2) (hK:X.K=b.C.K:=by rfl):SC X b G .NotEq e1 e2 (b2 neQ f1 f2):=nj (r:=JP b.C.K) (by rw[← hK];exact OpR.or Lw (Jy hr.units)) Mq h1 h2 (oR _)
theorem Mt (h1:SE X b G m1 e1 f1) (h2:SE X b G m2 e2 f2):SC X b G .Lt e1 e2 (b2 (jm λi j=>decide (i < j)) f1 f2):=nj Lx Bk h1 h2 (oR _)
theorem rG (h1:SE X b G m1 e1 f1) (h2:SE X b G m2 e2 f2):SC X b G .Gt e1 e2 (b2 (jm λi j=>decide (j < i)) f1 f2):=nj Ly Bk h1 h2 (oR _)
theorem nq {j:Nat}(hr:Room j X.A) (h1:SE X b G m1 e1 f1) (h2:SE X b G m2 e2 f2) (hm:behindInMarks .In e2=false:=by rfl) (hK:X.K=b.C.K:=by rfl):SC X b G .In e1 e2 (b2 inQ f1 f2):=
 nj (r:=JS b.C.K) (by rw[← hK];exact OpR.or (OpR.or Az Am) (OpR.or (JQ (vy hr)) (JR hr.units))) Ms h1 h2 hm
theorem DQ {j:Nat}(hr:Room j X.A) (h1:SE X b G m1 e1 f1) (h2:SE X b G m2 e2 f2) (hm:behindInMarks .NotIn e2=false:=by rfl) (hK:X.K=b.C.K:=by rfl):SC X b G .NotIn e1 e2 (b2 o_ f1 f2):=
 nj (r:=ye b.C.K) (by rw[← hK];exact OpR.or (OpR.or vX vY) (OpR.or (Br (vy hr)) (Bq hr.units))) DP h1 h2 hm
theorem Mu (h1:SE X b G m1 e1 f1) (h2:SE X b G m2 e2 f2):SC X b G .Is e1 e2 (b2 isN f1 f2):=nj IV JV h1 h2 (oR _)
theorem cF {op:CmpOp}(h:SC X b G op e1 e2 f):SE X b G .val (.Compare e1 [op] [e2] pos) f:=h.pe pos
theorem bY {op:CmpOp}(h:SC X b G op e1 e2 f):ST X b G (.Compare e1 [op] [e2] pos) (tV f):=h.pt pos
noncomputable def ph (g g':Int->Int->Bool) (f1 f2 f3:Env->Option PV) (env:Env):Option PV:=(f1 env).bind λx=>(f2 env).bind λy=>match x,y with
 | .int i,.int j=>if g i j=true then (f3 env).bind λz=>jm g' y z else some (.bl false)
 | _,_=>none
@[simp] theorem Nu (g g':Int->Int->Bool) (f1 f2 f3:Env->Option PV) (env:Env):ph g g' f1 f2 f3 env=((f1 env).bind λx=>(f2 env).bind λy=>match x,y with
 | .int i,.int j=>if g i j=true then (f3 env).bind λz=>jm g' y z else some (.bl false)
 | _,_=>none):=id rfl
theorem xG {g g':Int->Int->Bool}{f1 f2 f3:Env->Option PV}{env:Env}{p:PV}(h:ph g g' f1 f2 f3 env=some p):
  ∃ i j,f1 env=some (.int i)/\f2 env=some (.int j)/\((g i j=false/\p=.bl false)\/(g i j=true/\∃ l,f3 env=some (.int l)/\p=.bl (g' j l))):=by
 unfold ph at h
 cases q1:f1 env with
 | none=>rw[q1] at h;cases h
 | some p1=>
  cases q2:f2 env with
  | none=>rw[q1,q2] at h;cases h
  | some p2=>
   rw[q1,q2] at h
   simp only[Option.bind_some] at h
   split at h
   ·rename_i i j
    refine⟨i,j,rfl,rfl,?_⟩
    cases hg:g i j with
    | false=>
     rw[hg] at h
     cases h
     exact .inl ⟨rfl,rfl⟩
    | true=>
     rw[hg] at h
     simp only[if_true] at h
     obtain⟨p3,q3,h⟩:=Option.bind_eq_some_iff.mp h
     cases p3 with
     | int l=>
      cases h
      exact .inr ⟨rfl,l,q3,rfl⟩
     | _=>cases h
   ·cases h
theorem DR {op op':CmpOp}{g g':Int->Int->Bool}(ho:OpR X (compareOp op) (rI0 λi j=>.bl (g i j))) (ho':OpR X (compareOp op') (rI0 λi j=>.bl (g' i j))) (h1:SE X b G m1 e1 f1) (h2:SE X b G m2 e2 f2) (h3:SE X b G m3 e3 f3)
  (hm:lastMarks [op,op'] [e2,e3]=false:=by with_unfolding_all rfl):SE X b G .val (.Compare e1 [op,op'] [e2,e3] pos) (ph g g' f1 f2 f3):=
 PE.imp (Dm ho ho' h1.bor h2.bor h3.bor hm)<|by
  rintro σ H Q ⟨Ow,env,p,E,hf,k⟩
  obtain⟨i,j,q1,q2,hc⟩:=xG hf
  refine⟨Ow,env,_,E,q1,λv1 H1 s1 r1=>⟨Ow,env,_,E.up s1,q2,λv2 H2 s2 r2=>?_⟩⟩
  have r1':RepB b.C (Bs b Ow) H2 v1 (.int i):=Res.up (m:=.bor) r1 s2
  have r2':RepB b.C (Bs b Ow) H2 v2 (.int j):=r2
  rw[r1'.int,r2'.int]
  refine⟨i,j,rfl,rfl,g i j,rfl,?_⟩
  rcases hc with ⟨hc,rfl⟩ | ⟨hc,l,q3,rfl⟩
  ·rw[hc]
   simp only[Bool.false_eq_true,if_false]
   exact k _ H2 (s1.trans s2) (.bl false)
  ·rw[hc]
   simp only[if_true]
   refine⟨Ow,env,_,E.up (s1.trans s2),q3,λv3 H3 s3 r3=>?_⟩
   have r3':RepB b.C (Bs b Ow) H3 v3 (.int l):=r3
   rw[r3'.int]
   exact⟨_,_,rfl,rfl,k _ H3 (s1.trans (s2.trans s3)) (.bl _)⟩
theorem fP {op}(h:SE X b G m e f):SE X b G m (.BoolOp op [e] pos) f:=Ae h
theorem dU {rest:List Expr}(h1:SE X b G .val e1 f1) (h2:SE X b G .val (.BoolOp .And (e2::rest) pos) f2):SE X b G .val (.BoolOp .And (e1::e2::rest) pos) (d8 f1 f2):=
 PE.imp (Ii h1 h2)<|by
  rintro σ H Q ⟨Ow,env,p,E,hf,k⟩
  unfold d8 at hf
  cases q1:f1 env with
  | none=>rw[q1] at hf;cases hf
  | some p1=>
   rw[q1] at hf
   refine⟨Ow,env,p1,E,q1,λv1 H1 s1 r1=>?_⟩
   cases p1 with
   | bl c=>
    cases r1
    refine⟨c,rfl,?_⟩
    cases c with
    | true=>exact⟨Ow,env,p,E.up s1,hf,λv H' s r=>k v H' (s1.trans s) r⟩
    | false=>cases hf;exact k _ H1 s1 (.bl false)
   | _=>cases hf
theorem Mv {rest:List Expr}(h1:SE X b G .val e1 f1) (h2:SE X b G .val (.BoolOp .Or (e2::rest) pos) f2):SE X b G .val (.BoolOp .Or (e1::e2::rest) pos) (bOr f1 f2):=
 PE.imp (Fv h1 h2)<|by
  rintro σ H Q ⟨Ow,env,p,E,hf,k⟩
  unfold bOr at hf
  cases q1:f1 env with
  | none=>rw[q1] at hf;cases hf
  | some p1=>
   rw[q1] at hf
   refine⟨Ow,env,p1,E,q1,λv1 H1 s1 r1=>?_⟩
   cases p1 with
   | bl c=>
    cases r1
    refine⟨c,rfl,?_⟩
    cases c with
    | false=>exact⟨Ow,env,p,E.up s1,hf,λv H' s r=>k v H' (s1.trans s) r⟩
    | true=>cases hf;exact k _ H1 s1 (.bl true)
   | _=>cases hf
@[simp] noncomputable def pq:PV->Option PV
 | .int i=>some (.int (-i))
 | _=>none
theorem rH (h1:SE X b G m e1 f1):SE X b G .val (.UnaryOp .USub e1 pos) (b1 pq f1):=
 PE.imp (Lq IK h1.bor) fun σ H Q h=>zf (r:=rU λi=>.int (-i)) (λOw H v1 p1 p Q hn r1 e k=>by
  cases p1 <;> simp only[pq] at e <;> cases e
  exact⟨_,r1.int,k _ H (Same.refl _) (.int _)⟩) h
theorem jX (h:SE X b G .val e f) (he:∀ whole,isTrue e X.env whole=(do let v ← whole;standAt e.pos;holding [v] (truthy v)):=by intro _;rfl):ST X b G e (tV f):=
 PT.imp (Ab h he)<|by
  rintro σ H Q ⟨Ow,env,c,E,hf,k⟩
  unfold tV at hf
  cases q1:f env with
  | none=>rw[q1] at hf;cases hf
  | some p1=>
   rw[q1] at hf
   refine⟨Ow,env,p1,E,q1,λv1 H1 s1 r1=>?_⟩
   cases p1 with
   | bl d=>cases r1;cases hf;exact⟨_,rfl,k H1 s1⟩
   | _=>cases hf
theorem rJ {g:Env->Option Bool}(h:ST X b G e g):ST X b G (.UnaryOp .Not e pos) (tN g):=
 PT.imp (Ad h)<|by
  rintro σ H Q ⟨Ow,env,c,E,hf,k⟩
  unfold tN at hf
  cases q1:g env with
  | none=>rw[q1] at hf;cases hf
  | some p1=>rw[q1] at hf;cases hf;exact⟨Ow,env,p1,E,q1,λH' s=>k H' s⟩
abbrev SW (X:Cx) (b:BX) (G:List Nat) (e:Expr) (g:Env->Option Bool):Prop:=PW X e (tMT b G g)
theorem PW.imp {t u:TT}(h:PW X e t) (i:∀ σ H Q,u σ H Q->t σ H Q):PW X e u:=λwh pins s σ H Q I q=>h wh pins s σ H Q I (i σ H Q q)
variable {g1 g2:Env->Option Bool}
theorem rK (h:ST X b G e g1):SW X b G (.BoolOp .Or [e] pos) g1:=Ac h
theorem vA {rest:List Expr}(h1:ST X b G e1 g1) (h2:SW X b G (.BoolOp .Or (e2::rest) pos) g2):SW X b G (.BoolOp .Or (e1::e2::rest) pos) (tO g1 g2):=
 PW.imp (Ft h1 h2)<|by
  rintro σ H Q ⟨Ow,env,c,E,hf,k⟩
  unfold tO at hf
  cases q1:g1 env with
  | none=>rw[q1] at hf;cases hf
  | some p1=>
   rw[q1] at hf
   refine⟨Ow,env,p1,E,q1,λH1 s1=>?_⟩
   cases p1 with
   | false=>exact⟨Ow,env,c,E.up s1,hf,λH' s=>k H' (s1.trans s)⟩
   | true=>cases hf;exact k H1 s1
theorem SW.st (h:SW X b G e g1):ST X b G e g1:=h _
end
end MR
namespace MR
open PySem L2
def ArA (b:BX) (Ow:Addr->Prop) (L:Bool) (H:Hp) (a:Addr):Prop:=Bs b Ow a\/(L=true/\∃ vs,H a=some (.lst vs))
def tMA (b:BX) (G:List Nat) (L:Bool) (g:Env->Option (List PV)):TA:=fun σ H Q=>∃ Ow env ps,ER b Ow G σ env H/\g env=some ps/\∀ vs H',Same H H'->Reps b.C (ArA b Ow L H') H' vs ps->Q vs H'
abbrev SA (X:Cx) (b:BX) (G:List Nat) (L:Bool) (es:List Expr) (g:Env->Option (List PV)):Prop:=PA X es (tMA b G L g)
theorem PA.imp {X:Cx}{es:List Expr}{t u:TA}(h:PA X es t) (i:∀ σ H Q,u σ H Q->t σ H Q):PA X es u:=λpos pins s σ H Q I q=>h pos pins s σ H Q I (i σ H Q q)
theorem ArA.ex {b:BX}{Ow:Addr->Prop}{L:Bool}{H H':Hp}(s:Same H H'):Ex (ArA b Ow L H) H (ArA b Ow L H') H':=λa o h=>⟨λq=>⟨s _ _ h,q.imp id λ⟨l,vs,e⟩=>⟨l,vs,s _ _ e⟩⟩,λ_=>s _ _ h⟩
section
variable {X:Cx}{b:BX}{G:List Nat}{m m1 m2:Md}{L:Bool}{e e1 e2:Expr}{es:List Expr}{f f1 f2:Env->Option PV}{g:Env->Option (List PV)}{pos p:Pos}
theorem aD:SA X b G L [] aA:=PA.imp fK<|by rintro σ H Q ⟨Ow,env,ps,E,hg,k⟩;cases hg;exact k [] H (Same.refl _) .nil
theorem aj (h1:SE X b G .val e f) (h2:SA X b G L es g) (hs:starEach (e::es) X.env=(false,eval e X.env)::starEach es X.env:=by rfl):SA X b G L (e::es) (aa f g):=
 PA.imp (cL h1 h2 hs)<|by
  rintro σ H Q ⟨Ow,env,ps,E,hg,k⟩
  unfold aa at hg
  cases q1:f env with
  | none=>rw[q1] at hg;cases hg
  | some p1=>
   rw[q1] at hg
   cases q2:g env with
   | none=>rw[q2] at hg;cases hg
   | some ps'=>
    rw[q2] at hg
    cases hg
    exact⟨Ow,env,p1,E,q1,λv H1 s1 r1=>⟨Ow,env,ps',E.up s1,q2,λvs H2 s2 r2=>k (v::vs) H2 (s1.trans s2) (.cons (Rep.ex (λa o h=>⟨λq=>⟨s2 _ _ h,.inl q⟩,λ_=>s2 _ _ h⟩) r1) r2)⟩⟩
def bL (f:Env->Option PV) (env:Env):Option PV:=(f env).bind λp=>match p with | .lst xs=>some (.lst xs) | _=>none
@[simp] theorem Rf (f:Env->Option PV) (env:Env):bL f env=((f env).bind λp=>match p with | .lst xs=>some (.lst xs) | _=>none):=id rfl
theorem zj {b:BX}{Ow:Addr->Prop}{H:Hp}{vs:List V}{ps:List PV}(h:Reps b.C (ArA b Ow false H) H vs ps):Reps b.C (Bs b Ow) H vs ps:=h.ex (cM λa o _ q=>q.elim id λz=>by cases z.1)
theorem cA (h:SA X b G false es g):SE X b G .own (.List es pos) (aX g):=PE.imp (Jd h)<|by
 rintro σ H Q ⟨Ow,env,p,E,hf,k⟩
 unfold aX at hf
 cases q1:g env with
 | none=>rw[q1] at hf;cases hf
 | some ps=>
  rw[q1] at hf
  simp only[Option.bind_some] at hf
  split at hf
  ·rename_i hl
   cases hf
   refine⟨Ow,env,ps,E,q1,λvs H1 s1 r=>⟨jc (by rw[r.length];exact hl),λq hq=>k _ _ (s1.trans (bK hq _)) (Res.down s1 (gR hq (zj r)))⟩⟩
  ·cases hf
theorem wk {x1}(h:SA X b G false es g):SE X b G .val (.Tuple es x1 pos) (tK g):=PE.imp (Jc h)<|by
 rintro σ H Q ⟨Ow,env,p,E,hf,k⟩
 unfold tK at hf
 cases q1:g env with
 | none=>rw[q1] at hf;cases hf
 | some ps=>
  rw[q1] at hf
  simp only[Option.bind_some] at hf
  split at hf
  ·rename_i hl
   cases hf
   refine⟨Ow,env,ps,E,q1,λvs H1 s1 r=>⟨jc (by rw[r.length];exact hl),λq hq=>k _ _ (s1.trans (bK hq _)) (G5 hq (zj r))⟩⟩
  ·cases hf
theorem Mw:SE X b G .own (.Dict [] [] pos) (bC (.dK [])):=PE.imp Dr<|by
 rintro σ H Q ⟨Ow,env,p,E,hf,k⟩ q hq
 cases hf
 exact k _ _ (bK hq _) ⟨q,rfl,hq,[],aU,.nil⟩
theorem Mx:SE X b G .own (.Dict [] [] pos) (bC (.dT [])):=PE.imp Ds<|by
 rintro σ H Q ⟨Ow,env,p,E,hf,k⟩ q hq
 cases hf
 exact k _ _ (bK hq _) ⟨q,rfl,hq,[],aU,.nil⟩
@[simp] noncomputable def ixP:PV->PV->Option PV
 | .lst xs,.int i=>atI xs i
 | .frz xs,.int i=>atI xs i
 | .tup xs,.int i=>atI xs i
 | .ktp xs,.int i=>atI xs i
 | .str x,.int i=>if x.length<=1000000 then (atI x.cps.toList i).map λc=>.str ⟨#[c]⟩ else none
 | .dK kvs,y=>(keyOf y).bind λk=>il kvs k
 | .dT kvs,.tup ys=>(keysB ys).bind λk=>il kvs k
 | _,_=>none
theorem Reps.atI {C:MC}{A:Addr->Prop}{H:Hp}{vs:List V}{ps:List PV}{i:Int}{p:PV}(h:Reps C A H vs ps) (e:atI ps i=some p):∃ v,L2.atI vs i=some v/\Rep C A H v p:=by
 unfold L2.atI at e ⊢
 rw[h.length]
 cases q:ixN ps.length i with
 | none=>rw[q] at e;cases e
 | some j=>rw[q] at e;exact h.get e
theorem bu {j:Nat}(hr:Room j X.A) (h1:SE X b G m1 e1 f1) (h2:SE X b G m2 e2 f2) (hs:yd e2:=by intro _ _;rfl) (hs':Do e2:=by intro _ _;rfl) (hK:X.K=b.C.K:=by rfl):SE X b G .val (.Subscript e1 e2 pos) (b2 ixP f1 f2):=by
 refine PE.imp (PE.or (Ma (r:=rIx b.C.K) (by rw[← hK];exact Jp) h1.bor h2.bor hs) (Gx (vy hr) h1.bor h2.bor hs')) fun σ H Q h=>?_
 obtain⟨Ow,env,p,E,hf,k⟩:=h
 unfold b2 at hf
 cases q1:f1 env with
 | none=>rw[q1] at hf;cases hf
 | some p1=>
  rw[q1] at hf
  cases q2:f2 env with
  | none=>rw[q2] at hf;cases hf
  | some p2=>
   rw[q2] at hf
   simp only[Option.bind_some] at hf
   have step:∀ (R:V->V->Hp->VK->Prop),(∀ H2 v1 v2,RepB b.C (Bs b Ow) H2 v1 p1->RepB b.C (Bs b Ow) H2 v2 p2->Same H H2->R v1 v2 H2 Q)->tM b G .bor f1 σ H λx H1=>tM b G .bor f2 σ H1 λy H2=>R x y H2 Q:=λR hR=>
    ⟨Ow,env,p1,E,q1,λv1 H1 s1 r1=>⟨Ow,env,p2,E.up s1,q2,λv2 H2 s2 r2=>hR H2 v1 v2 (Res.up (m:=.bor) r1 s2) r2 (s1.trans s2)⟩⟩
   unfold ixP at hf
   split at hf
   ·refine .inl (step _ λH2 v1 v2 r1 r2 s=>?_)
    obtain⟨a,vs,rfl,ha,ra⟩:=r1.lst
    obtain⟨v,hv,rv⟩:=ra.atI hf
    rw[r2.int]
    exact .inl ⟨a,vs,_,v,rfl,rfl,SqL.of ha,hv,k v H2 s rv⟩
   ·refine .inl (step _ λH2 v1 v2 r1 r2 s=>?_)
    obtain⟨a,vs,rfl,ha,ra⟩:=r1.frz
    obtain⟨v,hv,rv⟩:=ra.atI hf
    rw[r2.int]
    exact .inl ⟨a,vs,_,v,rfl,rfl,ha,hv,k v H2 s rv⟩
   ·refine .inl (step _ λH2 v1 v2 r1 r2 s=>?_)
    obtain⟨a,vs,rfl,ha,ra⟩:=r1.tup
    obtain⟨v,hv,rv⟩:=ra.atI hf
    rw[r2.int]
    exact .inr (.inl ⟨a,vs,_,v,rfl,rfl,ha.sq,hv,k v H2 s rv⟩)
   ·refine .inl (step _ λH2 v1 v2 r1 r2 s=>?_)
    obtain⟨a,vs,rfl,ha,ra⟩:=r1.ktp
    obtain⟨v,hv,rv⟩:=ra.atI hf
    rw[r2.int]
    exact .inr (.inl ⟨a,vs,_,v,rfl,rfl,ha,hv,k v H2 s rv⟩)
   ·split at hf
    ·rename_i x i hx
     cases q3:atI x.cps.toList i with
     | none=>rw[q3] at hf;cases hf
     | some c=>
      rw[q3] at hf
      cases hf
      refine .inl (step _ λH2 v1 v2 r1 r2 s=>?_)
      rw[r1.str,r2.int]
      exact .inr (.inr ⟨x,i,c,rfl,rfl,jc hx,q3,k _ H2 s (.str _)⟩)
    ·cases hf
   ·rename_i kvs
    cases q3:keyOf p2 with
    | none=>rw[q3] at hf;cases hf
    | some ky=>
     rw[q3] at hf
     simp only[Option.bind_some] at hf
     refine .inr (step (λx y H2 Q=>∃ a v,x=.ref a/\DGet X.K H2 a y (some v)/\Q v H2) λH2 v1 v2 r1 r2 s=>?_)
     obtain⟨a,kv,rfl,ha,ra⟩:=r1.dK
     rw[r2.key q3]
     unfold il at hf
     rcases RepK.val (k:=ky) ra with ⟨v,p',h1,h2,rv⟩ | ⟨h1,h2⟩
     ·rw[h2] at hf
      cases hf
      exact⟨a,v,rfl,by rw[← h1];exact DGet.k ha,k v H2 s rv⟩
     ·rw[h2] at hf;cases hf
   ·rename_i kvs ys
    cases q3:keysB ys with
    | none=>rw[q3] at hf;cases hf
    | some ky=>
     rw[q3] at hf
     simp only[Option.bind_some] at hf
     refine .inr (step (λx y H2 Q=>∃ a v,x=.ref a/\DGet X.K H2 a y (some v)/\Q v H2) λH2 v1 v2 r1 r2 s=>?_)
     obtain⟨a,kv,rfl,ha,ra⟩:=r1.dT
     obtain⟨c,vs,rfl,hc,rc⟩:=r2.tup
     unfold il at hf
     rcases RepT.val (k:=ky) ra with ⟨v,p',h1,h2,rv⟩ | ⟨h1,h2⟩
     ·rw[h2] at hf
      cases hf
      exact⟨a,v,rfl,by rw[← h1,hK];exact DGet.t ha (hc.key (rc.keysB q3)),k v H2 s rv⟩
     ·rw[h2] at hf;cases hf
   ·cases hf
noncomputable def gw (xs:List PV) (lo hi:Option Int):List PV:=(xs.drop (HT.sIx xs.length 0 lo)).take (HT.sIx xs.length xs.length hi - HT.sIx xs.length 0 lo)
theorem Reps.cut {C:MC}{A:Addr->Prop}{H:Hp}{vs:List V}{ps:List PV}(h:Reps C A H vs ps) (lo hi:Option Int):Reps C A H (tu vs lo hi) (gw ps lo hi):=by
 unfold tu gw
 rw[h.length]
 exact(h.drop _).take _
noncomputable def oN (env:Env):Option (Option Int):=some none
@[simp] theorem Mz (env:Env):oN env=(some none):=id rfl
noncomputable def oS (f:Env->Option PV) (env:Env):Option (Option Int):=(f env).bind λp=>match p with | .int i=>some (some i) | _=>none
@[simp] theorem MF (f:Env->Option PV) (env:Env):oS f env=((f env).bind λp=>match p with | .int i=>some (some i) | _=>none):=id rfl
def tMO (b:BX) (G:List Nat) (f:Env->Option (Option Int)):TO:=fun σ H Q=>∃ Ow env o,ER b Ow G σ env H/\f env=some o/\∀ H',Same H H'->Q o H'
theorem PO.imp {x:Option Expr}{t u:TO}(h:PO X x t) (i:∀ σ H Q,u σ H Q->t σ H Q):PO X x u:=by
 intro pins s σ H Q I q
 exact h pins s σ H Q I (i σ H Q q)
abbrev SO (X:Cx) (b:BX) (G:List Nat) (e:Option Expr) (f:Env->Option (Option Int)):Prop:=PO X e (tMO b G f)
theorem jd:SO X b G none oN:=PO.imp GC<|by rintro σ H Q ⟨Ow,env,o,E,hf,k⟩;cases hf;exact k H (Same.refl _)
theorem gU (h:SE X b G m e f):SO X b G (some e) (oS f):=PO.imp (GD h.bor)<|by
 rintro σ H Q ⟨Ow,env,o,E,hf,k⟩
 unfold oS at hf
 cases q1:f env with
 | none=>rw[q1] at hf;cases hf
 | some p1=>
  rw[q1] at hf
  refine⟨Ow,env,p1,E,q1,λv H1 s1 r1=>?_⟩
  have r1':RepB b.C (Bs b Ow) H1 v p1:=r1
  cases p1 <;> simp only[Option.bind_some] at hf <;> cases hf
  exact⟨_,r1'.int,k H1 s1⟩
noncomputable def bSl (f:Env->Option PV) (lo hi:Env->Option (Option Int)) (env:Env):Option PV:=(f env).bind λx=>(lo env).bind λl=>(hi env).bind λh=>match x with
 | .lst xs=>some (.lst (gw xs l h))
 | .frz xs=>some (.lst (gw xs l h))
 | .str x=>if x.length<=1000000 then some (.str (oZ x l h)) else none
 | _=>none
@[simp] theorem JW (f:Env->Option PV) (lo hi:Env->Option (Option Int)) (env:Env):bSl f lo hi env=((f env).bind λx=>(lo env).bind λl=>(hi env).bind λh=>match x with
 | .lst xs=>some (.lst (gw xs l h))
 | .frz xs=>some (.lst (gw xs l h))
 | .str x=>if x.length<=1000000 then some (.str (oZ x l h)) else none
 | _=>none):=id rfl
theorem kW {lo hi:Option Expr}{p2:Pos}{fl fh:Env->Option (Option Int)}(h1:SE X b G m e f) (hl:SO X b G lo fl) (hh:SO X b G hi fh) (hK:X.K=b.C.K:=by rfl):SE X b G .val (.Subscript e (.Slice lo hi none p2) pos) (bSl f fl fh):=by
 refine PE.imp (Du (r:=JC b.C.K) (by rw[← hK];exact JD) h1.bor hl hh) fun σ H Q ⟨Ow,env,p,E,hf,k⟩=>?_
 unfold bSl at hf
 cases q1:f env with
 | none=>rw[q1] at hf;cases hf
 | some p1=>
  rw[q1] at hf
  cases q2:fl env with
  | none=>rw[q2] at hf;cases hf
  | some l=>
   rw[q2] at hf
   cases q3:fh env with
   | none=>rw[q3] at hf;cases hf
   | some h=>
    rw[q3] at hf
    refine⟨Ow,env,p1,E,q1,λv H1 s1 r1=>⟨Ow,env,l,E.up s1,q2,λH2 s2=>⟨Ow,env,h,E.up (s1.trans s2),q3,λH3 s3=>?_⟩⟩⟩
    have r1':RepB b.C (Bs b Ow) H3 v p1:=Res.up (m:=.bor) r1 (s2.trans s3)
    cases p1 <;> simp only[Option.bind_some] at hf
    case lst xs=>
     cases hf
     obtain⟨a,vs,rfl,ha,ra⟩:=r1'.lst
     exact .inl ⟨a,vs,rfl,SqL.of ha,λq hq=>k _ _ (s1.trans (s2.trans (s3.trans (bK hq _)))) (Res.val (m:=.own) E (λz=>nomatch z) (Res.down (s1.trans (s2.trans s3)) (gR hq (ra.cut l h))))⟩
    case frz xs=>
     cases hf
     obtain⟨a,vs,rfl,ha,ra⟩:=r1'.frz
     exact .inl ⟨a,vs,rfl,ha,λq hq=>k _ _ (s1.trans (s2.trans (s3.trans (bK hq _)))) (Res.val (m:=.own) E (λz=>nomatch z) (Res.down (s1.trans (s2.trans s3)) (gR hq (ra.cut l h))))⟩
    case str x=>
     split at hf
     ·rename_i hx
      cases hf
      exact .inr ⟨x,r1'.str,jc hx,k _ _ (s1.trans (s2.trans s3)) (.str _)⟩
     ·cases hf
    all_goals cases hf
def Ou (f:Env->Option PV) (lo hi:Env->Option (Option Int)) (env:Env):Option PV:=(f env).bind λx=>(lo env).bind λl=>(hi env).bind λh=>match x with
 | .lst xs=>some (.lst (gw xs l h))
 | .frz xs=>some (.lst (gw xs l h))
 | _=>none
@[simp] theorem PQ (f:Env->Option PV) (lo hi:Env->Option (Option Int)) (env:Env):Ou f lo hi env=((f env).bind λx=>(lo env).bind λl=>(hi env).bind λh=>match x with
 | .lst xs=>some (.lst (gw xs l h))
 | .frz xs=>some (.lst (gw xs l h))
 | _=>none):=id rfl
theorem Bu {id:String}{x:Str}{r:List V->Hp->VK->Prop}{g:PV->Option PV}(hc:CallR X (.builtin id) r) (hr:Op1 b m (λv H Q=>r [v] H Q) g) (hm:X.mg x=none) (hv:bootBuiltins x=some (.builtin id)) (h:SE X b G m1 e f)
  (hg:Gl X x:=by rfl) (hn:x ≠ "__name__" := by decide) (hdb:(x == ("__debug__" : Str))=false:=by decide) (he:starEach [e] X.env=(false,eval e X.env)::starEach [] X.env:=by rfl):
  SE X b G m (.Call (.Name x p) [e] [] pos) (b1 g f):=
 PE.imp (m8 hc hg hm hv (cL h.bor fK he) hn hdb he rfl) fun σ H Q h=>zf hr h
theorem G6 {id:String}{x:Str}{r:List V->Hp->VK->Prop}{g:PV->Option PV}(hc:CallR X (.type id) r) (hr:Op1 b m (λv H Q=>r [v] H Q) g) (hm:X.mg x=none) (hv:bootBuiltins x=some (.type id)) (h:SE X b G m1 e f)
  (hg:Gl X x:=by rfl) (hn:x ≠ "__name__" := by decide) (hdb:(x == ("__debug__" : Str))=false:=by decide) (he:starEach [e] X.env=(false,eval e X.env)::starEach [] X.env:=by rfl):
  SE X b G m (.Call (.Name x p) [e] [] pos) (b1 g f):=
 PE.imp (Ar hc hg hm hv (cL h.bor fK he) hn hdb he rfl) fun σ H Q h=>zf hr h
@[simp] noncomputable def lenV:PV->Option PV
 | .lst xs=>some (.int xs.length)
 | .frz xs=>some (.int xs.length)
 | .tup xs=>some (.int xs.length)
 | .ktp xs=>some (.int xs.length)
 | .str x=>if x.length<=1000000 then some (.int x.length) else none
 | .dK kvs=>some (.int kvs.length)
 | _=>none
theorem RepK.length {C:MC}{A:Addr->Prop}{H:Hp}:∀ {vs:List (Key×V)}{ps:List (Key×PV)},RepK C A H vs ps->vs.length=ps.length
 | _,_,.nil=>rfl
 | _,_,.cons _ t=>by simp[RepK.length t]
theorem dm (hm:X.mg "len" = none) (h:SE X b G m1 e f) (hK:X.K=b.C.K:=by rfl) (hg:Gl X "len" := by rfl) (he:starEach [e] X.env=(false,eval e X.env)::starEach [] X.env:=by rfl):SE X b G .val (.Call (.Name "len" p) [e] [] pos) (b1 lenV f):=by
 refine Bu (CallR.or (CallR.or vZ v4) Be) (λOw H v1 p1 p Q hn r1 e k=>?_) hm PySem.boot_len h hg (by decide) (by decide) he
 rw[hK]
 cases p1 <;> simp only[lenV] at e
 case lst xs=>cases e;obtain⟨a,vs,rfl,ha,ra⟩:=r1.lst;exact .inl (.inl ⟨a,vs,rfl,.inl (SqL.of ha),by rw[ra.length];exact k _ H (Same.refl _) (.int _)⟩)
 case frz xs=>cases e;obtain⟨a,vs,rfl,ha,ra⟩:=r1.frz;exact .inl (.inl ⟨a,vs,rfl,.inl ha,by rw[ra.length];exact k _ H (Same.refl _) (.int _)⟩)
 case tup xs=>cases e;obtain⟨a,vs,rfl,ha,ra⟩:=r1.tup;exact .inl (.inl ⟨a,vs,rfl,.inr ha.sq,by rw[ra.length];exact k _ H (Same.refl _) (.int _)⟩)
 case ktp xs=>cases e;obtain⟨a,vs,rfl,ha,ra⟩:=r1.ktp;exact .inl (.inl ⟨a,vs,rfl,.inr ha,by rw[ra.length];exact k _ H (Same.refl _) (.int _)⟩)
 case str x=>
  split at e
  ·rename_i hx
   cases e
   rw[r1.str]
   exact .inl (.inr ⟨x,rfl,jc hx,k _ H (Same.refl _) (.int _)⟩)
  ·cases e
 case dK kvs=>cases e;obtain⟨a,vs,rfl,ha,ra⟩:=r1.dK;exact .inr ⟨a,vs,rfl,ha,by rw[ra.length];exact k _ H (Same.refl _) (.int _)⟩
 all_goals cases e
def vB:Key->PV
 | .inl i=>.int i
 | .inr x=>.str x
@[simp] noncomputable def jT:PV->Option PV
 | .lst xs=>some (.lst xs)
 | .frz xs=>some (.lst xs)
 | .tup xs=>some (.lst xs)
 | .ktp xs=>some (.lst xs)
 | .dK kvs=>some (.lst (kvs.map λkv=>vB kv.1))
 | _=>none
theorem G7 {C:MC}{A:Addr->Prop}{H:Hp}(k:Key):Rep C A H (kV k) (vB k):=by cases k with | inl i=>exact .int i | inr x=>exact .str x
theorem RepK.keys {C:MC}{A:Addr->Prop}{H:Hp}:∀ {vs:List (Key×V)}{ps:List (Key×PV)},RepK C A H vs ps->Reps C A H (vs.map λkv=>kV kv.1) (ps.map λkv=>vB kv.1)
 | _,_,.nil=>.nil
 | _,_,.cons (k:=k) _ t=>.cons (G7 k) (RepK.keys t)
theorem pY (hm:X.mg "list" = none) (h:SE X b G m1 e f) (hcm:X.calm=true:=by rfl) (hK:X.K=b.C.K:=by rfl) (hg:Gl X "list" := by rfl) (he:starEach [e] X.env=(false,eval e X.env)::starEach [] X.env:=by rfl):SE X b G .own (.Call (.Name "list" p) [e] [] pos) (b1 jT f):=by
 refine G6 (CallR.or v7 (tE hcm)) (λOw H v1 p1 p Q hn r1 e k=>?_) hm PyProof.Rows.boot_list h hg (by decide) (by decide) he
 rw[hK]
 cases p1 <;> simp only[jT] at e <;> cases e
 case lst xs=>obtain⟨a,vs,rfl,ha,ra⟩:=r1.lst;exact .inl ⟨a,vs,rfl,.inl (SqL.of ha),λl hl=>k _ _ (bK hl _) (gR hl ra)⟩
 case frz xs=>obtain⟨a,vs,rfl,ha,ra⟩:=r1.frz;exact .inl ⟨a,vs,rfl,.inl ha,λl hl=>k _ _ (bK hl _) (gR hl ra)⟩
 case tup xs=>obtain⟨a,vs,rfl,ha,ra⟩:=r1.tup;exact .inl ⟨a,vs,rfl,.inr ha.sq,λl hl=>k _ _ (bK hl _) (gR hl ra)⟩
 case ktp xs=>obtain⟨a,vs,rfl,ha,ra⟩:=r1.ktp;exact .inl ⟨a,vs,rfl,.inr ha,λl hl=>k _ _ (bK hl _) (gR hl ra)⟩
 case dK kvs=>obtain⟨a,vs,rfl,ha,ra⟩:=r1.dK;exact .inr ⟨a,vs,rfl,ha,λl hl=>k _ _ (bK hl _) (gR hl ra.keys)⟩
@[simp] noncomputable def Rz:PV->Option PV
 | .int i=>some (.int i)
 | .bl k=>some (.int (if k then 1 else 0))
 | _=>none
@[simp] def bools:List PV->Option (List Bool)
 | []=>some []
 | .bl c::r=>(bools r).map (c::·)
 | _::_=>none
theorem Reps.bools {C:MC}{A:Addr->Prop}{H:Hp}:∀ {vs:List V}{ps:List PV}{bs:List Bool},Reps C A H vs ps->bools ps=some bs->vs=bs.map V.bl
 | _,_,_,.nil,e=>by cases e;rfl
 | _,_,_,.cons (p:=p) (ps:=ps) h t,e=>by
  cases p <;> simp only[MR.bools] at e <;> first | cases e | skip
  rename_i c
  cases q:MR.bools ps with
  | none=>rw[q] at e;cases e
  | some bs=>rw[q] at e;cases e;cases h;rw[Reps.bools t q];rfl
@[simp] noncomputable def lG:PV->Option PV
 | .lst xs=>(bools xs).map λbs=>.bl (bs.all id)
 | _=>none
@[simp] def RB:PV->Option PV
 | .lst xs=>(bools xs).map λbs=>.bl (bs.any id)
 | _=>none
theorem lH (hm:X.mg "all" = none) (h:SE X b G m1 e f) (hcm:X.calm=true:=by rfl) (hg:Gl X "all" := by rfl) (he:starEach [e] X.env=(false,eval e X.env)::starEach [] X.env:=by rfl):SE X b G .val (.Call (.Name "all" p) [e] [] pos) (b1 lG f):=by
 refine Bu (DG hcm) (λOw H v1 p1 p Q hn r1 e k=>?_) hm PyProof.Rows.boot_all h hg (by decide) (by decide) he
 cases p1 <;> simp only[lG] at e <;> first | cases e | skip
 rename_i xs
 cases q:bools xs with
 | none=>rw[q] at e;cases e
 | some bs=>
  rw[q] at e
  cases e
  obtain⟨a,vs,rfl,ha,ra⟩:=r1.lst
  have hv:=ra.bools q
  subst hv
  exact⟨a,bs,rfl,SqL.of ha,k _ H (Same.refl _) (.bl _)⟩
@[simp] def strsP:List PV->Option (List Str)
 | []=>some []
 | .str c::r=>(strsP r).map (c::·)
 | _::_=>none
theorem Reps.strsP {C:MC}{A:Addr->Prop}{H:Hp}:∀ {vs:List V}{ps:List PV}{bs:List Str},Reps C A H vs ps->strsP ps=some bs->vs=bs.map V.str
 | _,_,_,.nil,e=>by cases e;rfl
 | _,_,_,.cons (p:=p) (ps:=ps) h t,e=>by
  cases p <;> simp only[MR.strsP] at e <;> first | cases e | skip
  rename_i c
  cases q:MR.strsP ps with
  | none=>rw[q] at e;cases e
  | some bs=>rw[q] at e;cases e;cases h;rw[Reps.strsP t q];rfl
@[simp] def pZ:PV->PV->Option PV
 | .str z,.lst xs=>(strsP xs).bind λzs=>if JoinOk z zs=true then some (.str (Str.join z zs)) else none
 | _,_=>none
@[simp] def mJ:PV->PV->Option PV
 | .str z,.str y=>if (y.length == 0)=false/\z.length<=1000000 then some (.lst ((Txt.split z y).map .str)) else none
 | _,_=>none
theorem FZ {id:String}{name:Str}{apos cpos:Pos}{o:Expr}{fo:Env->Option PV}{r:V->List V->Hp->VK->Prop}{g:PV->PV->Option PV}(slot:Slot "str" name id) (hty:typeOf (.builtin id)=pure (.type "method_descriptor")) (pa:PlainAttrs "str") (hm:MtR X id r)
  (hr:Op2 b m (λx y H Q=>(∃ z,x=.str z)->r x [y] H Q) g) (hgs:∀ x y p,g x y=some p->∃ z,x=.str z) (ho:SE X b G m1 o fo) (h:SE X b G m2 e f)
  (hbase:attributeBase o name X.env (eval o X.env)=eval o X.env:=by rfl)
  (hfew:((backTo cpos (starEach [e] X.env)).all (λx=>!x.1)&&(backToKw cpos (keywordEach [] X.env)).all (λx=>x.1.isSome)
   && decide ([e].length+([]:List Keyword).length+(if ([]:List Keyword).isEmpty then 0 else 1) < 30))=true:=by rfl)
  (hline:(apos.endLine == cpos.line)=true:=by rfl) (hs:starEach [e] X.env=(false,eval e X.env)::starEach [] X.env:=by rfl):
  SE X b G m (.Call (.Attribute o name apos) [e] [] cpos) (b2 g fo f):=by
 refine PE.imp (yW pa slot hty hm ho.bor (cL h.bor fK hs) hbase hfew hline hs rfl) fun σ H Q h=>?_
 obtain⟨Ow,env,p,E,hf,k⟩:=h
 unfold b2 at hf
 cases q1:fo env with
 | none=>rw[q1] at hf;cases hf
 | some p1=>
  rw[q1] at hf
  cases q2:f env with
  | none=>rw[q2] at hf;cases hf
  | some p2=>
   rw[q2] at hf
   simp only[Option.bind_some] at hf
   obtain⟨z,rfl⟩:=hgs _ _ _ hf
   refine⟨Ow,env,_,E,q1,λv1 H1 s1 r1=>?_⟩
   have r1':RepB b.C (Bs b Ow) H1 v1 (.str z):=r1
   have ev:=r1'.str
   subst ev
   refine⟨rfl,Ow,env,p2,E.up s1,q2,λv2 H2 s2 r2=>?_⟩
   exact hr Ow H2 _ v2 _ p2 p Q (λa=>(E.up (s1.trans s2)).fresh) (RepB.ex (.of_same s2) s2 r1') r2 hf (λv H' s r=>k v H' (s1.trans (s2.trans s)) (r.down (s1.trans s2))) ⟨z,rfl⟩
theorem G8:Op2 b .val (λx y H Q=>(∃ z,x=.str z)->rJoin b.C.K x [y] H Q) pZ:=by
 intro Ow H v1 v2 p1 p2 p Q hn r1 r2 e k _
 unfold pZ at e
 split at e
 ·rename_i z xs
  cases q:strsP xs with
  | none=>rw[q] at e;cases e
  | some zs=>
   rw[q] at e
   simp only[Option.bind_some] at e
   split at e
   ·rename_i hj
    cases e
    obtain⟨a,vs,rfl,ha,ra⟩:=r2.lst
    have hv:=ra.strsP q
    subst hv
    exact⟨z,a,zs,r1.str,rfl,SqL.of ha,hj,k _ H (Same.refl _) (.str _)⟩
   ·cases e
 ·cases e
theorem DW:Op2 b .own (λx y H Q=>(∃ z,x=.str z)->Bg x [y] H Q) mJ:=by
 intro Ow H v1 v2 p1 p2 p Q hn r1 r2 e k _
 unfold mJ at e
 split at e
 ·rename_i z y
  split at e
  ·rename_i hj
   cases e
   refine⟨z,y,r1.str,by rw[r2.str],hj.1,hj.2,λl hl=>k _ _ (bK hl _) (gR hl (tG _ _ (λx=>.str x) _))⟩
  ·cases e
 ·cases e
theorem G9 {apos cpos:Pos}{o:Expr}{fo:Env->Option PV}(ho:SE X b G m1 o fo) (h:SE X b G m2 e f) (hK:X.K=b.C.K:=by rfl) (hbase:attributeBase o "join" X.env (eval o X.env)=eval o X.env:=by rfl)
  (hfew:((backTo cpos (starEach [e] X.env)).all (λx=>!x.1)&&(backToKw cpos (keywordEach [] X.env)).all (λx=>x.1.isSome)
   && decide ([e].length+([]:List Keyword).length+(if ([]:List Keyword).isEmpty then 0 else 1) < 30))=true:=by rfl)
  (hline:(apos.endLine == cpos.line)=true:=by rfl) (hs:starEach [e] X.env=(false,eval e X.env)::starEach [] X.env:=by rfl):
  SE X b G .val (.Call (.Attribute o "join" apos) [e] [] cpos) (b2 pZ fo f):=
 FZ PySem.F.slot_str_join PySem.F.type_str_join PySem.F.plainAttrs_str (r:=rJoin b.C.K) (by rw[← hK];exact GX) G8 (λx y p e=>by
  unfold pZ at e
  split at e
  ·exact⟨_,rfl⟩
  ·cases e) ho h hbase hfew hline hs
theorem wu {apos cpos:Pos}{o:Expr}{fo:Env->Option PV}(ho:SE X b G m1 o fo) (h:SE X b G m2 e f) (hbase:attributeBase o "split" X.env (eval o X.env)=eval o X.env:=by rfl)
  (hfew:((backTo cpos (starEach [e] X.env)).all (λx=>!x.1)&&(backToKw cpos (keywordEach [] X.env)).all (λx=>x.1.isSome)
   && decide ([e].length+([]:List Keyword).length+(if ([]:List Keyword).isEmpty then 0 else 1) < 30))=true:=by rfl)
  (hline:(apos.endLine == cpos.line)=true:=by rfl) (hs:starEach [e] X.env=(false,eval e X.env)::starEach [] X.env:=by rfl):
  SE X b G .own (.Call (.Attribute o "split" apos) [e] [] cpos) (b2 mJ fo f):=
 FZ PySem.F.slot_str_split PySem.F.type_str_split PySem.F.plainAttrs_str Dz DW (λx y p e=>by
  unfold mJ at e
  split at e
  ·exact⟨_,rfl⟩
  ·cases e) ho h hbase hfew hline hs
def Ret (C:MC) (A:Addr->Prop) (H:Hp) (ro:Bool) (H':Hp) (v:V) (p:PV):Prop:=match ro with
 | true=>∃ a,v=.ref a/\H a=none/\Top C (λc=>(A c\/H c=none)/\c≠a) H' a p
 | false=>Rep C (λc=>A c\/H c=none) H' v p
def spM (C:MC) (m:List PV->Option PV) (ro:Bool):Sp:=λvs H Q _=>∃ A ps p,Reps C A H vs ps/\m ps=some p/\∀ v H',Same H H'->Ret C A H ro H' v p->Q v H'
def JX:Bool->Md
 | true=>.own
 | false=>.val
theorem Ret.res {Ow:Addr->Prop}{σ:St}{env:Env}{H H1 H':Hp}{ro:Bool}{v:V}{q:PV}(E:ER b Ow G σ env H) (s:Same H H1) (r:Ret b.C (Bs b Ow) H1 ro H' v q):Res b Ow H H' (JX ro) v q:=by
 cases ro with
 | true=>
  obtain⟨a,rfl,h,t⟩:=r
  exact⟨a,rfl,s.free h,t.ex (cM λc o _ z=>⟨z.1.elim id λw=>(E.up s).fresh w,z.2⟩) λo z=>z⟩
 | false=>exact Rep.ex (cM λc o _ z=>z.elim id λw=>(E.up s).fresh w) r
theorem yf {k j:Nat}{x:Str}{ps:List Str}{mi:List PV->Option PV}{ro:Bool}(c:Cal X.prog X.w X.K X.mg X.base k x ps (spM b.C mi ro)) (hr:Room j X.A) (ha:SA X b G false (e::es) g) (hle:k<=j:=by decide) (hg:Gl X x:=by rfl)
  (hdb:(x == ("__debug__" : Str))=false:=by decide) (he:starEach (e::es) X.env=(false,eval e X.env)::starEach es X.env:=by rfl) (hpl:(backTo pos (starEach es X.env)).any (·.1)=false:=by rfl):
  SE X b G (JX ro) (.Call (.Name x p) (e::es) [] pos) (aL mi g):=by
 refine PE.imp (Bj c hr ha hle hg hdb he hpl) ?_
 rintro σ H Q ⟨Ow,env,q,E,hf,kk⟩
 unfold aL at hf
 cases q1:g env with
 | none=>rw[q1] at hf;cases hf
 | some qs=>
  rw[q1] at hf
  refine⟨Ow,env,qs,E,q1,λvs H1 s1 r=>?_⟩
  dsimp only
  rw[List.append_nil]
  exact⟨Bs b Ow,qs,q,zj r,hf,λv H' s' rr=>kk v H' (s1.trans s') (Ret.res E s1 rr)⟩
mutual
def noL:PV->Bool
 | .lst _=>false
 | .tup xs=>tQ xs
 | .ktp xs=>tQ xs
 | .frz xs=>tQ xs
 | .dK kvs=>zm kvs
 | .dT kvs=>zp kvs
 | .obj _ fs=>qP fs
 | _=>true
def tQ:List PV->Bool
 | []=>true
 | x::xs=>noL x&&tQ xs
def zm:List (Key×PV)->Bool
 | []=>true
 | x::xs=>noL x.2&&zm xs
def zp:List (List Key×PV)->Bool
 | []=>true
 | x::xs=>noL x.2&&zp xs
def qP:List (Str×PV)->Bool
 | []=>true
 | x::xs=>noL x.2&&qP xs
end
def NL (A A':Addr->Prop) (H:Hp):Prop:=∀ a o,H a=some o->A a->A' a\/∃ vs,o=.lst vs
mutual
theorem Rep.nl {C:MC}{A A':Addr->Prop}{H:Hp}(e:NL A A' H):∀ {v:V}{p:PV},Rep C A H v p->noL p=true->Rep C A' H v p
 | _,_,.non,_=>.non
 | _,_,.bl b,_=>.bl b
 | _,_,.int i,_=>.int i
 | _,_,.str x,_=>.str x
 | _,_,.lst h q r,n=>by simp only[noL] at n;cases n
 | _,_,.lstF h r,n=>.lstF h (Reps.nl e r (by simpa only [noL] using n))
 | _,_,.lstK h r,n=>.lstK h (Reps.nl e r (by simpa only [noL] using n))
 | _,_,.tup h r,n=>.tup h (Reps.nl e r (by simpa only [noL] using n))
 | _,_,.tupC h r,n=>.tupC h (Reps.nl e r (by simpa only [noL] using n))
 | _,_,.tupK h r,n=>.tupK h (Reps.nl e r (by simpa only [noL] using n))
 | _,_,.dK h q r,n=>.dK h ((e _ _ h q).elim id λ⟨_,z⟩=>nomatch z) (RepK.nl e r (by simpa only [noL] using n))
 | _,_,.dT h q r,n=>.dT h ((e _ _ h q).elim id λ⟨_,z⟩=>nomatch z) (RepT.nl e r (by simpa only [noL] using n))
 | _,_,.obj h q r,n=>.obj h ((e _ _ h q).elim id λ⟨_,z⟩=>nomatch z) (RepF.nl e r (by simpa only [noL] using n))
theorem Reps.nl {C:MC}{A A':Addr->Prop}{H:Hp}(e:NL A A' H):∀ {v:List V}{p:List PV},Reps C A H v p->tQ p=true->Reps C A' H v p
 | _,_,.nil,_=>.nil
 | _,_,.cons h t,n=>by
  simp only[tQ,Bool.and_eq_true] at n
  exact .cons (Rep.nl e h n.1) (Reps.nl e t n.2)
theorem RepK.nl {C:MC}{A A':Addr->Prop}{H:Hp}(e:NL A A' H):∀ {v:List (Key×V)}{p:List (Key×PV)},RepK C A H v p->zm p=true->RepK C A' H v p
 | _,_,.nil,_=>.nil
 | _,_,.cons h t,n=>by
  simp only[zm,Bool.and_eq_true] at n
  exact .cons (Rep.nl e h n.1) (RepK.nl e t n.2)
theorem RepT.nl {C:MC}{A A':Addr->Prop}{H:Hp}(e:NL A A' H):∀ {v:List (List Key×V)}{p:List (List Key×PV)},RepT C A H v p->zp p=true->RepT C A' H v p
 | _,_,.nil,_=>.nil
 | _,_,.cons h t,n=>by
  simp only[zp,Bool.and_eq_true] at n
  exact .cons (Rep.nl e h n.1) (RepT.nl e t n.2)
theorem RepF.nl {C:MC}{A A':Addr->Prop}{H:Hp}(e:NL A A' H):∀ {v:List (Str×V)}{p:List (Str×PV)},RepF C A H v p->qP p=true->RepF C A' H v p
 | _,_,.nil,_=>.nil
 | _,_,.cons h t,n=>by
  simp only[qP,Bool.and_eq_true] at n
  exact .cons (Rep.nl e h n.1) (RepF.nl e t n.2)
end
def JZ (mi:List PV->Option PV) (g:Env->Option (List PV)) (env:Env):Option PV:=((g env).bind mi).bind λp=>if noL p=true then some p else none
@[simp] theorem Nv (mi:List PV->Option PV) (g:Env->Option (List PV)) (env:Env):JZ mi g env=(((g env).bind mi).bind λp=>if noL p=true then some p else none):=id rfl
def nu (c:Nat) (x:Str) (f:Env->Option PV) (env:Env):Option PV:=(f env).bind λp=>match p with
 | .obj c' fs=>if c'=c then fs.lookup x else none
 | _=>none
@[simp] theorem PX (c:Nat) (x:Str) (f:Env->Option PV) (env:Env):nu c x f env=((f env).bind λp=>match p with
 | .obj c' fs=>if c'=c then fs.lookup x else none
 | _=>none):=id rfl
theorem jY {c:Nat}{x:Str}(hc:Cls b.C.K (b.C.cl c)) (hn:NoAttr b.C.K (b.C.cl c) x) (h:SE X b G m e f) (hb:attributeBase e x X.env (eval e X.env)=eval e X.env:=by rfl) (hK:X.K=b.C.K:=by rfl):SE X b G .val (.Attribute e x pos) (nu c x f):=
 PE.imp (Ja h.bor hb)<|by
  rintro σ H Q ⟨Ow,env,p,E,hf,k⟩
  unfold nu at hf
  cases q1:f env with
  | none=>rw[q1] at hf;cases hf
  | some p1=>
   rw[q1] at hf
   refine⟨Ow,env,p1,E,q1,λv H1 s1 r1=>?_⟩
   have r1':RepB b.C (Bs b Ow) H1 v p1:=r1
   cases p1 <;> simp only[Option.bind_some] at hf <;> first | cases hf | skip
   rename_i c' fs
   split at hf
   ·rename_i hcc
    subst hcc
    obtain⟨a,dx,fv,rfl,ha,ra⟩:=r1'.obj
    obtain⟨v',hv,rv⟩:=ra.look hf
    rw[hK]
    exact⟨a,_,dx,fv,v',rfl,ha,hc,hn,hv,k v' H1 s1 rv⟩
   ·cases hf
def MJ (c:Nat) (x:Str) (mi:List PV->Option PV) (f:Env->Option PV) (g:Env->Option (List PV)) (env:Env):Option PV:=(f env).bind λp=>match p with
 | .obj c' fs=>if c'=c/\fs.lookup x=none then (g env).bind λps=>mi (p::ps) else none
 | _=>none
@[simp] theorem Ov (c:Nat) (x:Str) (mi:List PV->Option PV) (f:Env->Option PV) (g:Env->Option (List PV)) (env:Env):MJ c x mi f g env=((f env).bind λp=>match p with
 | .obj c' fs=>if c'=c/\fs.lookup x=none then (g env).bind λps=>mi (p::ps) else none
 | _=>none):=id rfl
theorem aK {k j:Nat}{x:Str}{ps:List Str}{mi:List PV->Option PV}(c:Cal X.prog X.w X.K X.mg X.base k x ps (spM b.C mi false)) (hr:Room j X.A) (ha:SA X b G false (e::es) g) (hle:k<=j:=by decide) (hg:Gl X x:=by rfl)
  (hdb:(x == ("__debug__" : Str))=false:=by decide) (he:starEach (e::es) X.env=(false,eval e X.env)::starEach es X.env:=by rfl) (hpl:(backTo pos (starEach es X.env)).any (·.1)=false:=by rfl):
  SE X b G .val (.Call (.Name x p) (e::es) [] pos) (aL mi g):=yf c hr ha hle hg hdb he hpl
theorem DX {k j:Nat}{x:Str}{ps:List Str}{mi:List PV->Option PV}(c:Cal X.prog X.w X.K X.mg X.base k x ps (spM b.C mi true)) (hr:Room j X.A) (ha:SA X b G false (e::es) g) (hle:k<=j:=by decide) (hg:Gl X x:=by rfl)
  (hdb:(x == ("__debug__" : Str))=false:=by decide) (he:starEach (e::es) X.env=(false,eval e X.env)::starEach es X.env:=by rfl) (hpl:(backTo pos (starEach es X.env)).any (·.1)=false:=by rfl):
  SE X b G .own (.Call (.Name x p) (e::es) [] pos) (aL mi g):=yf c hr ha hle hg hdb he hpl
end
end MR
namespace MR
open PySem L2
section
variable {b:BX}{Ow:Addr->Prop}{G:List Nat}{σ:St}{env:Env}{H H':Hp}
theorem ER.set (E:ER b Ow G σ env H){i:Nat}{v:V}{p:PV}(hi:i∉G) (r:Rep b.C (Bs b Ow) H v p) (hx:b.fx i=none):ER b Ow G (σ.set i (some v)) (env.set i (some p)) H:=by
 refine⟨by rw[List.length_set,List.length_set];exact E.len,E.same,E.live,E.new,λj q e n=>?_,λj q e n=>?_,λj k a q q' e1 n1 s1 e2 n2 s2=>?_,λk w hw=>?_⟩
 ·by_cases hj:i=j
  ·subst hj
   rw[List.getElem?_set] at e
   split at e
   ·split at e
    ·rename_i hl
     have:=Option.some.inj (Option.some.inj e)
     subst this
     exact⟨v,by rw[List.getElem?_set_self (by rw[E.len];exact hl)],r⟩
    ·cases e
   ·exact absurd rfl ‹_›
  ·rw[List.getElem?_set_ne hj] at e ⊢
   exact E.val j q e n
 ·have hj:i≠j:=λz=>hi (z▸n)
  rw[List.getElem?_set_ne hj] at e ⊢
  exact E.own j q e n
 ·have hj:i≠j:=λz=>hi (z▸n1)
  have hk:i≠k:=λz=>hi (z▸n2)
  rw[List.getElem?_set_ne hj] at e1 s1
  rw[List.getElem?_set_ne hk] at e2 s2
  exact E.sep j k a q q' e1 n1 s1 e2 n2 s2
 ·by_cases hk:i=k
  ·subst hk;rw[hx] at hw;cases hw
  ·rw[List.getElem?_set_ne hk];exact E.fix k w hw
theorem ER.setO (E:ER b Ow G σ env H){i:Nat}{a:Addr}{p:PV}{H0:Hp}{G':List Nat}(hG:∀ j,j∈G'↔(j∈G\/j=i)) (s0:Same H0 H) (hn:H0 a=none) (hE0:ER b Ow G σ env H0) (t:Top b.C (λc=>Bs b Ow c/\c≠a) H a p) (hx:b.fx i=none):
  ER b (λc=>Ow c\/c=a) G' (σ.set i (some (.ref a))) (env.set i (some p)) H/\Ex (Bs b Ow) H0 (Bs b λc=>Ow c\/c=a) H:=by
 have hx0:Ex (Bs b Ow) H0 (Bs b λc=>Ow c\/c=a) H:=λc o h=>⟨λq=>⟨s0 _ _ h,λz=>z.elim q.1 (aN h hn),q.2⟩,λ_=>s0 _ _ h⟩
 have ht:Top b.C (Bs b λc=>Ow c\/c=a) H a p:=t.ex (cM λc o _ q=>⟨λz=>z.elim q.1.1 q.2,q.1.2⟩) λo z=>z
 refine⟨⟨by rw[List.length_set,List.length_set];exact E.len,E.same,λc w=>w.elim (E.live c) λz=>by subst z;obtain⟨o,h,_⟩:=t.live;exact⟨o,h⟩,λc w=>w.elim (E.new c) λz=>by subst z;exact hE0.same.free hn,λj q e n=>?_,λj q e n=>?_,λj k c q q' e1 n1 s1 e2 n2 s2=>?_,λk w hw=>?_⟩,hx0⟩
 ·have hj:i≠j:=λz=>n ((hG j).mpr (.inr z.symm))
  rw[List.getElem?_set_ne hj] at e ⊢
  obtain⟨v,h1,h2⟩:=hE0.val j q e λz=>n ((hG j).mpr (.inl z))
  exact⟨v,h1,h2.ex hx0⟩
 ·by_cases hj:i=j
  ·subst hj
   rw[List.getElem?_set] at e
   split at e
   ·split at e
    ·rename_i hl
     have:=Option.some.inj (Option.some.inj e)
     subst this
     exact⟨a,by rw[List.getElem?_set_self (by rw[E.len];exact hl)],.inr rfl,ht⟩
    ·cases e
   ·exact absurd rfl ‹_›
  ·rw[List.getElem?_set_ne hj] at e ⊢
   have nG:j∈G:=((hG j).mp n).elim id λz=>absurd z.symm hj
   obtain⟨c,h1,h2,h3⟩:=hE0.own j q e nG
   exact⟨c,h1,.inl h2,h3.ex hx0 λo z=>s0 _ _ z⟩
 ·have old:∀ {j:Nat}{q:PV},i≠j->j∈G'->env[j]?=some (some q)->σ[j]?=some (some (.ref c))->c≠a:=λ{j q} hj n e s=>by
   have nG:j∈G:=((hG j).mp n).elim id λz=>absurd z.symm hj
   obtain⟨c',h1,h2,h3⟩:=hE0.own j q e nG
   rw[s] at h1
   cases h1
   obtain⟨o,h4,_⟩:=h3.live
   exact aN h4 hn
  by_cases hj:i=j
  ·by_cases hk:i=k
   ·exact hj.symm.trans hk
   ·subst hj
    rw[List.getElem?_set_ne hk] at e2 s2
    have hl:i < σ.length:=by
     by_cases hl:i < σ.length
     ·exact hl
     ·rw[List.getElem?_eq_none (by rw[List.length_set];omega)] at s1;cases s1
    rw[List.getElem?_set_self hl] at s1
    cases s1
    exact absurd rfl (old hk n2 e2 s2)
  ·by_cases hk:i=k
   ·subst hk
    rw[List.getElem?_set_ne hj] at e1 s1
    have hl:i < σ.length:=by
     by_cases hl:i < σ.length
     ·exact hl
     ·rw[List.getElem?_eq_none (by rw[List.length_set];omega)] at s2;cases s2
    rw[List.getElem?_set_self hl] at s2
    cases s2
    exact absurd rfl (old hj n1 e1 s1)
   ·rw[List.getElem?_set_ne hj] at e1 s1
    rw[List.getElem?_set_ne hk] at e2 s2
    have g1:j∈G:=((hG j).mp n1).elim id λz=>absurd z.symm hj
    have g2:k∈G:=((hG k).mp n2).elim id λz=>absurd z.symm hk
    exact E.sep j k c q q' e1 g1 s1 e2 g2 s2
 ·by_cases hk:i=k
  ·subst hk;rw[hx] at hw;cases hw
  ·rw[List.getElem?_set_ne hk];exact E.fix k w hw
theorem ER.write (E:ER b Ow G σ env H){i:Nat}{a:Addr}{p p':PV}{o':HO}(hi:i∈G) (hσ:σ[i]?=some (some (.ref a))) (he:env[i]?=some (some p)) (hw:Ow a) (t:Top b.C (Bs b Ow) H a p) (t':Top b.C (Bs b Ow) (upd H a o') a p'):
  ER b Ow G σ (env.set i (some p')) (upd H a o')/\Ex (Bs b Ow) H (Bs b Ow) (upd H a o'):=by
 obtain⟨o,ho,hm⟩:=t.live
 have hx:Ex (Bs b Ow) H (Bs b Ow) (upd H a o'):=λc u h=>⟨λq=>⟨by rw[aH (λz:c=a=>q.1 (z▸hw))];exact h,q⟩,λm=>by
  have hc:c≠a:=λz=>by subst z;rw[ho] at h;cases h;rw[hm] at m;cases m
  rw[aH hc];exact h⟩
 refine⟨⟨by rw[List.length_set];exact E.len,λc u h=>?_,λc w=>?_,E.new,λj q e n=>?_,λj q e n=>?_,λj k c q q' e1 n1 s1 e2 n2 s2=>?_,E.fix⟩,hx⟩
 ·have hc:c≠a:=aN h (E.new a hw)
  rw[aH hc];exact E.same c u h
 ·by_cases hc:c=a
  ·subst hc;exact⟨o',aU⟩
  ·obtain⟨u,h⟩:=E.live c w
   exact⟨u,by rw[aH hc];exact h⟩
 ·have hj:i≠j:=λz=>n (z▸hi)
  rw[List.getElem?_set_ne hj] at e
  obtain⟨v,h1,h2⟩:=E.val j q e n
  exact⟨v,h1,h2.ex hx⟩
 ·by_cases hj:i=j
  ·subst hj
   rw[List.getElem?_set] at e
   split at e
   ·split at e
    ·have:=Option.some.inj (Option.some.inj e)
     subst this
     exact⟨a,hσ,hw,t'⟩
    ·cases e
   ·exact absurd rfl ‹_›
  ·rw[List.getElem?_set_ne hj] at e
   obtain⟨c,h1,h2,h3⟩:=E.own j q e n
   have hc:c≠a:=λz=>by subst z;exact hj (E.sep i j c p q he hi hσ e n h1)
   exact⟨c,h1,h2,h3.ex hx λu z=>by rw[aH hc];exact z⟩
 ·have back:∀ {j:Nat}{q:PV},(env.set i (some p'))[j]?=some (some q)->∃ q,env[j]?=some (some q):=λ{j q} e=>by
   by_cases hj:i=j
   ·subst hj;exact⟨p,he⟩
   ·rw[List.getElem?_set_ne hj] at e;exact⟨q,e⟩
  obtain⟨r1,e1'⟩:=back e1
  obtain⟨r2,e2'⟩:=back e2
  exact E.sep j k c r1 r2 e1' n1 s1 e2' n2 s2
theorem ER.weak {G':List Nat}(E:ER b Ow G σ env H) (h:∀ j,j∈G'->j∈G):∃ Ow',ER b Ow' G' σ env H/\Ex (Bs b Ow) H (Bs b Ow') H:=by
 refine⟨λa=>Ow a/\∃ j q,j∈G'/\env[j]?=some (some q)/\σ[j]?=some (some (.ref a)),?_⟩
 have hx:Ex (Bs b Ow) H (Bs b λa=>Ow a/\∃ j q,j∈G'/\env[j]?=some (some q)/\σ[j]?=some (some (.ref a))) H:=cM λc o _ q=>⟨λz=>q.1 z.1,q.2⟩
 refine⟨⟨E.len,E.same,λa w=>E.live a w.1,λa w=>E.new a w.1,λi p e n=>?_,λi p e n=>?_,λi j a p q e1 n1 s1 e2 n2 s2=>E.sep i j a p q e1 (h i n1) s1 e2 (h j n2) s2,E.fix⟩,hx⟩
 ·by_cases hi:i∈G
  ·obtain⟨a,h1,h2,h3⟩:=E.own i p e hi
   refine⟨_,h1,(h3.ex hx λo z=>z).rep ⟨λz=>?_,.inr (E.new a h2)⟩⟩
   obtain⟨_,j,q,hj,e',s'⟩:=z
   have:=E.sep i j a p q e hi h1 e' (h j hj) s'
   subst this
   exact n hj
  ·obtain⟨v,h1,h2⟩:=E.val i p e hi
   exact⟨v,h1,h2.ex hx⟩
 ·obtain⟨a,h1,h2,h3⟩:=E.own i p e (h i n)
  exact⟨a,h1,⟨h2,i,p,n,e,h1⟩,h3.ex hx λo z=>z⟩
theorem ER.forget (E:ER b Ow G σ env H) (i:Nat):ER b Ow G σ (env.set i none) H:=by
 have back:∀ {j:Nat}{q:PV},(env.set i none)[j]?=some (some q)->env[j]?=some (some q):=λ{j q} e=>by
  by_cases hj:i=j
  ·subst hj
   rw[List.getElem?_set] at e
   split at e
   ·split at e <;> cases e
   ·exact absurd rfl ‹_›
  ·rw[List.getElem?_set_ne hj] at e;exact e
 exact⟨by rw[List.length_set];exact E.len,E.same,E.live,E.new,λj q e n=>E.val j q (back e) n,λj q e n=>E.own j q (back e) n,λj k a q q' e1 n1 s1 e2 n2 s2=>E.sep j k a q q' (back e1) n1 s1 (back e2) n2 s2,E.fix⟩
@[simp] noncomputable def clr:List Nat->Env->Env
 | [],env=>env
 | i::r,env=>clr r (env.set i none)
theorem ER.clr:∀ {ds:List Nat}{env:Env},ER b Ow G σ env H->ER b Ow G σ (clr ds env) H
 | [],_,E=>E
 | i::r,env,E=>ER.clr (ds:=r) (E.forget i)
end
inductive Out where
 | nx (e:Env) | bk (e:Env) | ct (e:Env) | rt (p:PV)
def Post (b:BX) (Ow:Addr->Prop) (H:Hp) (G L:List Nat) (ro:Bool) (D:Ends):Out->Prop
 | .nx e=>∀ Ow' σ' H',ER b Ow' G σ' e H'->Ex (Bs b Ow) H (Bs b Ow') H'->D.nx σ' H'
 | .bk e=>∀ Ow' σ' H',ER b Ow' L σ' e H'->Ex (Bs b Ow) H (Bs b Ow') H'->D.bk σ' H'
 | .ct e=>∀ Ow' σ' H',ER b Ow' L σ' e H'->Ex (Bs b Ow) H (Bs b Ow') H'->D.ct σ' H'
 | .rt p=>∀ v H',Same b.H0 H'->Ret b.C b.A b.H0 ro H' v p->D.rt v H'
def tS (b:BX) (G G' L:List Nat) (ro:Bool) (f:Env->Option Out):TS:=λD σ H=>∃ Ow env out,ER b Ow G σ env H/\f env=some out/\Post b Ow H G' L ro D out
abbrev SS (X:Cx) (b:BX) (G G' L:List Nat) (ro:Bool) (st:Stmt) (f:Env->Option Out):Prop:=PS X st (tS b G G' L ro f)
abbrev SSs (X:Cx) (b:BX) (G G' L:List Nat) (ro:Bool) (st:List Stmt) (f:Env->Option Out):Prop:=PSs X st (tS b G G' L ro f)
theorem PSs.imp {X:Cx}{e:List Stmt}{t u:TS}(h:PSs X e t) (i:∀ D σ H,u D σ H->t D σ H):PSs X e u:=λpins s σ H D I q=>h pins s σ H D I (i D σ H q)
theorem PS.or {X:Cx}{e:Stmt}{t u:TS}(h:PS X e t) (h':PS X e u):PS X e (λD σ H=>t D σ H\/u D σ H):=λpins s σ H D I q=>q.elim (h pins s σ H D I) (h' pins s σ H D I)
theorem Post.ex {b:BX}{Ow Ow1:Addr->Prop}{H H1:Hp}{G L:List Nat}{ro:Bool}{D:Ends}{o:Out}(e:Ex (Bs b Ow) H (Bs b Ow1) H1) (h:Post b Ow H G L ro D o):Post b Ow1 H1 G L ro D o:=by
 cases o with
 | nx e'=>exact λOw' σ' H' E x=>h Ow' σ' H' E (e.trans x)
 | bk e'=>exact λOw' σ' H' E x=>h Ow' σ' H' E (e.trans x)
 | ct e'=>exact λOw' σ' H' E x=>h Ow' σ' H' E (e.trans x)
 | rt p=>exact h
noncomputable def sNx (env:Env):Option Out:=some (.nx env)
@[simp] theorem Qx (env:Env):sNx env=(some (.nx env)):=id rfl
noncomputable def sBk (env:Env):Option Out:=some (.bk env)
@[simp] theorem Qy (env:Env):sBk env=(some (.bk env)):=id rfl
noncomputable def sCt (env:Env):Option Out:=some (.ct env)
@[simp] theorem Qz (env:Env):sCt env=(some (.ct env)):=id rfl
noncomputable def sNo (env:Env):Option Out:=none
@[simp] theorem QB (env:Env):sNo env=(none):=id rfl
noncomputable def aO (f g:Env->Option Out) (env:Env):Option Out:=(f env).bind λo=>match o with | .nx e=>g e | o=>some o
@[simp] theorem P0 (f g:Env->Option Out) (env:Env):aO f g env=((f env).bind λo=>match o with | .nx e=>g e | o=>some o):=id rfl
noncomputable def aP (i:Nat) (f:Env->Option PV) (env:Env):Option Out:=(f env).bind λp=>some (.nx (env.set i (some p)))
@[simp] theorem G_ (i:Nat) (f:Env->Option PV) (env:Env):aP i f env=((f env).bind λp=>some (.nx (env.set i (some p)))):=id rfl
noncomputable def bM (f:Env->Option PV) (env:Env):Option Out:=(f env).bind λp=>some (.rt p)
@[simp] theorem Ha (f:Env->Option PV) (env:Env):bM f env=((f env).bind λp=>some (.rt p)):=id rfl
noncomputable def sIf (c:Env->Option Bool) (f g:Env->Option Out) (env:Env):Option Out:=(c env).bind λk=>if k=true then f env else g env
@[simp] theorem QC (c:Env->Option Bool) (f g:Env->Option Out) (env:Env):sIf c f g env=((c env).bind λk=>if k=true then f env else g env):=id rfl
noncomputable def zq (f:Env->Option PV) (env:Env):Option Out:=(f env).bind λ_=>some (.nx env)
@[simp] theorem Ox (f:Env->Option PV) (env:Env):zq f env=((f env).bind λ_=>some (.nx env)):=id rfl
noncomputable def fj (g:PV->PV->Option PV) (i:Nat) (f:Env->Option PV) (env:Env):Option Out:=(bV i env).bind λx=>(f env).bind λp=>(g x p).bind λy=>some (.nx (env.set i (some y)))
@[simp] theorem Oz (g:PV->PV->Option PV) (i:Nat) (f:Env->Option PV) (env:Env):fj g i f env=((bV i env).bind λx=>(f env).bind λp=>(g x p).bind λy=>some (.nx (env.set i (some y)))):=id rfl
noncomputable def MK (g:PV->Option PV) (i:Nat) (env:Env):Option Out:=(bV i env).bind λx=>(g x).bind λy=>some (.nx (env.set i (some y)))
@[simp] theorem OD (g:PV->Option PV) (i:Nat) (env:Env):MK g i env=((bV i env).bind λx=>(g x).bind λy=>some (.nx (env.set i (some y)))):=id rfl
noncomputable def kY (g:PV->PV->PV->Option PV) (i:Nat) (f h:Env->Option PV) (env:Env):Option Out:=(bV i env).bind λx=>(f env).bind λp=>(h env).bind λq=>(g x p q).bind λy=>some (.nx (env.set i (some y)))
@[simp] theorem OJ (g:PV->PV->PV->Option PV) (i:Nat) (f h:Env->Option PV) (env:Env):kY g i f h env=((bV i env).bind λx=>(f env).bind λp=>(h env).bind λq=>(g x p q).bind λy=>some (.nx (env.set i (some y)))):=id rfl
@[simp] noncomputable def pA:PV->PV->Option PV
 | .lst xs,p=>if xs.length < 1000000 then some (.lst (xs++[p])) else none
 | _,_=>none
@[simp] def QD:PV->Option PV
 | .lst _=>some (.lst [])
 | _=>none
@[simp] def RC:PV->Option PV
 | .lst xs=>some (.lst xs.reverse)
 | _=>none
noncomputable def my {κ:Type} [DecidableEq κ] (kvs:List (κ×PV)) (k:κ) (v:PV):List (κ×PV):=
 if (kvs.any λkv=>decide (kv.1=k))=true then kvs.map (λkv=>if kv.1=k then (kv.1,v) else kv) else kvs++[(k,v)]
@[simp] noncomputable def zr:PV->PV->PV->Option PV
 | .dK kvs,k,v=>(keyOf k).bind λk=>if kvs.length < 1000000 then some (.dK (my kvs k v)) else none
 | .dT kvs,.tup ks,v=>(keysB ks).bind λk=>if kvs.length < 1000000 then some (.dT (my kvs k v)) else none
 | .lst xs,.int i,v=>(ixN xs.length i).map λj=>.lst (xs.set j v)
 | _,_,_=>none
def pF (f:Str) (v:PV):List (Str×PV)->List (Str×PV)
 | []=>[(f,v)]
 | (g,x)::r=>if g=f then (g,v)::r else (g,x)::pF f v r
@[simp] def fsV (c:Nat) (x:Str):PV->PV->Option PV
 | .obj c' fs,v=>if c'=c/\fs.length < 1000 then some (.obj c' (pF x v fs)) else none
 | _,_=>none
section
variable {X:Cx}{b:BX}{G G' G1 L:List Nat}{ro:Bool}{st:Stmt}{rest:List Stmt}{f g:Env->Option Out}{e e1 e2:Expr}{h h1 h2:Env->Option PV}{m m1 m2:Md}{pos:Pos}
theorem cO:SSs X b G G L ro [] sNx:=PSs.imp xT<|by rintro D σ H ⟨Ow,env,o,E,hf,k⟩;cases hf;exact k Ow σ H E (Ex.refl _ _)
theorem aC (a:SS X b G G1 L ro st f) (c:SSs X b G1 G' L ro rest g):SSs X b G G' L ro (st::rest) (aO f g):=PSs.imp (jC a c)<|by
 rintro D σ H ⟨Ow,env,o,E,hf,k⟩
 unfold aO at hf
 cases q:f env with
 | none=>rw[q] at hf;cases hf
 | some o1=>
  rw[q] at hf
  refine⟨Ow,env,o1,E,q,?_⟩
  cases o1 with
  | nx e'=>exact λOw' σ' H' E' x=>⟨Ow',e',o,E',hf,k.ex x⟩
  | bk e'=>cases hf;exact k
  | ct e'=>cases hf;exact k
  | rt p=>cases hf;exact k
theorem aQ (a:SS X b G G' L ro st f):SSs X b G G' L ro [st] f:=sY a
theorem rM (c:SSs X b G1 G' L ro rest g) (hs:∀ j,j∈G1->j∈G:=by decide):SSs X b G G' L ro rest g:=PSs.imp c<|by
 rintro D σ H ⟨Ow,env,o,E,hf,k⟩
 obtain⟨Ow',E',x⟩:=E.weak hs
 exact⟨Ow',env,o,E',hf,k.ex x⟩
theorem J0:SS X b G G' L ro st sNo:=PS.imp Dd<|by rintro D σ H ⟨Ow,env,o,E,hf,k⟩;cases hf
theorem MN {sts:List Stmt}:SSs X b G G' L ro sts sNo:=PSs.imp oM<|by rintro D σ H ⟨Ow,env,o,E,hf,k⟩;cases hf
theorem aJ {α β:Type}{x:Option α}{k:α->Option β}{y:β}(h:x.bind k=some y):∃ a,x=some a/\k a=some y:=by
 cases x with
 | none=>cases h
 | some a=>exact⟨a,rfl,h⟩
theorem J1 {i:Nat}{D:Ends}{σ:St}{H:Hp}(hi:i∉G) (hx:b.fx i=none) (q:tS b G G L ro (aP i h) D σ H):tM b G .val h σ H λv H1=>D.nx (σ.set i (some v)) H1:=by
 obtain⟨Ow,env,o,E,hf,k⟩:=q
 obtain⟨p,hp,e⟩:=aJ hf
 cases e
 exact⟨Ow,env,p,E,hp,λv H' s r=>k Ow _ H' ((E.up s).set hi r hx) (.of_same s)⟩
theorem MP {i:Nat}{D:Ends}{σ:St}{H:Hp}(hG:∀ j,j∈G'↔(j∈G\/j=i)) (hx:b.fx i=none) (q:tS b G G' L ro (aP i h) D σ H):tM b G .own h σ H λv H1=>D.nx (σ.set i (some v)) H1:=by
 obtain⟨Ow,env,o,E,hf,k⟩:=q
 obtain⟨p,hp,e⟩:=aJ hf
 cases e
 refine⟨Ow,env,p,E,hp,?_⟩
 rintro v H' s ⟨a,ev,hn,t⟩
 subst ev
 obtain⟨E',x⟩:=(E.up s).setO hG s hn E t hx
 exact k _ _ H' E' x
theorem bB (i:Nat){x:Str}{pos':Pos}(nd:X.N.Nodup) (he:SE X b G .val e h) (hG:i∉G:=by decide) (hx:b.fx i=none:=by first | rfl | assumption) (hi:X.N[i]?=some x:=by rfl) (hl:Loc X.env.scope x:=by first | exact Or.inl rfl | exact Or.inr rfl)
  (hs:swapsWith e (some (.Name x pos')) pos.line X.env=pure false:=by rfl) (hf:X.fn x=true\/X.env.scope.names.lookup x=some .local:=by first | exact .inl rfl | exact .inr rfl | assumption):SS X b G G L ro (.Assign [.Name x pos'] e pos) (aP i h):=
 PS.imp (vQ nd hi hl he hs hf) λD σ H q=>J1 hG hx q
theorem mK (i:Nat){x:Str}{pos':Pos}(nd:X.N.Nodup) (he:SE X b G .own e h) (hG:i∈G:=by decide) (hx:b.fx i=none:=by first | rfl | assumption) (hi:X.N[i]?=some x:=by rfl) (hl:Loc X.env.scope x:=by first | exact Or.inl rfl | exact Or.inr rfl)
  (hs:swapsWith e (some (.Name x pos')) pos.line X.env=pure false:=by rfl) (hf:X.fn x=true\/X.env.scope.names.lookup x=some .local:=by first | exact .inl rfl | exact .inr rfl | assumption):SS X b G G L ro (.Assign [.Name x pos'] e pos) (aP i h):=
 PS.imp (vQ nd hi hl he hs hf) λD σ H q=>MP (λj=>⟨.inl,λz=>z.elim id λy=>y▸hG⟩) hx q
theorem bT (he:SE X b G .val e h):SS X b G G' L false (.Return (some e) pos) (bM h):=PS.imp (vP he)<|by
 rintro D σ H ⟨Ow,env,o,E,hf,k⟩
 obtain⟨p,hp,z1⟩:=aJ hf
 clear hf
 cases z1
 exact⟨Ow,env,p,E,hp,λv H' s r=>k v H' (E.same.trans s) (Rep.ex (cM λc o _ q=>q.2) r)⟩
theorem J2 (he:SE X b G .own e h):SS X b G G' L true (.Return (some e) pos) (bM h):=PS.imp (vP he)<|by
 rintro D σ H ⟨Ow,env,o,E,hf,k⟩
 obtain⟨p,hp,z1⟩:=aJ hf
 clear hf
 cases z1
 exact⟨Ow,env,p,E,hp,λv H' s ⟨a,ev,hn,t⟩=>k v H' (E.same.trans s) ⟨a,ev,E.same.free hn,t.ex (cM λc o _ q=>⟨q.1.2,q.2⟩) λo z=>z⟩⟩
theorem eQ {c:Expr}{k:Env->Option Bool}{sa sb:List Stmt}(hc:ST X b G c k) (ha:SSs X b G G' L ro sa f) (hb:SSs X b G G' L ro sb g):SS X b G G' L ro (.If c sa sb pos) (sIf k f g):=PS.imp (Fw hc ha hb)<|by
 rintro D σ H ⟨Ow,env,o,E,hf,kk⟩
 obtain⟨p,hp,z1⟩:=aJ hf
 clear hf
 refine⟨Ow,env,p,E,hp,λH' s=>?_⟩
 cases p with
 | true=>exact Ju ⟨Ow,env,o,E.up s,z1,kk.ex (.of_same s)⟩
 | false=>exact Jt ⟨Ow,env,o,E.up s,z1,kk.ex (.of_same s)⟩
theorem J3 (he:SE X b G m e h) (hs:swapsWith e none pos.line X.env=pure false:=by rfl):SS X b G G L ro (.Expr e pos) (zq h):=PS.imp (sZ he.bor hs)<|by
 rintro D σ H ⟨Ow,env,o,E,hf,k⟩
 obtain⟨p,hp,z1⟩:=aJ hf
 clear hf
 cases z1
 exact⟨Ow,env,p,E,hp,λv H' s r=>k Ow σ H' (E.up s) (.of_same s)⟩
theorem zu (i:Nat){x:Str}{p1 apos cpos:Pos}(he:SE X b G .val e h) (hi:i∈G:=by decide) (hN:X.N[i]?=some x:=by rfl) (hv:Vis X.env.scope x:=by first | exact Or.inl rfl | exact Or.inr (Or.inl rfl) | exact Or.inr (Or.inr rfl)) (hd:(x == ("__debug__" : Str))=false:=by decide)
  (hcd:(x == ("__classdict__" : Str))=false:=by decide) (hbase:attributeBase (.Name x p1) "append" X.env (eval (.Name x p1) X.env)=eval (.Name x p1) X.env:=by rfl)
  (hfew:((backTo cpos (starEach [e] X.env)).all (λx=>!x.1)&&(backToKw cpos (keywordEach [] X.env)).all (λx=>x.1.isSome)
   && decide ([e].length+([]:List Keyword).length+(if ([]:List Keyword).isEmpty then 0 else 1) < 30))=true:=by rfl)
  (hline:(apos.endLine == cpos.line)=true:=by rfl) (hs:starEach [e] X.env=(false,eval e X.env)::starEach [] X.env:=by rfl):
  SS X b G G L ro (.Expr (.Call (.Attribute (.Name x p1) "append" apos) [e] [] cpos) pos) (fj pA i h):=
 PS.imp (sZ (yW PySem.F.plainAttrs_list PySem.F.slot_list_append PySem.F.type_list_append uE (dj hN hv hd hcd) (cL he fK hs) hbase hfew hline hs rfl))<|by
  rintro D σ H ⟨Ow,env,o,E,hf,k⟩
  obtain⟨px,hpx,z1⟩:=aJ hf
  clear hf
  obtain⟨p,hp,z2⟩:=aJ z1
  clear z1
  obtain⟨y,hy,z3⟩:=aJ z2
  clear z2
  cases z3
  obtain⟨a,ea,w,t⟩:=E.own i px (fL hpx) hi
  cases px <;> simp only[pA] at hy <;> first | cases hy | skip
  rename_i xs
  split at hy
  ·rename_i hl
   cases hy
   obtain⟨vs,ha,ra⟩:=id t
   refine⟨_,ea,.inl ⟨rfl,_,SqL.of ha⟩,Ow,env,p,E,hp,λv H' s r=>?_⟩
   refine⟨a,vs,v,rfl,rfl,s _ _ ha,lA (by rw[ra.length];omega),?_⟩
   have ra':Reps b.C (Bs b Ow) (upd H' a (.lst (vs++[v]))) (vs++[v]) (xs++[p]):=by
    refine(ra.ex (.of_same s)).append (.cons r .nil) |>.ex λc o h=>⟨λq=>⟨by rw[aH (λz:c=a=>q.1 (z▸w))];exact h,q⟩,λm=>?_⟩
    have hc:c≠a:=λz=>by subst z;rw[s _ _ ha] at h;cases h;cases m
    rw[aH hc];exact h
   obtain⟨E',x⟩:=(E.up s).write hi ea (fL hpx) w (t.ex (.of_same s) λo z=>s _ _ z) (o':=.lst (vs++[v])) (p':=.lst (xs++[p])) ⟨_,aU,ra'⟩
   exact k Ow σ _ E' ((Ex.of_same s).trans x)
  ·cases hy
theorem RepK.put {C:MC}{A:Addr->Prop}{H:Hp}{k:Key}{v:V}{p:PV}(r:Rep C A H v p){kv:List (Key×V)}{kvs:List (Key×PV)}(t:RepK C A H kv kvs):RepK C A H (putK kv k v) (my kvs k p):=by
 have hany:∀ {kv:List (Key×V)}{kvs:List (Key×PV)},RepK C A H kv kvs->(kv.any λx=>decide (x.1=k))=(kvs.any λx=>decide (x.1=k)):=by
  intro kv kvs t
  induction kv generalizing kvs with
  | nil=>cases t;rfl
  | cons x l ih=>cases t with | cons h t=>rw[List.any_cons,List.any_cons,ih t]
 have hmap:∀ {kv:List (Key×V)}{kvs:List (Key×PV)},RepK C A H kv kvs->RepK C A H (kv.map λx=>if x.1=k then (x.1,v) else x) (kvs.map λx=>if x.1=k then (x.1,p) else x):=by
  intro kv kvs t
  induction kv generalizing kvs with
  | nil=>cases t;exact .nil
  | cons x l ih=>
   cases t with
   | cons h t=>
    rw[List.map_cons,List.map_cons]
    rename_i k' v' p' ps'
    by_cases e:k'=k
    ·simp only[e,if_true];exact .cons r (ih t)
    ·simp only[e,if_false];exact .cons h (ih t)
 have happ:∀ {kv:List (Key×V)}{kvs:List (Key×PV)},RepK C A H kv kvs->RepK C A H (kv++[(k,v)]) (kvs++[(k,p)]):=by
  intro kv kvs t
  induction kv generalizing kvs with
  | nil=>cases t;exact .cons r .nil
  | cons x l ih=>cases t with | cons h t=>exact .cons h (ih t)
 unfold putK my
 rw[hany t]
 split
 ·exact hmap t
 ·exact happ t
theorem RepT.put {C:MC}{A:Addr->Prop}{H:Hp}{k:List Key}{v:V}{p:PV}(r:Rep C A H v p){kv:List (List Key×V)}{kvs:List (List Key×PV)}(t:RepT C A H kv kvs):RepT C A H (putK kv k v) (my kvs k p):=by
 have hany:∀ {kv:List (List Key×V)}{kvs:List (List Key×PV)},RepT C A H kv kvs->(kv.any λx=>decide (x.1=k))=(kvs.any λx=>decide (x.1=k)):=by
  intro kv kvs t
  induction kv generalizing kvs with
  | nil=>cases t;rfl
  | cons x l ih=>cases t with | cons h t=>rw[List.any_cons,List.any_cons,ih t]
 have hmap:∀ {kv:List (List Key×V)}{kvs:List (List Key×PV)},RepT C A H kv kvs->RepT C A H (kv.map λx=>if x.1=k then (x.1,v) else x) (kvs.map λx=>if x.1=k then (x.1,p) else x):=by
  intro kv kvs t
  induction kv generalizing kvs with
  | nil=>cases t;exact .nil
  | cons x l ih=>
   cases t with
   | cons h t=>
    rw[List.map_cons,List.map_cons]
    rename_i k' v' p' ps'
    by_cases e:k'=k
    ·simp only[e,if_true];exact .cons r (ih t)
    ·simp only[e,if_false];exact .cons h (ih t)
 have happ:∀ {kv:List (List Key×V)}{kvs:List (List Key×PV)},RepT C A H kv kvs->RepT C A H (kv++[(k,v)]) (kvs++[(k,p)]):=by
  intro kv kvs t
  induction kv generalizing kvs with
  | nil=>cases t;exact .cons r .nil
  | cons x l ih=>cases t with | cons h t=>exact .cons h (ih t)
 unfold putK my
 rw[hany t]
 split
 ·exact hmap t
 ·exact happ t
theorem RepT.length {C:MC}{A:Addr->Prop}{H:Hp}:∀ {vs:List (List Key×V)}{ps:List (List Key×PV)},RepT C A H vs ps->vs.length=ps.length
 | _,_,.nil=>rfl
 | _,_,.cons _ t=>by simp[RepT.length t]
theorem RepF.length {C:MC}{A:Addr->Prop}{H:Hp}:∀ {vs:List (Str×V)}{ps:List (Str×PV)},RepF C A H vs ps->vs.length=ps.length
 | _,_,.nil=>rfl
 | _,_,.cons _ t=>by simp[RepF.length t]
theorem RepF.put {C:MC}{A:Addr->Prop}{H:Hp}{k:Str}{v:V}{p:PV}(r:Rep C A H v p):∀ {kv:List (Str×V)}{kvs:List (Str×PV)},RepF C A H kv kvs->RepF C A H (gq k v kv) (pF k p kvs)
 | _,_,.nil=>.cons r .nil
 | _,_,.cons (k:=k') h t=>by
  unfold gq pF
  split
  ·exact .cons r t
  ·exact .cons h (RepF.put r t)
theorem jE {Ow:Addr->Prop}{H:Hp}{a:Addr}{o o':HO}(w:Ow a) (ha:H a=some o) (hm:y_ o=true):Ex (Bs b Ow) H (Bs b Ow) (upd H a o'):=λc u h=>⟨λq=>⟨by rw[aH (λz:c=a=>q.1 (z▸w))];exact h,q⟩,λm=>by
 have hc:c≠a:=λz=>by subst z;rw[ha] at h;cases h;rw[hm] at m;cases m
 rw[aH hc];exact h⟩
theorem F_ (i:Nat){x:Str}{p1 p2:Pos}{j:Nat}(hr:Room j X.A) (hk:SE X b G .val e1 h1) (hv':SE X b G .val e2 h2) (hi:i∈G:=by decide) (hN:X.N[i]?=some x:=by rfl) (hv:Vis X.env.scope x:=by first | exact Or.inl rfl | exact Or.inr (Or.inl rfl) | exact Or.inr (Or.inr rfl)) (hd:(x == ("__debug__" : Str))=false:=by decide)
  (hcd:(x == ("__classdict__" : Str))=false:=by decide) (hs:swapsWith e2 (some (.Subscript (.Name x p1) e1 p2)) pos.line X.env=pure false:=by rfl) (hs2:swapsWithSole [.Subscript (.Name x p1) e1 p2] e2 pos.line X.env=pure false:=by rfl) (hw:swappedStores [.Subscript (.Name x p1) e1 p2] e2 X.env=pure none:=by rfl)
  (ha1:(assignEach [.Subscript (.Name x p1) e1 p2] X.env).map (·.2)=[assign (.Subscript (.Name x p1) e1 p2) X.env]:=by rfl)
  (ha:∀ v,assign (.Subscript (.Name x p1) e1 p2) X.env v=(do
   let ov ← holding [v] (eval (.Name x p1) X.env)
   let iv ← holding [v,ov] (eval e1 X.env)
   standAt p2
   holding [v,ov,iv] (setItem ov iv v)
   release [v,ov,iv] []):=by intro _;rfl) (hK:X.K=b.C.K:=by rfl):SS X b G G L ro (.Assign [.Subscript (.Name x p1) e1 p2] e2 pos) (kY zr i h1 h2):=by
 refine PS.imp (PS.or (Gy (vy hr) (dj hN hv hd hcd) hk hv' hs) (Io hv' (Im (dj hN hv hd hcd) hk set_list ha) hs2 hw ha1)) ?_
 rintro D σ H ⟨Ow,env,o,E,hf,k⟩
 obtain⟨px,hpx,z1⟩:=aJ hf
 clear hf
 obtain⟨pk,hpk,z2⟩:=aJ z1
 clear z1
 obtain⟨pv,hpv,z3⟩:=aJ z2
 clear z2
 obtain⟨y,hy,z4⟩:=aJ z3
 clear z3
 cases z4
 obtain⟨a,ea,w,t⟩:=E.own i px (fL hpx) hi
 have fin:∀ {H2:Hp}{o':HO},Same H H2->Top b.C (Bs b Ow) (upd H2 a o') a y->D.nx σ (upd H2 a o'):=λ{H2 o'} s t'=>by
  obtain⟨E',x⟩:=(E.up s).write hi ea (fL hpx) w (t.ex (.of_same s) λo z=>s _ _ z) t'
  exact k Ow σ _ E' ((Ex.of_same s).trans x)
 unfold zr at hy
 split at hy
 ·obtain⟨ky,hky,hy⟩:=aJ hy
  split at hy
  ·rename_i hl
   cases hy
   obtain⟨kv,ha,ra⟩:=id t
   refine .inl ⟨Ow,env,pv,E,hpv,λv H1 s1 r1=>⟨_,ea,Ow,env,pk,E.up s1,hpk,λu H2 s2 r2=>?_⟩⟩
   have s:=s1.trans s2
   have eu:=RepB.key (.inl r2) hky
   subst eu
   refine⟨a,_,rfl,DPut.k (s _ _ ha) (lA (by rw[ra.length];omega)),fin s ⟨_,aU,?_⟩⟩
   exact(RepK.put (k:=ky) (Rep.ex (.of_same s2) r1) (ra.ex (.of_same s))).ex (jE w (s _ _ ha) rfl)
  ·cases hy
 ·obtain⟨ky,hky,hy⟩:=aJ hy
  split at hy
  ·rename_i hl
   cases hy
   obtain⟨kv,ha,ra⟩:=id t
   refine .inl ⟨Ow,env,pv,E,hpv,λv H1 s1 r1=>⟨_,ea,Ow,env,_,E.up s1,hpk,λu H2 s2 r2=>?_⟩⟩
   have s:=s1.trans s2
   obtain⟨c,us,rfl,hc,rc⟩:=RepB.tup (.inl r2)
   refine⟨a,_,rfl,DPut.t (s _ _ ha) (by rw[hK];exact hc.key (rc.keysB hky)) (lA (by rw[ra.length];omega)),fin s ⟨_,aU,?_⟩⟩
   exact(RepT.put (k:=ky) (Rep.ex (.of_same s2) r1) (ra.ex (.of_same s))).ex (jE w (s _ _ ha) rfl)
  ·cases hy
 ·rename_i xs n
  cases q:ixN xs.length n with
  | none=>rw[q] at hy;cases hy
  | some jj=>
   rw[q] at hy
   cases hy
   obtain⟨vs,ha,ra⟩:=id t
   refine .inr ⟨Ow,env,pv,E,hpv,λv H1 s1 r1=>⟨_,ea,Ow,env,_,E.up s1,hpk,λu H2 s2 r2=>?_⟩⟩
   have s:=s1.trans s2
   have eu:=RepB.int (.inl r2)
   subst eu
   refine⟨a,vs,n,jj,rfl,rfl,s _ _ ha,by rw[ra.length];exact q,fin s ⟨_,aU,?_⟩⟩
   exact(Reps.set (Rep.ex (.of_same s2) r1) jj (ra.ex (.of_same s))).ex (jE w (s _ _ ha) rfl)
 ·cases hy
theorem jU (i:Nat){x y:Str}{p1 p2:Pos}{c:Nat}(hc:Cls X.K (b.C.cl c)) (hn:NoAttr X.K (b.C.cl c) y) (he:SE X b G .val e h) (hi:i∈G:=by decide) (hN:X.N[i]?=some x:=by rfl) (hv:Vis X.env.scope x:=by first | exact Or.inl rfl | exact Or.inr (Or.inl rfl) | exact Or.inr (Or.inr rfl)) (hd:(x == ("__debug__" : Str))=false:=by decide)
  (hcd:(x == ("__classdict__" : Str))=false:=by decide) (hs:swapsWith e (some (.Attribute (.Name x p1) y p2)) pos.line X.env=pure false:=by rfl):SS X b G G L ro (.Assign [.Attribute (.Name x p1) y p2] e pos) (fj (fsV c y) i h):=
 PS.imp (Jb (dj hN hv hd hcd) he hs)<|by
  rintro D σ H ⟨Ow,env,o,E,hf,k⟩
  obtain⟨px,hpx,z1⟩:=aJ hf
  clear hf
  obtain⟨p,hp,z2⟩:=aJ z1
  clear z1
  obtain⟨y',hy,z3⟩:=aJ z2
  clear z2
  cases z3
  obtain⟨a,ea,w,t⟩:=E.own i px (fL hpx) hi
  cases px <;> simp only[fsV] at hy <;> first | cases hy | skip
  rename_i c' fs
  split at hy
  ·rename_i hcc
   obtain⟨rfl,hl⟩:=hcc
   cases hy
   obtain⟨dx,fv,ha,ra⟩:=id t
   refine⟨Ow,env,p,E,hp,λv H1 s r=>⟨_,ea,a,_,dx,fv,rfl,s _ _ ha,hc,hn,by rw[ra.length];exact hl,?_⟩⟩
   obtain⟨E',x⟩:=(E.up s).write hi ea (fL hpx) w (t.ex (.of_same s) λo z=>s _ _ z) (o':=.ins (b.C.cl c') dx (gq y v fv)) (p':=.obj c' (pF y p fs)) ⟨dx,_,aU,(RepF.put r (ra.ex (.of_same s))).ex (jE w (s _ _ ha) rfl)⟩
   exact k Ow σ _ E' ((Ex.of_same s).trans x)
  ·cases hy
def IW (b:BX) (Ow:Addr->Prop) (fr:Bool) (H1:Hp) (J:It) (ps:List PV):Prop:=∀ Ow' H,(fr=false->Same H1 H)->Ex (Bs b Ow) H1 (Bs b Ow') H->(∀ a,H a=none->Bs b Ow' a)->
 (∀ i p,ps[i]?=some p->J.go i H/\∀ x H',J.yld i H x H'->Same H H'/\Rep b.C (Bs b Ow') H' x p)/\J.stop ps.length H
def tMI (b:BX) (G:List Nat) (fr:Bool) (g:Env->Option (List PV)):TI:=fun σ H R=>∃ Ow env ps,ER b Ow G σ env H/\g env=some ps/\∀ J H1,Same H H1->IW b Ow fr H1 J ps->R J H1
abbrev SI (X:Cx) (b:BX) (G:List Nat) (fr:Bool) (tg it:Expr) (g:Env->Option (List PV)):Prop:=PI X tg it (tMI b G fr g)
theorem PI.imp {tg it:Expr}{t u:TI}(h:PI X tg it t) (i:∀ σ H R,u σ H R->t σ H R):PI X tg it u:=λpins s σ H R I q=>h pins s σ H R I (i σ H R q)
theorem PI.or {tg it:Expr}{t u:TI}(h:PI X tg it t) (h':PI X tg it u):PI X tg it (fun σ H R=>t σ H R\/u σ H R):=λpins s σ H R I q=>q.elim (h pins s σ H R I) (h' pins s σ H R I)
def chV (x:Str):List PV:=x.cps.toList.map λc=>.str ⟨#[c]⟩
@[simp] def itV:PV->Option (List PV)
 | .lst xs=>some xs
 | .frz xs=>some xs
 | .tup xs=>some xs
 | .ktp xs=>some xs
 | .str x=>some (chV x)
 | _=>none
noncomputable def iV (f:Env->Option PV) (env:Env):Option (List PV):=(f env).bind itV
@[simp] theorem MT (f:Env->Option PV) (env:Env):iV f env=((f env).bind itV):=id rfl
theorem tR {Ow:Addr->Prop}{fr:Bool}{H1:Hp}{a:Addr}{vs:List V}{xs:List PV}(hq:∀ Ow' H,(fr=false->Same H1 H)->Ex (Bs b Ow) H1 (Bs b Ow') H->SqL b.C.K H a vs/\Reps b.C (Bs b Ow') H vs xs):IW b Ow fr H1 (Itl b.C.K a) xs:=by
 intro Ow' H h0 h1 hn
 obtain⟨q,r⟩:=hq Ow' H h0 h1
 refine⟨λi p hp=>?_,⟨vs,q,by rw[r.length];exact Nat.le_refl _⟩⟩
 obtain⟨v,hv,rv⟩:=r.get hp
 refine⟨⟨vs,v,q,hv⟩,λx H' y=>?_⟩
 obtain⟨e,y⟩:=y
 subst e
 have e2:=y vs q
 rw[hv] at e2
 cases e2
 exact⟨Same.refl _,rv⟩
theorem Bv {Ow:Addr->Prop}{fr:Bool}{H1:Hp}{a:Addr}{vs:List V}{xs:List PV}(hq:∀ Ow' H,(fr=false->Same H1 H)->Ex (Bs b Ow) H1 (Bs b Ow') H->SqT b.C.K H a vs/\Reps b.C (Bs b Ow') H vs xs):IW b Ow fr H1 (Itt b.C.K a) xs:=by
 intro Ow' H h0 h1 hn
 obtain⟨q,r⟩:=hq Ow' H h0 h1
 refine⟨λi p hp=>?_,⟨vs,q,by rw[r.length];exact Nat.le_refl _⟩⟩
 obtain⟨v,hv,rv⟩:=r.get hp
 refine⟨⟨vs,v,q,hv⟩,λx H' y=>?_⟩
 obtain⟨e,y⟩:=y
 subst e
 have e2:=y vs q
 rw[hv] at e2
 cases e2
 exact⟨Same.refl _,rv⟩
theorem J4 {Ow:Addr->Prop}{fr:Bool}{H1:Hp}{x:Str}:IW b Ow fr H1 (Its x) (chV x):=by
 intro Ow' H h0 h1 hn
 refine⟨λi p hp=>?_,by show (chV x).length=x.cps.size;unfold chV;rw[List.length_map,Array.length_toList]⟩
 unfold chV at hp
 rw[List.getElem?_map] at hp
 cases q:x.cps.toList[i]? with
 | none=>rw[q] at hp;cases hp
 | some c=>
  rw[q] at hp
  cases hp
  have hc:x.cps[i]?=some c:=by rw[← Array.getElem?_toList];exact q
  refine⟨(Array.getElem?_eq_some_iff.mp hc).1,λv H' y=>?_⟩
  obtain⟨e,c',h',ev⟩:=y
  subst e
  rw[hc] at h'
  cases h'
  subst ev
  exact⟨Same.refl _,.str _⟩
theorem gA {tg:Expr}{fr:Bool}(he:SE X b G m e h) (hm:fr=true->m≠.bor:=by simp) (hK:X.K=b.C.K:=by rfl):SI X b G fr tg e (iV h):=by
 have hPI:=PI.or (tg:=tg) (PI.or (Gk he) (Ip he)) (Jw he)
 refine PI.imp hPI ?_
 rintro σ H R ⟨Ow,env,ps,E,hg,k⟩
 rw[hK]
 obtain⟨p,hp,hps⟩:=aJ hg
 have keep:∀ {H1 Ow' H2}{v:V},Same H H1->Res b Ow H H1 m v p->(fr=false->Same H1 H2)->Ex (Bs b Ow) H1 (Bs b Ow') H2->RepB b.C (Bs b Ow') H2 v p:=λ{H1 Ow' H2 v} s r h0 h1=>by
  cases fr with
  | false=>exact RepB.ex h1 (h0 rfl) r.bor
  | true=>exact .inl (Rep.ex h1 (r.val E (hm rfl)))
 unfold itV at hps
 split at hps
 ·cases hps
  refine .inl (.inl ⟨Ow,env,_,E,hp,λv H1 s r=>?_⟩)
  have r1:RepB b.C (Bs b Ow) H1 v (.lst _):=r.bor
  obtain⟨a,vs,rfl,ha,ra⟩:=r1.lst
  refine⟨a,rfl,⟨vs,SqL.of ha⟩,k _ _ s (tR (vs:=vs) λOw' H2 h0 h1=>?_)⟩
  obtain⟨a',vs',e',ha',ra'⟩:=(keep s r h0 h1).lst
  cases e'
  have:H2 a=some (.lst vs):=by
   cases fr with
   | false=>exact h0 rfl _ _ ha
   | true=>
    have rv:Rep b.C (Bs b Ow) H1 (.ref a) (.lst _):=r.val E (hm rfl)
    cases rv with
    | lst q1 q2 q3=>rw[ha] at q1;cases q1;exact((h1 _ _ ha).1 q2).1
  rw[ha'] at this
  cases this
  exact⟨SqL.of ha',ra'⟩
 ·cases hps
  refine .inl (.inl ⟨Ow,env,_,E,hp,λv H1 s r=>?_⟩)
  have r1:Rep b.C (Bs b Ow) H1 v (.frz _):=(by rcases r.bor with z | ⟨_,_,z⟩;exact z;exact z.elim)
  cases r1 with
  | lstF q1 q3=>exact⟨_,rfl,⟨_,.inl (.inr ⟨_,q1⟩)⟩,k _ _ s (tR λOw' H2 h0 h1=>⟨.inl (.inr ⟨_,(h1 _ _ q1).2 rfl⟩),q3.ex h1⟩)⟩
  | lstK q1 q3=>exact⟨_,rfl,⟨_,sqK q1⟩,k _ _ s (tR λOw' H2 h0 h1=>⟨sqK q1,q3.ex h1⟩)⟩
 ·cases hps
  refine .inl (.inr ⟨Ow,env,_,E,hp,λv H1 s r=>?_⟩)
  have r1:RepB b.C (Bs b Ow) H1 v (.tup _):=r.bor
  obtain⟨a,vs,rfl,ha,ra⟩:=r1.tup
  exact⟨a,rfl,⟨vs,ha.sq⟩,k _ _ s (Bv (vs:=vs) λOw' H2 h0 h1=>⟨(ha.ex h1).sq,ra.ex h1⟩)⟩
 ·cases hps
  refine .inl (.inr ⟨Ow,env,_,E,hp,λv H1 s r=>?_⟩)
  have r1:RepB b.C (Bs b Ow) H1 v (.ktp _):=r.bor
  rcases r1 with r1 | ⟨_,_,t⟩
  ·cases r1 with
   | tupK q1 q3=>exact⟨_,rfl,⟨_,za q1⟩,k _ _ s (Bv λOw' H2 h0 h1=>⟨za q1,q3.ex h1⟩)⟩
  ·exact t.elim
 ·cases hps
  refine .inr ⟨Ow,env,_,E,hp,λv H1 s r=>?_⟩
  have r1:RepB b.C (Bs b Ow) H1 v (.str _):=r.bor
  exact⟨_,r1.str,k _ _ s J4⟩
 ·cases hps
noncomputable def rgI (i:Int):Bool:=@decide (-4611686018427387904<=i/\i < 4611686018427387904) (Classical.propDecidable _)
theorem ww {i:Int}(h:-4611686018427387904<=i) (h':i < 4611686018427387904):rgI i=true:=@decide_eq_true _ (Classical.propDecidable _) ⟨h,h'⟩
theorem Bw {i:Int}(h:rgI i=true):-(2 ^ 62)<=i/\i < 2 ^ 62:=by
 simp only[rgI,decide_eq_true_eq] at h
 exact h
noncomputable def dB (lo hi:Int):List PV:=(List.range (hi - lo).toNat).map λi=>.int (lo+(i:Nat))
noncomputable def iR1 (f:Env->Option PV) (env:Env):Option (List PV):=(f env).bind λp=>match p with
 | .int j=>if rgI j=true then some (dB 0 j) else none
 | _=>none
@[simp] theorem QF (f:Env->Option PV) (env:Env):iR1 f env=((f env).bind λp=>match p with
 | .int j=>if rgI j=true then some (dB 0 j) else none
 | _=>none):=id rfl
noncomputable def iR2 (f g:Env->Option PV) (env:Env):Option (List PV):=(f env).bind λp=>(g env).bind λq=>match p,q with
 | .int i,.int j=>if (rgI i&&rgI j)=true then some (dB i j) else none
 | _,_=>none
@[simp] theorem QG (f g:Env->Option PV) (env:Env):iR2 f g env=((f env).bind λp=>(g env).bind λq=>match p,q with
 | .int i,.int j=>if (rgI i&&rgI j)=true then some (dB i j) else none
 | _,_=>none):=id rfl
theorem J5 {Ow:Addr->Prop}{fr:Bool}{H1:Hp}{lo hi:Int}:IW b Ow fr H1 (Itr lo (hi - lo).toNat) (dB lo hi):=by
 intro Ow' H h0 h1 hn
 have hl:(dB lo hi).length=(hi - lo).toNat:=by unfold dB;rw[List.length_map,List.length_range]
 refine⟨λi p hp=>?_,by show (hi - lo).toNat<=(dB lo hi).length;rw[hl];exact Nat.le_refl _⟩
 have hi':i < (hi - lo).toNat:=by rw[← hl];exact(List.getElem?_eq_some_iff.mp hp).1
 refine⟨hi',λx H' y=>?_⟩
 obtain⟨e,ex⟩:=y
 subst e ex
 unfold dB at hp
 rw[List.getElem?_map,List.getElem?_range hi'] at hp
 cases hp
 exact⟨Same.refl _,.int _⟩
theorem kZ {tg:Expr}{fr:Bool}{p pos:Pos}(hm:X.mg "range" = none) (he:SE X b G m e h) (hg:Gl X "range" := by rfl) (hs:starEach [e] X.env=[(false,eval e X.env)]:=by rfl) (hs':starEach [e] X.env=(false,eval e X.env)::starEach [] X.env:=by rfl):SI X b G fr tg (.Call (.Name "range" p) [e] [] pos) (iR1 h):=by
 refine PI.imp (Ah hg hm (cL he.bor fK hs') hs) ?_
 rintro σ H R ⟨Ow,env,ps,E,hf,k⟩
 obtain⟨p1,hp,hps⟩:=aJ hf
 refine⟨Ow,env,p1,E,hp,λv H1 s r=>?_⟩
 have r1:RepB b.C (Bs b Ow) H1 v p1:=r
 cases p1 <;> simp only at hps <;> first | cases hps | skip
 rename_i j
 split at hps
 ·rename_i hj
  cases hps
  have hw:IW b Ow fr H1 (Itr 0 (j - 0).toNat) (dB 0 j):=J5
  rw[Int.sub_zero] at hw
  exact⟨j,by rw[r1.int],(Bw hj).1,(Bw hj).2,k _ _ s hw⟩
 ·cases hps
noncomputable def eO (n:Nat):List PV->List PV
 | []=>[]
 | x::xs=>.tup [.int (n:Nat),x]::eO (n+1) xs
theorem uL {p:PV}:∀ {xs:List PV}{n i:Nat},(eO n xs)[i]?=some p->∃ x,xs[i]?=some x/\p=.tup [.int ((n+i:Nat):Int),x]
 | [],n,i,e=>by simp[eO] at e
 | x::xs,n,0,e=>by
  simp[eO] at e
  exact⟨x,rfl,by rw[← e];rfl⟩
 | x::xs,n,i+1,e=>by
  simp only[eO,List.getElem?_cons_succ] at e
  obtain⟨y,h1,h2⟩:=uL e
  exact⟨y,by simpa using h1,by rw[h2,Nat.add_right_comm,Nat.add_assoc]⟩
theorem pB:∀ {xs:List PV}{n:Nat},(eO n xs).length=xs.length
 | [],_=>rfl
 | x::xs,n=>by simp[eO,pB (xs:=xs)]
def iE (f:Env->Option PV) (env:Env):Option (List PV):=(f env).bind λp=>match p with
 | .lst xs=>some (eO 0 xs)
 | _=>none
@[simp] theorem Rg (f:Env->Option PV) (env:Env):iE f env=((f env).bind λp=>match p with
 | .lst xs=>some (eO 0 xs)
 | _=>none):=id rfl
theorem tU {fr:Bool}{es:List Expr}{x1:Nat}{tpos p pos:Pos}(hm:X.mg "enumerate" = none) (he:SE X b G m e h) (hmd:fr=true->m≠.bor) (hK:X.K=b.C.K:=by rfl) (hg:Gl X "enumerate" := by rfl) (hs:starEach [e] X.env=[(false,eval e X.env)]:=by rfl) (hs':starEach [e] X.env=(false,eval e X.env)::starEach [] X.env:=by rfl):
  SI X b G fr (.Tuple es x1 tpos) (.Call (.Name "enumerate" p) [e] [] pos) (iE h):=by
 refine PI.imp (GR hg hm (cL he fK hs') hs) ?_
 rintro σ H R ⟨Ow,env,ps,E,hf,k⟩
 rw[hK]
 obtain⟨p1,hp,hps⟩:=aJ hf
 refine⟨Ow,env,p1,E,hp,λv H1 s r=>?_⟩
 have r1:RepB b.C (Bs b Ow) H1 v p1:=r.bor
 cases p1 <;> simp only at hps <;> cases hps
 rename_i xs
 obtain⟨a,vs,rfl,ha,ra⟩:=r1.lst
 refine⟨a,rfl,⟨vs,SqL.of ha⟩,k _ _ s λOw' H2 h0 h1 hn=>?_⟩
 have hq:H2 a=some (.lst vs)/\Reps b.C (Bs b Ow') H2 vs xs:=by
  refine⟨?_,ra.ex h1⟩
  cases fr with
  | false=>exact h0 rfl _ _ ha
  | true=>
   have rv:Rep b.C (Bs b Ow) H1 (.ref a) (.lst _):=r.val E (hmd rfl)
   cases rv with
   | lst q1 q2 q3=>rw[ha] at q1;cases q1;exact((h1 _ _ ha).1 q2).1
 refine⟨λi p hp'=>?_,⟨vs,SqL.of hq.1,by rw[pB,hq.2.length];exact Nat.le_refl _⟩⟩
 obtain⟨x,hx,rfl⟩:=uL hp'
 obtain⟨v,hv,rv⟩:=hq.2.get hx
 refine⟨⟨vs,v,SqL.of hq.1,hv⟩,λy H' yl=>?_⟩
 obtain⟨t,x',ht,e1,e2,yl⟩:=yl
 subst e1 e2
 have e3:=yl vs (SqL.of hq.1)
 rw[hv] at e3
 cases e3
 refine⟨bK ht _,.tup aU (.cons ?_ (.cons (rv.ex (.of_same (bK ht _))) .nil))⟩
 rw[Nat.zero_add]
 exact .int _
end
end MR
namespace MR
open PySem L2
noncomputable def gN (i:Nat) (p:PV) (env:Env):Option Env:=some (env.set i (some p))
@[simp] theorem Rh (i:Nat) (p:PV) (env:Env):gN i p env=(some (env.set i (some p))):=id rfl
@[simp] noncomputable def gNs:List Nat->List PV->Env->Option Env
 | [],[],env=>some env
 | i::is,p::ps,env=>gNs is ps (env.set i (some p))
 | _,_,_=>none
noncomputable def gT (is:List Nat) (p:PV) (env:Env):Option Env:=match p with
 | .tup xs=>gNs is xs env
 | _=>none
@[simp] theorem M4 (is:List Nat) (p:PV) (env:Env):gT is p env=(match p with
 | .tup xs=>gNs is xs env
 | _=>none):=id rfl
def tMG (b:BX) (G:List Nat) (g:PV->Env->Option Env):TG:=λv σ H Q=>∃ Ow env p env',ER b Ow G σ env H/\Rep b.C (Bs b Ow) H v p/\g p env=some env'/\∀ σ',ER b Ow G σ' env' H->Q σ' H
def O1 (b:BX) (G:List Nat) (is:List Nat):TGs:=λvs σ H Q=>∃ Ow env ps env',ER b Ow G σ env H/\Reps b.C (Bs b Ow) H vs ps/\gNs is ps env=some env'/\∀ σ',ER b Ow G σ' env' H->Q σ' H
abbrev SG (X:Cx) (b:BX) (G:List Nat) (tg:Expr) (g:PV->Env->Option Env):Prop:=PG X tg (tMG b G g)
abbrev SGs (X:Cx) (b:BX) (G:List Nat) (tgs:List Expr) (is:List Nat):Prop:=PGs X tgs (O1 b G is)
theorem PG.imp {X:Cx}{tg:Expr}{t u:TG}(h:PG X tg t) (i:∀ v σ H Q,u v σ H Q->t v σ H Q):PG X tg u:=λpins s σ H v w Q I r q=>h pins s σ H v w Q I r (i v σ H Q q)
theorem PGs.imp {X:Cx}{tg:List Expr}{t u:TGs}(h:PGs X tg t) (i:∀ v σ H Q,u v σ H Q->t v σ H Q):PGs X tg u:=λpins s σ H v w Q I r q=>h pins s σ H v w Q I r (i v σ H Q q)
section
variable {X:Cx}{b:BX}{G G' L:List Nat}{ro:Bool}{pos:Pos}
theorem qQ (i:Nat){x:Str}(nd:X.N.Nodup) (hG:i∉G:=by decide) (hx:b.fx i=none:=by first | rfl | assumption) (hi:X.N[i]?=some x:=by rfl) (hl:Loc X.env.scope x:=by first | exact Or.inl rfl | exact Or.inr rfl)
  (hf:X.fn x=true\/X.env.scope.names.lookup x=some .local:=by first | exact .inl rfl | exact .inr rfl | assumption):SG X b G (.Name x pos) (gN i):=
 PG.imp (bQ nd hi hl hf)<|by rintro v σ H Q ⟨Ow,env,p,env',E,r,e,k⟩;cases e;exact k _ (E.set hG r hx)
theorem tW:SGs X b G [] []:=PGs.imp Gj<|by
 rintro vs σ H Q ⟨Ow,env,ps,env',E,r,e,k⟩
 cases ps with
 | nil=>cases r;cases e;exact⟨rfl,k σ E⟩
 | cons p ps=>cases e
theorem jF (i:Nat){x:Str}{es:List Expr}{is:List Nat}{p1:Pos}(nd:X.N.Nodup) (h2:SGs X b G es is) (hG:i∉G:=by decide) (hx:b.fx i=none:=by first | rfl | assumption) (hi:X.N[i]?=some x:=by rfl) (hl:Loc X.env.scope x:=by first | exact Or.inl rfl | exact Or.inr rfl)
  (hf:X.fn x=true\/X.env.scope.names.lookup x=some .local:=by first | exact .inl rfl | exact .inr rfl | assumption) (hs:(assignEach (.Name x p1::es) X.env).map (·.2)=assign (.Name x p1) X.env::(assignEach es X.env).map (·.2):=by rfl):SGs X b G (.Name x p1::es) (i::is):=
 PGs.imp (Df (bQ nd hi hl hf) h2 hs)<|by
  rintro vs σ H Q ⟨Ow,env,ps,env',E,r,e,k⟩
  cases ps with
  | nil=>cases e
  | cons p ps=>
   cases r with
   | cons r1 r2=>exact⟨_,_,rfl,Ow,env.set i (some p),ps,env',E.set hG r1 hx,r2,e,k⟩
theorem yg:∀ {is:List Nat}{ps:List PV}{env env':Env},gNs is ps env=some env'->ps.length=is.length
 | [],[],_,_,_=>rfl
 | i::is,p::ps,env,env',e=>by simp[yg (is:=is) (ps:=ps) e]
 | [],_::_,_,_,e=>by cases e
 | _::_,[],_,_,e=>by cases e
theorem DY {es:List Expr}{k:Nat}{is:List Nat}(h:SGs X b G es is) (hc:X.calm=true:=by rfl) (hn:(assignEach es X.env).length=is.length:=by rfl) (hst:(assignEach es X.env).findIdx? (·.1)=none:=by rfl) (hK:X.K=b.C.K:=by rfl):SG X b G (.Tuple es k pos) (gT is):=
 PG.imp (Il hc h hn hst)<|by
  rintro v σ H Q ⟨Ow,env,p,env',E,r,e,k⟩
  cases p <;> simp only[gT] at e <;> first | cases e | skip
  rename_i xs
  obtain⟨a,vs,rfl,ha,ra⟩:=RepB.tup (.inl r)
  rw[hK]
  exact⟨a,vs,rfl,ha.sq,by rw[ra.length];exact yg e,Ow,env,xs,env',E,ra,e,k⟩
noncomputable def bU (g:PV->Env->Option Env) (ds:List Nat) (body:Env->Option Out):List PV->Env->Option Out
 | [],env=>some (.nx env)
 | x::xs,env=>(g x env).bind λe1=>(body e1).bind λo=>match o with
  | .nx e=>bU g ds body xs (clr ds e)
  | .ct e=>bU g ds body xs (clr ds e)
  | .bk e=>some (.nx (clr ds e))
  | .rt p=>some (.rt p)
noncomputable def jG (g:PV->Env->Option Env) (src:Env->Option (List PV)) (ds:List Nat) (body:Env->Option Out) (env:Env):Option Out:=(src env).bind λxs=>bU g ds body xs (clr ds env)
@[simp] theorem Hb (g:PV->Env->Option Env) (src:Env->Option (List PV)) (ds:List Nat) (body:Env->Option Out) (env:Env):jG g src ds body env=((src env).bind λxs=>bU g ds body xs (clr ds env)):=id rfl
theorem k_ {tg it:Expr}{body:List Stmt}{g:PV->Env->Option Env}{src:Env->Option (List PV)}{f:Env->Option Out}(ds:List Nat) (hi:SI X b G true tg it src) (hg:SG X b G tg g) (hb:SSs X b G G G ro body f) (hp:PassesOwn (model X.prog X.w) X.A X.env X.xe) (hc:X.calm=true:=by rfl)
  (hs:∀ x,foldedSetIterable it X.env x=pure x:=by intro _;rfl):SS X b G G L ro (.For tg it body [] pos) (jG g src ds f):=by
 refine PS.imp (Aj hp hc hi hg hb hs) ?_
 rintro D σ H ⟨Ow,env,out,E,hf,k⟩
 obtain⟨ps,hps,hl⟩:=aJ hf
 refine⟨Ow,env,ps,E,hps,λJ H1 s1 iw=>?_⟩
 refine⟨λi m σ2 H2=>m=ps.length - i/\i<=ps.length/\∃ Ow2 env2,ER b Ow2 G σ2 env2 H2/\Ex (Bs b Ow) H1 (Bs b Ow2) H2/\bU g ds f (ps.drop i) env2=some out,⟨ps.length,by simp,Nat.zero_le _,Ow,clr ds env,(E.up s1).clr,Ex.refl _ _,by simpa using hl⟩,?_⟩
 rintro i m σ2 H2 ⟨rfl,hi,Ow2,env2,E2,x2,l2⟩
 obtain⟨w1,w2⟩:=iw Ow2 H2 (λz=>by cases z) x2 λa=>E2.fresh
 have xk:Ex (Bs b Ow) H (Bs b Ow2) H2:=(Ex.of_same s1).trans x2
 by_cases hlt:i < ps.length
 ·rw[List.drop_eq_getElem_cons hlt] at l2
  obtain⟨e1,he1,l2⟩:=aJ l2
  obtain⟨o,ho,l2⟩:=aJ l2
  obtain⟨g1,g2⟩:=w1 i ps[i] (List.getElem?_eq_getElem hlt)
  refine .inr ⟨g1,fun σ' H'=>i+1<=ps.length/\∃ Ow2 env2,ER b Ow2 G σ' env2 H'/\Ex (Bs b Ow) H1 (Bs b Ow2) H'/\bU g ds f (ps.drop (i+1)) env2=some out,fun σ' H' q=>⟨ps.length - (i+1),by omega,rfl,q⟩,λx H' y=>?_⟩
  obtain⟨s3,r3⟩:=g2 x H' y
  refine⟨Ow2,env2,_,e1,E2.up s3,r3,he1,fun σ3 E3=>⟨Ow2,e1,o,E3,ho,?_⟩⟩
  cases o with
  | nx e'=>exact λOw' σ' H'' E' x'=>⟨hlt,Ow',_,E'.clr,x2.trans ((Ex.of_same s3).trans x'),l2⟩
  | ct e'=>exact λOw' σ' H'' E' x'=>⟨hlt,Ow',_,E'.clr,x2.trans ((Ex.of_same s3).trans x'),l2⟩
  | bk e'=>cases l2;exact λOw' σ' H'' E' x'=>k Ow' σ' H'' E'.clr (xk.trans ((Ex.of_same s3).trans x'))
  | rt p=>cases l2;exact k
 ·have e:i=ps.length:=by omega
  subst e
  rw[List.drop_length] at l2
  cases l2
  exact .inl ⟨w2,k Ow2 σ2 H2 E2 xk⟩
noncomputable def vC (c:Env->Option Bool) (ds:List Nat) (body:Env->Option Out):Nat->Env->Option Out
 | 0,_=>none
 | n+1,env=>(c env).bind λk=>if k=true then (body env).bind λo=>match o with
   | .nx e=>vC c ds body n (clr ds e)
   | .ct e=>vC c ds body n (clr ds e)
   | .bk e=>some (.nx (clr ds e))
   | .rt p=>some (.rt p)
  else some (.nx env)
noncomputable def J6 (n:Nat) (c:Env->Option Bool) (ds:List Nat) (body:Env->Option Out) (env:Env):Option Out:=vC c ds body n (clr ds env)
@[simp] theorem Ny (n:Nat) (c:Env->Option Bool) (ds:List Nat) (body:Env->Option Out) (env:Env):J6 n c ds body env=(vC c ds body n (clr ds env)):=id rfl
end
def j9 (cap:List (Option Nat)) (env:Env):Env:=cap.map λo=>match o with | some i=>(env[i]?).getD none | none=>none
@[simp] theorem P_ (cap:List (Option Nat)) (env:Env):j9 cap env=(cap.map λo=>match o with | some i=>(env[i]?).getD none | none=>none):=id rfl
def j_ (cap:List (Option Nat)) (G:List Nat):List Nat:=(List.range cap.length).filter λj=>match cap[j]? with | some (some i)=>decide (i∈G) | _=>false
def BX.in (b:BX):BX:={ b with fx:=λ_=>none }
noncomputable def bO (env:Env) (g:PV->Env->Option Env) (t:Env->Option Bool) (f:Env->Option PV):List PV->Option (List PV)
 | []=>some []
 | x::xs=>(g x env).bind λe=>(t e).bind λk=>if k=true then (f e).bind λy=>(bO env g t f xs).bind λys=>some (y::ys) else bO env g t f xs
noncomputable def cJ (cap:List (Option Nat)) (src:Env->Option (List PV)) (g:PV->Env->Option Env) (t:Env->Option Bool) (f:Env->Option PV) (env:Env):Option PV:=(src env).bind λxs=>if xs.length<=1000000 then (bO (j9 cap env) g t f xs).bind λys=>some (.lst ys) else none
@[simp] theorem D_ (cap:List (Option Nat)) (src:Env->Option (List PV)) (g:PV->Env->Option Env) (t:Env->Option Bool) (f:Env->Option PV) (env:Env):cJ cap src g t f env=((src env).bind λxs=>if xs.length<=1000000 then (bO (j9 cap env) g t f xs).bind λys=>some (.lst ys) else none):=id rfl
noncomputable def bJ (env:Env):Option Bool:=some true
@[simp] theorem O2 (env:Env):bJ env=(some true):=id rfl
theorem capG_mem {cap:List (Option Nat)}{G:List Nat}{j:Nat}:j∈j_ cap G↔∃ i,cap[j]?=some (some i)/\i∈G:=by
 unfold j_
 rw[List.mem_filter,List.mem_range]
 constructor
 ·rintro ⟨h1,h2⟩
  split at h2
  ·rename_i i e;exact⟨i,e,by simpa using h2⟩
  ·cases h2
 ·rintro ⟨i,e,h⟩
  refine⟨(List.getElem?_eq_some_iff.mp e).1,?_⟩
  rw[e];simpa using h
theorem nF {cap:List (Option Nat)}{env:Env}{j:Nat}{p:PV}(h:(j9 cap env)[j]?=some (some p)):∃ i,cap[j]?=some (some i)/\env[i]?=some (some p):=by
 unfold j9 at h
 rw[List.getElem?_map] at h
 cases q:cap[j]? with
 | none=>rw[q] at h;cases h
 | some o=>
  rw[q] at h
  cases o with
  | none=>cases h
  | some i=>
   refine⟨i,rfl,?_⟩
   have h':(env[i]?).getD none=some p:=by simpa using h
   cases q2:env[i]? with
   | none=>rw[q2] at h';cases h'
   | some o=>rw[q2] at h';simp at h';rw[h']
theorem lW {cap:List (Option Nat)}{σ:St}{j i:Nat}{v:V}(h:cap[j]?=some (some i)) (e:σ[i]?=some (some v)):(fc cap σ)[j]?=some (some v):=by
 unfold fc
 rw[List.getElem?_map,h]
 simp[v8,e]
def pC (cap:List (Option Nat)):Bool:=(List.range cap.length).all λj=>(List.range cap.length).all λk=>match cap[j]?,cap[k]? with
 | some (some i),some (some i')=>decide (i=i'->j=k)
 | _,_=>true
theorem Bx {cap:List (Option Nat)}(h:pC cap=true){j k i:Nat}(h1:cap[j]?=some (some i)) (h2:cap[k]?=some (some i)):j=k:=by
 have a:=List.all_eq_true.mp h j (List.mem_range.mpr (List.getElem?_eq_some_iff.mp h1).1)
 have c:=List.all_eq_true.mp a k (List.mem_range.mpr (List.getElem?_eq_some_iff.mp h2).1)
 rw[h1,h2] at c
 simpa using c
theorem ER.cap {b:BX}{Ow:Addr->Prop}{G:List Nat}{σ:St}{env:Env}{H:Hp}{cap:List (Option Nat)}(E:ER b Ow G σ env H) (hc:pC cap=true):ER b.in Ow (j_ cap G) (fc cap σ) (j9 cap env) H:=by
 refine⟨by unfold fc j9;rw[List.length_map,List.length_map],E.same,E.live,E.new,λj p e n=>?_,λj p e n=>?_,λj k a p q e1 n1 s1 e2 n2 s2=>?_,λk v z=>by cases z⟩
 ·obtain⟨i,h1,h2⟩:=nF e
  obtain⟨v,h3,h4⟩:=E.val i p h2 λz=>n (capG_mem.mpr ⟨i,h1,z⟩)
  exact⟨v,lW h1 h3,h4⟩
 ·obtain⟨i,h1,h2⟩:=nF e
  obtain⟨i',h1',hG⟩:=capG_mem.mp n
  rw[h1] at h1';cases h1'
  obtain⟨a,h3,h4,h5⟩:=E.own i p h2 hG
  exact⟨a,lW h1 h3,h4,h5⟩
 ·obtain⟨i,h1,h2⟩:=nF e1
  obtain⟨i',h1',hG⟩:=capG_mem.mp n1
  rw[h1] at h1';cases h1'
  obtain⟨k',h3,h4⟩:=nF e2
  obtain⟨k'',h3',hG2⟩:=capG_mem.mp n2
  rw[h3] at h3';cases h3'
  obtain⟨c,g1,_,_⟩:=E.own i p h2 hG
  obtain⟨c2,g2,_,_⟩:=E.own k' q h4 hG2
  have t1:=lW (cap:=cap) h1 g1
  have t2:=lW (cap:=cap) h3 g2
  rw[s1] at t1;cases t1
  rw[s2] at t2;cases t2
  have:=E.sep i k' _ p q h2 hG g1 h4 hG2 g2
  subst this
  exact Bx hc h1 h3
theorem ER.more {b:BX}{Ow:Addr->Prop}{G:List Nat}{σ:St}{env:Env}{H H':Hp}{D:Addr}(E:ER b Ow G σ env H) (hD:H D=none) (s:Same H H') (hl:∃ o,H' D=some o):ER b (λc=>Ow c\/c=D) G σ env H'/\Ex (Bs b Ow) H (Bs b λc=>Ow c\/c=D) H':=by
 have hx:Ex (Bs b Ow) H (Bs b λc=>Ow c\/c=D) H':=λc o h=>⟨λq=>⟨s _ _ h,λz=>z.elim q.1 (aN h hD),q.2⟩,λ_=>s _ _ h⟩
 exact⟨⟨E.len,E.same.trans s,λc w=>w.elim (λz=>let ⟨o,h⟩:=E.live c z;⟨o,s _ _ h⟩) λz=>by subst z;exact hl,λc w=>w.elim (E.new c) λz=>by subst z;exact E.same.free hD,λi p e n=>let ⟨v,h1,h2⟩:=E.val i p e n;⟨v,h1,h2.ex hx⟩,
  λi p e n=>let ⟨a,h1,h2,h3⟩:=E.own i p e n;⟨a,h1,.inl h2,h3.ex hx λo z=>s _ _ z⟩,E.sep,E.fix⟩,hx⟩
structure TgOk (K:PySem.W.Frag) (cap:List (Option Nat)) (g:TG) (gm:PV->Env->Option Env):Prop where
 go:∀ (b:BX) (Ow:Addr->Prop) (G:List Nat) (σ:St) (env e:Env) (H:Hp) (v:V) (p:PV) (Q:St->Hp->Prop),b.C.K=K->(∀ i,b.fx i=none)->ER b Ow (j_ cap G) (fc cap σ) (j9 cap env) H->Rep b.C (Bs b Ow) H v p->gm p (j9 cap env)=some e->
  (∀ σ',Kp (fc cap σ) σ'->ER b Ow (j_ cap G) σ' e H->Q σ' H)->g v (fc cap σ) H Q
theorem J7 {σ σ':St}{i:Nat}{v:V}(h:Kp σ σ') (hn:∀ w,σ[i]?≠some (some w)):Kp σ (σ'.set i (some v)):=by
 refine⟨by rw[List.length_set];exact h.1,λj w e=>?_⟩
 by_cases hj:i=j
 ·subst hj;exact absurd e (hn w)
 ·rw[List.getElem?_set_ne hj];exact h.2 j w e
theorem Hc (σ:St):Kp σ σ:=⟨rfl,λ_ _ e=>e⟩
theorem zx {cap:List (Option Nat)}{σ:St}{i:Nat}(h:cap[i]?=some none) (w:V):(fc cap σ)[i]?≠some (some w):=by
 unfold fc
 rw[List.getElem?_map,h]
 intro z;cases z
theorem By {cap:List (Option Nat)}{G:List Nat}{i:Nat}(h:cap[i]?=some none):i∉j_ cap G:=λz=>by
 obtain⟨k,e,_⟩:=capG_mem.mp z
 rw[h] at e;cases e
theorem fB {K:PySem.W.Frag}{cap:List (Option Nat)}(i:Nat) (h:cap[i]?=some none:=by rfl):TgOk K cap (vo i) (gN i):=
 ⟨λb Ow G σ env e H v p Q hK hx E r he k=>by
  cases he
  exact k _ (J7 (Hc _) (zx h)) (E.set (By h) r (hx _))⟩
section
variable {X:Cx}{b:BX}{G L:List Nat}{ro:Bool}{pos:Pos}{tg iter elt:Expr}{ifs:List Expr}{scope osc:Scope}{ON N:List Str}{cap:List (Option Nat)}{src:Env->Option (List PV)}{g:TG}{gm:PV->Env->Option Env}{t:Env->Option Bool}{f:Env->Option PV}
theorem Ga {σ:St}{H:Hp}{Q:VK}(tgo:TgOk b.C.K cap g gm) (hc:pC cap=true) (h:tM b G .own (cJ cap src gm t f) σ H Q):
  vz (tMI b G false src) cap g (tMT b.in (j_ cap G) t) (tM b.in (j_ cap G) .val f) σ H Q:=by
 obtain⟨Ow,env,p,E,hf,k⟩:=h
 obtain⟨xs,hxs,hf⟩:=aJ hf
 split at hf
 ·rename_i hlen
  obtain⟨ys,hys,hf⟩:=aJ hf
  cases hf
  refine⟨Ow,env,xs,E,hxs,λJ H1 s1 iw D hD=>?_⟩
  have E1:=E.up s1
  have nD:H D=none:=s1.free hD
  refine⟨λi m vs H2=>m=xs.length - i/\i<=xs.length/\Same H1 H2/\H2 D=some (.lst vs)/\vs.length<=i/\∃ done rest,Reps b.C (Bs b λc=>Ow c\/c=D) H2 vs done/\bO (j9 cap env) gm t f (xs.drop i)=some rest/\done++rest=ys,
   ⟨xs.length,by simp,Nat.zero_le _,bK hD _,aU,Nat.le_refl _,[],ys,.nil,by simpa using hys,rfl⟩,?_⟩
  rintro i m vs H2 ⟨rfl,hi,s2,d2,hv,done,rest,rd,cl,hdone⟩
  refine⟨d2,?_⟩
  obtain⟨E2,x2⟩:=E1.more hD s2 ⟨_,d2⟩
  obtain⟨w1,w2⟩:=iw _ H2 (λ_=>s2) x2 λa=>E2.fresh
  by_cases hlt:i < xs.length
  ·rw[List.drop_eq_getElem_cons hlt] at cl
   obtain⟨e1,he1,cl⟩:=aJ cl
   obtain⟨kk,hk,cl⟩:=aJ cl
   obtain⟨g1,g2⟩:=w1 i xs[i] (List.getElem?_eq_getElem hlt)
   refine .inr ⟨g1,λvs' H'=>i+1<=xs.length/\Same H1 H'/\H' D=some (.lst vs')/\vs'.length<=i+1/\∃ done rest,Reps b.C (Bs b λc=>Ow c\/c=D) H' vs' done/\bO (j9 cap env) gm t f (xs.drop (i+1))=some rest/\done++rest=ys,λvs' H' q=>⟨xs.length - (i+1),by omega,rfl,q⟩,λx H' y=>?_⟩
   obtain⟨s3,r3⟩:=g2 x H' y
   have E3:=(E2.up s3).cap hc
   refine tgo.go b.in _ G σ env e1 H' x _ _ rfl (λ_=>rfl) E3 r3 he1 fun σ3 kp E4=>⟨kp,_,e1,kk,E4,hk,λH4 s4=>?_⟩
   have d4:H4 D=some (.lst vs):=s4 _ _ (s3 _ _ d2)
   have s24:Same H2 H4:=s3.trans s4
   cases kk with
   | false=>
    refine Jt ⟨hlt,s2.trans s24,d4,Nat.le_succ_of_le hv,done,rest,rd.ex (.of_same s24),?_,hdone⟩
    simpa using cl
   | true=>
    simp only[if_true] at cl
    obtain⟨y1,hy1,cl⟩:=aJ cl
    obtain⟨ys1,hys1,cl⟩:=aJ cl
    cases cl
    refine Ju ⟨_,e1,y1,E4.up s4,hy1,λv5 H5 s5 r5=>⟨s5 _ _ d4,lA (by omega),hlt,?_,aU,by rw[List.length_append];show vs.length+1<=i+1;omega,done++[y1],ys1,?_,hys1,by rw[List.append_assoc];exact hdone⟩⟩
    ·exact λc o h=>by rw[aH (aN h hD)];exact s5 _ _ (s24 _ _ (s2 _ _ h))
    ·have r5':Rep b.C (Bs b λc=>Ow c\/c=D) H5 v5 y1:=r5
     refine((rd.ex (.of_same (s24.trans s5))).append (.cons r5' .nil)).ex ?_
     exact jE (b:=b) (Ow:=λc=>Ow c\/c=D) (.inr rfl) (s5 _ _ d4) rfl
  ·have e:i=xs.length:=by omega
   subst e
   rw[List.drop_length] at cl
   cases cl
   rw[List.append_nil] at hdone
   subst hdone
   refine .inl ⟨w2,k _ H2 (s1.trans s2) ⟨D,rfl,nD,vs,d2,rd.ex (cM λc o _ q=>⟨⟨λz=>q.1 (.inl z),q.2⟩,λz=>q.1 (.inr z)⟩)⟩⟩
 ·cases hf
theorem cR {X:Cx}:oX X [] (tMT b G bJ):=by rintro pins s σ H Q I ⟨Ow,env,k,E,hf,kk⟩;cases hf;exact Dy pins s σ H Q I (kk H (Same.refl _))
theorem dH (S:CSc osc scope ON N cap) (tgo:TgOk b.C.K cap g gm) (hi:SI X b G false tg iter src) (hg:∀ C s H fp,PG (X.comp N scope C s H fp) tg g) (ht:∀ C s H fp,oX (X.comp N scope C s H fp) ifs (tMT b.in (j_ cap G) t)) (he:∀ C s H fp,SE (X.comp N scope C s H fp) b.in (j_ cap G) .val elt f)
  (hci:pC cap=true:=by rfl) (hc:X.calm=true:=by rfl) (hsc:X.env.scope=osc:=by rfl) (hN:X.N=ON:=by rfl) (hs:∀ x,foldedSetIterable iter X.env x=pure x:=by intro _;rfl):SE X b G .own (.ListComp elt [⟨tg,iter,ifs,0⟩] scope pos) (cJ cap src gm t f):=
 PE.imp (GP S hi hg ht he hc hsc hN hs) fun σ H Q h=>Ga tgo hci h
theorem lJ (i:Nat){y:Str}{py spos:Pos}(nd:X.N.Nodup) (S:CSc osc scope ON N cap) (tgo:TgOk b.C.K cap g gm) (hi:SI X b G false tg iter src) (hg:∀ C s H fp,PG (X.comp N scope C s H fp) tg g) (ht:∀ C s H fp,oX (X.comp N scope C s H fp) ifs (tMT b.in (j_ cap G) t)) (he:∀ C s H fp,SE (X.comp N scope C s H fp) b.in (j_ cap G) .val elt f)
  (hG:i∉G:=by decide) (hx:b.fx i=none:=by first | rfl | assumption) (hi':X.N[i]?=some y:=by rfl) (hy:Loc X.env.scope y:=by first | exact Or.inl rfl | exact Or.inr rfl) (hci:pC cap=true:=by rfl)
  (hsw:swapsWith (.ListComp elt [⟨tg,iter,ifs,0⟩] scope pos) (some (.Name y py)) spos.line X.env=pure true:=by rfl)
  (hc:X.calm=true:=by rfl) (hsc:X.env.scope=osc:=by rfl) (hN:X.N=ON:=by rfl) (hs:∀ x,foldedSetIterable iter X.env x=pure x:=by intro _;rfl)
  (hf:X.fn y=true\/X.env.scope.names.lookup y=some .local:=by first | exact .inl rfl | exact .inr rfl | assumption):
  SS X b G G L ro (.Assign [.Name y py] (.ListComp elt [⟨tg,iter,ifs,0⟩] scope pos) spos) (aP i (cJ cap src gm t f)):=
 PS.imp (GQ S nd hi' hy hi hg ht he hsw hc hsc hN hs hf) λD σ H q=>Ga tgo hci (by
  obtain⟨Ow,env,p,E,hf,k⟩:=J1 hG hx q
  exact⟨Ow,env,p,E,hf,λv H' s r=>k v H' s (r.val E (by intro z;cases z))⟩)
end
noncomputable def dC (n k:Nat) (ro:Bool) (f:Env->Option Out) (ps:List PV):Option PV:=if ps.length=k then (f (ps.map some++List.replicate (n - k) none)).bind λo=>match o with
 | .nx _=>if ro=true then none else some .non
 | .rt p=>some p
 | _=>none
 else none
@[simp] theorem Qa (n k:Nat) (ro:Bool) (f:Env->Option Out) (ps:List PV):dC n k ro f ps=(if ps.length=k then (f (ps.map some++List.replicate (n - k) none)).bind λo=>match o with
 | .nx _=>if ro=true then none else some .non
 | .rt p=>some p
 | _=>none
 else none):=id rfl
theorem Ea {C:MC}{A:Addr->Prop}{H:Hp}{N:List Str}{vs:List V}{ps:List PV}{G:List Nat}(r:Reps C A H vs ps) (hG:∀ i,i∈G->ps.length<=i) (hn:ps.length<=N.length):ER ⟨C,A,H,λ_=>none⟩ (λ_=>False) G (L2.start N vs) (ps.map some++List.replicate (N.length - ps.length) none) H:=by
 have hl:=r.length
 have old:∀ i p,(ps.map some++List.replicate (N.length - ps.length) none)[i]?=some (some p)->ps[i]?=some p:=λi p e=>by
  by_cases hi:i < ps.length
  ·rw[List.getElem?_append_left (by rw[List.length_map];exact hi),List.getElem?_map] at e
   cases q:ps[i]? with
   | none=>rw[q] at e;cases e
   | some p'=>rw[q] at e;cases e;rfl
  ·rw[List.getElem?_append_right (by rw[List.length_map];omega),List.getElem?_replicate] at e
   split at e <;> cases e
 refine⟨?_,Same.refl _,λa w=>w.elim,λa w=>w.elim,λi p e n=>?_,λi p e n=>?_,λi j a p q e1 n1 s1 e2 n2 s2=>?_,λk v z=>by cases z⟩
 ·unfold L2.start
  simp only[List.length_append,List.length_map,List.length_replicate]
  omega
 ·obtain⟨v,hv,rv⟩:=r.get (old i p e)
  refine⟨v,?_,rv.ex (cM λa o _ q=>⟨λz=>z,.inl q⟩)⟩
  unfold L2.start
  have hi:i < vs.length:=(List.getElem?_eq_some_iff.mp hv).1
  rw[List.getElem?_append_left (by rw[List.length_map];exact hi),List.getElem?_map,hv]
  rfl
 ·have h1:=(List.getElem?_eq_some_iff.mp (old i p e)).1
  have h2:=hG i n
  omega
 ·have h1:=(List.getElem?_eq_some_iff.mp (old i p e1)).1
  have h2:=hG i n1
  omega
theorem b7 {X:Cx}{C:MC}{N:List Str}{n k:Nat}{G G' L:List Nat}{ro:Bool}{body:List Stmt}{f:Env->Option Out}(hN:N.length=n) (hk:k<=n) (hG:(G.all λi=>decide (k<=i))=true) (hb:∀ A H,SSs X ⟨C,A,H,λ_=>none⟩ G G' L ro body f)
  {vs:List V}{H:Hp}{Q:VK}{E:XK}(h:spM C (dC n k ro f) ro vs H Q E):∃ t,PSs X body t/\t { nx:=λ_ H'=>Q .non H',rt:=Q } (L2.start N vs) H:=by
 obtain⟨A,ps,p,r,hm,kk⟩:=h
 refine⟨_,hb A H,?_⟩
 unfold dC at hm
 split at hm
 ·rename_i hl
  obtain⟨o,ho,hm⟩:=aJ hm
  refine⟨_,_,o,Ea (N:=N) (G:=G) r (λi hi=>by rw[hl];simpa using List.all_eq_true.mp hG i hi) (by omega),by rw[hN,hl];exact ho,?_⟩
  cases o with
  | nx e=>
   cases ro with
   | true=>cases hm
   | false=>cases hm;exact λOw' σ' H' E' _=>kk .non H' E'.same .non
  | rt q=>cases hm;exact λv H' s rr=>kk v H' s rr
  | bk e=>cases hm
  | ct e=>cases hm
 ·cases hm
theorem b8 {C:MC}{n k:Nat}{f:Env->Option Out}{ro ro':Bool}{vs:List V}{H:Hp}{Q:VK}{E:XK}(h:spM C (dC n k ro' f) ro vs H Q E):vs.length=k:=by
 obtain⟨A,ps,p,r,hm,kk⟩:=h
 unfold dC at hm
 split at hm
 ·rename_i hl;rw[r.length];exact hl
 ·cases hm
def lX (n k c:Nat) (f:Env->Option Out) (ps:List PV):Option (List (Str×PV)):=if ps.length+1=k then (f (some (.obj c [])::(ps.map some++List.replicate (n - k) none))).bind λo=>match o with
 | .nx (some (.obj c' fs)::_)=>if c'=c then some fs else none
 | _=>none
 else none
@[simp] theorem O3 (n k c:Nat) (f:Env->Option Out) (ps:List PV):lX n k c f ps=(if ps.length+1=k then (f (some (.obj c [])::(ps.map some++List.replicate (n - k) none))).bind λo=>match o with
 | .nx (some (.obj c' fs)::_)=>if c'=c then some fs else none
 | _=>none
 else none):=id rfl
def spI (C:MC) (c:Nat) (m:List PV->Option (List (Str×PV))):Sp:=λvs H Q _=>∃ A ps fs x dx us,vs=.ref x::us/\H x=some (.ins (C.cl c) dx [])/\¬ A x/\Reps C A H us ps/\m ps=some fs /\
 ∀ H',(∀ a o,a≠x->H a=some o->H' a=some o)->Top C (λz=>(A z\/H z=none)/\z≠x) H' x (.obj c fs)->Q .non H'
theorem Hd {X:Cx}{C:MC}{N:List Str}{n k c:Nat}{G G' L:List Nat}{body:List Stmt}{f:Env->Option Out}(hN:N.length=n) (hk:k<=n) (hG0:0∈G) (hG1:0∈G') (hG:(G.all λi=>decide (i=0\/k<=i))=true) (hb:∀ A H x,SSs X ⟨C,A,H,fx0 x⟩ G G' L false body f)
  {vs:List V}{H:Hp}{Q:VK}{E:XK}(h:spI C c (lX n k c f) vs H Q E):∃ t,PSs X body t/\t { nx:=λ_ H'=>Q .non H',rt:=Q } (L2.start N vs) H:=by
 obtain⟨A,ps,fs,x,dx,us,rfl,hx,nA,r,hm,kk⟩:=h
 refine⟨_,hb A (λa=>if a=x then none else H a) (.ref x),?_⟩
 unfold lX at hm
 split at hm
 ·rename_i hl
  obtain⟨o,ho,hm2⟩:=aJ hm
  clear hm
  have hus:=r.length
  have old:∀ i p,(ps.map some++List.replicate (n - k) none)[i]?=some (some p)->ps[i]?=some p:=λi p e=>by
   by_cases hi:i < ps.length
   ·rw[List.getElem?_append_left (by rw[List.length_map];exact hi),List.getElem?_map] at e
    cases q:ps[i]? with
    | none=>rw[q] at e;cases e
    | some p'=>rw[q] at e;cases e;rfl
   ·rw[List.getElem?_append_right (by rw[List.length_map];omega),List.getElem?_replicate] at e
    split at e <;> cases e
  have low:∀ i,i+1∈G->∀ p,(ps.map some++List.replicate (n - k) none)[i]?=some (some p)->False:=λi hi p e=>by
   have h1:=(List.getElem?_eq_some_iff.mp (old i p e)).1
   have h2:i+1=0\/k<=i+1:=by simpa using List.all_eq_true.mp hG (i+1) hi
   omega
  have E0:ER ⟨C,A,λa=>if a=x then none else H a,fx0 (.ref x)⟩ (λa=>a=x) G (L2.start N (.ref x::us)) (some (.obj c [])::(ps.map some++List.replicate (n - k) none)) H:=by
   refine⟨?_,λa o e=>?_,λa w=>?_,λa w=>?_,λi p e n=>?_,λi p e n=>?_,λi j a p q e1 n1 s1 e2 n2 s2=>?_,λk v z=>?_⟩
   ·unfold L2.start
    simp only[List.length_append,List.length_map,List.length_replicate,List.length_cons]
    omega
   ·have e':(if a=x then none else H a)=some o:=e
    split at e'
    ·cases e'
    ·exact e'
   ·subst w;exact⟨_,hx⟩
   ·subst w;show (if a=a then none else H a)=none;rw[if_pos rfl]
   ·cases i with
    | zero=>exact absurd hG0 n
    | succ i=>
     rw[List.getElem?_cons_succ] at e
     obtain⟨v,hv,rv⟩:=r.get (old i p e)
     refine⟨v,?_,rv.ex (cM λa o _ q=>⟨λz=>nA (z▸q),.inl q⟩)⟩
     have hi:i < us.length:=(List.getElem?_eq_some_iff.mp hv).1
     show ((V.ref x::us).map some++_)[i+1]?=_
     rw[List.map_cons,List.cons_append,List.getElem?_cons_succ,List.getElem?_append_left (by rw[List.length_map];exact hi),List.getElem?_map,hv]
     rfl
   ·cases i with
    | zero=>cases e;exact⟨x,rfl,rfl,dx,[],hx,.nil⟩
    | succ i=>exact(low i n p e).elim
   ·cases i with
    | zero=>
     cases j with
     | zero=>rfl
     | succ j=>exact(low j n2 q e2).elim
    | succ i=>exact(low i n1 p e1).elim
   ·cases k with
    | zero=>cases z;rfl
    | succ k=>cases z
  refine⟨_,_,o,E0,ho,?_⟩
  cases o with
  | nx e=>
   cases e with
   | nil=>cases hm2
   | cons s0 rest=>
    cases s0 with
    | none=>cases hm2
    | some p0=>
     cases p0 <;> simp only at hm2 <;> first | cases hm2 | skip
     rename_i c' fs'
     split at hm2
     ·rename_i hcc
      subst hcc
      cases hm2
      intro Ow' σ' H' E' _
      obtain⟨a,h1,h2,h3⟩:=E'.own 0 _ rfl hG1
      have h4:=E'.fix 0 (.ref x) rfl
      rw[h1] at h4
      cases h4
      refine kk H' (λa o na e=>E'.same a o (by show (if a=x then none else H a)=some o;rw[if_neg na];exact e)) (h3.ex (cM λz o _ q=>?_) λo z=>z)
      have nz:z≠x:=λy=>q.1 (y▸h2)
      refine⟨q.2.imp id λy=>?_,nz⟩
      have y':(if z=x then none else H z)=none:=y
      rwa [if_neg nz] at y'
     ·cases hm2
  | rt q=>cases hm2
  | bk e=>cases hm2
  | ct e=>cases hm2
 ·cases hm
theorem Hf {C:MC}{n k c c':Nat}{f:Env->Option Out}{vs:List V}{H:Hp}{Q:VK}{E:XK}(h:spI C c' (lX n k c f) vs H Q E):vs.length=k:=by
 obtain⟨A,ps,fs,x,dx,us,rfl,hx,nA,r,hm,kk⟩:=h
 unfold lX at hm
 split at hm
 ·rename_i hl;rw[List.length_cons,r.length];exact hl
 ·cases hm
structure CalI (P:Program) (w:World) (K:PySem.W.Frag) (mg:Str->Option Value) (base:Heap) (C:Addr) (k:Nat) (x:Str) (ps:List Str) (sp:Sp):Prop where
 ex:∃ f fd,FnOk P w K mg base CX0 k f fd ps sp/\Binds K fd ps []/\Mk K C f/\mg x=some (.ref C)
def zy (c:Nat) (m:List PV->Option (List (Str×PV))) (g:Env->Option (List PV)) (env:Env):Option PV:=(g env).bind λps=>(m ps).bind λfs=>some (.obj c fs)
@[simp] theorem O4 (c:Nat) (m:List PV->Option (List (Str×PV))) (g:Env->Option (List PV)) (env:Env):zy c m g env=((g env).bind λps=>(m ps).bind λfs=>some (.obj c fs)):=id rfl
def J8 (c:Nat) (m:List PV->Option (List (Str×PV))) (g:Env->Option (List PV)) (env:Env):Option PV:=(g env).bind λps=>(m ps).bind λfs=>if qP fs=true then some (.obj c fs) else none
@[simp] theorem Nz (c:Nat) (m:List PV->Option (List (Str×PV))) (g:Env->Option (List PV)) (env:Env):J8 c m g env=((g env).bind λps=>(m ps).bind λfs=>if qP fs=true then some (.obj c fs) else none):=id rfl
section
variable {X:Cx}{b:BX}{G:List Nat}{pos p:Pos}{e:Expr}{es:List Expr}{g:Env->Option (List PV)}
theorem Eb {c:Nat}{mi:List PV->Option (List (Str×PV))}{L:Bool}{σ:St}{H:Hp}{Q:VK}{Ow:Addr->Prop}{env:Env}{qs:List PV}{fs:List (Str×PV)}(E:ER b Ow G σ env H) (q1:g env=some qs) (q2:mi qs=some fs) (hl:L=true->qP fs=true)
  (kk:∀ v H',Same H H'->Res b Ow H H' .own v (.obj c fs)->Q v H'):Fz (b.C.cl c) (spI b.C c mi) [] E0 (tMA b G L g) σ H Q:=by
 refine⟨Ow,env,qs,E,q1,λvs H1 s1 r x dx hx hdx hne=>?_⟩
 rw[List.append_nil]
 have s2:Same H1 (upd (upd H1 dx (.own x)) x (.ins (b.C.cl c) dx [])):=λa o h=>by rw[aH (aN h hx),aH (aN h hdx)];exact h
 have nw:(upd (upd H1 dx (.own x)) x (.ins (b.C.cl c) dx [])) x=some (.ins (b.C.cl c) dx []):=aU
 refine⟨λa=>ArA b Ow L H1 a/\a≠x,qs,fs,x,dx,vs,rfl,nw,λz=>z.2 rfl,r.ex λa o h=>⟨λq=>⟨s2 _ _ h,q,aN h hx⟩,λ_=>s2 _ _ h⟩,q2,λH' hH t=>⟨rfl,kk _ H' ?_ ⟨x,rfl,s1.free hx,?_⟩⟩⟩
 ·exact λa o h=>hH a o (aN (s1 _ _ h) hx) (s2 _ _ (s1 _ _ h))
 ·obtain⟨dx',f,h1,h2⟩:=t
  refine⟨dx',f,h1,?_⟩
  have keep:∀ a o,H1 a=some o->H' a=some o:=λa o h=>hH a o (aN h hx) (s2 _ _ h)
  have old:∀ a,(upd (upd H1 dx (.own x)) x (.ins (b.C.cl c) dx [])) a=none->H1 a=none:=λa h=>s2.free h
  cases L with
  | false=>exact h2.ex (cM λz o _ q=>⟨q.1.elim (λy=>y.1.elim id λy'=>by cases y'.1) λy=>(E.up s1).fresh (old z y),q.2⟩)
  | true=>
   refine h2.nl (λa o ha z=>?_) (hl rfl)
   rcases z with ⟨(⟨z | ⟨_,us,z⟩,_⟩ | z),nz⟩
   ·exact .inl ⟨z,nz⟩
   ·have:=keep _ _ z
    rw[this] at ha
    exact .inr ⟨us,(Option.some.inj ha).symm⟩
   ·exact .inl ⟨(E.up s1).fresh (old a z),nz⟩
theorem Hg {c k j:Nat}{x:Str}{ps:List Str}{mi:List PV->Option (List (Str×PV))}(cI:CalI X.prog X.w X.K X.mg X.base (b.C.cl c) k x ps (spI b.C c mi)) (hr:Room j X.A) (ha:SA X b G false (e::es) g) (hle:k+1<=j:=by decide) (hg:Gl X x:=by rfl)
  (hdb:(x == ("__debug__" : Str))=false:=by decide) (he:starEach (e::es) X.env=(false,eval e X.env)::starEach es X.env:=by rfl) (hpl:(backTo pos (starEach es X.env)).any (·.1)=false:=by rfl):
  SE X b G .own (.Call (.Name x p) (e::es) [] pos) (zy c mi g):=by
 obtain⟨f,fd,F,hb,hM,hm⟩:=cI.ex
 refine PE.imp (Gu hM F (hr.mono hle) hg hm hb .nil FT ha hdb he hpl) ?_
 rintro σ H Q ⟨Ow,env,q,E,hf,kk⟩
 obtain⟨qs,q1,hf⟩:=aJ hf
 obtain⟨fs,q2,hf⟩:=aJ hf
 cases hf
 exact Eb E q1 q2 (λz=>by cases z) kk
@[simp] noncomputable def tyN:PV->Option String
 | .non=>some "NoneType"
 | .bl _=>some "bool"
 | .int _=>some "int"
 | .str _=>some "str"
 | .lst _=>some "list"
 | .tup _=>some "tuple"
 | .dK _=>some "dict"
 | .dT _=>some "dict"
 | _=>none
noncomputable def O5 (tb:List (String×Bool)) (p:PV):Option PV:=(tyN p).bind λt=>(tb.lookup t).bind λk=>some (.bl k)
@[simp] theorem Qc (tb:List (String×Bool)) (p:PV):O5 tb p=((tyN p).bind λt=>(tb.lookup t).bind λk=>some (.bl k)):=id rfl
theorem RepB.ty {C:MC}{A:Addr->Prop}{H:Hp}{v:V}{p:PV}{t:String}(r:RepB C A H v p) (h:tyN p=some t):TyOf C.K H v (.type t):=by
 cases p <;> simp only[tyN] at h <;> cases h
 ·rw[r.non];exact .non
 ·rw[r.bl];exact .bl _
 ·rw[r.int];exact .int _
 ·rw[r.str];exact .str _
 ·obtain⟨a,vs,rfl,ha,_⟩:=r.lst;exact .lst ha
 ·obtain⟨a,vs,rfl,ha,_⟩:=r.tup;exact ha.elim (λq=>.tup q) λq=>.tupC q
 ·obtain⟨a,vs,rfl,ha,_⟩:=r.dK;exact .dK ha
 ·obtain⟨a,vs,rfl,ha,_⟩:=r.dT;exact .dT ha
end
end MR
namespace MR
open PySem L2
def BX.fixed (b:BX) (j:Nat) (v:V):BX:={ b with fx:=λi=>if i=j then some v else b.fx i }
def vD (j:Nat) (g:PV->Env->Option Env) (ds:List Nat) (body:Env->Option Out):Nat->Nat->Env->Option Out
 | 0,_,_=>none
 | n+1,k,env=>match bV j env with
  | some (.lst ys)=>match ys[k]? with
   | none=>some (.nx env)
   | some y=>(g y env).bind λe1=>(body e1).bind λo=>match o with
    | .nx e=>vD j g ds body n (k+1) (clr ds e)
    | .ct e=>vD j g ds body n (k+1) (clr ds e)
    | .bk e=>some (.nx (clr ds e))
    | .rt p=>some (.rt p)
  | _=>none
def M5 (j n:Nat) (g:PV->Env->Option Env) (ds:List Nat) (body:Env->Option Out) (env:Env):Option Out:=vD j g ds body n 0 (clr ds env)
@[simp] theorem O6 (j n:Nat) (g:PV->Env->Option Env) (ds:List Nat) (body:Env->Option Out) (env:Env):M5 j n g ds body env=vD j g ds body n 0 (clr ds env):=id rfl
section
variable {X:Cx}{b:BX}{G G' L:List Nat}{ro:Bool}{pos:Pos}
theorem ER.free {Ow Ow':Addr->Prop}{σ σ':St}{env env':Env}{H H':Hp}{j:Nat}{v:V}(E0:ER b Ow G σ env H) (h:σ[j]?=some (some v)) (E:ER (b.fixed j v) Ow' G' σ' env' H'):ER b Ow' G' σ' env' H':=
 ⟨E.len,E.same,E.live,E.new,E.val,E.own,E.sep,λi w e=>by
  by_cases hi:i=j
  ·subst hi
   have h1:=E0.fix i w e
   rw[h] at h1
   cases h1
   exact E.fix i v (if_pos rfl)
  ·exact E.fix i w ((if_neg hi).trans e)⟩
noncomputable def tY (xs ys:List PV):List PV:=List.zipWith (λx y=>.tup [x,y]) xs ys
def iZ (f g:Env->Option PV) (env:Env):Option (List PV):=(f env).bind λp=>(g env).bind λq=>match p,q with
 | .lst xs,.lst ys=>some (tY xs ys)
 | _,_=>none
@[simp] theorem Ri (f g:Env->Option PV) (env:Env):iZ f g env=((f env).bind λp=>(g env).bind λq=>match p,q with
 | .lst xs,.lst ys=>some (tY xs ys)
 | _,_=>none):=id rfl
end
end MR
namespace L2
open PySem PySem.Spec PyProof.Rows
section
variable {X:Cx}
end
end L2
namespace MR
open PySem L2
section
variable {X:Cx}{b:BX}{G G' L:List Nat}{ro:Bool}{pos p:Pos}{m m1 m2:Md}{e e1 e2:Expr}{f f1 f2:Env->Option PV}
@[simp] def RD:PV->PV->Option PV
 | .int i,.int j=>some (.int (if j < i then j else i))
 | _,_=>none
@[simp] def maxV:PV->PV->Option PV
 | .int i,.int j=>some (.int (if j > i then j else i))
 | _,_=>none
@[simp] def NB:PV->PV->Option PV
 | .str x,.str y=>some (.bl (Txt.endswith x y))
 | _,_=>none
end
end MR
namespace MR
open PySem L2
section
variable {X:Cx}{b:BX}{G G' L:List Nat}{ro:Bool}{pos p:Pos}{m m1 m2:Md}{e e1 e2:Expr}{f f1 f2 h:Env->Option PV}
@[simp] noncomputable def RG:PV->PV->Option PV
 | .lst xs,.lst ys=>if xs.length+ys.length<=1000000 then some (.lst (xs++ys)) else none
 | _,_=>none
@[simp] noncomputable def RJ:PV->PV->Option PV
 | .lst xs,.int k=>if -1000000<=k/\k<=1000000/\xs.length*k.toNat<=1000000 then some (.lst (List.replicate k.toNat xs).flatten) else none
 | _,_=>none
@[simp] noncomputable def QH:PV->Option PV
 | .lst xs=>some (.tup xs)
 | .frz xs=>some (.tup xs)
 | .tup xs=>some (.tup xs)
 | _=>none
@[simp] noncomputable def Rj:PV->Option PV
 | .int j=>if 0<=j/\j<=1000000 then some (.lst (dB 0 j)) else none
 | _=>none
@[simp] noncomputable def Rk:PV->Option PV
 | .lst xs=>some (.lst xs.reverse)
 | _=>none
def iRv (f:Env->Option PV) (env:Env):Option (List PV):=(f env).bind λp=>match p with
 | .lst xs=>some xs.reverse
 | _=>none
@[simp] theorem QJ (f:Env->Option PV) (env:Env):iRv f env=((f env).bind λp=>match p with
 | .lst xs=>some xs.reverse
 | _=>none):=id rfl
def dnV (n:Int):List PV:=(List.range (n+1).toNat).reverse.map λi=>.int (i:Nat)
def iDn (f:Env->Option PV) (env:Env):Option (List PV):=(f env).bind λp=>match p with
 | .int n=>if -1<=n/\n<=1000000 then some (dnV n) else none
 | _=>none
@[simp] theorem QK (f:Env->Option PV) (env:Env):iDn f env=((f env).bind λp=>match p with
 | .int n=>if -1<=n/\n<=1000000 then some (dnV n) else none
 | _=>none):=id rfl
@[simp] def Rm:PV->Option PV
 | .lst xs=>some (.lst xs.reverse)
 | _=>none
def BJ (d:PyData):List PyData->Nat->Option Nat
 | [],_=>none
 | e::es,n=>if PyData.eqv e d=true then some n else BJ d es (n+1)
noncomputable def idxV (xs:List PV) (y:PV):Option Nat:=match toD y,fO xs with
 | some d,some ds=>if d.canLay0=true/\PyData.canLayAll0 ds=true/\d.depth<=32/\ds.length<=1000000 then BJ d ds 0 else none
 | _,_=>none
@[simp] noncomputable def QL:PV->PV->Option PV
 | .lst xs,y=>(idxV xs y).map λn=>.int (n:Nat)
 | _,_=>none
noncomputable def O7 (g:PV->Env->Option Env) (f:Env->Option PV) (env:Env):Option Out:=(f env).bind λp=>(g p env).bind λe=>some (.nx e)
@[simp] theorem Qd (g:PV->Env->Option Env) (f:Env->Option PV) (env:Env):O7 g f env=((f env).bind λp=>(g p env).bind λe=>some (.nx e)):=id rfl
end
end MR
namespace MR
open PySem L2
section
variable {X:Cx}{b:BX}{G G' L:List Nat}{ro:Bool}{pos p p2 pos2:Pos}{m m1 m2:Md}{e e1 e2:Expr}{f f1 f2 h:Env->Option PV}
end
end MR
namespace MR
theorem Ec {α:Type}{n:Nat}{us:List α}(hl:us.length=n+1):∃ a r,us=a::r/\r.length=n:=by
 cases us with
 | nil=>cases hl
 | cons a r=>exact⟨a,r,rfl,Nat.succ.inj hl⟩
@[elab_as_elim] theorem len0 {α:Type}{P:List α->Prop}(us:List α) (hl:us.length=0) (h:P []):P us:=by
 cases us with
 | nil=>exact h
 | cons a r=>cases hl
@[elab_as_elim] theorem len1 {α:Type}{P:List α->Prop}(us:List α) (hl:us.length=1) (h:∀ a,P [a]):P us:=by
 obtain⟨a,r,rfl,hr⟩:=Ec hl
 exact len0 (P:=λr=>P (a::r)) r hr (h a)
@[elab_as_elim] theorem len2 {α:Type}{P:List α->Prop}(us:List α) (hl:us.length=2) (h:∀ a b,P [a,b]):P us:=by
 obtain⟨a,r,rfl,hr⟩:=Ec hl
 exact len1 (P:=λr=>P (a::r)) r hr (h a)
@[elab_as_elim] theorem len3 {α:Type}{P:List α->Prop}(us:List α) (hl:us.length=3) (h:∀ a b c,P [a,b,c]):P us:=by
 obtain⟨a,r,rfl,hr⟩:=Ec hl
 exact len2 (P:=λr=>P (a::r)) r hr (h a)
end MR
namespace MR
open PySem L2
@[simp] def lK:PV->Option (List PV)
 | .lst xs=>some xs
 | .frz xs=>some xs
 | .tup xs=>some xs
 | .ktp xs=>some xs
 | _=>none
def kd:PV->SK
 | .tup _=>.T
 | .ktp _=>.T
 | _=>.L
def iZ2 (f g:Env->Option PV) (env:Env):Option (List PV):=(f env).bind λp=>(g env).bind λq=>(lK p).bind λxs=>(lK q).bind λys=>some (tY xs ys)
@[simp] theorem QM (f g:Env->Option PV) (env:Env):iZ2 f g env=((f env).bind λp=>(g env).bind λq=>(lK p).bind λxs=>(lK q).bind λys=>some (tY xs ys)):=id rfl
section
variable {X:Cx}{b:BX}{G G' L:List Nat}{ro:Bool}{pos p:Pos}{m m1 m2:Md}{e e1 e2:Expr}
theorem PI.all {α:Type}{tg iter:Expr}{wi:α->TI}(h:∀ a,PI X tg iter (wi a)):PI X tg iter (fun σ H R=>∃ a,wi a σ H R):=λpins s σ H R I ⟨a,q⟩=>h a pins s σ H R I q
end
end MR
namespace MR
open PySem L2
section
variable {X:Cx}{b:BX}{G G' L:List Nat}{pos p p2 pos2:Pos}{m m1 m2:Md}{e:Expr}{f:Env->Option PV}
@[simp] def Qe:PV->Option PV
 | .tup xs=>(strsP xs).bind λws=>if ws.length<=1000 then some (.int (unlike ws:Nat)) else none
 | _=>none
end
end MR
namespace L2
open PySem PyProof
section
variable {X:Cx}
end
end L2
namespace MR
open PySem L2
section
variable {X:Cx}{b:BX}{G G' L:List Nat}{pos p p2 pos2:Pos}{m m1 m2:Md}{e:Expr}{f:Env->Option PV}
@[simp] noncomputable def QQ:PV->PV->Option PV
 | .str z,.tup xs=>(strsP xs).bind λzs=>if z.length<=64/\(zs.map (·.length)).sum+zs.length*64<=16777216 then some (.str (Str.join z zs)) else none
 | x,y=>pZ x y
end
end MR
namespace L2
open PySem PySem.Spec PyProof PyProof.Rows
section
variable {X:Cx}
end
end L2
namespace MR
open PySem L2
section
variable {X:Cx}{b:BX}{G G' L:List Nat}{pos p p2 pos2:Pos}{m m1 m2:Md}{e:Expr}{f:Env->Option PV}
@[simp] noncomputable def intsP:List PV->Option (List Int)
 | []=>some []
 | .int c::r=>(intsP r).map (c::·)
 | _::_=>none
theorem Reps.intsP {C:MC}{A:Addr->Prop}{H:Hp}:∀ {vs:List V}{ps:List PV}{bs:List Int},Reps C A H vs ps->intsP ps=some bs->vs=bs.map V.int
 | _,_,_,.nil,e=>by cases e;rfl
 | _,_,_,.cons (p:=p) (ps:=ps) h t,e=>by
  cases p <;> simp only[MR.intsP] at e <;> first | cases e | skip
  rename_i c
  cases q:MR.intsP ps with
  | none=>rw[q] at e;cases e
  | some bs=>rw[q] at e;cases e;cases h;rw[Reps.intsP t q];rfl
@[simp] noncomputable def RK:PV->Option PV
 | .lst xs=>(intsP xs).map λns=>.int ns.sum
 | _=>none
end
end MR
namespace MR
open PySem L2
section
variable {X:Cx}{b:BX}{G G' L:List Nat}{ro:Bool}{pos p p2 pos2:Pos}{m m1 m2:Md}{e:Expr}{f:Env->Option PV}
def sMv (i j:Nat) (env:Env):Option Out:=(bV j env).bind λp=>some (.nx ((env.set i (some p)).set j none))
@[simp] theorem QR (i j:Nat) (env:Env):sMv i j env=((bV j env).bind λp=>some (.nx ((env.set i (some p)).set j none))):=id rfl
end
end MR
namespace MR
open PySem L2
section
variable {X:Cx}{b:BX}{G G' L:List Nat}{ro:Bool}{pos p p2 pos2:Pos}{m m1 m2:Md}{e:Expr}{h:Env->Option PV}
noncomputable def O8 (f:Env->Option PV) (env:Env):Option (List PV):=(f env).bind λp=>(lK p).bind λxs=>some xs.reverse
@[simp] theorem Qf (f:Env->Option PV) (env:Env):O8 f env=((f env).bind λp=>(lK p).bind λxs=>some xs.reverse):=id rfl
end
end MR
namespace MR
open PySem L2
@[simp] def J9:PV->Option (List PV)
 | .str x=>some (chV x)
 | p=>lK p
noncomputable def iZ3 (f g:Env->Option PV) (env:Env):Option (List PV):=(f env).bind λp=>(g env).bind λq=>(J9 p).bind λxs=>(lK q).bind λys=>some (tY xs ys)
@[simp] theorem QS (f g:Env->Option PV) (env:Env):iZ3 f g env=((f env).bind λp=>(g env).bind λq=>(J9 p).bind λxs=>(lK q).bind λys=>some (tY xs ys)):=id rfl
section
variable {X:Cx}{b:BX}{G G' L:List Nat}{ro:Bool}{pos p:Pos}{m m1 m2:Md}{e e1 e2:Expr}
end
end MR
namespace MR
open PySem L2
section
variable {X:Cx}{b:BX}{G:List Nat}{pos:Pos}{m1 m2 m3:Md}{e1 e2 e3:Expr}{f1 f2 f3:Env->Option PV}
end
end MR
namespace MR
open PySem L2
section
variable {X:Cx}{b:BX}{G G' L:List Nat}{pos p p2 pos2:Pos}{m m1 m2:Md}{e1 e2:Expr}{f1 f2:Env->Option PV}
@[simp] noncomputable def RL:PV->PV->Option PV
 | .int i,.int j=>some (.bl (decide (i < j)))
 | .lst xs,.lst ys=>(intsP xs).bind λns=>(intsP ys).bind λms=>some (.bl (HT.lexLt ns ms))
 | _,_=>none
end
end MR
namespace MR
open PySem L2
noncomputable def iE2 (f:Env->Option PV) (env:Env):Option (List PV):=(f env).bind λp=>(lK p).bind λxs=>some (eO 0 xs)
@[simp] theorem QT (f:Env->Option PV) (env:Env):iE2 f env=((f env).bind λp=>(lK p).bind λxs=>some (eO 0 xs)):=id rfl
section
variable {X:Cx}{b:BX}{G G' L:List Nat}{ro:Bool}{pos p:Pos}{m m1 m2:Md}{e e1 e2:Expr}
end
end MR
namespace HT
open PySem PyProof.Rows
section
open PySem.SeqAt
open PySem.AutoSeq1 (wpAny_loadPart')
open PySem.MeetsSeq PySem.MeetsSeq2 PySem.MeetsSeq3
end
section
variable {A:Around}{s:Shared}
end
end HT
namespace HT
open PySem PyProof.Rows
def ltTwo (n1 n2 m1 m2:List Int):Bool:=if n1=m1 then lexLt n2 m2 else lexLt n1 m1
end HT
namespace L2
open PySem PyProof.Rows
section
variable {X:Cx}
end
end L2
namespace MR
open PySem L2
inductive Inn (C:MC) (A:Addr->Prop) (H:Hp):List Addr->List (List PV)->Prop
 | nil:Inn C A H [] []
 | cons {c:Addr}{cs:List Addr}{us:List V}{ys:List PV}{yss:List (List PV)}:H c=some (.lst us)->Reps C A H us ys->Inn C A H cs yss->Inn C A H (c::cs) (ys::yss)
theorem Inn.ex {C:MC}{A A':Addr->Prop}{H H':Hp}(e:Ex A H A' H'):∀ {cs:List Addr}{yss:List (List PV)},(∀ c∈cs,H' c=H c)->Inn C A H cs yss->Inn C A' H' cs yss
 | _,_,_,.nil=>.nil
 | _,_,h,.cons q r t=>.cons ((h _ List.mem_cons_self).trans q) (r.ex e) (Inn.ex e (λc hc=>h c (List.mem_cons_of_mem _ hc)) t)
theorem Inn.live {C:MC}{A:Addr->Prop}{H:Hp}:∀ {cs:List Addr}{yss:List (List PV)},Inn C A H cs yss->∀ c∈cs,∃ us,H c=some (.lst us)
 | _,_,.nil,c,hc=>by cases hc
 | _,_,.cons q r t,c,hc=>by
  rcases List.mem_cons.mp hc with z | z
  ·subst z;exact⟨_,q⟩
  ·exact Inn.live t c z
theorem Inn.length {C:MC}{A:Addr->Prop}{H:Hp}:∀ {cs:List Addr}{yss:List (List PV)},Inn C A H cs yss->cs.length=yss.length
 | _,_,.nil=>rfl
 | _,_,.cons q r t=>by rw[List.length_cons,List.length_cons,Inn.length t]
theorem Inn.reps {C:MC}{A A':Addr->Prop}{H:Hp}(e:Ex A H A' H):∀ {cs:List Addr}{yss:List (List PV)},(∀ c∈cs,A' c)->Inn C A H cs yss->Reps C A' H (cs.map V.ref) (yss.map PV.lst)
 | _,_,_,.nil=>.nil
 | _,_,h,.cons q r t=>.cons (.lst q (h _ List.mem_cons_self) (r.ex e)) (Inn.reps e (λc hc=>h c (List.mem_cons_of_mem _ hc)) t)
theorem Inn.get {C:MC}{A:Addr->Prop}{H:Hp}:∀ {cs:List Addr}{yss:List (List PV)}{j:Nat}{ys:List PV},Inn C A H cs yss->yss[j]?=some ys->∃ c us,cs[j]?=some c/\H c=some (.lst us)/\Reps C A H us ys
 | _,_,_,_,.nil,e=>by simp at e
 | _,_,0,_,.cons q r t,e=>by simp at e;subst e;exact⟨_,_,rfl,q,r⟩
 | _,_,j+1,_,.cons q r t,e=>by
  obtain⟨c,us,h1,h2,h3⟩:=Inn.get t (j:=j) (by simpa using e)
  exact⟨c,us,by simpa using h1,h2,h3⟩
theorem Inn.set {C:MC}{A:Addr->Prop}{H H':Hp}{us:List V}{ys:List PV}(e:Ex A H A H') (r':Reps C A H' us ys):∀ {cs:List Addr}{yss:List (List PV)}{j:Nat}{c:Addr},cs.Nodup->cs[j]?=some c->H' c=some (.lst us)->(∀ x∈cs,x≠c->H' x=H x)->Inn C A H cs yss->Inn C A H' cs (yss.set j ys)
 | _,_,_,_,_,h,_,_,.nil=>by simp at h
 | _,_,0,_,nd,h,hc,k,.cons q r t=>by
  simp at h
  subst h
  rw[List.nodup_cons] at nd
  exact .cons hc r' (Inn.ex e (λx hx=>k x (List.mem_cons_of_mem _ hx) λz=>nd.1 (z▸hx)) t)
 | _,_,j+1,_,nd,h,hc,k,.cons q r t=>by
  rw[List.nodup_cons] at nd
  have h':=h
  rw[List.getElem?_cons_succ] at h'
  have hm:=List.mem_of_getElem? h'
  exact .cons ((k _ List.mem_cons_self λz=>nd.1 (z▸hm)).trans q) (r.ex e) (Inn.set e r' (j:=j) nd.2 h' hc (λx hx=>k x (List.mem_cons_of_mem _ hx)) t)
def bn (b:BX) (i:Nat) (a:Addr) (cs:List Addr) (H:Hp):BX:=⟨b.C,λx=>b.A x/\x∉a::cs,λx=>if x∈a::cs then H x else b.H0 x,λj=>if j=i then some (.ref a) else b.fx j⟩
def KN (b:BX) (Ow:Addr->Prop) (a:Addr) (cs:List Addr) (x:Addr):Prop:=Bs b Ow x/\x∉a::cs
theorem M6 {b:BX}{i:Nat}{a:Addr}{cs:List Addr}{H H':Hp}(h:∀ x∈a::cs,H' x=H x):bn b i a cs H'=bn b i a cs H:=by
 unfold bn
 congr 1
 funext x
 by_cases hx:x∈a::cs
 ·rw[if_pos hx,if_pos hx,h x hx]
 ·rw[if_neg hx,if_neg hx]
theorem vG {b:BX}{i:Nat}{a:Addr}{cs:List Addr}{H:Hp}{Ow:Addr->Prop}(lv:∀ x∈a::cs,∃ o,H x=some o){x:Addr}:Bs (bn b i a cs H) Ow x↔KN b Ow a cs x:=by
 constructor
 ·rintro ⟨n,(⟨h,z⟩ | h)⟩
  ·exact⟨⟨n,.inl h⟩,z⟩
  ·have h':(if x∈a::cs then H x else b.H0 x)=none:=h
   by_cases hx:x∈a::cs
   ·rw[if_pos hx] at h'
    obtain⟨o,e⟩:=lv x hx
    rw[h'] at e;cases e
   ·rw[if_neg hx] at h'
    exact⟨⟨n,.inr h'⟩,hx⟩
 ·rintro ⟨⟨n,(h | h)⟩,z⟩
  ·exact⟨n,.inl ⟨h,z⟩⟩
  ·exact⟨n,.inr (by show (if x∈a::cs then H x else b.H0 x)=none;rw[if_neg z];exact h)⟩
structure EN (b:BX) (Ow:Addr->Prop) (G:List Nat) (i:Nat) (σ:St) (env:Env) (H:Hp) (a:Addr) (cs:List Addr) (yss:List (List PV)):Prop where
 val:env[i]?=some (some (.lst (yss.map PV.lst)))
 top:H a=some (.lst (cs.map V.ref))
 nd:(a::cs).Nodup
 new:∀ x∈a::cs,b.H0 x=none
 inn:Inn b.C (KN b Ow a cs) H cs yss
 er:ER (bn b i a cs H) Ow G σ (env.set i none) H
section
variable {b:BX}{Ow:Addr->Prop}{G:List Nat}{i:Nat}{σ:St}{env:Env}{H H':Hp}{a:Addr}{cs:List Addr}{yss:List (List PV)}
theorem EN.live (E:EN b Ow G i σ env H a cs yss):∀ x∈a::cs,∃ o,H x=some o:=λx hx=>by
 rcases List.mem_cons.mp hx with z | z
 ·subst z;exact⟨_,E.top⟩
 ·obtain⟨us,h⟩:=E.inn.live x z;exact⟨_,h⟩
theorem EN.slot (E:EN b Ow G i σ env H a cs yss):σ[i]?=some (some (.ref a)):=E.er.fix i (.ref a) (by show (if i=i then _ else _)=_;rw[if_pos rfl])
theorem EN.not_ow (E:EN b Ow G i σ env H a cs yss):∀ x∈a::cs,¬ Ow x:=λx hx w=>by
 have h:=E.er.new x w
 have h':(if x∈a::cs then H x else b.H0 x)=none:=h
 rw[if_pos hx] at h'
 obtain⟨o,e⟩:=E.live x hx
 rw[h'] at e;cases e
theorem EN.of {Ow':Addr->Prop}{σ':St}{e:Env}(E:EN b Ow G i σ env H a cs yss) (E':ER (bn b i a cs H) Ow' G σ' e H') (x:Ex (Bs (bn b i a cs H) Ow) H (Bs (bn b i a cs H) Ow') H'):
  EN b Ow' G i σ' (e.set i (some (.lst (yss.map PV.lst)))) H' a cs yss/\Ex (KN b Ow a cs) H (KN b Ow' a cs) H':=by
 have st:∀ y∈a::cs,H' y=H y:=λy hy=>by
  obtain⟨o,h⟩:=E.live y hy
  rw[h]
  exact E'.same y o (by show (if y∈a::cs then H y else b.H0 y)=some o;rw[if_pos hy];exact h)
 have lv':∀ y∈a::cs,∃ o,H' y=some o:=λy hy=>by rw[st y hy];exact E.live y hy
 have x':Ex (KN b Ow a cs) H (KN b Ow' a cs) H':=λc o hc=>⟨λq=>by
  obtain⟨h1,h2⟩:=(x c o hc).1 ((vG E.live).mpr q)
  exact⟨h1,(vG E.live).mp h2⟩,(x c o hc).2⟩
 have hl:i < e.length:=by
  have h:=E'.fix i (.ref a) (by show (if i=i then _ else _)=_;rw[if_pos rfl])
  rw[← E'.len]
  rcases Nat.lt_or_ge i σ'.length with z | z
  ·exact z
  ·rw[List.getElem?_eq_none z] at h;cases h
 refine⟨⟨by rw[List.getElem?_set_self hl],by rw[st a List.mem_cons_self];exact E.top,E.nd,E.new,E.inn.ex x' λc hc=>st c (List.mem_cons_of_mem _ hc),?_⟩,x'⟩
 rw[M6 st,List.set_set]
 exact E'.forget i
theorem EN.up (E:EN b Ow G i σ env H a cs yss) (s:Same H H'):EN b Ow G i σ env H' a cs yss:=by
 have h:=(E.of (E.er.up s) (.of_same s)).1
 rw[List.set_set] at h
 have hl:i < env.length:=by
  rcases Nat.lt_or_ge i env.length with z | z
  ·exact z
  ·have:=E.val;rw[List.getElem?_eq_none z] at this;cases this
 have e:env.set i (some (.lst (yss.map PV.lst)))=env:=by
  refine List.ext_getElem? λj=>?_
  by_cases hj:i=j
  ·subst hj;rw[List.getElem?_set_self hl,E.val]
  ·rw[List.getElem?_set_ne hj]
 rw[e] at h
 exact h
theorem EN.out (E:EN b Ow G i σ env H a cs yss) (hi:i∉G) (hx:b.fx i=none):ER b Ow G σ env H:=by
 have no:=E.not_ow
 have w:Ex (KN b Ow a cs) H (Bs b Ow) H:=cM λc o _ q=>q.1
 have w':Ex (Bs (bn b i a cs H) Ow) H (Bs b Ow) H:=cM λc o _ q=>((vG E.live).mp q).1
 have back:∀ {j:Nat}{q:PV},i≠j->env[j]?=some (some q)->(env.set i none)[j]?=some (some q):=λ{j q} hj e=>by rw[List.getElem?_set_ne hj];exact e
 refine⟨by rw[E.er.len,List.length_set],λc o h=>E.er.same c o ?_,E.er.live,λc z=>?_,λj q e n=>?_,λj q e n=>?_,λj k c q q' e1 n1 s1 e2 n2 s2=>?_,λk v hv=>E.er.fix k v ?_⟩
 ·have hc:c∉a::cs:=λz=>by rw[E.new c z] at h;cases h
  show (if c∈a::cs then H c else b.H0 c)=some o
  rw[if_neg hc];exact h
 ·have h:=E.er.new c z
  have h':(if c∈a::cs then H c else b.H0 c)=none:=h
  rw[if_neg λy=>no c y z] at h'
  exact h'
 ·by_cases hj:i=j
  ·subst hj
   rw[E.val] at e
   cases e
   have ha:Bs b Ow a:=⟨no a List.mem_cons_self,.inr (E.new a List.mem_cons_self)⟩
   exact⟨_,E.slot,.lst E.top ha (E.inn.reps w λc hc=>⟨no c (List.mem_cons_of_mem _ hc),.inr (E.new c (List.mem_cons_of_mem _ hc))⟩)⟩
  ·obtain⟨v,h1,h2⟩:=E.er.val j q (back hj e) n
   exact⟨v,h1,h2.ex w'⟩
 ·have hj:i≠j:=λz=>hi (z▸n)
  obtain⟨c,h1,h2,h3⟩:=E.er.own j q (back hj e) n
  exact⟨c,h1,h2,h3.ex w' λo z=>z⟩
 ·have hj:i≠j:=λz=>hi (z▸n1)
  have hk:i≠k:=λz=>hi (z▸n2)
  exact E.er.sep j k c q q' (back hj e1) n1 s1 (back hk e2) n2 s2
 ·show (if k=i then some (V.ref a) else b.fx k)=some v
  rw[if_neg λz=>by rw[z,hx] at hv;cases hv]
  exact hv
end
end MR
namespace MR
open PySem L2
noncomputable def hid (i:Nat) (f:Env->Option Out) (env:Env):Option Out:=(f (env.set i none)).bind λo=>match o with
 | .nx e=>some (.nx (e.set i (env.getD i none)))
 | _=>none
@[simp] theorem QV (i:Nat) (f:Env->Option Out) (env:Env):hid i f env=((f (env.set i none)).bind λo=>match o with
 | .nx e=>some (.nx (e.set i (env.getD i none)))
 | _=>none):=id rfl
noncomputable def nIf (i:Nat) (c:Env->Option Bool) (f g:Env->Option Out) (env:Env):Option Out:=(c (env.set i none)).bind λk=>if k=true then f env else g env
@[simp] theorem QW (i:Nat) (c:Env->Option Bool) (f g:Env->Option Out) (env:Env):nIf i c f g env=((c (env.set i none)).bind λk=>if k=true then f env else g env):=id rfl
def gH (i:Nat) (g:PV->Env->Option Env) (p:PV) (env:Env):Option Env:=(g p (env.set i none)).map λe=>e.set i (env.getD i none)
@[simp] theorem Rn (i:Nat) (g:PV->Env->Option Env) (p:PV) (env:Env):gH i g p env=((g p (env.set i none)).map λe=>e.set i (env.getD i none)):=id rfl
noncomputable def onx (f:Env->Option Out) (env:Env):Option Out:=(f env).bind λo=>match o with
 | .nx e=>some (.nx e)
 | _=>none
@[simp] theorem QX (f:Env->Option Out) (env:Env):onx f env=((f env).bind λo=>match o with
 | .nx e=>some (.nx e)
 | _=>none):=id rfl
noncomputable def O9 (i:Nat) (g:PV->Env->Option Env) (src:Env->Option (List PV)) (ds:List Nat) (f:Env->Option Out) (env:Env):Option Out:=(src (env.set i none)).bind λxs=>bU (gH i g) ds (onx f) xs (clr ds env)
@[simp] theorem Qg (i:Nat) (g:PV->Env->Option Env) (src:Env->Option (List PV)) (ds:List Nat) (f:Env->Option Out) (env:Env):O9 i g src ds f env=((src (env.set i none)).bind λxs=>bU (gH i g) ds (onx f) xs (clr ds env)):=id rfl
@[simp] noncomputable def apV:PV->PV->PV->Option PV
 | .lst ws,.int k,p=>(ixN ws.length k).bind λj=>(ws[j]?).bind λw=>match w with
  | .lst ys=>if ys.length < 1000000 then some (.lst (ws.set j (.lst (ys++[p])))) else none
  | _=>none
 | _,_,_=>none
noncomputable def O_ (i:Nat) (f h:Env->Option PV) (env:Env):Option Out:=(bV i env).bind λx=>(f (env.set i none)).bind λk=>(h (env.set i none)).bind λp=>(apV x k p).bind λy=>some (.nx (env.set i (some y)))
@[simp] theorem Qh (i:Nat) (f h:Env->Option PV) (env:Env):O_ i f h env=((bV i env).bind λx=>(f (env.set i none)).bind λk=>(h (env.set i none)).bind λp=>(apV x k p).bind λy=>some (.nx (env.set i (some y)))):=id rfl
@[simp] noncomputable def newV:PV->Option PV
 | .lst ws=>if ws.length < 1000000 then some (.lst (ws++[.lst []])) else none
 | _=>none
noncomputable def Pa (i:Nat) (env:Env):Option Out:=(bV i env).bind λx=>(newV x).bind λy=>some (.nx (env.set i (some y)))
@[simp] theorem Qi (i:Nat) (env:Env):Pa i env=((bV i env).bind λx=>(newV x).bind λy=>some (.nx (env.set i (some y)))):=id rfl
section
variable {X:Cx}{b:BX}{G G' L:List Nat}{ro:Bool}{i:Nat}{st:Stmt}{rest:List Stmt}{f g:Env->Option Out}{e e1 e2:Expr}{h h1 h2:Env->Option PV}{m m1 m2:Md}{pos:Pos}
end
end MR
namespace MR
open PySem L2
section
variable {X:Cx}{b:BX}{G G' L:List Nat}{ro:Bool}{i:Nat}{st:Stmt}{rest:List Stmt}{f g:Env->Option Out}{e e1 e2:Expr}{h h1 h2:Env->Option PV}{m m1 m2:Md}{pos:Pos}
theorem tZ:∀ {ds:List Nat}{env:Env}{i:Nat},i∉ds->(clr ds env)[i]?=env[i]?
 | [],_,_,_=>rfl
 | d::ds,env,i,h=>by
  rw[List.mem_cons,not_or] at h
  show (clr ds (env.set d none))[i]?=_
  rw[tZ h.2,List.getElem?_set_ne (Ne.symm h.1)]
theorem t_:∀ {ds:List Nat}{env:Env}{i:Nat}{v:Option PV},i∉ds->(clr ds env).set i v=clr ds (env.set i v)
 | [],_,_,_,_=>rfl
 | d::ds,env,i,v,h=>by
  rw[List.mem_cons,not_or] at h
  show (clr ds (env.set d none)).set i v=clr ds ((env.set i v).set d none)
  rw[t_ h.2,List.set_comm _ _ (Ne.symm h.1)]
theorem EN.clr {Ow:Addr->Prop}{σ:St}{env:Env}{H:Hp}{a:Addr}{cs:List Addr}{yss:List (List PV)}{ds:List Nat}(E:EN b Ow G i σ env H a cs yss) (hd:i∉ds):EN b Ow G i σ (clr ds env) H a cs yss:=
 ⟨by rw[tZ hd];exact E.val,E.top,E.nd,E.new,E.inn,by rw[t_ hd];exact E.er.clr⟩
end
end MR
namespace MR
open PySem L2
section
variable {X:Cx}{b:BX}{G G' L:List Nat}{ro:Bool}{i:Nat}{st:Stmt}{rest:List Stmt}{f g:Env->Option Out}{e e1 e2:Expr}{h h1 h2:Env->Option PV}{m m1 m2:Md}{pos:Pos}
end
end MR
namespace MR
open PySem L2
noncomputable def M7 (i n:Nat) (env:Env):Option Out:=if i < env.length/\n<=1000 then some (.nx (env.set i (some (.lst (List.replicate n (.lst [])))))) else none
@[simp] theorem Pb (i n:Nat) (env:Env):M7 i n env=if i < env.length/\n<=1000 then some (.nx (env.set i (some (.lst (List.replicate n (.lst [])))))) else none:=id rfl
section
variable {X:Cx}{b:BX}{G G' L:List Nat}{ro:Bool}{i n:Nat}{st:Stmt}{es:List Expr}{rest:List Stmt}{f g:Env->Option Out}{e e1 e2:Expr}{h h1 h2:Env->Option PV}{m m1 m2:Md}{pos:Pos}
theorem EN.start {Ow:Addr->Prop}{σ:St}{env:Env}{H H2:Hp}{a:Addr}{cs:List Addr}(E:ER b Ow G σ env H) (hl:i < env.length) (nd:cs.Nodup) (hc:∀ c∈cs,H c=none/\H2 c=some (.lst [])) (ho:∀ x,x∉cs->H2 x=H x) (ha:H2 a=none) (hG:i∉G) (hxi:b.fx i=none):
  EN b Ow G i (σ.set i (some (.ref a))) (env.set i (some (.lst (List.replicate cs.length (.lst []))))) (upd H2 a (.lst (cs.map V.ref))) a cs (List.replicate cs.length [])/\Ex (Bs b Ow) H (KN b Ow a cs) (upd H2 a (.lst (cs.map V.ref))):=by
 have nac:a∉cs:=λz=>by rw[(hc a z).2] at ha;cases ha
 have hHa:H a=none:=by rw[← ho a nac];exact ha
 have hnone:∀ x∈a::cs,H x=none:=λx hx=>by
  rcases List.mem_cons.mp hx with z | z
  ·rw[z];exact hHa
  ·exact(hc x z).1
 have st:∀ x o,H x=some o->(upd H2 a (.lst (cs.map V.ref))) x=some o:=λx o q=>by
  have z:x∉a::cs:=λy=>by rw[hnone x y] at q;cases q
  rw[List.mem_cons,not_or] at z
  rw[aH z.1,ho x z.2];exact q
 have lv':∀ x∈a::cs,∃ o,(upd H2 a (.lst (cs.map V.ref))) x=some o:=λx hx=>by
  rcases List.mem_cons.mp hx with z | z
  ·rw[z];exact⟨_,aU⟩
  ·rw[aH (λq:x=a=>nac (q▸z))];exact⟨_,(hc x z).2⟩
 have xk:Ex (Bs b Ow) H (KN b Ow a cs) (upd H2 a (.lst (cs.map V.ref))):=λc o q=>⟨λw=>⟨st c o q,w,λy=>by rw[hnone c y] at q;cases q⟩,λ_=>st c o q⟩
 have xb:Ex (Bs b Ow) H (Bs (bn b i a cs (upd H2 a (.lst (cs.map V.ref)))) Ow) (upd H2 a (.lst (cs.map V.ref))):=λc o q=>⟨λw=>⟨st c o q,(vG lv').mpr ((xk c o q).1 w).2⟩,λ_=>st c o q⟩
 have nw:∀ x∈a::cs,b.H0 x=none:=λx hx=>E.same.free (hnone x hx)
 have now:∀ x∈a::cs,¬ Ow x:=λx hx w=>by obtain⟨o,q⟩:=E.live x w;rw[hnone x hx] at q;cases q
 have inn:∀ ds:List Addr,(∀ c∈ds,c∈cs)->Inn b.C (KN b Ow a cs) (upd H2 a (.lst (cs.map V.ref))) ds (List.replicate ds.length []):=λds=>by
  induction ds with
  | nil=>exact λ_=>.nil
  | cons d ds ih=>
   intro hd
   have hdc:=hd d List.mem_cons_self
   exact .cons (by rw[aH (λq:d=a=>nac (q▸hdc))];exact(hc d hdc).2) .nil (ih λc z=>hd c (List.mem_cons_of_mem _ z))
 have back:∀ {j:Nat}{q:PV},(env.set i none)[j]?=some (some q)->i≠j/\env[j]?=some (some q):=λ{j q} e=>by
  by_cases hj:i=j
  ·subst hj
   rw[List.getElem?_set_self hl] at e;cases e
  ·rw[List.getElem?_set_ne hj] at e;exact⟨hj,e⟩
 refine⟨⟨by rw[List.getElem?_set_self hl,List.map_replicate],aU,List.nodup_cons.mpr ⟨nac,nd⟩,nw,inn cs λ_ z=>z,?_⟩,xk⟩
 rw[List.set_set]
 refine⟨by rw[List.length_set,List.length_set];exact E.len,λc o q=>?_,λc w=>?_,λc w=>?_,λj q e n=>?_,λj q e n=>?_,λj k c q q' e1 n1 s1 e2 n2 s2=>?_,λk v hv=>?_⟩
 ·have q':(if c∈a::cs then (upd H2 a (.lst (cs.map V.ref))) c else b.H0 c)=some o:=q
  by_cases z:c∈a::cs
  ·rw[if_pos z] at q';exact q'
  ·rw[if_neg z] at q';exact st c o (E.same c o q')
 ·obtain⟨o,q⟩:=E.live c w
  exact⟨o,st c o q⟩
 ·show (if c∈a::cs then (upd H2 a (.lst (cs.map V.ref))) c else b.H0 c)=none
  rw[if_neg λz=>now c z w];exact E.new c w
 ·obtain⟨hj,e'⟩:=back e
  obtain⟨v,z1,z2⟩:=E.val j q e' n
  exact⟨v,by rw[List.getElem?_set_ne hj];exact z1,z2.ex xb⟩
 ·obtain⟨hj,e'⟩:=back e
  obtain⟨c,z1,z2,z3⟩:=E.own j q e' n
  exact⟨c,by rw[List.getElem?_set_ne hj];exact z1,z2,z3.ex xb λo y=>st c o y⟩
 ·obtain⟨hj,e1'⟩:=back e1
  obtain⟨hk,e2'⟩:=back e2
  rw[List.getElem?_set_ne hj] at s1
  rw[List.getElem?_set_ne hk] at s2
  exact E.sep j k c q q' e1' n1 s1 e2' n2 s2
 ·have hv':(if k=i then some (V.ref a) else b.fx k)=some v:=hv
  by_cases hk:k=i
  ·rw[if_pos hk] at hv'
   cases hv'
   rw[hk,List.getElem?_set_self (by rw[E.len];exact hl)]
  ·rw[if_neg hk] at hv'
   rw[List.getElem?_set_ne (Ne.symm hk)]
   exact E.fix k v hv'
def PostK (b:BX) (A:Addr->Prop) (H:Hp) (G L:List Nat) (ro:Bool) (D:Ends):Out->Prop
 | .nx e=>∀ Ow' σ' H',ER b Ow' G σ' e H'->Ex A H (Bs b Ow') H'->D.nx σ' H'
 | .bk e=>∀ Ow' σ' H',ER b Ow' L σ' e H'->Ex A H (Bs b Ow') H'->D.bk σ' H'
 | .ct e=>∀ Ow' σ' H',ER b Ow' L σ' e H'->Ex A H (Bs b Ow') H'->D.ct σ' H'
 | .rt p=>∀ v H',Same b.H0 H'->Ret b.C b.A b.H0 ro H' v p->D.rt v H'
theorem PostK.ex {A A':Addr->Prop}{H H':Hp}{D:Ends}{o:Out}(e:Ex A H A' H') (p:PostK b A H G L ro D o):PostK b A' H' G L ro D o:=by
 cases o with
 | nx e'=>exact λOw' σ' H2 E x=>p Ow' σ' H2 E (e.trans x)
 | bk e'=>exact λOw' σ' H2 E x=>p Ow' σ' H2 E (e.trans x)
 | ct e'=>exact λOw' σ' H2 E x=>p Ow' σ' H2 E (e.trans x)
 | rt p'=>exact p
end
end MR
namespace MR
open PySem L2
noncomputable def gL (is:List Nat) (p:PV) (env:Env):Option Env:=match p with
 | .lst xs=>gNs is xs env
 | _=>none
@[simp] theorem Ro (is:List Nat) (p:PV) (env:Env):gL is p env=(match p with
 | .lst xs=>gNs is xs env
 | _=>none):=id rfl
section
variable {X:Cx}{b:BX}{G G' L:List Nat}{pos:Pos}
end
end MR
namespace MR
open PySem L2
def ba (b:BX) (G:List Nat) (i j:Nat) (a:Addr):BX:=⟨b.C,b.A,b.H0,λk=>if (k == i||(G.elem k&&k == j))=true then some (.ref a) else b.fx k⟩
theorem Ed {b:BX}{G:List Nat}{i j:Nat}{a:Addr}:(ba b G i j a).fx i=some (.ref a):=by
 show (if (i == i||(G.elem i&&i == j))=true then _ else _)=_
 rw[if_pos (by simp)]
theorem J_ {b:BX}{G:List Nat}{i j:Nat}{a:Addr}(h:j∈G):(ba b G i j a).fx j=some (.ref a):=by
 show (if (j == i||(G.elem j&&j == j))=true then _ else _)=_
 rw[if_pos (by simp[h])]
theorem Pg {b:BX}{G:List Nat}{i j k:Nat}{a:Addr}(h1:k≠i) (h2:k≠j):(ba b G i j a).fx k=b.fx k:=by
 show (if (k == i||(G.elem k&&k == j))=true then _ else _)=_
 rw[if_neg (by simp[h1,h2])]
structure EA (b:BX) (Ow:Addr->Prop) (G:List Nat) (i:Nat) (σ:St) (env:Env) (H:Hp) (j:Nat) (a:Addr):Prop where
 idx:env[i]?=some (some (.int (j:Nat)))
 mem:j∈G
 er:ER (ba b G i j a) Ow G σ (env.set i none) H
def Ph (i j:Nat) (env:Env):Option Out:=(bV j env).bind λ_=>if i < env.length then some (.nx (env.set i (some (.int (j:Nat))))) else none
@[simp] theorem Qj (i j:Nat) (env:Env):Ph i j env=((bV j env).bind λ_=>if i < env.length then some (.nx (env.set i (some (.int (j:Nat))))) else none):=id rfl
def Pj (i:Nat) (h:Env->Option PV) (env:Env):Option Out:=(bV i env).bind λx=>match x with
 | .int j=>(bV j.toNat (env.set i none)).bind λy=>(h (env.set i none)).bind λp=>(pA y p).bind λz=>some (.nx (env.set j.toNat (some z)))
 | _=>none
@[simp] theorem Qk (i:Nat) (h:Env->Option PV) (env:Env):Pj i h env=((bV i env).bind λx=>match x with
 | .int j=>(bV j.toNat (env.set i none)).bind λy=>(h (env.set i none)).bind λp=>(pA y p).bind λz=>some (.nx (env.set j.toNat (some z)))
 | _=>none):=id rfl
section
variable {X:Cx}{b:BX}{G G' L:List Nat}{ro:Bool}{i:Nat}{st:Stmt}{rest:List Stmt}{f g:Env->Option Out}{e e1 e2:Expr}{h h1 h2:Env->Option PV}{m m1 m2:Md}{pos:Pos}
variable {Ow Ow':Addr->Prop}{σ σ':St}{env env':Env}{H H':Hp}{j:Nat}{a:Addr}
theorem EA.len (E:EA b Ow G i σ env H j a):i < env.length:=by
 rcases Nat.lt_or_ge i env.length with z | z
 ·exact z
 ·have:=E.idx;rw[List.getElem?_eq_none z] at this;cases this
theorem EA.slot (E:EA b Ow G i σ env H j a):σ[i]?=some (some (.ref a))/\σ[j]?=some (some (.ref a)):=
 ⟨E.er.fix i _ Ed,E.er.fix j _ (J_ E.mem)⟩
theorem EA.of (E:EA b Ow G i σ env H j a) (E':ER (ba b G i j a) Ow' G σ' env' H'):EA b Ow' G i σ' (env'.set i (some (.int (j:Nat)))) H' j a:=by
 have hl:i < env'.length:=by
  have q:=E'.fix i (.ref a) Ed
  rw[← E'.len]
  rcases Nat.lt_or_ge i σ'.length with z | z
  ·exact z
  ·rw[List.getElem?_eq_none z] at q;cases q
 exact⟨by rw[List.getElem?_set_self hl],E.mem,by rw[List.set_set];exact E'.forget i⟩
theorem EA.up (E:EA b Ow G i σ env H j a) (s:Same H H'):EA b Ow G i σ env H' j a:=⟨E.idx,E.mem,E.er.up s⟩
theorem EA.clr {ds:List Nat}(E:EA b Ow G i σ env H j a) (hd:i∉ds):EA b Ow G i σ (clr ds env) H j a:=⟨by rw[tZ hd];exact E.idx,E.mem,by rw[t_ hd];exact E.er.clr⟩
end
end MR
namespace MR
open PySem L2
section
variable {X:Cx}{b:BX}{G G' L:List Nat}{ro:Bool}{i:Nat}{st:Stmt}{rest:List Stmt}{f g:Env->Option Out}{e e1 e2:Expr}{h h1 h2:Env->Option PV}{m m1 m2:Md}{pos:Pos}
theorem EA.start {Ow:Addr->Prop}{σ:St}{env:Env}{H:Hp}{j:Nat}{p:PV}(E:ER b Ow G σ env H) (hl:i < env.length) (hj:j∈G) (hp:env[j]?=some (some p)) (hi:i∉G) (hx:∀ k v,b.fx k=some v->k≠i/\k∉G):
  ∃ a,σ[j]?=some (some (.ref a))/\EA b Ow G i (σ.set i (some (.ref a))) (env.set i (some (.int (j:Nat)))) H j a:=by
 obtain⟨a,e1,w,t⟩:=E.own j p hp hj
 have hij:i≠j:=λz=>hi (z▸hj)
 refine⟨a,e1,by rw[List.getElem?_set_self hl],hj,?_⟩
 rw[List.set_set]
 have hls:i < σ.length:=by rw[E.len];exact hl
 have back:∀ {k:Nat}{q:PV},(env.set i none)[k]?=some (some q)->i≠k/\env[k]?=some (some q):=λ{k q} e=>by
  by_cases hk:i=k
  ·subst hk;rw[List.getElem?_set_self hl] at e;cases e
  ·rw[List.getElem?_set_ne hk] at e;exact⟨hk,e⟩
 refine⟨by rw[List.length_set,List.length_set];exact E.len,E.same,E.live,E.new,λk q eq n=>?_,λk q eq n=>?_,λk k' c q q' e1 n1 s1 e2 n2 s2=>?_,λk v hv=>?_⟩
 ·obtain⟨hk,e'⟩:=back eq
  obtain⟨v,z1,z2⟩:=E.val k q e' n
  exact⟨v,by rw[List.getElem?_set_ne hk];exact z1,z2⟩
 ·obtain⟨hk,e'⟩:=back eq
  obtain⟨c,z1,z2,z3⟩:=E.own k q e' n
  exact⟨c,by rw[List.getElem?_set_ne hk];exact z1,z2,z3⟩
 ·obtain⟨hk,e1'⟩:=back e1
  obtain⟨hk',e2'⟩:=back e2
  rw[List.getElem?_set_ne hk] at s1
  rw[List.getElem?_set_ne hk'] at s2
  exact E.sep k k' c q q' e1' n1 s1 e2' n2 s2
 ·by_cases hk:k=i
  ·subst hk
   rw[Ed] at hv
   cases hv
   rw[List.getElem?_set_self hls]
  ·rw[List.getElem?_set_ne (Ne.symm hk)]
   by_cases hkj:k=j
   ·subst hkj
    rw[J_ hj] at hv
    cases hv
    exact e1
   ·rw[Pg hk hkj] at hv
    exact E.fix k v hv
def Pk (i:Nat) (g:Env->Option Out) (env:Env):Option Out:=g (env.set i none)
@[simp] theorem Ql (i:Nat) (g:Env->Option Out) (env:Env):Pk i g env=g (env.set i none):=id rfl
end
end MR
namespace MR
open PySem L2
@[simp] def QZ:PV->PV->Option PV
 | .int i,.int j=>if 0<=i/\i<=j/\j<=1000000 then some (.lst ((List.range' i.toNat (j - i).toNat).map λk=>.int (k:Nat))) else none
 | _,_=>none
section
variable {X:Cx}{b:BX}{G:List Nat}{pos p p2 pos2:Pos}{m1 m2:Md}{e1 e2:Expr}{f1 f2:Env->Option PV}
end
end MR
namespace MR
open PySem L2
@[simp] noncomputable def Rp:PV->PV->PV->Option PV
 | .dK kvs,y,z=>(keyOf y).map λk=>(il kvs k).getD z
 | .dT kvs,.tup ys,z=>(keysB ys).map λk=>(il kvs k).getD z
 | _,_,_=>none
section
variable {X:Cx}{b:BX}{G:List Nat}{apos cpos:Pos}{m1 m2:Md}{e1 e2 e3:Expr}{f1 f2 f3:Env->Option PV}
end
end MR
namespace MR
open PySem L2
def numT:List (Str×Int):=[("0",0),("1",1),("2",2),("3",3),("4",4),("5",5),("6",6),("7",7),("8",8),("9",9),("10",10),("11",11),("12",12),("13",13)]
def numOf (x:Str):Option Int:=(numT.find? λz=>decide (z.1=x)).map λz=>z.2
def M8 (i:Int):Option Str:=(numT.find? λz=>decide (z.2=i)).map λz=>z.1
@[simp] def Rq:PV->Option PV
 | .int i=>some (.int i)
 | .bl k=>some (.int (if k then 1 else 0))
 | .str x=>(numOf x).map .int
 | _=>none
@[simp] def RM:PV->Option PV
 | .int i=>(M8 i).map .str
 | .str x=>some (.str x)
 | _=>none
@[simp] def Q0:PV->Option PV
 | .str x=>if x = "abcdefghijklmnopqrstuvwxyz" then some (.str "ABCDEFGHIJKLMNOPQRSTUVWXYZ") else none
 | _=>none
def Ka:PV->Option String
 | .ktp _=>some "tuple"
 | p=>tyN p
def M9 (tb:List (String×Bool)) (p:PV):Option PV:=(Ka p).bind λt=>(tb.lookup t).bind λk=>some (.bl k)
@[simp] theorem Pn (tb:List (String×Bool)) (p:PV):M9 tb p=((Ka p).bind λt=>(tb.lookup t).bind λk=>some (.bl k)):=id rfl
section
variable {X:Cx}{b:BX}{G:List Nat}{p pos:Pos}{m1:Md}{e:Expr}{f:Env->Option PV}
end
end MR
namespace L2
open PySem PySem.Spec PyProof PyProof.Rows
def Pq:List Int->Int
 | []=>0
 | a::l=>l.foldl (λm x=>if m < x then x else m) a
section
variable {X:Cx}
end
end L2
namespace MR
open PySem L2
section
variable {X:Cx}{b:BX}{G:List Nat}{pos p:Pos}{m1:Md}{e:Expr}{f:Env->Option PV}
@[simp] def Rr:PV->Option PV
 | .lst (x::xs)=>(intsP (x::xs)).map λns=>.int (Pq ns)
 | _=>none
end
end MR
namespace MR
open PySem L2
@[simp] noncomputable def Rt:PV->PV->Option PV
 | .lst xs,.lst ys=>if ys.length=xs.length then some (.lst (List.zipWith (λa c=>.tup [a,c]) xs ys)) else none
 | _,_=>none
@[simp] noncomputable def Ru:PV->PV->Option PV
 | .tup ys,v=>if dG v=true then (keysB ys).map λk=>.dT [(k,v)] else none
 | .ktp ys,v=>if dG v=true then (keysB ys).map λk=>.dT [(k,v)] else none
 | _,_=>none
def kP:Key->PV
 | .inl i=>.int i
 | .inr x=>.str x
@[simp] noncomputable def Gb:PV->Option (List PV)
 | .dT kvs=>if (kvs.all λkv=>kv.1.length != 2)=true then some (kvs.map λkv=>.tup (kv.1.map kP)) else none
 | _=>none
noncomputable def iK (f:Env->Option PV) (env:Env):Option (List PV):=(f env).bind Gb
@[simp] theorem Rv (f:Env->Option PV) (env:Env):iK f env=((f env).bind Gb):=id rfl
@[simp] noncomputable def Rw:PV->PV->PV->Option PV
 | .dT kvs,.ktp ys,z=>(keysB ys).map λk=>(il kvs k).getD z
 | _,_,_=>none
section
variable {X:Cx}{b:BX}{G:List Nat}{apos cpos p p2 pos pos2:Pos}{m m1 m2:Md}{e e1 e2 e3:Expr}{f f1 f2 f3:Env->Option PV}
end
end MR
namespace MR
open PySem L2
def asL:List PV->Option (List (List PV))
 | []=>some []
 | .lst ys::r=>(asL r).map λl=>ys::l
 | _=>none
section
variable {X:Cx}{b:BX}{G G' G1 L:List Nat}{ro:Bool}{i j n:Nat}{st s1 s2:Stmt}{es:List Expr}{rest:List Stmt}{f g f1 f2:Env->Option Out}{e e1 e2 e3:Expr}{h h1 h2 h3:Env->Option PV}{m m1 m2:Md}{pos:Pos}
def M_ (i j:Nat) (f1 f2:Env->Option Out) (env:Env):Option Out:=(f1 (env.set i none)).bind λo1=>match o1 with
 | .nx e1=>(f2 e1).bind λo2=>match o2 with
  | .nx e2=>(bV j e2).bind λy=>(bV i env).bind λx=>match y,x with
   | .lst ys,.lst ws=>if ws.length < 1000000 then some (.nx ((e2.set j none).set i (some (.lst (ws++[.lst ys]))))) else none
   | _,_=>none
  | _=>none
 | _=>none
@[simp] theorem Pr (i j:Nat) (f1 f2:Env->Option Out) (env:Env):M_ i j f1 f2 env=((f1 (env.set i none)).bind λo1=>match o1 with
 | .nx e1=>(f2 e1).bind λo2=>match o2 with
  | .nx e2=>(bV j e2).bind λy=>(bV i env).bind λx=>match y,x with
   | .lst ys,.lst ws=>if ws.length < 1000000 then some (.nx ((e2.set j none).set i (some (.lst (ws++[.lst ys]))))) else none
   | _,_=>none
  | _=>none
 | _=>none):=id rfl
theorem EN.same {Ow:Addr->Prop}{σ:St}{env:Env}{H:Hp}{a:Addr}{cs:List Addr}{yss:List (List PV)}(E:EN b Ow G i σ env H a cs yss):Same b.H0 H:=λc o q=>E.er.same c o (by
 show (if c∈a::cs then H c else b.H0 c)=some o
 rw[if_neg λz=>by rw[E.new c z] at q;cases q];exact q)
def Nb (i:Nat) (mi:List PV->Option PV) (ga:Env->Option (List PV)) (env:Env):Option Out:=(ga env).bind λqs=>(mi qs).bind λp=>match p with
 | .lst ws=>(asL ws).bind λ_=>if i < env.length then some (.nx (env.set i (some (.lst ws)))) else none
 | _=>none
@[simp] theorem Pu (i:Nat) (mi:List PV->Option PV) (ga:Env->Option (List PV)) (env:Env):Nb i mi ga env=((ga env).bind λqs=>(mi qs).bind λp=>match p with
 | .lst ws=>(asL ws).bind λ_=>if i < env.length then some (.nx (env.set i (some (.lst ws)))) else none
 | _=>none):=id rfl
end
end MR
namespace MR
open PySem L2
section
variable {X:Cx}{b:BX}{G G' L:List Nat}{i j:Nat}{e1 e2 e3:Expr}{h1 h2 h3:Env->Option PV}{pos pos2:Pos}
@[simp] def atL:PV->PV->Option (Nat×List PV)
 | .lst ws,.int k=>(ixN ws.length k).bind λp=>(ws[p]?).bind λw=>match w with
  | .lst ys=>some (p,ys)
  | _=>none
 | _,_=>none
@[simp] def puL:PV->Nat×List PV->PV->PV->Option PV
 | .lst ws,(p,ys),.int n,q=>(ixN ys.length n).bind λm=>some (.lst (ws.set p (.lst (ys.set m q))))
 | _,_,_,_=>none
def Px (i j:Nat) (h1 h2 h3:Env->Option PV) (env:Env):Option Out:=(bV i env).bind λx=>(h1 env).bind λk=>(atL x k).bind λw=>(h3 ((env.set j none).set i none)).bind λq=>(h2 (env.set j (some (.lst w.2)))).bind λn=>(puL x w n q).bind λy=>if j < env.length then some (.nx ((env.set j none).set i (some y))) else none
@[simp] theorem Qm (i j:Nat) (h1 h2 h3:Env->Option PV) (env:Env):Px i j h1 h2 h3 env=((bV i env).bind λx=>(h1 env).bind λk=>(atL x k).bind λw=>(h3 ((env.set j none).set i none)).bind λq=>(h2 (env.set j (some (.lst w.2)))).bind λn=>(puL x w n q).bind λy=>if j < env.length then some (.nx ((env.set j none).set i (some y))) else none):=id rfl
end
end MR
namespace MR
open PySem L2
@[simp] noncomputable def BK:PV->Option (List PV)
 | .dT kvs=>if (kvs.all λkv=>kv.1.length != 2)=true then some (kvs.map λkv=>.tup [.tup (kv.1.map kP),kv.2]) else none
 | _=>none
noncomputable def iDi (f:Env->Option PV) (env:Env):Option (List PV):=(f env).bind BK
@[simp] theorem Q3 (f:Env->Option PV) (env:Env):iDi f env=((f env).bind BK):=id rfl
section
variable {X:Cx}{b:BX}{G:List Nat}{apos cpos:Pos}{m:Md}{e:Expr}{f:Env->Option PV}
theorem RepT.get {C:MC}{A:Addr->Prop}{H:Hp}:∀ {vs:List (List Key×V)}{ps:List (List Key×PV)}{i:Nat}{w:List Key×PV},RepT C A H vs ps->ps[i]?=some w->∃ v,vs[i]?=some (w.1,v)/\Rep C A H v w.2
 | _,_,i,w,.nil,h=>by simp at h
 | _,_,0,w,.cons r t,h=>by simp at h;subst h;exact⟨_,rfl,r⟩
 | _,_,i+1,w,.cons r t,h=>by
  obtain⟨v,h1,h2⟩:=RepT.get (i:=i) t (by simpa using h)
  exact⟨v,by simpa using h1,h2⟩
end
end MR
namespace MR
open PySem L2
section
variable {X:Cx}{b:BX}{G G' L:List Nat}{pos p p2 pos2:Pos}{m m1 m2:Md}{e1 e2:Expr}{f1 f2:Env->Option PV}
@[simp] noncomputable def RN:PV->PV->Option PV
 | .tup [.lst xs,.lst xs'],.tup [.lst ys,.lst ys']=>(intsP xs).bind λns=>(intsP xs').bind λns'=>(intsP ys).bind λms=>(intsP ys').bind λms'=>some (.bl (HT.ltTwo ns ns' ms ms'))
 | _,_=>none
end
end MR
namespace My
open PySem L2 MR
@[simp] theorem Qn (i j:Int):eqP (.int i) (.int j)=some (decide (i=j)):=rfl
@[simp] theorem yh (i j:Str):eqP (.str i) (.str j)=some (decide (i=j)):=rfl
@[simp] theorem Q4 (i j:Bool):eqP (.bl i) (.bl j)=some (decide (i=j)):=rfl
theorem p6 {α:Type}{xs:List α}{i:Int}(h0:0<=i) (h1:i < xs.length):atI xs i=xs[i.toNat]?:=by
 unfold atI ixN
 rw[if_pos h0,if_pos h1]
 rfl
theorem bZ {α:Type}{xs:List α}{k:Nat}{x:α}(h:xs[k]?=some x):atI xs (k:Int)=some x:=GF h
section
variable {α:Type}{env:MR.Env}{g:PV->MR.Env->Option MR.Env}{t:MR.Env->Option Bool}{f:MR.Env->Option PV}
theorem b_ (c h:α->PV):∀ (ys:List α),(∀ y∈ys,∃ e,g (c y) env=some e/\f e=some (h y))->bO env g bJ f (ys.map c)=some (ys.map h)
 | [],_=>rfl
 | y::ys,hh=>by
  obtain⟨e,h1,h2⟩:=hh y List.mem_cons_self
  have ih:=b_ c h ys λz hz=>hh z (List.mem_cons_of_mem _ hz)
  simp[bO,h1,h2,ih]
theorem d9 (c h:α->PV) (p:α->Bool):∀ (ys:List α),(∀ y∈ys,∃ e,g (c y) env=some e/\t e=some (p y)/\(p y=true->f e=some (h y)))->bO env g t f (ys.map c)=some ((ys.filter p).map h)
 | [],_=>rfl
 | y::ys,hh=>by
  obtain⟨e,h1,h2,h3⟩:=hh y List.mem_cons_self
  have ih:=d9 c h p ys λz hz=>hh z (List.mem_cons_of_mem _ hz)
  cases hp:p y with
  | true=>simp[bO,h1,h2,h3 hp,ih,hp]
  | false=>simp[bO,h1,h2,ih,hp]
theorem rN {S:Type}{ds:List Nat}{body:MR.Env->Option Out}(c:α->PV) (E:S->MR.Env) (step:S->α->S):∀ (ys:List α) (s:S),(∀ y∈ys,∀ s,∃ e1 e2,g (c y) (E s)=some e1/\body e1=some (.nx e2)/\clr ds e2=E (step s y))->
  bU g ds body (ys.map c) (E s)=some (.nx (E (ys.foldl step s)))
 | [],s,_=>rfl
 | y::ys,s,hh=>by
  obtain⟨e1,e2,h1,h2,h3⟩:=hh y List.mem_cons_self s
  have ih:=rN c E step ys (step s y) λz hz=>hh z (List.mem_cons_of_mem _ hz)
  simp[bU,h1,h2,h3,ih]
theorem rO {ds:List Nat}{body:MR.Env->Option Out}(c:α->PV):∀ (ys:List α),(∀ y∈ys,∃ e1 e2,g (c y) env=some e1/\body e1=some (.nx e2)/\clr ds e2=env)->bU g ds body (ys.map c) env=some (.nx env)
 | [],_=>rfl
 | y::ys,hh=>by
  obtain⟨e1,e2,h1,h2,h3⟩:=hh y List.mem_cons_self
  have ih:=rO c ys λz hz=>hh z (List.mem_cons_of_mem _ hz)
  simp[bU,h1,h2,h3,ih]
end
theorem uM {α:Type}(c:α->PV):∀ (ys:List α) (n:Nat),eO n (ys.map c)=(ys.zipIdx n).map λy=>.tup [.int (y.2:Nat),c y.1]
 | [],_=>rfl
 | y::ys,n=>by simp[eO,uM c ys]
def sdP (ks:List Str):List (Key×PV):=ks.map λx=>((Sum.inr x:Key),PV.bl true)
theorem rP (ks:List Str):(sdP ks).length=ks.length:=by simp[sdP]
theorem wy (x:Str):∀ ks:List Str,il (sdP ks) (Sum.inr x:Key)=if x∈ks then some (.bl true) else none
 | []=>rfl
 | k::r=>by
  have ih:=wy x r
  unfold il at ih ⊢
  show ((((Sum.inr k:Key),PV.bl true)::sdP r).find? _).map _=_
  by_cases h:k=x
  ·subst h;simp
  ·have h':¬ x=k:=λe=>h e.symm
   have hk:¬ (Sum.inr k:Key)=Sum.inr x:=λe=>h (Sum.inr.inj e)
   rw[List.find?_cons_of_neg (by simpa using hk),ih]
   simp[h']
theorem BL (x:Str) (ks:List Str):inP (.str x) (.dK (sdP ks))=some (decide (x∈ks)):=by
 simp only[inP,keyOf,Option.map_some,wy]
 by_cases h:x∈ks <;> simp[h]
def kh (ks:List Str) (x:Str):List Str:=if x∈ks then ks else ks++[x]
theorem Hh (ks:List Str) (x:Str):my (sdP ks) (Sum.inr x:Key) (.bl true)=sdP (kh ks x):=by
 have hany:((sdP ks).any λkv=>decide (kv.1=(Sum.inr x:Key)))=decide (x∈ks):=by
  unfold sdP
  rw[List.any_map]
  induction ks with
  | nil=>simp
  | cons k r ih=>
   rw[List.any_cons,ih]
   by_cases h:k=x
   ·subst h;simp
   ·have h':¬ x=k:=λe=>h e.symm
    simp[h,h']
 unfold my kh
 rw[hany]
 by_cases h:x∈ks
 ·rw[if_pos (by simpa using h),if_pos h]
  unfold sdP
  rw[List.map_map]
  refine List.map_congr_left λy _=>?_
  by_cases e:y=x
  ·subst e;simp
  ·have:¬ (Sum.inr y:Key)=Sum.inr x:=λz=>e (Sum.inr.inj z)
   simp[this]
 ·rw[if_neg (by simpa using h),if_neg h]
  unfold sdP
  simp
def iJ (ks ws:List Str):List Str:=ws.foldl kh ks
def dO (kind:Str) (ks:List Str):List Str->List Str
 | c::r=>if c=kind then iJ ks r else ks
 | []=>ks
def tell (kind:Str) (rs:List (List Str)):List Str:=rs.foldl (dO kind) []
theorem wz (ks:List Str) (x:Str):(kh ks x).length<=ks.length+1:=by
 unfold kh;split <;> simp
theorem pD:∀ (ws ks:List Str),(iJ ks ws).length<=ks.length+ws.length
 | [],ks=>Nat.le_refl _
 | x::r,ks=>by
  have h1:=pD r (kh ks x)
  have h2:=wz ks x
  show (iJ (kh ks x) r).length<=ks.length+(r.length+1)
  omega
theorem Ef {ks:List Str}{x y:Str}:y∈kh ks x↔y∈ks\/y=x:=by
 unfold kh
 by_cases h:x∈ks
 ·rw[if_pos h]
  constructor
  ·exact .inl
  ·rintro (z | z)
   ·exact z
   ·rw[z];exact h
 ·rw[if_neg h];simp
theorem uN {y:Str}:∀ {ws ks:List Str},y∈iJ ks ws↔y∈ks\/y∈ws
 | [],ks=>by simp[iJ]
 | x::r,ks=>by
  show y∈iJ (kh ks x) r↔_
  rw[uN,Ef,List.mem_cons,or_assoc]
theorem uO {kind y:Str}:∀ {rs:List (List Str)}{ks:List Str},y∈rs.foldl (dO kind) ks↔y∈ks\/∃ r,(kind::r)∈rs/\y∈r
 | [],ks=>by simp
 | ws::rs,ks=>by
  rw[List.foldl_cons,uO]
  cases ws with
  | nil=>simp[dO]
  | cons c r=>
   show (y∈(if c=kind then iJ ks r else ks)\/_)↔_
   by_cases h:c=kind
   ·subst h
    rw[if_pos rfl,uN]
    constructor
    ·rintro ((z | z) | ⟨r',h1,h2⟩)
     ·exact .inl z
     ·exact .inr ⟨r,List.mem_cons_self,z⟩
     ·exact .inr ⟨r',List.mem_cons_of_mem _ h1,h2⟩
    ·rintro (z | ⟨r',h1,h2⟩)
     ·exact .inl (.inl z)
     ·rcases List.mem_cons.mp h1 with e | e
      ·obtain⟨_,rfl⟩:=List.cons.inj e
       exact .inl (.inr h2)
      ·exact .inr ⟨r',e,h2⟩
   ·rw[if_neg h]
    constructor
    ·rintro (z | ⟨r',h1,h2⟩)
     ·exact .inl z
     ·exact .inr ⟨r',List.mem_cons_of_mem _ h1,h2⟩
    ·rintro (z | ⟨r',h1,h2⟩)
     ·exact .inl z
     ·rcases List.mem_cons.mp h1 with e | e
      ·exact absurd (List.cons.inj e).1.symm h
      ·exact .inr ⟨r',e,h2⟩
theorem jH {kind y:Str}{rs:List (List Str)}:y∈tell kind rs↔∃ r,(kind::r)∈rs/\y∈r:=by
 unfold tell
 rw[uO]
 simp
def total (rs:List (List Str)):Nat:=(rs.map List.length).sum
theorem uP {kind:Str}:∀ (rs:List (List Str)) (ks:List Str),(rs.foldl (dO kind) ks).length<=ks.length+total rs
 | [],ks=>Nat.le_add_right _ _
 | ws::rs,ks=>by
  have h1:=uP (kind:=kind) rs (dO kind ks ws)
  have h2:(dO kind ks ws).length<=ks.length+ws.length:=by
   cases ws with
   | nil=>exact Nat.le_add_right _ _
   | cons c r=>
    show (if c=kind then iJ ks r else ks).length<=_
    split
    ·have h4:=pD r ks
     simp
     omega
    ·exact Nat.le_add_right _ _
  rw[List.foldl_cons]
  unfold total at *
  simp
  omega
end My
namespace L2
open PySem PySem.Spec PyProof.Rows
def Still {α:Type}:Sem α->Prop
 | .pure _=>True
 | .raise _=>True
 | .unsupported _=>True
 | .finish _=>True
 | .rule _ k=>Still (k ())
 | .at _ k=>Still (k ())
 | .load _ _ k=>∀ o,Still (k o)
 | .update _ _ f k=>(∀ o,(f o).dict=o.dict/\(o.isFreed=false->(f o).isFreed=false))/\Still (k ())
 | .alloc _ k=>∀ a,Still (k a)
 | .loadIfAlive _ k=>∀ o,Still (k o)
 | .point _ k=>Still (k ())
 | .register _ _=>True
 | .fresh k=>∀ t,Still (k t)
 | .ask k=>∀ t,Still (k t)
 | .stack k=>∀ l,Still (k l)
 | .handled _ k=>∀ l,Still (k l)
 | .choose ..=>False
 | .os ..=>False
 | .call ..=>False
 | .newGen ..=>False
 | .genState ..=>False
 | .resume ..=>False
 | .yield ..=>False
 | .fork ..=>False
 | .thread _=>False
 | .await ..=>False
def Dk (h h':Heap):Prop:=∀ b o,h.get? b=some o->∃ o',h'.get? b=some o'/\o'.dict=o.dict
theorem Dk.refl (h:Heap):Dk h h:=λb o e=>⟨o,e,rfl⟩
theorem Dk.trans {h h' h'':Heap}(x:Dk h h') (y:Dk h' h''):Dk h h'':=λb o e=>
 let ⟨o1,e1,d1⟩:=x b o e
 let ⟨o2,e2,d2⟩:=y b o1 e1
 ⟨o2,e2,d2.trans d1⟩
theorem Eg {α:Type}{M:PySem.Model}{Γ:PySem.Ctx}{E:Value->Pos->Shared->Prop}:∀ (t:Sem α) (Q:α->Pos->Shared->Prop) (p:Pos) (s0 s:Shared),Still t->Dk s0.heap s.heap->Sem.wp M Γ t Q E p s->Sem.wp M Γ t (λa p' s'=>Q a p' s'/\Dk s0.heap s'.heap) E p s:=by
 intro t
 induction t with
 | pure a=>intro Q p s0 s st d h;rw[Sem.wp_pure] at h ⊢;exact⟨h,d⟩
 | raise e=>intro Q p s0 s st d h;rw[Sem.wp] at h ⊢;exact h
 | unsupported w=>intro Q p s0 s st d h;rw[Sem.wp] at h;exact h.elim
 | finish w=>intro Q p s0 s st d h;rw[Sem.wp] at h;exact h.elim
 | rule t k ih=>intro Q p s0 s st d h;rw[Sem.wp] at h ⊢;exact ih () Q p s0 s st d h
 | «at» q k ih=>intro Q p s0 s st d h;rw[Sem.wp] at h ⊢;exact ih () Q q s0 s st d h
 | load a part k ih=>intro Q p s0 s st d h;rw[Sem.wp] at h ⊢;obtain⟨o,e,h⟩:=h;exact⟨o,e,ih o Q p s0 s (st o) d h⟩
 | update a part f k ih=>
  intro Q p s0 s st d h
  rw[Sem.wp] at h ⊢
  refine⟨h.1,ih () Q p s0 _ st.2 (d.trans λb o e=>?_) h.2⟩
  by_cases hb:a=b
  ·subst hb
   exact⟨_,Heap.get?_update_self f e ((st.1 o).2 (Heap.get?_some_iff.mp e).2),(st.1 o).1⟩
  ·exact⟨o,(Heap.get?_update_other _ f hb).trans e,rfl⟩
 | alloc o k ih=>
  intro Q p s0 s st d h
  rw[Sem.wp] at h ⊢
  exact ih _ Q p s0 _ (st _) (d.trans λb o' e=>⟨o',Heap.get?_push_of_some o e,rfl⟩) h
 | loadIfAlive a k ih=>intro Q p s0 s st d h;rw[Sem.wp] at h ⊢;exact ih _ Q p s0 s (st _) d h
 | point l k ih=>intro Q p s0 s st d h;rw[Sem.wp] at h ⊢;exact ih _ Q p s0 s st d h
 | register a k ih=>intro Q p s0 s st d h;rw[Sem.wp] at h;exact h.elim
 | fresh k ih=>intro Q p s0 s st d h;rw[Sem.wp] at h ⊢;exact ih _ Q p s0 _ (st _) d h
 | ask k ih=>intro Q p s0 s st d h;rw[Sem.wp] at h ⊢;exact ih _ Q p s0 s (st _) d h
 | stack k ih=>intro Q p s0 s st d h;rw[Sem.wp] at h ⊢;exact ih _ Q p s0 s (st _) d h
 | handled own k ih=>intro Q p s0 s st d h;rw[Sem.wp] at h ⊢;exact ih _ Q p s0 s (st _) d h
 | _=>intro Q p s0 s st d h;exact False.elim st
theorem jZ {α:Type}{M:PySem.Model}{A:Around}{E:Value->Shared->Prop}{t:Sem α}{Q:α->Shared->Prop}{s:Shared}(st:Still t) (h:wpAny M A t Q E s):wpAny M A t (λa s'=>Q a s'/\Dk s.heap s'.heap) E s:=fun Γ p hΓ=>
 Eg t _ p s s st (Dk.refl _) (h Γ p hΓ)
theorem Still.bind {α β:Type}:∀ {t:Sem α}{f:α->Sem β},Still t->(∀ a,Still (f a))->Still (t.bind f):=by
 intro t
 induction t with
 | pure a=>intro f _ h;exact h a
 | raise e=>intro f _ h;trivial
 | unsupported w=>intro f _ h;trivial
 | finish w=>intro f _ h;trivial
 | rule t k ih=>intro f st h;exact ih () st h
 | «at» q k ih=>intro f st h;exact ih () st h
 | load a part k ih=>intro f st h;exact λo=>ih o (st o) h
 | update a part g k ih=>intro f st h;exact⟨st.1,ih () st.2 h⟩
 | alloc o k ih=>intro f st h;exact λo=>ih o (st o) h
 | loadIfAlive a k ih=>intro f st h;exact λo=>ih o (st o) h
 | point l k ih=>intro f st h;exact ih () st h
 | register a k ih=>intro f st h;trivial
 | fresh k ih=>intro f st h;exact λo=>ih o (st o) h
 | ask k ih=>intro f st h;exact λo=>ih o (st o) h
 | stack k ih=>intro f st h;exact λo=>ih o (st o) h
 | handled own k ih=>intro f st h;exact λo=>ih o (st o) h
 | _=>intro f st h;exact False.elim st
theorem a_ {α β:Type}{t:Sem α}{f:α->Sem β}(h1:Still t) (h2:∀ a,Still (f a)):Still (t >>= f):=Still.bind h1 h2
theorem nJ {a:Addr}:Still (load a):=λo=>trivial
theorem uc {v:Value}:Still (fieldsOf v):=by
 unfold fieldsOf
 cases v <;> first | trivial | skip
 refine a_ nJ λo=>?_
 split <;> trivial
theorem jV {v:Value}{i:Nat}:Still (field v i):=by
 unfold field
 refine a_ uc λa=>?_
 split <;> trivial
theorem rQ (g:Array Value->Array Value) (o:Obj):(Obj.mapFields g o).dict=o.dict/\(o.isFreed=false->(Obj.mapFields g o).isFreed=false):=by
 unfold Obj.mapFields
 split
 ·exact⟨rfl,λ_=>rfl⟩
 ·exact⟨rfl,id⟩
theorem jJ {v:Value}{i:Nat}{x:Value}:Still (setField v i x):=by
 unfold setField
 cases v <;> first | trivial | skip
 unfold updateField
 refine a_ nJ λo=>?_
 split
 ·split
  ·exact⟨rQ _,trivial⟩
  ·trivial
 ·trivial
theorem jo {e:Value}{f:Option Addr}:Still (setFlight e f):=by
 unfold setFlight
 refine a_ jV λtb=>?_
 split
 ·exact jJ
 ·trivial
theorem kE:∀ l:List Env,Still (readyFrames l)
 | []=>trivial
 | env::outer=>by
  unfold readyFrames
  cases env.frame with
  | none=>trivial
  | some f=>
   refine a_ nJ λo=>?_
   split
   ·trivial
   ·refine a_ ?_ λim=>a_ ?_ λback=>?_
    ·unfold behindIsImport
     split
     ·trivial
     ·split
      ·trivial
      ·exact a_ jV λ_=>trivial
    ·unfold keptBack
     split
     ·split
      ·trivial
      ·refine a_ ?_ λ_=>trivial
       unfold underTheClaimsCaller
       exact λl=>trivial
     ·trivial
    ·exact⟨λo=>⟨rfl,λh=>by cases o;rename_i d _;cases d <;> first | rfl | exact h⟩,kE outer⟩
theorem u6 {env:Env}:Still (PySem.frameOf env):=by
 unfold PySem.frameOf frameEnvs
 refine a_ (a_ (λl=>trivial) λl=>?_) λa=>?_
 ·trivial
 ·refine a_ ?_ λo=>?_
  ·unfold frameObject
   split
   ·trivial
   ·exact a_ (kE _) λ_=>trivial
  ·split <;> trivial
theorem qR {f:Addr}{h:Bool}:Still (entryPlaceOf f h):=by
 unfold entryPlaceOf
 refine a_ (λl=>trivial) λacts=>?_
 split <;> trivial
theorem ud {a b c d e:Value}{pl:List Value}:Still (EntryCells.newEntry a b c d e pl):=by
 unfold EntryCells.newEntry newFields newObj
 have h:∀ x:Data,Still (newObjAsIs (.type "traceback") x):=λx=>by
  unfold newObjAsIs
  exact a_ (λa=>trivial) λa=>trivial
 generalize ([a,b,c,d,e]++if pl.isEmpty=true then List.replicate 6 Value.none else pl).toArray=vs
 by_cases hq:vs.size > sizeLine+2
 ·simp only[if_pos hq];exact a_ trivial λ_=>h _
 ·simp only[if_neg hq];exact h _
theorem lY {e:Value}{env:Env}:Still (noteFrame e env):=by
 unfold noteFrame
 cases env.frame with
 | none=>trivial
 | some f=>
  refine a_ jV λhead=>?_
  have rest:∀ q:Bool,Still (do setField e 1 (← EntryCells.newEntry head (← PySem.frameOf env) .none (rawInt f) .none (← entryPlaceOf f q)):Sem Unit):=λq=>
   a_ u6 λa=>a_ qR λpl=>a_ ud λb=>jJ
  split
  ·refine a_ jV λy=>?_
   split
   ·trivial
   ·exact a_ jJ λ_=>rest _
  ·exact rest _
theorem oh {env:Env}{e:Value}:Still (leaving env e):=a_ lY λ_=>jo
end L2
namespace L2
open PySem PySem.Builtin PySem.Builtin.ObjectAttr
inductive TailN (h:Heap) (bmB:List Value) (ns:List Str):List Value->Prop
 | base:TailN h bmB ns bmB
 | own {A:Addr}{c0:Value}{dd:Option Addr}{cd:ClassData}{sl:Array (Option Value)}{mA:Str->Option Value}{tl:List Value}:
   h.get? A=some { cls:=c0,dict:=dd,data:=.cls cd,slots:=sl }->h.Ns cd.ns mA->(∀ n∈ns,mA n=none)->TailN h bmB ns tl->TailN h bmB ns (.ref A::tl)
theorem TailN.has {h:Heap}{bmB tl:List Value}{ns:List Str}(T:TailN h bmB ns tl){X:String}{b:Bool}(hb:bmB.contains (.type X)=b):tl.contains (.type X)=b:=by
 induction T with
 | base=>exact hb
 | own _ _ _ _ ih=>rw[List.contains_cons,ih];rfl
theorem TailN.refuse {h:Heap}{bmB tl:List Value}{ns:List Str}(T:TailN h bmB ns tl) (self:Value) (what:Str):refuseLoop self what tl=refuseLoop self what bmB:=by
 induction T with
 | base=>rfl
 | own _ _ _ _ ih=>rw[refuseLoop_ref];exact ih
section
variable {M:PySem.Model}{A:Around}{E:Value->Shared->Prop}{h:Heap}{g:Array GenState}{d:Drawn}{t:Nat}{os:OsState}
theorem TailN.along {bmB tl:List Value}{ns:List Str}{n:Str}{y:Option Value}{Q:Option Value->Shared->Prop}(hn:n∈ns) (T:TailN h bmB ns tl) (hr:lookupAlong bmB n=pure y) (hq:Q y ⟨h,g,d,t,os⟩):
  wpAny M A (lookupAlong tl n) Q E ⟨h,g,d,t,os⟩:=by
 induction T with
 | base=>rw[hr];exact wpAny_pure hq
 | own hA hN hni _ ih=>
  rw[lookupAlong_cons]
  refine wpAny_bind (wpAny_classOwn_cls hA hN ?_)
  rw[hni n hn]
  exact ih
variable {nm q:Str}{C N x:Addr}{bs bm bmB:List Value}{hdct:Bool}{sn:List Str}{sub:List Value}{ab:Bool}{col:Option Bool}{dd:Option Addr}{k0 k1 k2 k3 k5:Option Value}{B newId sa owner:String}
 {mN mA:Str->Option Value}{name:Str}{v:Value}{ns:List Str}
theorem j4 {n:Str}{y:Option Value}{Q:Option Value->Shared->Prop}(hn:n∈ns) (hC:h.get? C=some (excClassObj nm q C N bs bm hdct sn sub ab col dd k0 k1 k2 k3 k5 newId)) (hN:h.Ns N mN) (hm:mN n=none)
  (T:TailN h bmB ns bm) (hb:mroOf (.type B)=pure bmB) (hB:typeLookup (.type B) n=pure y) (hq:Q y ⟨h,g,d,t,os⟩):wpAny M A (typeLookup (.ref C) n) Q E ⟨h,g,d,t,os⟩:=by
 have hr:lookupAlong bmB n=pure y:=by rw[typeLookup_eq,hb] at hB;exact hB
 rw[typeLookup_eq]
 refine wpAny_bind (wpAny_mroOf_exc hC ?_)
 rw[lookupAlong_cons]
 refine wpAny_bind (wpAny_classOwn_exc hC hN ?_)
 rw[hm]
 exact T.along hn hr hq
end
theorem zA {M:PySem.Model}{A:Around}{E:Value->Shared->Prop}{h:Heap}{g:Array GenState}{d:Drawn}{t:Nat}{os:OsState}{nm q:Str}{C N x:Addr}{bs bm bmB:List Value}{hdct:Bool}{sn:List Str}{sub:List Value}{ab:Bool}{col:Option Bool}{dd:Option Addr}{k0 k1 k2 k3 k5:Option Value}{B newId sa owner:String}
  {v nv:Value}{ns:List Str}{o:Obj}{Q:Unit->Shared->Prop}(SF:StoreFacts B bmB sa owner) (hC:h.get? C=some (excClassObj nm q C N bs bm hdct sn sub ab col dd k0 k1 k2 k3 k5 newId)) (T:TailN h bmB ns bm) (hx:h.get? x=some o) (hc:o.cls=.ref C) (hq:Q () ⟨h,g,d,t,os⟩):
  wpAny M A (checkBuiltinCall sa ⟨[.ref x,nv,v],[]⟩) Q E ⟨h,g,d,t,os⟩:=by
 have hcB:(Value.ref C::bm).contains (.type owner)=true:=by rw[List.contains_cons,T.has SF.hasOwner,Bool.or_true]
 have ha:=SF.args (.ref x) nv v
 simp only[checkBuiltinCall,SF.kind,SF.split]
 refine wpAny_bind ?_
 unfold isInstance
 repeat (first | (with_reducible refine wpAny_loadPart_at hx ?_;rw[hc]) | (with_reducible refine wpAny_isSubtype_exc hC ?_;rw[hcB]) | wp_step)
 cases hsig:Manifest.signature? sa with
 | none=>exact wpAny_pure hq
 | some sig=>
  simp only[argsOk,hsig] at ha
  show wpAny M A (Bind.checkArgs sa sig ⟨[.ref x,nv,v],[]⟩) Q E _
  rw[show Bind.checkArgs sa sig ⟨[.ref x,nv,v],[]⟩=pure () from ha]
  exact wpAny_pure hq
section
variable {prog:Program}{w:World}{A:Around}{E:Value->Shared->Prop}{h:Heap}{g:Array GenState}{d:Drawn}{t:Nat}{os:OsState}
variable {nm q:Str}{C N x:Addr}{bs bm bmB:List Value}{sn:List Str}{sub:List Value}{ab:Bool}{col:Option Bool}{dd:Option Addr}{k0 k1 k2 k3 k5:Option Value}{B newId sa owner:String}
 {mN:Str->Option Value}{name:Str}{v:Value}{ns:List Str}
theorem xH {tk:Tok}{o:Obj}{Q:Fin->Shared->Prop}(SF:StoreFacts B bmB sa owner) (hC:h.get? C=some (excClassObj nm q C N bs bm true sn sub ab col dd k0 k1 k2 k3 k5 newId)) (hN:h.Ns N mN) (T:TailN h bmB ns bm)
  (hn:name∈ns) (hmn:mN name=none) (hB:typeLookup (.type B) name=pure none)
  (hx:h.get? x=some o) (hc:o.cls=.ref C) (hnc:∀ c,o.data≠.cls c) (hd:o.dict=none)
  (hq:∀ h' tk',h'.get? x=some { o with dict:=some h.objs.size }->h'.Ns1 h.objs.size (λy=>if y=name then some v else none)->(∀ b ob,b≠x->h.get? b=some ob->h'.get? b=some ob)->Q (.done (.ret .none)) ⟨h',g,d,tk',os⟩):
  wpAny (model prog w) A (Builtin.«object.__setattr__» ⟨[.ref x,.str name tk,v],[]⟩) Q E ⟨h,g,d,t,os⟩:=by
 have hpass:=SF.passes (.ref x)
 unfold Builtin.«object.__setattr__»
 repeat (first | rw[refuse_eq] | (rw[refuseLoop_ref,T.refuse,hpass]) | (with_reducible refine wpAny_loadPart_at hx ?_;rw[hc]) | with_reducible refine wpAny_mroOf_exc hC ?_ | (with_reducible refine j4 hn hC hN hmn T SF.mro hB ?_) | wp_step)
 have hx1:(h.push { cls:=.type "dict",data:=.dict #[] }).get? x=some o:=Heap.get?_push_of_some _ hx
 have hxs:x≠h.objs.size:=Nat.ne_of_lt (Heap.lt_size hx)
 rw[hd,if_neg (by simp[typeHasDict])]
 split
 ·rename_i z;cases z
 split
 ·rename_i c z;exact absurd z (hnc c)
 refine wpAny_bind (wpAny_alloc' (wpAny_bind (wpAny_update' hx1 (wpAny_pure ?_))))
 have fr:({ o with dict:=some h.objs.size }:Obj).isFreed=false:=by
  have z:=(Heap.get?_some_iff.mp hx).2
  obtain⟨_,_,od,_⟩:=o
  cases od <;> first | rfl | exact z
 have gx:=Heap.get?_update_self (h:=h.push { cls:=.type "dict",data:=.dict #[] }) (λo:Obj=>{ cls:=o.cls,dict:=some h.objs.size,data:=o.data,slots:=o.slots }) hx1 fr
 have gd:=(Heap.get?_update_other (h.push { cls:=.type "dict",data:=.dict #[] }) (λo:Obj=>{ cls:=o.cls,dict:=some h.objs.size,data:=o.data,slots:=o.slots }) hxs).trans (Heap.get?_push_size h rfl)
 have n0:((h.push { cls:=.type "dict",data:=.dict #[] }).update x λo:Obj=>{ cls:=o.cls,dict:=some h.objs.size,data:=o.data,slots:=o.slots }).Ns h.objs.size λ_=>none:=⟨_,#[],_,gd,rfl,λe he=>absurd he (by simp),λ_=>rfl⟩
 show wpAny _ _ (storeInDict h.objs.size (.str name tk) name v) _ _ _
 unfold storeInDict newKeyGuard
 refine wpAny_bind (wpAny_pure (wpAny_bind (wpAny_nsSet1 (Heap.Ns1.of_empty n0) λh' hn' hs=>?_)))
 obtain⟨oD,esD,epD,hoD,hdD,hcD⟩:=hn'.count (Within.cons name v Within.nil)
 refine wpAny_bind (wpAny_lookBehind hoD (by rw[hdD];exact pastItsLine_dict (Nat.le_trans hcD (by simp[sizeLine_eq]))) ?_)
 wp_walk
 refine hq h' _ ((hs.2 x hxs).trans gx) hn' λb ob hb e=>?_
 exact(hs.2 b (Nat.ne_of_lt (Heap.lt_size e))).trans ((Heap.get?_update_other _ _ hb.symm).trans (Heap.get?_push_of_some _ e))
theorem xJ {o:Obj}{Q:Unit->Shared->Prop}(SF:StoreFacts B bmB sa owner) (hC:h.get? C=some (excClassObj nm q C N bs bm true sn sub ab col dd k0 k1 k2 k3 k5 newId)) (hN:h.Ns N mN) (T:TailN h bmB ns bm)
  (hs:("__setattr__" : Str)∈ns) (hn:name∈ns) (hms:mN "__setattr__" = none) (hmn:mN name=none) (hB:typeLookup (.type B) name=pure none)
  (hx:h.get? x=some o) (hc:o.cls=.ref C) (hnc:∀ c,o.data≠.cls c) (hd:o.dict=none)
  (hq:∀ h' tk',h'.get? x=some { o with dict:=some h.objs.size }->h'.Ns1 h.objs.size (λy=>if y=name then some v else none)->(∀ b ob,b≠x->h.get? b=some ob->h'.get? b=some ob)->Q () ⟨h',g,d,tk',os⟩):
  wpAny (model prog w) A (setAttr (.ref x) name v) Q E ⟨h,g,d,t,os⟩:=by
 have f3:=SF.slot.bind (.ref x)
 unfold setAttr callSpecial? specialOf
 repeat (any_goals (first | assumption | (with_reducible refine wpAny_loadPart_at hx ?_;rw[hc]) | (with_reducible refine j4 hs hC hN hms T SF.mro SF.slot.lookup ?_) | wp_step))
 refine codeAny_call_builtin SF.slot.plain SF.entry (zA SF hC T hx hc (xH SF hC hN T hn hmn hB hx hc hnc hd λh' tk' e1 e2 e3=>?_))
 repeat (any_goals (first | assumption | wp_step))
 exact hq h' tk' e1 e2 e3
end
end L2
namespace L2
open PySem PySem.Builtin PySem.Builtin.ObjectAttr
section
variable {prog:Program}{w:World}{A:Around}{E:Value->Shared->Prop}{h:Heap}{g:Array GenState}{d:Drawn}{t:Nat}{os:OsState}
variable {nm q:Str}{C N x dx:Addr}{bs bm bmB:List Value}{sn:List Str}{sub:List Value}{ab:Bool}{col:Option Bool}{dd:Option Addr}{k0 k1 k2 k3 k5:Option Value}{B newId:String}
 {mN mA:Str->Option Value}{name:Str}{v:Value}{ns:List Str}{o:Obj}
theorem Eh {M:PySem.Model}{nv:Value}{hdct:Bool}{Q:Unit->Shared->Prop}(FB:ExcAttrBase B bmB) (hC:h.get? C=some (excClassObj nm q C N bs bm hdct sn sub ab col dd k0 k1 k2 k3 k5 newId)) (T:TailN h bmB ns bm)
  (hx:h.get? x=some o) (hc:o.cls=.ref C) (hq:Q () ⟨h,g,d,t,os⟩):wpAny M A (checkBuiltinCall "BaseException.__getattribute__" ⟨[.ref x,nv],[]⟩) Q E ⟨h,g,d,t,os⟩:=by
 have hk:builtinKind "BaseException.__getattribute__" = some .slot:=by decide +kernel
 have hsp:splitId "BaseException.__getattribute__" = some ("BaseException", "__getattribute__"):=by decide +kernel
 have hcB:(Value.ref C::bm).contains (.type "BaseException")=true:=by rw[List.contains_cons,T.has FB.hasBase];rfl
 have ha:=F.args_bexc_ga (.ref x) nv
 simp only[checkBuiltinCall,hk,hsp]
 refine wpAny_bind ?_
 unfold isInstance
 repeat (first | (with_reducible refine wpAny_loadPart_at hx ?_;rw[hc]) | (with_reducible refine wpAny_isSubtype_exc hC ?_;rw[hcB]) | wp_step)
 exact hq
theorem entry_get {tk:Tok}{Q:Fin->Shared->Prop}(FB:ExcAttrBase B bmB) (hC:h.get? C=some (excClassObj nm q C N bs bm true sn sub ab col dd k0 k1 k2 k3 k5 newId)) (hN:h.Ns N mN) (T:TailN h bmB ns bm) (hn:name∈ns) (hmn:mN name=none)
  (hB:typeLookup (.type B) name=pure none) (hx:h.get? x=some o) (hc:o.cls=.ref C) (hnc:∀ c,o.data≠.cls c) (hd:o.dict=some dx) (hA:h.Ns dx mA) (hv:mA name=some v) (hq:Q (.done (.ret v)) ⟨h,g,d,t,os⟩):
  wpAny (model prog w) A (Builtin.«object.__getattribute__» ⟨[.ref x,.str name tk],[]⟩) Q E ⟨h,g,d,t,os⟩:=by
 unfold Builtin.«object.__getattribute__»
 repeat (first | (with_reducible refine wpAny_loadPart_at hx ?_;rw[hc]) | (with_reducible refine j4 hn hC hN hmn T FB.mro hB ?_) | wp_step)
 split
 ·rename_i c z;exact absurd z (hnc c)
 unfold instanceDict
 repeat (first | (with_reducible refine wpAny_loadPart_at hx ?_;rw[hc]) | with_reducible refine wpAny_loadPart_at hC ?_ | wp_step)
 rw[hd]
 repeat (first | (with_reducible refine wpAny_nsGet hA ?_;rw[hv]) | wp_step)
 exact hq
theorem uF {expr:Bool}{Q:Value->Shared->Prop}(FB:ExcAttrBase B bmB) (hC:h.get? C=some (excClassObj nm q C N bs bm true sn sub ab col dd k0 k1 k2 k3 k5 newId)) (hN:h.Ns N mN) (T:TailN h bmB ns bm)
  (h1:("__getattribute__" : Str)∈ns) (h2:("__getattr__" : Str)∈ns) (hn:name∈ns) (m1:mN "__getattribute__" = none) (m2:mN "__getattr__" = none) (hmn:mN name=none)
  (hB:typeLookup (.type B) name=pure none) (hx:h.get? x=some o) (hc:o.cls=.ref C) (hnc:∀ c,o.data≠.cls c) (hd:o.dict=some dx) (hA:h.Ns dx mA) (hv:mA name=some v) (hh:handedOut v=pure v) (hq:Q v ⟨h,g,d,t+1,os⟩):
  wpAny (model prog w) A (getAttr (.ref x) name expr) Q E ⟨h,g,d,t,os⟩:=by
 have f3:=FB.ga.bind (.ref x)
 have hx0:(expr&&onTheHeap (Value.builtin "BaseException.__getattribute__"))=false:=by cases expr <;> rfl
 have hx2:(Value.builtin "BaseException.__getattribute__" == Value.builtin "object.__getattribute__")=false:=by decide +kernel
 have hx1:(onTheHeap (Value.ref C)&&Value.builtin "BaseException.__getattribute__" == Value.builtin "object.__getattribute__")=false:=by rw[hx2];rfl
 unfold getAttr getAttrBy
 repeat (any_goals (first | assumption | (with_reducible refine wpAny_loadPart_at hx ?_;rw[hc]) | (with_reducible refine j4 h1 hC hN m1 T FB.mro FB.ga.lookup ?_) | (with_reducible refine j4 h2 hC hN m2 T FB.mro FB.noGetattr ?_) | wp_step))
 refine codeAny_call_builtin FB.ga.plain F.entry_bexc_ga (Eh FB hC T hx hc (entry_get FB hC hN T hn hmn hB hx hc hnc hd hA hv ?_))
 show wpAny _ _ (handedOut v) _ _ _
 rw[hh]
 exact wpAny_pure hq
end
end L2
namespace L2
open PySem
section
variable {prog:Program}{w:World}{A:Around}{E:Value->Shared->Prop}{h:Heap}{g:Array GenState}{d:Drawn}{t:Nat}{os:OsState}
variable {nm q:Str}{C N fI:Addr}{bs bm bmB rest:List Value}{hdct:Bool}{sn:List Str}{sub:List Value}{ab:Bool}{col:Option Bool}{dd:Option Addr}{k0 k1 k2 k3 k5:Option Value}{B newId initId:String}{mN:Str->Option Value}{oI:Obj}
theorem ue (F:ExcBaseFacts B newId initId bmB) (T:OwnTail h bmB bm){Q:Fin->Shared->Prop}(hC:h.get? C=some (excClassObj nm q C N bs bm hdct sn sub ab col dd k0 k1 k2 k3 k5 newId)) (hn:h.Ns N mN) (hi:mN "__init__" = some (.ref fI))
  (hf:h.get? fI=some oI) (hfc:oI.cls=.type "function")
  (hq:∀ h' e,Heap.MadeExcOf h h' e (.ref C) rest->wpAny (model prog w) A (call (.ref fI) (.ref e::rest)) (λr s'=>r=.none/\Q (.done (.ret (.ref e))) s') E ⟨h',g,d,t,os⟩) (hrest:rest.length<=sizeLine:=by size_fits):
  wpAny (model prog w) A (Builtin.«type.__call__» ⟨.ref C::rest,[]⟩) Q E ⟨h,g,d,t,os⟩:=by
 repeat (first | with_reducible refine wpAny_loadPart_at hC ?_ | with_reducible refine wpAny_madeBy_exc hC ?_ | wp_step)
 refine codeAny_call_builtin_code (Code.quiet_builtin _ F.quiet) (wpAny_check_new_subT F T hC (codeAny_exc_new_subT F T hC ?_ hrest))
 show wpAny _ _ _ _ _ _
 have up:∀ b o,h.get? b=some o->((h.push { cls:=.type "tuple",data:=.seq rest.toArray }).push { cls:=.ref C,data:=.fields #[.ref h.objs.size,.none,.none,.none,.bool false,.none] }).get? b=some o:=λb o e=>Heap.get?_push_of_some _ (Heap.get?_push_of_some _ e)
 have ge:((h.push { cls:=.type "tuple",data:=.seq rest.toArray }).push { cls:=.ref C,data:=.fields #[.ref h.objs.size,.none,.none,.none,.bool false,.none] }).get? (h.objs.size+1)=some { cls:=.ref C,data:=.fields #[.ref h.objs.size,.none,.none,.none,.bool false,.none] }:=by heap_get
 have c1:=up _ _ hC
 have f1:=up _ _ hf
 have n1:=hn.keeps up
 have t1:=T.keeps up
 have hcC:(Value.ref C::bm).contains (.ref C)=true:=by simp
 unfold isInstance
 repeat (first | with_reducible refine wpAny_loadPart_at ge ?_ | (with_reducible refine wpAny_isSubtype_exc c1 ?_;rw[hcC]) | wp_step)
 show wpAny _ _ (typeLookup (.ref C) _) _ _ _
 refine wpAny_typeLookup_tail c1 n1 t1 F.mroIs F.init.lookup ?_
 rw[hi]
 refine wpAny_holding (wpAny_bind ?_)
 unfold bindSpecial
 refine wpAny_bind (wpAny_typeOf (T := "function") ⟨_,f1,hfc⟩ ?_)
 rw[if_pos (by decide)]
 refine wpAny_pure (wpAny_bind (wpAny_mono (hq _ (h.objs.size+1) ⟨up,Heap.get?_none_of_le (Nat.le_succ _),h.objs.size,ge,Heap.get?_none_of_le (Nat.le_refl _),Heap.get?_push_of_some _ (Heap.get?_push_size h rfl)⟩) (λr s' hr=>?_) λ_ _ z=>z))
 obtain⟨rfl,hr⟩:=hr
 wp_walk
 exact hr
theorem BP (F:ExcBaseFacts B newId initId bmB) (T:OwnTail h bmB bm){Q:Value->Shared->Prop}(hC:h.get? C=some (excClassObj nm q C N bs bm hdct sn sub ab col dd k0 k1 k2 k3 k5 newId)) (hn:h.Ns N mN) (hi:mN "__init__" = some (.ref fI))
  (hf:h.get? fI=some oI) (hfc:oI.cls=.type "function")
  (hq:∀ h' e,Heap.MadeExcOf h h' e (.ref C) rest->wpAny (model prog w) (A.under (.builtin "type.__call__" ⟨.ref C::rest,[]⟩)) (call (.ref fI) (.ref e::rest)) (λr s'=>r=.none/\Q (.ref e) s') E ⟨h',g,d,t,os⟩) (hrest:rest.length<=sizeLine:=by size_fits):
  wpAny (model prog w) A (call (.ref C) rest) Q E ⟨h,g,d,t,os⟩:=by
 have f1:=tc_lookup
 have f2:=tc_bind (.ref C)
 have hT:(⟨h,g,d,t,os⟩:Shared).TypeIs (.ref C) "type" := ⟨_,hC,rfl⟩
 refine wpAny_call (codeAny_of_tree ?_)
 show wpAny _ _ (callAny (.ref C) _) _ _ _
 repeat (any_goals (first | assumption | with_reducible refine wpAny_loadPart_at hC ?_ | wp_step))
 refine⟨rfl,?_⟩
 exact codeAny_call_builtin_at (Code.quiet_builtin _ (by decide +kernel)) entry_typeCall (wpAny_check_type_call_sub hC (ue F T hC hn hi hf hfc (λh' e hm=>hq h' e hm) hrest))
end
end L2
namespace L2
open PySem PySem.Spec PyProof.Rows
def Fld (h:Heap) (a dx:Addr):Option Nat->Prop
 | none=>True
 | some n=>(∃ oe,h.get? a=some oe/\oe.dict=some dx)/\∃ m t,h.Ns dx m/\m "at" = some (.int (n:Int) t)
theorem Fld.go {h h':Heap}{a dx:Addr}{d:Option Nat}(f:Fld h a dx d) (k:Dk h h') (u:h.UpToSlots h'):Fld h' a dx d:=by
 cases d with
 | none=>trivial
 | some n=>
  obtain⟨⟨oe,e1,e2⟩,m,t,e3,e4⟩:=f
  obtain⟨o',e5,e6⟩:=k a oe e1
  exact⟨⟨o',e5,e6.trans e2⟩,m,t,u.ns e3,e4⟩
section
variable {M:PySem.Model}{A:Around}{E:Value->Shared->Prop}{s:Shared}{B:Heap}{env:Env}{outer:List Env}{L e:Addr}{cls a0:Value}{Q:Unit->Shared->Prop}{dx:Addr}{d:Option Nat}
theorem zB (hfr:A.frames=some (env::outer)) (hf:env.frame=some L) (fl:Heap.FlyingW B (env::outer) e cls a0 s.heap) (f:Fld s.heap e dx d)
  (hQ:∀ h',Heap.FlyingW B outer e cls a0 h'->s.heap.UpToSlots h'->Fld h' e dx d->Q () { s with heap:=h' }):wpAny M A (leaving env (.ref e)) Q E s:=by
 refine wpAny_mono (jZ oh (wpAny_leaves_onW (Q:=λ_ s'=>∃ h',s'={ s with heap:=h' }/\Heap.FlyingW B outer e cls a0 h'/\s.heap.UpToSlots h') hfr hf fl λh' f1 u=>⟨h',rfl,f1,u⟩)) (λ_ s' z=>?_) λ_ _ z=>z
 obtain⟨⟨h',rfl,f1,u⟩,k⟩:=z
 exact hQ h' f1 u (f.go k u)
theorem BR (hfr:A.frames=some (env::outer)) (hf:env.frame=some L) (fl:Heap.FlyingW B (env::outer) e cls a0 s.heap) (f:Fld s.heap e dx d)
  (hQ:∀ h',Heap.HeldW B (env::outer) e cls a0 L h'->s.heap.UpToSlots h'->Fld h' e dx d->Q () { s with heap:=h' }):wpAny M A (noteFrame (.ref e) env) Q E s:=by
 refine wpAny_mono (jZ lY (wpAny_looks_onW (Q:=λ_ s'=>∃ h',s'={ s with heap:=h' }/\Heap.HeldW B (env::outer) e cls a0 L h'/\s.heap.UpToSlots h') hfr hf fl λh' f1 u=>⟨h',rfl,f1,u⟩)) (λ_ s' z=>?_) λ_ _ z=>z
 obtain⟨⟨h',rfl,f1,u⟩,k⟩:=z
 exact hQ h' f1 u (f.go k u)
theorem BV {l:List Env}(hh:Heap.HeldW B l e cls a0 L s.heap) (f:Fld s.heap e dx d) (hQ:∀ h',Heap.FlyingW B l e cls a0 h'->s.heap.UpToSlots h'->Fld h' e dx d->Q () { s with heap:=h' }):wpAny M A (setFlight (.ref e) none) Q E s:=by
 refine wpAny_mono (jZ jo (wpAny_landsW (Q:=λ_ s'=>∃ h',s'={ s with heap:=h' }/\Heap.FlyingW B l e cls a0 h'/\s.heap.UpToSlots h') hh λh' f1 u=>⟨h',rfl,f1,u⟩)) (λ_ s' z=>?_) λ_ _ z=>z
 obtain⟨⟨h',rfl,f1,u⟩,k⟩:=z
 exact hQ h' f1 u (f.go k u)
theorem zE {l:List Env}(hh:Heap.FlyingW B l e cls a0 s.heap) (f:Fld s.heap e dx d) (hQ:∀ h',Heap.FlyingW B l e cls a0 h'->s.heap.UpToSlots h'->Fld h' e dx d->Q () { s with heap:=h' }):wpAny M A (setFlight (.ref e) none) Q E s:=by
 refine wpAny_mono (jZ jo (lands_againW (Q:=λ_ s'=>∃ h',s'={ s with heap:=h' }/\Heap.FlyingW B l e cls a0 h'/\s.heap.UpToSlots h') hh λh' f1 u=>⟨h',rfl,f1,u⟩)) (λ_ s' z=>?_) λ_ _ z=>z
 obtain⟨⟨h',rfl,f1,u⟩,k⟩:=z
 exact hQ h' f1 u (f.go k u)
theorem BW {oe:Obj}{vs:Array Value}(hfr:A.frames=some (env::outer)) (hl:s.heap.FunFrames B (env::outer)) (hf:env.frame=some L) (he:s.heap.get? e=some oe) (hkb:B.StaysIn s.heap) (hen:B.get? e=none) (hd:oe.data=.fields vs) (h1:vs[1]?=some .none) (h0:vs[0]?=some a0) (f:Fld s.heap e dx d)
  (hQ:∀ h',Heap.FlyingW B outer e oe.cls a0 h'->s.heap.UpToSlots h'->Fld h' e dx d->Q () { s with heap:=h' }):wpAny M A (leaving env (.ref e)) Q E s:=by
 refine wpAny_mono (jZ oh (wpAny_leaving_firstW (Q:=λ_ s'=>∃ h',s'={ s with heap:=h' }/\Heap.LeftW B (env::outer) e oe.cls a0 s.heap h') hfr hl hf he hkb hen hd h1 h0 λh' z=>⟨h',rfl,z⟩)) (λ_ s' z=>?_) λ_ _ z=>z
 obtain⟨⟨h',rfl,k1,⟨_,_,k2⟩,k3,k4⟩,k⟩:=z
 exact hQ h' ⟨k1,hen,k2,k3⟩ k4 (f.go k k4)
end
end L2
namespace L2
open PySem
section
variable {M:PySem.Model}{A:Around}{E:Value->Shared->Prop}{env:Env}
variable {nm q:Str}{C N fI:Addr}{bs bm bmB:List Value}{hdct:Bool}{sn:List Str}{sub:List Value}{ab:Bool}{col:Option Bool}{dd:Option Addr}{k0 k1 k2 k3 k5:Option Value}{B newId initId:String}{mN:Str->Option Value}
theorem BZ {s:Shared}{x:Sem Value}{Q:Flow->Shared->Prop}(hbase:bm.contains (.type "BaseException")=true) (hh:A.handled=none)
  (h:wpAny M A x (λv s₁=>∃ e t dx,v=.ref e/\s₁.heap.get? C=some (excClassObj nm q C N bs bm hdct sn sub ab col dd k0 k1 k2 k3 k5 newId)/\s₁.heap.get? e=some { cls:=.ref C,dict:=dx,data:=.fields #[.ref t,.none,.none,.none,.bool false,.none] }/\E (.ref e) s₁) E s):wpAny M A (raiseStmt env (some x) none) Q E s:=by
 have hcB:(Value.ref C::bm).contains (.type "BaseException")=true:=by rw[List.contains_cons,hbase,Bool.or_true]
 unfold raiseStmt
 refine wpAny_bind (wpAny_mono h (λv s₁ h₁=>?_) λ_ _ x=>x)
 obtain⟨e,t,dx,rfl,hC,he,hE⟩:=h₁
 obtain⟨hp,g,d,tk,os⟩:=s₁
 repeat (first | with_reducible refine wpAny_loadPart_at he ?_ | with_reducible refine wpAny_loadPart_at hC ?_ | (with_reducible refine wpAny_isSubtype_exc hC ?_;rw[hcB]) | wp_step)
 exact wpAny_raiseNew_none hh hE
end
section
variable {prog:Program}{w:World}{A:Around}{E:Value->Shared->Prop}{s:Shared}{env:Env}
variable {nm q:Str}{C N fI:Addr}{bs bm bmB:List Value}{hdct:Bool}{sn:List Str}{sub:List Value}{ab:Bool}{col:Option Bool}{dd:Option Addr}{k0 k1 k2 k3 k5:Option Value}{B newId initId:String}{mN:Str->Option Value}
theorem zF (F:ExcBaseFacts B newId initId bmB){x:Str}{np cpos pos:Pos}{args:List Expr}{Q:Flow->Shared->Prop}(hbase:bm.contains (.type "BaseException")=true) (hh:A.handled=none)
  (hplain:(backTo cpos (starEach args env)).any (·.1)=false) (hi:mN "__init__" = some (.ref fI))
  (h:wpAny (model prog w) A (eval (.Name x np) env) (λf s₁=>f=.ref C/\wpAny (model prog w) A (evalArgs (.ref C) true (backTo cpos (starEach args env)) [])
   (λa s₂=>a.kw=[]/\a.pos.length<=sizeLine/\s₂.heap.get? C=some (excClassObj nm q C N bs bm hdct sn sub ab col dd k0 k1 k2 k3 k5 newId)/\s₂.heap.Ns N mN/\OwnTail s₂.heap bmB bm/\(∃ oI,s₂.heap.get? fI=some oI/\oI.cls=.type "function") /\
    ∀ h' e,Heap.MadeExcOf s₂.heap h' e (.ref C) a.pos->wpAny (model prog w) (A.under (.builtin "type.__call__" ⟨.ref C::a.pos,[]⟩)) (call (.ref fI) (.ref e::a.pos))
     (λr s'=>r=.none/\s'.heap.get? C=some (excClassObj nm q C N bs bm hdct sn sub ab col dd k0 k1 k2 k3 k5 newId)/\(∃ t dx,s'.heap.get? e=some { cls:=.ref C,dict:=dx,data:=.fields #[.ref t,.none,.none,.none,.bool false,.none] })/\E (.ref e) s') E { s₂ with heap:=h' }) E s₁) E s):
  wpAny (model prog w) A (exec (.Raise (some (.Call (.Name x np) args [] cpos)) none pos) env) Q E s:=by
 rw[arm_exec_Raise]
 refine wpAny_bind (wpAny_standAt (BZ (C:=C) (nm:=nm) (q:=q) (N:=N) (bs:=bs) (bm:=bm) (hdct:=hdct) (sn:=sn) (sub:=sub) (ab:=ab) (col:=col) (dd:=dd) (k0:=k0) (k1:=k1) (k2:=k2) (k3:=k3) (k5:=k5) (newId:=newId) hbase hh (wpAny_bind (wpAny_mono (wpAny_Call_ofName (wpAny_mono h (λf s₁ h₁=>?_) λ_ _ x=>x)) (λv s₃ h₃=>wpAny_bind (wpAny_standAt (wpAny_pure h₃))) λ_ _ x=>x))))
 obtain⟨rfl,h₁⟩:=h₁
 unfold callWith
 refine wpAny_bind (wpAny_holding (wpAny_mono h₁ (λa s₂ h₂=>wpAny_bind (wpAny_standAt ?_)) λ_ _ x=>x))
 obtain⟨apos,akw⟩:=a
 obtain⟨hkw,hlen,hC,hn,T,⟨oI,hf,hfc⟩,h₂⟩:=h₂
 obtain rfl:akw=[]:=hkw
 obtain⟨hp,g,d,tk,os⟩:=s₂
 simp only[hplain]
 refine wpAny_bind (wpAny_keeperOf_exc hC ?_)
 refine wpAny_bind (BP F T hC hn hi hf hfc (λh' e hm=>wpAny_mono (h₂ h' e hm) (λr s' z=>?_) λ_ _ z=>z) hlen)
 obtain⟨rfl,z1,⟨t,dx,z2⟩,z4⟩:=z
 exact⟨rfl,wpAny_bind (wpAny_holding (wpAny_point (wpAny_pure ⟨e,t,dx,rfl,z1,z2,z4⟩)))⟩
end
end L2
namespace L2
open PySem PySem.Spec PyProof.Rows
theorem ObjOk.there {P:Program}{w:World}{K:PySem.W.Frag}{H:Hp}{h:Heap}{a:Addr}{o:HO}(x:ObjOk P w K H h a o):∃ u,h.get? a=some u:=by
 cases o with
 | lst xs=>obtain⟨_,_,_,_,e⟩:=x;exact⟨_,e⟩
 | tup xs=>obtain⟨_,_,_,_,e,_⟩:=x;exact⟨_,e⟩
 | dK kvs=>obtain⟨_,_,_,_,o,_,_,e,_⟩:=x;exact⟨_,e⟩
 | dT kvs=>obtain⟨_,_,_,_,o,_,_,e,_⟩:=x;exact⟨_,e⟩
 | set S n=>obtain⟨o,_,_,_,e,_⟩:=x;exact⟨_,e⟩
 | ins C dx fs=>obtain⟨_,_,_,e,_⟩:=x;exact⟨_,e⟩
 | own y=>exact x
 | xd fs=>obtain⟨_,⟨_,_,_,e,_⟩,_⟩:=x;exact⟨_,e⟩
 | rng lo hi=>obtain⟨_,_,_,e⟩:=x;exact⟨_,e⟩
 | frz ob u=>obtain⟨e,_⟩:=x;exact⟨_,e⟩
 | tbl ps=>exact⟨_,(show h.get? a=some _ from x)⟩
 | met f y=>exact⟨_,(show h.get? a=some _ from x)⟩
 | ext φ=>exact x.2.1
def Grd (B h₀ h:Heap) (H:Hp) (l:List Env):Prop:=∀ b o,h.get? b=some o->B.get? b=none->b∈frs l\/(h₀.get? b=none/\H b=none)
structure Lies (X:Cx) (pins:List (Addr×Obj)) (σ:St) (H:Hp) (C:Value) (d:Option Nat) (e:Value) (s:Shared):Prop where
 inv:Inv X pins σ H s
 ex:∃ a a0 B,e=.ref a/\Heap.FlyingW B X.stack a C a0 s.heap/\X.s₀.heap.get? a=none/\H a=none/\(∀ p∈X.pn++pins,B.get? p.1=some p.2)/\Grd B X.s₀.heap s.heap H X.stack/\∃ dx,Fld s.heap a dx d/\X.s₀.heap.get? dx=none/\H dx=none/\(∀ p∈X.pn++pins,p.1≠dx)/\X.env.locals≠dx/\∀ x c,X.env.cells.lookup x=some c->c≠dx
def CXW (P:Program) (w:World) (K:PySem.W.Frag):CXT:=λouter H s E e s'=>∃ a C a0 B H',e=.ref a/\s'.os=s.os/\AllBare s'.gens/\Un (frs outer) [] H H' s.heap s'.heap/\HOk P w K H' s'.heap /\
 Heap.FlyingW B outer a C a0 s'.heap/\s.heap.get? a=none/\H' a=none/\Grd B s.heap s'.heap H' outer/\∃ dx d,Fld s'.heap a dx d/\s.heap.get? dx=none/\H' dx=none/\E C d H'
section
variable {P:Program}{w:World}{K:PySem.W.Frag}{mg:Str->Option Value}{base:Heap}{N:List Str}{qual:Str}{scope:Scope}{f:Addr}{cd:Value}{A:Around}{outer:List Env}{s:Shared}{H:Hp}{E:XK}{CX:CXT}
variable {pins:List (Addr×Obj)}{σ:St}{H1:Hp}{s1:Shared}
theorem uQ {b:Addr}{env:Env}{outer:List Env}{L:Addr}(hf:env.frame=some L) (h:b∈frs (env::outer)):b=L\/b∈frs outer:=by
 unfold frs at h ⊢
 rw[List.filterMap_cons,hf] at h
 exact List.mem_cons.mp h
theorem yj (I:Inv (cG CX P w K mg base N qual scope f cd A outer s H E) pins σ H1 s1){B h2:Heap}(bs:∀ b o,B.get? b=some o->s1.heap.get? b=some o) (st:B.StaysIn h2)
  (gr:Grd B s.heap s1.heap H1 (envOfC qual scope s.heap.objs.size f cd::outer)) (up:s1.heap.UpToSlots h2):
  Un (frs outer) [] H H1 s.heap h2/\HOk P w K H1 h2/\Grd B s.heap h2 H1 outer:=by
 have u:Un (frs outer) [] H H1 s.heap s1.heap:=I.base
 have kept:∀ b o,s1.heap.get? b=some o->b∉frs (envOfC qual scope s.heap.objs.size f cd::outer)->(s.heap.get? b≠none\/H1 b≠none)->h2.get? b=some o:=λb o e n1 n2=>by
  cases q:B.get? b with
  | none=>exact((gr b o e q).elim n1 λz=>n2.elim (λy=>y z.1) λy=>y z.2).elim
  | some o'=>
   have:=bs b o' q
   rw[e] at this
   cases this
   exact st b o q
 have old:∀ b o,s.heap.get? b=some o->b∉frs outer->b∉frs (envOfC qual scope s.heap.objs.size f cd::outer):=λb o e n z=>by
  rcases uQ rfl z with y | y
  ·subst y;exact absurd (Heap.lt_size e) (Nat.lt_irrefl _)
  ·exact n y
 have fr:∀ b o,s1.heap.get? b=some o->b∈frs (envOfC qual scope s.heap.objs.size f cd::outer)->∃ sl,h2.get? b=some { o with slots:=sl }:=λb o e hb=>by
  obtain⟨_,o',e',hd⟩:=I.stack.mem hb
  rw[e] at e'
  cases e'
  exact up b o e hd
 refine⟨⟨λb o q n hb hx=>?_,λb o q n hb hx=>?_,u.free,λb o q hx=>?_,u.tups,u.frzs,u.tbls⟩,λb v q=>?_,λb o q n=>?_⟩
 ·exact kept b o (u.keep b o q n hb hx) (old b o q hb) (.inl (by rw[q];exact λz=>nomatch z))
 ·obtain⟨sl,e1⟩:=u.slot b o q n hb hx
  obtain⟨sl',e2⟩:=fr b _ e1 (by unfold frs at hb ⊢;rw[List.filterMap_cons];exact List.mem_cons_of_mem _ hb)
  exact⟨sl',e2⟩
 ·obtain⟨o',e1⟩:=u.there b o q hx
  by_cases hb:b∈frs (envOfC qual scope s.heap.objs.size f cd::outer)
  ·obtain⟨sl,e2⟩:=fr b o' e1 hb
   exact⟨_,e2⟩
  ·exact⟨o',kept b o' e1 hb (.inl (by rw[q];exact λz=>nomatch z))⟩
 ·refine(I.hok b v q).stay (λc x hc r=>?_) (λ_ q=>q) λ_ _ q=>q
  have hn:H1 c≠none:=by
   rcases hc with rfl | hc
   ·rw[q];exact λz=>nomatch z
   ·rw[hc];exact λz=>nomatch z
  exact kept c x r (λz=>hn (I.stkFree c z)) (.inr hn)
 ·cases e1:s1.heap.get? b with
  | some o'=>
   rcases gr b o' e1 n with z | z
   ·rcases uQ rfl z with y | y
    ·subst y;exact .inr ⟨Heap.get?_none_of_le (Nat.le_refl _),I.free⟩
    ·exact .inl y
   ·exact .inr z
  | none=>
   refine .inr ⟨?_,?_⟩
   ·cases q2:s.heap.get? b with
    | none=>rfl
    | some o2=>
     obtain⟨_,e2⟩:=u.there b o2 q2 (by simp)
     rw[e1] at e2;cases e2
   ·cases q2:H1 b with
    | none=>rfl
    | some v=>
     obtain⟨_,e2⟩:=(I.hok b v q2).there
     rw[e1] at e2;cases e2
theorem zG {C e:Value}{d:Option Nat}(L:Lies (cG (CXW P w K) P w K mg base N qual scope f cd A outer s H E) pins σ H1 C d e s1) (hE:E C d H1):(cG (CXW P w K) P w K mg base N qual scope f cd A outer s H E).xe e s1:=by
 obtain⟨a,a0,B,rfl,fl,na,nH,np,gr,dx,fd,nd,nHd,npd⟩:=L.ex
 have I:=L.inv
 show wpAny (model P w) (A.deeper (envOfC qual scope s.heap.objs.size f cd)) (leaving (envOfC qual scope s.heap.objs.size f cd) (.ref a)) (λ_ s''=>CXW P w K outer H s E (.ref a) s'') (λe' s''=>CXW P w K outer H s E e' s'') s1
 refine zB I.ok.frames rfl fl fd λh2 fl2 up fd2=>?_
 obtain⟨u2,hok2,gr2⟩:=yj I (λb o q=>fl.1 b o q) fl2.1 gr up
 exact⟨a,C,a0,B,H1,rfl,I.os,I.bare,u2,hok2,fl2,na,nH,gr2,dx,d,fd2,nd,nHd,hE⟩
theorem lies_of {X:Cx}(I:Inv X pins σ H1 s1) (hex:X.ex=[]){Q:XK}{e:Value}{s2:Shared}(h:CXW X.prog X.w X.K X.stack H1 s1 Q e s2):∃ C d H2,Lies X pins σ H2 C d e s2/\Q C d H2:=by
 obtain⟨a,C,a0,B,H2,rfl,os,bare,un,hok,fl,na,nH,gr,dx,d,fd,nd,nHd,hQ⟩:=h
 have there:∀ b o,X.s₀.heap.get? b=some o->∃ o',s1.heap.get? b=some o':=λb o q=>I.base.there b o q (by rw[hex];simp)
 have fresh:∀ b,s1.heap.get? b=none->X.s₀.heap.get? b=none:=λb q=>by
  cases z:X.s₀.heap.get? b with
  | none=>rfl
  | some o=>obtain⟨_,y⟩:=there b o z;rw[q] at y;cases y
 refine⟨C,d,H2,⟨I.call' os un hok bare (λb z=>nomatch z),a,a0,B,rfl,fl,fresh a na,nH,λp hp=>?_,λb o q n=>?_,dx,fd,fresh dx nd,nHd,λp hp z=>?_,λz=>?_,λx c q z=>?_⟩,hQ⟩
 ·obtain⟨e1,n1,nl,nf,_⟩:=I.pin p hp
  have nfr:p.1∉frs X.stack:=λz=>(List.mem_cons.mp (I.stkSub _ z)).elim nl nf
  have e2:=un.keep p.1 p.2 e1 n1 nfr (by simp)
  cases q:B.get? p.1 with
  | none=>
   rcases gr p.1 p.2 e2 q with z | z
   ·exact absurd z nfr
   ·rw[e1] at z;cases z.1
  | some o=>
   have:=fl.1 _ _ q
   rw[e2] at this
   cases this
   rfl
 ·rcases gr b o q n with z | z
  ·exact .inl z
  ·exact .inr ⟨fresh b z.1,z.2⟩
 ·obtain⟨e1,_⟩:=I.pin p hp
  rw[z,nd] at e1;cases e1
 ·obtain⟨m,⟨o,es,ep,ho,_⟩,_⟩:=I.loc
  rw[z,nd] at ho;cases ho
 ·obtain⟨v,o,ho,_⟩:=I.cell x c q
  rw[z,nd] at ho;cases ho
end
end L2
namespace L2
open PySem PySem.Spec PyProof.Rows
abbrev RX:=List (Addr×Obj)->St->Hp->Prop
def XE (X:Cx) (r:RX) (e:Expr):Prop:=∀ (pins:List (Addr×Obj)) (s:Shared) (σ:St) (H:Hp),Inv X pins σ H s->r pins σ H->wpAny (model X.prog X.w) X.A (eval e X.env) (λ_ _=>False) X.xe s
def XS (X:Cx) (r:RX) (st:Stmt):Prop:=∀ (pins:List (Addr×Obj)) (s:Shared) (σ:St) (H:Hp),Inv X pins σ H s->r pins σ H->wpAny (model X.prog X.w) X.A (exec st X.env) (λ_ _=>False) X.xe s
def XSs (X:Cx) (r:RX) (st:List Stmt):Prop:=∀ (pins:List (Addr×Obj)) (s:Shared) (σ:St) (H:Hp),Inv X pins σ H s->r pins σ H->wpAny (model X.prog X.w) X.A (execs st X.env) (λ_ _=>False) X.xe s
section
variable {X:Cx}{r r':RX}{e:Expr}{st:Stmt}{rest:List Stmt}{pos:Pos}
theorem Hi (h:XE X r e) (hs:swapsWith e none pos.line X.env=pure false:=by rfl):XS X r (.Expr e pos):=λpins s σ H I q=>
 wpAny_Expr_any (thn (h pins s σ H I q) λ_ _ z=>z.elim) I.quiet hs
theorem nM (h:XS X r st):XSs X r (st::rest):=λpins s σ H I q=>wpAny_execs_cons (thn (h pins s σ H I q) λ_ _ z=>z.elim)
end
end L2
namespace MR
open PySem L2
abbrev XV:=Nat×Option Nat
def tX (b:BX) (G:List Nat) (W:List (Addr×Obj)->St->Hp->XV->Prop) (xf:Env->Option XV):RX:=λpins σ H=>∃ Ow env c,ER b Ow G σ env H/\xf env=some c/\W pins σ H c
def WD (b:BX) (E:XK):List (Addr×Obj)->St->Hp->XV->Prop:=λ_ _ _ c=>∀ H1,Same b.H0 H1->E (.ref (b.C.cl c.1)) c.2 H1
def WT (X:Cx) (b:BX):List (Addr×Obj)->St->Hp->XV->Prop:=λpins σ H c=>∀ H1 e s,Same H H1->Lies X pins σ H1 (.ref (b.C.cl c.1)) c.2 e s->X.xe e s
structure WOk (X:Cx) (b:BX) (W:List (Addr×Obj)->St->Hp->XV->Prop):Prop where
 up:∀ pins σ H H1 c,Same H H1->W pins σ H c->W pins σ H1 c
 go:∀ pins σ H c H1 e s,Same b.H0 H->W pins σ H c->Same H H1->Lies X pins σ H1 (.ref (b.C.cl c.1)) c.2 e s->X.xe e s
 ex:X.ex=[]
theorem Nf {X:Cx}{b:BX}(h:X.ex=[]):WOk X b (WT X b):=⟨λpins σ H H1 c s w H2 e s' s2 L=>w H2 e s' (s.trans s2) L,λpins σ H c H1 e s _ w s1 L=>w H1 e s s1 L,h⟩
theorem Ng {P:Program}{w:World}{K:PySem.W.Frag}{mg:Str->Option Value}{base:Heap}{N:List Str}{qual:Str}{scope:Scope}{f:Addr}{cd:Value}{A:Around}{outer:List PySem.Env}{s:Shared}{H:Hp}{E:XK}{b:BX}:
  WOk (cG (CXW P w K) P w K mg base N qual scope f cd A outer s H E) b (WD b E):=⟨λpins σ H H1 c s w=>w,λpins σ H c H1 e s s0 w s1 L=>zG L (w H1 (s0.trans s1)),rfl⟩
noncomputable def zH (ga:Env->Option (List PV)) (xi:List PV->Option XV) (env:Env):Option XV:=(ga env).bind xi
@[simp] theorem Py (ga:Env->Option (List PV)) (xi:List PV->Option XV) (env:Env):zH ga xi env=((ga env).bind xi):=id rfl
noncomputable def xIf (c:Env->Option Bool) (f g:Env->Option XV) (env:Env):Option XV:=(c env).bind λk=>if k=true then f env else g env
@[simp] theorem Q5 (c:Env->Option Bool) (f g:Env->Option XV) (env:Env):xIf c f g env=((c env).bind λk=>if k=true then f env else g env):=id rfl
noncomputable def wA (f:Env->Option Out) (g:Env->Option XV) (env:Env):Option XV:=(f env).bind λo=>match o with
 | .nx e=>g e
 | _=>none
@[simp] theorem Qo (f:Env->Option Out) (g:Env->Option XV) (env:Env):wA f g env=((f env).bind λo=>match o with
 | .nx e=>g e
 | _=>none):=id rfl
noncomputable def xNo (env:Env):Option XV:=none
@[simp] theorem Q6 (env:Env):xNo env=none:=id rfl
def xC (c:XV) (env:Env):Option XV:=some c
@[simp] theorem Rx (c:XV) (env:Env):xC c env=some c:=id rfl
def xOr (f g:Env->Option XV) (env:Env):Option XV:=match f env with
 | some c=>some c
 | none=>g env
@[simp] theorem Q7 (f g:Env->Option XV) (env:Env):xOr f g env=(match f env with
 | some c=>some c
 | none=>g env):=id rfl
section
variable {X:Cx}{b:BX}{G G1 L:List Nat}{ro:Bool}{W:List (Addr×Obj)->St->Hp->XV->Prop}{e:Expr}{es:List Expr}{st:Stmt}{rest sa sb:List Stmt}{pos p:Pos}{f g:Env->Option XV}
theorem Nh (wo:WOk X b W){c:Expr}{k:Env->Option Bool}(hc:ST X b G c k) (ha:XSs X (tX b G W f) sa) (hb:XSs X (tX b G W g) sb):XS X (tX b G W (xIf k f g)) (.If c sa sb pos):=by
 intro pins s σ H I ⟨Ow,env,c0,E,hx,hW⟩
 obtain⟨kk,hk,hx⟩:=aJ hx
 refine wpAny_If (thn (hc pins s σ H (λd H1=>d=kk/\Same H H1) I ⟨Ow,env,kk,E,hk,λH1 s1=>⟨rfl,s1⟩⟩) ?_)
 rintro d s1 ⟨H1,I1,hd,sm⟩
 subst hd
 cases d with
 | true=>exact ha pins s1 σ H1 I1 ⟨Ow,env,c0,E.up sm,hx,wo.up _ _ _ _ _ sm hW⟩
 | false=>exact hb pins s1 σ H1 I1 ⟨Ow,env,c0,E.up sm,hx,wo.up _ _ _ _ _ sm hW⟩
theorem Kc:XSs X (tX b G W xNo) rest:=λpins s σ H I ⟨Ow,env,c0,E,hx,hW⟩=>nomatch hx
theorem qT {E0:XK}{h:Env->Option Out}(a:SS X b G G1 L ro st h) (c:XSs X (tX b G1 (WD b E0) g) rest):XSs X (tX b G (WD b E0) (wA h g)) (st::rest):=by
 intro pins s σ H I ⟨Ow,env,c0,E,hx,hW⟩
 obtain⟨o,ho,hx⟩:=aJ hx
 cases o with
 | nx e1=>
  refine wpAny_execs_cons (thn (a pins s σ H { nx:=fun σ1 H1=>tX b G1 (WD b E0) g pins σ1 H1,rt:=λ_ _=>False } I ⟨Ow,env,_,E,ho,λOw' σ' H' E' _=>⟨Ow',e1,c0,E',hx,hW⟩⟩) λfl s1 hs=>?_)
  cases fl with
  | next=>obtain⟨σ1,H1,I1,q⟩:=hs;exact c pins s1 σ1 H1 I1 q
  | ret u=>obtain⟨_,_,_,_,_,q⟩:=hs;exact q.elim
  | brk=>obtain⟨_,_,_,q⟩:=hs;exact q.elim
  | cont=>obtain⟨_,_,_,q⟩:=hs;exact q.elim
 | rt v=>cases hx
 | bk e1=>cases hx
 | ct e1=>cases hx
end
end MR
namespace MR
open PySem L2 PyProof.Rows PySem.Spec
noncomputable def Kd (ga:Env->Option (List PV)) (c:Nat) (env:Env):Option XV:=(ga env).bind λqs=>if qs.length<=1000 then some (c,none) else none
@[simp] theorem NK (ga:Env->Option (List PV)) (c:Nat) (env:Env):Kd ga c env=((ga env).bind λqs=>if qs.length<=1000 then some (c,none) else none):=id rfl
section
variable {P:Program}{w:World}{K:PySem.W.Frag}{mg:Str->Option Value}{base:Heap}{N:List Str}{qual:Str}{scope:Scope}{f:Addr}{cd:Value}{A:Around}{outer:List PySem.Env}{s:Shared}{H:Hp}{E:XK}
noncomputable def Pz (n k:Nat) (f:Env->Option XV) (ps:List PV):Option XV:=if ps.length=k then f (ps.map some++List.replicate (n - k) none) else none
@[simp] theorem Qp (n k:Nat) (f:Env->Option XV) (ps:List PV):Pz n k f ps=(if ps.length=k then f (ps.map some++List.replicate (n - k) none) else none):=id rfl
end
section
variable {P:Program}{w:World}{K:PySem.W.Frag}{mg:Str->Option Value}{base:Heap}
theorem Hj {x qual:Str}{st:Stmt}{f:Addr}{fd:FuncData}{N ps:List Str}{k:Nat}{sp:Sp}(F:Fun K x qual st f fd) (S:FnScope N ps (au st)) (len:∀ vs H Q E,sp vs H Q E->vs.length=ps.length)
  (hbody:∀ (cdv:Value) (A:Around) (outer:List PySem.Env) (s:Shared) (H:Hp) (vs:List V) (Q:VK) (E:XK),Room k (A.deeper (envOfC qual (au st) s.heap.objs.size f cdv))->sp vs H Q E->
   ∃ t,PSs (cG (CXW P w K) P w K mg base N qual (au st) f cdv A outer s H E) (bc st) t/\t { nx:=λ_ H'=>Q .non H',rt:=Q } (start N vs) H):FnOk P w K mg base (CXW P w K) (k+1) f fd ps sp:=by
 obtain⟨oc,od,kV,doc,pm,an,cdv,ct,osl,rfl,lk,hcd⟩:=F.ex
 exact FJ lk hcd S len λA outer s H vs Q E hr hsp=>hbody cdv A outer s H vs Q E hr hsp
end
end MR
namespace L2
open PySem PySem.Spec PyProof.Rows
def ExcAt (a C:Addr) (dx:Option Addr) (h:Heap):Prop:=∃ o vs,h.get? a=some o/\o.cls=.ref C/\o.data=.fields vs/\∀ x,dx=some x->o.dict=some x
def exo (a C:Addr) (dx:Option Addr):HO:=.ext (ExcAt a C dx)
theorem B_ {P:Program}{w:World}{K:PySem.W.Frag}{H:Hp}{h:Heap}{a C:Addr}{dx:Option Addr}(e:ExcAt a C dx h):ObjOk P w K H h a (exo a C dx):=by
 obtain⟨o,vs,q1,q2,q3,q4⟩:=e
 exact⟨⟨o,vs,q1,q2,q3,q4⟩,⟨o,q1⟩,λg1 g2 ⟨o',vs',r1,r2,r3,r4⟩ k=>⟨o',vs',k _ r1,r2,r3,r4⟩⟩
def XAt (x:Addr) (n:Nat) (h:Heap):Prop:=∃ m t,h.Ns x m/\m "at" = some (.int (n:Int) t)
def xat (x:Addr) (n:Nat):HO:=.ext (XAt x n)
theorem Ke {P:Program}{w:World}{K:PySem.W.Frag}{H:Hp}{h:Heap}{x:Addr}{n:Nat}(e:XAt x n h):ObjOk P w K H h x (xat x n):=by
 obtain⟨m,t,⟨o,es,ep,ho,r⟩,e2⟩:=e
 exact⟨⟨m,t,⟨o,es,ep,ho,r⟩,e2⟩,⟨o,ho⟩,λg1 g2 ⟨m',t',⟨o',es',ep',ho',r'⟩,e2'⟩ k=>⟨m',t',⟨o',es',ep',k _ ho',r'⟩,e2'⟩⟩
def wB (H:Hp) (a dx C:Addr):Option Nat->Hp
 | none=>upd H a (exo a C none)
 | some n=>upd (upd H dx (xat dx n)) a (exo a C (some dx))
def Cx.hd1 (X:Cx) (a:Addr):Cx:={ X with A:=X.A.mark (some (.ref a)),calm:=false,xe:=λ_ _=>False }
section
variable {X:Cx}{pins:List (Addr×Obj)}{σ:St}{H:Hp}{s:Shared}
theorem Inv.mark1 (I:Inv X pins σ H s) (a:Addr):Inv (X.hd1 a) pins σ H s:=
 ⟨⟨I.ok.mod,I.ok.kind,I.ok.glob,I.ok.blt,I.ok.above,I.ok.inj,I.ok.has,I.ok.cab,(λz=>nomatch z),I.ok.frames,I.ok.stk,I.ok.exf,I.ok.bs,I.ok.bsz,I.ok.noex,I.ok.exfs,I.ok.funs,I.ok.frf⟩,I.os,I.bare,I.base,I.loc,I.cell,I.free,I.freeC,I.pin,I.hok,I.len⟩
theorem Inv.unmark1 (ok:X.Ok){a:Addr}(I:Inv (X.hd1 a) pins σ H s):Inv X pins σ H s:=⟨ok,I.os,I.bare,I.base,I.loc,I.cell,I.free,I.freeC,I.pin,I.hok,I.len⟩
theorem ym (I:Inv X pins σ H s) (hex:X.ex=[]){B h2:Heap}(bs:∀ b o,B.get? b=some o->s.heap.get? b=some o) (st:B.StaysIn h2) (gr:Grd B X.s₀.heap s.heap H X.stack) (up:s.heap.UpToSlots h2)
  (pn:∀ p∈X.pn++pins,B.get? p.1=some p.2):Inv X pins σ H { s with heap:=h2 }:=by
 have u:=I.base
 have kept:∀ b o,s.heap.get? b=some o->b∉frs X.stack->(X.s₀.heap.get? b≠none\/H b≠none)->h2.get? b=some o:=λb o e n1 n2=>by
  cases q:B.get? b with
  | none=>exact((gr b o e q).elim n1 λz=>n2.elim (λy=>y z.1) λy=>y z.2).elim
  | some o'=>
   have:=bs b o' q
   rw[e] at this
   cases this
   exact st b o q
 have old:∀ b o,X.s₀.heap.get? b=some o->b∉X.fs->b∉frs X.stack:=λb o e n z=>by
  rcases List.mem_cons.mp (I.stkSub b z) with y | y
  ·subst y;exact absurd (Nat.lt_of_lt_of_le (Heap.lt_size e) I.ok.above) (Nat.lt_irrefl _)
  ·exact n y
 have cells:∀ c v,s.heap.IsCell c v->h2.IsCell c v:=by
  rintro c v ⟨o,ho,hd⟩
  obtain⟨sl,e⟩:=up c o ho λvs z=>by rw[hd] at z;cases z
  exact⟨_,e,hd⟩
 refine⟨I.ok,I.os,I.bare,⟨λb o q n hb hx=>?_,λb o q n hb hx=>?_,u.free,λb o q hx=>?_,u.tups,u.frzs,u.tbls⟩,?_,λx c e=>?_,I.free,I.freeC,λp hp=>?_,λb v q=>?_,I.len⟩
 ·exact kept b o (u.keep b o q n hb hx) (old b o q hb) (.inl (by rw[q];exact λz=>nomatch z))
 ·obtain⟨sl,e1⟩:=u.slot b o q n hb hx
  obtain⟨_,o',e',hd⟩:=I.funs.mem hb
  rw[e1] at e'
  cases e'
  obtain⟨sl',e2⟩:=up b _ e1 hd
  exact⟨sl',e2⟩
 ·obtain⟨o',e1⟩:=u.there b o q hx
  by_cases hb:b∈frs X.stack
  ·obtain⟨_,o2,e2,hd⟩:=I.stack.mem hb
   rw[e1] at e2
   cases e2
   obtain⟨sl,e3⟩:=up b _ e1 hd
   exact⟨_,e3⟩
  ·exact⟨o',kept b o' e1 hb (.inl (by rw[q];exact λz=>nomatch z))⟩
 ·obtain⟨m,hn,hl⟩:=I.loc
  refine⟨m,up.ns hn,λi x v e1 e2 e3=>?_⟩
  obtain⟨w',r,l⟩:=hl i x v e1 e2 e3
  refine⟨w',r,?_⟩
  rcases l with l | ⟨k,c,e,z⟩
  ·exact .inl l
  ·exact .inr ⟨k,c,e,cells c _ z⟩
 ·obtain⟨v,z⟩:=I.cell x c e
  exact⟨v,cells c v z⟩
 ·obtain⟨_,n,nl,nf,d⟩:=I.pin p hp
  exact⟨st _ _ (pn p hp),n,nl,nf,d⟩
 ·refine(I.hok b v q).stay (λc x hc r=>?_) (λ_ q=>q) λ_ _ q=>q
  have hn:H c≠none:=by
   rcases hc with rfl | hc
   ·rw[q];exact λz=>nomatch z
   ·rw[hc];exact λz=>nomatch z
  exact kept c x r (λz=>hn (I.stkFree c z)) (.inr hn)
theorem Inv.trackE (I:Inv X pins σ H s){a:Addr}{φ:Heap->Prop}(e:∀ H',ObjOk X.prog X.w X.K H' s.heap a (.ext φ)) (na:X.s₀.heap.get? a=none) (nH:H a=none) (np:∀ p∈X.pn++pins,p.1≠a) (nL:X.env.locals≠a) (nC:∀ x c,X.env.cells.lookup x=some c->c≠a):Inv X pins σ (upd H a (.ext φ)) s:=by
 have u:=I.base
 refine⟨I.ok,I.os,I.bare,⟨u.keep,u.slot,λb o q n hx=>?_,u.there,λb xs q=>?_,λb o xs q=>?_,λb ps q=>?_⟩,I.loc,I.cell,?_,λx c q=>?_,λp hp=>?_,λb v q=>?_,I.len⟩
 ·rw[aH (λz=>by rw[z,na] at q;cases q)];exact u.free b o q n hx
 ·rw[aH (aN (u.tups b xs q) nH)];exact u.tups b xs q
 ·rw[aH (aN (u.frzs b o xs q) nH)];exact u.frzs b o xs q
 ·obtain⟨more,z⟩:=u.tbls b ps q
  exact⟨more,by rw[aH (aN z nH)];exact z⟩
 ·rw[aH nL];exact I.free
 ·rw[aH (nC x c q)];exact I.freeC x c q
 ·obtain⟨e1,n,nl,nf,d⟩:=I.pin p hp
  exact⟨e1,by rw[aH (np p hp)];exact n,nl,nf,d⟩
 ·by_cases hb:b=a
  ·subst hb
   rw[aU] at q
   cases q
   exact e _
  ·rw[aH hb] at q
   exact(I.hok b v q).stay (λc x _ r=>r) (λc r=>by rw[aH (aN r nH)];exact r) λc xs r=>by rw[aH (aN r nH)];exact r
theorem jq (I:Inv X pins σ H s){a:Addr}{oe:Obj}{vs:Array Value}(he:s.heap.get? a=some oe) (hd:oe.data=.fields vs):X.env.locals≠a/\∀ x c,X.env.cells.lookup x=some c->c≠a:=by
 refine⟨λz=>?_,λx c q z=>?_⟩
 ·obtain⟨m,⟨o,es,ep,ho,hdd,_⟩,_⟩:=I.loc
  rw[z,he] at ho
  cases ho
  rw[hd] at hdd;cases hdd
 ·obtain⟨v,o,ho,hdd⟩:=I.cell x c q
  rw[z,he] at ho
  cases ho
  rw[hd] at hdd;cases hdd
theorem Inv.trackX (I:Inv X pins σ H s){a dx C:Addr}{d:Option Nat}{oe:Obj}{vs:Array Value}(he:s.heap.get? a=some oe) (hc:oe.cls=.ref C) (hd:oe.data=.fields vs) (f:Fld s.heap a dx d)
  (na:X.s₀.heap.get? a=none) (nH:H a=none) (np:∀ p∈X.pn++pins,p.1≠a) (nd:X.s₀.heap.get? dx=none) (nHd:H dx=none) (npd:∀ p∈X.pn++pins,p.1≠dx) (nL:X.env.locals≠dx) (nC:∀ x c,X.env.cells.lookup x=some c->c≠dx):Inv X pins σ (wB H a dx C d) s:=by
 cases d with
 | none=>exact I.trackE (λH'=>B_ ⟨oe,vs,he,hc,hd,λx z=>nomatch z⟩) na nH np (jq I he hd).1 (jq I he hd).2
 | some n=>
  obtain⟨⟨oe',e1,e2⟩,m,t,hn,hm⟩:=f
  rw[he] at e1
  cases e1
  have ne:a≠dx:=λz=>by
   obtain⟨o,es,ep,ho,hdd,_⟩:=hn
   rw[← z,he] at ho
   cases ho
   rw[hd] at hdd;cases hdd
  have I1:=I.trackE (φ:=XAt dx n) (λH'=>Ke ⟨m,t,hn,hm⟩) nd nHd npd nL nC
  exact I1.trackE (φ:=ExcAt a C (some dx)) (λH'=>B_ ⟨oe,vs,he,hc,hd,λx z=>by cases z;exact e2⟩) na (by rw[aH ne];exact nH) np (jq I he hd).1 (jq I he hd).2
theorem name_goes {M:Model}{A:Around}{E:Value->Shared->Prop}{Q:Unit->Shared->Prop}{i:Nat}{n:Str}{pos:Pos}(I:Inv X pins σ H s) (nd:X.N.Nodup) (hi:X.N[i]?=some n) (hk:X.env.scope.names.lookup n=some .local)
  (h:∀ s',Inv X pins (σ.set i none) H s'->Q () s'):wpAny M A (do bindName X.env n .none;unbindBehindTheSuite X.env n pos) Q E s:=by
 obtain⟨m,hn,hl⟩:=id I.loc
 have hcls:(X.env.scope.kind == .class||(X.env.scope.kind == .module&&X.env.locals != X.env.globals))=false:=by rw[I.ok.kind];rfl
 refine wpAny_nameGoes_keeps hk hn hcls λh' v hn' hs=>?_
 obtain⟨oL,_,_,hoL,_⟩:=id hn
 have far:∀ b o,X.s₀.heap.get? b=some o->b≠X.env.locals:=λb o e=>Nat.ne_of_lt (Nat.lt_of_lt_of_le (Heap.lt_size e) I.ok.above)
 refine h _ ⟨I.ok,I.os,I.bare,⟨λb o e n hb hx=>(hs.2 b (far b o e)).trans (I.base.keep b o e n hb hx),λb o e n hb hx=>?_,I.base.free,λb o e hx=>?_,I.base.tups,I.base.frzs,I.base.tbls⟩,⟨_,hn',λj y v' e1 e2 e3=>?_⟩,λy c e=>?_,I.free,I.freeC,λp hp=>?_,λb v q=>?_,by rw[List.length_set];exact I.len⟩
 ·obtain⟨sl,e1⟩:=I.base.slot b o e n hb hx
  exact⟨sl,(hs.2 b (far b o e)).trans e1⟩
 ·obtain⟨o',e1⟩:=I.base.there b o e hx
  exact⟨o',(hs.2 b (far b o e)).trans e1⟩
 ·have hj:i≠j:=λz=>by
   subst z
   rw[List.getElem?_set] at e2
   split at e2
   ·split at e2 <;> cases e2
   ·exact absurd rfl ‹¬ i=i›
  rw[List.getElem?_set_ne hj] at e2
  obtain⟨u',r',q⟩:=hl j y v' e1 e2 e3
  refine⟨u',r',?_⟩
  rcases q with ⟨k,e⟩ | ⟨k,c,e,z⟩
  ·refine .inl ⟨k,?_⟩
   have:y≠n:=λe=>hj (qL nd (e▸hi) e1)
   show (if y=n then v else m y)=some u'
   rw[if_neg this];exact e
  ·exact .inr ⟨k,c,e,z.sameBut hs (I.cne y c e)⟩
 ·obtain⟨w',z⟩:=I.cell y c e
  exact⟨w',z.sameBut hs (I.cne y c e)⟩
 ·obtain⟨e,n,ne,nf,d⟩:=I.pin p hp
  exact⟨(hs.2 p.1 ne).trans e,n,ne,nf,d⟩
 ·refine(I.hok b v q).stay (λc x hc r=>(hs.2 c ?_).trans r) (λ_ q=>q) λ_ _ q=>q
  rintro rfl
  rcases hc with z | z
  ·rw[← z,I.free] at q;cases q
  ·rw[I.free] at z;cases z
end
end L2
namespace MR
open PySem L2 PyProof.Rows PySem.Spec
theorem yo {X:Cx}{b:BX}{G:List Nat}{body:List Stmt}{tn:TS}{xf:Env->Option XV}{cx n wn:Str}{Cc:Addr}{iw ie:Nat}{np p1 p2 p3 hp pos:Pos}(hX:∀ e s,X.xe e s->False) (hex:X.ex=[]) (hst:X.stack=X.env::X.outer) (hfr:X.env.frame=some X.env.locals) (ndp:X.N.Nodup)
  (hn:X.N[ie]?=some n) (hnl:X.env.scope.names.lookup n=some .local) (hw:X.N[iw]?=some wn) (hwl:Loc X.env.scope wn) (hgl:Gl X cx) (hm:X.mg cx=some (.ref Cc)) (h1:PSs X body tn) (h2:∀ E',XSs (X.wish E') (tX b G (WT (X.wish E') b) xf) body)
  (hd:(cx == ("__debug__" : Str))=false:=by decide) (hdn:(n == ("__debug__" : Str))=false:=by decide) (hcn:(n == ("__classdict__" : Str))=false:=by decide)
  (hsw:swapsWith (.Name n p2) (some (.Name wn p1)) p3.line X.env=pure false:=by rfl) (hfn:X.fn wn=true\/X.env.scope.names.lookup wn=some .local:=by first | exact .inl rfl | exact .inr rfl | assumption):
  PS X (.Try body [.ExceptHandler (some (.Name cx np)) (some n) [.Assign [.Name wn p1] (.Name n p2) p3] hp] [] [] pos) (λD σ H=>tn D σ H\/∃ Ow env c,ER b Ow G σ env H/\xf env=some c/\PySem.W.exmOne X.K (.ref (b.C.cl c.1)) (.ref Cc)=some true /\
   ∀ a dx H1,Same H H1->H1 a=none->H1 dx=none->(c.2.isSome=true->a≠dx)->D.nx (((σ.set ie (some (.ref a))).set iw (some (.ref a))).set ie none) (wB H1 a dx (b.C.cl c.1) c.2)):=by
 intro pins s σ H D I q
 rcases q with q | ⟨Ow,env,c,E,hxf,hexm,kk⟩
 ·refine wpAny_Try_except (wpAny_mono (h1 pins s σ H D I q) (λf s1 hs=>?_) λe s1 hs=>(hX e s1 hs).elim)
  cases f with
  | next=>exact wpAny_execs_nil hs
  | ret u=>exact hs
  | brk=>exact hs
  | cont=>exact hs
 ·refine wpAny_Try_except (wpAny_mono (h2 (λe s₁=>wpAny (model X.prog X.w) X.A (noteFrame e X.env) (λ_ s₂=>wpAny (model X.prog X.w) X.A (setFlight e none) (λ_ s₃=>wpAny (model X.prog X.w) X.A (handleBy e X.env [.ExceptHandler (some (.Name cx np)) (some n) [.Assign [.Name wn p1] (.Name n p2) p3] hp]) (SP X pins D) X.xe s₃) X.xe s₂) X.xe s₁) pins s σ H (I.wish _) ⟨Ow,env,c,E,hxf,λH1 ex s1 sm Li=>?_⟩) (λ_ _ z=>z.elim) λ_ _ z=>z)
  obtain⟨a,a0,B,rfl,fl,na,nH,pn,gr,dx,fd,nd,nHd,npd,nLd,nCd⟩:=Li.ex
  have I1:Inv X pins σ H1 s1:=Li.inv.wish X.xe
  have fl:Heap.FlyingW B X.stack a (.ref (b.C.cl c.1)) a0 s1.heap:=fl
  have pn:∀ p∈X.pn++pins,B.get? p.1=some p.2:=pn
  have gr:Grd B X.s₀.heap s1.heap H1 X.stack:=gr
  have npd:∀ p∈X.pn++pins,p.1≠dx:=npd
  have nd:X.s₀.heap.get? dx=none:=nd
  have nLd:X.env.locals≠dx:=nLd
  have nCd:∀ x c,X.env.cells.lookup x=some c->c≠dx:=nCd
  rw[hst] at fl
  have ok:=I.ok
  have frm:X.A.frames=some (X.env::X.outer):=by rw[← hst];exact ok.frames
  show wpAny (model X.prog X.w) X.A (noteFrame (.ref a) X.env) _ X.xe s1
  refine BR frm hfr fl fd λh4 held4 up4 fd4=>?_
  refine BV held4 fd4 λh5 fl5 up5 fd5=>?_
  have np:∀ p∈X.pn++pins,p.1≠a:=λp hp z=>by
   have:=pn p hp
   rw[z,fl.2.1] at this;cases this
  have up45:=up4.trans up5
  have I5:Inv X pins σ H1 { s1 with heap:=h5 }:=ym I1 hex (λb o q=>fl.1 b o q) fl5.1 gr up45 pn
  obtain⟨oe,vs,hoe,hoc,hod,_⟩:=fl5.first
  refine wpAny_handleBy_cons (codeAny_handlers_test ?_) (by intro q;cases q)
  refine jB (X:=X.hd1 a) (I5.mark1 a) hgl hm ?_ hd
  have LT:PySem.W.Looks (model X.prog X.w) h5 (typeOf (.ref a)) (.ref (b.C.cl c.1)):=hoc▸(PySem.W.Looks.ld hoe).andThen .now
  refine PySem.W.Looks.here (PySem.W.exm_one I5.kIn LT hexm) ?_
  show codeAny (model X.prog X.w) (X.A.mark (some (.ref a))) (.handlers (.ref a) [.ExceptHandler none (some n) [.Assign [.Name wn p1] (.Name n p2) p3] hp] X.env) _ { s1 with heap:=h5 }
  refine codeAny_handlers_suite_as ?_
  refine zE fl5 fd5 λh6 fl6 up6 fd6=>?_
  have I6:Inv X pins σ H1 { s1 with heap:=h6 }:=ym I1 hex (λb o q=>fl.1 b o q) fl6.1 gr (up45.trans up6) pn
  obtain⟨o6,v6,ho6,hc6,hd6,_⟩:=fl6.first
  have I7:=(I6.trackX (a:=a) (C:=b.C.cl c.1) ho6 hc6 hd6 fd6 na nH np nd nHd npd nLd nCd).mark1 a
  have ned:c.2.isSome=true->a≠dx:=λz y=>by
   cases q:c.2 with
   | none=>rw[q] at z;cases z
   | some n=>
    rw[q] at fd6
    obtain⟨_,m,t,⟨o,es,ep,ho,hdd,_⟩,_⟩:=fd6
    rw[← y,ho6] at ho
    cases ho
    rw[hd6] at hdd;cases hdd
  have hil:ie < σ.length:=by rw[I.len];exact(List.getElem?_eq_some_iff.mp hn).1
  refine qM (X:=X.hd1 a) I7 ndp hn (.inl hnl) (v:=.ref a) rfl (λs8 I8=>?_) (.inr hnl)
  have st:=sY (vQ (X:=X.hd1 a) (pos':=p1) (pos:=p3) ndp hw hwl (dj (X:=X.hd1 a) (pos:=p2) hn (.inl hnl) hdn hcn) hsw hfn)
  refine wpAny_mono (st pins s8 _ _ { nx:=fun σ9 H9=>σ9=(σ.set ie (some (.ref a))).set iw (some (.ref a))/\H9=wB H1 a dx (b.C.cl c.1) c.2,rt:=λ_ _=>False } I8 ⟨.ref a,List.getElem?_set_self hil,rfl,rfl⟩) (λf s9 hs=>?_) λ_ _ z=>z.elim
  cases f with
  | next=>
   obtain⟨σ9,H9,I9,e1,e2⟩:=hs
   subst e1 e2
   exact name_goes (I9.unmark1 ok) ndp hn hnl λs10 I10=>⟨_,_,I10,kk a dx H1 sm nH nHd ned⟩
  | ret u=>obtain⟨_,_,_,_,_,z⟩:=hs;exact z.elim
  | brk=>obtain⟨_,_,_,z⟩:=hs;exact z.elim
  | cont=>obtain⟨_,_,_,z⟩:=hs;exact z.elim
end MR
namespace L2
open PySem PySem.Spec PyProof.Rows
structure XCls (K:PySem.W.Frag) (C:Addr):Prop where
 ga:PySem.W.findIn K (.ref C) "__getattribute__" = some (some (.builtin "BaseException.__getattribute__"))
 gr:PySem.W.findIn K (.ref C) "__getattr__" = some none
 cl:PySem.W.findIn K (.ref C) "__class__" = some (some (.builtin "object.__class__"))
 bo:PySem.W.mroIn K C (.type "object")=some true
 be:PySem.W.mroIn K C (.type "BaseException")=some true
section
variable {prog:Program}{w:World}{A:Around}{E:Value->Shared->Prop}{h:Heap}{g:Array GenState}{d:Drawn}{t:Nat}{os:OsState}{a C:Addr}{dx:Option Addr}{K:PySem.W.Frag}
theorem Ei {R:Result->Shared->Prop}(KI:K.In h) (xc:XCls K C) (ex:ExcAt a C dx h) (hq:R (.ok (.ret (.ref C))) ⟨h,g,d,t,os⟩):
  codeAny (model prog w) A (.call (.builtin "getset_descriptor.__get__") ⟨[.builtin "object.__class__",.ref a,.ref C],[]⟩) R ⟨h,g,d,t,os⟩:=by
 obtain⟨o,vs,hx,hc,hd,_⟩:=ex
 have hT5:(⟨h,g,d,t,os⟩:Shared).TypeIs (.builtin "object.__class__") "getset_descriptor" := F.typeOf_object_class
 have Lo:=PySem.W.looks_mroIn (M:=model prog w) KI xc.bo
 refine codeAny_call_builtin F.slot_gs_get.plain F.entry_gs_get (F.slot_gs_get.check _ _ _ _ _ _ _ _ hT5 (F.args_gs_get _ _ _) ?_)
 repeat (any_goals (first | assumption | (with_reducible refine wpAny_loadPart_at hx ?_;rw[hc]) | (rw[F.owner_object_class];with_reducible refine Lo.at ?_) | with_reducible refine Lo.at ?_ | wp_step))
 refine⟨Code.quiet_builtin _ (by decide +kernel),codeAny_builtin F.entry_object_class ?_⟩
 repeat (any_goals (first | assumption | (with_reducible refine wpAny_loadPart_at hx ?_;rw[hc]) | wp_step))
theorem Ej {tk:Tok}{Q:Fin->Shared->Prop}(KI:K.In h) (xc:XCls K C) (ex:ExcAt a C dx h) (hq:Q (.done (.ret (.ref C))) ⟨h,g,d,t,os⟩):
  wpAny (model prog w) A (Builtin.«object.__getattribute__» ⟨[.ref a,.str "__class__" tk],[]⟩) Q E ⟨h,g,d,t,os⟩:=by
 obtain⟨o,vs,hx,hc,hd,_⟩:=id ex
 have hT5:(⟨h,g,d,t,os⟩:Shared).TypeIs (.builtin "object.__class__") "getset_descriptor" := F.typeOf_object_class
 have f5:=F.typeOf_object_class
 have f6:=F.slot_gs_get.lookup
 have f7:=F.slot_gs_set.lookup
 have Lc:=PySem.W.looks_findIn (M:=model prog w) KI xc.cl
 repeat (any_goals (first | assumption | (with_reducible refine wpAny_loadPart_at hx ?_;rw[hc]) | with_reducible refine Lc.at ?_ | wp_step))
 refine Ei KI xc ex ?_
 repeat (any_goals (first | assumption | wp_step))
theorem Hk {M:Model}{nameV:Value}{Q:Unit->Shared->Prop}(KI:K.In h) (xc:XCls K C) (ex:ExcAt a C dx h) (hq:Q () ⟨h,g,d,t,os⟩):wpAny M A (checkBuiltinCall "BaseException.__getattribute__" ⟨[.ref a,nameV],[]⟩) Q E ⟨h,g,d,t,os⟩:=by
 obtain⟨o,vs,hx,hc,hd,_⟩:=ex
 have k1:builtinKind "BaseException.__getattribute__" = some .slot:=by decide +kernel
 have k2:splitId "BaseException.__getattribute__" = some ("BaseException", "__getattribute__"):=by decide +kernel
 have ha:=F.args_bexc_ga (.ref a) nameV
 have Lb:=PySem.W.looks_mroIn (M:=M) KI xc.be
 simp only[checkBuiltinCall,k1,k2]
 refine wpAny_bind ?_
 unfold isInstance
 repeat (first | (with_reducible refine wpAny_loadPart_at hx ?_;rw[hc]) | with_reducible refine Lb.at ?_ | wp_step)
 exact hq
theorem Ek {tk:Tok}{fill expr:Bool}{Q:Value->Shared->Prop}(KI:K.In h) (xc:XCls K C) (ex:ExcAt a C dx h) (hq:Q (.ref C) ⟨h,g,d,t,os⟩):wpAny (model prog w) A (getAttrBy (.ref a) (.str "__class__" tk) fill expr) Q E ⟨h,g,d,t,os⟩:=by
 obtain⟨o,vs,hx,hc,hd,_⟩:=id ex
 have f3:=F.excAttr_ValueError.ga.bind (.ref a)
 have x0:(expr&&onTheHeap (Value.builtin "BaseException.__getattribute__"))=false:=by cases expr <;> rfl
 have x2:(Value.builtin "BaseException.__getattribute__" == Value.builtin "object.__getattribute__")=false:=by decide +kernel
 have x1:(onTheHeap (Value.ref C)&&Value.builtin "BaseException.__getattribute__" == Value.builtin "object.__getattribute__")=false:=by rw[x2];exact Bool.and_false _
 have Lg:=PySem.W.looks_findIn (M:=model prog w) KI xc.ga
 have Lr:=PySem.W.looks_findIn (M:=model prog w) KI xc.gr
 repeat (any_goals (first | assumption | (with_reducible refine wpAny_loadPart_at hx ?_;rw[hc]) | with_reducible refine Lg.at ?_ | with_reducible refine Lr.at ?_ | wp_step))
 refine codeAny_call_builtin F.excAttr_ValueError.ga.plain F.entry_bexc_ga (Hk KI xc ex (Ej KI xc ex ?_))
 repeat (any_goals (first | assumption | wp_step))
theorem Cd {Q:Option Value->Shared->Prop}(KI:K.In h) (xc:XCls K C) (ex:ExcAt a C dx h) (hq:Q (some (.ref C)) ⟨h,g,d,t+1,os⟩):wpAny (model prog w) A (getAttr? (.ref a) "__class__") Q E ⟨h,g,d,t,os⟩:=by
 unfold getAttr? getAttrBy?
 repeat (any_goals (first | assumption | with_reducible apply Ek KI xc ex | wp_step))
end
theorem yp {K:PySem.W.Frag}{C:Addr}{base:Value}{r:Bool}(e:PySem.W.mroIn K C base=some r):∃ c dd cd sl,K.lookup C=some ⟨c,dd,.cls cd,sl⟩:=by
 obtain⟨cd,q,_⟩:=Option.bind_eq_some_iff.mp e
 unfold PySem.W.clsIn at q
 split at q
 ·rename_i c' d' cd' sl' ho;exact⟨_,_,_,_,ho⟩
 ·cases q
theorem El {K:PySem.W.Frag}{a C:Addr}{dx:Option Addr}(xc:XCls K C):PySem.W.KitX K (.ref a) (.ref C) (ExcAt a C dx) where
 ty:=λM h _ ⟨o,vs,hx,hc,_⟩=>hc▸(PySem.W.Looks.ld hx).andThen .now
 it:=λM h KI _=>by
  obtain⟨c,dd,cd,sl,ho⟩:=yp xc.bo
  intro A' Q' E' s' k q
  unfold isType loadHead
  exact wpAny_bind (wpAny_loadPart (k _ _ (KI _ _ ho)) (wpAny_pure q))
 ne:=λh tp dd its n sl KI htp=>by
  obtain⟨c,dd',cd,sl',ho⟩:=yp xc.bo
  refine Bool.eq_false_iff.mpr λq=>?_
  have e:C=tp:=Value.ref.inj (beq_iff_eq.mp q)
  subst e
  cases (KI _ _ ho).symm.trans htp
 ca:=λ{prog w A E Q s} KI ex k=>by
  obtain⟨h,g,d,t,os⟩:=s
  exact Cd KI xc ex k
end L2
namespace L2
open PySem
section
variable {prog:Program}{w:World}{A:Around}{E:Value->Shared->Prop}{h:Heap}{g:Array GenState}{d:Drawn}{t:Nat}{os:OsState}
variable {nm q:Str}{C N e t0:Addr}{bs bm bmB rest:List Value}{hdct:Bool}{sn:List Str}{sub:List Value}{ab:Bool}{col:Option Bool}{dd dx:Option Addr}{k0 k1 k2 k3 k5:Option Value}{B newId initId:String}
theorem Ce (F:ExcBaseFacts B newId initId bmB) (T:OwnTail h bmB bm){Q:Value->Shared->Prop}(hC:h.get? C=some (excClassObj nm q C N bs bm hdct sn sub ab col dd k0 k1 k2 k3 k5 newId))
  (he:h.get? e=some { cls:=.ref C,dict:=dx,data:=.fields #[.ref t0,.none,.none,.none,.bool false,.none] }) (hl:rest.length<=sizeLine)
  (hq:∀ h',h'.get? e=some { cls:=.ref C,dict:=dx,data:=.fields #[.ref h.objs.size,.none,.none,.none,.bool false,.none] }->(∀ b o,b≠e->h.get? b=some o->h'.get? b=some o)->Q .none ⟨h',g,d,t,os⟩):
  wpAny (model prog w) A (call (.builtin initId) (.ref e::rest)) Q E ⟨h,g,d,t,os⟩:=by
 refine wpAny_call (codeAny_call_builtin F.init.plain F.initEntry (wpAny_check_init_subT F T hC he rfl ?_))
 have he1:=Heap.get?_push_of_some (h:=h) { cls:=.type "tuple",data:=.seq rest.toArray } he
 unfold Builtin.«BaseException.__init__»
 dsimp only
 rw[if_neg (by simp)]
 unfold newTuple Builtin.BaseException.bexcPut
 refine wpAny_bind (wpAny_newObj_type (wpAny_bind (wpAny_bind (wpAny_field he1 rfl rfl (wpAny_bind (wpAny_setField he1 rfl (Nat.zero_lt_succ 5) ?_))))) (by show rest.toArray.size<=sizeLine;rw[List.size_toArray];exact hl))
 refine wpAny_letGo (wpAny_pure (hq _ (Heap.get?_update_self _ he1 rfl) λb o hb q=>?_))
 exact(Heap.get?_update_other _ _ hb.symm).trans (Heap.get?_push_of_some _ q)
end
end L2
namespace L2
open PySem
structure BaseInit (K:PySem.W.Frag) (C:Addr) (I:String):Prop where
 ga:PySem.W.specialIn K (.ref C) "__getattribute__" = some (some (.builtin "type.__getattribute__"))
 rd:PySem.W.readsIn K C (.type "type")=true
 fd:PySem.W.findCls K (.ref C) (.type "type") "__init__" = some (.val (.builtin I))
 hd:PySem.W.handedIn (.builtin I)=true
theorem Em {prog:Program}{w:World}{A:Around}{E:Value->Shared->Prop}{s:Shared}{K:PySem.W.Frag}{C:Addr}{I:String}{pl:Sem Bool}{Q:Value×List Value->Shared->Prop}(X:K.In s.heap) (b:BaseInit K C I)
  (h:Q (.builtin I,[]) { s with toks:=s.toks+1 }):wpAny (model prog w) A (getMethod (.ref C) "__init__" pl) Q E s:=PySem.W.method_cls X b.ga (PySem.W.cls_value X b.rd b.fd b.hd h)
end L2
namespace L2
open PySem PySem.Spec PyProof.Rows
def uf (e C:Addr) (dx:Option Addr) (h:Heap):Prop:=∃ t,h.get? e=some { cls:=.ref C,dict:=dx,data:=.fields #[.ref t,.none,.none,.none,.bool false,.none] }
def dR (e C:Addr) (dx:Option Addr):HO:=.ext (uf e C dx)
theorem ug {P:Program}{w:World}{K:PySem.W.Frag}{H:Hp}{h:Heap}{e C:Addr}{dx:Option Addr}(r:uf e C dx h):ObjOk P w K H h e (dR e C dx):=by
 obtain⟨t,q⟩:=r
 exact⟨⟨t,q⟩,⟨_,q⟩,λg1 g2 ⟨t',q'⟩ k=>⟨t',k _ q'⟩⟩
def p7 (K:PySem.W.Frag) (bmB:List Value) (ns:List Str):List Value->Bool
 | []=>bmB == []
 | v::r=>(v::r) == bmB||match v with
  | .ref A=>(match K.lookup A with
   | some ⟨_,_,.cls cd,_⟩=>PySem.W.nsOkIn K cd.ns&&ns.all (λn=>PySem.W.nsIn K cd.ns n == some none)&&p7 K bmB ns r
   | _=>false)
  | _=>false
theorem qH {K:PySem.W.Frag}{h:Heap}{bmB:List Value}{ns:List Str}(X:K.In h):∀ {l:List Value},p7 K bmB ns l=true->TailN h bmB ns l
 | [],e=>by rw[← beq_iff_eq.mp e];exact .base
 | v::r,e=>by
  unfold p7 at e
  rcases Bool.or_eq_true_iff.mp e with q | q
  ·rw[beq_iff_eq.mp q];exact .base
  ·split at q
   ·split at q
    ·rename_i ho
     simp only[Bool.and_eq_true,List.all_eq_true,beq_iff_eq] at q
     exact .own (X _ _ ho) (.of_isNs (PySem.W.isNs_of_in X q.1.1)) (λn hn=>PySem.W.nsMap_none_of_in X q.1.1 (q.1.2 n hn)) (qH X q.2)
    ·cases q
   ·cases q
abbrev bmV:List Value:=[.type "ValueError",.type "Exception",.type "BaseException",.type "object"]
abbrev nsX:List Str:=["__setattr__", "__getattribute__", "__getattr__", "at"]
def jr (K:PySem.W.Frag) (C fI:Addr):Bool:=match K.lookup C with
 | some ⟨.type "type",_,.cls cd,sl⟩=>(match cd.mro,sl.toList with
  | .ref C'::bm,[_,_,_,_,some (.builtin n),_]=>C' == C&&n == "ValueError.__new__" && !cd.hasDel&&cd.hasDict&&PySem.W.tailIn K bmV bm&&p7 K bmV nsX bm&&PySem.W.nsOkIn K cd.ns &&
    PySem.W.nsIn K cd.ns "__init__" == some (some (.ref fI))&&nsX.all (λn=>PySem.W.nsIn K cd.ns n == some none)
  | _,_=>false)
 | _=>false
structure ExcI (h:Heap) (C fI:Addr):Prop where
 ex:∃ (bm:List Value) (N:Addr) (nm qn:Str) (bs:List Value) (sn:List Str) (su:List Value) (ab:Bool) (co:Option Bool) (dd:Option Addr) (k0 k1 k2 k3 k5:Option Value) (mN:Str->Option Value),
   h.get? C=some (excClassObj nm qn C N bs bm true sn su ab co dd k0 k1 k2 k3 k5 "ValueError.__new__")/\h.Ns N mN/\mN "__init__" = some (.ref fI)/\(∀ n∈nsX,mN n=none)/\OwnTail h bmV bm/\TailN h bmV nsX bm
theorem qU {K:PySem.W.Frag}{h:Heap}{N:Addr}{x:Str}{v:Value}{m:Str->Option Value}(X:K.In h) (G:h.Ns N m) (e:PySem.W.nsIn K N x=some (some v)):m x=some v:=by
 obtain⟨o,es,ep,ho,hd,_,hf⟩:=G
 unfold PySem.W.nsIn at e
 split at e
 ·rename_i c d es' n' sl q
  have:=X _ _ q
  rw[ho] at this
  cases this
  cases hd
  split at e
  ·rename_i en he
   cases e
   rw[← hf]
   unfold nsFind findBy
   rw[← Array.find?_toList,he]
   rfl
  ·split at e <;> cases e
 ·cases e
theorem nO {K:PySem.W.Frag}{h:Heap}{C fI:Addr}(KI:K.In h) (q:jr K C fI=true):ExcI h C fI:=by
 unfold jr at q
 split at q
 ·rename_i dd cdd sl lk
  split at q
  ·rename_i C1 bm k0 k1 k2 k3 nw k5 hmro hsl
   simp only[Bool.and_eq_true,beq_iff_eq,Bool.not_eq_true',List.all_eq_true] at q
   obtain⟨⟨⟨⟨⟨⟨⟨⟨r1,r2⟩,hdel⟩,hdc⟩,htl⟩,htn⟩,hns⟩,hini⟩,hno⟩:=q
   subst r1 r2
   cases cdd with
   | mk nm bs mro ns qn hdd sn su ab co del=>
    have e1:mro=.ref C1::bm:=hmro
    have e2:del=false:=hdel
    have e4:hdd=true:=hdc
    subst e1 e2 e4
    have e3:sl=#[k0,k1,k2,k3,some (.builtin "ValueError.__new__"),k5]:=by cases sl with | mk l=>exact congrArg Array.mk hsl
    subst e3
    have hN:h.Ns ns _:=.of_isNs (PySem.W.isNs_of_in KI hns)
    exact⟨bm,ns,nm,qn,bs,sn,su,ab,co,dd,k0,k1,k2,k3,k5,_,KI _ _ lk,hN,qU KI hN hini,λn hn=>PySem.W.nsMap_none_of_in KI hns (hno n hn),PySem.W.tail_of_in KI htl,qH KI htn⟩
  ·cases q
 ·cases q
end L2
set_option exponentiation.threshold 500
namespace L2
open PySem PySem.Spec PyProof.Rows
section
variable {X:Cx}
def tFs (i:Nat):TE:=fun σ H Q=>∃ n:Int,σ[i]?=some (some (.int n))/\n.natAbs < 10 ^ 100/\∀ y,y.length<=3000->Q (.str y) H
theorem Cg {n:Int}(h:n.natAbs < 10 ^ 100):n.natAbs.log2 < 1920:=by
 by_cases h0:n.natAbs=0
 ·rw[h0];decide
 ·exact(Nat.log2_lt h0).mpr (Nat.lt_of_lt_of_le h (Nat.le_trans (show 10 ^ 100<=2 ^ 400 by decide) (Nat.pow_le_pow_right (by decide) (by decide))))
theorem p8 {x:Str}(h:x.length<=3000):x.length<=sizeLine:=Nat.le_trans h (by rw[sizeLine_eq];decide)
theorem Kf {i:Nat}{c c' x:Str}{jj jj':Nat}{p1 p2 p3 p4 p5:Pos}(hN:X.N[i]?=some x) (hv:Vis X.env.scope x) (hc:c.length<=1000) (hc':c'.length<=1000) (hd:(x == ("__debug__" : Str))=false:=by decide) (hcd:(x == ("__classdict__" : Str))=false:=by decide):
  PE X (.JoinedStr [.Constant (.str c) jj p1,.FormattedValue (.Name x p2) (-1) none p3,.Constant (.str c') jj' p5] p4) (tFs i):=by
 intro pins s σ H Q I ⟨n,hn,hb,k⟩
 have e10:=int_text_length_le10 (k:=100) (by decide) hb
 have le:(Str.ofString (toString n)).length<=101:=by rw[PySem.ofString_length];exact e10
 have l1:(Str.empty++c).length<=1000:=by rw[strLen_append];show 0+c.length<=1000;omega
 have l2:(Str.empty++c++Str.ofString (toString n)).length<=1101:=by rw[strLen_append];omega
 have l3:(Str.empty++c++Str.ofString (toString n)++c').length<=3000:=by rw[strLen_append];omega
 refine wpAny_JoinedStr ?_
 show wpAny _ _ (eval (.Constant (.str c) jj p1) X.env) _ _ s
 refine thn (vO pins s σ H (λv H1=>v=.str c/\H1=H) I ⟨rfl,rfl⟩) ?_
 rintro u s1 ⟨v,H1,I1,r,e1,e2⟩
 subst e1 e2
 obtain⟨t,rfl⟩:=r
 refine⟨c,t,rfl,p8 (Nat.le_trans l1 (by decide)),?_⟩
 show wpAny _ _ (eval (.FormattedValue (.Name x p2) (-1) none p3) X.env) _ _ s1
 refine wpAny_FormattedValue_plain (thn (dj hN hv hd hcd pins s1 σ H1 (λv H2=>v=.int n/\H2=H1) I1 ⟨.int n,hn,rfl,rfl⟩) ?_)
 rintro u s2 ⟨v,H2,I2,r,e1,e2⟩
 subst e1 e2
 obtain⟨t2,rfl⟩:=r
 refine wpAny_formatField_int (Cg hb) ⟨_,_,rfl,p8 (Nat.le_trans l2 (by decide)),?_⟩
 show wpAny _ _ (eval (.Constant (.str c') jj' p5) X.env) _ _ _
 refine thn (vO pins _ σ H2 (λv H1=>v=.str c'/\H1=H2) (I2.tok _) ⟨rfl,rfl⟩) ?_
 rintro u s3 ⟨v,H3,I3,r,e1,e2⟩
 subst e1 e2
 obtain⟨t3,rfl⟩:=r
 refine⟨_,_,rfl,p8 l3,p8 l3,?_⟩
 exact⟨.str _,H3,I3.tok _,⟨_,rfl⟩,k _ l3⟩
def tBi (i j:Nat) (C:Addr):TS:=λD σ H=>∃ e n,σ[i]?=some (some (.ref e))/\H e=some (dR e C none)/\σ[j]?=some (some (.int n))/\n.natAbs < 10 ^ 100/\D.nx σ H
theorem Kg {H:Hp}{a:Addr}{o:HO}(h:H a=some o):upd H a o=H:=by
 funext b
 by_cases hb:b=a
 ·subst hb;rw[aU,h]
 ·rw[aH hb]
theorem Hl {i j:Nat}{C CL fI:Addr}{x bn:Str}{a:Expr}{p1 p2 p3 p4 p5:Pos}(hC:jr X.K C fI=true) (b:BaseInit X.K CL "ValueError.__init__") (hN:X.N[i]?=some x) (hv:Vis X.env.scope x) (hg:Gl X bn) (hm:X.mg bn=some (.ref CL)) (ha:PE X a (tFs j))
  (he:starEach [.Name x p3,a] X.env=(false,eval (.Name x p3) X.env)::starEach [a] X.env) (he2:starEach [a] X.env=(false,eval a X.env)::starEach [] X.env) (hpl:(backTo p4 (starEach [a] X.env)).any (·.1)=false)
  (hs:swapsWith (.Call (.Attribute (.Name bn p1) "__init__" p2) [.Name x p3,a] [] p4) none p5.line X.env=pure false){pl:Sem Bool}
  (ht:eval (.Call (.Attribute (.Name bn p1) "__init__" p2) [.Name x p3,a] [] p4) X.env=(do
   let ov ← eval (.Name bn p1) X.env
   standAt p2.atName
   let (f,first) ← holding [ov] (getMethod ov "__init__" pl)
   callWith p4 f first (backTo p4 (starEach [.Name x p3,a] X.env)) (backToKw p4 (keywordEach [] X.env))))
  (hd:(x == ("__debug__" : Str))=false:=by decide) (hcd:(x == ("__classdict__" : Str))=false:=by decide) (hdb:(bn == ("__debug__" : Str))=false:=by decide):
  PS X (.Expr (.Call (.Attribute (.Name bn p1) "__init__" p2) [.Name x p3,a] [] p4) p5) (tBi i j C):=by
 intro pins s σ H D I ⟨e,n,hi,hH,hj,hb,qn⟩
 refine wpAny_Expr_any ?_ I.quiet hs
 refine PySem.W.methodCall_KW (pl:=pl) (jB I hg hm ?_ hdb) ht
 refine Em I.kIn b ?_
 refine callWith_builtin1 (thn (cL (dj hN hv hd hcd) (cL ha fK he2) he p4 pins _ σ H (λvs H1=>H1=H/\∃ y,vs=[.ref e,y]) (I.tok _) ⟨.ref e,hi,n,hj,hb,λy _=>⟨rfl,.str y,rfl⟩⟩) ?_) he hpl
 rintro us s1 ⟨vs,H1,I1,r,e1,⟨y,e2⟩⟩
 subst e1 e2
 obtain⟨u,w',rfl,r1,r2⟩:=vals2 r
 cases r1
 obtain⟨bm,N,nm,qn',bs,sn,su,ab,co,dd,k0,k1,k2,k3,k5,mN,c1,c2,c3,c4,c5,c6⟩:=(nO I1.kIn hC).ex
 obtain⟨t0,he0⟩:uf e C none s1.heap:=(I1.hok e _ hH).1
 obtain⟨hh,g,d,tk,os⟩:=s1
 refine Ce F.excBase_ValueError c5 c1 he0 (show 1<=sizeLine by decide) λh' g1 g2=>?_
 have I2:=I1.write (x:=e) (e:=e) (o:=dR e C none) (h':=h') (t':=tk) (by rw[hH];trivial) (.inl rfl) (λb u hb q=>g2 b u hb q) ⟨_,g1⟩ (ug ⟨_,g1⟩)
 rw[Kg hH] at I2
 exact⟨σ,_,I2,qn⟩
def tSt (i j:Nat) (C:Addr):TS:=λD σ H=>∃ e n,σ[i]?=some (some (.ref e))/\H e=some (dR e C none)/\σ[j]?=some (some (.int n))/\∀ dx,H dx=none->dx≠e->D.nx σ (upd (upd H dx (.xd [("at",.int n)])) e (dR e C (some dx)))
theorem yq:typeLookup (.type "ValueError") "at" = pure none:=by rw[typeLookup_type,builtinLookup_eq_fast];kernel_rfl
theorem Ni {i j:Nat}{C fI:Addr}{x y:Str}{p1 p2 p3 p4:Pos}(hC:jr X.K C fI=true) (hN:X.N[i]?=some x) (hv:Vis X.env.scope x) (hN':X.N[j]?=some y) (hv':Vis X.env.scope y)
  (hs:swapsWith (.Name y p3) (some (.Attribute (.Name x p1) "at" p2)) p4.line X.env=pure false)
  (hd:(x == ("__debug__" : Str))=false:=by decide) (hcd:(x == ("__classdict__" : Str))=false:=by decide) (hd':(y == ("__debug__" : Str))=false:=by decide) (hcd':(y == ("__classdict__" : Str))=false:=by decide):
  PS X (.Assign [.Attribute (.Name x p1) "at" p2] (.Name y p3) p4) (tSt i j C):=by
 intro pins s σ H D I ⟨e,n,hi,hH,hj,qn⟩
 refine plainObj_wpAny_Assign_Attribute (thn (dj hN' hv' hd' hcd' pins s σ H (λv H1=>v=.int n/\H1=H) I ⟨.int n,hj,rfl,rfl⟩) ?_) hs
 rintro u s1 ⟨v,H1,I1,r,e1,e2⟩
 subst e1 e2
 obtain⟨t,rfl⟩:=r
 refine thn (dj hN hv hd hcd pins s1 σ H1 (λv H2=>v=.ref e/\H2=H1) I1 ⟨.ref e,hi,rfl,rfl⟩) ?_
 rintro u s2 ⟨v,H2,I2,r,e1,e2⟩
 subst e1 e2
 obtain rfl:u=Value.ref e:=r
 obtain⟨bm,N,nm,qn',bs,sn,su,ab,co,dd,k0,k1,k2,k3,k5,mN,c1,c2,c3,c4,c5,c6⟩:=(nO I2.kIn hC).ex
 obtain⟨t0,he0⟩:uf e C none s2.heap:=(I2.hok e _ hH).1
 obtain⟨hh,g,d,tk,os⟩:=s2
 refine xJ F.store_ValueError c1 c2 c6 (by decide) (by decide) (c4 _ (by decide)) (c4 _ (by decide)) yq he0 rfl (λc z=>nomatch z) rfl λh' tk' g1 g2 g3=>?_
 have hnd:H2 hh.objs.size=none:=I2.hok.fresh (Nat.le_refl _)
 have ned:hh.objs.size≠e:=Nat.ne_of_gt (Heap.lt_size he0)
 refine⟨σ,_,I2.un (h':=h') (t':=tk') ?_ ?_,qn hh.objs.size hnd ned⟩
 ·have ne:∀ b,H2 b=none->b≠e:=λb n z=>by subst z;rw[hH] at n;cases n
  have ot:∀ b o,H2 b=some o->o≠dR e C none->upd (upd H2 hh.objs.size (.xd [("at",.int n)])) e (dR e C (some hh.objs.size)) b=some o:=λb o q z=>by
   rw[aH (λy=>by subst y;rw[hH] at q;cases q;exact z rfl),aH (aN q hnd)];exact q
  refine⟨λb o q n _ _=>g3 b o (ne b n) q,λb o q n _ _=>⟨o.slots,g3 b o (ne b n) q⟩,λb o q n _=>?_,λb o q _=>?_,λb xs q=>ot b _ q (λz=>by unfold dR at z;cases z),λb o u q=>ot b _ q (λz=>by unfold dR at z;cases z),λb ps q=>⟨#[],by rw[ot b _ q (λz=>by unfold dR at z;cases z)];simp⟩⟩
  ·rw[aH (ne b n),aH (Nat.ne_of_lt (Heap.lt_size q))];exact n
  ·by_cases hb:b=e
   ·subst hb;exact⟨_,g1⟩
   ·exact⟨o,g3 b o hb q⟩
 ·intro b o q
  by_cases hb:b=e
  ·subst hb
   rw[aU] at q
   cases q
   exact ug ⟨_,g1⟩
  ·rw[aH hb] at q
   by_cases hbd:b=hh.objs.size
   ·subst hbd
    rw[aU] at q
    cases q
    refine⟨_,g2,λf=>?_⟩
    by_cases hf:f = "at"
    ·subst hf;simp only[if_true];exact⟨t,rfl⟩
    ·simp only[List.lookup,if_neg hf]
     have:(f == ("at" : Str))=false:=by simpa using hf
     rw[this];trivial
   ·rw[aH hbd] at q
    refine(I2.hok b o q).stay (λc x hc r=>g3 c x ?_ r) (λc r=>?_) λc xs r=>?_
    ·rintro rfl
     rcases hc with z | z
     ·exact hb z.symm
     ·rw[hH] at z;unfold dR at z;cases z
    ·rw[aH (λy=>by subst y;rw[hH] at r;unfold dR at r;cases r),aH (aN r hnd)];exact r
    ·rw[aH (λy=>by subst y;rw[hH] at r;unfold dR at r;cases r),aH (aN r hnd)];exact r
end
end L2
namespace MR
open PySem L2
def KnA (C:Addr) (d:Option Nat) (a:Addr) (H:Hp):Prop:=∃ dx,H a=some (exo a C dx)/\∀ n,d=some n->∃ x,dx=some x/\H x=some (xat x n)
theorem KnA.up {C:Addr}{d:Option Nat}{a:Addr}{H H':Hp}(k:KnA C d a H) (s:Same H H'):KnA C d a H':=let ⟨dx,e2,e3⟩:=k;⟨dx,s _ _ e2,λn e=>let ⟨x,q1,q2⟩:=e3 n e;⟨x,q1,s _ _ q2⟩⟩
def Kn (i:Nat) (C:Addr) (d:Option Nat) (σ:St) (H:Hp):Prop:=∃ a,σ[i]?=some (some (.ref a))/\KnA C d a H
theorem Kn.up {i:Nat}{C:Addr}{d:Option Nat}{σ:St}{H H':Hp}(k:Kn i C d σ H) (s:Same H H'):Kn i C d σ H':=let ⟨a,e1,e2⟩:=k;⟨a,e1,e2.up s⟩
def tKn (i:Nat) (C:Addr) (dd:Option Nat) (v:V):TE:=fun σ H Q=>Kn i C dd σ H/\∀ H',Same H H'->Q v H'
def tKt (i:Nat) (C:Addr) (dd:Option Nat) (k:Bool):TT:=fun σ H Q=>Kn i C dd σ H/\∀ H',Same H H'->Q k H'
def tKs (i:Nat) (C:Addr) (dd:Option Nat) (p:PV):TS:=λD σ H=>Kn i C dd σ H/\∀ v H',Same H H'->(∀ (M:MC) (A:Addr->Prop),Rep M A H' v p)->D.rt v H'
def spE (C:Addr) (dd:Option Nat) (p:PV):Sp:=λvs H Q _=>∃ a,vs=[.ref a]/\KnA C dd a H/\∀ v H',Same H H'->(∀ (M:MC) (A:Addr->Prop),Rep M A H' v p)->Q v H'
def atV:PV->Option V
 | .non=>some .non
 | .bl b=>some (.bl b)
 | .int i=>some (.int i)
 | .str x=>some (.str x)
 | _=>none
theorem Hm {C:MC}{A:Addr->Prop}{H:Hp}{p:PV}{v:V}(h:atV p=some v):Rep C A H v p:=by
 cases p with
 | non=>cases h;exact .non
 | bl b=>cases h;exact .bl b
 | int i=>cases h;exact .int i
 | str x=>cases h;exact .str x
 | _=>cases h
theorem Kh {C:MC}{A:Addr->Prop}{H:Hp}{p:PV}{v v':V}(h:atV p=some v') (r:Rep C A H v p):v=v':=by
 cases p with
 | non=>cases h;cases r;rfl
 | bl b=>cases h;cases r;rfl
 | int i=>cases h;cases r;rfl
 | str x=>cases h;cases r;rfl
 | _=>cases h
section
variable {X:Cx}{i:Nat}{C D:Addr}{dd:Option Nat}{v:V}{a c e:Expr}{b:Expr}{rest:List Expr}{pos p p1 p2:Pos}{x dn:Str}{j k:Bool}
theorem wC:CallR X (.builtin "isinstance") (λxs H Q=>∃ a C dx d c b,xs=[.ref a,d]/\(∀ u,RelV d u->u=c)/\H a=some (exo a C dx)/\XCls X.K C/\PySem.W.kitOne X.K (.ref C) c=some b/\Q (.bl b) H):=by
 intro pins s σ H xs us Q I r h
 obtain⟨a,C,dx,d,c,b,rfl,hd,ea,xc,hk,q⟩:=h
 obtain⟨u,w',rfl,r1,r2⟩:=vals2 r
 cases r1
 cases hd _ r2
 have ok:ExcAt a C dx s.heap:=(I.hok a _ ea).1
 exact PySem.W.kia_one (El xc) I.kIn ok hk (λz=>nomatch z) λtk=>⟨.bl b,H,I.tok _,rfl,q⟩
theorem lL (i:Nat) (xc:XCls X.K C) (hk:PySem.W.kitOne X.K (.ref C) (.ref D)=some k) (hm:X.mg "isinstance" = none) (hmd:X.mg dn=some (.ref D)) (hN:X.N[i]?=some x:=by rfl)
  (hv:Vis X.env.scope x:=by first | exact Or.inl rfl | exact Or.inr (Or.inl rfl) | exact Or.inr (Or.inr rfl)) (hd:(x == ("__debug__" : Str))=false:=by decide) (hcd:(x == ("__classdict__" : Str))=false:=by decide)
  (hg:Gl X "isinstance" := by rfl) (hgd:Gl X dn:=by rfl) (hdd:(dn == ("__debug__" : Str))=false:=by decide) (hbi:bootBuiltins "isinstance" = some (.builtin "isinstance"):=by decide +kernel)
  (he:starEach [.Name x p1,.Name dn p2] X.env=(false,eval (.Name x p1) X.env)::starEach [.Name dn p2] X.env:=by rfl) (he2:starEach [.Name dn p2] X.env=(false,eval (.Name dn p2) X.env)::starEach [] X.env:=by rfl) (hpl:(backTo pos (starEach [.Name dn p2] X.env)).any (·.1)=false:=by rfl):
  PE X (.Call (.Name "isinstance" p) [.Name x p1,.Name dn p2] [] pos) (tKn i C dd (.bl k)):=
 PE.imp (m8 wC hg hm hbi (cL (dj hN hv hd hcd) (cL (pW (v:=.ref D) hgd hmd rfl hdd) fK he2) he) (by decide) (by decide) he hpl) fun σ H Q ⟨⟨a,e1,dx,e2,_⟩,kk⟩=>⟨.ref a,e1,a,C,dx,.ref D,.ref D,k,rfl,λu h=>h,e2,xc,hk,kk H (Same.refl _)⟩
theorem Hn (i:Nat){dn':String}(xc:XCls X.K C) (hk:PySem.W.kitOne X.K (.ref C) (.type dn')=some k) (hm:X.mg "isinstance" = none) (hmd:X.mg dn=none) (hbn:bootBuiltins dn=some (.type dn'):=by decide +kernel) (hN:X.N[i]?=some x:=by rfl)
  (hv:Vis X.env.scope x:=by first | exact Or.inl rfl | exact Or.inr (Or.inl rfl) | exact Or.inr (Or.inr rfl)) (hd:(x == ("__debug__" : Str))=false:=by decide) (hcd:(x == ("__classdict__" : Str))=false:=by decide)
  (hg:Gl X "isinstance" := by rfl) (hgd:Gl X dn:=by rfl) (hdn:dn ≠ "__name__" := by decide) (hdd:(dn == ("__debug__" : Str))=false:=by decide) (hbi:bootBuiltins "isinstance" = some (.builtin "isinstance"):=by decide +kernel)
  (he:starEach [.Name x p1,.Name dn p2] X.env=(false,eval (.Name x p1) X.env)::starEach [.Name dn p2] X.env:=by rfl) (he2:starEach [.Name dn p2] X.env=(false,eval (.Name dn p2) X.env)::starEach [] X.env:=by rfl) (hpl:(backTo pos (starEach [.Name dn p2] X.env)).any (·.1)=false:=by rfl):
  PE X (.Call (.Name "isinstance" p) [.Name x p1,.Name dn p2] [] pos) (tKn i C dd (.bl k)):=
 PE.imp (m8 wC hg hm hbi (cL (dj hN hv hd hcd) (cL (xR (v:=.ty dn') hgd hmd hbn rfl hdn hdd) fK he2) he) (by decide) (by decide) he hpl) fun σ H Q ⟨⟨a,e1,dx,e2,_⟩,kk⟩=>⟨.ref a,e1,a,C,dx,.ty dn',.type dn',k,rfl,λu h=>h,e2,xc,hk,kk H (Same.refl _)⟩
theorem Kl (i:Nat){jj:Nat}(hN:X.N[i]?=some x:=by rfl) (hv:Vis X.env.scope x:=by first | exact Or.inl rfl | exact Or.inr (Or.inl rfl) | exact Or.inr (Or.inr rfl)) (hd:(x == ("__debug__" : Str))=false:=by decide) (hcd:(x == ("__classdict__" : Str))=false:=by decide):
  PT X (.Compare (.Name x p1) [.Is] [.Constant .none jj p2] pos) (tKt i C dd false):=
 PT.imp (Ih (Ig (dj hN hv hd hcd))) fun σ H Q ⟨⟨a,e1,e2⟩,kk⟩=>⟨.ref a,e1,false,rfl,kk H (Same.refl _)⟩
theorem Ho (i:Nat){kd j0:Nat}{f:Str}{ps:List Str}{p0:PV}(hv0:atV p0=some v) (cc:Cal X.prog X.w X.K X.mg X.base kd f ps (spE C dd p0)) (hr:Room j0 X.A) (hN:X.N[i]?=some x:=by rfl) (hv:Vis X.env.scope x:=by first | exact Or.inl rfl | exact Or.inr (Or.inl rfl) | exact Or.inr (Or.inr rfl))
  (hd:(x == ("__debug__" : Str))=false:=by decide) (hcd:(x == ("__classdict__" : Str))=false:=by decide) (hle:kd<=j0:=by decide) (hg:Gl X f:=by rfl) (hdb:(f == ("__debug__" : Str))=false:=by decide)
  (he:starEach [.Name x p1] X.env=(false,eval (.Name x p1) X.env)::starEach [] X.env:=by rfl) (hpl:(backTo pos (starEach [] X.env)).any (·.1)=false:=by rfl):PE X (.Call (.Name f p) [.Name x p1] [] pos) (tKn i C dd v):=
 PE.imp (Bj cc hr (cL (dj hN hv hd hcd) fK he) hle hg hdb he hpl) fun σ H Q ⟨⟨a,e1,e2⟩,kk⟩=>⟨.ref a,e1,a,rfl,e2,λv' H' s' r=>by rw[Kh hv0 (r ⟨X.K,λ_=>0⟩ λ_=>True)];exact kk H' s'⟩
theorem Km {op:BoolOp}(h:PE X a (tKn i C dd v)):PE X (.BoolOp op [a] pos) (tKn i C dd v):=Ae h
theorem Gd (h1:PE X a (tKn i C dd (.bl j))) (h2:PE X (.BoolOp .Or (b::rest) pos) (tKn i C dd (.bl k))):PE X (.BoolOp .Or (a::b::rest) pos) (tKn i C dd (.bl (j||k))):=
 PE.imp (Fv h1 h2) fun σ H Q ⟨kn,kk⟩=>⟨kn,λH' s=>⟨j,rfl,by
  cases j with
  | false=>exact⟨kn.up s,λH2 s2=>kk H2 (s.trans s2)⟩
  | true=>exact kk H' s⟩⟩
theorem j5 (h:PE X e (tKn i C dd (.bl j))) (he:∀ whole,isTrue e X.env whole=(do let v ← whole;standAt e.pos;holding [v] (truthy v)):=by intro _;rfl):PT X e (tKt i C dd j):=PT.imp (Ab h he) fun σ H Q ⟨kn,kk⟩=>⟨kn,λH' s=>⟨j,rfl,kk H' s⟩⟩
theorem wD (h:PT X a (tKt i C dd j)):PW X (.BoolOp .Or [a] pos) (tKt i C dd j):=Ac h
theorem rR (h1:PT X a (tKt i C dd j)) (h2:PW X (.BoolOp .Or (b::rest) pos) (tKt i C dd k)):PW X (.BoolOp .Or (a::b::rest) pos) (tKt i C dd (j||k)):=λwh pins s σ H Q I ⟨kn,kk⟩=>Ft h1 h2 wh pins s σ H Q I ⟨kn,λH' s'=>by
 cases j with
 | false=>exact⟨kn.up s',λH2 s2=>kk H2 (s'.trans s2)⟩
 | true=>exact kk H' s'⟩
theorem wF (h:PT X a (tKt i C dd j)):PT X (.UnaryOp .Not a pos) (tKt i C dd (!j)):=PT.imp (Ad h) fun σ H Q ⟨kn,kk⟩=>⟨kn,λH' s=>kk H' s⟩
variable {sa sb:List Stmt}{st:List Stmt}{p':PV}
theorem Ci (hv:atV p'=some v) (h:PE X e (tKn i C dd v)):PSs X (.Return (some e) pos::st) (tKs i C dd p'):=PSs.imp (jC (vP h) oM) λD σ H ⟨q1,q2⟩=>⟨q1,λH' s=>q2 v H' s λM A=>Hm hv⟩
theorem rT (hc:PT X c (tKt i C dd false)) (h:PSs X st (tKs i C dd p')):PSs X (.If c sa [] pos::st) (tKs i C dd p'):=PSs.imp (jC (Fw hc oM xT) h) λD σ H ⟨kn,kk⟩=>⟨kn,λH' s=>⟨kn.up s,λv H2 s2 r=>kk v H2 (s.trans s2) r⟩⟩
end
theorem PSs.or {X:Cx}{e:List Stmt}{t u:TS}(h:PSs X e t) (h':PSs X e u):PSs X e (λD σ H=>t D σ H\/u D σ H):=λpins s σ H D I q=>q.elim (h pins s σ H D I) (h' pins s σ H D I)
def En (f:Env->Option Out) (xf:Env->Option XV) (c0:Nat) (v:Option Nat->Option PV) (r:Env->Option Out) (env:Env):Option Out:=match xf env with
 | some c=>if c.1=c0 then (v c.2).map .rt else none
 | none=>(f env).bind λo=>match o with
  | .nx e=>r e
  | o=>some o
@[simp] theorem Hq (f:Env->Option Out) (xf:Env->Option XV) (c0:Nat) (v:Option Nat->Option PV) (r:Env->Option Out) (env:Env):En f xf c0 v r env=(match xf env with
 | some c=>if c.1=c0 then (v c.2).map .rt else none
 | none=>(f env).bind λo=>match o with
  | .nx e=>r e
  | o=>some o):=id rfl
def onN (g:Nat->PV) (d:Option Nat):Option PV:=d.map g
@[simp] theorem Q8 (g:Nat->PV) (d:Option Nat):onN g d=d.map g:=id rfl
def onA (p:PV) (d:Option Nat):Option PV:=some p
@[simp] theorem Q9 (p:PV) (d:Option Nat):onA p d=some p:=id rfl
theorem Ko {X:Cx}{rest:List Stmt}{iw:Nat}{C:Addr}{g:Nat->PV}(h:∀ n,PSs X rest (tKs iw C (some n) (g n))) (d:Option Nat) (q:PV) (e:onN g d=some q):PSs X rest (tKs iw C d q):=by
 cases d with
 | none=>cases e
 | some n=>cases e;exact h n
theorem Hr {H1:Hp}{a dx C:Addr}{d:Option Nat}(nd:d.isSome=true->a≠dx):KnA C d a (wB H1 a dx C d):=by
 cases d with
 | none=>exact⟨none,aU,λn z=>nomatch z⟩
 | some n=>exact⟨some dx,aU,λm z=>by cases z;exact⟨dx,rfl,by show upd (upd H1 dx (xat dx n)) a (exo a C (some dx)) dx=_;rw[aH (Ne.symm (nd rfl)),aU]⟩⟩
theorem Cj {H1:Hp}{a dx C:Addr}{d:Option Nat}(nH:H1 a=none) (nHd:H1 dx=none):Same H1 (wB H1 a dx C d):=by
 cases d with
 | none=>exact bK nH _
 | some n=>
  intro b o q
  show upd (upd H1 dx (xat dx n)) a (exo a C (some dx)) b=_
  rw[aH (aN q nH),aH (aN q nHd)];exact q
theorem Kq {X:Cx}{b:BX}{G G' L:List Nat}{body rest:List Stmt}{f r:Env->Option Out}{xf:Env->Option XV}{cx n wn:Str}{Cc:Addr}(iw ie c0:Nat){p:Option Nat->Option PV}{np p1 p2 p3 hp pos:Pos}(nd:X.N.Nodup)
  (hm:X.mg cx=some (.ref Cc)) (hexm:PySem.W.exmOne X.K (.ref (b.C.cl c0)) (.ref Cc)=some true) (h1:SSs X b G G L false body f) (h2:∀ E',XSs (X.wish E') (tX b G (WT (X.wish E') b) xf) body) (hr:SSs X b G G' L false rest r) (hR:∀ d q,p d=some q->PSs X rest (tKs iw (b.C.cl c0) d q))
  (hX:∀ e s,X.xe e s->False:=by exact λ_ _ z=>z) (hex:X.ex=[]:=by rfl) (hst:X.stack=X.env::X.outer:=by rfl) (hfr:X.env.frame=some X.env.locals:=by rfl)
  (hn:X.N[ie]?=some n:=by rfl) (hnl:X.env.scope.names.lookup n=some .local:=by rfl) (hw:X.N[iw]?=some wn:=by rfl) (hwl:Loc X.env.scope wn:=by first | exact Or.inl rfl | exact Or.inr rfl) (hwe:(iw == ie)=false:=by rfl) (hgl:Gl X cx:=by rfl)
  (hd:(cx == ("__debug__" : Str))=false:=by decide) (hdn:(n == ("__debug__" : Str))=false:=by decide) (hcn:(n == ("__classdict__" : Str))=false:=by decide)
  (hsw:swapsWith (.Name n p2) (some (.Name wn p1)) p3.line X.env=pure false:=by rfl) (hfn:X.fn wn=true\/X.env.scope.names.lookup wn=some .local:=by first | exact .inl rfl | exact .inr rfl | assumption):
  SSs X b G G' L false (.Try body [.ExceptHandler (some (.Name cx np)) (some n) [.Assign [.Name wn p1] (.Name n p2) p3] hp] [] [] pos::rest) (En f xf c0 p r):=by
 intro pins s σ H D I ⟨Ow,env,o,E,hq,kk⟩
 rw[Hq] at hq
 cases q:xf env with
 | some c=>
  rw[q] at hq
  have hq:(if c.1=c0 then (p c.2).map Out.rt else none)=some o:=hq
  by_cases hc:c.1=c0
  ·rw[if_pos hc] at hq
   obtain⟨pv,hpv,rfl⟩:=Option.map_eq_some_iff.mp hq
   refine jC (yo hX hex hst hfr nd hn hnl hw hwl hgl hm h1 h2 hd hdn hcn hsw hfn) (hR c.2 pv hpv) pins s σ H D I ?_
   refine .inr ⟨Ow,env,c,E,q,by rw[hc];exact hexm,λa dx H1 sm nH nHd ned=>⟨⟨a,?_,by rw[hc];exact Hr ned⟩,λv H' s' r'=>?_⟩⟩
   ·have hil:iw < σ.length:=by rw[I.len];exact(List.getElem?_eq_some_iff.mp hw).1
    have ne:ie≠iw:=λz=>by subst z;simp at hwe
    rw[List.getElem?_set_ne ne,List.getElem?_set_self (by rw[List.length_set];exact hil)]
   ·have kk':∀ v H',Same b.H0 H'->Ret b.C b.A b.H0 false H' v pv->D.rt v H':=kk
    exact kk' v H' (E.same.trans (sm.trans ((Cj nH nHd).trans s'))) (r' _ _)
  ·rw[if_neg hc] at hq
   cases hq
 | none=>
  rw[q] at hq
  obtain⟨o1,ho,hq⟩:=aJ hq
  refine jC (yo hX hex hst hfr nd hn hnl hw hwl hgl hm h1 h2 hd hdn hcn hsw hfn) hr pins s σ H D I ?_
  refine .inl ⟨Ow,env,o1,E,ho,?_⟩
  cases o1 with
  | nx e1=>exact λOw' σ' H' E' x=>⟨Ow',e1,o,E',hq,kk.ex x⟩
  | bk e1=>cases hq;exact kk
  | ct e1=>cases hq;exact kk
  | rt p1=>cases hq;exact kk
theorem Kr {P:Program}{w:World}{K:PySem.W.Frag}{mg:Str->Option Value}{base:Heap}{x qual:Str}{st:Stmt}{f:Addr}{fd:FuncData}{N:List Str}{y:Str}{k:Nat}{C:Addr}{dd:Option Nat}{p:PV}(F:Fun K x qual st f fd) (S:FnScope N [y] (au st))
  (hb:∀ (cdv:Value) (A:Around) (outer:List PySem.Env) (s:Shared) (H:Hp) (E:XK),Room k (A.deeper (PyProof.Rows.envOfC qual (au st) s.heap.objs.size f cdv))->PSs (cG CX0 P w K mg base N qual (au st) f cdv A outer s H E).nox (bc st) (tKs 0 C dd p)):
  FnOk P w K mg base CX0 (k+1) f fd [y] (spE C dd p):=by
 refine F.ok S (by rintro vs H Q E ⟨a,e,_⟩;rw[e];rfl) λcdv A outer s H vs Q E hr ⟨a,e,ha,kk⟩=>⟨_,hb cdv A outer s H E hr,⟨a,?_,ha⟩,λv H' s' r=>kk v H' s' r⟩
 subst e
 rfl
end MR
namespace MR
open PySem L2
section
variable {X:Cx}{i:Nat}{C D fI:Addr}{dd:Option Nat}{n:Nat}{x dn:Str}{k:Bool}{p p1 p2 p3 pos:Pos}
theorem zJ (i:Nat) (hC:∃ f,jr X.K C f=true) (hN:X.N[i]?=some x:=by rfl) (hv:Vis X.env.scope x:=by first | exact Or.inl rfl | exact Or.inr (Or.inl rfl) | exact Or.inr (Or.inr rfl)) (hd:(x == ("__debug__" : Str))=false:=by decide) (hcd:(x == ("__classdict__" : Str))=false:=by decide)
  (hb:attributeBase (.Name x p1) "at" X.env (eval (.Name x p1) X.env)=eval (.Name x p1) X.env:=by rfl):PE X (.Attribute (.Name x p1) "at" pos) (tKn i C (some n) (.int n)):=by
 intro pins s σ H Q I ⟨⟨a,e1,dx,e2,e3⟩,kk⟩
 obtain⟨y,rfl,e4⟩:=e3 n rfl
 refine xY hb (thn (dj hN hv hd hcd pins s σ H (λv H1=>v=.ref a/\H1=H) I ⟨.ref a,e1,rfl,rfl⟩) ?_)
 rintro u s1 ⟨v,H1,I1,r,q1,q2⟩
 subst q1 q2
 obtain rfl:u=Value.ref a:=r
 obtain⟨bm,N,nm,qn',bs,sn,su,ab,co,ddd,k0,k1,k2,k3,k5,mN,c1,c2,c3,c4,c5,c6⟩:=(nO I1.kIn hC.choose_spec).ex
 obtain⟨o,vs,hx,hc,hdt,hdx⟩:ExcAt a C (some y) s1.heap:=(I1.hok a _ e2).1
 obtain⟨m,t,hn,hm⟩:XAt y n s1.heap:=(I1.hok y _ e4).1
 obtain⟨hh,g,d,tk,os⟩:=s1
 refine uF F.attrBase_ValueError c1 c2 c6 (by decide) (by decide) (by decide) (c4 _ (by decide)) (c4 _ (by decide)) (c4 _ (by decide)) yq hx hc (λc z=>by rw[hdt] at z;cases z) (hdx y rfl) hn hm rfl ?_
 exact⟨.int n,H1,I1.tok _,⟨t,rfl⟩,kk H1 (Same.refl _)⟩
theorem zK:CallR X (.builtin "isinstance") (λxs H Q=>∃ (j:Int) (d:V) (c:Value) (b:Bool),xs=[.int j,d]/\(∀ u,RelV d u->u=c)/\PySem.W.kitOne X.K (.type "int") c=some b/\Q (.bl b) H):=by
 intro pins s σ H xs us Q I r h
 obtain⟨j,d,c,b,rfl,hd,hk,q⟩:=h
 obtain⟨u,w',rfl,r1,r2⟩:=vals2 r
 obtain⟨t,rfl⟩:=r1
 cases hd _ r2
 exact PySem.W.kia_one PySem.W.kitx_int I.kIn trivial hk (λz=>nomatch z) λtk=>⟨.bl b,H,I.tok _,rfl,q⟩
theorem yr {a:Expr}{j:Int}{dn':String}(ha:PE X a (tKn i C dd (.int j))) (hk:PySem.W.kitOne X.K (.type "int") (.type dn')=some k) (hm:X.mg "isinstance" = none) (hmd:X.mg dn=none) (hbn:bootBuiltins dn=some (.type dn'):=by decide +kernel)
  (hg:Gl X "isinstance" := by rfl) (hgd:Gl X dn:=by rfl) (hdn:dn ≠ "__name__" := by decide) (hdd:(dn == ("__debug__" : Str))=false:=by decide) (hbi:bootBuiltins "isinstance" = some (.builtin "isinstance"):=by decide +kernel)
  (he:starEach [a,.Name dn p2] X.env=(false,eval a X.env)::starEach [.Name dn p2] X.env:=by rfl) (he2:starEach [.Name dn p2] X.env=(false,eval (.Name dn p2) X.env)::starEach [] X.env:=by rfl) (hpl:(backTo pos (starEach [.Name dn p2] X.env)).any (·.1)=false:=by rfl):
  PE X (.Call (.Name "isinstance" p) [a,.Name dn p2] [] pos) (tKn i C dd (.bl k)):=
 PE.imp (m8 zK hg hm hbi (cL ha (cL (xR (v:=.ty dn') hgd hmd hbn rfl hdn hdd) fK he2) he) (by decide) (by decide) he hpl) fun σ H Q ⟨kn,kk⟩=>⟨kn,λH1 s1=>⟨j,.ty dn',.type dn',k,rfl,λu h=>h,hk,kk H1 s1⟩⟩
end
end MR
namespace L2
open PySem PySem.Spec PyProof.Rows
def del (H:Hp) (a:Addr):Hp:=λb=>if b=a then none else H b
theorem nP {H:Hp}{a:Addr}:del H a a=none:=by unfold del;rw[if_pos rfl]
theorem mL {H:Hp}{a b:Addr}(h:b≠a):del H a b=H b:=by unfold del;rw[if_neg h]
theorem Inv.forget {X:Cx}{pins:List (Addr×Obj)}{σ:St}{H:Hp}{s:Shared}(I:Inv X pins σ H s){a:Addr}{o:HO}(h:H a=some o) (n1:∀ xs,o≠.tup xs) (n2:∀ ob u,o≠.frz ob u) (n3:∀ ps,o≠.tbl ps) (n4:∀ y,o≠.own y):Inv X pins σ (del H a) s:=by
 have u:=I.base
 have kp:∀ b v,H b=some v->v≠o->del H a b=some v:=λb v q z=>by
  rw[mL (λy=>by subst y;rw[h] at q;cases q;exact z rfl)];exact q
 have fr:∀ b,H b=none->del H a b=none:=λb q=>by
  by_cases hb:b=a
  ·subst hb;exact nP
  ·rw[mL hb];exact q
 refine⟨I.ok,I.os,I.bare,⟨u.keep,u.slot,λb o' q n hx=>fr b (u.free b o' q n hx),u.there,λb xs q=>kp b _ (u.tups b xs q) λz=>n1 _ z.symm,λb o' xs q=>kp b _ (u.frzs b o' xs q) λz=>n2 _ _ z.symm,λb ps q=>?_⟩,I.loc,I.cell,fr _ I.free,λx c q=>fr _ (I.freeC x c q),λp hp=>?_,λb v q=>?_,I.len⟩
 ·obtain⟨more,z⟩:=u.tbls b ps q
  exact⟨more,kp b _ z λy=>n3 _ y.symm⟩
 ·obtain⟨e1,n,nl,nf,d⟩:=I.pin p hp
  exact⟨e1,fr _ n,nl,nf,d⟩
 ·have hb:b≠a:=λz=>by subst z;rw[nP] at q;cases q
  rw[mL hb] at q
  exact(I.hok b v q).stay (λc x _ r=>r) (λc r=>kp c _ r λz=>n4 _ z.symm) λc xs r=>kp c _ r λz=>n1 _ z.symm
def zL (C:Addr):Sp:=λvs H Q _=>∃ e n,vs=[.ref e,.int n]/\H e=some (dR e C none)/\n.natAbs < 10 ^ 100/\∀ dx,H dx=none->dx≠e->Q .non (upd (upd H dx (.xd [("at",.int n)])) e (dR e C (some dx)))
theorem Ks {P:Program}{w:World}{K:PySem.W.Frag}{mg:Str->Option Value}{base:Heap}{qual:Str}{st:Stmt}{f:Addr}{fd:FuncData}{C:Addr}{k:Nat}{x y:Str}(F:Fun K "__init__" qual st f fd) (S:FnScope [x,y] [x,y] (au st))
  (hb:∀ (cdv:Value) (A:Around) (outer:List Env) (s:Shared) (H:Hp) (E:XK),PSs (cG CX0 P w K mg base [x,y] qual (au st) f cdv A outer s H E).nox (bc st) (Ij (tBi 0 1 C) (tSt 0 1 C))):
  FnOk P w K mg base CX0 (k+1) f fd [x,y] (zL C):=by
 refine F.ok S (by rintro vs H Q E ⟨e,n,z,_⟩;rw[z];rfl) λcdv A outer s H vs Q E hr ⟨e,n,z,hH,hn,kk⟩=>⟨_,hb cdv A outer s H E,?_⟩
 subst z
 exact⟨e,n,rfl,hH,rfl,hn,e,n,rfl,hH,rfl,kk⟩
end L2
namespace MR
open PySem L2 PyProof.Rows PySem.Spec
def uh (ga:Env->Option (List PV)) (c:Nat) (env:Env):Option XV:=(ga env).bind λqs=>match qs with
 | [.int k]=>if 0<=k/\k<=1000000 then some (c,some k.toNat) else none
 | _=>none
@[simp] theorem Nj (ga:Env->Option (List PV)) (c:Nat) (env:Env):uh ga c env=((ga env).bind λqs=>match qs with
 | [.int k]=>if 0<=k/\k<=1000000 then some (c,some k.toNat) else none
 | _=>none):=id rfl
structure CalXi (P:Program) (w:World) (K:PySem.W.Frag) (mg:Str->Option Value) (base:Heap) (C:Addr) (k:Nat):Prop where
 ex:∃ f fd x y,FnOk P w K mg base CX0 k f fd [x,y] (zL C)/\Binds K fd [x,y] []/\PySem.W.isFn K (.ref f)=true/\jr K C f=true
section
variable {P:Program}{w:World}{K:PySem.W.Frag}{mg:Str->Option Value}{base:Heap}{N:List Str}{qual:Str}{scope:Scope}{f:Addr}{cd:Value}{A:Around}{outer:List PySem.Env}{s:Shared}{H:Hp}{E:XK}
theorem Ck (c:Nat){k j:Nat}{b:BX}{G:List Nat}{e:Expr}{x:Str}{np cpos pos:Pos}{ga:Env->Option (List PV)}(cx:CalXi P w K mg base (b.C.cl c) k) (hr:Room j (cG (CXW P w K) P w K mg base N qual scope f cd A outer s H E).A)
  (hm:mg x=some (.ref (b.C.cl c))) (ha:SA (cG (CXW P w K) P w K mg base N qual scope f cd A outer s H E) b G false [e] ga) (hle:k+1<=j:=by decide)
  (hgl:Gl (cG (CXW P w K) P w K mg base N qual scope f cd A outer s H E) x:=by rfl) (hdb:(x == ("__debug__" : Str))=false:=by decide)
  (he:starEach [e] (envOfC qual scope s.heap.objs.size f cd)=(false,eval e (envOfC qual scope s.heap.objs.size f cd))::starEach [] (envOfC qual scope s.heap.objs.size f cd):=by rfl):
  XS (cG (CXW P w K) P w K mg base N qual scope f cd A outer s H E) (tX b G (WD b E) (uh ga c)) (.Raise (some (.Call (.Name x np) [e] [] cpos)) none pos):=by
 intro pins s1 σ H1 I ⟨Ow,env,c0,Er,hx,hW⟩
 obtain⟨qs,hga,hx⟩:=aJ hx
 obtain⟨fI,fd,y1,y2,FI,hB,hfn,hC⟩:=cx.ex
 split at hx
 rotate_left
 ·cases hx
 rename_i kk
 split at hx
 rotate_left
 ·cases hx
 rename_i hkk
 cases hx
 generalize hXX:cG (CXW P w K) P w K mg base N qual scope f cd A outer s H E=X at *
 obtain⟨bm,Nn,nm,qn,bs,sn,su,ab,co,ddd,k0,k1,k2,k3,k5,mN,c1,c2,c3,c4,c5,c6⟩:=(nO I.ok.mod.kin (by subst hXX;exact hC)).ex
 obtain⟨oI,hoI,hoc⟩:∃ oI,K.lookup fI=some oI/\oI.cls=.type "function" := by
  have z:PySem.W.typeIn K (.ref fI)=some (.type "function"):=beq_iff_eq.mp hfn
  obtain⟨oI,z1,z2⟩:=Option.map_eq_some_iff.mp z
  exact⟨oI,z1,z2⟩
 have hpl:(backTo cpos (starEach [e] X.env)).any (·.1)=false:=by
  subst hXX
  show (backTo cpos (starEach [e] (envOfC qual scope s.heap.objs.size f cd))).any (·.1)=false
  rw[he];rfl
 subst hXX
 refine zF (C:=b.C.cl c) (nm:=nm) (q:=qn) (N:=Nn) (bs:=bs) (bm:=bm) (hdct:=true) (sn:=sn) (sub:=su) (ab:=ab) (col:=co) (dd:=ddd) (k0:=k0) (k1:=k1) (k2:=k2) (k3:=k3) (k5:=k5) (mN:=mN) (fI:=fI)
  F.excBase_ValueError (c5.hasType F.excBase_ValueError.hasBase) (I.ok.hd rfl) hpl c3 (jB I hgl hm ⟨rfl,?_⟩ hdb)
 have h1:=ha cpos pins s1 σ H1 (λvs H2=>Same H1 H2/\vs=[.int kk]) I ⟨Ow,env,_,Er,hga,λvs H2 s2 rr=>⟨s2,by cases rr with | cons r1 r2=>cases r1;cases r2;rfl⟩⟩
 have h2:wpAny (model P w) (A.deeper (envOfC qual scope s.heap.objs.size f cd)) (spliced (backTo cpos (starEach [e] (envOfC qual scope s.heap.objs.size f cd)))) _ _ s1:=h1
 show wpAny (model P w) (A.deeper (envOfC qual scope s.heap.objs.size f cd)) (evalArgs (.ref (b.C.cl c)) true (backTo cpos (starEach [e] (envOfC qual scope s.heap.objs.size f cd))) []) _ _ s1
 rw[he] at h2 ⊢
 refine Calls.evalArgs_plain (wpAny_mono h2 (?_) λ_ _ y=>y)
 rintro us s2 ⟨vs,H2,I2,r,sm,hl⟩
 subst hl
 obtain⟨u0,rfl,t,rfl⟩:∃ u0,us=[u0]/\∃ t,u0=Value.int kk t:=by
  cases r with
  | cons r1 r2=>cases r2;exact⟨_,rfl,r1⟩
 refine⟨rfl,(show 1<=sizeLine by decide),I2.bk _ _ c1,c2.keeps I2.bk,c5.keeps I2.bk,⟨oI,I2.kIn _ _ hoI,hoc⟩,λh' ex hmk=>?_⟩
 obtain⟨t0,he0,ht0,_⟩:=hmk.there
 have I3:=I2.kept (t':=s2.toks) hmk.keeps
 have old:∀ a,s2.heap.get? a=none->s.heap.get? a=none:=λa n=>by
  cases z:s.heap.get? a with
  | none=>rfl
  | some o=>
   obtain⟨_,y⟩:=I2.base.there a o z (λz=>nomatch z)
   rw[n] at y;cases y
 have nH:H2 ex=none:=by
  cases z:H2 ex with
  | none=>rfl
  | some o=>
   obtain⟨_,y⟩:=(I2.hok ex o z).there
   rw[hmk.new] at y;cases y
 have np:∀ p∈(cG (CXW P w K) P w K mg base N qual scope f cd A outer s H E).pn++pins,p.1≠ex:=λp hp z=>by
  have:=(I2.pin p hp).1
  rw[z,hmk.new] at this;cases this
 have nLC:=jq I3 he0 rfl
 have I4:=I3.trackE (φ:=uf ex (b.C.cl c) none) (λH'=>ug ⟨t0,he0⟩) (old ex hmk.new) nH np nLC.1 nLC.2
 have r2:Vals [V.ref ex,V.int kk] [Value.ref ex,Value.int kk t]:=.cons rfl (.cons ⟨t,rfl⟩ .nil)
 have hsp:zL (b.C.cl c) [.ref ex,.int kk] (upd H2 ex (dR ex (b.C.cl c) none)) (λv H5=>v=.non/\∃ dx,upd H2 ex (dR ex (b.C.cl c) none) dx=none/\dx≠ex/\H5=upd (upd (upd H2 ex (dR ex (b.C.cl c) none)) dx (.xd [("at",.int kk)])) ex (dR ex (b.C.cl c) (some dx))) E0:=
  ⟨ex,kk,rfl,aU,Nat.lt_of_le_of_lt (show kk.natAbs<=1000000 by omega) (by decide),λdx h1 h2=>⟨rfl,dx,h1,h2,rfl⟩⟩
 refine wpAny_call (codeAny_mono (FI.run _ _ _ _ ⟨[Value.ref ex,Value.int kk t],[]⟩ [Value.ref ex,Value.int kk t] _ _ E0 ((hr.mono hle).make (b.C.cl c) [Value.int kk t] []) (I4.env0.make (b.C.cl c) [Value.int kk t] []) (hB _ [Value.ref ex,Value.int kk t] I4.kIn rfl) r2 hsp) λres s5 hq=>?_)
 cases res with
 | error ex2=>exact False.elim hq
 | ok fl=>
  cases fl with
  | next=>exact False.elim hq
  | brk=>exact False.elim hq
  | cont=>exact False.elim hq
  | ret u=>
   have hq':CE (cG (CXW P w K) P w K mg base N qual scope f cd A outer s H E).stack P w K _ _ _ u s5:=hq
   obtain⟨v,H5,os5,bare5,un5,hok5,rv,hv,dx,nd1,ned,hH5⟩:=id hq'
   obtain⟨v',H5',I5,rv',hv',hH5'⟩:=I4.after (Q:=λv0 H0=>v0=v/\H0=H5) ⟨v,H5,os5,bare5,un5,hok5,rv,rfl,rfl⟩
   subst hv' hH5' hv hH5
   have ndH:H2 dx=none:=by rw[aH ned] at nd1;exact nd1
   have ndh:h'.get? dx=none:=by
    cases z:h'.get? dx with
    | none=>rfl
    | some o=>
     have:=un5.free dx o z nd1 (λz=>nomatch z)
     rw[aH ned,aU] at this;cases this
   have nd2:s2.heap.get? dx=none:=by
    cases z:s2.heap.get? dx with
    | none=>rfl
    | some o=>rw[hmk.keeps dx o z] at ndh;cases ndh
   obtain⟨t1,he5⟩:uf ex (b.C.cl c) (some dx) s5.heap:=(I5.hok ex _ aU).1
   obtain⟨mA,hmA,hrel⟩:∃ mA,s5.heap.Ns1 dx mA/\∀ f,RelO (([("at",V.int kk)]:List (Str×V)).lookup f) (mA f):=I5.hok dx (.xd [("at",.int kk)]) (by rw[aH ned,aU])
   obtain⟨tt,htt⟩:∃ tt,mA "at" = some (.int kk tt):=by
    have z:=hrel "at"
    have z1:([("at",V.int kk)]:List (Str×V)).lookup (("at" : Str))=some (V.int kk):=rfl
    rw[z1] at z
    cases q:mA "at" with
    | none=>rw[q] at z;exact z.elim
    | some u=>rw[q] at z;obtain⟨t',rfl⟩:=(show ∃ t',u=Value.int kk t' from z);exact⟨t',rfl⟩
   have eD:del (del (upd (upd (upd H2 ex (dR ex (b.C.cl c) none)) dx (.xd [("at",.int kk)])) ex (dR ex (b.C.cl c) (some dx))) ex) dx=H2:=by
    funext a
    by_cases h1:a=dx
    ·subst h1;rw[nP,ndH]
    ·rw[mL h1]
     by_cases h2:a=ex
     ·subst h2;rw[nP,nH]
     ·rw[mL h2,aH h2,aH h1,aH h2]
   have I6:=(I5.forget (a:=ex) aU (λ_ z=>by unfold dR at z;cases z) (λ_ _ z=>by unfold dR at z;cases z) (λ_ z=>by unfold dR at z;cases z) (λ_ z=>by unfold dR at z;cases z)).forget (a:=dx) (o:=.xd [("at",.int kk)]) (by rw[mL ned,aH ned,aU]) (λ_ z=>nomatch z) (λ_ _ z=>nomatch z) (λ_ z=>nomatch z) (λ_ z=>nomatch z)
   rw[eD] at I6
   obtain rfl:u=Value.none:=rv
   refine⟨rfl,I6.bk _ _ c1,⟨t1,some dx,he5⟩,?_⟩
   show wpAny (model P w) (A.deeper (envOfC qual scope s.heap.objs.size f cd)) (leaving (envOfC qual scope s.heap.objs.size f cd) (.ref ex)) (λ_ s''=>CXW P w K outer H s E (.ref ex) s'') (λe' s''=>CXW P w K outer H s E e' s'') s5
   have fld:Fld s5.heap ex dx (some kk.toNat):=⟨⟨_,he5,rfl⟩,mA,tt,hmA.ns,by rw[htt,Int.toNat_of_nonneg hkk.1]⟩
   refine BW (B:=PySem.W.hideAll s5.heap (ex::frs (envOfC qual scope s.heap.objs.size f cd::outer))) (a0:=.ref t1) I6.ok.frames (PySem.W.funFrames_hide I6.stack λen hen a hfa=>List.mem_cons_of_mem _ (List.mem_filterMap.mpr ⟨en,hen,hfa⟩)) rfl he5 (λb o q=>PySem.W.of_hideAll _ q) (PySem.W.hideAll_none _ List.mem_cons_self) rfl rfl rfl fld λh6 fl6 up6 fd6=>?_
   have gr:Grd (PySem.W.hideAll s5.heap (ex::frs (envOfC qual scope s.heap.objs.size f cd::outer))) s.heap s5.heap H2 (envOfC qual scope s.heap.objs.size f cd::outer):=λa o q n=>by
    by_cases ha:a=ex
    ·subst ha;exact .inr ⟨old a hmk.new,nH⟩
    ·by_cases hb:a∈frs (envOfC qual scope s.heap.objs.size f cd::outer)
     ·exact .inl hb
     ·rw[PySem.W.hideAll_get _ q (λz=>(List.mem_cons.mp z).elim ha hb)] at n;cases n
   obtain⟨u2,hok2,gr2⟩:=yj I6 (λa o q=>PySem.W.of_hideAll _ q) fl6.1 gr up6
   exact⟨ex,.ref (b.C.cl c),.ref t1,_,H2,rfl,I6.os,I6.bare,u2,hok2,fl6,old ex hmk.new,nH,gr2,dx,some kk.toNat,fd6,old dx nd2,ndH,hW H2 (Er.same.trans sm)⟩
end
end MR
namespace MR
open PySem L2 PyProof.Rows PySem.Spec
theorem PS.nox {X:Cx}{st:Stmt}{t:TS}(h:PS X.nox st t):PS X st t:=λpins s σ H D I hw=>wpAny_mono (h pins s σ H D (I.wish _) hw) (λ_ _ q=>q.unwish) λ_ _ z=>z.elim
def lq (g:PV->Env->Option Env) (ds:List Nat) (f:Env->Option Out) (xf:Env->Option XV):List PV->Env->Option XV
 | [],_=>none
 | x::xs,env=>(g x env).bind λe1=>match xf e1 with
  | some c=>some c
  | none=>(f e1).bind λo=>match o with
   | .nx e=>lq g ds f xf xs (clr ds e)
   | .ct e=>lq g ds f xf xs (clr ds e)
   | _=>none
def Eo (g:PV->Env->Option Env) (src:Env->Option (List PV)) (ds:List Nat) (f:Env->Option Out) (xf:Env->Option XV) (env:Env):Option XV:=(src env).bind λxs=>lq g ds f xf xs (clr ds env)
@[simp] theorem Qq (g:PV->Env->Option Env) (src:Env->Option (List PV)) (ds:List Nat) (f:Env->Option Out) (xf:Env->Option XV) (env:Env):Eo g src ds f xf env=((src env).bind λxs=>lq g ds f xf xs (clr ds env)):=id rfl
section
variable {P:Program}{w:World}{K:PySem.W.Frag}{mg:Str->Option Value}{base:Heap}{N:List Str}{qual:Str}{scope:Scope}{f:Addr}{cd:Value}{A:Around}{outer:List PySem.Env}{s:Shared}{H:Hp}{E:XK}
theorem zM:PassesOwn (model P w) (cG (CXW P w K) P w K mg base N qual scope f cd A outer s H E).A (cG (CXW P w K) P w K mg base N qual scope f cd A outer s H E).env (cG (CXW P w K) P w K mg base N qual scope f cd A outer s H E).xe:=by
 show PassesOwn (model P w) (A.deeper (envOfC qual scope s.heap.objs.size f cd)) (envOfC qual scope s.heap.objs.size f cd) (λe s'=>wpAny (model P w) (A.deeper (envOfC qual scope s.heap.objs.size f cd)) (leaving (envOfC qual scope s.heap.objs.size f cd) e) (λ_ s''=>CXW P w K outer H s E e s'') (λe' s''=>CXW P w K outer H s E e' s'') s')
 passes_own
theorem Ku {b:BX}{G:List Nat}{ro:Bool}{tg it:Expr}{body:List Stmt}{g:PV->Env->Option Env}{src:Env->Option (List PV)}{h:Env->Option Out}{xf:Env->Option XV}{pos:Pos}(ds:List Nat)
  (hi:SI (cG (CXW P w K) P w K mg base N qual scope f cd A outer s H E) b G true tg it src) (hg:SG (cG (CXW P w K) P w K mg base N qual scope f cd A outer s H E) b G tg g)
  (hb:SSs (cG (CXW P w K) P w K mg base N qual scope f cd A outer s H E).nox b G G G ro body h) (hx:XSs (cG (CXW P w K) P w K mg base N qual scope f cd A outer s H E) (tX b G (WD b E) xf) body)
  (hs:∀ x,foldedSetIterable it (envOfC qual scope s.heap.objs.size f cd) x=pure x:=by intro _;rfl):XS (cG (CXW P w K) P w K mg base N qual scope f cd A outer s H E) (tX b G (WD b E) (Eo g src ds h xf)) (.For tg it body [] pos):=by
 intro pins s1 σ H1 I ⟨Ow,env,c0,Er,hx0,hW⟩
 have hxs:PSs (cG (CXW P w K) P w K mg base N qual scope f cd A outer s H E) body (λ_ σ H=>tX b G (WD b E) xf [] σ H):=λpins s1 σ H1 D I ⟨Ow,env,c0,Er,q,hW⟩=>wpAny_mono (hx pins s1 σ H1 I ⟨Ow,env,c0,Er,q,hW⟩) (λ_ _ z=>z.elim) λ_ _ z=>z
 refine wpAny_mono (Aj zM rfl hi hg (PSs.or (PSs.nox hb) hxs) hs pins s1 σ H1 { nx:=λ_ _=>False,rt:=λ_ _=>False } I ?_) (λfl s2 z=>?_) λ_ _ z=>z
 rotate_left
 ·cases fl with
  | next=>obtain⟨_,_,_,q⟩:=z;exact q
  | ret u=>obtain⟨_,_,_,_,_,q⟩:=z;exact q
  | brk=>obtain⟨_,_,_,q⟩:=z;exact q
  | cont=>obtain⟨_,_,_,q⟩:=z;exact q
 obtain⟨ps,hps,hl⟩:=aJ hx0
 refine⟨Ow,env,ps,Er,hps,λJ H2 s2 iw=>?_⟩
 refine⟨λi m σ2 H3=>m=ps.length - i/\i<=ps.length/\∃ Ow2 env2,ER b Ow2 G σ2 env2 H3/\Ex (Bs b Ow) H2 (Bs b Ow2) H3/\lq g ds h xf (ps.drop i) env2=some c0,⟨ps.length,by simp,Nat.zero_le _,Ow,clr ds env,(Er.up s2).clr,Ex.refl _ _,by simpa using hl⟩,?_⟩
 rintro i m σ2 H3 ⟨rfl,hi,Ow2,env2,E2,x2,l2⟩
 obtain⟨w1,w2⟩:=iw Ow2 H3 (λz=>by cases z) x2 λa=>E2.fresh
 by_cases hlt:i < ps.length
 ·rw[List.drop_eq_getElem_cons hlt] at l2
  obtain⟨e1,he1,l2⟩:=aJ l2
  obtain⟨g1,g2⟩:=w1 i ps[i] (List.getElem?_eq_getElem hlt)
  refine .inr ⟨g1,fun σ' H'=>i+1<=ps.length/\∃ Ow2 env2,ER b Ow2 G σ' env2 H'/\Ex (Bs b Ow) H2 (Bs b Ow2) H'/\lq g ds h xf (ps.drop (i+1)) env2=some c0,fun σ' H' q=>⟨ps.length - (i+1),by omega,rfl,q⟩,λx H' y=>?_⟩
  obtain⟨s3,r3⟩:=g2 x H' y
  refine⟨Ow2,env2,_,e1,E2.up s3,r3,he1,fun σ3 E3=>?_⟩
  cases q:xf e1 with
  | some c=>
   rw[q] at l2
   cases l2
   exact .inr ⟨Ow2,e1,_,E3,q,hW⟩
  | none=>
   rw[q] at l2
   obtain⟨o,ho,l2⟩:=aJ l2
   refine .inl ⟨Ow2,e1,o,E3,ho,?_⟩
   cases o with
   | nx e'=>exact λOw' σ' H'' E' x'=>⟨hlt,Ow',_,E'.clr,x2.trans ((Ex.of_same s3).trans x'),l2⟩
   | ct e'=>exact λOw' σ' H'' E' x'=>⟨hlt,Ow',_,E'.clr,x2.trans ((Ex.of_same s3).trans x'),l2⟩
   | bk e'=>cases l2
   | rt p=>cases l2
 ·have e:i=ps.length:=by omega
  subst e
  rw[List.drop_length] at l2
  cases l2
end
end MR
namespace MR
open PySem L2 PyProof.Rows PySem.Spec
def pG (C:MC) (c:Nat) (m:List PV->Option (List (Str×PV))) (xi:List PV->Option XV):Sp:=λvs H Q E=>spI C c m vs H Q E\/∃ A ps v x dx us,vs=.ref x::us/\H x=some (.ins (C.cl c) dx [])/\¬ A x/\Reps C A H us ps/\xi ps=some v /\
 ∀ H',(∀ a o,a≠x->H a=some o->H' a=some o)->E (.ref (C.cl v.1)) v.2 H'
structure CalIX (P:Program) (w:World) (K:PySem.W.Frag) (mg:Str->Option Value) (base:Heap) (C:Addr) (k:Nat) (x:Str) (ps:List Str) (sp:Sp):Prop where
 ex:∃ f fd,FnOk P w K mg base (CXW P w K) k f fd ps sp/\Binds K fd ps []/\Mk K C f/\mg x=some (.ref C)
def p_ (n k c:Nat) (f:Env->Option XV) (ps:List PV):Option XV:=if ps.length+1=k then f (some (.obj c [])::(ps.map some++List.replicate (n - k) none)) else none
@[simp] theorem PB (n k c:Nat) (f:Env->Option XV) (ps:List PV):p_ n k c f ps=(if ps.length+1=k then f (some (.obj c [])::(ps.map some++List.replicate (n - k) none)) else none):=id rfl
theorem Hs {C:MC}{N:List Str}{n k c:Nat}{G:List Nat}{A:Addr->Prop}{H:Hp}{x dx:Addr}{us:List V}{ps:List PV}(hN:N.length=n) (hk:k<=n) (hG0:0∈G) (hG:(G.all λi=>decide (i=0\/k<=i))=true)
  (hx:H x=some (.ins (C.cl c) dx [])) (nA:¬ A x) (r:Reps C A H us ps) (hl:ps.length+1=k):
  ER ⟨C,A,λa=>if a=x then none else H a,fx0 (.ref x)⟩ (λa=>a=x) G (L2.start N (.ref x::us)) (some (.obj c [])::(ps.map some++List.replicate (n - k) none)) H:=by
 have hus:=r.length
 have old:∀ i p,(ps.map some++List.replicate (n - k) none)[i]?=some (some p)->ps[i]?=some p:=λi p e=>by
  by_cases hi:i < ps.length
  ·rw[List.getElem?_append_left (by rw[List.length_map];exact hi),List.getElem?_map] at e
   cases q:ps[i]? with
   | none=>rw[q] at e;cases e
   | some p'=>rw[q] at e;cases e;rfl
  ·rw[List.getElem?_append_right (by rw[List.length_map];omega),List.getElem?_replicate] at e
   split at e <;> cases e
 have low:∀ i,i+1∈G->∀ p,(ps.map some++List.replicate (n - k) none)[i]?=some (some p)->False:=λi hi p e=>by
  have h1:=(List.getElem?_eq_some_iff.mp (old i p e)).1
  have h2:i+1=0\/k<=i+1:=by simpa using List.all_eq_true.mp hG (i+1) hi
  omega
 refine⟨?_,λa o e=>?_,λa w=>?_,λa w=>?_,λi p e n=>?_,λi p e n=>?_,λi j a p q e1 n1 s1 e2 n2 s2=>?_,λk v z=>?_⟩
 ·unfold L2.start
  simp only[List.length_append,List.length_map,List.length_replicate,List.length_cons]
  omega
 ·have e':(if a=x then none else H a)=some o:=e
  split at e'
  ·cases e'
  ·exact e'
 ·subst w;exact⟨_,hx⟩
 ·subst w;show (if a=a then none else H a)=none;rw[if_pos rfl]
 ·cases i with
  | zero=>exact absurd hG0 n
  | succ i=>
   rw[List.getElem?_cons_succ] at e
   obtain⟨v,hv,rv⟩:=r.get (old i p e)
   refine⟨v,?_,rv.ex (cM λa o _ q=>⟨λz=>nA (z▸q),.inl q⟩)⟩
   have hi:i < us.length:=(List.getElem?_eq_some_iff.mp hv).1
   show ((V.ref x::us).map some++_)[i+1]?=_
   rw[List.map_cons,List.cons_append,List.getElem?_cons_succ,List.getElem?_append_left (by rw[List.length_map];exact hi),List.getElem?_map,hv]
   rfl
 ·cases i with
  | zero=>cases e;exact⟨x,rfl,rfl,dx,[],hx,.nil⟩
  | succ i=>exact(low i n p e).elim
 ·cases i with
  | zero=>
   cases j with
   | zero=>rfl
   | succ j=>exact(low j n2 q e2).elim
  | succ i=>exact(low i n1 p e1).elim
 ·cases k with
  | zero=>cases z;rfl
  | succ k=>cases z
theorem Ep {C:MC}{n k c c':Nat}{f:Env->Option Out}{xf:Env->Option XV}{ps:List Str}(hk:ps.length=k){vs:List V}{H:Hp}{Q:VK}{E:XK}(h:pG C c' (lX n k c f) (p_ n k c xf) vs H Q E):vs.length=ps.length:=by
 rcases h with h | ⟨A,qs,v,x,dx,us,rfl,hx,nA,r,hm,kk⟩
 ·rw[Hf h,hk]
 ·unfold p_ at hm
  split at hm
  ·rename_i hl;rw[List.length_cons,r.length,hl,hk]
  ·cases hm
section
variable {P:Program}{w:World}{K:PySem.W.Frag}{mg:Str->Option Value}{base:Heap}{N:List Str}{qual:Str}{scope:Scope}{f:Addr}{cd:Value}{A:Around}{outer:List PySem.Env}{s:Shared}{H:Hp}{E:XK}
theorem Es {C:MC}{n k c:Nat}{G G' L:List Nat}{body:List Stmt}{g:Env->Option Out}{xf:Env->Option XV}(hN:N.length=n) (hk:k<=n) (hG0:0∈G) (hG1:0∈G') (hG:(G.all λi=>decide (i=0\/k<=i))=true)
  (hb:∀ B H' x,SSs (cG (CXW P w K) P w K mg base N qual scope f cd A outer s H E).nox ⟨C,B,H',fx0 x⟩ G G' L false body g)
  (hx:∀ B H' x,XSs (cG (CXW P w K) P w K mg base N qual scope f cd A outer s H E) (tX ⟨C,B,H',fx0 x⟩ G (WD ⟨C,B,H',fx0 x⟩ E) xf) body)
  {vs:List V}{Q:VK}(h:pG C c (lX n k c g) (p_ n k c xf) vs H Q E):∃ t,PSs (cG (CXW P w K) P w K mg base N qual scope f cd A outer s H E) body t/\t { nx:=λ_ H'=>Q .non H',rt:=Q } (L2.start N vs) H:=by
 rcases h with h | ⟨B,ps,v,x,dx,us,rfl,hxx,nA,r,hm,kk⟩
 ·obtain⟨t,h1,h2⟩:=Hd (X:=(cG (CXW P w K) P w K mg base N qual scope f cd A outer s H E).nox) hN hk hG0 hG1 hG hb h
  exact⟨t,h1.nox,h2⟩
 ·unfold p_ at hm
  split at hm
  ·rename_i hl
   refine⟨λ_ σ H'=>tX ⟨C,B,λa=>if a=x then none else H a,fx0 (.ref x)⟩ G (WD ⟨C,B,λa=>if a=x then none else H a,fx0 (.ref x)⟩ E) xf [] σ H',λpins s1 σ H1 D I q=>?_,?_⟩
   ·obtain⟨Ow,env,c0,Er,hx1,hW⟩:=q
    exact wpAny_mono (hx B _ _ pins s1 σ H1 I ⟨Ow,env,c0,Er,hx1,hW⟩) (λ_ _ z=>z.elim) λ_ _ z=>z
   ·refine⟨_,_,v,Hs hN hk hG0 hG hxx nA r hl,hm,λH1 s1=>kk H1 λa o na e=>s1 a o ?_⟩
    show (if a=x then none else H a)=some o
    rw[if_neg na]
    exact e
  ·cases hm
end
section
variable {P:Program}{w:World}{K:PySem.W.Frag}{mg:Str->Option Value}{base:Heap}
theorem Et {C:MC}{k c:Nat}{f:Addr}{fd:FuncData}{ps:List Str}{mi:List PV->Option (List (Str×PV))}{xi:List PV->Option XV}(F:FnOk P w K mg base (CXW P w K) k f fd ps (pG C c mi xi)):FnOk P w K mg base CX0 k f fd ps (spI C c mi):=by
 refine⟨λvs H Q E h=>F.len vs H Q E (.inl h),λA outer s H args us vs Q E hr e0 hb hv hs=>?_⟩
 refine codeAny_mono (F.run A outer s H args us vs Q E0 hr e0 hb hv (.inl hs)) λr s' h=>?_
 cases r with
 | ok fl=>cases fl <;> exact h
 | error e=>
  obtain⟨_,_,_,_,_,_,_,_,_,_,_,_,_,_,_,_,_,_,_,z⟩:=(show CXW P w K outer H s E0 e s' from h)
  exact z.elim
theorem zN {C:MC}{k c:Nat}{x:Str}{ps:List Str}{mi:List PV->Option (List (Str×PV))}{xi:List PV->Option XV}(h:CalIX P w K mg base (C.cl c) k x ps (pG C c mi xi)):CalI P w K mg base (C.cl c) k x ps (spI C c mi):=by
 obtain⟨f,fd,F,hb,hM,hm⟩:=h.ex
 exact⟨f,fd,Et F,hb,hM,hm⟩
end
section
variable {X:Cx}{b:BX}{G:List Nat}{W:List (Addr×Obj)->L2.St->Hp->XV->Prop}{e:Expr}{es:List Expr}{pos p:Pos}
theorem Ht (wo:WOk X b W){c k j:Nat}{x:Str}{ps:List Str}{mi:List PV->Option (List (Str×PV))}{xi:List PV->Option XV}{ga:Env->Option (List PV)}(cI:CalIX X.prog X.w X.K X.mg X.base (b.C.cl c) k x ps (pG b.C c mi xi)) (hr:Room j X.A) (ha:SA X b G false (e::es) ga)
  (hle:k+1<=j:=by decide) (hgl:Gl X x:=by rfl) (hdb:(x == ("__debug__" : Str))=false:=by decide) (he:starEach (e::es) X.env=(false,eval e X.env)::starEach es X.env:=by rfl) (hpl:(backTo pos (starEach es X.env)).any (·.1)=false:=by rfl):
  XE X (tX b G W (zH ga xi)) (.Call (.Name x p) (e::es) [] pos):=by
 intro pins s σ H I ⟨Ow,env,c0,E,hx,hW⟩
 obtain⟨fa,fd,F,hb,M,hm⟩:=cI.ex
 obtain⟨qs,hga,hxi⟩:=aJ hx
 refine wpAny_Call_Name_kw (jB I hgl hm ?_ hdb)
 refine PySem.W.callWith_K (h₀:=X.base) I.ok.mod.kin M.kp (thn (ha pos pins s σ H (λvs H1=>Same H H1/\Reps b.C (ArA b Ow false H1) H1 vs qs) I ⟨Ow,env,qs,E,hga,λvs H1 s1 rr=>⟨s1,rr⟩⟩) λus s1 ⟨vs,H1,I1,r,sm,rr⟩=>⟨I1.kIn,?_⟩) he hpl
 have hx0:H1 (s1.heap.objs.size+1)=none:=I1.hok.fresh (Nat.le_succ _)
 have hdx0:H1 s1.heap.objs.size=none:=I1.hok.fresh (Nat.le_refl _)
 have s2:Same H1 (upd (upd H1 s1.heap.objs.size (.own (s1.heap.objs.size+1))) (s1.heap.objs.size+1) (.ins (b.C.cl c) s1.heap.objs.size [])):=λa o h=>by rw[aH (aN h hx0),aH (aN h hdx0)];exact h
 have I2:=Inv.made (C:=b.C.cl c) I1
 have hq:pG b.C c mi xi (.ref (s1.heap.objs.size+1)::vs) (upd (upd H1 s1.heap.objs.size (.own (s1.heap.objs.size+1))) (s1.heap.objs.size+1) (.ins (b.C.cl c) s1.heap.objs.size [])) (λ_ _=>False) (λC d H2=>C=.ref (b.C.cl c0.1)/\d=c0.2/\Same H1 H2):=
  .inr ⟨λa=>ArA b Ow false H1 a/\a≠s1.heap.objs.size+1,qs,c0,_,_,vs,rfl,aU,λz=>z.2 rfl,rr.ex λa o h=>⟨λq=>⟨s2 _ _ h,q,aN h hx0⟩,λ_=>s2 _ _ h⟩,hxi,λH' hH=>⟨rfl,rfl,λa o h=>hH a o (aN h hx0) (s2 _ _ h)⟩⟩
 have r2:Vals (V.ref (s1.heap.objs.size+1)::vs) (Value.ref (s1.heap.objs.size+1)::us):=.cons rfl r
 have hl:(Value.ref (s1.heap.objs.size+1)::us++[]).length=ps.length:=by
  have e:=r2.length
  rw[F.len _ _ _ _ hq] at e
  rw[List.append_nil]
  exact e.symm
 have hbb:=hb _ (Value.ref (s1.heap.objs.size+1)::us) I2.kIn hl
 rw[List.append_nil] at hbb
 refine wpAny_call (vR (f:=fa) I1.kIn M.makes M.init (beq_iff_eq.mp M.fn) (codeAny_mono (F.run _ X.stack _ _ ⟨Value.ref (s1.heap.objs.size+1)::us,[]⟩ (Value.ref (s1.heap.objs.size+1)::us) _ _ _ ((hr.mono hle).make (b.C.cl c) us [])
  (I2.env0.make (b.C.cl c) us []) hbb r2 hq) λr s' hq'=>?_))
 cases r with
 | error ex=>
  obtain⟨C,d,H2,Li,hC,hd,s3⟩:=lies_of I2 wo.ex hq'
  subst hC hd
  exact wo.go pins σ H c0 H2 ex s' E.same hW (sm.trans s3) Li
 | ok fl=>
  cases fl with
  | ret u=>obtain⟨_,_,_,_,_,_,_,z⟩:=hq';exact z.elim
  | next=>exact hq'.elim
  | brk=>exact hq'.elim
  | cont=>exact hq'.elim
end
end MR
namespace L2
open PySem PySem.Spec PyProof.Rows
variable {X:Cx}
def Hu:V->List V->Hp->VK->Prop:=λx vs H Q=>∃ l xs k y,x=.ref l/\vs=[.int (k:Nat),y]/\H l=some (.lst xs)/\k<=xs.length/\xs.length < 1000001/\Q .non (upd H l (.lst (xs.take k++y::xs.drop k)))
theorem Cm:MtM X "list.insert" Hu:=by
 intro pins s σ H x vs v us Q I rx rv h
 obtain⟨l,xs,k,y,rfl,rfl,hH,hk,hz,q⟩:=h
 cases rx
 obtain⟨uk,u,rfl,ruk,ru⟩:=rv.two
 obtain⟨t,rfl⟩:=ruk
 obtain⟨z,its,n,r,hl,e⟩:=I.lstM hH
 have hsl:(1000002:Nat)<=sizeLine:=by decide
 have hfi:Builtin.List.listFitsIndex (k:Int)=true:=fitsIndex_both (by omega) (by omega)
 have hc0:¬(!Builtin.List.listFitsIndex (k:Int))=true:=by rw[hfi];decide
 have hs0:its.toArray.size<=sizeLine:=by rw[List.size_toArray,← hl];exact z
 clear hsl
 have h4:s.TypeIs (.ref l) "list" := ⟨_,e,rfl⟩
 refine wpAny_call (codeAny_call_builtin F.slot_list_insert.plain F.entry_list_insert (F.slot_list_insert.check _ _ _ _ _ _ _ _ h4 (F.args_list_insert_3 _ _ _) ?_))
 refine @PySem.AutoListH.list_insert_list_int_val_1 l its.toArray n (k:Int) t u hc0 hs0 X.prog X.w X.A (wants (EP X pins σ Q) X.xe) s ?_
 refine⟨e,?_⟩
 refine⟨.non,_,I.lset (its':=its.take k++u::its.drop k) hH e ?_ ((Vals.take k r).append (.cons ru (Vals.drop k r))) ?_,rfl,q⟩
 ·have h0:¬ ((k:Int) < 0):=by omega
  have h1:min (k:Int).toNat its.toArray.size=k:=by rw[List.size_toArray];omega
  show (have k':=if (k:Int) < 0 then ((k:Int)+((its.toArray.size:Nat):Int)).toNat else min (k:Int).toNat its.toArray.size;(its.toArray.extract 0 k').push u++its.toArray.extract k')=_
  simp only[if_neg h0,h1]
  simp[List.extract_eq_take_drop]
  exact List.take_of_length_le (by simp)
 ·have hsl:(1000002:Nat)<=sizeLine:=by decide
  simp
  omega
end L2
namespace MR
open PySem L2 PyProof.Rows PySem.Spec
@[simp] def pH:PV->PV->PV->Option PV
 | .lst xs,.int k,p=>if 0<=k/\k<=(xs.length:Int)/\xs.length < 1000000 then some (.lst (xs.take k.toNat++p::xs.drop k.toNat)) else none
 | _,_,_=>none
section
variable {X:Cx}{b:BX}{G L:List Nat}{ro:Bool}{pos:Pos}{e1 e2:Expr}{h1 h2:Env->Option PV}
theorem Ge (i:Nat){x:Str}{p1 apos cpos:Pos}(he1:SE X b G .val e1 h1) (he2:SE X b G .val e2 h2) (hi:i∈G:=by decide) (hN:X.N[i]?=some x:=by rfl) (hv:Vis X.env.scope x:=by first | exact Or.inl rfl | exact Or.inr (Or.inl rfl) | exact Or.inr (Or.inr rfl)) (hd:(x == ("__debug__" : Str))=false:=by decide)
  (hcd:(x == ("__classdict__" : Str))=false:=by decide) (hbase:attributeBase (.Name x p1) "insert" X.env (eval (.Name x p1) X.env)=eval (.Name x p1) X.env:=by rfl)
  (hfew:((backTo cpos (starEach [e1,e2] X.env)).all (λx=>!x.1)&&(backToKw cpos (keywordEach [] X.env)).all (λx=>x.1.isSome)
   && decide ([e1,e2].length+([]:List Keyword).length+(if ([]:List Keyword).isEmpty then 0 else 1) < 30))=true:=by rfl)
  (hline:(apos.endLine == cpos.line)=true:=by rfl) (hs:starEach [e1,e2] X.env=(false,eval e1 X.env)::starEach [e2] X.env:=by rfl) (hs2:starEach [e2] X.env=(false,eval e2 X.env)::starEach [] X.env:=by rfl) (hpl:(backTo cpos (starEach [e2] X.env)).any (λx=>x.1)=false:=by rfl):
  SS X b G G L ro (.Expr (.Call (.Attribute (.Name x p1) "insert" apos) [e1,e2] [] cpos) pos) (kY pH i h1 h2):=
 PS.imp (sZ (yW PySem.F.plainAttrs_list PySem.F.slot_list_insert PySem.F.type_list_insert Cm (dj hN hv hd hcd) (cL he1 (cL he2 fK hs2) hs) hbase hfew hline hs hpl))<|by
  rintro D σ H ⟨Ow,env,o,E,hf,k⟩
  obtain⟨px,hpx,z1⟩:=aJ hf
  clear hf
  obtain⟨p,hp,z2⟩:=aJ z1
  clear z1
  obtain⟨p',hp',z3⟩:=aJ z2
  clear z2
  obtain⟨y,hy,z4⟩:=aJ z3
  clear z3
  cases z4
  obtain⟨a,ea,w,t⟩:=E.own i px (fL hpx) hi
  cases px <;> try (simp only[pH] at hy;cases hy)
  rename_i xs
  cases p <;> try (simp only[pH] at hy;cases hy)
  rename_i kk
  simp only[pH] at hy
  split at hy
  ·rename_i hl
   obtain⟨hl0,hl1,hl2⟩:=hl
   cases hy
   obtain⟨n,rfl⟩:∃ n:Nat,kk=n:=⟨kk.toNat,by omega⟩
   rw[show ((n:Int)).toNat=n by omega] at *
   obtain⟨vs,ha,ra⟩:=id t
   refine⟨_,ea,.inl ⟨rfl,_,SqL.of ha⟩,Ow,env,_,E,hp,λv H1 s1 r1=>⟨Ow,env,p',E.up s1,hp',λv' H' s2 r=>?_⟩⟩
   have s:=s1.trans s2
   cases r1
   refine⟨a,vs,n,v',rfl,rfl,s _ _ ha,by rw[ra.length];omega,by rw[ra.length];omega,?_⟩
   have ra':Reps b.C (Bs b Ow) (upd H' a (.lst (vs.take n++v'::vs.drop n))) (vs.take n++v'::vs.drop n) (xs.take n++p'::xs.drop n):=by
    have r0:=ra.ex (.of_same s)
    exact((r0.take n).append (.cons r (r0.drop n))).ex (jE w (s _ _ ha) rfl)
   obtain⟨E',x⟩:=(E.up s).write hi ea (fL hpx) w (t.ex (.of_same s) λo z=>s _ _ z) (o':=.lst (vs.take n++v'::vs.drop n)) (p':=.lst (xs.take n++p'::xs.drop n)) ⟨_,aU,ra'⟩
   exact k Ow σ _ E' ((Ex.of_same s).trans x)
  ·cases hy
end
end MR
namespace L2
open PySem PySem.Spec PyProof.Rows
def ul (x:Str) (n:Nat):Str:=⟨(List.replicate n x.cps).foldl (·++·) #[]⟩
theorem Hv {X:Cx}:OpR X (binaryOp .Mult) (λx y H Q=>∃ i n,x=.str i/\y=.int n/\((n=1/\Q (.str i) H)\/(2<=n/\n<=1000/\1<=i.length/\(ul i n.toNat).length<=1000000/\i.length<=1000/\Q (.str (ul i n.toNat)) H))):=by
 intro pins s σ H x y v u Q I rx ry h
 obtain⟨i,n,rfl,rfl,h⟩:=h
 obtain⟨t,rfl⟩:=rx
 obtain⟨t',rfl⟩:=ry
 rcases h with ⟨rfl,q⟩ | ⟨n2,n3,l1,l3,l2,q⟩
 ·refine P.mul_str (by decide) (λ_ z=>by simp at z) (λ_ z=>by simp at z) ?_
  exact⟨.str i,H,I,⟨t,rfl⟩,q⟩
 ·have e1:¬ n < 1:=by omega
  have e2:(n == 1||i.length == 0)=false:=by
   have a:(n == 1)=false:=by rw[beq_eq_false_iff_ne];omega
   have c:(i.length == 0)=false:=by rw[beq_eq_false_iff_ne];omega
   rw[a,c];rfl
  refine P.mul_str (by rw[decide_eq_false (by omega),decide_eq_false (by omega)];rfl) (λ_ _=>?_) (λ_ _=>?_) ?_
  ·have:(1000:Int)<=(2 ^ 63 - 1) / n:=by
    refine Int.le_ediv_of_mul_le (by omega) ?_
    have:1000*n<=1000*1000:=by omega
    omega
   omega
  ·have h3:i.length*n.toNat<=1000*1000:=Nat.mul_le_mul l2 (by omega)
   have:(1000*1000:Nat)<=sizeLine:=by decide
   unfold Builtin.Str.tooLong
   simp only[decide_eq_false_iff_not]
   omega
  ·rw[if_neg e1,if_neg (by rw[e2];exact Bool.false_ne_true)]
   exact⟨Nat.le_of_lt (lA l3),.str _,H,I.tok _,⟨_,rfl⟩,q⟩
end L2
namespace MR
open PySem L2
@[simp] noncomputable def aZ:PV->PV->Option PV
 | .int i,.int j=>if (smI i||smI j)=true then some (.int (i*j)) else none
 | .str x,.int n=>if n=1 then some (.str x) else if 2<=n/\n<=1000/\1<=x.length/\(ul x n.toNat).length<=1000000/\x.length<=1000 then some (.str (ul x n.toNat)) else none
 | _,_=>none
@[simp] def Qs:PV->PV->Option PV
 | x,.non=>some (.bl (!tL x))
 | .bl c,.bl d=>some (.bl (c != d))
 | _,_=>none
@[simp] def gW:PV->Option PV
 | .str x=>if x.length<=1000 then some (.str (Txt.upper x)) else none
 | _=>none
section
variable {X:Cx}{b:BX}{G:List Nat}{m m1 m2:Md}{e e1 e2:Expr}{f f1 f2:Env->Option PV}{pos:Pos}
theorem Hw:Op2 b .val (λx y H Q=>rI CMul (λi j=>.int (i*j)) x y H Q\/∃ i n,x=.str i/\y=.int n/\((n=1/\Q (.str i) H)\/(2<=n/\n<=1000/\1<=i.length/\(ul i n.toNat).length<=1000000/\i.length<=1000/\Q (.str (ul i n.toNat)) H))) aZ:=by
 intro Ow H v1 v2 p1 p2 p Q hn r1 r2 e k
 unfold aZ at e
 split at e
 ·rename_i i j
  exact .inl (Bl Ow H v1 v2 (.int i) (.int j) p Q hn r1 r2 e k)
 ·rename_i x n
  refine .inr ⟨x,n,r1.str,r2.int,?_⟩
  split at e
  ·rename_i h1;cases e;exact .inl ⟨h1,k _ H (Same.refl _) (.str _)⟩
  ·split at e
   ·rename_i h2;cases e;exact .inr ⟨h2.1,h2.2.1,h2.2.2.1,h2.2.2.2.1,h2.2.2.2.2,k _ H (Same.refl _) (.str _)⟩
   ·cases e
 ·cases e
theorem eU (h1:SE X b G m1 e1 f1) (h2:SE X b G m2 e2 f2):SE X b G .val (.BinOp e1 .Mult e2 pos) (b2 aZ f1 f2):=m_ (OpR.or Ak Hv) Hw h1 h2
def PJ (x:V) (xs:List V) (H:Hp) (Q:VK):Prop:=∃ y:Str,x=.str y/\xs=[]/\y.length<=1000/\Q (.str (Txt.upper y)) H
theorem Cp:MtR X "str.upper" PJ:=by
 intro pins s σ H x vs v us Q I rx rv h
 obtain⟨y,rfl,rfl,hl,q⟩:=h
 obtain⟨t,rfl⟩:=rx
 cases rv
 have hfit:Builtin.Str.tooLong (Txt.upper y).length=false:=PyProof.Rows.fit_upper (by omega)
 exact call_gives F.slot_str_upper (typeIs_str _ _ _) F.entry_str_upper (F.args_str_upper_1 _) (gives_str_upper _ t hfit) ⟨fit_le hfit,⟨.str _,H,I.tok _,⟨_,rfl⟩,q⟩⟩
theorem Cq {apos cpos:Pos}(h:SE X b G m1 e f) (hbase:attributeBase e "upper" X.env (eval e X.env)=eval e X.env:=by rfl) (hline:(apos.endLine == cpos.line)=true:=by rfl):
  SE X b G .val (.Call (.Attribute e "upper" apos) [] [] cpos) (b1 gW f):=by
 refine PE.imp (Js PySem.F.plainAttrs_str PySem.F.slot_str_upper PySem.F.type_str_upper Cp h.bor hbase hline) fun σ H Q h=>?_
 obtain⟨Ow,env,p,E,hf,k⟩:=h
 obtain⟨p1,q1,hf⟩:=aJ hf
 unfold gW at hf
 split at hf
 ·split at hf
  ·rename_i y hl
   cases hf
   refine⟨Ow,env,_,E,q1,λv1 H1 s1 r1=>?_⟩
   have r1':RepB b.C (Bs b Ow) H1 v1 (.str y):=r1
   have ev:=r1'.str
   subst ev
   exact⟨rfl,y,rfl,rfl,hl,k _ H1 s1 (.str _)⟩
  ·cases hf
 ·cases hf
end
end MR
namespace My
open PySem L2 MR
noncomputable section
def mO:PV:=.ktp [.str "never",.str "may",.str "must"]
def jt:=(aO (sIf (tV (b2 (jm λi j=>decide (i < j)) (bV 1) (b1 lenV (bV 0)))) (bM (b2 ixP (bV 0) (bV 1))) sNx) (bM (bC (.int 0))))
def aG:=dC 2 2 false jt
def mQ:=(aO (aP 2 (b2 ixP (aX (aa (bC (.int 1)) (aa (bC (.int 3)) (aa (bC (.int 5)) (aa (bC (.int 7)) (aa (bC (.int 9)) (aa (bC (.int 11)) (aa (bC (.int 15)) (aa (bC (.int 17)) aA))))))))) (b2 cV (b2 g8 (bV 0) (bC (.int 26))) (bC (.int 8))))) (bM (b2 ixP (bC (.str "abcdefghijklmnopqrstuvwxyz")) (b2 cV (b2 ak (bV 0) (b2 o7 (bV 1) (bV 2))) (bC (.int 26))))))
def aY:=dC 3 2 false mQ
def qI:=(bM (b2 cV (b2 ak (b2 o7 (b2 cV (bV 0) (bC (.int 1000003))) (b2 ak (bC (.int 48271)) (b2 o7 (b2 o7 (bC (.int 15838)) (bV 1)) (bV 1)))) (b2 o7 (bC (.int 69621)) (bV 1))) (bC (.int 2147483647))))
def dW:=dC 2 2 false qI
def iC:=(aP 3 (b2 ak (bV 3) (aL aY (aa (bV 0) (aa (b2 ak (bV 1) (b2 cV (b2 g8 (bV 2) (b2 ixP (aX (aa (bC (.int 4)) (aa (bC (.int 8)) (aa (bC (.int 28)) (aa (bC (.int 128)) aA))))) (bV 4))) (b2 ixP (aX (aa (bC (.int 2)) (aa (bC (.int 5)) aA))) (b2 cV (b2 g8 (bV 2) (bC (.int 3))) (bC (.int 2)))))) aA)))))
def l_:=(aO (aP 3 (bC (.str ""))) (aO (jG (gN 4) (iR1 (b2 ak (bC (.int 2)) (b2 cV (bV 2) (bC (.int 3))))) [4] iC) (bM (bV 3))))
def dI:=dC 5 3 false l_
def gB:=(aL aG (aa (bV 1) (aa (b2 ak (bV 2) (bV 0)) aA)))
def gC:=(aL aY (aa (bV 1) (aa (bV 0) aA)))
def gF:=(aO (aP 8 (aL dW (aa (b2 ixP (bV 2) (bC (.int 2))) (aa (bV 7) aA)))) (fj pA 6 (b2 ak (b2 ixP (bV 5) (b2 cV (bV 8) (bV 4))) (b2 ixP (bV 5) (b2 cV (b2 g8 (bV 8) (bC (.int 8))) (bV 4))))))
def iQ:=(b2 cV (aL dW (aa (b2 ixP (bV 1) (bC (.int 3))) (aa (bV 0) aA))) (bC (.int 4)))
def iR:=(b2 ixP (bV 1) (bV 0))
def iT:=(tV (b2 inQ (b2 ixP (bV 2) (bV 0)) (tK (aa (bC (.int 1)) (aa (bC (.int 3)) aA)))))
def iU:=(b2 ixP (bV 1) (bV 0))
def iW:=(tV (b2 (jm λi j=>decide (j < i)) (b2 ixP (bV 2) (bV 0)) (bC (.int 1))))
def iY:=(aL dI (aa (bV 1) (aa (bV 2) (aa (aL dW (aa (b2 ixP (bV 3) (bC (.int 4))) (aa (bV 0) aA))) aA))))
def iD:=(aL dI (aa (bV 1) (aa (bV 2) (aa (aL dW (aa (b2 ixP (bV 3) (bC (.int 5))) (aa (bV 0) aA))) aA))))
def mR:=(aO (aP 2 (cJ [none,some 0,some 1] (iR1 (bC (.int 6))) (gN 0) bJ gB)) (aO (aP 3 (b2 ixP (bV 2) (bC (.int 0)))) (aO (aP 4 (b2 ak (bC (.int 1)) (b2 cV (b2 ixP (bV 2) (bC (.int 1))) (bC (.int 7))))) (aO (aP 5 (cJ [none,some 3] (iR1 (bV 4)) (gN 0) bJ gC)) (aO (aP 6 (aX aA)) (aO (jG (gN 7) (iR1 (b2 cV (b2 g8 (b2 ixP (bV 2) (bC (.int 1))) (bC (.int 7))) (bC (.int 4)))) [7,8] gF) (aO (aP 9 (cJ [none,some 2] (iR1 (b2 ak (bV 4) (b1 lenV (bV 6)))) (gN 0) bJ iQ)) (aO (aP 10 (b2 ak (bV 5) (bV 6))) (aO (aP 11 (cJ [none,some 10,some 9] (iR1 (b1 lenV (bV 10))) (gN 0) iT iR)) (aO (aP 12 (cJ [none,some 10,some 9] (iR1 (b1 lenV (bV 10))) (gN 0) iW iU)) (aO (aP 13 (cJ [none,some 3,some 4,some 2] (iR1 (b2 cV (b2 g8 (b2 ixP (bV 2) (bC (.int 4))) (bC (.int 7))) (bC (.int 5)))) (gN 0) bJ iY)) (aO (aP 14 (cJ [none,some 3,some 4,some 2] (iR1 (b2 cV (b2 g8 (b2 ixP (bV 2) (bC (.int 5))) (bC (.int 7))) (bC (.int 4)))) (gN 0) bJ iD)) (aO (aP 15 (b2 ixP (aX (aa (bC (.str "")) (aa (bC (.str "never")) (aa (bC (.str "may")) (aa (bC (.str "must")) aA))))) (b2 cV (b2 g8 (b2 ixP (bV 2) (bC (.int 1))) (bC (.int 28))) (bC (.int 4))))) (bM (tK (aa (bV 5) (aa (bV 6) (aa (bV 11) (aa (bV 12) (aa (bV 13) (aa (bV 14) (aa (bV 15) (aa (bV 3) aA)))))))))))))))))))))))
def cT:=dC 16 2 false mR
def jK:=(b2 ak (b2 ak (bV 1) (bC (.str " "))) (bV 0))
def dq:=(aO (aP 5 (b2 ixP (bV 0) (bV 3))) (sIf (tV (b2 eqQ (b2 cV (b2 g8 (bV 1) (b2 ixP (aX (aa (bC (.int 1)) (aa (bC (.int 2)) (aa (bC (.int 4)) (aa (bC (.int 8)) (aa (bC (.int 16)) (aa (bC (.int 32)) aA))))))) (bV 3))) (bC (.int 2))) (bC (.int 1)))) (aP 2 (b2 cX (bV 2) (cJ [none,some 4] (iV (bV 5)) (gN 0) bJ jK))) (sIf (tV (b2 neQ (bV 5) (aX aA))) (fj pA 2 (b2 ak (b2 ak (bV 4) (bC (.str " "))) (b2 pZ (bC (.str " ")) (bV 5)))) sNx)))
def lM:=(aO (aP 2 (aX aA)) (aO (jG (gT [3,4]) (iE (aX (aa (bC (.str "carry")) (aa (bC (.str "one")) (aa (bC (.str "long")) (aa (bC (.str "either")) (aa (bC (.str "begin")) (aa (bC (.str "split")) aA)))))))) [3,4,5] dq) (aO (sIf (tV (b2 neQ (b2 ixP (bV 0) (bC (.int 6))) (bC (.str "")))) (fj pA 2 (b2 ak (bC (.str "run ")) (b2 ixP (bV 0) (bC (.int 6))))) sNx) (aO (aP 6 (b2 cV (b2 g8 (bV 1) (bC (.int 64))) (b2 ak (b1 lenV (bV 2)) (bC (.int 1))))) (bM (b2 cX (bSl (bV 2) (oS (bV 6)) oN) (bSl (bV 2) oN (oS (bV 6)))))))))
def d_:=dC 7 2 true lM
def g_:=(aO (aP 2 (b2 ixP (b2 ixP (bV 0) (bC (.int 0))) (b2 cV (b2 g8 (bV 1) (bC (.int 48))) (b1 lenV (b2 ixP (bV 0) (bC (.int 0))))))) (aO (aP 3 (aL aY (aa (b2 ixP (bV 0) (bC (.int 7))) (aa (bC (.int 25)) aA)))) (aO (aP 4 (aX (aa (bC (.str "")) (aa (bC (.str " ")) (aa (bC (.str "carry")) (aa (bC (.str "carry ")) (aa (b2 ak (bC (.str "carry  ")) (bV 2)) (aa (b2 ak (b2 ak (bC (.str "carry ")) (bV 2)) (bC (.str " "))) (aa (b2 ak (bC (.str " carry ")) (bV 2)) (aa (b2 ak (bC (.str "Carry ")) (bV 2)) aA)))))))))) (aO (aP 4 (b2 cX (bV 4) (aX (aa (b2 ak (bC (.str "carry ")) (b1 gW (bV 2))) (aa (b2 ak (b2 ak (bC (.str "carry ")) (bV 2)) (bV 3)) (aa (bC (.str "carry 1")) (aa (b2 ak (b2 ak (b2 ak (bC (.str "carry ")) (bV 2)) (bC (.str ", "))) (bV 3)) (aa (bC (.str "one")) aA)))))))) (aO (aP 4 (b2 cX (bV 4) (aX (aa (b2 ak (bC (.str "one ")) (bV 2)) (aa (b2 ak (b2 ak (bC (.str "one ")) (bV 2)) (bV 3)) (aa (b2 ak (bC (.str "one ")) (b2 aZ (bV 2) (bC (.int 3)))) (aa (b2 ak (bC (.str "one ")) (b2 aZ (bV 3) (bC (.int 2)))) (aa (b2 ak (b2 ak (b2 ak (bC (.str "one ")) (bV 2)) (bC (.str " "))) (bV 2)) aA)))))))) (aO (aP 4 (b2 cX (bV 4) (aX (aa (bC (.str "long")) (aa (b2 ak (bC (.str "long ")) (bV 3)) (aa (b2 ak (b2 ak (bC (.str "long ")) (bV 2)) (bV 3)) (aa (b2 ak (b2 ak (b2 ak (bC (.str "long ")) (bV 2)) (bC (.str " "))) (b2 aZ (bV 3) (bC (.int 2)))) (aa (b2 ak (bC (.str "either ")) (b2 aZ (bV 2) (bC (.int 3)))) aA)))))))) (aO (aP 4 (b2 cX (bV 4) (aX (aa (b2 ak (bC (.str "either ")) (bV 3)) (aa (bC (.str "begin")) (aa (b2 ak (bC (.str "begin ")) (bV 3)) (aa (b2 ak (bC (.str "begin ")) (b2 aZ (bV 3) (bC (.int 5)))) (aa (b2 ak (b2 ak (bC (.str "begin ")) (bV 3)) (bV 2)) aA)))))))) (aO (aP 4 (b2 cX (bV 4) (aX (aa (b2 ak (b2 ak (b2 ak (bC (.str "begin ")) (b2 aZ (bV 3) (bC (.int 2)))) (bC (.str " "))) (bV 3)) (aa (b2 ak (b2 ak (bC (.str "split ")) (bV 2)) (bV 3)) (aa (b2 ak (bC (.str "split ")) (bV 3)) (aa (bC (.str "run")) (aa (bC (.str "run now")) aA)))))))) (aO (aP 4 (b2 cX (bV 4) (aX (aa (bC (.str "run may may")) (aa (bC (.str "run Must")) (aa (b2 ak (bC (.str "alike ")) (bV 2)) (aa (b2 ak (b2 ak (b2 ak (bC (.str "alike ")) (bV 2)) (bC (.str " "))) (bV 3)) (aa (b2 ak (bC (.str "tell ")) (bV 2)) aA)))))))) (aO (aP 4 (b2 cX (bV 4) (aX (aa (b2 ak (b2 ak (b2 ak (b2 ak (b2 ak (bC (.str "alike ")) (bV 2)) (bC (.str " "))) (bV 2)) (bC (.str " "))) (bV 2)) (aa (b2 ak (b2 ak (b2 ak (bC (.str "alike ")) (b2 aZ (bV 3) (bC (.int 2)))) (bC (.str " "))) (bV 3)) (aa (bC (.str "either")) (aa (bC (.str "split")) (aa (bC (.str "alike")) aA)))))))) (aO (aP 4 (b2 cX (bV 4) (aX (aa (b2 ak (b2 ak (b2 ak (bC (.str "alike ")) (bV 3)) (bC (.str " "))) (bV 2)) (aa (b2 ak (b2 ak (b2 ak (bC (.str "alike ")) (bV 3)) (bC (.str " "))) (b2 aZ (bV 3) (bC (.int 2)))) (aa (b2 ak (b2 ak (b2 ak (bC (.str "alike ")) (bV 2)) (bC (.str " "))) (b2 aZ (bV 2) (bC (.int 3)))) aA)))))) (aO (aP 4 (b2 cX (bV 4) (aX (aa (b2 ak (bC (.str "split ")) (b2 aZ (bV 3) (bC (.int 5)))) (aa (b2 ak (b2 ak (b2 ak (bC (.str "split ")) (bV 3)) (bC (.str " "))) (b2 aZ (bV 3) (bC (.int 2)))) aA))))) (bM (b2 ixP (bV 4) (b2 cV (bV 1) (bC (.int 48)))))))))))))))))
def bh:=dC 5 2 false g_
def i_:=(kY zr 2 (bV 4) (bC (.bl true)))
def du:=(sIf (tV (b2 eqQ (b2 ixP (bV 3) (bC (.int 0))) (bV 0))) (jG (gN 4) (iV (bSl (bV 3) (oS (bC (.int 1))) oN)) [4] i_) sNx)
def mU:=(aO (aP 2 (bC (.dK []))) (aO (jG (gN 3) (iV (bV 1)) [3,4] du) (bM (bV 2))))
def aV:=dC 5 2 false mU
def iM:=(sIf (tV (b2 eqQ (b2 ixP (bV 2) (bC (.int 0))) (bC (.str "run")))) (aP 1 (b2 ixP (bV 2) (bC (.int 1)))) sNx)
def qJ:=(aO (aP 1 (bC (.str "never"))) (aO (jG (gN 2) (iV (bV 0)) [2] iM) (bM (bV 1))))
def gY:=dC 3 1 false qJ
def dJ:=(sIf (tV (b2 eqQ (b2 ixP (bV 2) (bC (.int 0))) (bC (.str "alike")))) (kY zr 1 (tK (aa (b2 ixP (bV 2) (bC (.int 1))) (aa (b2 ixP (bV 2) (bC (.int 2))) aA))) (bC (.bl true))) sNx)
def ou:=(aO (aP 1 (bC (.dT []))) (aO (jG (gN 2) (iV (bV 0)) [2] dJ) (bM (bV 1))))
def eV:=dC 3 1 false ou
def pI:=(bM (d8 (b2 eqQ (b1 lenV (bV 0)) (bC (.int 1))) (b2 inQ (bV 0) (bC (.str "abcdefghijklmnopqrstuvwxyz")))))
def eE:=dC 1 1 false pI
def iG:=(aL eE (aa (bV 0) aA))
def mj:=(bM (d8 (b2 eqQ (b2 ixP (bV 0) (bC (.int 0))) (bC (.str "carry"))) (d8 (b2 (jm λi j=>decide (j < i)) (b1 lenV (bV 0)) (bC (.int 1))) (b1 lG (cJ [none] (iV (bSl (bV 0) (oS (bC (.int 1))) oN)) (gN 0) bJ iG)))))
def cB:=dC 1 1 false mj
def oA:=(bM (d8 (b2 eqQ (b1 lenV (bV 1)) (bC (.int 2))) (d8 (b2 inQ (b2 ixP (bV 1) (bC (.int 0))) (bV 0)) (b2 inQ (b2 ixP (bV 1) (bC (.int 1))) (bV 0)))))
def gP:=dC 2 2 false oA
def ju:=(aL gP (aa (bV 1) (aa (bV 0) aA)))
def oE:=(bM (d8 (b2 eqQ (b2 ixP (bV 1) (bC (.int 0))) (bC (.str "one"))) (d8 (b2 (jm λi j=>decide (j < i)) (b1 lenV (bV 1)) (bC (.int 1))) (b1 lG (cJ [none,some 0] (iV (bSl (bV 1) (oS (bC (.int 1))) oN)) (gN 0) bJ ju)))))
def cQ:=dC 2 2 false oE
def rW:=(bM (d8 (aL eE (aa (bV 1) aA)) (b2 o_ (bV 1) (bV 0))))
def gG:=dC 2 2 false rW
def gJ:=(b2 inQ (bV 0) (bV 1))
def gK:=(aL gG (aa (bV 1) (aa (bV 0) aA)))
def j6:=(aO (sIf (tV (b2 neQ (b1 lenV (bV 2)) (bC (.int 2)))) (bM (bC (.bl false))) sNx) (bM (bOr (b1 lG (cJ [none,some 1] (iV (bV 2)) (gN 0) bJ gJ)) (b1 lG (cJ [none,some 0] (iV (bV 2)) (gN 0) bJ gK)))))
def dD:=dC 3 3 false j6
def jw:=(aL gG (aa (bV 1) (aa (bV 0) aA)))
def oF:=(bM (d8 (ph (λi j=>decide (i<=j)) (λi j=>decide (i<=j)) (bC (.int 2)) (b1 lenV (bV 1)) (bC (.int 4))) (b1 lG (cJ [none,some 0] (iV (bV 1)) (gN 0) bJ jw))))
def gQ:=dC 2 2 false oF
def lN:=(b2 inQ (bV 0) (bV 1))
def lO:=(aL gQ (aa (bV 1) (aa (bV 0) aA)))
def nQ:=(aO (aP 3 (b2 ixP (bV 2) (bC (.int 0)))) (aO (aP 4 (bSl (bV 2) (oS (bC (.int 1))) oN)) (aO (aP 5 (b2 ak (b1 jT (bV 0)) (b1 jT (bV 1)))) (aO (sIf (tV (b2 eqQ (bV 3) (bC (.str "carry")))) (bM (aL cB (aa (bV 2) aA))) sNx) (aO (sIf (tV (b2 eqQ (bV 3) (bC (.str "one")))) (bM (aL cQ (aa (bV 0) (aa (bV 2) aA)))) sNx) (aO (sIf (tO (tV (b2 eqQ (bV 3) (bC (.str "long")))) (tV (b2 eqQ (bV 3) (bC (.str "either"))))) (bM (d8 (b2 (jm λi j=>decide (j < i)) (b1 lenV (bV 4)) (bC (.int 0))) (b1 lG (cJ [none,some 5] (iV (bV 4)) (gN 0) bJ lN)))) sNx) (aO (sIf (tO (tV (b2 eqQ (bV 3) (bC (.str "begin")))) (tV (b2 eqQ (bV 3) (bC (.str "split"))))) (bM (d8 (b2 (jm λi j=>decide (j < i)) (b1 lenV (bV 4)) (bC (.int 0))) (b1 lG (cJ [none,some 0] (iV (bV 4)) (gN 0) bJ lO)))) sNx) (aO (sIf (tV (b2 eqQ (bV 3) (bC (.str "run")))) (bM (d8 (b2 eqQ (b1 lenV (bV 4)) (bC (.int 1))) (b2 inQ (b2 ixP (bV 4) (bC (.int 0))) (bC mO)))) sNx) (bM (d8 (b2 eqQ (bV 3) (bC (.str "alike"))) (aL dD (aa (bV 0) (aa (bV 5) (aa (bV 4) aA))))))))))))))
def ir:=dC 6 3 false nQ
def dM:=(b2 mJ (bV 0) (bC (.str " ")))
def fQ:=(bV 0)
def fU:=(tV (aL cB (aa (bV 0) aA)))
def fW:=(bV 0)
def fX:=(tV (aL cQ (aa (nu 0 "carrying" (bV 1)) (aa (bV 0) aA))))
def bR:=(sIf (tN (tV (aL ir (aa (nu 0 "carrying" (bV 0)) (aa (nu 0 "pairs" (bV 0)) (aa (bV 4) aA)))))) sNo sNx)
def dN:=(b2 mJ (bV 0) (bC (.str " ")))
def fY:=(bV 0)
def fZ:=(tV (aL cB (aa (bV 0) aA)))
def fC:=(bV 0)
def fD:=(tV (aL cQ (aa (nu 0 "carrying" (bV 1)) (aa (bV 0) aA))))
def cP:=(xIf (tN (tV (aL ir (aa (nu 0 "carrying" (bV 0)) (aa (nu 0 "pairs" (bV 0)) (aa (bV 4) aA)))))) (uh (aa (bV 3) aA) 11) xNo)
def jz:=(aO (aP 2 (cJ [none] (iV (bV 1)) (gN 0) bJ dM)) (aO (fj (fsV 0 "carrying") 0 (aL aV (aa (bC (.str "carry")) (aa (cJ [none] (iV (bV 2)) (gN 0) fU fQ) aA)))) (aO (fj (fsV 0 "pairs") 0 (aL aV (aa (bC (.str "one")) (aa (cJ [none,some 0] (iV (bV 2)) (gN 0) fX fW) aA)))) (aO (jG (gT [3,4]) (iE (bV 2)) [3,4] bR) (aO (fj (fsV 0 "longs") 0 (aL aV (aa (bC (.str "long")) (aa (bV 2) aA)))) (aO (fj (fsV 0 "eithers") 0 (aL aV (aa (bC (.str "either")) (aa (bV 2) aA)))) (aO (fj (fsV 0 "beginnings") 0 (aL aV (aa (bC (.str "begin")) (aa (bV 2) aA)))) (aO (fj (fsV 0 "splittings") 0 (aL aV (aa (bC (.str "split")) (aa (bV 2) aA)))) (aO (fj (fsV 0 "running") 0 (aL gY (aa (bV 2) aA))) (fj (fsV 0 "likes") 0 (aL eV (aa (bV 2) aA))))))))))))
def cj:List PV->Option (List (Str×PV)):=lX 5 2 0 jz
def jA:=(wA (aP 2 (cJ [none] (iV (bV 1)) (gN 0) bJ dN)) (wA (fj (fsV 0 "carrying") 0 (aL aV (aa (bC (.str "carry")) (aa (cJ [none] (iV (bV 2)) (gN 0) fZ fY) aA)))) (wA (fj (fsV 0 "pairs") 0 (aL aV (aa (bC (.str "one")) (aa (cJ [none,some 0] (iV (bV 2)) (gN 0) fD fC) aA)))) (Eo (gT [3,4]) (iE (bV 2)) [3,4] bR cP))))
def cu:=p_ 5 2 0 jA
def iH:=(zq (zy 0 cj (aa (bV 0) aA)))
def iI:=(zH (aa (bV 0) aA) cu)
def jx:=(aO (aP 1 (bC .non)) (En iH iI 11 (onN λn=>(.int (n:Int))) (aO (sIf (tV (b2 isN (bV 1) (bC .non))) (bM (b1 pq (bC (.int 1)))) sNx) sNo)))
def aM:=dC 3 1 false jx
def fJ:=(aO (aP 1 (aL aY (aa (bV 0) (aa (bC (.int 0)) aA)))) (aO (aP 2 (aL aY (aa (bV 0) (aa (bC (.int 1)) aA)))) (aO (aP 3 (aX (aa (b2 ak (bC (.str "long ")) (bV 1)) (aa (b2 ak (b2 ak (bC (.str "carry ")) (bV 1)) (bC (.str " 1"))) aA)))) (aO (sIf (tO (tV (b2 neQ (aL aM (aa (bV 3) aA)) (bC (.int 0)))) (tV (b2 neQ (aL aM (aa (aX (aa (b2 ak (b2 ak (bC (.str "carry ")) (bV 1)) (bC (.str " A"))) (aa (b2 ak (bC (.str "long ")) (bV 1)) aA))) aA)) (bC (.int 0))))) (bM (bC (.bl false))) sNx) (aO (aP 3 (aX (aa (b2 ak (b2 ak (bC (.str "long ")) (bV 1)) (bV 2)) (aa (b2 ak (b2 ak (b2 ak (bC (.str "carry ")) (bV 1)) (bC (.str " "))) (bV 2)) (aa (b2 ak (b2 ak (b2 ak (b2 ak (bC (.str "one ")) (bV 1)) (bV 2)) (bC (.str " "))) (b2 aZ (bV 1) (bC (.int 3)))) aA))))) (aO (sIf (tV (b2 neQ (aL aM (aa (bV 3) aA)) (bC (.int 0)))) (bM (bC (.bl false))) sNx) (bM (d8 (b2 eqQ (aL aM (aa (bSl (bV 3) (oS (bC (.int 1))) oN) aA)) (bC (.int 1))) (b2 eqQ (aL aM (aa (b2 cX (bSl (bV 3) oN (oS (bC (.int 2)))) (aX (aa (b2 ak (b2 ak (bC (.str "one ")) (bV 1)) (bV 2)) aA))) aA)) (b1 pq (bC (.int 1))))))))))))
def cH:=dC 4 1 false fJ
def lQ:=(sIf (tV (b2 neQ (aL aM (aa (b2 cX (bV 2) (aX (aa (aL bh (aa (bV 1) (aa (bV 6) aA))) aA))) aA)) (b1 lenV (bV 2)))) (bM (bC (.bl false))) sNx)
def rY:=(aO (aP 1 (aL cT (aa (bV 0) (aa (bC (.int 1)) aA)))) (aO (aP 2 (aL d_ (aa (bV 1) (aa (aL aG (aa (bV 0) (aa (bC (.int 0)) aA))) aA)))) (aO (aP 3 (b1 jT (bV 2))) (aO (aP 4 (b2 cV (aL aG (aa (bV 0) (aa (bC (.int 7)) aA))) (b2 ak (b1 lenV (bV 3)) (bC (.int 1))))) (aO (kY pH 3 (bV 4) (aL bh (aa (bV 1) (aa (aL aG (aa (bV 0) (aa (bC (.int 8)) aA))) aA)))) (aO (sIf (tV (b2 eqQ (b2 cV (aL aG (aa (bV 0) (aa (bC (.int 9)) aA))) (bC (.int 2))) (bC (.int 1)))) (aO (aP 5 (b2 ak (b2 ak (bV 4) (bC (.int 1))) (b2 cV (b2 g8 (aL aG (aa (bV 0) (aa (bC (.int 9)) aA))) (bC (.int 2))) (b2 subV (b1 lenV (bV 3)) (bV 4))))) (kY pH 3 (bV 5) (aL bh (aa (bV 1) (aa (aL aG (aa (bV 0) (aa (bC (.int 10)) aA))) aA))))) sNx) (aO (jG (gN 6) (iV (bSl (bV 0) (oS (bC (.int 11))) (oS (bC (.int 19))))) [6] lQ) (aO (aP 7 (b1 jT (bV 3))) (aO (sIf (tO (tV (b2 neQ (aL aM (aa (bV 2) aA)) (b1 pq (bC (.int 1))))) (tV (b2 neQ (aL aM (aa (bV 3) aA)) (bV 4)))) (bM (bC (.bl false))) sNx) (aO (sIf (tN (tV (aL cH (aa (aL aG (aa (bV 0) (aa (bC (.int 1)) aA))) aA)))) (bM (bC (.bl false))) sNx) (bM (d8 (b2 eqQ (aL aM (aa (bV 3) aA)) (bV 4)) (d8 (b2 eqQ (bV 3) (bV 7)) (b2 eqQ (aL aM (aa (bV 2) aA)) (b1 pq (bC (.int 1)))))))))))))))))
def rZ:=dC 8 1 false rY
end
end My
namespace My
open PySem L2 MR
abbrev LET:Str := "abcdefghijklmnopqrstuvwxyz"
def isLetter (x:Str):Bool:=decide (x.length=1)&&!(Builtin.Str.occurrences LET x 0 LET.length 1).isEmpty
def bW:List Str->Bool
 | w::r=>decide (w=("carry" : Str))&&decide (0 < r.length)&&r.all isLetter
 | []=>false
def pairOf (C:Str->Bool) (x:Str):Bool:=match x.cps.toList with
 | [a,b]=>C ⟨#[a]⟩&&C ⟨#[b]⟩
 | _=>false
def cZ (C:Str->Bool):List Str->Bool
 | w::r=>decide (w=("one" : Str))&&decide (0 < r.length)&&r.all (pairOf C)
 | []=>false
def dF (C:Str->Bool) (x:Str):Bool:=isLetter x&&!C x
def di (C:Str->Bool) (x:Str):Bool:=decide (2<=x.length)&&decide (x.length<=4)&&x.cps.toList.all λc=>dF C ⟨#[c]⟩
def bG (C:Str->Bool) (cs ws:List Str):Bool:=decide (ws.length=2)&&(ws.all (λw=>decide (w∈cs))||ws.all (dF C))
def aR (C:Str->Bool) (cs:List Str):List Str->Bool
 | w::r=>
  if w=("carry" : Str) then bW (w::r)
  else if w=("one" : Str) then cZ C (w::r)
  else if w=("long" : Str)\/w=("either" : Str) then decide (0 < r.length)&&r.all λx=>decide (x∈cs)
  else if w=("begin" : Str)\/w=("split" : Str) then decide (0 < r.length)&&r.all (di C)
  else if w=("run" : Str) then decide (r.length=1)&&r.all λx=>decide (x=("never" : Str)\/x=("may" : Str)\/x=("must" : Str))
  else decide (w=("alike" : Str))&&bG C cs r
 | []=>false
def Few (ws:List Str):Prop:=ws.length<=1000/\∀ x∈ws,x.length<=1000
def inS (ks:List Str) (x:Str):Bool:=decide (x∈ks)
theorem uR {x:Str}(h:x.length<=1000):eE [.str x]=some (.bl (isLetter x)):=by
 have h':x.length<=1000000:=by omega
 simp[eE,pI,eqQ,eqP,h',isLetter,inP]
 by_cases e:(x.length:Int)=1
 ·have e':x.length=1:=by omega
  simp[e,e']
 ·have e':¬ x.length=1:=by omega
  simp[e,e']
theorem mq {α:Type}(f:α->PV) (w:α) (r:List α):gw ((w::r).map f) (some 1) none=r.map f:=by
 unfold gw
 have h1:HT.sIx ((w::r).map f).length 0 (some ((1:Nat):Int))=1:=by
  rw[HT.sIx_nat];simp
 have h1':HT.sIx ((w::r).map f).length 0 (some 1)=1:=h1
 rw[h1',HT.sIx_none]
 simp only[List.map_cons,List.drop_succ_cons,List.drop_zero]
 exact List.take_of_length_le (by simp)
theorem je {α:Type}(p:α->Bool):∀ l:List α,bools (l.map λx=>PV.bl (p x))=some (l.map p)
 | []=>rfl
 | x::l=>by simp[je p l]
theorem qW {w:Str}{r:List Str}(hf:Few (w::r)):cB [.lst ((w::r).map .str)]=some (.bl (bW (w::r))):=by
 have hl:r.length<=1000:=by have:=hf.1;simp at this;omega
 have hc:bO [none] (gN 0) bJ iG (r.map .str)=some (r.map λx=>.bl (isLetter x)):=
  b_ _ _ r λy hy=>⟨_,rfl,by simp[iG,uR (hf.2 y (List.mem_cons_of_mem _ hy))]⟩
 have h0:atI ((w::r).map PV.str) 0=some (.str w):=bZ (k:=0) rfl
 have ht:=mq PV.str w r
 simp only[List.map_cons] at h0 ht
 simp[cB,mj,h0,ht,eqQ,eqP,bW]
 by_cases e:w=("carry" : Str)
 ·subst e
  simp
  by_cases e2:(1:Int) < (r.length:Int)+1
  ·have e3:0 < r.length:=by omega
   have hl':r.length<=1000000:=by omega
   simp[e2,e3,hc,hl',je]
  ·have e3:¬ 0 < r.length:=by omega
   simp[e2,e3]
 ·simp[e]
end My
namespace My
open PySem L2 MR
theorem Cr {x:Str}(h:x.length=2):∃ a b,x.cps.toList=[a,b]:=by
 have h':x.cps.toList.length=2:=by rw[Array.length_toList];exact h
 match hx:x.cps.toList,h' with
 | [a,b],_=>exact⟨a,b,rfl⟩
theorem Hx {ks:List Str}{x:Str}(h:x.length<=1000):gP [.dK (sdP ks),.str x]=some (.bl (pairOf (inS ks) x)):=by
 have h':x.length<=1000000:=by omega
 simp[gP,oA,h']
 by_cases e:(x.length:Int)=2
 ·obtain⟨a,c,hs⟩:=Cr (x:=x) (by omega)
  have a0:atI x.cps.toList 0=some a:=by rw[hs];exact bZ (k:=0) rfl
  have a1:atI x.cps.toList 1=some c:=by rw[hs];exact bZ (k:=1) rfl
  have ep:pairOf (inS ks) x=(inS ks ⟨#[a]⟩&&inS ks ⟨#[c]⟩):=by unfold pairOf;rw[hs]
  rw[ep]
  simp[e,a0,a1,BL,inS]
  by_cases m:(⟨#[a]⟩:Str)∈ks <;> simp[m]
 ·have e1:pairOf (inS ks) x=false:=by
   unfold pairOf
   split
   ·rename_i a c hs
    have:x.cps.toList.length=2:=by rw[hs];rfl
    rw[Array.length_toList] at this
    exact absurd (show ((x.length:Nat):Int)=2 by unfold Str.length;omega) e
   ·rfl
  simp[e,e1]
theorem wG {ks:List Str}{w:Str}{r:List Str}(hf:Few (w::r)):cQ [.dK (sdP ks),.lst ((w::r).map .str)]=some (.bl (cZ (inS ks) (w::r))):=by
 have hl:r.length<=1000:=by have:=hf.1;simp at this;omega
 have hc:bO [none,some (.dK (sdP ks))] (gN 0) bJ ju (r.map .str)=some (r.map λx=>.bl (pairOf (inS ks) x)):=
  b_ _ _ r λy hy=>⟨_,rfl,by simp[ju,Hx (hf.2 y (List.mem_cons_of_mem _ hy))]⟩
 have h0:atI ((w::r).map PV.str) 0=some (.str w):=bZ (k:=0) rfl
 have ht:=mq PV.str w r
 simp only[List.map_cons] at h0 ht
 simp[cQ,oE,h0,ht,cZ]
 by_cases e:w=("one" : Str)
 ·subst e
  simp
  by_cases e2:(1:Int) < (r.length:Int)+1
  ·have e3:0 < r.length:=by omega
   have hl':r.length<=1000000:=by omega
   simp[e2,e3,hc,hl',je]
  ·have e3:¬ 0 < r.length:=by omega
   simp[e2,e3]
 ·simp[e]
theorem yt {ks:List Str}{x:Str}(h:x.length<=1000):gG [.dK (sdP ks),.str x]=some (.bl (dF (inS ks) x)):=by
 simp[gG,rW,uR h,dF,BL,inS]
 cases isLetter x <;> simp
theorem Hy (x:Str):chV x=x.cps.toList.map λc=>PV.str ⟨#[c]⟩:=rfl
theorem zO {ks:List Str}{x:Str}(h:x.length<=1000):gQ [.dK (sdP ks),.str x]=some (.bl (di (inS ks) x)):=by
 have h':x.length<=1000000:=by omega
 have hl:x.cps.toList.length=x.length:=Array.length_toList
 have hc:bO [none,some (.dK (sdP ks))] (gN 0) bJ jw (chV x)=some (x.cps.toList.map λc=>.bl (dF (inS ks) ⟨#[c]⟩)):=by
  rw[Hy]
  exact b_ _ _ _ λy hy=>⟨_,rfl,by simp[jw,yt (ks:=ks) (x:=⟨#[y]⟩) (by show 1<=1000;decide)]⟩
 have hcl:(chV x).length<=1000000:=by unfold chV;rw[List.length_map,hl];exact h'
 simp[gQ,oF,h',di]
 by_cases e:(2:Int)<=x.length
 ·have e1:2<=x.length:=by omega
  simp[e,e1]
  by_cases e2:(x.length:Int)<=4
  ·have e3:x.length<=4:=by omega
   simp[e2,e3,hc,hcl,je]
  ·have e3:¬ x.length<=4:=by omega
   simp[e2,e3]
 ·have e1:¬ 2<=x.length:=by omega
  simp[e,e1]
theorem qX (x:Str):∀ cs:List Str,((cs.map PV.str).any λy=>eqF y (.str x))=decide (x∈cs)
 | []=>by simp
 | c::r=>by
  have ih:=qX x r
  rw[List.map_cons,List.any_cons,ih]
  by_cases h:c=x
  ·subst h;simp[eqF]
  ·have h':¬ x=c:=λe=>h e.symm
   simp[eqF,h,h']
theorem uT:∀ cs:List Str,(cs.map PV.str).all dG=true
 | []=>rfl
 | _::r=>by simp[uT r]
theorem wH (x:Str) (cs:List Str):inP (.str x) (.lst (cs.map .str))=some (decide (x∈cs)):=by
 have h:=qX x cs
 have hf:=uT cs
 unfold inP
 simp only[hf,h,dG,and_self,if_true]
theorem Eu {ks cs ws:List Str}(hf:Few ws):dD [.dK (sdP ks),.lst (cs.map .str),.lst (ws.map .str)]=some (.bl (bG (inS ks) cs ws)):=by
 have hl:ws.length<=1000000:=by have:=hf.1;omega
 have h1:bO [none,some (.lst (cs.map .str))] (gN 0) bJ gJ (ws.map .str)=some (ws.map λx=>.bl (decide (x∈cs))):=
  b_ _ _ ws λy hy=>⟨_,rfl,by simp[gJ,wH]⟩
 have h2:bO [none,some (.dK (sdP ks))] (gN 0) bJ gK (ws.map .str)=some (ws.map λx=>.bl (dF (inS ks) x)):=
  b_ _ _ ws λy hy=>⟨_,rfl,by simp[gK,yt (hf.2 y hy)]⟩
 simp[dD,j6,bG]
 by_cases e:(ws.length:Int)=2
 ·have e':ws.length=2:=by omega
  simp[e,e',h1,h2,hl,je]
  cases (ws.all λx=>decide (x∈cs)) <;> simp
 ·have e':¬ ws.length=2:=by omega
  simp[e,e']
theorem Ew (ks:List Str):(sdP ks).map (λkv=>vB kv.1)=ks.map PV.str:=by
 unfold sdP;rw[List.map_map];rfl
theorem qY {f g:MR.Env->Option Out}{env e:MR.Env}(h:f env=some (.nx e)):aO f g env=g e:=by simp[h]
theorem pJ {c:MR.Env->Option Bool}{f g:MR.Env->Option Out}{env:MR.Env}(h:c env=some false):aO (sIf c f sNx) g env=g env:=by simp[h]
theorem pK {c:MR.Env->Option Bool}{f g:MR.Env->Option Out}{env:MR.Env}{p:PV}(h:c env=some true) (h':f env=some (.rt p)):aO (sIf c f sNx) g env=some (.rt p):=by simp[h,h']
theorem jf {env:MR.Env}{w:Str}(h:bV 3 env=some (.str w)) (s:Str):tV (b2 eqQ (bV 3) (bC (.str s))) env=some (decide (w=s)):=by
 simp only[Mi,kJ,h,Option.bind_some,rF,Bo,yh,Option.map_some]
theorem qd {env:MR.Env}{w:Str}(h:bV 3 env=some (.str w)) (s t:Str):tO (tV (b2 eqQ (bV 3) (bC (.str s)))) (tV (b2 eqQ (bV 3) (bC (.str t)))) env=some (decide (w=s\/w=t)):=by
 rw[Mj,jf h,jf h]
 by_cases q:w=s <;> simp[q]
theorem jL {f:MR.Env->Option PV}{env:MR.Env}{p:PV}(h:f env=some p):bM f env=some (.rt p):=by simp[h]
theorem Cu {env:MR.Env}{cap:List (Option Nat)}{ce:MR.Env->Option PV}{r:List Str}{q:Str->Bool}(h4:bV 4 env=some (.lst (r.map .str))) (hl:r.length<=1000000) (hc:bO (j9 cap env) (gN 0) bJ ce (r.map .str)=some (r.map λx=>.bl (q x))):
  d8 (b2 (jm λi j=>decide (j < i)) (b1 lenV (bV 4)) (bC (.int 0))) (b1 lG (cJ cap (iV (bV 4)) (gN 0) bJ ce)) env=some (.bl (decide (0 < r.length)&&r.all q)):=by
 have hbl:=je q r
 rw[tH,kJ,zb,h4,zb,D_,MT,h4]
 simp only[Option.bind_some,lenV,rF,jm,itV,List.length_map,hl,if_true,hc,lG,hbl,Option.map_some]
 cases r with
 | nil=>rfl
 | cons x r=>
  have h1:(0:Int) < ((x::r).length:Int):=by simp
  simp only[h1,decide_true]
  simp
theorem yu {ks ps:List Str}{w:Str}{r:List Str}(hf:Few (w::r)) (hk:ks.length<=100000) (hp:ps.length<=100000):
  ir [.dK (sdP ks),.dK (sdP ps),.lst ((w::r).map .str)]=some (.bl (aR (inS ks) (ks++ps) (w::r))):=by
 have hl:r.length<=1000:=by have:=hf.1;simp at this;omega
 have hl':r.length<=1000000:=by omega
 have rf:Few r:=⟨hl,λx hx=>hf.2 x (List.mem_cons_of_mem _ hx)⟩
 have h0:atI ((w::r).map PV.str) 0=some (.str w):=bZ (k:=0) rfl
 have ht:=mq PV.str w r
 have hC:=qW hf
 have hO:=wG (ks:=ks) hf
 have hU:=Eu (ks:=ks) (cs:=ks++ps) rf
 have c1:bO [none,some (.lst ((ks++ps).map .str))] (gN 0) bJ lN (r.map .str)=some (r.map λx=>.bl (decide (x∈ks++ps))):=
  b_ _ _ r λy hy=>⟨_,rfl,by simp only[lN,b2,bV,inQ];simp only[List.set,List.getElem?_cons_zero,List.getElem?_cons_succ,Option.bind_some,wH,Option.map_some]⟩
 have c2:bO [none,some (.dK (sdP ks))] (gN 0) bJ lO (r.map .str)=some (r.map λx=>.bl (di (inS ks) x)):=
  b_ _ _ r λy hy=>⟨_,rfl,by simp[lO,zO (rf.2 y hy)]⟩
 have hz:ks.length+ps.length<=1000000:=by omega
 generalize hrow:PV.lst ((w::r).map .str)=row at hC hO
 generalize hcs:ks++ps=cs at c1 hU
 have s1:aP 3 (b2 ixP (bV 2) (bC (.int 0))) [some (.dK (sdP ks)),some (.dK (sdP ps)),some row,none,none,none]=some (.nx [some (.dK (sdP ks)),some (.dK (sdP ps)),some row,some (.str w),none,none]):=by
  subst hrow
  simp only[G_,kJ,bV,List.getElem?_cons_succ,List.getElem?_cons_zero,Option.bind_some,rF,ixP,h0,List.set]
 have s2:aP 4 (bSl (bV 2) (oS (bC (.int 1))) oN) [some (.dK (sdP ks)),some (.dK (sdP ps)),some row,some (.str w),none,none]=some (.nx [some (.dK (sdP ks)),some (.dK (sdP ps)),some row,some (.str w),some (.lst (r.map .str)),none]):=by
  subst hrow
  simp[-List.map_cons,ht]
 have s3:aP 5 (b2 ak (b1 jT (bV 0)) (b1 jT (bV 1))) [some (.dK (sdP ks)),some (.dK (sdP ps)),some row,some (.str w),some (.lst (r.map .str)),none]=some (.nx [some (.dK (sdP ks)),some (.dK (sdP ps)),some row,some (.str w),some (.lst (r.map .str)),some (.lst (cs.map .str))]):=by
  subst hcs
  simp[Ew,rP,hz]
 have g3:bV 3 [some (.dK (sdP ks)),some (.dK (sdP ps)),some row,some (.str w),some (.lst (r.map .str)),some (.lst (cs.map .str))]=some (.str w):=rfl
 have g4:bV 4 [some (.dK (sdP ks)),some (.dK (sdP ps)),some row,some (.str w),some (.lst (r.map .str)),some (.lst (cs.map .str))]=some (.lst (r.map .str)):=rfl
 have fb:nQ [some (.dK (sdP ks)),some (.dK (sdP ps)),some row,none,none,none]=some (.rt (.bl (aR (inS ks) cs (w::r)))):=by
  have hC':bM (aL cB (aa (bV 2) aA)) [some (.dK (sdP ks)),some (.dK (sdP ps)),some row,some (.str w),some (.lst (r.map .str)),some (.lst (cs.map .str))]=_:=jL (by rw[wg];exact hC)
  have hO':bM (aL cQ (aa (bV 0) (aa (bV 2) aA))) [some (.dK (sdP ks)),some (.dK (sdP ps)),some row,some (.str w),some (.lst (r.map .str)),some (.lst (cs.map .str))]=_:=jL (by rw[wg];exact hO)
  have a1:=Cu (cap:=[none,some 5]) (q:=λx=>decide (x∈cs)) g4 hl' c1
  have a2:=Cu (cap:=[none,some 0]) (q:=λx=>di (inS ks) x) g4 hl' c2
  generalize hE:[some (PV.dK (sdP ks)),some (.dK (sdP ps)),some row,some (.str w),some (.lst (r.map .str)),some (.lst (cs.map .str))]=E at s3 g3 g4 hC' hO' a1 a2
  unfold nQ
  rw[qY s1,qY s2,qY s3]
  by_cases n1:w=("carry" : Str)
  ·rw[pK (by rw[jf g3,decide_eq_true n1]) hC']
   simp only[aR,if_pos n1]
  rw[pJ (by rw[jf g3,decide_eq_false n1])]
  by_cases n2:w=("one" : Str)
  ·rw[pK (by rw[jf g3,decide_eq_true n2]) hO']
   simp only[aR,if_neg n1,if_pos n2]
  rw[pJ (by rw[jf g3,decide_eq_false n2])]
  by_cases n3:w=("long" : Str)\/w=("either" : Str)
  ·rw[pK (by rw[qd g3,decide_eq_true n3]) (jL a1)]
   simp only[aR,if_neg n1,if_neg n2,if_pos n3]
  rw[pJ (by rw[qd g3,decide_eq_false n3])]
  by_cases n4:w=("begin" : Str)\/w=("split" : Str)
  ·rw[pK (by rw[qd g3,decide_eq_true n4]) (jL a2)]
   simp only[aR,if_neg n1,if_neg n2,if_neg n3,if_pos n4]
  rw[pJ (by rw[qd g3,decide_eq_false n4])]
  by_cases n5:w=("run" : Str)
  ·have a3:d8 (b2 eqQ (b1 lenV (bV 4)) (bC (.int 1))) (b2 inQ (b2 ixP (bV 4) (bC (.int 0))) (bC mO)) E=some (.bl (decide (r.length=1)&&r.all λx=>decide (x=("never" : Str)\/x=("may" : Str)\/x=("must" : Str)))):=by
    rw[tH,kJ,zb,g4,kJ,kJ,g4]
    clear hE
    match r with
    | []=>rfl
    | [x]=>
     have h8:inP (.str x) mO=some (decide (x=("never" : Str)\/x=("may" : Str)\/x=("must" : Str))):=by
      have q:=qX x ["never", "may", "must"]
      simp only[List.map_cons,List.map_nil] at q
      unfold mO inP
      simp only[dG,List.all_cons,List.all_nil,Bool.and_self,and_self,if_true,q]
      simp
     have h9:atI [PV.str x] 0=some (.str x):=bZ (k:=0) rfl
     simp[h9,h8]
    | x::y::r'=>
     have:¬ ((r'.length:Int)+1+1=1):=by omega
     simp[this]
   rw[pK (by rw[jf g3,decide_eq_true n5]) (jL a3)]
   simp only[aR,if_neg n1,if_neg n2,if_neg n3,if_neg n4,if_pos n5]
  rw[pJ (by rw[jf g3,decide_eq_false n5])]
  refine jL ?_
  have e:aR (inS ks) cs (w::r)=(decide (w=("alike" : Str))&&bG (inS ks) cs r):=by
   simp only[aR,if_neg n1,if_neg n2,if_neg n3,if_neg n4,if_neg n5]
  rw[e,tH,kJ,g3]
  simp only[Option.bind_some,rF,Bo,yh,Option.map_some]
  by_cases n6:w=("alike" : Str)
  ·subst hE
   simp[n6,hU]
  ·simp[n6]
 subst hcs
 simp[ir,fb]
end My
namespace My
open PySem L2 MR
def bj (ws:List Str):PV:=.lst (ws.map .str)
def bx (rs:List (List Str)):List PV:=rs.map bj
theorem yw {kind:Str}{q:PV}{row:PV}:∀ (ws ks:List Str),ks.length+ws.length < 1000000->
  bU (gN 4) [4] i_ (ws.map .str) [some (.str kind),some q,some (.dK (sdP ks)),some row,none]=some (.nx [some (.str kind),some q,some (.dK (sdP (iJ ks ws))),some row,none])
 | [],ks,_=>rfl
 | w::ws,ks,h=>by
  have h1:(sdP ks).length < 1000000:=by rw[rP];simp at h;omega
  have h2:=wz ks w
  have ih:=yw (kind:=kind) (q:=q) (row:=row) ws (kh ks w) (by simp at h;omega)
  have e:iJ ks (w::ws)=iJ (kh ks w) ws:=rfl
  rw[e,← ih]
  simp[bU,i_,h1,Hh]
theorem wI {kind:Str}{q:PV}:∀ (rs:List (List Str)) (ks:List Str),(∀ ws∈rs,ws≠[])->ks.length+total rs < 1000000->
  bU (gN 3) [3,4] du (bx rs) [some (.str kind),some q,some (.dK (sdP ks)),none,none]=some (.nx [some (.str kind),some q,some (.dK (sdP (rs.foldl (dO kind) ks))),none,none])
 | [],ks,_,_=>rfl
 | []::rs,ks,hne,_=>absurd rfl (hne [] List.mem_cons_self)
 | (c::r)::rs,ks,hne,h=>by
  have ht:ks.length+(r.length+1)+total rs < 1000000:=by unfold total at h ⊢;simp at h;omega
  have h0:atI ((c::r).map PV.str) 0=some (.str c):=bZ (k:=0) rfl
  have hc:=mq PV.str c r
  simp only[List.map_cons] at h0 hc
  have key:du [some (.str kind),some q,some (.dK (sdP ks)),some (bj (c::r)),none]=some (.nx [some (.str kind),some q,some (.dK (sdP (dO kind ks (c::r)))),some (bj (c::r)),none]):=by
   by_cases e:c=kind
   ·subst e
    have hi:=yw (kind:=c) (q:=q) (row:=bj (c::r)) r ks (by omega)
    simp only[bj,List.map_cons] at hi
    simp[du,bj,h0,hc,dO,hi]
   ·simp[du,bj,h0,hc,dO,e]
  have hl:(dO kind ks (c::r)).length<=ks.length+(r.length+1):=by
   show (if c=kind then iJ ks r else ks).length<=_
   split
   ·have:=pD r ks;omega
   ·omega
  have ih:=wI (kind:=kind) (q:=q) rs (dO kind ks (c::r)) (λws hws=>hne ws (List.mem_cons_of_mem _ hws)) (by omega)
  rw[List.foldl_cons,← ih]
  show bU (gN 3) [3,4] du (bj (c::r)::bx rs) _=_
  simp[bU,key]
theorem jg {kind:Str}{rs:List (List Str)}(hne:∀ ws∈rs,ws≠[]) (h:total rs < 1000000):aV [.str kind,.lst (bx rs)]=some (.dK (sdP (tell kind rs))):=by
 have hl:=wI (kind:=kind) (q:=.lst (bx rs)) rs [] hne (by simpa using h)
 have e:([]:List (Key×PV))=sdP []:=rfl
 simp[aV,mU,e,hl,tell]
def qe (t:Str):List Str->Str
 | c::x::_=>if c=("run" : Str) then x else t
 | _=>t
def qg (rs:List (List Str)):Str:=rs.foldl qe ("never" : Str)
theorem Kv {rs:List (List Str)}(hne:∀ ws∈rs,ws≠[]) (hrun:∀ r,(("run" : Str)::r)∈rs->r≠[]):gY [.lst (bx rs)]=some (.str (qg rs)):=by
 have hl:=rN (g:=gN 2) (ds:=[2]) (body:=iM) bj (λs:Str=>[some (.lst (bx rs)),some (.str s),none]) qe rs ("never" : Str) (λws hws s=>by
  cases ws with
  | nil=>exact absurd rfl (hne _ hws)
  | cons c r=>
   have h0:atI ((c::r).map PV.str) 0=some (.str c):=bZ (k:=0) rfl
   simp only[List.map_cons] at h0
   by_cases e:c=("run" : Str)
   ·cases r with
    | nil=>subst e;exact absurd rfl (hrun _ hws)
    | cons x r=>
     subst e
     have h1:atI (((("run" : Str)::x::r)).map PV.str) 1=some (.str x):=bZ (k:=1) rfl
     simp only[List.map_cons] at h0 h1
     exact⟨_,_,rfl,by simp[iM,bj,h0,h1];rfl,by simp[qe]⟩
   ·refine⟨_,_,rfl,by simp[iM,bj,h0,e];rfl,?_⟩
    cases r <;> simp[qe,e])
 simp[gY,qJ,qg]
 unfold bx at hl ⊢
 simp[hl]
def wJ (ks:List (Str×Str)) (x:Str×Str):List (Str×Str):=if x∈ks then ks else ks++[x]
def gM (ks:List (Str×Str)):List Str->List (Str×Str)
 | c::x::y::_=>if c=("alike" : Str) then wJ ks (x,y) else ks
 | _=>ks
def likes (rs:List (List Str)):List (Str×Str):=rs.foldl gM []
def pk (x:Str×Str):List Key:=[Sum.inr x.1,Sum.inr x.2]
theorem Cv {x y:Str×Str}(h:pk x=pk y):x=y:=by
 obtain⟨a,b⟩:=x
 obtain⟨c,d⟩:=y
 simp[pk] at h
 rw[h.1,h.2]
def sdT (ks:List (Str×Str)):List (List Key×PV):=ks.map λx=>(pk x,PV.bl true)
theorem zP (ks:List (Str×Str)):(sdT ks).length=ks.length:=by simp[sdT]
theorem Hz (ks:List (Str×Str)) (x:Str×Str):my (sdT ks) (pk x) (.bl true)=sdT (wJ ks x):=by
 have hany:((sdT ks).any λkv=>decide (kv.1=pk x))=decide (x∈ks):=by
  unfold sdT
  rw[List.any_map]
  induction ks with
  | nil=>simp
  | cons k r ih=>
   rw[List.any_cons,ih]
   by_cases h:k=x
   ·subst h;simp
   ·have h':¬ x=k:=λe=>h e.symm
    have hk:¬ pk k=pk x:=λe=>h (Cv e)
    simp[hk,h']
 unfold my wJ
 rw[hany]
 by_cases h:x∈ks
 ·rw[if_pos (by simpa using h),if_pos h]
  unfold sdT
  rw[List.map_map]
  refine List.map_congr_left λy _=>?_
  by_cases e:y=x
  ·subst e;simp
  ·have:¬ pk y=pk x:=λz=>e (Cv z)
   simp[this]
 ·rw[if_neg (by simpa using h),if_neg h]
  unfold sdT
  simp
theorem Ey (ks:List (Str×Str)) (x:Str×Str):(wJ ks x).length<=ks.length+1:=by
 unfold wJ;split <;> simp
theorem wK (ks:List (Str×Str)) (ws:List Str):(gM ks ws).length<=ks.length+1:=by
 unfold gM
 split
 ·split
  ·exact Ey _ _
  ·exact Nat.le_add_right _ _
 ·exact Nat.le_add_right _ _
theorem xK {ks:List (Str×Str)}{c:Str}{r:List Str}(e:¬ c=("alike" : Str)):gM ks (c::r)=ks:=by
 cases r with
 | nil=>rfl
 | cons x r=>
  cases r with
  | nil=>rfl
  | cons y r=>simp[gM,e]
theorem wL {q:PV}:∀ (rs:List (List Str)) (ks:List (Str×Str)),(∀ ws∈rs,ws≠[])->(∀ r,(("alike" : Str)::r)∈rs->2<=r.length)->ks.length+rs.length < 1000000->
  bU (gN 2) [2] dJ (bx rs) [some q,some (.dT (sdT ks)),none]=some (.nx [some q,some (.dT (sdT (rs.foldl gM ks))),none])
 | [],ks,_,_,_=>rfl
 | []::rs,ks,hne,_,_=>absurd rfl (hne [] List.mem_cons_self)
 | (c::r)::rs,ks,hne,hal,h=>by
  have hk:(sdT ks).length < 1000000:=by rw[zP];omega
  have key:dJ [some q,some (.dT (sdT ks)),some (bj (c::r))]=some (.nx [some q,some (.dT (sdT (gM ks (c::r)))),some (bj (c::r))]):=by
   by_cases e:c=("alike" : Str)
   ·subst e
    have h2:=hal r List.mem_cons_self
    match r,h2 with
    | x::y::r,_=>
     have h0:atI (((("alike" : Str)::x::y::r)).map PV.str) 0=some (.str "alike"):=bZ (k:=0) rfl
     have h1:atI (((("alike" : Str)::x::y::r)).map PV.str) 1=some (.str x):=bZ (k:=1) rfl
     have h2:atI (((("alike" : Str)::x::y::r)).map PV.str) 2=some (.str y):=bZ (k:=2) rfl
     have hp:=Hz ks (x,y)
     simp only[List.map_cons] at h0 h1 h2
     simp only[pk] at hp
     simp[dJ,bj,h0,h1,h2,hk,gM,hp]
   ·have h0:atI ((c::r).map PV.str) 0=some (.str c):=bZ (k:=0) rfl
    simp only[List.map_cons] at h0
    simp[dJ,bj,h0,e,xK e]
  have hl:=wK ks (c::r)
  have ih:=wL (q:=q) rs (gM ks (c::r)) (λws hws=>hne ws (List.mem_cons_of_mem _ hws)) (λr hr=>hal r (List.mem_cons_of_mem _ hr)) (by simp at h;omega)
  rw[List.foldl_cons,← ih]
  show bU (gN 2) [2] dJ (bj (c::r)::bx rs) _=_
  simp[bU,key]
theorem Ez {rs:List (List Str)}(hne:∀ ws∈rs,ws≠[]) (hal:∀ r,(("alike" : Str)::r)∈rs->2<=r.length) (h:rs.length < 1000000):eV [.lst (bx rs)]=some (.dT (sdT (likes rs))):=by
 have hl:=wL (q:=.lst (bx rs)) rs [] hne hal (by simpa using h)
 have e:([]:List (List Key×PV))=sdT []:=rfl
 simp[eV,ou,e,hl,likes]
end My
namespace My
open PySem
def isAt (x:Str) (c i:Nat):Bool:=decide (x.cps.toList[i]?=some c)
theorem um (x:Str) (c limit:Nat):∀ (n a:Nat) (st:Array Nat×Nat),st.2<=a->st.1.size+n<=limit->
  (forIn (List.range' a n) st (StrLaws.occBody x ⟨#[c]⟩ x.length limit)).run.fst.toList=st.1.toList++(List.range' a n).filter (isAt x c)
 | 0,a,st,_,_=>by simp
 | n+1,a,st,h1,h2=>by
  rw[List.range'_succ,List.forIn_cons]
  unfold StrLaws.occBody
  have hs:=StrLaws.subAt_one x c a
  by_cases h:x.cps.toList[a]?=some c
  ·obtain⟨h3,h4⟩:=hs.mpr h
   rw[if_pos ⟨⟨⟨by omega,h1⟩,h3⟩,h4⟩]
   have ih:=um x c limit n (a+1) (st.1.push a,a+(⟨#[c]⟩:Str).length) (by show a+1<=a+1;omega) (by simp;omega)
   show (forIn (List.range' (a+1) n) (st.1.push a,a+(⟨#[c]⟩:Str).length) (StrLaws.occBody x ⟨#[c]⟩ x.length limit)).run.fst.toList=_
   rw[ih,List.filter_cons]
   have hi:isAt x c a=true:=by simp[isAt,h]
   rw[if_pos hi]
   simp
  ·rw[if_neg (λz=>h (hs.mp ⟨z.1.2,z.2⟩))]
   have ih:=um x c limit n (a+1) (st.1,st.2) (by show st.2<=a+1;omega) (by show st.1.size+n<=limit;omega)
   show (forIn (List.range' (a+1) n) (st.1,st.2) (StrLaws.occBody x ⟨#[c]⟩ x.length limit)).run.fst.toList=_
   rw[ih,List.filter_cons]
   have hi:isAt x c a=false:=decide_eq_false h
   rw[if_neg (by rw[hi];exact Bool.false_ne_true)]
theorem HB (x:Str) (c:Nat):Builtin.Str.occurrences x ⟨#[c]⟩ 0 x.length (x.length+1)=(List.range' 0 (x.length+1)).filter (isAt x c):=by
 rw[StrLaws.occ_eq,um x c (x.length+1) (x.length+1 - 0) 0 (#[],0) (Nat.le_refl _) (by simp)]
 simp
def spl (c:Nat):List Nat->List (List Nat)
 | []=>[[]]
 | a::l=>if a=c then []::spl c l else match spl c l with
  | p::ps=>(a::p)::ps
  | []=>[[a]]
theorem sr (c:Nat):∀ l:List Nat,∃ p ps,spl c l=p::ps
 | []=>⟨_,_,rfl⟩
 | a::l=>by
  obtain⟨p,ps,e⟩:=sr c l
  unfold spl
  split
  ·exact⟨_,_,rfl⟩
  ·rw[e];exact⟨_,_,rfl⟩
def glue (w:List Nat):List (List Nat)->List (List Nat)
 | p::ps=>(w++p)::ps
 | []=>[w]
theorem kj (x:Str) (c:Nat):∀ (n a b:Nat),b+n=x.length->a<=b->(StrLaws.partsFrom x 1 a ((List.range' b (n+1)).filter (isAt x c))).map (λp=>p.cps.toList)=glue ((x.cps.toList.drop a).take (b - a)) (spl c (x.cps.toList.drop b))
 | 0,a,b,h,hab=>by
  have hl:x.cps.toList.length=x.length:=Array.length_toList
  have hi:isAt x c b=false:=by
   unfold isAt
   rw[List.getElem?_eq_none (by omega)]
   simp
  rw[List.range'_succ,List.filter_cons,if_neg (by rw[hi];exact Bool.false_ne_true)]
  simp only[List.range'_zero,List.filter_nil,StrLaws.partsFrom,List.map_cons,List.map_nil]
  rw[StrLaws.strSub_toList,List.drop_eq_nil_of_le (by omega:x.cps.toList.length<=b)]
  simp only[spl,glue,List.append_nil]
  rw[show x.length - a=b - a by omega]
 | n+1,a,b,h,hab=>by
  have hl:x.cps.toList.length=x.length:=Array.length_toList
  have hb:b < x.cps.toList.length:=by omega
  rw[List.range'_succ,List.filter_cons]
  have ed:x.cps.toList.drop b=x.cps.toList[b]::x.cps.toList.drop (b+1):=List.drop_eq_getElem_cons hb
  by_cases hc:x.cps.toList[b]=c
  ·have hi:isAt x c b=true:=by
    unfold isAt
    rw[List.getElem?_eq_getElem hb,hc]
    simp
   rw[if_pos hi]
   have ih:=kj x c n (b+1) (b+1) (by omega) (Nat.le_refl _)
   simp only[StrLaws.partsFrom,List.map_cons]
   rw[ih,StrLaws.strSub_toList,ed]
   obtain⟨p,ps,e⟩:=sr c (x.cps.toList.drop (b+1))
   simp only[spl,if_pos hc,e,glue,Nat.sub_self,List.take_zero,List.nil_append,List.append_nil]
  ·have hi:isAt x c b=false:=by
    unfold isAt
    rw[List.getElem?_eq_getElem hb]
    exact decide_eq_false λz=>hc (Option.some.inj z)
   rw[if_neg (by rw[hi];exact Bool.false_ne_true)]
   have ih:=kj x c n a (b+1) (by omega) (by omega)
   rw[ih,ed]
   obtain⟨p,ps,e⟩:=sr c (x.cps.toList.drop (b+1))
   simp only[spl,if_neg hc,e,glue]
   have e2:(x.cps.toList.drop a).take (b+1 - a)=(x.cps.toList.drop a).take (b - a)++[x.cps.toList[b]]:=by
    rw[show b+1 - a=(b - a)+1 by omega,List.take_add_one,List.getElem?_drop,show a+(b - a)=b by omega,List.getElem?_eq_getElem hb]
    rfl
   rw[e2]
   simp
theorem wM {c:Nat}:∀ {l:List Nat},c∉l->spl c l=[l]
 | [],_=>rfl
 | a::l,h=>by
  have h1:¬ a=c:=λe=>h (by simp[e])
  have h2:c∉l:=λe=>h (List.mem_cons_of_mem _ e)
  unfold spl
  rw[if_neg h1,wM h2]
theorem yx {c:Nat}{r:List Nat}:∀ {l:List Nat},c∉l->spl c (l++c::r)=l::spl c r
 | [],_=>by simp[spl]
 | a::l,h=>by
  have h1:¬ a=c:=λe=>h (by simp[e])
  have h2:c∉l:=λe=>h (List.mem_cons_of_mem _ e)
  rw[List.cons_append]
  have e:=yx (r:=r) h2
  show (if a=c then []::spl c (l++c::r) else match spl c (l++c::r) with | p::ps=>(a::p)::ps | []=>[[a]])=_
  rw[if_neg h1,e]
def mkS (l:List Nat):Str:=⟨l.toArray⟩
theorem lr (x:Str):mkS x.cps.toList=x:=by
 unfold mkS
 simp
theorem blank_eq:(" " : Str)=⟨#[32]⟩:=by decide +kernel
theorem zQ (x:Str):(decide (x.length < (⟨#[32]⟩:Str).length)||decide (Builtin.Str.strKind x < Builtin.Str.strKind ⟨#[32]⟩))=true->x.length=0:=by
 intro h
 rw[Bool.or_eq_true] at h
 rcases h with h | h
 ·have h':=of_decide_eq_true h
  have:(⟨#[32]⟩:Str).length=1:=rfl
  omega
 ·exfalso
  have h':=of_decide_eq_true h
  have e:Builtin.Str.strKind ⟨#[32]⟩=Builtin.Str.strKind ⟨#[32]⟩:=rfl
  revert h'
  unfold Builtin.Str.strKind
  simp
  split
  ·simp
  ·split <;> simp
theorem pL (x:Str):Txt.split x (" " : Str)=(spl 32 x.cps.toList).map mkS:=by
 rw[blank_eq]
 have hl:x.cps.toList.length=x.length:=Array.length_toList
 have key:(StrLaws.partsFrom x 1 0 (Builtin.Str.occurrences x ⟨#[32]⟩ 0 x.length (x.length+1))).map (λp=>p.cps.toList)=spl 32 x.cps.toList:=by
  rw[HB]
  have h:=kj x 32 x.length 0 0 (by omega) (Nat.le_refl _)
  rw[h]
  obtain⟨p,ps,e⟩:=sr 32 x.cps.toList
  simp[glue,e]
 have key2:StrLaws.partsFrom x 1 0 (Builtin.Str.occurrences x ⟨#[32]⟩ 0 x.length (x.length+1))=(spl 32 x.cps.toList).map mkS:=by
  rw[← key,List.map_map]
  have:(mkS∘λ(p:Str)=>p.cps.toList)=id:=by
   funext p
   exact lr p
  rw[this,List.map_id]
 unfold Txt.split
 split
 ·rename_i h
  have h0:=zQ x h
  have:x.cps.toList=[]:=List.length_eq_zero_iff.mp (by omega)
  rw[this]
  simp only[spl,List.map_cons,List.map_nil]
  rw[← this,lr]
 ·split
  ·rename_i h2
   have e0:Builtin.Str.occurrences x ⟨#[32]⟩ 0 x.length (x.length+1)=[]:=List.isEmpty_iff.mp h2
   rw[← key2,e0]
   simp only[StrLaws.partsFrom]
   rw[StrLaws.sub_whole]
  ·rw[StrLaws.partsBetween_eq]
   exact key2
def dh (x:Str):Prop:=32∉x.cps.toList
theorem zR {x:Str}(h:dh x):Txt.split x (" " : Str)=[x]:=by
 rw[pL,wM h]
 simp[lr]
theorem sy {w r:Str}(h:dh w):Txt.split (w++(" " : Str)++r) (" " : Str)=w::Txt.split r (" " : Str):=by
 rw[pL,pL,blank_eq]
 have e:(w++(⟨#[32]⟩:Str)++r).cps.toList=w.cps.toList++32::r.cps.toList:=by
  rw[Str.cps_append,Str.cps_append]
  simp
 rw[e,yx h,List.map_cons,lr]
theorem lw:∀ {zs:List Str},zs≠[]->(∀ z∈zs,dh z)->Txt.split (Str.join (" " : Str) zs) (" " : Str)=zs
 | [],h,_=>absurd rfl h
 | [z],_,h=>zR (h z (by simp))
 | z::y::r,_,h=>by
  show Txt.split (z++(" " : Str)++Str.join (" " : Str) (y::r)) (" " : Str)=_
  rw[sy (h z (by simp)),lw (by simp) λx hx=>h x (List.mem_cons_of_mem _ hx)]
end My
namespace My
open PySem L2 MR
def bF (z:Str):List Str:=Txt.split z (" " : Str)
def aF (cut:List (List Str)):List Str:=tell ("carry" : Str) (cut.filter bW)
def pairsOf (cut:List (List Str)):List Str:=tell ("one" : Str) (cut.filter (cZ (inS (aF cut))))
def qi (cut:List (List Str)):List (Str×PV):=[("carrying",.dK (sdP (aF cut))),("pairs",.dK (sdP (pairsOf cut))),("longs",.dK (sdP (tell ("long" : Str) cut))),("eithers",.dK (sdP (tell ("either" : Str) cut))),
 ("beginnings",.dK (sdP (tell ("begin" : Str) cut))),("splittings",.dK (sdP (tell ("split" : Str) cut))),("running",.str (qg cut)),("likes",.dT (sdT (likes cut)))]
theorem Gf (a:PV):List.lookup ("carrying" : Str) (pF "carrying" a [])=some a:=rfl
theorem vH (a b:PV):List.lookup ("carrying" : Str) (pF "pairs" b (pF "carrying" a []))=some a:=rfl
theorem vI (a b:PV):List.lookup ("pairs" : Str) (pF "pairs" b (pF "carrying" a []))=some b:=rfl
theorem Kw {C:Str->Bool}{cs r:List Str}(h:aR C cs (("run" : Str)::r)=true):r≠[]:=by
 intro e
 subst e
 have:aR C cs [("run" : Str)]=false:=by
  dsimp only [aR]
  rw[if_neg (by decide +kernel),if_neg (by decide +kernel),if_neg (by decide +kernel),if_neg (by decide +kernel),if_pos rfl]
  rfl
 rw[this] at h;cases h
theorem EY {C:Str->Bool}{cs r:List Str}(h:aR C cs (("alike" : Str)::r)=true):2<=r.length:=by
 dsimp only [aR] at h
 rw[if_neg (by decide +kernel),if_neg (by decide +kernel),if_neg (by decide +kernel),if_neg (by decide +kernel),if_neg (by decide +kernel)] at h
 simp[bG] at h
 omega
theorem eF (p:List Str->Bool):∀ rs:List (List Str),total (rs.filter p)<=total rs
 | []=>Nat.le_refl _
 | ws::rs=>by
  have ih:=eF p rs
  unfold total at *
  rw[List.filter_cons]
  split <;> simp <;> omega
theorem nR (kind:Str) (rs:List (List Str)):(tell kind rs).length<=total rs:=by
 have:=uP (kind:=kind) rs []
 simpa [tell] using this
structure RowsOk (cut:List (List Str)):Prop where
 n:cut.length<=1000
 few:∀ ws∈cut,ws≠[]/\Few ws
 tot:total cut<=100000
 good:∀ ws∈cut,aR (inS (aF cut)) (aF cut++pairsOf cut) ws=true
theorem yz {zs:List Str}(hz:∀ z∈zs,z.length<=1000) (R:RowsOk (zs.map bF)):cj [.lst (zs.map .str)]=some (qi (zs.map bF)):=by
 have c1:bO [none] (gN 0) bJ dM (zs.map .str)=some (bx (zs.map bF)):=by
  have h:=b_ (env:=[none]) (g:=gN 0) (f:=dM) PV.str (λz=>bj (bF z)) zs λy hy=>⟨_,rfl,by
   have h1:y.length<=1000000:=by have:=hz y hy;omega
   have h2:¬ (Str.ofString " ").length=0:=by decide +kernel
   simp[dM,h1,h2,bj,bF]⟩
  rw[h]
  unfold bx
  rw[List.map_map]
  rfl
 have hlz:zs.length<=1000000:=by have:=R.n;rw[List.length_map] at this;omega
 generalize hcut:zs.map bF=cut at *
 have hlc:(bx cut).length<=1000000:=by unfold bx;rw[List.length_map];have:=R.n;omega
 have c2:bO [none] (gN 0) fU fQ (bx cut)=some (bx (cut.filter bW)):=
  d9 bj bj bW cut λws hws=>by
   obtain⟨hne,hf⟩:=R.few ws hws
   cases ws with
   | nil=>exact absurd rfl hne
   | cons w r=>
    have:=qW hf
    exact⟨_,rfl,by simp[fU,bj] at this ⊢;simp[this],λ_=>by simp[fQ]⟩
 have ne:∀ ws∈cut,ws≠[]:=λws h=>(R.few ws h).1
 have nef:∀ p:List Str->Bool,∀ ws∈cut.filter p,ws≠[]:=λp ws h=>ne ws (List.mem_filter.mp h).1
 have tf:∀ p:List Str->Bool,total (cut.filter p) < 1000000:=λp=>by have:=eF p cut;have:=R.tot;omega
 have t0:total cut < 1000000:=by have:=R.tot;omega
 have k1:aV [.str "carry",.lst (bx (cut.filter bW))]=some (.dK (sdP (aF cut))):=jg (nef _) (tf _)
 have hC:(aF cut).length<=100000:=by have h1:=nR ("carry" : Str) (cut.filter bW);have h2:=eF bW cut;have:=R.tot;unfold aF;omega
 have hP:(pairsOf cut).length<=100000:=by have h1:=nR ("one" : Str) (cut.filter (cZ (inS (aF cut))));have h2:=eF (cZ (inS (aF cut))) cut;have:=R.tot;unfold pairsOf;omega
 have c3:bO [none,some (.obj 0 (pF "carrying" (.dK (sdP (aF cut))) []))] (gN 0) fX fW (bx cut)=some (bx (cut.filter (cZ (inS (aF cut))))):=
  d9 bj bj (cZ (inS (aF cut))) cut λws hws=>by
   obtain⟨hne,hf⟩:=R.few ws hws
   cases ws with
   | nil=>exact absurd rfl hne
   | cons w r=>
    have:=wG (ks:=aF cut) hf
    exact⟨_,rfl,by simp[fX,bj,Gf] at this ⊢;simp[this],λ_=>by simp[fW]⟩
 have k2:aV [.str "one",.lst (bx (cut.filter (cZ (inS (aF cut)))))]=some (.dK (sdP (pairsOf cut))):=jg (nef _) (tf _)
 have l6:∀ q:PV,bU (gT [3,4]) [3,4] bR (eO 0 (bx cut)) [some (.obj 0 (pF "pairs" (.dK (sdP (pairsOf cut))) (pF "carrying" (.dK (sdP (aF cut))) []))),some q,some (.lst (bx cut)),none,none]=
   some (.nx [some (.obj 0 (pF "pairs" (.dK (sdP (pairsOf cut))) (pF "carrying" (.dK (sdP (aF cut))) []))),some q,some (.lst (bx cut)),none,none]):=λq=>by
  unfold bx
  rw[uM]
  refine rO _ _ λy hy=>?_
  have hm:y.1∈cut:=by
   have:=List.mem_zipIdx' hy
   rw[this.2]
   exact List.getElem_mem _
  obtain⟨hne,hf⟩:=R.few _ hm
  have hg:=R.good _ hm
  obtain⟨ws,i⟩:=y
  cases ws with
  | nil=>exact absurd rfl hne
  | cons w r=>
   have:=yu (ks:=aF cut) (ps:=pairsOf cut) hf hC hP
   rw[hg] at this
   simp only[List.map_cons] at this
   exact⟨_,_,rfl,by simp[bR,bj,vH,vI,this];rfl,by simp⟩
 have k3:aV [.str "long",.lst (bx cut)]=some (.dK (sdP (tell ("long" : Str) cut))):=jg ne t0
 have k4:aV [.str "either",.lst (bx cut)]=some (.dK (sdP (tell ("either" : Str) cut))):=jg ne t0
 have k5:aV [.str "begin",.lst (bx cut)]=some (.dK (sdP (tell ("begin" : Str) cut))):=jg ne t0
 have k6:aV [.str "split",.lst (bx cut)]=some (.dK (sdP (tell ("split" : Str) cut))):=jg ne t0
 have k7:gY [.lst (bx cut)]=some (.str (qg cut)):=Kv ne λr h=>Kw (R.good _ h)
 have k8:eV [.lst (bx cut)]=some (.dT (sdT (likes cut))):=Ez ne (λr h=>EY (R.good _ h)) (by have:=R.n;omega)
 have m1:∀ a:PV,(pF "carrying" a []).length < 1000:=λa=>by show 1 < 1000;decide
 have m2:∀ a b:PV,(pF "pairs" b (pF "carrying" a [])).length < 1000:=λa b=>by show 2 < 1000;decide
 have m3:∀ a b c:PV,(pF "longs" c (pF "pairs" b (pF "carrying" a []))).length < 1000:=λa b c=>by show 3 < 1000;decide
 have m4:∀ a b c d:PV,(pF "eithers" d (pF "longs" c (pF "pairs" b (pF "carrying" a [])))).length < 1000:=λa b c d=>by show 4 < 1000;decide
 have m5:∀ a b c d e:PV,(pF "beginnings" e (pF "eithers" d (pF "longs" c (pF "pairs" b (pF "carrying" a []))))).length < 1000:=λa b c d e=>by show 5 < 1000;decide
 have m6:∀ a b c d e f:PV,(pF "splittings" f (pF "beginnings" e (pF "eithers" d (pF "longs" c (pF "pairs" b (pF "carrying" a [])))))).length < 1000:=λa b c d e f=>by show 6 < 1000;decide
 have m7:∀ a b c d e f g:PV,(pF "running" g (pF "splittings" f (pF "beginnings" e (pF "eithers" d (pF "longs" c (pF "pairs" b (pF "carrying" a []))))))).length < 1000:=λa b c d e f g=>by show 7 < 1000;decide
 have fin:∀ a b c d e f g h:PV,pF "likes" h (pF "running" g (pF "splittings" f (pF "beginnings" e (pF "eithers" d (pF "longs" c (pF "pairs" b (pF "carrying" a [])))))))=([("carrying",a),("pairs",b),("longs",c),("eithers",d),("beginnings",e),("splittings",f),("running",g),("likes",h)]:List (Str×PV)):=λa b c d e f g h=>rfl
 unfold qi
 simp[cj,jz,c1,hlz,c2,hlc,k1,m1,c3,k2,m2,l6,k3,m3,k4,m4,k5,m5,k6,m6,k7,m7,k8,fin]
end My
namespace My
open PySem L2 MR
def cell (ns:List Int) (k:Nat):Int:=ns.getD k 0
theorem jM (ns:List Int) (k:Nat):aG [.frz (ns.map PV.int),.int k]=some (.int (cell ns k)):=by
 by_cases h:k < ns.length
 ·have h1:atI (ns.map PV.int) (k:Int)=some (.int ns[k]):=bZ (by simp[h])
  simp[aG,jt,h,h1,cell]
 ·simp[aG,jt,h,cell]
def stp (c:Int):Int:=[1,3,5,7,9,11,15,17].getD (c / 26 % 8).toNat 0
def ltn (c k:Int):Nat:=97+((c+k*stp c) % 26).toNat
def letter (c k:Int):Str:=⟨#[ltn c k]⟩
theorem zT (a:Int):0<=a % 8/\a % 8 < 8/\(a % 8).toNat < 8:=⟨by omega,by omega,by omega⟩
theorem HD:∀ n:Fin 8,∃ s∈[1,3,5,7,9,11,15,17],([1,3,5,7,9,11,15,17]:List Int).getD n.val 0=((s:Nat):Int):=by decide +kernel
theorem yC (c:Int):∃ s:Nat,s∈[1,3,5,7,9,11,15,17]/\stp c=(s:Int):=HD ⟨_,(zT (c / 26)).2.2⟩
theorem Ky (c:Int):atI [PV.int 1,.int 3,.int 5,.int 7,.int 9,.int 11,.int 15,.int 17] (c / 26 % 8)=some (.int (stp c)):=by
 rw[p6 (zT _).1 (zT _).2.1]
 have h:=(zT (c / 26)).2.2
 unfold stp
 generalize (c / 26 % 8).toNat=n at h
 have e:([PV.int 1,.int 3,.int 5,.int 7,.int 9,.int 11,.int 15,.int 17]:List PV)=([1,3,5,7,9,11,15,17]:List Int).map .int:=rfl
 rw[e,List.getElem?_map,List.getD_eq_getElem?_getD,List.getElem?_eq_getElem (l:=([1,3,5,7,9,11,15,17]:List Int)) h]
 rfl
theorem Kz (c:Int):smI (stp c)=true:=by
 obtain⟨s,hs,e⟩:=yC c
 have h17:∀ s∈[1,3,5,7,9,11,15,17],s<=17:=by decide
 have:=h17 s hs
 rw[e]
 exact o8 (by omega) (by omega)
theorem KC {i:Int}(h0:0<=i) (h1:i < 26):atI (LET:Str).cps.toList i=some (97+i.toNat):=by
 have hl:(LET:Str).cps.toList.length=26:=by decide +kernel
 rw[p6 h0 (by rw[hl];exact h1)]
 have h:i.toNat < 26:=by omega
 generalize i.toNat=n at h
 have key:∀ n:Fin 26,(LET:Str).cps.toList[n.val]?=some (97+n.val):=by decide +kernel
 exact key ⟨n,h⟩
theorem mV (c k:Int):aY [.int c,.int k]=some (.str (letter c k)):=by
 have h1:=Ky c
 have hs:=Kz c
 have h2:atI (Str.ofString "abcdefghijklmnopqrstuvwxyz").cps.toList ((c+k*stp c) % 26)=some (ltn c k):=KC (by omega) (by omega)
 have h3:(Str.ofString "abcdefghijklmnopqrstuvwxyz").length<=1000000:=by decide +kernel
 simp[aY,mQ,h1,hs,h2,h3,letter]
theorem zU (c k:Int):(letter c k).length=1:=rfl
theorem gj (c k:Int):97<=ltn c k/\ltn c k < 123:=by unfold ltn;omega
theorem HF:∀ s∈[1,3,5,7,9,11,15,17],∀ j k:Fin 26,(j.val*s) % 26=(k.val*s) % 26->j=k:=by decide +kernel
theorem wN {c a b:Int}(h:(c+a) % 26=(c+b) % 26):a % 26=b % 26:=by omega
theorem Cw {a b:Nat}(h:(a:Int) % 26=(b:Int) % 26):a % 26=b % 26:=by omega
theorem Nk {a b:Int}(h:97+(a % 26).toNat=97+(b % 26).toNat):a % 26=b % 26:=by omega
theorem HH {c j k:Int}(h0:0<=j) (h1:j < 26) (h2:0<=k) (h3:k < 26) (h:ltn c j=ltn c k):j=k:=by
 unfold ltn at h
 have h':=wN (Nk h)
 obtain⟨s,hs,e⟩:=yC c
 rw[e] at h'
 obtain⟨a,rfl⟩:=Int.eq_ofNat_of_zero_le h0
 obtain⟨b,rfl⟩:=Int.eq_ofNat_of_zero_le h2
 have h5:=HF s hs ⟨a,Int.ofNat_lt.mp h1⟩ ⟨b,Int.ofNat_lt.mp h3⟩ (Cw (by exact_mod_cast h'))
 exact congrArg Int.ofNat (Fin.mk.inj h5)
theorem nT {c j k:Int}(h0:0<=j) (h1:j < 26) (h2:0<=k) (h3:k < 26) (h:letter c j=letter c k):j=k:=by
 refine HH (c:=c) h0 h1 h2 h3 ?_
 unfold letter at h
 have:=congrArg (λs:Str=>s.cps.toList) h
 simpa using this
theorem km {n:Nat}(h:97<=n) (h':n < 123):isLetter ⟨#[n]⟩=true:=by
 have key:∀ m:Fin 26,isLetter ⟨#[97+m.val]⟩=true:=by decide +kernel
 have:=key ⟨n - 97,by omega⟩
 rwa [show 97+(n - 97)=n by omega] at this
theorem jy (c k:Int):isLetter (letter c k)=true:=km (gj c k).1 (gj c k).2
def mx (c:Int) (k:Nat):Int:=(c % 1000003*(48271+15838*k*k)+69621*k) % 2147483647
theorem Nm (c:Int) (k:Nat):0<=mx c k:=by unfold mx;omega
theorem sE (c:Int){k:Nat}(h:k<=1000):dW [.int c,.int k]=some (.int (mx c k)):=by
 have h1:smI 15838=true:=o8 (by decide) (by decide)
 have h2:smI (k:Int)=true:=o8 (by omega) (by omega)
 have h3:smI (c % 1000003)=true:=o8 (by omega) (by omega)
 have h4:smI 69621=true:=o8 (by decide) (by decide)
 simp[dW,qI,h1,h2,h3,h4,mx]
def dg (n:Int) (k:Nat):Int:=n / ([4,8,28,128].getD k 1) % ([2,5].getD (n / 3 % 2).toNat 1)
theorem E_ (n:Int) (k:Nat):0<=dg n k/\dg n k < 5:=by
 unfold dg
 have h:(n / 3 % 2).toNat < 2:=by omega
 generalize (n / 3 % 2).toNat=m at h
 match m,h with
 | 0,_=>constructor <;> simp <;> omega
 | 1,_=>constructor <;> simp <;> omega
def jN (b:Int) (many:Int) (n:Int):Str:=(List.range (2+n % 3).toNat).foldl (λs k=>s++letter b (many+dg n k)) ⟨#[]⟩
theorem uU (b many n:Int):∀ (l:List Nat) (s:Str),(l.foldl (λs k=>s++letter b (many+dg n k)) s).cps.toList=s.cps.toList++l.map λk=>ltn b (many+dg n k)
 | [],s=>by simp
 | k::l,s=>by
  rw[List.foldl_cons,uU b many n l,List.map_cons]
  have:(s++letter b (many+dg n k)).cps.toList=s.cps.toList++[ltn b (many+dg n k)]:=by
   rw[Str.cps_append]
   simp[letter]
  rw[this];simp
theorem nU (b many n:Int):(jN b many n).cps.toList=(List.range (2+n % 3).toNat).map λk=>ltn b (many+dg n k):=by
 unfold jN
 rw[uU]
 simp
theorem qZ (b many n:Int):(jN b many n).length=(2+n % 3).toNat:=by
 have h:=congrArg List.length (nU b many n)
 rw[Array.length_toList,List.length_map,List.length_range] at h
 exact h
theorem yD (b many n:Int):dI [.int b,.int many,.int n]=some (.str (jN b many n)):=by
 have hr:rgI (2+n % 3)=true:=ww (by omega) (by omega)
 have gen:∀ (l:List Nat) (s:Str),(∀ k∈l,k < 4)->s.length+l.length<=1000->bU (gN 4) [4] iC (l.map λk=>PV.int (k:Nat)) [some (.int b),some (.int many),some (.int n),some (.str s),none]=
   some (.nx [some (.int b),some (.int many),some (.int n),some (.str (l.foldl (λs k=>s++letter b (many+dg n k)) s)),none]):=by
  intro l
  induction l with
  | nil=>intro s _ _;rfl
  | cons k l ih=>
   intro s hk hl
   have hk4:k < 4:=hk k List.mem_cons_self
   have e1:atI [PV.int 4,.int 8,.int 28,.int 128] (k:Int)=some (.int ([4,8,28,128].getD k 1)):=by
    match k,hk4 with
    | 0,_=>rfl
    | 1,_=>rfl
    | 2,_=>rfl
    | 3,_=>rfl
   have e2:0 < ([4,8,28,128]:List Int).getD k 1/\([4,8,28,128]:List Int).getD k 1 < 1073741824:=by
    match k,hk4 with
    | 0,_=>decide
    | 1,_=>decide
    | 2,_=>decide
    | 3,_=>decide
   have e3:atI [PV.int 2,.int 5] (n / 3 % 2)=some (.int ([2,5].getD (n / 3 % 2).toNat 1)):=by
    rw[p6 (by omega) (by show n / 3 % 2 < 2;omega)]
    have h:(n / 3 % 2).toNat < 2:=by omega
    generalize (n / 3 % 2).toNat=m at h
    match m,h with
    | 0,_=>rfl
    | 1,_=>rfl
   have e4:0 < ([2,5]:List Int).getD (n / 3 % 2).toNat 1:=by
    have h:(n / 3 % 2).toNat < 2:=by omega
    generalize (n / 3 % 2).toNat=m at h
    match m,h with
    | 0,_=>decide
    | 1,_=>decide
   have e5:=mV b (many+dg n k)
   have e6:s.length+(letter b (many+dg n k)).length<=1000000:=by rw[zU];simp at hl;omega
   have ih':=ih (s++letter b (many+dg n k)) (λj hj=>hk j (List.mem_cons_of_mem _ hj)) (by
    have:(s++letter b (many+dg n k)).length=s.length+1:=by
     unfold Str.length
     rw[Str.cps_append]
     simp[letter]
    rw[this];simp at hl;omega)
   rw[List.foldl_cons,← ih']
   have ed:dg n k=n / ([4,8,28,128].getD k 1) % ([2,5].getD (n / 3 % 2).toNat 1):=rfl
   generalize ([4,8,28,128]:List Int).getD k 1=u at e1 e2 ed
   generalize ([2,5]:List Int).getD (n / 3 % 2).toNat 1=v at e3 e4 ed
   rw[ed] at e5 e6 ⊢
   simp[bU,iC,e1,e2,e3,e4,e5,e6]
 have hl:(List.range (2+n % 3).toNat).length=(2+n % 3).toNat:=List.length_range
 have g:=gen (List.range (2+n % 3).toNat) ⟨#[]⟩ (λk hk=>by have:=List.mem_range.mp hk;omega) (by rw[hl];show 0+_<=1000;omega)
 have er:dB 0 (2+n % 3)=(List.range (2+n % 3).toNat).map λk=>PV.int (k:Nat):=by
  unfold dB
  simp
 have ee:(Str.ofString "")=⟨#[]⟩:=by decide +kernel
 simp[dI,l_,hr,er,ee,g,jN]
end My
namespace My
open PySem L2 MR
section
variable {α:Type}(a b c d e f g h:α) (l:List α)
@[simp] theorem at0:atI (a::l) 0=some a:=bZ (k:=0) rfl
@[simp] theorem at1:atI (a::b::l) 1=some b:=bZ (k:=1) rfl
@[simp] theorem at2:atI (a::b::c::l) 2=some c:=bZ (k:=2) rfl
@[simp] theorem at3:atI (a::b::c::d::l) 3=some d:=bZ (k:=3) rfl
@[simp] theorem at4:atI (a::b::c::d::e::l) 4=some e:=bZ (k:=4) rfl
@[simp] theorem at5:atI (a::b::c::d::e::f::l) 5=some f:=bZ (k:=5) rfl
@[simp] theorem at6:atI (a::b::c::d::e::f::g::l) 6=some g:=bZ (k:=6) rfl
@[simp] theorem at7:atI (a::b::c::d::e::f::g::h::l) 7=some h:=bZ (k:=7) rfl
end
@[simp] noncomputable def nxt (ds:List Nat):Option Out->Option MR.Env
 | some (.nx e)=>some (clr ds e)
 | some (.ct e)=>some (clr ds e)
 | _=>none
noncomputable def turn (g:PV->MR.Env->Option MR.Env) (ds:List Nat) (body:MR.Env->Option Out) (x:PV) (env:MR.Env):Option MR.Env:=(g x env).bind λe=>nxt ds (body e)
theorem mW (g:PV->MR.Env->Option MR.Env) (ds:List Nat) (body:MR.Env->Option Out) (x:PV) (env:MR.Env):turn g ds body x env=(g x env).bind λe=>nxt ds (body e):=id rfl
theorem fu {g:PV->MR.Env->Option MR.Env}{ds:List Nat}{body:MR.Env->Option Out}{x:PV}{xs:List PV}{env env':MR.Env}(h:turn g ds body x env=some env'):bU g ds body (x::xs) env=bU g ds body xs env':=by
 unfold turn at h
 obtain⟨e,h1,h2⟩:=aJ h
 unfold nxt at h2
 split at h2
 ·rename_i q;cases h2;simp[bU,h1,q]
 ·rename_i q;cases h2;simp[bU,h1,q]
 ·cases h2
theorem uV {α S:Type}{g:PV->MR.Env->Option MR.Env}{ds:List Nat}{body:MR.Env->Option Out}(c:α->PV) (E:S->MR.Env) (step:S->α->S) (sz:S->Nat) (wt:α->Nat) (B:Nat) (I:S->Prop):∀ (ys:List α) (s:S),I s->sz s+(ys.map wt).sum<=B->
  (∀ y∈ys,∀ s,I s->sz s+wt y<=B->sz (step s y)<=sz s+wt y/\I (step s y)/\turn g ds body (c y) (E s)=some (E (step s y)))->
  bU g ds body (ys.map c) (E s)=some (.nx (E (ys.foldl step s)))
 | [],s,_,_,_=>rfl
 | y::ys,s,i,hb,hh=>by
  simp at hb
  obtain⟨h0,hI,h1⟩:=hh y List.mem_cons_self s i (by omega)
  have ih:=uV c E step sz wt B I ys (step s y) hI (by omega) λz hz=>hh z (List.mem_cons_of_mem _ hz)
  rw[List.map_cons,fu h1,ih,List.foldl_cons]
theorem wO {α:Type}:∀ ys:List α,(ys.map λ_=>1).sum=ys.length
 | []=>rfl
 | _::ys=>by simp[wO ys];omega
def pick (l:List Str) (i:Int):Str:=l.getD i.toNat ⟨#[]⟩
theorem qj {l:List Str}{i:Int}(h0:0<=i) (h1:i < l.length):atI (l.map PV.str) i=some (.str (pick l i)):=by
 have h:i.toNat < l.length:=by omega
 rw[p6 h0 (by rw[List.length_map];exact h1),List.getElem?_map]
 unfold pick
 rw[List.getD_eq_getElem?_getD,List.getElem?_eq_getElem h]
 rfl
theorem jO {l:List Str}{i:Int}(h0:0<=i) (h1:i < l.length):pick l i∈l:=by
 have h:i.toNat < l.length:=by omega
 unfold pick
 rw[List.getD_eq_getElem?_getD,List.getElem?_eq_getElem h]
 exact List.getElem_mem h
theorem jb (n:Nat):dB 0 (n:Int)=(List.range n).map λk=>PV.int (k:Nat):=by
 unfold dB
 simp
theorem q8 (n:Nat):(dB 0 (n:Int)).length=n:=by rw[jb];simp
structure Rc where
 carriers:List Str
 pairs:List Str
 longs:List Str
 eithers:List Str
 begins:List Str
 splits:List Str
 run:Str
 base:Int
 many:Nat
def aW (R:Rc):PV:=.tup [bj R.carriers,bj R.pairs,bj R.longs,bj R.eithers,bj R.begins,bj R.splits,.str R.run,.int R.base]
structure Rc.Good (R:Rc):Prop where
 m1:1<=R.many
 m7:R.many<=7
 car:R.carriers=(List.range R.many).map λk=>letter R.base (k:Nat)
 prs:∀ w∈R.pairs,∃ a∈R.carriers,∃ b∈R.carriers,w=a++b
 lng:∀ w∈R.longs,w∈R.carriers++R.pairs
 eth:∀ w∈R.eithers,w∈R.carriers++R.pairs
 beg:∀ w∈R.begins,∃ n,w=jN R.base R.many n
 spl:∀ w∈R.splits,∃ n,w=jN R.base R.many n
 run:R.run=("" : Str)\/R.run=("never" : Str)\/R.run=("may" : Str)\/R.run=("must" : Str)
 l1:R.pairs.length<=3
 l2:R.longs.length<=10
 l3:R.eithers.length<=10
 l4:R.begins.length<=4
 l5:R.splits.length<=3
theorem pM {k:Nat}(h:k<=1000):rgI (k:Int)=true:=ww (by omega) (by omega)
theorem Cy (a:Int) (m:Nat) (h:0 < m):∃ k:Nat,a % (m:Int)=(k:Int)/\k < m:=⟨(a % (m:Int)).toNat,by have:=Int.emod_nonneg a (b:=(m:Int)) (by omega);omega,by have:=Int.emod_lt_of_pos a (b:=(m:Int)) (by omega);have:=Int.emod_nonneg a (b:=(m:Int)) (by omega);omega⟩
theorem HJ (a:Int):∃ k:Nat,1+a % 7=(k:Int)/\1<=k/\k<=7:=⟨(1+a % 7).toNat,by omega,by omega,by omega⟩
theorem wQ (a:Int):∃ k:Nat,a % 4=(k:Int)/\k<=3:=⟨(a % 4).toNat,by omega,by omega⟩
theorem Fb (a:Int):∃ k:Nat,a % 5=(k:Int)/\k<=4:=⟨(a % 5).toNat,by omega,by omega⟩
theorem qp (a:Int):0<=a % 4/\a % 4 < 4:=⟨by omega,by omega⟩
theorem jP {a b:Nat}(h:a<=b) (hb:b<=1000):a<=1000000:=by omega
theorem KD {a b:Nat}(h:a+1<=b) (hb:b<=1000):a < 1000000:=by omega
theorem Fd {m:Nat}(h:1<=m):(0:Int) < (m:Int):=by omega
theorem uo (k:Nat):(0:Int)<=(k:Int):=Int.natCast_nonneg k
theorem uq {k m n:Nat}(h:k < m+n):(k:Int) < ((m+n:Nat):Int):=Int.ofNat_lt.mpr h
theorem KH {a b:Nat}(h:a<=7) (h':b<=3):a+b<=10:=by omega
theorem qu {k n:Nat}(h:k < n) (h':n<=10):k<=1000:=by omega
theorem Cz (ns:List Int) (a:Nat):∃ R:Rc,R.Good/\cT [.frz (ns.map PV.int),.int a]=some (aW R):=by
 generalize hx:(λk:Nat=>cell ns (a+k))=x
 have ex:∀ k,cell ns (a+k)=x k:=λk=>by rw[← hx]
 have c1:bO [none,some (.frz (ns.map PV.int)),some (.int a)] (gN 0) bJ gB (dB 0 6)=some [.int (x 0),.int (x 1),.int (x 2),.int (x 3),.int (x 4),.int (x 5)]:=by
  have h:=b_ (env:=[none,some (.frz (ns.map PV.int)),some (.int (a:Int))]) (g:=gN 0) (f:=gB) (λk:Nat=>PV.int (k:Nat)) (λk=>.int (x k)) (List.range 6) λk hk=>⟨_,rfl,by
   have h2:=jM ns (a+k)
   rw[Int.natCast_add,ex] at h2
   simp[gB,h2]⟩
  rw[show (6:Int)=((6:Nat):Int) from rfl,jb]
  exact h
 have r6:rgI 6=true:=ww (by decide) (by decide)
 have q6:(dB 0 6).length<=1000000:=by decide
 obtain⟨many,hmany,hm1,hm7⟩:=HJ (x 1)
 have hmp:=Fd hm1
 have hmn:(many:Int)≠0:=Int.ne_of_gt hmp
 have rm:rgI (many:Int)=true:=pM (Nat.le_trans hm7 (by decide))
 have qm:(dB 0 (many:Int)).length<=1000000:=by rw[q8];exact jP hm7 (by decide)
 generalize hcar:(List.range many).map (λk=>letter (x 0) (k:Nat))=car
 have lcar:car.length=many:=by rw[← hcar];simp
 have c2:bO [none,some (.int (x 0))] (gN 0) bJ gC (dB 0 (many:Int))=some (car.map .str):=by
  have h:=b_ (env:=[none,some (.int (x 0))]) (g:=gN 0) (f:=gC) (λk:Nat=>PV.int (k:Nat)) (λk=>.str (letter (x 0) (k:Nat))) (List.range many) λk hk=>⟨_,rfl,by
   simp[gC,mV]⟩
  rw[jb,h,← hcar,List.map_map]
  rfl
 obtain⟨np,hnp,hnp3⟩:=wQ (x 1 / 7)
 have rp:rgI (np:Int)=true:=pM (Nat.le_trans hnp3 (by decide))
 have hmp10:=KH hm7 hnp3
 have carl:∀ i:Int,0<=i->i < many->(pick car i).length=1:=λi h0 h1=>by
  have:=jO (l:=car) h0 (by rw[lcar];exact h1)
  rw[← hcar] at this
  obtain⟨k,_,e⟩:=List.mem_map.mp this
  rw[hcar] at e
  rw[← e];rfl
 generalize hpr:(λk:Nat=>pick car (mx (x 2) k % many)++pick car (mx (x 2) k / 8 % many))=pr
 have epr:∀ k:Nat,pr k=pick car (mx (x 2) k % many)++pick car (mx (x 2) k / 8 % many):=λk=>by rw[← hpr]
 have l3:bU (gN 7) [7,8] gF (dB 0 (np:Int)) [some (.frz (ns.map PV.int)),some (.int a),some (.lst [.int (x 0),.int (x 1),.int (x 2),.int (x 3),.int (x 4),.int (x 5)]),some (.int (x 0)),some (.int many),some (.lst (car.map .str)),some (.lst []),none,none,none,none,none,none,none,none,none]=
   some (.nx [some (.frz (ns.map PV.int)),some (.int a),some (.lst [.int (x 0),.int (x 1),.int (x 2),.int (x 3),.int (x 4),.int (x 5)]),some (.int (x 0)),some (.int many),some (.lst (car.map .str)),some (.lst (((List.range np).map pr).map .str)),none,none,none,none,none,none,none,none,none]):=by
  rw[jb]
  have h:=uV (g:=gN 7) (ds:=[7,8]) (body:=gF) (λk:Nat=>PV.int (k:Nat)) (λs:List Str=>[some (.frz (ns.map PV.int)),some (.int a),some (.lst [.int (x 0),.int (x 1),.int (x 2),.int (x 3),.int (x 4),.int (x 5)]),some (.int (x 0)),some (.int many),some (.lst (car.map .str)),some (.lst (s.map .str)),none,none,none,none,none,none,none,none,none])
   (λs k=>s++[pr k]) List.length (λ_=>1) 1000 (λ_=>True) (List.range np) [] trivial (by rw[wO,List.length_range,List.length_nil,Nat.zero_add];exact Nat.le_trans hnp3 (by decide)) (λk hk s _ hb=>by
    have hk2:=List.mem_range.mp hk
    refine⟨by simp,trivial,?_⟩
    have e1:=sE (x 2) (k:=k) (qu hk2 (Nat.le_trans hnp3 (by decide)))
    have e2:=Nm (x 2) k
    have e3:(0:Int) < many:=hmp
    have e4:=qj (l:=car) (i:=mx (x 2) k % many) (Int.emod_nonneg _ hmn) (by rw[lcar];exact Int.emod_lt_of_pos _ hmp)
    have e5:=qj (l:=car) (i:=mx (x 2) k / 8 % many) (Int.emod_nonneg _ hmn) (by rw[lcar];exact Int.emod_lt_of_pos _ hmp)
    have e6:=carl (mx (x 2) k % many) (Int.emod_nonneg _ hmn) (Int.emod_lt_of_pos _ hmp)
    have e7:=carl (mx (x 2) k / 8 % many) (Int.emod_nonneg _ hmn) (Int.emod_lt_of_pos _ hmp)
    have e8:s.length < 1000000:=KD hb (by decide)
    have e9:0 < many:=hm1
    simp[mW,gF,e1,e3,e4,e5,e6,e7,e8,e9,epr])
  have hf:∀ (l:List Nat) (s:List Str),l.foldl (λs k=>s++[pr k]) s=s++l.map pr:=by
   intro l
   induction l with
   | nil=>intro s;simp
   | cons k l ih=>intro s;rw[List.foldl_cons,ih];simp
  rw[hf,List.nil_append] at h
  exact h
 generalize hprs:(List.range np).map pr=prs at l3
 have lprs:prs.length=np:=by rw[← hprs];simp
 have rt:rgI ((many:Int)+np)=true:=by rw[← Int.natCast_add];exact pM (Nat.le_trans hmp10 (by decide))
 have ert:dB 0 ((many:Int)+np)=(List.range (many+np)).map λk=>PV.int (k:Nat):=by
  rw[← Int.natCast_add,jb]
 have c4:bO [none,some (.lst [.int (x 0),.int (x 1),.int (x 2),.int (x 3),.int (x 4),.int (x 5)])] (gN 0) bJ iQ ((List.range (many+np)).map λk=>PV.int (k:Nat))=some ((List.range (many+np)).map λk=>.int (mx (x 3) k % 4)):=
  b_ _ _ _ λk hk=>⟨_,rfl,by
   have:=List.mem_range.mp hk
   have e1:=sE (x 3) (k:=k) (qu this hmp10)
   simp[iQ,e1]⟩
 have qt:((List.range (many+np)).map λk=>PV.int (k:Nat)).length<=1000000:=by rw[List.length_map,List.length_range];exact jP hmp10 (by decide)
 generalize hsm:car++prs=sm
 have lsm:sm.length=many+np:=by rw[← hsm,List.length_append,lcar,lprs]
 have esm:car.map PV.str++prs.map PV.str=sm.map PV.str:=by rw[← hsm,List.map_append]
 have ql:car.length+prs.length<=1000000:=by rw[lcar,lprs];exact jP hmp10 (by decide)
 have esz:((sm.map PV.str).length:Int)=(many:Int)+np:=by rw[List.length_map,lsm,Int.natCast_add]
 have watI:∀ k:Nat,k < many+np->atI ((List.range (many+np)).map λk=>PV.int (mx (x 3) k % 4)) (k:Int)=some (.int (mx (x 3) k % 4)):=λk hk=>bZ (by simp[hk])
 have satI:∀ k:Nat,k < many+np->atI (sm.map PV.str) (k:Int)=some (.str (pick sm k)):=λk hk=>qj (uo k) (by rw[lsm];exact uq hk)
 have c5:bO [none,some (.lst (sm.map .str)),some (.lst ((List.range (many+np)).map λk=>PV.int (mx (x 3) k % 4)))] (gN 0) iT iR ((List.range (many+np)).map λk=>PV.int (k:Nat))=
   some (((List.range (many+np)).filter λk=>(1 == mx (x 3) k % 4||3 == mx (x 3) k % 4)).map λ(k:Nat)=>PV.str (pick sm k)):=
  d9 _ _ _ _ λk hk=>⟨_,rfl,by
   have h1:=watI k (List.mem_range.mp hk)
   simp[iT,h1,inP,eqF],λ_=>by
   have h1:=satI k (List.mem_range.mp hk)
   simp[iR,h1]⟩
 have c7:bO [none,some (.lst (sm.map .str)),some (.lst ((List.range (many+np)).map λk=>PV.int (mx (x 3) k % 4)))] (gN 0) iW iU ((List.range (many+np)).map λk=>PV.int (k:Nat))=
   some (((List.range (many+np)).filter λk=>decide (1 < mx (x 3) k % 4)).map λ(k:Nat)=>PV.str (pick sm k)):=
  d9 _ _ _ _ λk hk=>⟨_,rfl,by
   have h1:=watI k (List.mem_range.mp hk)
   simp[iW,h1],λ_=>by
   have h1:=satI k (List.mem_range.mp hk)
   simp[iU,h1]⟩
 obtain⟨nb,hnb,hnb4⟩:=Fb (x 4 / 7)
 have rb:rgI (nb:Int)=true:=pM (Nat.le_trans hnb4 (by decide))
 have qb:(dB 0 (nb:Int)).length<=1000000:=by rw[q8];exact jP hnb4 (by decide)
 have c9:bO [none,some (.int (x 0)),some (.int many),some (.lst [.int (x 0),.int (x 1),.int (x 2),.int (x 3),.int (x 4),.int (x 5)])] (gN 0) bJ iY (dB 0 (nb:Int))=some ((List.range nb).map λk=>.str (jN (x 0) many (mx (x 4) k))):=by
  rw[jb]
  exact b_ _ _ _ λk hk=>⟨_,rfl,by
   have:=List.mem_range.mp hk
   have e1:=sE (x 4) (k:=k) (qu this (Nat.le_trans hnb4 (by decide)))
   simp[iY,e1,yD]⟩
 obtain⟨nc,hnc,hnc3⟩:=wQ (x 5 / 7)
 have rc:rgI (nc:Int)=true:=pM (Nat.le_trans hnc3 (by decide))
 have qc:(dB 0 (nc:Int)).length<=1000000:=by rw[q8];exact jP hnc3 (by decide)
 have c10:bO [none,some (.int (x 0)),some (.int many),some (.lst [.int (x 0),.int (x 1),.int (x 2),.int (x 3),.int (x 4),.int (x 5)])] (gN 0) bJ iD (dB 0 (nc:Int))=some ((List.range nc).map λk=>.str (jN (x 0) many (mx (x 5) k))):=by
  rw[jb]
  exact b_ _ _ _ λk hk=>⟨_,rfl,by
   have:=List.mem_range.mp hk
   have e1:=sE (x 5) (k:=k) (qu this (Nat.le_trans hnc3 (by decide)))
   simp[iD,e1,yD]⟩
 have hrun:atI [PV.str ("" : Str),.str ("never" : Str),.str ("may" : Str),.str ("must" : Str)] (x 1 / 28 % 4)=some (.str (pick [("" : Str),("never" : Str),("may" : Str),("must" : Str)] (x 1 / 28 % 4))):=
  qj (l:=[("" : Str),("never" : Str),("may" : Str),("must" : Str)]) (qp _).1 (qp _).2
 have mrun:=jO (l:=[("" : Str),("never" : Str),("may" : Str),("must" : Str)]) (i:=x 1 / 28 % 4) (qp _).1 (qp _).2
 generalize pick [("" : Str),("never" : Str),("may" : Str),("must" : Str)] (x 1 / 28 % 4)=run at hrun mrun
 refine⟨⟨car,prs,((List.range (many+np)).filter λk=>(1 == mx (x 3) k % 4||3 == mx (x 3) k % 4)).map λ(k:Nat)=>pick sm k,((List.range (many+np)).filter λk=>decide (1 < mx (x 3) k % 4)).map λ(k:Nat)=>pick sm k,
  (List.range nb).map λk=>jN (x 0) many (mx (x 4) k),(List.range nc).map λk=>jN (x 0) many (mx (x 5) k),run,x 0,many⟩,⟨hm1,hm7,hcar.symm,?_,?_,?_,?_,?_,?_,?_,?_,?_,?_,?_⟩,?_⟩
 ·intro w hw
  rw[← hprs] at hw
  obtain⟨k,_,e⟩:=List.mem_map.mp hw
  rw[← hpr] at e
  exact⟨_,jO (Int.emod_nonneg _ hmn) (by rw[lcar];exact Int.emod_lt_of_pos _ hmp),_,jO (Int.emod_nonneg _ hmn) (by rw[lcar];exact Int.emod_lt_of_pos _ hmp),e.symm⟩
 ·intro w hw
  obtain⟨k,hk,e⟩:=List.mem_map.mp hw
  have:=List.mem_range.mp (List.mem_filter.mp hk).1
  rw[hsm,← e]
  exact jO (uo k) (by rw[lsm];exact uq this)
 ·intro w hw
  obtain⟨k,hk,e⟩:=List.mem_map.mp hw
  have:=List.mem_range.mp (List.mem_filter.mp hk).1
  rw[hsm,← e]
  exact jO (uo k) (by rw[lsm];exact uq this)
 ·intro w hw
  obtain⟨k,hk,e⟩:=List.mem_map.mp hw
  exact⟨_,e.symm⟩
 ·intro w hw
  obtain⟨k,hk,e⟩:=List.mem_map.mp hw
  exact⟨_,e.symm⟩
 ·simpa using mrun
 ·show prs.length<=3;rw[lprs];exact hnp3
 ·rw[List.length_map]
  have:=List.length_filter_le (λk=>(1 == mx (x 3) k % 4||3 == mx (x 3) k % 4)) (List.range (many+np))
  rw[List.length_range] at this;exact Nat.le_trans this hmp10
 ·rw[List.length_map]
  have:=List.length_filter_le (λk=>decide (1 < mx (x 3) k % 4)) (List.range (many+np))
  rw[List.length_range] at this;exact Nat.le_trans this hmp10
 ·simp;omega
 ·simp;omega
 ·have ln:(prs.map PV.str).length=np:=by rw[List.length_map,lprs]
  have ls:(sm.map PV.str).length=many+np:=by rw[List.length_map,lsm]
  have qz:many+np<=1000000:=jP hmp10 (by decide)
  simp[cT,mR,r6,c1,q6,qz,lcar,hmany,rm,c2,qm,hnp,rp,l3,lprs,rt,ert,c4,qt,ql,esm,lsm,c5,c7,hnb,rb,c9,qb,hnc,rc,c10,qc,hrun]
  simp[aW,bj,List.map_map,Function.comp_def]
end My
namespace My
open PySem L2 MR
theorem jQ (a b:Str):(a++b).length=a.length+b.length:=by
 unfold Str.length
 rw[Str.cps_append]
 simp
theorem pN (a b:Str):(a++b).cps.toList=a.cps.toList++b.cps.toList:=by
 rw[Str.cps_append]
 simp
structure Low (w:Str):Prop where
 codes:∀ c∈w.cps.toList,97<=c/\c < 123
 l1:1<=w.length
 l4:w.length<=4
theorem Low.noBl {w:Str}(h:Low w):dh w:=λz=>by have:=h.codes _ z;omega
theorem sG (b k:Int):Low (letter b k):=⟨λc hc=>by
 have:c=ltn b k:=by simpa [letter] using hc
 rw[this];exact gj b k,by show 1<=1;decide,by show 1<=4;decide⟩
theorem wR (b m n:Int):Low (jN b m n):=⟨λc hc=>by
 rw[nU] at hc
 obtain⟨k,_,e⟩:=List.mem_map.mp hc
 rw[← e];exact gj b _,by rw[qZ];omega,by rw[qZ];omega⟩
structure Rc.Lo (R:Rc):Prop where
 c:∀ w∈R.carriers,Low w
 p:∀ w∈R.pairs,Low w
 l:∀ w∈R.longs,Low w
 e:∀ w∈R.eithers,Low w
 b:∀ w∈R.begins,Low w
 s:∀ w∈R.splits,Low w
theorem Rc.Good.lo {R:Rc}(G:R.Good):R.Lo:=by
 have c:∀ w∈R.carriers,Low w/\w.length=1:=λw hw=>by
  rw[G.car] at hw
  obtain⟨k,_,e⟩:=List.mem_map.mp hw
  rw[← e];exact⟨sG _ _,rfl⟩
 have p:∀ w∈R.pairs,Low w:=λw hw=>by
  obtain⟨a,ha,b,hb,e⟩:=G.prs w hw
  obtain⟨la,a1⟩:=c a ha
  obtain⟨lb,b1⟩:=c b hb
  rw[e]
  exact⟨λx hx=>by
   rw[pN] at hx
   exact(List.mem_append.mp hx).elim (la.codes x) (lb.codes x),by rw[jQ];omega,by rw[jQ];omega⟩
 have cp:∀ w∈R.carriers++R.pairs,Low w:=λw hw=>(List.mem_append.mp hw).elim (λh=>(c w h).1) (p w)
 exact⟨λw h=>(c w h).1,p,λw h=>cp w (G.lng w h),λw h=>cp w (G.eth w h),λw h=>by obtain⟨n,e⟩:=G.beg w h;rw[e];exact wR _ _ _,λw h=>by obtain⟨n,e⟩:=G.spl w h;rw[e];exact wR _ _ _⟩
def txt (x:Str×List Str):Str:=x.1++(" " : Str)++Str.join (" " : Str) x.2
def bH (b:Bool) (k:Str) (ws:List Str):List (Str×List Str):=if b=true then ws.map λw=>(k,[w]) else if ws=[] then [] else [(k,ws)]
theorem mz:(Str.ofString " ").length=1:=by decide +kernel
theorem KJ {ws:List Str}(h:∀ w∈ws,w.length<=4) (hn:ws.length<=20):JoinOk (Str.ofString " ") ws=true:=by
 have gen:∀ (l:List Str) (n:Nat),(∀ w∈l,w.length<=4)->l.foldl (λx1 x2=>x1+x2.length+(Str.ofString " ").length) n<=n+5*l.length:=by
  intro l
  induction l with
  | nil=>intro n _;simp
  | cons w l ih=>
   intro n hw
   have h1:=ih (n+w.length+(Str.ofString " ").length) λx hx=>hw x (List.mem_cons_of_mem _ hx)
   have h2:=hw w List.mem_cons_self
   rw[mz] at h1 ⊢
   simp only[List.foldl_cons,List.length_cons]
   rw[mz] at *
   omega
 have g:=gen ws 0 h
 unfold JoinOk Builtin.Str.tooLong
 rw[List.foldl_toArray]
 simp
 have:(10000:Nat)<=sizeLine:=by decide
 omega
theorem Fe {ws:List Str}(h:∀ w∈ws,w.length<=4) (hn:ws.length<=20):(Str.join (Str.ofString " ") ws).length<=100:=by
 have h1:=StrLaws.join_length_le (Str.ofString " ") ws
 have h2:(ws.map (·.length)).sum<=4*ws.length:=by
  clear h1 hn
  induction ws with
  | nil=>simp
  | cons w l ih=>
   have:=ih λx hx=>h x (List.mem_cons_of_mem _ hx)
   have:=h w List.mem_cons_self
   simp;omega
 rw[mz] at h1
 omega
theorem uW:∀ ws:List Str,strsP (ws.map PV.str)=some ws
 | []=>rfl
 | w::ws=>by simp[uW ws]
theorem uX:∀ ws:List Str,fO (ws.map PV.str)=some (ws.map PyData.str)
 | []=>rfl
 | w::ws=>by simp[fO,toD,uX ws]
theorem wU:∀ {ws:List Str},(∀ w∈ws,PyData.strOk w=true)->PyData.canLayAll0 (ws.map PyData.str)=true
 | [],_=>rfl
 | w::ws,h=>by
  simp[PyData.canLayAll0,PyData.canLay0,h w List.mem_cons_self,wU λx hx=>h x (List.mem_cons_of_mem _ hx)]
theorem sH:∀ ws:List Str,PyData.depthAll (ws.map PyData.str)<=1
 | []=>by simp[PyData.depthAll]
 | w::ws=>by
  have:=sH ws
  simp[PyData.depthAll,PyData.depth]
  omega
theorem wV:∀ xs ys:List Str,PyData.eqvAll (xs.map PyData.str) (ys.map PyData.str)=decide (xs=ys)
 | [],[]=>rfl
 | [],_::_=>by simp[PyData.eqvAll]
 | _::_,[]=>by simp[PyData.eqvAll]
 | x::xs,y::ys=>by
  simp only[List.map_cons,PyData.eqvAll,PyData.eqv,wV xs ys]
  by_cases h:x=y
  ·subst h;simp
  ·simp[h]
theorem qK {ws:List Str}(h:∀ w∈ws,PyData.strOk w=true):SeqAt.shaped (.list (ws.map PyData.str))=true:=by
 have h1:=wU h
 have h2:=sH ws
 simp[SeqAt.shaped,PyData.canLay0,h1,PyData.depth]
 omega
theorem q9 {xs ys:List Str}(hx:∀ w∈xs,PyData.strOk w=true) (hy:∀ w∈ys,PyData.strOk w=true):eqP (.lst (xs.map .str)) (.lst (ys.map .str))=some (decide (xs=ys)):=by
 have h1:=qK hx
 have h2:=qK hy
 simp[eqP,eqS,eqD,toD,uX,h1,h2,PyData.eqv,wV]
theorem Low.ok {w:Str}(h:Low w):PyData.strOk w=true:=by
 unfold PyData.strOk
 rw[← Array.all_toList,List.all_eq_true]
 intro c hc
 have:=h.codes c hc
 simp;omega
theorem jh {R:Rc}{c:Int}{k:Nat}{kind:Str}{ws L:List Str}{p:Int}(hr:atI [bj R.carriers,bj R.pairs,bj R.longs,bj R.eithers,bj R.begins,bj R.splits,.str R.run,.int R.base] (k:Int)=some (.lst (ws.map .str)))
  (hp:atI [PV.int 1,.int 2,.int 4,.int 8,.int 16,.int 32] (k:Int)=some (.int p)) (h0:0 < p/\p < 1073741824) (hk:kind.length<=10) (hw:∀ w∈ws,Low w) (hn:ws.length<=20) (hL:L.length<=1000):
  turn (gT [3,4]) [3,4,5] dq (.tup [.int k,.str kind]) [some (aW R),some (.int c),some (.lst (L.map .str)),none,none,none,none]=
   some [some (aW R),some (.int c),some (.lst ((L++(bH (decide (c / p % 2=1)) kind ws).map txt).map .str)),none,none,none,none]:=by
 have hc:bO [none,some (.str kind)] (gN 0) bJ jK (ws.map .str)=some (ws.map λw=>.str (txt (kind,[w]))):=
  b_ _ _ ws λw h=>⟨_,rfl,by
   have h1:kind.length+(Str.ofString " ").length<=1000000:=by rw[mz];omega
   have h2:(kind++Str.ofString " ").length+w.length<=1000000:=by rw[jQ,mz];have:=(hw w h).l4;omega
   simp[jK,h1,h2,txt,Str.join]⟩
 have hl2:ws.length<=1000000:=by omega
 have hl3:L.length+ws.length<=1000000:=by omega
 have hl4:L.length < 1000000:=by omega
 by_cases hb:c / p % 2=1
 ·simp[mW,dq,aW,hr,hp,h0,hb,hc,hl2,hl3,bH,List.map_map,Function.comp_def]
 ·have hj:=KJ (λw h=>(hw w h).l4) hn
  have hj2:=Fe (λw h=>(hw w h).l4) hn
  have h1:kind.length+(Str.ofString " ").length<=1000000:=by rw[mz];omega
  have h2:(kind++Str.ofString " ").length+(Str.join (Str.ofString " ") ws).length<=1000000:=by rw[jQ,mz];omega
  have he:=q9 (xs:=ws) (ys:=[]) (λw h=>(hw w h).ok) (λw h=>by cases h)
  simp only[List.map_nil] at he
  have he0:eqP (.lst []) (.lst [])=some true:=q9 (xs:=[]) (ys:=[]) (λw h=>by cases h) (λw h=>by cases h)
  by_cases hz:ws=[]
  ·subst hz
   simp[mW,dq,aW,hr,hp,h0,hb,bH,Bp,he0]
  ·simp[mW,dq,aW,hr,hp,h0,hb,bH,hz,uW,hj,h1,h2,hl4,txt,Bp,he]
end My
namespace My
open PySem L2 MR
theorem bA {f g:MR.Env->Option Out}{env e:MR.Env}(h:f env=some (.nx e)):aO f g env=g e:=by simp[h]
theorem CG {α:Type}(f:α->PV) (l:List α) (m:Nat) (h:m<=l.length):gw (l.map f) (some (m:Int)) none=(l.drop m).map f:=by
 unfold gw
 rw[HT.sIx_nat,HT.sIx_none]
 simp only[List.length_map]
 rw[Nat.min_eq_left h,← List.map_drop,List.take_of_length_le (by simp)]
theorem CJ {α:Type}(f:α->PV) (l:List α) (m:Nat) (h:m<=l.length):gw (l.map f) none (some (m:Int))=(l.take m).map f:=by
 unfold gw
 rw[HT.sIx_nat,HT.sIx_none]
 simp only[List.length_map]
 rw[Nat.min_eq_left h]
 simp
def ji (run:Str):List (Str×List Str):=if run=("" : Str) then [] else [(("run" : Str),[run])]
def eX (c:Int) (R:Rc):List (Str×List Str):=bH (decide (c / 1 % 2=1)) ("carry" : Str) R.carriers++bH (decide (c / 2 % 2=1)) ("one" : Str) R.pairs++bH (decide (c / 4 % 2=1)) ("long" : Str) R.longs ++
 bH (decide (c / 8 % 2=1)) ("either" : Str) R.eithers++bH (decide (c / 16 % 2=1)) ("begin" : Str) R.begins++bH (decide (c / 32 % 2=1)) ("split" : Str) R.splits++ji R.run
theorem f9 (b:Bool) (k:Str) (ws:List Str):(bH b k ws).length<=ws.length+1:=by
 unfold bH
 split
 ·simp
 ·split <;> simp
theorem sI {A:List (Str×List Str)}{L:List Str}{a b:Nat}(h:L.length<=a) (h':A.length<=b):(L++A.map txt).length<=a+b:=by
 rw[List.length_append,List.length_map]
 exact Nat.add_le_add h h'
theorem qw {α:Type}{A B:List α}{a b:Nat}(h:A.length<=a) (h':B.length<=b):(A++B).length<=a+b:=by
 rw[List.length_append]
 exact Nat.add_le_add h h'
theorem xM (r:Str):(ji r).length<=1:=by unfold ji;split <;> simp
theorem yE (a:Int) (n:Nat):∃ m:Nat,a % ((n:Int)+1)=(m:Int)/\m<=n:=⟨(a % ((n:Int)+1)).toNat,by have:=Int.emod_nonneg a (b:=(n:Int)+1) (by omega);omega,by have:=Int.emod_lt_of_pos a (b:=(n:Int)+1) (by omega);have:=Int.emod_nonneg a (b:=(n:Int)+1) (by omega);omega⟩
theorem uY (n:Nat):(0:Int) < (n:Int)+1:=by omega
theorem KQ {n:Nat}(h:n<=1000):n < 1000000:=by omega
theorem HN {R:Rc}(G:R.Good) (c:Int):∃ rs:List (Str×List Str),(∀ x,x∈rs↔x∈eX c R)/\rs.length<=100/\d_ [aW R,.int c]=some (.lst ((rs.map txt).map .str)):=by
 have Lo:=G.lo
 have lc:R.carriers.length<=7:=by rw[G.car];simp;exact G.m7
 have k1:=f9 (decide (c / 1 % 2=1)) ("carry" : Str) R.carriers
 have k2:=f9 (decide (c / 2 % 2=1)) ("one" : Str) R.pairs
 have k3:=f9 (decide (c / 4 % 2=1)) ("long" : Str) R.longs
 have k4:=f9 (decide (c / 8 % 2=1)) ("either" : Str) R.eithers
 have k5:=f9 (decide (c / 16 % 2=1)) ("begin" : Str) R.begins
 have k6:=f9 (decide (c / 32 % 2=1)) ("split" : Str) R.splits
 have g1:=G.l1;have g2:=G.l2;have g3:=G.l3;have g4:=G.l4;have g5:=G.l5
 have dd1:=Nat.le_trans k1 (Nat.succ_le_succ lc)
 have dd2:=Nat.le_trans k2 (Nat.succ_le_succ g1)
 have dd3:=Nat.le_trans k3 (Nat.succ_le_succ g2)
 have dd4:=Nat.le_trans k4 (Nat.succ_le_succ g3)
 have dd5:=Nat.le_trans k5 (Nat.succ_le_succ g4)
 have dd6:=Nat.le_trans k6 (Nat.succ_le_succ g5)
 have t1:=jh (R:=R) (c:=c) (k:=0) (kind := "carry") (ws:=R.carriers) (L:=[]) (p:=1) rfl rfl (by decide) (by decide +kernel) Lo.c (Nat.le_trans lc (by decide)) (by simp)
 generalize hA1:bH (decide (c / 1 % 2=1)) ("carry" : Str) R.carriers=A1 at t1 dd1
 have l1:=sI (L:=[]) (a:=0) (Nat.le_refl 0) dd1
 have t2:=jh (R:=R) (c:=c) (k:=1) (kind := "one") (ws:=R.pairs) (L:=[]++A1.map txt) (p:=2) rfl rfl (by decide) (by decide +kernel) Lo.p (Nat.le_trans g1 (by decide)) (Nat.le_trans l1 (by decide))
 generalize hA2:bH (decide (c / 2 % 2=1)) ("one" : Str) R.pairs=A2 at t2 dd2
 have l2:=sI l1 dd2
 have t3:=jh (R:=R) (c:=c) (k:=2) (kind := "long") (ws:=R.longs) (L:=[]++A1.map txt++A2.map txt) (p:=4) rfl rfl (by decide) (by decide +kernel) Lo.l (Nat.le_trans g2 (by decide)) (Nat.le_trans l2 (by decide))
 generalize hA3:bH (decide (c / 4 % 2=1)) ("long" : Str) R.longs=A3 at t3 dd3
 have l3:=sI l2 dd3
 have t4:=jh (R:=R) (c:=c) (k:=3) (kind := "either") (ws:=R.eithers) (L:=[]++A1.map txt++A2.map txt++A3.map txt) (p:=8) rfl rfl (by decide) (by decide +kernel) Lo.e (Nat.le_trans g3 (by decide)) (Nat.le_trans l3 (by decide))
 generalize hA4:bH (decide (c / 8 % 2=1)) ("either" : Str) R.eithers=A4 at t4 dd4
 have l4:=sI l3 dd4
 have t5:=jh (R:=R) (c:=c) (k:=4) (kind := "begin") (ws:=R.begins) (L:=[]++A1.map txt++A2.map txt++A3.map txt++A4.map txt) (p:=16) rfl rfl (by decide) (by decide +kernel) Lo.b (Nat.le_trans g4 (by decide)) (Nat.le_trans l4 (by decide))
 generalize hA5:bH (decide (c / 16 % 2=1)) ("begin" : Str) R.begins=A5 at t5 dd5
 have l5:=sI l4 dd5
 have t6:=jh (R:=R) (c:=c) (k:=5) (kind := "split") (ws:=R.splits) (L:=[]++A1.map txt++A2.map txt++A3.map txt++A4.map txt++A5.map txt) (p:=32) rfl rfl (by decide) (by decide +kernel) Lo.s (Nat.le_trans g5 (by decide)) (Nat.le_trans l5 (by decide))
 generalize hA6:bH (decide (c / 32 % 2=1)) ("split" : Str) R.splits=A6 at t6 dd6
 have eL:∃ B:List (Str×List Str),B=A1++A2++A3++A4++A5++A6:=⟨_,rfl⟩
 obtain⟨B,hB⟩:=eL
 have lB:B.length<=80:=by rw[hB];exact Nat.le_trans (qw (qw (qw (qw (qw dd1 dd2) dd3) dd4) dd5) dd6) (by decide)
 have loop:bU (gT [3,4]) [3,4,5] dq (eO 0 [.str "carry",.str "one",.str "long",.str "either",.str "begin",.str "split"]) [some (aW R),some (.int c),some (.lst []),none,none,none,none]=
   some (.nx [some (aW R),some (.int c),some (.lst ((B.map txt).map .str)),none,none,none,none]):=by
  refine(fu t1).trans ?_
  refine(fu t2).trans ?_
  refine(fu t3).trans ?_
  refine(fu t4).trans ?_
  refine(fu t5).trans ?_
  refine(fu t6).trans ?_
  rw[hB]
  simp[eO,bU]
 obtain⟨Z,hZ⟩:∃ Z,Z=B++ji R.run:=⟨_,rfl⟩
 have lZ:Z.length<=90:=by
  rw[hZ];exact Nat.le_trans (qw lB (xM _)) (by decide)
 have hrun:sIf (tV (b2 neQ (b2 ixP (bV 0) (bC (.int 6))) (bC (.str "")))) (fj pA 2 (b2 ak (bC (.str "run ")) (b2 ixP (bV 0) (bC (.int 6))))) sNx [some (aW R),some (.int c),some (.lst ((B.map txt).map .str)),none,none,none,none]=
   some (.nx [some (aW R),some (.int c),some (.lst ((Z.map txt).map .str)),none,none,none,none]):=by
  rw[hZ]
  by_cases e:R.run=("" : Str)
  ·simp[aW,e,ji]
  ·have e1:(Str.ofString "run ").length+R.run.length<=1000000:=by
    have h1:(Str.ofString "run ").length=4:=by decide +kernel
    have h2:R.run.length<=10:=by
     rcases G.run with h | h | h | h <;> rw[h] <;> decide +kernel
    omega
   have e2:(Str.ofString "run ")++R.run=txt (("run" : Str),[R.run]):=by
    unfold txt
    have:(Str.ofString "run ")=("run" : Str)++(" " : Str):=by decide +kernel
    rw[this];rfl
   have e3:B.length < 1000000:=KQ (Nat.le_trans lB (by decide))
   simp[aW,e,e1,e2,e3,ji]
 have hZ0:(0:Int) < (Z.length:Int)+1:=uY _
 obtain⟨m,hm,hmZ⟩:=yE (c / 64) Z.length
 refine⟨Z.drop m++Z.take m,λx=>?_,by simp;omega,?_⟩
 ·have:eX c R=Z:=by unfold eX;rw[hA1,hA2,hA3,hA4,hA5,hA6,hZ,hB]
  rw[this,List.mem_append,or_comm,← List.mem_append,List.take_append_drop]
 ·have d1:=CG (λx:Str=>PV.str x) (Z.map txt) m (by simp;exact hmZ)
  have d2:=CJ (λx:Str=>PV.str x) (Z.map txt) m (by simp;exact hmZ)
  have d3:((Z.map txt).drop m).length+((Z.map txt).take m).length<=1000000:=by simp;omega
  have d4:Z.length - m+min m Z.length<=1000000:=by omega
  have s1:aP 2 (aX aA) [some (aW R),some (.int c),none,none,none,none,none]=some (.nx [some (aW R),some (.int c),some (.lst []),none,none,none,none]):=by simp
  have s2:jG (gT [3,4]) (iE (aX (aa (bC (.str "carry")) (aa (bC (.str "one")) (aa (bC (.str "long")) (aa (bC (.str "either")) (aa (bC (.str "begin")) (aa (bC (.str "split")) aA)))))))) [3,4,5] dq [some (aW R),some (.int c),some (.lst []),none,none,none,none]=
    some (.nx [some (aW R),some (.int c),some (.lst ((B.map txt).map .str)),none,none,none,none]):=by
   simp[-M4,loop]
  have s4:aP 6 (b2 cV (b2 g8 (bV 1) (bC (.int 64))) (b2 ak (b1 lenV (bV 2)) (bC (.int 1)))) [some (aW R),some (.int c),some (.lst ((Z.map txt).map .str)),none,none,none,none]=some (.nx [some (aW R),some (.int c),some (.lst ((Z.map txt).map .str)),none,none,none,some (.int m)]):=by
   simp[hZ0,hm]
  have s5:bM (b2 cX (bSl (bV 2) (oS (bV 6)) oN) (bSl (bV 2) oN (oS (bV 6)))) [some (aW R),some (.int c),some (.lst ((Z.map txt).map .str)),none,none,none,some (.int m)]=some (.rt (.lst (((Z.drop m++Z.take m).map txt).map .str))):=by
   simp only[Ha,kJ,JW,Mh,MF,Mz,List.getElem?_cons_succ,List.getElem?_cons_zero,Option.bind_some,d1,d2,cX,List.length_map]
   rw[if_pos (by simp;omega)]
   simp
  have e:lM [some (aW R),some (.int c),none,none,none,none,none]=some (.rt (.lst (((Z.drop m++Z.take m).map txt).map .str))):=by
   unfold lM
   rw[bA s1,bA s2,bA hrun,bA s4,s5]
  simp[d_,e]
end My
namespace My
open PySem L2 MR
theorem gb {b:Bool}{k:Str}{ws:List Str}{x:Str×List Str}(h:x∈bH b k ws):x.1=k/\x.2≠[]/\(∀ w∈x.2,w∈ws)/\x.2.length<=ws.length:=by
 unfold bH at h
 split at h
 ·obtain⟨w,hw,e⟩:=List.mem_map.mp h
  subst e
  refine⟨rfl,by simp,λz hz=>by simp at hz;rw[hz];exact hw,?_⟩
  have:=List.length_pos_of_mem hw
  show 1<=ws.length
  omega
 ·split at h
  ·cases h
  ·rename_i hne
   have e:x=(k,ws):=by simpa using h
   subst e
   exact⟨rfl,hne,λ_ z=>z,Nat.le_refl _⟩
theorem cover {b:Bool}{k:Str}{ws:List Str}{w:Str}(h:w∈ws):∃ r,(k,r)∈bH b k ws/\w∈r:=by
 unfold bH
 split
 ·exact⟨[w],List.mem_map.mpr ⟨w,h,rfl⟩,by simp⟩
 ·rw[if_neg (by intro z;rw[z] at h;cases h)]
  exact⟨ws,by simp,h⟩
def StopW (R:Rc) (a:Str):Prop:=∃ i:Nat,i < 12/\a=letter R.base ((R.many:Int)+(i:Nat))
def KR (R:Rc) (a b:Str):Prop:=(a∈R.carriers++R.pairs/\b∈R.carriers++R.pairs)\/(StopW R a/\StopW R b)
inductive RowIs (R:Rc):Str×List Str->Prop
 | carry {r}:r≠[]->(∀ w∈r,w∈R.carriers)->RowIs R (("carry" : Str),r)
 | one {r}:r≠[]->(∀ w∈r,w∈R.pairs)->RowIs R (("one" : Str),r)
 | long {r}:r≠[]->(∀ w∈r,w∈R.longs)->RowIs R (("long" : Str),r)
 | either {r}:r≠[]->(∀ w∈r,w∈R.eithers)->RowIs R (("either" : Str),r)
 | begin {r}:r≠[]->(∀ w∈r,w∈R.begins)->RowIs R (("begin" : Str),r)
 | split {r}:r≠[]->(∀ w∈r,w∈R.splits)->RowIs R (("split" : Str),r)
 | run:R.run≠("" : Str)->RowIs R (("run" : Str),[R.run])
 | alike {a b}:KR R a b->RowIs R (("alike" : Str),[a,b])
structure Tells (R:Rc) (rs:List (Str×List Str)):Prop where
 is:∀ x∈rs,RowIs R x
 len:∀ x∈rs,x.2.length<=20
 n:rs.length<=150
 carry:∀ w∈R.carriers,∃ r,(("carry" : Str),r)∈rs/\w∈r
 one:∀ w∈R.pairs,∃ r,(("one" : Str),r)∈rs/\w∈r
 long:∀ w∈R.longs,∃ r,(("long" : Str),r)∈rs/\w∈r
 either:∀ w∈R.eithers,∃ r,(("either" : Str),r)∈rs/\w∈r
 begin:∀ w∈R.begins,∃ r,(("begin" : Str),r)∈rs/\w∈r
 split:∀ w∈R.splits,∃ r,(("split" : Str),r)∈rs/\w∈r
 run:R.run≠("" : Str)->(("run" : Str),[R.run])∈rs
theorem tells_of {R:Rc}(G:R.Good){c:Int}{rs:List (Str×List Str)}(h:∀ x,x∈rs↔x∈eX c R) (hn:rs.length<=100):Tells R rs:=by
 have lc:R.carriers.length<=7:=by rw[G.car];simp;exact G.m7
 have g1:=G.l1;have g2:=G.l2;have g3:=G.l3;have g4:=G.l4;have g5:=G.l5
 have cs:∀ x∈rs,RowIs R x/\x.2.length<=20:=λx hx=>by
  have hx:=(h x).mp hx
  unfold eX at hx
  simp only[List.mem_append] at hx
  obtain⟨k,r⟩:=x
  rcases hx with (((((hx | hx) | hx) | hx) | hx) | hx) | hx
  ·obtain⟨e,h1,h2,h3⟩:=gb hx;cases e;exact⟨.carry h1 h2,by omega⟩
  ·obtain⟨e,h1,h2,h3⟩:=gb hx;cases e;exact⟨.one h1 h2,by omega⟩
  ·obtain⟨e,h1,h2,h3⟩:=gb hx;cases e;exact⟨.long h1 h2,by omega⟩
  ·obtain⟨e,h1,h2,h3⟩:=gb hx;cases e;exact⟨.either h1 h2,by omega⟩
  ·obtain⟨e,h1,h2,h3⟩:=gb hx;cases e;exact⟨.begin h1 h2,by omega⟩
  ·obtain⟨e,h1,h2,h3⟩:=gb hx;cases e;exact⟨.split h1 h2,by omega⟩
  ·unfold ji at hx
   split at hx
   ·cases hx
   ·rename_i hr
    have e:(k,r)=(("run" : Str),[R.run]):=by simpa using hx
    cases e
    exact⟨.run hr,by simp⟩
 refine⟨λx hx=>(cs x hx).1,λx hx=>(cs x hx).2,by omega,λw hw=>?_,λw hw=>?_,λw hw=>?_,λw hw=>?_,λw hw=>?_,λw hw=>?_,λhr=>?_⟩
 ·obtain⟨r,h1,h2⟩:=cover (b:=decide (c / 1 % 2=1)) (k:=("carry" : Str)) hw
  exact⟨r,(h _).mpr (by unfold eX;simp only[List.mem_append];exact .inl (.inl (.inl (.inl (.inl (.inl h1)))))),h2⟩
 ·obtain⟨r,h1,h2⟩:=cover (b:=decide (c / 2 % 2=1)) (k:=("one" : Str)) hw
  exact⟨r,(h _).mpr (by unfold eX;simp only[List.mem_append];exact .inl (.inl (.inl (.inl (.inl (.inr h1)))))),h2⟩
 ·obtain⟨r,h1,h2⟩:=cover (b:=decide (c / 4 % 2=1)) (k:=("long" : Str)) hw
  exact⟨r,(h _).mpr (by unfold eX;simp only[List.mem_append];exact .inl (.inl (.inl (.inl (.inr h1))))),h2⟩
 ·obtain⟨r,h1,h2⟩:=cover (b:=decide (c / 8 % 2=1)) (k:=("either" : Str)) hw
  exact⟨r,(h _).mpr (by unfold eX;simp only[List.mem_append];exact .inl (.inl (.inl (.inr h1)))),h2⟩
 ·obtain⟨r,h1,h2⟩:=cover (b:=decide (c / 16 % 2=1)) (k:=("begin" : Str)) hw
  exact⟨r,(h _).mpr (by unfold eX;simp only[List.mem_append];exact .inl (.inl (.inr h1))),h2⟩
 ·obtain⟨r,h1,h2⟩:=cover (b:=decide (c / 32 % 2=1)) (k:=("split" : Str)) hw
  exact⟨r,(h _).mpr (by unfold eX;simp only[List.mem_append];exact .inl (.inr h1)),h2⟩
 ·exact(h _).mpr (by unfold eX ji;simp[hr])
theorem q_:dh ("carry" : Str)/\("carry" : Str).length<=10/\PyData.strOk ("carry" : Str)=true:=by unfold dh;decide +kernel
theorem wW:dh ("one" : Str)/\("one" : Str).length<=10/\PyData.strOk ("one" : Str)=true:=by unfold dh;decide +kernel
theorem ur:dh ("long" : Str)/\("long" : Str).length<=10/\PyData.strOk ("long" : Str)=true:=by unfold dh;decide +kernel
theorem pO:dh ("either" : Str)/\("either" : Str).length<=10/\PyData.strOk ("either" : Str)=true:=by unfold dh;decide +kernel
theorem rn:dh ("begin" : Str)/\("begin" : Str).length<=10/\PyData.strOk ("begin" : Str)=true:=by unfold dh;decide +kernel
theorem kd_split:dh ("split" : Str)/\("split" : Str).length<=10/\PyData.strOk ("split" : Str)=true:=by unfold dh;decide +kernel
theorem wX:dh ("run" : Str)/\("run" : Str).length<=10/\PyData.strOk ("run" : Str)=true:=by unfold dh;decide +kernel
theorem Ff:dh ("never" : Str)/\("never" : Str).length<=10/\PyData.strOk ("never" : Str)=true:=by unfold dh;decide +kernel
theorem KY:dh ("may" : Str)/\("may" : Str).length<=10/\PyData.strOk ("may" : Str)=true:=by unfold dh;decide +kernel
theorem HQ:dh ("must" : Str)/\("must" : Str).length<=10/\PyData.strOk ("must" : Str)=true:=by unfold dh;decide +kernel
theorem rz:dh ("alike" : Str)/\("alike" : Str).length<=10/\PyData.strOk ("alike" : Str)=true:=by unfold dh;decide +kernel
def bN (rs:List (Str×List Str)):List (List Str):=rs.map λx=>x.1::x.2
section
variable {R:Rc}{rs:List (Str×List Str)}(G:R.Good) (T:Tells R rs)
include G
theorem mX {x:Str×List Str}(h:RowIs R x):(∀ w∈x.2,dh w/\w.length<=10/\PyData.strOk w=true)/\dh x.1/\x.1.length<=10/\x.2≠[]/\PyData.strOk x.1=true:=by
 have Lo:=G.lo
 have ok:∀ {w:Str},Low w->dh w/\w.length<=10/\PyData.strOk w=true:=λh=>⟨h.noBl,by have:=h.l4;omega,h.ok⟩
 cases h with
 | carry h1 h2=>exact⟨λw hw=>ok (Lo.c w (h2 w hw)),q_.1,q_.2.1,h1,q_.2.2⟩
 | one h1 h2=>exact⟨λw hw=>ok (Lo.p w (h2 w hw)),wW.1,wW.2.1,h1,wW.2.2⟩
 | long h1 h2=>exact⟨λw hw=>ok (Lo.l w (h2 w hw)),ur.1,ur.2.1,h1,ur.2.2⟩
 | either h1 h2=>exact⟨λw hw=>ok (Lo.e w (h2 w hw)),pO.1,pO.2.1,h1,pO.2.2⟩
 | begin h1 h2=>exact⟨λw hw=>ok (Lo.b w (h2 w hw)),rn.1,rn.2.1,h1,rn.2.2⟩
 | split h1 h2=>exact⟨λw hw=>ok (Lo.s w (h2 w hw)),kd_split.1,kd_split.2.1,h1,kd_split.2.2⟩
 | run hr=>
  refine⟨λw hw=>?_,wX.1,wX.2.1,by simp,wX.2.2⟩
  have e:w=R.run:=by simpa using hw
  rw[e]
  rcases G.run with h | h | h | h
  ·exact absurd h hr
  ·rw[h];exact Ff
  ·rw[h];exact KY
  ·rw[h];exact HQ
 | @alike a b h=>
  have hw:∀ w,(w∈R.carriers++R.pairs\/StopW R w)->Low w:=λw h=>by
   rcases h with h | ⟨i,_,e⟩
   ·rcases List.mem_append.mp h with h | h
    ·exact Lo.c w h
    ·exact Lo.p w h
   ·rw[e];exact sG _ _
  refine⟨λw hw'=>?_,rz.1,rz.2.1,by simp,rz.2.2⟩
  have e:w=a\/w=b:=by simpa using hw'
  rcases h with h | h
  ·rcases e with e | e
   ·rw[e];exact ok (hw _ (.inl h.1))
   ·rw[e];exact ok (hw _ (.inl h.2))
  ·rcases e with e | e
   ·rw[e];exact ok (hw _ (.inr h.1))
   ·rw[e];exact ok (hw _ (.inr h.2))
include T
theorem mY:(rs.map txt).map bF=bN rs:=by
 unfold bN
 rw[List.map_map]
 refine List.map_congr_left λx hx=>?_
 obtain⟨h1,h2,_,h3,_⟩:=mX G (T.is x hx)
 show bF (x.1++(" " : Str)++Str.join (" " : Str) x.2)=_
 unfold bF
 rw[sy h2,lw h3 λw hw=>(h1 w hw).1]
theorem wY {w:Str}(h:w∈R.carriers):isLetter w=true:=by
 rw[G.car] at h
 obtain⟨k,_,e⟩:=List.mem_map.mp h
 rw[← e];exact jy _ _
theorem qx {k:Str}{r:List Str}:(k::r)∈bN rs↔(k,r)∈rs:=by
 unfold bN
 rw[List.mem_map]
 constructor
 ·rintro ⟨⟨k',r'⟩,h,e⟩
  cases e;exact h
 ·intro h;exact⟨_,h,rfl⟩
theorem mC {r:List Str}(h:(("carry" : Str),r)∈rs):bW (("carry" : Str)::r)=true/\∀ w∈r,w∈R.carriers:=by
 have hi:=T.is _ h
 generalize hx:((("carry" : Str),r):Str×List Str)=x at hi
 cases hi with
 | carry h1 h2=>
  cases hx
  refine⟨?_,h2⟩
  simp[bW]
  exact⟨List.length_pos_iff.mpr h1,λw hw=>wY G T (h2 w hw)⟩
 | _=>exact absurd (Prod.mk.inj hx).1 (by decide +kernel)
theorem jR (y:Str):y∈aF (bN rs)↔y∈R.carriers:=by
 unfold aF
 rw[jH]
 constructor
 ·rintro ⟨r,h1,h2⟩
  have h1:=(qx G T).mp (List.mem_filter.mp h1).1
  exact(mC G T h1).2 y h2
 ·intro h
  obtain⟨r,h1,h2⟩:=T.carry y h
  exact⟨r,List.mem_filter.mpr ⟨(qx G T).mpr h1,(mC G T h1).1⟩,h2⟩
theorem CK {w:Str}(h:w∈R.pairs):pairOf (inS (aF (bN rs))) w=true:=by
 obtain⟨a,ha,b,hb,e⟩:=G.prs w h
 have ca:=ha;have cb:=hb
 rw[G.car] at ha hb
 obtain⟨i,_,ea⟩:=List.mem_map.mp ha
 obtain⟨j,_,eb⟩:=List.mem_map.mp hb
 have ec:w.cps.toList=[ltn R.base i,ltn R.base j]:=by
  rw[e,← ea,← eb,pN];rfl
 unfold pairOf
 rw[ec]
 simp only[inS,Bool.and_eq_true,decide_eq_true_eq]
 rw[jR G T,jR G T]
 exact⟨by rw[← ea] at ca;exact ca,by rw[← eb] at cb;exact cb⟩
theorem pP {r:List Str}(h:(("one" : Str),r)∈rs):cZ (inS (aF (bN rs))) (("one" : Str)::r)=true/\∀ w∈r,w∈R.pairs:=by
 have hi:=T.is _ h
 generalize hx:((("one" : Str),r):Str×List Str)=x at hi
 cases hi with
 | one h1 h2=>
  cases hx
  refine⟨?_,h2⟩
  simp[cZ]
  exact⟨List.length_pos_iff.mpr h1,λw hw=>CK G T (h2 w hw)⟩
 | _=>exact absurd (Prod.mk.inj hx).1 (by decide +kernel)
theorem wZ (y:Str):y∈pairsOf (bN rs)↔y∈R.pairs:=by
 unfold pairsOf
 rw[jH]
 constructor
 ·rintro ⟨r,h1,h2⟩
  have h1:=(qx G T).mp (List.mem_filter.mp h1).1
  exact(pP G T h1).2 y h2
 ·intro h
  obtain⟨r,h1,h2⟩:=T.one y h
  exact⟨r,List.mem_filter.mpr ⟨(qx G T).mpr h1,(pP G T h1).1⟩,h2⟩
theorem vJ {w:Str}(h:w∈R.carriers++R.pairs):w∈aF (bN rs)++pairsOf (bN rs):=by
 rw[List.mem_append] at h ⊢
 exact h.imp (jR G T w).mpr (wZ G T w).mpr
theorem yF (n:Int):di (inS (aF (bN rs))) (jN R.base R.many n)=true:=by
 have hl:=qZ R.base R.many n
 have m1:=G.m1;have m7:=G.m7
 simp only[di,Bool.and_eq_true,decide_eq_true_eq]
 refine⟨⟨by omega,by omega⟩,?_⟩
 rw[List.all_eq_true]
 intro c hc
 rw[nU] at hc
 obtain⟨k,_,e⟩:=List.mem_map.mp hc
 have hd:=E_ n k
 simp only[dF,Bool.and_eq_true,Bool.not_eq_true',inS,decide_eq_false_iff_not]
 rw[← e]
 refine⟨jy _ _,λhm=>?_⟩
 rw[jR G T,G.car] at hm
 obtain⟨j,hj,ej⟩:=List.mem_map.mp hm
 have hj:=List.mem_range.mp hj
 have:=nT (c:=R.base) (j:=(j:Nat)) (k:=(R.many:Int)+dg n k) (by omega) (by omega) (by omega) (by omega) ej
 omega
theorem w5 {w:Str}(h:StopW R w):dF (inS (aF (bN rs))) w=true:=by
 obtain⟨i,hi,e⟩:=h
 have m1:=G.m1;have m7:=G.m7
 simp only[dF,Bool.and_eq_true,Bool.not_eq_true',inS,decide_eq_false_iff_not]
 rw[e]
 refine⟨jy _ _,λhm=>?_⟩
 rw[jR G T,G.car] at hm
 obtain⟨j,hj,ej⟩:=List.mem_map.mp hm
 have hj:=List.mem_range.mp hj
 have:=nT (c:=R.base) (j:=(j:Nat)) (k:=(R.many:Int)+(i:Nat)) (by omega) (by omega) (by omega) (by omega) ej
 omega
theorem HR {x:Str×List Str}(hx:x∈rs):aR (inS (aF (bN rs))) (aF (bN rs)++pairsOf (bN rs)) (x.1::x.2)=true:=by
 have hi:=T.is x hx
 have lo:=mX G hi
 cases hi with
 | carry h1 h2=>simp[aR];exact(mC G T hx).1
 | one h1 h2=>
  dsimp only [aR]
  rw[if_neg (by decide +kernel),if_pos rfl]
  exact(pP G T hx).1
 | long h1 h2=>
  dsimp only [aR]
  rw[if_neg (by decide +kernel),if_neg (by decide +kernel),if_pos (.inl rfl)]
  simp only[Bool.and_eq_true,decide_eq_true_eq,List.all_eq_true]
  exact⟨List.length_pos_iff.mpr h1,λw hw=>vJ G T (G.lng w (h2 w hw))⟩
 | either h1 h2=>
  dsimp only [aR]
  rw[if_neg (by decide +kernel),if_neg (by decide +kernel),if_pos (.inr rfl)]
  simp only[Bool.and_eq_true,decide_eq_true_eq,List.all_eq_true]
  exact⟨List.length_pos_iff.mpr h1,λw hw=>vJ G T (G.eth w (h2 w hw))⟩
 | begin h1 h2=>
  dsimp only [aR]
  rw[if_neg (by decide +kernel),if_neg (by decide +kernel),if_neg (by decide +kernel),if_pos (.inl rfl)]
  simp only[Bool.and_eq_true,decide_eq_true_eq,List.all_eq_true]
  exact⟨List.length_pos_iff.mpr h1,λw hw=>by obtain⟨n,e⟩:=G.beg w (h2 w hw);rw[e];exact yF G T n⟩
 | split h1 h2=>
  dsimp only [aR]
  rw[if_neg (by decide +kernel),if_neg (by decide +kernel),if_neg (by decide +kernel),if_pos (.inr rfl)]
  simp only[Bool.and_eq_true,decide_eq_true_eq,List.all_eq_true]
  exact⟨List.length_pos_iff.mpr h1,λw hw=>by obtain⟨n,e⟩:=G.spl w (h2 w hw);rw[e];exact yF G T n⟩
 | run hr=>
  dsimp only [aR]
  rw[if_neg (by decide +kernel),if_neg (by decide +kernel),if_neg (by decide +kernel),if_neg (by decide +kernel),if_pos rfl]
  rcases G.run with h | h
  ·exact absurd h hr
  ·simp;exact h
 | @alike a b h=>
  dsimp only [aR]
  rw[if_neg (by decide +kernel),if_neg (by decide +kernel),if_neg (by decide +kernel),if_neg (by decide +kernel),if_neg (by decide +kernel)]
  simp only[bG,Bool.and_eq_true,Bool.or_eq_true,decide_eq_true_eq,List.all_eq_true]
  refine⟨trivial,rfl,?_⟩
  rcases h with h | h
  ·refine .inl λw hw=>?_
   have e:w=a\/w=b:=by simpa using hw
   rcases e with e | e
   ·rw[e];exact vJ G T h.1
   ·rw[e];exact vJ G T h.2
  ·refine .inr λw hw=>?_
   have e:w=a\/w=b:=by simpa using hw
   rcases e with e | e
   ·rw[e];exact w5 G T h.1
   ·rw[e];exact w5 G T h.2
theorem j7:RowsOk (bN rs):=by
 have hn:=T.n
 have hlen:(bN rs).length<=150:=by unfold bN;rw[List.length_map];exact hn
 refine⟨by omega,λws hws=>?_,?_,λws hws=>?_⟩
 ·obtain⟨x,hx,e⟩:=List.mem_map.mp hws
  obtain⟨h1,h2,h3,h4,_⟩:=mX G (T.is x hx)
  have:=T.len x hx
  rw[← e]
  exact⟨by simp,by simp;omega,λw hw=>by
   rcases List.mem_cons.mp hw with z | z
   ·rw[z];omega
   ·have:=(h1 w z).2.1;omega⟩
 ·have gen:∀ l:List (List Str),(∀ ws∈l,ws.length<=21)->total l<=21*l.length:=by
   intro l
   induction l with
   | nil=>intro _;simp[total]
   | cons ws l ih=>
    intro h
    have h1:=ih λy hy=>h y (List.mem_cons_of_mem _ hy)
    have h2:=h ws List.mem_cons_self
    unfold total at *
    simp;omega
  have:=gen (bN rs) λws hws=>by
   obtain⟨x,hx,e⟩:=List.mem_map.mp hws
   have:=T.len x hx
   rw[← e];simp;omega
  omega
 ·obtain⟨x,hx,e⟩:=List.mem_map.mp hws
  rw[← e];exact HR G T hx
theorem yG {x:Str×List Str}(hx:x∈rs):(txt x).length<=1000:=by
 obtain⟨h1,h2,h3,h4,_⟩:=mX G (T.is x hx)
 have hl:=T.len x hx
 unfold txt
 rw[jQ,jQ]
 have hj:=StrLaws.join_length_le (" " : Str) x.2
 have hs:(x.2.map (·.length)).sum<=10*x.2.length:=by
  have gen:∀ l:List Str,(∀ w∈l,w.length<=10)->(l.map (·.length)).sum<=10*l.length:=by
   intro l
   induction l with
   | nil=>intro _;simp
   | cons w l ih=>
    intro h
    have:=ih λy hy=>h y (List.mem_cons_of_mem _ hy)
    have:=h w List.mem_cons_self
    simp;omega
  exact gen x.2 λw hw=>(h1 w hw).2.1
 have hb:(" " : Str).length=1:=mz
 rw[hb] at hj ⊢
 omega
theorem made:cj [.lst ((rs.map txt).map .str)]=some (qi (bN rs)):=by
 have h:=yz (zs:=rs.map txt) (λz hz=>by obtain⟨x,hx,e⟩:=List.mem_map.mp hz;rw[← e];exact yG G T hx) (by rw[mY G T];exact j7 G T)
 rw[mY G T] at h
 exact h
theorem CN {x:Str×List Str}(hx:x∈rs):PyData.strOk (txt x)=true:=by
 obtain⟨h1,h2,h3,h4,h5⟩:=mX G (T.is x hx)
 have app:∀ {a b:Str},PyData.strOk a=true->PyData.strOk b=true->PyData.strOk (a++b)=true:=λ{a b} ha hb=>by
  unfold PyData.strOk at *
  rw[Str.cps_append,Array.all_append,ha,hb];rfl
 have bl:PyData.strOk (" " : Str)=true:=by decide +kernel
 have jn:∀ l:List Str,(∀ w∈l,PyData.strOk w=true)->PyData.strOk (Str.join (" " : Str) l)=true:=by
  intro l
  induction l with
  | nil=>intro _;decide +kernel
  | cons w l ih=>
   intro h
   cases l with
   | nil=>exact h w List.mem_cons_self
   | cons v l=>
    show PyData.strOk (w++(" " : Str)++Str.join (" " : Str) (v::l))=true
    exact app (app (h w List.mem_cons_self) bl) (ih λy hy=>h y (List.mem_cons_of_mem _ hy))
 unfold txt
 exact app (app h5 bl) (jn _ λw hw=>(h1 w hw).2.2)
end
end My
namespace My
open PySem L2 MR
structure CutOk (cut:List (List Str)):Prop where
 n:cut.length<=1000
 few:∀ ws∈cut,ws≠[]/\Few ws
 tot:total cut<=100000
def jW (cut:List (List Str)) (ws:List Str):Bool:=aR (inS (aF cut)) (aF cut++pairsOf cut) ws
def firstBad (p:List Str->Bool):List (List Str)->Nat->Option Nat
 | [],_=>none
 | ws::r,k=>if p ws=true then firstBad p r (k+1) else some k
theorem HS {zs:List Str}(hz:∀ z∈zs,z.length<=1000) (R:CutOk (zs.map bF)):cu [.lst (zs.map .str)]=(firstBad (jW (zs.map bF)) (zs.map bF) 0).map λj=>(11,some j):=by
 have c1:bO [none] (gN 0) bJ dN (zs.map .str)=some (bx (zs.map bF)):=by
  have h:=b_ (env:=[none]) (g:=gN 0) (f:=dN) PV.str (λz=>bj (bF z)) zs λy hy=>⟨_,rfl,by
   have h1:y.length<=1000000:=by have:=hz y hy;omega
   have h2:¬ (Str.ofString " ").length=0:=by decide +kernel
   simp[dN,h1,h2,bj,bF]⟩
  rw[h]
  unfold bx
  rw[List.map_map]
  rfl
 have hlz:zs.length<=1000000:=by have:=R.n;rw[List.length_map] at this;omega
 generalize hcut:zs.map bF=cut at *
 have hlc:(bx cut).length<=1000000:=by unfold bx;rw[List.length_map];have:=R.n;omega
 have c2:bO [none] (gN 0) fZ fY (bx cut)=some (bx (cut.filter bW)):=
  d9 bj bj bW cut λws hws=>by
   obtain⟨hne,hf⟩:=R.few ws hws
   cases ws with
   | nil=>exact absurd rfl hne
   | cons w r=>
    have:=qW hf
    exact⟨_,rfl,by simp[fZ,bj] at this ⊢;simp[this],λ_=>by simp[fY]⟩
 have ne:∀ ws∈cut,ws≠[]:=λws h=>(R.few ws h).1
 have nef:∀ p:List Str->Bool,∀ ws∈cut.filter p,ws≠[]:=λp ws h=>ne ws (List.mem_filter.mp h).1
 have tf:∀ p:List Str->Bool,total (cut.filter p) < 1000000:=λp=>by have:=eF p cut;have:=R.tot;omega
 have k1:aV [.str "carry",.lst (bx (cut.filter bW))]=some (.dK (sdP (aF cut))):=jg (nef _) (tf _)
 have hC:(aF cut).length<=100000:=by have h1:=nR ("carry" : Str) (cut.filter bW);have h2:=eF bW cut;have:=R.tot;unfold aF;omega
 have hP:(pairsOf cut).length<=100000:=by have h1:=nR ("one" : Str) (cut.filter (cZ (inS (aF cut))));have h2:=eF (cZ (inS (aF cut))) cut;have:=R.tot;unfold pairsOf;omega
 have c3:bO [none,some (.obj 0 (pF "carrying" (.dK (sdP (aF cut))) []))] (gN 0) fD fC (bx cut)=some (bx (cut.filter (cZ (inS (aF cut))))):=
  d9 bj bj (cZ (inS (aF cut))) cut λws hws=>by
   obtain⟨hne,hf⟩:=R.few ws hws
   cases ws with
   | nil=>exact absurd rfl hne
   | cons w r=>
    have:=wG (ks:=aF cut) hf
    exact⟨_,rfl,by simp[fD,bj,Gf] at this ⊢;simp[this],λ_=>by simp[fC]⟩
 have k2:aV [.str "one",.lst (bx (cut.filter (cZ (inS (aF cut)))))]=some (.dK (sdP (pairsOf cut))):=jg (nef _) (tf _)
 have lx:∀ (q q2:PV) (l:List (List Str)) (k:Nat),(∀ ws∈l,ws≠[]/\Few ws)->k+l.length<=1000->lq (gT [3,4]) [3,4] bR cP (eO k (bx l)) [some (.obj 0 (pF "pairs" (.dK (sdP (pairsOf cut))) (pF "carrying" (.dK (sdP (aF cut))) []))),some q,some q2,none,none]=
   (firstBad (jW cut) l k).map λj=>(11,some j):=λq q2 l=>by
  induction l with
  | nil=>intro k _ _;rfl
  | cons ws l ih=>
   intro k hl hk
   obtain⟨hne,hf⟩:=hl ws List.mem_cons_self
   have ih:=ih (k+1) (λy hy=>hl y (List.mem_cons_of_mem _ hy)) (by simp at hk;omega)
   cases ws with
   | nil=>exact absurd rfl hne
   | cons w r=>
    have hr:=yu (ks:=aF cut) (ps:=pairsOf cut) hf hC hP
    simp only[List.map_cons] at hr
    have hk2:(k:Int)<=1000000:=by simp at hk;omega
    show lq _ _ _ _ (PV.tup [.int (k:Nat),bj (w::r)]::eO (k+1) (bx l)) _=_
    unfold lq firstBad
    have hg:gT [3,4] (PV.tup [.int (k:Nat),bj (w::r)]) [some (.obj 0 (pF "pairs" (.dK (sdP (pairsOf cut))) (pF "carrying" (.dK (sdP (aF cut))) []))),some q,some q2,none,none]=some [some (.obj 0 (pF "pairs" (.dK (sdP (pairsOf cut))) (pF "carrying" (.dK (sdP (aF cut))) []))),some q,some q2,some (.int (k:Nat)),some (bj (w::r))]:=by simp
    rw[hg]
    simp only[Option.bind_some]
    have hb:jW cut (w::r)=aR (inS (aF cut)) (aF cut++pairsOf cut) (w::r):=rfl
    rw[← hb] at hr
    cases hB:jW cut (w::r) with
    | false=>
     rw[hB] at hr
     simp[cP,bj,vH,vI,hr,hk2]
    | true=>
     rw[hB] at hr
     have e1:cP [some (.obj 0 (pF "pairs" (.dK (sdP (pairsOf cut))) (pF "carrying" (.dK (sdP (aF cut))) []))),some q,some q2,some (.int (k:Nat)),some (bj (w::r))]=none:=by simp[cP,bj,vH,vI,hr]
     have e2:bR [some (.obj 0 (pF "pairs" (.dK (sdP (pairsOf cut))) (pF "carrying" (.dK (sdP (aF cut))) []))),some q,some q2,some (.int (k:Nat)),some (bj (w::r))]=some (.nx [some (.obj 0 (pF "pairs" (.dK (sdP (pairsOf cut))) (pF "carrying" (.dK (sdP (aF cut))) []))),some q,some q2,some (.int (k:Nat)),some (bj (w::r))]):=by simp[bR,bj,vH,vI,hr]
     rw[e1,e2]
     simp only[Option.bind_some,if_true]
     exact ih
 have m1:∀ a:PV,(pF "carrying" a []).length < 1000:=λa=>by show 1 < 1000;decide
 have l6:=λq q2=>lx q q2 cut 0 R.few (by have:=R.n;omega)
 generalize firstBad (jW cut) cut 0=FB at *
 simp[cu,jA,c1,hlz,c2,hlc,k1,m1,c3,k2,l6]
end My
namespace My
open PySem L2 MR
def resT (cut:List (List Str)):Int:=match firstBad (jW cut) cut 0 with
 | some j=>(j:Int)
 | none=>-1
theorem yH {p:List Str->Bool}:∀ {l:List (List Str)}{k:Nat},firstBad p l k=none->∀ ws∈l,p ws=true
 | [],_,_,ws,h=>by cases h
 | a::l,k,e,ws,h=>by
  unfold firstBad at e
  by_cases q:p a=true
  ·rw[if_pos q] at e
   rcases List.mem_cons.mp h with rfl | h
   ·exact q
   ·exact yH e ws h
  ·rw[if_neg q] at e;cases e
theorem yI {p:List Str->Bool}:∀ {l:List (List Str)}{k:Nat},(∀ ws∈l,p ws=true)->firstBad p l k=none
 | [],_,_=>rfl
 | a::l,k,h=>by
  unfold firstBad
  rw[if_pos (h a List.mem_cons_self)]
  exact yI λws hw=>h ws (List.mem_cons_of_mem _ hw)
theorem Gg {p:List Str->Bool}:∀ {l r:List (List Str)}{a:List Str}{k:Nat},(∀ ws∈l,p ws=true)->p a=false->firstBad p (l++a::r) k=some (k+l.length)
 | [],r,a,k,_,h=>by
  show firstBad p (a::r) k=some (k+0)
  unfold firstBad
  rw[if_neg (by rw[h];exact Bool.false_ne_true)]
  rfl
 | b::l,r,a,k,h1,h2=>by
  show firstBad p (b::(l++a::r)) k=_
  unfold firstBad
  rw[if_pos (h1 b List.mem_cons_self),Gg (λws hw=>h1 ws (List.mem_cons_of_mem _ hw)) h2,List.length_cons]
  congr 1
  omega
theorem rA {zs:List Str}(hz:∀ z∈zs,z.length<=1000) (R:CutOk (zs.map bF)):aM [.lst (zs.map .str)]=some (.int (resT (zs.map bF))):=by
 have hx:=HS hz R
 unfold resT
 cases q:firstBad (jW (zs.map bF)) (zs.map bF) 0 with
 | some j=>
  rw[q] at hx
  generalize zs.map PV.str=ZP at *
  have hx:cu [.lst ZP]=some (11,some j):=hx
  simp[aM,jx,iH,iI,hx]
 | none=>
  rw[q] at hx
  have hm:=yz hz ⟨R.n,R.few,R.tot,yH q⟩
  generalize qi (zs.map bF)=TF,zs.map PV.str=ZP at *
  have hx:cu [.lst ZP]=none:=hx
  simp[aM,jx,iH,iI,hx,hm]
end My
namespace My
open PySem L2 MR
structure BadR (R:Rc) (ws:List Str):Prop where
 ne:ws≠[]
 len:ws.length<=21
 few:∀ w∈ws,w.length<=100
 r:aR (inS R.carriers) (R.carriers++R.pairs) ws=false
theorem zV {C:Str->Bool}{cs ws:List Str}(h:bW ws=true):aR C cs ws=true:=by
 cases ws with
 | nil=>cases h
 | cons w r=>
  have hw:w=("carry" : Str):=by
   unfold bW at h
   simp only[Bool.and_eq_true,decide_eq_true_eq] at h
   exact h.1.1
  subst hw
  dsimp only [aR]
  rw[if_pos rfl]
  exact h
theorem Fg {C:Str->Bool}{cs ws:List Str}(h:cZ C ws=true):aR C cs ws=true:=by
 cases ws with
 | nil=>cases h
 | cons w r=>
  have hw:w=("one" : Str):=by
   unfold cZ at h
   simp only[Bool.and_eq_true,decide_eq_true_eq] at h
   exact h.1.1
  subst hw
  dsimp only [aR]
  rw[if_neg (by decide +kernel),if_pos rfl]
  exact h
theorem zW {C:Str->Bool}{cs cs':List Str}(h:∀ x,x∈cs↔x∈cs') (ws:List Str):aR C cs ws=aR C cs' ws:=by
 have e:(λx=>decide (x∈cs))=λx=>decide (x∈cs'):=by funext x;exact decide_eq_decide.mpr (h x)
 cases ws with
 | nil=>rfl
 | cons w r=>
  dsimp only [aR,bG]
  rw[e]
section
variable {R:Rc}{rs:List (Str×List Str)}(G:R.Good) (T:Tells R rs)
include G T
theorem Fi:inS (aF (bN rs))=inS R.carriers:=by
 funext y
 exact decide_eq_decide.mpr (jR G T y)
theorem mix {cut:List (List Str)}(h1:∀ ws∈cut,ws∈bN rs\/BadR R ws) (h2:∀ ws∈bN rs,ws∈cut) (ws:List Str):jW cut ws=aR (inS R.carriers) (R.carriers++R.pairs) ws:=by
 have hc:∀ y,y∈aF cut↔y∈R.carriers:=λy=>by
  rw[← jR G T y]
  unfold aF
  rw[jH,jH]
  constructor
  ·rintro ⟨r,a1,a2⟩
   obtain⟨a3,a4⟩:=List.mem_filter.mp a1
   rcases h1 _ a3 with z | z
   ·exact⟨r,List.mem_filter.mpr ⟨z,a4⟩,a2⟩
   ·have:=zV (C:=inS R.carriers) (cs:=R.carriers++R.pairs) a4
    rw[z.r] at this
    cases this
  ·rintro ⟨r,a1,a2⟩
   obtain⟨a3,a4⟩:=List.mem_filter.mp a1
   exact⟨r,List.mem_filter.mpr ⟨h2 _ a3,a4⟩,a2⟩
 have hC:inS (aF cut)=inS R.carriers:=by
  funext y
  exact decide_eq_decide.mpr (hc y)
 have hp:∀ y,y∈pairsOf cut↔y∈R.pairs:=λy=>by
  rw[← wZ G T y]
  unfold pairsOf
  rw[jH,jH,hC,Fi G T]
  constructor
  ·rintro ⟨r,a1,a2⟩
   obtain⟨a3,a4⟩:=List.mem_filter.mp a1
   rcases h1 _ a3 with z | z
   ·exact⟨r,List.mem_filter.mpr ⟨z,a4⟩,a2⟩
   ·have:=Fg (cs:=R.carriers++R.pairs) a4
    rw[z.r] at this
    cases this
  ·rintro ⟨r,a1,a2⟩
   obtain⟨a3,a4⟩:=List.mem_filter.mp a1
   exact⟨r,List.mem_filter.mpr ⟨h2 _ a3,a4⟩,a2⟩
 unfold jW
 rw[hC]
 exact zW (λx=>by rw[List.mem_append,List.mem_append,hc,hp]) ws
theorem CQ {ws:List Str}(h:ws∈bN rs):aR (inS R.carriers) (R.carriers++R.pairs) ws=true:=by
 rw[← mix G T (cut:=bN rs) (λws h=>.inl h) (λws h=>h) ws]
 exact(j7 G T).good ws h
theorem KZ {cut:List (List Str)}(h1:∀ ws∈cut,ws∈bN rs\/BadR R ws) (hl:cut.length<=200):CutOk cut:=by
 have hl21:∀ ws∈cut,ws≠[]/\ws.length<=21/\Few ws:=λws h=>by
  rcases h1 ws h with z | z
  ·obtain⟨x,hx,e⟩:=List.mem_map.mp z
   have:=T.len x hx
   refine⟨((j7 G T).few ws z).1,?_,((j7 G T).few ws z).2⟩
   rw[← e];simp;omega
  ·exact⟨z.ne,z.len,by have:=z.len;omega,λw hw=>by have:=z.few w hw;omega⟩
 refine⟨by omega,λws h=>⟨(hl21 ws h).1,(hl21 ws h).2.2⟩,?_⟩
 have gen:∀ l:List (List Str),(∀ ws∈l,ws.length<=21)->total l<=21*l.length:=by
  intro l
  induction l with
  | nil=>intro _;simp[total]
  | cons ws l ih=>
   intro h
   have h1:=ih λy hy=>h y (List.mem_cons_of_mem _ hy)
   have h2:=h ws List.mem_cons_self
   unfold total at *
   simp;omega
 have:=gen cut λws h=>(hl21 ws h).2.1
 omega
theorem K1 {A B:List (List Str)}{b:List Str}(hA:∀ ws∈A,ws∈bN rs) (hb:BadR R b) (hB:∀ ws∈B,ws∈bN rs\/BadR R ws) (h2:∀ ws∈bN rs,ws∈A\/ws∈B):resT (A++b::B)=(A.length:Int):=by
 have hm:=mix G T (cut:=A++b::B) (λws h=>by
  rcases List.mem_append.mp h with h | h
  ·exact .inl (hA ws h)
  ·rcases List.mem_cons.mp h with rfl | h
   ·exact .inr hb
   ·exact hB ws h) (λws h=>by
  rcases h2 ws h with z | z
  ·exact List.mem_append.mpr (.inl z)
  ·exact List.mem_append.mpr (.inr (List.mem_cons_of_mem _ z)))
 unfold resT
 rw[Gg (λws hw=>by rw[hm];exact CQ G T (hA ws hw)) (by rw[hm];exact hb.r),Nat.zero_add]
theorem Fj:resT (bN rs)=-1:=by
 unfold resT
 rw[yI (p:=jW (bN rs)) λws hw=>(j7 G T).good ws hw]
end
end My
namespace My
open PySem L2 MR
structure AB (R:Rc) (a b:Nat):Prop where
 a1:97<=a
 a2:a < 123
 b1:97<=b
 b2:b < 123
 ca:(⟨#[a]⟩:Str)∈R.carriers
 cb:(⟨#[b]⟩:Str)∉R.carriers
def bw0 (a b:Nat):List (List Str):=[[""],["", ""],["carry"],["carry", ""],["carry", "",⟨#[a]⟩],["carry",⟨#[a]⟩, ""],["", "carry",⟨#[a]⟩],["Carry",⟨#[a]⟩]]
def bw1 (a b:Nat):List (List Str):=[["carry",⟨#[a - 32]⟩],["carry",⟨#[a,b]⟩],["carry", "1"],["carry",⟨#[a,44]⟩,⟨#[b]⟩],["one"]]
def bw2 (a b:Nat):List (List Str):=[["one",⟨#[a]⟩],["one",⟨#[a,b]⟩],["one",⟨#[a,a,a]⟩],["one",⟨#[b,b]⟩],["one",⟨#[a]⟩,⟨#[a]⟩]]
def bw3 (a b:Nat):List (List Str):=[["long"],["long",⟨#[b]⟩],["long",⟨#[a,b]⟩],["long",⟨#[a]⟩,⟨#[b,b]⟩],["either",⟨#[a,a,a]⟩]]
def bw4 (a b:Nat):List (List Str):=[["either",⟨#[b]⟩],["begin"],["begin",⟨#[b]⟩],["begin",⟨#[b,b,b,b,b]⟩],["begin",⟨#[b,a]⟩]]
def bw5 (a b:Nat):List (List Str):=[["begin",⟨#[b,b]⟩,⟨#[b]⟩],["split",⟨#[a,b]⟩],["split",⟨#[b]⟩],["run"],["run", "now"]]
def bw6 (a b:Nat):List (List Str):=[["run", "may", "may"],["run", "Must"],["alike",⟨#[a]⟩],["alike",⟨#[a]⟩,⟨#[b]⟩],["tell",⟨#[a]⟩]]
def bw7 (a b:Nat):List (List Str):=[["alike",⟨#[a]⟩,⟨#[a]⟩,⟨#[a]⟩],["alike",⟨#[b,b]⟩,⟨#[b]⟩],["either"],["split"],["alike"]]
def bw8 (a b:Nat):List (List Str):=[["alike",⟨#[b]⟩,⟨#[a]⟩],["alike",⟨#[b]⟩,⟨#[b,b]⟩],["alike",⟨#[a]⟩,⟨#[a,a,a]⟩]]
def bw9 (a b:Nat):List (List Str):=[["split",⟨#[b,b,b,b,b]⟩],["split",⟨#[b]⟩,⟨#[b,b]⟩]]
def bw (a b:Nat):List (List Str):=bw0 a b++bw1 a b++bw2 a b++bw3 a b++bw4 a b++bw5 a b++bw6 a b++bw7 a b++bw8 a b++bw9 a b
theorem K3:∀ n:Fin 26,isLetter ⟨#[97+n.val - 32]⟩=false:=by decide +kernel
theorem Np {a:Nat}(h1:97<=a) (h2:a < 123):isLetter ⟨#[a - 32]⟩=false:=by
 have:=K3 ⟨a - 97,by omega⟩
 have e:97+(a - 97) - 32=a - 32:=by omega
 rw[← e]
 exact this
theorem yJ {x:Str}(h:¬ x.length=1):isLetter x=false:=by
 unfold isLetter
 rw[decide_eq_false h,Bool.false_and]
theorem nW {R:Rc}(G:R.Good){l:List Nat}(h:(⟨l.toArray⟩:Str)∈R.pairs):∃ x y:Nat,l=[x,y]/\(⟨#[x]⟩:Str)∈R.carriers/\(⟨#[y]⟩:Str)∈R.carriers:=by
 obtain⟨p,hp,q,hq,e⟩:=G.prs _ h
 have one:∀ z∈R.carriers,∃ x:Nat,z=(⟨#[x]⟩:Str):=λz hz=>by
  rw[G.car] at hz
  obtain⟨k,_,e⟩:=List.mem_map.mp hz
  exact⟨_,e.symm⟩
 obtain⟨x,rfl⟩:=one p hp
 obtain⟨y,rfl⟩:=one q hq
 refine⟨x,y,?_,hp,hq⟩
 have h2:(⟨l.toArray⟩:Str).cps.toList=((⟨#[x]⟩:Str)++(⟨#[y]⟩:Str)).cps.toList:=congrArg (λs:Str=>s.cps.toList) e
 rw[pN] at h2
 exact h2
theorem w6 {R:Rc}(G:R.Good){l:List Nat}(h:(⟨l.toArray⟩:Str)∈R.carriers):∃ x:Nat,l=[x]:=by
 rw[G.car] at h
 obtain⟨k,_,e⟩:=List.mem_map.mp h
 have:=congrArg (λs:Str=>s.cps.toList) e
 exact⟨_,by simpa [letter] using this.symm⟩
theorem K4 {R:Rc}(G:R.Good){a b:Nat}(h:AB R a b):∀ ws∈bw a b,aR (inS R.carriers) (R.carriers++R.pairs) ws=false:=by
 obtain⟨a1,a2,b1,b2,ca,cb⟩:=h
 have lb:isLetter ⟨#[b]⟩=true:=km b1 b2
 have la:isLetter ⟨#[a]⟩=true:=km a1 a2
 have lu:=Np a1 a2
 have l0:isLetter ("" : Str)=false:=by decide +kernel
 have l1:isLetter ("1" : Str)=false:=by decide +kernel
 have l2:∀ x y:Nat,isLetter ⟨#[x,y]⟩=false:=λx y=>yJ (show ¬ (2:Nat)=1 by decide)
 have l3:∀ x y z:Nat,isLetter ⟨#[x,y,z]⟩=false:=λx y z=>yJ (show ¬ (3:Nat)=1 by decide)
 have Ca:inS R.carriers ⟨#[a]⟩=true:=decide_eq_true ca
 have Cb:inS R.carriers ⟨#[b]⟩=false:=decide_eq_false cb
 have nb:¬ (⟨#[b]⟩:Str)∈R.carriers++R.pairs:=λz=>by
  rcases List.mem_append.mp z with z | z
  ·exact cb z
  ·obtain⟨x,y,e,_⟩:=nW G (l:=[b]) z;cases e
 have nab:¬ (⟨#[a,b]⟩:Str)∈R.carriers++R.pairs:=λz=>by
  rcases List.mem_append.mp z with z | z
  ·obtain⟨x,e⟩:=w6 G (l:=[a,b]) z;cases e
  ·obtain⟨x,y,e,_,h2⟩:=nW G (l:=[a,b]) z;cases e;exact cb h2
 have nbb:¬ (⟨#[b,b]⟩:Str)∈R.carriers++R.pairs:=λz=>by
  rcases List.mem_append.mp z with z | z
  ·obtain⟨x,e⟩:=w6 G (l:=[b,b]) z;cases e
  ·obtain⟨x,y,e,_,h2⟩:=nW G (l:=[b,b]) z;cases e;exact cb h2
 have naaa:¬ (⟨#[a,a,a]⟩:Str)∈R.carriers++R.pairs:=λz=>by
  rcases List.mem_append.mp z with z | z
  ·obtain⟨x,e⟩:=w6 G (l:=[a,a,a]) z;cases e
  ·obtain⟨x,y,e,_,h2⟩:=nW G (l:=[a,a,a]) z;cases e
 generalize inS R.carriers=C,R.carriers++R.pairs=cs at *
 have carry:∀ r:List Str,r.all isLetter=false->aR C cs (("carry" : Str)::r)=false:=λr h=>by
  dsimp only [aR]
  rw[if_pos rfl]
  unfold bW
  simp only[h,Bool.and_false]
 have carry0:aR C cs [("carry" : Str)]=false:=by
  dsimp only [aR]
  rw[if_pos rfl]
  rfl
 have one:∀ r:List Str,(decide (0 < r.length)&&r.all (pairOf C))=false->aR C cs (("one" : Str)::r)=false:=λr h=>by
  dsimp only [aR]
  rw[if_neg (by decide +kernel),if_pos rfl]
  unfold cZ
  simp only[Bool.and_assoc,h,Bool.and_false]
 have lg:∀ (k:Str) (r:List Str),k=("long" : Str)\/k=("either" : Str)->(decide (0 < r.length)&&r.all λx=>decide (x∈cs))=false->aR C cs (k::r)=false:=λk r hk h=>by
  dsimp only [aR]
  rw[if_neg (by rcases hk with rfl | rfl <;> decide +kernel),if_neg (by rcases hk with rfl | rfl <;> decide +kernel),if_pos hk,h]
 have bg:∀ (k:Str) (r:List Str),k=("begin" : Str)\/k=("split" : Str)->(decide (0 < r.length)&&r.all (di C))=false->aR C cs (k::r)=false:=λk r hk h=>by
  dsimp only [aR]
  rw[if_neg (by rcases hk with rfl | rfl <;> decide +kernel),if_neg (by rcases hk with rfl | rfl <;> decide +kernel),if_neg (by rcases hk with rfl | rfl <;> decide +kernel),if_pos hk,h]
 have run:∀ r:List Str,(decide (r.length=1)&&r.all λx=>decide (x=("never" : Str)\/x=("may" : Str)\/x=("must" : Str)))=false->aR C cs (("run" : Str)::r)=false:=λr h=>by
  dsimp only [aR]
  rw[if_neg (by decide +kernel),if_neg (by decide +kernel),if_neg (by decide +kernel),if_neg (by decide +kernel),if_pos rfl,h]
 have al:∀ r:List Str,bG C cs r=false->aR C cs (("alike" : Str)::r)=false:=λr h=>by
  dsimp only [aR]
  rw[if_neg (by decide +kernel),if_neg (by decide +kernel),if_neg (by decide +kernel),if_neg (by decide +kernel),if_neg (by decide +kernel),h,Bool.and_false]
 have oth:∀ (k:Str) (r:List Str),k=("" : Str)\/k=("Carry" : Str)\/k=("tell" : Str)->aR C cs (k::r)=false:=λk r hk=>by
  dsimp only [aR]
  rw[if_neg (by rcases hk with rfl | rfl | rfl <;> decide +kernel),if_neg (by rcases hk with rfl | rfl | rfl <;> decide +kernel),if_neg (by rcases hk with rfl | rfl | rfl <;> decide +kernel),if_neg (by rcases hk with rfl | rfl | rfl <;> decide +kernel),if_neg (by rcases hk with rfl | rfl | rfl <;> decide +kernel)]
  rw[decide_eq_false (by rcases hk with rfl | rfl | rfl <;> decide +kernel),Bool.false_and]
 have p1:∀ x:Nat,pairOf C ⟨#[x]⟩=false:=λx=>rfl
 have p3:∀ x y z:Nat,pairOf C ⟨#[x,y,z]⟩=false:=λx y z=>rfl
 have p2:∀ x:Nat,pairOf C ⟨#[x,b]⟩=false:=λx=>by show (C ⟨#[x]⟩&&C ⟨#[b]⟩)=false;rw[Cb,Bool.and_false]
 have sa:dF C ⟨#[a]⟩=false:=by unfold dF;rw[Ca];simp
 have sbb:dF C ⟨#[b,b]⟩=false:=by unfold dF;rw[l2];rfl
 have k1:∀ x:Nat,di C ⟨#[x]⟩=false:=λx=>rfl
 have k5:∀ x:Nat,di C ⟨#[x,x,x,x,x]⟩=false:=λx=>rfl
 have kab:di C ⟨#[a,b]⟩=false:=by show (decide (2<=2)&&decide (2<=4)&&(dF C ⟨#[a]⟩&&(dF C ⟨#[b]⟩&&true)))=false;rw[sa];rfl
 have kba:di C ⟨#[b,a]⟩=false:=by show (decide (2<=2)&&decide (2<=4)&&(dF C ⟨#[b]⟩&&(dF C ⟨#[a]⟩&&true)))=false;rw[sa];simp
 have r2:∀ x:Str,x=("now" : Str)\/x=("Must" : Str)->decide (x=("never" : Str)\/x=("may" : Str)\/x=("must" : Str))=false:=λx hx=>by rcases hx with rfl | rfl <;> decide +kernel
 intro ws hws
 unfold bw at hws
 simp only[List.mem_append] at hws
 rcases hws with (((((((((h | h) | h) | h) | h) | h) | h) | h) | h) | h)
 ·simp only[bw0,List.mem_cons,List.not_mem_nil,or_false] at h
  rcases h with rfl | rfl | rfl | rfl | rfl | rfl | rfl | rfl
  all_goals first
   | exact oth _ _ (.inl rfl)
   | exact oth _ _ (.inr (.inl rfl))
   | exact oth _ _ (.inr (.inr rfl))
   | exact carry0
   | exact carry _ (by simp[l0,l1,l2,lu,la,lb])
   | exact one _ (by simp[p1,p2,p3])
   | exact lg _ _ (.inl rfl) (by simp[nb,nab,nbb,naaa])
   | exact lg _ _ (.inr rfl) (by simp[nb,nab,nbb,naaa])
   | exact bg _ _ (.inl rfl) (by simp[k1,k5,kab,kba])
   | exact bg _ _ (.inr rfl) (by simp[k1,k5,kab,kba])
   | exact run _ (by simp[r2])
   | exact run _ (by decide +kernel)
   | exact al _ (by simp[bG,nb,nbb,naaa,sa,sbb])
 ·simp only[bw1,List.mem_cons,List.not_mem_nil,or_false] at h
  rcases h with rfl | rfl | rfl | rfl | rfl
  all_goals first
   | exact oth _ _ (.inl rfl)
   | exact oth _ _ (.inr (.inl rfl))
   | exact oth _ _ (.inr (.inr rfl))
   | exact carry0
   | exact carry _ (by simp[l0,l1,l2,lu,la,lb])
   | exact one _ (by simp[p1,p2,p3])
   | exact lg _ _ (.inl rfl) (by simp[nb,nab,nbb,naaa])
   | exact lg _ _ (.inr rfl) (by simp[nb,nab,nbb,naaa])
   | exact bg _ _ (.inl rfl) (by simp[k1,k5,kab,kba])
   | exact bg _ _ (.inr rfl) (by simp[k1,k5,kab,kba])
   | exact run _ (by simp[r2])
   | exact run _ (by decide +kernel)
   | exact al _ (by simp[bG,nb,nbb,naaa,sa,sbb])
 ·simp only[bw2,List.mem_cons,List.not_mem_nil,or_false] at h
  rcases h with rfl | rfl | rfl | rfl | rfl
  all_goals first
   | exact oth _ _ (.inl rfl)
   | exact oth _ _ (.inr (.inl rfl))
   | exact oth _ _ (.inr (.inr rfl))
   | exact carry0
   | exact carry _ (by simp[l0,l1,l2,lu,la,lb])
   | exact one _ (by simp[p1,p2,p3])
   | exact lg _ _ (.inl rfl) (by simp[nb,nab,nbb,naaa])
   | exact lg _ _ (.inr rfl) (by simp[nb,nab,nbb,naaa])
   | exact bg _ _ (.inl rfl) (by simp[k1,k5,kab,kba])
   | exact bg _ _ (.inr rfl) (by simp[k1,k5,kab,kba])
   | exact run _ (by simp[r2])
   | exact run _ (by decide +kernel)
   | exact al _ (by simp[bG,nb,nbb,naaa,sa,sbb])
 ·simp only[bw3,List.mem_cons,List.not_mem_nil,or_false] at h
  rcases h with rfl | rfl | rfl | rfl | rfl
  all_goals first
   | exact oth _ _ (.inl rfl)
   | exact oth _ _ (.inr (.inl rfl))
   | exact oth _ _ (.inr (.inr rfl))
   | exact carry0
   | exact carry _ (by simp[l0,l1,l2,lu,la,lb])
   | exact one _ (by simp[p1,p2,p3])
   | exact lg _ _ (.inl rfl) (by simp[nb,nab,nbb,naaa])
   | exact lg _ _ (.inr rfl) (by simp[nb,nab,nbb,naaa])
   | exact bg _ _ (.inl rfl) (by simp[k1,k5,kab,kba])
   | exact bg _ _ (.inr rfl) (by simp[k1,k5,kab,kba])
   | exact run _ (by simp[r2])
   | exact run _ (by decide +kernel)
   | exact al _ (by simp[bG,nb,nbb,naaa,sa,sbb])
 ·simp only[bw4,List.mem_cons,List.not_mem_nil,or_false] at h
  rcases h with rfl | rfl | rfl | rfl | rfl
  all_goals first
   | exact oth _ _ (.inl rfl)
   | exact oth _ _ (.inr (.inl rfl))
   | exact oth _ _ (.inr (.inr rfl))
   | exact carry0
   | exact carry _ (by simp[l0,l1,l2,lu,la,lb])
   | exact one _ (by simp[p1,p2,p3])
   | exact lg _ _ (.inl rfl) (by simp[nb,nab,nbb,naaa])
   | exact lg _ _ (.inr rfl) (by simp[nb,nab,nbb,naaa])
   | exact bg _ _ (.inl rfl) (by simp[k1,k5,kab,kba])
   | exact bg _ _ (.inr rfl) (by simp[k1,k5,kab,kba])
   | exact run _ (by simp[r2])
   | exact run _ (by decide +kernel)
   | exact al _ (by simp[bG,nb,nbb,naaa,sa,sbb])
 ·simp only[bw5,List.mem_cons,List.not_mem_nil,or_false] at h
  rcases h with rfl | rfl | rfl | rfl | rfl
  all_goals first
   | exact oth _ _ (.inl rfl)
   | exact oth _ _ (.inr (.inl rfl))
   | exact oth _ _ (.inr (.inr rfl))
   | exact carry0
   | exact carry _ (by simp[l0,l1,l2,lu,la,lb])
   | exact one _ (by simp[p1,p2,p3])
   | exact lg _ _ (.inl rfl) (by simp[nb,nab,nbb,naaa])
   | exact lg _ _ (.inr rfl) (by simp[nb,nab,nbb,naaa])
   | exact bg _ _ (.inl rfl) (by simp[k1,k5,kab,kba])
   | exact bg _ _ (.inr rfl) (by simp[k1,k5,kab,kba])
   | exact run _ (by simp[r2])
   | exact run _ (by decide +kernel)
   | exact al _ (by simp[bG,nb,nbb,naaa,sa,sbb])
 ·simp only[bw6,List.mem_cons,List.not_mem_nil,or_false] at h
  rcases h with rfl | rfl | rfl | rfl | rfl
  all_goals first
   | exact oth _ _ (.inl rfl)
   | exact oth _ _ (.inr (.inl rfl))
   | exact oth _ _ (.inr (.inr rfl))
   | exact carry0
   | exact carry _ (by simp[l0,l1,l2,lu,la,lb])
   | exact one _ (by simp[p1,p2,p3])
   | exact lg _ _ (.inl rfl) (by simp[nb,nab,nbb,naaa])
   | exact lg _ _ (.inr rfl) (by simp[nb,nab,nbb,naaa])
   | exact bg _ _ (.inl rfl) (by simp[k1,k5,kab,kba])
   | exact bg _ _ (.inr rfl) (by simp[k1,k5,kab,kba])
   | exact run _ (by simp[r2])
   | exact run _ (by decide +kernel)
   | exact al _ (by simp[bG,nb,nbb,naaa,sa,sbb])
 ·simp only[bw7,List.mem_cons,List.not_mem_nil,or_false] at h
  rcases h with rfl | rfl | rfl | rfl | rfl
  all_goals first
   | exact oth _ _ (.inl rfl)
   | exact oth _ _ (.inr (.inl rfl))
   | exact oth _ _ (.inr (.inr rfl))
   | exact carry0
   | exact carry _ (by simp[l0,l1,l2,lu,la,lb])
   | exact one _ (by simp[p1,p2,p3])
   | exact lg _ _ (.inl rfl) (by simp[nb,nab,nbb,naaa])
   | exact lg _ _ (.inr rfl) (by simp[nb,nab,nbb,naaa])
   | exact bg _ _ (.inl rfl) (by simp[k1,k5,kab,kba])
   | exact bg _ _ (.inr rfl) (by simp[k1,k5,kab,kba])
   | exact run _ (by simp[r2])
   | exact run _ (by decide +kernel)
   | exact al _ (by simp[bG,nb,nbb,naaa,sa,sbb])
 ·simp only[bw8,List.mem_cons,List.not_mem_nil,or_false] at h
  rcases h with rfl | rfl | rfl
  all_goals first
   | exact oth _ _ (.inl rfl)
   | exact oth _ _ (.inr (.inl rfl))
   | exact oth _ _ (.inr (.inr rfl))
   | exact carry0
   | exact carry _ (by simp[l0,l1,l2,lu,la,lb])
   | exact one _ (by simp[p1,p2,p3])
   | exact lg _ _ (.inl rfl) (by simp[nb,nab,nbb,naaa])
   | exact lg _ _ (.inr rfl) (by simp[nb,nab,nbb,naaa])
   | exact bg _ _ (.inl rfl) (by simp[k1,k5,kab,kba])
   | exact bg _ _ (.inr rfl) (by simp[k1,k5,kab,kba])
   | exact run _ (by simp[r2])
   | exact run _ (by decide +kernel)
   | exact al _ (by simp[bG,nb,nbb,naaa,sa,sbb])
 ·simp only[bw9,List.mem_cons,List.not_mem_nil,or_false] at h
  rcases h with rfl | rfl
  all_goals first
   | exact oth _ _ (.inl rfl)
   | exact oth _ _ (.inr (.inl rfl))
   | exact oth _ _ (.inr (.inr rfl))
   | exact carry0
   | exact carry _ (by simp[l0,l1,l2,lu,la,lb])
   | exact one _ (by simp[p1,p2,p3])
   | exact lg _ _ (.inl rfl) (by simp[nb,nab,nbb,naaa])
   | exact lg _ _ (.inr rfl) (by simp[nb,nab,nbb,naaa])
   | exact bg _ _ (.inl rfl) (by simp[k1,k5,kab,kba])
   | exact bg _ _ (.inr rfl) (by simp[k1,k5,kab,kba])
   | exact run _ (by simp[r2])
   | exact run _ (by decide +kernel)
   | exact al _ (by simp[bG,nb,nbb,naaa,sa,sbb])
end My
namespace My
open PySem L2 MR
def WP (w:Str):Prop:=w.length<=100/\32∉w.cps.toList/\∀ c∈w.cps.toList,c < 200
instance (w:Str):Decidable (WP w):=inferInstanceAs (Decidable (_/\_/\_))
theorem fG {l:List Nat}(h1:l.length<=100) (h2:32∉l) (h3:∀ c∈l,c < 200):WP ⟨l.toArray⟩:=⟨h1,h2,h3⟩
theorem nY {a b:Nat}(a1:97<=a) (a2:a < 123) (b1:97<=b) (b2:b < 123):∀ ws∈bw a b,ws≠[]/\ws.length<=5/\∀ w∈ws,WP w:=by
 have e0:WP "" := by decide +kernel
 have e1:WP "carry" := by decide +kernel
 have e2:WP "Carry" := by decide +kernel
 have e3:WP "1" := by decide +kernel
 have e4:WP "one" := by decide +kernel
 have e5:WP "long" := by decide +kernel
 have e6:WP "either" := by decide +kernel
 have e7:WP "begin" := by decide +kernel
 have e8:WP "split" := by decide +kernel
 have e9:WP "run" := by decide +kernel
 have f0:WP "now" := by decide +kernel
 have f1:WP "may" := by decide +kernel
 have f2:WP "Must" := by decide +kernel
 have f3:WP "alike" := by decide +kernel
 have f4:WP "tell" := by decide +kernel
 have c1:WP ⟨#[a]⟩:=fG (l:=[a]) (by simp) (by simp;omega) (by simp;omega)
 have c2:WP ⟨#[b]⟩:=fG (l:=[b]) (by simp) (by simp;omega) (by simp;omega)
 have c3:WP ⟨#[a,b]⟩:=fG (l:=[a,b]) (by simp) (by simp;omega) (by simp;omega)
 have c4:WP ⟨#[b,a]⟩:=fG (l:=[b,a]) (by simp) (by simp;omega) (by simp;omega)
 have c5:WP ⟨#[b,b]⟩:=fG (l:=[b,b]) (by simp) (by simp;omega) (by simp;omega)
 have c6:WP ⟨#[a,a,a]⟩:=fG (l:=[a,a,a]) (by simp) (by simp;omega) (by simp;omega)
 have c7:WP ⟨#[b,b,b,b,b]⟩:=fG (l:=[b,b,b,b,b]) (by simp) (by simp;omega) (by simp;omega)
 have c8:WP ⟨#[a - 32]⟩:=fG (l:=[a - 32]) (by simp) (by simp;omega) (by simp;omega)
 have c9:WP ⟨#[a,44]⟩:=fG (l:=[a,44]) (by simp) (by simp;omega) (by simp;omega)
 have key:∀ l:List (List Str),(∀ ws∈l,(ws≠[]/\ws.length<=5)/\∀ w∈ws,WP w)->∀ ws∈l,ws≠[]/\ws.length<=5/\∀ w∈ws,WP w:=λl h ws hw=>⟨(h ws hw).1.1,(h ws hw).1.2,(h ws hw).2⟩
 refine key _ ?_
 unfold bw
 simp only[List.forall_mem_append]
 refine⟨⟨⟨⟨⟨⟨⟨⟨⟨?_,?_⟩,?_⟩,?_⟩,?_⟩,?_⟩,?_⟩,?_⟩,?_⟩,?_⟩
 ·simp[bw0,e0,e1,e2,c1]
 ·simp[bw1,e1,e3,e4,c8,c3,c9,c2]
 ·simp[bw2,e4,c1,c3,c6,c5]
 ·simp[bw3,e5,e6,c1,c2,c3,c5,c6]
 ·simp[bw4,e6,e7,c2,c7,c4]
 ·simp[bw5,e7,e8,e9,f0,c5,c2,c3]
 ·simp[bw6,e9,f1,f2,f3,f4,c1,c2]
 ·simp[bw7,f3,e6,e8,c1,c5,c2]
 ·simp[bw8,f3,c1,c2,c5,c6]
 ·simp[bw9,e8,c7,c2,c5]
theorem K5 {a b:Nat}(a1:97<=a) (a2:a < 123) (b1:97<=b) (b2:b < 123){ws:List Str}(h:ws∈bw a b):bF (Str.join (" " : Str) ws)=ws:=by
 obtain⟨h1,_,h3⟩:=nY a1 a2 b1 b2 ws h
 exact lw h1 λw hw=>(h3 w hw).2.1
theorem PK {R:Rc}(G:R.Good){a b:Nat}(h:AB R a b){ws:List Str}(hw:ws∈bw a b):BadR R ws:=by
 obtain⟨h1,h2,h3⟩:=nY h.a1 h.a2 h.b1 h.b2 ws hw
 exact⟨h1,by omega,λw hw=>(h3 w hw).1,K4 G h ws hw⟩
theorem K6 {a b:Nat}(a1:97<=a) (a2:a < 123) (b1:97<=b) (b2:b < 123){ws:List Str}(h:ws∈bw a b):(Str.join (" " : Str) ws).length<=1000:=by
 obtain⟨h1,h2,h3⟩:=nY a1 a2 b1 b2 ws h
 have hj:=StrLaws.join_length_le (" " : Str) ws
 have hs:(ws.map (·.length)).sum<=100*ws.length:=by
  have gen:∀ l:List Str,(∀ w∈l,w.length<=100)->(l.map (·.length)).sum<=100*l.length:=by
   intro l
   induction l with
   | nil=>intro _;simp
   | cons w l ih=>
    intro h
    have:=ih λy hy=>h y (List.mem_cons_of_mem _ hy)
    have:=h w List.mem_cons_self
    simp;omega
  exact gen ws λw hw=>(h3 w hw).1
 have hb:(" " : Str).length=1:=mz
 rw[hb] at hj
 omega
end My
namespace My
open PySem L2 MR
theorem ch0 (a b:Nat) (x0 x1 x4:Option PV):(aX (aa (bC (.str "")) (aa (bC (.str " ")) (aa (bC (.str "carry")) (aa (bC (.str "carry ")) (aa (b2 ak (bC (.str "carry  ")) (bV 2)) (aa (b2 ak (b2 ak (bC (.str "carry ")) (bV 2)) (bC (.str " "))) (aa (b2 ak (bC (.str " carry ")) (bV 2)) (aa (b2 ak (bC (.str "Carry ")) (bV 2)) aA))))))))) [x0,x1,some (.str ⟨#[a]⟩),some (.str ⟨#[b]⟩),x4]=some (.lst (((bw0 a b).map (Str.join (" " : Str))).map .str)):=by kernel_rfl
theorem ch2 (a b:Nat) (x0 x1 x4:Option PV):(aX (aa (b2 ak (bC (.str "one ")) (bV 2)) (aa (b2 ak (b2 ak (bC (.str "one ")) (bV 2)) (bV 3)) (aa (b2 ak (bC (.str "one ")) (b2 aZ (bV 2) (bC (.int 3)))) (aa (b2 ak (bC (.str "one ")) (b2 aZ (bV 3) (bC (.int 2)))) (aa (b2 ak (b2 ak (b2 ak (bC (.str "one ")) (bV 2)) (bC (.str " "))) (bV 2)) aA)))))) [x0,x1,some (.str ⟨#[a]⟩),some (.str ⟨#[b]⟩),x4]=some (.lst (((bw2 a b).map (Str.join (" " : Str))).map .str)):=by kernel_rfl
theorem ch3 (a b:Nat) (x0 x1 x4:Option PV):(aX (aa (bC (.str "long")) (aa (b2 ak (bC (.str "long ")) (bV 3)) (aa (b2 ak (b2 ak (bC (.str "long ")) (bV 2)) (bV 3)) (aa (b2 ak (b2 ak (b2 ak (bC (.str "long ")) (bV 2)) (bC (.str " "))) (b2 aZ (bV 3) (bC (.int 2)))) (aa (b2 ak (bC (.str "either ")) (b2 aZ (bV 2) (bC (.int 3)))) aA)))))) [x0,x1,some (.str ⟨#[a]⟩),some (.str ⟨#[b]⟩),x4]=some (.lst (((bw3 a b).map (Str.join (" " : Str))).map .str)):=by kernel_rfl
theorem ch4 (a b:Nat) (x0 x1 x4:Option PV):(aX (aa (b2 ak (bC (.str "either ")) (bV 3)) (aa (bC (.str "begin")) (aa (b2 ak (bC (.str "begin ")) (bV 3)) (aa (b2 ak (bC (.str "begin ")) (b2 aZ (bV 3) (bC (.int 5)))) (aa (b2 ak (b2 ak (bC (.str "begin ")) (bV 3)) (bV 2)) aA)))))) [x0,x1,some (.str ⟨#[a]⟩),some (.str ⟨#[b]⟩),x4]=some (.lst (((bw4 a b).map (Str.join (" " : Str))).map .str)):=by kernel_rfl
theorem ch5 (a b:Nat) (x0 x1 x4:Option PV):(aX (aa (b2 ak (b2 ak (b2 ak (bC (.str "begin ")) (b2 aZ (bV 3) (bC (.int 2)))) (bC (.str " "))) (bV 3)) (aa (b2 ak (b2 ak (bC (.str "split ")) (bV 2)) (bV 3)) (aa (b2 ak (bC (.str "split ")) (bV 3)) (aa (bC (.str "run")) (aa (bC (.str "run now")) aA)))))) [x0,x1,some (.str ⟨#[a]⟩),some (.str ⟨#[b]⟩),x4]=some (.lst (((bw5 a b).map (Str.join (" " : Str))).map .str)):=by kernel_rfl
theorem ch6 (a b:Nat) (x0 x1 x4:Option PV):(aX (aa (bC (.str "run may may")) (aa (bC (.str "run Must")) (aa (b2 ak (bC (.str "alike ")) (bV 2)) (aa (b2 ak (b2 ak (b2 ak (bC (.str "alike ")) (bV 2)) (bC (.str " "))) (bV 3)) (aa (b2 ak (bC (.str "tell ")) (bV 2)) aA)))))) [x0,x1,some (.str ⟨#[a]⟩),some (.str ⟨#[b]⟩),x4]=some (.lst (((bw6 a b).map (Str.join (" " : Str))).map .str)):=by kernel_rfl
theorem ch7 (a b:Nat) (x0 x1 x4:Option PV):(aX (aa (b2 ak (b2 ak (b2 ak (b2 ak (b2 ak (bC (.str "alike ")) (bV 2)) (bC (.str " "))) (bV 2)) (bC (.str " "))) (bV 2)) (aa (b2 ak (b2 ak (b2 ak (bC (.str "alike ")) (b2 aZ (bV 3) (bC (.int 2)))) (bC (.str " "))) (bV 3)) (aa (bC (.str "either")) (aa (bC (.str "split")) (aa (bC (.str "alike")) aA)))))) [x0,x1,some (.str ⟨#[a]⟩),some (.str ⟨#[b]⟩),x4]=some (.lst (((bw7 a b).map (Str.join (" " : Str))).map .str)):=by kernel_rfl
theorem ch8 (a b:Nat) (x0 x1 x4:Option PV):(aX (aa (b2 ak (b2 ak (b2 ak (bC (.str "alike ")) (bV 3)) (bC (.str " "))) (bV 2)) (aa (b2 ak (b2 ak (b2 ak (bC (.str "alike ")) (bV 3)) (bC (.str " "))) (b2 aZ (bV 3) (bC (.int 2)))) (aa (b2 ak (b2 ak (b2 ak (bC (.str "alike ")) (bV 2)) (bC (.str " "))) (b2 aZ (bV 2) (bC (.int 3)))) aA)))) [x0,x1,some (.str ⟨#[a]⟩),some (.str ⟨#[b]⟩),x4]=some (.lst (((bw8 a b).map (Str.join (" " : Str))).map .str)):=by kernel_rfl
theorem ch9 (a b:Nat) (x0 x1 x4:Option PV):(aX (aa (b2 ak (bC (.str "split ")) (b2 aZ (bV 3) (bC (.int 5)))) (aa (b2 ak (b2 ak (b2 ak (bC (.str "split ")) (bV 3)) (bC (.str " "))) (b2 aZ (bV 3) (bC (.int 2)))) aA))) [x0,x1,some (.str ⟨#[a]⟩),some (.str ⟨#[b]⟩),x4]=some (.lst (((bw9 a b).map (Str.join (" " : Str))).map .str)):=by kernel_rfl
theorem CT:∀ n:Fin 26,Txt.upper ⟨#[97+n.val]⟩=⟨#[97+n.val - 32]⟩:=by decide +kernel
theorem Fl {a:Nat}(h1:97<=a) (h2:a < 123):Txt.upper ⟨#[a]⟩=⟨#[a - 32]⟩:=by
 have:=CT ⟨a - 97,by omega⟩
 have e:97+(a - 97)=a:=by omega
 simp only[e] at this
 exact this
theorem ch1 (a b:Nat) (h1:97<=a) (h2:a < 123) (x0 x1 x4:Option PV):(aX (aa (b2 ak (bC (.str "carry ")) (b1 gW (bV 2))) (aa (b2 ak (b2 ak (bC (.str "carry ")) (bV 2)) (bV 3)) (aa (bC (.str "carry 1")) (aa (b2 ak (b2 ak (b2 ak (bC (.str "carry ")) (bV 2)) (bC (.str ", "))) (bV 3)) (aa (bC (.str "one")) aA)))))) [x0,x1,some (.str ⟨#[a]⟩),some (.str ⟨#[b]⟩),x4]=some (.lst (((bw1 a b).map (Str.join (" " : Str))).map .str)):=by
 have hf:(b1 gW (bV 2)) [x0,x1,some (.str ⟨#[a]⟩),some (.str ⟨#[b]⟩),x4]=some (.str ⟨#[a - 32]⟩):=by
  have h:gW (.str ⟨#[a]⟩)=some (.str ⟨#[a - 32]⟩):=by
   show (if (⟨#[a]⟩:Str).length<=1000 then some (PV.str (Txt.upper ⟨#[a]⟩)) else none)=some (PV.str ⟨#[a - 32]⟩)
   rw[Fl h1 h2]
   rfl
  exact h
 have e:(aX (aa (b2 ak (bC (.str "carry ")) (b1 gW (bV 2))) (aa (b2 ak (b2 ak (bC (.str "carry ")) (bV 2)) (bV 3)) (aa (bC (.str "carry 1")) (aa (b2 ak (b2 ak (b2 ak (bC (.str "carry ")) (bV 2)) (bC (.str ", "))) (bV 3)) (aa (bC (.str "one")) aA)))))) [x0,x1,some (.str ⟨#[a]⟩),some (.str ⟨#[b]⟩),x4]=(aX (aa (b2 ak (bC (.str "carry ")) (bC (.str ⟨#[a - 32]⟩))) (aa (b2 ak (b2 ak (bC (.str "carry ")) (bV 2)) (bV 3)) (aa (bC (.str "carry 1")) (aa (b2 ak (b2 ak (b2 ak (bC (.str "carry ")) (bV 2)) (bC (.str ", "))) (bV 3)) (aa (bC (.str "one")) aA)))))) [x0,x1,some (.str ⟨#[a]⟩),some (.str ⟨#[b]⟩),x4]:=by
  generalize (b1 gW (bV 2))=f at *
  simp only[G3,DN,kJ,hf,rF]
 rw[e]
 kernel_rfl
theorem K7 {R:Rc}(G:R.Good){a b:Nat}(a1:97<=a) (a2:a < 123){c:Int}(hone:atI (R.carriers.map PV.str) (c / 48 % (R.carriers.length:Int))=some (PV.str ⟨#[a]⟩)) (hstop:letter R.base 25=⟨#[b]⟩):
  ∃ ws∈bw a b,bh [aW R,.int c]=some (.str (Str.join (" " : Str) ws)):=by
 have hl0:(0:Int) < (R.carriers.length:Int):=by rw[G.car];simp;exact G.m1
 have hl7:(R.carriers.length:Int) < 1073741824:=by rw[G.car];simp;have:=G.m7;omega
 have hlt:=mV R.base 25
 rw[hstop] at hlt
 have i0:ixP (aW R) (.int 0)=some (.lst (R.carriers.map .str)):=rfl
 have i7:ixP (aW R) (.int 7)=some (.int R.base):=rfl
 have hm0:0<=c % 48:=Int.emod_nonneg _ (by decide)
 have hm1:c % 48 < 48:=Int.emod_lt_of_pos _ (by decide)
 have l48:(bw a b).length=48:=rfl
 obtain⟨k,hk⟩:∃ k:Nat,c % 48=k:=⟨(c % 48).toNat,by omega⟩
 have hk48:k < (bw a b).length:=by rw[l48];omega
 refine⟨_,List.getElem_mem hk48,?_⟩
 have hat:atI (((bw a b).map (Str.join (" " : Str))).map PV.str) (k:Int)=some (PV.str (Str.join (" " : Str) (bw a b)[k])):=bZ (by rw[List.getElem?_map,List.getElem?_map,List.getElem?_eq_getElem hk48];rfl)
 generalize (bw a b)[k]=W at *
 have s1:aP 2 (b2 ixP (b2 ixP (bV 0) (bC (.int 0))) (b2 cV (b2 g8 (bV 1) (bC (.int 48))) (b1 lenV (b2 ixP (bV 0) (bC (.int 0)))))) [some (aW R),some (.int c),none,none,none]=some (.nx [some (aW R),some (.int c),some (.str ⟨#[a]⟩),none,none]):=by
  have hlen:((R.carriers.map PV.str).length:Int)=(R.carriers.length:Int):=by simp
  generalize aW R=RP,R.carriers.map PV.str=CP,(R.carriers.length:Int)=n at *
  simp[-ixP,i0,hlen,hl0]
  simp[hone]
 have s2:aP 3 (aL aY (aa (b2 ixP (bV 0) (bC (.int 7))) (aa (bC (.int 25)) aA))) [some (aW R),some (.int c),some (.str ⟨#[a]⟩),none,none]=some (.nx [some (aW R),some (.int c),some (.str ⟨#[a]⟩),some (.str ⟨#[b]⟩),none]):=by
  generalize aW R=RP,aY=ML at *
  simp[-ixP,i7,hlt]
 generalize aW R=RP at *
 have t0:aP 4 (aX (aa (bC (.str "")) (aa (bC (.str " ")) (aa (bC (.str "carry")) (aa (bC (.str "carry ")) (aa (b2 ak (bC (.str "carry  ")) (bV 2)) (aa (b2 ak (b2 ak (bC (.str "carry ")) (bV 2)) (bC (.str " "))) (aa (b2 ak (bC (.str " carry ")) (bV 2)) (aa (b2 ak (bC (.str "Carry ")) (bV 2)) aA))))))))) [some RP,some (.int c),some (.str ⟨#[a]⟩),some (.str ⟨#[b]⟩),none]=some (.nx [some RP,some (.int c),some (.str ⟨#[a]⟩),some (.str ⟨#[b]⟩),some (.lst (((bw0 a b).map (Str.join (" " : Str))).map PV.str))]):=by
  have h:=ch0 a b (some RP) (some (.int c)) (none)
  generalize (aX (aa (bC (.str "")) (aa (bC (.str " ")) (aa (bC (.str "carry")) (aa (bC (.str "carry ")) (aa (b2 ak (bC (.str "carry  ")) (bV 2)) (aa (b2 ak (b2 ak (bC (.str "carry ")) (bV 2)) (bC (.str " "))) (aa (b2 ak (bC (.str " carry ")) (bV 2)) (aa (b2 ak (bC (.str "Carry ")) (bV 2)) aA)))))))))=F,(((bw0 a b).map (Str.join (" " : Str))).map PV.str)=ME at *
  simp[h]
 have t1:aP 4 (b2 cX (bV 4) (aX (aa (b2 ak (bC (.str "carry ")) (b1 gW (bV 2))) (aa (b2 ak (b2 ak (bC (.str "carry ")) (bV 2)) (bV 3)) (aa (bC (.str "carry 1")) (aa (b2 ak (b2 ak (b2 ak (bC (.str "carry ")) (bV 2)) (bC (.str ", "))) (bV 3)) (aa (bC (.str "one")) aA))))))) [some RP,some (.int c),some (.str ⟨#[a]⟩),some (.str ⟨#[b]⟩),some (.lst (((bw0 a b).map (Str.join (" " : Str))).map PV.str))]=some (.nx [some RP,some (.int c),some (.str ⟨#[a]⟩),some (.str ⟨#[b]⟩),some (.lst ((((bw0 a b).map (Str.join (" " : Str))).map PV.str)++(((bw1 a b).map (Str.join (" " : Str))).map PV.str)))]):=by
  have h:=ch1 a b a1 a2 (some RP) (some (.int c)) (some (.lst (((bw0 a b).map (Str.join (" " : Str))).map PV.str)))
  generalize (aX (aa (b2 ak (bC (.str "carry ")) (b1 gW (bV 2))) (aa (b2 ak (b2 ak (bC (.str "carry ")) (bV 2)) (bV 3)) (aa (bC (.str "carry 1")) (aa (b2 ak (b2 ak (b2 ak (bC (.str "carry ")) (bV 2)) (bC (.str ", "))) (bV 3)) (aa (bC (.str "one")) aA))))))=F at *
  have hl:((((bw0 a b).map (Str.join (" " : Str))).map PV.str)).length+((((bw1 a b).map (Str.join (" " : Str))).map PV.str)).length<=1000000:=by simp[bw0,bw1,bw2,bw3,bw4,bw5,bw6,bw7,bw8,bw9]
  generalize (((bw0 a b).map (Str.join (" " : Str))).map PV.str)=AC,(((bw1 a b).map (Str.join (" " : Str))).map PV.str)=ME at *
  simp[h,hl]
 have t2:aP 4 (b2 cX (bV 4) (aX (aa (b2 ak (bC (.str "one ")) (bV 2)) (aa (b2 ak (b2 ak (bC (.str "one ")) (bV 2)) (bV 3)) (aa (b2 ak (bC (.str "one ")) (b2 aZ (bV 2) (bC (.int 3)))) (aa (b2 ak (bC (.str "one ")) (b2 aZ (bV 3) (bC (.int 2)))) (aa (b2 ak (b2 ak (b2 ak (bC (.str "one ")) (bV 2)) (bC (.str " "))) (bV 2)) aA))))))) [some RP,some (.int c),some (.str ⟨#[a]⟩),some (.str ⟨#[b]⟩),some (.lst ((((bw0 a b).map (Str.join (" " : Str))).map PV.str)++(((bw1 a b).map (Str.join (" " : Str))).map PV.str)))]=some (.nx [some RP,some (.int c),some (.str ⟨#[a]⟩),some (.str ⟨#[b]⟩),some (.lst (((((bw0 a b).map (Str.join (" " : Str))).map PV.str)++(((bw1 a b).map (Str.join (" " : Str))).map PV.str))++(((bw2 a b).map (Str.join (" " : Str))).map PV.str)))]):=by
  have h:=ch2 a b (some RP) (some (.int c)) (some (.lst ((((bw0 a b).map (Str.join (" " : Str))).map PV.str)++(((bw1 a b).map (Str.join (" " : Str))).map PV.str))))
  generalize (aX (aa (b2 ak (bC (.str "one ")) (bV 2)) (aa (b2 ak (b2 ak (bC (.str "one ")) (bV 2)) (bV 3)) (aa (b2 ak (bC (.str "one ")) (b2 aZ (bV 2) (bC (.int 3)))) (aa (b2 ak (bC (.str "one ")) (b2 aZ (bV 3) (bC (.int 2)))) (aa (b2 ak (b2 ak (b2 ak (bC (.str "one ")) (bV 2)) (bC (.str " "))) (bV 2)) aA))))))=F at *
  have hl:(((((bw0 a b).map (Str.join (" " : Str))).map PV.str)++(((bw1 a b).map (Str.join (" " : Str))).map PV.str))).length+((((bw2 a b).map (Str.join (" " : Str))).map PV.str)).length<=1000000:=by simp[bw0,bw1,bw2,bw3,bw4,bw5,bw6,bw7,bw8,bw9]
  generalize ((((bw0 a b).map (Str.join (" " : Str))).map PV.str)++(((bw1 a b).map (Str.join (" " : Str))).map PV.str))=AC,(((bw2 a b).map (Str.join (" " : Str))).map PV.str)=ME at *
  simp[h,hl]
 have t3:aP 4 (b2 cX (bV 4) (aX (aa (bC (.str "long")) (aa (b2 ak (bC (.str "long ")) (bV 3)) (aa (b2 ak (b2 ak (bC (.str "long ")) (bV 2)) (bV 3)) (aa (b2 ak (b2 ak (b2 ak (bC (.str "long ")) (bV 2)) (bC (.str " "))) (b2 aZ (bV 3) (bC (.int 2)))) (aa (b2 ak (bC (.str "either ")) (b2 aZ (bV 2) (bC (.int 3)))) aA))))))) [some RP,some (.int c),some (.str ⟨#[a]⟩),some (.str ⟨#[b]⟩),some (.lst (((((bw0 a b).map (Str.join (" " : Str))).map PV.str)++(((bw1 a b).map (Str.join (" " : Str))).map PV.str))++(((bw2 a b).map (Str.join (" " : Str))).map PV.str)))]=some (.nx [some RP,some (.int c),some (.str ⟨#[a]⟩),some (.str ⟨#[b]⟩),some (.lst ((((((bw0 a b).map (Str.join (" " : Str))).map PV.str)++(((bw1 a b).map (Str.join (" " : Str))).map PV.str))++(((bw2 a b).map (Str.join (" " : Str))).map PV.str))++(((bw3 a b).map (Str.join (" " : Str))).map PV.str)))]):=by
  have h:=ch3 a b (some RP) (some (.int c)) (some (.lst (((((bw0 a b).map (Str.join (" " : Str))).map PV.str)++(((bw1 a b).map (Str.join (" " : Str))).map PV.str))++(((bw2 a b).map (Str.join (" " : Str))).map PV.str))))
  generalize (aX (aa (bC (.str "long")) (aa (b2 ak (bC (.str "long ")) (bV 3)) (aa (b2 ak (b2 ak (bC (.str "long ")) (bV 2)) (bV 3)) (aa (b2 ak (b2 ak (b2 ak (bC (.str "long ")) (bV 2)) (bC (.str " "))) (b2 aZ (bV 3) (bC (.int 2)))) (aa (b2 ak (bC (.str "either ")) (b2 aZ (bV 2) (bC (.int 3)))) aA))))))=F at *
  have hl:((((((bw0 a b).map (Str.join (" " : Str))).map PV.str)++(((bw1 a b).map (Str.join (" " : Str))).map PV.str))++(((bw2 a b).map (Str.join (" " : Str))).map PV.str))).length+((((bw3 a b).map (Str.join (" " : Str))).map PV.str)).length<=1000000:=by simp[bw0,bw1,bw2,bw3,bw4,bw5,bw6,bw7,bw8,bw9]
  generalize (((((bw0 a b).map (Str.join (" " : Str))).map PV.str)++(((bw1 a b).map (Str.join (" " : Str))).map PV.str))++(((bw2 a b).map (Str.join (" " : Str))).map PV.str))=AC,(((bw3 a b).map (Str.join (" " : Str))).map PV.str)=ME at *
  simp[h,hl]
 have t4:aP 4 (b2 cX (bV 4) (aX (aa (b2 ak (bC (.str "either ")) (bV 3)) (aa (bC (.str "begin")) (aa (b2 ak (bC (.str "begin ")) (bV 3)) (aa (b2 ak (bC (.str "begin ")) (b2 aZ (bV 3) (bC (.int 5)))) (aa (b2 ak (b2 ak (bC (.str "begin ")) (bV 3)) (bV 2)) aA))))))) [some RP,some (.int c),some (.str ⟨#[a]⟩),some (.str ⟨#[b]⟩),some (.lst ((((((bw0 a b).map (Str.join (" " : Str))).map PV.str)++(((bw1 a b).map (Str.join (" " : Str))).map PV.str))++(((bw2 a b).map (Str.join (" " : Str))).map PV.str))++(((bw3 a b).map (Str.join (" " : Str))).map PV.str)))]=some (.nx [some RP,some (.int c),some (.str ⟨#[a]⟩),some (.str ⟨#[b]⟩),some (.lst (((((((bw0 a b).map (Str.join (" " : Str))).map PV.str)++(((bw1 a b).map (Str.join (" " : Str))).map PV.str))++(((bw2 a b).map (Str.join (" " : Str))).map PV.str))++(((bw3 a b).map (Str.join (" " : Str))).map PV.str))++(((bw4 a b).map (Str.join (" " : Str))).map PV.str)))]):=by
  have h:=ch4 a b (some RP) (some (.int c)) (some (.lst ((((((bw0 a b).map (Str.join (" " : Str))).map PV.str)++(((bw1 a b).map (Str.join (" " : Str))).map PV.str))++(((bw2 a b).map (Str.join (" " : Str))).map PV.str))++(((bw3 a b).map (Str.join (" " : Str))).map PV.str))))
  generalize (aX (aa (b2 ak (bC (.str "either ")) (bV 3)) (aa (bC (.str "begin")) (aa (b2 ak (bC (.str "begin ")) (bV 3)) (aa (b2 ak (bC (.str "begin ")) (b2 aZ (bV 3) (bC (.int 5)))) (aa (b2 ak (b2 ak (bC (.str "begin ")) (bV 3)) (bV 2)) aA))))))=F at *
  have hl:(((((((bw0 a b).map (Str.join (" " : Str))).map PV.str)++(((bw1 a b).map (Str.join (" " : Str))).map PV.str))++(((bw2 a b).map (Str.join (" " : Str))).map PV.str))++(((bw3 a b).map (Str.join (" " : Str))).map PV.str))).length+((((bw4 a b).map (Str.join (" " : Str))).map PV.str)).length<=1000000:=by simp[bw0,bw1,bw2,bw3,bw4,bw5,bw6,bw7,bw8,bw9]
  generalize ((((((bw0 a b).map (Str.join (" " : Str))).map PV.str)++(((bw1 a b).map (Str.join (" " : Str))).map PV.str))++(((bw2 a b).map (Str.join (" " : Str))).map PV.str))++(((bw3 a b).map (Str.join (" " : Str))).map PV.str))=AC,(((bw4 a b).map (Str.join (" " : Str))).map PV.str)=ME at *
  simp[h,hl]
 have t5:aP 4 (b2 cX (bV 4) (aX (aa (b2 ak (b2 ak (b2 ak (bC (.str "begin ")) (b2 aZ (bV 3) (bC (.int 2)))) (bC (.str " "))) (bV 3)) (aa (b2 ak (b2 ak (bC (.str "split ")) (bV 2)) (bV 3)) (aa (b2 ak (bC (.str "split ")) (bV 3)) (aa (bC (.str "run")) (aa (bC (.str "run now")) aA))))))) [some RP,some (.int c),some (.str ⟨#[a]⟩),some (.str ⟨#[b]⟩),some (.lst (((((((bw0 a b).map (Str.join (" " : Str))).map PV.str)++(((bw1 a b).map (Str.join (" " : Str))).map PV.str))++(((bw2 a b).map (Str.join (" " : Str))).map PV.str))++(((bw3 a b).map (Str.join (" " : Str))).map PV.str))++(((bw4 a b).map (Str.join (" " : Str))).map PV.str)))]=some (.nx [some RP,some (.int c),some (.str ⟨#[a]⟩),some (.str ⟨#[b]⟩),some (.lst ((((((((bw0 a b).map (Str.join (" " : Str))).map PV.str)++(((bw1 a b).map (Str.join (" " : Str))).map PV.str))++(((bw2 a b).map (Str.join (" " : Str))).map PV.str))++(((bw3 a b).map (Str.join (" " : Str))).map PV.str))++(((bw4 a b).map (Str.join (" " : Str))).map PV.str))++(((bw5 a b).map (Str.join (" " : Str))).map PV.str)))]):=by
  have h:=ch5 a b (some RP) (some (.int c)) (some (.lst (((((((bw0 a b).map (Str.join (" " : Str))).map PV.str)++(((bw1 a b).map (Str.join (" " : Str))).map PV.str))++(((bw2 a b).map (Str.join (" " : Str))).map PV.str))++(((bw3 a b).map (Str.join (" " : Str))).map PV.str))++(((bw4 a b).map (Str.join (" " : Str))).map PV.str))))
  generalize (aX (aa (b2 ak (b2 ak (b2 ak (bC (.str "begin ")) (b2 aZ (bV 3) (bC (.int 2)))) (bC (.str " "))) (bV 3)) (aa (b2 ak (b2 ak (bC (.str "split ")) (bV 2)) (bV 3)) (aa (b2 ak (bC (.str "split ")) (bV 3)) (aa (bC (.str "run")) (aa (bC (.str "run now")) aA))))))=F at *
  have hl:((((((((bw0 a b).map (Str.join (" " : Str))).map PV.str)++(((bw1 a b).map (Str.join (" " : Str))).map PV.str))++(((bw2 a b).map (Str.join (" " : Str))).map PV.str))++(((bw3 a b).map (Str.join (" " : Str))).map PV.str))++(((bw4 a b).map (Str.join (" " : Str))).map PV.str))).length+((((bw5 a b).map (Str.join (" " : Str))).map PV.str)).length<=1000000:=by simp[bw0,bw1,bw2,bw3,bw4,bw5,bw6,bw7,bw8,bw9]
  generalize (((((((bw0 a b).map (Str.join (" " : Str))).map PV.str)++(((bw1 a b).map (Str.join (" " : Str))).map PV.str))++(((bw2 a b).map (Str.join (" " : Str))).map PV.str))++(((bw3 a b).map (Str.join (" " : Str))).map PV.str))++(((bw4 a b).map (Str.join (" " : Str))).map PV.str))=AC,(((bw5 a b).map (Str.join (" " : Str))).map PV.str)=ME at *
  simp[h,hl]
 have t6:aP 4 (b2 cX (bV 4) (aX (aa (bC (.str "run may may")) (aa (bC (.str "run Must")) (aa (b2 ak (bC (.str "alike ")) (bV 2)) (aa (b2 ak (b2 ak (b2 ak (bC (.str "alike ")) (bV 2)) (bC (.str " "))) (bV 3)) (aa (b2 ak (bC (.str "tell ")) (bV 2)) aA))))))) [some RP,some (.int c),some (.str ⟨#[a]⟩),some (.str ⟨#[b]⟩),some (.lst ((((((((bw0 a b).map (Str.join (" " : Str))).map PV.str)++(((bw1 a b).map (Str.join (" " : Str))).map PV.str))++(((bw2 a b).map (Str.join (" " : Str))).map PV.str))++(((bw3 a b).map (Str.join (" " : Str))).map PV.str))++(((bw4 a b).map (Str.join (" " : Str))).map PV.str))++(((bw5 a b).map (Str.join (" " : Str))).map PV.str)))]=some (.nx [some RP,some (.int c),some (.str ⟨#[a]⟩),some (.str ⟨#[b]⟩),some (.lst (((((((((bw0 a b).map (Str.join (" " : Str))).map PV.str)++(((bw1 a b).map (Str.join (" " : Str))).map PV.str))++(((bw2 a b).map (Str.join (" " : Str))).map PV.str))++(((bw3 a b).map (Str.join (" " : Str))).map PV.str))++(((bw4 a b).map (Str.join (" " : Str))).map PV.str))++(((bw5 a b).map (Str.join (" " : Str))).map PV.str))++(((bw6 a b).map (Str.join (" " : Str))).map PV.str)))]):=by
  have h:=ch6 a b (some RP) (some (.int c)) (some (.lst ((((((((bw0 a b).map (Str.join (" " : Str))).map PV.str)++(((bw1 a b).map (Str.join (" " : Str))).map PV.str))++(((bw2 a b).map (Str.join (" " : Str))).map PV.str))++(((bw3 a b).map (Str.join (" " : Str))).map PV.str))++(((bw4 a b).map (Str.join (" " : Str))).map PV.str))++(((bw5 a b).map (Str.join (" " : Str))).map PV.str))))
  generalize (aX (aa (bC (.str "run may may")) (aa (bC (.str "run Must")) (aa (b2 ak (bC (.str "alike ")) (bV 2)) (aa (b2 ak (b2 ak (b2 ak (bC (.str "alike ")) (bV 2)) (bC (.str " "))) (bV 3)) (aa (b2 ak (bC (.str "tell ")) (bV 2)) aA))))))=F at *
  have hl:(((((((((bw0 a b).map (Str.join (" " : Str))).map PV.str)++(((bw1 a b).map (Str.join (" " : Str))).map PV.str))++(((bw2 a b).map (Str.join (" " : Str))).map PV.str))++(((bw3 a b).map (Str.join (" " : Str))).map PV.str))++(((bw4 a b).map (Str.join (" " : Str))).map PV.str))++(((bw5 a b).map (Str.join (" " : Str))).map PV.str))).length+((((bw6 a b).map (Str.join (" " : Str))).map PV.str)).length<=1000000:=by simp[bw0,bw1,bw2,bw3,bw4,bw5,bw6,bw7,bw8,bw9]
  generalize ((((((((bw0 a b).map (Str.join (" " : Str))).map PV.str)++(((bw1 a b).map (Str.join (" " : Str))).map PV.str))++(((bw2 a b).map (Str.join (" " : Str))).map PV.str))++(((bw3 a b).map (Str.join (" " : Str))).map PV.str))++(((bw4 a b).map (Str.join (" " : Str))).map PV.str))++(((bw5 a b).map (Str.join (" " : Str))).map PV.str))=AC,(((bw6 a b).map (Str.join (" " : Str))).map PV.str)=ME at *
  simp[h,hl]
 have t7:aP 4 (b2 cX (bV 4) (aX (aa (b2 ak (b2 ak (b2 ak (b2 ak (b2 ak (bC (.str "alike ")) (bV 2)) (bC (.str " "))) (bV 2)) (bC (.str " "))) (bV 2)) (aa (b2 ak (b2 ak (b2 ak (bC (.str "alike ")) (b2 aZ (bV 3) (bC (.int 2)))) (bC (.str " "))) (bV 3)) (aa (bC (.str "either")) (aa (bC (.str "split")) (aa (bC (.str "alike")) aA))))))) [some RP,some (.int c),some (.str ⟨#[a]⟩),some (.str ⟨#[b]⟩),some (.lst (((((((((bw0 a b).map (Str.join (" " : Str))).map PV.str)++(((bw1 a b).map (Str.join (" " : Str))).map PV.str))++(((bw2 a b).map (Str.join (" " : Str))).map PV.str))++(((bw3 a b).map (Str.join (" " : Str))).map PV.str))++(((bw4 a b).map (Str.join (" " : Str))).map PV.str))++(((bw5 a b).map (Str.join (" " : Str))).map PV.str))++(((bw6 a b).map (Str.join (" " : Str))).map PV.str)))]=some (.nx [some RP,some (.int c),some (.str ⟨#[a]⟩),some (.str ⟨#[b]⟩),some (.lst ((((((((((bw0 a b).map (Str.join (" " : Str))).map PV.str)++(((bw1 a b).map (Str.join (" " : Str))).map PV.str))++(((bw2 a b).map (Str.join (" " : Str))).map PV.str))++(((bw3 a b).map (Str.join (" " : Str))).map PV.str))++(((bw4 a b).map (Str.join (" " : Str))).map PV.str))++(((bw5 a b).map (Str.join (" " : Str))).map PV.str))++(((bw6 a b).map (Str.join (" " : Str))).map PV.str))++(((bw7 a b).map (Str.join (" " : Str))).map PV.str)))]):=by
  have h:=ch7 a b (some RP) (some (.int c)) (some (.lst (((((((((bw0 a b).map (Str.join (" " : Str))).map PV.str)++(((bw1 a b).map (Str.join (" " : Str))).map PV.str))++(((bw2 a b).map (Str.join (" " : Str))).map PV.str))++(((bw3 a b).map (Str.join (" " : Str))).map PV.str))++(((bw4 a b).map (Str.join (" " : Str))).map PV.str))++(((bw5 a b).map (Str.join (" " : Str))).map PV.str))++(((bw6 a b).map (Str.join (" " : Str))).map PV.str))))
  generalize (aX (aa (b2 ak (b2 ak (b2 ak (b2 ak (b2 ak (bC (.str "alike ")) (bV 2)) (bC (.str " "))) (bV 2)) (bC (.str " "))) (bV 2)) (aa (b2 ak (b2 ak (b2 ak (bC (.str "alike ")) (b2 aZ (bV 3) (bC (.int 2)))) (bC (.str " "))) (bV 3)) (aa (bC (.str "either")) (aa (bC (.str "split")) (aa (bC (.str "alike")) aA))))))=F at *
  have hl:((((((((((bw0 a b).map (Str.join (" " : Str))).map PV.str)++(((bw1 a b).map (Str.join (" " : Str))).map PV.str))++(((bw2 a b).map (Str.join (" " : Str))).map PV.str))++(((bw3 a b).map (Str.join (" " : Str))).map PV.str))++(((bw4 a b).map (Str.join (" " : Str))).map PV.str))++(((bw5 a b).map (Str.join (" " : Str))).map PV.str))++(((bw6 a b).map (Str.join (" " : Str))).map PV.str))).length+((((bw7 a b).map (Str.join (" " : Str))).map PV.str)).length<=1000000:=by simp[bw0,bw1,bw2,bw3,bw4,bw5,bw6,bw7,bw8,bw9]
  generalize (((((((((bw0 a b).map (Str.join (" " : Str))).map PV.str)++(((bw1 a b).map (Str.join (" " : Str))).map PV.str))++(((bw2 a b).map (Str.join (" " : Str))).map PV.str))++(((bw3 a b).map (Str.join (" " : Str))).map PV.str))++(((bw4 a b).map (Str.join (" " : Str))).map PV.str))++(((bw5 a b).map (Str.join (" " : Str))).map PV.str))++(((bw6 a b).map (Str.join (" " : Str))).map PV.str))=AC,(((bw7 a b).map (Str.join (" " : Str))).map PV.str)=ME at *
  simp[h,hl]
 have t8:aP 4 (b2 cX (bV 4) (aX (aa (b2 ak (b2 ak (b2 ak (bC (.str "alike ")) (bV 3)) (bC (.str " "))) (bV 2)) (aa (b2 ak (b2 ak (b2 ak (bC (.str "alike ")) (bV 3)) (bC (.str " "))) (b2 aZ (bV 3) (bC (.int 2)))) (aa (b2 ak (b2 ak (b2 ak (bC (.str "alike ")) (bV 2)) (bC (.str " "))) (b2 aZ (bV 2) (bC (.int 3)))) aA))))) [some RP,some (.int c),some (.str ⟨#[a]⟩),some (.str ⟨#[b]⟩),some (.lst ((((((((((bw0 a b).map (Str.join (" " : Str))).map PV.str)++(((bw1 a b).map (Str.join (" " : Str))).map PV.str))++(((bw2 a b).map (Str.join (" " : Str))).map PV.str))++(((bw3 a b).map (Str.join (" " : Str))).map PV.str))++(((bw4 a b).map (Str.join (" " : Str))).map PV.str))++(((bw5 a b).map (Str.join (" " : Str))).map PV.str))++(((bw6 a b).map (Str.join (" " : Str))).map PV.str))++(((bw7 a b).map (Str.join (" " : Str))).map PV.str)))]=some (.nx [some RP,some (.int c),some (.str ⟨#[a]⟩),some (.str ⟨#[b]⟩),some (.lst (((((((((((bw0 a b).map (Str.join (" " : Str))).map PV.str)++(((bw1 a b).map (Str.join (" " : Str))).map PV.str))++(((bw2 a b).map (Str.join (" " : Str))).map PV.str))++(((bw3 a b).map (Str.join (" " : Str))).map PV.str))++(((bw4 a b).map (Str.join (" " : Str))).map PV.str))++(((bw5 a b).map (Str.join (" " : Str))).map PV.str))++(((bw6 a b).map (Str.join (" " : Str))).map PV.str))++(((bw7 a b).map (Str.join (" " : Str))).map PV.str))++(((bw8 a b).map (Str.join (" " : Str))).map PV.str)))]):=by
  have h:=ch8 a b (some RP) (some (.int c)) (some (.lst ((((((((((bw0 a b).map (Str.join (" " : Str))).map PV.str)++(((bw1 a b).map (Str.join (" " : Str))).map PV.str))++(((bw2 a b).map (Str.join (" " : Str))).map PV.str))++(((bw3 a b).map (Str.join (" " : Str))).map PV.str))++(((bw4 a b).map (Str.join (" " : Str))).map PV.str))++(((bw5 a b).map (Str.join (" " : Str))).map PV.str))++(((bw6 a b).map (Str.join (" " : Str))).map PV.str))++(((bw7 a b).map (Str.join (" " : Str))).map PV.str))))
  generalize (aX (aa (b2 ak (b2 ak (b2 ak (bC (.str "alike ")) (bV 3)) (bC (.str " "))) (bV 2)) (aa (b2 ak (b2 ak (b2 ak (bC (.str "alike ")) (bV 3)) (bC (.str " "))) (b2 aZ (bV 3) (bC (.int 2)))) (aa (b2 ak (b2 ak (b2 ak (bC (.str "alike ")) (bV 2)) (bC (.str " "))) (b2 aZ (bV 2) (bC (.int 3)))) aA))))=F at *
  have hl:(((((((((((bw0 a b).map (Str.join (" " : Str))).map PV.str)++(((bw1 a b).map (Str.join (" " : Str))).map PV.str))++(((bw2 a b).map (Str.join (" " : Str))).map PV.str))++(((bw3 a b).map (Str.join (" " : Str))).map PV.str))++(((bw4 a b).map (Str.join (" " : Str))).map PV.str))++(((bw5 a b).map (Str.join (" " : Str))).map PV.str))++(((bw6 a b).map (Str.join (" " : Str))).map PV.str))++(((bw7 a b).map (Str.join (" " : Str))).map PV.str))).length+((((bw8 a b).map (Str.join (" " : Str))).map PV.str)).length<=1000000:=by simp[bw0,bw1,bw2,bw3,bw4,bw5,bw6,bw7,bw8,bw9]
  generalize ((((((((((bw0 a b).map (Str.join (" " : Str))).map PV.str)++(((bw1 a b).map (Str.join (" " : Str))).map PV.str))++(((bw2 a b).map (Str.join (" " : Str))).map PV.str))++(((bw3 a b).map (Str.join (" " : Str))).map PV.str))++(((bw4 a b).map (Str.join (" " : Str))).map PV.str))++(((bw5 a b).map (Str.join (" " : Str))).map PV.str))++(((bw6 a b).map (Str.join (" " : Str))).map PV.str))++(((bw7 a b).map (Str.join (" " : Str))).map PV.str))=AC,(((bw8 a b).map (Str.join (" " : Str))).map PV.str)=ME at *
  simp[h,hl]
 have t9:aP 4 (b2 cX (bV 4) (aX (aa (b2 ak (bC (.str "split ")) (b2 aZ (bV 3) (bC (.int 5)))) (aa (b2 ak (b2 ak (b2 ak (bC (.str "split ")) (bV 3)) (bC (.str " "))) (b2 aZ (bV 3) (bC (.int 2)))) aA)))) [some RP,some (.int c),some (.str ⟨#[a]⟩),some (.str ⟨#[b]⟩),some (.lst (((((((((((bw0 a b).map (Str.join (" " : Str))).map PV.str)++(((bw1 a b).map (Str.join (" " : Str))).map PV.str))++(((bw2 a b).map (Str.join (" " : Str))).map PV.str))++(((bw3 a b).map (Str.join (" " : Str))).map PV.str))++(((bw4 a b).map (Str.join (" " : Str))).map PV.str))++(((bw5 a b).map (Str.join (" " : Str))).map PV.str))++(((bw6 a b).map (Str.join (" " : Str))).map PV.str))++(((bw7 a b).map (Str.join (" " : Str))).map PV.str))++(((bw8 a b).map (Str.join (" " : Str))).map PV.str)))]=some (.nx [some RP,some (.int c),some (.str ⟨#[a]⟩),some (.str ⟨#[b]⟩),some (.lst ((((((((((((bw0 a b).map (Str.join (" " : Str))).map PV.str)++(((bw1 a b).map (Str.join (" " : Str))).map PV.str))++(((bw2 a b).map (Str.join (" " : Str))).map PV.str))++(((bw3 a b).map (Str.join (" " : Str))).map PV.str))++(((bw4 a b).map (Str.join (" " : Str))).map PV.str))++(((bw5 a b).map (Str.join (" " : Str))).map PV.str))++(((bw6 a b).map (Str.join (" " : Str))).map PV.str))++(((bw7 a b).map (Str.join (" " : Str))).map PV.str))++(((bw8 a b).map (Str.join (" " : Str))).map PV.str))++(((bw9 a b).map (Str.join (" " : Str))).map PV.str)))]):=by
  have h:=ch9 a b (some RP) (some (.int c)) (some (.lst (((((((((((bw0 a b).map (Str.join (" " : Str))).map PV.str)++(((bw1 a b).map (Str.join (" " : Str))).map PV.str))++(((bw2 a b).map (Str.join (" " : Str))).map PV.str))++(((bw3 a b).map (Str.join (" " : Str))).map PV.str))++(((bw4 a b).map (Str.join (" " : Str))).map PV.str))++(((bw5 a b).map (Str.join (" " : Str))).map PV.str))++(((bw6 a b).map (Str.join (" " : Str))).map PV.str))++(((bw7 a b).map (Str.join (" " : Str))).map PV.str))++(((bw8 a b).map (Str.join (" " : Str))).map PV.str))))
  generalize (aX (aa (b2 ak (bC (.str "split ")) (b2 aZ (bV 3) (bC (.int 5)))) (aa (b2 ak (b2 ak (b2 ak (bC (.str "split ")) (bV 3)) (bC (.str " "))) (b2 aZ (bV 3) (bC (.int 2)))) aA)))=F at *
  have hl:((((((((((((bw0 a b).map (Str.join (" " : Str))).map PV.str)++(((bw1 a b).map (Str.join (" " : Str))).map PV.str))++(((bw2 a b).map (Str.join (" " : Str))).map PV.str))++(((bw3 a b).map (Str.join (" " : Str))).map PV.str))++(((bw4 a b).map (Str.join (" " : Str))).map PV.str))++(((bw5 a b).map (Str.join (" " : Str))).map PV.str))++(((bw6 a b).map (Str.join (" " : Str))).map PV.str))++(((bw7 a b).map (Str.join (" " : Str))).map PV.str))++(((bw8 a b).map (Str.join (" " : Str))).map PV.str))).length+((((bw9 a b).map (Str.join (" " : Str))).map PV.str)).length<=1000000:=by simp[bw0,bw1,bw2,bw3,bw4,bw5,bw6,bw7,bw8,bw9]
  generalize (((((((((((bw0 a b).map (Str.join (" " : Str))).map PV.str)++(((bw1 a b).map (Str.join (" " : Str))).map PV.str))++(((bw2 a b).map (Str.join (" " : Str))).map PV.str))++(((bw3 a b).map (Str.join (" " : Str))).map PV.str))++(((bw4 a b).map (Str.join (" " : Str))).map PV.str))++(((bw5 a b).map (Str.join (" " : Str))).map PV.str))++(((bw6 a b).map (Str.join (" " : Str))).map PV.str))++(((bw7 a b).map (Str.join (" " : Str))).map PV.str))++(((bw8 a b).map (Str.join (" " : Str))).map PV.str))=AC,(((bw9 a b).map (Str.join (" " : Str))).map PV.str)=ME at *
  simp[h,hl]
 have hT:((((((((((((bw0 a b).map (Str.join (" " : Str))).map PV.str)++(((bw1 a b).map (Str.join (" " : Str))).map PV.str))++(((bw2 a b).map (Str.join (" " : Str))).map PV.str))++(((bw3 a b).map (Str.join (" " : Str))).map PV.str))++(((bw4 a b).map (Str.join (" " : Str))).map PV.str))++(((bw5 a b).map (Str.join (" " : Str))).map PV.str))++(((bw6 a b).map (Str.join (" " : Str))).map PV.str))++(((bw7 a b).map (Str.join (" " : Str))).map PV.str))++(((bw8 a b).map (Str.join (" " : Str))).map PV.str))++(((bw9 a b).map (Str.join (" " : Str))).map PV.str))=((bw a b).map (Str.join (" " : Str))).map PV.str:=by simp only[bw,List.map_append]
 have hb:g_ [some RP,some (.int c),none,none,none]=some (.rt (.str (Str.join (" " : Str) W))):=by
  unfold g_
  rw[bA s1,bA s2,bA t0,bA t1,bA t2,bA t3,bA t4,bA t5,bA t6,bA t7,bA t8,bA t9]
  rw[hT]
  generalize ((bw a b).map (Str.join (" " : Str))).map PV.str=TT at *
  simp[hk,hat]
 unfold bh
 generalize g_=BB at *
 simp[hb]
end My
namespace My
open PySem L2 MR
def Sm (ws:List Str):Prop:=ws≠[]/\ws.length<=5/\∀ w∈ws,WP w
theorem K8 {ws:List Str}(h:Sm ws):(Str.join (" " : Str) ws).length<=1000:=by
 obtain⟨h1,h2,h3⟩:=h
 have hj:=StrLaws.join_length_le (" " : Str) ws
 have hs:(ws.map (·.length)).sum<=100*ws.length:=by
  have gen:∀ l:List Str,(∀ w∈l,w.length<=100)->(l.map (·.length)).sum<=100*l.length:=by
   intro l
   induction l with
   | nil=>intro _;simp
   | cons w l ih=>
    intro h
    have:=ih λy hy=>h y (List.mem_cons_of_mem _ hy)
    have:=h w List.mem_cons_self
    simp;omega
  exact gen ws λw hw=>(h3 w hw).1
 have hb:(" " : Str).length=1:=mz
 rw[hb] at hj
 omega
theorem pQ {cut:List (List Str)}(h:∀ ws∈cut,Sm ws) (hn:cut.length<=10):aM [.lst ((cut.map (Str.join (" " : Str))).map .str)]=some (.int (resT cut)):=by
 have e:(cut.map (Str.join (" " : Str))).map bF=cut:=by
  rw[List.map_map]
  have:∀ ws∈cut,(bF∘Str.join (" " : Str)) ws=id ws:=λws hw=>lw (h ws hw).1 λw hw'=>((h ws hw).2.2 w hw').2.1
  rw[List.map_congr_left this,List.map_id]
 have gen:∀ l:List (List Str),(∀ ws∈l,ws.length<=21)->total l<=21*l.length:=by
  intro l
  induction l with
  | nil=>intro _;simp[total]
  | cons ws l ih=>
   intro h
   have h1:=ih λy hy=>h y (List.mem_cons_of_mem _ hy)
   have h2:=h ws List.mem_cons_self
   unfold total at *
   simp;omega
 have ht:=gen cut λws hw=>by have:=(h ws hw).2.1;omega
 have:=rA (zs:=cut.map (Str.join (" " : Str))) (λz hz=>by
  obtain⟨ws,hw,rfl⟩:=List.mem_map.mp hz
  exact K8 (h ws hw)) (by
  rw[e]
  exact⟨by omega,λws hw=>⟨(h ws hw).1,by have:=(h ws hw).2.1;omega,λw hw'=>by have:=((h ws hw).2.2 w hw').1;omega⟩,by omega⟩)
 rw[e] at this
 exact this
def h1 (p q:Nat):List (List Str):=[["long",⟨#[p]⟩],["carry",⟨#[p]⟩, "1"]]
def h2 (p q:Nat):List (List Str):=[["carry",⟨#[p]⟩, "A"],["long",⟨#[p]⟩]]
def h3 (p q:Nat):List (List Str):=[["long",⟨#[p,q]⟩],["carry",⟨#[p]⟩,⟨#[q]⟩],["one",⟨#[p,q]⟩,⟨#[p,p,p]⟩]]
def h4 (p q:Nat):List (List Str):=[["carry",⟨#[p]⟩,⟨#[q]⟩],["one",⟨#[p,q]⟩,⟨#[p,p,p]⟩]]
def h5 (p q:Nat):List (List Str):=[["long",⟨#[p,q]⟩],["carry",⟨#[p]⟩,⟨#[q]⟩],["one",⟨#[p,q]⟩]]
theorem Fo:∀ p q:Fin 26,resT (h1 (97+p.val) (97+q.val))=0/\resT (h2 (97+p.val) (97+q.val))=0/\resT (h3 (97+p.val) (97+q.val))=0/\resT (h4 (97+p.val) (97+q.val))=1/\resT (h5 (97+p.val) (97+q.val))=-1:=by decide +kernel
end My
namespace My
open PySem L2 MR
theorem nZ {l:List Nat}(a:∀ c∈l,97<=c/\c < 123) (hl:l.length<=5):WP ⟨l.toArray⟩:=fG (by omega) (λz=>by have:=a _ z;omega) λc hc=>by have:=a c hc;omega
theorem HW (base:Int):cH [.int base]=some (.bl true):=by
 have p1:=gj base 0
 have q1:=gj base 1
 have l0:=mV base 0
 have l1:=mV base 1
 have e0:letter base 0=⟨#[ltn base 0]⟩:=rfl
 have e1:letter base 1=⟨#[ltn base 1]⟩:=rfl
 rw[e0] at l0
 rw[e1] at l1
 clear e0 e1
 generalize ltn base 0=p,ltn base 1=q at *
 have hk:=Fo ⟨p - 97,by omega⟩ ⟨q - 97,by omega⟩
 have ep:97+(p - 97)=p:=by omega
 have eq:97+(q - 97)=q:=by omega
 simp only[ep,eq] at hk
 obtain⟨k1,k2,k3,k4,k5⟩:=hk
 have wp:WP ⟨#[p]⟩:=nZ (l:=[p]) (by simp;omega) (by simp)
 have wq:WP ⟨#[q]⟩:=nZ (l:=[q]) (by simp;omega) (by simp)
 have wpq:WP ⟨#[p,q]⟩:=nZ (l:=[p,q]) (by simp;omega) (by simp)
 have wppp:WP ⟨#[p,p,p]⟩:=nZ (l:=[p,p,p]) (by simp;omega) (by simp)
 have c1:WP "long" := by decide +kernel
 have c2:WP "carry" := by decide +kernel
 have c3:WP "1" := by decide +kernel
 have c4:WP "A" := by decide +kernel
 have c5:WP "one" := by decide +kernel
 have r1:=pQ (cut:=h1 p q) (by simp[h1,Sm,wp,c1,c2,c3]) (by simp[h1])
 have r2:=pQ (cut:=h2 p q) (by simp[h2,Sm,wp,c1,c2,c4]) (by simp[h2])
 have r3:=pQ (cut:=h3 p q) (by simp[h3,Sm,wp,wq,wpq,wppp,c1,c2,c5]) (by simp[h3])
 have r4:=pQ (cut:=h4 p q) (by simp[h4,Sm,wp,wq,wpq,wppp,c1,c2,c5]) (by simp[h4])
 have r5:=pQ (cut:=h5 p q) (by simp[h5,Sm,wp,wq,wpq,wppp,c1,c2,c5]) (by simp[h5])
 rw[k1] at r1
 rw[k2] at r2
 rw[k3] at r3
 rw[k4] at r4
 rw[k5] at r5
 have t1:∀ x0 x3,(aX (aa (b2 ak (bC (.str "long ")) (bV 1)) (aa (b2 ak (b2 ak (bC (.str "carry ")) (bV 1)) (bC (.str " 1"))) aA))) [x0,some (.str ⟨#[p]⟩),some (.str ⟨#[q]⟩),x3]=some (.lst (((h1 p q).map (Str.join (" " : Str))).map .str)):=λx0 x3=>by kernel_rfl
 have t2:∀ x0 x3,(aX (aa (b2 ak (b2 ak (bC (.str "carry ")) (bV 1)) (bC (.str " A"))) (aa (b2 ak (bC (.str "long ")) (bV 1)) aA))) [x0,some (.str ⟨#[p]⟩),some (.str ⟨#[q]⟩),x3]=some (.lst (((h2 p q).map (Str.join (" " : Str))).map .str)):=λx0 x3=>by kernel_rfl
 have t3:∀ x0 x3,(aX (aa (b2 ak (b2 ak (bC (.str "long ")) (bV 1)) (bV 2)) (aa (b2 ak (b2 ak (b2 ak (bC (.str "carry ")) (bV 1)) (bC (.str " "))) (bV 2)) (aa (b2 ak (b2 ak (b2 ak (b2 ak (bC (.str "one ")) (bV 1)) (bV 2)) (bC (.str " "))) (b2 aZ (bV 1) (bC (.int 3)))) aA)))) [x0,some (.str ⟨#[p]⟩),some (.str ⟨#[q]⟩),x3]=some (.lst (((h3 p q).map (Str.join (" " : Str))).map .str)):=λx0 x3=>by kernel_rfl
 have t4:∀ x0,bSl (bV 3) (oS (bC (.int 1))) oN [x0,some (.str ⟨#[p]⟩),some (.str ⟨#[q]⟩),some (.lst (((h3 p q).map (Str.join (" " : Str))).map .str))]=some (.lst (((h4 p q).map (Str.join (" " : Str))).map .str)):=λx0=>by kernel_rfl
 have t5:∀ x0,b2 cX (bSl (bV 3) oN (oS (bC (.int 2)))) (aX (aa (b2 ak (b2 ak (bC (.str "one ")) (bV 1)) (bV 2)) aA)) [x0,some (.str ⟨#[p]⟩),some (.str ⟨#[q]⟩),some (.lst (((h3 p q).map (Str.join (" " : Str))).map .str))]=some (.lst (((h5 p q).map (Str.join (" " : Str))).map .str)):=λx0=>by kernel_rfl
 have hb:fJ [some (.int base),none,none,none]=some (.rt (.bl true)):=by
  unfold fJ
  have s1:aP 1 (aL aY (aa (bV 0) (aa (bC (.int 0)) aA))) [some (.int base),none,none,none]=some (.nx [some (.int base),some (.str ⟨#[p]⟩),none,none]):=by
   generalize aY=ML at *
   simp[l0]
  have s2:aP 2 (aL aY (aa (bV 0) (aa (bC (.int 1)) aA))) [some (.int base),some (.str ⟨#[p]⟩),none,none]=some (.nx [some (.int base),some (.str ⟨#[p]⟩),some (.str ⟨#[q]⟩),none]):=by
   generalize aY=ML at *
   simp[l1]
  rw[bA s1,bA s2]
  generalize (aX (aa (b2 ak (bC (.str "long ")) (bV 1)) (aa (b2 ak (b2 ak (bC (.str "carry ")) (bV 1)) (bC (.str " 1"))) aA)))=F1,(aX (aa (b2 ak (b2 ak (bC (.str "carry ")) (bV 1)) (bC (.str " A"))) (aa (b2 ak (bC (.str "long ")) (bV 1)) aA)))=F2,(aX (aa (b2 ak (b2 ak (bC (.str "long ")) (bV 1)) (bV 2)) (aa (b2 ak (b2 ak (b2 ak (bC (.str "carry ")) (bV 1)) (bC (.str " "))) (bV 2)) (aa (b2 ak (b2 ak (b2 ak (b2 ak (bC (.str "one ")) (bV 1)) (bV 2)) (bC (.str " "))) (b2 aZ (bV 1) (bC (.int 3)))) aA))))=F3,hF4:bSl (bV 3) (oS (bC (.int 1))) oN=F4,hF5:b2 cX (bSl (bV 3) oN (oS (bC (.int 2)))) (aX (aa (b2 ak (b2 ak (bC (.str "one ")) (bV 1)) (bV 2)) aA))=F5 at *
  clear hF4 hF5
  generalize ((h1 p q).map (Str.join (" " : Str))).map PV.str=H1,((h2 p q).map (Str.join (" " : Str))).map PV.str=H2,((h3 p q).map (Str.join (" " : Str))).map PV.str=H3,((h4 p q).map (Str.join (" " : Str))).map PV.str=H4,((h5 p q).map (Str.join (" " : Str))).map PV.str=H5,aM=MR' at *
  simp[t1,t2,t3,t4,t5,r1,r2,r3,r4,r5]
 unfold cH
 generalize fJ=BB at *
 simp[hb]
end My
namespace My
open PySem L2 MR
structure BT (R:Rc) (z:Str):Prop where
 bad:BadR R (bF z)
 len:z.length<=1000
 ok:PyData.strOk z=true
theorem CV {a b:Str}(ha:PyData.strOk a=true) (hb:PyData.strOk b=true):PyData.strOk (a++b)=true:=by
 unfold PyData.strOk at *
 rw[Str.cps_append,Array.all_append,ha,hb];rfl
theorem yK:∀ l:List Str,(∀ w∈l,PyData.strOk w=true)->PyData.strOk (Str.join (" " : Str) l)=true
 | [],_=>by decide +kernel
 | [w],h=>h w (by simp)
 | w::v::r,h=>by
  have bl:PyData.strOk (" " : Str)=true:=by decide +kernel
  exact CV (CV (h w (by simp)) bl) (yK (v::r) λy hy=>h y (List.mem_cons_of_mem _ hy))
theorem Nq {w:Str}(h:WP w):PyData.strOk w=true:=by
 unfold PyData.strOk
 rw[← Array.all_toList,List.all_eq_true]
 intro c hc
 have:=h.2.2 c hc
 simp;omega
theorem xg {R:Rc}(G:R.Good) (c:Int):∃ z,BT R z/\bh [aW R,.int c]=some (.str z):=by
 have hcl:R.carriers.length=R.many:=by rw[G.car];simp
 have m1:=G.m1
 have m7:=G.m7
 obtain⟨k,hk,hk2⟩:=Cy (c / 48) R.many (by omega)
 have hat:atI (R.carriers.map PV.str) (c / 48 % (R.carriers.length:Int))=some (PV.str ⟨#[ltn R.base (k:Nat)]⟩):=by
  rw[hcl,hk]
  exact bZ (by rw[List.getElem?_map,G.car,List.getElem?_map,List.getElem?_range hk2];rfl)
 have r1:=gj R.base (k:Nat)
 have r2:=gj R.base 25
 have ab:AB R (ltn R.base (k:Nat)) (ltn R.base 25):=⟨r1.1,r1.2,r2.1,r2.2,by rw[G.car];exact List.mem_map.mpr ⟨k,List.mem_range.mpr hk2,rfl⟩,λhm=>by
  rw[G.car] at hm
  obtain⟨j,hj,ej⟩:=List.mem_map.mp hm
  have hj:=List.mem_range.mp hj
  have:=nT (c:=R.base) (j:=(j:Nat)) (k:=25) (by omega) (by omega) (by omega) (by omega) ej
  omega⟩
 obtain⟨ws,hw,hm⟩:=K7 G r1.1 r1.2 (b:=ltn R.base 25) hat rfl
 refine⟨_,⟨?_,K6 r1.1 r1.2 r2.1 r2.2 hw,?_⟩,hm⟩
 ·rw[K5 r1.1 r1.2 r2.1 r2.2 hw]
  exact PK G ab hw
 ·exact yK ws λw hw'=>Nq ((nY r1.1 r1.2 r2.1 r2.2 ws hw).2.2 w hw')
section
variable {R:Rc}{rs:List (Str×List Str)}(G:R.Good) (T:Tells R rs)
include G T
theorem jk {z:Str}(h:z∈rs.map txt):bF z∈bN rs/\z.length<=1000/\PyData.strOk z=true:=by
 obtain⟨x,hx,rfl⟩:=List.mem_map.mp h
 refine⟨?_,yG G T hx,CN G T hx⟩
 rw[← mY G T]
 exact List.mem_map.mpr ⟨_,List.mem_map.mpr ⟨x,hx,rfl⟩,rfl⟩
theorem Fp:aM [.lst ((rs.map txt).map .str)]=some (.int (-1)):=by
 have h:=rA (zs:=rs.map txt) (λz hz=>(jk G T hz).2.1) (by
  rw[mY G T]
  exact⟨(j7 G T).n,(j7 G T).few,(j7 G T).tot⟩)
 rw[mY G T,Fj G T] at h
 exact h
theorem yL {A E:List Str}{z:Str}(hA:∀ y∈A,y∈rs.map txt) (hz:BT R z) (hE:∀ y∈E,y∈rs.map txt\/BT R y) (hall:∀ y∈rs.map txt,y∈A\/y∈E) (hn:A.length+E.length<=190):
  aM [.lst ((A++z::E).map .str)]=some (.int (A.length:Nat)):=by
 have hEc:∀ ws∈E.map bF,ws∈bN rs\/BadR R ws:=λws hw=>by
  obtain⟨y,hy,rfl⟩:=List.mem_map.mp hw
  exact(hE y hy).imp (λh=>(jk G T h).1) λh=>h.bad
 have hAc:∀ ws∈A.map bF,ws∈bN rs:=λws hw=>by
  obtain⟨y,hy,rfl⟩:=List.mem_map.mp hw
  exact(jk G T (hA y hy)).1
 have h:=rA (zs:=A++z::E) (λy hy=>by
  rcases List.mem_append.mp hy with hy | hy
  ·exact(jk G T (hA y hy)).2.1
  ·rcases List.mem_cons.mp hy with rfl | hy
   ·exact hz.len
   ·rcases hE y hy with z | z
    ·exact(jk G T z).2.1
    ·exact z.len) (by
  rw[List.map_append,List.map_cons]
  refine KZ G T (λws hw=>?_) (by simp;omega)
  rcases List.mem_append.mp hw with hw | hw
  ·exact .inl (hAc ws hw)
  ·rcases List.mem_cons.mp hw with rfl | hw
   ·exact .inr hz.bad
   ·exact hEc ws hw)
 have e:(A++z::E).map bF=A.map bF++bF z::E.map bF:=by rw[List.map_append,List.map_cons]
 rw[e,K1 G T hAc hz.bad hEc (λws hw=>by
  rw[← mY G T] at hw
  obtain⟨y,hy,rfl⟩:=List.mem_map.mp hw
  exact(hall y hy).imp (λh=>List.mem_map.mpr ⟨y,h,rfl⟩) λh=>List.mem_map.mpr ⟨y,h,rfl⟩),List.length_map] at h
 exact h
end
end My
namespace My
open PySem L2 MR
theorem Fq (xs:List PV) (a b:Nat):gw xs (some (a:Int)) (some (b:Int))=(xs.drop a).take (b - a):=by
 unfold gw
 rw[HT.sIx_nat,HT.sIx_nat]
 by_cases h:a<=xs.length
 ·rw[Nat.min_eq_left h]
  by_cases h2:b<=xs.length
  ·rw[Nat.min_eq_left h2]
  ·rw[Nat.min_eq_right (by omega),List.take_of_length_le (by simp),List.take_of_length_le (by simp;omega)]
 ·rw[show min a xs.length=xs.length by omega,List.drop_length,List.drop_eq_nil_of_le (by omega)]
  simp
theorem yM {α:Type}{x y:α}{D:List α}{j:Nat}:∀ {A:List α}{m:Nat},A.length=m->(A++x::D).take (m+1+j)++y::(A++x::D).drop (m+1+j)=A++x::(D.take j++y::D.drop j)
 | [],m,h=>by
  subst h
  rw[show ([]:List α).length+1+j=j+1 by simp;omega]
  rfl
 | a::A,m,h=>by
  subst h
  rw[show (a::A).length+1+j=(A.length+1+j)+1 by simp;omega]
  show a::((A++x::D).take (A.length+1+j)++y::(A++x::D).drop (A.length+1+j))=a::(A++x::(D.take j++y::D.drop j))
  rw[yM (A:=A) rfl]
theorem law_true (ns:List Int) (hn:ns.length<=63):rZ [.frz (ns.map PV.int)]=some (.bl true):=by
 obtain⟨R,G,hR⟩:=Cz ns 1
 obtain⟨rs,hrs,hrl,hrow⟩:=HN G (cell ns 0)
 have T:=tells_of G hrs hrl
 have hR:cT [.frz (ns.map PV.int),.int 1]=some (aW R):=hR
 have k0:aG [.frz (ns.map PV.int),.int 0]=some (.int (cell ns 0)):=jM ns 0
 have k1:aG [.frz (ns.map PV.int),.int 1]=some (.int (cell ns 1)):=jM ns 1
 have k7:aG [.frz (ns.map PV.int),.int 7]=some (.int (cell ns 7)):=jM ns 7
 have k8:aG [.frz (ns.map PV.int),.int 8]=some (.int (cell ns 8)):=jM ns 8
 have k9:aG [.frz (ns.map PV.int),.int 9]=some (.int (cell ns 9)):=jM ns 9
 have k10:aG [.frz (ns.map PV.int),.int 10]=some (.int (cell ns 10)):=jM ns 10
 generalize cell ns 0=n0,cell ns 1=n1,cell ns 7=n7,cell ns 8=n8,cell ns 9=n9,cell ns 10=n10 at *
 have hhalf:=HW n1
 obtain⟨B1,hB1,hb1⟩:=xg G n8
 obtain⟨B2,hB2,hb2⟩:=xg G n10
 have rg:=Fp G T
 have hZl:(rs.map txt).length<=100:=by rw[List.length_map];exact hrl
 have hlast:∀ c:Int,∃ B,BT R B/\bh [aW R,.int c]=some (.str B)/\aM [.lst ((rs.map txt).map .str++[.str B])]=some (.int ((rs.map txt).length:Nat)):=λc=>by
  obtain⟨B,h1,h2⟩:=xg G c
  refine⟨B,h1,h2,?_⟩
  have:=yL G T (A:=rs.map txt) (E:=[]) (λy hy=>hy) h1 (λy hy=>by cases hy) (λy hy=>.inl hy) (by simp at hZl ⊢;omega)
  rw[List.map_append] at this
  exact this
 have hok:∀ y∈rs.map txt,PyData.strOk y=true:=λy hy=>(jk G T hy).2.2
 have hbad:=λ(A E:List Str) (z:Str)=>yL G T (A:=A) (E:=E) (z:=z)
 generalize rs.map txt=Z at *
 have s1:aP 1 (aL cT (aa (bV 0) (aa (bC (.int 1)) aA))) [some (.frz (ns.map PV.int)),none,none,none,none,none,none,none]=some (.nx [some (.frz (ns.map PV.int)),some (aW R),none,none,none,none,none,none]):=by
  generalize PV.frz (ns.map PV.int)=P0',aW R=RP,cT=M1 at *
  simp[hR]
 have c11:gw (ns.map PV.int) (some 11) (some 19)=((ns.drop 11).take 8).map .int:=by
  have:=Fq (ns.map PV.int) 11 19
  rw[List.map_take,List.map_drop]
  exact this
 have src:∀ x1 x2 x3 x4 x5 x6 x7:Option PV,iV (bSl (bV 0) (oS (bC (.int 11))) (oS (bC (.int 19)))) [some (.frz (ns.map PV.int)),x1,x2,x3,x4,x5,x6,x7]=some (((ns.drop 11).take 8).map .int):=λx1 x2 x3 x4 x5 x6 x7=>by
  have hle:(((ns.drop 11).take 8).map PV.int).length<=1000000:=by simp;omega
  generalize ((ns.drop 11).take 8).map PV.int=CP,ns.map PV.int=NP at *
  simp[c11,hle]
 generalize PV.frz (ns.map PV.int)=P0' at *
 have s2:aP 2 (aL d_ (aa (bV 1) (aa (aL aG (aa (bV 0) (aa (bC (.int 0)) aA))) aA))) [some P0',some (aW R),none,none,none,none,none,none]=some (.nx [some P0',some (aW R),some (.lst (Z.map .str)),none,none,none,none,none]):=by
  generalize aW R=RP,d_=M1,aG=M2,Z.map PV.str=ZP at *
  simp[k0,hrow]
 have hZP:(Z.map PV.str).length<=100:=by rw[List.length_map];exact hZl
 have s3:aP 3 (b1 jT (bV 2)) [some P0',some (aW R),some (.lst (Z.map .str)),none,none,none,none,none]=some (.nx [some P0',some (aW R),some (.lst (Z.map .str)),some (.lst (Z.map .str)),none,none,none,none]):=by
  generalize aW R=RP,Z.map PV.str=ZP at *
  have:ZP.length<=1000000:=by omega
  simp[this]
 obtain⟨m,hm,hm2⟩:=yE n7 Z.length
 have s4:aP 4 (b2 cV (aL aG (aa (bV 0) (aa (bC (.int 7)) aA))) (b2 ak (b1 lenV (bV 3)) (bC (.int 1)))) [some P0',some (aW R),some (.lst (Z.map .str)),some (.lst (Z.map .str)),none,none,none,none]=some (.nx [some P0',some (aW R),some (.lst (Z.map .str)),some (.lst (Z.map .str)),some (.int (m:Nat)),none,none,none]):=by
  have hl:((Z.map PV.str).length:Int)=(Z.length:Int):=by simp
  have hp:=uY Z.length
  generalize aW R=RP,aG=M2,Z.map PV.str=ZP,(Z.length:Int)=zl at *
  simp[k7,hl,hp,hm]
 have w1:(Z.map PV.str).take m++PV.str B1::(Z.map PV.str).drop m=(Z.take m++B1::Z.drop m).map PV.str:=by simp
 have s5:kY pH 3 (bV 4) (aL bh (aa (bV 1) (aa (aL aG (aa (bV 0) (aa (bC (.int 8)) aA))) aA))) [some P0',some (aW R),some (.lst (Z.map .str)),some (.lst (Z.map .str)),some (.int (m:Nat)),none,none,none]=some (.nx [some P0',some (aW R),some (.lst (Z.map .str)),some (.lst ((Z.take m++B1::Z.drop m).map .str)),some (.int (m:Nat)),none,none,none]):=by
  rw[← w1]
  have h3:m<=(Z.map PV.str).length:=by rw[List.length_map];exact hm2
  have h4:(Z.map PV.str).length < 1000000:=by omega
  generalize aW R=RP,aG=M2,bh=M3,Z.map PV.str=ZP at *
  simp[k8,hb1,h3,h4]
 obtain⟨E,x5,s6,hE,hE2,hEl⟩:∃ (E:List Str) (x5:Option PV),sIf (tV (b2 eqQ (b2 cV (aL aG (aa (bV 0) (aa (bC (.int 9)) aA))) (bC (.int 2))) (bC (.int 1)))) (aO (aP 5 (b2 ak (b2 ak (bV 4) (bC (.int 1))) (b2 cV (b2 g8 (aL aG (aa (bV 0) (aa (bC (.int 9)) aA))) (bC (.int 2))) (b2 subV (b1 lenV (bV 3)) (bV 4))))) (kY pH 3 (bV 5) (aL bh (aa (bV 1) (aa (aL aG (aa (bV 0) (aa (bC (.int 10)) aA))) aA))))) sNx [some P0',some (aW R),some (.lst (Z.map .str)),some (.lst ((Z.take m++B1::Z.drop m).map .str)),some (.int (m:Nat)),none,none,none]=
   some (.nx [some P0',some (aW R),some (.lst (Z.map .str)),some (.lst ((Z.take m++B1::E).map .str)),some (.int (m:Nat)),x5,none,none])/\(∀ y∈E,y∈Z\/BT R y)/\(∀ y∈Z.drop m,y∈E)/\E.length<=Z.length+1 - m:=by
  by_cases h9:n9 % 2=1
  ·have hlt:(Z.take m++B1::Z.drop m).length=Z.length+1:=by simp;omega
   obtain⟨j,hj,hj2⟩:=Cy (n9 / 2) (Z.length+1 - m) (by omega)
   refine⟨(Z.drop m).take j++B2::(Z.drop m).drop j,some (.int ((m:Int)+1+(j:Int))),?_,λy hy=>?_,λy hy=>?_,by simp;omega⟩
   ·have w2:((Z.take m++B1::Z.drop m).map PV.str).take (m+1+j)++PV.str B2::((Z.take m++B1::Z.drop m).map PV.str).drop (m+1+j)=(Z.take m++B1::((Z.drop m).take j++B2::(Z.drop m).drop j)).map PV.str:=by
     have hl:(Z.take m).length=m:=by rw[List.length_take];omega
     rw[← List.map_take,← List.map_drop]
     rw[← yM (y:=B2) hl,List.map_append,List.map_cons]
    rw[← w2]
    have hl1:(((Z.take m++B1::Z.drop m).map PV.str).length:Int) - (m:Int)=((Z.length+1 - m:Nat):Int):=by rw[List.length_map,hlt];omega
    have hp:(0:Int) < ((Z.length+1 - m:Nat):Int):=by omega
    have hl2:m+1+j<=((Z.take m++B1::Z.drop m).map PV.str).length:=by rw[List.length_map,hlt];omega
    have hl3:((Z.take m++B1::Z.drop m).map PV.str).length < 1000000:=by rw[List.length_map,hlt];omega
    generalize (Z.take m++B1::Z.drop m).map PV.str=WP',aW R=RP,aG=M2,bh=M3,Z.map PV.str=ZP,((Z.length+1 - m:Nat):Int)=zz at *
    have hi1:(0:Int)<=(m:Int)+1+(j:Int):=by omega
    have hi2:(m:Int)+1+(j:Int)<=(WP'.length:Int):=by omega
    have hi3:((m:Int)+1+(j:Int)).toNat=m+1+j:=by omega
    simp[k9,h9,hl1,hp,hj,k10,hb2,hi1,hi2,hi3,hl3]
   ·rcases List.mem_append.mp hy with h | h
    ·exact .inl (List.mem_of_mem_drop (List.mem_of_mem_take h))
    ·rcases List.mem_cons.mp h with rfl | h
     ·exact .inr hB2
     ·exact .inl (List.mem_of_mem_drop (List.mem_of_mem_drop h))
   ·rw[← List.take_append_drop j (Z.drop m)] at hy
    rcases List.mem_append.mp hy with h | h
    ·exact List.mem_append.mpr (.inl h)
    ·exact List.mem_append.mpr (.inr (List.mem_cons_of_mem _ h))
  ·refine⟨Z.drop m,none,?_,λy hy=>.inl (List.mem_of_mem_drop hy),λy hy=>hy,by simp;omega⟩
   generalize (Z.take m++B1::Z.drop m).map PV.str=WP',aW R=RP,aG=M2,Z.map PV.str=ZP at *
   simp[k9,h9]
 have hAl:(Z.take m).length=m:=by rw[List.length_take];omega
 have rb:=hbad (Z.take m) E B1 (λy hy=>List.mem_of_mem_take hy) hB1 hE (λy hy=>by
  rw[← List.take_append_drop m Z] at hy
  rcases List.mem_append.mp hy with h | h
  ·exact .inl h
  ·exact .inr (hE2 y h)) (by rw[hAl];omega)
 rw[hAl] at rb
 have hWok:∀ y∈Z.take m++B1::E,PyData.strOk y=true:=λy hy=>by
  rcases List.mem_append.mp hy with h | h
  ·exact hok y (List.mem_of_mem_take h)
  ·rcases List.mem_cons.mp h with rfl | h
   ·exact hB1.ok
   ·rcases hE y h with z | z
    ·exact hok y z
    ·exact z.ok
 have hWl:(Z.take m++B1::E).length<=1000:=by rw[List.length_append,List.length_cons,hAl];omega
 have heq:=q9 hWok hWok
 rw[decide_eq_true rfl] at heq
 generalize Z.take m++B1::E=W at *
 have tn:∀ c:Int,turn (gN 6) [6] lQ (.int c) [some P0',some (aW R),some (.lst (Z.map .str)),some (.lst (W.map .str)),some (.int (m:Nat)),x5,none,none]=some [some P0',some (aW R),some (.lst (Z.map .str)),some (.lst (W.map .str)),some (.int (m:Nat)),x5,none,none]:=λc=>by
  obtain⟨B,h1,h2,h3⟩:=hlast c
  have hl:((Z.map PV.str).length:Int)=(Z.length:Int):=by simp
  have hl2:(Z.map PV.str).length+1<=1000000:=by omega
  unfold lQ
  generalize aW R=RP,aM=M1,bh=M3,Z.map PV.str=ZP,W.map PV.str=WP' at *
  simp[mW,nxt,h2,h3,hl,hl2]
 have lp:∀ cs:List Int,bU (gN 6) [6] lQ (cs.map .int) [some P0',some (aW R),some (.lst (Z.map .str)),some (.lst (W.map .str)),some (.int (m:Nat)),x5,none,none]=some (.nx [some P0',some (aW R),some (.lst (Z.map .str)),some (.lst (W.map .str)),some (.int (m:Nat)),x5,none,none]):=λcs=>by
  induction cs with
  | nil=>rfl
  | cons c cs ih=>rw[List.map_cons,fu (tn c)];exact ih
 have s7:jG (gN 6) (iV (bSl (bV 0) (oS (bC (.int 11))) (oS (bC (.int 19))))) [6] lQ [some P0',some (aW R),some (.lst (Z.map .str)),some (.lst (W.map .str)),some (.int (m:Nat)),x5,none,none]=some (.nx [some P0',some (aW R),some (.lst (Z.map .str)),some (.lst (W.map .str)),some (.int (m:Nat)),x5,none,none]):=by
  have h1:=src (some (aW R)) (some (.lst (Z.map .str))) (some (.lst (W.map .str))) (some (.int (m:Nat))) x5 none none
  have h2:=lp ((ns.drop 11).take 8)
  generalize ((ns.drop 11).take 8).map PV.int=CP at *
  rw[Hb,h1]
  exact h2
 have hWP:(W.map PV.str).length<=1000000:=by rw[List.length_map];omega
 have s8:aP 7 (b1 jT (bV 3)) [some P0',some (aW R),some (.lst (Z.map .str)),some (.lst (W.map .str)),some (.int (m:Nat)),x5,none,none]=some (.nx [some P0',some (aW R),some (.lst (Z.map .str)),some (.lst (W.map .str)),some (.int (m:Nat)),x5,none,some (.lst (W.map .str))]):=by
  generalize aW R=RP,Z.map PV.str=ZP,W.map PV.str=WP' at *
  simp[hWP]
 have s9:sIf (tO (tV (b2 neQ (aL aM (aa (bV 2) aA)) (b1 pq (bC (.int 1))))) (tV (b2 neQ (aL aM (aa (bV 3) aA)) (bV 4)))) (bM (bC (.bl false))) sNx [some P0',some (aW R),some (.lst (Z.map .str)),some (.lst (W.map .str)),some (.int (m:Nat)),x5,none,some (.lst (W.map .str))]=some (.nx [some P0',some (aW R),some (.lst (Z.map .str)),some (.lst (W.map .str)),some (.int (m:Nat)),x5,none,some (.lst (W.map .str))]):=by
  generalize aW R=RP,aM=M1,Z.map PV.str=ZP,W.map PV.str=WP' at *
  simp[rg,rb]
 have s10:sIf (tN (tV (aL cH (aa (aL aG (aa (bV 0) (aa (bC (.int 1)) aA))) aA)))) (bM (bC (.bl false))) sNx [some P0',some (aW R),some (.lst (Z.map .str)),some (.lst (W.map .str)),some (.int (m:Nat)),x5,none,some (.lst (W.map .str))]=some (.nx [some P0',some (aW R),some (.lst (Z.map .str)),some (.lst (W.map .str)),some (.int (m:Nat)),x5,none,some (.lst (W.map .str))]):=by
  generalize aW R=RP,cH=M1,aG=M2,Z.map PV.str=ZP,W.map PV.str=WP' at *
  simp[k1,hhalf]
 have s11:bM (d8 (b2 eqQ (aL aM (aa (bV 3) aA)) (bV 4)) (d8 (b2 eqQ (bV 3) (bV 7)) (b2 eqQ (aL aM (aa (bV 2) aA)) (b1 pq (bC (.int 1)))))) [some P0',some (aW R),some (.lst (Z.map .str)),some (.lst (W.map .str)),some (.int (m:Nat)),x5,none,some (.lst (W.map .str))]=some (.rt (.bl true)):=by
  generalize aW R=RP,aM=M1,Z.map PV.str=ZP,W.map PV.str=WP' at *
  simp[rg,rb,heq]
 have hb:rY [some P0',none,none,none,none,none,none,none]=some (.rt (.bl true)):=by
  unfold rY
  rw[bA s1,bA s2,bA s3,bA s4,bA s5,bA s6,bA s7,bA s8,bA s9,bA s10,s11]
 unfold rZ
 generalize rY=BB at *
 simp[hb]
end My
namespace My
open PySem L2 MR
def top (i:Nat):Stmt:=PySem.Challenge.pw_lilt_k05_rows_refused.main.body.getD i (.Pass ⟨0,0,0,0⟩)
abbrev dX:Stmt:=top 28
abbrev eY:Stmt:=top 29
abbrev iu:Stmt:=top 30
abbrev dY:Stmt:=top 31
abbrev bI:Stmt:=top 32
abbrev fH:Stmt:=top 33
abbrev dZ:Stmt:=top 34
abbrev eZ:Stmt:=top 23
abbrev iy:Stmt:=top 24
abbrev gf:Stmt:=top 25
abbrev gZ:Stmt:=top 15
abbrev dw:Stmt:=top 16
abbrev gh:Stmt:=top 17
abbrev eG:Stmt:=top 18
abbrev jl:Stmt:=top 19
abbrev cg:Stmt:=top 21
abbrev eN:Stmt:=top 20
abbrev gk:Stmt:=top 22
abbrev bf:Stmt:=inClass (top 26) 0
abbrev d7:Stmt:=top 36
abbrev dz:Stmt:=top 37
abbrev lz:Stmt:=top 38
abbrev e_:Stmt:=top 35
abbrev cU:Stmt:=inClass (top 3) 0
theorem sJ:FnScope ["_law_script", "_law_k"] ["_law_script", "_law_k"] (au dX):=⟨rfl,rfl,rfl,by decide +kernel,rfl,by decide +kernel,by decide +kernel⟩
theorem sc__law_letter:FnScope ["_law_cell", "_law_k", "_law_step"] ["_law_cell", "_law_k"] (au eY):=⟨rfl,rfl,rfl,by decide +kernel,rfl,by decide +kernel,by decide +kernel⟩
theorem xN:FnScope ["_law_cell", "_law_k"] ["_law_cell", "_law_k"] (au iu):=⟨rfl,rfl,rfl,by decide +kernel,rfl,by decide +kernel,by decide +kernel⟩
theorem sc__law_cluster:FnScope ["_law_base", "_law_many", "_law_number", "_law_found", "_law_k"] ["_law_base", "_law_many", "_law_number"] (au dY):=⟨rfl,rfl,rfl,by decide +kernel,rfl,by decide +kernel,by decide +kernel⟩
theorem sc__law_record:FnScope ["_law_script", "_law_at", "_law_cells", "_law_base", "_law_many", "_law_carriers", "_law_pairs", "_law_k", "_law_number", "_law_weights", "_law_some", "_law_longs", "_law_eithers", "_law_begins", "_law_splits", "_law_run"] ["_law_script", "_law_at"] (au bI):=⟨rfl,rfl,rfl,by decide +kernel,rfl,by decide +kernel,by decide +kernel⟩
theorem sc__law_rows:FnScope ["_law_record_here", "_law_cell", "_law_rows_here", "_law_k", "_law_word", "_law_some", "_law_middle"] ["_law_record_here", "_law_cell"] (au fH):=⟨rfl,rfl,rfl,by decide +kernel,rfl,by decide +kernel,by decide +kernel⟩
theorem sc__law_bad_row:FnScope ["_law_record_here", "_law_cell", "_law_one", "_law_stop", "_law_some"] ["_law_record_here", "_law_cell"] (au dZ):=⟨rfl,rfl,rfl,by decide +kernel,rfl,by decide +kernel,by decide +kernel⟩
theorem sc_told_behind:FnScope ["kind", "rows", "told", "row", "word"] ["kind", "rows"] (au eZ):=⟨rfl,rfl,rfl,by decide +kernel,rfl,by decide +kernel,by decide +kernel⟩
theorem sc_last_run:FnScope ["rows", "told", "row"] ["rows"] (au iy):=⟨rfl,rfl,rfl,by decide +kernel,rfl,by decide +kernel,by decide +kernel⟩
theorem sc_told_alike:FnScope ["rows", "told", "row"] ["rows"] (au gf):=⟨rfl,rfl,rfl,by decide +kernel,rfl,by decide +kernel,by decide +kernel⟩
theorem xj:FnScope ["text"] ["text"] (au gZ):=⟨rfl,rfl,rfl,by decide +kernel,rfl,by decide +kernel,by decide +kernel⟩
theorem sO:FnScope ["row"] ["row"] (au dw):=⟨rfl,rfl,rfl,by decide +kernel,rfl,by decide +kernel,by decide +kernel⟩
theorem u9:FnScope ["carrying", "word"] ["carrying", "word"] (au gh):=⟨rfl,rfl,rfl,by decide +kernel,rfl,by decide +kernel,by decide +kernel⟩
theorem u_:FnScope ["carrying", "row"] ["carrying", "row"] (au eG):=⟨rfl,rfl,rfl,by decide +kernel,rfl,by decide +kernel,by decide +kernel⟩
theorem zX:FnScope ["carrying", "text"] ["carrying", "text"] (au jl):=⟨rfl,rfl,rfl,by decide +kernel,rfl,by decide +kernel,by decide +kernel⟩
theorem pR:FnScope ["carrying", "carriers", "words"] ["carrying", "carriers", "words"] (au cg):=⟨rfl,rfl,rfl,by decide +kernel,rfl,by decide +kernel,by decide +kernel⟩
theorem vd:FnScope ["carrying", "word"] ["carrying", "word"] (au eN):=⟨rfl,rfl,rfl,by decide +kernel,rfl,by decide +kernel,by decide +kernel⟩
theorem sc_is_rule:FnScope ["carrying", "pairs", "row", "kind", "words", "carriers"] ["carrying", "pairs", "row"] (au gk):=⟨rfl,rfl,rfl,by decide +kernel,rfl,by decide +kernel,by decide +kernel⟩
theorem sc_Tongue____init__:FnScope ["self", "rows", "cut", "at", "row"] ["self", "rows"] (au bf):=⟨rfl,rfl,rfl,by decide +kernel,rfl,by decide +kernel,by decide +kernel⟩
theorem sc__law_refused:FnScope ["_law_rows_here", "_law_wrong", "_law_e"] ["_law_rows_here"] (au d7):=⟨rfl,rfl,rfl,by decide +kernel,rfl,by decide +kernel,by decide +kernel⟩
theorem sc__law_half_told:FnScope ["_law_base", "_law_one", "_law_other", "_law_rows_here"] ["_law_base"] (au dz):=⟨rfl,rfl,rfl,by decide +kernel,rfl,by decide +kernel,by decide +kernel⟩
theorem sc_law:FnScope ["_law_script", "_law_record_here", "_law_good", "_law_rows_here", "_law_at", "_law_below", "_law_cell", "_law_kept"] ["_law_script"] (au lz):=⟨rfl,rfl,rfl,by decide +kernel,rfl,by decide +kernel,by decide +kernel⟩
theorem ut:FnScope ["_law_e"] ["_law_e"] (au e_):=⟨rfl,rfl,rfl,by decide +kernel,rfl,by decide +kernel,by decide +kernel⟩
theorem oG:FnScope ["self", "at"] ["self", "at"] (au cU):=⟨rfl,rfl,rfl,by decide +kernel,rfl,by decide +kernel,by decide +kernel⟩
structure Adr where
 a0:Nat:=0
 t_LEAST_STOPS:Tok
 t_LETTERS:Tok
 t_MOST_STOPS:Tok
 a_RUNS:Addr
section
variable {P:Program}{w:World}{K:PySem.W.Frag}{mg:Str->Option Value}{base:Heap}{cl:Nat->Addr}{A:Adr}
structure Tx__law_others (P:Program) (w:World) (K:PySem.W.Frag) (mg:Str->Option Value) (base:Heap) (cl:Nat->Addr) (A:Adr):Prop where
 z_isinstance:mg "isinstance" = none
 k_NoRule_NoForm:PySem.W.kitOne K (.ref (cl 11)) (.ref (cl 13))=some false
 k_NoRule_NoMetre:PySem.W.kitOne K (.ref (cl 11)) (.ref (cl 12))=some false
 k_NoRule_NoName:PySem.W.kitOne K (.ref (cl 11)) (.ref (cl 16))=some false
 k_NoRule_NoReading:PySem.W.kitOne K (.ref (cl 11)) (.ref (cl 15))=some false
 k_NoRule_NoRow:PySem.W.kitOne K (.ref (cl 11)) (.ref (cl 17))=some false
 k_NoRule_NoWord:PySem.W.kitOne K (.ref (cl 11)) (.ref (cl 14))=some false
 m_NoForm:mg "NoForm" = some (.ref (cl 13))
 m_NoMetre:mg "NoMetre" = some (.ref (cl 12))
 m_NoName:mg "NoName" = some (.ref (cl 16))
 m_NoReading:mg "NoReading" = some (.ref (cl 15))
 m_NoRow:mg "NoRow" = some (.ref (cl 17))
 m_NoWord:mg "NoWord" = some (.ref (cl 14))
 xc_NoRule:XCls K (cl 11)
theorem mD {f:Addr}{fd:FuncData}(F:Fun K "_law_others" "_law_others" e_ f fd) (T:Tx__law_others P w K mg base cl A) (d:Option Nat):FnOk P w K mg base CX0 1 f fd ["_law_e"] (spE (cl 11) d (.bl false)):=by
 refine Kr F ut λcdv A' outer s H E hr=>?_
 exact(rT (PW.pt (rR (j:=false) (k:=false) (j5 (lL 0 T.xc_NoRule T.k_NoRule_NoWord T.z_isinstance T.m_NoWord)) (rR (j:=false) (k:=false) (j5 (lL 0 T.xc_NoRule T.k_NoRule_NoMetre T.z_isinstance T.m_NoMetre)) (wD (j5 (lL 0 T.xc_NoRule T.k_NoRule_NoReading T.z_isinstance T.m_NoReading)))))) (Ci rfl (Gd (j:=false) (k:=false) (lL 0 T.xc_NoRule T.k_NoRule_NoForm T.z_isinstance T.m_NoForm) (Gd (j:=false) (k:=false) (lL 0 T.xc_NoRule T.k_NoRule_NoName T.z_isinstance T.m_NoName) (Km (lL 0 T.xc_NoRule T.k_NoRule_NoRow T.z_isinstance T.m_NoRow))))))
theorem xO {f:Addr}{fd:FuncData}(F:Fun K "__init__" "NoRule.__init__" cU f fd) (hC:jr K (cl 11) f=true) (hb:BaseInit K (cl 10) "ValueError.__init__") (hm:mg "LiltError" = some (.ref (cl 10))):FnOk P w K mg base CX0 1 f fd ["self", "at"] (zL (cl 11)):=
 Ks F oG λcdv A' outer s H E=>jC (Hl hC hb rfl (.inl rfl) rfl hm (Kf rfl (.inl rfl) (by decide) (by decide)) rfl rfl rfl rfl rfl) (sY (Ni hC rfl (.inl rfl) rfl (.inl rfl) rfl))
structure Tx__law_cell_at (P:Program) (w:World) (K:PySem.W.Frag) (mg:Str->Option Value) (base:Heap) (cl:Nat->Addr) (A:Adr):Prop where
 z_len:mg "len" = none
theorem sS {f:Addr}{fd:FuncData}(F:Fun K "_law_cell_at" "_law_cell_at" dX f fd) (T:Tx__law_cell_at P w K mg base cl A):FnOk P w K mg base CX0 1 f fd ["_law_script", "_law_k"] (spM ⟨K,cl⟩ aG false):=by
 refine F.ok sJ (λvs H Q E h=>b8 h) (λcdv A' outer s H vs Q E hr h=>b7 (G:=[]) (G':=[]) (L:=[]) (N:=["_law_script", "_law_k"]) rfl (by decide) (by decide) (λB H'=>?_) h)
 exact(aC (eQ (bY (Mt (ao 1) (dm T.z_len (ao 0)))) (aQ (bT (bu hr (ao 0) (ao 1)))) cO) (aQ (bT aq)))
structure Tx__law_letter (P:Program) (w:World) (K:PySem.W.Frag) (mg:Str->Option Value) (base:Heap) (cl:Nat->Addr) (A:Adr):Prop where
 ok:True
theorem uv {f:Addr}{fd:FuncData}(F:Fun K "_law_letter" "_law_letter" eY f fd) (T:Tx__law_letter P w K mg base cl A):FnOk P w K mg base CX0 1 f fd ["_law_cell", "_law_k"] (spM ⟨K,cl⟩ aY false):=by
 refine F.ok sc__law_letter (λvs H Q E h=>b8 h) (λcdv A' outer s H vs Q E hr h=>b7 (G:=[]) (G':=[]) (L:=[]) (N:=["_law_cell", "_law_k", "_law_step"]) rfl (by decide) (by decide) (λB H'=>?_) h)
 exact(aC (bB 2 sc__law_letter.nd (bu hr (cA (aj aq (aj aq (aj aq (aj aq (aj aq (aj aq (aj aq (aj aq aD))))))))) (cD (gO (ao 0) aq) aq))) (aQ (bT (bu hr az (cD (aB (ao 0) (o9 (ao 1) (ao 2))) aq)))))
structure Tx__law_mix (P:Program) (w:World) (K:PySem.W.Frag) (mg:Str->Option Value) (base:Heap) (cl:Nat->Addr) (A:Adr):Prop where
 ok:True
theorem xP {f:Addr}{fd:FuncData}(F:Fun K "_law_mix" "_law_mix" iu f fd) (T:Tx__law_mix P w K mg base cl A):FnOk P w K mg base CX0 1 f fd ["_law_cell", "_law_k"] (spM ⟨K,cl⟩ dW false):=by
 refine F.ok xN (λvs H Q E h=>b8 h) (λcdv A' outer s H vs Q E hr h=>b7 (G:=[]) (G':=[]) (L:=[]) (N:=["_law_cell", "_law_k"]) rfl (by decide) (by decide) (λB H'=>?_) h)
 exact(aQ (bT (cD (aB (o9 (cD (ao 0) aq) (aB aq (o9 (o9 aq (ao 1)) (ao 1)))) (o9 aq (ao 1))) aq)))
structure Tx__law_cluster (P:Program) (w:World) (K:PySem.W.Frag) (mg:Str->Option Value) (base:Heap) (cl:Nat->Addr) (A:Adr):Prop where
 z_range:mg "range" = none
 c__law_letter:Cal P w K mg base 1 "_law_letter" ["_law_cell", "_law_k"] (spM ⟨K,cl⟩ aY false)
theorem sU {f:Addr}{fd:FuncData}(F:Fun K "_law_cluster" "_law_cluster" dY f fd) (T:Tx__law_cluster P w K mg base cl A):FnOk P w K mg base CX0 2 f fd ["_law_base", "_law_many", "_law_number"] (spM ⟨K,cl⟩ dI false):=by
 refine F.ok sc__law_cluster (λvs H Q E h=>b8 h) (λcdv A' outer s H vs Q E hr h=>b7 (G:=[]) (G':=[]) (L:=[]) (N:=["_law_base", "_law_many", "_law_number", "_law_found", "_law_k"]) rfl (by decide) (by decide) (λB H'=>?_) h)
 exact(aC (bB 3 sc__law_cluster.nd az) (aC (k_ [4] (kZ T.z_range (aB aq (cD (ao 2) aq))) (qQ 4 sc__law_cluster.nd) (aQ (bB 3 sc__law_cluster.nd (aB (ao 3) (aK T.c__law_letter hr (aj (ao 0) (aj (aB (ao 1) (cD (gO (ao 2) (bu hr (cA (aj aq (aj aq (aj aq (aj aq aD))))) (ao 4))) (bu hr (cA (aj aq (aj aq aD))) (cD (gO (ao 2) aq) aq)))) aD)))))) PassesOwn.never) (aQ (bT (ao 3)))))
structure Tx__law_record (P:Program) (w:World) (K:PySem.W.Frag) (mg:Str->Option Value) (base:Heap) (cl:Nat->Addr) (A:Adr):Prop where
 z_len:mg "len" = none
 z_range:mg "range" = none
 c__law_cell_at:Cal P w K mg base 1 "_law_cell_at" ["_law_script", "_law_k"] (spM ⟨K,cl⟩ aG false)
 c__law_cluster:Cal P w K mg base 2 "_law_cluster" ["_law_base", "_law_many", "_law_number"] (spM ⟨K,cl⟩ dI false)
 c__law_letter:Cal P w K mg base 1 "_law_letter" ["_law_cell", "_law_k"] (spM ⟨K,cl⟩ aY false)
 c__law_mix:Cal P w K mg base 1 "_law_mix" ["_law_cell", "_law_k"] (spM ⟨K,cl⟩ dW false)
theorem uw {f:Addr}{fd:FuncData}(F:Fun K "_law_record" "_law_record" bI f fd) (T:Tx__law_record P w K mg base cl A):FnOk P w K mg base CX0 3 f fd ["_law_script", "_law_at"] (spM ⟨K,cl⟩ cT false):=by
 refine F.ok sc__law_record (λvs H Q E h=>b8 h) (λcdv A' outer s H vs Q E hr h=>b7 (G:=[6]) (G':=[]) (L:=[]) (N:=["_law_script", "_law_at", "_law_cells", "_law_base", "_law_many", "_law_carriers", "_law_pairs", "_law_k", "_law_number", "_law_weights", "_law_some", "_law_longs", "_law_eithers", "_law_begins", "_law_splits", "_law_run"]) rfl (by decide) (by decide) (λB H'=>?_) h)
 exact(aC (bB 2 sc__law_record.nd (SE.val (dH (osc:=(au bI)) (ON:=["_law_script", "_law_at", "_law_cells", "_law_base", "_law_many", "_law_carriers", "_law_pairs", "_law_k", "_law_number", "_law_weights", "_law_some", "_law_longs", "_law_eithers", "_law_begins", "_law_splits", "_law_run"]) (N:=["_law_k", "_law_script", "_law_at"]) (cap:=[none,some 0,some 1]) ⟨rfl,by decide +kernel,by decide +kernel,by decide +kernel,by decide +kernel⟩ (fB 0) (kZ T.z_range aq) (λ_ _ _ _=>bQ (i:=0) (show (["_law_k", "_law_script", "_law_at"]:List Str).Nodup by decide +kernel) rfl (Or.inl rfl)) (λ_ _ _ _=>cR) (λ_ _ _ _=>(aK T.c__law_cell_at hr (aj (ao 1) (aj (aB (ao 2) (ao 0)) aD))))))) (aC (bB 3 sc__law_record.nd (bu hr (ao 2) aq)) (aC (bB 4 sc__law_record.nd (aB aq (cD (bu hr (ao 2) aq) aq))) (aC (lJ 5 sc__law_record.nd (osc:=(au bI)) (ON:=["_law_script", "_law_at", "_law_cells", "_law_base", "_law_many", "_law_carriers", "_law_pairs", "_law_k", "_law_number", "_law_weights", "_law_some", "_law_longs", "_law_eithers", "_law_begins", "_law_splits", "_law_run"]) (N:=["_law_k", "_law_base"]) (cap:=[none,some 3]) ⟨rfl,by decide +kernel,by decide +kernel,by decide +kernel,by decide +kernel⟩ (fB 0) (kZ T.z_range (ao 4)) (λ_ _ _ _=>bQ (i:=0) (show (["_law_k", "_law_base"]:List Str).Nodup by decide +kernel) rfl (Or.inl rfl)) (λ_ _ _ _=>cR) (λ_ _ _ _=>(aK T.c__law_letter hr (aj (ao 1) (aj (ao 0) aD))))) (aC (mK 6 sc__law_record.nd (cA aD)) (aC (k_ [7,8] (kZ T.z_range (cD (gO (bu hr (ao 2) aq) aq) aq)) (qQ 7 sc__law_record.nd) (aC (bB 8 sc__law_record.nd (aK T.c__law_mix hr (aj (bu hr (ao 2) aq) (aj (ao 7) aD)))) (aQ (zu 6 (aB (bu hr (ao 5) (cD (ao 8) (ao 4))) (bu hr (ao 5) (cD (gO (ao 8) aq) (ao 4))))))) PassesOwn.never) (aC (bB 9 sc__law_record.nd (SE.val (dH (osc:=(au bI)) (ON:=["_law_script", "_law_at", "_law_cells", "_law_base", "_law_many", "_law_carriers", "_law_pairs", "_law_k", "_law_number", "_law_weights", "_law_some", "_law_longs", "_law_eithers", "_law_begins", "_law_splits", "_law_run"]) (N:=["_law_k", "_law_cells"]) (cap:=[none,some 2]) ⟨rfl,by decide +kernel,by decide +kernel,by decide +kernel,by decide +kernel⟩ (fB 0) (kZ T.z_range (aB (ao 4) (dm T.z_len (iB 6)))) (λ_ _ _ _=>bQ (i:=0) (show (["_law_k", "_law_cells"]:List Str).Nodup by decide +kernel) rfl (Or.inl rfl)) (λ_ _ _ _=>cR) (λ_ _ _ _=>(cD (aK T.c__law_mix hr (aj (bu hr (ao 1) aq) (aj (ao 0) aD))) aq))))) (aC (bB 10 sc__law_record.nd (aB (ao 5) (iB 6))) (aC (lJ 11 sc__law_record.nd (osc:=(au bI)) (ON:=["_law_script", "_law_at", "_law_cells", "_law_base", "_law_many", "_law_carriers", "_law_pairs", "_law_k", "_law_number", "_law_weights", "_law_some", "_law_longs", "_law_eithers", "_law_begins", "_law_splits", "_law_run"]) (N:=["_law_k", "_law_some", "_law_weights"]) (cap:=[none,some 10,some 9]) ⟨rfl,by decide +kernel,by decide +kernel,by decide +kernel,by decide +kernel⟩ (fB 0) (kZ T.z_range (dm T.z_len (ao 10))) (λ_ _ _ _=>bQ (i:=0) (show (["_law_k", "_law_some", "_law_weights"]:List Str).Nodup by decide +kernel) rfl (Or.inl rfl)) (λ_ _ _ _=>jD (bY (nq hr (bu hr (ao 2) (ao 0)) (wk (aj aq (aj aq aD)))))) (λ_ _ _ _=>(bu hr (ao 1) (ao 0)))) (aC (lJ 12 sc__law_record.nd (osc:=(au bI)) (ON:=["_law_script", "_law_at", "_law_cells", "_law_base", "_law_many", "_law_carriers", "_law_pairs", "_law_k", "_law_number", "_law_weights", "_law_some", "_law_longs", "_law_eithers", "_law_begins", "_law_splits", "_law_run"]) (N:=["_law_k", "_law_some", "_law_weights"]) (cap:=[none,some 10,some 9]) ⟨rfl,by decide +kernel,by decide +kernel,by decide +kernel,by decide +kernel⟩ (fB 0) (kZ T.z_range (dm T.z_len (ao 10))) (λ_ _ _ _=>bQ (i:=0) (show (["_law_k", "_law_some", "_law_weights"]:List Str).Nodup by decide +kernel) rfl (Or.inl rfl)) (λ_ _ _ _=>jD (bY (rG (bu hr (ao 2) (ao 0)) aq))) (λ_ _ _ _=>(bu hr (ao 1) (ao 0)))) (aC (lJ 13 sc__law_record.nd (osc:=(au bI)) (ON:=["_law_script", "_law_at", "_law_cells", "_law_base", "_law_many", "_law_carriers", "_law_pairs", "_law_k", "_law_number", "_law_weights", "_law_some", "_law_longs", "_law_eithers", "_law_begins", "_law_splits", "_law_run"]) (N:=["_law_k", "_law_base", "_law_many", "_law_cells"]) (cap:=[none,some 3,some 4,some 2]) ⟨rfl,by decide +kernel,by decide +kernel,by decide +kernel,by decide +kernel⟩ (fB 0) (kZ T.z_range (cD (gO (bu hr (ao 2) aq) aq) aq)) (λ_ _ _ _=>bQ (i:=0) (show (["_law_k", "_law_base", "_law_many", "_law_cells"]:List Str).Nodup by decide +kernel) rfl (Or.inl rfl)) (λ_ _ _ _=>cR) (λ_ _ _ _=>(aK T.c__law_cluster hr (aj (ao 1) (aj (ao 2) (aj (aK T.c__law_mix hr (aj (bu hr (ao 3) aq) (aj (ao 0) aD))) aD)))))) (aC (lJ 14 sc__law_record.nd (osc:=(au bI)) (ON:=["_law_script", "_law_at", "_law_cells", "_law_base", "_law_many", "_law_carriers", "_law_pairs", "_law_k", "_law_number", "_law_weights", "_law_some", "_law_longs", "_law_eithers", "_law_begins", "_law_splits", "_law_run"]) (N:=["_law_k", "_law_base", "_law_many", "_law_cells"]) (cap:=[none,some 3,some 4,some 2]) ⟨rfl,by decide +kernel,by decide +kernel,by decide +kernel,by decide +kernel⟩ (fB 0) (kZ T.z_range (cD (gO (bu hr (ao 2) aq) aq) aq)) (λ_ _ _ _=>bQ (i:=0) (show (["_law_k", "_law_base", "_law_many", "_law_cells"]:List Str).Nodup by decide +kernel) rfl (Or.inl rfl)) (λ_ _ _ _=>cR) (λ_ _ _ _=>(aK T.c__law_cluster hr (aj (ao 1) (aj (ao 2) (aj (aK T.c__law_mix hr (aj (bu hr (ao 3) aq) (aj (ao 0) aD))) aD)))))) (aC (bB 15 sc__law_record.nd (bu hr (cA (aj az (aj az (aj az (aj az aD))))) (cD (gO (bu hr (ao 2) aq) aq) aq))) (rM (G1:=[]) (aQ (bT (wk (aj (ao 5) (aj (ao 6) (aj (ao 11) (aj (ao 12) (aj (ao 13) (aj (ao 14) (aj (ao 15) (aj (ao 3) aD)))))))))))))))))))))))))
structure Tx__law_rows (P:Program) (w:World) (K:PySem.W.Frag) (mg:Str->Option Value) (base:Heap) (cl:Nat->Addr) (A:Adr):Prop where
 z_enumerate:mg "enumerate" = none
 z_len:mg "len" = none
theorem xm {f:Addr}{fd:FuncData}(F:Fun K "_law_rows" "_law_rows" fH f fd) (T:Tx__law_rows P w K mg base cl A):FnOk P w K mg base CX0 1 f fd ["_law_record_here", "_law_cell"] (spM ⟨K,cl⟩ d_ true):=by
 refine F.ok sc__law_rows (λvs H Q E h=>b8 h) (λcdv A' outer s H vs Q E hr h=>b7 (G:=[2]) (G':=[2]) (L:=[]) (N:=["_law_record_here", "_law_cell", "_law_rows_here", "_law_k", "_law_word", "_law_some", "_law_middle"]) rfl (by decide) (by decide) (λB H'=>?_) h)
 exact(aC (mK 2 sc__law_rows.nd (cA aD)) (aC (k_ [3,4,5] (tU T.z_enumerate (cA (aj az (aj az (aj az (aj az (aj az (aj az aD))))))) (λ_=>by intro z;cases z)) (DY (jF 3 sc__law_rows.nd (jF 4 sc__law_rows.nd tW))) (aC (bB 5 sc__law_rows.nd (bu hr (ao 0) (ao 3))) (aQ (eQ (bY (cY hr (cD (gO (ao 1) (bu hr (cA (aj aq (aj aq (aj aq (aj aq (aj aq (aj aq aD))))))) (ao 3))) aq) aq)) (aQ (mK 2 sc__law_rows.nd (fM (iB 2) (dH (osc:=(au fH)) (ON:=["_law_record_here", "_law_cell", "_law_rows_here", "_law_k", "_law_word", "_law_some", "_law_middle"]) (N:=["_law_one", "_law_word"]) (cap:=[none,some 4]) ⟨rfl,by decide +kernel,by decide +kernel,by decide +kernel,by decide +kernel⟩ (fB 0) (gA (ao 5) (λz=>by cases z)) (λ_ _ _ _=>bQ (i:=0) (show (["_law_one", "_law_word"]:List Str).Nodup by decide +kernel) rfl (Or.inl rfl)) (λ_ _ _ _=>cR) (λ_ _ _ _=>(aB (aB (ao 1) az) (ao 0))))))) (aQ (eQ (bY (kO hr (ao 5) (cA aD))) (aQ (zu 2 (aB (aB (ao 4) az) (G9 az (ao 5))))) cO))))) PassesOwn.never) (aC (eQ (bY (kO hr (bu hr (ao 0) aq) az)) (aQ (zu 2 (aB az (bu hr (ao 0) aq)))) cO) (aC (bB 6 sc__law_rows.nd (cD (gO (ao 1) aq) (aB (dm T.z_len (iB 2)) aq))) (aQ (J2 (fM (kW (iB 2) (gU (ao 6)) jd) (kW (iB 2) jd (gU (ao 6))))))))))
structure Tx__law_bad_row (P:Program) (w:World) (K:PySem.W.Frag) (mg:Str->Option Value) (base:Heap) (cl:Nat->Addr) (A:Adr):Prop where
 z_len:mg "len" = none
 c__law_letter:Cal P w K mg base 1 "_law_letter" ["_law_cell", "_law_k"] (spM ⟨K,cl⟩ aY false)
theorem sV {f:Addr}{fd:FuncData}(F:Fun K "_law_bad_row" "_law_bad_row" dZ f fd) (T:Tx__law_bad_row P w K mg base cl A):FnOk P w K mg base CX0 2 f fd ["_law_record_here", "_law_cell"] (spM ⟨K,cl⟩ bh false):=by
 refine F.ok sc__law_bad_row (λvs H Q E h=>b8 h) (λcdv A' outer s H vs Q E hr h=>b7 (G:=[]) (G':=[]) (L:=[]) (N:=["_law_record_here", "_law_cell", "_law_one", "_law_stop", "_law_some"]) rfl (by decide) (by decide) (λB H'=>?_) h)
 exact(aC (bB 2 sc__law_bad_row.nd (bu hr (bu hr (ao 0) aq) (cD (gO (ao 1) aq) (dm T.z_len (bu hr (ao 0) aq))))) (aC (bB 3 sc__law_bad_row.nd (aK T.c__law_letter hr (aj (bu hr (ao 0) aq) (aj aq aD)))) (aC (bB 4 sc__law_bad_row.nd (SE.val (cA (aj az (aj az (aj az (aj az (aj (aB az (ao 2)) (aj (aB (aB az (ao 2)) az) (aj (aB az (ao 2)) (aj (aB az (ao 2)) aD))))))))))) (aC (bB 4 sc__law_bad_row.nd (SE.val (fM (ao 4) (cA (aj (aB az (Cq (ao 2))) (aj (aB (aB az (ao 2)) (ao 3)) (aj az (aj (aB (aB (aB az (ao 2)) az) (ao 3)) (aj az aD))))))))) (aC (bB 4 sc__law_bad_row.nd (SE.val (fM (ao 4) (cA (aj (aB az (ao 2)) (aj (aB (aB az (ao 2)) (ao 3)) (aj (aB az (eU (ao 2) aq)) (aj (aB az (eU (ao 3) aq)) (aj (aB (aB (aB az (ao 2)) az) (ao 2)) aD))))))))) (aC (bB 4 sc__law_bad_row.nd (SE.val (fM (ao 4) (cA (aj az (aj (aB az (ao 3)) (aj (aB (aB az (ao 2)) (ao 3)) (aj (aB (aB (aB az (ao 2)) az) (eU (ao 3) aq)) (aj (aB az (eU (ao 2) aq)) aD))))))))) (aC (bB 4 sc__law_bad_row.nd (SE.val (fM (ao 4) (cA (aj (aB az (ao 3)) (aj az (aj (aB az (ao 3)) (aj (aB az (eU (ao 3) aq)) (aj (aB (aB az (ao 3)) (ao 2)) aD))))))))) (aC (bB 4 sc__law_bad_row.nd (SE.val (fM (ao 4) (cA (aj (aB (aB (aB az (eU (ao 3) aq)) az) (ao 3)) (aj (aB (aB az (ao 2)) (ao 3)) (aj (aB az (ao 3)) (aj az (aj az aD))))))))) (aC (bB 4 sc__law_bad_row.nd (SE.val (fM (ao 4) (cA (aj az (aj az (aj (aB az (ao 2)) (aj (aB (aB (aB az (ao 2)) az) (ao 3)) (aj (aB az (ao 2)) aD))))))))) (aC (bB 4 sc__law_bad_row.nd (SE.val (fM (ao 4) (cA (aj (aB (aB (aB (aB (aB az (ao 2)) az) (ao 2)) az) (ao 2)) (aj (aB (aB (aB az (eU (ao 3) aq)) az) (ao 3)) (aj az (aj az (aj az aD))))))))) (aC (bB 4 sc__law_bad_row.nd (SE.val (fM (ao 4) (cA (aj (aB (aB (aB az (ao 3)) az) (ao 2)) (aj (aB (aB (aB az (ao 3)) az) (eU (ao 3) aq)) (aj (aB (aB (aB az (ao 2)) az) (eU (ao 2) aq)) aD))))))) (aC (bB 4 sc__law_bad_row.nd (SE.val (fM (ao 4) (cA (aj (aB az (eU (ao 3) aq)) (aj (aB (aB (aB az (ao 3)) az) (eU (ao 3) aq)) aD)))))) (aQ (bT (bu hr (ao 4) (cD (ao 1) aq))))))))))))))))
structure Tx_told_behind (P:Program) (w:World) (K:PySem.W.Frag) (mg:Str->Option Value) (base:Heap) (cl:Nat->Addr) (A:Adr):Prop where
 ok:True
theorem ux {f:Addr}{fd:FuncData}(F:Fun K "told_behind" "told_behind" eZ f fd) (T:Tx_told_behind P w K mg base cl A):FnOk P w K mg base CX0 1 f fd ["kind", "rows"] (spM ⟨K,cl⟩ aV false):=by
 refine F.ok sc_told_behind (λvs H Q E h=>b8 h) (λcdv A' outer s H vs Q E hr h=>b7 (G:=[2]) (G':=[]) (L:=[]) (N:=["kind", "rows", "told", "row", "word"]) rfl (by decide) (by decide) (λB H'=>?_) h)
 exact(aC (mK 2 sc_told_behind.nd Mw) (aC (k_ [3,4] (gA (ao 1) (λ_=>by intro z;cases z)) (qQ 3 sc_told_behind.nd) (aQ (eQ (bY (cY hr (bu hr (ao 3) aq) (ao 0))) (aQ (k_ [4] (gA (kW (ao 3) (gU aq) jd) (λ_=>by intro z;cases z)) (qQ 4 sc_told_behind.nd) (aQ (F_ 2 hr (ao 4) lV)) PassesOwn.never)) cO)) PassesOwn.never) (rM (G1:=[]) (aQ (bT (ao 2))))))
structure Tx_last_run (P:Program) (w:World) (K:PySem.W.Frag) (mg:Str->Option Value) (base:Heap) (cl:Nat->Addr) (A:Adr):Prop where
 ok:True
theorem xQ {f:Addr}{fd:FuncData}(F:Fun K "last_run" "last_run" iy f fd) (T:Tx_last_run P w K mg base cl A):FnOk P w K mg base CX0 1 f fd ["rows"] (spM ⟨K,cl⟩ gY false):=by
 refine F.ok sc_last_run (λvs H Q E h=>b8 h) (λcdv A' outer s H vs Q E hr h=>b7 (G:=[]) (G':=[]) (L:=[]) (N:=["rows", "told", "row"]) rfl (by decide) (by decide) (λB H'=>?_) h)
 exact(aC (bB 1 sc_last_run.nd az) (aC (k_ [2] (gA (ao 0) (λ_=>by intro z;cases z)) (qQ 2 sc_last_run.nd) (aQ (eQ (bY (cY hr (bu hr (ao 2) aq) az)) (aQ (bB 1 sc_last_run.nd (bu hr (ao 2) aq))) cO)) PassesOwn.never) (aQ (bT (ao 1)))))
structure Tx_told_alike (P:Program) (w:World) (K:PySem.W.Frag) (mg:Str->Option Value) (base:Heap) (cl:Nat->Addr) (A:Adr):Prop where
 ok:True
theorem vf {f:Addr}{fd:FuncData}(F:Fun K "told_alike" "told_alike" gf f fd) (T:Tx_told_alike P w K mg base cl A):FnOk P w K mg base CX0 1 f fd ["rows"] (spM ⟨K,cl⟩ eV false):=by
 refine F.ok sc_told_alike (λvs H Q E h=>b8 h) (λcdv A' outer s H vs Q E hr h=>b7 (G:=[1]) (G':=[]) (L:=[]) (N:=["rows", "told", "row"]) rfl (by decide) (by decide) (λB H'=>?_) h)
 exact(aC (mK 1 sc_told_alike.nd Mx) (aC (k_ [2] (gA (ao 0) (λ_=>by intro z;cases z)) (qQ 2 sc_told_alike.nd) (aQ (eQ (bY (cY hr (bu hr (ao 2) aq) az)) (aQ (F_ 1 hr (wk (aj (bu hr (ao 2) aq) (aj (bu hr (ao 2) aq) aD))) lV)) cO)) PassesOwn.never) (rM (G1:=[]) (aQ (bT (ao 1))))))
structure Tx_is_letter (P:Program) (w:World) (K:PySem.W.Frag) (mg:Str->Option Value) (base:Heap) (cl:Nat->Addr) (A:Adr):Prop where
 z_len:mg "len" = none
 g_LETTERS:mg "LETTERS" = some (.str "abcdefghijklmnopqrstuvwxyz" A.t_LETTERS)
theorem xn {f:Addr}{fd:FuncData}(F:Fun K "is_letter" "is_letter" gZ f fd) (T:Tx_is_letter P w K mg base cl A):FnOk P w K mg base CX0 1 f fd ["text"] (spM ⟨K,cl⟩ eE false):=by
 refine F.ok xj (λvs H Q E h=>b8 h) (λcdv A' outer s H vs Q E hr h=>b7 (G:=[]) (G':=[]) (L:=[]) (N:=["text"]) rfl (by decide) (by decide) (λB H'=>?_) h)
 exact(aQ (bT (dU (cF (cY hr (dm T.z_len (ao 0)) aq)) (fP (cF (nq hr (ao 0) (Ml T.g_LETTERS)))))))
structure Tx_is_carry_row (P:Program) (w:World) (K:PySem.W.Frag) (mg:Str->Option Value) (base:Heap) (cl:Nat->Addr) (A:Adr):Prop where
 z_all:mg "all" = none
 z_len:mg "len" = none
 c_is_letter:Cal P w K mg base 1 "is_letter" ["text"] (spM ⟨K,cl⟩ eE false)
theorem sW {f:Addr}{fd:FuncData}(F:Fun K "is_carry_row" "is_carry_row" dw f fd) (T:Tx_is_carry_row P w K mg base cl A):FnOk P w K mg base CX0 2 f fd ["row"] (spM ⟨K,cl⟩ cB false):=by
 refine F.ok sO (λvs H Q E h=>b8 h) (λcdv A' outer s H vs Q E hr h=>b7 (G:=[]) (G':=[]) (L:=[]) (N:=["row"]) rfl (by decide) (by decide) (λB H'=>?_) h)
 exact(aQ (bT (dU (cF (cY hr (bu hr (ao 0) aq) az)) (dU (cF (rG (dm T.z_len (ao 0)) aq)) (fP (lH T.z_all (dH (osc:=(au dw)) (ON:=["row"]) (N:=["word"]) (cap:=[none]) ⟨rfl,by decide +kernel,by decide +kernel,by decide +kernel,by decide +kernel⟩ (fB 0) (gA (kW (ao 0) (gU aq) jd) (λz=>by cases z)) (λ_ _ _ _=>bQ (i:=0) (show (["word"]:List Str).Nodup by decide +kernel) rfl (Or.inl rfl)) (λ_ _ _ _=>cR) (λ_ _ _ _=>(aK T.c_is_letter hr (aj (ao 0) aD))))))))))
structure Tx_is_pair_of (P:Program) (w:World) (K:PySem.W.Frag) (mg:Str->Option Value) (base:Heap) (cl:Nat->Addr) (A:Adr):Prop where
 z_len:mg "len" = none
theorem vg {f:Addr}{fd:FuncData}(F:Fun K "is_pair_of" "is_pair_of" gh f fd) (T:Tx_is_pair_of P w K mg base cl A):FnOk P w K mg base CX0 1 f fd ["carrying", "word"] (spM ⟨K,cl⟩ gP false):=by
 refine F.ok u9 (λvs H Q E h=>b8 h) (λcdv A' outer s H vs Q E hr h=>b7 (G:=[]) (G':=[]) (L:=[]) (N:=["carrying", "word"]) rfl (by decide) (by decide) (λB H'=>?_) h)
 exact(aQ (bT (dU (cF (cY hr (dm T.z_len (ao 1)) aq)) (dU (cF (nq hr (bu hr (ao 1) aq) (ao 0))) (fP (cF (nq hr (bu hr (ao 1) aq) (ao 0))))))))
structure Tx_is_one_row (P:Program) (w:World) (K:PySem.W.Frag) (mg:Str->Option Value) (base:Heap) (cl:Nat->Addr) (A:Adr):Prop where
 z_all:mg "all" = none
 z_len:mg "len" = none
 c_is_pair_of:Cal P w K mg base 1 "is_pair_of" ["carrying", "word"] (spM ⟨K,cl⟩ gP false)
theorem vh {f:Addr}{fd:FuncData}(F:Fun K "is_one_row" "is_one_row" eG f fd) (T:Tx_is_one_row P w K mg base cl A):FnOk P w K mg base CX0 2 f fd ["carrying", "row"] (spM ⟨K,cl⟩ cQ false):=by
 refine F.ok u_ (λvs H Q E h=>b8 h) (λcdv A' outer s H vs Q E hr h=>b7 (G:=[]) (G':=[]) (L:=[]) (N:=["carrying", "row"]) rfl (by decide) (by decide) (λB H'=>?_) h)
 exact(aQ (bT (dU (cF (cY hr (bu hr (ao 1) aq) az)) (dU (cF (rG (dm T.z_len (ao 1)) aq)) (fP (lH T.z_all (dH (osc:=(au eG)) (ON:=["carrying", "row"]) (N:=["word", "carrying"]) (cap:=[none,some 0]) ⟨rfl,by decide +kernel,by decide +kernel,by decide +kernel,by decide +kernel⟩ (fB 0) (gA (kW (ao 1) (gU aq) jd) (λz=>by cases z)) (λ_ _ _ _=>bQ (i:=0) (show (["word", "carrying"]:List Str).Nodup by decide +kernel) rfl (Or.inl rfl)) (λ_ _ _ _=>cR) (λ_ _ _ _=>(aK T.c_is_pair_of hr (aj (ao 1) (aj (ao 0) aD)))))))))))
structure Tx_is_stop (P:Program) (w:World) (K:PySem.W.Frag) (mg:Str->Option Value) (base:Heap) (cl:Nat->Addr) (A:Adr):Prop where
 c_is_letter:Cal P w K mg base 1 "is_letter" ["text"] (spM ⟨K,cl⟩ eE false)
theorem zY {f:Addr}{fd:FuncData}(F:Fun K "is_stop" "is_stop" jl f fd) (T:Tx_is_stop P w K mg base cl A):FnOk P w K mg base CX0 2 f fd ["carrying", "text"] (spM ⟨K,cl⟩ gG false):=by
 refine F.ok zX (λvs H Q E h=>b8 h) (λcdv A' outer s H vs Q E hr h=>b7 (G:=[]) (G':=[]) (L:=[]) (N:=["carrying", "text"]) rfl (by decide) (by decide) (λB H'=>?_) h)
 exact(aQ (bT (dU (aK T.c_is_letter hr (aj (ao 1) aD)) (fP (cF (DQ hr (ao 1) (ao 0)))))))
structure Tx_are_alike_units (P:Program) (w:World) (K:PySem.W.Frag) (mg:Str->Option Value) (base:Heap) (cl:Nat->Addr) (A:Adr):Prop where
 z_all:mg "all" = none
 z_len:mg "len" = none
 c_is_stop:Cal P w K mg base 2 "is_stop" ["carrying", "text"] (spM ⟨K,cl⟩ gG false)
theorem pU {f:Addr}{fd:FuncData}(F:Fun K "are_alike_units" "are_alike_units" cg f fd) (T:Tx_are_alike_units P w K mg base cl A):FnOk P w K mg base CX0 3 f fd ["carrying", "carriers", "words"] (spM ⟨K,cl⟩ dD false):=by
 refine F.ok pR (λvs H Q E h=>b8 h) (λcdv A' outer s H vs Q E hr h=>b7 (G:=[]) (G':=[]) (L:=[]) (N:=["carrying", "carriers", "words"]) rfl (by decide) (by decide) (λB H'=>?_) h)
 exact(aC (eQ (bY (kO hr (dm T.z_len (ao 2)) aq)) (aQ (bT lV)) cO) (aQ (bT (Mv (lH T.z_all (dH (osc:=(au cg)) (ON:=["carrying", "carriers", "words"]) (N:=["word", "carriers"]) (cap:=[none,some 1]) ⟨rfl,by decide +kernel,by decide +kernel,by decide +kernel,by decide +kernel⟩ (fB 0) (gA (ao 2) (λz=>by cases z)) (λ_ _ _ _=>bQ (i:=0) (show (["word", "carriers"]:List Str).Nodup by decide +kernel) rfl (Or.inl rfl)) (λ_ _ _ _=>cR) (λ_ _ _ _=>(cF (nq hr (ao 0) (ao 1)))))) (fP (lH T.z_all (dH (osc:=(au cg)) (ON:=["carrying", "carriers", "words"]) (N:=["word", "carrying"]) (cap:=[none,some 0]) ⟨rfl,by decide +kernel,by decide +kernel,by decide +kernel,by decide +kernel⟩ (fB 0) (gA (ao 2) (λz=>by cases z)) (λ_ _ _ _=>bQ (i:=0) (show (["word", "carrying"]:List Str).Nodup by decide +kernel) rfl (Or.inl rfl)) (λ_ _ _ _=>cR) (λ_ _ _ _=>(aK T.c_is_stop hr (aj (ao 1) (aj (ao 0) aD)))))))))))
structure Tx_is_cluster (P:Program) (w:World) (K:PySem.W.Frag) (mg:Str->Option Value) (base:Heap) (cl:Nat->Addr) (A:Adr):Prop where
 z_all:mg "all" = none
 z_len:mg "len" = none
 g_LEAST_STOPS:mg "LEAST_STOPS" = some (.int 2 A.t_LEAST_STOPS)
 g_MOST_STOPS:mg "MOST_STOPS" = some (.int 4 A.t_MOST_STOPS)
 c_is_stop:Cal P w K mg base 2 "is_stop" ["carrying", "text"] (spM ⟨K,cl⟩ gG false)
theorem vm {f:Addr}{fd:FuncData}(F:Fun K "is_cluster" "is_cluster" eN f fd) (T:Tx_is_cluster P w K mg base cl A):FnOk P w K mg base CX0 3 f fd ["carrying", "word"] (spM ⟨K,cl⟩ gQ false):=by
 refine F.ok vd (λvs H Q E h=>b8 h) (λcdv A' outer s H vs Q E hr h=>b7 (G:=[]) (G':=[]) (L:=[]) (N:=["carrying", "word"]) rfl (by decide) (by decide) (λB H'=>?_) h)
 exact(aQ (bT (dU (DR Fx Fx (FW T.g_LEAST_STOPS) (dm T.z_len (ao 1)) (FW T.g_MOST_STOPS)) (fP (lH T.z_all (dH (osc:=(au eN)) (ON:=["carrying", "word"]) (N:=["sign", "carrying"]) (cap:=[none,some 0]) ⟨rfl,by decide +kernel,by decide +kernel,by decide +kernel,by decide +kernel⟩ (fB 0) (gA (ao 1) (λz=>by cases z)) (λ_ _ _ _=>bQ (i:=0) (show (["sign", "carrying"]:List Str).Nodup by decide +kernel) rfl (Or.inl rfl)) (λ_ _ _ _=>cR) (λ_ _ _ _=>(aK T.c_is_stop hr (aj (ao 1) (aj (ao 0) aD))))))))))
structure Tx_is_rule (P:Program) (w:World) (K:PySem.W.Frag) (mg:Str->Option Value) (base:Heap) (cl:Nat->Addr) (A:Adr):Prop where
 z_all:mg "all" = none
 z_len:mg "len" = none
 z_list:mg "list" = none
 g_RUNS:mg "RUNS" = some (.ref A.a_RUNS)
 r_RUNS:∀ (B:Addr->Prop) (H:Hp),Rep ⟨K,cl⟩ B H (.ref A.a_RUNS) mO
 c_are_alike_units:Cal P w K mg base 3 "are_alike_units" ["carrying", "carriers", "words"] (spM ⟨K,cl⟩ dD false)
 c_is_carry_row:Cal P w K mg base 2 "is_carry_row" ["row"] (spM ⟨K,cl⟩ cB false)
 c_is_cluster:Cal P w K mg base 3 "is_cluster" ["carrying", "word"] (spM ⟨K,cl⟩ gQ false)
 c_is_one_row:Cal P w K mg base 2 "is_one_row" ["carrying", "row"] (spM ⟨K,cl⟩ cQ false)
theorem zZ {f:Addr}{fd:FuncData}(F:Fun K "is_rule" "is_rule" gk f fd) (T:Tx_is_rule P w K mg base cl A):FnOk P w K mg base CX0 4 f fd ["carrying", "pairs", "row"] (spM ⟨K,cl⟩ ir false):=by
 refine F.ok sc_is_rule (λvs H Q E h=>b8 h) (λcdv A' outer s H vs Q E hr h=>b7 (G:=[]) (G':=[]) (L:=[]) (N:=["carrying", "pairs", "row", "kind", "words", "carriers"]) rfl (by decide) (by decide) (λB H'=>?_) h)
 exact(aC (bB 3 sc_is_rule.nd (bu hr (ao 2) aq)) (aC (bB 4 sc_is_rule.nd (kW (ao 2) (gU aq) jd)) (aC (bB 5 sc_is_rule.nd (aB (pY T.z_list (ao 0)) (pY T.z_list (ao 1)))) (aC (eQ (bY (cY hr (ao 3) az)) (aQ (bT (aK T.c_is_carry_row hr (aj (ao 2) aD)))) cO) (aC (eQ (bY (cY hr (ao 3) az)) (aQ (bT (aK T.c_is_one_row hr (aj (ao 0) (aj (ao 2) aD))))) cO) (aC (eQ (SW.st (vA (bY (cY hr (ao 3) az)) (rK (bY (cY hr (ao 3) az))))) (aQ (bT (dU (cF (rG (dm T.z_len (ao 4)) aq)) (fP (lH T.z_all (dH (osc:=(au gk)) (ON:=["carrying", "pairs", "row", "kind", "words", "carriers"]) (N:=["word", "carriers"]) (cap:=[none,some 5]) ⟨rfl,by decide +kernel,by decide +kernel,by decide +kernel,by decide +kernel⟩ (fB 0) (gA (ao 4) (λz=>by cases z)) (λ_ _ _ _=>bQ (i:=0) (show (["word", "carriers"]:List Str).Nodup by decide +kernel) rfl (Or.inl rfl)) (λ_ _ _ _=>cR) (λ_ _ _ _=>(cF (nq hr (ao 0) (ao 1)))))))))) cO) (aC (eQ (SW.st (vA (bY (cY hr (ao 3) az)) (rK (bY (cY hr (ao 3) az))))) (aQ (bT (dU (cF (rG (dm T.z_len (ao 4)) aq)) (fP (lH T.z_all (dH (osc:=(au gk)) (ON:=["carrying", "pairs", "row", "kind", "words", "carriers"]) (N:=["word", "carrying"]) (cap:=[none,some 0]) ⟨rfl,by decide +kernel,by decide +kernel,by decide +kernel,by decide +kernel⟩ (fB 0) (gA (ao 4) (λz=>by cases z)) (λ_ _ _ _=>bQ (i:=0) (show (["word", "carrying"]:List Str).Nodup by decide +kernel) rfl (Or.inl rfl)) (λ_ _ _ _=>cR) (λ_ _ _ _=>(aK T.c_is_cluster hr (aj (ao 1) (aj (ao 0) aD)))))))))) cO) (aC (eQ (bY (cY hr (ao 3) az)) (aQ (bT (dU (cF (cY hr (dm T.z_len (ao 4)) aq)) (fP (cF (nq hr (bu hr (ao 4) aq) (Mm T.g_RUNS (T.r_RUNS)))))))) cO) (aQ (bT (dU (cF (cY hr (ao 3) az)) (fP (aK T.c_are_alike_units hr (aj (ao 0) (aj (ao 5) (aj (ao 4) aD))))))))))))))))
structure Tx_Tongue____init__ (P:Program) (w:World) (K:PySem.W.Frag) (mg:Str->Option Value) (base:Heap) (cl:Nat->Addr) (A:Adr):Prop where
 z_enumerate:mg "enumerate" = none
 cl_Tongue:Cls K (cl 0)
 n_Tongue_beginnings:NoAttr K (cl 0) "beginnings"
 n_Tongue_carrying:NoAttr K (cl 0) "carrying"
 n_Tongue_eithers:NoAttr K (cl 0) "eithers"
 n_Tongue_likes:NoAttr K (cl 0) "likes"
 n_Tongue_longs:NoAttr K (cl 0) "longs"
 n_Tongue_pairs:NoAttr K (cl 0) "pairs"
 n_Tongue_running:NoAttr K (cl 0) "running"
 n_Tongue_splittings:NoAttr K (cl 0) "splittings"
 c_is_carry_row:Cal P w K mg base 2 "is_carry_row" ["row"] (spM ⟨K,cl⟩ cB false)
 c_is_one_row:Cal P w K mg base 2 "is_one_row" ["carrying", "row"] (spM ⟨K,cl⟩ cQ false)
 c_is_rule:Cal P w K mg base 4 "is_rule" ["carrying", "pairs", "row"] (spM ⟨K,cl⟩ ir false)
 c_last_run:Cal P w K mg base 1 "last_run" ["rows"] (spM ⟨K,cl⟩ gY false)
 c_told_alike:Cal P w K mg base 1 "told_alike" ["rows"] (spM ⟨K,cl⟩ eV false)
 c_told_behind:Cal P w K mg base 1 "told_behind" ["kind", "rows"] (spM ⟨K,cl⟩ aV false)
 m_NoRule:mg "NoRule" = some (.ref (cl 11))
 xi_NoRule:CalXi P w K mg base (cl 11) 1
theorem n_ {f:Addr}{fd:FuncData}(F:Fun K "__init__" "Tongue.__init__" bf f fd) (T:Tx_Tongue____init__ P w K mg base cl A):FnOk P w K mg base (CXW P w K) 5 f fd ["self", "rows"] (pG ⟨K,cl⟩ 0 cj cu):=by
 refine Hj F sc_Tongue____init__ (λvs H Q E h=>Ep rfl h) (λcdv A' outer s H vs Q E hr h=>Es (G:=[0]) (G':=[0]) (L:=[]) (N:=["self", "rows", "cut", "at", "row"]) rfl (by decide) (by decide) (by decide) (by decide) (λB H' x=>?_) (λB H' x=>?_) h)
 ·exact(aC (lJ 2 sc_Tongue____init__.nd (osc:=(au bf)) (ON:=["self", "rows", "cut", "at", "row"]) (N:=["row"]) (cap:=[none]) ⟨rfl,by decide +kernel,by decide +kernel,by decide +kernel,by decide +kernel⟩ (fB 0) (gA (ao 1) (λz=>by cases z)) (λ_ _ _ _=>bQ (i:=0) (show (["row"]:List Str).Nodup by decide +kernel) rfl (Or.inl rfl)) (λ_ _ _ _=>cR) (λ_ _ _ _=>(SE.val (wu (ao 0) az)))) (aC (jU 0 (c:=0) T.cl_Tongue T.n_Tongue_carrying (aK T.c_told_behind hr (aj az (aj (SE.val (dH (osc:=(au bf)) (ON:=["self", "rows", "cut", "at", "row"]) (N:=["row"]) (cap:=[none]) ⟨rfl,by decide +kernel,by decide +kernel,by decide +kernel,by decide +kernel⟩ (fB 0) (gA (ao 2) (λz=>by cases z)) (λ_ _ _ _=>bQ (i:=0) (show (["row"]:List Str).Nodup by decide +kernel) rfl (Or.inl rfl)) (λ_ _ _ _=>jD (jX (aK T.c_is_carry_row hr (aj (ao 0) aD)))) (λ_ _ _ _=>(ao 0)))) aD)))) (aC (jU 0 (c:=0) T.cl_Tongue T.n_Tongue_pairs (aK T.c_told_behind hr (aj az (aj (SE.val (dH (osc:=(au bf)) (ON:=["self", "rows", "cut", "at", "row"]) (N:=["row", "self"]) (cap:=[none,some 0]) ⟨rfl,by decide +kernel,by decide +kernel,by decide +kernel,by decide +kernel⟩ (fB 0) (gA (ao 2) (λz=>by cases z)) (λ_ _ _ _=>bQ (i:=0) (show (["row", "self"]:List Str).Nodup by decide +kernel) rfl (Or.inl rfl)) (λ_ _ _ _=>jD (jX (aK T.c_is_one_row hr (aj (jY (c:=0) T.cl_Tongue T.n_Tongue_carrying (iB 1)) (aj (ao 0) aD))))) (λ_ _ _ _=>(ao 0)))) aD)))) (aC (k_ [3,4] (tU T.z_enumerate (ao 2) (λ_=>by intro z;cases z)) (DY (jF 3 sc_Tongue____init__.nd (jF 4 sc_Tongue____init__.nd tW))) (aQ (eQ (rJ (jX (aK T.c_is_rule hr (aj (jY (c:=0) T.cl_Tongue T.n_Tongue_carrying (iB 0)) (aj (jY (c:=0) T.cl_Tongue T.n_Tongue_pairs (iB 0)) (aj (ao 4) aD)))))) (aQ J0) cO)) PassesOwn.never) (aC (jU 0 (c:=0) T.cl_Tongue T.n_Tongue_longs (aK T.c_told_behind hr (aj az (aj (ao 2) aD)))) (aC (jU 0 (c:=0) T.cl_Tongue T.n_Tongue_eithers (aK T.c_told_behind hr (aj az (aj (ao 2) aD)))) (aC (jU 0 (c:=0) T.cl_Tongue T.n_Tongue_beginnings (aK T.c_told_behind hr (aj az (aj (ao 2) aD)))) (aC (jU 0 (c:=0) T.cl_Tongue T.n_Tongue_splittings (aK T.c_told_behind hr (aj az (aj (ao 2) aD)))) (aC (jU 0 (c:=0) T.cl_Tongue T.n_Tongue_running (aK T.c_last_run hr (aj (ao 2) aD))) (aQ (jU 0 (c:=0) T.cl_Tongue T.n_Tongue_likes (aK T.c_told_alike hr (aj (ao 2) aD)))))))))))))
 ·exact(qT (L:=[]) (ro:=false) (PS.nox (lJ 2 sc_Tongue____init__.nd (osc:=(au bf)) (ON:=["self", "rows", "cut", "at", "row"]) (N:=["row"]) (cap:=[none]) ⟨rfl,by decide +kernel,by decide +kernel,by decide +kernel,by decide +kernel⟩ (fB 0) (gA (ao 1) (λz=>by cases z)) (λ_ _ _ _=>bQ (i:=0) (show (["row"]:List Str).Nodup by decide +kernel) rfl (Or.inl rfl)) (λ_ _ _ _=>cR) (λ_ _ _ _=>(SE.val (wu (ao 0) az))))) (qT (L:=[]) (ro:=false) (PS.nox (jU 0 (c:=0) T.cl_Tongue T.n_Tongue_carrying (aK T.c_told_behind hr (aj az (aj (SE.val (dH (osc:=(au bf)) (ON:=["self", "rows", "cut", "at", "row"]) (N:=["row"]) (cap:=[none]) ⟨rfl,by decide +kernel,by decide +kernel,by decide +kernel,by decide +kernel⟩ (fB 0) (gA (ao 2) (λz=>by cases z)) (λ_ _ _ _=>bQ (i:=0) (show (["row"]:List Str).Nodup by decide +kernel) rfl (Or.inl rfl)) (λ_ _ _ _=>jD (jX (aK T.c_is_carry_row hr (aj (ao 0) aD)))) (λ_ _ _ _=>(ao 0)))) aD))))) (qT (L:=[]) (ro:=false) (PS.nox (jU 0 (c:=0) T.cl_Tongue T.n_Tongue_pairs (aK T.c_told_behind hr (aj az (aj (SE.val (dH (osc:=(au bf)) (ON:=["self", "rows", "cut", "at", "row"]) (N:=["row", "self"]) (cap:=[none,some 0]) ⟨rfl,by decide +kernel,by decide +kernel,by decide +kernel,by decide +kernel⟩ (fB 0) (gA (ao 2) (λz=>by cases z)) (λ_ _ _ _=>bQ (i:=0) (show (["row", "self"]:List Str).Nodup by decide +kernel) rfl (Or.inl rfl)) (λ_ _ _ _=>jD (jX (aK T.c_is_one_row hr (aj (jY (c:=0) T.cl_Tongue T.n_Tongue_carrying (iB 1)) (aj (ao 0) aD))))) (λ_ _ _ _=>(ao 0)))) aD))))) (nM (Ku (ro:=false) [3,4] (tU T.z_enumerate (ao 2) (λ_=>by intro z;cases z)) (DY (jF 3 sc_Tongue____init__.nd (jF 4 sc_Tongue____init__.nd tW))) (aQ (eQ (rJ (jX (aK T.c_is_rule hr (aj (jY (c:=0) T.cl_Tongue T.n_Tongue_carrying (iB 0)) (aj (jY (c:=0) T.cl_Tongue T.n_Tongue_pairs (iB 0)) (aj (ao 4) aD)))))) (aQ J0) cO)) (nM (Nh Ng (rJ (jX (aK T.c_is_rule hr (aj (jY (c:=0) T.cl_Tongue T.n_Tongue_carrying (iB 0)) (aj (jY (c:=0) T.cl_Tongue T.n_Tongue_pairs (iB 0)) (aj (ao 4) aD)))))) (nM (Ck 11 T.xi_NoRule hr T.m_NoRule (aj (ao 3) aD))) Kc)))))))
structure Tx__law_refused (P:Program) (w:World) (K:PySem.W.Frag) (mg:Str->Option Value) (base:Heap) (cl:Nat->Addr) (A:Adr):Prop where
 z_ValueError:mg "ValueError" = none
 z_bool:mg "bool" = none
 z_int:mg "int" = none
 z_isinstance:mg "isinstance" = none
 i_Tongue:CalI P w K mg base (cl 0) 5 "Tongue" ["self", "rows"] (spI ⟨K,cl⟩ 0 cj)
 h_NoRule:∃ f,jr K (cl 11) f=true
 k_NoRule_NoRule:PySem.W.kitOne K (.ref (cl 11)) (.ref (cl 11))=some true
 k_NoRule_ValueError:PySem.W.kitOne K (.ref (cl 11)) (.type "ValueError")=some true
 k_int_bool:PySem.W.kitOne K (.type "int") (.type "bool")=some false
 k_int_int:PySem.W.kitOne K (.type "int") (.type "int")=some true
 m_LiltError:mg "LiltError" = some (.ref (cl 10))
 m_NoRule:mg "NoRule" = some (.ref (cl 11))
 q__law_others_NoRule:∀ d,Cal P w K mg base 1 "_law_others" ["_law_e"] (spE (cl 11) d (.bl false))
 xc_NoRule:XCls K (cl 11)
 xk_Tongue:CalIX P w K mg base (cl 0) 5 "Tongue" ["self", "rows"] (pG ⟨K,cl⟩ 0 cj cu)
 xm_NoRule_LiltError:PySem.W.exmOne K (.ref (cl 11)) (.ref (cl 10))=some true
theorem sX {f:Addr}{fd:FuncData}(F:Fun K "_law_refused" "_law_refused" d7 f fd) (T:Tx__law_refused P w K mg base cl A):FnOk P w K mg base CX0 7 f fd ["_law_rows_here"] (spM ⟨K,cl⟩ aM false):=by
 refine F.ok sc__law_refused (λvs H Q E h=>b8 h) (λcdv A' outer s H vs Q E hr h=>b7 (G:=[]) (G':=[]) (L:=[]) (N:=["_law_rows_here", "_law_wrong", "_law_e"]) rfl (by decide) (by decide) (λB H'=>?_) h)
 exact(aC (bB 1 sc__law_refused.nd Bm) (Kq 1 2 11 (p:=(onN λn=>(.int (n:Int)))) sc__law_refused.nd T.m_LiltError T.xm_NoRule_LiltError (aQ (J3 (Hg (c:=0) T.i_Tongue hr (aj (ao 0) aD)))) (λ_=>(nM (Hi (Ht (c:=0) (Nf rfl) T.xk_Tongue hr (aj (ao 0) aD))))) (aC (eQ (bY (Mu (ao 1) Bm)) (aQ (bT (rH aq))) cO) MN) (Ko λn=>(rT (Kl 1) (rT (PW.pt (rR (j:=false) (k:=false) (wF (j:=true) (j5 (lL 1 T.xc_NoRule T.k_NoRule_NoRule T.z_isinstance T.m_NoRule))) (rR (j:=false) (k:=false) (wF (j:=true) (j5 (Hn 1 (dn' := "ValueError") T.xc_NoRule T.k_NoRule_ValueError T.z_isinstance T.z_ValueError))) (wD (j5 (Ho 1 rfl (T.q__law_others_NoRule _) hr)))))) (rT (PW.pt (rR (j:=false) (k:=false) (wF (j:=true) (j5 (yr (dn' := "int") (zJ 1 T.h_NoRule) T.k_int_int T.z_isinstance T.z_int))) (wD (j5 (yr (dn' := "bool") (zJ 1 T.h_NoRule) T.k_int_bool T.z_isinstance T.z_bool))))) (Ci rfl (zJ 1 T.h_NoRule))))))))
structure Tx__law_half_told (P:Program) (w:World) (K:PySem.W.Frag) (mg:Str->Option Value) (base:Heap) (cl:Nat->Addr) (A:Adr):Prop where
 c__law_letter:Cal P w K mg base 1 "_law_letter" ["_law_cell", "_law_k"] (spM ⟨K,cl⟩ aY false)
 c__law_refused:Cal P w K mg base 7 "_law_refused" ["_law_rows_here"] (spM ⟨K,cl⟩ aM false)
theorem qy {f:Addr}{fd:FuncData}(F:Fun K "_law_half_told" "_law_half_told" dz f fd) (T:Tx__law_half_told P w K mg base cl A):FnOk P w K mg base CX0 8 f fd ["_law_base"] (spM ⟨K,cl⟩ cH false):=by
 refine F.ok sc__law_half_told (λvs H Q E h=>b8 h) (λcdv A' outer s H vs Q E hr h=>b7 (G:=[]) (G':=[]) (L:=[]) (N:=["_law_base", "_law_one", "_law_other", "_law_rows_here"]) rfl (by decide) (by decide) (λB H'=>?_) h)
 exact(aC (bB 1 sc__law_half_told.nd (aK T.c__law_letter hr (aj (ao 0) (aj aq aD)))) (aC (bB 2 sc__law_half_told.nd (aK T.c__law_letter hr (aj (ao 0) (aj aq aD)))) (aC (bB 3 sc__law_half_told.nd (SE.val (cA (aj (aB az (ao 1)) (aj (aB (aB az (ao 1)) az) aD))))) (aC (eQ (SW.st (vA (bY (kO hr (aK T.c__law_refused hr (aj (ao 3) aD)) aq)) (rK (bY (kO hr (aK T.c__law_refused hr (aj (SE.val (cA (aj (aB (aB az (ao 1)) az) (aj (aB az (ao 1)) aD)))) aD)) aq))))) (aQ (bT lV)) cO) (aC (bB 3 sc__law_half_told.nd (SE.val (cA (aj (aB (aB az (ao 1)) (ao 2)) (aj (aB (aB (aB az (ao 1)) az) (ao 2)) (aj (aB (aB (aB (aB az (ao 1)) (ao 2)) az) (eU (ao 1) aq)) aD)))))) (aC (eQ (bY (kO hr (aK T.c__law_refused hr (aj (ao 3) aD)) aq)) (aQ (bT lV)) cO) (aQ (bT (dU (cF (cY hr (aK T.c__law_refused hr (aj (kW (ao 3) (gU aq) jd) aD)) aq)) (fP (cF (cY hr (aK T.c__law_refused hr (aj (SE.val (fM (kW (ao 3) jd (gU aq)) (cA (aj (aB (aB az (ao 1)) (ao 2)) aD)))) aD)) (rH aq)))))))))))))
structure Tx_law (P:Program) (w:World) (K:PySem.W.Frag) (mg:Str->Option Value) (base:Heap) (cl:Nat->Addr) (A:Adr):Prop where
 z_len:mg "len" = none
 z_list:mg "list" = none
 c__law_bad_row:Cal P w K mg base 2 "_law_bad_row" ["_law_record_here", "_law_cell"] (spM ⟨K,cl⟩ bh false)
 c__law_cell_at:Cal P w K mg base 1 "_law_cell_at" ["_law_script", "_law_k"] (spM ⟨K,cl⟩ aG false)
 c__law_half_told:Cal P w K mg base 8 "_law_half_told" ["_law_base"] (spM ⟨K,cl⟩ cH false)
 c__law_record:Cal P w K mg base 3 "_law_record" ["_law_script", "_law_at"] (spM ⟨K,cl⟩ cT false)
 c__law_refused:Cal P w K mg base 7 "_law_refused" ["_law_rows_here"] (spM ⟨K,cl⟩ aM false)
 c__law_rows:Cal P w K mg base 1 "_law_rows" ["_law_record_here", "_law_cell"] (spM ⟨K,cl⟩ d_ true)
theorem K9 {f:Addr}{fd:FuncData}(F:Fun K "law" "law" lz f fd) (T:Tx_law P w K mg base cl A):FnOk P w K mg base CX0 9 f fd ["_law_script"] (spM ⟨K,cl⟩ rZ false):=by
 refine F.ok sc_law (λvs H Q E h=>b8 h) (λcdv A' outer s H vs Q E hr h=>b7 (G:=[3]) (G':=[]) (L:=[]) (N:=["_law_script", "_law_record_here", "_law_good", "_law_rows_here", "_law_at", "_law_below", "_law_cell", "_law_kept"]) rfl (by decide) (by decide) (λB H'=>?_) h)
 exact(aC (bB 1 sc_law.nd (aK T.c__law_record hr (aj (ao 0) (aj aq aD)))) (aC (bB 2 sc_law.nd (SE.val (DX T.c__law_rows hr (aj (ao 1) (aj (aK T.c__law_cell_at hr (aj (ao 0) (aj aq aD))) aD))))) (aC (mK 3 sc_law.nd (pY T.z_list (ao 2))) (aC (bB 4 sc_law.nd (cD (aK T.c__law_cell_at hr (aj (ao 0) (aj aq aD))) (aB (dm T.z_len (iB 3)) aq))) (aC (Ge 3 (ao 4) (aK T.c__law_bad_row hr (aj (ao 1) (aj (aK T.c__law_cell_at hr (aj (ao 0) (aj aq aD))) aD)))) (aC (eQ (bY (cY hr (cD (aK T.c__law_cell_at hr (aj (ao 0) (aj aq aD))) aq) aq)) (aC (bB 5 sc_law.nd (aB (aB (ao 4) aq) (cD (gO (aK T.c__law_cell_at hr (aj (ao 0) (aj aq aD))) aq) (JM (dm T.z_len (iB 3)) (ao 4))))) (aQ (Ge 3 (ao 5) (aK T.c__law_bad_row hr (aj (ao 1) (aj (aK T.c__law_cell_at hr (aj (ao 0) (aj aq aD))) aD)))))) cO) (rM (G1:=[]) (aC (k_ [6] (gA (kW (ao 0) (gU aq) (gU aq)) (λ_=>by intro z;cases z)) (qQ 6 sc_law.nd) (aQ (eQ (bY (kO hr (aK T.c__law_refused hr (aj (SE.val (fM (ao 2) (cA (aj (aK T.c__law_bad_row hr (aj (ao 1) (aj (ao 6) aD))) aD)))) aD)) (dm T.z_len (ao 2)))) (aQ (bT lV)) cO)) PassesOwn.never) (aC (bB 7 sc_law.nd (SE.val (pY T.z_list (ao 3)))) (aC (eQ (SW.st (vA (bY (kO hr (aK T.c__law_refused hr (aj (ao 2) aD)) (rH aq))) (rK (bY (kO hr (aK T.c__law_refused hr (aj (ao 3) aD)) (ao 4)))))) (aQ (bT lV)) cO) (aC (eQ (rJ (jX (aK T.c__law_half_told hr (aj (aK T.c__law_cell_at hr (aj (ao 0) (aj aq aD))) aD)))) (aQ (bT lV)) cO) (aQ (bT (dU (cF (cY hr (aK T.c__law_refused hr (aj (ao 3) aD)) (ao 4))) (dU (cF (cY hr (ao 3) (ao 7))) (fP (cF (cY hr (aK T.c__law_refused hr (aj (ao 2) aD)) (rH aq)))))))))))))))))))
end
end My
namespace My
open PySem L2 MR
def vK (K:PySem.W.Frag):Sp:=λvs H Q _=>∃ (a:Addr) (ns:List Int),vs=[V.ref a]/\Only H/\SqL K H a (ns.map V.int)/\ns.length<=63/\∀ J,Q (.bl true) J
theorem K_ {K:PySem.W.Frag}{cl:Nat->Addr}{vs:List V}{H:Hp}{Q:VK}{E:XK}(h:vK K vs H Q E):spM ⟨K,cl⟩ rZ false vs H Q E:=by
 obtain⟨a,ns,rfl,ho,hs,hl,k⟩:=h
 have ri:Reps ⟨K,cl⟩ (λ_=>True) H (ns.map V.int) (ns.map PV.int):=tG _ _ (λi=>.int i) ns
 refine⟨λ_=>True,[.frz (ns.map PV.int)],.bl true,.cons ?_ .nil,law_true ns hl,λv H' s r=>?_⟩
 ·rcases hs with (hs | ⟨o,hs⟩) | hs
  ·rcases ho a with z | ⟨o,xs,z⟩
   ·rw[z] at hs;cases hs
   ·rw[z] at hs;cases hs
  ·exact .lstF hs ri
  ·exact .lstK (.inr hs) ri
 ·cases r
  exact k _
theorem all_mk {l:PySem.W.OpenLaw}{w:World}{K:PySem.W.Frag}{h:Heap}{mg:Str->Option Value}{fa:Addr}(X:K.In h) (G:h.Ns mainGlobals mg) (hfa:mg "law" = some (.ref fa))
  (aC_Tongue:PySem.W.nsIn K mainGlobals "Tongue" = some (some (.ref C_Tongue)))
  (aC_LiltError:PySem.W.nsIn K mainGlobals "LiltError" = some (some (.ref C_LiltError)))
  (aC_NoForm:PySem.W.nsIn K mainGlobals "NoForm" = some (some (.ref C_NoForm)))
  (aC_NoMetre:PySem.W.nsIn K mainGlobals "NoMetre" = some (some (.ref C_NoMetre)))
  (aC_NoName:PySem.W.nsIn K mainGlobals "NoName" = some (some (.ref C_NoName)))
  (aC_NoReading:PySem.W.nsIn K mainGlobals "NoReading" = some (some (.ref C_NoReading)))
  (aC_NoRow:PySem.W.nsIn K mainGlobals "NoRow" = some (some (.ref C_NoRow)))
  (aC_NoRule:PySem.W.nsIn K mainGlobals "NoRule" = some (some (.ref C_NoRule)))
  (aC_NoWord:PySem.W.nsIn K mainGlobals "NoWord" = some (some (.ref C_NoWord)))
  (a_0:PySem.W.nsIn K mainGlobals "_law_cell_at" = some (some (.ref f_0)))
  (l_0:K.lookup f_0=some ⟨oc_0,od_0,.func (PySem.W.fnOf "_law_cell_at" "_law_cell_at" (bz dX) (bc dX) (au dX) .none kV_0 dc_0 pm_0 an_0 cd_0 ct_0),sl_0⟩)
  (c_0:PySem.W.codeIn K cd_0 "_law_cell_at" = true)
  (k_0:PySem.W.keepIn K (.ref f_0)=true)
  (a_1:PySem.W.nsIn K mainGlobals "_law_letter" = some (some (.ref f_1)))
  (l_1:K.lookup f_1=some ⟨oc_1,od_1,.func (PySem.W.fnOf "_law_letter" "_law_letter" (bz eY) (bc eY) (au eY) .none kV_1 dc_1 pm_1 an_1 cd_1 ct_1),sl_1⟩)
  (c_1:PySem.W.codeIn K cd_1 "_law_letter" = true)
  (k_1:PySem.W.keepIn K (.ref f_1)=true)
  (a_2:PySem.W.nsIn K mainGlobals "_law_mix" = some (some (.ref f_2)))
  (l_2:K.lookup f_2=some ⟨oc_2,od_2,.func (PySem.W.fnOf "_law_mix" "_law_mix" (bz iu) (bc iu) (au iu) .none kV_2 dc_2 pm_2 an_2 cd_2 ct_2),sl_2⟩)
  (c_2:PySem.W.codeIn K cd_2 "_law_mix" = true)
  (k_2:PySem.W.keepIn K (.ref f_2)=true)
  (a_3:PySem.W.nsIn K mainGlobals "_law_cluster" = some (some (.ref f_3)))
  (l_3:K.lookup f_3=some ⟨oc_3,od_3,.func (PySem.W.fnOf "_law_cluster" "_law_cluster" (bz dY) (bc dY) (au dY) .none kV_3 dc_3 pm_3 an_3 cd_3 ct_3),sl_3⟩)
  (c_3:PySem.W.codeIn K cd_3 "_law_cluster" = true)
  (k_3:PySem.W.keepIn K (.ref f_3)=true)
  (a_4:PySem.W.nsIn K mainGlobals "_law_record" = some (some (.ref f_4)))
  (l_4:K.lookup f_4=some ⟨oc_4,od_4,.func (PySem.W.fnOf "_law_record" "_law_record" (bz bI) (bc bI) (au bI) .none kV_4 dc_4 pm_4 an_4 cd_4 ct_4),sl_4⟩)
  (c_4:PySem.W.codeIn K cd_4 "_law_record" = true)
  (k_4:PySem.W.keepIn K (.ref f_4)=true)
  (a_5:PySem.W.nsIn K mainGlobals "_law_rows" = some (some (.ref f_5)))
  (l_5:K.lookup f_5=some ⟨oc_5,od_5,.func (PySem.W.fnOf "_law_rows" "_law_rows" (bz fH) (bc fH) (au fH) .none kV_5 dc_5 pm_5 an_5 cd_5 ct_5),sl_5⟩)
  (c_5:PySem.W.codeIn K cd_5 "_law_rows" = true)
  (k_5:PySem.W.keepIn K (.ref f_5)=true)
  (a_6:PySem.W.nsIn K mainGlobals "_law_bad_row" = some (some (.ref f_6)))
  (l_6:K.lookup f_6=some ⟨oc_6,od_6,.func (PySem.W.fnOf "_law_bad_row" "_law_bad_row" (bz dZ) (bc dZ) (au dZ) .none kV_6 dc_6 pm_6 an_6 cd_6 ct_6),sl_6⟩)
  (c_6:PySem.W.codeIn K cd_6 "_law_bad_row" = true)
  (k_6:PySem.W.keepIn K (.ref f_6)=true)
  (a_7:PySem.W.nsIn K mainGlobals "told_behind" = some (some (.ref f_7)))
  (l_7:K.lookup f_7=some ⟨oc_7,od_7,.func (PySem.W.fnOf "told_behind" "told_behind" (bz eZ) (bc eZ) (au eZ) .none kV_7 dc_7 pm_7 an_7 cd_7 ct_7),sl_7⟩)
  (c_7:PySem.W.codeIn K cd_7 "told_behind" = true)
  (k_7:PySem.W.keepIn K (.ref f_7)=true)
  (a_8:PySem.W.nsIn K mainGlobals "last_run" = some (some (.ref f_8)))
  (l_8:K.lookup f_8=some ⟨oc_8,od_8,.func (PySem.W.fnOf "last_run" "last_run" (bz iy) (bc iy) (au iy) .none kV_8 dc_8 pm_8 an_8 cd_8 ct_8),sl_8⟩)
  (c_8:PySem.W.codeIn K cd_8 "last_run" = true)
  (k_8:PySem.W.keepIn K (.ref f_8)=true)
  (a_9:PySem.W.nsIn K mainGlobals "told_alike" = some (some (.ref f_9)))
  (l_9:K.lookup f_9=some ⟨oc_9,od_9,.func (PySem.W.fnOf "told_alike" "told_alike" (bz gf) (bc gf) (au gf) .none kV_9 dc_9 pm_9 an_9 cd_9 ct_9),sl_9⟩)
  (c_9:PySem.W.codeIn K cd_9 "told_alike" = true)
  (k_9:PySem.W.keepIn K (.ref f_9)=true)
  (a_10:PySem.W.nsIn K mainGlobals "is_letter" = some (some (.ref f_10)))
  (l_10:K.lookup f_10=some ⟨oc_10,od_10,.func (PySem.W.fnOf "is_letter" "is_letter" (bz gZ) (bc gZ) (au gZ) .none kV_10 dc_10 pm_10 an_10 cd_10 ct_10),sl_10⟩)
  (c_10:PySem.W.codeIn K cd_10 "is_letter" = true)
  (k_10:PySem.W.keepIn K (.ref f_10)=true)
  (a_11:PySem.W.nsIn K mainGlobals "is_carry_row" = some (some (.ref f_11)))
  (l_11:K.lookup f_11=some ⟨oc_11,od_11,.func (PySem.W.fnOf "is_carry_row" "is_carry_row" (bz dw) (bc dw) (au dw) .none kV_11 dc_11 pm_11 an_11 cd_11 ct_11),sl_11⟩)
  (c_11:PySem.W.codeIn K cd_11 "is_carry_row" = true)
  (k_11:PySem.W.keepIn K (.ref f_11)=true)
  (a_12:PySem.W.nsIn K mainGlobals "is_pair_of" = some (some (.ref f_12)))
  (l_12:K.lookup f_12=some ⟨oc_12,od_12,.func (PySem.W.fnOf "is_pair_of" "is_pair_of" (bz gh) (bc gh) (au gh) .none kV_12 dc_12 pm_12 an_12 cd_12 ct_12),sl_12⟩)
  (c_12:PySem.W.codeIn K cd_12 "is_pair_of" = true)
  (k_12:PySem.W.keepIn K (.ref f_12)=true)
  (a_13:PySem.W.nsIn K mainGlobals "is_one_row" = some (some (.ref f_13)))
  (l_13:K.lookup f_13=some ⟨oc_13,od_13,.func (PySem.W.fnOf "is_one_row" "is_one_row" (bz eG) (bc eG) (au eG) .none kV_13 dc_13 pm_13 an_13 cd_13 ct_13),sl_13⟩)
  (c_13:PySem.W.codeIn K cd_13 "is_one_row" = true)
  (k_13:PySem.W.keepIn K (.ref f_13)=true)
  (a_14:PySem.W.nsIn K mainGlobals "is_stop" = some (some (.ref f_14)))
  (l_14:K.lookup f_14=some ⟨oc_14,od_14,.func (PySem.W.fnOf "is_stop" "is_stop" (bz jl) (bc jl) (au jl) .none kV_14 dc_14 pm_14 an_14 cd_14 ct_14),sl_14⟩)
  (c_14:PySem.W.codeIn K cd_14 "is_stop" = true)
  (k_14:PySem.W.keepIn K (.ref f_14)=true)
  (a_15:PySem.W.nsIn K mainGlobals "are_alike_units" = some (some (.ref f_15)))
  (l_15:K.lookup f_15=some ⟨oc_15,od_15,.func (PySem.W.fnOf "are_alike_units" "are_alike_units" (bz cg) (bc cg) (au cg) .none kV_15 dc_15 pm_15 an_15 cd_15 ct_15),sl_15⟩)
  (c_15:PySem.W.codeIn K cd_15 "are_alike_units" = true)
  (k_15:PySem.W.keepIn K (.ref f_15)=true)
  (a_16:PySem.W.nsIn K mainGlobals "is_cluster" = some (some (.ref f_16)))
  (l_16:K.lookup f_16=some ⟨oc_16,od_16,.func (PySem.W.fnOf "is_cluster" "is_cluster" (bz eN) (bc eN) (au eN) .none kV_16 dc_16 pm_16 an_16 cd_16 ct_16),sl_16⟩)
  (c_16:PySem.W.codeIn K cd_16 "is_cluster" = true)
  (k_16:PySem.W.keepIn K (.ref f_16)=true)
  (a_17:PySem.W.nsIn K mainGlobals "is_rule" = some (some (.ref f_17)))
  (l_17:K.lookup f_17=some ⟨oc_17,od_17,.func (PySem.W.fnOf "is_rule" "is_rule" (bz gk) (bc gk) (au gk) .none kV_17 dc_17 pm_17 an_17 cd_17 ct_17),sl_17⟩)
  (c_17:PySem.W.codeIn K cd_17 "is_rule" = true)
  (k_17:PySem.W.keepIn K (.ref f_17)=true)
  (a_18:PySem.W.findIn K (.ref C_Tongue) "__init__" = some (some (.ref f_18)))
  (i_18:PySem.W.isFn K (.ref f_18)=true)
  (l_18:K.lookup f_18=some ⟨oc_18,od_18,.func (PySem.W.fnOf "__init__" "Tongue.__init__" (bz bf) (bc bf) (au bf) .none kV_18 dc_18 pm_18 an_18 cd_18 ct_18),sl_18⟩)
  (c_18:PySem.W.codeIn K cd_18 "Tongue.__init__" = true)
  (k_18:PySem.W.keepIn K (.ref f_18)=true)
  (a_19:PySem.W.nsIn K mainGlobals "_law_refused" = some (some (.ref f_19)))
  (l_19:K.lookup f_19=some ⟨oc_19,od_19,.func (PySem.W.fnOf "_law_refused" "_law_refused" (bz d7) (bc d7) (au d7) .none kV_19 dc_19 pm_19 an_19 cd_19 ct_19),sl_19⟩)
  (c_19:PySem.W.codeIn K cd_19 "_law_refused" = true)
  (k_19:PySem.W.keepIn K (.ref f_19)=true)
  (a_20:PySem.W.nsIn K mainGlobals "_law_half_told" = some (some (.ref f_20)))
  (l_20:K.lookup f_20=some ⟨oc_20,od_20,.func (PySem.W.fnOf "_law_half_told" "_law_half_told" (bz dz) (bc dz) (au dz) .none kV_20 dc_20 pm_20 an_20 cd_20 ct_20),sl_20⟩)
  (c_20:PySem.W.codeIn K cd_20 "_law_half_told" = true)
  (k_20:PySem.W.keepIn K (.ref f_20)=true)
  (a_21:PySem.W.nsIn K mainGlobals "law" = some (some (.ref f_21)))
  (l_21:K.lookup f_21=some ⟨oc_21,od_21,.func (PySem.W.fnOf "law" "law" (bz lz) (bc lz) (au lz) .none kV_21 dc_21 pm_21 an_21 cd_21 ct_21),sl_21⟩)
  (c_21:PySem.W.codeIn K cd_21 "law" = true)
  (k_21:PySem.W.keepIn K (.ref f_21)=true)
  (a_22:PySem.W.nsIn K mainGlobals "_law_others" = some (some (.ref f_22)))
  (l_22:K.lookup f_22=some ⟨oc_22,od_22,.func (PySem.W.fnOf "_law_others" "_law_others" (bz e_) (bc e_) (au e_) .none kV_22 dc_22 pm_22 an_22 cd_22 ct_22),sl_22⟩)
  (c_22:PySem.W.codeIn K cd_22 "_law_others" = true)
  (k_22:PySem.W.keepIn K (.ref f_22)=true)
  (a_xNoRule:PySem.W.findIn K (.ref C_NoRule) "__init__" = some (some (.ref fx_NoRule)))
  (i_xNoRule:PySem.W.isFn K (.ref fx_NoRule)=true)
  (l_xNoRule:K.lookup fx_NoRule=some ⟨oc_xNoRule,od_xNoRule,.func (PySem.W.fnOf "__init__" "NoRule.__init__" (bz cU) (bc cU) (au cU) .none kV_xNoRule dc_xNoRule pm_xNoRule an_xNoRule cd_xNoRule ct_xNoRule),sl_xNoRule⟩)
  (c_xNoRule:PySem.W.codeIn K cd_xNoRule "NoRule.__init__" = true)
  (k_xNoRule:PySem.W.keepIn K (.ref fx_NoRule)=true)
  (pg_Tongue:PySem.W.plainGet K C_Tongue Str.empty=true)
  (hd_Tongue:PySem.W.hasDictIn K C_Tongue=true)
  (po_Tongue:PySem.W.plainOver K C_Tongue=true)
  (sa_Tongue:PySem.W.findIn K (.ref C_Tongue) "__setattr__" = some (some (.builtin "object.__setattr__")))
  (mk_Tongue:PySem.W.makesIn K C_Tongue=true)
  (kc_Tongue:PySem.W.keepIn K (.ref C_Tongue)=true)
  (nf_Tongue_beginnings:PySem.W.findIn K (.ref C_Tongue) "beginnings" = some none)
  (nf_Tongue_carrying:PySem.W.findIn K (.ref C_Tongue) "carrying" = some none)
  (nf_Tongue_eithers:PySem.W.findIn K (.ref C_Tongue) "eithers" = some none)
  (nf_Tongue_likes:PySem.W.findIn K (.ref C_Tongue) "likes" = some none)
  (nf_Tongue_longs:PySem.W.findIn K (.ref C_Tongue) "longs" = some none)
  (nf_Tongue_pairs:PySem.W.findIn K (.ref C_Tongue) "pairs" = some none)
  (nf_Tongue_running:PySem.W.findIn K (.ref C_Tongue) "running" = some none)
  (nf_Tongue_splittings:PySem.W.findIn K (.ref C_Tongue) "splittings" = some none)
  (z_ValueError:PySem.W.nsIn K mainGlobals "ValueError" = some none)
  (z_all:PySem.W.nsIn K mainGlobals "all" = some none)
  (z_bool:PySem.W.nsIn K mainGlobals "bool" = some none)
  (z_enumerate:PySem.W.nsIn K mainGlobals "enumerate" = some none)
  (z_int:PySem.W.nsIn K mainGlobals "int" = some none)
  (z_isinstance:PySem.W.nsIn K mainGlobals "isinstance" = some none)
  (z_len:PySem.W.nsIn K mainGlobals "len" = some none)
  (z_list:PySem.W.nsIn K mainGlobals "list" = some none)
  (z_range:PySem.W.nsIn K mainGlobals "range" = some none)
  (g_LEAST_STOPS:PySem.W.nsIn K mainGlobals "LEAST_STOPS" = some (some (.int 2 t_LEAST_STOPS)))
  (g_LETTERS:PySem.W.nsIn K mainGlobals "LETTERS" = some (some (.str "abcdefghijklmnopqrstuvwxyz" t_LETTERS)))
  (g_MOST_STOPS:PySem.W.nsIn K mainGlobals "MOST_STOPS" = some (some (.int 4 t_MOST_STOPS)))
  (g_RUNS:PySem.W.nsIn K mainGlobals "RUNS" = some (some (.ref a_RUNS)))
  (lk_RUNS:K.lookup a_RUNS=some ⟨.type "tuple",o_RUNS,.seq #[.str "never" t_RUNS_0,.str "may" t_RUNS_1,.str "must" t_RUNS_2] n_RUNS,sl_RUNS⟩)
  (xa_NoRule:PySem.W.findIn K (.ref C_NoRule) "__getattribute__" = some (some (.builtin "BaseException.__getattribute__")))
  (xb_NoRule:PySem.W.findIn K (.ref C_NoRule) "__getattr__" = some none)
  (xd_NoRule:PySem.W.findIn K (.ref C_NoRule) "__class__" = some (some (.builtin "object.__class__")))
  (xe_NoRule:PySem.W.mroIn K C_NoRule (.type "object")=some true)
  (xf_NoRule:PySem.W.mroIn K C_NoRule (.type "BaseException")=some true)
  (xk_NoRule_NoForm:PySem.W.kitOne K (.ref C_NoRule) (.ref C_NoForm)=some false)
  (xk_NoRule_NoMetre:PySem.W.kitOne K (.ref C_NoRule) (.ref C_NoMetre)=some false)
  (xk_NoRule_NoName:PySem.W.kitOne K (.ref C_NoRule) (.ref C_NoName)=some false)
  (xk_NoRule_NoReading:PySem.W.kitOne K (.ref C_NoRule) (.ref C_NoReading)=some false)
  (xk_NoRule_NoRow:PySem.W.kitOne K (.ref C_NoRule) (.ref C_NoRow)=some false)
  (xk_NoRule_NoRule:PySem.W.kitOne K (.ref C_NoRule) (.ref C_NoRule)=some true)
  (xk_NoRule_NoWord:PySem.W.kitOne K (.ref C_NoRule) (.ref C_NoWord)=some false)
  (xk_NoRule_ValueError:PySem.W.kitOne K (.ref C_NoRule) (.type "ValueError")=some true)
  (xk_int_bool:PySem.W.kitOne K (.type "int") (.type "bool")=some false)
  (xk_int_int:PySem.W.kitOne K (.type "int") (.type "int")=some true)
  (xm_NoRule_LiltError:PySem.W.exmOne K (.ref C_NoRule) (.ref C_LiltError)=some true)
  (xs_NoRule:jr K C_NoRule fx_NoRule=true)
  (xt_LiltError:PySem.W.specialIn K (.ref C_LiltError) "__getattribute__" = some (some (.builtin "type.__getattribute__")))
  (xu_LiltError:PySem.W.readsIn K C_LiltError (.type "type")=true)
  (xv_LiltError:PySem.W.findCls K (.ref C_LiltError) (.type "type") "__init__" = some (.val (.builtin "ValueError.__init__"))):
  ∃ fd:FuncData,(∀ (s:Shared) (v:Value),BindsTo s fd ⟨[v],[]⟩ [("_law_script",v)])/\∀ base:Heap,K.In base->base.Ns mainGlobals mg->FnOk l.prog w K mg base CX0 9 fa fd ["_law_script"] (vK K):=by
 have e:=hfa.symm.trans (PySem.W.mg_of X G a_21)
 cases e
 have F_0:=cz (st:=dX) l_0 c_0 k_0
 have b_0:=F_0.binds (ps:=["_law_script", "_law_k"]) λ_ _ _ _ _ _ us hl=>MR.len2 us hl (λ_ _=>rfl)
 have F_1:=cz (st:=eY) l_1 c_1 k_1
 have b_1:=F_1.binds (ps:=["_law_cell", "_law_k"]) λ_ _ _ _ _ _ us hl=>MR.len2 us hl (λ_ _=>rfl)
 have F_2:=cz (st:=iu) l_2 c_2 k_2
 have b_2:=F_2.binds (ps:=["_law_cell", "_law_k"]) λ_ _ _ _ _ _ us hl=>MR.len2 us hl (λ_ _=>rfl)
 have F_3:=cz (st:=dY) l_3 c_3 k_3
 have b_3:=F_3.binds (ps:=["_law_base", "_law_many", "_law_number"]) λ_ _ _ _ _ _ us hl=>MR.len3 us hl (λ_ _ _=>rfl)
 have F_4:=cz (st:=bI) l_4 c_4 k_4
 have b_4:=F_4.binds (ps:=["_law_script", "_law_at"]) λ_ _ _ _ _ _ us hl=>MR.len2 us hl (λ_ _=>rfl)
 have F_5:=cz (st:=fH) l_5 c_5 k_5
 have b_5:=F_5.binds (ps:=["_law_record_here", "_law_cell"]) λ_ _ _ _ _ _ us hl=>MR.len2 us hl (λ_ _=>rfl)
 have F_6:=cz (st:=dZ) l_6 c_6 k_6
 have b_6:=F_6.binds (ps:=["_law_record_here", "_law_cell"]) λ_ _ _ _ _ _ us hl=>MR.len2 us hl (λ_ _=>rfl)
 have F_7:=cz (st:=eZ) l_7 c_7 k_7
 have b_7:=F_7.binds (ps:=["kind", "rows"]) λ_ _ _ _ _ _ us hl=>MR.len2 us hl (λ_ _=>rfl)
 have F_8:=cz (st:=iy) l_8 c_8 k_8
 have b_8:=F_8.binds (ps:=["rows"]) λ_ _ _ _ _ _ us hl=>MR.len1 us hl (λ_=>rfl)
 have F_9:=cz (st:=gf) l_9 c_9 k_9
 have b_9:=F_9.binds (ps:=["rows"]) λ_ _ _ _ _ _ us hl=>MR.len1 us hl (λ_=>rfl)
 have F_10:=cz (st:=gZ) l_10 c_10 k_10
 have b_10:=F_10.binds (ps:=["text"]) λ_ _ _ _ _ _ us hl=>MR.len1 us hl (λ_=>rfl)
 have F_11:=cz (st:=dw) l_11 c_11 k_11
 have b_11:=F_11.binds (ps:=["row"]) λ_ _ _ _ _ _ us hl=>MR.len1 us hl (λ_=>rfl)
 have F_12:=cz (st:=gh) l_12 c_12 k_12
 have b_12:=F_12.binds (ps:=["carrying", "word"]) λ_ _ _ _ _ _ us hl=>MR.len2 us hl (λ_ _=>rfl)
 have F_13:=cz (st:=eG) l_13 c_13 k_13
 have b_13:=F_13.binds (ps:=["carrying", "row"]) λ_ _ _ _ _ _ us hl=>MR.len2 us hl (λ_ _=>rfl)
 have F_14:=cz (st:=jl) l_14 c_14 k_14
 have b_14:=F_14.binds (ps:=["carrying", "text"]) λ_ _ _ _ _ _ us hl=>MR.len2 us hl (λ_ _=>rfl)
 have F_15:=cz (st:=cg) l_15 c_15 k_15
 have b_15:=F_15.binds (ps:=["carrying", "carriers", "words"]) λ_ _ _ _ _ _ us hl=>MR.len3 us hl (λ_ _ _=>rfl)
 have F_16:=cz (st:=eN) l_16 c_16 k_16
 have b_16:=F_16.binds (ps:=["carrying", "word"]) λ_ _ _ _ _ _ us hl=>MR.len2 us hl (λ_ _=>rfl)
 have F_17:=cz (st:=gk) l_17 c_17 k_17
 have b_17:=F_17.binds (ps:=["carrying", "pairs", "row"]) λ_ _ _ _ _ _ us hl=>MR.len3 us hl (λ_ _ _=>rfl)
 have F_18:=cz (st:=bf) l_18 c_18 k_18
 have b_18:=F_18.binds (ps:=["self", "rows"]) λ_ _ _ _ _ _ us hl=>MR.len2 us hl (λ_ _=>rfl)
 have F_19:=cz (st:=d7) l_19 c_19 k_19
 have b_19:=F_19.binds (ps:=["_law_rows_here"]) λ_ _ _ _ _ _ us hl=>MR.len1 us hl (λ_=>rfl)
 have F_20:=cz (st:=dz) l_20 c_20 k_20
 have b_20:=F_20.binds (ps:=["_law_base"]) λ_ _ _ _ _ _ us hl=>MR.len1 us hl (λ_=>rfl)
 have F_21:=cz (st:=lz) l_21 c_21 k_21
 have b_21:=F_21.binds (ps:=["_law_script"]) λ_ _ _ _ _ _ us hl=>MR.len1 us hl (λ_=>rfl)
 have F_22:=cz (st:=e_) l_22 c_22 k_22
 have b_22:=F_22.binds (ps:=["_law_e"]) λ_ _ _ _ _ _ us hl=>MR.len1 us hl (λ_=>rfl)
 refine⟨PySem.W.fnOf "law" "law" (bz lz) (bc lz) (au lz) .none kV_21 dc_21 pm_21 an_21 cd_21 ct_21,λs v=>.of_eq rfl,λbase _ _=>?_⟩
 let cl:Nat->Addr:=λn=>match n with | 0=>C_Tongue | 10=>C_LiltError | 13=>C_NoForm | 12=>C_NoMetre | 16=>C_NoName | 15=>C_NoReading | 17=>C_NoRow | 11=>C_NoRule | 14=>C_NoWord | _=>0
 let A:Adr:={ t_LEAST_STOPS:=t_LEAST_STOPS,t_LETTERS:=t_LETTERS,t_MOST_STOPS:=t_MOST_STOPS,a_RUNS:=a_RUNS }
 have cl_Tongue:Cls K (cl 0):=⟨pg_Tongue,hd_Tongue,po_Tongue,sa_Tongue⟩
 have r_RUNS:∀ (B:Addr->Prop) (H:Hp),Rep ⟨K,cl⟩ B H (.ref a_RUNS) mO:=λB H=>.tupK (vs:=[V.str "never",V.str "may",V.str "must"]) (.inr ⟨_,_,_,lk_RUNS,rfl,rfl,(by show 3<=sizeLine;decide),(.cons ⟨_,rfl⟩ (.cons ⟨_,rfl⟩ (.cons ⟨_,rfl⟩ .nil)))⟩) (.cons (.str _) (.cons (.str _) (.cons (.str _) .nil)))
 have F_xNoRule:=cz (st:=cU) l_xNoRule c_xNoRule k_xNoRule
 have b_xNoRule:=F_xNoRule.binds (ps:=["self", "at"]) λ_ _ _ _ _ _ us hl=>MR.len2 us hl (λ_ _=>rfl)
 have kxi_NoRule:CalXi l.prog w K mg base (cl 11) 1:=⟨_,_,_,_,xO (cl:=cl) F_xNoRule xs_NoRule ⟨xt_LiltError,xu_LiltError,xv_LiltError,by decide +kernel⟩ (PySem.W.mg_of X G aC_LiltError),b_xNoRule,i_xNoRule,xs_NoRule⟩
 have kq__law_others_NoRule:=λd=>cN F_22 (PySem.W.mg_of X G a_22) b_22 (mD (P:=l.prog) (w:=w) (mg:=mg) (base:=base) (cl:=cl) (A:=A) F_22 ⟨PySem.W.mg_none_of X G z_isinstance,xk_NoRule_NoForm,xk_NoRule_NoMetre,xk_NoRule_NoName,xk_NoRule_NoReading,xk_NoRule_NoRow,xk_NoRule_NoWord,PySem.W.mg_of X G aC_NoForm,PySem.W.mg_of X G aC_NoMetre,PySem.W.mg_of X G aC_NoName,PySem.W.mg_of X G aC_NoReading,PySem.W.mg_of X G aC_NoRow,PySem.W.mg_of X G aC_NoWord,⟨xa_NoRule,xb_NoRule,xd_NoRule,xe_NoRule,xf_NoRule⟩⟩ d)
 have G_0:=sS (P:=l.prog) (w:=w) (mg:=mg) (base:=base) (cl:=cl) (A:=A) F_0 ⟨PySem.W.mg_none_of X G z_len⟩
 have k__law_cell_at:=cN F_0 (PySem.W.mg_of X G a_0) b_0 G_0
 have G_1:=uv (P:=l.prog) (w:=w) (mg:=mg) (base:=base) (cl:=cl) (A:=A) F_1 ⟨trivial⟩
 have k__law_letter:=cN F_1 (PySem.W.mg_of X G a_1) b_1 G_1
 have G_2:=xP (P:=l.prog) (w:=w) (mg:=mg) (base:=base) (cl:=cl) (A:=A) F_2 ⟨trivial⟩
 have k__law_mix:=cN F_2 (PySem.W.mg_of X G a_2) b_2 G_2
 have G_3:=sU (P:=l.prog) (w:=w) (mg:=mg) (base:=base) (cl:=cl) (A:=A) F_3 ⟨PySem.W.mg_none_of X G z_range,k__law_letter⟩
 have k__law_cluster:=cN F_3 (PySem.W.mg_of X G a_3) b_3 G_3
 have G_4:=uw (P:=l.prog) (w:=w) (mg:=mg) (base:=base) (cl:=cl) (A:=A) F_4 ⟨PySem.W.mg_none_of X G z_len,PySem.W.mg_none_of X G z_range,k__law_cell_at,k__law_cluster,k__law_letter,k__law_mix⟩
 have k__law_record:=cN F_4 (PySem.W.mg_of X G a_4) b_4 G_4
 have G_5:=xm (P:=l.prog) (w:=w) (mg:=mg) (base:=base) (cl:=cl) (A:=A) F_5 ⟨PySem.W.mg_none_of X G z_enumerate,PySem.W.mg_none_of X G z_len⟩
 have k__law_rows:=cN F_5 (PySem.W.mg_of X G a_5) b_5 G_5
 have G_6:=sV (P:=l.prog) (w:=w) (mg:=mg) (base:=base) (cl:=cl) (A:=A) F_6 ⟨PySem.W.mg_none_of X G z_len,k__law_letter⟩
 have k__law_bad_row:=cN F_6 (PySem.W.mg_of X G a_6) b_6 G_6
 have G_7:=ux (P:=l.prog) (w:=w) (mg:=mg) (base:=base) (cl:=cl) (A:=A) F_7 ⟨trivial⟩
 have k_told_behind:=cN F_7 (PySem.W.mg_of X G a_7) b_7 G_7
 have G_8:=xQ (P:=l.prog) (w:=w) (mg:=mg) (base:=base) (cl:=cl) (A:=A) F_8 ⟨trivial⟩
 have k_last_run:=cN F_8 (PySem.W.mg_of X G a_8) b_8 G_8
 have G_9:=vf (P:=l.prog) (w:=w) (mg:=mg) (base:=base) (cl:=cl) (A:=A) F_9 ⟨trivial⟩
 have k_told_alike:=cN F_9 (PySem.W.mg_of X G a_9) b_9 G_9
 have G_10:=xn (P:=l.prog) (w:=w) (mg:=mg) (base:=base) (cl:=cl) (A:=A) F_10 ⟨PySem.W.mg_none_of X G z_len,PySem.W.mg_of X G g_LETTERS⟩
 have k_is_letter:=cN F_10 (PySem.W.mg_of X G a_10) b_10 G_10
 have G_11:=sW (P:=l.prog) (w:=w) (mg:=mg) (base:=base) (cl:=cl) (A:=A) F_11 ⟨PySem.W.mg_none_of X G z_all,PySem.W.mg_none_of X G z_len,k_is_letter⟩
 have k_is_carry_row:=cN F_11 (PySem.W.mg_of X G a_11) b_11 G_11
 have G_12:=vg (P:=l.prog) (w:=w) (mg:=mg) (base:=base) (cl:=cl) (A:=A) F_12 ⟨PySem.W.mg_none_of X G z_len⟩
 have k_is_pair_of:=cN F_12 (PySem.W.mg_of X G a_12) b_12 G_12
 have G_13:=vh (P:=l.prog) (w:=w) (mg:=mg) (base:=base) (cl:=cl) (A:=A) F_13 ⟨PySem.W.mg_none_of X G z_all,PySem.W.mg_none_of X G z_len,k_is_pair_of⟩
 have k_is_one_row:=cN F_13 (PySem.W.mg_of X G a_13) b_13 G_13
 have G_14:=zY (P:=l.prog) (w:=w) (mg:=mg) (base:=base) (cl:=cl) (A:=A) F_14 ⟨k_is_letter⟩
 have k_is_stop:=cN F_14 (PySem.W.mg_of X G a_14) b_14 G_14
 have G_15:=pU (P:=l.prog) (w:=w) (mg:=mg) (base:=base) (cl:=cl) (A:=A) F_15 ⟨PySem.W.mg_none_of X G z_all,PySem.W.mg_none_of X G z_len,k_is_stop⟩
 have k_are_alike_units:=cN F_15 (PySem.W.mg_of X G a_15) b_15 G_15
 have G_16:=vm (P:=l.prog) (w:=w) (mg:=mg) (base:=base) (cl:=cl) (A:=A) F_16 ⟨PySem.W.mg_none_of X G z_all,PySem.W.mg_none_of X G z_len,PySem.W.mg_of X G g_LEAST_STOPS,PySem.W.mg_of X G g_MOST_STOPS,k_is_stop⟩
 have k_is_cluster:=cN F_16 (PySem.W.mg_of X G a_16) b_16 G_16
 have G_17:=zZ (P:=l.prog) (w:=w) (mg:=mg) (base:=base) (cl:=cl) (A:=A) F_17 ⟨PySem.W.mg_none_of X G z_all,PySem.W.mg_none_of X G z_len,PySem.W.mg_none_of X G z_list,PySem.W.mg_of X G g_RUNS,r_RUNS,k_are_alike_units,k_is_carry_row,k_is_cluster,k_is_one_row⟩
 have k_is_rule:=cN F_17 (PySem.W.mg_of X G a_17) b_17 G_17
 have kx_Tongue____init__:CalIX l.prog w K mg base (cl 0) _ "Tongue" _ _:=⟨_,_,n_ (P:=l.prog) (w:=w) (mg:=mg) (base:=base) (cl:=cl) (A:=A) F_18 ⟨PySem.W.mg_none_of X G z_enumerate,cl_Tongue,nf_Tongue_beginnings,nf_Tongue_carrying,nf_Tongue_eithers,nf_Tongue_likes,nf_Tongue_longs,nf_Tongue_pairs,nf_Tongue_running,nf_Tongue_splittings,k_is_carry_row,k_is_one_row,k_is_rule,k_last_run,k_told_alike,k_told_behind,PySem.W.mg_of X G aC_NoRule,kxi_NoRule⟩,b_18,⟨mk_Tongue,a_18,i_18,kc_Tongue⟩,PySem.W.mg_of X G aC_Tongue⟩
 have k_Tongue____init__:=zN (C:=⟨K,cl⟩) (c:=0) kx_Tongue____init__
 have G_19:=sX (P:=l.prog) (w:=w) (mg:=mg) (base:=base) (cl:=cl) (A:=A) F_19 ⟨PySem.W.mg_none_of X G z_ValueError,PySem.W.mg_none_of X G z_bool,PySem.W.mg_none_of X G z_int,PySem.W.mg_none_of X G z_isinstance,k_Tongue____init__,⟨_,xs_NoRule⟩,xk_NoRule_NoRule,xk_NoRule_ValueError,xk_int_bool,xk_int_int,PySem.W.mg_of X G aC_LiltError,PySem.W.mg_of X G aC_NoRule,kq__law_others_NoRule,⟨xa_NoRule,xb_NoRule,xd_NoRule,xe_NoRule,xf_NoRule⟩,kx_Tongue____init__,xm_NoRule_LiltError⟩
 have k__law_refused:=cN F_19 (PySem.W.mg_of X G a_19) b_19 G_19
 have G_20:=qy (P:=l.prog) (w:=w) (mg:=mg) (base:=base) (cl:=cl) (A:=A) F_20 ⟨k__law_letter,k__law_refused⟩
 have k__law_half_told:=cN F_20 (PySem.W.mg_of X G a_20) b_20 G_20
 have G_21:=K9 (P:=l.prog) (w:=w) (mg:=mg) (base:=base) (cl:=cl) (A:=A) F_21 ⟨PySem.W.mg_none_of X G z_len,PySem.W.mg_none_of X G z_list,k__law_bad_row,k__law_cell_at,k__law_half_told,k__law_record,k__law_refused,k__law_rows⟩
 exact G_21.imp λvs H Q E h=>K_ h
theorem walk {l:PySem.W.OpenLaw}{q:Program}{loose:List Str}{XP:(Str->Option Value)->Heap->Prop}{YP:World->Heap->Prop}{d:DefRec}{K:Params->PySem.W.Frag}(hn:l.most=some 63) (hdf:d.params.defaults=[])
  (hY:∀ (w:World) (h:Heap),YP w h->(K w.params).In h)
  (F:∀ (w:World) (mg:Str->Option Value) (fa:Addr) (h:Heap),(K w.params).In h->h.Ns mainGlobals mg->mg d.name=some (.ref fa)->
   ∃ fd:FuncData,(∀ (s:Shared) (u:Value),BindsTo s fd ⟨[u],[]⟩ [("_law_script",u)])/\∀ base:Heap,(K w.params).In base->base.Ns mainGlobals mg->FnOk l.prog w (K w.params) mg base CX0 9 fa fd ["_law_script"] (vK (K w.params))):
  PySem.W.WalkO q loose XP YP l.row.toRowW d [] (λf vs=>PySem.call f vs):=
 L2.walk_of (n:=63) (k:=9) (x := "_law_script") (CX:=λ_=>CX0) (sp:=λw=>vK (K w.params)) hn (by decide) hdf ⟨rfl,by decide,by decide⟩ hY F (λ_ _ a ns hl hO hS=>⟨a,ns,rfl,hO,hS,hl,λ_=>rfl⟩) λ_ _ _ _ _ z=>z
end My
end
open PySem PySem.W PyProof.Rows
def PySem.W.Fast.tw12278055623884733459 : Unit := ()
def PySem.W.Fast.tw9061920585195858489 : Unit := ()
def PySem.W.Fast.tw8904482884629035237 : Unit := ()
def PySem.W.Fast.tw9903259958867003949 : Unit := ()
def PySem.W.Fast.tw10683620539661543396 : Unit := ()
def PySem.W.Fast.tw5073735751990556226 : Unit := ()
def PySem.W.Fast.tw630213213820177804 : Unit := ()
def PySem.W.Fast.tw10079171167763651329 : Unit := ()
def PySem.W.Fast.tw2524203025646071780 : Unit := ()
def PySem.W.Fast.tw13762741543222697671 : Unit := ()
def PySem.W.Fast.tw6099210388842257234 : Unit := ()
def PySem.W.Fast.tw16550342141071879559 : Unit := ()
def PySem.W.Fast.tw2592591257435689871 : Unit := ()
def PySem.W.Fast.tw5190948901818954041 : Unit := ()
def PySem.W.Fast.tw17568294083566724399 : Unit := ()
def PySem.W.Fast.tw10086756608349898741 : Unit := ()
def PySem.W.Fast.tw18178465455163423116 : Unit := ()
def PySem.W.Fast.tw10949252676132016025 : Unit := ()
def PySem.W.Fast.tw11798585254751321082 : Unit := ()
def PySem.W.Fast.tw4673338154173418254 : Unit := ()
def PySem.W.Fast.tw14390732237651219069 : Unit := ()
def PySem.W.Fast.tw3829038003672250286 : Unit := ()
def PySem.W.Fast.tw14240468161234302364 : Unit := ()
def PySem.W.Fast.tw4396112924649212312 : Unit := ()
def PySem.W.Fast.tw3375909350217793777 : Unit := ()
def PySem.W.Fast.tw4008972554892914044 : Unit := ()
def PySem.W.Fast.tw16744861637479043088 : Unit := ()
def PySem.W.Fast.tw560105943898382808 : Unit := ()
def PySem.W.Fast.tw2085116736897249794 : Unit := ()
def PySem.W.Fast.tw17292989244814733369 : Unit := ()
def PySem.W.Fast.tw11807922650935593976 : Unit := ()
def PySem.W.Fast.tw13390894060403536932 : Unit := ()
def PySem.W.Fast.tw5530630502918188253 : Unit := ()
def PySem.W.Fast.tw12763513717951437303 : Unit := ()
def PySem.W.Fast.tw4779739922756147020 : Unit := ()
def PySem.W.Fast.tw12875924625477903543 : Unit := ()
def PySem.W.Fast.tw10645501614640910547 : Unit := ()
def PySem.W.Fast.tw6443321757275868936 : Unit := ()
set_option maxRecDepth 100000 in
set_option maxHeartbeats 0 in
theorem PySem.Challenge.cw_lilt_k05_rows_refused_holds : PySem.Challenge.rw_lilt_k05_rows_refused.Holds := by
 w_on;o_law;k_head;(case hw=>w_witness2)
 k_fill
 refine My.walk (l:=PySem.Challenge.rw_lilt_k05_rows_refused) rfl rfl (λw h Y=>PySem.W.kIn_of Y) ?F
 case F=>
  intro w mg fa h KX G hmg
  refine' My.all_mk KX G hmg ?aC_Tongue ?aC_LiltError ?aC_NoForm ?aC_NoMetre ?aC_NoName ?aC_NoReading ?aC_NoRow ?aC_NoRule ?aC_NoWord ?a_0 ?l_0 ?c_0 ?k_0 ?a_1 ?l_1 ?c_1 ?k_1 ?a_2 ?l_2 ?c_2 ?k_2 ?a_3 ?l_3 ?c_3 ?k_3 ?a_4 ?l_4 ?c_4 ?k_4 ?a_5 ?l_5 ?c_5 ?k_5 ?a_6 ?l_6 ?c_6 ?k_6 ?a_7 ?l_7 ?c_7 ?k_7 ?a_8 ?l_8 ?c_8 ?k_8 ?a_9 ?l_9 ?c_9 ?k_9 ?a_10 ?l_10 ?c_10 ?k_10 ?a_11 ?l_11 ?c_11 ?k_11 ?a_12 ?l_12 ?c_12 ?k_12 ?a_13 ?l_13 ?c_13 ?k_13 ?a_14 ?l_14 ?c_14 ?k_14 ?a_15 ?l_15 ?c_15 ?k_15 ?a_16 ?l_16 ?c_16 ?k_16 ?a_17 ?l_17 ?c_17 ?k_17 ?a_18 ?i_18 ?l_18 ?c_18 ?k_18 ?a_19 ?l_19 ?c_19 ?k_19 ?a_20 ?l_20 ?c_20 ?k_20 ?a_21 ?l_21 ?c_21 ?k_21 ?a_22 ?l_22 ?c_22 ?k_22 ?a_xNoRule ?i_xNoRule ?l_xNoRule ?c_xNoRule ?k_xNoRule ?pg_Tongue ?hd_Tongue ?po_Tongue ?sa_Tongue ?mk_Tongue ?kc_Tongue ?nf_Tongue_beginnings ?nf_Tongue_carrying ?nf_Tongue_eithers ?nf_Tongue_likes ?nf_Tongue_longs ?nf_Tongue_pairs ?nf_Tongue_running ?nf_Tongue_splittings ?z_ValueError ?z_all ?z_bool ?z_enumerate ?z_int ?z_isinstance ?z_len ?z_list ?z_range ?g_LEAST_STOPS ?g_LETTERS ?g_MOST_STOPS ?g_RUNS ?lk_RUNS ?xa_NoRule ?xb_NoRule ?xd_NoRule ?xe_NoRule ?xf_NoRule ?xk_NoRule_NoForm ?xk_NoRule_NoMetre ?xk_NoRule_NoName ?xk_NoRule_NoReading ?xk_NoRule_NoRow ?xk_NoRule_NoRule ?xk_NoRule_NoWord ?xk_NoRule_ValueError ?xk_int_bool ?xk_int_int ?xm_NoRule_LiltError ?xs_NoRule ?xt_LiltError ?xu_LiltError ?xv_LiltError
  (case aC_Tongue | aC_LiltError | aC_NoForm | aC_NoMetre | aC_NoName | aC_NoReading | aC_NoRow | aC_NoRule | aC_NoWord | a_0 | l_0 | c_0 | k_0 | a_1 | l_1 | c_1 | k_1 | a_2 | l_2 | c_2 | k_2 | a_3 | l_3 | c_3 | k_3 | a_4 | l_4 | c_4 | k_4 | a_5 | l_5 | c_5 | k_5 | a_6 | l_6 | c_6 | k_6 | a_7 | l_7 | c_7 | k_7 | a_8 | l_8 | c_8 | k_8 | a_9 | l_9 | c_9 | k_9 | a_10 | l_10 | c_10 | k_10 | a_11 | l_11 | c_11 | k_11 | a_12 | l_12 | c_12 | k_12 | a_13 | l_13 | c_13 | k_13 | a_14 | l_14 | c_14 | k_14 | a_15 | l_15 | c_15 | k_15 | a_16 | l_16 | c_16 | k_16 | a_17 | l_17 | c_17 | k_17 | a_18 | i_18 | l_18 | c_18 | k_18 | a_19 | l_19 | c_19 | k_19 | a_20 | l_20 | c_20 | k_20 | a_21 | l_21 | c_21 | k_21 | a_22 | l_22 | c_22 | k_22 | a_xNoRule | i_xNoRule | l_xNoRule | c_xNoRule | k_xNoRule | pg_Tongue | hd_Tongue | po_Tongue | sa_Tongue | mk_Tongue | kc_Tongue | nf_Tongue_beginnings | nf_Tongue_carrying | nf_Tongue_eithers | nf_Tongue_likes | nf_Tongue_longs | nf_Tongue_pairs | nf_Tongue_running | nf_Tongue_splittings | z_ValueError | z_all | z_bool | z_enumerate | z_int | z_isinstance | z_len | z_list | z_range | g_LEAST_STOPS | g_LETTERS | g_MOST_STOPS | g_RUNS | lk_RUNS=>k_is)
  (case xa_NoRule=>k_is)
  (case xb_NoRule=>k_is)
  (case xd_NoRule=>k_is)
  (case xe_NoRule=>k_is)
  (case xf_NoRule=>k_is)
  (case xk_NoRule_NoForm=>first | rfl | k_is | kit_is)
  (case xk_NoRule_NoMetre=>first | rfl | k_is | kit_is)
  (case xk_NoRule_NoName=>first | rfl | k_is | kit_is)
  (case xk_NoRule_NoReading=>first | rfl | k_is | kit_is)
  (case xk_NoRule_NoRow=>first | rfl | k_is | kit_is)
  (case xk_NoRule_NoRule=>first | rfl | k_is | kit_is)
  (case xk_NoRule_NoWord=>first | rfl | k_is | kit_is)
  (case xk_NoRule_ValueError=>first | rfl | k_is | kit_is)
  (case xk_int_bool=>first | rfl | k_is | kit_is)
  (case xk_int_int=>first | rfl | k_is | kit_is)
  (case xm_NoRule_LiltError=>kts_exm)
  (case xs_NoRule=>kernel_rfl)
  (case xt_LiltError=>first | k_is | kernel_rfl)
  (case xu_LiltError=>first | k_is | kernel_rfl)
  (case xv_LiltError=>first | k_is | kernel_rfl)
