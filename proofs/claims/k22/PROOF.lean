import PyProof.Rows.All
import Wide.All
import OpenK.AllK
import Wide.FinOn
import Lean
import PyProof.EqAt
import PyProof.EqKinds
import PyProof.TupleCall
import PyProof.ZipIter
import PyProof.ListStr
import KE.KRevIter
import PyProof.Rows.Range3
import PyProof.Rows.SetFrom
import PyProof.DictWalks
import PyProof.Rows.TupDisplay
import PyProof.DictItems
import KE.KPairComp
import KE.KIntText
import PyProof.WalkInts
import PyProof.Rows.RuleN_abs
import PyProof.StrLawsJoin
import PySem.Challenge.RW_lilt_k22_tables_and_texts
set_option Elab.async false
set_option linter.all false
set_option maxRecDepth 100000
set_option maxHeartbeats 4000000
set_option compiler.extract_closed false
noncomputable section
namespace L2
open PySem PySem.Spec PyProof.Rows
section
variable {prog:Program}{w:World}{κ:Type} [DecidableEq κ] {kd:HeapKind prog w κ}{A:Around}{E:Value->Shared->Prop}{s:Shared}{d a it:Addr}{xs:List (κ×Addr×Value)}{k:κ}{v:Value}
def DictE (kd:HeapKind prog w κ) (h:Heap) (d:Addr) (xs:List (κ×Addr×Value)):Prop:=
 ∃ o es,h.get? d=some o/\o.ExactDict/\o.data=.dict es xs.length/\es.toList=xs.map (entryOfKey kd)/\(∀ x∈xs,kd.is h x.1 x.2.1)/\(xs.map (·.1)).Nodup
theorem DictE.of {h:Heap}(m:DictE kd h d xs):h.DictOfH kd d xs:=let ⟨o,es,q⟩:=m;⟨o,es,_,q⟩
theorem Eh {Q:Unit->Shared->Prop}(hu:kd.room A) (hk:kd.is s.heap k a) (m:DictE kd s.heap d xs) (hz:xs.length<=sizeLine)
  (q:∀ h',DictE kd h' d (storedH xs k a v)->Heap.SameBut d s.heap h'->Q () { s with heap:=h',toks:=s.toks+kd.draws k }):wpAny (model prog w) A (dictSet d (.ref a) v) Q E s:=by
 obtain⟨o,es,o1,o2,o3,o4,o5,o6⟩:=m
 unfold dictSet
 try with_reducible refine wpAny_holding ?_
 refine wpAny_bind (kd.pyHash hu hk ?_)
 unfold dictSetHashed
 try with_reducible refine wpAny_holding ?_
 refine wpAny_bind (wpAny_dictFind_heap (s:={ s with toks:=s.toks+kd.draws k }) hu hk o1 o3 o4 o5 o6 (λno=>?_) λj p hj=>?_)
 ·have nk:k∉xs.map (·.1):=not_mem_keys_of_get no
  have e:=storedH_new (atKey_none_of_get no) a v
  rw[e] at q
  refine wpAny_bind (wpAny_rule (wpAny_updateDictKeys (hz:=by have:=size_of_entries o4;omega) (s:={ s with toks:=s.toks+kd.draws k }) o1 o3 (q _ ⟨_,_,Heap.get?_update_self _ o1 (Obj.isFreed_of_dict (Obj.data_mapDictKeys o3 _)),o2.mapDictKeys _,by rw[List.length_append];exact Obj.data_mapDictKeys o3 _,?_,λx hx=>?_,?_⟩ (Heap.SameBut.update ..))))
  ·simp[o4,entryOfKey]
  ·rcases List.mem_append.mp hx with z | z
   ·exact kd.keeps (o5 x z) o1 o3 (Heap.SameBut.update ..)
   ·rw[List.mem_singleton.mp z];exact kd.keeps hk o1 o3 (Heap.SameBut.update ..)
  ·rw[List.map_append]
   exact List.nodup_append.mpr ⟨o6,by simp,λx hx y hy z=>nk (by rw[List.map_cons,List.map_nil,List.mem_singleton] at hy;have hy:y=k:=hy;subst hy z;exact hx)⟩
 ·have e:=storedH_old (atKey_of_get o6 hj) a v
  rw[e] at q
  refine wpAny_bind (wpAny_rule (wpAny_bind (wpAny_updateDict (s:={ s with toks:=s.toks+kd.draws k }) o1 o3 (wpAny_point (q _ ⟨_,_,Heap.get?_update_self _ o1 (Obj.isFreed_of_dict (Obj.data_mapDict o3 _)),o2.mapDict _,by rw[List.length_map];exact Obj.data_mapDict o3 _,?_,λx hx=>?_,?_⟩ (Heap.SameBut.update ..))))))
  ·have y:=modify_map_putAt (entryOfKey kd) (λe:DictEntry=>{ e with val:=v }) k v (λ_ _=>rfl) o6 hj
   rw[← o4] at y
   cases es
   simpa using y
  ·obtain⟨y,hy,rfl⟩:=List.mem_map.mp hx
   unfold putAt
   split <;> exact kd.keeps (o5 y hy) o1 o3 (Heap.SameBut.update ..)
  ·rw[keys_map_putAt];exact o6
theorem Ei {Q:Unit->Shared->Prop}(hu:kd.room A.in1) (hk:kd.is s.heap k a) (m:DictE kd s.heap d xs) (hz:xs.length<=sizeLine)
  (q:∀ h',DictE kd h' d (storedH xs k a v)->Heap.SameBut d s.heap h'->Q () { s with heap:=h',toks:=s.toks+kd.draws k }):wpAny (model prog w) A (setItem (.ref d) (.ref a) v) Q E s:=by
 have ty:=m.of.typeIs
 unfold setItem
 try with_reducible refine wpAny_holding ?_
 refine wpAny_bind (wpAny_sequenceKey ty (by decide) (wpAny_bind (wpAny_callSpecial?_slot (name:=Str.ofString "__setitem__") ty slot_dict_setitem (wpAny_call_entry slot_dict_setitem ty entry_dict_setitem ?_ (args_dict_setitem _ _ _)))))
 show wpAny _ _ (Builtin.Dict.notOrdered "__setitem__" ⟨[.ref d,.ref a,v],[]⟩ >>= _) _ _ s
 refine wpAny_bind (wpAny_notOrdered_dict ty ?_)
 show wpAny _ _ (dictSet d (.ref a) v >>= λ_=>_) _ _ s
 exact wpAny_bind (Eh hu hk m hz λh' m' hs'=>wpAny_pure ⟨.none,rfl,wpAny_pure (q h' m' hs')⟩)
end
end L2
namespace L2
open PySem PySem.Spec PyProof.Rows
section
variable {prog:Program}{w:World}{A:Around}{E:Value->Shared->Prop}{s:Shared}{z TI TO T i1 i2 l1 l2:Addr}{k:Nat}{xs ys:Array Value}{x y:Value}{f:Bool}{oT:Obj}
def ZIts (h:Heap) (xs ys:Array Value) (B:Addr) (W:List Addr) (acc:Array Value) (n:Nat):Prop:=
 acc.size=n/\∀ i,i < n->∃ t x y,acc[i]?=some (.ref t)/\xs[i]?=some x/\ys[i]?=some y/\IsPair h t x y/\B<=t/\t∉W/\∀ j,j < i->acc[j]?≠some (.ref t)
theorem ZIts.keep {h h':Heap}{B:Addr}{W:List Addr}{acc:Array Value}{n:Nat}(q:ZIts h xs ys B W acc n) (k:∀ c o,c∉W->h.get? c=some o->h'.get? c=some o):ZIts h' xs ys B W acc n:=
 ⟨q.1,λi hi=>let ⟨t,x,y,a,b,c,d,e,f,g⟩:=q.2 i hi;⟨t,x,y,a,b,c,k _ _ f d,e,f,g⟩⟩
theorem ZIts.push {h:Heap}{B t:Addr}{W:List Addr}{acc:Array Value}{n:Nat}{x y:Value}(q:ZIts h xs ys B W acc n) (hx:xs[n]?=some x) (hy:ys[n]?=some y) (ht:IsPair h t x y) (hB:B<=t) (hW:t∉W) (hw:∀ j,j < n->acc[j]?≠some (.ref t)):ZIts h xs ys B W (acc.push (.ref t)) (n+1):=by
 obtain⟨q1,q2⟩:=q
 refine⟨by rw[Array.size_push,q1],λi hi=>?_⟩
 rcases Nat.lt_or_ge i n with h1 | h1
 ·obtain⟨t',x',y',a,b,c,d,e,f,g⟩:=q2 i h1
  exact⟨t',x',y',by rw[Array.getElem?_push_lt (by omega)];rw[Array.getElem?_eq_getElem (by omega)] at a;exact a,b,c,d,e,f,λj hj=>by rw[Array.getElem?_push_lt (by omega),← Array.getElem?_eq_getElem (by omega)];exact g j hj⟩
 ·have e:i=n:=by omega
  subst e
  exact⟨t,x,y,by rw[← q1];exact Array.getElem?_push_size,hx,hy,ht,hB,hW,λj hj=>by rw[Array.getElem?_push_lt (by omega),← Array.getElem?_eq_getElem (by omega)];exact hw j hj⟩
end
end L2
namespace L2
open PySem PySem.Spec PyProof.Rows
abbrev Key:=Sum Int Str
def nQ:Key->Value->Bool
 | .inl k,v=>Value.isInt k v
 | .inr x,v=>Value.isStrOf x v
def Jt (w:World):Key->Int
 | .inl k=>hashInt k
 | .inr x=>hashStr w x
theorem cA:∀ {k:Key}{v:Value},nQ k v=true->(∃ i t,k=Sum.inl i/\v=Value.int i t)\/(∃ x t,k=Sum.inr x/\v=Value.str x t)
 | .inl i,v,h=>by
  obtain⟨t,e⟩:=Value.isInt_shape (k:=i) (v:=v) h
  exact .inl ⟨i,t,rfl,e⟩
 | .inr x,v,h=>by
  obtain⟨t,e⟩:=Value.isStrOf_shape (x:=x) (v:=v) h
  exact .inr ⟨x,t,rfl,e⟩
theorem BP (i:Int) (t:Tok):nQ (.inl i) (.int i t)=true:=by simp[nQ,Value.isInt]
theorem BR (x:Str) (t:Tok):nQ (.inr x) (.str x t)=true:=by simp[nQ,Value.isStrOf]
theorem qi (a b:Int):decide ((Sum.inl a:Key)=Sum.inl b)=(a == b):=by
 by_cases e:a=b
 ·subst e;simp
 ·have h:¬ (Sum.inl a:Key)=Sum.inl b:=λq=>e (Sum.inl.inj q)
  rw[decide_eq_false h]
  exact(beq_eq_false_iff_ne.mpr e).symm
theorem BV (a b:Str):decide ((Sum.inr a:Key)=Sum.inr b)=decide (a=b):=by
 by_cases e:a=b
 ·subst e;simp
 ·have h:¬ (Sum.inr a:Key)=Sum.inr b:=λq=>e (Sum.inr.inj q)
  rw[decide_eq_false h,decide_eq_false e]
theorem xj (a:Int) (b:Str):decide ((Sum.inl a:Key)=Sum.inr b)=false:=decide_eq_false (λq=>nomatch q)
theorem xm (a:Str) (b:Int):decide ((Sum.inr a:Key)=Sum.inl b)=false:=decide_eq_false (λq=>nomatch q)
def jt (prog:Program) (w:World):PySem.KeyKind prog w Key where
 is:=nQ
 hash:=Jt w
 inj:=λv a b ha hb=>by
  rcases cA ha with ⟨i,t,rfl,rfl⟩ | ⟨x,t,rfl,rfl⟩
  ·rcases cA hb with ⟨j,u,rfl,e⟩ | ⟨y,u,rfl,e⟩
   ·injection e with e1 _;rw[e1]
   ·exact nomatch e
  ·rcases cA hb with ⟨j,u,rfl,e⟩ | ⟨y,u,rfl,e⟩
   ·exact nomatch e
   ·injection e with e1 _;rw[e1]
 byValue:=λk v h=>by
  rcases cA h with ⟨i,t,rfl,rfl⟩ | ⟨x,t,rfl,rfl⟩ <;> rfl
 pyHash:=λhv h=>by
  rcases cA hv with ⟨i,t,rfl,rfl⟩ | ⟨x,t,rfl,rfl⟩
  ·exact wpAny_pyHash_int h
  ·exact wpAny_pyHash_str h
 eqBool:=λhu hv h=>by
  rcases cA hu with ⟨i,t,rfl,rfl⟩ | ⟨x,t,rfl,rfl⟩
  ·rcases cA hv with ⟨j,u,rfl,rfl⟩ | ⟨y,u,rfl,rfl⟩
   ·rw[qi] at h;exact wpAny_eqBool_int h
   ·rw[xj] at h;exact SeqAt.EqAt.int_str i t y u _ _ _ _ h
  ·rcases cA hv with ⟨j,u,rfl,rfl⟩ | ⟨y,u,rfl,rfl⟩
   ·rw[xm] at h;exact SeqAt.EqAt.str_int x t j u _ _ _ _ h
   ·rw[BV] at h;exact wpAny_eqBool_str h
 «strs»:=λk x t v h=>by
  rcases cA h with ⟨i,u,rfl,e⟩ | ⟨y,u,rfl,e⟩
  ·exact nomatch e
  ·injection e with e1 _
   subst e1
   cases v <;> rfl
def qj:Key->Value->Bool
 | .inl k,.bool b=>decide (k=if b=true then 1 else 0)
 | k,v=>nQ k v
theorem cR {k:Key}{v:Value}(h:qj k v=true):(∃ b,k=Sum.inl (if b=true then 1 else 0)/\v=Value.bool b)\/(∃ i t,k=Sum.inl i/\v=Value.int i t)\/(∃ x t,k=Sum.inr x/\v=Value.str x t):=by
 unfold qj at h
 split at h
 ·exact .inl ⟨_,congrArg _ (of_decide_eq_true h),rfl⟩
 ·exact .inr (cA h)
theorem BW {k:Key}{v:Value}(h:nQ k v=true):qj k v=true:=by
 rcases cA h with ⟨i,t,rfl,rfl⟩ | ⟨x,t,rfl,rfl⟩ <;> exact h
theorem yW (b:Bool):qj (.inl (if b=true then 1 else 0)) (.bool b)=true:=decide_eq_true rfl
theorem Ju (a b:Bool):decide ((Sum.inl (if a=true then 1 else 0):Key)=Sum.inl (if b=true then 1 else 0))=(a == b):=by
 rw[qi];cases a <;> cases b <;> rfl
theorem BZ {prog:Program}{w:World}{A:Around}{E:Value->Shared->Prop}{s:Shared}(b:Bool){Q:Int->Shared->Prop}(h:Q (hashInt (if b=true then 1 else 0)) { s with toks:=s.toks+1 }):
  wpAny (model prog w) A (pyHash (.bool b)) Q E s:=by
 refine PySem.W.pyHash_slot (s:=s) (T := "bool") (by cases b <;> exact PySem.typeIs_bool s _) PySem.F.slot_bool_hash entry_int_hash (args_int_hash _) (by rw[beq_builtin_none]) (.inl rfl) ?_
 have e:reduceHash (rawHash (if b=true then 1 else 0))=hashInt (if b=true then 1 else 0):=by cases b <;> decide
 show wpAny _ _ (do ret (← mkInt (rawHash (if b=true then 1 else 0)))) _ _ s
 refine wpAny_mono (wpAny_ret_mkInt (Q:=λv s'=>∃ t,v=.int (rawHash (if b=true then 1 else 0)) t/\s'={ s with toks:=s.toks+1 }) ⟨_,rfl,rfl⟩) (λfin s' hq=>?_) λ_ _ x=>x
 obtain⟨v,rfl,t,rfl,rfl⟩:=hq
 exact⟨_,_,rfl,by rw[e];exact h⟩
def gQ (prog:Program) (w:World):PySem.KeyKind prog w Key where
 is:=qj
 hash:=Jt w
 inj:=λv a b ha hb=>by
  rcases cR ha with ⟨c,rfl,rfl⟩ | ⟨i,t,rfl,rfl⟩ | ⟨x,t,rfl,rfl⟩ <;> rcases cR hb with ⟨d,rfl,e⟩ | ⟨j,u,rfl,e⟩ | ⟨y,u,rfl,e⟩ <;> cases e <;> rfl
 byValue:=λk v h=>by
  rcases cR h with ⟨c,rfl,rfl⟩ | ⟨i,t,rfl,rfl⟩ | ⟨x,t,rfl,rfl⟩ <;> rfl
 pyHash:=λhv h=>by
  rcases cR hv with ⟨c,rfl,rfl⟩ | ⟨i,t,rfl,rfl⟩ | ⟨x,t,rfl,rfl⟩
  ·exact BZ c h
  ·exact wpAny_pyHash_int h
  ·exact wpAny_pyHash_str h
 eqBool:=λhu hv h=>by
  rcases cR hu with ⟨c,rfl,rfl⟩ | ⟨i,t,rfl,rfl⟩ | ⟨x,t,rfl,rfl⟩
  ·rcases cR hv with ⟨d,rfl,rfl⟩ | ⟨j,u,rfl,rfl⟩ | ⟨y,u,rfl,rfl⟩
   ·rw[Ju] at h;exact SeqAt.EqAt.bool_bool _ _ _ _ _ _ h
   ·rw[qi] at h;exact SeqAt.EqAt.bool_int _ _ _ _ _ _ _ h
   ·rw[xj] at h;exact SeqAt.EqAt.bool_str _ _ _ _ _ _ _ h
  ·rcases cR hv with ⟨d,rfl,rfl⟩ | ⟨j,u,rfl,rfl⟩ | ⟨y,u,rfl,rfl⟩
   ·rw[qi] at h;exact SeqAt.EqAt.int_bool _ _ _ _ _ _ _ h
   ·rw[qi] at h;exact wpAny_eqBool_int h
   ·rw[xj] at h;exact SeqAt.EqAt.int_str i t y u _ _ _ _ h
  ·rcases cR hv with ⟨d,rfl,rfl⟩ | ⟨j,u,rfl,rfl⟩ | ⟨y,u,rfl,rfl⟩
   ·rw[xm] at h;exact SeqAt.EqAt.str_bool _ _ _ _ _ _ _ h
   ·rw[xm] at h;exact SeqAt.EqAt.str_int x t j u _ _ _ _ h
   ·rw[BV] at h;exact wpAny_eqBool_str h
 «strs»:=λk x t v h=>by
  rcases cR h with ⟨c,rfl,e⟩ | ⟨i,u,rfl,e⟩ | ⟨y,u,rfl,e⟩
  ·exact nomatch e
  ·exact nomatch e
  ·injection e with e1 _
   subst e1
   cases v <;> rfl
theorem yX (prog:Program) (w:World) (i:Int) (t:Tok):(jt prog w).is (.inl i) (.int i t)=true:=BP i t
theorem yZ (prog:Program) (w:World) (x:Str) (t:Tok):(jt prog w).is (.inr x) (.str x t)=true:=BR x t
end L2
namespace L2
open PySem PySem.Spec PyProof.Rows
inductive V where
 | non | bl (b:Bool) | int (i:Int) | str (x:Str) | byt (b:Array UInt8) | flt (b:UInt64) | ref (a:Addr) | ty (n:String)
 deriving DecidableEq
def RelV:V->Value->Prop
 | .non,u=>u=Value.none
 | .bl b,u=>u=Value.bool b
 | .int i,u=>∃ t,u=Value.int i t
 | .str x,u=>∃ t,u=Value.str x t
 | .byt b,u=>∃ t,u=Value.bytes b t
 | .flt b,u=>∃ t,u=Value.float b t
 | .ref a,u=>u=Value.ref a
 | .ty n,u=>u=Value.type n
abbrev Vals:List V->List Value->Prop:=Paired RelV
theorem Vals.length {xs:List V}{us:List Value}(r:Vals xs us):xs.length=us.length:=Paired.length r
theorem Vals.get:∀ {xs:List V}{us:List Value}{i:Nat}{x:V},Vals xs us->xs[i]?=some x->∃ u,us[i]?=some u/\RelV x u
 | _,_,_,_,.nil,e=>by simp at e
 | _,_,0,_,.cons r _,e=>by simp at e;subst e;exact⟨_,rfl,r⟩
 | _,_,i+1,x,.cons _ t,e=>by
  obtain⟨u,h1,h2⟩:=Vals.get (i:=i) (x:=x) t (by simpa using e)
  exact⟨u,by simpa using h1,h2⟩
theorem Vals.set {x:V}{u:Value}(r:RelV x u):∀ {xs:List V}{us:List Value}(i:Nat),Vals xs us->Vals (xs.set i x) (us.set i u)
 | _,_,_,.nil=>.nil
 | _,_,0,.cons _ t=>.cons r t
 | _,_,i+1,.cons q t=>.cons q (Vals.set r i t)
theorem Vals.append:∀ {xs ys:List V}{us ws:List Value},Vals xs us->Vals ys ws->Vals (xs++ys) (us++ws)
 | _,_,_,_,.nil,s=>s
 | _,_,_,_,.cons r t,s=>.cons r (Vals.append t s)
theorem Vals.take:∀ {xs:List V}{us:List Value}(n:Nat),Vals xs us->Vals (xs.take n) (us.take n)
 | _,_,0,_=>.nil
 | _,_,_+1,.nil=>.nil
 | _,_,n+1,.cons r t=>.cons r (Vals.take n t)
theorem Vals.drop:∀ {xs:List V}{us:List Value}(n:Nat),Vals xs us->Vals (xs.drop n) (us.drop n)
 | _,_,0,r=>r
 | _,_,_+1,.nil=>.nil
 | _,_,n+1,.cons _ t=>Vals.drop n t
def RelO:Option V->Option Value->Prop
 | some v,some u=>RelV v u
 | none,none=>True
 | _,_=>False
def KV {κ:Type}:List (κ×V)->List (κ×Value)->Prop:=Paired λ(p:κ×V) (q:κ×Value)=>p.1=q.1/\RelV p.2 q.2
def kV:Key->V
 | .inl i=>.int i
 | .inr x=>.str x
inductive HO where
 | lst (xs:List V)
 | tup (xs:List V)
 | dK (kvs:List (Key×V)) | dT (kvs:List (List Key×V))
 | set (S:Int->Bool) (n:Nat)
 | ins (C dx:Addr) (fs:List (Str×V))
 | own (x:Addr)
 | xd (fs:List (Str×V))
 | met (f x:Addr)
 | rng (lo hi:Int)
 | frz (o:Obj) (u:HO)
 | tbl (ps:Array Value)
 | ext (φ:Heap->Prop)
abbrev Hp:=Addr->Option HO
def upd (H:Hp) (a:Addr) (o:HO):Hp:=λb=>if b=a then some o else H b
theorem bK {H:Hp}{a:Addr}{o:HO}:upd H a o a=some o:=by unfold upd;rw[if_pos rfl]
theorem aP {H:Hp}{a b:Addr}{o:HO}(h:b≠a):upd H a o b=H b:=by unfold upd;rw[if_neg h]
theorem LQ {H:Hp}{a b:Addr}{o u:HO}(h:H a=some o) (h':H b=some u) (d:o≠u):a≠b:=by
 intro e;subst e;rw[h] at h';exact d (Option.some.inj h')
theorem bf {H:Hp}{a b:Addr}{o:HO}(h:H a=some o) (h':H b=none):a≠b:=by
 intro e;subst e;rw[h] at h';cases h'
def xn (ks:List Key) (vs:List V):Prop:=vs=ks.map kV\/∃ x b,ks=[.inr x,.inl (if b=true then 1 else 0)]/\vs=[.str x,.bl b]
abbrev Jv (H:Hp) (b:Addr) (ks:List Key):Prop:=∃ vs,H b=some (.tup vs)/\xn ks vs
def KTup (K:PySem.W.Frag) (a:Addr) (xs:List V):Prop:=∃ (o:Obj) (its:Array Value) (n:Nat),K.lookup a=some o/\o.cls=.type "tuple" /\ o.data=.seq its n/\its.size<=sizeLine/\Vals xs its.toList
def CKey (K:PySem.W.Frag) (H:Hp) (b:Addr) (ks:List Key):Prop:=Jv H b ks\/∃ vs,KTup K b vs/\xn ks vs
theorem CKey.keeps {K:PySem.W.Frag}{H H':Hp}{b:Addr}{ks:List Key}(c:CKey K H b ks) (ht:∀ b ys,H b=some (.tup ys)->H' b=some (.tup ys)):CKey K H' b ks:=c.imp (λ⟨vs,e,k⟩=>⟨vs,ht _ _ e,k⟩) id
section
variable (P:Program) (w:World) (K:PySem.W.Frag)
def ObjOk (H:Hp) (h:Heap) (a:Addr):HO->Prop
 | .lst xs=>xs.length<=sizeLine/\∃ (its:List Value) (n:Nat),Vals xs its/\h.get? a=some { cls:=.type "list",data:=.seq its.toArray n }
 | .tup xs=>xs.length<=sizeLine/\∃ its:List Value,Vals xs its/\IsTup h a its.toArray
 | .dK kvs=>kvs.length<=sizeLine/\(a == sysModules)=false/\∃ vs,KV kvs vs/\h.DictOf (jt P w) a vs
 | .dT kvs=>kvs.length<=sizeLine/\(a == sysModules)=false/\∃ xs:List (List Key×Addr×Value),
   Paired (λ(p:List Key×V) (q:List Key×Addr×Value)=>p.1=q.1/\CKey K H q.2.1 p.1/\RelV p.2 q.2.2) kvs xs /\
   ∃ o es ep,h.get? a=some o/\o.ExactDict/\o.data=.dict es ep/\es.toList=xs.map (entryOfKey (tupleKind (gQ P w)))/\(xs.map (·.1)).Nodup/\ep=xs.length
 | .set S n=>h.SetOf (intKind P w) a S n
 | .ins C dx fs=>H dx=some (.own a)/\fs.length<=1000/\dx≠a/\h.get? a=some (PySem.W.instObj C dx) /\
   ∃ mA,h.Ns1 dx mA/\(∀ f,RelO (fs.lookup f) (mA f))/\PySem.Within mA (fs.map (·.1))
 | .own _=>∃ o,h.get? a=some o
 | .xd fs=>∃ mA,h.Ns1 a mA/\∀ f,RelO (fs.lookup f) (mA f)
 | .rng lo hi=>∃ t u v,h.get? a=some { cls:=.type "range",data:=.fields #[.int lo t,.int hi u,.int 1 v] }
 | .frz o u=>h.get? a=some o/\ObjOk H h a u
 | .tbl ps=>h.get? a=some { cls:=.none,data:=.fields ps }
 | .met f x=>h.get? a=some (PySem.W.methodObj (.ref f) (.ref x))
 | .ext φ=>φ h/\(∃ o,h.get? a=some o)/\∀ h1 h2:Heap,φ h1->(∀ o,h1.get? a=some o->h2.get? a=some o)->φ h2
def HOk (H:Hp) (h:Heap):Prop:=∀ a o,H a=some o->ObjOk P w K H h a o
end
section
variable {P:Program}{w:World}{K:PySem.W.Frag}{H H':Hp}{h h':Heap}{a:Addr}{o:HO}
theorem ObjOk.lt (x:ObjOk P w K H h a o):a < h.objs.size:=by
 cases o with
 | lst xs=>obtain⟨_,_,_,_,e⟩:=x;exact Heap.lt_size e
 | tup xs=>obtain⟨_,_,_,p⟩:=x;exact p.lt
 | dK kvs=>obtain⟨_,_,_,_,o,_,_,e,_⟩:=x;exact Heap.lt_size e
 | dT kvs=>obtain⟨_,_,_,_,o,_,_,e,_⟩:=x;exact Heap.lt_size e
 | set S n=>obtain⟨o,_,_,_,e,_⟩:=x;exact Heap.lt_size e
 | ins C dx fs=>obtain⟨_,_,_,e,_⟩:=x;exact Heap.lt_size e
 | own y=>obtain⟨_,e⟩:=x;exact Heap.lt_size e
 | xd fs=>obtain⟨_,⟨_,_,_,e,_⟩,_⟩:=x;exact Heap.lt_size e
 | rng lo hi=>obtain⟨_,_,_,e⟩:=x;exact Heap.lt_size e
 | frz ob u=>obtain⟨e,_⟩:=x;exact Heap.lt_size e
 | tbl ps=>exact Heap.lt_size (show h.get? a=some _ from x)
 | met f y=>exact Heap.lt_size (show h.get? a=some _ from x)
 | ext φ=>obtain⟨_,⟨_,e⟩,_⟩:=x;exact Heap.lt_size e
theorem Paired.mapP {α β:Type}{F G:α->β->Prop}:∀ {l₁:List α}{l₂:List β},Paired F l₁ l₂->(∀ a b,F a b->G a b)->Paired G l₁ l₂
 | _,_,.nil,_=>.nil
 | _,_,.cons r t,f=>.cons (f _ _ r) (Paired.mapP t f)
theorem ObjOk.stay (x:ObjOk P w K H h a o) (k:∀ b u,(b=a\/H b=some (.own a))->h.get? b=some u->h'.get? b=some u)
  (ho:∀ b,H b=some (.own a)->H' b=some (.own a)) (ht:∀ b xs,H b=some (.tup xs)->H' b=some (.tup xs)):ObjOk P w K H' h' a o:=by
 induction o with
 | lst xs=>obtain⟨z,its,n,r,e⟩:=x;exact⟨z,its,n,r,k _ _ (.inl rfl) e⟩
 | tup xs=>obtain⟨z,its,r,ob,e,c⟩:=x;exact⟨z,its,r,ob,k _ _ (.inl rfl) e,c⟩
 | dK kvs=>obtain⟨z,y,vs,r,ob,es,ep,e,c⟩:=x;exact⟨z,y,vs,r,ob,es,ep,k _ _ (.inl rfl) e,c⟩
 | dT kvs=>
  obtain⟨z,y,xs,r,ob,es,ep,e,c⟩:=x
  exact⟨z,y,xs,Paired.mapP r λp q z=>⟨z.1,z.2.1.keeps ht,z.2.2⟩,ob,es,ep,k _ _ (.inl rfl) e,c⟩
 | set S n=>obtain⟨ob,es,ep,t,e,c⟩:=x;exact⟨ob,es,ep,t,k _ _ (.inl rfl) e,c⟩
 | ins C dx fs=>
  obtain⟨d,z,ne,e,mA,⟨od,es,ep,e2,c⟩,r⟩:=x
  exact⟨ho _ d,z,ne,k _ _ (.inl rfl) e,mA,⟨od,es,ep,k _ _ (.inr d) e2,c⟩,r⟩
 | own y=>obtain⟨ob,e⟩:=x;exact⟨ob,k _ _ (.inl rfl) e⟩
 | xd fs=>obtain⟨mA,⟨od,es,ep,e,c⟩,r⟩:=x;exact⟨mA,⟨od,es,ep,k _ _ (.inl rfl) e,c⟩,r⟩
 | rng lo hi=>obtain⟨t,u,v,e⟩:=x;exact⟨t,u,v,k _ _ (.inl rfl) e⟩
 | frz ob u ih=>obtain⟨e,q⟩:=x;exact⟨k _ _ (.inl rfl) e,ih q⟩
 | tbl ps=>
  have e:h.get? a=some { cls:=.none,data:=.fields ps }:=x
  show h'.get? a=some { cls:=.none,data:=.fields ps }
  exact k a _ (.inl rfl) e
 | met f y=>
  have e:h.get? a=some (PySem.W.methodObj (.ref f) (.ref y)):=x
  show h'.get? a=some (PySem.W.methodObj (.ref f) (.ref y))
  exact k a _ (.inl rfl) e
 | ext φ=>obtain⟨p,⟨o,e⟩,st⟩:=x;exact⟨st _ _ p λo q=>k _ _ (.inl rfl) q,⟨o,k _ _ (.inl rfl) e⟩,st⟩
theorem HOk.lt (x:HOk P w K H h) (e:H a=some o):a < h.objs.size:=(x a o e).lt
theorem HOk.fresh (x:HOk P w K H h) (e:h.objs.size<=a):H a=none:=by
 cases q:H a with
 | none=>rfl
 | some u=>exact absurd (Nat.lt_of_lt_of_le (x.lt q) e) (Nat.lt_irrefl _)
theorem HOk.kept (x:HOk P w K H h) (k:∀ b u,h.get? b=some u->h'.get? b=some u):HOk P w K H h':=λa o e=>
 (x a o e).stay (λb u _ q=>k b u q) (λ_ q=>q) λ_ _ q=>q
theorem HOk.laid (x:HOk P w K H h) (k:∀ b u,h.get? b=some u->h'.get? b=some u) (hp:h.objs.size<=a) (new:ObjOk P w K (upd H a o) h' a o):HOk P w K (upd H a o) h':=λb u e=>by
 have hn:=x.fresh hp
 by_cases hb:b=a
 ·subst hb;rw[bK] at e;cases e;exact new
 ·rw[aP hb] at e
  exact(x b u e).stay (λc v _ q=>k c v q) (λc q=>by rw[aP (bf q hn)];exact q) λc xs q=>by rw[aP (bf q hn)];exact q
end
def Rd (H:Hp) (a:Addr) (u:HO):Prop:=H a=some u\/∃ o,H a=some (.frz o u)
theorem Rd.ok {P:Program}{w:World}{K:PySem.W.Frag}{H:Hp}{h:Heap}{a:Addr}{u:HO}(r:Rd H a u) (x:HOk P w K H h):ObjOk P w K H h a u:=by
 rcases r with r | ⟨o,r⟩
 ·exact x a u r
 ·obtain⟨_,q⟩:=x a _ r
  exact q
def Mut:Option HO->Prop
 | some (.lst _)=>True
 | some (.dK _)=>True
 | some (.dT _)=>True
 | some (.set _ _)=>True
 | some (.ins _ _ _)=>True
 | some (.ext _)=>True
 | _=>False
section
variable {P:Program}{w:World}{K:PySem.W.Frag}{H:Hp}{h h':Heap}{x e:Addr}{o':HO}
theorem HOk.write (ok:HOk P w K H h) (mu:Mut (H x)) (he:e=x\/H e=some (.own x)) (k:∀ b u,b≠e->h.get? b=some u->h'.get? b=some u) (heo:∃ u,h'.get? e=some u)
  (new:ObjOk P w K (upd H x o') h' x o'):HOk P w K (upd H x o') h':=λb u q=>by
 have nown:∀ c y,H c=some (.own y)->c≠x:=λc y r z=>by subst z;rw[r] at mu;exact mu
 have ntup:∀ c xs,H c=some (.tup xs)->c≠x:=λc xs r z=>by subst z;rw[r] at mu;exact mu
 by_cases hb:b=x
 ·subst hb;rw[bK] at q;cases q;exact new
 ·rw[aP hb] at q
  by_cases hbe:b=e
  ·have q':H b=some (.own x):=by
    rcases he with z | z
    ·exact absurd (hbe.trans z) hb
    ·rw[hbe];exact z
   rw[q] at q';cases q'
   obtain⟨v,hv⟩:=heo
   exact⟨v,by rw[hbe];exact hv⟩
  ·refine(ok b u q).stay (λc v hc r=>k c v ?_ r) (λc r=>by rw[aP (nown c b r)];exact r) λc xs r=>by rw[aP (ntup c xs r)];exact r
   rcases hc with rfl | hc
   ·exact hbe
   ·rintro rfl
    rcases he with z | z
    ·exact nown c b hc z
    ·rw[hc] at z;cases z;exact hb rfl
end
structure Un (fs ex:List Addr) (H H':Hp) (h h':Heap):Prop where
 keep:∀ b o,h.get? b=some o->H b=none->b∉fs->b∉ex->h'.get? b=some o
 slot:∀ b o,h.get? b=some o->H b=none->b∈fs->b∉ex->∃ sl,h'.get? b=some { o with slots:=sl }
 free:∀ b o,h.get? b=some o->H b=none->b∉ex->H' b=none
 there:∀ b o,h.get? b=some o->b∉ex->∃ o',h'.get? b=some o'
 tups:∀ b xs,H b=some (.tup xs)->H' b=some (.tup xs)
 frzs:∀ b o u,H b=some (.frz o u)->H' b=some (.frz o u)
 tbls:∀ b ps,H b=some (.tbl ps)->∃ more,H' b=some (.tbl (ps++more))
section
variable {fs fs' ex ex':List Addr}{H H1 H2:Hp}{h h1 h2 h':Heap}{a x e:Addr}{o:HO}
theorem Un.any (u:Un fs ex H H1 h h1){b:Addr}{ob:Obj}(q:h.get? b=some ob) (n:H b=none) (hx:b∉ex):∃ sl,h1.get? b=some { ob with slots:=sl }:=by
 by_cases hb:b∈fs
 ·exact u.slot b ob q n hb hx
 ·exact⟨ob.slots,u.keep b ob q n hb hx⟩
theorem Un.kept (k:∀ b u,h.get? b=some u->h'.get? b=some u):Un fs ex H H h h':=
 ⟨λb ob q _ _ _=>k b ob q,λb ob q _ _ _=>⟨ob.slots,k b ob q⟩,λ_ _ _ n _=>n,λb ob q _=>⟨ob,k b ob q⟩,λ_ _ q=>q,λ_ _ _ q=>q,λ_ ps q=>⟨#[],by rw[q];simp⟩⟩
theorem Un.refl:Un fs ex H H h h:=Un.kept λ_ _ q=>q
theorem Un.laid (k:∀ b u,h.get? b=some u->h'.get? b=some u) (hp:h.objs.size<=a) (hn:H a=none):Un fs ex H (upd H a o) h h' where
 keep:=λb u q _ _ _=>k b u q
 slot:=λb u q _ _ _=>⟨u.slots,k b u q⟩
 free:=λb u q n _=>by rw[aP (Nat.ne_of_lt (Nat.lt_of_lt_of_le (Heap.lt_size q) hp))];exact n
 there:=λb u q _=>⟨u,k b u q⟩
 tups:=λb xs q=>by rw[aP (bf q hn)];exact q
 frzs:=λb u xs q=>by rw[aP (bf q hn)];exact q
 tbls:=λb ps q=>⟨#[],by rw[aP (bf q hn),q];simp⟩
theorem Un.write (mu:Mut (H x)) (he:e=x\/H e=some (.own x)) (k:∀ b u,b≠e->h.get? b=some u->h'.get? b=some u) (heo:∃ u,h'.get? e=some u):Un fs ex H (upd H x o) h h':=by
 have hx:∀ b,H b=none->b≠x:=λb n z=>by subst z;rw[n] at mu;exact mu
 have hb:∀ b,H b=none->b≠e:=λb n z=>by
  subst z
  rcases he with r | r
  ·exact hx b n r
  ·rw[n] at r;cases r
 have hm:∀ b u,H b=some u->¬ Mut (some u)->b≠x:=λb u q nm z=>by subst z;rw[q] at mu;exact nm mu
 refine⟨λb u q n _ _=>k b u (hb b n) q,λb u q n _ _=>⟨u.slots,k b u (hb b n) q⟩,λb u q n _=>by rw[aP (hx b n)];exact n,λb u q _=>?_,
  λb xs q=>by rw[aP (hm b _ q λz=>z)];exact q,λb u xs q=>by rw[aP (hm b _ q λz=>z)];exact q,λb ps q=>⟨#[],by rw[aP (hm b _ q λz=>z),q];simp⟩⟩
 by_cases hbe:b=e
 ·subst hbe;exact heo
 ·exact⟨u,k b u hbe q⟩
end
def trk (h:Heap) (H:Hp):List Addr:=(List.range h.objs.size).filter λa=>(H a).isSome
def pB (h:Heap) (H:Hp):Heap:=PySem.W.hideAll h (trk h H)
theorem B_ (h:Heap) (H:Hp):(pB h H).objs.size=h.objs.size:=PySem.W.hideAll_size _ _
theorem Ej {h:Heap}{H:Hp}{b:Addr}{o:Obj}(e:h.get? b=some o) (n:H b=none):(pB h H).get? b=some o:=
 PySem.W.hideAll_get _ e λhm=>by
  have q:(H b).isSome=true:=(List.mem_filter.mp hm).2
  rw[n] at q;simp at q
theorem Hj {h:Heap}{H:Hp}{b:Addr}{o:Obj}(e:(pB h H).get? b=some o):h.get? b=some o/\H b=none:=by
 have e':h.get? b=some o:=PySem.W.of_hideAll (trk h H) e
 refine⟨e',?_⟩
 cases q:H b with
 | none=>rfl
 | some x=>
  have hm:b∈trk h H:=List.mem_filter.mpr ⟨List.mem_range.mpr (Heap.lt_size e'),by simp[q]⟩
  have z:(pB h H).get? b=none:=PySem.W.hideAll_none (trk h H) hm
  rw[z] at e;cases e
def Hk (g h:Heap) (L:Addr):List (Addr×Obj):=(List.range h.objs.size).filterMap λa=>if a=L\/(g.get? a).isSome=true then none else (h.get? a).map λo=>(a,o)
def rest (g h:Heap) (L d:Addr):List (Addr×Obj):=(Hk g h L).filter λp=>decide (p.1≠d)
end L2
namespace L2
open PySem PySem.Spec PyProof.Rows
structure Mod (K:PySem.W.Frag) (mg:Str->Option Value) (base:Heap):Prop where
 kin:K.In base
 glob:base.Ns mainGlobals mg
 blt:∃ mb,base.Ns builtinsNs mb/\∀ x:Str,x ≠ "__name__" -> mb x=bootBuiltins x
 nolimit:base.NoLimit
structure Cx where
 prog:Program
 w:World
 K:PySem.W.Frag
 mg:Str->Option Value
 base:Heap
 A:Around
 N:List Str
 s₀:Shared
 H₀:Hp
 env:Env
 outer:List Env
 stack:List Env
 ex:List Addr
 fn:Str->Bool
 calm:Bool
 pn:List (Addr×Obj)
 xe:Value->Shared->Prop
def frs (l:List Env):List Addr:=l.filterMap (·.frame)
abbrev Cx.fs (X:Cx):List Addr:=frs X.outer
def Vis (sc:Scope) (x:Str):Prop:=sc.names.lookup x=some .local\/sc.names.lookup x=some .cell\/sc.names.lookup x=some .free
def Loc (sc:Scope) (x:Str):Prop:=sc.names.lookup x=some .local\/sc.names.lookup x=some .cell
def Look (env:Env) (h:Heap) (m:Str->Option Value) (x:Str) (u:Value):Prop:=
 (env.kindOf x=some .local/\m x=some u)\/((env.kindOf x=some .cell\/env.kindOf x=some .free)/\∃ c,env.cells.lookup x=some c/\h.IsCell c (some u))
structure Cx.Ok (X:Cx):Prop where
 mod:Mod X.K X.mg X.base
 kind:X.env.scope.kind=.function
 glob:X.env.globals=mainGlobals
 blt:X.env.builtins=builtinsNs
 above:X.s₀.heap.objs.size<=X.env.locals
 inj:∀ x y c,X.env.cells.lookup x=some c->X.env.cells.lookup y=some c->x=y
 has:∀ x,(X.env.kindOf x=some .cell\/X.env.kindOf x=some .free)->∃ c,X.env.cells.lookup x=some c
 cab:∀ x c,X.fn x=true->X.env.cells.lookup x=some c->X.s₀.heap.objs.size<=c
 hd:X.calm=true->X.A.handled=none
 frames:X.A.frames=some X.stack
 stk:X.stack=X.outer\/(X.stack=X.env::X.outer/\X.env.frame=some X.env.locals)
 exf:∀ b∈X.ex,b≠X.env.locals/\∀ x c,X.env.cells.lookup x=some c->c≠b
 bs:∀ b o,X.base.get? b=some o->X.s₀.heap.get? b=some o/\X.H₀ b=none
 bsz:X.base.objs.size<=X.s₀.heap.objs.size
 noex:∀ b o,X.base.get? b=some o->b∉X.ex
 exfs:∀ b∈X.ex,b∉X.fs
 funs:X.s₀.heap.FunFrames X.base X.outer
 frf:∀ b∈X.fs,X.H₀ b=none
structure Inv (X:Cx) (pins:List (Addr×Obj)) (σ:List (Option V)) (H:Hp) (s:Shared):Prop where
 ok:X.Ok
 os:s.os=X.s₀.os
 bare:AllBare s.gens
 base:Un X.fs X.ex X.H₀ H X.s₀.heap s.heap
 loc:∃ m,s.heap.Ns X.env.locals m/\∀ (i:Nat) (x:Str) (v:V),X.N[i]?=some x->σ[i]?=some (some v)->Vis X.env.scope x->∃ u,RelV v u/\Look X.env s.heap m x u
 cell:∀ x c,X.env.cells.lookup x=some c->∃ v,s.heap.IsCell c v
 free:H X.env.locals=none
 freeC:∀ x c,X.env.cells.lookup x=some c->H c=none
 pin:∀ p∈X.pn++pins,s.heap.get? p.1=some p.2/\H p.1=none/\p.1≠X.env.locals/\p.1∉X.fs/\∀ v,p.2.data≠.cell v
 hok:HOk X.prog X.w X.K H s.heap
 len:σ.length=X.N.length
section
variable {X:Cx}{pins:List (Addr×Obj)}{σ:List (Option V)}{H H':Hp}{s:Shared}{h':Heap}
theorem Cx.Ok.nofr (ok:X.Ok){b:Addr}{o:Obj}(e:X.base.get? b=some o):b∉X.fs:=λhb=>by
 have:=(ok.funs.mem hb).1
 rw[e] at this;cases this
theorem Inv.bs (I:Inv X pins σ H s):∀ b o,X.base.get? b=some o->s.heap.get? b=some o/\H b=none:=λb o e=>
 ⟨I.base.keep b o (I.ok.bs b o e).1 (I.ok.bs b o e).2 (I.ok.nofr e) (I.ok.noex b o e),I.base.free b o (I.ok.bs b o e).1 (I.ok.bs b o e).2 (I.ok.noex b o e)⟩
theorem Inv.bk (I:Inv X pins σ H s):∀ b o,X.base.get? b=some o->s.heap.get? b=some o:=λb o e=>(I.bs b o e).1
theorem Inv.mod (I:Inv X pins σ H s):Mod X.K X.mg X.base:=I.ok.mod
theorem Inv.kIn (I:Inv X pins σ H s):X.K.In s.heap:=I.ok.mod.kin.keeps I.bk
theorem Inv.lt (I:Inv X pins σ H s):X.env.locals < s.heap.objs.size:=let ⟨_,hn,_⟩:=I.loc;hn.lt
theorem Inv.sz (I:Inv X pins σ H s):X.s₀.heap.objs.size<=s.heap.objs.size:=Nat.le_trans I.ok.above (Nat.le_of_lt I.lt)
theorem Inv.nofs (I:Inv X pins σ H s){a:Addr}(h:s.heap.objs.size<=a):a∉X.fs:=λhb=>by
 obtain⟨_,o,ho,_⟩:=I.ok.funs.mem hb
 exact absurd (Nat.lt_of_lt_of_le (Heap.lt_size ho) (Nat.le_trans I.sz h)) (Nat.lt_irrefl _)
theorem Inv.cne (I:Inv X pins σ H s):∀ x c,X.env.cells.lookup x=some c->c≠X.env.locals:=λx c e z=>by
 obtain⟨v,o,ho,hd⟩:=I.cell x c e
 obtain⟨m,⟨o',es,ep,ho',hd',_⟩,_⟩:=I.loc
 rw[z,ho'] at ho;cases ho;rw[hd'] at hd;cases hd
theorem Inv.funs (I:Inv X pins σ H s):s.heap.FunFrames X.base X.outer:=by
 have all:∀ (l:List Env),(∀ b∈frs l,b∈X.fs)->X.s₀.heap.FunFrames X.base l->s.heap.FunFrames X.base l:=by
  intro l
  induction l with
  | nil=>intro _ _;trivial
  | cons env r ih=>
   intro hs hl
   obtain⟨hk,⟨L,o,hf,hn,ho,hd⟩,hr⟩:=hl
   have hL:L∈X.fs:=hs L (by unfold frs;rw[List.filterMap_cons,hf];exact List.mem_cons_self)
   obtain⟨sl,e⟩:=I.base.slot L o ho (I.ok.frf L hL) hL λz=>I.ok.exfs L z hL
   exact⟨hk,⟨L,_,hf,hn,e,hd⟩,ih (λb hb=>hs b (by unfold frs;rw[List.filterMap_cons,hf];exact List.mem_cons_of_mem _ hb)) hr⟩
 exact all X.outer (λ_ hb=>hb) I.ok.funs
theorem Inv.stack (I:Inv X pins σ H s):s.heap.FunFrames X.base X.stack:=by
 rcases I.ok.stk with e | ⟨e,hf⟩
 ·rw[e];exact I.funs
 ·rw[e]
  obtain⟨m,hn,_⟩:=I.loc
  refine .cons (by rw[I.ok.kind];decide) hf hn ?_ I.funs
  exact Heap.get?_none_of_le (Nat.le_trans I.ok.bsz I.ok.above)
theorem Inv.stkSub (I:Inv X pins σ H s):∀ b∈frs X.stack,b∈X.env.locals::X.fs:=λb hb=>by
 rcases I.ok.stk with e | ⟨e,hf⟩
 ·rw[e] at hb;exact List.mem_cons_of_mem _ hb
 ·rw[e] at hb
  unfold frs at hb
  rw[List.filterMap_cons,hf] at hb
  exact hb
theorem Inv.stkFree (I:Inv X pins σ H s):∀ b∈frs X.stack,H b=none:=λb hb=>by
 rcases List.mem_cons.mp (I.stkSub b hb) with e | hb
 ·rw[e];exact I.free
 ·obtain⟨_,o,ho,_⟩:=I.ok.funs.mem hb
  exact I.base.free b o ho (I.ok.frf b hb) λz=>I.ok.exfs b z hb
theorem Inv.step {g':Array GenState}{t':Nat}{d':Drawn}{ch:List Addr}(I:Inv X pins σ H s)
  (hch:∀ b∈ch,(b∈X.ex\/X.s₀.heap.objs.size<=b)/\b≠X.env.locals/\(∀ x c,X.env.cells.lookup x=some c->c≠b)/\∀ p∈X.pn++pins,p.1≠b)
  (keep:∀ b o,b≠X.env.locals->b∉X.fs->b∉ch->s.heap.get? b=some o->H b=none->h'.get? b=some o)
  (slot:∀ b o,b≠X.env.locals->b∈X.fs->b∉ch->s.heap.get? b=some o->H b=none->∃ sl,h'.get? b=some { o with slots:=sl }) (free:∀ b o,b∉ch->s.heap.get? b=some o->H b=none->H' b=none)
  (there:∀ b o,b∉ch->s.heap.get? b=some o->∃ o',h'.get? b=some o')
  (tups:∀ b xs,H b=some (.tup xs)->H' b=some (.tup xs)) (frzs:∀ b o u,H b=some (.frz o u)->H' b=some (.frz o u)) (tbls:∀ b ps,H b=some (.tbl ps)->∃ more,H' b=some (.tbl (ps++more)))
  (ns:∀ m,s.heap.Ns X.env.locals m->h'.Ns X.env.locals m) (hok:HOk X.prog X.w X.K H' h') (hg:AllBare g'):
  Inv X pins σ H' { s with heap:=h',gens:=g',drawn:=d',toks:=t' }:=by
 have neL:∀ b o,X.s₀.heap.get? b=some o->b≠X.env.locals:=λb o e=>Nat.ne_of_lt (Nat.lt_of_lt_of_le (Heap.lt_size e) I.ok.above)
 have neC:∀ b o,X.s₀.heap.get? b=some o->b∉X.ex->b∉ch:=λb o e hx hb=>by
  rcases(hch b hb).1 with z | z
  ·exact hx z
  ·exact absurd (Nat.lt_of_lt_of_le (Heap.lt_size e) z) (Nat.lt_irrefl _)
 have cellK:∀ x c,X.env.cells.lookup x=some c->∀ v,s.heap.IsCell c v->h'.IsCell c v:=by
  rintro x c e v ⟨o,ho,hd⟩
  have nch:c∉ch:=λz=>(hch c z).2.2.1 x c e rfl
  by_cases hc:c∈X.fs
  ·obtain⟨sl,q⟩:=slot c o (I.cne x c e) hc nch ho (I.freeC x c e)
   exact⟨_,q,hd⟩
  ·exact⟨o,keep c o (I.cne x c e) hc nch ho (I.freeC x c e),hd⟩
 refine⟨I.ok,I.os,hg,⟨λb o e n hb hx=>?_,λb o e n hb hx=>?_,λb o e n hx=>?_,λb o e hx=>?_,λb xs e=>tups b xs (I.base.tups b xs e),λb o xs e=>frzs b o xs (I.base.frzs b o xs e),λb ps e=>?_⟩,?_,λx c e=>?_,?_,λx c e=>?_,λp hp=>?_,hok,I.len⟩
 ·exact keep b o (neL b o e) hb (neC b o e hx) (I.base.keep b o e n hb hx) (I.base.free b o e n hx)
 ·obtain⟨sl,e1⟩:=I.base.slot b o e n hb hx
  obtain⟨sl',e2⟩:=slot b _ (neL b o e) hb (neC b o e hx) e1 (I.base.free b o e n hx)
  exact⟨sl',e2⟩
 ·obtain⟨o',e1⟩:=I.base.there b o e hx
  exact free b o' (neC b o e hx) e1 (I.base.free b o e n hx)
 ·obtain⟨o',e1⟩:=I.base.there b o e hx
  exact there b o' (neC b o e hx) e1
 ·obtain⟨m1,e1⟩:=I.base.tbls b ps e
  obtain⟨m2,e2⟩:=tbls b _ e1
  exact⟨m1++m2,by rw[e2,Array.append_assoc]⟩
 ·obtain⟨m,hn,hl⟩:=I.loc
  refine⟨m,ns m hn,λi x v e1 e2 e3=>?_⟩
  obtain⟨u,r,l⟩:=hl i x v e1 e2 e3
  refine⟨u,r,?_⟩
  rcases l with l | ⟨k,c,e,z⟩
  ·exact .inl l
  ·exact .inr ⟨k,c,e,cellK x c e _ z⟩
 ·obtain⟨v,z⟩:=I.cell x c e
  exact⟨v,cellK x c e v z⟩
 ·obtain⟨m,⟨o,_,_,ho,_⟩,_⟩:=I.loc
  exact free _ o (λz=>(hch _ z).2.1 rfl) ho I.free
 ·obtain⟨v,o,ho,hd⟩:=I.cell x c e
  exact free c o (λz=>(hch c z).2.2.1 x c e rfl) ho (I.freeC x c e)
 ·obtain⟨e,n,ne,nf,d⟩:=I.pin p hp
  have nch:p.1∉ch:=λz=>(hch p.1 z).2.2.2 p hp rfl
  exact⟨keep p.1 p.2 ne nf nch e n,free p.1 p.2 nch e n,ne,nf,d⟩
theorem Inv.un {t':Nat}(I:Inv X pins σ H s) (u:Un X.fs [] H H' s.heap h') (hok:HOk X.prog X.w X.K H' h'):Inv X pins σ H' { s with heap:=h',toks:=t' }:=by
 obtain⟨m,⟨o,es,ep,ho,r⟩,_⟩:=id I.loc
 obtain⟨sl,hL⟩:=u.any ho I.free (by simp)
 exact I.step (g':=s.gens) (d':=s.drawn) (ch:=[]) (λ_ z=>nomatch z) (λb o _ hb _ e n=>u.keep b o e n hb (by simp)) (λb o _ hb _ e n=>u.slot b o e n hb (by simp)) (λb o _ e n=>u.free b o e n (by simp)) (λb o _ e=>u.there b o e (by simp)) u.tups u.frzs u.tbls (λm' hm=>by
  obtain⟨o',es',ep',ho',r'⟩:=hm
  rw[ho] at ho';cases ho'
  exact⟨_,es',ep',hL,r'⟩) hok I.bare
theorem Inv.call {g':Array GenState}{t':Nat}{d':Drawn}{ch:List Addr}(I:Inv X pins σ H s) (u:Un (frs X.stack) ch H H' s.heap h') (hok:HOk X.prog X.w X.K H' h') (hg:AllBare g')
  (hch:∀ b∈ch,(b∈X.ex\/X.s₀.heap.objs.size<=b)/\b≠X.env.locals/\(∀ x c,X.env.cells.lookup x=some c->c≠b)/\∀ p∈X.pn++pins,p.1≠b):
  Inv X pins σ H' { s with heap:=h',gens:=g',drawn:=d',toks:=t' }:=by
 obtain⟨m,⟨o,es,ep,ho,r⟩,_⟩:=id I.loc
 obtain⟨sl,hL⟩:=u.any ho I.free λz=>(hch _ z).2.1 rfl
 exact I.step (ch:=ch) hch (λb o hL hb hc e n=>u.keep b o e n (λz=>(List.mem_cons.mp (I.stkSub b z)).elim hL hb) hc) (λb o _ _ hc e n=>u.any e n hc) (λb o hc e n=>u.free b o e n hc) (λb o hc e=>u.there b o e hc) u.tups u.frzs u.tbls (λm' hm=>by
  obtain⟨o',es',ep',ho',r'⟩:=hm
  rw[ho] at ho';cases ho'
  exact⟨_,es',ep',hL,r'⟩) hok hg
theorem Inv.turned {t':Nat}{it:Addr}(I:Inv X pins σ H s) (k:∀ b o,b≠it->s.heap.get? b=some o->h'.get? b=some o) (hn:H it=none) (hL:it≠X.env.locals)
  (h1:it∈X.ex\/X.s₀.heap.objs.size<=it) (h2:∀ x c,X.env.cells.lookup x=some c->c≠it) (h3:∀ p∈X.pn++pins,p.1≠it):Inv X pins σ H { s with heap:=h',toks:=t' }:=by
 have nit:∀ b u,H b=some u->b≠it:=λb u e z=>by rw[z,hn] at e;cases e
 refine I.step (g':=s.gens) (d':=s.drawn) (ch:=[it]) (λb hb=>?_) (λb o _ _ hc e _=>k b o (λz=>hc (by simp[z])) e) (λb o _ _ hc e _=>⟨o.slots,k b o (λz=>hc (by simp[z])) e⟩) (λ_ _ _ _ n=>n)
  (λb o hc e=>⟨o,k b o (λz=>hc (by simp[z])) e⟩) (λ_ _ e=>e) (λ_ _ _ e=>e) (λb ps e=>⟨#[],by rw[e];simp⟩) (λm hm=>?_) (λb u e=>?_) I.bare
 ·have e:b=it:=by simpa using hb
  subst e
  exact⟨h1,hL,h2,h3⟩
 ·obtain⟨o,es,ep,ho,r⟩:=hm
  exact⟨o,es,ep,k _ o (Ne.symm hL) ho,r⟩
 ·refine(I.hok b u e).stay (λc v hc q=>k c v ?_ q) (λ_ q=>q) λ_ _ q=>q
  rcases hc with z | z
  ·rw[z];exact nit b u e
  ·exact nit c _ z
theorem Inv.tok (I:Inv X pins σ H s) (t:Nat):Inv X pins σ H { s with toks:=t }:=I.un (h':=s.heap) (t':=t) Un.refl I.hok
theorem Inv.kept {t':Nat}(I:Inv X pins σ H s) (k:∀ b u,s.heap.get? b=some u->h'.get? b=some u):Inv X pins σ H { s with heap:=h',toks:=t' }:=I.un (Un.kept k) (I.hok.kept k)
theorem Inv.laid {a:Addr}{o:HO}{t':Nat}(I:Inv X pins σ H s) (k:∀ b u,s.heap.get? b=some u->h'.get? b=some u) (hp:s.heap.objs.size<=a) (new:ObjOk X.prog X.w X.K (upd H a o) h' a o):
  Inv X pins σ (upd H a o) { s with heap:=h',toks:=t' }:=I.un (Un.laid k hp (I.hok.fresh hp)) (I.hok.laid k hp new)
theorem Inv.write {x e:Addr}{o:HO}{t':Nat}(I:Inv X pins σ H s) (mu:Mut (H x)) (he:e=x\/H e=some (.own x)) (k:∀ b u,b≠e->s.heap.get? b=some u->h'.get? b=some u) (heo:∃ u,h'.get? e=some u)
  (new:ObjOk X.prog X.w X.K (upd H x o) h' x o):Inv X pins σ (upd H x o) { s with heap:=h',toks:=t' }:=I.un (Un.write mu he k heo) (I.hok.write mu he k heo new)
theorem Inv.weak {σ':List (Option V)}(I:Inv X pins σ H s) (hl:σ'.length=σ.length) (w:∀ (i:Nat) v,σ'[i]?=some (some v)->σ[i]?=some (some v)):Inv X pins σ' H s:=
 ⟨I.ok,I.os,I.bare,I.base,let ⟨m,hn,hl'⟩:=I.loc;⟨m,hn,λi x v e1 e2 e3=>hl' i x v e1 (w i v e2) e3⟩,I.cell,I.free,I.freeC,I.pin,I.hok,hl.trans I.len⟩
theorem Inv.pins_of {pins':List (Addr×Obj)}(I:Inv X pins σ H s) (h:∀ p∈pins',s.heap.get? p.1=some p.2/\H p.1=none/\p.1≠X.env.locals/\p.1∉X.fs/\∀ v,p.2.data≠.cell v):Inv X pins' σ H s:=
 ⟨I.ok,I.os,I.bare,I.base,I.loc,I.cell,I.free,I.freeC,λp hp=>(List.mem_append.mp hp).elim (λz=>I.pin p (List.mem_append_left _ z)) (h p),I.hok,I.len⟩
theorem xq {N:List Str}(hN:N.Nodup){i j:Nat}{x:Str}(a:N[i]?=some x) (b:N[j]?=some x):i=j:=by
 obtain⟨h1,e1⟩:=List.getElem?_eq_some_iff.mp a
 obtain⟨h2,e2⟩:=List.getElem?_eq_some_iff.mp b
 exact(List.getElem_inj hN).mp (e1.trans e2.symm)
theorem vp {M:Model}{A:Around}{E:Value->Shared->Prop}{i:Nat}{x:Str}{v:V}{u:Value}{Q:Unit->Shared->Prop}(I:Inv X pins σ H s) (hN:X.N.Nodup) (hi:X.N[i]?=some x) (hx:Loc X.env.scope x) (r:RelV v u)
  (h:∀ s',Inv X pins (σ.set i (some v)) H s'->(∃ a,Heap.SameBut a s.heap s'.heap/\(a=X.env.locals\/X.env.cells.lookup x=some a))->Q () s') (hf:X.fn x=true\/X.env.scope.names.lookup x=some .local:=by first | exact .inl rfl | exact .inr rfl | assumption):wpAny M A (storeName X.env x u) Q E s:=by
 obtain⟨m,hn,hl⟩:=id I.loc
 have hcls:(X.env.scope.kind == .class||(X.env.scope.kind == .module&&X.env.locals != X.env.globals))=false:=by rw[I.ok.kind];rfl
 have hiσ:i < σ.length:=by rw[I.len];exact(List.getElem?_eq_some_iff.mp hi).1
 have cne:=I.cne
 have tracked:∀ {a:Addr}{h':Heap},(∃ o,s.heap.get? a=some o/\H a=none)->Heap.SameBut a s.heap h'->HOk X.prog X.w X.K H h':=λ{a h'} ha hs b ob e=>by
  obtain⟨_,_,hfree⟩:=ha
  refine(I.hok b ob e).stay (λc w' hc q=>(hs.2 c ?_).trans q) (λ_ q=>q) λ_ _ q=>q
  rintro rfl
  rcases hc with rfl | hc
  ·rw[hfree] at e;cases e
  ·rw[hfree] at hc;cases hc
 rcases hx with hk | hk
 ·refine wpAny_storeName_local hk hn (λh' hn' hs=>?_) hcls
  obtain⟨oL,_,_,hoL,_⟩:=id hn
  refine h _ ⟨I.ok,I.os,I.bare,⟨λb o e n hb hx=>?_,λb o e n hb hx=>?_,I.base.free,λb o e hx=>?_,I.base.tups,I.base.frzs,I.base.tbls⟩,⟨_,hn',λj y v' e1 e2 e3=>?_⟩,λy c e=>?_,I.free,I.freeC,λp hp=>?_,tracked ⟨oL,hoL,I.free⟩ hs,by simpa using I.len⟩ ⟨_,hs,.inl rfl⟩
  ·exact(hs.2 b (Nat.ne_of_lt (Nat.lt_of_lt_of_le (Heap.lt_size e) I.ok.above))).trans (I.base.keep b o e n hb hx)
  ·obtain⟨sl,e1⟩:=I.base.slot b o e n hb hx
   exact⟨sl,(hs.2 b (Nat.ne_of_lt (Nat.lt_of_lt_of_le (Heap.lt_size e) I.ok.above))).trans e1⟩
  ·obtain⟨o',e1⟩:=I.base.there b o e hx
   exact⟨o',(hs.2 b (Nat.ne_of_lt (Nat.lt_of_lt_of_le (Heap.lt_size e) I.ok.above))).trans e1⟩
  ·by_cases hj:j=i
   ·subst hj
    rw[hi] at e1;cases e1
    rw[List.getElem?_set_self hiσ] at e2
    cases e2
    exact⟨u,r,.inl ⟨hk,by simp⟩⟩
   ·rw[List.getElem?_set_ne (Ne.symm hj)] at e2
    obtain⟨u',r',q⟩:=hl j y v' e1 e2 e3
    refine⟨u',r',?_⟩
    rcases q with ⟨k,e⟩ | ⟨k,c,e,z⟩
    ·refine .inl ⟨k,?_⟩
     have:y≠x:=λe=>hj (xq hN e1 (e▸hi))
     simp[this,e]
    ·exact .inr ⟨k,c,e,z.sameBut hs (cne y c e)⟩
  ·obtain⟨w',z⟩:=I.cell y c e
   exact⟨w',z.sameBut hs (cne y c e)⟩
  ·obtain⟨e,n,ne,nf,d⟩:=I.pin p hp
   exact⟨(hs.2 p.1 ne).trans e,n,ne,nf,d⟩
 ·have hfn:X.fn x=true:=by
   rcases hf with z | z
   ·exact z
   ·rw[z] at hk;cases hk
  obtain⟨c,hc⟩:=I.ok.has x (.inl hk)
  obtain⟨w',z⟩:=I.cell x c hc
  refine wpAny_storeName_cell I.ok.kind hk hc z (λh' hc' hs=>?_)
  obtain⟨oc,hoc,hocd⟩:=id z
  refine h { s with heap:=h' } ⟨I.ok,I.os,I.bare,⟨λb o e n hb hx=>?_,λb o e n hb hx=>?_,I.base.free,λb o e hx=>?_,I.base.tups,I.base.frzs,I.base.tbls⟩,⟨m,hn.sameBut hs (Ne.symm (cne x c hc)),λj y v' e1 e2 e3=>?_⟩,λy c' e=>?_,I.free,I.freeC,λp hp=>?_,tracked ⟨oc,hoc,I.freeC x c hc⟩ hs,by simpa using I.len⟩ ⟨c,hs,.inr hc⟩
  ·exact(hs.2 b (Nat.ne_of_lt (Nat.lt_of_lt_of_le (Heap.lt_size e) (I.ok.cab x c hfn hc)))).trans (I.base.keep b o e n hb hx)
  ·obtain⟨sl,e1⟩:=I.base.slot b o e n hb hx
   exact⟨sl,(hs.2 b (Nat.ne_of_lt (Nat.lt_of_lt_of_le (Heap.lt_size e) (I.ok.cab x c hfn hc)))).trans e1⟩
  ·obtain⟨o',e1⟩:=I.base.there b o e hx
   exact⟨o',(hs.2 b (Nat.ne_of_lt (Nat.lt_of_lt_of_le (Heap.lt_size e) (I.ok.cab x c hfn hc)))).trans e1⟩
  ·by_cases hj:j=i
   ·subst hj
    rw[hi] at e1;cases e1
    rw[List.getElem?_set_self hiσ] at e2
    cases e2
    exact⟨u,r,.inr ⟨.inl hk,c,hc,hc'⟩⟩
   ·rw[List.getElem?_set_ne (Ne.symm hj)] at e2
    obtain⟨u',r',q⟩:=hl j y v' e1 e2 e3
    refine⟨u',r',?_⟩
    rcases q with q | ⟨k,c',e,z'⟩
    ·exact .inl q
    ·refine .inr ⟨k,c',e,z'.sameBut hs ?_⟩
     rintro rfl
     exact hj (xq hN e1 (I.ok.inj _ _ _ e hc▸hi))
  ·by_cases hcc:c'=c
   ·subst hcc;exact⟨_,hc'⟩
   ·obtain⟨w2,z2⟩:=I.cell y c' e
    exact⟨w2,z2.sameBut hs hcc⟩
  ·obtain⟨e,n,ne,nf,d⟩:=I.pin p hp
   refine⟨(hs.2 p.1 ?_).trans e,n,ne,nf,d⟩
   intro q
   rw[q,hoc] at e
   have q':oc=p.2:=Option.some.inj e
   exact d w' (by rw[← q'];exact hocd)
theorem xr {M:Model}{A:Around}{E:Value->Shared->Prop}{i:Nat}{x:Str}{v:V}{u:Value}{Q:Unit->Shared->Prop}(I:Inv X pins σ H s) (hN:X.N.Nodup) (hi:X.N[i]?=some x) (hx:Loc X.env.scope x) (r:RelV v u)
  (h:∀ s',Inv X pins (σ.set i (some v)) H s'->Q () s') (hf:X.fn x=true\/X.env.scope.names.lookup x=some .local:=by first | exact .inl rfl | exact .inr rfl | assumption):wpAny M A (storeName X.env x u) Q E s:=
 vp I hN hi hx r (λs' I' _=>h s' I') hf
theorem Inv.call' {s':Shared}{ch:List Addr}(I:Inv X pins σ H s) (ho:s'.os=s.os) (u:Un (frs X.stack) ch H H' s.heap s'.heap) (hok:HOk X.prog X.w X.K H' s'.heap) (hg:AllBare s'.gens)
  (hch:∀ b∈ch,(b∈X.ex\/X.s₀.heap.objs.size<=b)/\b≠X.env.locals/\(∀ x c,X.env.cells.lookup x=some c->c≠b)/\∀ p∈X.pn++pins,p.1≠b):Inv X pins σ H' s':=by
 obtain⟨h',g',d',t',o'⟩:=s'
 have e:o'=s.os:=ho
 subst e
 exact I.call (g':=g') (t':=t') (d':=d') u hok hg hch
end
abbrev XK:=Value->Option Addr->Hp->Prop
abbrev St:=List (Option V)
abbrev VK:=V->Hp->Prop
abbrev TE:=St->Hp->VK->Prop
abbrev TT:=St->Hp->(Bool->Hp->Prop)->Prop
abbrev TA:=St->Hp->(List V->Hp->Prop)->Prop
structure Ends where
 nx:St->Hp->Prop
 rt:VK
 bk:St->Hp->Prop:=λ_ _=>False
 ct:St->Hp->Prop:=λ_ _=>False
abbrev TS:=Ends->St->Hp->Prop
def EP (X:Cx) (pins:List (Addr×Obj)) (σ:St) (Q:VK) (u:Value) (s':Shared):Prop:=∃ v H',Inv X pins σ H' s'/\RelV v u/\Q v H'
def TP (X:Cx) (pins:List (Addr×Obj)) (σ:St) (Q:Bool->Hp->Prop) (b:Bool) (s':Shared):Prop:=∃ H',Inv X pins σ H' s'/\Q b H'
def AP (X:Cx) (pins:List (Addr×Obj)) (σ:St) (Q:List V->Hp->Prop) (us:List Value) (s':Shared):Prop:=∃ vs H',Inv X pins σ H' s'/\Vals vs us/\Q vs H'
def SP (X:Cx) (pins:List (Addr×Obj)) (D:Ends) (f:Flow) (s':Shared):Prop:=
 match f with
 | .next=>∃ σ' H',Inv X pins σ' H' s'/\D.nx σ' H'
 | .brk=>∃ σ' H',Inv X pins σ' H' s'/\D.bk σ' H'
 | .cont=>∃ σ' H',Inv X pins σ' H' s'/\D.ct σ' H'
 | .ret u=>∃ v σ' H',Inv X pins σ' H' s'/\RelV v u/\D.rt v H'
def PE (X:Cx) (e:Expr) (t:TE):Prop:=
 ∀ (pins:List (Addr×Obj)) (s:Shared) (σ:St) (H:Hp) (Q:VK),Inv X pins σ H s->t σ H Q->wpAny (model X.prog X.w) X.A (eval e X.env) (EP X pins σ Q) X.xe s
def PT (X:Cx) (e:Expr) (t:TT):Prop:=
 ∀ (pins:List (Addr×Obj)) (s:Shared) (σ:St) (H:Hp) (Q:Bool->Hp->Prop),Inv X pins σ H s->t σ H Q->wpAny (model X.prog X.w) X.A (isTrue e X.env (eval e X.env)) (TP X pins σ Q) X.xe s
def PW (X:Cx) (e:Expr) (t:TT):Prop:=
 ∀ (whole:Sem Value) (pins:List (Addr×Obj)) (s:Shared) (σ:St) (H:Hp) (Q:Bool->Hp->Prop),Inv X pins σ H s->t σ H Q->wpAny (model X.prog X.w) X.A (isTrue e X.env whole) (TP X pins σ Q) X.xe s
def PA (X:Cx) (es:List Expr) (t:TA):Prop:=
 ∀ (pos:Pos) (pins:List (Addr×Obj)) (s:Shared) (σ:St) (H:Hp) (Q:List V->Hp->Prop),Inv X pins σ H s->t σ H Q->wpAny (model X.prog X.w) X.A (spliced (backTo pos (starEach es X.env))) (AP X pins σ Q) X.xe s
def PS (X:Cx) (st:Stmt) (t:TS):Prop:=
 ∀ (pins:List (Addr×Obj)) (s:Shared) (σ:St) (H:Hp) (D:Ends),Inv X pins σ H s->t D σ H->wpAny (model X.prog X.w) X.A (exec st X.env) (SP X pins D) X.xe s
def PSs (X:Cx) (st:List Stmt) (t:TS):Prop:=
 ∀ (pins:List (Addr×Obj)) (s:Shared) (σ:St) (H:Hp) (D:Ends),Inv X pins σ H s->t D σ H->wpAny (model X.prog X.w) X.A (execs st X.env) (SP X pins D) X.xe s
theorem thn {α:Type}{t:Sem α}{Q Q':α->Shared->Prop}{M:Model}{A:Around}{E:Value->Shared->Prop}{s:Shared}(h:wpAny M A t Q E s) (hQ:∀ a s,Q a s->Q' a s):wpAny M A t Q' E s:=wpAny_mono h hQ λ_ _ x=>x
end L2
namespace L2
open PySem PySem.Spec PyProof.Rows
section
variable {X:Cx}
def Jw (i:Nat):TE:=fun σ H Q=>∃ v,σ[i]?=some (some v)/\Q v H
def tC (v:V):TE:=λ_ H Q=>Q v H
theorem j_ {i:Nat}{x:Str}{pos:Pos}(hN:X.N[i]?=some x) (hv:Vis X.env.scope x) (hd:(x == ("__debug__" : Str))=false:=by decide) (hcd:(x == ("__classdict__" : Str))=false:=by decide):PE X (.Name x pos) (Jw i):=by
 intro pins s σ H Q I h
 obtain⟨v,e,h⟩:=h
 obtain⟨m,hn,hl⟩:=I.loc
 obtain⟨u,r,l⟩:=hl i x v hN e hv
 have fin:EP X pins σ Q u s:=⟨v,H,I,r,h⟩
 rcases l with ⟨hk,hm⟩ | ⟨hk,c,hc,hcell⟩
 ·exact wpAny_Name (wpAny_loadName_local I.ok.kind hk hn hm fin) hd
 ·rcases hk with hk | hk
  ·exact wpAny_Name (wpAny_loadName_cell I.ok.kind hk hc hcell fin) hd
  ·exact wpAny_Name (wpAny_loadName_free I.ok.kind hk hc hcell fin hcd) hd
theorem Jx {i j pos}:PE X (.Constant (.int i) j pos) (tC (.int i)):=λ_ _ _ H _ I h=>wpAny_Constant_int ⟨.int i,H,I.tok _,⟨_,rfl⟩,h⟩
theorem LR {b j pos}:PE X (.Constant (.bool b) j pos) (tC (.bl b)):=λ_ _ _ H _ I h=>Constant_bool ⟨.bl b,H,I,rfl,h⟩
theorem Jy {j pos}:PE X (.Constant .none j pos) (tC .non):=λ_ _ _ H _ I h=>Constant_none ⟨.non,H,I,rfl,h⟩
theorem Jz {x j pos}:PE X (.Constant (.str x) j pos) (tC (.str x)):=λ_ _ _ H _ I h=>Calls.Constant_str ⟨.str x,H,I.tok _,⟨_,rfl⟩,h⟩
def Gl (X:Cx) (x:Str):Prop:=X.env.kindOf x=some .globalImplicit
theorem uJ {E:Value->Shared->Prop}{pins:List (Addr×Obj)}{s:Shared}{σ:St}{H:Hp}{x:Str}{u:Value}{pos:Pos}{Q:Value->Shared->Prop}(I:Inv X pins σ H s) (hg:Gl X x) (hm:X.mg x=some u) (h:Q u s)
  (hd:(x == ("__debug__" : Str))=false:=by decide):wpAny (model X.prog X.w) X.A (eval (.Name x pos) X.env) Q E s:=
 Calls.Name_function_global I.ok.kind hg (Calls.loadGlobal_global (by rw[I.ok.glob];exact I.mod.glob.keeps I.bk) hm h) hd
theorem jM {E:Value->Shared->Prop}{pins:List (Addr×Obj)}{s:Shared}{σ:St}{H:Hp}{x:Str}{u:Value}{pos:Pos}{Q:Value->Shared->Prop}(I:Inv X pins σ H s) (hg:Gl X x) (hm:X.mg x=none) (hv:bootBuiltins x=some u) (h:Q u s)
  (hn:x ≠ "__name__" := by decide) (hd:(x == ("__debug__" : Str))=false:=by decide):wpAny (model X.prog X.w) X.A (eval (.Name x pos) X.env) Q E s:=by
 obtain⟨mb,h1,h2⟩:=I.mod.blt
 exact Calls.Name_function_global I.ok.kind hg (Calls.loadGlobal_builtin (by rw[I.ok.glob];exact I.mod.glob.keeps I.bk) hm (by rw[I.ok.blt];exact h1.keeps I.bk) ((h2 x hn).trans hv) h) hd
theorem uK {x:Str}{v:V}{u:Value}{pos:Pos}(hg:Gl X x) (hm:X.mg x=some u) (r:RelV v u) (hd:(x == ("__debug__" : Str))=false:=by decide):PE X (.Name x pos) (tC v):=
 λ_ _ _ H _ I h=>uJ I hg hm ⟨v,H,I,r,h⟩ hd
theorem Hl {x:Str}{v:V}{u:Value}{pos:Pos}(hg:Gl X x) (hm:X.mg x=none) (hv:bootBuiltins x=some u) (r:RelV v u) (hn:x ≠ "__name__" := by decide) (hd:(x == ("__debug__" : Str))=false:=by decide):PE X (.Name x pos) (tC v):=
 λ_ _ _ H _ I h=>jM I hg hm hv ⟨v,H,I,r,h⟩ hn hd
variable {a b:Expr}{ta tb:TE}{pos:Pos}
def tB (t:TE):TT:=fun σ H Q=>t σ H λx H1=>∃ c,x=.bl c/\Q c H1
theorem JB {e:Expr}{t:TE}(h:PE X e t) (he:∀ whole,isTrue e X.env whole=(do let v ← whole;standAt e.pos;holding [v] (truthy v)):=by intro _;rfl):PT X e (tB t):=by
 intro pins s σ H Q I hw
 refine isTrue_plain (thn (h pins s σ H _ I hw) ?_) (he _)
 rintro v s1 ⟨x,H1,I1,r1,q1⟩
 obtain⟨d,rfl,q⟩:=q1
 cases r1
 exact wpAny_truthy_bool ⟨H1,I1,q⟩
variable {tA tB':TT}{rest:List Expr}
def NK (t u:TT):TT:=fun σ H Q=>t σ H λc H1=>if c=true then u σ H1 Q else Q false H1
def tOr (t u:TT):TT:=fun σ H Q=>t σ H λc H1=>if c=true then Q true H1 else u σ H1 Q
def NP (t:TT):TT:=fun σ H Q=>t σ H λc H1=>Q (!c) H1
theorem Hm (ha:PT X a tA):PW X (.BoolOp .And [a] pos) tA:=by
 intro wh pins s σ H Q I h
 refine isTrue_and (thn (ha pins s σ H Q I h) λc s1 e=>?_)
 cases c with
 | true=>exact isTrue_and_nil e
 | false=>exact e
theorem JC (ha:PT X a tA):PW X (.BoolOp .Or [a] pos) tA:=by
 intro wh pins s σ H Q I h
 refine isTrue_or (thn (ha pins s σ H Q I h) λc s1 e=>?_)
 cases c with
 | false=>exact isTrue_or_nil e
 | true=>exact e
theorem JD (ha:PT X a tA) (hb:PW X (.BoolOp .And (b::rest) pos) tB'):PW X (.BoolOp .And (a::b::rest) pos) (NK tA tB'):=by
 intro wh pins s σ H Q I h
 refine isTrue_and (thn (ha pins s σ H _ I h) ?_)
 rintro c s1 ⟨H1,I1,q1⟩
 cases c with
 | true=>exact hb wh pins s1 σ H1 Q I1 q1
 | false=>exact⟨H1,I1,q1⟩
theorem L_ (ha:PT X a tA) (hb:PW X (.BoolOp .Or (b::rest) pos) tB'):PW X (.BoolOp .Or (a::b::rest) pos) (tOr tA tB'):=by
 intro wh pins s σ H Q I h
 refine isTrue_or (thn (ha pins s σ H _ I h) ?_)
 rintro c s1 ⟨H1,I1,q1⟩
 cases c with
 | true=>exact⟨H1,I1,q1⟩
 | false=>exact hb wh pins s1 σ H1 Q I1 q1
theorem JF (ha:PT X a tA):PT X (.UnaryOp .Not a pos) (NP tA):=by
 intro pins s σ H Q I h
 exact isTrue_not (ha pins s σ H (λc H1=>Q (!c) H1) I h)
def Ma (ta tb:TE):TE:=fun σ H Q=>ta σ H λx H1=>∃ c,x=.bl c/\if c=true then tb σ H1 Q else Q (.bl false) H1
def NQ (ta tb:TE):TE:=fun σ H Q=>ta σ H λx H1=>∃ c,x=.bl c/\if c=true then Q (.bl true) H1 else tb σ H1 Q
theorem JG {op}{t:TE}(h:PE X a t):PE X (.BoolOp op [a] pos) t:=λpins s σ H Q I hw=>BoolOp_one (h pins s σ H Q I hw)
theorem JH (ha:PE X a ta) (hb:PE X (.BoolOp .And (b::rest) pos) tb):PE X (.BoolOp .And (a::b::rest) pos) (Ma ta tb):=by
 intro pins s σ H Q I h
 refine BoolOp_and (thn (ha pins s σ H _ I h) ?_)
 rintro v s1 ⟨x,H1,I1,r1,q1⟩
 obtain⟨c,rfl,q1⟩:=q1
 cases r1
 refine wpAny_truthy_bool ?_
 cases c with
 | true=>exact hb pins s1 σ H1 Q I1 q1
 | false=>exact⟨.bl false,H1,I1,rfl,q1⟩
theorem Mf (ha:PE X a ta) (hb:PE X (.BoolOp .Or (b::rest) pos) tb):PE X (.BoolOp .Or (a::b::rest) pos) (NQ ta tb):=by
 intro pins s σ H Q I h
 refine BoolOp_or (thn (ha pins s σ H _ I h) ?_)
 rintro v s1 ⟨x,H1,I1,r1,q1⟩
 obtain⟨c,rfl,q1⟩:=q1
 cases r1
 refine wpAny_truthy_bool ?_
 cases c with
 | false=>exact hb pins s1 σ H1 Q I1 q1
 | true=>exact⟨.bl true,H1,I1,rfl,q1⟩
def tIf (t:TT) (ta tb:TE):TE:=fun σ H Q=>t σ H λc H1=>if c=true then ta σ H1 Q else tb σ H1 Q
theorem Ek {c:Expr}(hc:PT X c tA) (ha:PE X a ta) (hb:PE X b tb):PE X (.IfExp c a b pos) (tIf tA ta tb):=by
 intro pins s σ H Q I h
 refine wpAny_IfExp (thn (hc pins s σ H _ I h) ?_)
 rintro d s1 ⟨H1,I1,q1⟩
 cases d with
 | true=>exact ha pins s1 σ H1 Q I1 q1
 | false=>exact hb pins s1 σ H1 Q I1 q1
end
end L2
namespace L2
open PySem PySem.Spec PyProof.Rows
def SqL (K:PySem.W.Frag) (H:Hp) (a:Addr) (xs:List V):Prop:=
 Rd H a (.lst xs) \/
  ∃ (o:Obj) (its:Array Value) (n:Nat),K.lookup a=some o/\o.cls=.type "list" /\ o.dict=none/\o.data=.seq its n/\its.size<=sizeLine/\Vals xs its.toList
def SqT (K:PySem.W.Frag) (H:Hp) (a:Addr) (xs:List V):Prop:=
 Rd H a (.tup xs) \/
  ∃ (o:Obj) (its:Array Value) (n:Nat),K.lookup a=some o/\o.cls=.type "tuple" /\ o.data=.seq its n/\its.size<=sizeLine/\Vals xs its.toList
def xu:Value->Option V
 | .none=>some .non
 | .bool b=>some (.bl b)
 | .int i _=>some (.int i)
 | .str x _=>some (.str x)
 | .bytes b _=>some (.byt b)
 | .float b _=>some (.flt b)
 | .ref a=>some (.ref a)
 | .type n=>some (.ty n)
 | _=>none
theorem RelV.abs {x:V}{u:Value}(r:RelV x u):xu u=some x:=by
 cases x with
 | non=>cases r;rfl
 | bl _=>cases r;rfl
 | int _=>obtain⟨t,rfl⟩:=r;rfl
 | str _=>obtain⟨t,rfl⟩:=r;rfl
 | byt _=>obtain⟨t,rfl⟩:=r;rfl
 | flt _=>obtain⟨t,rfl⟩:=r;rfl
 | ref _=>cases r;rfl
 | ty _=>cases r;rfl
theorem RelV.inj {x y:V}{u:Value}(r:RelV x u) (q:RelV y u):x=y:=Option.some.inj (r.abs.symm.trans q.abs)
theorem Vals.inj:∀ {xs ys:List V}{us:List Value},Vals xs us->Vals ys us->xs=ys
 | _,_,_,.nil,.nil=>rfl
 | _,_,_,.cons r t,.cons r' t'=>by rw[r.inj r',Vals.inj t t']
section
variable {X:Cx}{pins:List (Addr×Obj)}{σ:St}{H:Hp}{s:Shared}{a:Addr}{xs ys:List V}
theorem SqL.of {K:PySem.W.Frag}(h:H a=some (.lst xs)):SqL K H a xs:=.inl (.inl h)
theorem SqT.of {K:PySem.W.Frag}(h:H a=some (.tup xs)):SqT K H a xs:=.inl (.inl h)
theorem Inv.list (I:Inv X pins σ H s) (h:SqL X.K H a xs):∃ its:List Value,Vals xs its/\PlainL s.heap a its.toArray/\xs.length<=sizeLine:=by
 rcases h with h | ⟨o,its,n,hk,hc,hd,hs,hz,r⟩
 ·obtain⟨z,its,n,r,e⟩:=h.ok I.hok
  exact⟨its,r,⟨_,n,e,rfl,rfl,rfl⟩,z⟩
 ·refine⟨its.toList,r,⟨o,n,I.kIn a o hk,hc,hd,by simpa using hs⟩,?_⟩
  have e:=r.length
  simp only[Array.length_toList] at e
  omega
theorem Inv.tuple (I:Inv X pins σ H s) (h:SqT X.K H a xs):∃ its:List Value,Vals xs its/\IsTup s.heap a its.toArray/\xs.length<=sizeLine:=by
 rcases h with h | ⟨o,its,n,hk,hc,hs,hz,r⟩
 ·obtain⟨z,its,r,p⟩:=h.ok I.hok
  exact⟨its,r,p,z⟩
 ·refine⟨its.toList,r,⟨o,I.kIn a o hk,hc,n,by simpa using hs⟩,?_⟩
  have e:=r.length
  simp only[Array.length_toList] at e
  omega
theorem Inv.list_inj (I:Inv X pins σ H s) (h:SqL X.K H a xs) (h':SqL X.K H a ys):xs=ys:=by
 obtain⟨its,r,⟨o,n,e,_,_,d⟩,_⟩:=I.list h
 obtain⟨its',r',⟨o',n',e',_,_,d'⟩,_⟩:=I.list h'
 rw[e] at e';cases e'
 rw[d] at d'
 injection d' with d1 _
 have:its=its':=by simpa using congrArg Array.toList d1
 subst this
 exact r.inj r'
theorem Inv.tuple_inj (I:Inv X pins σ H s) (h:SqT X.K H a xs) (h':SqT X.K H a ys):xs=ys:=by
 obtain⟨its,r,⟨o,e,_,n,d⟩,_⟩:=I.tuple h
 obtain⟨its',r',⟨o',e',_,n',d'⟩,_⟩:=I.tuple h'
 rw[e] at e';cases e'
 rw[d] at d'
 injection d' with d1 _
 have:its=its':=by simpa using congrArg Array.toList d1
 subst this
 exact r.inj r'
end
abbrev Cx.wish (X:Cx) (E:Value->Shared->Prop):Cx:={ X with xe:=E }
abbrev Cx.nox (X:Cx):Cx:=X.wish λ_ _=>False
theorem Cx.Ok.wish {X:Cx}(ok:X.Ok) (E:Value->Shared->Prop):(X.wish E).Ok:=
 ⟨ok.mod,ok.kind,ok.glob,ok.blt,ok.above,ok.inj,ok.has,ok.cab,ok.hd,ok.frames,ok.stk,ok.exf,ok.bs,ok.bsz,ok.noex,ok.exfs,ok.funs,ok.frf⟩
theorem Cx.Ok.unwish {X:Cx}{E:Value->Shared->Prop}(ok:(X.wish E).Ok):X.Ok:=
 ⟨ok.mod,ok.kind,ok.glob,ok.blt,ok.above,ok.inj,ok.has,ok.cab,ok.hd,ok.frames,ok.stk,ok.exf,ok.bs,ok.bsz,ok.noex,ok.exfs,ok.funs,ok.frf⟩
section
variable {X:Cx}{pins:List (Addr×Obj)}{σ:St}{H:Hp}{s:Shared}{E:Value->Shared->Prop}
theorem Inv.wish (I:Inv X pins σ H s) (E:Value->Shared->Prop):Inv (X.wish E) pins σ H s:=⟨I.ok.wish E,I.os,I.bare,I.base,I.loc,I.cell,I.free,I.freeC,I.pin,I.hok,I.len⟩
theorem Inv.unwish (I:Inv (X.wish E) pins σ H s):Inv X pins σ H s:=⟨I.ok.unwish,I.os,I.bare,I.base,I.loc,I.cell,I.free,I.freeC,I.pin,I.hok,I.len⟩
theorem SP.unwish {D:Ends}{f:Flow}{s':Shared}(h:SP (X.wish E) pins D f s'):SP X pins D f s':=by
 cases f with
 | next=>obtain⟨σ',H',I,q⟩:=h;exact⟨σ',H',I.unwish,q⟩
 | brk=>obtain⟨σ',H',I,q⟩:=h;exact⟨σ',H',I.unwish,q⟩
 | cont=>obtain⟨σ',H',I,q⟩:=h;exact⟨σ',H',I.unwish,q⟩
 | ret u=>obtain⟨v,σ',H',I,r,q⟩:=h;exact⟨v,σ',H',I.unwish,r,q⟩
theorem PSs.nox {st:List Stmt}{t:TS}(h:PSs X.nox st t):PSs X st t:=λpins s σ H D I hw=>
 wpAny_mono (h pins s σ H D (I.wish _) hw) (λ_ _ q=>q.unwish) λ_ _ z=>False.elim z
end
section
variable {X:Cx}{st:Stmt}{rest:List Stmt}{t u:TS}{e:Expr}{te:TE}{pos:Pos}
def Mg:TS:=λD σ H=>D.nx σ H
def NT (t u:TS):TS:=λD σ H=>t { D with nx:=u D } σ H
theorem Hn:PSs X [] Mg:=λ_ _ σ H _ I h=>wpAny_execs_nil ⟨σ,H,I,h⟩
theorem El (h1:PS X st t) (h2:PSs X rest u):PSs X (st::rest) (NT t u):=by
 intro pins s σ H D I h
 refine wpAny_execs_cons (thn (h1 pins s σ H { D with nx:=u D } I h) λf s1 q=>?_)
 cases f with
 | next=>
  obtain⟨σ',H',I',q⟩:=q
  exact h2 pins s1 σ' H' D I' q
 | ret v=>exact q
 | brk=>exact q
 | cont=>exact q
theorem Ho (h1:PS X st t):PSs X [st] t:=by
 intro pins s σ H D I h
 refine wpAny_execs_cons (thn (h1 pins s σ H D I h) λf s1 q=>?_)
 cases f with
 | next=>exact wpAny_execs_nil q
 | ret v=>exact q
 | brk=>exact q
 | cont=>exact q
theorem Inv.quiet {pins:List (Addr×Obj)}{σ:St}{H:Hp}{s:Shared}(I:Inv X pins σ H s):interactive X.env=false:=by simp[interactive,I.ok.kind]
def Mh (te:TE):TS:=λD σ H=>te σ H λ_ H1=>D.nx σ H1
theorem uL (he:PE X e te) (hs:swapsWith e none pos.line X.env=pure false:=by rfl):PS X (.Expr e pos) (Mh te):=by
 intro pins s σ H D I h
 exact wpAny_Expr_any (thn (he pins s σ H _ I h) λv s1 ⟨x,H1,I1,r1,q1⟩=>⟨σ,H1,I1,q1⟩) I.quiet hs
def NZ (te:TE):TS:=λD σ H=>te σ H D.rt
theorem xx (he:PE X e te):PS X (.Return (some e) pos) (NZ te):=by
 intro pins s σ H D I h
 exact wpAny_Return_some (thn (he pins s σ H _ I h) λv s1 ⟨x,H1,I1,r1,q1⟩=>⟨x,σ,H1,I1,r1,q1⟩)
def N5 (c:TT) (t u:TS):TS:=λD σ H=>c σ H λb H1=>if b=true then t D σ H1 else u D σ H1
theorem Mi {c:Expr}{a b:List Stmt}{tc:TT}(hc:PT X c tc) (ha:PSs X a t) (hb:PSs X b u):PS X (.If c a b pos) (N5 tc t u):=by
 intro pins s σ H D I h
 refine wpAny_If (thn (hc pins s σ H _ I h) ?_)
 rintro d s1 ⟨H1,I1,q1⟩
 cases d with
 | true=>exact ha pins s1 σ H1 D I1 q1
 | false=>exact hb pins s1 σ H1 D I1 q1
def JK:TS:=λ_ _ _=>False
theorem Em:PS X st JK:=λ_ _ _ _ _ _ h=>h.elim
end
abbrev TG:=V->St->Hp->(St->Hp->Prop)->Prop
abbrev TGs:=List V->St->Hp->(St->Hp->Prop)->Prop
def PG (X:Cx) (target:Expr) (t:TG):Prop:=
 ∀ (pins:List (Addr×Obj)) (s:Shared) (σ:St) (H:Hp) (v:V) (u:Value) (Q:St->Hp->Prop),Inv X pins σ H s->RelV v u->t v σ H Q->
  wpAny (model X.prog X.w) X.A (assign target X.env u) (λ_ s'=>∃ σ' H',Inv X pins σ' H' s'/\Q σ' H') X.xe s
def PGs (X:Cx) (ts:List Expr) (t:TGs):Prop:=
 ∀ (pins:List (Addr×Obj)) (s:Shared) (σ:St) (H:Hp) (vs:List V) (us:List Value) (Q:St->Hp->Prop),Inv X pins σ H s->Vals vs us->t vs σ H Q->
  wpAny (model X.prog X.w) X.A (assignInOrder ((assignEach ts X.env).map (·.2)) us) (λ_ s'=>∃ σ' H',Inv X pins σ' H' s'/\Q σ' H') X.xe s
abbrev En:=V->V->V->Hp->(Hp->Prop)->Prop
def JL (X:Cx) (t:En):Prop:=
 ∀ (pins:List (Addr×Obj)) (s:Shared) (σ:St) (H:Hp) (o i v:V) (ov iv u:Value) (Q:Hp->Prop),Inv X pins σ H s->RelV o ov->RelV i iv->RelV v u->t o i v H Q->
  wpAny (model X.prog X.w) X.A (setItem ov iv u) (λ_ s'=>∃ H',Inv X pins σ H' s'/\Q H') X.xe s
section
variable {X:Cx}{pos:Pos}
def tW (i:Nat):TG:=λv σ H Q=>Q (σ.set i (some v)) H
theorem bj {i:Nat}{x:Str}(hN:X.N.Nodup) (hi:X.N[i]?=some x) (hx:Loc X.env.scope x) (hf:X.fn x=true\/X.env.scope.names.lookup x=some .local:=by first | exact .inl rfl | exact .inr rfl | assumption):PG X (.Name x pos) (tW i):=by
 intro pins s σ H v u Q I r h
 exact wpAny_assign_Name (xr I hN hi hx r (λs' I'=>⟨_,H,I',h⟩) hf)
def JM:TGs:=λvs σ H Q=>vs=[]/\Q σ H
def G6 (t:TG) (u:TGs):TGs:=λvs σ H Q=>∃ v r,vs=v::r/\t v σ H fun σ' H'=>u r σ' H' Q
theorem oK:PGs X [] JM:=by
 intro pins s σ H vs us Q I r h
 obtain⟨e,h⟩:=h
 subst e
 cases r
 exact assignInOrder_nil ⟨σ,H,I,h⟩
theorem dY {e:Expr}{es:List Expr}{t:TG}{u:TGs}(h1:PG X e t) (h2:PGs X es u)
  (hs:(assignEach (e::es) X.env).map (·.2)=assign e X.env::(assignEach es X.env).map (·.2):=by rfl):PGs X (e::es) (G6 t u):=by
 intro pins s σ H vs us Q I r h
 obtain⟨v,vr,e1,h⟩:=h
 subst e1
 cases r with
 | cons r rr=>
  rw[hs]
  refine assignInOrder_cons (thn (h1 pins s σ H _ _ _ I r h) ?_)
  rintro _ s1 ⟨σ1,H1,I1,q1⟩
  exact h2 pins s1 σ1 H1 _ _ Q I1 rr q1
def JN (K:PySem.W.Frag) (n:Nat) (t:TGs):TG:=λv σ H Q=>∃ a xs,v=.ref a/\SqT K H a xs/\xs.length=n/\t xs σ H Q
theorem ql {es:List Expr}{k:Nat}{t:TGs}{n:Nat}(hc:X.calm=true) (h:PGs X es t)
  (hn:(assignEach es X.env).length=n:=by rfl) (hst:(assignEach es X.env).findIdx? (·.1)=none:=by rfl):PG X (.Tuple es k pos) (JN X.K n t):=by
 intro pins s σ H v u Q I r hw
 obtain⟨a,xs,e1,hq,hl,hw⟩:=hw
 subst e1
 cases r
 obtain⟨its,rv,ht,hz⟩:=I.tuple hq
 refine assign_Tuple_tuple (I.ok.hd hc) ht (by simp[hn,← hl,rv.length]) hst λh' hx=>?_
 have I1:Inv X pins σ H { s with heap:=h' }:=I.kept (t':=s.toks) λb o e=>hx b o (Nat.ne_of_lt (Heap.lt_size e)) e
 exact h pins _ σ H xs _ Q I1 (by simpa using rv) hw
def N6 (to ti:TE) (t:En):TG:=λv σ H Q=>to σ H λo H1=>ti σ H1 λi H2=>t o i v H2 λH3=>Q σ H3
theorem JP {o i:Expr}{to ti:TE}{t:En}(ho:PE X o to) (hi:PE X i ti) (hs:JL X t)
  (ha:∀ v,assign (.Subscript o i pos) X.env v=(do
   let ov ← holding [v] (eval o X.env)
   let iv ← holding [v,ov] (eval i X.env)
   standAt pos
   holding [v,ov,iv] (setItem ov iv v)
   release [v,ov,iv] []):=by intro _;rfl):PG X (.Subscript o i pos) (N6 to ti t):=by
 intro pins s σ H v u Q I r h
 rw[ha]
 refine wpAny_bind (wpAny_holding (thn (ho pins s σ H _ I h) ?_))
 rintro ov s1 ⟨x,H1,I1,r1,q1⟩
 refine wpAny_bind (wpAny_holding (thn (hi pins s1 σ H1 _ I1 q1) ?_))
 rintro iv s2 ⟨y,H2,I2,r2,q2⟩
 refine wpAny_bind (wpAny_standAt (wpAny_bind (wpAny_holding (thn (hs pins s2 σ H2 x y v ov iv u _ I2 r1 r2 r q2) ?_))))
 rintro _ s3 ⟨H3,I3,q3⟩
 exact wpAny_release ⟨σ,H3,I3,q3⟩
def Eo (te:TE) (g:TG):TS:=λD σ H=>te σ H λx H1=>g x σ H1 D.nx
theorem JQ {tg e:Expr}{te:TE}{g:TG}(he:PE X e te) (hg:PG X tg g) (hs:swapsWithSole [tg] e pos.line X.env=pure false:=by rfl) (hw:swappedStores [tg] e X.env=pure none:=by rfl)
  (h1:(assignEach [tg] X.env).map (·.2)=[assign tg X.env]:=by rfl):PS X (.Assign [tg] e pos) (Eo te g):=by
 intro pins s σ H D I h
 refine wpAny_Assign_stores (thn (he pins s σ H _ I h) ?_) hs hw
 rintro v s1 ⟨x,H1,I1,r1,q1⟩
 rw[h1]
 exact thn (hg pins s1 σ H1 x v _ I1 r1 q1) λ_ s2 q=>q
theorem Ca {i:Nat}{x:Str}{e:Expr}{te:TE}{pos':Pos}(hN:X.N.Nodup) (hi:X.N[i]?=some x) (hx:Loc X.env.scope x) (he:PE X e te) (hs:swapsWith e (some (.Name x pos')) pos.line X.env=pure false:=by rfl) (hf:X.fn x=true\/X.env.scope.names.lookup x=some .local:=by first | exact .inl rfl | exact .inr rfl | assumption):
  PS X (.Assign [.Name x pos'] e pos) (Eo te (tW i)):=by
 intro pins s σ H D I h
 refine wpAny_Assign_Name (thn (he pins s σ H _ I h) ?_) hs
 rintro v s1 ⟨y,H1,I1,r1,q1⟩
 exact xr I1 hN hi hx r1 (λs2 I2=>⟨_,H1,I2,q1⟩) hf
end
section
variable {X:Cx}{pos:Pos}
def JR (c:TT) (tb:TS):TS:=λD σ H=>∃ W:Nat->St->Hp->Prop,(∃ m,W m σ H)/\∀ m σ H,W m σ H->
 c σ H λb H1=>if b=true then ∃ N:St->Hp->Prop,(∀ σ' H',N σ' H'->∃ m',m' < m/\W m' σ' H')/\tb { D with nx:=N,ct:=N,bk:=D.nx } σ H1 else D.nx σ H1
theorem Ep {c:Expr}{body:List Stmt}{tc:TT}{tb:TS}(hp:PassesOwn (model X.prog X.w) X.A X.env X.xe) (hc:PT X c tc) (hb:PSs X body tb):PS X (.While c body [] pos) (JR tc tb):=by
 intro pins s σ H D I h
 obtain⟨W,⟨m0,w0⟩,turn⟩:=h
 refine wpAny_While (codeAny_whileLoop (λn s'=>∃ σ' H',Inv X pins σ' H' s'/\W n σ' H') ?_ m0 ⟨σ,H,I,w0⟩)
 rintro n s1 ⟨σ1,H1,I1,w1⟩
 refine wpAny_passesOwn hp (thn (hc pins s1 σ1 H1 _ I1 (turn n σ1 H1 w1)) ?_)
 rintro b s2 ⟨H2,I2,q2⟩
 cases b with
 | true=>
  obtain⟨N,hN,q2⟩:=q2
  rw[if_pos rfl]
  refine wpAny_passesOwn hp (thn (hb pins s2 σ1 H2 _ I2 q2) λf s3 q3=>?_)
  cases f with
  | next=>
   obtain⟨σ3,H3,I3,n3⟩:=q3
   obtain⟨m',hm,w3⟩:=hN σ3 H3 n3
   exact⟨m',hm,σ3,H3,I3,w3⟩
  | cont=>
   obtain⟨σ3,H3,I3,n3⟩:=q3
   obtain⟨m',hm,w3⟩:=hN σ3 H3 n3
   exact⟨m',hm,σ3,H3,I3,w3⟩
  | brk=>exact q3
  | ret v=>exact q3
 | false=>
  rw[if_neg Bool.false_ne_true]
  exact wpAny_execs_nil ⟨σ1,H2,I2,q2⟩
end
structure It where
 go:Nat->Hp->Prop
 yld:Nat->Hp->V->Hp->Prop
 stop:Nat->Hp->Prop
def lE (X:Cx) (pins:List (Addr×Obj)) (H:Hp) (b:Addr):Prop:=
 H b=none/\b≠X.env.locals/\b∉X.fs/\(b∈X.ex\/X.s₀.heap.objs.size<=b)/\(∀ x c,X.env.cells.lookup x=some c->c≠b)/\∀ p∈X.pn++pins,p.1≠b
theorem Inv.fpOk {X:Cx}{pins:List (Addr×Obj)}{σ:St}{H H':Hp}{s:Shared}{b:Addr}(I:Inv X pins σ H s) (hb:s.heap.objs.size<=b) (hn:H' b=none):lE X pins H' b:=by
 refine⟨hn,Nat.ne_of_gt (Nat.lt_of_lt_of_le I.lt hb),I.nofs hb,.inr (Nat.le_trans I.sz hb),λx c e z=>?_,λp hp z=>?_⟩
 ·obtain⟨v,q⟩:=I.cell x c e
  exact absurd (Nat.lt_of_lt_of_le q.lt (by rw[z];exact hb)) (Nat.lt_irrefl _)
 ·exact absurd (Nat.lt_of_lt_of_le (Heap.lt_size (I.pin p hp).1) (by rw[z];exact hb)) (Nat.lt_irrefl _)
structure Turn (P:Program) (w:World) (K:PySem.W.Frag) (tg:Expr) (J:It) (fp:List Addr) (it:Addr) (tn:Nat->Heap->Prop):Prop where
 mem:it∈fp
 obj:∀ i h,tn i h->∀ b∈fp,∃ o,h.get? b=some o/\∀ v,o.data≠.cell v
 keep:∀ i h h',tn i h->(∀ b∈fp,∀ o,h.get? b=some o->h'.get? b=some o)->tn i h'
 item:∀ (X:Cx),X.prog=P->X.w=w->X.K=K->X.calm=true->∀ (i:Nat) (pins:List (Addr×Obj)) (s:Shared) (σ:St) (H:Hp) (E:Value->Shared->Prop),Inv X pins σ H s->(∀ b∈fp,lE X pins H b)->tn i s.heap->J.go i H->
  wpAny (model P w) X.A (pyNext (.ref it)) (λr s1=>∃ u,r=some u /\
   wpAny (model P w) X.A (letOwnedTupleGo tg (.ref it) u) (λ_ s2=>∃ x H',Inv X pins σ H' s2/\RelV x u/\J.yld i H x H'/\tn (i+1) s2.heap/\∀ b∈fp,H' b=none) E s1) E s
 done:∀ (X:Cx),X.prog=P->X.w=w->X.K=K->X.calm=true->∀ (i:Nat) (pins:List (Addr×Obj)) (s:Shared) (σ:St) (H:Hp) (E:Value->Shared->Prop),Inv X pins σ H s->(∀ b∈fp,lE X pins H b)->tn i s.heap->J.stop i H->
  wpAny (model P w) X.A (pyNext (.ref it)) (λr s1=>r=none/\Inv X pins σ H s1) E s
 self:∀ (A:Around) (i:Nat) (s:Shared) (Q:Value->Shared->Prop) (E:Value->Shared->Prop),tn i s.heap->Q (.ref it) s->wpAny (model P w) A (pyIter (.ref it)) Q E s
abbrev TI:=St->Hp->(It->Hp->Prop)->Prop
def PIE (X:Cx) (pins:List (Addr×Obj)) (σ:St) (tg:Expr) (R:It->Hp->Prop) (itv:Value) (s2:Shared):Prop:=
 ∃ (it:Addr) (fp:List Addr) (tn:Nat->Heap->Prop) (J:It) (H':Hp),itv=.ref it/\Inv X pins σ H' s2/\Turn X.prog X.w X.K tg J fp it tn/\tn 0 s2.heap/\(∀ b∈fp,lE X pins H' b)/\R J H'
def PI (X:Cx) (tg iter:Expr) (wi:TI):Prop:=
 ∀ (pins:List (Addr×Obj)) (s:Shared) (σ:St) (H:Hp) (R:It->Hp->Prop),Inv X pins σ H s->wi σ H R->
  wpAny (model X.prog X.w) X.A (eval iter X.env) (λv s1=>wpAny (model X.prog X.w) X.A (pyIter v) (PIE X pins σ tg R) X.xe s1) X.xe s
theorem tX {M:Model}{A:Around}{E:Value->Shared->Prop}{s:Shared}{tg:Expr}{it:Addr}{u:Value}{o:Obj}{n:String}{vs:Array Value}{Q:Unit->Shared->Prop}(ho:s.heap.get? it=some o) (hc:o.cls=.type n) (hd:o.data=.fields vs)
    (hn:["enumerate", "zip", "dict_itemiterator", "dict_reverseitemiterator", "odict_iterator", "itertools.zip_longest", "itertools.pairwise"].contains n=false) (hQ:Q () s):wpAny M A (letOwnedTupleGo tg (.ref it) u) Q E s:=by
  unfold letOwnedTupleGo
  cases tg <;> first
    | exact wpAny_pure hQ
    | (cases u <;> first
        | exact wpAny_pure hQ
        | (refine wpAny_bind (wpAny_load ho ?_)
           rw[hc,hd]
           show wpAny M A (if (["enumerate", "zip", "dict_itemiterator", "dict_reverseitemiterator", "odict_iterator", "itertools.zip_longest", "itertools.pairwise"].contains n&&vs[0]? == some (rawInt _))=true then _ else _) Q E s
           rw[if_neg (by intro h;rw[hn,Bool.false_and] at h;cases h)]
           exact wpAny_pure hQ))
def Itl (K:PySem.W.Frag) (a:Addr):It:=
 ⟨λi H=>∃ xs x,SqL K H a xs/\xs[i]?=some x,λi H x H'=>H'=H/\∀ xs,SqL K H a xs->xs[i]?=some x,λi H=>∃ xs,SqL K H a xs/\xs.length<=i⟩
def Itt (K:PySem.W.Frag) (a:Addr):It:=
 ⟨λi H=>∃ xs x,SqT K H a xs/\xs[i]?=some x,λi H x H'=>H'=H/\∀ xs,SqT K H a xs->xs[i]?=some x,λi H=>∃ xs,SqT K H a xs/\xs.length<=i⟩
def Itr (lo:Int) (n:Nat):It:=⟨λi _=>i < n,λi H x H'=>H'=H/\x=.int (lo+i),λi _=>n<=i⟩
theorem Cd {P:Program}{w:World}{K:PySem.W.Frag}{tg:Expr}(a it:Addr):Turn P w K tg (Itl K a) [it] it (λi h=>h.IsListIter it a i) where
 mem:=by simp
 obj:=λi h st b hb=>by
  have e:b=it:=by simpa using hb
  subst e
  obtain⟨o,e,c,d⟩:=st
  exact⟨o,e,λv z=>by rw[d] at z;cases z⟩
 keep:=λi h h' st k=>st.at λo e=>k it (by simp) o e
 item:=by
  intro X hP hw hK hc i pins s σ H E I hf st hg
  subst hP hw hK
  obtain⟨xs,x,hq,hx⟩:=hg
  obtain⟨its,rv,p,hz⟩:=I.list hq
  obtain⟨u,hu,ru⟩:=rv.get hx
  obtain⟨f0,f1,f2,f3,f4,f5⟩:=hf it (by simp)
  refine wpAny_pyNext_list_item st p.isList (x:=u) (by simpa using hu) λh' st' sb=>?_
  have I1:Inv X pins σ H { s with heap:=h' }:=I.turned (t':=s.toks) (λb o hb e=>(sb.2 b hb).trans e) f0 f1 f3 f4 f5
  obtain⟨o,e,c,d⟩:=id st'
  exact⟨u,rfl,tX (s:={ s with heap:=h' }) e c d (by decide) ⟨x,H,I1,ru,⟨rfl,λys hy=>by rw[I.list_inj hy hq];exact hx⟩,st',λb hb=>(hf b hb).1⟩⟩
 done:=by
  intro X hP hw hK hc i pins s σ H E I hf st hg
  subst hP hw hK
  obtain⟨xs,hq,hx⟩:=hg
  obtain⟨its,rv,p,hz⟩:=I.list hq
  obtain⟨f0,f1,f2,f3,f4,f5⟩:=hf it (by simp)
  have hl:=rv.length
  exact wpAny_pyNext_list_end (I.ok.hd hc) st p.isList (by simp;omega) λh' eb=>⟨rfl,I.turned (t':=s.toks) (λb o hb e=>eb b o hb e) f0 f1 f3 f4 f5⟩
 self:=λ_ _ _ _ _ st h=>wpAny_pyIter_listiter st h
theorem Af {P:Program}{w:World}{K:PySem.W.Frag}{tg:Expr}(a it:Addr):Turn P w K tg (Itt K a) [it] it (λi h=>h.IsTupleIter it a i) where
 mem:=by simp
 obj:=λi h st b hb=>by
  have e:b=it:=by simpa using hb
  subst e
  obtain⟨o,e,c,d⟩:=st
  exact⟨o,e,λv z=>by rw[d] at z;cases z⟩
 keep:=λi h h' st k=>st.at λo e=>k it (by simp) o e
 item:=by
  intro X hP hw hK hc i pins s σ H E I hf st hg
  subst hP hw hK
  obtain⟨xs,x,hq,hx⟩:=hg
  obtain⟨its,rv,p,hz⟩:=I.tuple hq
  obtain⟨u,hu,ru⟩:=rv.get hx
  obtain⟨f0,f1,f2,f3,f4,f5⟩:=hf it (by simp)
  refine wpAny_pyNext_tuple_item st (show s.heap.IsTuple a its.toArray from p) (x:=u) (by simpa using hu) λh' st' sb=>?_
  have I1:Inv X pins σ H { s with heap:=h' }:=I.turned (t':=s.toks) (λb o hb e=>(sb.2 b hb).trans e) f0 f1 f3 f4 f5
  obtain⟨o,e,c,d⟩:=id st'
  exact⟨u,rfl,tX (s:={ s with heap:=h' }) e c d (by decide) ⟨x,H,I1,ru,⟨rfl,λys hy=>by rw[I.tuple_inj hy hq];exact hx⟩,st',λb hb=>(hf b hb).1⟩⟩
 done:=by
  intro X hP hw hK hc i pins s σ H E I hf st hg
  subst hP hw hK
  obtain⟨xs,hq,hx⟩:=hg
  obtain⟨its,rv,p,hz⟩:=I.tuple hq
  obtain⟨f0,f1,f2,f3,f4,f5⟩:=hf it (by simp)
  have hl:=rv.length
  exact wpAny_pyNext_tuple_end (I.ok.hd hc) st (show s.heap.IsTuple a its.toArray from p) (by simp;omega) λh' eb=>⟨rfl,I.turned (t':=s.toks) (λb o hb e=>eb b o hb e) f0 f1 f3 f4 f5⟩
 self:=λ_ _ _ _ _ st h=>wpAny_pyIter_tupleiter st h
theorem Ag {P:Program}{w:World}{K:PySem.W.Frag}{tg:Expr}(it:Addr) (lo:Int) (n:Nat):Turn P w K tg (Itr lo n) [it] it (λi h=>IsRangeIter h it (lo+(i:Nat)*1) ((n:Int) - (i:Nat)) 1) where
 mem:=by simp
 obj:=λi h st b hb=>by
  have e:b=it:=by simpa using hb
  subst e
  exact⟨_,st,λv z=>by
   have z':Data.fields _=Data.cell v:=z
   cases z'⟩
 keep:=λi h h' st k=>k it (by simp) _ st
 item:=by
  intro X hP hw hK hc i pins s σ H E I hf st hg
  subst hP hw hK
  obtain⟨f0,f1,f2,f3,f4,f5⟩:=hf it (by simp)
  have W:=Walks.range (prog:=X.prog) (w:=X.w) (I.ok.hd hc) it lo 1 n
  refine W.item i s _ _ hg st λv h' tk hv st' kk=>?_
  obtain⟨t,rfl⟩:=hv
  have I1:Inv X pins σ H { s with heap:=h',toks:=tk }:=I.turned (λb o hb e=>kk b o (by simpa using hb) e) f0 f1 f3 f4 f5
  refine⟨_,rfl,tX (s:={ s with heap:=h',toks:=tk }) (n := "range_iterator") st' rfl rfl (by decide) ⟨.int (lo+i),H,I1,⟨t,?_⟩,⟨rfl,rfl⟩,st',λb hb=>(hf b hb).1⟩⟩
  rw[Int.mul_one]
 done:=by
  intro X hP hw hK hc i pins s σ H E I hf st hg
  subst hP hw hK
  obtain⟨f0,f1,f2,f3,f4,f5⟩:=hf it (by simp)
  exact wpAny_pyNext_range_end (I.ok.hd hc) st (by have:n<=i:=hg;omega) λh' eb=>⟨rfl,I.turned (t':=s.toks) (λb o hb e=>eb b o hb e) f0 f1 f3 f4 f5⟩
 self:=λ_ _ _ _ _ st h=>wpAny_pyIter_rangeiter st h
end L2
namespace L2
open PySem PySem.Spec PyProof.Rows
section
variable {X:Cx}{tg:Expr}
def Mj (K:PySem.W.Frag) (tl:TE):TI:=fun σ H R=>tl σ H λx H1=>∃ a,x=.ref a/\(∃ xs,SqL K H1 a xs)/\R (Itl K a) H1
def N7 (K:PySem.W.Frag) (tl:TE):TI:=fun σ H R=>tl σ H λx H1=>∃ a,x=.ref a/\(∃ xs,SqT K H1 a xs)/\R (Itt K a) H1
theorem Hq {l:Expr}{tl:TE}(hl:PE X l tl):PI X tg l (Mj X.K tl):=by
 intro pins s σ H R I h
 refine thn (hl pins s σ H _ I h) ?_
 rintro v s1 ⟨x,H1,I1,r1,q1⟩
 obtain⟨a,e,⟨xs,hq⟩,q⟩:=q1
 subst e
 cases r1
 obtain⟨its,rv,p,hz⟩:=I1.list hq
 refine wpAny_pyIter_list p.isList ?_
 refine⟨s1.heap.objs.size,[s1.heap.objs.size],_,_,H1,rfl,I1.kept (t':=s1.toks) λb o e=>Heap.get?_push_of_some _ e,Cd a _,⟨_,Heap.get?_push_size _ rfl,rfl,rfl⟩,λb hb=>?_,q⟩
 have e:b=s1.heap.objs.size:=by simpa using hb
 subst e
 exact I1.fpOk (Nat.le_refl _) (I1.hok.fresh (Nat.le_refl _))
theorem JS {l:Expr}{tl:TE}(hl:PE X l tl):PI X tg l (N7 X.K tl):=by
 intro pins s σ H R I h
 refine thn (hl pins s σ H _ I h) ?_
 rintro v s1 ⟨x,H1,I1,r1,q1⟩
 obtain⟨a,e,⟨xs,hq⟩,q⟩:=q1
 subst e
 cases r1
 obtain⟨its,rv,p,hz⟩:=I1.tuple hq
 refine wpAny_pyIter_tuple (show s1.heap.IsTuple a its.toArray from p) ?_
 refine⟨s1.heap.objs.size,[s1.heap.objs.size],_,_,H1,rfl,I1.kept (t':=s1.toks) λb o e=>Heap.get?_push_of_some _ e,Af a _,⟨_,Heap.get?_push_size _ rfl,rfl,rfl⟩,λb hb=>?_,q⟩
 have e:b=s1.heap.objs.size:=by simpa using hb
 subst e
 exact I1.fpOk (Nat.le_refl _) (I1.hok.fresh (Nat.le_refl _))
theorem Er {pins:List (Addr×Obj)}{σ:St}{H:Hp}{s:Shared}{R:It->Hp->Prop}{E:Value->Shared->Prop}{lo hi:Int}{t u v:Tok}{tk:Nat}(I:Inv X pins σ H s) (h1:-(2 ^ 62)<=lo) (h2:lo < 2 ^ 62) (h3:-(2 ^ 62)<=hi) (h4:hi < 2 ^ 62)
  (q:R (Itr lo (hi - lo).toNat) H):wpAny (model X.prog X.w) X.A (pyIter (.ref s.heap.objs.size)) (PIE X pins σ tg R) E { s with heap:=s.heap.push { cls:=.type "range",data:=.fields #[.int lo t,.int hi u,.int 1 v] },toks:=tk }:=by
 refine wpAny_pyIter_range (IsRange.new ..) (small_one h1 h2 h3 h4) ?_
 have I1:Inv X pins σ H { s with heap:=s.heap.push { cls:=.type "range",data:=.fields #[.int lo t,.int hi u,.int 1 v] },toks:=tk }:=I.kept λb o e=>Heap.get?_push_of_some _ e
 refine⟨(s.heap.push { cls:=.type "range",data:=.fields #[.int lo t,.int hi u,.int 1 v] }).objs.size,[(s.heap.push { cls:=.type "range",data:=.fields #[.int lo t,.int hi u,.int 1 v] }).objs.size],_,_,H,rfl,
  I1.kept (t':=tk) λb o e=>Heap.get?_push_of_some _ e,Ag _ lo (hi - lo).toNat,?_,λb hb=>?_,q⟩
 ·have e1:lo+((0:Nat):Int)*1=lo:=by simp
  have e2:(((hi - lo).toNat:Nat):Int) - ((0:Nat):Int)=Builtin.Range.rangeSize lo hi 1:=by rw[rangeSize_one];split <;> omega
  show IsRangeIter _ _ (lo+((0:Nat):Int)*1) ((((hi - lo).toNat:Nat):Int) - ((0:Nat):Int)) 1
  rw[e1,e2]
  exact Heap.get?_push_size _ rfl
 ·have e:b=(s.heap.push { cls:=.type "range",data:=.fields #[.int lo t,.int hi u,.int 1 v] }).objs.size:=by simpa using hb
  subst e
  exact I1.fpOk (Nat.le_refl _) (I1.hok.fresh (Nat.le_refl _))
def Ml (ta:TA):TI:=fun σ H R=>ta σ H λvs H1=>∃ j:Int,vs=[.int j]/\-(2 ^ 62)<=j/\j < 2 ^ 62/\R (Itr 0 j.toNat) H1
theorem Ce {a:Expr}{ta:TA}{p pos:Pos}(hg:Gl X "range") (hm:X.mg "range" = none) (ha:PA X [a] ta) (hs:starEach [a] X.env=[(false,eval a X.env)]:=by rfl):PI X tg (.Call (.Name "range" p) [a] [] pos) (Ml ta):=by
 intro pins s σ H R I h
 refine Call_ (jM I hg hm boot_range (PyProof.Rows.callWith_type1 (thn (ha pos pins s σ H _ I h) ?_) hs rfl))
 rintro us s1 ⟨vs,H1,I1,r1,q1⟩
 obtain⟨j,e,q1,q2,q⟩:=q1
 subst e
 cases r1 with
 | cons r rr=>
  cases rr
  obtain⟨t,rfl⟩:=r
  exact call_range_1 (Er I1 (by omega) (by omega) q1 q2 (by simpa using q))
def N8 (wi:TI) (g:TG) (tb:TS):TS:=λD σ H=>wi σ H λJ H1=>∃ W:Nat->Nat->St->Hp->Prop,(∃ m,W 0 m σ H1)/\∀ i m σ H,W i m σ H->
 (J.stop i H/\D.nx σ H)\/(J.go i H/\∃ N:St->Hp->Prop,(∀ σ' H',N σ' H'->∃ m',m' < m/\W (i+1) m' σ' H')/\∀ x H',J.yld i H x H'->g x σ H' fun σ2 H2=>tb { D with nx:=N,ct:=N,bk:=D.nx } σ2 H2)
def qm (fp:List Addr) (h:Heap):List (Addr×Obj):=fp.filterMap λb=>(h.get? b).map λo=>(b,o)
theorem mK {fp:List Addr}{h:Heap}{b:Addr}{o:Obj}(hb:b∈fp) (e:h.get? b=some o):(b,o)∈qm fp h:=List.mem_filterMap.mpr ⟨b,hb,by rw[e];rfl⟩
theorem Cg {fp:List Addr}{h:Heap}{p:Addr×Obj}(hp:p∈qm fp h):p.1∈fp/\h.get? p.1=some p.2:=by
 obtain⟨b,hb,e⟩:=List.mem_filterMap.mp hp
 cases q:h.get? b with
 | none=>rw[q] at e;cases e
 | some o=>
  rw[q] at e
  have e':(b,o)=p:=Option.some.inj e
  subst e'
  exact⟨hb,q⟩
theorem Inv.pinned {pins:List (Addr×Obj)}{σ:St}{H:Hp}{s:Shared}{fp:List Addr}(I:Inv X pins σ H s) (hf:∀ b∈fp,lE X pins H b) (ho:∀ b∈fp,∃ o,s.heap.get? b=some o/\∀ v,o.data≠.cell v):Inv X (pins++qm fp s.heap) σ H s:=
 I.pins_of λp hp=>(List.mem_append.mp hp).elim (λz=>I.pin p (List.mem_append_right _ z)) λz=>by
  obtain⟨hb,e⟩:=Cg z
  obtain⟨f0,f1,f2,_⟩:=hf p.1 hb
  obtain⟨o,e',d⟩:=ho p.1 hb
  rw[e] at e';cases e'
  exact⟨e,f0,f1,f2,d⟩
theorem Inv.unpinned {pins pl:List (Addr×Obj)}{σ:St}{H:Hp}{s:Shared}(I:Inv X (pins++pl) σ H s):Inv X pins σ H s:=I.pins_of λp hp=>I.pin p (List.mem_append_right _ (List.mem_append_left _ hp))
theorem JT {iter:Expr}{body:List Stmt}{wi:TI}{g:TG}{tb:TS}{pos:Pos}(hp:PassesOwn (model X.prog X.w) X.A X.env X.xe) (hc:X.calm=true) (hi:PI X tg iter wi) (hg:PG X tg g) (hb:PSs X body tb)
  (hs:∀ x,foldedSetIterable iter X.env x=pure x:=by intro _;rfl):PS X (.For tg iter body [] pos) (N8 wi g tb):=by
 intro pins s σ H D I h
 refine wpAny_For (thn (hi pins s σ H _ I h) λv s1 h1=>thn h1 λitv s2 h2=>?_) hs
 obtain⟨it,fp,tn,J,H2,e,I2,T,st2,f2,W,⟨m0,w0⟩,turn⟩:=h2
 subst e
 have stat:∀ {H':Hp},(∀ b∈fp,H' b=none)->∀ b∈fp,lE X pins H' b:=λhn b hb=>⟨hn b hb,(f2 b hb).2⟩
 refine codeAny_forLoop_any (λn s'=>∃ i σ' H',Inv X pins σ' H' s'/\tn i s'.heap/\(∀ b∈fp,H' b=none)/\W i n σ' H') ?_ m0 ⟨0,σ,H2,I2,st2,λb hb=>(f2 b hb).1,w0⟩
 rintro n s3 ⟨i,σ3,H3,I3,st3,fr3,w3⟩
 rcases turn i n σ3 H3 w3 with ⟨stop,qn⟩ | ⟨go,N,hN,step⟩
 ·refine wpAny_passesOwn hp (thn (T.done X rfl rfl rfl hc i pins s3 σ3 H3 X.xe I3 (stat fr3) st3 stop) ?_)
  rintro r s4 ⟨hr,I4⟩
  subst hr
  exact wpAny_execs_nil ⟨σ3,H3,I4,qn⟩
 ·refine wpAny_passesOwn hp (thn (T.item X rfl rfl rfl hc i pins s3 σ3 H3 X.xe I3 (stat fr3) st3 go) ?_)
  rintro r s4 ⟨u,hr,h4⟩
  subst hr
  refine wpAny_passesOwn hp (thn h4 ?_)
  rintro _ s5 ⟨x,H5,I5,r5,y5,st5,fr5⟩
  have I5':=I5.pinned (stat fr5) (T.obj _ _ st5)
  refine wpAny_passesOwn hp (thn (hg _ s5 σ3 H5 x u _ I5' r5 (step x H5 y5)) ?_)
  rintro _ s6 ⟨σ6,H6,I6,q6⟩
  refine wpAny_passesOwn hp (thn (hb _ s6 σ6 H6 _ I6 q6) λf s7 q7=>?_)
  have again:∀ {σ7:St}{H7:Hp},Inv X (pins++qm fp s5.heap) σ7 H7 s7->N σ7 H7->∃ m,m < n/\∃ i σ' H',Inv X pins σ' H' s7/\tn i s7.heap/\(∀ b∈fp,H' b=none)/\W i m σ' H':=λ{σ7 H7} I7 n7=>by
   obtain⟨m',hm,w7⟩:=hN σ7 H7 n7
   refine⟨m',hm,i+1,σ7,H7,I7.unpinned,T.keep _ _ _ st5 λb hb o e=>(I7.pin (b,o) (List.mem_append_right _ (List.mem_append_right _ (mK hb e)))).1,λb hb=>?_,w7⟩
   obtain⟨o,e,d⟩:=T.obj _ _ st5 b hb
   exact(I7.pin (b,o) (List.mem_append_right _ (List.mem_append_right _ (mK hb e)))).2.1
  cases f with
  | next=>obtain⟨σ7,H7,I7,n7⟩:=q7;exact again I7 n7
  | cont=>obtain⟨σ7,H7,I7,n7⟩:=q7;exact again I7 n7
  | brk=>obtain⟨σ7,H7,I7,q7⟩:=q7;exact⟨σ7,H7,I7.unpinned,q7⟩
  | ret v=>obtain⟨x7,σ7,H7,I7,r7,q7⟩:=q7;exact⟨x7,σ7,H7,I7.unpinned,r7,q7⟩
end
end L2
namespace L2
open PySem PySem.Spec PyProof.Rows
abbrev R2:=V->V->Hp->VK->Prop
def OpR (X:Cx) (f:Value->Value->Sem Value) (r:R2):Prop:=
 ∀ (pins:List (Addr×Obj)) (s:Shared) (σ:St) (H:Hp) (x y:V) (v u:Value) (Q:VK),Inv X pins σ H s->RelV x v->RelV y u->r x y H Q->
  wpAny (model X.prog X.w) X.A (f v u) (EP X pins σ Q) X.xe s
def UnR (X:Cx) (f:Value->Sem Value) (r:V->Hp->VK->Prop):Prop:=
 ∀ (pins:List (Addr×Obj)) (s:Shared) (σ:St) (H:Hp) (x:V) (v:Value) (Q:VK),Inv X pins σ H s->RelV x v->r x H Q->
  wpAny (model X.prog X.w) X.A (f v) (EP X pins σ Q) X.xe s
def CallR (X:Cx) (f:Value) (r:List V->Hp->VK->Prop):Prop:=
 ∀ (pins:List (Addr×Obj)) (s:Shared) (σ:St) (H:Hp) (xs:List V) (us:List Value) (Q:VK),Inv X pins σ H s->Vals xs us->r xs H Q->
  wpAny (model X.prog X.w) X.A (call f us) (EP X pins σ Q) X.xe s
def tOp (r:R2) (ta tb:TE):TE:=fun σ H Q=>ta σ H λx H1=>tb σ H1 λy H2=>r x y H2 Q
def tUn (r:V->Hp->VK->Prop) (ta:TE):TE:=fun σ H Q=>ta σ H λx H1=>r x H1 Q
def rI (C:Int->Int->Prop) (g:Int->Int->V):R2:=λx y H Q=>∃ i j,x=.int i/\y=.int j/\C i j/\Q (g i j) H
def rI0 (g:Int->Int->V):R2:=λx y H Q=>∃ i j,x=.int i/\y=.int j/\Q (g i j) H
def rU (g:Int->V):V->Hp->VK->Prop:=λx H Q=>∃ i,x=.int i/\Q (g i) H
section
variable {X:Cx}{a b c:Expr}{ta tb tc:TE}{pos:Pos}
theorem Es (ha:PE X a ta) (hb:PE X b tb){pins:List (Addr×Obj)}{s:Shared}{σ:St}{H:Hp}{R:V->V->Hp->Prop}(I:Inv X pins σ H s)
  (h:ta σ H λx H1=>tb σ H1 λy H2=>R x y H2){Q:Value->Shared->Prop}{f:Value->Value->Sem Value}
  (hf:∀ v u s2 x y H2,Inv X pins σ H2 s2->RelV x v->RelV y u->R x y H2->wpAny (model X.prog X.w) X.A (f v u) Q X.xe s2):
  wpAny (model X.prog X.w) X.A (eval a X.env) (λv s₁=>wpAny (model X.prog X.w) X.A (eval b X.env) (λu s₂=>wpAny (model X.prog X.w) X.A (f v u) Q X.xe s₂) X.xe s₁) X.xe s:=by
 refine thn (ha pins s σ H _ I h) ?_
 rintro v s1 ⟨x,H1,I1,r1,q1⟩
 refine thn (hb pins s1 σ H1 _ I1 q1) ?_
 rintro u s2 ⟨y,H2,I2,r2,q2⟩
 exact hf v u s2 x y H2 I2 r1 r2 q2
theorem Mm {op:Operator}{r:R2}(ho:OpR X (binaryOp op) r) (ha:PE X a ta) (hb:PE X b tb):PE X (.BinOp a op b pos) (tOp r ta tb):=by
 intro pins s σ H Q I h
 exact wpAny_BinOp (Es ha hb I h λv u s2 x y H2 I2 rx ry q=>ho pins s2 σ H2 x y v u Q I2 rx ry q)
theorem Mp {op:UnaryOp}{r:V->Hp->VK->Prop}(ho:UnR X (unaryOp op) r) (ha:PE X a ta):PE X (.UnaryOp op a pos) (tUn r ta):=by
 intro pins s σ H Q I h
 exact UnaryOp_ (thn (ha pins s σ H _ I h) λv s1 ⟨x,H1,I1,r1,q1⟩=>ho pins s1 σ H1 x v Q I1 r1 q1)
theorem opI {f:Value->Value->Sem Value}{C:Int->Int->Prop}{g:Int->Int->Int}
  (rule:∀ (i j:Int) (t u:Tok) (s:Shared) (Q:Value->Shared->Prop) (E:Value->Shared->Prop),C i j->Q (.int (g i j) s.toks) { s with toks:=s.toks+1 }->wpAny (model X.prog X.w) X.A (f (.int i t) (.int j u)) Q E s):
  OpR X f (rI C λi j=>.int (g i j)):=by
 intro pins s σ H x y v u Q I rx ry h
 obtain⟨i,j,rfl,rfl,hc,q⟩:=h
 obtain⟨t,rfl⟩:=rx
 obtain⟨t',rfl⟩:=ry
 exact rule i j t t' s _ _ hc ⟨.int (g i j),H,I.tok _,⟨_,rfl⟩,q⟩
theorem N_ {f:Value->Value->Sem Value}{g:Int->Int->Int}
  (rule:∀ (i j:Int) (t u:Tok) (s:Shared) (Q:Value->Shared->Prop) (E:Value->Shared->Prop),Q (.int (g i j) s.toks) { s with toks:=s.toks+1 }->wpAny (model X.prog X.w) X.A (f (.int i t) (.int j u)) Q E s):
  OpR X f (rI0 λi j=>.int (g i j)):=by
 intro pins s σ H x y v u Q I rx ry h
 obtain⟨i,j,rfl,rfl,q⟩:=h
 obtain⟨t,rfl⟩:=rx
 obtain⟨t',rfl⟩:=ry
 exact rule i j t t' s _ _ ⟨.int (g i j),H,I.tok _,⟨_,rfl⟩,q⟩
theorem Et {f:Value->Value->Sem Value}{g:Int->Int->Bool}
  (rule:∀ (i j:Int) (t u:Tok) (s:Shared) (Q:Value->Shared->Prop) (E:Value->Shared->Prop),Q (.bool (g i j)) s->wpAny (model X.prog X.w) X.A (f (.int i t) (.int j u)) Q E s):
  OpR X f (rI0 λi j=>.bl (g i j)):=by
 intro pins s σ H x y v u Q I rx ry h
 obtain⟨i,j,rfl,rfl,q⟩:=h
 obtain⟨t,rfl⟩:=rx
 obtain⟨t',rfl⟩:=ry
 exact rule i j t t' s _ _ ⟨.bl (g i j),H,I,rfl,q⟩
def JV (i j:Int):Prop:=0 < j/\j < 1073741824
def CMul (i j:Int):Prop:=(-(2 ^ 64) < i/\i < 2 ^ 64)\/(-(2 ^ 64) < j/\j < 2 ^ 64)
theorem CMul.ok {i j:Int}(h:CMul i j):IntMulOk i j:=by
 rcases h with ⟨h1,h2⟩ | ⟨h1,h2⟩
 ·exact .of_left (intBits_le_64 h1 h2)
 ·exact .of_right (intBits_le_64 h1 h2)
theorem JW:OpR X (binaryOp .Add) (rI0 λi j=>.int (i+j)):=N_ λ_ _ _ _ _ _ _ q=>add_int q
theorem JX:OpR X (binaryOp .Mult) (rI CMul λi j=>.int (i*j)):=opI λ_ _ _ _ _ _ _ hc q=>mul_int q hc.ok
theorem Hr:OpR X (binaryOp .FloorDiv) (rI JV λi j=>.int (i / j)):=opI λi j _ _ _ _ _ hc q=>by
 have h1:(0:Int) < j:=hc.1
 have h2:j < 1073741824:=hc.2
 exact floordiv_int (by omega) (by rw[Int.fdiv_eq_ediv_of_nonneg i (by omega)];exact q) (.inl (PyProof.noPylong_small (by omega)))
theorem JZ:OpR X (binaryOp .Mod) (rI (λ_ j=>0 < j) λi j=>.int (i % j)):=opI λi j _ _ _ _ _ hc q=>by
 have h1:(0:Int) < j:=hc
 exact mod_int' (by omega) (by rw[Int.fmod_eq_emod_of_nonneg i (by omega)];exact q)
theorem unI {f:Value->Sem Value}{g:Int->Int}
  (rule:∀ (i:Int) (t:Tok) (s:Shared) (Q:Value->Shared->Prop) (E:Value->Shared->Prop),Q (.int (g i) s.toks) { s with toks:=s.toks+1 }->wpAny (model X.prog X.w) X.A (f (.int i t)) Q E s):
  UnR X f (rU λi=>.int (g i)):=by
 intro pins s σ H x v Q I rx h
 obtain⟨i,rfl,q⟩:=h
 obtain⟨t,rfl⟩:=rx
 exact rule i t s _ _ ⟨.int (g i),H,I.tok _,⟨_,rfl⟩,q⟩
theorem J0:UnR X (unaryOp .USub) (rU λi=>.int (-i)):=unI λ_ _ _ _ _ q=>neg_int q
end
def Eu:V->V->Bool
 | .non,.non=>true | .non,.int _=>true | .int _,.non=>true | .non,.bl _=>true | .bl _,.non=>true | .non,.str _=>true | .str _,.non=>true
 | .int _,.int _=>true | .bl _,.bl _=>true | .str _,.str _=>true | .byt _,.byt _=>true
 | .int _,.str _=>true | .str _,.int _=>true | .bl _,.str _=>true | .str _,.bl _=>true
 | _,_=>false
def rEq:R2:=λx y H Q=>Eu x y=true/\Q (.bl (decide (x=y))) H
def rNe:R2:=λx y H Q=>Eu x y=true/\Q (.bl (!decide (x=y))) H
theorem zq {i j:Int}:decide (V.int i=V.int j)=(i == j):=by
 rw[Bool.eq_iff_iff]
 simp
theorem Ci {i j:Bool}:decide (V.bl i=V.bl j)=(i == j):=by
 rw[Bool.eq_iff_iff]
 simp
theorem zr {i j:Str}:decide (V.str i=V.str j)=(i == j):=by
 rw[Bool.eq_iff_iff]
 simp
theorem zu {i j:Array UInt8}:decide (V.byt i=V.byt j)=(i.toList == j.toList):=by
 rw[Bool.eq_iff_iff]
 cases i
 cases j
 simp
section
variable {X:Cx}{a b c:Expr}{ta tb tc:TE}{pos:Pos}
theorem bB {pins:List (Addr×Obj)}{σ:St}{H:Hp}{s:Shared}{Q:VK}{k k':Bool}(I:Inv X pins σ H s) (q:Q (.bl k) H) (e:k=k'):EP X pins σ Q (.bool k') s:=by
 subst e
 exact⟨.bl k,H,I,rfl,q⟩
theorem Mq:OpR X (compareOp .Eq) rEq:=by
 intro pins s σ H x y v u Q I rx ry h
 obtain⟨hs,q⟩:=h
 cases x with
 | non=>
  cases rx
  cases y with
  | non=>cases ry;exact PySem.EqNone.eq_none_none (bB I q (by simp))
  | bl j=>cases ry;exact PySem.EqNone.eq_none_bool (bB I q (by simp))
  | int j=>obtain⟨t',rfl⟩:=ry;exact PySem.EqNone.eq_none_int (bB I q (by simp))
  | str j=>obtain⟨t',rfl⟩:=ry;exact PySem.EqNone.eq_none_str (bB I q (by simp))
  | _=>exact absurd (show false=true from hs) Bool.false_ne_true
 | bl i=>
  cases rx
  cases y with
  | non=>cases ry;exact PySem.EqNone.eq_bool_none (bB I q (by simp))
  | bl j=>cases ry;exact eq_bool (bB I q Ci)
  | str j=>obtain⟨t',rfl⟩:=ry;exact PySem.EqMixed.eq_bool_str (bB I q (by simp))
  | _=>exact absurd (show false=true from hs) Bool.false_ne_true
 | int i=>
  obtain⟨t,rfl⟩:=rx
  cases y with
  | non=>cases ry;exact PySem.EqNone.eq_int_none (bB I q (by simp))
  | int j=>obtain⟨t',rfl⟩:=ry;exact eq_int (bB I q zq)
  | str j=>obtain⟨t',rfl⟩:=ry;exact PySem.EqMixed.eq_int_str (bB I q (by simp))
  | _=>exact absurd (show false=true from hs) Bool.false_ne_true
 | str i=>
  obtain⟨t,rfl⟩:=rx
  cases y with
  | non=>cases ry;exact PySem.EqNone.eq_str_none (bB I q (by simp))
  | bl j=>cases ry;exact PySem.EqMixed.eq_str_bool (bB I q (by simp))
  | int j=>obtain⟨t',rfl⟩:=ry;exact PySem.EqMixed.eq_str_int (bB I q (by simp))
  | str j=>obtain⟨t',rfl⟩:=ry;exact eq_str (bB I q zr)
  | _=>exact absurd (show false=true from hs) Bool.false_ne_true
 | byt i=>
  obtain⟨t,rfl⟩:=rx
  cases y with
  | byt j=>obtain⟨t',rfl⟩:=ry;exact PySem.W.eq_bytes (bB I q zu)
  | _=>exact absurd (show false=true from hs) Bool.false_ne_true
 | _=>cases y <;> exact absurd (show false=true from hs) Bool.false_ne_true
theorem Mr:OpR X (compareOp .NotEq) rNe:=by
 intro pins s σ H x y v u Q I rx ry h
 obtain⟨hs,q⟩:=h
 cases x with
 | non=>
  cases rx
  cases y with
  | non=>cases ry;exact PySem.EqNone.ne_none_none (bB I q (by simp))
  | bl j=>cases ry;exact PySem.EqNone.ne_none_bool (bB I q (by simp))
  | int j=>obtain⟨t',rfl⟩:=ry;exact PySem.EqNone.ne_none_int (bB I q (by simp))
  | str j=>obtain⟨t',rfl⟩:=ry;exact PySem.EqNone.ne_none_str (bB I q (by simp))
  | _=>exact absurd (show false=true from hs) Bool.false_ne_true
 | bl i=>
  cases rx
  cases y with
  | non=>cases ry;exact PySem.EqNone.ne_bool_none (bB I q (by simp))
  | bl j=>cases ry;exact ne_bool (bB I q (congrArg not Ci))
  | str j=>obtain⟨t',rfl⟩:=ry;exact PySem.EqMixed.ne_bool_str (bB I q (by simp))
  | _=>exact absurd (show false=true from hs) Bool.false_ne_true
 | int i=>
  obtain⟨t,rfl⟩:=rx
  cases y with
  | non=>cases ry;exact PySem.EqNone.ne_int_none (bB I q (by simp))
  | int j=>obtain⟨t',rfl⟩:=ry;exact ne_int (bB I q (congrArg not zq))
  | str j=>obtain⟨t',rfl⟩:=ry;exact PySem.EqMixed.ne_int_str (bB I q (by simp))
  | _=>exact absurd (show false=true from hs) Bool.false_ne_true
 | str i=>
  obtain⟨t,rfl⟩:=rx
  cases y with
  | non=>cases ry;exact PySem.EqNone.ne_str_none (bB I q (by simp))
  | bl j=>cases ry;exact PySem.EqMixed.ne_str_bool (bB I q (by simp))
  | int j=>obtain⟨t',rfl⟩:=ry;exact PySem.EqMixed.ne_str_int (bB I q (by simp))
  | str j=>obtain⟨t',rfl⟩:=ry;exact ne_str (bB I q (congrArg not zr))
  | _=>exact absurd (show false=true from hs) Bool.false_ne_true
 | byt i=>
  obtain⟨t,rfl⟩:=rx
  cases y with
  | byt j=>obtain⟨t',rfl⟩:=ry;exact PySem.W.ne_bytes (bB I q (congrArg not zu))
  | _=>exact absurd (show false=true from hs) Bool.false_ne_true
 | _=>cases y <;> exact absurd (show false=true from hs) Bool.false_ne_true
theorem Ms:OpR X (compareOp .Lt) (rI0 λi j=>.bl (decide (i < j))):=Et λ_ _ _ _ _ _ _ q=>lt_int q
theorem G7:OpR X (compareOp .LtE) (rI0 λi j=>.bl (decide (i<=j))):=Et λ_ _ _ _ _ _ _ q=>le_int q
theorem Mt:OpR X (compareOp .Gt) (rI0 λi j=>.bl (decide (j < i))):=Et λ_ _ _ _ _ _ _ q=>gt_int q
theorem Cj:OpR X (compareOp .In) (λx y H Q=>∃ i j,x=.str i/\y=.str j/\Q (.bl (!(Builtin.Str.occurrences j i 0 j.length 1).isEmpty)) H):=by
 intro pins s σ H x y v u Q I rx ry h
 obtain⟨i,j,rfl,rfl,q⟩:=h
 obtain⟨t,rfl⟩:=rx
 obtain⟨t',rfl⟩:=ry
 exact in_str (bB I q rfl)
theorem J1:OpR X (compareOp .Is) (λx y H Q=>y=.non/\Q (.bl (decide (x=.non))) H):=by
 intro pins s σ H x y v u Q I rx ry h
 obtain⟨rfl,q⟩:=h
 cases ry
 refine is_none_gen (bB I q ?_)
 cases x <;> first
  | (cases rx;rfl)
  | (obtain⟨t,rfl⟩:=rx;rfl)
theorem OpR.or {f:Value->Value->Sem Value}{r r':R2}(h:OpR X f r) (h':OpR X f r'):OpR X f (λx y H Q=>r x y H Q\/r' x y H Q):=by
 intro pins s σ H x y v u Q I rx ry q
 rcases q with q | q
 ·exact h pins s σ H x y v u Q I rx ry q
 ·exact h' pins s σ H x y v u Q I rx ry q
theorem qp (b:Expr){op:CmpOp}(h:op≠.In:=by decide) (h2:op≠.NotIn:=by decide):behindInMarks op b=false:=by
 have e1:(op == CmpOp.In)=false:=by cases op <;> first | rfl | exact absurd rfl h
 have e2:(op == CmpOp.NotIn)=false:=by cases op <;> first | rfl | exact absurd rfl h2
 cases b <;> simp[behindInMarks,e1,e2]
theorem Hs {op:CmpOp}{r:R2}(ho:OpR X (compareOp op) r) (ha:PE X a ta) (hb:PE X b tb) (hm:behindInMarks op b=false):PE X (.Compare a [op] [b] pos) (tOp r ta tb):=by
 intro pins s σ H Q I h
 exact wpAny_Compare1 (Es ha hb I h λv u s2 x y H2 I2 rx ry q=>ho pins s2 σ H2 x y v u Q I2 rx ry q) hm
def Mu (t:TE):TT:=fun σ H Q=>t σ H λx H'=>∃ k,x=.bl k/\Q k H'
theorem Ht {op:CmpOp}{r:R2}(ho:OpR X (compareOp op) r) (ha:PE X a ta) (hb:PE X b tb) (hm:behindInMarks op b=false):PT X (.Compare a [op] [b] pos) (Mu (tOp r ta tb)):=by
 intro pins s σ H Q I h
 refine wpAny_isTrue_Compare1 (thn (ha pins s σ H _ I h) λv s1 ⟨x,H1,I1,r1,q1⟩=>thn (hb pins s1 σ H1 _ I1 q1) λu s2 ⟨y,H2,I2,r2,q2⟩=>
  thn (ho pins s2 σ H2 x y v u _ I2 r1 r2 q2) λc s3 ⟨z,H3,I3,r3,k,e,q3⟩=>?_) hm
 subst e
 cases r3
 exact wpAny_truthy_bool ⟨H3,I3,q3⟩
def J2 (r r':R2) (ta tb tc:TE):TE:=fun σ H Q=>ta σ H λx H1=>tb σ H1 λy H2=>r x y H2 λz H3=>∃ k,z=.bl k /\
 (if k=true then tc σ H3 λw' H4=>r' y w' H4 Q else Q (.bl false) H3)
theorem Ew {op op':CmpOp}{r r':R2}(ho:OpR X (compareOp op) r) (ho':OpR X (compareOp op') r') (ha:PE X a ta) (hb:PE X b tb) (hc:PE X c tc)
  (hm:lastMarks [op,op'] [b,c]=false:=by with_unfolding_all rfl):PE X (.Compare a [op,op'] [b,c] pos) (J2 r r' ta tb tc):=by
 intro pins s σ H Q I h
 refine Compare_chain (thn (ha pins s σ H _ I h) λv s1 ⟨x,H1,I1,r1,q1⟩=>chain_link (thn (hb pins s1 σ H1 _ I1 q1) λu s2 ⟨y,H2,I2,r2,q2⟩=>
  thn (ho pins s2 σ H2 x y v u _ I2 r1 r2 q2) λd s3 ⟨z,H3,I3,r3,k,e,q3⟩=>?_)) hm
 subst e
 cases r3
 refine wpAny_truthy_bool ?_
 cases k with
 | false=>exact ite_ff ⟨.bl false,H3,I3,rfl,q3⟩
 | true=>exact ite_tt (chain_last (thn (hc pins s3 σ H3 _ I3 q3) λw' s4 ⟨z',H4,I4,r4,q4⟩=>ho' pins s4 σ H4 y z' u w' Q I4 r2 r4 q4))
theorem oM:(sizeLine:Nat) < 2 ^ 63:=by rw[sizeLine_eq];decide
theorem Ah:OpR X (binaryOp .Add) (λx y H Q=>∃ i j,x=.str i/\y=.str j/\i.length+j.length<=sizeLine/\Q (.str (i++j)) H):=by
 intro pins s σ H x y v u Q I rx ry h
 obtain⟨i,j,rfl,rfl,hz,q⟩:=h
 obtain⟨t,rfl⟩:=rx
 obtain⟨t',rfl⟩:=ry
 exact add_str (λt' tk=>⟨.str (i++j),H,I.tok _,⟨_,rfl⟩,q⟩) hz
theorem vals1 {x:V}{us:List Value}(r:Vals [x] us):∃ u,us=[u]/\RelV x u:=by
 cases r with
 | cons r1 r2=>cases r2;exact⟨_,rfl,r1⟩
theorem vals2 {x y:V}{us:List Value}(r:Vals [x,y] us):∃ u w',us=[u,w']/\RelV x u/\RelV y w':=by
 cases r with
 | cons r1 r2=>
  cases r2 with
  | cons r3 r4=>cases r4;exact⟨_,_,rfl,r1,r3⟩
end
end L2
namespace L2
open PySem PySem.Spec PyProof.Rows
structure ObjM (h:Heap) (x dx C:Addr) (mA:Str->Option Value):Prop where
 obj:h.get? x=some (PySem.W.instObj C dx)
 ns:h.Ns1 dx mA
 ne:dx≠x
theorem Ck {h:Heap}{dx:Addr}{mA:Str->Option Value}(n:h.Ns1 dx mA):∃ od,h.get? dx=some od/\∀ name,PySem.W.lookIn name od=some (mA name):=by
 obtain⟨o,es,ep,ho,hd,hk,_,hm⟩:=n
 refine⟨o,ho,λname=>?_⟩
 have e:=hm name
 unfold nsFind findBy at e
 rw[← Array.find?_toList] at e
 unfold PySem.W.lookIn
 rw[hd]
 dsimp only
 split
 ·rename_i y q
  rw[q] at e
  exact congrArg some e
 ·rename_i q
  rw[q] at e
  have a:es.toList.any (·.refKey)=false:=by
   rw[List.any_eq_false]
   intro y hy
   obtain⟨z,t,hkey⟩:=hk y (Array.mem_toList_iff.mp hy)
   simp[DictEntry.refKey,hkey]
  have a':¬ es.toList.any (·.refKey)=true:=by rw[a];exact Bool.false_ne_true
  rw[if_neg a']
  exact congrArg some e
theorem ObjM.look {h:Heap}{x dx C:Addr}{mA:Str->Option Value}(I:ObjM h x dx C mA):∃ od,PySem.W.InstAt h x (PySem.W.instObj C dx) C (some od)/\∀ name,PySem.W.lookIn name od=some (mA name):=
 let ⟨od,ho,hl⟩:=Ck I.ns
 ⟨od,⟨I.obj,rfl,rfl,ho⟩,hl⟩
section
variable {prog:Program}{w:World}{A:Around}{E:Value->Shared->Prop}{s:Shared}{K:PySem.W.Frag}{x dx C f:Addr}{mA:Str->Option Value}{name:Str}{v:Value}
theorem Hu {expr:Bool}{Q:Value->Shared->Prop}(X:K.In s.heap) (I:ObjM s.heap x dx C mA) (hg:PySem.W.plainGet K C name=true) (hh:PySem.W.hasDictIn K C=true)
  (ha:PySem.W.findIn K (.ref C) name=some none) (hv:mA name=some v) (hv':PySem.W.handedIn v=true) (h:Q v { s with toks:=s.toks+1 }):
  wpAny (model prog w) A (getAttr (.ref x) name expr) Q E s:=by
 obtain⟨od,J,hl⟩:=I.look
 exact PySem.W.get_value X J (PySem.W.plainGet_of hg).1 (PySem.W.findObj_own hh ha rfl (by rw[hl,hv])) hv' h
theorem Ey {pl:Sem Bool}{Q:Value×List Value->Shared->Prop}(X:K.In s.heap) (I:ObjM s.heap x dx C mA) (hg:PySem.W.plainGet K C name=true)
  (hf:PySem.W.findIn K (.ref C) name=some (some (.ref f))) (ht:PySem.W.isFn K (.ref f)=true) (hv:mA name=none) (h:Q (.ref f,[.ref x]) s):
  wpAny (model prog w) A (getMethod (.ref x) name pl) Q E s:=by
 obtain⟨od,J,hl⟩:=I.look
 exact PySem.W.method_fn X J (PySem.W.plainGet_of hg).1 (PySem.W.plainGet_of hg).2 hf (beq_iff_eq.mp ht) (by show (PySem.W.lookIn name od).map (·.isSome)=some false;rw[hl,hv];rfl) h
theorem Hv {ns:List Str}{Q:Unit->Shared->Prop}(X:K.In s.heap) (I:ObjM s.heap x dx C mA)
  (hs:PySem.W.findIn K (.ref C) "__setattr__" = some (some (.builtin "object.__setattr__"))) (hp:PySem.W.plainOver K C=true) (ht:PySem.W.takerIn K C name=some none) (hh:PySem.W.hasDictIn K C=true)
  (hw:PySem.Within mA ns) (hsz:ns.length<=sizeLine)
  (h:∀ h',ObjM h' x dx C (λy=>if y=name then some v else mA y)->Heap.SameBut dx s.heap h'->Q () { s with heap:=h',toks:=s.toks+2 }):
  wpAny (model prog w) A (setAttr (.ref x) name v) Q E s:=by
 obtain⟨od,J,hl⟩:=I.look
 refine PySem.W.set_plain X J hs (PySem.W.osa_open (s:={ s with toks:=s.toks+1 }) (r:=none) X J hp ht λb=>?_)
 obtain⟨cd,hc,hd'⟩:=PySem.W.any_some hh
 have hx:s.heap.get? x=some ⟨.ref C,some dx,.plain,#[]⟩:=I.obj
 refine wpAny_bind (wpAny_pure (wpAny_bind (wpAny_bind (wpAny_loadPart hx (wpAny_bind (PySem.W.Looks.here (s:={ s with toks:=s.toks+1 }) (PySem.W.looks_clsIn X hc) ?_))))))
 rw[hd']
 refine wpAny_pure (a:=some dx) (wpAny_bind (wpAny_pure (wpAny_bind ?_)))
 refine wpAny_nsSet1 (s:={ s with toks:=s.toks+1 }) I.ns λh' hn2 hs2=>?_
 obtain⟨oD,esD,epD,hoD,hdD,hcD⟩:=hn2.count (PySem.Within.cons name v hw)
 refine wpAny_bind (wpAny_lookBehind hoD (by rw[hdD];exact pastItsLine_dict (Nat.le_trans hcD (by rw[List.length_cons];omega))) ?_)
 exact wpAny_pure (h _ ⟨(hs2.2 _ (Ne.symm I.ne)).trans I.obj,hn2,I.ne⟩ hs2)
theorem Ez {R:Result->Shared->Prop}{vs:List Value}{kw:List (Str×Value)}(X:K.In s.heap) (hm:PySem.W.makesIn K C=true)
  (hi:PySem.W.findIn K (.ref C) "__init__" = some (some (.ref f))) (hf:PySem.W.typeIn K (.ref f)=some (.type "function"))
  (h:codeAny (model prog w) (A.under (.builtin "type.__call__" ⟨.ref C::vs,kw⟩)) (.call (.ref f) ⟨.ref (s.heap.objs.size+1)::vs,kw⟩) (PySem.W.InitBack (s.heap.objs.size+1) R)
   { s with heap:=(s.heap.push PySem.W.emptyDict).push (PySem.W.instObj C s.heap.objs.size) }):
  codeAny (model prog w) A (.call (.ref C) ⟨vs,kw⟩) R s:=by
 obtain⟨hh,g,d,t,os⟩:=s
 exact PySem.W.make_core (PySem.W.makes_of X hm) (PySem.W.looks_findIn X hi) (λself=>PySem.W.bind_fn X self hf) (.inl rfl) h
end
def gR (f:Str) (v:V):List (Str×V)->List (Str×V)
 | []=>[(f,v)]
 | (g,x)::r=>if g=f then (g,v)::r else (g,x)::gR f v r
theorem sG (f g:Str) (v:V):∀ fs:List (Str×V),(gR f v fs).lookup g=if g=f then some v else fs.lookup g
 | []=>by
  show List.lookup g [(f,v)]=_
  by_cases h:g=f
  ·have hb:(g == f)=true:=beq_iff_eq.mpr h
   simp only[List.lookup,hb,if_pos h]
  ·have hb:(g == f)=false:=beq_eq_false_iff_ne.mpr h
   simp only[List.lookup,hb,if_neg h]
 | (k,x)::r=>by
  have ih:=sG f g v r
  rw[show gR f v ((k,x)::r)=(if k=f then (k,v)::r else (k,x)::gR f v r) from rfl]
  by_cases hk:k=f
  ·rw[if_pos hk]
   by_cases h:g=k
   ·have hb:(g == k)=true:=beq_iff_eq.mpr h
    simp only[List.lookup,hb,if_pos (h.trans hk)]
   ·have hb:(g == k)=false:=beq_eq_false_iff_ne.mpr h
    simp only[List.lookup,hb,if_neg (λe:g=f=>h (e.trans hk.symm))]
  ·rw[if_neg hk]
   by_cases h:g=k
   ·have hb:(g == k)=true:=beq_iff_eq.mpr h
    simp only[List.lookup,hb,if_neg (λe:g=f=>hk (h.symm.trans e))]
   ·have hb:(g == k)=false:=beq_eq_false_iff_ne.mpr h
    simp only[List.lookup,hb]
    exact ih
theorem qt (f:Str) (v:V):∀ fs:List (Str×V),f∈(gR f v fs).map (·.1)/\∀ g,g∈fs.map (·.1)->g∈(gR f v fs).map (·.1)
 | []=>⟨by simp[gR],λg h=>by simp at h⟩
 | (k,x)::r=>by
  obtain⟨i1,i2⟩:=qt f v r
  rw[show gR f v ((k,x)::r)=(if k=f then (k,v)::r else (k,x)::gR f v r) from rfl]
  by_cases hk:k=f
  ·rw[if_pos hk]
   subst hk
   exact⟨by simp,λg h=>by simpa using h⟩
  ·rw[if_neg hk]
   refine⟨?_,λg h=>?_⟩
   ·rw[List.map_cons]
    exact List.mem_cons_of_mem _ i1
   ·rw[List.map_cons] at h ⊢
    rcases List.mem_cons.mp h with e | e
    ·exact List.mem_cons.mpr (.inl e)
    ·exact List.mem_cons_of_mem _ (i2 g e)
theorem sH (f:Str) (v:V):∀ fs:List (Str×V),(gR f v fs).length<=fs.length+1
 | []=>by simp[gR]
 | (k,x)::r=>by
  have ih:=sH f v r
  rw[show gR f v ((k,x)::r)=(if k=f then (k,v)::r else (k,x)::gR f v r) from rfl]
  by_cases hk:k=f
  ·rw[if_pos hk,List.length_cons,List.length_cons];omega
  ·rw[if_neg hk,List.length_cons,List.length_cons];omega
theorem RelO.some_of {v:V}{o:Option Value}(r:RelO (some v) o):∃ u,o=some u/\RelV v u:=by
 cases o with
 | none=>exact(show False from r).elim
 | some u=>exact⟨u,rfl,r⟩
theorem RelO.none_of {o:Option Value}(r:RelO none o):o=none:=by
 cases o with
 | none=>rfl
 | some u=>exact(show False from r).elim
theorem Cm {v:V}{u:Value}(r:RelV v u):PySem.W.handedIn u=true:=by
 cases v with
 | non=>cases (show u=Value.none from r);rfl
 | bl b=>cases (show u=Value.bool b from r);rfl
 | int i=>obtain⟨t,e⟩:=(show ∃ t,u=Value.int i t from r);cases e;rfl
 | str x=>obtain⟨t,e⟩:=(show ∃ t,u=Value.str x t from r);cases e;rfl
 | byt b=>obtain⟨t,e⟩:=(show ∃ t,u=Value.bytes b t from r);cases e;rfl
 | flt b=>obtain⟨t,e⟩:=(show ∃ t,u=Value.float b t from r);cases e;rfl
 | ref a=>cases (show u=Value.ref a from r);rfl
 | ty n=>cases (show u=Value.type n from r);rfl
section
variable {P:Program}{w:World}{H H':Hp}{h h':Heap}{a C dx:Addr}{fs fs':List (Str×V)}
theorem rz {K:PySem.W.Frag}(hok:HOk P w K H h) (e:H a=some (.ins C dx fs)):∃ mA,ObjM h a dx C mA/\(∀ f,RelO (fs.lookup f) (mA f))/\PySem.Within mA (fs.map (·.1))/\fs.length<=1000/\H dx=some (.own a):=by
 obtain⟨d,z,ne,ob,mA,n,r,q⟩:=(show ObjOk P w K H h a (.ins C dx fs) from hok a _ e)
 exact⟨mA,⟨ob,n,ne⟩,r,q,z,d⟩
end
structure Cls (K:PySem.W.Frag) (C:Addr):Prop where
 pg:PySem.W.plainGet K C Str.empty=true
 hd:PySem.W.hasDictIn K C=true
 po:PySem.W.plainOver K C=true
 sa:PySem.W.findIn K (.ref C) "__setattr__" = some (some (.builtin "object.__setattr__"))
theorem Cls.get {K:PySem.W.Frag}{C:Addr}(c:Cls K C) (f:Str):PySem.W.plainGet K C f=true:=c.pg
def NoAttr (K:PySem.W.Frag) (C:Addr) (f:Str):Prop:=PySem.W.findIn K (.ref C) f=some none
theorem NoAttr.taker {K:PySem.W.Frag}{C:Addr}{f:Str}(n:NoAttr K C f):PySem.W.takerIn K C f=some none:=by
 unfold PySem.W.takerIn
 rw[show PySem.W.findIn K (.ref C) f=some none from n]
 rfl
structure Meth (K:PySem.W.Frag) (C:Addr) (m:Str) (f:Addr):Prop where
 at_:PySem.W.findIn K (.ref C) m=some (some (.ref f))
 fn:PySem.W.isFn K (.ref f)=true
 kp:PySem.W.keepIn K (.ref f)=true
section
variable {X:Cx}{pins:List (Addr×Obj)}{σ:St}{H:Hp}{s:Shared}{a C dx:Addr}{fs:List (Str×V)}{f:Str}{v:V}{A:Around}{E:Value->Shared->Prop}
theorem Ai {b:Bool}{Q:Value->Shared->Prop}(I:Inv X pins σ H s) (e:H a=some (.ins C dx fs)) (c:Cls X.K C) (n:NoAttr X.K C f) (l:fs.lookup f=some v)
  (h:∀ u s',Inv X pins σ H s'->RelV v u->Q u s'):wpAny (model X.prog X.w) A (getAttr (.ref a) f b) Q E s:=by
 obtain⟨mA,O,r,_,_,_⟩:=rz I.hok e
 obtain⟨u,hu,ru⟩:=RelO.some_of (v:=v) (o:=mA f) (by rw[← l];exact r f)
 exact Hu I.kIn O (c.get f) c.hd n hu (Cm ru) (h u _ (I.tok _) ru)
theorem tY {m:Str}{g:Addr}{pl:Sem Bool}{Q:Value×List Value->Shared->Prop}(I:Inv X pins σ H s) (e:H a=some (.ins C dx fs)) (c:Cls X.K C) (k:Meth X.K C m g) (l:fs.lookup m=none)
  (h:Q (.ref g,[.ref a]) s):wpAny (model X.prog X.w) A (getMethod (.ref a) m pl) Q E s:=by
 obtain⟨mA,O,r,_,_,_⟩:=rz I.hok e
 have hn:mA m=none:=RelO.none_of (by rw[← l];exact r m)
 exact Ey I.kIn O (c.get m) k.at_ k.fn hn h
theorem Aj {y:V}{u:Value}{Q:Unit->Shared->Prop}(I:Inv X pins σ H s) (e:H a=some (.ins C dx fs)) (c:Cls X.K C) (n:NoAttr X.K C f) (hl:fs.length < 1000) (ry:RelV y u)
  (h:∀ s',Inv X pins σ (upd H a (.ins C dx (gR f y fs))) s'->Q () s'):wpAny (model X.prog X.w) A (setAttr (.ref a) f u) Q E s:=by
 obtain⟨mA,O,r,wi,_,ho⟩:=rz I.hok e
 have hz:(fs.map (·.1)).length<=sizeLine:=by rw[List.length_map,sizeLine_eq];omega
 refine Hv I.kIn O c.sa c.po n.taker c.hd wi hz λh' O' sb=>h _ ?_
 have hd:∃ o,h'.get? dx=some o:=let ⟨o,_,_,e',_⟩:=O'.ns;⟨o,e'⟩
 refine I.write (x:=a) (e:=dx) (by rw[e];exact True.intro) (.inr ho) (λb q hb z=>(sb.2 b hb).trans z) hd ?_
 refine⟨by rw[aP O.ne];exact ho,?_,O.ne,O'.obj,_,O'.ns,λg=>?_,λg hg=>?_⟩
 ·have:=sH f y fs;omega
 ·show RelO ((gR f y fs).lookup g) (if g=f then some u else mA g)
  rw[sG]
  by_cases q:g=f
  ·rw[if_pos q,if_pos q];exact ry
  ·rw[if_neg q,if_neg q];exact r g
 ·by_cases q:g=f
  ·rw[q];exact(qt f y fs).1
  ·refine(qt f y fs).2 g (wi g λz=>hg ?_)
   show (if g=f then some u else mA g)=none
   rw[if_neg q];exact z
theorem Inv.made (I:Inv X pins σ H s):Inv X pins σ (upd (upd H s.heap.objs.size (.own (s.heap.objs.size+1))) (s.heap.objs.size+1) (.ins C s.heap.objs.size []))
  { s with heap:=(s.heap.push PySem.W.emptyDict).push (PySem.W.instObj C s.heap.objs.size) }:=by
 have e1:(s.heap.push PySem.W.emptyDict).get? s.heap.objs.size=some PySem.W.emptyDict:=Heap.get?_push_size s.heap rfl
 have e2:((s.heap.push PySem.W.emptyDict).push (PySem.W.instObj C s.heap.objs.size)).get? (s.heap.objs.size+1)=some (PySem.W.instObj C s.heap.objs.size):=by
  have:=Heap.get?_push_size (s.heap.push PySem.W.emptyDict) (o:=PySem.W.instObj C s.heap.objs.size) rfl
  rwa [Heap.size_push] at this
 have e3:(s.heap.push PySem.W.emptyDict).Ns s.heap.objs.size (λ_=>none):=⟨PySem.W.emptyDict,#[],_,e1,rfl,(λe he=>absurd he (by simp)),λ_=>rfl⟩
 have I1:=I.laid (a:=s.heap.objs.size) (o:=.own (s.heap.objs.size+1)) (h':=s.heap.push PySem.W.emptyDict) (t':=s.toks) (λb u q=>Heap.get?_push_of_some _ q) (Nat.le_refl _) ⟨_,e1⟩
 refine I1.laid (a:=s.heap.objs.size+1) (o:=.ins C s.heap.objs.size []) (t':=s.toks) (λb u q=>Heap.get?_push_of_some _ q) (Nat.le_of_eq (Heap.size_push _ _)) ?_
 have ne:s.heap.objs.size≠s.heap.objs.size+1:=Nat.ne_of_lt (Nat.lt_succ_self _)
 refine⟨by rw[aP ne,bK],Nat.zero_le _,ne,e2,λ_=>none,(Heap.Ns1.of_empty e3).at λo q=>Heap.get?_push_of_some _ q,λ_=>True.intro,λy hy=>absurd rfl hy⟩
theorem Hw {prog:Program}{w:World}{env:Env}{e:Expr}{f:Str}{pos:Pos}{s:Shared}{Q:Value->Shared->Prop}(hb:attributeBase e f env (eval e env)=eval e env)
  (h:wpAny (model prog w) A (eval e env) (λo s₁=>wpAny (model prog w) A (getAttr o f true) Q E s₁) E s):wpAny (model prog w) A (eval (.Attribute e f pos) env) Q E s:=
 Attribute_any_ h (by rw[arm_eval_Attribute,hb])
end
def Oa (K:PySem.W.Frag) (ta:TE) (f:Str):TE:=fun σ H Q=>ta σ H λx H1=>∃ a C dx fs v,x=.ref a/\H1 a=some (.ins C dx fs)/\Cls K C/\NoAttr K C f/\fs.lookup f=some v/\Q v H1
def Ob (K:PySem.W.Frag) (ta tv:TE) (f:Str):TS:=λD σ H=>tv σ H λy H1=>ta σ H1 λx H2=>∃ a C dx fs,x=.ref a/\H2 a=some (.ins C dx fs)/\Cls K C/\NoAttr K C f/\fs.length < 1000 /\
 D.nx σ (upd H2 a (.ins C dx (gR f y fs)))
section
variable {X:Cx}{o e value:Expr}{f:Str}{pos pos' tpos:Pos}{ta tv:TE}
theorem J3 (he:PE X e ta) (hb:attributeBase e f X.env (eval e X.env)=eval e X.env):PE X (.Attribute e f pos) (Oa X.K ta f):=by
 intro pins s σ H Q I h
 refine Hw hb (thn (he pins s σ H _ I h) ?_)
 rintro u s1 ⟨x,H1,I1,rx,a,C,dx,fs,v,ex,ea,c,n,l,q⟩
 subst ex
 obtain rfl:u=Value.ref a:=rx
 exact Ai I1 ea c n l λu' s2 I2 ru=>⟨v,H1,I2,ru,q⟩
theorem J4 (ha:PE X o ta) (hv:PE X value tv) (hs:swapsWith value (some (.Attribute o f pos')) pos.line X.env=pure false):PS X (.Assign [.Attribute o f pos'] value pos) (Ob X.K ta tv f):=by
 intro pins s σ H D I h
 refine plainObj_wpAny_Assign_Attribute (thn (hv pins s σ H _ I h) λu s1 ⟨y,H1,I1,ry,q⟩=>thn (ha pins s1 σ H1 _ I1 q) ?_) hs
 rintro ov s2 ⟨x,H2,I2,rx,a,C,dx,fs,ex,ea,c,n,l,q2⟩
 subst ex
 obtain rfl:ov=Value.ref a:=rx
 exact Aj I2 ea c n l ry λs3 I3=>⟨σ,_,I3,q2⟩
end
section
variable {X:Cx}{pins:List (Addr×Obj)}{σ:St}{H:Hp}{s:Shared}{A:Around}{E:Value->Shared->Prop}{Q:Value->Shared->Prop}{c:Value}{b:Bool}
inductive TyOf (K:PySem.W.Frag) (H:Hp):V->Value->Prop where
 | non:TyOf K H .non (.type "NoneType")
 | bl (x:Bool):TyOf K H (.bl x) (.type "bool")
 | int (i:Int):TyOf K H (.int i) (.type "int")
 | str (x:Str):TyOf K H (.str x) (.type "str")
 | flt (x:UInt64):TyOf K H (.flt x) (.type "float")
 | lst {a:Addr}{xs:List V}(e:H a=some (.lst xs)):TyOf K H (.ref a) (.type "list")
 | frz {a:Addr}{o:Obj}{xs:List V}(e:H a=some (.frz o (.lst xs))):TyOf K H (.ref a) (.type "list")
 | tup {a:Addr}{xs:List V}(e:H a=some (.tup xs)):TyOf K H (.ref a) (.type "tuple")
 | tupC {a:Addr}{xs:List V}(e:KTup K a xs):TyOf K H (.ref a) (.type "tuple")
 | dK {a:Addr}{kvs:List (Key×V)}(e:H a=some (.dK kvs)):TyOf K H (.ref a) (.type "dict")
 | dT {a:Addr}{kvs:List (List Key×V)}(e:H a=some (.dT kvs)):TyOf K H (.ref a) (.type "dict")
 | ins {a C dx:Addr}{fs:List (Str×V)}(e:H a=some (.ins C dx fs)) (cl:Cls K C) (ha:PySem.W.findIn K (.ref C) "__class__" = some (some (.builtin "object.__class__")))
   (hn:PySem.W.specialIn K (.builtin "object.__class__") "__get__" = some (some (.builtin "getset_descriptor.__get__"))) (htk:PySem.W.takesIn K (.builtin "object.__class__")=some true)
   (hm:PySem.W.mroIn K C (.type "object")=some true):TyOf K H (.ref a) (.ref C)
theorem Cp {x:V}{u t:Value}(I:Inv X pins σ H s) (rx:RelV x u) (ty:TyOf X.K H x t) (e:PySem.W.kitOne X.K t c=some b) (h:∀ tk,Q (.bool b) { s with toks:=tk }):
  wpAny (model X.prog X.w) A (call (.builtin "isinstance") [u,c]) Q E s:=by
 cases ty with
 | non=>cases (show u=Value.none from rx);exact PySem.W.kia_one PySem.W.kitx_none I.kIn True.intro e (λz=>nomatch z) h
 | bl y=>cases (show u=Value.bool y from rx);exact PySem.W.kia_one PySem.W.kitx_bool I.kIn True.intro e (λz=>nomatch z) h
 | int i=>obtain⟨t,q⟩:=(show ∃ t,u=Value.int i t from rx);cases q;exact PySem.W.kia_one PySem.W.kitx_int I.kIn True.intro e (λz=>nomatch z) h
 | str y=>obtain⟨t,q⟩:=(show ∃ t,u=Value.str y t from rx);cases q;exact PySem.W.kia_one PySem.W.kitx_str I.kIn True.intro e (λz=>nomatch z) h
 | flt y=>obtain⟨t,q⟩:=(show ∃ t,u=Value.float y t from rx);cases q;exact PySem.W.kia_one PySem.W.kitx_float I.kIn True.intro e (λz=>nomatch z) h
 | @lst a xs ea=>
  cases (show u=Value.ref a from rx)
  obtain⟨_,_,n,_,h1⟩:=(show ObjOk X.prog X.w X.K H s.heap a (.lst xs) from I.hok a _ ea)
  exact PySem.W.kia_one PySem.W.kitx_list I.kIn ⟨_,h1,rfl⟩ e (λz=>nomatch z) h
 | @frz a ob xs ea=>
  cases (show u=Value.ref a from rx)
  obtain⟨_,_,_,n,_,h1⟩:=(show ObjOk X.prog X.w X.K H s.heap a (.frz ob (.lst xs)) from I.hok a _ ea)
  exact PySem.W.kia_one PySem.W.kitx_list I.kIn ⟨_,h1,rfl⟩ e (λz=>nomatch z) h
 | @tup a xs ea=>
  cases (show u=Value.ref a from rx)
  obtain⟨_,_,_,p⟩:=(show ObjOk X.prog X.w X.K H s.heap a (.tup xs) from I.hok a _ ea)
  obtain⟨o,h1,h2,_⟩:=p
  exact PySem.W.kia_one PySem.W.kitx_tuple I.kIn ⟨o,h1,h2⟩ e (λz=>nomatch z) h
 | @tupC a xs e1=>
  cases (show u=Value.ref _ from rx)
  obtain⟨o,its,n,g1,g2,g3,_⟩:=e1
  exact PySem.W.kia_one PySem.W.kitx_tuple I.kIn ⟨o,I.kIn _ o g1,g2⟩ e (λz=>nomatch z) h
 | @dK a kvs ea=>
  cases (show u=Value.ref a from rx)
  obtain⟨_,_,vs,_,p⟩:=(show ObjOk X.prog X.w X.K H s.heap a (.dK kvs) from I.hok a _ ea)
  obtain⟨o,es,ep,h1,h2,_⟩:=p
  exact PySem.W.kia_one PySem.W.kitx_dict I.kIn ⟨o,h1,h2.1⟩ e (λz=>nomatch z) h
 | @dT a kvs ea=>
  cases (show u=Value.ref a from rx)
  obtain⟨_,_,xs,_,o,es,ep,h1,h2,_⟩:=(show ObjOk X.prog X.w X.K H s.heap a (.dT kvs) from I.hok a _ ea)
  exact PySem.W.kia_one PySem.W.kitx_dict I.kIn ⟨o,h1,h2.1⟩ e (λz=>nomatch z) h
 | @ins a C dx fs ea cl ha hn htk hm=>
  cases (show u=Value.ref a from rx)
  obtain⟨mA,O,_⟩:=rz I.hok ea
  obtain⟨od,J,_⟩:=O.look
  exact PySem.W.kia_one (PySem.W.kitx_own (cl.get _) cl.hd ha hn htk hm) I.kIn J e (λz=>nomatch z) h
end
end L2
namespace L2
open PySem PySem.Spec PyProof.Rows
structure Room (k:Nat) (A:Around):Prop where
 hd:A.handled=none
 dp:A.depth+3*k+5 < recursionLimit
 un:A.units+16*k+200 < cLine
theorem Room.mono {j k:Nat}{A:Around}(r:Room k A) (h:j<=k):Room j A:=⟨r.hd,by have:=r.dp;omega,by have:=r.un;omega⟩
theorem Room.deeper {k:Nat}{A:Around}(r:Room (k+1) A) (env:Env):Room k (A.deeper env):=
 ⟨r.hd,by have:=r.dp;show A.depth+1+3*k+5 < _;omega,by have:=r.un;show A.units+3+16*k+200 < _;omega⟩
theorem Ak {A:Around}{C:Addr}{us:List Value}{kw:List (Str×Value)}:(A.under (.builtin "type.__call__" ⟨.ref C::us,kw⟩)).depth=A.depth+1:=by
 first | rfl | simp[Around.under,Code.weight,Code.isCreation,Code.isGuard,Code.isCaller,Code.frames,Code.isFrame,guardIds]
theorem Al {A:Around}{C:Addr}{us:List Value}{kw:List (Str×Value)}:(A.under (.builtin "type.__call__" ⟨.ref C::us,kw⟩)).units=A.units+1:=by
 first | rfl | simp[Around.under,Code.cUnits,Code.frames,Code.isFrame]
theorem Room.make {k:Nat}{A:Around}(r:Room (k+1) A) (C:Addr) (us:List Value) (kw:List (Str×Value)):Room k (A.under (.builtin "type.__call__" ⟨.ref C::us,kw⟩)):=
 ⟨r.hd,by have:=r.dp;rw[Ak];omega,by have:=r.un;rw[Al];omega⟩
theorem Room.depth {k:Nat}{A:Around}(r:Room k A):A.depth < recursionLimit:=by have:=r.dp;omega
theorem Room.units {k:Nat}{A:Around}(r:Room k A):A.units+64 < cLine:=by have:=r.un;omega
def J5:TA:=λ_ H Q=>Q [] H
def Mv (ta:TE) (tr:TA):TA:=fun σ H Q=>ta σ H λx H1=>tr σ H1 λxs H2=>Q (x::xs) H2
section
variable {X:Cx}{e:Expr}{es:List Expr}{te:TE}{t:TA}{pos:Pos}
theorem gf:PA X [] J5:=λ_ _ _ _ H Q I h=>Calls.spliced_nil ⟨[],H,I,.nil,h⟩
theorem cO (ha:PE X e te) (hr:PA X es t) (hs:starEach (e::es) X.env=(false,eval e X.env)::starEach es X.env:=by rfl):PA X (e::es) (Mv te t):=by
 intro pos pins s σ H Q I h
 rw[hs]
 show wpAny _ _ (spliced ((false,eval e X.env)::backTo pos (starEach es X.env))) _ _ s
 refine Calls.spliced_cons (thn (ha pins s σ H _ I h) ?_)
 rintro u s1 ⟨x,H1,I1,r1,q1⟩
 exact thn (hr pos pins s1 σ H1 _ I1 q1) λus s2 ⟨xs,H2,I2,r2,q2⟩=>⟨x::xs,H2,I2,.cons r1 r2,q2⟩
def Oc (t:TA):TE:=fun σ H Q=>t σ H λxs H1=>xs.length<=sizeLine/\∀ p,H1 p=none->Q (.ref p) (upd H1 p (.tup xs))
def Od (t:TA):TE:=fun σ H Q=>t σ H λxs H1=>xs.length<=sizeLine/\∀ p,H1 p=none->Q (.ref p) (upd H1 p (.lst xs))
theorem J6 {x1}(h:PA X es t):PE X (.Tuple es x1 pos) (Oc t):=by
 intro pins s σ H Q I hq
 refine wpAny_Tuple_spliced (thn (h pos pins s σ H _ I hq) λus s1 ⟨xs,H1,I1,r,z,q⟩=>⟨by rw[← r.length];exact z,?_⟩)
 have hf:H1 s1.heap.objs.size=none:=I1.hok.fresh (Nat.le_refl _)
 refine⟨.ref s1.heap.objs.size,upd H1 s1.heap.objs.size (.tup xs),I1.laid (t':=s1.toks) (λb u e=>Heap.get?_push_of_some _ e) (Nat.le_refl _) ?_,rfl,q _ hf⟩
 exact⟨z,us,r,⟨_,Heap.get?_push_size _ rfl,rfl,_,rfl⟩⟩
theorem J7 (h:PA X es t):PE X (.List es pos) (Od t):=by
 intro pins s σ H Q I hq
 refine wpAny_List_spliced (thn (h pos pins s σ H _ I hq) λus s1 ⟨xs,H1,I1,r,z,q⟩=>⟨by rw[← r.length];exact z,?_⟩)
 have hf:H1 s1.heap.objs.size=none:=I1.hok.fresh (Nat.le_refl _)
 refine⟨.ref s1.heap.objs.size,upd H1 s1.heap.objs.size (.lst xs),I1.laid (t':=s1.toks) (λb u e=>Heap.get?_push_of_some _ e) (Nat.le_refl _) ?_,rfl,q _ hf⟩
 exact⟨z,us,0,r,Heap.get?_push_size _ rfl⟩
end
abbrev Sp:=List V->Hp->VK->XK->Prop
abbrev CXT:=List Env->Hp->Shared->XK->Value->Shared->Prop
structure Env0 (P:Program) (w:World) (K:PySem.W.Frag) (mg:Str->Option Value) (base:Heap) (A:Around) (outer:List Env) (s:Shared) (H:Hp):Prop where
 frames:A.frames=some outer
 mod:Mod K mg base
 bs:∀ b o,base.get? b=some o->s.heap.get? b=some o/\H b=none
 bsz:base.objs.size<=s.heap.objs.size
 funs:s.heap.FunFrames base outer
 frf:∀ b∈frs outer,H b=none
 hok:HOk P w K H s.heap
 bare:AllBare s.gens
def CE (outer:List Env) (P:Program) (w:World) (K:PySem.W.Frag) (H:Hp) (s:Shared) (Q:VK) (u:Value) (s':Shared):Prop:=
 ∃ v H',s'.os=s.os/\AllBare s'.gens/\Un (frs outer) [] H H' s.heap s'.heap/\HOk P w K H' s'.heap/\RelV v u/\Q v H'
def CR (CX:CXT) (outer:List Env) (P:Program) (w:World) (K:PySem.W.Frag) (H:Hp) (s:Shared) (Q:VK) (E:XK) (r:Result) (s':Shared):Prop:=
 match r with
 | .ok (.ret u)=>CE outer P w K H s Q u s'
 | .ok _=>False
 | .error e=>CX outer H s E e s'
structure FnOk (P:Program) (w:World) (K:PySem.W.Frag) (mg:Str->Option Value) (base:Heap) (CX:CXT) (k:Nat) (f:Addr) (fd:FuncData) (ps:List Str) (sp:Sp):Prop where
 len:∀ vs H Q E,sp vs H Q E->vs.length=ps.length
 run:∀ (A:Around) (outer:List Env) (s:Shared) (H:Hp) (args:Args) (us:List Value) (vs:List V) (Q:VK) (E:XK),Room k A->Env0 P w K mg base A outer s H->BindsTo s fd args (ps.zip us)->Vals vs us->sp vs H Q E->
  codeAny (model P w) A (.call (.ref f) args) (CR CX outer P w K H s Q E) s
theorem FnOk.imp {P:Program}{w:World}{K:PySem.W.Frag}{mg:Str->Option Value}{base:Heap}{CX:CXT}{k:Nat}{f:Addr}{fd:FuncData}{ps:List Str}{sp sp':Sp}(F:FnOk P w K mg base CX k f fd ps sp)
  (h:∀ vs H Q E,sp' vs H Q E->sp vs H Q E):FnOk P w K mg base CX k f fd ps sp':=
 ⟨λvs H Q E q=>F.len vs H Q E (h _ _ _ _ q),λA outer s H args us vs Q E hr he hb hv hs=>F.run A outer s H args us vs Q E hr he hb hv (h _ _ _ _ hs)⟩
theorem Env0.make {P:Program}{w:World}{K:PySem.W.Frag}{mg:Str->Option Value}{base:Heap}{A:Around}{outer:List Env}{s:Shared}{H:Hp}(e:Env0 P w K mg base A outer s H) (C:Addr) (us:List Value) (kw:List (Str×Value)):
  Env0 P w K mg base (A.under (.builtin "type.__call__" ⟨.ref C::us,kw⟩)) outer s H:=⟨by first | exact e.frames | (simpa [Around.under,Code.envs,Code.isFrame,pushEnvs] using e.frames),e.mod,e.bs,e.bsz,e.funs,e.frf,e.hok,e.bare⟩
section
variable {X:Cx}{pins:List (Addr×Obj)}{σ:St}{H:Hp}{s s':Shared}
theorem Inv.env0 (I:Inv X pins σ H s):Env0 X.prog X.w X.K X.mg X.base X.A X.stack s H:=
 ⟨I.ok.frames,I.ok.mod,I.bs,Nat.le_trans I.ok.bsz I.sz,I.stack,I.stkFree,I.hok,I.bare⟩
theorem Inv.after {Q:VK}{u:Value}(I:Inv X pins σ H s) (h:CE X.stack X.prog X.w X.K H s Q u s'):EP X pins σ Q u s':=by
 obtain⟨v,H',os,bare,un,hok,r,q⟩:=h
 obtain⟨hh,g,d,t,os'⟩:=s'
 obtain rfl:os'=s.os:=os
 exact⟨v,H',I.call (h':=hh) (g':=g) (d':=d) (t':=t) (ch:=[]) un hok bare (λb z=>absurd z (by simp)),r,q⟩
end
def G8 (sp:Sp) (dvs:List V) (E:XK) (t:TA):TE:=fun σ H Q=>t σ H λvs H1=>sp (vs++dvs) H1 Q E
def G9 (C:Addr) (m:Str) (sp:Sp) (dvs:List V) (E:XK) (ta:TE) (t:TA):TE:=fun σ H Q=>ta σ H λx H1=>∃ a dx fs,x=.ref a/\H1 a=some (.ins C dx fs)/\fs.lookup m=none /\
 t σ H1 λvs H2=>sp (x::(vs++dvs)) H2 Q E
def G_ (C:Addr) (sp:Sp) (dvs:List V) (E:XK) (t:TA):TE:=fun σ H Q=>t σ H λvs H1=>∀ x dx,H1 x=none->H1 dx=none->dx≠x->
 sp (.ref x::(vs++dvs)) (upd (upd H1 dx (.own x)) x (.ins C dx [])) (λv H2=>v=.non/\Q (.ref x) H2) E
def Binds (K:PySem.W.Frag) (fd:FuncData) (ps:List Str) (ds:List Value):Prop:=
 ∀ (s:Shared) (us:List Value),K.In s.heap->(us++ds).length=ps.length->BindsTo s fd ⟨us,[]⟩ (ps.zip (us++ds))
theorem Binds.all {K:PySem.W.Frag}{fd:FuncData}{ps:List Str}(h:∀ us:List Value,us.length=ps.length->bindArgs fd ⟨us,[]⟩=pure (ps.zip us)):Binds K fd ps []:=λs us _ hl=>by
 rw[List.append_nil] at hl ⊢
 exact .of_eq (h us hl)
def mY (CX:CXT) (X:Cx) (E:XK):Prop:=∀ (pins:List (Addr×Obj)) (σ:St) (H:Hp) (s:Shared) (e:Value) (s':Shared),Inv X pins σ H s->CX X.stack H s E e s'->X.xe e s'
section
variable {X:Cx}{CX:CXT}{k:Nat}{f C:Addr}{fd:FuncData}{ps:List Str}{sp:Sp}{dvs:List V}{ds:List Value}{E:XK}{x m:Str}{p pos apos:Pos}{e o:Expr}{es:List Expr}{ta:TE}{t:TA}
theorem xF {pins:List (Addr×Obj)}{σ:St}{H:Hp}{s:Shared}{Q:VK}{us:List Value}{vs:List V}(F:FnOk X.prog X.w X.K X.mg X.base CX k f fd ps sp) (hr:Room k X.A) (hb:Binds X.K fd ps ds) (hd:Vals dvs ds) (hx:mY CX X E)
  (I:Inv X pins σ H s) (r:Vals vs us) (h:sp (vs++dvs) H Q E):wpAny (model X.prog X.w) X.A (call (.ref f) us) (EP X pins σ Q) X.xe s:=by
 have r2:Vals (vs++dvs) (us++ds):=r.append hd
 have hl:(us++ds).length=ps.length:=by rw[← r2.length];exact F.len _ _ _ _ h
 refine wpAny_call (codeAny_mono (F.run X.A X.stack s H ⟨us,[]⟩ (us++ds) (vs++dvs) Q E hr I.env0 (hb s us I.kIn hl) r2 h) λr s' hq=>?_)
 cases r with
 | error e=>exact hx pins σ H s e s' I hq
 | ok fl=>
  cases fl with
  | ret u=>exact I.after hq
  | next=>exact False.elim hq
  | brk=>exact False.elim hq
  | cont=>exact False.elim hq
theorem Hx (F:FnOk X.prog X.w X.K X.mg X.base CX k f fd ps sp) (hr:Room k X.A) (hg:Gl X x) (hm:X.mg x=some (.ref f)) (hk:PySem.W.keepIn X.K (.ref f)=true) (hb:Binds X.K fd ps ds) (hd:Vals dvs ds) (hx:mY CX X E)
  (ha:PA X (e::es) t) (hdb:(x == ("__debug__" : Str))=false:=by decide) (he:starEach (e::es) X.env=(false,eval e X.env)::starEach es X.env:=by rfl) (hpl:(backTo pos (starEach es X.env)).any (·.1)=false:=by rfl):
  PE X (.Call (.Name x p) (e::es) [] pos) (G8 sp dvs E t):=by
 intro pins s σ H Q I h
 refine wpAny_Call_Name_kw (uJ I hg hm ?_ hdb)
 refine PySem.W.callWith_K (h₀:=X.base) I.ok.mod.kin hk (thn (ha pos pins s σ H _ I h) λus s1 ⟨vs,H1,I1,r,q⟩=>⟨I1.kIn,?_⟩) he hpl
 exact xF F hr hb hd hx I1 r q
theorem Hy {pl:Sem Bool}(he:PE X o ta) (c:Cls X.K C) (hm:Meth X.K C m f) (F:FnOk X.prog X.w X.K X.mg X.base CX k f fd ps sp) (hr:Room k X.A) (hb:Binds X.K fd ps ds) (hd:Vals dvs ds) (hx:mY CX X E) (ha:PA X (e::es) t)
  (hst:starEach (e::es) X.env=(false,eval e X.env)::starEach es X.env:=by rfl) (hpl:(backTo pos (starEach es X.env)).any (·.1)=false:=by rfl)
  (ht:eval (.Call (.Attribute o m apos) (e::es) [] pos) X.env=(do
   let ov ← eval o X.env
   standAt apos.atName
   let (f,first) ← holding [ov] (getMethod ov m pl)
   callWith pos f first (backTo pos (starEach (e::es) X.env)) (backToKw pos (keywordEach [] X.env))):=by rfl):
  PE X (.Call (.Attribute o m apos) (e::es) [] pos) (G9 C m sp dvs E ta t):=by
 intro pins s σ H Q I h
 refine PySem.W.methodCall_KW (pl:=pl) (thn (he pins s σ H _ I h) ?_) ht
 rintro u s1 ⟨x,H1,I1,rx,a,dx,fs,ex,ea,l,q⟩
 subst ex
 obtain rfl:u=Value.ref a:=rx
 refine tY I1 ea c hm l ?_
 refine PySem.W.callWith_K (first:=[.ref a]) (h₀:=X.base) I.ok.mod.kin hm.kp (thn (ha pos pins s1 σ H1 _ I1 q) λus s2 ⟨vs,H2,I2,r,q2⟩=>⟨I2.kIn,?_⟩) hst hpl
 exact xF (us:=.ref a::us) (vs:=.ref a::vs) F hr hb hd hx I2 (.cons rfl r) q2
theorem EY {pl:Sem Bool}(he:PE X o ta) (c:Cls X.K C) (hm:Meth X.K C m f) (F:FnOk X.prog X.w X.K X.mg X.base CX k f fd ps sp) (hr:Room k X.A) (hb:Binds X.K fd ps ds) (hd:Vals dvs ds) (hx:mY CX X E)
  (ht:eval (.Call (.Attribute o m apos) [] [] pos) X.env=(do
   let ov ← eval o X.env
   standAt apos.atName
   let (f,first) ← holding [ov] (getMethod ov m pl)
   callWith pos f first (backTo pos (starEach [] X.env)) (backToKw pos (keywordEach [] X.env))):=by rfl):
  PE X (.Call (.Attribute o m apos) [] [] pos) (G9 C m sp dvs E ta J5):=by
 intro pins s σ H Q I h
 refine PySem.W.methodCall_KW (pl:=pl) (thn (he pins s σ H _ I h) ?_) ht
 rintro u s1 ⟨x,H1,I1,rx,a,dx,fs,ex,ea,l,q⟩
 subst ex
 obtain rfl:u=Value.ref a:=rx
 refine tY I1 ea c hm l ?_
 exact PySem.W.callWith_K0 (first:=[.ref a]) I1.kIn hm.kp (xF (us:=[.ref a]) (vs:=[.ref a]) F hr hb hd hx I1 (.cons rfl .nil) q)
structure Mk (K:PySem.W.Frag) (C f:Addr):Prop where
 makes:PySem.W.makesIn K C=true
 init:PySem.W.findIn K (.ref C) "__init__" = some (some (.ref f))
 fn:PySem.W.isFn K (.ref f)=true
 kp:PySem.W.keepIn K (.ref C)=true
theorem E_ {pins:List (Addr×Obj)}{σ:St}{H:Hp}{s:Shared}{Q:VK}{us:List Value}{vs:List V}(M:Mk X.K C f) (F:FnOk X.prog X.w X.K X.mg X.base CX k f fd ps sp) (hr:Room (k+1) X.A) (hb:Binds X.K fd ps ds) (hd:Vals dvs ds)
  (hx:mY CX X E) (I:Inv X pins σ H s) (r:Vals vs us)
  (h:∀ x dx,H x=none->H dx=none->dx≠x->sp (.ref x::(vs++dvs)) (upd (upd H dx (.own x)) x (.ins C dx [])) (λv H2=>v=.non/\Q (.ref x) H2) E):
  wpAny (model X.prog X.w) X.A (call (.ref C) us) (EP X pins σ Q) X.xe s:=by
 have hq:=h (s.heap.objs.size+1) s.heap.objs.size (I.hok.fresh (Nat.le_succ _)) (I.hok.fresh (Nat.le_refl _)) (Nat.ne_of_lt (Nat.lt_succ_self _))
 have I2:=Inv.made (C:=C) I
 have r2:Vals (V.ref (s.heap.objs.size+1)::(vs++dvs)) (Value.ref (s.heap.objs.size+1)::(us++ds)):=.cons rfl (r.append hd)
 have hl:(Value.ref (s.heap.objs.size+1)::us++ds).length=ps.length:=by
  have e:=r2.length
  rw[F.len _ _ _ _ hq] at e
  exact e.symm
 refine wpAny_call (Ez (f:=f) I.kIn M.makes M.init (beq_iff_eq.mp M.fn) (codeAny_mono (F.run _ X.stack _ _ ⟨Value.ref (s.heap.objs.size+1)::us,[]⟩ (Value.ref (s.heap.objs.size+1)::(us++ds)) _ _ E (hr.make C us [])
  (I2.env0.make C us []) (hb _ (Value.ref (s.heap.objs.size+1)::us) I2.kIn hl) r2 hq) λr s' hq'=>?_))
 cases r with
 | error e=>exact hx pins σ _ _ e s' I2 hq'
 | ok fl=>
  cases fl with
  | ret u=>
   obtain⟨v,H',I3,rv,ev,q3⟩:=I2.after hq'
   subst ev
   exact⟨rv,⟨V.ref (s.heap.objs.size+1),H',I3,rfl,q3⟩⟩
  | next=>exact False.elim hq'
  | brk=>exact False.elim hq'
  | cont=>exact False.elim hq'
theorem Hz (M:Mk X.K C f) (F:FnOk X.prog X.w X.K X.mg X.base CX k f fd ps sp) (hr:Room (k+1) X.A) (hg:Gl X x) (hm:X.mg x=some (.ref C)) (hb:Binds X.K fd ps ds) (hd:Vals dvs ds) (hx:mY CX X E)
  (ha:PA X (e::es) t) (hdb:(x == ("__debug__" : Str))=false:=by decide) (he:starEach (e::es) X.env=(false,eval e X.env)::starEach es X.env:=by rfl) (hpl:(backTo pos (starEach es X.env)).any (·.1)=false:=by rfl):
  PE X (.Call (.Name x p) (e::es) [] pos) (G_ C sp dvs E t):=by
 intro pins s σ H Q I h
 refine wpAny_Call_Name_kw (uJ I hg hm ?_ hdb)
 refine PySem.W.callWith_K (h₀:=X.base) I.ok.mod.kin M.kp (thn (ha pos pins s σ H _ I h) λus s1 ⟨vs,H1,I1,r,q⟩=>⟨I1.kIn,?_⟩) he hpl
 exact E_ M F hr hb hd hx I1 r q
end
section
variable {X:Cx}{CX:CXT}{k:Nat}{f C:Addr}{fd:FuncData}{ps ks:List Str}{sp:Sp}{E:XK}{x m:Str}{p pos apos kpos:Pos}{e o:Expr}{es:List Expr}{kws:List Keyword}{te ta:TE}{t tk:TA}{nm:Option Str}
variable {g:List Value->List Value->List Value}{gV:List V->List V->List V}
end
structure FnScope (N P:List Str) (sc:Scope):Prop where
 kind:sc.kind=.function
 co:sc.isCoroutine=false
 gen:sc.isGenerator=false
 nd:N.Nodup
 pre:N.take P.length=P
 par:∀ x∈P,sc.names.lookup x=some .local\/sc.names.lookup x=some .cell
 nofree:∀ y∈sc.names,y.2≠.free
theorem vq {kindOf:Str->Option NameKind}{x:Str}:∀ {binds:List (Str×Value)}{m:Str->Option Value},(∀ v,(x,v)∉binds)->bindL kindOf binds m x=m x
 | [],_,_=>rfl
 | (n,v)::r,m,h=>by
  unfold bindL
  rw[vq λw hw=>h w (List.mem_cons_of_mem _ hw)]
  split
  ·have:x≠n:=by rintro rfl;exact h v List.mem_cons_self
   simp[this]
  ·rfl
theorem vy {kindOf:Str->Option NameKind}{x:Str}:∀ {binds:List (Str×Value)}{m:Str->Option Value},(∀ v,(x,v)∉binds)->bindC kindOf binds m x=m x
 | [],_,_=>rfl
 | (n,v)::r,m,h=>by
  unfold bindC
  rw[vy λw hw=>h w (List.mem_cons_of_mem _ hw)]
  split
  ·rfl
  ·have:x≠n:=by rintro rfl;exact h v List.mem_cons_self
   simp[this]
theorem vz {kindOf:Str->Option NameKind}{x:Str}{v:Value}:∀ {P:List Str}{vs:List Value}{i:Nat}{m:Str->Option Value},P.Nodup->P[i]?=some x->vs[i]?=some v->kindOf x=some .local->
  bindL kindOf (P.zip vs) m x=some v
 | [],_,_,_,_,h,_,_=>by simp at h
 | _::_,[],_,_,_,_,h,_=>by simp at h
 | p::P,w::vs,0,m,nd,h1,h2,hk=>by
  simp at h1 h2;subst h1;subst h2
  show bindL kindOf ((p,w)::P.zip vs) m p=_
  unfold bindL
  rw[vq λv hv=>(List.nodup_cons.mp nd).1 (List.of_mem_zip hv).1,if_pos hk]
  simp
 | p::P,w::vs,i+1,m,nd,h1,h2,hk=>by
  show bindL kindOf ((p,w)::P.zip vs) m x=_
  unfold bindL
  exact vz (i:=i) (List.nodup_cons.mp nd).2 (by simpa using h1) (by simpa using h2) hk
theorem vA {kindOf:Str->Option NameKind}{x:Str}{v:Value}:∀ {P:List Str}{vs:List Value}{i:Nat}{m:Str->Option Value},P.Nodup->P[i]?=some x->vs[i]?=some v->kindOf x≠some .local->
  bindC kindOf (P.zip vs) m x=some v
 | [],_,_,_,_,h,_,_=>by simp at h
 | _::_,[],_,_,_,_,h,_=>by simp at h
 | p::P,w::vs,0,m,nd,h1,h2,hk=>by
  simp at h1 h2;subst h1;subst h2
  show bindC kindOf ((p,w)::P.zip vs) m p=_
  unfold bindC
  rw[vy λv hv=>(List.nodup_cons.mp nd).1 (List.of_mem_zip hv).1,if_neg hk]
  simp
 | p::P,w::vs,i+1,m,nd,h1,h2,hk=>by
  show bindC kindOf ((p,w)::P.zip vs) m x=_
  unfold bindC
  exact vA (i:=i) (List.nodup_cons.mp nd).2 (by simpa using h1) (by simpa using h2) hk
def start (N:List Str) (vs:List V):St:=vs.map some++List.replicate (N.length - vs.length) none
def uM (CX:CXT) (P:Program) (w:World) (K:PySem.W.Frag) (mg:Str->Option Value) (base:Heap) (N:List Str) (qual:Str) (scope:Scope) (f:Addr) (cd:Value) (A:Around) (outer:List Env) (s:Shared) (H:Hp) (E:XK):Cx where
 prog:=P
 w:=w
 K:=K
 mg:=mg
 base:=base
 A:=A.deeper (envOfC qual scope s.heap.objs.size f cd)
 N:=N
 s₀:=s
 H₀:=H
 env:=envOfC qual scope s.heap.objs.size f cd
 outer:=outer
 stack:=envOfC qual scope s.heap.objs.size f cd::outer
 ex:=[]
 calm:=true
 fn:=λ_=>true
 pn:=[]
 xe:=λe s'=>wpAny (model P w) (A.deeper (envOfC qual scope s.heap.objs.size f cd)) (leaving (envOfC qual scope s.heap.objs.size f cd) e) (λ_ s''=>CX outer H s E e s'') (λe' s''=>CX outer H s E e' s'') s'
theorem xG {sc:Scope}{n:Nat}{x:Str}(h:sc.names.lookup x=some .cell):∃ c,(cellsFrom n sc.names []).lookup x=some c:=by
 have q:=PySem.W.cellsFrom_some sc.names n [] (.inl h)
 exact Option.isSome_iff_exists.mp q
theorem Cq {CX:CXT}{P:Program}{w:World}{K:PySem.W.Frag}{mg:Str->Option Value}{base:Heap}{N ps:List Str}{qual:Str}{scope:Scope}{f:Addr}{cd:Value}{A:Around}{outer:List Env}{s s1:Shared}{H:Hp}{E:XK}{us:List Value}{vs:List V}
  (S:FnScope N ps scope) (hd:A.handled=none) (e0:Env0 P w K mg base A outer s H) (hl:vs.length=ps.length) (r:Vals vs us)
  (x:InCallC s s.heap.objs.size (bindL (envOfC qual scope s.heap.objs.size f cd).kindOf (ps.zip us) λ_=>none) (cellsFrom (s.heap.objs.size+1) scope.names []) (bindC (envOfC qual scope s.heap.objs.size f cd).kindOf (ps.zip us) λ_=>none) s1):
  Inv (uM CX P w K mg base N qual scope f cd A outer s H E) [] (start N vs) H s1:=by
 have hpl:ps.length<=N.length:=by have:=congrArg List.length S.pre;rw[List.length_take] at this;omega
 obtain⟨h1,tk,rfl,hk⟩:=x.done
 have noA:∀ b:Addr,b∉(uM CX P w K mg base N qual scope f cd A outer s H E).ex:=λb z=>absurd (show b∈([]:List Addr) from z) (by simp)
 refine⟨⟨e0.mod,S.kind,rfl,rfl,Nat.le_refl _,λy z c h1 h2=>?_,λy hy=>?_,λy c _ h=>?_,λ_=>hd,Around.frames_deeper e0.frames,.inr ⟨rfl,rfl⟩,λb z=>absurd z (noA b),e0.bs,e0.bsz,λb _ _=>noA b,λb z=>absurd z (noA b),e0.funs,e0.frf⟩,
  rfl,e0.bare,Un.kept hk,⟨_,x.toInCall.ns,λi y v h1 h2 h3=>?_⟩,λy c h=>⟨_,x.cell y c h⟩,e0.hok.fresh (Nat.le_refl _),λy c h=>?_,λp hp=>absurd (show p∈([]:List (Addr×Obj)) from hp) (by simp),e0.hok.kept hk,?_⟩
 ·exact name_of_addr x.apart (PySem.mem_of_lookup h1) (PySem.mem_of_lookup h2)
 ·have hy:scope.names.lookup y=some .cell\/scope.names.lookup y=some .free:=hy
  rcases hy with hy | hy
  ·exact xG hy
  ·exact absurd rfl (S.nofree _ (PySem.mem_of_lookup hy))
 ·exact Nat.le_of_lt (x.above y c (PySem.mem_of_lookup h))
 ·have hi:i < vs.length:=by
   unfold start at h2
   by_cases hi:i < vs.length
   ·exact hi
   ·rw[List.getElem?_append_right (by simpa using hi)] at h2
    rw[List.getElem?_replicate] at h2
    split at h2 <;> cases h2
  have ha:vs[i]?=some v:=by
   unfold start at h2
   rw[List.getElem?_append_left (by simpa using hi),List.getElem?_map] at h2
   cases e:vs[i]? with
   | none=>rw[e] at h2;cases h2
   | some a=>rw[e] at h2;cases h2;rfl
  obtain⟨u,hu,rv⟩:=r.get ha
  have hp:ps[i]?=some y:=by
   rw[← S.pre,List.getElem?_take_of_lt (by omega)];exact h1
  have ndP:ps.Nodup:=by rw[← S.pre];exact S.nd.sublist (List.take_sublist _ _)
  refine⟨u,rv,?_⟩
  rcases S.par y (List.mem_of_getElem? hp) with k | k
  ·exact .inl ⟨k,vz ndP hp hu k⟩
  ·obtain⟨c,e⟩:=xG (n:=s.heap.objs.size+1) k
   refine .inr ⟨.inl k,c,e,?_⟩
   have q:=x.cell y c e
   rw[vA ndP hp hu (by show scope.names.lookup y≠_;rw[k];decide)] at q
   exact q
 ·exact e0.hok.fresh (Nat.le_of_lt (x.above y c (PySem.mem_of_lookup h)))
 ·unfold start
  show _=N.length
  rw[List.length_append,List.length_map,List.length_replicate]
  omega
theorem Mw {CX:CXT}{P:Program}{w:World}{K:PySem.W.Frag}{mg:Str->Option Value}{base:Heap}{k:Nat}{f:Addr}{name qual:Str}{params:Arguments}{body:List Stmt}{scope:Scope}{dV kV doc pm cdv ct oc:Value}{an od:Option Addr}
  {osl:Array (Option Value)}{N ps:List Str}{sp:Sp}(lk:K.lookup f=some ⟨oc,od,.func (PySem.W.fnOf name qual params body scope dV kV doc pm an cdv ct),osl⟩) (hcd:PySem.W.codeIn K cdv qual=true) (S:FnScope N ps scope)
  (len:∀ vs H Q E,sp vs H Q E->vs.length=ps.length)
  (hbody:∀ (A:Around) (outer:List Env) (s:Shared) (H:Hp) (vs:List V) (Q:VK) (E:XK),Room k (A.deeper (envOfC qual scope s.heap.objs.size f cdv))->sp vs H Q E->
   ∃ t,PSs (uM CX P w K mg base N qual scope f cdv A outer s H E) body t/\t { nx:=λ_ H'=>Q .non H',rt:=Q } (start N vs) H):
  FnOk P w K mg base CX (k+1) f (PySem.W.fnOf name qual params body scope dV kV doc pm an cdv ct) ps sp:=by
 refine⟨len,λA outer s H args us vs Q E hr e0 hb r hsp=>?_⟩
 have hl:=len _ _ _ _ hsp
 have KX:K.In s.heap:=e0.mod.kin.keeps λb o e=>(e0.bs b o e).1
 have lim:s.heap.NoLimit:=e0.mod.nolimit.keeps λb o e=>(e0.bs b o e).1
 have hkind:∀ y∈ps.zip us,scope.names.lookup y.1=some .local\/(scope.names.lookup y.1=some .cell/\((cellsFrom (s.heap.objs.size+1) scope.names []).lookup y.1).isSome=true):=by
  rintro ⟨n,v⟩ hy
  rcases S.par n (List.of_mem_zip hy).1 with q | q
  ·exact .inl q
  ·exact .inr ⟨q,PySem.W.cellsFrom_some _ _ _ (.inl q)⟩
 refine codeAny_call_function hr.depth (KX _ _ lk) rfl S.co S.gen rfl (PySem.W.codeRec_of KX hcd) (hb _ _ _ _ ?_)
 refine wpAny_newFunctionEnv_cells S.kind hkind λenv he s1 x=>?_
 subst he
 refine⟨lim.keeps x.toInCall.keep,codeAny_func ?_⟩
 obtain⟨t,ht,hq⟩:=hbody A outer s H vs Q E (hr.deeper _) hsp
 have I:Inv (uM CX P w K mg base N qual scope f cdv A outer s H E) [] (start N vs) H s1:=Cq S hr.hd e0 hl r x
 refine wpAny_mono (ht [] s1 (start N vs) H _ I hq) (λfl s' hs=>?_) λe s' hs=>hs
 have fin:∀ {σ':St}{H':Hp}{v:V}{u:Value},Inv (uM CX P w K mg base N qual scope f cdv A outer s H E) [] σ' H' s'->RelV v u->Q v H'->CE outer P w K H s Q u s':=
  λ{σ' H' v u} J rv q=>⟨v,H',J.os,J.bare,J.base,J.hok,rv,q⟩
 cases fl with
 | ret u=>
  obtain⟨v,σ',H',J,rv,q⟩:=hs
  exact fin J rv q
 | next=>
  obtain⟨σ',H',J,q⟩:=hs
  exact fin (v:=V.non) (u:=Value.none) J rfl q
 | brk=>
  obtain⟨_,_,_,q⟩:=hs
  exact False.elim q
 | cont=>
  obtain⟨_,_,_,q⟩:=hs
  exact False.elim q
end L2
namespace L2
open PySem PySem.Spec PyProof.Rows
section
variable {X:Cx}{x:Str}{p pos:Pos}{e:Expr}{es:List Expr}{t:TA}{id T:String}{r:List V->Hp->VK->Prop}
def tCB (r:List V->Hp->VK->Prop) (t:TA):TE:=fun σ H Q=>t σ H λvs H1=>r vs H1 Q
theorem xH (hc:CallR X (.builtin id) r) (hg:Gl X x) (hm:X.mg x=none) (hv:bootBuiltins x=some (.builtin id)) (ha:PA X (e::es) t) (hn:x ≠ "__name__" := by decide) (hdb:(x == ("__debug__" : Str))=false:=by decide)
  (he:starEach (e::es) X.env=(false,eval e X.env)::starEach es X.env:=by rfl) (hpl:(backTo pos (starEach es X.env)).any (·.1)=false:=by rfl):PE X (.Call (.Name x p) (e::es) [] pos) (tCB r t):=by
 intro pins s σ H Q I h
 refine wpAny_Call_Name_kw (jM I hg hm hv ?_ hn hdb)
 exact PyProof.Rows.callWith_builtin1 (thn (ha pos pins s σ H _ I h) λus s1 ⟨vs,H1,I1,r1,q1⟩=>hc pins s1 σ H1 vs us Q I1 r1 q1) he hpl
theorem Cr (hc:CallR X (.type T) r) (hg:Gl X x) (hm:X.mg x=none) (hv:bootBuiltins x=some (.type T)) (ha:PA X (e::es) t) (hn:x ≠ "__name__" := by decide) (hdb:(x == ("__debug__" : Str))=false:=by decide)
  (he:starEach (e::es) X.env=(false,eval e X.env)::starEach es X.env:=by rfl) (hpl:(backTo pos (starEach es X.env)).any (·.1)=false:=by rfl):PE X (.Call (.Name x p) (e::es) [] pos) (tCB r t):=by
 intro pins s σ H Q I h
 refine wpAny_Call_Name_kw (jM I hg hm hv ?_ hn hdb)
 exact PyProof.Rows.callWith_type1 (thn (ha pos pins s σ H _ I h) λus s1 ⟨vs,H1,I1,r1,q1⟩=>hc pins s1 σ H1 vs us Q I1 r1 q1) he hpl
end
end L2
namespace L2
open PySem PySem.Spec PyProof.Rows
section
variable {κ:Type} [DecidableEq κ]
def jF (kvs:List (κ×V)) (k:κ):Option V:=(kvs.find? λkv=>decide (kv.1=k)).map (·.2)
def putK (kvs:List (κ×V)) (k:κ) (v:V):List (κ×V):=
 if (kvs.any λkv=>decide (kv.1=k))=true then kvs.map (λkv=>if kv.1=k then (kv.1,v) else kv) else kvs++[(k,v)]
theorem mZ {p:κ×V}{r:List (κ×V)}{k:κ}(e:p.1=k):jF (p::r) k=some p.2:=by simp[jF,List.find?_cons,e]
theorem m8 {p:κ×V}{r:List (κ×V)}{k:κ}(e:¬ p.1=k):jF (p::r) k=jF r k:=by simp[jF,List.find?_cons,e]
theorem xJ (k:κ):∀ kvs:List (κ×V),(kvs.any λkv=>decide (kv.1=k))=(jF kvs k).isSome
 | []=>rfl
 | p::r=>by
  rw[List.any_cons]
  by_cases e:p.1=k
  ·simp only[mZ e,decide_eq_true e,Bool.true_or,Option.isSome_some]
  ·rw[m8 e,decide_eq_false e,Bool.false_or];exact xJ k r
theorem sI (kvs:List (κ×V)) (k:κ) (v:V):(putK kvs k v).length<=kvs.length+1:=by
 unfold putK
 split
 ·rw[List.length_map];omega
 ·rw[List.length_append,List.length_cons,List.length_nil];omega
theorem RelO.isSome_eq {o:Option V}{u:Option Value}(r:RelO o u):o.isSome=u.isSome:=by
 cases o with
 | none=>cases u with
  | none=>rfl
  | some _=>exact(show False from r).elim
 | some _=>cases u with
  | none=>exact(show False from r).elim
  | some _=>rfl
theorem KV.val {kvs:List (κ×V)}{vs:List (κ×Value)}(r:KV kvs vs) (k:κ):RelO (jF kvs k) (valueAt vs k):=by
 unfold KV at r
 induction r with
 | nil=>exact True.intro
 | @cons p q ps qs h t ih=>
  obtain⟨h1,h2⟩:=h
  by_cases e:p.1=k
  ·have e':q.1=k:=h1.symm.trans e
   have b:valueAt (q::qs) k=some q.2:=by simp[valueAt,List.find?_cons,e']
   rw[mZ e,b];exact h2
  ·have e':¬ q.1=k:=λz=>e (h1.trans z)
   have b:valueAt (q::qs) k=valueAt qs k:=by simp[valueAt,List.find?_cons,e']
   rw[m8 e,b];exact ih
theorem KV.any {kvs:List (κ×V)}{vs:List (κ×Value)}(r:KV kvs vs) (k:κ):(kvs.any λkv=>decide (kv.1=k))=vs.any λkv=>decide (kv.1=k):=by
 unfold KV at r
 induction r with
 | nil=>rfl
 | cons h t ih=>rw[List.any_cons,List.any_cons,ih,h.1]
theorem KV.repl {kvs:List (κ×V)}{vs:List (κ×Value)}(r:KV kvs vs) (k:κ){y:V}{u:Value}(ry:RelV y u):
  KV (kvs.map λkv=>if kv.1=k then (kv.1,y) else kv) (vs.map λkv=>if kv.1=k then (kv.1,u) else kv):=by
 unfold KV at r ⊢
 induction r with
 | nil=>exact .nil
 | @cons p q ps qs h t ih=>
  rw[List.map_cons,List.map_cons]
  refine .cons ?_ ih
  obtain⟨h1,h2⟩:=h
  by_cases e:p.1=k
  ·rw[if_pos e,if_pos (h1.symm.trans e)];exact⟨h1,ry⟩
  ·rw[if_neg e,if_neg (λz=>e (h1.trans z))];exact⟨h1,h2⟩
theorem KV.put {kvs:List (κ×V)}{vs:List (κ×Value)}(r:KV kvs vs) (k:κ){y:V}{u:Value}(ry:RelV y u):KV (putK kvs k y) (stored vs k u):=by
 unfold putK stored
 rw[r.any k]
 by_cases e:(vs.any λkv=>decide (kv.1=k))=true
 ·rw[if_pos e,if_pos e];exact r.repl k ry
 ·rw[if_neg e,if_neg e];exact Paired.snoc r ⟨rfl,ry⟩
theorem KV.length {kvs:List (κ×V)}{vs:List (κ×Value)}(r:KV kvs vs):kvs.length=vs.length:=Paired.length r
end
theorem tZ {P:Program}{w:World}{k:Key}{u:Value}(r:RelV (kV k) u):(jt P w).is k u=true:=by
 cases k with
 | inl i=>obtain⟨t,e⟩:=(show ∃ t,u=Value.int i t from r);subst e;exact yX P w i t
 | inr x=>obtain⟨t,e⟩:=(show ∃ t,u=Value.str x t from r);subst e;exact yZ P w x t
theorem Cu {P:Program}{w:World}{k:Key}{u:Value}(r:RelV (kV k) u):(gQ P w).is k u=true:=BW (tZ (P:=P) (w:=w) r)
theorem zx {P:Program}{w:World}:∀ {ks:List Key}{us:List Value},Vals (ks.map kV) us->ItemsAre (gQ P w) ks us
 | [],_,r=>by rw[List.map_nil] at r;cases r;exact .nil
 | k::ks,_,r=>by
  rw[List.map_cons] at r
  cases r with
  | cons h t=>exact .cons (Cu h) (zx t)
theorem vB {P:Program}{w:World}{ks:List Key}{vs:List V}{us:List Value}(kt:xn ks vs) (r:Vals vs us):ItemsAre (gQ P w) ks us:=by
 rcases kt with rfl | ⟨x,b,rfl,rfl⟩
 ·exact zx r
 ·cases r with
  | cons h1 t=>cases t with
   | cons h2 t=>
    cases t
    cases (show _=Value.bool b from h2)
    exact .cons (Cu (k:=.inr x) h1) (.cons (yW b) .nil)
abbrev KT (K:PySem.W.Frag) (H:Hp):List (List Key×V)->List (List Key×Addr×Value)->Prop:=Paired λp q=>p.1=q.1/\CKey K H q.2.1 p.1/\RelV p.2 q.2.2
theorem KT.val {K:PySem.W.Frag}{H:Hp}{kvs:List (List Key×V)}{xs:List (List Key×Addr×Value)}(r:KT K H kvs xs) (k:List Key):RelO (jF kvs k) ((atKey xs k).map (·.2)):=by
 induction r with
 | nil=>exact True.intro
 | @cons p q ps qs h t ih=>
  obtain⟨h1,_,h2⟩:=h
  by_cases e:p.1=k
  ·have e':q.1=k:=h1.symm.trans e
   have b:atKey (q::qs) k=some q.2:=by simp[atKey,List.find?_cons,e']
   rw[mZ e,b];exact h2
  ·have e':¬ q.1=k:=λz=>e (h1.trans z)
   have b:atKey (q::qs) k=atKey qs k:=by simp[atKey,List.find?_cons,e']
   rw[m8 e,b];exact ih
theorem KT.repl {K:PySem.W.Frag}{H:Hp}{kvs:List (List Key×V)}{xs:List (List Key×Addr×Value)}(r:KT K H kvs xs) (k:List Key){y:V}{u:Value}(ry:RelV y u):
  KT K H (kvs.map λkv=>if kv.1=k then (kv.1,y) else kv) (xs.map (putAt k u)):=by
 induction r with
 | nil=>exact .nil
 | @cons p q ps qs h t ih=>
  rw[List.map_cons,List.map_cons]
  refine .cons ?_ ih
  obtain⟨h1,h2,h3⟩:=h
  unfold putAt
  by_cases e:p.1=k
  ·rw[if_pos e,if_pos (h1.symm.trans e)];exact⟨h1,h2,ry⟩
  ·rw[if_neg e,if_neg (λz=>e (h1.trans z))];exact⟨h1,h2,h3⟩
theorem KT.put {K:PySem.W.Frag}{H:Hp}{kvs:List (List Key×V)}{xs:List (List Key×Addr×Value)}(r:KT K H kvs xs) (k:List Key){b:Addr}{y:V}{u:Value}(hb:CKey K H b k) (ry:RelV y u):
  KT K H (putK kvs k y) (storedH xs k b u):=by
 have e:(kvs.any λkv=>decide (kv.1=k))=(atKey xs k).isSome:=by
  rw[xJ,(r.val k).isSome_eq,Option.isSome_map]
 unfold putK storedH
 rw[e]
 by_cases q:(atKey xs k).isSome=true
 ·rw[if_pos q,if_pos q];exact r.repl k ry
 ·rw[if_neg q,if_neg q];exact Paired.snoc r ⟨rfl,hb,ry⟩
theorem KT.keeps {K:PySem.W.Frag}{H H':Hp}{kvs:List (List Key×V)}{xs:List (List Key×Addr×Value)}(r:KT K H kvs xs) (ht:∀ b ys,H b=some (.tup ys)->H' b=some (.tup ys)):KT K H' kvs xs:=
 Paired.mapP r λ_ _ z=>⟨z.1,z.2.1.keeps ht,z.2.2⟩
section
variable {P:Program}{w:World}{K:PySem.W.Frag}{H:Hp}{h:Heap}{a:Addr}
theorem Ha {u:HO}(ok:HOk P w K H h) (e:Rd H a u):ObjOk P w K H h a u:=e.ok ok
theorem rA {kvs:List (Key×V)}(ok:HOk P w K H h) (e:Rd H a (.dK kvs)):kvs.length<=sizeLine/\(a == sysModules)=false/\∃ vs,KV kvs vs/\h.DictOf (jt P w) a vs:=
 show ObjOk P w K H h a (.dK kvs) from Ha ok e
theorem Hb {kvs:List (Key×V)}(ok:HOk P w K H h) (e:H a=some (.dK kvs)):kvs.length<=sizeLine/\(a == sysModules)=false/\∃ vs,KV kvs vs/\h.DictOf (jt P w) a vs:=rA ok (.inl e)
theorem J8 {ks:List Key}(ok:HOk P w K H h) (e:Jv H a ks):(tupleKind (gQ P w)).is h ks a:=by
 obtain⟨vs,e,kt⟩:=e
 obtain⟨_,its,r,o,h1,h2,n,h3⟩:=(show ObjOk P w K H h a (.tup vs) from ok a _ e)
 exact⟨o,its.toArray,n,h1,h2,h3,by simpa using vB kt r⟩
theorem oO {ks:List Key}(kin:K.In h) (ok:HOk P w K H h) (e:CKey K H a ks):(tupleKind (gQ P w)).is h ks a:=by
 rcases e with e | ⟨vs,⟨o,its,n,e1,e2,e3,_,r⟩,kt⟩
 ·exact J8 ok e
 ·exact⟨o,its,n,kin a o e1,e2,e3,vB kt r⟩
theorem J9 {kvs:List (List Key×V)}(kin:K.In h) (ok:HOk P w K H h) (e:Rd H a (.dT kvs)):kvs.length<=sizeLine/\(a == sysModules)=false/\∃ xs,KT K H kvs xs/\DictE (tupleKind (gQ P w)) h a xs:=by
 obtain⟨z,y,xs,r,o,es,ep,h1,h2,h3,h4,h5,h6⟩:=(show ObjOk P w K H h a (.dT kvs) from Ha ok e)
 subst h6
 refine⟨z,y,xs,r,o,es,h1,h2,h3,h4,λx hx=>?_,h5⟩
 have all:∀ {l:List (List Key×V)}{m:List (List Key×Addr×Value)},KT K H l m->∀ x∈m,(tupleKind (gQ P w)).is h x.1 x.2.1:=by
  intro l m q
  induction q with
  | nil=>intro x hx;exact nomatch hx
  | cons hq t ih=>
   intro x hx
   rcases List.mem_cons.mp hx with e | hx
   ·rw[e];exact oO kin ok (by rw[← hq.1];exact hq.2.1)
   ·exact ih x hx
 exact all r x hx
theorem wU {kvs:List (List Key×V)}(kin:K.In h) (ok:HOk P w K H h) (e:Rd H a (.dT kvs)):kvs.length<=sizeLine/\(a == sysModules)=false /\
  ∃ xs,KT K H kvs xs/\h.DictOfH (tupleKind (gQ P w)) a xs:=let ⟨z,y,xs,r,q⟩:=J9 kin ok e;⟨z,y,xs,r,q.of⟩
end
def DGet (K:PySem.W.Frag) (H:Hp) (a:Addr) (y:V) (r:Option V):Prop:=
 (∃ kvs k,Rd H a (.dK kvs)/\y=kV k/\r=jF kvs k)\/∃ kvs k b,Rd H a (.dT kvs)/\y=.ref b/\CKey K H b k/\r=jF kvs k
def DPut (K:PySem.W.Frag) (H:Hp) (a:Addr) (y v:V) (H':Hp):Prop:=
 (∃ kvs k,H a=some (.dK kvs)/\y=kV k/\kvs.length < sizeLine/\H'=upd H a (.dK (putK kvs k v))) \/
 ∃ kvs k b,H a=some (.dT kvs)/\y=.ref b/\CKey K H b k/\kvs.length < sizeLine/\H'=upd H a (.dT (putK kvs k v))
theorem DGet.k {K:PySem.W.Frag}{H:Hp}{a:Addr}{kvs:List (Key×V)}{k:Key}(e:H a=some (.dK kvs)):DGet K H a (kV k) (jF kvs k):=.inl ⟨kvs,k,.inl e,rfl,rfl⟩
theorem DGet.t {K:PySem.W.Frag}{H:Hp}{a b:Addr}{kvs:List (List Key×V)}{k:List Key}(e:H a=some (.dT kvs)) (eb:CKey K H b k):DGet K H a (.ref b) (jF kvs k):=.inr ⟨kvs,k,b,.inl e,rfl,eb,rfl⟩
theorem DPut.k {K:PySem.W.Frag}{H:Hp}{a:Addr}{kvs:List (Key×V)}{k:Key}{v:V}(e:H a=some (.dK kvs)) (hl:kvs.length < sizeLine):DPut K H a (kV k) v (upd H a (.dK (putK kvs k v))):=.inl ⟨kvs,k,e,rfl,hl,rfl⟩
theorem DPut.t {K:PySem.W.Frag}{H:Hp}{a b:Addr}{kvs:List (List Key×V)}{k:List Key}{v:V}(e:H a=some (.dT kvs)) (eb:CKey K H b k) (hl:kvs.length < sizeLine):
  DPut K H a (.ref b) v (upd H a (.dT (putK kvs k v))):=.inr ⟨kvs,k,b,e,rfl,eb,hl,rfl⟩
section
variable {X:Cx}{pins:List (Addr×Obj)}{σ:St}{H:Hp}{s:Shared}{a:Addr}{y v:V}{u r:Value}{o:Option V}{A:Around}{E:Value->Shared->Prop}
theorem Inv.big (I:Inv X pins σ H s):sysModules < s.heap.objs.size:=by
 have h:mainGlobals < s.heap.objs.size:=(I.mod.glob.keeps I.bk).lt
 exact Nat.lt_trans (by decide) h
theorem Cv {Q:Value->Shared->Prop}(hu:A.units+1 < cLine) (I:Inv X pins σ H s) (g:DGet X.K H a y (some v)) (ry:RelV y u) (h:∀ w' s',Inv X pins σ H s'->RelV v w'->Q w' s'):
  wpAny (model X.prog X.w) A (getItem (.ref a) u) Q E s:=by
 rcases g with ⟨kvs,k,e,ey,l⟩ | ⟨kvs,k,b,e,ey,eb,l⟩
 ·subst ey
  obtain⟨z,hd,vs,rel,dd⟩:=rA I.hok e
  obtain⟨w',hw,rw'⟩:=RelO.some_of (v:=v) (o:=valueAt vs k) (by rw[l];exact rel.val k)
  exact wpAny_getItem_of (tZ ry) dd.mapOf hw (h w' _ (I.tok _) rw')
 ·subst ey
  cases (show u=Value.ref b from ry)
  obtain⟨z,hd,xs,rel,dd⟩:=wU I.kIn I.hok e
  obtain⟨w',hw,rw'⟩:=RelO.some_of (v:=v) (o:=(atKey xs k).map (·.2)) (by rw[l];exact rel.val k)
  obtain⟨p,hp,hp2⟩:=Option.map_eq_some_iff.mp hw
  refine wpAny_getItem_heap (tupleKind_room_in1 hu) (oO I.kIn I.hok eb) dd hp ?_
  rw[hp2]
  exact h w' _ (I.tok _) rw'
theorem Oe {Q:Value->Shared->Prop}(hu:A.units+1 < cLine) (I:Inv X pins σ H s) (g:DGet X.K H a y o) (ry:RelV y u) (h:∀ s',Inv X pins σ H s'->Q (.bool o.isSome) s'):
  wpAny (model X.prog X.w) A (compareOp .In u (.ref a)) Q E s:=by
 rcases g with ⟨kvs,k,e,ey,l⟩ | ⟨kvs,k,b,e,ey,eb,l⟩
 ·subst ey
  obtain⟨z,hd,vs,rel,dd⟩:=rA I.hok e
  refine wpAny_in_of (tZ ry) hd dd.mapOf ?_
  rw[← (rel.val k).isSome_eq,← l]
  exact h _ (I.tok _)
 ·subst ey
  cases (show u=Value.ref b from ry)
  obtain⟨z,hd,xs,rel,dd⟩:=wU I.kIn I.hok e
  refine wpAny_in_heap (tupleKind_room_in1 hu) (oO I.kIn I.hok eb) hd dd ?_
  have q:=(rel.val k).isSome_eq
  rw[Option.isSome_map] at q
  rw[← q,← l]
  exact h _ (I.tok _)
theorem HB {Q:Value->Shared->Prop}(hu:A.units+1 < cLine) (I:Inv X pins σ H s) (g:DGet X.K H a y o) (ry:RelV y u) (h:∀ s',Inv X pins σ H s'->Q (.bool (!o.isSome)) s'):
  wpAny (model X.prog X.w) A (compareOp .NotIn u (.ref a)) Q E s:=by
 rcases g with ⟨kvs,k,e,ey,l⟩ | ⟨kvs,k,b,e,ey,eb,l⟩
 ·subst ey
  obtain⟨z,hd,vs,rel,dd⟩:=rA I.hok e
  refine wpAny_notIn_of (tZ ry) hd dd.mapOf ?_
  rw[← (rel.val k).isSome_eq,← l]
  exact h _ (I.tok _)
 ·subst ey
  cases (show u=Value.ref b from ry)
  obtain⟨z,hd,xs,rel,dd⟩:=wU I.kIn I.hok e
  refine wpAny_notIn_heap (tupleKind_room_in1 hu) (oO I.kIn I.hok eb) hd dd ?_
  have q:=(rel.val k).isSome_eq
  rw[Option.isSome_map] at q
  rw[← q,← l]
  exact h _ (I.tok _)
theorem zy {h':Heap}{t':Nat}{ob:HO}(I:Inv X pins σ H s) (mu:Mut (H a)) (hs:Heap.SameBut a s.heap h') (he:∃ q,h'.get? a=some q) (new:ObjOk X.prog X.w X.K (upd H a ob) h' a ob):
  Inv X pins σ (upd H a ob) { s with heap:=h',toks:=t' }:=
 I.write (x:=a) (e:=a) mu (.inl rfl) (λb q hb z=>(hs.2 b hb).trans z) he new
theorem J_ {K:PySem.W.Frag}{P:Program}{w:World}{H':Hp}{h':Heap}{kvs:List (Key×V)}{vs:List (Key×Value)}(z:kvs.length<=sizeLine) (hd:(a == sysModules)=false) (rel:KV kvs vs) (dd:h'.DictOf (jt P w) a vs):
  ObjOk P w K H' h' a (.dK kvs):=⟨z,hd,vs,rel,dd⟩
theorem Cw {H':Hp}{Q:Unit->Shared->Prop}(hu:A.units+1 < cLine) (I:Inv X pins σ H s) (g:DPut X.K H a y v H') (ry:RelV y u) (rv:RelV v r) (h:∀ s',Inv X pins σ H' s'->Q () s'):
  wpAny (model X.prog X.w) A (setItem (.ref a) u r) Q E s:=by
 rcases g with ⟨kvs,k,e,ey,l,eH⟩ | ⟨kvs,k,b,e,ey,eb,l,eH⟩
 ·subst ey eH
  obtain⟨z,hd,vs,rel,dd⟩:=Hb I.hok e
  have hz:vs.length<=sizeLine:=by rw[← rel.length];exact z
  have hl:(putK kvs k v).length<=sizeLine:=by have:=sI kvs k v;omega
  refine wpAny_setItem_pairs (hsz:=hz) (tZ ry) dd λh' dd' hs=>h _ ?_
  have he:∃ q,h'.get? a=some q:=let ⟨q,_,_,hq,_⟩:=dd';⟨q,hq⟩
  exact zy I (by rw[e];exact True.intro) hs he (J_ hl hd (rel.put k rv) dd')
 ·subst ey eH
  cases (show u=Value.ref b from ry)
  obtain⟨z,hd,xs,rel,dd⟩:=J9 I.kIn I.hok (.inl e)
  have hz:xs.length<=sizeLine:=by rw[← Paired.length rel];exact z
  have hl:(putK kvs k v).length<=sizeLine:=by have:=sI kvs k v;omega
  refine Ei (tupleKind_room_in1 hu) (oO I.kIn I.hok eb) dd hz λh' dd' hs=>h _ ?_
  obtain⟨q,es,hq,h2,h3,h4,_,h5⟩:=dd'
  refine zy I (by rw[e];exact True.intro) hs ⟨q,hq⟩ ⟨hl,hd,_,(rel.put k eb rv).keeps λc ys ec=>?_,q,es,_,hq,h2,h3,h4,h5,rfl⟩
  rw[aP (LQ ec e (λz=>nomatch z))]
  exact ec
end
section
variable {X:Cx}{pins:List (Addr×Obj)}{σ:St}{H:Hp}{s:Shared}{a:Addr}{kvs:List (Key×V)}{k:Key}{u:Value}{A:Around}{E:Value->Shared->Prop}
theorem Mx {Q:Value->Shared->Prop}(I:Inv X pins σ H s) (e:Rd H a (.dK kvs)) (h:∀ t s',Inv X pins σ H s'->Q (.int kvs.length t) s'):wpAny (model X.prog X.w) A (call (.builtin "len") [.ref a]) Q E s:=by
 obtain⟨z,hd,vs,rel,dd⟩:=rA I.hok e
 refine call_len_dict hd dd (by rw[← rel.length];rw[sizeLine_eq] at z;omega) ?_
 rw[← rel.length]
 exact h _ _ (I.tok _)
end
def Fb (i:Expr):Prop:=∀ ov iv,subscripted i false ov iv=operate [ov,iv] (getItem ov iv)
theorem HD {prog:Program}{w:World}{A:Around}{E:Value->Shared->Prop}{s:Shared}{env:Env}{value slice:Expr}{pos:Pos}{T id:String}{Q:Value->Shared->Prop}
  (hl:typeLookup (.type T) "__getitem__" = pure (some (.builtin id))) (hs:Fb slice)
  (h:wpAny (model prog w) A (eval value env) (λo s₁=>wpAny (model prog w) A (eval slice env) (λi s₂=>s₂.TypeIs o T/\wpAny (model prog w) A (getItem o i) Q E s₂) E s₁) E s):
  wpAny (model prog w) A (eval (.Subscript value slice pos) env) Q E s:=by
 refine Subscript_ (wpAny_mono h (λo s₁ h₁=>wpAny_mono h₁ (λi s₂ h₂=>?_) λ_ _ x=>x) λ_ _ x=>x)
 obtain⟨hT,h₂⟩:=h₂
 unfold subscriptTail
 refine wpAny_bind ?_
 rw[getitemInPython_of_ne hT.not_modules]
 refine wpAny_bind (wpAny_specialOf hT hl ?_)
 have fin:wpAny (model prog w) A (subscripted slice false o i) (λr s₃=>wpAny (model prog w) A (letTemporaryGo value o r >>= λ_=>pure r) Q E s₃) E s₂:=by
  rw[hs o i]
  exact wpAny_operating (wpAny_mono h₂ (λr s₃ h₃=>wpAny_bind (wpAny_letTemporaryGo (wpAny_pure h₃))) λ_ _ x=>x)
 first
  | exact wpAny_pure (wpAny_bind fin)
  | exact wpAny_bind (wpAny_pure (wpAny_bind fin))
  | exact wpAny_bind fin
theorem y_ {X:Cx}{pins:List (Addr×Obj)}{σ:St}{H:Hp}{s:Shared}{a:Addr}{y:V}{o:Option V}(I:Inv X pins σ H s) (g:DGet X.K H a y o):s.TypeIs (.ref a) "dict" := by
 rcases g with ⟨kvs,k,e,_,_⟩ | ⟨kvs,k,b,e,_,_,_⟩
 ·obtain⟨_,_,vs,_,dd⟩:=rA I.hok e
  exact dd.typeIs
 ·obtain⟨_,_,xs,_,dd⟩:=wU I.kIn I.hok e
  exact dd.typeIs
def Mz (K:PySem.W.Frag) (td ty:TE):TE:=fun σ H Q=>td σ H λx H1=>ty σ H1 λy H2=>∃ a v,x=.ref a/\DGet K H2 a y (some v)/\Q v H2
def MF (K:PySem.W.Frag) (td ty tv:TE):TS:=λD σ H=>tv σ H λv H1=>td σ H1 λx H2=>ty σ H2 λy H3=>∃ a H4,x=.ref a/\DPut K H3 a y v H4/\D.nx σ H4
section
variable {X:Cx}{o i e value:Expr}{pos pos' tpos:Pos}{td ty tv:TE}
theorem HH (hu:X.A.units+1 < cLine) (ho:PE X o td) (hi:PE X i ty) (hs:Fb i):PE X (.Subscript o i pos) (Mz X.K td ty):=by
 intro pins s σ H Q I h
 refine HD PySem.F.slot_dict_getitem.lookup hs (thn (ho pins s σ H _ I h) λu s1 ⟨x,H1,I1,rx,q1⟩=>thn (hi pins s1 σ H1 _ I1 q1) ?_)
 rintro iv s2 ⟨y,H2,I2,ry,a,v,ex,g,q2⟩
 subst ex
 obtain rfl:u=Value.ref a:=rx
 exact⟨y_ I2 g,Cv hu I2 g ry λw' s3 I3 rw'=>⟨v,H2,I3,rw',q2⟩⟩
theorem HJ (hu:X.A.units+1 < cLine) (ho:PE X o td) (hi:PE X i ty) (hv:PE X value tv) (hs:swapsWith value (some (.Subscript o i pos')) pos.line X.env=pure false):
  PS X (.Assign [.Subscript o i pos'] value pos) (MF X.K td ty tv):=by
 intro pins s σ H D I h
 refine wpAny_Assign_Subscript (thn (hv pins s σ H _ I h) λr s1 ⟨v,H1,I1,rv,q1⟩=>thn (ho pins s1 σ H1 _ I1 q1) λu s2 ⟨x,H2,I2,rx,q2⟩=>thn (hi pins s2 σ H2 _ I2 q2) ?_) hs
 rintro iv s3 ⟨y,H3,I3,ry,a,H4,ex,g,q3⟩
 subst ex
 obtain rfl:u=Value.ref a:=rx
 exact Cw hu I3 g ry rv λs4 I4=>⟨σ,H4,I4,q3⟩
end
theorem Fd {P:Program}{w:World}{K:PySem.W.Frag}{H:Hp}(h:Heap) (hb:sysModules < h.objs.size):ObjOk P w K H (h.push { cls:=.type "dict",data:=.dict #[] }) h.objs.size (.dK []):=
 ⟨Nat.zero_le _,beq_eq_false_iff_ne.mpr (Ne.symm (Nat.ne_of_lt hb)),[],.nil,Heap.DictOf.new h⟩
theorem Fe {P:Program}{w:World}{K:PySem.W.Frag}{H:Hp}(h:Heap) (hb:sysModules < h.objs.size):ObjOk P w K H (h.push { cls:=.type "dict",data:=.dict #[] }) h.objs.size (.dT []):=
 ⟨Nat.zero_le _,beq_eq_false_iff_ne.mpr (Ne.symm (Nat.ne_of_lt hb)),[],.nil,_,#[],0,Heap.get?_push_size _ rfl,⟨rfl,rfl,rfl⟩,rfl,rfl,List.nodup_nil,rfl⟩
def Ka:TE:=λ_ H Q=>∀ p,H p=none->Q (.ref p) (upd H p (.dK []))
def Kc:TE:=λ_ H Q=>∀ p,H p=none->Q (.ref p) (upd H p (.dT []))
section
variable {X:Cx}{pos:Pos}
theorem Ff:PE X (.Dict [] [] pos) Ka:=λpins s σ H Q I h=>
 wpAny_Dict_empty ⟨.ref s.heap.objs.size,_,I.laid (a:=s.heap.objs.size) (o:=.dK []) (t':=s.toks) (λ_ _ q=>Heap.get?_push_of_some _ q) (Nat.le_refl _) (Fd s.heap I.big),rfl,h _ (I.hok.fresh (Nat.le_refl _))⟩
theorem Fg:PE X (.Dict [] [] pos) Kc:=λpins s σ H Q I h=>
 wpAny_Dict_empty ⟨.ref s.heap.objs.size,_,I.laid (a:=s.heap.objs.size) (o:=.dT []) (t':=s.toks) (λ_ _ q=>Heap.get?_push_of_some _ q) (Nat.le_refl _) (Fe s.heap I.big),rfl,h _ (I.hok.fresh (Nat.le_refl _))⟩
end
section
variable {X:Cx}{pins:List (Addr×Obj)}{σ:St}{H:Hp}{s:Shared}{a:Addr}{y d:V}{u r:Value}{o:Option V}{A:Around}{E:Value->Shared->Prop}
end
section
variable {X:Cx}{o e f:Expr}{apos cpos:Pos}{td ty tx:TE}
end
section
variable {X:Cx}{pins:List (Addr×Obj)}{σ:St}{H:Hp}{s:Shared}{a:Addr}{kvs:List (Key×V)}{A:Around}{E:Value->Shared->Prop}
end
section
variable {X:Cx}{pins:List (Addr×Obj)}{σ:St}{H:Hp}{s:Shared}{a:Addr}{y:V}{u:Value}{A:Around}{E:Value->Shared->Prop}
end
end L2
namespace HT
open PySem PyProof.Rows
def lexLt:List Int->List Int->Bool
 | [],[]=>false
 | [],_::_=>true
 | _::_,[]=>false
 | x::xs,y::ys=>if x=y then lexLt xs ys else decide (x < y)
section
open PySem.SeqAt
open PySem.AutoSeq1 (wpAny_loadPart')
open PySem.MeetsSeq PySem.MeetsSeq2 PySem.MeetsSeq3
end
section
variable {prog:Program}{w:World}{A:Around}{E:Value->Shared->Prop}{s:Shared}
def sIx (n d:Nat):Option Int->Nat
 | none=>d
 | some v=>if v < 0 then (v+(n:Int)).toNat else min v.toNat n
theorem sIx_none (n d:Nat):sIx n d none=d:=rfl
theorem sIx_nat (n d k:Nat):sIx n d (some (k:Int))=min k n:=by
 show (if (k:Int) < 0 then ((k:Int)+(n:Int)).toNat else min (k:Int).toNat n)=min k n
 rw[if_neg (by omega),Int.toNat_natCast]
theorem sIx_le (n d:Nat) (hd:d<=n) (o:Option Int):sIx n d o<=n:=by
 cases o with
 | none=>exact hd
 | some v=>
  show (if v < 0 then (v+(n:Int)).toNat else min v.toNat n)<=n
  by_cases hv:v < 0
  ·rw[if_pos hv];omega
  ·rw[if_neg hv];exact Nat.min_le_right _ _
end
end HT
namespace L2
open PySem PySem.Spec PyProof.Rows
abbrev TO:=St->Hp->(Option Int->Hp->Prop)->Prop
def PO (X:Cx) (e:Option Expr) (t:TO):Prop:=
 ∀ (pins:List (Addr×Obj)) (s:Shared) (σ:St) (H:Hp) (Q:Option Int->Hp->Prop),Inv X pins σ H s->t σ H Q->
  wpAny (model X.prog X.w) X.A (evalPart e X.env) (λu s'=>∃ o H',Inv X pins σ H' s'/\IsPart u o/\Q o H') X.xe s
def HQ:TO:=λ_ H Q=>Q none H
def MJ (t:TE):TO:=fun σ H Q=>t σ H λx H1=>∃ i,x=.int i/\Q (some i) H1
section
variable {X:Cx}{e:Expr}{te:TE}{lo hi:Option Expr}{tl th:TO}{pos p2:Pos}
theorem HR:PO X none HQ:=by
 intro pins s σ H Q I h
 rw[evalPart_none]
 exact wpAny_pure ⟨none,H,I,.none,h⟩
theorem HW (h:PE X e te):PO X (some e) (MJ te):=by
 intro pins s σ H Q I hw
 rw[evalPart_some]
 refine thn (h pins s σ H _ I hw) ?_
 rintro u s1 ⟨x,H1,I1,r1,q1⟩
 obtain⟨i,rfl,q⟩:=q1
 obtain⟨t,rfl⟩:=r1
 exact⟨some i,H1,I1,.int i t,q⟩
def SlR (X:Cx) (r:V->Option Int->Option Int->Hp->VK->Prop):Prop:=
 ∀ (pins:List (Addr×Obj)) (s:Shared) (σ:St) (H:Hp) (x:V) (v vl vu:Value) (lo hi:Option Int) (sl:Addr) (Q:VK),Inv X pins σ H s->RelV x v->s.heap.IsSliceOf sl vl vu .none->IsPart vl lo->IsPart vu hi->r x lo hi H Q->
  ∃ T id,typeLookup (.type T) "__getitem__" = pure (some (.builtin id))/\s.TypeIs v T/\wpAny (model X.prog X.w) X.A (getItem v (.ref sl)) (EP X pins σ Q) X.xe s
theorem SlR.or {r r':V->Option Int->Option Int->Hp->VK->Prop}(h:SlR X r) (h':SlR X r'):SlR X (λx lo hi H Q=>r x lo hi H Q\/r' x lo hi H Q):=by
 intro pins s σ H x v vl vu lo hi sl Q I rx hs pl pu q
 rcases q with q | q
 ·exact h pins s σ H x v vl vu lo hi sl Q I rx hs pl pu q
 ·exact h' pins s σ H x v vl vu lo hi sl Q I rx hs pl pu q
def tSl (r:V->Option Int->Option Int->Hp->VK->Prop) (te:TE) (tl th:TO):TE:=fun σ H Q=>te σ H λx H1=>tl σ H1 λl H2=>th σ H2 λu H3=>r x l u H3 Q
theorem Fi {r:V->Option Int->Option Int->Hp->VK->Prop}(hr:SlR X r) (he:PE X e te) (hl:PO X lo tl) (hu:PO X hi th):PE X (.Subscript e (.Slice lo hi none p2) pos) (tSl r te tl th):=by
 intro pins s σ H Q I h
 refine Subscript_ (thn (he pins s σ H _ I h) ?_)
 rintro v s1 ⟨x,H1,I1,r1,q1⟩
 refine wpAny_Slice (thn (hl pins s1 σ H1 _ I1 q1) λvl s2 ⟨l,H2,I2,pl,q2⟩=>thn (hu pins s2 σ H2 _ I2 q2) ?_)
 rintro vu s3 ⟨u,H3,I3,pu,q3⟩
 rw[evalPart_none]
 refine wpAny_pure ?_
 have I4:Inv X pins σ H3 { s3 with heap:=s3.heap.push { cls:=.type "slice",data:=.fields #[vl,vu,.none] } }:=I3.kept (t':=s3.toks) λb ob q=>Heap.get?_push_of_some _ q
 obtain⟨T,id,hT,ht,hg⟩:=hr pins { s3 with heap:=s3.heap.push { cls:=.type "slice",data:=.fields #[vl,vu,.none] } } σ H3 x v vl vu l u s3.heap.objs.size Q I4 r1 (Heap.IsSliceOf.new ..) pl pu q3
 show wpAny (model X.prog X.w) X.A (subscriptTail e (.Slice lo hi none p2) v (.ref s3.heap.objs.size)) (EP X pins σ Q) X.xe { s3 with heap:=s3.heap.push { cls:=.type "slice",data:=.fields #[vl,vu,.none] } }
 exact tail_any (ops:=[.ref s3.heap.objs.size,v]) ht hT hg (by with_unfolding_all rfl)
def uN (xs:List V) (lo hi:Option Int):List V:=(xs.drop (HT.sIx xs.length 0 lo)).take (HT.sIx xs.length xs.length hi - HT.sIx xs.length 0 lo)
theorem za (xs:List V) (lo hi:Option Int):(uN xs lo hi).length<=xs.length:=by
 unfold uN
 rw[List.length_take,List.length_drop]
 omega
end
end L2
namespace L2
open PySem PySem.Spec PyProof.Rows
def ixN (n:Nat) (i:Int):Option Nat:=if 0<=i then (if i < n then some i.toNat else none) else if -(n:Int)<=i then some (i+n).toNat else none
def atI {α:Type}(xs:List α) (i:Int):Option α:=(ixN xs.length i).bind λj=>xs[j]?
theorem zz {n:Nat}{i:Int}{j:Nat}(h:ixN n i=some j):seqIndex? i n=some j/\j < n/\-(n:Int)<=i/\i < n:=by
 unfold ixN at h
 by_cases h0:0<=i
 ·rw[if_pos h0] at h
  by_cases h1:i < n
  ·rw[if_pos h1] at h
   have e:i.toNat=j:=Option.some.inj h
   exact⟨by rw[seqIndex_of h0 h1,e],by omega,by omega,h1⟩
  ·rw[if_neg h1] at h;cases h
 ·rw[if_neg h0] at h
  by_cases h1:-(n:Int)<=i
  ·rw[if_pos h1] at h
   have e:(i+n).toNat=j:=Option.some.inj h
   exact⟨by rw[seqIndex_neg (by omega) h1,e],by omega,h1,by omega⟩
  ·rw[if_neg h1] at h;cases h
theorem uO {α:Type}{xs:List α}{i:Int}{v:α}(h:atI xs i=some v):∃ j,seqIndex? i xs.length=some j/\xs[j]?=some v/\j < xs.length/\-(xs.length:Int)<=i/\i < xs.length:=by
 unfold atI at h
 cases e:ixN xs.length i with
 | none=>rw[e] at h;cases h
 | some j=>
  rw[e] at h
  obtain⟨h1,h2,h3,h4⟩:=zz e
  exact⟨j,h1,h,h2,h3,h4⟩
theorem HX {α:Type}{xs:List α}{j:Nat}{v:α}(h:xs[j]?=some v):atI xs (j:Int)=some v:=by
 have hj:j < xs.length:=(List.getElem?_eq_some_iff.mp h).1
 have e:ixN xs.length (j:Int)=some j:=by
  unfold ixN
  rw[if_pos (by omega),if_pos (by omega)];simp
 unfold atI;rw[e];exact h
def zB (b:Expr):Prop:=∀ o i,subscripted b false o i=operate [o,i] (getItem o i)
def IxR (X:Cx) (r:R2):Prop:=
 ∀ (value slice:Expr) (pins:List (Addr×Obj)) (s:Shared) (σ:St) (H:Hp) (x y:V) (v u:Value) (Q:VK),Inv X pins σ H s->RelV x v->RelV y u->r x y H Q->
  subscripted slice false v u=operate [v,u] (getItem v u)->wpAny (model X.prog X.w) X.A (subscriptTail value slice v u) (EP X pins σ Q) X.xe s
def MtR (X:Cx) (id:String) (r:V->List V->Hp->VK->Prop):Prop:=
 ∀ (pins:List (Addr×Obj)) (s:Shared) (σ:St) (H:Hp) (x:V) (xs:List V) (v:Value) (us:List Value) (Q:VK),Inv X pins σ H s->RelV x v->Vals xs us->r x xs H Q->
  wpAny (model X.prog X.w) X.A (call (.builtin id) (v::us)) (EP X pins σ Q) X.xe s
section
variable {X:Cx}{a b:Expr}{ta tb:TE}{pos:Pos}
theorem IxR.or {r r':R2}(h:IxR X r) (h':IxR X r'):IxR X (λx y H Q=>r x y H Q\/r' x y H Q):=by
 intro value slice pins s σ H x y v u Q I rx ry q hs
 rcases q with q | q
 ·exact h value slice pins s σ H x y v u Q I rx ry q hs
 ·exact h' value slice pins s σ H x y v u Q I rx ry q hs
theorem MN {r:R2}(hr:IxR X r) (ha:PE X a ta) (hb:PE X b tb) (hs:zB b):PE X (.Subscript a b pos) (tOp r ta tb):=by
 intro pins s σ H Q I h
 exact Subscript_ (Es ha hb I h λv u s2 x y H2 I2 rx ry q=>hr a b pins s2 σ H2 x y v u Q I2 rx ry q (hs _ _))
def Kd (K:PySem.W.Frag):R2:=λx y H Q=>∃ p xs i v,x=.ref p/\y=.int i/\SqL K H p xs/\atI xs i=some v/\Q v H
def Ke (K:PySem.W.Frag):R2:=λx y H Q=>∃ p xs i v,x=.ref p/\y=.int i/\SqT K H p xs/\atI xs i=some v/\Q v H
def Kf:R2:=λx y H Q=>∃ z i c,x=.str z/\y=.int i/\z.length<=sizeLine/\atI z.cps.toList i=some c/\Q (.str ⟨#[c]⟩) H
theorem ix_list:IxR X (Kd X.K):=by
 intro value slice pins s σ H x y v u Q I rx ry h hs
 obtain⟨p,xs,i,z,rfl,rfl,hq,he,q⟩:=h
 cases rx
 obtain⟨t,rfl⟩:=ry
 obtain⟨its,r,pl,hz⟩:=I.list hq
 obtain⟨j,h1,h2,h3,h4,h5⟩:=uO he
 obtain⟨w,ew,rw'⟩:=r.get h2
 have hl:=r.length
 have hn:=oM
 have fin:EP X pins σ Q w s:=⟨z,H,I,rw',q⟩
 by_cases h0:0<=i
 ·have hj:i.toNat=j:=by
   rw[seqIndex_of h0 h5] at h1
   exact Option.some.inj h1
  exact item_listR pl.isList h0 (by omega) (by rw[hj];simpa using ew) fin hs
 ·have hj:(i+(its.toArray.size:Int)).toNat=j:=by
   rw[seqIndex_neg (by omega) h4] at h1
   rw[List.size_toArray,← hl]
   exact Option.some.inj h1
  exact subscriptTail_builtinR (x:=w) pl.isList.typeIs slot_list_getitem.lookup
   (wpAny_getItem_list_neg (Q:=λr s'=>r=w/\EP X pins σ Q r s') pl.isList (by omega) (by rw[List.size_toArray] <;> omega) (by omega) (by rw[hj];simpa using ew) ⟨rfl,fin⟩) hs
theorem ix_tup:IxR X (Ke X.K):=by
 intro value slice pins s σ H x y v u Q I rx ry h hs
 obtain⟨p,xs,i,z,rfl,rfl,hq,he,q⟩:=h
 cases rx
 obtain⟨t,rfl⟩:=ry
 obtain⟨its,r,pl,hz⟩:=I.tuple hq
 obtain⟨j,h1,h2,h3,h4,h5⟩:=uO he
 obtain⟨w,ew,rw'⟩:=r.get h2
 have hl:=r.length
 have hn:=oM
 have fin:EP X pins σ Q w s:=⟨z,H,I,rw',q⟩
 exact subscriptTail_builtinR (x:=w) pl.typeIs slot_tuple_getitem.lookup
  (getItem_tuple (j:=j) (Q:=λr s'=>r=w/\EP X pins σ Q r s') pl (by omega) (by omega) (by rw[List.size_toArray,← hl];exact h1) (by simpa using ew) ⟨rfl,fin⟩) hs
theorem Kg:IxR X Kf:=by
 intro value slice pins s σ H x y v u Q I rx ry h hs
 obtain⟨z,i,c,rfl,rfl,hz,he,q⟩:=h
 obtain⟨t,rfl⟩:=rx
 obtain⟨t',rfl⟩:=ry
 obtain⟨j,h1,h2,h3,h4,h5⟩:=uO he
 have hl:z.cps.toList.length=z.length:=by simp[Str.length]
 rw[hl] at h1 h4 h5
 have hn:=oM
 exact tail_any (typeIs_str s z t) slot_str_getitem.lookup (getItem_str (c:=c) (by
  have e1:decide (i < -(2 ^ 63:Int))=false:=decide_eq_false (by omega)
  have e2:decide (i ≥ 2 ^ 63)=false:=decide_eq_false (by omega)
  rw[e1,e2,Bool.or_false]) (by rw[h1];simpa using h2) ⟨.str ⟨#[c]⟩,H,I.tok _,⟨_,rfl⟩,q⟩) hs
def rIx (K:PySem.W.Frag):R2:=λx y H Q=>Kd K x y H Q\/Ke K x y H Q\/Kf x y H Q
theorem Kh:IxR X (rIx X.K):=ix_list.or (ix_tup.or Kg)
theorem Am (its:List Value) (n j:Nat) (u:Value):Obj.mapSeq (·.setIfInBounds j u) { cls:=.type "list",data:=.seq its.toArray n }={ cls:=.type "list",data:=.seq (its.set j u).toArray n }:=by
 simp[Obj.mapSeq]
theorem Inv.lst {pins:List (Addr×Obj)}{σ:St}{H:Hp}{s:Shared}{p:Addr}{xs:List V}(I:Inv X pins σ H s) (h:H p=some (.lst xs)):
  ∃ (its:List Value) (n:Nat),Vals xs its/\s.heap.get? p=some { cls:=.type "list",data:=.seq its.toArray n }/\xs.length<=sizeLine:=by
 obtain⟨z,its,n,r,e⟩:=I.hok p _ h
 exact⟨its,n,r,e,z⟩
theorem Inv.lstUpd {pins:List (Addr×Obj)}{σ:St}{H:Hp}{s:Shared}{p:Addr}{xs ys:List V}{its its':List Value}{n n':Nat}{f:Obj->Obj}(I:Inv X pins σ H s) (h:H p=some (.lst xs))
  (ho:s.heap.get? p=some { cls:=.type "list",data:=.seq its.toArray n }) (hf:f { cls:=.type "list",data:=.seq its.toArray n }={ cls:=.type "list",data:=.seq its'.toArray n' }) (r:Vals ys its') (hz:ys.length<=sizeLine) (t:Nat):
  Inv X pins σ (upd H p (.lst ys)) { s with heap:=s.heap.update p f,toks:=t }:=by
 have e:(s.heap.update p f).get? p=some { cls:=.type "list",data:=.seq its'.toArray n' }:=by
  rw[Heap.get?_update_self f ho (by rw[hf] <;> rfl),hf]
 refine I.write (x:=p) (e:=p) (by rw[h];trivial) (.inl rfl) (λb u hb q=>(Heap.get?_update_other _ _ (Ne.symm hb)).trans q) ⟨_,e⟩ ?_
 exact⟨hz,its',n',r,e⟩
def MP:V->V->V->Hp->(Hp->Prop)->Prop:=λo i v H Q=>∃ p xs k j,o=.ref p/\i=.int k/\H p=some (.lst xs)/\ixN xs.length k=some j/\Q (upd H p (.lst (xs.set j v)))
theorem set_list:JL X MP:=by
 intro pins s σ H o i v ov iv u Q I ro ri rv h
 obtain⟨p,xs,k,j,rfl,rfl,hp,hj,q⟩:=h
 cases ro
 obtain⟨t,rfl⟩:=ri
 obtain⟨its,n,r,ho,hz⟩:=I.lst hp
 obtain⟨h1,h2,h3,h4⟩:=zz hj
 have hl:=r.length
 have hn:=oM
 have I':Inv X pins σ (upd H p (.lst (xs.set j v))) { s with heap:=s.heap.update p (Obj.mapSeq (·.setIfInBounds j u)) }:=
  I.lstUpd hp ho (Am its n j u) (r.set rv j) (by rw[List.length_set];exact hz) s.toks
 by_cases h0:0<=k
 ·have hk:k.toNat=j:=by
   rw[seqIndex_of h0 h4] at h1
   exact Option.some.inj h1
  exact PySem.W.ki_setAt ho h0 (by omega) (by rw[List.size_toArray,← hl];exact h4) (by rw[hk];exact⟨_,I',q⟩)
 ·have hk:(k+(its.toArray.size:Int)).toNat=j:=by
   rw[seqIndex_neg (by omega) h3] at h1
   rw[List.size_toArray,← hl]
   exact Option.some.inj h1
  exact PySem.W.ki_setBack ho (by omega) (by rw[List.size_toArray,← hl];exact h3) (by omega) (by rw[hk];exact⟨_,I',q⟩)
theorem xK (lo hi:Option Int) (n:Nat):(sliceBounds lo hi none n).1=((HT.sIx n 0 lo:Nat):Int)/\(sliceBounds lo hi none n).2.1=((HT.sIx n n hi:Nat):Int)/\(sliceBounds lo hi none n).2.2=1:=by
 refine⟨?_,?_,rfl⟩
 ·cases lo with
  | none=>simp[sliceBounds,HT.sIx]
  | some i=>
   simp only[sliceBounds,HT.sIx,Option.getD_none,show (1:Int) > 0 by decide,if_true]
   by_cases h:i < 0
   ·simp only[h,if_true] <;> omega
   ·simp only[h,if_false] <;> omega
 ·cases hi with
  | none=>simp[sliceBounds,HT.sIx]
  | some i=>
   simp only[sliceBounds,HT.sIx,Option.getD_none,show (1:Int) > 0 by decide,if_true]
   by_cases h:i < 0
   ·simp only[h,if_true] <;> omega
   ·simp only[h,if_false] <;> omega
theorem wz (its:List Value) (lo hi:Option Int):slicePick its.toArray lo hi none=((its.drop (HT.sIx its.length 0 lo)).take (HT.sIx its.length its.length hi - HT.sIx its.length 0 lo)).toArray:=by
 obtain⟨h1,h2,h3⟩:=xK lo hi its.toArray.size
 unfold slicePick
 rw[h1,h2,h3]
 simp only[sliceRange_one,pick_run,List.size_toArray] <;> rfl
def Kl (K:PySem.W.Frag):V->Option Int->Option Int->Hp->VK->Prop:=λx lo hi H Q=>∃ a xs,x=.ref a/\SqL K H a xs/\∀ p,H p=none->Q (.ref p) (upd H p (.lst (uN xs lo hi)))
theorem sl_list:SlR X (Kl X.K):=by
 intro pins s σ H x v vl vu lo hi sl Q I rx hs pl pu h
 obtain⟨a,xs,rfl,hx,q⟩:=h
 cases rx
 obtain⟨its,r,ht,hz⟩:=I.list hx
 have hlen:=r.length
 refine⟨"list",_,slot_list_getitem.lookup,ht.isList.typeIs,?_⟩
 refine wpAny_getItem_list_slice ht.isList hs pl pu .none (by simp) ?_ (by rw[List.size_toArray] <;> omega)
 rw[wz,← hlen]
 refine⟨.ref s.heap.objs.size,_,I.laid (t':=s.toks) (o:=.lst (uN xs lo hi)) (λb ob q=>Heap.get?_push_of_some _ q) (Nat.le_refl _) ?_,rfl,q _ (I.hok.fresh (Nat.le_refl _))⟩
 exact⟨Nat.le_trans (za xs lo hi) hz,_,0,(r.drop (HT.sIx xs.length 0 lo)).take (HT.sIx xs.length xs.length hi - HT.sIx xs.length 0 lo),Heap.get?_push_size _ rfl⟩
def ju:V->Bool
 | .non=>true
 | .bl _=>true
 | .int _=>true
 | .str _=>true
 | _=>false
def eqV:V->V->Bool
 | .non,.non=>true
 | .bl a,.bl b=>a == b
 | .bl a,.int b=>(if a then 1 else 0) == b
 | .int a,.bl b=>a == (if b then 1 else 0)
 | .int a,.int b=>a == b
 | .str a,.str b=>a == b
 | _,_=>false
theorem Km {A:Around}{s:Shared}{y x:V}{u v:Value}(ry:RelV y u) (rx:RelV x v) (fy:ju y=true) (fx:ju x=true):SeqAt.EqAt A s u v (eqV y x):=by
 cases y with
 | non=>
  cases ry
  cases x with
  | non=>cases rx;exact SeqAt.EqAt.same _
  | bl b=>cases rx;exact SeqAt.EqAt.none_bool b
  | int b=>obtain⟨t,rfl⟩:=rx;exact SeqAt.EqAt.none_int b t
  | str b=>obtain⟨t,rfl⟩:=rx;exact SeqAt.EqAt.none_str b t
  | _=>exact absurd (show false=true from fx) Bool.false_ne_true
 | bl a=>
  cases ry
  cases x with
  | non=>cases rx;exact SeqAt.EqAt.bool_none a
  | bl b=>cases rx;exact SeqAt.EqAt.bool_bool a b
  | int b=>obtain⟨t,rfl⟩:=rx;exact SeqAt.EqAt.bool_int a b t
  | str b=>obtain⟨t,rfl⟩:=rx;exact SeqAt.EqAt.bool_str a b t
  | _=>exact absurd (show false=true from fx) Bool.false_ne_true
 | int a=>
  obtain⟨t',rfl⟩:=ry
  cases x with
  | non=>cases rx;exact SeqAt.EqAt.int_none a t'
  | bl b=>cases rx;exact SeqAt.EqAt.int_bool a t' b
  | int b=>obtain⟨t,rfl⟩:=rx;exact SeqAt.EqAt.int_int a t' b t
  | str b=>obtain⟨t,rfl⟩:=rx;exact SeqAt.EqAt.int_str a t' b t
  | _=>exact absurd (show false=true from fx) Bool.false_ne_true
 | str a=>
  obtain⟨t',rfl⟩:=ry
  cases x with
  | non=>cases rx;exact SeqAt.EqAt.str_none a t'
  | bl b=>cases rx;exact SeqAt.EqAt.str_bool a t' b
  | int b=>obtain⟨t,rfl⟩:=rx;exact SeqAt.EqAt.str_int a t' b t
  | str b=>obtain⟨t,rfl⟩:=rx;exact SeqAt.EqAt.str_str a t' b t
  | _=>exact absurd (show false=true from fx) Bool.false_ne_true
 | _=>exact absurd (show false=true from fy) Bool.false_ne_true
def eqU (x:V) (u:Value):Bool:=match u with
 | .none=>eqV .non x
 | .bool b=>eqV (.bl b) x
 | .int i _=>eqV (.int i) x
 | .str z _=>eqV (.str z) x
 | _=>false
theorem Cy {x y:V}{u:Value}(r:RelV y u) (f:ju y=true):eqU x u=eqV y x:=by
 cases y with
 | non=>cases r;rfl
 | bl b=>cases r;rfl
 | int i=>obtain⟨t,rfl⟩:=r;rfl
 | str z=>obtain⟨t,rfl⟩:=r;rfl
 | _=>exact absurd (show false=true from f) Bool.false_ne_true
theorem oR {x:V}:∀ {xs:List V}{us:List Value},Vals xs us->xs.all ju=true->us.any (eqU x)=xs.any λy=>eqV y x
 | _,_,.nil,_=>rfl
 | y::xs,u::us,.cons r t,f=>by
  rw[List.all_cons,Bool.and_eq_true] at f
  rw[List.any_cons,List.any_cons,Cy r f.1,oR t f.2]
theorem m9 {A:Around}{s:Shared}{x:V}{v:Value}(rx:RelV x v) (fx:ju x=true):∀ {xs:List V}{us:List Value},Vals xs us->xs.all ju=true->∀ u∈us,SeqAt.EqAt A s u v (eqU x u)
 | _,_,.nil,_=>λu hu=>by cases hu
 | y::xs,u::us,.cons r t,f=>λu' hu=>by
  rw[List.all_cons,Bool.and_eq_true] at f
  rcases List.mem_cons.mp hu with rfl | hu
  ·rw[Cy r f.1];exact Km r rx f.1 fx
  ·exact m9 rx fx t f.2 u' hu
def inV (x:V) (xs:List V):Bool:=xs.any λy=>eqV y x
def rIn (K:PySem.W.Frag) (neg:Bool):R2:=λx y H Q=>∃ p xs,y=.ref p/\(SqL K H p xs\/SqT K H p xs)/\ju x=true/\xs.all ju=true/\Q (.bl (if neg then !inV x xs else inV x xs)) H
theorem Cz:OpR X (compareOp .In) (rIn X.K false):=by
 intro pins s σ H x y v u Q I rx ry h
 obtain⟨p,xs,rfl,hq,fx,fs,q⟩:=h
 cases ry
 rcases hq with hq | hq
 ·obtain⟨its,r,pl,hz⟩:=I.list hq
  refine SeqAt.in_listAt (eqU x) pl.isList (λw hw=>m9 rx fx r fs w (by simpa using hw)) ⟨.bl _,H,I,rfl,?_⟩
  rw[show its.toArray.any (eqU x)=its.any (eqU x) by simp,oR r fs]
  exact q
 ·obtain⟨its,r,pl,hz⟩:=I.tuple hq
  refine SeqAt.in_tupleAt (eqU x) pl (λw hw=>m9 rx fx r fs w (by simpa using hw)) ⟨.bl _,H,I,rfl,?_⟩
  rw[show its.toArray.any (eqU x)=its.any (eqU x) by simp,oR r fs]
  exact q
theorem xM:OpR X (compareOp .NotIn) (rIn X.K true):=by
 intro pins s σ H x y v u Q I rx ry h
 obtain⟨p,xs,rfl,hq,fx,fs,q⟩:=h
 cases ry
 rcases hq with hq | hq
 ·obtain⟨its,r,pl,hz⟩:=I.list hq
  refine SeqAt.notIn_listAt (eqU x) pl.isList (λw hw=>m9 rx fx r fs w (by simpa using hw)) ⟨.bl _,H,I,rfl,?_⟩
  rw[show its.toArray.any (eqU x)=its.any (eqU x) by simp,oR r fs]
  exact q
 ·obtain⟨its,r,pl,hz⟩:=I.tuple hq
  refine SeqAt.notIn_tupleAt (eqU x) pl (λw hw=>m9 rx fx r fs w (by simpa using hw)) ⟨.bl _,H,I,rfl,?_⟩
  rw[show its.toArray.any (eqU x)=its.any (eqU x) by simp,oR r fs]
  exact q
theorem xN:OpR X (compareOp .NotIn) (λx y H Q=>∃ i j,x=.str i/\y=.str j/\Q (.bl (!(!(Builtin.Str.occurrences j i 0 j.length 1).isEmpty))) H):=by
 intro pins s σ H x y v u Q I rx ry h
 obtain⟨i,j,rfl,rfl,q⟩:=h
 obtain⟨t,rfl⟩:=rx
 obtain⟨t',rfl⟩:=ry
 exact notIn_str ⟨.bl _,H,I,rfl,q⟩
theorem xO:CallR X (.builtin "len") (λxs H Q=>∃ p ys,xs=[.ref p]/\(SqL X.K H p ys\/SqT X.K H p ys)/\Q (.int ys.length) H):=by
 intro pins s σ H xs us Q I r h
 obtain⟨p,ys,rfl,hq,q⟩:=h
 obtain⟨u,rfl,rx⟩:=vals1 r
 cases rx
 have hn:=oM
 rcases hq with hq | hq
 ·obtain⟨its,r',pl,hz⟩:=I.list hq
  have hlen:=r'.length
  exact Calls.call_len_list pl.isList (by simp only[List.size_toArray] <;> omega) ⟨.int ys.length,H,I.tok _,⟨s.toks+1,by rw[List.size_toArray,hlen]⟩,q⟩
 ·obtain⟨its,r',pl,hz⟩:=I.tuple hq
  have hlen:=r'.length
  exact len_tuple pl (by simp only[List.size_toArray] <;> omega) ⟨.int ys.length,H,I.tok _,⟨s.toks+1,by rw[List.size_toArray,hlen]⟩,q⟩
theorem xP:CallR X (.builtin "len") (λxs H Q=>∃ z,xs=[.str z]/\z.length<=sizeLine/\Q (.int z.length) H):=by
 intro pins s σ H xs us Q I r h
 obtain⟨z,rfl,hz,q⟩:=h
 obtain⟨u,rfl,t,rfl⟩:=vals1 r
 have hn:=oM
 exact len_str (by omega) ⟨.int z.length,H,I.tok _,⟨_,rfl⟩,q⟩
theorem CallR.or {f:Value}{r r':List V->Hp->VK->Prop}(h:CallR X f r) (h':CallR X f r'):CallR X f (λxs H Q=>r xs H Q\/r' xs H Q):=by
 intro pins s σ H xs us Q I rs q
 rcases q with q | q
 ·exact h pins s σ H xs us Q I rs q
 ·exact h' pins s σ H xs us Q I rs q
theorem xQ:CallR X (.type "list") (λxs H Q=>∃ p ys,xs=[.ref p]/\(SqL X.K H p ys\/SqT X.K H p ys)/\∀ l,H l=none->Q (.ref l) (upd H l (.lst ys))):=by
 intro pins s σ H xs us Q I r h
 obtain⟨p,ys,rfl,hq,q⟩:=h
 obtain⟨u,rfl,rx⟩:=vals1 r
 cases rx
 have fin:∀ (its:List Value),Vals ys its->ys.length<=sizeLine->∀ (h':Heap) (c':Nat),(∀ b o',s.heap.get? b=some o'->h'.get? b=some o')->
   h'.get? s.heap.objs.size=some { cls:=.type "list",dict:=none,data:=.seq its.toArray c',slots:=#[] }->EP X pins σ Q (.ref s.heap.objs.size) { s with heap:=h' }:=λits r' hz h' c' kp e=>
  ⟨.ref s.heap.objs.size,_,I.laid (t':=s.toks) kp (Nat.le_refl _) (show ObjOk X.prog X.w X.K _ h' _ (.lst ys) from ⟨hz,its,c',r',e⟩),rfl,q _ (I.hok.fresh (Nat.le_refl _))⟩
 rcases hq with hq | hq
 ·obtain⟨its,r',pl,hz⟩:=I.list hq
  have hlen:=r'.length
  obtain⟨o,ho,hc,n,hd⟩:=pl.isList
  exact call_list_seq p (.inl rfl) ho hc hd (λh' c' kp e=>fin its r' hz h' c' kp e) (by simp only[List.size_toArray] <;> omega)
 ·obtain⟨its,r',pl,hz⟩:=I.tuple hq
  have hlen:=r'.length
  obtain⟨o,ho,hc,n,hd⟩:=pl
  exact call_list_seq p (.inr rfl) ho hc hd (λh' c' kp e=>fin its r' hz h' c' kp e) (by simp only[List.size_toArray] <;> omega)
def tyV (K:PySem.W.Frag) (T:String) (x:V) (H:Hp):Prop:=match x with
 | .str _=>T = "str"
 | .int _=>T = "int"
 | .ref p=>(T = "list" /\ ∃ xs,SqL K H p xs)\/(T = "tuple" /\ ∃ o,K.lookup p=some o/\o.cls=.type "tuple" /\ o.dict=none) \/
   (T = "dict" /\ ((∃ kvs,H p=some (.dK kvs))\/∃ kvs,H p=some (.dT kvs)))\/(T = "set" /\ ∃ S n,H p=some (.set S n))
 | _=>False
theorem Ko {pins:List (Addr×Obj)}{σ:St}{H:Hp}{s:Shared}{T:String}{x:V}{v:Value}(I:Inv X pins σ H s) (r:RelV x v) (ty:tyV X.K T x H):
  s.TypeIs v T/\∀ a,v=.ref a->∃ ob,s.heap.get? a=some ob/\ob.dict=none:=by
 cases x with
 | str z=>
  obtain⟨t,rfl⟩:=r
  cases (show T = "str" from ty)
  exact⟨typeIs_str s z t,λ_ e=>nomatch e⟩
 | int i=>
  obtain⟨t,rfl⟩:=r
  cases (show T = "int" from ty)
  exact⟨typeIs_int s i t,λ_ e=>nomatch e⟩
 | ref p=>
  cases r
  rcases ty with ⟨rfl,xs,hq⟩ | ⟨rfl,o,hk,hc,hd⟩ | ⟨rfl,hk⟩ | ⟨rfl,S,n,hk⟩
  ·obtain⟨its,_,pl,_⟩:=I.list hq
   refine⟨pl.isList.typeIs,λa e=>?_⟩
   cases e
   obtain⟨o,n,e,c,hd,_⟩:=pl
   exact⟨o,e,hd⟩
  ·refine⟨⟨o,I.kIn p o hk,hc⟩,λa e=>?_⟩
   cases e
   exact⟨o,I.kIn _ o hk,hd⟩
  ·have z:∃ o,s.heap.get? p=some o/\o.ExactDict:=by
    rcases hk with ⟨kvs,hk⟩ | ⟨kvs,hk⟩
    ·obtain⟨_,_,_,_,o,_,_,e,ex,_⟩:=I.hok p _ hk
     exact⟨o,e,ex⟩
    ·obtain⟨_,_,_,_,o,_,_,e,ex,_⟩:=I.hok p _ hk
     exact⟨o,e,ex⟩
   obtain⟨o,e,ex⟩:=z
   refine⟨⟨o,e,ex.1⟩,λa e2=>?_⟩
   cases e2
   exact⟨o,e,ex.2.1⟩
  ·obtain⟨o,_,_,_,e,ex,_⟩:=I.hok p _ hk
   refine⟨⟨o,e,ex.1⟩,λa e2=>?_⟩
   cases e2
   exact⟨o,e,ex.2.1⟩
 | _=>exact False.elim ty
def tBM (K:PySem.W.Frag) (T:String) (r:V->List V->Hp->VK->Prop) (to:TE) (t:TA):TE:=fun σ H Q=>to σ H λx H1=>tyV K T x H1/\t σ H1 λxs H2=>r x xs H2 Q
variable {o e:Expr}{es:List Expr}{to:TE}{t:TA}{name:Str}{apos cpos:Pos}{T id:String}{r:V->List V->Hp->VK->Prop}
theorem An (pa:PlainAttrs T) (slot:Slot T name id) (hty:typeOf (.builtin id)=pure (.type "method_descriptor")) (hm:MtR X id r) (ho:PE X o to) (ha:PA X (e::es) t)
  (hbase:attributeBase o name X.env (eval o X.env)=eval o X.env:=by rfl)
  (hfew:((backTo cpos (starEach (e::es) X.env)).all (λx=>!x.1)&&(backToKw cpos (keywordEach [] X.env)).all (λx=>x.1.isSome)
   && decide ((e::es).length+([]:List Keyword).length+(if ([]:List Keyword).isEmpty then 0 else 1) < 30))=true:=by rfl)
  (hline:(apos.endLine == cpos.line)=true:=by rfl) (hs:starEach (e::es) X.env=(false,eval e X.env)::starEach es X.env:=by rfl) (hplain:(backTo cpos (starEach es X.env)).any (·.1)=false:=by rfl):
  PE X (.Call (.Attribute o name apos) (e::es) [] cpos) (tBM X.K T r to t):=by
 intro pins s σ H Q I h
 refine wpAny_Call_method_late hbase hfew hline rfl (thn (ho pins s σ H _ I h) ?_)
 rintro v s1 ⟨x,H1,I1,r1,ty,q1⟩
 obtain⟨h1,h2⟩:=Ko I1 r1 ty
 refine⟨T,id,pa,slot,hty,h1,h2,?_⟩
 have hA:=ha cpos pins s1 σ H1 _ I1 q1
 rw[hs] at hA ⊢
 refine Calls.callWith_builtin (by show (false||(backTo cpos (starEach es X.env)).any (·.1))=false;rw[hplain] <;> rfl) (Calls.evalArgs_plain ?_)
 exact thn hA λus s2 ⟨vs,H2,I2,r2,q2⟩=>hm pins s2 σ H2 x vs v us Q I2 r1 r2 q2
end
end L2
namespace L2
open PySem PySem.Spec PyProof.Rows
def MtM (X:Cx) (id:String) (r:V->List V->Hp->VK->Prop):Prop:=
 ∀ (pins:List (Addr×Obj)) (s:Shared) (σ:St) (H:Hp) (x:V) (xs:List V) (v:Value) (us:List Value) (Q:VK),Inv X pins σ H s->RelV x v->Vals xs us->r x xs H Q->
  wpAny (model X.prog X.w) X.A (call (.builtin id) (v::us)) (EP X pins σ Q) X.xe s
theorem Vals.one {x:V}{us:List Value}(h:Vals [x] us):∃ u,us=[u]/\RelV x u:=by
 cases h with
 | cons r t=>cases t;exact⟨_,rfl,r⟩
theorem Vals.reverse {xs:List V}{us:List Value}(h:Vals xs us):Vals xs.reverse us.reverse:=by
 induction h with
 | nil=>exact .nil
 | cons r t ih=>rw[List.reverse_cons,List.reverse_cons];exact Vals.append ih (.cons r .nil)
section
variable {X:Cx}{pins:List (Addr×Obj)}{σ:St}{H:Hp}{s:Shared}{l b:Addr}{xs ys zs:List V}
theorem Inv.lset {its its':List Value}{n:Nat}{f:Array Value->Array Value}{t':Nat}(I:Inv X pins σ H s) (hH:H l=some (.lst xs))
  (e:s.heap.get? l=some { cls:=.type "list",data:=.seq its.toArray n }) (hf:f its.toArray=its'.toArray) (hv:Vals ys its') (hz:ys.length<=sizeLine):
  Inv X pins σ (upd H l (.lst ys)) { s with heap:=s.heap.update l (Obj.mapSeq f),toks:=t' }:=by
 have q:=PySem.IsL.update e f
 rw[hf] at q
 refine I.write (x:=l) (e:=l) (by rw[hH];exact trivial) (.inl rfl) (λb' u hb hu=>(Heap.get?_update_other s.heap (Obj.mapSeq f) (Ne.symm hb)).trans hu) ⟨_,q⟩ ?_
 exact⟨hz,its',_,hv,q⟩
theorem Inv.lnew {its:List Value}{t':Nat}(I:Inv X pins σ H s) (hv:Vals ys its) (hz:ys.length<=sizeLine):
  Inv X pins σ (upd H s.heap.objs.size (.lst ys)) { s with heap:=s.heap.push { cls:=.type "list",data:=.seq its.toArray },toks:=t' }:=
 I.laid (λ_ _ q=>Heap.get?_push_of_some _ q) (Nat.le_refl _) ⟨hz,its,0,hv,Heap.get?_push_size _ rfl⟩
theorem Inv.fresh (I:Inv X pins σ H s):H s.heap.objs.size=none:=I.hok.fresh (Nat.le_refl _)
theorem Inv.lstM (I:Inv X pins σ H s) (hH:H l=some (.lst xs)):xs.length<=sizeLine/\∃ (its:List Value) (n:Nat),Vals xs its/\xs.length=its.length/\s.heap.get? l=some { cls:=.type "list",data:=.seq its.toArray n }:=by
 obtain⟨z,its,n,r,e⟩:=I.hok l _ hH
 exact⟨z,its,n,r,r.length,e⟩
theorem Fj {n:Nat}(h:n<=sizeLine):Builtin.List.listTooLong n=false:=by
 unfold Builtin.List.listTooLong
 exact decide_eq_false (by omega)
end
section
variable {X:Cx}
def HY:V->List V->Hp->VK->Prop:=λx vs H Q=>∃ l xs y,x=.ref l/\vs=[y]/\H l=some (.lst xs)/\xs.length < sizeLine/\Q .non (upd H l (.lst (xs++[y])))
theorem vC:MtM X "list.append" HY:=by
 intro pins s σ H x vs v us Q I rx rv h
 obtain⟨l,xs,y,rfl,rfl,hH,hz,q⟩:=h
 cases rx
 obtain⟨u,rfl,ru⟩:=rv.one
 obtain⟨z,its,n,r,hl,e⟩:=I.lstM hH
 refine call_meets F.slot_list_append ⟨_,e,rfl⟩ F.entry_list_append (F.args_list_append_2 _ _) (PySem.list_append l its.toArray n u (by rw[List.size_toArray];omega)) ⟨e,?_⟩
 refine⟨.non,_,I.lset (its':=its++[u]) hH e (by simp) (r.append (.cons ru .nil)) ?_,rfl,q⟩
 rw[List.length_append,List.length_singleton]
 omega
def H_:V->List V->Hp->VK->Prop:=λx vs H Q=>∃ l b xs zs,x=.ref l/\vs=[.ref b]/\H l=some (.lst xs)/\H b=some (.lst zs)/\xs.length+zs.length<=sizeLine/\Q .non (upd H l (.lst (xs++zs)))
theorem CG:MtM X "list.extend" H_:=by
 intro pins s σ H x vs v us Q I rx rv h
 obtain⟨l,b,xs,zs,rfl,rfl,hH,hB,hz,q⟩:=h
 cases rx
 obtain⟨u,rfl,ru⟩:=rv.one
 cases ru
 obtain⟨z,its,n,r,hl,e⟩:=I.lstM hH
 obtain⟨z2,its2,n2,r2,hl2,e2⟩:=I.lstM hB
 have hsz:its.toArray.size+its2.toArray.size<=sizeLine:=by rw[List.size_toArray,List.size_toArray];omega
 have hlong:¬ (!its.toArray.isEmpty&&Builtin.List.listTooLong (its.toArray.size+its2.toArray.size))=true:=by
  rw[Fj hsz,Bool.and_false]
  exact Bool.false_ne_true
 refine call_meets F.slot_list_extend ⟨_,e,rfl⟩ F.entry_list_extend (F.args_list_extend_2 _ _)
  (AutoSeq1.list_extend_list_list_0 l its.toArray n b its2.toArray n2 hlong (by rw[List.size_toArray];omega) (by omega)) ⟨e,e2,?_⟩
 refine⟨.non,_,I.lset (its':=its++its2) hH e (by simp) (r.append r2) ?_,rfl,q⟩
 rw[List.length_append]
 omega
def Fl:R2:=λx y H Q=>∃ l b xs zs,x=.ref l/\y=.ref b/\H l=some (.lst xs)/\H b=some (.lst zs)/\xs.length+zs.length<=sizeLine/\∀ p,H p=none->Q (.ref p) (upd H p (.lst (xs++zs)))
theorem CJ:OpR X (binaryOp .Add) Fl:=by
 intro pins s σ H x y v u Q I rx ry h
 obtain⟨l,b,xs,zs,rfl,rfl,hH,hB,hz,q⟩:=h
 cases rx
 cases ry
 obtain⟨z,its,n,r,hl,e⟩:=I.lstM hH
 obtain⟨z2,its2,n2,r2,hl2,e2⟩:=I.lstM hB
 refine PySem.P.add_list e e2 ?_ (by rw[List.size_toArray,List.size_toArray];omega)
 have ea:its.toArray++its2.toArray=(its++its2).toArray:=by simp
 rw[ea]
 exact⟨.ref _,_,I.lnew (t':=s.toks) (r.append r2) (by rw[List.length_append];omega),rfl,q _ I.fresh⟩
end
section
variable {prog:Program}{w:World}{A:Around}{E:Value->Shared->Prop}{s:Shared}
end
section
variable {X:Cx}
end
end L2
namespace Att
open PySem PySem.W PySem.Calls PyProof.Rows
theorem t6 {P:Params}{h:Heap}:∀ (ns:List Int) (vs:List Value),WellAll P h vs (ns.map WData.int)->IntsAre vs ns:=by
 intro ns
 induction ns with
 | nil=>
  intro vs w
  rw[List.map_nil] at w
  cases w
  exact .nil
 | cons n ns ih=>
  intro vs w
  rw[List.map_cons] at w
  cases w with
  | cons a b=>
   cases a
   exact .cons _ _ (ih _ b)
theorem CK {l:OpenLaw}{n:Nat}(hn:l.most=some n){P:Params}{h:Heap}{args:List WData}{vals:List Value}
  (hpre:l.row.toRowW.claim.pre args=true) (hwl:WellAll P h vals args):
  ∃ a vs ns,vals=[Value.ref a]/\args=[WData.list (ns.map WData.int)]/\h.get? a=some { cls:=.type "list",data:=.seq vs.toArray }/\IntsAre vs ns/\ns.length<=n:=by
 have hsh:WShape.hasAll [] args [.list .int]=true:=(pre_splitW hpre).1
 have hc:l.pre.holds [] { args:=args }=true:=(pre_splitW hpre).2
 obtain⟨d,r,rfl,h1,h2⟩:=hasAllW_cons hsh
 obtain rfl:=hasAllW_nil h2
 obtain⟨xs,rfl,h3⟩:=hasW_list h1
 obtain⟨ns,rfl⟩:=items_int h3
 have hlen:ns.length<=n:=by
  unfold OpenLaw.pre at hc
  have h4:(WTm.not (.lt (.lit (.int (n:Int))) (.len (.arg 0)))).holds [] { args:=[.list (ns.map .int)] }=true:=by
   have h4:=(holds_andW hc).1
   rw[hn] at h4
   exact h4
  have h5:=condW_of h4 (w_not (w_lt w_lit (w_len_list (w_arg rfl))))
  rw[List.length_map] at h5
  refine Nat.le_of_not_lt λq=>?_
  have q':(n:Int) < ((ns.length:Nat):Int):=by omega
  first
   | (rw[decide_eq_true q'] at h5;exact absurd h5 (by decide))
   | (simp at h5;omega)
 cases hwl with
 | cons w1 w2=>
  cases w2
  cases w1 with
  | list ho hall=>exact⟨_,_,ns,rfl,rfl,ho,t6 ns _ hall,hlen⟩
theorem CN (l:OpenLaw) (args:List WData):l.row.toRowW.claim.post args (.bool true) args=true:=
 postW_of (r:=l.row.toRowW) (X:=(true == true))
  (show WShape.has [] (.bool true) .bool=true by first | rfl | decide | simp[WShape.has,WShape.arms,WShape.armsAll])
  (show (WTm.eq .res (.lit (.bool true))).value [] { args:=args,res:=some (.bool true),after:=args }=some (.bool (true == true)) from w_eq_bool (w_res rfl) w_lit) rfl
theorem attach_call {l:OpenLaw}{n:Nat}{q:Program}{loose:List Str}{XP:(Str->Option Value)->Heap->Prop}{YP:World->Heap->Prop}{d:DefRec}
  (hn:l.most=some n) (hdf:d.params.defaults=[])
  (call:∀ (w:World) (s₀ s₁:Shared) (mg mb:Str->Option Value) (fa:Addr) (o:Obj) (pm cd doc:Value) (a:Addr) (vs:List Value) (ns:List Int),
   Ground q loose [] XP w s₀ mg mb s₁.heap->YP w s₁.heap->
   s₁.heap.get? fa=some o->o.data=.func (docDef d.name d.params d.body d.scope pm cd doc)->s₁.heap.CodeRec cd d.name->mg d.name=some (.ref fa)->
   s₁.heap.get? a=some { cls:=.type "list",data:=.seq vs.toArray }->IntsAre vs ns->ns.length<=n->s₁.gens=#[]->
   codeAny (model l.prog w) callerA (.call (.ref fa) ⟨[.ref a],[]⟩) (λr s'=>r=.ok (.ret (.bool true))/\OldK s₁.heap s'.heap/\s'.os=s₁.os/\AllBare s'.gens) s₁):
  WalkO q loose XP YP l.row.toRowW d [] (λf vs=>PySem.call f vs):=by
 intro w s₀ s₁ mg mb G Y fa o pm cd doc dV kV ho hd hcd hD hmg hg args vals as hpre hlay hrd hwl hlo
 obtain rfl:dV=.none:=Dflts.none hD hdf
 obtain rfl:kV=.none:=Dflts.noKw hD
 obtain⟨a,vs,ns,rfl,rfl,hobj,hints,hlen⟩:=CK hn hpre hwl
 refine enter_call (codeAny_mono (call w s₀ s₁ mg mb fa o pm cd doc a vs ns G Y ho (fd_plain hd) hcd hmg hobj hints hlen hg) λr s' hq=>?_)
 obtain⟨rfl,h2,h3,h4⟩:=hq
 exact⟨.inl ⟨.bool true,.bool true,[],rfl,λ_=>rfl,.bool true,CN l _,λ_=>⟨List.Pairwise.nil,λ_ hm=>(nomatch hm)⟩⟩,h2,h3,h4⟩
section
variable {prog:Program}{w:World}{A:Around}{E:Value->Shared->Prop}{s:Shared}{K:Frag}
end
end Att
namespace L2
open PySem PySem.Spec PyProof.Rows
theorem vD:∀ {vs:List Value}{ns:List Int},IntsAre vs ns->Vals (ns.map V.int) vs
 | _,_,.nil=>.nil
 | _,_,.cons n t h=>.cons ⟨t,rfl⟩ (vD h)
def Only (H:Hp):Prop:=∀ b,H b=none\/∃ o xs,H b=some (.frz o (.lst xs))
theorem Fo {P:Program}{w:World}{K:PySem.W.Frag}{mg mb:Str->Option Value}{CX:CXT}{k:Nat}{fa a:Addr}{fd:FuncData}{x:Str}{sp:Sp}{s₁:Shared}{vs:List Value}{ns:List Int}
  (KX:K.In s₁.heap) (hns:s₁.heap.Ns mainGlobals mg) (hb:s₁.heap.Ns builtinsNs mb) (hbb:∀ x:Str,x ≠ "__name__" -> mb x=bootBuiltins x) (hlim:s₁.heap.NoLimit) (hg:s₁.gens=#[])
  (ha:s₁.heap.get? a=some { cls:=.type "list",data:=.seq vs.toArray }) (hi:IntsAre vs ns) (hl:ns.length<=sizeLine) (hr:Room k callerA)
  (F:∀ base:Heap,K.In base->base.Ns mainGlobals mg->FnOk P w K mg base CX k fa fd [x] sp) (hbind:∀ (s:Shared) (u:Value),BindsTo s fd ⟨[u],[]⟩ [(x,u)])
  (hsp:∀ H:Hp,Only H->SqL K H a (ns.map V.int)->sp [.ref a] H (λv _=>v=.bl true) λ_ _ _=>False)
  (hCX:∀ H e s',CX [] H s₁ (λ_ _ _=>False) e s'->False):
  codeAny (model P w) callerA (.call (.ref fa) ⟨[.ref a],[]⟩) (λr s'=>r=.ok (.ret (.bool true))/\OldK s₁.heap s'.heap/\s'.os=s₁.os/\AllBare s'.gens) s₁:=by
 have rv:=vD hi
 have lenV:=hi.length
 have core:∀ H:Hp,Only H->SqL K H a (ns.map V.int)->HOk P w K H s₁.heap->(∀ b,H b≠none->b=a)->(H a≠none->K.lookup a=none)->
   codeAny (model P w) callerA (.call (.ref fa) ⟨[.ref a],[]⟩) (λr s'=>r=.ok (.ret (.bool true))/\OldK s₁.heap s'.heap/\s'.os=s₁.os/\AllBare s'.gens) s₁:=by
  intro H hO hS hok hA hK
  have base_of:∀ {b:Addr}{o:Obj},s₁.heap.get? b=some o->H b=none->(pB s₁.heap H).get? b=some o:=λe n=>Ej e n
  have noA:∀ {b:Addr}{o:Obj}{es:Array DictEntry}{ep:Nat},s₁.heap.get? b=some o->o.data=.dict es ep->H b=none:=λ{b o es ep} e d=>by
   cases q:H b with
   | none=>rfl
   | some u=>
    have e':b=a:=hA b (by rw[q];simp)
    subst e'
    rw[ha] at e;cases e
    have d':Data.seq vs.toArray _=Data.dict es ep:=d
    cases d'
  have nsK:∀ {b:Addr}{m:Str->Option Value},s₁.heap.Ns b m->(pB s₁.heap H).Ns b m:=λ{b m} ⟨o,es,ep,e,d,r⟩=>⟨o,es,ep,base_of e (noA e d),d,r⟩
  have hKb:K.In (pB s₁.heap H):=λb o e=>base_of (KX b o e) (by
   cases q:H b with
   | none=>rfl
   | some u=>
    have e':b=a:=hA b (by rw[q];simp)
    subst e'
    rw[hK (by rw[q];simp)] at e;cases e)
  have hM:Mod K mg (pB s₁.heap H):=⟨hKb,nsK hns,⟨mb,nsK hb,hbb⟩,let ⟨mc,h1,h2⟩:=hlim;⟨mc,nsK h1,h2⟩⟩
  have e0:Env0 P w K mg (pB s₁.heap H) callerA [] s₁ H:=⟨rfl,hM,λb o e=>Hj e,Nat.le_of_eq (B_ _ _),trivial,λb hb=>absurd (show b∈([]:List Addr) from hb) (by simp),hok,.of_eq hg⟩
  refine codeAny_mono ((F _ hKb (nsK hns)).run callerA [] s₁ H ⟨[.ref a],[]⟩ [.ref a] [.ref a] _ _ hr e0 (hbind s₁ (.ref a)) (.cons rfl .nil) (hsp H hO hS)) λr s' h=>?_
  cases r with
  | error e=>exact(hCX H e s' h).elim
  | ok fl=>
   cases fl with
   | next=>exact False.elim h
   | brk=>exact False.elim h
   | cont=>exact False.elim h
   | ret u=>
    obtain⟨v,H',os,bare,un,hok',r',q⟩:=h
    have q':v=.bl true:=q
    subst q'
    obtain rfl:u=Value.bool true:=r'
    refine⟨rfl,OldK.of_keep λb o e=>?_,os,bare⟩
    cases q:H b with
    | none=>exact un.keep b o e q (by intro z;exact absurd (show b∈([]:List Addr) from z) (by simp)) (by simp)
    | some u=>
     rcases hO b with z | ⟨ob,xs,z⟩
     ·rw[q] at z;cases z
     ·have z2:=un.frzs b ob _ z
      obtain⟨e1,_⟩:=hok b _ z
      obtain⟨e2,_⟩:=hok' b _ z2
      rw[e] at e1;cases e1
      exact e2
 cases hk:K.lookup a with
 | some o=>
  have e:=KX a o hk
  rw[ha] at e
  cases e
  refine core (λ_=>none) (λ_=>.inl rfl) (.inr ⟨_,vs.toArray,_,hk,rfl,rfl,rfl,by rw[List.size_toArray,lenV];exact hl,by simpa using rv⟩) (λb u z=>by have z':(none:Option HO)=some u:=z;cases z') (λb z=>absurd rfl z) λz=>absurd rfl z
 | none=>
  refine core (λb=>if b=a then some (.frz { cls:=.type "list",data:=.seq vs.toArray } (.lst (ns.map V.int))) else none) (λb=>?_) (.inl (.inr ⟨{ cls:=.type "list",data:=.seq vs.toArray },if_pos rfl⟩)) (λb u z=>?_) (λb z=>?_) λ_=>hk
  ·by_cases hb:b=a
   ·exact .inr ⟨_,_,if_pos hb⟩
   ·exact .inl (if_neg hb)
  ·by_cases hb:b=a
   ·have z':=(if_pos hb).symm.trans z
    cases z'
    subst hb
    exact⟨ha,by rw[List.length_map];exact hl,vs,_,rv,ha⟩
   ·have z':=(if_neg hb).symm.trans z
    cases z'
  ·by_cases hb:b=a
   ·exact hb
   ·exact absurd (if_neg hb) z
end L2
namespace L2
open PySem PySem.Spec PyProof.Rows
theorem walk_of {l:PySem.W.OpenLaw}{n k:Nat}{q:Program}{loose:List Str}{XP:(Str->Option Value)->Heap->Prop}{YP:World->Heap->Prop}{d:DefRec}{K:Params->PySem.W.Frag}{CX:World->CXT}{sp:World->Sp}{x:Str}
  (hn:l.most=some n) (hn2:n<=sizeLine) (hdf:d.params.defaults=[]) (hr:Room k callerA)
  (hY:∀ (w:World) (h:Heap),YP w h->(K w.params).In h)
  (F:∀ (w:World) (mg:Str->Option Value) (fa:Addr) (h:Heap),(K w.params).In h->h.Ns mainGlobals mg->mg d.name=some (.ref fa)->
   ∃ fd:FuncData,(∀ (s:Shared) (u:Value),BindsTo s fd ⟨[u],[]⟩ [(x,u)]) /\
    ∀ base:Heap,(K w.params).In base->base.Ns mainGlobals mg->FnOk l.prog w (K w.params) mg base (CX w) k fa fd [x] (sp w))
  (hsp:∀ (w:World) (H:Hp) (a:Addr) (ns:List Int),ns.length<=n->Only H->SqL (K w.params) H a (ns.map V.int)->sp w [.ref a] H (λv _=>v=.bl true) λ_ _ _=>False)
  (hCX:∀ (w:World) (H:Hp) (s:Shared) (e:Value) (s':Shared),CX w [] H s (λ_ _ _=>False) e s'->False):
  PySem.W.WalkO q loose XP YP l.row.toRowW d [] (λf vs=>PySem.call f vs):=by
 refine Att.attach_call hn hdf λw s₀ s₁ mg mb fa o pm cd doc a vs ns G Y ho hd hcd hmg hobj hints hlen hg=>?_
 have KX:=hY w _ Y
 obtain⟨fd,hb,hF⟩:=F w mg fa _ KX G.T.g hmg
 exact Fo KX G.T.g G.T.b G.T.builtins G.T.nolimit hg hobj hints (Nat.le_trans hlen hn2) hr hF hb (λH hO hS=>hsp w H a ns hlen hO hS) λH e s'=>hCX w H s₁ e s'
end L2
namespace L2
open PySem PySem.Spec PyProof.Rows
def inClass (s:Stmt) (j:Nat):Stmt:=match s with
 | .ClassDef _ _ _ body _ _ _ _ _ _ _=>body.getD j (.Pass ⟨0,0,0,0⟩)
 | _=>.Pass ⟨0,0,0,0⟩
def aN (s:Stmt):Arguments:=match s with
 | .FunctionDef _ a _ _ _ _ _ _ _ _=>a
 | _=>{ posonlyargs:=[],args:=[],vararg:=none,kwonlyargs:=[],kw_defaults:=[],kwarg:=none,defaults:=[] }
def aM (s:Stmt):List Stmt:=match s with
 | .FunctionDef _ _ b _ _ _ _ _ _ _=>b
 | _=>[]
def ao (s:Stmt):Scope:=match s with
 | .FunctionDef _ _ _ _ _ _ sc _ _ _=>sc
 | _=>{ kind:=.function,names:=[],isGenerator:=false,isCoroutine:=false }
abbrev CX0:CXT:=λ_ _ _ _ _ _=>False
abbrev E0:XK:=λ_ _ _=>False
theorem wV {X:Cx}:mY CX0 X E0:=λ_ _ _ _ _ _ _ h=>h.elim
structure Fun (K:PySem.W.Frag) (x qual:Str) (st:Stmt) (f:Addr) (fd:FuncData):Prop where
 ex:∃ (oc:Value) (od:Option Addr) (kV doc pm:Value) (an:Option Addr) (cdv ct:Value) (osl:Array (Option Value)),
  fd=PySem.W.fnOf x qual (aN st) (aM st) (ao st) .none kV doc pm an cdv ct/\K.lookup f=some ⟨oc,od,.func fd,osl⟩/\PySem.W.codeIn K cdv qual=true
 kp:PySem.W.keepIn K (.ref f)=true
section
variable {P:Program}{w:World}{K:PySem.W.Frag}{mg:Str->Option Value}{base:Heap}
theorem Fun.ok {x qual:Str}{st:Stmt}{f:Addr}{fd:FuncData}{N ps:List Str}{k:Nat}{sp:Sp}(F:Fun K x qual st f fd) (S:FnScope N ps (ao st)) (len:∀ vs H Q E,sp vs H Q E->vs.length=ps.length)
  (hbody:∀ (cdv:Value) (A:Around) (outer:List Env) (s:Shared) (H:Hp) (vs:List V) (Q:VK) (E:XK),Room k (A.deeper (envOfC qual (ao st) s.heap.objs.size f cdv))->sp vs H Q E->
   ∃ t,PSs (uM CX0 P w K mg base N qual (ao st) f cdv A outer s H E).nox (aM st) t/\t { nx:=λ_ H'=>Q .non H',rt:=Q } (start N vs) H):FnOk P w K mg base CX0 (k+1) f fd ps sp:=by
 obtain⟨oc,od,kV,doc,pm,an,cdv,ct,osl,rfl,lk,hcd⟩:=F.ex
 refine Mw lk hcd S len λA outer s H vs Q E hr hsp=>?_
 obtain⟨t,h,q⟩:=hbody cdv A outer s H vs Q E hr hsp
 exact⟨t,h.nox,q⟩
theorem Fun.binds {x qual:Str}{st:Stmt}{f:Addr}{fd:FuncData}{ps:List Str}(F:Fun K x qual st f fd)
  (h:∀ (kV doc pm:Value) (an:Option Addr) (cdv ct:Value) (us:List Value),us.length=ps.length->bindArgs (PySem.W.fnOf x qual (aN st) (aM st) (ao st) .none kV doc pm an cdv ct) ⟨us,[]⟩=pure (ps.zip us)):Binds K fd ps []:=by
 obtain⟨oc,od,kV,doc,pm,an,cdv,ct,osl,rfl,lk,hcd⟩:=F.ex
 exact .all (h kV doc pm an cdv ct)
theorem aX {x qual:Str}{st:Stmt}{f:Addr}{oc:Value}{od an:Option Addr}{osl:Array (Option Value)}{kV doc pm cdv ct:Value}(l:K.lookup f=some ⟨oc,od,.func (PySem.W.fnOf x qual (aN st) (aM st) (ao st) .none kV doc pm an cdv ct),osl⟩)
  (c:PySem.W.codeIn K cdv qual=true) (k:PySem.W.keepIn K (.ref f)=true):Fun K x qual st f (PySem.W.fnOf x qual (aN st) (aM st) (ao st) .none kV doc pm an cdv ct):=⟨⟨oc,od,kV,doc,pm,an,cdv,ct,osl,rfl,l,c⟩,k⟩
end
theorem wW {A:Around}{k:Nat}(hr:Room k A):A.units+1 < cLine:=Nat.lt_of_le_of_lt (Nat.add_le_add_left (by decide:1<=64) _) hr.units
section
variable {X:Cx}
theorem pv (i:Nat){x:Str}{pos:Pos}(hN:X.N[i]?=some x:=by rfl) (hv:Vis X.env.scope x:=by first | exact Or.inl rfl | exact Or.inr (Or.inl rfl) | exact Or.inr (Or.inr rfl)) (hd:(x == ("__debug__" : Str))=false:=by decide)
  (hcd:(x == ("__classdict__" : Str))=false:=by decide):PE X (.Name x pos) (Jw i):=j_ hN hv hd hcd
end
theorem Fp {A B:Prop}(h:B):if false=true then A else B:=by
 rw[if_neg Bool.false_ne_true]
 exact h
theorem Fq {A B:Prop}(h:A):if true=true then A else B:=by
 rw[if_pos rfl]
 exact h
def Same (H H':Hp):Prop:=∀ b o,H b=some o->H' b=some o
theorem Same.refl (H:Hp):Same H H:=λ_ _ h=>h
theorem Same.trans {H H1 H2:Hp}(a:Same H H1) (b:Same H1 H2):Same H H2:=λc o h=>b c o (a c o h)
theorem Same.free {H H':Hp}(e:Same H H'){l:Addr}(h:H' l=Option.none):H l=Option.none:=by
 cases q:H l with
 | none=>rfl
 | some o=>
  rw[e l o q] at h
  cases h
end L2
namespace L2
open PySem PySem.Spec PyProof.Rows
section
variable {X:Cx}
theorem CP:CallR X (.builtin "len") (λxs H Q=>∃ a kvs,xs=[V.ref a]/\H a=some (.dK kvs)/\Q (.int kvs.length) H):=by
 intro pins s σ H xs us Q I r h
 obtain⟨a,kvs,rfl,ha,q⟩:=h
 obtain⟨u,rfl,ru⟩:=vals1 r
 cases ru
 exact Mx I (.inl ha) λt s' I'=>⟨.int kvs.length,H,I',⟨t,rfl⟩,q⟩
end
section
variable {κ:Type} [DecidableEq κ]
end
end L2
namespace L2
open PySem PySem.Spec PyProof.Rows
theorem sU {α β:Type}{l:List α}{f:α->β->Sem (ForInStep β)}(g:α->β->β):∀ (c:β),(∀ x∈l,∀ c,f x c=pure (.yield (g x c)))->
  forIn l c f=pure (l.foldl (λc x=>g x c) c):=by
 induction l with
 | nil=>intro c _;rfl
 | cons x l ih=>
  intro c h
  rw[List.forIn_cons,h x List.mem_cons_self,pure_bind]
  exact ih _ λy hy=>h y (List.mem_cons_of_mem _ hy)
def jh (env:Env) (x:Str×NameKind) (c:List (Str×Addr)):List (Str×Addr):=if x.2=.free then (x.1,(env.cells.lookup x.1).getD 0)::c else c
def sV (env:Env) (names:List (Str×NameKind)):List (Str×Addr):=names.foldl (λc x=>jh env x c) []
theorem wA {scope:Scope}{env:Env}(h:∀ x∈scope.names,x.2=.free->∃ c,env.cells.lookup x.1=some c):closureFor scope env=pure (sV env scope.names):=by
 simp only[closureFor]
 rw[sU (jh env) [] (λx hx c=>by
  obtain⟨n,kind⟩:=x
  by_cases e:kind=.free
  ·subst e
   obtain⟨a,ha⟩:=h _ hx rfl
   have ha':env.cells.lookup n=some a:=ha
   simp[jh,cellOf,ha']
  ·have:(kind == NameKind.free)=false:=by simpa using e
   simp[jh,e,this])]
 rfl
theorem t7 {env:Env}:∀ (l:List (Str×NameKind)) (cs:List (Str×Addr)),(∀ x∈l,x.2=.free->∃ c,env.cells.lookup x.1=some c)->(∀ y c,cs.lookup y=some c->env.cells.lookup y=some c)->
  ∀ y c,(l.foldl (λc x=>jh env x c) cs).lookup y=some c->env.cells.lookup y=some c
 | [],cs,_,h2,y,c,e=>h2 y c e
 | x::r,cs,h1,h2,y,c,e=>by
  refine t7 r (jh env x cs) (λz hz=>h1 z (List.mem_cons_of_mem _ hz)) (λz d q=>?_) y c e
  unfold jh at q
  by_cases k:x.2=.free
  ·rw[if_pos k] at q
   obtain⟨a,ha⟩:=h1 x List.mem_cons_self k
   rw[List.lookup_cons] at q
   cases hb:z == x.1 with
   | true=>
    rw[hb] at q
    have ez:z=x.1:=by simpa using hb
    rw[ha] at q
    have q':a=d:=by simpa using q
    rw[ez,ha,q']
   | false=>
    rw[hb] at q
    exact h2 z d q
  ·rw[if_neg k] at q
   exact h2 z d q
theorem m_ {env:Env}{names:List (Str×NameKind)}(h:∀ x∈names,x.2=.free->∃ c,env.cells.lookup x.1=some c){y:Str}{c:Addr}(e:(sV env names).lookup y=some c):env.cells.lookup y=some c:=
 t7 names [] h (λy c q=>by simp at q) y c e
theorem t8 {env:Env}{y:Str}:∀ (l:List (Str×NameKind)) (cs:List (Str×Addr)),((y,.free)∈l\/∃ c,cs.lookup y=some c)->∃ c,(l.foldl (λc x=>jh env x c) cs).lookup y=some c
 | [],cs,h=>by
  rcases h with h | h
  ·simp at h
  ·exact h
 | x::r,cs,h=>by
  refine t8 r (jh env x cs) ?_
  rcases h with h | ⟨c,h⟩
  ·rcases List.mem_cons.mp h with e | e
   ·refine .inr ⟨(env.cells.lookup y).getD 0,?_⟩
    rw[← e]
    simp[jh]
   ·exact .inl e
  ·refine .inr ?_
   unfold jh
   split
   ·rw[List.lookup_cons]
    split
    ·exact⟨_,rfl⟩
    ·exact⟨c,h⟩
   ·exact⟨c,h⟩
theorem CQ {env:Env}{names:List (Str×NameKind)}{y:Str}(h:(y,.free)∈names):∃ c,(sV env names).lookup y=some c:=t8 names [] (.inl h)
theorem mem_of_lookup {x:Str}{k:NameKind}:∀ {l:List (Str×NameKind)},l.lookup x=some k->(x,k)∈l
 | [],h=>by simp at h
 | (n,j)::r,h=>by
  rw[List.lookup_cons] at h
  cases hb:x == n with
  | true=>
   rw[hb] at h
   have e:x=n:=by simpa using hb
   have e2:j=k:=by simpa using h
   rw[e,e2]
   exact List.mem_cons_self
  | false=>
   rw[hb] at h
   exact List.mem_cons_of_mem _ (mem_of_lookup h)
theorem qu {env:Env}:∀ {names:List (Str×NameKind)}{x:Str},names.lookup x=some .free->
  (names.map λ(n,k)=>if (k == NameKind.free&&env.scope.kind == .function&&env.kindOf n == some .cell) then (n,NameKind.cell) else (n,k)).lookup x=some .cell \/
  (names.map λ(n,k)=>if (k == NameKind.free&&env.scope.kind == .function&&env.kindOf n == some .cell) then (n,NameKind.cell) else (n,k)).lookup x=some .free
 | [],_,h=>by simp at h
 | (n,k)::r,x,h=>by
  have ih:=@qu env r x
  cases hx:x == n with
  | true=>
   simp only[List.lookup_cons,hx] at h
   cases h
   by_cases hc:(NameKind.free == NameKind.free&&env.scope.kind == .function&&env.kindOf n == some .cell)=true
   ·refine .inl ?_
    simp only[List.map_cons,if_pos hc,List.lookup_cons,hx]
   ·refine .inr ?_
    simp only[List.map_cons,if_neg hc,List.lookup_cons,hx]
  | false=>
   simp only[List.lookup_cons,hx] at h
   have ih:=ih h
   by_cases hc:(k == NameKind.free&&env.scope.kind == .function&&env.kindOf n == some .cell)=true
   ·simp only[List.map_cons,if_pos hc,List.lookup_cons,hx]
    exact ih
   ·simp only[List.map_cons,if_neg hc,List.lookup_cons,hx]
    exact ih
theorem pC {env:Env}:∀ {names:List (Str×NameKind)}{x:Str}{j:NameKind},(∀ y∈names,y.2≠.cell)->(j=.cell\/j=.free)->
  (names.map λ(n,k)=>if (k == NameKind.free&&env.scope.kind == .function&&env.kindOf n == some .cell) then (n,NameKind.cell) else (n,k)).lookup x=some j->(x,.free)∈names
 | [],_,_,_,_,h=>by simp at h
 | (n,k)::r,x,j,hn,hj,h=>by
  have ih:=@pC env r x j (λy hy=>hn y (List.mem_cons_of_mem _ hy)) hj
  cases hx:x == n with
  | true=>
   have e:x=n:=by simpa using hx
   subst e
   by_cases hc:(k == NameKind.free&&env.scope.kind == .function&&env.kindOf x == some .cell)=true
   ·have hk:k=.free:=by
     simp only[Bool.and_eq_true,beq_iff_eq] at hc
     exact hc.1.1
    subst hk
    exact List.mem_cons_self
   ·simp only[List.map_cons,if_neg hc,List.lookup_cons,hx] at h
    have hk:k=j:=by simpa using h
    rcases hj with z | z
    ·exact absurd (hk.trans z) (hn (x,k) List.mem_cons_self)
    ·rw[hk,z]
     exact List.mem_cons_self
  | false=>
   by_cases hc:(k == NameKind.free&&env.scope.kind == .function&&env.kindOf n == some .cell)=true
   ·simp only[List.map_cons,if_pos hc,List.lookup_cons,hx] at h
    exact List.mem_cons_of_mem _ (ih h)
   ·simp only[List.map_cons,if_neg hc,List.lookup_cons,hx] at h
    exact List.mem_cons_of_mem _ (ih h)
abbrev Cx.comp (X:Cx) (N:List Str) (scope:Scope) (C:Addr) (s:Shared) (H:Hp) (fp:List Addr):Cx where
 prog:=X.prog
 w:=X.w
 K:=X.K
 mg:=X.mg
 base:=X.base
 A:=X.A
 N:=N
 s₀:=s
 H₀:=H
 env:=compEnvC scope (sV X.env scope.names) C X.env
 outer:=X.stack
 stack:=X.stack
 ex:=fp
 fn:=λ_=>false
 calm:=X.calm
 pn:=[]
 xe:=λ_ _=>False
def Ao (scope:Scope) (ON N:List Str) (cap:List (Option Nat)):Bool:=
 cap.length == N.length&&(List.range N.length).all λj=>match cap[j]? with
  | some (some i)=>(match N[j]?,ON[i]? with
   | some x,some y=>x == y&&(scope.names.lookup x == some NameKind.free)
   | _,_=>false)
  | _=>true
structure CSc (osc scope:Scope) (ON N:List Str) (cap:List (Option Nat)):Prop where
 kind:scope.kind=.function
 noc:∀ y∈scope.names,y.2≠.cell
 loc:∀ y∈scope.names,y.2=.local->scope.names.lookup y.1=some .local
 fr:∀ y∈scope.names,y.2=.free->osc.names.lookup y.1=some .cell\/osc.names.lookup y.1=some .free
 cap:Ao scope ON N cap=true
theorem CSc.at {osc scope:Scope}{ON N:List Str}{cap:List (Option Nat)}(S:CSc osc scope ON N cap){j i:Nat}{x:Str}(h:cap[j]?=some (some i)) (hx:N[j]?=some x):ON[i]?=some x/\scope.names.lookup x=some .free:=by
 have h0:=S.cap
 unfold Ao at h0
 rw[Bool.and_eq_true] at h0
 have hj:j < N.length:=(List.getElem?_eq_some_iff.mp hx).1
 have h1:=List.all_eq_true.mp h0.2 j (List.mem_range.mpr hj)
 rw[h] at h1
 dsimp only at h1
 rw[hx] at h1
 cases hy:ON[i]? with
 | none=>rw[hy] at h1;simp at h1
 | some y=>
  rw[hy] at h1
  simp only[Bool.and_eq_true,beq_iff_eq] at h1
  exact⟨by rw[h1.1],h1.2⟩
theorem CSc.len {osc scope:Scope}{ON N:List Str}{cap:List (Option Nat)}(S:CSc osc scope ON N cap):cap.length=N.length:=by
 have h0:=S.cap
 unfold Ao at h0
 rw[Bool.and_eq_true,beq_iff_eq] at h0
 exact h0.1
def xR (σ:St):Option Nat->Option V
 | some i=>(σ[i]?).getD none
 | none=>none
def fC (cap:List (Option Nat)) (σ:St):St:=cap.map (xR σ)
def pD (X:Cx) (ifs:List Expr) (t:TT):Prop:=
 ∀ (pins:List (Addr×Obj)) (s:Shared) (σ:St) (H:Hp) (Q:Bool->Hp->Prop),Inv X pins σ H s->t σ H Q->
  wpAny (model X.prog X.w) X.A (forIn ifs true λc r=>if r=true then do let ok ← isTrue c X.env (eval c X.env);pure (ForInStep.yield ok) else pure (ForInStep.yield r)) (TP X pins σ Q) X.xe s
def Og:TT:=λ_ H Q=>Q true H
theorem Ft {X:Cx}:pD X [] Og:=λ_ _ _ H _ I h=>wpAny_tests_nil ⟨H,I,h⟩
theorem pG {X:Cx}{c:Expr}{t:TT}(h:PT X c t):pD X [c] t:=λpins s σ H Q I q=>wpAny_tests_one (h pins s σ H Q I q)
theorem nP {prog:Program}{w:World}{A:Around}{R:Result->Shared->Prop}{s:Shared}{elt target iter:Expr}{ifs:List Expr}{scope:Scope}{pos:Pos}{it acc:Value}{env:Env}(I:Nat->Shared->Prop)
  (turn:∀ n s,I n s->wpAny (model prog w) A (pyNext it) (λr s₁=>match r with
   | none=>R (.ok .next) s₁
   | some v=>wpAny (model prog w) A (letOwnedTupleGo target it v) (λ_ s₁'=>wpAny (model prog w) A (assign target env v) (λ_ s₂=>
     wpAny (model prog w) A (forIn ifs true λc r=>if r=true then do let ok ← isTrue c env (eval c env);pure (ForInStep.yield ok) else pure (ForInStep.yield r)) (λok s₃=>
      if ok=true then wpAny (model prog w) A (eval elt env) (λx s₄=>
       wpAny (model prog w) A (call (.builtin "list.append") [acc,x]) (λ_ s₅=>∃ m,m < n/\I m s₅) (λ_ _=>False) s₄) (λ_ _=>False) s₃
      else ∃ m,m < n/\I m s₃) (λ_ _=>False) s₂) (λ_ _=>False) s₁') (λ_ _=>False) s₁) (λ_ _=>False) s)
  (n:Nat) (h:I n s):
  codeAny (model prog w) A (.compLoop (.ListComp elt [⟨target,iter,ifs,0⟩] scope pos) 0 it acc env) R s:=by
 refine codeAny_loop rfl I (λn s hI=>?_) n h
 show wpAny _ A ((compTurn (.ListComp elt [⟨target,iter,ifs,0⟩] scope pos) 0 it acc env).onRaise (λx=>do noteFrame x env;theTreesLotGoes x)) _ _ s
 refine wpAny_noted ?_
 rw[compTurn_list]
 refine wpAny_bind (wpAny_standAt (wpAny_bind (wpAny_mono (turn n s hI) (λr s₁ h₁=>?_) λ_ _ h'=>h'.elim)))
 cases r with
 | none=>exact wpAny_pure h₁
 | some v=>
  refine wpAny_bind (wpAny_mono h₁ (λ_ s₁' h₁'=>?_) λ_ _ h'=>h'.elim)
  refine wpAny_bind (wpAny_mono h₁' (λ_ s₂ h₂=>wpAny_bind (wpAny_mono h₂ (λok s₃ h₃=>?_) λ_ _ h'=>h'.elim)) λ_ _ h'=>h'.elim)
  cases ok with
  | false=>exact wpAny_pure ⟨rfl,h₃⟩
  | true=>
   exact wpAny_bind (wpAny_bind (wpAny_mono h₃ (λx s₄ h₄=>wpAny_bind (wpAny_mono h₄ (λ_ s₅ h₅=>wpAny_pure (wpAny_pure ⟨rfl,h₅⟩)) λ_ _ h'=>h'.elim)) λ_ _ h'=>h'.elim))
def Kp (σ σ2:St):Prop:=σ.length=σ2.length/\∀ (i:Nat) (v:V),σ[i]?=some (some v)->σ2[i]?=some (some v)
structure TComp (wi:TI) (cap:List (Option Nat)) (g:TG) (tt:TT) (te:TE) (σ:St) (H:Hp) (Q:VK):Prop where
 ex:wi σ H λJ H1=>∀ D,H1 D=none->∃ W:Nat->Nat->List V->Hp->Prop,
 (∃ m,W 0 m [] (upd H1 D (.lst [])))/\∀ i m ys H,W i m ys H->H D=some (.lst ys)/\((J.stop i H/\Q (.ref D) H) \/
  (J.go i H/\∃ N:List V->Hp->Prop,(∀ ys' H',N ys' H'->∃ m',m' < m/\W (i+1) m' ys' H')/\∀ x H',J.yld i H x H'->g x (fC cap σ) H' fun σ2 H2=>Kp (fC cap σ) σ2/\tt σ2 H2 λb H3=>
   if b=true then te σ2 H3 λy H4=>H4 D=some (.lst ys)/\ys.length < sizeLine/\N (ys++[y]) (upd H4 D (.lst (ys++[y]))) else N ys H3))
def wX (wi:TI) (cap:List (Option Nat)) (g:TG) (tt:TT) (te:TE):TE:=fun σ H Q=>TComp wi cap g tt te σ H Q
section
variable {X:Cx}{tg iter elt:Expr}{ifs:List Expr}{scope osc:Scope}{ON N:List Str}{cap:List (Option Nat)}{wi:TI}{g:TG}{tt:TT}{te:TE}{pos:Pos}
theorem Ia {pins:List (Addr×Obj)}{σ:St}{H2:Hp}{s2:Shared}{fp:List Addr}{C:Addr}(I2:Inv X pins σ H2 s2) (S:CSc osc scope ON N cap) (hsc:X.env.scope=osc) (f2:∀ b∈fp,lE X pins H2 b)
  (hfp:∀ b∈fp,b < s2.heap.objs.size) (hC:s2.heap.objs.size<=C):(X.comp N scope C s2 H2 fp).Ok:=by
 have hfr:∀ x∈scope.names,x.2=.free->∃ c,X.env.cells.lookup x.1=some c:=λx hx e=>I2.ok.has x.1 (by
  rcases S.fr x hx e with z | z
  ·exact .inl (by rw[Env.kindOf,hsc];exact z)
  ·exact .inr (by rw[Env.kindOf,hsc];exact z))
 refine⟨I2.mod,S.kind,I2.ok.glob,I2.ok.blt,hC,λx y c h1 h2=>I2.ok.inj x y c (m_ hfr h1) (m_ hfr h2),λx h=>?_,λx c h=>by simp at h,I2.ok.hd,I2.ok.frames,.inl rfl,λb hb=>⟨?_,λx c e=>?_⟩,λb o e=>I2.bs b o e,?_,λb o e hb=>?_,λb hb hz=>?_,I2.stack,I2.stkFree⟩
 ·have hm:(x,NameKind.free)∈scope.names:=by
   rcases h with h | h
   ·exact pC (env:=X.env) S.noc (.inl rfl) h
   ·exact pC (env:=X.env) S.noc (.inr rfl) h
  exact CQ hm
 ·exact Nat.ne_of_lt (Nat.lt_of_lt_of_le (hfp b hb) hC)
 ·exact(f2 b hb).2.2.2.2.1 x c (m_ hfr e)
 ·exact Nat.le_trans I2.ok.bsz I2.sz
 ·rcases(f2 b hb).2.2.2.1 with z | z
  ·exact I2.ok.noex b o e z
  ·exact absurd (Nat.lt_of_lt_of_le (Heap.lt_size e) (Nat.le_trans I2.ok.bsz z)) (Nat.lt_irrefl _)
 ·obtain⟨_,f1,f3,_⟩:=f2 b hb
  rcases List.mem_cons.mp (I2.stkSub b hz) with z | z
  ·exact f1 z
  ·exact f3 z
theorem vG {pins:List (Addr×Obj)}{s:Shared}{σ:St}{H:Hp}{Q:VK}{RR:Value->Addr->Result->Shared->Prop}{cqual:Str}(hc:X.calm=true) (S:CSc osc scope ON N cap) (hsc:X.env.scope=osc) (hN:X.N=ON)
  (hi:PI X tg iter wi) (hg:∀ C s H fp,PG (X.comp N scope C s H fp) tg g) (ht:∀ C s H fp,pD (X.comp N scope C s H fp) ifs tt) (he:∀ C s H fp,PE (X.comp N scope C s H fp) elt te)
  (I:Inv X pins σ H s) (h:wX wi cap g tt te σ H Q)
  (fin:∀ D C H' s',Inv X pins σ H' s'->lE X pins H' C->(∃ m,s'.heap.Ns C m)->Q (.ref D) H'->RR (.ref D) C (.ok .next) s'):
  wpAny (model X.prog X.w) X.A (eval iter X.env) (λx s₁=>wpAny (model X.prog X.w) X.A (pyIter x) (λitv s₂=>wpAny (model X.prog X.w) X.A (newList []) (λacc s₃=>
   wpAny (model X.prog X.w) X.A (newFunctionEnv scope X.env.globals (sV X.env scope.names) [] X.env.qual none .none (some X.env)) (λcenv s₄=>
    codeAny (model X.prog X.w) X.A (.compStart (.ListComp elt [⟨tg,iter,ifs,0⟩] scope pos) 0 itv acc { cenv with scope:=relabel scope X.env }) (RR acc cenv.locals) s₄) X.xe s₃) X.xe s₂) X.xe s₁) X.xe s:=by
 refine thn (hi pins s σ H _ I h.ex) λv s1 h1=>thn h1 λitv s2 h2=>?_
 obtain⟨it,fp,tn,J,H2,e,I2,T,st2,f2,q2⟩:=h2
 subst e
 refine wpAny_newObj_type (wpAny_newFunctionEnv S.noc (by intro y hy;simp at hy) (λh₁ hns₁ hsb₁=>?_) S.kind)
 dsimp only at hns₁ hsb₁ ⊢
 generalize hH2:s2.heap.push { cls:=.type "list",dict:=none,data:=.seq ([]:List Value).toArray }=P2 at hns₁ hsb₁ ⊢
 generalize hD:s2.heap.objs.size=D
 generalize hCe:P2.objs.size=C at hns₁ hsb₁ ⊢
 have hCD:C=D+1:=by rw[← hCe,← hH2,Heap.size_push,hD]
 have hCle:s2.heap.objs.size<=C:=by rw[hCD,hD];exact Nat.le_succ _
 have hfp:∀ b∈fp,b < s2.heap.objs.size:=λb hb=>by
  obtain⟨o,e,_⟩:=T.obj 0 _ st2 b hb
  exact Heap.lt_size e
 have below:∀ b,b < s2.heap.objs.size->b≠C:=λb hb=>Nat.ne_of_lt (Nat.lt_of_lt_of_le hb hCle)
 have k1:∀ b o,s2.heap.get? b=some o->h₁.get? b=some o:=λb o e=>hsb₁.extBut b o (below b (Heap.lt_size e)) (Heap.get?_push_of_some _ (hH2▸Heap.get?_push_of_some _ e))
 have hDC:D≠C:=by rw[hCD];exact Nat.ne_of_lt (Nat.lt_succ_self _)
 have gD:h₁.get? D=some { cls:=.type "list",dict:=none,data:=.seq ([]:List Value).toArray }:=by
  refine hsb₁.extBut D _ hDC (Heap.get?_push_of_some _ ?_)
  rw[← hH2,← hD]
  exact Heap.get?_push_size _ rfl
 have nD:H2 D=none:=I2.hok.fresh (by rw[hD];exact Nat.le_refl _)
 have nC:H2 C=none:=I2.hok.fresh hCle
 have hfr:∀ x∈scope.names,x.2=.free->∃ c,X.env.cells.lookup x.1=some c:=λx hx e=>I2.ok.has x.1 (by
  rcases S.fr x hx e with z | z
  ·exact .inl (by rw[Env.kindOf,hsc];exact z)
  ·exact .inr (by rw[Env.kindOf,hsc];exact z))
 obtain⟨W,⟨m0,w0⟩,turn⟩:=q2 D nD
 have IY:Inv (X.comp N scope C s2 H2 fp) [] (fC cap σ) (upd H2 D (.lst [])) { s2 with heap:=h₁,toks:=s2.toks+([]:List (Str×Value)).length }:=by
  have hp:s2.heap.objs.size<=D:=by rw[hD];exact Nat.le_refl _
  refine⟨Ia I2 S hsc f2 hfp hCle,rfl,I2.bare,Un.laid k1 hp nD,⟨_,hns₁,λj x v e1 e2 e3=>?_⟩,λx c e=>?_,?_,λx c e=>?_,λp hp=>by simp at hp,I2.hok.laid k1 hp ⟨Nat.zero_le _,[],_,.nil,gD⟩,?_⟩
  ·have e2':(cap.map (xR σ))[j]?=some (some v):=e2
   rw[List.getElem?_map] at e2'
   cases q:cap[j]? with
   | none=>rw[q] at e2';cases e2'
   | some o=>
    rw[q] at e2'
    have e4:xR σ o=some v:=Option.some.inj e2'
    cases o with
    | none=>cases e4
    | some i=>
     have hσ:σ[i]?=some (some v):=by
      have e5:(σ[i]?).getD none=some v:=e4
      cases z:σ[i]? with
      | none=>rw[z] at e5;cases e5
      | some w=>rw[z] at e5;exact congrArg some e5
     obtain⟨hx1,hx2⟩:=S.at q e1
     have hk:X.env.kindOf x=some .cell\/X.env.kindOf x=some .free:=by
      rcases S.fr _ (mem_of_lookup hx2) rfl with z | z
      ·exact .inl (by rw[Env.kindOf,hsc];exact z)
      ·exact .inr (by rw[Env.kindOf,hsc];exact z)
     obtain⟨m,hn,hl⟩:=I2.loc
     obtain⟨u,r,l⟩:=hl i x v (by rw[hN];exact hx1) hσ (by
      rcases hk with z | z
      ·exact .inr (.inl z)
      ·exact .inr (.inr z))
     refine⟨u,r,?_⟩
     rcases l with ⟨z,_⟩ | ⟨_,c,hc',hcell⟩
     ·rcases hk with y | y
      ·rw[y] at z;cases z
      ·rw[y] at z;cases z
     ·obtain⟨c',hc2⟩:=CQ (env:=X.env) (mem_of_lookup hx2)
      have e6:=m_ hfr hc2
      rw[hc'] at e6
      have e7:c=c':=Option.some.inj e6
      subst e7
      obtain⟨oc,ho,hd⟩:=hcell
      exact .inr ⟨qu (env:=X.env) hx2,c,hc2,⟨oc,k1 c oc ho,hd⟩⟩
  ·obtain⟨v,oc,ho,hd⟩:=I2.cell x c (m_ hfr e)
   exact⟨v,oc,k1 c oc ho,hd⟩
  ·show upd H2 D (.lst []) C=none
   rw[aP (Ne.symm hDC)]
   exact nC
  ·have e':=m_ hfr e
   obtain⟨v,oc,ho,hd⟩:=I2.cell x c e'
   show upd H2 D (.lst []) c=none
   rw[aP (λz=>absurd (Heap.lt_size ho) (by rw[z,hD];exact Nat.lt_irrefl _))]
   exact I2.freeC x c e'
  ·show (cap.map (xR σ)).length=N.length
   rw[List.length_map]
   exact S.len
 have stat:∀ {H':Hp},(∀ b∈fp,H' b=none)->∀ b∈fp,lE (X.comp N scope C s2 H2 fp) [] H' b:=λhn b hb=>by
  obtain⟨_,f1,f3,f4,f5,f6⟩:=f2 b hb
  refine⟨hn b hb,below b (hfp b hb),λhz=>?_,.inl hb,λx c e=>f5 x c (m_ hfr e),λp hp=>by simp at hp⟩
  rcases List.mem_cons.mp (I2.stkSub b hz) with z | z
  ·exact f1 z
  ·exact f3 z
 have back:∀ {σ':St}{H':Hp}{s':Shared},Inv (X.comp N scope C s2 H2 fp) [] σ' H' s'->Inv X pins σ H' s':=λ{σ' H' s'} I'=>
  I2.call' (ch:=fp) I'.os I'.base I'.hok I'.bare λb hb=>let ⟨_,f1,_,f4,f5,f6⟩:=f2 b hb;⟨f4,f1,f5,f6⟩
 have st1:tn 0 h₁:=T.keep 0 _ _ st2 λb _ o e=>k1 b o e
 have fr1:∀ b∈fp,upd H2 D (.lst []) b=none:=λb hb=>by
  rw[aP (λz=>absurd (hfp b hb) (by rw[z,hD];exact Nat.lt_irrefl _))]
  exact(f2 b hb).1
 have loop:codeAny (model X.prog X.w) X.A (.compLoop (.ListComp elt [⟨tg,iter,ifs,0⟩] scope pos) 0 (.ref it) (.ref D) (compEnvC scope (sV X.env scope.names) C X.env)) (RR (.ref D) C) { s2 with heap:=h₁,toks:=s2.toks+([]:List (Str×Value)).length }:=by
  refine nP (λn s'=>∃ i ys H',Inv (X.comp N scope C s2 H2 fp) [] (fC cap σ) H' s'/\tn i s'.heap/\(∀ b∈fp,H' b=none)/\W i n ys H') ?_ m0 ⟨0,[],_,IY,st1,fr1,w0⟩
  rintro n s3 ⟨i,ys,H3,I3,st3,fr3,w3⟩
  obtain⟨hDy,hturn⟩:=turn i n ys H3 w3
  rcases hturn with ⟨stop,qn⟩ | ⟨go,Nx,hNx,step⟩
  ·refine thn (T.done (X.comp N scope C s2 H2 fp) rfl rfl rfl hc i [] s3 (fC cap σ) H3 _ I3 (stat fr3) st3 stop) ?_
   rintro r s4 ⟨hr,I4⟩
   subst hr
   obtain⟨m,hm,_⟩:=I4.loc
   exact fin D C H3 s4 (back I4) (I2.fpOk hCle I4.free) ⟨m,hm⟩ qn
  ·refine thn (T.item (X.comp N scope C s2 H2 fp) rfl rfl rfl hc i [] s3 (fC cap σ) H3 _ I3 (stat fr3) st3 go) ?_
   rintro r s4 ⟨u,hr,h4⟩
   subst hr
   refine thn h4 ?_
   rintro _ s5 ⟨x,H5,I5,r5,y5,st5,fr5⟩
   have I5':=I5.pinned (stat fr5) (T.obj _ _ st5)
   refine thn (hg C s2 H2 fp _ s5 (fC cap σ) H5 x u _ I5' r5 (step x H5 y5)) ?_
   rintro _ s6 ⟨σ6,H6,I6,kp6,q6⟩
   refine thn (ht C s2 H2 fp _ s6 σ6 H6 _ I6 q6) ?_
   rintro b s7 ⟨H7,I7,q7⟩
   have again:∀ {ys':List V}{H7:Hp}{s7:Shared},Inv (X.comp N scope C s2 H2 fp) ([]++qm fp s5.heap) σ6 H7 s7->Nx ys' H7->∃ m,m < n/\∃ i ys H',Inv (X.comp N scope C s2 H2 fp) [] (fC cap σ) H' s7/\tn i s7.heap/\(∀ b∈fp,H' b=none)/\W i m ys H':=λ{ys' H7 s7} I7 n7=>by
    obtain⟨m',hm,w7⟩:=hNx ys' H7 n7
    refine⟨m',hm,i+1,ys',H7,I7.unpinned.weak kp6.1 kp6.2,T.keep _ _ _ st5 λb hb o e=>(I7.pin (b,o) (List.mem_append_right _ (List.mem_append_right _ (mK hb e)))).1,λb hb=>?_,w7⟩
    obtain⟨o,e,d⟩:=T.obj _ _ st5 b hb
    exact(I7.pin (b,o) (List.mem_append_right _ (List.mem_append_right _ (mK hb e)))).2.1
   cases b with
   | false=>
    rw[if_neg Bool.false_ne_true] at q7 ⊢
    exact again I7 q7
   | true=>
    rw[if_pos rfl] at q7 ⊢
    refine thn (he C s2 H2 fp _ s7 σ6 H7 _ I7 q7) ?_
    rintro xv s8 ⟨y,H8,I8,r8,hD8,hl8,n8⟩
    refine thn (vC (X:=X.comp N scope C s2 H2 fp) _ s8 σ6 H8 (.ref D) [y] (.ref D) [xv] (λ_ H9=>Nx (ys++[y]) H9) I8 rfl (.cons r8 .nil) ⟨D,ys,y,rfl,rfl,hD8,hl8,n8⟩) ?_
    rintro _ s9 ⟨_,H9,I9,_,n9⟩
    exact again I9 n9
 subst hD hCe
 exact codeAny_compStart_list loop (T.self _ 0 _ _ _ st1 loop)
theorem xT {pins:List (Addr×Obj)}{s:Shared}{σ:St}{H:Hp}(S:CSc osc scope ON N cap) (hsc:X.env.scope=osc) (I:Inv X pins σ H s):closureFor scope X.env=pure (sV X.env scope.names):=
 wA λx hx e=>I.ok.has x.1 (by
  rcases S.fr x hx e with z | z
  ·exact .inl (by rw[Env.kindOf,hsc];exact z)
  ·exact .inr (by rw[Env.kindOf,hsc];exact z))
theorem Inv.letgo {pins:List (Addr×Obj)}{s':Shared}{σ:St}{H':Hp}{C:Addr}{h':Heap}(I:Inv X pins σ H' s') (f:lE X pins H' C) (hs:Heap.SameBut C s'.heap h'):Inv X pins σ H' { s' with heap:=h' }:=
 I.turned (t':=s'.toks) (it:=C) (λb o hb e=>(hs.2 b hb).trans e) f.1 f.2.1 f.2.2.2.1 f.2.2.2.2.1 f.2.2.2.2.2
theorem Ib (S:CSc osc scope ON N cap) (hi:PI X tg iter wi) (hg:∀ C s H fp,PG (X.comp N scope C s H fp) tg g) (ht:∀ C s H fp,pD (X.comp N scope C s H fp) ifs tt) (he:∀ C s H fp,PE (X.comp N scope C s H fp) elt te)
  (hc:X.calm=true:=by rfl) (hsc:X.env.scope=osc:=by rfl) (hN:X.N=ON:=by rfl) (hs:∀ x,foldedSetIterable iter X.env x=pure x:=by intro _;rfl):PE X (.ListComp elt [⟨tg,iter,ifs,0⟩] scope pos) (wX wi cap g tt te):=by
 intro pins s σ H Q I h
 rw[eval_ListComp]
 refine wpAny_comprehension_free (use:=none) rfl hs (xT S hsc I) S.kind S.loc ?_
 refine vG (RR:=λacc C=>compPost (model X.prog X.w) X.A X.xe none (EP X pins σ Q) acc C) (cqual := "") hc S hsc hN hi hg ht he I h λD C H' s' I' f hm q=>?_
 obtain⟨m,hm⟩:=hm
 exact⟨m,hm,λh' hs'=>⟨.ref D,H',I'.letgo f hs',rfl,q⟩⟩
theorem zE {i:Nat}{y:Str}{py spos:Pos}(S:CSc osc scope ON N cap) (hNd:X.N.Nodup) (hi':X.N[i]?=some y) (hy:Loc X.env.scope y) (hi:PI X tg iter wi) (hg:∀ C s H fp,PG (X.comp N scope C s H fp) tg g) (ht:∀ C s H fp,pD (X.comp N scope C s H fp) ifs tt) (he:∀ C s H fp,PE (X.comp N scope C s H fp) elt te)
  (hsw:swapsWith (.ListComp elt [⟨tg,iter,ifs,0⟩] scope pos) (some (.Name y py)) spos.line X.env=pure true:=by rfl)
  (hc:X.calm=true:=by rfl) (hsc:X.env.scope=osc:=by rfl) (hN:X.N=ON:=by rfl) (hs:∀ x,foldedSetIterable iter X.env x=pure x:=by intro _;rfl)
  (hf:X.fn y=true\/X.env.scope.names.lookup y=some .local:=by first | exact .inl rfl | exact .inr rfl | assumption):
  PS X (.Assign [.Name y py] (.ListComp elt [⟨tg,iter,ifs,0⟩] scope pos) spos) (Eo (wX wi cap g tt te) (tW i)):=by
 intro pins s σ H D0 I h
 rw[exec_Assign_Name_used _ _ _ _ hsw]
 refine wpAny_bind (wpAny_standAt (wpAny_bind ?_))
 show wpAny _ _ (do let _ ← comprehension (.ListComp elt [⟨tg,iter,ifs,0⟩] scope pos) scope X.env _ (newList []) false (eval iter X.env) (some (assign (.Name y py) X.env))) _ _ s
 refine wpAny_bind (wpAny_mono (wpAny_comprehension_free (use:=some (assign (.Name y py) X.env)) (Q:=λ_ s'=>SP X pins D0 .next s') rfl hs (xT S hsc I) S.kind S.loc
  (vG (RR:=λacc C=>compPost (model X.prog X.w) X.A X.xe (some (assign (.Name y py) X.env)) (λ_ s'=>SP X pins D0 .next s') acc C) (cqual := "") hc S hsc hN hi hg ht he I h λD C H' s' I' f hm q=>?_))
  (λ_ s' hq=>wpAny_pure (wpAny_pure hq)) λ_ _ e=>e)
 obtain⟨m,hm⟩:=hm
 show wpAny _ _ (assign (.Name y py) X.env (.ref D)) _ _ s'
 refine wpAny_assign_Name (vp I' hNd hi' hy (v:=.ref D) rfl (λs'' I'' hch=>?_) hf)
 obtain⟨a,hsb,ha⟩:=hch
 have nCa:C≠a:=by
  rintro rfl
  rcases ha with z | z
  ·exact f.2.1 z
  ·exact f.2.2.2.2.1 y C z rfl
 refine⟨m,hm.sameBut hsb nCa,λh' hs'=>⟨_,H',I''.letgo f hs',q⟩⟩
end
section
variable {tt:TT}{te:TE}{Q:VK}{σ0 rest:St}{H:Hp}{D:Addr}
end
end L2
namespace L2
open PySem PySem.Spec PyProof.Rows
section
variable {X:Cx}{pins:List (Addr×Obj)}{σ:St}{H H':Hp}{s:Shared}{h':Heap}
theorem Inv.turnedL {t':Nat}{ch:List Addr}{a:Addr}{o:HO}(I:Inv X pins σ H s) (k:∀ b u,b∉ch->s.heap.get? b=some u->h'.get? b=some u) (ht:∀ b u,s.heap.get? b=some u->∃ u',h'.get? b=some u') (hf:∀ b∈ch,lE X pins H b)
  (hp:s.heap.objs.size<=a) (new:ObjOk X.prog X.w X.K (upd H a o) h' a o):Inv X pins σ (upd H a o) { s with heap:=h',toks:=t' }:=by
 have hn:H a=none:=I.hok.fresh hp
 have nch:∀ b u,H b=some u->b∉ch:=λb u e hb=>by
  rw[(hf b hb).1] at e;cases e
 have na:∀ b u,s.heap.get? b=some u->b≠a:=λb u e=>Nat.ne_of_lt (Nat.lt_of_lt_of_le (Heap.lt_size e) hp)
 have hhok:HOk X.prog X.w X.K (upd H a o) h':=λb u e=>by
  by_cases hb:b=a
  ·subst hb;rw[bK] at e;cases e;exact new
  ·rw[aP hb] at e
   refine(I.hok b u e).stay (λc v hc q=>k c v ?_ q) (λc q=>by rw[aP (bf q hn)];exact q) λc xs q=>by rw[aP (bf q hn)];exact q
   rcases hc with rfl | hc
   ·exact nch c u e
   ·exact nch c _ hc
 refine I.step (g':=s.gens) (d':=s.drawn) (ch:=ch) (λb hb=>let ⟨_,f1,_,f4,f5,f6⟩:=hf b hb;⟨f4,f1,f5,f6⟩) (λb o _ _ hc e _=>k b o hc e) (λb o _ _ hc e _=>⟨o.slots,k b o hc e⟩)
  (λb o _ e n=>by rw[aP (na b o e)];exact n) (λb o _ e=>ht b o e) (λb xs q=>by rw[aP (bf q hn)];exact q) (λb u xs q=>by rw[aP (bf q hn)];exact q)
  (λb ps q=>⟨#[],by rw[aP (bf q hn),q];simp⟩) (λm hm=>?_) hhok I.bare
 obtain⟨oL,es,ep,ho,r⟩:=hm
 have nL:X.env.locals∉ch:=λhb=>(hf _ hb).2.1 rfl
 exact⟨oL,es,ep,k _ oL nL ho,r⟩
end
def Ite (K:PySem.W.Frag) (a:Addr):It:=
 ⟨λi H=>∃ xs x,SqL K H a xs/\xs[i]?=some x,λi H v H'=>∃ t x,H t=none/\v=.ref t/\H'=upd H t (.tup [.int (i:Nat),x])/\∀ xs,SqL K H a xs->xs[i]?=some x,λi H=>∃ xs,SqL K H a xs/\xs.length<=i⟩
def Kq (e it a:Addr) (i:Nat) (h:Heap):Prop:=(∃ old,IsEnum h e it (i:Nat) old)/\h.IsListIter it a i
theorem vH {P:Program}{w:World}{K:PySem.W.Frag}{es:List Expr}{x1:Nat}{tpos:Pos}(a e it:Addr) (hne:e≠it):Turn P w K (.Tuple es x1 tpos) (Ite K a) [it,e] e (Kq e it a) where
 mem:=by simp
 obj:=λi h st b hb=>by
  obtain⟨⟨old,he⟩,o,e1,c,d⟩:=st
  rcases List.mem_cons.mp hb with z | z
  ·subst z
   exact⟨o,e1,λv y=>by rw[d] at y;cases y⟩
  ·have z':b=e:=by simpa using z
   subst z'
   exact⟨_,he,λv y=>by
    have y':Data.fields _=Data.cell v:=y
    cases y'⟩
 keep:=λi h h' st k=>by
  obtain⟨⟨old,he⟩,st⟩:=st
  exact⟨⟨old,k e (by simp) _ he⟩,st.at λo q=>k it (by simp) o q⟩
 item:=by
  intro X hP hw hK hc i pins s σ H E I hf st hg
  subst hP hw hK
  obtain⟨xs,x,hq,hx⟩:=hg
  obtain⟨⟨old,he⟩,hit⟩:=st
  obtain⟨its,rv,p,hz⟩:=I.list hq
  obtain⟨u,hu,ru⟩:=rv.get hx
  refine wpAny_pyNext_enum_item he hit p.isList (x:=u) (by simpa using hu) hne λh' heo hit' htup hsz hk=>⟨_,rfl,?_⟩
  refine wpAny_letOwnedTupleGo_enum (s:={ s with heap:=h',toks:=s.toks+1 }) heo λh2 he2 hs2=>?_
  have hel:e < s.heap.objs.size:=Heap.lt_size he
  have g2:h2.get? s.heap.objs.size=some { cls:=.type "tuple",data:=.seq #[.int i s.toks,u] }:=(hs2.2 _ (Nat.ne_of_gt hel)).trans htup
  have k2:∀ b o,b∉[it,e]->s.heap.get? b=some o->h2.get? b=some o:=λb o hb q=>by
   have h1:b≠it:=λz=>hb (by simp[z])
   have h3:b≠e:=λz=>hb (by simp[z])
   exact(hs2.2 b h3).trans (hk b o h3 h1 q)
  have ht2:∀ b o,s.heap.get? b=some o->∃ o',h2.get? b=some o':=λb o q=>by
   by_cases h1:b=it
   ·subst h1
    obtain⟨o',e',_⟩:=hit'
    exact⟨o',(hs2.2 b (Ne.symm hne)).trans e'⟩
   ·by_cases h3:b=e
    ·subst h3;exact⟨_,he2⟩
    ·exact⟨o,k2 b o (by simp[h1,h3]) q⟩
  have I2:Inv X pins σ (upd H s.heap.objs.size (.tup [.int (i:Nat),x])) { s with heap:=h2,toks:=s.toks+1 }:=
   I.turnedL (ch:=[it,e]) k2 ht2 hf (Nat.le_refl _) ⟨by show 2<=sizeLine;decide,[.int i s.toks,u],.cons ⟨_,rfl⟩ (.cons ru .nil),⟨_,g2,rfl,_,rfl⟩⟩
  refine⟨.ref s.heap.objs.size,_,I2,rfl,⟨s.heap.objs.size,x,I.fresh,rfl,rfl,λys hy=>by rw[I.list_inj hy hq];exact hx⟩,⟨⟨u,he2⟩,?_⟩,λb hb=>?_⟩
  ·exact hit'.extBut hs2.extBut (Ne.symm hne)
  ·have hb0:=(hf b hb).1
   rw[aP ?_]
   ·exact hb0
   ·rcases List.mem_cons.mp hb with z | z
    ·subst z
     obtain⟨o,e1,_⟩:=hit
     exact Nat.ne_of_lt (Heap.lt_size e1)
    ·have z':b=e:=by simpa using z
     subst z'
     exact Nat.ne_of_lt hel
 done:=by
  intro X hP hw hK hc i pins s σ H E I hf st hg
  subst hP hw hK
  obtain⟨xs,hq,hx⟩:=hg
  obtain⟨⟨old,he⟩,hit⟩:=st
  obtain⟨its,rv,p,hz⟩:=I.list hq
  obtain⟨f0,f1,f2,f3,f4,f5⟩:=hf it (by simp)
  have hl:=rv.length
  exact wpAny_pyNext_enum_end (I.ok.hd hc) he hit p.isList (by simp;omega) λh' eb=>⟨rfl,I.turned (t':=s.toks) (λb o hb q=>eb b o hb q) f0 f1 f3 f4 f5⟩
 self:=λA i s Q E st h=>by
  obtain⟨⟨old,he⟩,hit⟩:=st
  have hT:s.TypeIs (.ref e) "enumerate" := ⟨_,he,rfl⟩
  refine wpAny_pyIter_slot hT F.slot_enumerate_iter (wpAny_call_entry F.slot_enumerate_iter hT F.entry_enumerate_iter ?_ (F.args_enumerate_iter_1 _))
  show wpAny _ _ (ret (.ref e)) _ _ s
  exact wpAny_pure ⟨_,rfl, "enumerate",_,hT,F.slot_enumerate_next.lookup,h⟩
section
variable {X:Cx}
def MT (K:PySem.W.Frag) (ta:TA):TI:=fun σ H R=>ta σ H λvs H1=>∃ a,vs=[.ref a]/\(∃ xs,SqL K H1 a xs)/\R (Ite K a) H1
theorem Ie {l:Expr}{ta:TA}{es:List Expr}{x1:Nat}{tpos p pos:Pos}(hg:Gl X "enumerate") (hm:X.mg "enumerate" = none) (ha:PA X [l] ta) (hs:starEach [l] X.env=[(false,eval l X.env)]:=by rfl):
  PI X (.Tuple es x1 tpos) (.Call (.Name "enumerate" p) [l] [] pos) (MT X.K ta):=by
 intro pins s σ H R I h
 refine Call_ (jM I hg hm PyProof.Rows.boot_enumerate (PyProof.Rows.callWith_type1 (thn (ha pos pins s σ H _ I h) ?_) hs rfl))
 rintro us s1 ⟨vs,H1,I1,r1,q1⟩
 obtain⟨a,e,⟨xs,hq⟩,q⟩:=q1
 subst e
 obtain⟨u,rfl,ru⟩:=vals1 r1
 cases ru
 obtain⟨its,rv,p,hz⟩:=I1.list hq
 refine call_enumerate_list p.isList λh' he hit hsz hk=>?_
 have I2:Inv X pins σ H1 { s1 with heap:=h' }:=I1.kept (t':=s1.toks) hk
 have hT:(⟨h',s1.gens,s1.drawn,s1.toks,s1.os⟩:Shared).TypeIs (.ref (s1.heap.objs.size+1)) "enumerate" := ⟨_,he,rfl⟩
 refine(vH (P:=X.prog) (w:=X.w) (K:=X.K) (es:=es) (x1:=x1) (tpos:=tpos) a (s1.heap.objs.size+1) s1.heap.objs.size (Nat.succ_ne_self _)).self X.A 0 { s1 with heap:=h' } _ _ ⟨⟨.none,he⟩,hit⟩ ?_
 refine⟨s1.heap.objs.size+1,[s1.heap.objs.size,s1.heap.objs.size+1],_,_,H1,rfl,I2,vH a _ _ (Nat.succ_ne_self _),⟨⟨.none,he⟩,hit⟩,λb hb=>?_,q⟩
 have hb':s1.heap.objs.size<=b:=by
  rcases List.mem_cons.mp hb with z | z
  ·rw[z];exact Nat.le_refl _
  ·rw[List.mem_singleton.mp z];exact Nat.le_succ _
 exact I1.fpOk hb' (I1.hok.fresh hb')
end
def Its (x:Str):It:=⟨λi _=>i < x.cps.size,λi H v H'=>H'=H/\∃ c,x.cps[i]?=some c/\v=.str ⟨#[c]⟩,λi _=>i=x.cps.size⟩
theorem xU {P:Program}{w:World}{K:PySem.W.Frag}{tg:Expr}(it:Addr) (x:Str) (t:Tok) (ty:String) (hty:["enumerate", "zip", "dict_itemiterator", "dict_reverseitemiterator", "odict_iterator", "itertools.zip_longest", "itertools.pairwise"].contains ty=false)
  (W:∀ A:Around,A.handled=none->Walks P w A it [it] [it] x.cps.size (SignAt x) (λi h=>h.IsStrIter it ty x t i))
  (slf:∀ (A:Around) (i:Nat) (s:Shared) (Q:Value->Shared->Prop) (E:Value->Shared->Prop),s.heap.IsStrIter it ty x t i->Q (.ref it) s->wpAny (model P w) A (pyIter (.ref it)) Q E s):
  Turn P w K tg (Its x) [it] it (λi h=>h.IsStrIter it ty x t i) where
 mem:=by simp
 obj:=λi h st b hb=>by
  have e:b=it:=by simpa using hb
  subst e
  obtain⟨o,e,c,d⟩:=st
  exact⟨o,e,λv z=>by rw[d] at z;cases z⟩
 keep:=λi h h' st k=>by
  obtain⟨o,e,r⟩:=st
  exact⟨o,k it (by simp) o e,r⟩
 item:=by
  intro X hP hw hK hc i pins s σ H E I hf st hg
  subst hP hw hK
  obtain⟨f0,f1,f2,f3,f4,f5⟩:=hf it (by simp)
  refine(W X.A (I.ok.hd hc)).item i s _ _ hg st λv h' tk hv st' kk=>?_
  obtain⟨c,u,hx,rfl⟩:=hv
  have I1:Inv X pins σ H { s with heap:=h',toks:=tk }:=I.turned (λb o hb e=>kk b o (by simpa using hb) e) f0 f1 f3 f4 f5
  obtain⟨o,e,cc,d⟩:=id st'
  exact⟨_,rfl,tX (s:={ s with heap:=h',toks:=tk }) e cc d hty ⟨.str ⟨#[c]⟩,H,I1,⟨u,rfl⟩,⟨rfl,c,hx,rfl⟩,st',λb hb=>(hf b hb).1⟩⟩
 done:=by
  intro X hP hw hK hc i pins s σ H E I hf st hg
  subst hP hw hK
  obtain⟨f0,f1,f2,f3,f4,f5⟩:=hf it (by simp)
  have hg':i=x.cps.size:=hg
  subst hg'
  exact(W X.A (I.ok.hd hc)).done s _ _ st λh' tk kk=>⟨rfl,I.turned (λb o hb e=>kk b o (by simpa using hb) e) f0 f1 f3 f4 f5⟩
 self:=slf
section
variable {X:Cx}{tg:Expr}
def Oh (tl:TE):TI:=fun σ H R=>tl σ H λx H1=>∃ z,x=.str z/\R (Its z) H1
theorem Kr {l:Expr}{tl:TE}(hl:PE X l tl):PI X tg l (Oh tl):=by
 intro pins s σ H R I h
 refine thn (hl pins s σ H _ I h) ?_
 rintro v s1 ⟨x,H1,I1,r1,q1⟩
 obtain⟨z,e,q⟩:=q1
 subst e
 obtain⟨t,rfl⟩:=r1
 have fp:∀ b∈[s1.heap.objs.size],lE X pins H1 b:=λb hb=>by
  have e:b=s1.heap.objs.size:=by simpa using hb
  subst e
  exact I1.fpOk (Nat.le_refl _) (I1.hok.fresh (Nat.le_refl _))
 cases ha:z.cps.all (· < 128)
 ·exact wpAny_pyIter_wide ha ⟨s1.heap.objs.size,[s1.heap.objs.size],_,_,H1,rfl,I1.kept (t':=s1.toks) λb o e=>Heap.get?_push_of_some _ e,xU _ z t "str_iterator" (by decide) (λA hA=>Walks.strWide hA _ z t) (λA i s Q E st h=>wpAny_pyIter_striter_wide st h),⟨_,Heap.get?_push_size _ rfl,rfl,rfl⟩,fp,q⟩
 ·exact wpAny_pyIter_ascii ha ⟨s1.heap.objs.size,[s1.heap.objs.size],_,_,H1,rfl,I1.kept (t':=s1.toks) λb o e=>Heap.get?_push_of_some _ e,xU _ z t "str_ascii_iterator" (by decide) (λA hA=>Walks.strAscii hA _ z t) (λA i s Q E st h=>wpAny_pyIter_striter_ascii st h),⟨_,Heap.get?_push_size _ rfl,rfl,rfl⟩,fp,q⟩
end
section
variable {tt:TT}{te:TE}{Q:VK}{σ0 rest:St}{H:Hp}{D:Addr}
end
section
variable {X:Cx}
theorem vI:∀ {l:List (Str×Tok)}{zs:List Str},l.map (·.1)=zs->Vals (zs.map V.str) (strValues l)
 | [],_,e=>by subst e;exact .nil
 | (x,t)::r,_,e=>by subst e;exact .cons ⟨t,rfl⟩ (vI rfl)
theorem qw:∀ {zs:List Str}{us:List Value},Vals (zs.map V.str) us->∃ l:List (Str×Tok),us=strValues l/\l.map (·.1)=zs
 | [],_,r=>by cases r;exact⟨[],rfl,rfl⟩
 | z::zs,_,r=>by
  cases r with
  | cons r1 r2=>
   obtain⟨t,rfl⟩:=r1
   obtain⟨l,rfl,e⟩:=qw r2
   exact⟨(z,t)::l,rfl,by rw[List.map_cons,e]⟩
def CT:V->List V->Hp->VK->Prop:=λx vs H Q=>∃ z y,x=.str z/\vs=[.str y]/\(y.length == 0)=false/\z.length<=1000000/\∀ l,H l=none->Q (.ref l) (upd H l (.lst ((Txt.split z y).map V.str)))
theorem vJ (x y:Str):(Builtin.Str.partsBetween x (Builtin.Str.occurrences x y 0 x.length (x.length+1)) y.length).length<=x.length+2:=by
 have h:=StrLaws.occ_length_le_len x y 0 x.length (x.length+1)
 unfold Builtin.Str.partsBetween
 simp only[List.length_map,List.length_zip,List.length_cons,List.length_append,List.length_nil]
 omega
theorem split_len {x y:Str}:(Txt.split x y).length<=x.length+2:=by
 unfold Txt.split
 split
 ·simp
 ·split
  ·simp
  ·exact vJ x y
theorem Fv:MtR X "str.split" CT:=by
 intro pins s σ H x vs v us Q I rx rv h
 obtain⟨z,y,rfl,rfl,hy,hz,q⟩:=h
 obtain⟨t,rfl⟩:=rx
 obtain⟨u,rfl,u',rfl⟩:=rv.one
 have sl:=@split_len z y
 have hz2:z.length<=sizeLine:=Nat.le_trans hz (by decide)
 have hz3:z.length+2<=sizeLine:=Nat.le_trans (Nat.add_le_add_right hz 2) (by decide)
 have e0:∀ (l:List (Str×Tok)) (t':Nat),l.map (·.1)=Txt.split z y->EP X pins σ Q (.ref s.heap.objs.size) { s with heap:=s.heap.push { cls:=.type "list",data:=.seq (strValues l).toArray },toks:=t' }:=λl t' e=>
  ⟨.ref s.heap.objs.size,_,I.lnew (vI e) (by
   rw[List.length_map]
   exact Nat.le_trans sl hz3),rfl,q _ I.fresh⟩
 cases h1:(decide (z.length < y.length)||decide (Builtin.Str.strKind z < Builtin.Str.strKind y))
 ·cases hf:(Builtin.Str.occurrences z y 0 z.length (z.length+1)).isEmpty
  ·refine call_meets F.slot_str_split (typeIs_str _ _ _) F.entry_str_split (F.args_str_split_2 _ _) (meets_str_split_sep z y t u' h1 hy hf hz2 (Nat.le_trans (vJ z y) hz3)) ?_
   show wants _ _ _ { s with toks:=_,heap:=s.heap.push { cls:=.type "list",data:=.seq (strsFrom s.toks (Builtin.Str.partsBetween z (Builtin.Str.occurrences z y 0 z.length (z.length+1)) y.length)).toArray } }
   rw[strsFrom_eq]
   exact e0 (numbered s.toks _) _ ((numbered_texts _ _).trans ((if_neg (ne_true_of_eq_false h1)).trans (if_neg (ne_true_of_eq_false hf))).symm)
  ·exact call_meets F.slot_str_split (typeIs_str _ _ _) F.entry_str_split (F.args_str_split_2 _ _) (meets_str_split_not_found z y t u' h1 hy hf)
    (e0 [(z,t)] s.toks ((if_neg (ne_true_of_eq_false h1)).trans (if_pos hf)).symm)
 ·exact call_meets F.slot_str_split (typeIs_str _ _ _) F.entry_str_split (F.args_str_split_2 _ _) (meets_str_split_cannot_occur z y t u' h1) (e0 [(z,t)] s.toks (if_pos h1).symm)
def rJoin (K:PySem.W.Frag):V->List V->Hp->VK->Prop:=λx vs H Q=>∃ z l zs,x=.str z/\vs=[.ref l]/\SqL K H l (zs.map V.str)/\JoinOk z zs=true/\Q (.str (Str.join z zs)) H
theorem Ig:MtR X "str.join" (rJoin X.K):=by
 intro pins s σ H x vs v us Q I rx rv h
 obtain⟨z,l,zs,rfl,rfl,hl,ok,q⟩:=h
 obtain⟨t,rfl⟩:=rx
 obtain⟨u,rfl,ru⟩:=rv.one
 cases ru
 obtain⟨its,r,p,_⟩:=I.list hl
 obtain⟨l',e,e2⟩:=qw r
 subst e
 refine SC.join p.isList e2 ok λt' k=>⟨.str (Str.join z zs),H,I.tok _,⟨t',?_⟩,q⟩
 unfold Txt.join
 rw[StrLaws.glued_eq_join]
theorem vK {bs:List Bool}{us:List Value}(r:Vals (bs.map V.bl) us){i:Nat}{v:Value}(e:us[i]?=some v):∃ b,bs[i]?=some b/\v=.bool b:=by
 have hl:=r.length
 rw[List.length_map] at hl
 have hi:i < us.length:=(List.getElem?_eq_some_iff.mp e).1
 have hb:bs[i]?=some bs[i]:=List.getElem?_eq_getElem (by omega)
 obtain⟨u,h1,h2⟩:=r.get (i:=i) (x:=.bl bs[i]) (by rw[List.getElem?_map,hb] <;> rfl)
 rw[e] at h1
 cases h1
 exact⟨_,hb,h2⟩
theorem range_all {bs:List Bool}{n:Nat}(hn:n=bs.length):((List.range n).all λi=>(bs[i]?).getD true)=bs.all id:=by
 subst hn
 rw[Bool.eq_iff_iff]
 simp only[List.all_eq_true,List.mem_range,id]
 constructor
 ·intro h x hx
  obtain⟨i,hi,e⟩:=List.mem_iff_getElem.mp hx
  have:=h i hi
  rw[List.getElem?_eq_getElem hi] at this
  rw[← e]
  exact this
 ·intro h i hi
  rw[List.getElem?_eq_getElem hi]
  exact h _ (List.getElem_mem hi)
theorem range_any {bs:List Bool}{n:Nat}(hn:n=bs.length):((List.range n).any λi=>(bs[i]?).getD true)=bs.any id:=by
 subst hn
 rw[Bool.eq_iff_iff]
 simp only[List.any_eq_true,List.mem_range,id]
 constructor
 ·rintro ⟨i,hi,h⟩
  rw[List.getElem?_eq_getElem hi] at h
  exact⟨_,List.getElem_mem hi,h⟩
 ·rintro ⟨x,hx,h⟩
  obtain⟨i,hi,e⟩:=List.mem_iff_getElem.mp hx
  refine⟨i,hi,?_⟩
  rw[List.getElem?_eq_getElem hi]
  show bs[i]=true
  rw[e]
  exact h
theorem kept_iter {h h':Heap}{o:Obj}(hk:∀ b x,b∉[h.objs.size]->(h.push o).get? b=some x->h'.get? b=some x):∀ b x,h.get? b=some x->h'.get? b=some x:=
 λb x e=>hk b x (λhm=>by rw[List.mem_singleton.mp hm] at e;exact Nat.lt_irrefl _ (Heap.lt_size e)) (Heap.get?_push_of_some _ e)
theorem Fw (hc:X.calm=true:=by rfl):CallR X (.builtin "all") (λxs H Q=>∃ (p:Addr) (bs:List Bool),xs=[.ref p]/\SqL X.K H p (bs.map V.bl)/\Q (.bl (bs.all id)) H):=by
 intro pins s σ H xs us Q I r h
 obtain⟨l,bs,rfl,hq,q⟩:=h
 obtain⟨u,rfl,rx⟩:=vals1 r
 cases rx
 obtain⟨its,r',pl,hz⟩:=I.list hq
 have hl:=pl.isList
 have hlen:=r'.length
 rw[List.length_map] at hlen
 have hlt:l < s.heap.objs.size:=by obtain⟨_,e,_⟩:=hl;exact Heap.lt_size e
 have hh:=I.ok.hd hc
 refine call_all_walk (wpAny_pyIter_list hl ?_)
 refine⟨s.heap.objs.size,[s.heap.objs.size,l],[s.heap.objs.size],its.toArray.size,_,_,λi=>(bs[i]?).getD true,rfl,Walks.list (A:=X.A.in1) hh _ l (Nat.ne_of_lt hlt) its.toArray,
  ⟨⟨_,Heap.get?_push_size _ rfl,rfl,rfl⟩,hl.push _⟩,λi v s' Q' E' hP hQ=>?_,λh' tk hk=>?_⟩
 ·obtain⟨b,e,rfl⟩:=vK r' (i:=i) (v:=v) (by simpa using hP)
  simp only[e,Option.getD_some] at hQ
  exact wpAny_truthy_bool hQ
 ·refine⟨.bl (bs.all id),H,I.kept (kept_iter hk),?_,q⟩
  rw[range_all (by simp[hlen])]
  rfl
theorem Fx (hc:X.calm=true:=by rfl):CallR X (.builtin "any") (λxs H Q=>∃ (p:Addr) (bs:List Bool),xs=[.ref p]/\SqL X.K H p (bs.map V.bl)/\Q (.bl (bs.any id)) H):=by
 intro pins s σ H xs us Q I r h
 obtain⟨l,bs,rfl,hq,q⟩:=h
 obtain⟨u,rfl,rx⟩:=vals1 r
 cases rx
 obtain⟨its,r',pl,hz⟩:=I.list hq
 have hl:=pl.isList
 have hlen:=r'.length
 rw[List.length_map] at hlen
 have hlt:l < s.heap.objs.size:=by obtain⟨_,e,_⟩:=hl;exact Heap.lt_size e
 have hh:=I.ok.hd hc
 refine call_any_walk (wpAny_pyIter_list hl ?_)
 refine⟨s.heap.objs.size,[s.heap.objs.size,l],[s.heap.objs.size],its.toArray.size,_,_,λi=>(bs[i]?).getD true,rfl,Walks.list (A:=X.A.in1) hh _ l (Nat.ne_of_lt hlt) its.toArray,
  ⟨⟨_,Heap.get?_push_size _ rfl,rfl,rfl⟩,hl.push _⟩,λi v s' Q' E' hP hQ=>?_,λh' tk hk=>?_⟩
 ·obtain⟨b,e,rfl⟩:=vK r' (i:=i) (v:=v) (by simpa using hP)
  simp only[e,Option.getD_some] at hQ
  exact wpAny_truthy_bool hQ
 ·refine⟨.bl (bs.any id),H,I.kept (kept_iter hk),?_,q⟩
  rw[range_any (by simp[hlen])]
  rfl
theorem uP (hc:X.calm=true:=by rfl):CallR X (.type "list") (λxs H Q=>∃ p kvs,xs=[.ref p]/\H p=some (.dK kvs)/\∀ l,H l=none->Q (.ref l) (upd H l (.lst (kvs.map λkv=>kV kv.1)))):=by
 intro pins s σ H xs us Q I r h
 obtain⟨p,kvs,rfl,hp,q⟩:=h
 obtain⟨u,rfl,rx⟩:=vals1 r
 cases rx
 obtain⟨hz,lo,vs,rel,hD⟩:=Hb I.hok hp
 obtain⟨o,es,ep,ho,hx,hd,hk,hpr,hn⟩:=hD
 have hlen:=rel.length
 refine PySem.W.kdl_call (PySem.W.kdl_dict (knd:=jt X.prog X.w) (kvs:=vs) (ep:=ep) lo) (I.ok.hd hc) ⟨o,es,ho,hx,hd,hk,hpr,hn⟩ (by omega) λh' tk acc' c' kk hS hacc=>?_
 have hv:Vals (kvs.map λkv=>kV kv.1) acc'.toList:=by
  have gen:∀ (l:List (Key×V)) (l2:List (Key×Value)) (us:List Value),KV l l2->us.length=l2.length->(∀ (j:Nat) (v:Value),us[j]?=some v->∃ k x,l2[j]?=some (k,x)/\(jt X.prog X.w).is k v=true)->Vals (l.map λkv=>kV kv.1) us:=by
   intro l
   induction l with
   | nil=>
    intro l2 us hr hl hu
    cases hr
    have:us=[]:=List.length_eq_zero_iff.mp hl
    subst this
    exact .nil
   | cons a r ih=>
    intro l2 us hr hl hu
    cases hr with
    | @cons _ b _ r2 h1 h2=>
     cases us with
     | nil=>simp at hl
     | cons v us=>
      obtain⟨k,x,e,hk⟩:=hu 0 v rfl
      have e':b=(k,x):=by simpa using e
      have ek:a.1=k:=by rw[h1.1,e']
      refine .cons ?_ (ih r2 us h2 (by simpa using hl) λj w e=>by simpa using hu (j+1) w (by simpa using e))
      show RelV (kV a.1) v
      rw[ek]
      rcases cA hk with ⟨i,t,rfl,rfl⟩ | ⟨x,t,rfl,rfl⟩
      ·exact⟨t,rfl⟩
      ·exact⟨t,rfl⟩
  refine gen kvs vs acc'.toList rel (by rw[Array.length_toList];exact hacc.1) λj v e=>hacc.2 j v (by rw[← Array.getElem?_toList];exact e)
 refine⟨.ref s.heap.objs.size,_,I.laid kk (Nat.le_refl _) (show ObjOk X.prog X.w X.K _ h' _ (.lst _) from ⟨?_,acc'.toList,c',hv,?_⟩),rfl,q _ I.fresh⟩
 ·rw[List.length_map];omega
 ·simpa using hS
mutual
inductive Dt (K:PySem.W.Frag) (H:Hp):V->PyData->Prop
 | non:Dt K H .non .none
 | bl (b:Bool):Dt K H (.bl b) (.bool b)
 | int (i:Int):Dt K H (.int i) (.int i)
 | str (x:Str):Dt K H (.str x) (.str x)
 | lst {a:Addr}{xs:List V}{ds:List PyData}:SqL K H a xs->Dts K H xs ds->Dt K H (.ref a) (.list ds)
 | tup {a:Addr}{xs:List V}{ds:List PyData}:SqT K H a xs->Dts K H xs ds->Dt K H (.ref a) (.tuple ds)
inductive Dts (K:PySem.W.Frag) (H:Hp):List V->List PyData->Prop
 | nil:Dts K H [] []
 | cons {x:V}{xs:List V}{d:PyData}{ds:List PyData}:Dt K H x d->Dts K H xs ds->Dts K H (x::xs) (d::ds)
end
mutual
theorem Dt.reads {pins:List (Addr×Obj)}{σ:St}{H:Hp}{s:Shared}(I:Inv X pins σ H s):∀ {x:V}{d:PyData}{u:Value},Dt X.K H x d->RelV x u->∃ as,Reads s.heap u d as
 | _,_,_,.non,r=>by cases r;exact⟨[],.none⟩
 | _,_,_,.bl b,r=>by cases r;exact⟨[],.bool b⟩
 | _,_,_,.int i,r=>by obtain⟨t,rfl⟩:=r;exact⟨[],.int i t⟩
 | _,_,_,.str x,r=>by obtain⟨t,rfl⟩:=r;exact⟨[],.str x t⟩
 | _,_,_,.lst hq hs,r=>by
  cases r
  obtain⟨its,rv,pl,_⟩:=I.list hq
  obtain⟨o,e,c,n,d⟩:=pl.isList
  obtain⟨as,ra⟩:=Dts.reads I hs rv
  exact⟨_,.list e c d (by simpa using ra)⟩
 | _,_,_,.tup hq hs,r=>by
  cases r
  obtain⟨its,rv,pl,_⟩:=I.tuple hq
  obtain⟨o,e,c,n,d⟩:=pl
  obtain⟨as,ra⟩:=Dts.reads I hs rv
  exact⟨_,.tuple e c d (by simpa using ra)⟩
theorem Dts.reads {pins:List (Addr×Obj)}{σ:St}{H:Hp}{s:Shared}(I:Inv X pins σ H s):∀ {xs:List V}{ds:List PyData}{us:List Value},Dts X.K H xs ds->Vals xs us->∃ as,ReadsAll s.heap us ds as
 | _,_,_,.nil,r=>by cases r;exact⟨[],.nil⟩
 | _,_,_,.cons h hs,r=>by
  cases r with
  | cons r1 r2=>
   obtain⟨as,ra⟩:=Dt.reads I h r1
   obtain⟨bs,rb⟩:=Dts.reads I hs r2
   exact⟨_,.cons ra rb⟩
end
theorem Ks (hu:X.A.units+64 < cLine):OpR X (compareOp .Eq) (λx y H Q=>∃ d e,Dt X.K H x d/\Dt X.K H y e/\SeqAt.shaped d=true/\SeqAt.shaped e=true/\Q (.bl (PyData.eqv d e)) H):=by
 intro pins s σ H x y v u Q I rx ry h
 obtain⟨d,e,h1,h2,s1,s2,q⟩:=h
 obtain⟨as,ra⟩:=h1.reads I rx
 obtain⟨bs,rb⟩:=h2.reads I ry
 exact eq_dataH ra rb s1 s2 hu ⟨.bl _,H,I,rfl,q⟩
theorem Ku (hu:X.A.units+64 < cLine):OpR X (compareOp .NotEq) (λx y H Q=>∃ d e,Dt X.K H x d/\Dt X.K H y e/\SeqAt.shaped d=true/\SeqAt.shaped e=true/\Q (.bl (!PyData.eqv d e)) H):=by
 intro pins s σ H x y v u Q I rx ry h
 obtain⟨d,e,h1,h2,s1,s2,q⟩:=h
 obtain⟨as,ra⟩:=h1.reads I rx
 obtain⟨bs,rb⟩:=h2.reads I ry
 exact ne_dataH ra rb s1 s2 hu ⟨.bl _,H,I,rfl,q⟩
theorem zb:CallR X (.builtin "isinstance") (λxs H Q=>∃ x n t b,xs=[x,.ty n]/\TyOf X.K H x t/\PySem.W.kitOne X.K t (.type n)=some b/\Q (.bl b) H):=by
 intro pins s σ H xs us Q I r h
 obtain⟨x,n,t,b,rfl,ty,e,q⟩:=h
 obtain⟨u,w',rfl,r1,r2⟩:=vals2 r
 cases r2
 exact Cp I r1 ty e λtk=>⟨.bl b,H,I.tok _,rfl,q⟩
end
end L2
namespace L2
open PySem PySem.Spec PyProof.Rows
structure Cal (P:Program) (w:World) (K:PySem.W.Frag) (mg:Str->Option Value) (base:Heap) (k:Nat) (x:Str) (ps:List Str) (sp:Sp):Prop where
 ex:∃ f fd,FnOk P w K mg base CX0 k f fd ps sp/\Binds K fd ps []/\PySem.W.keepIn K (.ref f)=true/\mg x=some (.ref f)
theorem bz {P:Program}{w:World}{K:PySem.W.Frag}{mg:Str->Option Value}{base:Heap}{k:Nat}{x:Str}{ps:List Str}{sp:Sp}{st:Stmt}{f:Addr}{fd:FuncData}(F:Fun K x x st f fd)
  (hm:mg x=some (.ref f)) (hb:Binds K fd ps []) (G:FnOk P w K mg base CX0 k f fd ps sp):Cal P w K mg base k x ps sp:=⟨f,fd,G,hb,F.kp,hm⟩
theorem Kv {X:Cx}{k j:Nat}{x:Str}{ps:List Str}{sp:Sp}{p pos:Pos}{e:Expr}{es:List Expr}{t:TA}(c:Cal X.prog X.w X.K X.mg X.base k x ps sp) (hr:Room j X.A) (ha:PA X (e::es) t) (hle:k<=j:=by decide) (hg:Gl X x:=by rfl)
  (hdb:(x == ("__debug__" : Str))=false:=by decide) (he:starEach (e::es) X.env=(false,eval e X.env)::starEach es X.env:=by rfl) (hpl:(backTo pos (starEach es X.env)).any (·.1)=false:=by rfl):
  PE X (.Call (.Name x p) (e::es) [] pos) (G8 sp [] E0 t):=by
 obtain⟨f,fd,G,hb,kp,hm⟩:=c.ex
 exact Hx G (hr.mono hle) hg hm kp hb .nil wV ha hdb he hpl
theorem bh {H:Hp}{p:Addr}(h:H p=none) (o:HO):Same H (upd H p o):=λb u q=>by rw[aP (bf q h)];exact q
theorem Same.new {H H':Hp}{p:Addr}(s:Same H H') (h:H' p=none) (o:HO):Same H (upd H' p o):=s.trans (bh h o)
theorem oU {n:Nat}(h:n<=1000000):n < sizeLine:=Nat.lt_of_le_of_lt h (by decide)
section
variable {tt:TT}{te:TE}{Q:VK}{σ0 rest:St}{H:Hp}{D:Addr}
end
section
variable {K:PySem.W.Frag}{wi:TI}{cap:List (Option Nat)}{tt:TT}{te:TE}{σ rest:St}{H:Hp}{Q:VK}{xs:List V}
end
section
variable (K:PySem.W.Frag){X:Cx}
end
end L2
namespace L2
open PySem PySem.Spec PyProof.Rows
def cQ (x:Str) (lo hi:Option Int):Str:=⟨((x.cps.toList.drop (HT.sIx x.length 0 lo)).take (HT.sIx x.length x.length hi - HT.sIx x.length 0 lo)).toArray⟩
theorem Ih (lo hi:Option Int) (n:Nat):Builtin.Str.strSliceIndices lo hi 1 n=(List.range (HT.sIx n n hi - HT.sIx n 0 lo)).map (HT.sIx n 0 lo+·):=by
 rw[← sliceRange_one]
 unfold Builtin.Str.strSliceIndices
 have cl:∀ (o:Option Int) (d:Nat),d<=n->(match o with | none=>(d:Int) | some i=>let i:=if i < 0 then i+(n:Int) else i;if (1:Int) > 0 then max 0 (min i (n:Int)) else max (-1) (min i ((n:Int) - 1)))=((HT.sIx n d o:Nat):Int):=λo d hd=>by
  cases o with
  | none=>rfl
  | some i=>
   simp only[HT.sIx,show (1:Int) > 0 by decide,if_true]
   by_cases h:i < 0
   ·simp only[h,if_true] <;> omega
   ·simp only[h,if_false] <;> omega
 have c1:=cl lo 0 (Nat.zero_le _)
 have c2:=cl hi n (Nat.le_refl _)
 simp only[show (1:Int) > 0 by decide,if_true] at c1 c2 ⊢
 exact congr (congrArg sliceRange c1) c2▸rfl
theorem Fy (x:Str) (t:Tok) (l u:Option (Int×Tok)){Q:Value->Shared->Prop}{s:Shared}(hl:x.length<=sizeLine)
  (h:∀ t' s',(s'=s\/s'={ s with toks:=s.toks+1 })->Q (.str (cQ x (l.map (·.1)) (u.map (·.1))) t') s'):(sliceMade x t l u none).post Q s:=by
 unfold sliceMade slicePicked
 have e:Builtin.Str.strSliceIndices (l.map (·.1)) (u.map (·.1)) ((((none:Option (Int×Tok)).map (·.1)).getD 1)) x.length=_:=Ih (l.map (·.1)) (u.map (·.1)) x.length
 rw[e]
 have hp:=pick_run x.cps (HT.sIx x.length 0 (l.map (·.1))) (HT.sIx x.length x.length (u.map (·.1)) - HT.sIx x.length 0 (l.map (·.1)))
 have hs:HT.sIx x.length x.length (u.map (·.1))<=x.length:=HT.sIx_le _ _ (Nat.le_refl _) _
 have hc:x.length=x.cps.toList.length:=by simp[Str.length]
 by_cases hw:((((none:Option (Int×Tok)).map (·.1)).getD 1 == 1&&((List.range (HT.sIx x.length x.length (u.map (·.1)) - HT.sIx x.length 0 (l.map (·.1)))).map (HT.sIx x.length 0 (l.map (·.1))+·)).length == x.length)=true)
 ·rw[if_pos hw]
  show Q (.str x t) s
  have hn:HT.sIx x.length x.length (u.map (·.1)) - HT.sIx x.length 0 (l.map (·.1))=x.length:=by
   have:=(Bool.and_eq_true _ _▸hw).2
   simpa using this
  have e2:cQ x (l.map (·.1)) (u.map (·.1))=x:=by
   unfold cQ
   rw[hn]
   by_cases h0:x.length=0
   ·have:x.cps.toList=[]:=List.eq_nil_of_length_eq_zero (by omega)
    cases x with | mk c=>simp at this;subst this;simp
   ·have h1:HT.sIx x.length 0 (l.map (·.1))=0:=by omega
    rw[h1,List.drop_zero,hc,List.take_length]
  have:=h t s (.inl rfl)
  rw[e2] at this
  exact this
 ·rw[if_neg hw,hp]
  refine⟨?_,h _ _ (.inr rfl)⟩
  show ((x.cps.toList.drop _).take _).toArray.size<=sizeLine
  rw[List.size_toArray,List.length_take,List.length_drop,← hc]
  omega
section
variable {X:Cx}
def Kw:V->Option Int->Option Int->Hp->VK->Prop:=λx lo hi H Q=>∃ z,x=.str z/\z.length<=sizeLine/\Q (.str (cQ z lo hi)) H
theorem Ky:SlR X Kw:=by
 intro pins s σ H x v vl vu lo hi sl Q I rx hs pl pu h
 obtain⟨z,rfl,hz,q⟩:=h
 obtain⟨t,rfl⟩:=rx
 refine⟨"str",_,slot_str_getitem.lookup,typeIs_str s z t,?_⟩
 have part:∀ {v:Value}{o:Option Int},IsPart v o->∃ p:Option (Int×Tok),v=partValue p/\p.map (·.1)=o:=λp=>by
  cases p with
  | none=>exact⟨none,rfl,rfl⟩
  | int i t=>exact⟨some (i,t),rfl,rfl⟩
 obtain⟨l,rfl,rfl⟩:=part pl
 obtain⟨u,rfl,rfl⟩:=part pu
 refine wpAny_getItem_str_slice (l:=l) (u:=u) (st:=none) hs rfl (Fy z t l u hz λt' s' hs'=>?_)
 rcases hs' with rfl | rfl
 ·exact⟨.str (cQ z (l.map (·.1)) (u.map (·.1))),H,I,⟨t',rfl⟩,q⟩
 ·exact⟨.str (cQ z (l.map (·.1)) (u.map (·.1))),H,I.tok _,⟨t',rfl⟩,q⟩
def Kz (K:PySem.W.Frag):V->Option Int->Option Int->Hp->VK->Prop:=λx lo hi H Q=>Kl K x lo hi H Q\/Kw x lo hi H Q
theorem KC:SlR X (Kz X.K):=sl_list.or Ky
end
end L2
namespace L2
open PySem PySem.Spec PyProof.Rows
section
variable {X:Cx}{pins:List (Addr×Obj)}{σ:St}{H H':Hp}{s:Shared}{h':Heap}
theorem Inv.turnedM {t':Nat}{ch:List Addr}(I:Inv X pins σ H s) (k:∀ b u,b∉ch->s.heap.get? b=some u->h'.get? b=some u) (hf:∀ b∈ch,lE X pins H b):Inv X pins σ H { s with heap:=h',toks:=t' }:=by
 have nch:∀ b u,H b=some u->b∉ch:=λb u e hb=>by
  rw[(hf b hb).1] at e;cases e
 refine I.step (g':=s.gens) (d':=s.drawn) (ch:=ch) (λb hb=>let ⟨_,f1,_,f4,f5,f6⟩:=hf b hb;⟨f4,f1,f5,f6⟩) (λb o _ _ hc e _=>k b o hc e) (λb o _ _ hc e _=>⟨o.slots,k b o hc e⟩)
  (λ_ _ _ _ n=>n) (λb o hc e=>⟨o,k b o hc e⟩) (λ_ _ e=>e) (λ_ _ _ e=>e) (λb ps e=>⟨#[],by rw[e];simp⟩) (λm hm=>?_) (λb u e=>?_) I.bare
 ·obtain⟨oL,es,ep,ho,r⟩:=hm
  have nL:X.env.locals∉ch:=λhb=>(hf _ hb).2.1 rfl
  exact⟨oL,es,ep,k _ oL nL ho,r⟩
 ·refine(I.hok b u e).stay (λc v hc q=>k c v ?_ q) (λ_ q=>q) λ_ _ q=>q
  rcases hc with z | z
  ·rw[z];exact nch b u e
  ·exact nch c _ z
end
def Itz (K:PySem.W.Frag) (a b:Addr):It:=
  ⟨λi H=>∃ xs x ys y,SqL K H a xs/\xs[i]?=some x/\SqL K H b ys/\ys[i]?=some y,
   λi H v H'=>∃ t x y,H t=none/\v=.ref t/\H'=upd H t (.tup [x,y])/\(∀ xs,SqL K H a xs->xs[i]?=some x)/\∀ ys,SqL K H b ys->ys[i]?=some y,
   λi H=>∃ xs ys,SqL K H a xs/\SqL K H b ys/\(xs.length<=i\/ys.length<=i)⟩
def Hc (z TI TO i1 i2 l1 l2:Addr) (i:Nat) (h:Heap):Prop:=IsZip h z TI TO .none/\IsPair h TI (.ref i1) (.ref i2)/\(∃ a b,IsPair h TO a b)/\h.IsListIter i1 l1 i/\h.IsListIter i2 l2 i
theorem xV {P:Program}{w:World}{K:PySem.W.Frag}{es:List Expr}{x1:Nat}{tpos:Pos}{z TI TO i1 i2 l1 l2:Addr}(D:ZipApart z TI TO i1 i2 l1 l2):Turn P w K (.Tuple es x1 tpos) (Itz K l1 l2) [z,TI,TO,i1,i2] z (Hc z TI TO i1 i2 l1 l2) where
 mem:=by simp
 obj:=λi h st b hb=>by
  obtain⟨hz,hTI,⟨a,c,hTO⟩,⟨o1,e1,c1,d1⟩,⟨o2,e2,c2,d2⟩⟩:=st
  simp only[List.mem_cons,List.not_mem_nil,or_false] at hb
  rcases hb with rfl | rfl | rfl | rfl | rfl
  ·exact⟨_,hz,λv y=>by have y':Data.fields _=Data.cell v:=y;cases y'⟩
  ·exact⟨_,hTI,λv y=>by have y':Data.seq _ _=Data.cell v:=y;cases y'⟩
  ·exact⟨_,hTO,λv y=>by have y':Data.seq _ _=Data.cell v:=y;cases y'⟩
  ·exact⟨o1,e1,λv y=>by rw[d1] at y;cases y⟩
  ·exact⟨o2,e2,λv y=>by rw[d2] at y;cases y⟩
 keep:=λi h h' st k=>by
  obtain⟨hz,hTI,⟨a,c,hTO⟩,s1,s2⟩:=st
  exact⟨k z (by simp) _ hz,k TI (by simp) _ hTI,⟨a,c,k TO (by simp) _ hTO⟩,s1.at λo q=>k i1 (by simp) o q,s2.at λo q=>k i2 (by simp) o q⟩
 item:=by
  intro X hP hw hK hc i pins s σ H E I hf st hg
  subst hP hw hK
  obtain⟨xs,x,ys,y,hq1,hx,hq2,hy⟩:=hg
  obtain⟨hz,hTI,⟨a,b,hTO⟩,s1,s2⟩:=st
  obtain⟨its1,rv1,p1,hz1⟩:=I.list hq1
  obtain⟨its2,rv2,p2,hz2⟩:=I.list hq2
  obtain⟨u,hu,ru⟩:=rv1.get hx
  obtain⟨v,hv,rv⟩:=rv2.get hy
  refine wpAny_pyNext_zip_item D hz hTI hTO s1 s2 p1.isList p2.isList (x:=u) (y:=v) (by simpa using hu) (by simpa using hv) λh' z1 t1 j1 j2 tp hsz hk=>⟨_,rfl,?_⟩
  refine wpAny_letOwnedTupleGo_zip (s:={ s with heap:=h' }) z1 λh2 z2 sb=>?_
  have lz:z < s.heap.objs.size:=Heap.lt_size hz
  have g2:h2.get? s.heap.objs.size=some { cls:=.type "tuple",data:=.seq #[u,v] }:=(sb.2 _ (Nat.ne_of_gt lz)).trans tp
  have k2:∀ c o,c∉[z,TO,i1,i2]->s.heap.get? c=some o->h2.get? c=some o:=λc o hb q=>by
   have n1:c≠z:=λe=>hb (by simp[e])
   have n2:c≠TO:=λe=>hb (by simp[e])
   have n3:c≠i1:=λe=>hb (by simp[e])
   have n4:c≠i2:=λe=>hb (by simp[e])
   exact(sb.2 c n1).trans (hk c o n1 n2 n3 n4 q)
  have gTO:IsPair h2 TO u v:=(sb.2 _ D.TOz).trans t1
  have g1:h2.IsListIter i1 l1 (i+1):=j1.extBut sb.extBut D.i1z
  have g2':h2.IsListIter i2 l2 (i+1):=j2.extBut sb.extBut D.i2z
  have ht2:∀ c o,s.heap.get? c=some o->∃ o',h2.get? c=some o':=λc o q=>by
   by_cases n1:c=z
   ·subst n1;exact⟨_,z2⟩
   ·by_cases n2:c=TO
    ·subst n2;exact⟨_,gTO⟩
    ·by_cases n3:c=i1
     ·subst n3;obtain⟨o',e',_⟩:=g1;exact⟨o',e'⟩
     ·by_cases n4:c=i2
      ·subst n4;obtain⟨o',e',_⟩:=g2';exact⟨o',e'⟩
      ·exact⟨o,k2 c o (by simp[n1,n2,n3,n4]) q⟩
  have I2:Inv X pins σ (upd H s.heap.objs.size (.tup [x,y])) { s with heap:=h2,toks:=s.toks }:=
   I.turnedL (ch:=[z,TO,i1,i2]) k2 ht2 (λb hb=>hf b (by simp only[List.mem_cons,List.not_mem_nil,or_false] at hb ⊢;rcases hb with e | e | e | e <;> simp[e])) (Nat.le_refl _)
    ⟨by show 2<=sizeLine;decide,[u,v],.cons ru (.cons rv .nil),⟨_,g2,rfl,_,rfl⟩⟩
  refine⟨.ref s.heap.objs.size,_,I2,rfl,⟨s.heap.objs.size,x,y,I.fresh,rfl,rfl,λzs hy=>by rw[I.list_inj hy hq1];exact hx,λzs hy'=>by rw[I.list_inj hy' hq2];exact hy⟩,⟨z2,?_,⟨u,v,gTO⟩,g1,g2'⟩,λb hb=>?_⟩
  ·exact k2 TI _ (by simp[D.TIz,D.TITO,D.TIi1,D.TIi2]) hTI
  ·have hb0:=(hf b hb).1
   rw[aP ?_]
   ·exact hb0
   ·have hlt:b < s.heap.objs.size:=by
     simp only[List.mem_cons,List.not_mem_nil,or_false] at hb
     rcases hb with rfl | rfl | rfl | rfl | rfl
     ·exact lz
     ·exact Heap.lt_size hTI
     ·exact Heap.lt_size hTO
     ·obtain⟨o,e1,_⟩:=s1;exact Heap.lt_size e1
     ·obtain⟨o,e1,_⟩:=s2;exact Heap.lt_size e1
    exact Nat.ne_of_lt hlt
 done:=by
  intro X hP hw hK hc i pins s σ H E I hf st hg
  subst hP hw hK
  obtain⟨xs,ys,hq1,hq2,hl⟩:=hg
  obtain⟨hz,hTI,⟨a,b,hTO⟩,s1,s2⟩:=st
  obtain⟨its1,rv1,p1,hz1⟩:=I.list hq1
  obtain⟨its2,rv2,p2,hz2⟩:=I.list hq2
  have l1':=rv1.length
  have l2':=rv2.length
  refine wpAny_pyNext_zip_end (I.ok.hd hc) D hz hTI hTO s1 s2 p1.isList p2.isList (hl.imp (λh=>by simp;omega) λh=>by simp;omega) λh' hk=>⟨rfl,?_⟩
  refine I.turnedM (t':=s.toks) (ch:=[z,TO,i1,i2]) (λc o hb q=>?_) (λb hb=>hf b (by simp only[List.mem_cons,List.not_mem_nil,or_false] at hb ⊢;rcases hb with e | e | e | e <;> simp[e]))
  exact hk c o (λe=>hb (by simp[e])) (λe=>hb (by simp[e])) (λe=>hb (by simp[e])) (λe=>hb (by simp[e])) q
 self:=λA i s Q E st h=>wpAny_pyIter_zip st.1 h
section
variable {X:Cx}
def Oi (K:PySem.W.Frag) (ta:TA):TI:=fun σ H R=>ta σ H λvs H1=>∃ a b,vs=[.ref a,.ref b]/\(∃ xs,SqL K H1 a xs)/\(∃ ys,SqL K H1 b ys)/\R (Itz K a b) H1
theorem KD {l r:Expr}{ta:TA}{es:List Expr}{x1:Nat}{tpos p pos:Pos}(hg:Gl X "zip") (hm:X.mg "zip" = none) (ha:PA X [l,r] ta) (hs:starEach [l,r] X.env=(false,eval l X.env)::starEach [r] X.env:=by rfl) (hp:(backTo pos (starEach [r] X.env)).any (·.1)=false:=by rfl):
  PI X (.Tuple es x1 tpos) (.Call (.Name "zip" p) [l,r] [] pos) (Oi X.K ta):=by
 intro pins s σ H R I h
 refine Call_ (jM I hg hm PyProof.Rows.boot_zip (PyProof.Rows.callWith_type1 (thn (ha pos pins s σ H _ I h) ?_) hs hp))
 rintro us s1 ⟨vs,H1,I1,r1,q1⟩
 obtain⟨a,b,e,⟨xs,hq1⟩,⟨ys,hq2⟩,q⟩:=q1
 subst e
 obtain⟨u,v,rfl,ru,rv⟩:=vals2 r1
 cases ru
 cases rv
 obtain⟨its1,rv1,p1,hz1⟩:=I1.list hq1
 obtain⟨its2,rv2,p2,hz2⟩:=I1.list hq2
 have a1:a < s1.heap.objs.size:=by obtain⟨_,e,_⟩:=p1.isList;exact Heap.lt_size e
 have a2:b < s1.heap.objs.size:=by obtain⟨_,e,_⟩:=p2.isList;exact Heap.lt_size e
 refine call_zip_2 p1.isList p2.isList λh' hz hTI hTO hi1 hi2 hsz hk=>?_
 have I2:Inv X pins σ H1 { s1 with heap:=h' }:=I1.kept (t':=s1.toks) hk
 have D:=zipApart_new a1 a2
 have st:Hc (s1.heap.objs.size+4) (s1.heap.objs.size+2) (s1.heap.objs.size+3) s1.heap.objs.size (s1.heap.objs.size+1) a b 0 h':=⟨hz,hTI,⟨_,_,hTO⟩,hi1,hi2⟩
 refine(xV (P:=X.prog) (w:=X.w) (K:=X.K) (es:=es) (x1:=x1) (tpos:=tpos) D).self X.A 0 { s1 with heap:=h' } _ _ st ?_
 refine⟨s1.heap.objs.size+4,_,_,_,H1,rfl,I2,xV D,st,λc hb=>?_,q⟩
 have hb':s1.heap.objs.size<=c:=by
  simp only[List.mem_cons,List.not_mem_nil,or_false] at hb
  rcases hb with e | e | e | e | e <;> rw[e] <;> omega
 exact I1.fpOk hb' (I1.hok.fresh hb')
end
end L2
namespace L2
open PySem PySem.Spec PyProof.Rows
section
variable {X:Cx}
end
end L2
namespace L2
open PySem PySem.Spec PyProof.Rows
theorem CW:typeLookup (.type "list_reverseiterator") "__len__" = pure none:=by rw[typeLookup_type,builtinLookup_eq_fast];kernel_rfl
theorem Fz:typeLookup (.type "list_reverseiterator") "__length_hint__" = pure (some (.builtin "list_reverseiterator.__length_hint__")):=by rw[typeLookup_type,builtinLookup_eq_fast];kernel_rfl
section
variable {prog:Program}{w:World}{A:Around}{E:Value->Shared->Prop}{s:Shared}
theorem Aq {J l N:Addr}{items:Array Value}{c₀:Nat}{R:Result->Shared->Prop}(hh:A.handled=none) (hit:s.heap.IsRevIter J l ((items.size:Int) - 1)) (hl:s.heap.IsList l items) (hlJ:l≠J) (hNJ:N≠J) (hNl:N≠l) (hn:items.size<=sizeLine)
  (hN:s.heap.get? N=some { cls:=.type "list",data:=.seq #[] c₀ })
  (hR:∀ h' tk acc c,(∀ b o,b≠J->b≠N->s.heap.get? b=some o->h'.get? b=some o)->h'.get? N=some { cls:=.type "list",dict:=none,data:=.seq acc c,slots:=#[] }->ItemsOf (λi v=>items[items.size - 1 - i]?=some v) acc items.size->R (.ok (.ret .none)) { s with heap:=h',toks:=tk }):
  wpAny (model prog w) A.in1 (Builtin.List.listExtendWith (.ref N) (.ref J) .none)
   (λfin s'=>match fin with | .done f=>R (.ok f) s' | .again c'=>c'.quiet=true/\codeAny (model prog w) A c' R s') (λe s'=>R (.error e) s') s:=by
 have W:=(Walks.listRev (prog:=prog) (w:=w) (A:=A.in1) hh J l hlJ items).toS
 have st0:(0:Nat)<=items.size/\s.heap.IsRevIter J l ((items.size:Int) - 1 - ((0:Nat):Int))/\s.heap.IsList l items:=⟨Nat.zero_le _,by simpa using hit,hl⟩
 unfold Builtin.List.listExtendWith
 have hr:Builtin.List.listSameRef (.ref N) (.ref J)=false:=by simp[Builtin.List.listSameRef,hNJ]
 refine wpAny_bind (wpAny_typeOf hit.typeIs ?_);rw[if_neg (by rw[hr];decide)]
 refine wpAny_bind (wpAny_pyIter_revIter hit (wpAny_bind (wpAny_holding ?_)))
 unfold Builtin.List.listLengthHint
 refine wpAny_bind (wpAny_specialOf hit.typeIs CW ?_)
 show wpAny _ A.in1 (specialOf (Value.ref J) (Str.ofString "__length_hint__") >>= _) _ _ _
 refine wpAny_bind (wpAny_specialOf hit.typeIs Fz ?_)
 (generalize hid:("list_reverseiterator.__length_hint__" : String)=nm;(fail_if_success (clear hid nm));wp_delta;rw[show splitId nm=some ("list_reverseiterator", "__length_hint__") from by subst hid;decide +kernel];subst hid)
 refine wpAny_bind (wpAny_isInstance (b:=true) hit.typeIs (by rw[isSubtype_type];kernel_rfl) (wpAny_pure ?_))
 rw[if_neg (by decide)]
 have hNf:N∉[J,l]:=by simp[hNJ,hNl]
 refine wpAny_pure ⟨plainId_quiet F.plain_extend_loop _,codeAny_extend_loopS W hn N hNf .none items.size 0 _ _ _ rfl (Nat.zero_le _) st0 hN (ItemsOf.nil _) λs' acc c hm hN' it=>?_⟩
 rw[Moved.eq_with hm]
 exact hR s'.heap s'.toks acc c (λb o h1 h2 e=>hm.heap b o (by simp[h1,h2]) e) hN' it
theorem wB {J l:Addr}{items:Array Value}{Q:Value->Shared->Prop}(hh:A.handled=none) (hit:s.heap.IsRevIter J l ((items.size:Int) - 1)) (hl:s.heap.IsList l items) (hlJ:l≠J) (hn:items.size<=sizeLine)
  (hQ:∀ h' tk acc c,(∀ b o,b≠J->s.heap.get? b=some o->h'.get? b=some o)->h'.get? s.heap.objs.size=some { cls:=.type "list",dict:=none,data:=.seq acc c,slots:=#[] }->ItemsOf (λi v=>items[items.size - 1 - i]?=some v) acc items.size->Q (.ref s.heap.objs.size) { s with heap:=h',toks:=tk }):
  wpAny (model prog w) A (call (.type "list") [.ref J]) Q E s:=by
 have lt:∀ {b:Addr}{o:Obj},s.heap.get? b=some o->b≠s.heap.objs.size:=λe=>Nat.ne_of_lt (Heap.lt_size e)
 have nJ:J≠s.heap.objs.size:=let ⟨_,e,_⟩:=hit;lt e
 have nl:l≠s.heap.objs.size:=let ⟨_,e,_⟩:=hl;lt e
 refine callType_codes (Q₁:=λx t=>x=.ref s.heap.objs.size/\t={ s with heap:=s.heap.push { cls:=.type "list",data:=.seq #[] } }) F.called_list (F.typeCall_list_1 _) F.entry_list_init (code_list_new _ ⟨rfl,rfl⟩) λx t ht=>?_
 obtain⟨rfl,rfl⟩:=ht
 have hN:(s.heap.push { cls:=.type "list",data:=.seq #[] }).get? s.heap.objs.size=some { cls:=.type "list",data:=.seq #[] }:=Heap.get?_push_size _ rfl
 refine⟨⟨_,hN,rfl⟩,F.args_list_init_2 _ _,?_⟩
 generalize hS:s.heap.objs.size=N at *
 have up:∀ b o,b≠N->s.heap.get? b=some o->((s.heap.push { cls:=.type "list",data:=.seq #[] }).update N (Obj.mapSeq (λ_=>(#[]:Array Value)))).get? b=some o:=λb o hb e=>(Heap.get?_update_other _ _ (Ne.symm hb)).trans (Heap.get?_push_of_some _ e)
 show wpAny _ A.in1.in1 (do let old ← Builtin.List.listItems (.ref N);Builtin.List.listUpdate (.ref N) (λ_=>#[]);letGo old.toList.reverse;Builtin.List.listExtendWith (.ref N) (.ref J) .none) _ _ _
 refine wpAny_bind ?_;unfold Builtin.List.listItems
 refine wpAny_bind (wpAny_seqItems hN rfl (wpAny_pure ?_))
 show wpAny _ A.in1.in1 (updateSeq N (λ_=>#[]) >>= λ_=>letGo (#[]:Array Value).toList.reverse >>= λ_=>Builtin.List.listExtendWith (.ref N) (.ref J) .none) _ _ _
 refine wpAny_bind (wpAny_updateSeq hN rfl (wpAny_bind (wpAny_letGo ?_)))
 have hN2:=Heap.get?_update_self (Obj.mapSeq (λ_=>(#[]:Array Value))) hN rfl
 refine Aq (A:=A.in1) hh (hit.at λo e=>up J o nJ e) (hl.at λo e=>up l o nl e) hlJ (Ne.symm nJ) (Ne.symm nl) hn hN2 λh' tk acc c k e it=>⟨rfl,hQ h' tk acc c (λb o hb eb=>k b o hb (hS▸lt eb) (up b o (hS▸lt eb) eb)) e it⟩
end
def Itv (K:PySem.W.Frag) (a:Addr) (n:Nat):It:=
 ⟨λi H=>∃ xs x,SqL K H a xs/\xs.length=n/\i < n/\xs[n - 1 - i]?=some x,λi H x H'=>H'=H/\∀ xs,SqL K H a xs->xs[n - 1 - i]?=some x,λi _=>n=i⟩
theorem FJ {P:Program}{w:World}{K:PySem.W.Frag}{tg:Expr}(a it:Addr) (n:Nat):Turn P w K tg (Itv K a n) [it] it (λi h=>h.IsRevIter it a ((n:Int) - 1 - ((i:Nat):Int))) where
 mem:=by simp
 obj:=λi h st b hb=>by
  obtain⟨o,e,c,d⟩:=st
  exact⟨o,by rw[List.mem_singleton.mp hb];exact e,λv z=>by rw[d] at z;cases z⟩
 keep:=λi h h' st k=>st.at λo e=>k it List.mem_cons_self o e
 item:=by
  intro X hP hw hK hc i pins s σ H E I hf st hg
  subst hP hw hK
  obtain⟨xs,x,hq,hlen,hlt,hx⟩:=hg
  obtain⟨its,rv,p,hz⟩:=I.list hq
  obtain⟨u,hu,ru⟩:=rv.get hx
  obtain⟨f0,f1,f2,f3,f4,f5⟩:=hf it List.mem_cons_self
  have e1:(n:Int) - 1 - ((i:Nat):Int)=((n - 1 - i:Nat):Int):=by omega
  have st1:=st
  rw[e1] at st1
  refine wpAny_pyNext_rev_item st1 p.isList (x:=u) (by simpa using hu) λh' st' sb=>?_
  have e2:((n - 1 - i:Nat):Int) - 1=(n:Int) - 1 - ((i+1:Nat):Int):=by omega
  rw[e2] at st'
  obtain⟨o,e,c,d⟩:=id st'
  exact⟨u,rfl,tX (s:={ s with heap:=h' }) e c d (by decide) ⟨x,H,I.turned (t':=s.toks) (λb o hb q=>(sb.2 b hb).trans q) f0 f1 f3 f4 f5,ru,⟨rfl,λys hy=>by rw[I.list_inj hy hq];exact hx⟩,st',λb hb=>(hf b hb).1⟩⟩
 done:=by
  intro X hP hw hK hc i pins s σ H E I hf st hg
  subst hP hw hK
  obtain⟨f0,f1,f2,f3,f4,f5⟩:=hf it List.mem_cons_self
  have hg':n=i:=hg
  have e1:(n:Int) - 1 - ((i:Nat):Int)=-1:=by omega
  rw[e1] at st
  exact wpAny_pyNext_rev_end (I.ok.hd hc) st λh' eb=>⟨rfl,I.turned (t':=s.toks) (λb o hb q=>eb b o hb q) f0 f1 f3 f4 f5⟩
 self:=λ_ _ _ _ _ st h=>wpAny_pyIter_revIter st h
section
variable {X:Cx}{tg:Expr}
def Oj (K:PySem.W.Frag) (ta:TA):TI:=fun σ H R=>ta σ H λvs H1=>∃ a xs,vs=[.ref a]/\SqL K H1 a xs/\R (Itv K a xs.length) H1
theorem KH {l:Expr}{ta:TA}{p pos:Pos}(hg:Gl X "reversed") (hm:X.mg "reversed" = none) (ha:PA X [l] ta) (hb:bootBuiltins "reversed" = some (.type "reversed")) (hs:starEach [l] X.env=(false,eval l X.env)::starEach [] X.env:=by rfl) (hp:(backTo pos (starEach [] X.env)).any (·.1)=false:=by rfl):
  PI X tg (.Call (.Name "reversed" p) [l] [] pos) (Oj X.K ta):=by
 intro pins s σ H R I h
 refine Call_ (jM I hg hm hb (PyProof.Rows.callWith_type1 (thn (ha pos pins s σ H _ I h) ?_) hs hp))
 rintro us s1 ⟨vs,H1,I1,r1,q1⟩
 obtain⟨a,xs,e,hq,q⟩:=q1
 subst e
 obtain⟨u,rfl,ru⟩:=vals1 r1
 cases ru
 obtain⟨its,rv,p,hz⟩:=I1.list hq
 refine call_reversed_list p.isList ?_
 have hlen:=rv.length
 have ez:((its.toArray.size:Nat):Int) - 1=(xs.length:Int) - 1 - ((0:Nat):Int):=by rw[List.size_toArray];omega
 rw[ez]
 refine wpAny_pyIter_revIter ⟨_,Heap.get?_push_size _ rfl,rfl,rfl⟩ ⟨s1.heap.objs.size,[s1.heap.objs.size],_,_,H1,rfl,I1.kept (t':=s1.toks) λb o e=>Heap.get?_push_of_some _ e,FJ a _ xs.length,⟨_,Heap.get?_push_size _ rfl,rfl,rfl⟩,λb hb=>?_,q⟩
 rw[List.mem_singleton.mp hb]
 exact I1.fpOk (Nat.le_refl _) (I1.hok.fresh (Nat.le_refl _))
theorem CZ {xs:List V}{its:List Value}(r:Vals xs its) (acc:List Value) (hl:acc.length=its.length) (h:∀ (i:Nat) v,acc[i]?=some v->its[its.length - 1 - i]?=some v):Vals xs.reverse acc:=by
 have e:acc=its.reverse:=by
  refine List.ext_getElem? λi=>?_
  rcases Nat.lt_or_ge i acc.length with hi | hi
  ·have:=h i acc[i] (List.getElem?_eq_getElem hi)
   rw[List.getElem?_eq_getElem hi,List.getElem?_reverse (by omega),this]
  ·rw[List.getElem?_eq_none hi,List.getElem?_eq_none (by rw[List.length_reverse];omega)]
 rw[e]
 exact r.reverse
def KJ (K:PySem.W.Frag) (ta:TA):TE:=fun σ H Q=>ta σ H λvs H1=>∃ a xs,vs=[.ref a]/\SqL K H1 a xs/\∀ l,H1 l=none->Q (.ref l) (upd H1 l (.lst xs.reverse))
theorem FN {a:Expr}{ta:TA}{p p2 pos pos2:Pos}(hg:Gl X "list") (hm:X.mg "list" = none) (hg2:Gl X "reversed") (hm2:X.mg "reversed" = none) (hb:bootBuiltins "reversed" = some (.type "reversed")) (hc:X.calm=true) (ha:PA X [a] ta) (hs:starEach [a] X.env=(false,eval a X.env)::starEach [] X.env:=by rfl) (hp2:(backTo pos2 (starEach [] X.env)).any (·.1)=false:=by rfl)
  (hs2:starEach [.Call (.Name "reversed" p2) [a] [] pos2] X.env=(false,eval (.Call (.Name "reversed" p2) [a] [] pos2) X.env)::starEach [] X.env:=by rfl) (hpl:(backTo pos (starEach [] X.env)).any (·.1)=false:=by rfl):
  PE X (.Call (.Name "list" p) [.Call (.Name "reversed" p2) [a] [] pos2] [] pos) (KJ X.K ta):=by
 intro pins s σ H Q I h
 refine wpAny_Call_Name_kw (jM I hg hm PyProof.Rows.boot_list (PyProof.Rows.callWith_type1 ?_ hs2 hpl) (by decide) (by decide))
 rw[hs2]
 show wpAny _ _ (spliced ((false,eval (.Call (.Name "reversed" p2) [a] [] pos2) X.env)::backTo pos (starEach [] X.env))) _ _ s
 refine Calls.spliced_cons (Call_ (jM I hg2 hm2 hb (PyProof.Rows.callWith_type1 (thn (ha pos2 pins s σ H _ I h) ?_) hs hp2)))
 rintro us s1 ⟨vs,H1,I1,r1,q1⟩
 obtain⟨a,xs,e,hq,q⟩:=q1
 subst e
 obtain⟨u,rfl,ru⟩:=vals1 r1
 cases ru
 obtain⟨its,rv,pl,hz⟩:=I1.list hq
 have hlen:=rv.length
 have hlt:a≠s1.heap.objs.size:=let ⟨_,e,_⟩:=pl.isList;Nat.ne_of_lt (Heap.lt_size e)
 refine call_reversed_list pl.isList (Calls.spliced_nil ?_)
 refine wB (I1.ok.hd hc) ⟨_,Heap.get?_push_size _ rfl,rfl,rfl⟩ (pl.isList.at λo e=>Heap.get?_push_of_some _ e) hlt (by rw[List.size_toArray];omega) λh' tk acc c k e it=>?_
 obtain⟨i1,i2⟩:=it
 rw[List.size_toArray] at i1
 have hv:Vals xs.reverse acc.toList:=CZ rv acc.toList (by simpa using i1) λi v hi=>by
  have:=i2 i v (by simpa using hi)
  simpa using this
 have I2:=I1.laid (a:=s1.heap.objs.size+1) (o:=.lst xs.reverse) (h':=h') (t':=tk) (λb o eb=>k b o (Nat.ne_of_lt (Heap.lt_size eb)) (Heap.get?_push_of_some _ eb)) (by omega)
  (show ObjOk X.prog X.w X.K _ h' _ (.lst xs.reverse) from ⟨(by rw[List.length_reverse];exact hz),acc.toList,c,hv,by
   have:=e
   rw[Heap.size_push] at this
   simpa using this⟩)
 refine⟨.ref (s1.heap.objs.size+1),_,I2,?_,q _ (I1.hok.fresh (by omega))⟩
 show Value.ref _=Value.ref _
 rw[Heap.size_push]
end
end L2
namespace L2
open PySem PySem.Spec PyProof.Rows
section
variable {X:Cx}{tg:Expr}
end
end L2
namespace L2
open PySem PySem.Spec PyProof.Rows
section
variable {prog:Program}{w:World}{A:Around}{E:Value->Shared->Prop}{s:Shared}
variable {z TI TO i1 i2:Addr}{fp1 fp2:List Addr}{n1 n2:Nat}{P1 P2:Nat->Value->Prop}{St1 St2:Nat->Heap->Prop}
theorem cB {b:Addr}{h h':Heap}{fp:List Addr}(hs:Heap.SameBut b h h') (hb:b∉fp):∀ c∈fp,∀ o,h.get? c=some o->h'.get? c=some o:=λc hc o e=>(hs.2 c (λq=>hb (q▸hc))).trans e
end
inductive SK where | L | T
end L2
namespace L2
open PySem PySem.Spec PyProof.Rows
section
variable {prog:Program}{w:World}{A:Around}{E:Value->Shared->Prop}{s:Shared}
end
def SK.sq (k:SK) (K:PySem.W.Frag) (H:Hp) (a:Addr) (xs:List V):Prop:=match k with
 | .L=>SqL K H a xs
 | .T=>SqT K H a xs
section
variable {X:Cx}{pins:List (Addr×Obj)}{σ:St}{H:Hp}{s:Shared}
end
section
variable {X:Cx}
end
end L2
namespace L2
open PySem PySem.Spec PyProof.Rows
section
variable {prog:Program}{w:World}{A:Around}{R:Result->Shared->Prop}{J:Addr}{fp wr:List Addr}{G:Array GenState->Array GenState->Prop}{n:Nat}{P:Nat->Value->Prop}{St:Nat->Shared->Prop}
end
section
variable {prog:Program}{w:World}{A:Around}{E:Value->Shared->Prop}{s:Shared}
end
end L2
namespace L2
open PySem PySem.Spec PyProof.Rows
section
variable {X:Cx}
end
end L2
namespace L2
open PySem PySem.Spec PyProof.Rows
theorem sW {L:List (Addr×HO)}{a:Addr}{o:HO}(h:L.lookup a=some o):(a,o)∈L:=by
 induction L with
 | nil=>cases h
 | cons p L ih=>
  rw[List.lookup_cons] at h
  split at h
  ·rename_i e
   cases h
   rw[beq_iff_eq] at e
   subst e
   exact List.mem_cons_self
  ·exact List.mem_cons_of_mem _ (ih h)
section
variable {X:Cx}{tg:Expr}
end
end L2
namespace L2
open PySem PySem.Spec PyProof.Rows
section
variable {X:Cx}{tg:Expr}{pins:List (Addr×Obj)}{σ:St}{H:Hp}{s:Shared}{apos cpos pos:Pos}{td ty tx tv:TE}{o e f:Expr}
theorem KT.get {K:PySem.W.Frag}{kvs:List (List Key×V)}{xs:List (List Key×Addr×Value)}(r:KT K H kvs xs):∀ {i:Nat}{p:List Key×V},kvs[i]?=some p->∃ b u,xs[i]?=some (p.1,b,u)/\CKey K H b p.1:=by
 induction r with
 | nil=>intro i p h;simp at h
 | @cons p q ps qs h t ih=>
  intro i p' e
  cases i with
  | zero=>
   cases e
   obtain⟨k,b,u⟩:=q
   obtain⟨h1,h2,_⟩:=h
   dsimp only at h1 h2
   exact⟨b,u,by rw[h1];rfl,h2⟩
  | succ i=>exact ih (i:=i) e
end
end L2
namespace L2
open PySem PySem.Spec PyProof.Rows
section
variable {prog:Program}{w:World}{κ:Type} [DecidableEq κ] {kd:HeapKind prog w κ}{A:Around}{E:Value->Shared->Prop}{s:Shared}{d a it vw:Addr}{xs:List (κ×Addr×Value)}{k:κ}{v ok ov:Value}
end
end L2
namespace L2
open PySem PySem.Spec PyProof.Rows
section
variable {X:Cx}{tg:Expr}{pins:List (Addr×Obj)}{σ:St}{H:Hp}{s:Shared}{apos cpos pos:Pos}{td:TE}{o:Expr}
def Ol (K:PySem.W.Frag) (a:Addr) (n:Nat):It:=
 ⟨λi H=>∃ kvs,Rd H a (.dT kvs)/\kvs.length=n/\i < n,λi H x H'=>∃ t kvs b ks y,H t=none/\x=.ref t/\H'=upd H t (.tup [.ref b,y])/\Rd H a (.dT kvs)/\kvs[i]?=some (ks,y)/\CKey K H b ks,λi H=>∃ kvs,Rd H a (.dT kvs)/\kvs.length=n/\n<=i⟩
noncomputable def iDi (K:PySem.W.Frag) (tl:TE):TI:=fun σ H R=>tl σ H λx H1=>∃ a kvs,x=.ref a/\Rd H1 a (.dT kvs)/\R (Ol K a kvs.length) H1
end
end L2
namespace L2
open PySem PySem.Spec PyProof.Rows
section
variable {prog:Program}{w:World}{A:Around}{E:Value->Shared->Prop}{s:Shared}
end
section
variable {X:Cx}{tg:Expr}
end
end L2
namespace L2
open PySem PySem.Spec PyProof.Rows
section
variable {prog:Program}{w:World}{A:Around}{E:Value->Shared->Prop}{s:Shared}
end
section
variable {X:Cx}
end
end L2
namespace HT
open PySem PyProof.Rows
section
open PySem.SeqAt
open PySem.AutoSeq1 (wpAny_loadPart')
open PySem.MeetsSeq PySem.MeetsSeq2 PySem.MeetsSeq3
end
end HT
namespace L2
open PySem PyProof.Rows
section
variable {X:Cx}
end
end L2
namespace L2
open PySem PySem.Spec PyProof.Rows
section
variable {X:Cx}
end
end L2
namespace L2
open PySem PySem.Spec PyProof.Rows
section
variable {prog:Program}{w:World}{A:Around}{E:Value->Shared->Prop}{s:Shared}
end
section
variable {X:Cx}{pos:Pos}
end
end L2
namespace L2
open PySem PySem.Spec PyProof.Rows
section
variable {X:Cx}
end
end L2
namespace MR
open PySem L2
inductive PV where
 | non | bl (b:Bool) | int (i:Int) | str (x:Str)
 | lst (xs:List PV) | frz (xs:List PV) | tup (xs:List PV) | ktp (xs:List PV)
 | dK (kvs:List (Key×PV)) | dT (kvs:List (List Key×PV))
 | obj (c:Nat) (fs:List (Str×PV))
structure MC where
 K:PySem.W.Frag
 cl:Nat->Addr
mutual
inductive Rep (C:MC) (A:Addr->Prop) (H:Hp):V->PV->Prop
 | non:Rep C A H .non .non
 | bl (b:Bool):Rep C A H (.bl b) (.bl b)
 | int (i:Int):Rep C A H (.int i) (.int i)
 | str (x:Str):Rep C A H (.str x) (.str x)
 | lst {a:Addr}{vs:List V}{xs:List PV}:H a=some (.lst vs)->A a->Reps C A H vs xs->Rep C A H (.ref a) (.lst xs)
 | lstF {a:Addr}{o:Obj}{vs:List V}{xs:List PV}:H a=some (.frz o (.lst vs))->Reps C A H vs xs->Rep C A H (.ref a) (.frz xs)
 | lstK {a:Addr}{vs:List V}{xs:List PV}:SqL C.K (λ_=>none) a vs->Reps C A H vs xs->Rep C A H (.ref a) (.frz xs)
 | tup {a:Addr}{vs:List V}{xs:List PV}:H a=some (.tup vs)->Reps C A H vs xs->Rep C A H (.ref a) (.tup xs)
 | tupC {a:Addr}{vs:List V}{xs:List PV}:KTup C.K a vs->Reps C A H vs xs->Rep C A H (.ref a) (.tup xs)
 | tupK {a:Addr}{vs:List V}{xs:List PV}:SqT C.K (λ_=>none) a vs->Reps C A H vs xs->Rep C A H (.ref a) (.ktp xs)
 | dK {a:Addr}{kv:List (Key×V)}{kvs:List (Key×PV)}:H a=some (.dK kv)->A a->RepK C A H kv kvs->Rep C A H (.ref a) (.dK kvs)
 | dT {a:Addr}{kv:List (List Key×V)}{kvs:List (List Key×PV)}:H a=some (.dT kv)->A a->RepT C A H kv kvs->Rep C A H (.ref a) (.dT kvs)
 | obj {a dx:Addr}{c:Nat}{f:List (Str×V)}{fs:List (Str×PV)}:H a=some (.ins (C.cl c) dx f)->A a->RepF C A H f fs->Rep C A H (.ref a) (.obj c fs)
inductive Reps (C:MC) (A:Addr->Prop) (H:Hp):List V->List PV->Prop
 | nil:Reps C A H [] []
 | cons {v:V}{p:PV}{vs:List V}{ps:List PV}:Rep C A H v p->Reps C A H vs ps->Reps C A H (v::vs) (p::ps)
inductive RepK (C:MC) (A:Addr->Prop) (H:Hp):List (Key×V)->List (Key×PV)->Prop
 | nil:RepK C A H [] []
 | cons {k:Key}{v:V}{p:PV}{vs:List (Key×V)}{ps:List (Key×PV)}:Rep C A H v p->RepK C A H vs ps->RepK C A H ((k,v)::vs) ((k,p)::ps)
inductive RepT (C:MC) (A:Addr->Prop) (H:Hp):List (List Key×V)->List (List Key×PV)->Prop
 | nil:RepT C A H [] []
 | cons {k:List Key}{v:V}{p:PV}{vs:List (List Key×V)}{ps:List (List Key×PV)}:Rep C A H v p->RepT C A H vs ps->RepT C A H ((k,v)::vs) ((k,p)::ps)
inductive RepF (C:MC) (A:Addr->Prop) (H:Hp):List (Str×V)->List (Str×PV)->Prop
 | nil:RepF C A H [] []
 | cons {k:Str}{v:V}{p:PV}{vs:List (Str×V)}{ps:List (Str×PV)}:Rep C A H v p->RepF C A H vs ps->RepF C A H ((k,v)::vs) ((k,p)::ps)
end
def Ar:HO->Bool
 | .lst _=>true
 | .dK _=>true
 | .dT _=>true
 | .ins _ _ _=>true
 | _=>false
def Ex (A:Addr->Prop) (H:Hp) (A':Addr->Prop) (H':Hp):Prop:=∀ a o,H a=some o->(A a->H' a=some o/\A' a)/\(Ar o=false->H' a=some o)
theorem Ex.refl (A:Addr->Prop) (H:Hp):Ex A H A H:=λa o h=>⟨λq=>⟨h,q⟩,λ_=>h⟩
theorem Ex.trans {A B C:Addr->Prop}{H I J:Hp}(e:Ex A H B I) (f:Ex B I C J):Ex A H C J:=λa o h=>⟨λq=>by
 obtain⟨h1,q1⟩:=(e a o h).1 q
 exact(f a o h1).1 q1,λm=>(f a o ((e a o h).2 m)).2 m⟩
theorem Ex.of_same {A:Addr->Prop}{H H':Hp}(s:Same H H'):Ex A H A H':=λa o h=>⟨λq=>⟨s a o h,q⟩,λ_=>s a o h⟩
mutual
theorem Rep.ex {C:MC}{A A':Addr->Prop}{H H':Hp}(e:Ex A H A' H'):∀ {v:V}{p:PV},Rep C A H v p->Rep C A' H' v p
 | _,_,.non=>.non
 | _,_,.bl b=>.bl b
 | _,_,.int i=>.int i
 | _,_,.str x=>.str x
 | _,_,.lst h q r=>.lst ((e _ _ h).1 q).1 ((e _ _ h).1 q).2 (Reps.ex e r)
 | _,_,.lstF h r=>.lstF ((e _ _ h).2 rfl) (Reps.ex e r)
 | _,_,.lstK h r=>.lstK h (Reps.ex e r)
 | _,_,.tup h r=>.tup ((e _ _ h).2 rfl) (Reps.ex e r)
 | _,_,.tupC h r=>.tupC h (Reps.ex e r)
 | _,_,.tupK h r=>.tupK h (Reps.ex e r)
 | _,_,.dK h q r=>.dK ((e _ _ h).1 q).1 ((e _ _ h).1 q).2 (RepK.ex e r)
 | _,_,.dT h q r=>.dT ((e _ _ h).1 q).1 ((e _ _ h).1 q).2 (RepT.ex e r)
 | _,_,.obj h q r=>.obj ((e _ _ h).1 q).1 ((e _ _ h).1 q).2 (RepF.ex e r)
theorem Reps.ex {C:MC}{A A':Addr->Prop}{H H':Hp}(e:Ex A H A' H'):∀ {v:List V}{p:List PV},Reps C A H v p->Reps C A' H' v p
 | _,_,.nil=>.nil
 | _,_,.cons h t=>.cons (Rep.ex e h) (Reps.ex e t)
theorem RepK.ex {C:MC}{A A':Addr->Prop}{H H':Hp}(e:Ex A H A' H'):∀ {v:List (Key×V)}{p:List (Key×PV)},RepK C A H v p->RepK C A' H' v p
 | _,_,.nil=>.nil
 | _,_,.cons h t=>.cons (Rep.ex e h) (RepK.ex e t)
theorem RepT.ex {C:MC}{A A':Addr->Prop}{H H':Hp}(e:Ex A H A' H'):∀ {v:List (List Key×V)}{p:List (List Key×PV)},RepT C A H v p->RepT C A' H' v p
 | _,_,.nil=>.nil
 | _,_,.cons h t=>.cons (Rep.ex e h) (RepT.ex e t)
theorem RepF.ex {C:MC}{A A':Addr->Prop}{H H':Hp}(e:Ex A H A' H'):∀ {v:List (Str×V)}{p:List (Str×PV)},RepF C A H v p->RepF C A' H' v p
 | _,_,.nil=>.nil
 | _,_,.cons h t=>.cons (Rep.ex e h) (RepF.ex e t)
end
theorem cZ {A A':Addr->Prop}{H:Hp}(h:∀ a o,H a=some o->A a->A' a):Ex A H A' H:=λa o e=>⟨λq=>⟨e,h a o e q⟩,λ_=>e⟩
theorem Reps.length {C:MC}{A:Addr->Prop}{H:Hp}:∀ {vs:List V}{ps:List PV},Reps C A H vs ps->vs.length=ps.length
 | _,_,.nil=>rfl
 | _,_,.cons _ t=>by simp[Reps.length t]
theorem Reps.append {C:MC}{A:Addr->Prop}{H:Hp}:∀ {vs us:List V}{ps qs:List PV},Reps C A H vs ps->Reps C A H us qs->Reps C A H (vs++us) (ps++qs)
 | _,_,_,_,.nil,h=>h
 | _,_,_,_,.cons h t,r=>.cons h (Reps.append t r)
theorem Reps.get {C:MC}{A:Addr->Prop}{H:Hp}:∀ {vs:List V}{ps:List PV}{i:Nat}{p:PV},Reps C A H vs ps->ps[i]?=some p->∃ v,vs[i]?=some v/\Rep C A H v p
 | _,_,_,_,.nil,e=>by simp at e
 | _,_,0,_,.cons h t,e=>by simp at e;subst e;exact⟨_,rfl,h⟩
 | _,_,i+1,p,.cons h t,e=>by
  obtain⟨v,e1,r⟩:=Reps.get (i:=i) (p:=p) t (by simpa using e)
  exact⟨v,by simpa using e1,r⟩
theorem Reps.drop {C:MC}{A:Addr->Prop}{H:Hp}:∀ {vs:List V}{ps:List PV}(n:Nat),Reps C A H vs ps->Reps C A H (vs.drop n) (ps.drop n)
 | _,_,0,h=>by simpa using h
 | _,_,n+1,.nil=>by simpa using Reps.nil
 | _,_,n+1,.cons _ t=>by simpa using Reps.drop n t
theorem Reps.take {C:MC}{A:Addr->Prop}{H:Hp}:∀ {vs:List V}{ps:List PV}(n:Nat),Reps C A H vs ps->Reps C A H (vs.take n) (ps.take n)
 | _,_,0,h=>by simpa using Reps.nil
 | _,_,n+1,.nil=>by simpa using Reps.nil
 | _,_,n+1,.cons h t=>by simpa using Reps.cons h (Reps.take n t)
theorem Reps.set {C:MC}{A:Addr->Prop}{H:Hp}{v:V}{p:PV}(r:Rep C A H v p):∀ {vs:List V}{ps:List PV}(n:Nat),Reps C A H vs ps->Reps C A H (vs.set n v) (ps.set n p)
 | _,_,_,.nil=>.nil
 | _,_,0,.cons _ t=>.cons r t
 | _,_,n+1,.cons h t=>.cons h (Reps.set r n t)
theorem Reps.reverse {C:MC}{A:Addr->Prop}{H:Hp}:∀ {vs:List V}{ps:List PV},Reps C A H vs ps->Reps C A H vs.reverse ps.reverse
 | _,_,.nil=>.nil
 | _,_,.cons h t=>by
  rw[List.reverse_cons,List.reverse_cons]
  exact(Reps.reverse t).append (.cons h .nil)
theorem uQ {C:MC}{A:Addr->Prop}{H:Hp}{α:Type}(f:α->V) (g:α->PV) (h:∀ x,Rep C A H (f x) (g x)):∀ l:List α,Reps C A H (l.map f) (l.map g)
 | []=>.nil
 | x::l=>.cons (h x) (uQ f g h l)
theorem RepK.val {C:MC}{A:Addr->Prop}{H:Hp}{k:Key}:∀ {kv:List (Key×V)}{kvs:List (Key×PV)},RepK C A H kv kvs->(∃ v p,jF kv k=some v/\(kvs.find? λx=>decide (x.1=k)).map (·.2)=some p/\Rep C A H v p)\/(jF kv k=none/\(kvs.find? λx=>decide (x.1=k)).map (·.2)=none)
 | _,_,.nil=>.inr ⟨rfl,rfl⟩
 | _,_,.cons (k:=k') (v:=v) (p:=p) h t=>by
  by_cases e:k'=k
  ·subst e
   exact .inl ⟨v,p,mZ rfl,by simp,h⟩
  ·rw[m8 e,List.find?_cons_of_neg (by simpa using e)]
   exact RepK.val t
theorem RepT.val {C:MC}{A:Addr->Prop}{H:Hp}{k:List Key}:∀ {kv:List (List Key×V)}{kvs:List (List Key×PV)},RepT C A H kv kvs->(∃ v p,jF kv k=some v/\(kvs.find? λx=>decide (x.1=k)).map (·.2)=some p/\Rep C A H v p)\/(jF kv k=none/\(kvs.find? λx=>decide (x.1=k)).map (·.2)=none)
 | _,_,.nil=>.inr ⟨rfl,rfl⟩
 | _,_,.cons (k:=k') (v:=v) (p:=p) h t=>by
  by_cases e:k'=k
  ·subst e
   exact .inl ⟨v,p,mZ rfl,by simp,h⟩
  ·rw[m8 e,List.find?_cons_of_neg (by simpa using e)]
   exact RepT.val t
theorem RepF.look {C:MC}{A:Addr->Prop}{H:Hp}{k:Str}{p:PV}:∀ {f:List (Str×V)}{fs:List (Str×PV)},RepF C A H f fs->fs.lookup k=some p->∃ v,f.lookup k=some v/\Rep C A H v p
 | _,_,.nil,e=>by cases e
 | _,_,.cons (k:=k') (v:=v) (p:=p') h t,e=>by
  rw[List.lookup_cons] at e ⊢
  cases q:k == k' with
  | true=>rw[q] at e;cases e;exact⟨v,rfl,h⟩
  | false=>rw[q] at e;exact RepF.look t e
theorem RepF.look0 {C:MC}{A:Addr->Prop}{H:Hp}{k:Str}:∀ {f:List (Str×V)}{fs:List (Str×PV)},RepF C A H f fs->fs.lookup k=none->f.lookup k=none
 | _,_,.nil,e=>rfl
 | _,_,.cons (k:=k') (v:=v) (p:=p') h t,e=>by
  rw[List.lookup_cons] at e ⊢
  cases q:k == k' with
  | true=>rw[q] at e;cases e
  | false=>rw[q] at e;exact RepF.look0 t e
def Top (C:MC) (A:Addr->Prop) (H:Hp) (a:Addr):PV->Prop
 | .lst xs=>∃ vs,H a=some (.lst vs)/\Reps C A H vs xs
 | .dK kvs=>∃ kv,H a=some (.dK kv)/\RepK C A H kv kvs
 | .dT kvs=>∃ kv,H a=some (.dT kv)/\RepT C A H kv kvs
 | .obj c fs=>∃ dx f,H a=some (.ins (C.cl c) dx f)/\RepF C A H f fs
 | _=>False
theorem Top.ex {C:MC}{A A':Addr->Prop}{H H':Hp}{a:Addr}{p:PV}(e:Ex A H A' H') (h:∀ o,H a=some o->H' a=some o) (t:Top C A H a p):Top C A' H' a p:=by
 cases p with
 | lst xs=>obtain⟨vs,q,r⟩:=t;exact⟨vs,h _ q,r.ex e⟩
 | dK kvs=>obtain⟨vs,q,r⟩:=t;exact⟨vs,h _ q,r.ex e⟩
 | dT kvs=>obtain⟨vs,q,r⟩:=t;exact⟨vs,h _ q,r.ex e⟩
 | obj c fs=>obtain⟨dx,f,q,r⟩:=t;exact⟨dx,f,h _ q,r.ex e⟩
 | _=>exact t
theorem Top.live {C:MC}{A:Addr->Prop}{H:Hp}{a:Addr}{p:PV}(t:Top C A H a p):∃ o,H a=some o/\Ar o=true:=by
 cases p with
 | lst xs=>obtain⟨vs,q,r⟩:=t;exact⟨_,q,rfl⟩
 | dK kvs=>obtain⟨vs,q,r⟩:=t;exact⟨_,q,rfl⟩
 | dT kvs=>obtain⟨vs,q,r⟩:=t;exact⟨_,q,rfl⟩
 | obj c fs=>obtain⟨dx,f,q,r⟩:=t;exact⟨_,q,rfl⟩
 | _=>exact t.elim
theorem Top.rep {C:MC}{A:Addr->Prop}{H:Hp}{a:Addr}{p:PV}(t:Top C A H a p) (h:A a):Rep C A H (.ref a) p:=by
 cases p with
 | lst xs=>obtain⟨vs,q,r⟩:=t;exact .lst q h r
 | dK kvs=>obtain⟨vs,q,r⟩:=t;exact .dK q h r
 | dT kvs=>obtain⟨vs,q,r⟩:=t;exact .dT q h r
 | obj c fs=>obtain⟨dx,f,q,r⟩:=t;exact .obj q h r
 | _=>exact t.elim
def RepB (C:MC) (A:Addr->Prop) (H:Hp) (v:V) (p:PV):Prop:=Rep C A H v p\/∃ a,v=.ref a/\Top C A H a p
theorem RepB.ex {C:MC}{A A':Addr->Prop}{H H':Hp}{v:V}{p:PV}(e:Ex A H A' H') (s:Same H H') (h:RepB C A H v p):RepB C A' H' v p:=by
 rcases h with h | ⟨a,q,t⟩
 ·exact .inl (h.ex e)
 ·exact .inr ⟨a,q,t.ex e λo z=>s _ _ z⟩
section
variable {C:MC}{A:Addr->Prop}{H:Hp}{v:V}
theorem sqK {K:PySem.W.Frag}{a:Addr}{vs:List V}(h:SqL K (λ_=>none) a vs):SqL K H a vs:=by
 rcases h with (h | ⟨o,h⟩) | h
 ·cases h
 ·cases h
 ·exact .inr h
theorem uR {K:PySem.W.Frag}{a:Addr}{vs:List V}(h:SqT K (λ_=>none) a vs):SqT K H a vs:=by
 rcases h with (h | ⟨o,h⟩) | h
 ·cases h
 ·cases h
 ·exact .inr h
theorem RepB.lst {xs:List PV}(h:RepB C A H v (.lst xs)):∃ a vs,v=.ref a/\H a=some (.lst vs)/\Reps C A H vs xs:=by
 rcases h with h | ⟨a,rfl,vs,q,r⟩
 ·cases h with
  | lst q _ r=>exact⟨_,_,rfl,q,r⟩
 ·exact⟨a,vs,rfl,q,r⟩
theorem RepB.frz {xs:List PV}(h:RepB C A H v (.frz xs)):∃ a vs,v=.ref a/\SqL C.K H a vs/\Reps C A H vs xs:=by
 rcases h with h | ⟨a,rfl,t⟩
 ·cases h with
  | lstF q r=>exact⟨_,_,rfl,.inl (.inr ⟨_,q⟩),r⟩
  | lstK q r=>exact⟨_,_,rfl,sqK q,r⟩
 ·exact t.elim
def TupR (K:PySem.W.Frag) (H:Hp) (a:Addr) (vs:List V):Prop:=H a=some (.tup vs)\/KTup K a vs
theorem TupR.sq {K:PySem.W.Frag}{H:Hp}{a:Addr}{vs:List V}(h:TupR K H a vs):SqT K H a vs:=h.elim (λq=>SqT.of q) Or.inr
theorem TupR.ex {K:PySem.W.Frag}{A A':Addr->Prop}{H H':Hp}{a:Addr}{vs:List V}(h:TupR K H a vs) (e:Ex A H A' H'):TupR K H' a vs:=h.imp (λq=>(e _ _ q).2 rfl) id
theorem TupR.key {K:PySem.W.Frag}{H:Hp}{a:Addr}{vs:List V}{ks:List Key}(h:TupR K H a vs) (k:xn ks vs):CKey K H a ks:=h.imp (λq=>⟨vs,q,k⟩) λq=>⟨vs,q,k⟩
theorem RepB.tup {xs:List PV}(h:RepB C A H v (.tup xs)):∃ a vs,v=.ref a/\TupR C.K H a vs/\Reps C A H vs xs:=by
 rcases h with h | ⟨a,rfl,t⟩
 ·cases h with
  | tup q r=>exact⟨_,_,rfl,.inl q,r⟩
  | tupC q r=>exact⟨_,_,rfl,.inr q,r⟩
 ·exact t.elim
theorem RepB.ktp {xs:List PV}(h:RepB C A H v (.ktp xs)):∃ a vs,v=.ref a/\SqT C.K H a vs/\Reps C A H vs xs:=by
 rcases h with h | ⟨a,rfl,t⟩
 ·cases h with
  | tupK q r=>exact⟨_,_,rfl,uR q,r⟩
 ·exact t.elim
theorem RepB.dK {kvs:List (Key×PV)}(h:RepB C A H v (.dK kvs)):∃ a kv,v=.ref a/\H a=some (.dK kv)/\RepK C A H kv kvs:=by
 rcases h with h | ⟨a,rfl,vs,q,r⟩
 ·cases h with
  | dK q _ r=>exact⟨_,_,rfl,q,r⟩
 ·exact⟨a,vs,rfl,q,r⟩
theorem RepB.dT {kvs:List (List Key×PV)}(h:RepB C A H v (.dT kvs)):∃ a kv,v=.ref a/\H a=some (.dT kv)/\RepT C A H kv kvs:=by
 rcases h with h | ⟨a,rfl,vs,q,r⟩
 ·cases h with
  | dT q _ r=>exact⟨_,_,rfl,q,r⟩
 ·exact⟨a,vs,rfl,q,r⟩
theorem RepB.obj {c:Nat}{fs:List (Str×PV)}(h:RepB C A H v (.obj c fs)):∃ a dx f,v=.ref a/\H a=some (.ins (C.cl c) dx f)/\RepF C A H f fs:=by
 rcases h with h | ⟨a,rfl,dx,vs,q,r⟩
 ·cases h with
  | obj q _ r=>exact⟨_,_,_,rfl,q,r⟩
 ·exact⟨a,dx,vs,rfl,q,r⟩
theorem RepB.int {i:Int}(h:RepB C A H v (.int i)):v=.int i:=by
 rcases h with h | ⟨a,rfl,t⟩
 ·cases h;rfl
 ·exact t.elim
theorem RepB.str {x:Str}(h:RepB C A H v (.str x)):v=.str x:=by
 rcases h with h | ⟨a,rfl,t⟩
 ·cases h;rfl
 ·exact t.elim
theorem RepB.bl {x:Bool}(h:RepB C A H v (.bl x)):v=.bl x:=by
 rcases h with h | ⟨a,rfl,t⟩
 ·cases h;rfl
 ·exact t.elim
theorem RepB.non (h:RepB C A H v .non):v=.non:=by
 rcases h with h | ⟨a,rfl,t⟩
 ·cases h;rfl
 ·exact t.elim
end
structure BX where
 C:MC
 A:Addr->Prop
 H0:Hp
 fx:Nat->Option V
def fx0 (x:V):Nat->Option V
 | 0=>some x
 | _+1=>none
abbrev Env:=List (Option PV)
def Bs (b:BX) (Ow:Addr->Prop) (a:Addr):Prop:=¬ Ow a/\(b.A a\/b.H0 a=none)
structure ER (b:BX) (Ow:Addr->Prop) (G:List Nat) (σ:St) (env:Env) (H:Hp):Prop where
 len:σ.length=env.length
 same:Same b.H0 H
 live:∀ a,Ow a->∃ o,H a=some o
 new:∀ a,Ow a->b.H0 a=none
 val:∀ i p,env[i]?=some (some p)->i∉G->∃ v,σ[i]?=some (some v)/\Rep b.C (Bs b Ow) H v p
 own:∀ i p,env[i]?=some (some p)->i∈G->∃ a,σ[i]?=some (some (.ref a))/\Ow a/\Top b.C (Bs b Ow) H a p
 sep:∀ i j a p q,env[i]?=some (some p)->i∈G->σ[i]?=some (some (.ref a))->env[j]?=some (some q)->j∈G->σ[j]?=some (some (.ref a))->i=j
 fix:∀ i v,b.fx i=some v->σ[i]?=some (some v)
inductive Md where | val | own | bor
def Res (b:BX) (Ow:Addr->Prop) (H H':Hp) (m:Md) (v:V) (p:PV):Prop:=match m with
 | .val=>Rep b.C (Bs b Ow) H' v p
 | .own=>∃ a,v=.ref a/\H a=none/\Top b.C (λc=>Bs b Ow c/\c≠a) H' a p
 | .bor=>RepB b.C (Bs b Ow) H' v p
def tM (b:BX) (G:List Nat) (m:Md) (f:Env->Option PV):TE:=fun σ H Q=>∃ Ow env p,ER b Ow G σ env H/\f env=some p/\∀ v H',Same H H'->Res b Ow H H' m v p->Q v H'
def tMT (b:BX) (G:List Nat) (f:Env->Option Bool):TT:=fun σ H Q=>∃ Ow env k,ER b Ow G σ env H/\f env=some k/\∀ H',Same H H'->Q k H'
section
variable {b:BX}{Ow:Addr->Prop}{G:List Nat}{σ:St}{env:Env}{H H':Hp}
theorem ER.up (E:ER b Ow G σ env H) (s:Same H H'):ER b Ow G σ env H':=
 ⟨E.len,E.same.trans s,λa h=>let ⟨o,e⟩:=E.live a h;⟨o,s _ _ e⟩,E.new,λi p h n=>let ⟨v,e,r⟩:=E.val i p h n;⟨v,e,r.ex (.of_same s)⟩,
  λi p h n=>let ⟨a,e,w,t⟩:=E.own i p h n;⟨a,e,w,t.ex (.of_same s) λo z=>s _ _ z⟩,E.sep,E.fix⟩
theorem ER.fresh (E:ER b Ow G σ env H){a:Addr}(h:H a=none):Bs b Ow a:=
 ⟨λw=>(by obtain⟨o,e⟩:=E.live a w;rw[h] at e;cases e),.inr (E.same.free h)⟩
theorem Res.val {m:Md}{v:V}{p:PV}(E:ER b Ow G σ env H) (hm:m≠.bor) (r:Res b Ow H H' m v p):Res b Ow H H' .val v p:=by
 cases m with
 | val=>exact r
 | bor=>exact absurd rfl hm
 | own=>
  obtain⟨a,rfl,h,t⟩:=r
  have hw:Ex (λc=>Bs b Ow c/\c≠a) H' (Bs b Ow) H':=cZ λ_ _ _ z=>z.1
  exact(t.ex hw λo z=>z).rep (E.fresh h)
theorem Res.bor {m:Md}{v:V}{p:PV}(r:Res b Ow H H' m v p):Res b Ow H H' .bor v p:=by
 cases m with
 | val=>exact .inl r
 | bor=>exact r
 | own=>
  obtain⟨a,rfl,h,t⟩:=r
  have hw:Ex (λc=>Bs b Ow c/\c≠a) H' (Bs b Ow) H':=cZ λ_ _ _ z=>z.1
  exact .inr ⟨a,rfl,t.ex hw λo z=>z⟩
theorem Res.up {m:Md}{v:V}{p:PV}{H'':Hp}(r:Res b Ow H H' m v p) (s:Same H' H''):Res b Ow H H'' m v p:=by
 cases m with
 | val=>exact Rep.ex (.of_same s) r
 | bor=>exact RepB.ex (.of_same s) s r
 | own=>
  obtain⟨a,e,h,t⟩:=r
  exact⟨a,e,h,t.ex (.of_same s) λo z=>s _ _ z⟩
theorem Res.down {m:Md}{v:V}{p:PV}{H'':Hp}(s:Same H H') (r:Res b Ow H' H'' m v p):Res b Ow H H'' m v p:=by
 cases m with
 | val=>exact r
 | bor=>exact r
 | own=>
  obtain⟨a,e,h,t⟩:=r
  exact⟨a,e,s.free h,t⟩
end
theorem PE.imp {X:Cx}{e:Expr}{t u:TE}(h:PE X e t) (i:∀ σ H Q,u σ H Q->t σ H Q):PE X e u:=λpins s σ H Q I q=>h pins s σ H Q I (i σ H Q q)
theorem PT.imp {X:Cx}{e:Expr}{t u:TT}(h:PT X e t) (i:∀ σ H Q,u σ H Q->t σ H Q):PT X e u:=λpins s σ H Q I q=>h pins s σ H Q I (i σ H Q q)
theorem PS.imp {X:Cx}{e:Stmt}{t u:TS}(h:PS X e t) (i:∀ D σ H,u D σ H->t D σ H):PS X e u:=λpins s σ H D I q=>h pins s σ H D I (i D σ H q)
theorem PE.or {X:Cx}{e:Expr}{t u:TE}(h:PE X e t) (h':PE X e u):PE X e (fun σ H Q=>t σ H Q\/u σ H Q):=λpins s σ H Q I q=>q.elim (h pins s σ H Q I) (h' pins s σ H Q I)
theorem OpR.or {X:Cx}{op:Value->Value->Sem Value}{r r':R2}(h:OpR X op r) (h':OpR X op r'):OpR X op (λx y H Q=>r x y H Q\/r' x y H Q):=λpins s σ H x y v u Q I rx ry q=>q.elim (h pins s σ H x y v u Q I rx ry) (h' pins s σ H x y v u Q I rx ry)
abbrev SE (X:Cx) (b:BX) (G:List Nat) (m:Md) (e:Expr) (f:Env->Option PV):Prop:=PE X e (tM b G m f)
abbrev ST (X:Cx) (b:BX) (G:List Nat) (e:Expr) (f:Env->Option Bool):Prop:=PT X e (tMT b G f)
theorem SE.bor {X:Cx}{b:BX}{G:List Nat}{m:Md}{e:Expr}{f:Env->Option PV}(h:SE X b G m e f):SE X b G .bor e f:=
 PE.imp h fun σ H Q ⟨Ow,env,p,E,hf,k⟩=>⟨Ow,env,p,E,hf,λv H' s r=>k v H' s r.bor⟩
theorem SE.val {X:Cx}{b:BX}{G:List Nat}{e:Expr}{f:Env->Option PV}(h:SE X b G .own e f):SE X b G .val e f:=
 PE.imp h fun σ H Q ⟨Ow,env,p,E,hf,k⟩=>⟨Ow,env,p,E,hf,λv H' s r=>k v H' s (r.val E (by intro z;cases z))⟩
end MR
namespace MR
open PySem L2
noncomputable def bC (p:PV) (env:Env):Option PV:=some p
@[simp] theorem wY (p:PV) (env:Env):bC p env=(some p):=id rfl
noncomputable def bV (i:Nat) (env:Env):Option PV:=match env[i]? with | some o=>o | none=>none
@[simp] theorem Qa (i:Nat) (env:Env):bV i env=(match env[i]? with | some o=>o | none=>none):=id rfl
noncomputable def b1 (g:PV->Option PV) (f:Env->Option PV) (env:Env):Option PV:=(f env).bind g
@[simp] theorem Av (g:PV->Option PV) (f:Env->Option PV) (env:Env):b1 g f env=((f env).bind g):=id rfl
noncomputable def b2 (g:PV->PV->Option PV) (f h:Env->Option PV) (env:Env):Option PV:=(f env).bind λx=>(h env).bind λy=>g x y
@[simp] theorem pH (g:PV->PV->Option PV) (f h:Env->Option PV) (env:Env):b2 g f h env=((f env).bind λx=>(h env).bind λy=>g x y):=id rfl
noncomputable def b3 (g:PV->PV->PV->Option PV) (f h k:Env->Option PV) (env:Env):Option PV:=(f env).bind λx=>(h env).bind λy=>(k env).bind λz=>g x y z
noncomputable def eX (f g:Env->Option PV) (env:Env):Option PV:=(f env).bind λx=>match x with | .bl true=>g env | .bl false=>some (.bl false) | _=>none
@[simp] theorem uT (f g:Env->Option PV) (env:Env):eX f g env=((f env).bind λx=>match x with | .bl true=>g env | .bl false=>some (.bl false) | _=>none):=id rfl
noncomputable def bOr (f g:Env->Option PV) (env:Env):Option PV:=(f env).bind λx=>match x with | .bl true=>some (.bl true) | .bl false=>g env | _=>none
@[simp] theorem Pu (f g:Env->Option PV) (env:Env):bOr f g env=((f env).bind λx=>match x with | .bl true=>some (.bl true) | .bl false=>g env | _=>none):=id rfl
noncomputable def bIf (c:Env->Option Bool) (f g:Env->Option PV) (env:Env):Option PV:=(c env).bind λx=>if x=true then f env else g env
@[simp] theorem Px (c:Env->Option Bool) (f g:Env->Option PV) (env:Env):bIf c f g env=((c env).bind λx=>if x=true then f env else g env):=id rfl
noncomputable def tV (f:Env->Option PV) (env:Env):Option Bool:=(f env).bind λx=>match x with | .bl c=>some c | _=>none
@[simp] theorem M3 (f:Env->Option PV) (env:Env):tV f env=((f env).bind λx=>match x with | .bl c=>some c | _=>none):=id rfl
noncomputable def tA (f g:Env->Option Bool) (env:Env):Option Bool:=(f env).bind λx=>if x=true then g env else some false
@[simp] theorem Qc (f g:Env->Option Bool) (env:Env):tA f g env=((f env).bind λx=>if x=true then g env else some false):=id rfl
noncomputable def tO (f g:Env->Option Bool) (env:Env):Option Bool:=(f env).bind λx=>if x=true then some true else g env
@[simp] theorem M4 (f g:Env->Option Bool) (env:Env):tO f g env=((f env).bind λx=>if x=true then some true else g env):=id rfl
noncomputable def tN (f:Env->Option Bool) (env:Env):Option Bool:=(f env).bind λx=>some (!x)
@[simp] theorem Qd (f:Env->Option Bool) (env:Env):tN f env=((f env).bind λx=>some (!x)):=id rfl
noncomputable def aF (env:Env):Option (List PV):=some []
@[simp] theorem O5 (env:Env):aF env=(some []):=id rfl
noncomputable def ak (f:Env->Option PV) (g:Env->Option (List PV)) (env:Env):Option (List PV):=(f env).bind λx=>(g env).bind λxs=>some (x::xs)
@[simp] theorem Om (f:Env->Option PV) (g:Env->Option (List PV)) (env:Env):ak f g env=((f env).bind λx=>(g env).bind λxs=>some (x::xs)):=id rfl
noncomputable def cF (g:Env->Option (List PV)) (env:Env):Option PV:=(g env).bind λxs=>if xs.length<=1000000 then some (.lst xs) else none
@[simp] theorem O6 (g:Env->Option (List PV)) (env:Env):cF g env=((g env).bind λxs=>if xs.length<=1000000 then some (.lst xs) else none):=id rfl
noncomputable def my (g:Env->Option (List PV)) (env:Env):Option PV:=(g env).bind λxs=>if xs.length<=1000000 then some (.tup xs) else none
@[simp] theorem O7 (g:Env->Option (List PV)) (env:Env):my g env=((g env).bind λxs=>if xs.length<=1000000 then some (.tup xs) else none):=id rfl
noncomputable def aK (m:List PV->Option PV) (g:Env->Option (List PV)) (env:Env):Option PV:=(g env).bind m
@[simp] theorem xW (m:List PV->Option PV) (g:Env->Option (List PV)) (env:Env):aK m g env=((g env).bind m):=id rfl
section
variable {b:BX}{G:List Nat}{m:Md}{σ:St}{H:Hp}{Q:VK}
def Op2 (b:BX) (m:Md) (r:R2) (g:PV->PV->Option PV):Prop:=∀ (Ow:Addr->Prop) (H:Hp) (v1 v2:V) (p1 p2 p:PV) (Q:VK),(∀ a,H a=none->Bs b Ow a)->RepB b.C (Bs b Ow) H v1 p1->RepB b.C (Bs b Ow) H v2 p2->g p1 p2=some p->
 (∀ v H',Same H H'->Res b Ow H H' m v p->Q v H')->r v1 v2 H Q
theorem Aw {r:R2}{g:PV->PV->Option PV}{f1 f2:Env->Option PV}(hr:Op2 b m r g) (h:tM b G m (b2 g f1 f2) σ H Q):tOp r (tM b G .bor f1) (tM b G .bor f2) σ H Q:=by
 obtain⟨Ow,env,p,E,hf,k⟩:=h
 unfold b2 at hf
 cases h1:f1 env with
 | none=>rw[h1] at hf;cases hf
 | some p1=>
  rw[h1] at hf
  cases h2:f2 env with
  | none=>rw[h2] at hf;cases hf
  | some p2=>
   rw[h2] at hf
   exact⟨Ow,env,p1,E,h1,λv1 H1 s1 r1=>⟨Ow,env,p2,E.up s1,h2,λv2 H2 s2 r2=>hr Ow H2 v1 v2 p1 p2 p Q (λa=>(E.up (s1.trans s2)).fresh) (r1.up s2) r2 hf λv H' s r=>k v H' (s1.trans (s2.trans s)) (r.down (s1.trans s2))⟩⟩
def Op1 (b:BX) (m:Md) (r:V->Hp->VK->Prop) (g:PV->Option PV):Prop:=∀ (Ow:Addr->Prop) (H:Hp) (v1:V) (p1 p:PV) (Q:VK),(∀ a,H a=none->Bs b Ow a)->RepB b.C (Bs b Ow) H v1 p1->g p1=some p->
 (∀ v H',Same H H'->Res b Ow H H' m v p->Q v H')->r v1 H Q
theorem Ax {r:V->Hp->VK->Prop}{g:PV->Option PV}{f1:Env->Option PV}(hr:Op1 b m r g) (h:tM b G m (b1 g f1) σ H Q):tM b G .bor f1 σ H λx H1=>r x H1 Q:=by
 obtain⟨Ow,env,p,E,hf,k⟩:=h
 unfold b1 at hf
 cases h1:f1 env with
 | none=>rw[h1] at hf;cases hf
 | some p1=>
  rw[h1] at hf
  exact⟨Ow,env,p1,E,h1,λv1 H1 s1 r1=>hr Ow H1 v1 p1 p Q (λa=>(E.up s1).fresh) r1 hf λv H' s r=>k v H' (s1.trans s) (r.down s1)⟩
end
@[simp] noncomputable def cg:PV->PV->Option PV
 | .int i,.int j=>some (.int (i+j))
 | .str x,.str y=>if x.length+y.length<=1000000 then some (.str (x++y)) else none
 | .lst xs,.lst ys=>if xs.length+ys.length<=1000000 then some (.lst (xs++ys)) else none
 | _,_=>none
@[simp] noncomputable def xX:PV->PV->Option PV
 | .lst xs,.lst ys=>if xs.length+ys.length<=1000000 then some (.lst (xs++ys)) else none
 | _,_=>none
noncomputable def smI (i:Int):Bool:=@decide (-18446744073709551616 < i/\i < 18446744073709551616) (Classical.propDecidable _)
@[simp] noncomputable def uU:PV->PV->Option PV
 | .int i,.int j=>if (smI i||smI j)=true then some (.int (i*j)) else none
 | _,_=>none
@[simp] noncomputable def pI:PV->PV->Option PV
 | .int i,.int j=>if 0 < j/\j < 1073741824 then some (.int (i / j)) else none
 | _,_=>none
@[simp] noncomputable def lF:PV->PV->Option PV
 | .int i,.int j=>if 0 < j then some (.int (i % j)) else none
 | _,_=>none
@[simp] noncomputable def jU (g:Int->Int->Bool):PV->PV->Option PV
 | .int i,.int j=>some (.bl (g i j))
 | _,_=>none
theorem jw {n:Nat}(h:n<=1000000):n<=sizeLine:=Nat.le_of_lt (oU h)
section
variable {b:BX}
theorem C_ {g:Int->Int->Bool}:Op2 b .val (rI0 λi j=>.bl (g i j)) (jU g):=by
 intro Ow H v1 v2 p1 p2 p Q hn r1 r2 e k
 unfold jU at e
 split at e
 ·cases e
  rw[r1.int,r2.int]
  exact⟨_,_,rfl,rfl,k _ H (Same.refl _) (.bl _)⟩
 ·cases e
theorem KN:Op2 b .val (rI CMul λi j=>.int (i*j)) uU:=by
 intro Ow H v1 v2 p1 p2 p Q hn r1 r2 e k
 unfold uU at e
 split at e
 ·split at e
  ·rename_i h
   cases e
   rw[r1.int,r2.int]
   refine⟨_,_,rfl,rfl,?_,k _ H (Same.refl _) (.int _)⟩
   simp only[smI,Bool.or_eq_true,decide_eq_true_eq] at h
   exact h
  ·cases e
 ·cases e
theorem qC {i:Int}(h:-18446744073709551616 < i) (h':i < 18446744073709551616):smI i=true:=@decide_eq_true _ (Classical.propDecidable _) ⟨h,h'⟩
theorem KQ:Op2 b .val (rI JV λi j=>.int (i / j)) pI:=by
 intro Ow H v1 v2 p1 p2 p Q hn r1 r2 e k
 unfold pI at e
 split at e
 ·split at e
  ·rename_i h
   cases e
   rw[r1.int,r2.int]
   exact⟨_,_,rfl,rfl,h,k _ H (Same.refl _) (.int _)⟩
  ·cases e
 ·cases e
theorem KR:Op2 b .val (rI (λ_ j=>0 < j) λi j=>.int (i % j)) lF:=by
 intro Ow H v1 v2 p1 p2 p Q hn r1 r2 e k
 unfold lF at e
 split at e
 ·split at e
  ·rename_i h
   cases e
   rw[r1.int,r2.int]
   exact⟨_,_,rfl,rfl,h,k _ H (Same.refl _) (.int _)⟩
  ·cases e
 ·cases e
end
theorem gh {b:BX}{Ow:Addr->Prop}{H:Hp}{a:Addr}{vs:List V}{xs:List PV}(h:H a=none) (r:Reps b.C (Bs b Ow) H vs xs):Res b Ow H (upd H a (.lst vs)) .own (.ref a) (.lst xs):=by
 refine⟨a,rfl,h,vs,bK,r.ex λc o e=>?_⟩
 have hc:c≠a:=bf e h
 exact⟨λq=>⟨by rw[aP hc];exact e,q,hc⟩,λ_=>by rw[aP hc];exact e⟩
theorem Ii {b:BX}{Ow:Addr->Prop}{H H0:Hp}{a:Addr}{vs:List V}{xs:List PV}(h:H a=none) (r:Reps b.C (Bs b Ow) H vs xs):Res b Ow H0 (upd H a (.tup vs)) .val (.ref a) (.tup xs):=
 Rep.tup bK (r.ex (.of_same (bh h _)))
section
variable {b:BX}
theorem KY:Op2 b .val (λx y H Q=>(rI0 (λi j=>.int (i+j)) x y H Q\/∃ i j,x=.str i/\y=.str j/\i.length+j.length<=sizeLine/\Q (.str (i++j)) H)\/Fl x y H Q) cg:=by
 intro Ow H v1 v2 p1 p2 p Q hn r1 r2 e k
 unfold cg at e
 split at e
 ·cases e
  rw[r1.int,r2.int]
  exact .inl (.inl ⟨_,_,rfl,rfl,k _ H (Same.refl _) (.int _)⟩)
 ·split at e
  ·rename_i h
   cases e
   rw[r1.str,r2.str]
   exact .inl (.inr ⟨_,_,rfl,rfl,jw h,k _ H (Same.refl _) (.str _)⟩)
  ·cases e
 ·split at e
  ·rename_i h
   cases e
   obtain⟨a,vs,rfl,ha,ra⟩:=r1.lst
   obtain⟨c,us,rfl,hc,rc⟩:=r2.lst
   exact .inr ⟨a,c,vs,us,rfl,rfl,ha,hc,jw (by rw[ra.length,rc.length];exact h),λq hq=>k _ _ (bh hq _) (.lst bK (hn q hq) ((ra.append rc).ex (.of_same (bh hq _))))⟩
  ·cases e
 ·cases e
theorem KZ:Op2 b .own Fl xX:=by
 intro Ow H v1 v2 p1 p2 p Q hn r1 r2 e k
 unfold xX at e
 split at e
 ·split at e
  ·rename_i h
   cases e
   obtain⟨a,vs,rfl,ha,ra⟩:=r1.lst
   obtain⟨c,us,rfl,hc,rc⟩:=r2.lst
   refine⟨a,c,vs,us,rfl,rfl,ha,hc,jw (by rw[ra.length,rc.length];exact h),λq hq=>k _ _ (bh hq _) (gh hq (ra.append rc))⟩
  ·cases e
 ·cases e
end
section
variable {X:Cx}{b:BX}{G:List Nat}{m:Md}{e e1 e2:Expr}{f f1 f2:Env->Option PV}{pos:Pos}
theorem az {i j pos}:SE X b G .val (.Constant (.int i) j pos) (bC (.int i)):=PE.imp Jx<|by rintro σ H Q ⟨Ow,env,p,E,hf,k⟩;cases hf;exact k _ H (Same.refl _) (.int i)
theorem nR {i j pos}:SE X b G .val (.Constant (.bool i) j pos) (bC (.bl i)):=PE.imp LR<|by rintro σ H Q ⟨Ow,env,p,E,hf,k⟩;cases hf;exact k _ H (Same.refl _) (.bl i)
theorem aD {i j pos}:SE X b G .val (.Constant (.str i) j pos) (bC (.str i)):=PE.imp Jz<|by rintro σ H Q ⟨Ow,env,p,E,hf,k⟩;cases hf;exact k _ H (Same.refl _) (.str i)
theorem ni {j pos}:SE X b G .val (.Constant .none j pos) (bC .non):=PE.imp Jy<|by rintro σ H Q ⟨Ow,env,p,E,hf,k⟩;cases hf;exact k _ H (Same.refl _) .non
theorem fJ {i:Nat}{env:Env}{p:PV}(h:bV i env=some p):env[i]?=some (some p):=by
 unfold bV at h
 split at h
 ·rename_i o e;rw[e,h]
 ·cases h
theorem aa (i:Nat){x:Str}{pos:Pos}(hN:X.N[i]?=some x:=by rfl) (hv:Vis X.env.scope x:=by first | exact Or.inl rfl | exact Or.inr (Or.inl rfl) | exact Or.inr (Or.inr rfl)) (hG:i∉G:=by decide) (hd:(x == ("__debug__" : Str))=false:=by decide)
  (hcd:(x == ("__classdict__" : Str))=false:=by decide):SE X b G .val (.Name x pos) (bV i):=PE.imp (j_ hN hv hd hcd)<|by
 rintro σ H Q ⟨Ow,env,p,E,hf,k⟩
 obtain⟨v,e,r⟩:=E.val i p (fJ hf) hG
 exact⟨v,e,k v H (Same.refl _) r⟩
theorem mz (i:Nat){x:Str}{pos:Pos}(hN:X.N[i]?=some x:=by rfl) (hv:Vis X.env.scope x:=by first | exact Or.inl rfl | exact Or.inr (Or.inl rfl) | exact Or.inr (Or.inr rfl)) (hd:(x == ("__debug__" : Str))=false:=by decide)
  (hcd:(x == ("__classdict__" : Str))=false:=by decide):SE X b G .bor (.Name x pos) (bV i):=PE.imp (j_ hN hv hd hcd)<|by
 rintro σ H Q ⟨Ow,env,p,E,hf,k⟩
 by_cases hG:i∈G
 ·obtain⟨a,e,_,t⟩:=E.own i p (fJ hf) hG
  exact⟨_,e,k _ H (Same.refl _) (.inr ⟨a,rfl,t⟩)⟩
 ·obtain⟨v,e,r⟩:=E.val i p (fJ hf) hG
  exact⟨v,e,k v H (Same.refl _) (.inl r)⟩
theorem M5 {x z:Str}{t:Tok}{pos:Pos}(hm:X.mg x=some (.str z t)) (hg:Gl X x:=by rfl) (hd:(x == ("__debug__" : Str))=false:=by decide):SE X b G .val (.Name x pos) (bC (.str z)):=
 PE.imp (uK hg hm (v:=.str z) ⟨_,rfl⟩ hd)<|by rintro σ H Q ⟨Ow,env,p,E,hf,k⟩;cases hf;exact k _ H (Same.refl _) (.str z)
theorem Ay {x:Str}{i:Int}{t:Tok}{pos:Pos}(hm:X.mg x=some (.int i t)) (hg:Gl X x:=by rfl) (hd:(x == ("__debug__" : Str))=false:=by decide):SE X b G .val (.Name x pos) (bC (.int i)):=
 PE.imp (uK hg hm (v:=.int i) ⟨_,rfl⟩ hd)<|by rintro σ H Q ⟨Ow,env,p,E,hf,k⟩;cases hf;exact k _ H (Same.refl _) (.int i)
theorem Hd {x:Str}{a:Addr}{q:PV}{pos:Pos}(hm:X.mg x=some (.ref a)) (hr:∀ A H,Rep b.C A H (.ref a) q) (hg:Gl X x:=by rfl) (hd:(x == ("__debug__" : Str))=false:=by decide):SE X b G .val (.Name x pos) (bC q):=
 PE.imp (uK hg hm (v:=.ref a) rfl hd)<|by rintro σ H Q ⟨Ow,env,p,E,hf,k⟩;cases hf;exact k _ H (Same.refl _) (hr _ _)
theorem t_ {op:Operator}{r:R2}{g:PV->PV->Option PV}(ho:OpR X (binaryOp op) r) (hr:Op2 b m r g){m1 m2:Md}(h1:SE X b G m1 e1 f1) (h2:SE X b G m2 e2 f2):SE X b G m (.BinOp e1 op e2 pos) (b2 g f1 f2):=
 PE.imp (Mm ho h1.bor h2.bor) fun σ H Q h=>Aw hr h
theorem bD {m1 m2:Md}(h1:SE X b G m1 e1 f1) (h2:SE X b G m2 e2 f2):SE X b G .val (.BinOp e1 .Add e2 pos) (b2 cg f1 f2):=t_ (OpR.or (OpR.or JW Ah) CJ) KY h1 h2
theorem Dc {m1 m2:Md}(h1:SE X b G m1 e1 f1) (h2:SE X b G m2 e2 f2):SE X b G .own (.BinOp e1 .Add e2 pos) (b2 xX f1 f2):=t_ CJ KZ h1 h2
theorem xY {m1 m2:Md}(h1:SE X b G m1 e1 f1) (h2:SE X b G m2 e2 f2):SE X b G .val (.BinOp e1 .Mult e2 pos) (b2 uU f1 f2):=t_ JX KN h1 h2
theorem oV {m1 m2:Md}(h1:SE X b G m1 e1 f1) (h2:SE X b G m2 e2 f2):SE X b G .val (.BinOp e1 .FloorDiv e2 pos) (b2 pI f1 f2):=t_ Hr KQ h1 h2
theorem kh {m1 m2:Md}(h1:SE X b G m1 e1 f1) (h2:SE X b G m2 e2 f2):SE X b G .val (.BinOp e1 .Mod e2 pos) (b2 lF f1 f2):=t_ JZ KR h1 h2
end
end MR
namespace MR
open PySem L2
@[simp] noncomputable def eqS:PV->PV->Option Bool
 | .non,.non=>some true
 | .non,.int _=>some false | .int _,.non=>some false | .non,.bl _=>some false | .bl _,.non=>some false | .non,.str _=>some false | .str _,.non=>some false
 | .int i,.int j=>some (decide (i=j))
 | .bl i,.bl j=>some (decide (i=j))
 | .str i,.str j=>some (decide (i=j))
 | .int _,.str _=>some false | .str _,.int _=>some false | .bl _,.str _=>some false | .str _,.bl _=>some false
 | _,_=>none
mutual
noncomputable def toD:PV->Option PyData
 | .non=>some .none
 | .bl b=>some (.bool b)
 | .int i=>some (.int i)
 | .str x=>some (.str x)
 | .lst xs=>(gU xs).map .list
 | .frz xs=>(gU xs).map .list
 | .tup xs=>(gU xs).map .tuple
 | .ktp xs=>(gU xs).map .tuple
 | _=>none
noncomputable def gU:List PV->Option (List PyData)
 | []=>some []
 | x::xs=>match toD x,gU xs with
  | some d,some ds=>some (d::ds)
  | _,_=>none
end
noncomputable def eqD (x y:PV):Option Bool:=match toD x,toD y with
 | some d,some e=>if SeqAt.shaped d=true/\SeqAt.shaped e=true then some (PyData.eqv d e) else none
 | _,_=>none
noncomputable def eqP (x y:PV):Option Bool:=match eqS x y with
 | some k=>some k
 | none=>eqD x y
noncomputable def eqQ (x y:PV):Option PV:=(eqP x y).map .bl
@[simp] theorem Dd (x y:PV):eqQ x y=((eqP x y).map .bl):=id rfl
noncomputable def neQ (x y:PV):Option PV:=(eqP x y).map λk=>.bl (!k)
@[simp] theorem Py (x y:PV):neQ x y=((eqP x y).map λk=>.bl (!k)):=id rfl
mutual
theorem Rep.dt {C:MC}{A:Addr->Prop}{H:Hp}:∀ {v:V}{p:PV}{d:PyData},Rep C A H v p->toD p=some d->Dt C.K H v d
 | _,_,_,.non,e=>by simp only[toD] at e;cases e;exact .non
 | _,_,_,.bl b,e=>by simp only[toD] at e;cases e;exact .bl b
 | _,_,_,.int b,e=>by simp only[toD] at e;cases e;exact .int b
 | _,_,_,.str b,e=>by simp only[toD] at e;cases e;exact .str b
 | _,_,_,.lst (xs:=xs) h _ r,e=>by
  simp only[toD] at e
  cases q:gU xs with
  | none=>rw[q] at e;cases e
  | some ds=>rw[q] at e;cases e;exact .lst (SqL.of h) (Reps.dt r q)
 | _,_,_,.lstF (xs:=xs) h r,e=>by
  simp only[toD] at e
  cases q:gU xs with
  | none=>rw[q] at e;cases e
  | some ds=>rw[q] at e;cases e;exact .lst (.inl (.inr ⟨_,h⟩)) (Reps.dt r q)
 | _,_,_,.lstK (xs:=xs) h r,e=>by
  simp only[toD] at e
  cases q:gU xs with
  | none=>rw[q] at e;cases e
  | some ds=>rw[q] at e;cases e;exact .lst (sqK h) (Reps.dt r q)
 | _,_,_,.tup (xs:=xs) h r,e=>by
  simp only[toD] at e
  cases q:gU xs with
  | none=>rw[q] at e;cases e
  | some ds=>rw[q] at e;cases e;exact .tup (SqT.of h) (Reps.dt r q)
 | _,_,_,.tupC (xs:=xs) h r,e=>by
  simp only[toD] at e
  cases q:gU xs with
  | none=>rw[q] at e;cases e
  | some ds=>rw[q] at e;cases e;exact .tup (.inr h) (Reps.dt r q)
 | _,_,_,.tupK (xs:=xs) h r,e=>by
  simp only[toD] at e
  cases q:gU xs with
  | none=>rw[q] at e;cases e
  | some ds=>rw[q] at e;cases e;exact .tup (uR h) (Reps.dt r q)
 | _,_,_,.dK h _ r,e=>by simp only[toD] at e;cases e
 | _,_,_,.dT h _ r,e=>by simp only[toD] at e;cases e
 | _,_,_,.obj h _ r,e=>by simp only[toD] at e;cases e
theorem Reps.dt {C:MC}{A:Addr->Prop}{H:Hp}:∀ {v:List V}{p:List PV}{d:List PyData},Reps C A H v p->gU p=some d->Dts C.K H v d
 | _,_,_,.nil,e=>by simp only[gU] at e;cases e;exact .nil
 | _,_,_,.cons (p:=p) (ps:=ps) h t,e=>by
  simp only[gU] at e
  cases q:toD p with
  | none=>rw[q] at e;cases e
  | some d=>
   cases q2:gU ps with
   | none=>rw[q,q2] at e;cases e
   | some ds=>rw[q,q2] at e;cases e;exact .cons (Rep.dt h q) (Reps.dt t q2)
end
theorem RepB.dt {C:MC}{A:Addr->Prop}{H:Hp}{v:V}{p:PV}{d:PyData}(h:RepB C A H v p) (e:toD p=some d):Dt C.K H v d:=by
 rcases h with h | ⟨a,rfl,t⟩
 ·exact h.dt e
 ·cases p with
  | lst xs=>
   obtain⟨vs,q,r⟩:=t
   exact(Rep.lst (A:=λ_=>True) q True.intro (r.ex (cZ λ_ _ _ _=>True.intro))).dt e
  | dK kvs=>simp only[toD] at e;cases e
  | dT kvs=>simp only[toD] at e;cases e
  | obj c fs=>simp only[toD] at e;cases e
  | _=>exact t.elim
theorem xZ {C:MC}{A:Addr->Prop}{H:Hp}{v u:V}{p q:PV}{k:Bool}(h:RepB C A H v p) (h':RepB C A H u q) (e:eqS p q=some k):Eu v u=true/\decide (v=u)=k:=by
 unfold eqS at e
 split at e <;> first | cases e | skip
 ·rw[h.non,h'.non];exact⟨rfl,rfl⟩
 ·rw[h.non,h'.int];exact⟨rfl,rfl⟩
 ·rw[h.int,h'.non];exact⟨rfl,rfl⟩
 ·rw[h.non,h'.bl];exact⟨rfl,rfl⟩
 ·rw[h.bl,h'.non];exact⟨rfl,rfl⟩
 ·rw[h.non,h'.str];exact⟨rfl,rfl⟩
 ·rw[h.str,h'.non];exact⟨rfl,rfl⟩
 ·rw[h.int,h'.int];exact⟨rfl,by simp⟩
 ·rw[h.bl,h'.bl];exact⟨rfl,by simp⟩
 ·rw[h.str,h'.str];exact⟨rfl,by simp⟩
 ·rw[h.int,h'.str];exact⟨rfl,rfl⟩
 ·rw[h.str,h'.int];exact⟨rfl,rfl⟩
 ·rw[h.bl,h'.str];exact⟨rfl,rfl⟩
 ·rw[h.str,h'.bl];exact⟨rfl,rfl⟩
def K1 (K:PySem.W.Frag):R2:=λx y H Q=>rEq x y H Q\/∃ d e,Dt K H x d/\Dt K H y e/\SeqAt.shaped d=true/\SeqAt.shaped e=true/\Q (.bl (PyData.eqv d e)) H
def K3 (K:PySem.W.Frag):R2:=λx y H Q=>rNe x y H Q\/∃ d e,Dt K H x d/\Dt K H y e/\SeqAt.shaped d=true/\SeqAt.shaped e=true/\Q (.bl (!PyData.eqv d e)) H
section
variable {b:BX}
theorem M6:Op2 b .val (K1 b.C.K) eqQ:=by
 intro Ow H v1 v2 p1 p2 p Q hn r1 r2 e k
 unfold eqQ eqP at e
 cases q:eqS p1 p2 with
 | some c=>
  rw[q] at e
  cases e
  obtain⟨h1,h2⟩:=xZ r1 r2 q
  exact .inl ⟨h1,by rw[h2];exact k _ H (Same.refl _) (.bl c)⟩
 | none=>
  rw[q] at e
  simp only[eqD] at e
  cases q1:toD p1 with
  | none=>rw[q1] at e;cases e
  | some d=>
   cases q2:toD p2 with
   | none=>rw[q1,q2] at e;cases e
   | some d'=>
    rw[q1,q2] at e
    simp only at e
    split at e
    ·rename_i hs
     cases e
     exact .inr ⟨d,d',r1.dt q1,r2.dt q2,hs.1,hs.2,k _ H (Same.refl _) (.bl _)⟩
    ·cases e
theorem M7:Op2 b .val (K3 b.C.K) neQ:=by
 intro Ow H v1 v2 p1 p2 p Q hn r1 r2 e k
 unfold neQ eqP at e
 cases q:eqS p1 p2 with
 | some c=>
  rw[q] at e
  cases e
  obtain⟨h1,h2⟩:=xZ r1 r2 q
  exact .inl ⟨h1,by rw[h2];exact k _ H (Same.refl _) (.bl _)⟩
 | none=>
  rw[q] at e
  simp only[eqD] at e
  cases q1:toD p1 with
  | none=>rw[q1] at e;cases e
  | some d=>
   cases q2:toD p2 with
   | none=>rw[q1,q2] at e;cases e
   | some d'=>
    rw[q1,q2] at e
    simp only at e
    split at e
    ·rename_i hs
     cases e
     exact .inr ⟨d,d',r1.dt q1,r2.dt q2,hs.1,hs.2,k _ H (Same.refl _) (.bl _)⟩
    ·cases e
end
@[simp] noncomputable def keyOf:PV->Option Key
 | .int i=>some (.inl i)
 | .str x=>some (.inr x)
 | _=>none
@[simp] noncomputable def keysOf:List PV->Option (List Key)
 | []=>some []
 | x::xs=>match keyOf x,keysOf xs with
  | some k,some ks=>some (k::ks)
  | _,_=>none
@[simp] noncomputable def keysB:List PV->Option (List Key)
 | [.str x,.bl b]=>some [.inr x,.inl (if b=true then 1 else 0)]
 | xs=>keysOf xs
@[simp] def dR:PV->Bool
 | .non=>true
 | .bl _=>true
 | .int _=>true
 | .str _=>true
 | _=>false
noncomputable def eqF:PV->PV->Bool
 | .non,.non=>true
 | .bl a,.bl b=>a == b
 | .bl a,.int b=>(if a then 1 else 0) == b
 | .int a,.bl b=>a == (if b then 1 else 0)
 | .int a,.int b=>a == b
 | .str a,.str b=>a == b
 | _,_=>false
noncomputable def jx {κ:Type} [DecidableEq κ] (kvs:List (κ×PV)) (k:κ):Option PV:=(kvs.find? λx=>decide (x.1=k)).map (·.2)
def inD (x:PV) (ys:List PV):Option Bool:=match toD x,gU ys with
 | some d,some ds=>if PyData.canLayAll0 ds=true/\d.canLay0=true/\d.depth<=32 then some (ds.any λy=>PyData.eqv y d) else none
 | _,_=>none
theorem pJ {x:PV}{ys:List PV}{k:Bool}(h:inD x ys=some k):∃ d ds,toD x=some d/\gU ys=some ds/\PyData.canLayAll0 ds=true/\d.canLay0=true/\d.depth<=32/\(ds.any λy=>PyData.eqv y d)=k:=by
 unfold inD at h
 split at h
 ·rename_i d ds h1 h2
  split at h
  ·rename_i hc
   exact⟨d,ds,h1,h2,hc.1,hc.2.1,hc.2.2,Option.some.inj h⟩
  ·cases h
 ·cases h
noncomputable def inP:PV->PV->Option Bool
 | x,.lst ys=>if dR x=true/\ys.all dR=true then some (ys.any λy=>eqF y x) else inD x ys
 | x,.frz ys=>if dR x=true/\ys.all dR=true then some (ys.any λy=>eqF y x) else inD x ys
 | x,.ktp ys=>if dR x=true/\ys.all dR=true then some (ys.any λy=>eqF y x) else inD x ys
 | x,.tup ys=>if dR x=true/\ys.all dR=true then some (ys.any λy=>eqF y x) else inD x ys
 | .str x,.str y=>some (!(Builtin.Str.occurrences y x 0 y.length 1).isEmpty)
 | x,.dK kvs=>(keyOf x).map λk=>(jx kvs k).isSome
 | .tup xs,.dT kvs=>(keysB xs).map λk=>(jx kvs k).isSome
 | _,_=>none
theorem Reps.keys {C:MC}{A:Addr->Prop}{H:Hp}:∀ {vs:List V}{ps:List PV}{ks:List Key},Reps C A H vs ps->keysOf ps=some ks->vs=ks.map kV
 | _,_,_,.nil,e=>by cases e;rfl
 | _,_,_,.cons (p:=p) (ps:=ps) h t,e=>by
  unfold keysOf at e
  cases q:keyOf p with
  | none=>rw[q] at e;cases e
  | some k=>
   cases q2:keysOf ps with
   | none=>rw[q,q2] at e;cases e
   | some ks=>
    rw[q,q2] at e
    cases e
    have ih:=Reps.keys t q2
    rw[List.map_cons,ih]
    congr 1
    unfold keyOf at q
    split at q <;> cases q <;> cases h <;> rfl
theorem Reps.keysB {C:MC}{A:Addr->Prop}{H:Hp}{vs:List V}{ps:List PV}{ks:List Key}(r:Reps C A H vs ps) (e:keysB ps=some ks):xn ks vs:=by
 unfold MR.keysB at e
 split at e
 ·cases e
  cases r with
  | cons h1 t=>cases t with
   | cons h2 t=>cases t;cases h1;cases h2;exact .inr ⟨_,_,rfl,rfl⟩
 ·exact .inl (r.keys e)
theorem RepB.key {C:MC}{A:Addr->Prop}{H:Hp}{v:V}{p:PV}{k:Key}(h:RepB C A H v p) (e:keyOf p=some k):v=kV k:=by
 unfold keyOf at e
 split at e
 ·cases e;exact h.int
 ·cases e;exact h.str
 ·cases e
theorem RepB.flat {C:MC}{A:Addr->Prop}{H:Hp}{v:V}{p:PV}(h:RepB C A H v p) (e:dR p=true):ju v=true:=by
 unfold dR at e
 split at e
 ·rw[h.non];rfl
 ·rw[h.bl];rfl
 ·rw[h.int];rfl
 ·rw[h.str];rfl
 ·cases e
def fV:PV->V
 | .bl b=>.bl b
 | .int i=>.int i
 | .str x=>.str x
 | _=>.non
theorem RepB.fV {C:MC}{A:Addr->Prop}{H:Hp}{v:V}{p:PV}(h:RepB C A H v p) (e:dR p=true):v=fV p:=by
 cases p with
 | non=>exact h.non
 | bl b=>exact h.bl
 | int i=>exact h.int
 | str x=>exact h.str
 | _=>cases e
theorem M8 (p q:PV) (hp:dR p=true) (hq:dR q=true):L2.eqV (fV p) (fV q)=eqF p q:=by
 cases p <;> cases q <;> first | rfl | (cases hp;done) | (cases hq;done)
theorem Reps.flat {C:MC}{A:Addr->Prop}{H:Hp}{v:V}{p:PV}(h:RepB C A H v p) (e:dR p=true):∀ {vs:List V}{ps:List PV},Reps C A H vs ps->ps.all dR=true->vs.all ju=true/\inV v vs=ps.any λy=>eqF y p
 | _,_,.nil,_=>⟨rfl,rfl⟩
 | _,_,.cons (v:=v') (p:=p') (vs:=vs) (ps:=ps) q t,e'=>by
  rw[List.all_cons,Bool.and_eq_true] at e'
  obtain⟨h1,h2⟩:=Reps.flat h e t e'.2
  have hf:ju v'=true:=RepB.flat (.inl q) e'.1
  refine⟨by rw[List.all_cons,hf,h1];rfl,?_⟩
  unfold inV at h2 ⊢
  rw[List.any_cons,List.any_cons,h2]
  have q1:=h.fV e
  have q2:=RepB.fV (.inl q) e'.1
  rw[q1,q2,M8 _ _ e'.1 e]
section
variable {X:Cx}
theorem K4 (hu:X.A.units+1 < cLine):OpR X (compareOp .In) (λx y H Q=>∃ a o,y=.ref a/\DGet X.K H a x o/\Q (.bl o.isSome) H):=by
 intro pins s σ H x y v u Q I rx ry h
 obtain⟨a,o,rfl,g,q⟩:=h
 obtain rfl:u=Value.ref a:=ry
 exact Oe hu I g rx λs3 I3=>⟨.bl o.isSome,H,I3,rfl,q⟩
def Az (K:PySem.W.Frag) (neg:Bool):R2:=λx y H Q=>∃ d ds,(Dt K H y (.list ds)\/Dt K H y (.tuple ds))/\Dt K H x d/\PyData.canLayAll0 ds=true/\d.canLay0=true/\d.depth<=32/\Q (.bl (if neg then !(ds.any λy=>PyData.eqv y d) else ds.any λy=>PyData.eqv y d)) H
theorem K5 (hu:X.A.units+64 < cLine):OpR X (compareOp .In) (Az X.K false):=by
 intro pins s σ H x y v u Q I rx ry h
 obtain⟨d,ds,h1,h2,c1,c2,c3,q⟩:=h
 have hm:min (PyData.depthAll ds) d.depth<=d.depth:=Nat.min_le_right _ _
 obtain⟨as,ra⟩:=h2.reads I rx
 rcases h1 with h1 | h1
 ·obtain⟨bs,rb⟩:=h1.reads I ry
  exact PySem.SeqAt.in_list_reads rb ra c1 c2 (by omega) ⟨.bl _,H,I,rfl,q⟩
 ·obtain⟨bs,rb⟩:=h1.reads I ry
  exact PySem.SeqAt.in_tuple_reads rb ra c1 c2 (by omega) ⟨.bl _,H,I,rfl,q⟩
theorem De (hu:X.A.units+64 < cLine):OpR X (compareOp .NotIn) (Az X.K true):=by
 intro pins s σ H x y v u Q I rx ry h
 obtain⟨d,ds,h1,h2,c1,c2,c3,q⟩:=h
 have hm:min (PyData.depthAll ds) d.depth<=d.depth:=Nat.min_le_right _ _
 obtain⟨as,ra⟩:=h2.reads I rx
 rcases h1 with h1 | h1
 ·obtain⟨bs,rb⟩:=h1.reads I ry
  exact PySem.SeqAt.notIn_list_reads rb ra c1 c2 (by omega) ⟨.bl _,H,I,rfl,q⟩
 ·obtain⟨bs,rb⟩:=h1.reads I ry
  exact PySem.SeqAt.notIn_tuple_reads rb ra c1 c2 (by omega) ⟨.bl _,H,I,rfl,q⟩
theorem Df (hu:X.A.units+1 < cLine):OpR X (compareOp .NotIn) (λx y H Q=>∃ a o,y=.ref a/\DGet X.K H a x o/\Q (.bl (!o.isSome)) H):=by
 intro pins s σ H x y v u Q I rx ry h
 obtain⟨a,o,rfl,g,q⟩:=h
 obtain rfl:u=Value.ref a:=ry
 exact HB hu I g rx λs3 I3=>⟨.bl (!o.isSome),H,I3,rfl,q⟩
end
def K6 (K:PySem.W.Frag):R2:=λx y H Q=>(rIn K false x y H Q\/∃ i j,x=.str i/\y=.str j/\Q (.bl (!(Builtin.Str.occurrences j i 0 j.length 1).isEmpty)) H)\/(∃ a o,y=.ref a/\DGet K H a x o/\Q (.bl o.isSome) H)\/Az K false x y H Q
def zF (K:PySem.W.Frag):R2:=λx y H Q=>(rIn K true x y H Q\/∃ i j,x=.str i/\y=.str j/\Q (.bl (!(!(Builtin.Str.occurrences j i 0 j.length 1).isEmpty))) H)\/(∃ a o,y=.ref a/\DGet K H a x o/\Q (.bl (!o.isSome)) H)\/Az K true x y H Q
noncomputable def inQ (x y:PV):Option PV:=(inP x y).map .bl
@[simp] theorem Pz (x y:PV):inQ x y=((inP x y).map .bl):=id rfl
noncomputable def qD (x y:PV):Option PV:=(inP x y).map λk=>.bl (!k)
@[simp] theorem Nz (x y:PV):qD x y=((inP x y).map λk=>.bl (!k)):=id rfl
theorem Dg {C:MC}{A:Addr->Prop}{H:Hp}{v1 v2:V}{p1 p2:PV}{k:Bool}(r1:RepB C A H v1 p1) (r2:RepB C A H v2 p2) (e:inP p1 p2=some k):
  (∃ p xs,v2=.ref p/\(SqL C.K H p xs\/SqT C.K H p xs)/\ju v1=true/\xs.all ju=true/\inV v1 xs=k)\/(∃ i j,v1=.str i/\v2=.str j/\(!(Builtin.Str.occurrences j i 0 j.length 1).isEmpty)=k)\/(∃ a o,v2=.ref a/\DGet C.K H a v1 o/\o.isSome=k)\/∃ d ds,(Dt C.K H v2 (.list ds)\/Dt C.K H v2 (.tuple ds))/\Dt C.K H v1 d/\PyData.canLayAll0 ds=true/\d.canLay0=true/\d.depth<=32/\(ds.any λy=>PyData.eqv y d)=k:=by
 unfold inP at e
 split at e
 ·split at e
  ·rename_i h
   cases e
   obtain⟨a,vs,rfl,ha,ra⟩:=r2.lst
   obtain⟨h1,h2⟩:=Reps.flat r1 h.1 ra h.2
   exact .inl ⟨a,vs,rfl,.inl (SqL.of ha),r1.flat h.1,h1,h2⟩
  ·obtain⟨d,ds,t1,t2,c1,c2,c3,c4⟩:=pJ e
   exact .inr (.inr (.inr ⟨d,ds,.inl (r2.dt (by simp[toD,t2])),r1.dt t1,c1,c2,c3,c4⟩))
 ·split at e
  ·rename_i h
   cases e
   obtain⟨a,vs,rfl,ha,ra⟩:=r2.frz
   obtain⟨h1,h2⟩:=Reps.flat r1 h.1 ra h.2
   exact .inl ⟨a,vs,rfl,.inl ha,r1.flat h.1,h1,h2⟩
  ·obtain⟨d,ds,t1,t2,c1,c2,c3,c4⟩:=pJ e
   exact .inr (.inr (.inr ⟨d,ds,.inl (r2.dt (by simp[toD,t2])),r1.dt t1,c1,c2,c3,c4⟩))
 ·split at e
  ·rename_i h
   cases e
   obtain⟨a,vs,rfl,ha,ra⟩:=r2.ktp
   obtain⟨h1,h2⟩:=Reps.flat r1 h.1 ra h.2
   exact .inl ⟨a,vs,rfl,.inr ha,r1.flat h.1,h1,h2⟩
  ·obtain⟨d,ds,t1,t2,c1,c2,c3,c4⟩:=pJ e
   exact .inr (.inr (.inr ⟨d,ds,.inr (r2.dt (by simp[toD,t2])),r1.dt t1,c1,c2,c3,c4⟩))
 ·split at e
  ·rename_i h
   cases e
   obtain⟨a,vs,rfl,ha,ra⟩:=r2.tup
   obtain⟨h1,h2⟩:=Reps.flat r1 h.1 ra h.2
   exact .inl ⟨a,vs,rfl,.inr ha.sq,r1.flat h.1,h1,h2⟩
  ·obtain⟨d,ds,t1,t2,c1,c2,c3,c4⟩:=pJ e
   exact .inr (.inr (.inr ⟨d,ds,.inr (r2.dt (by simp[toD,t2])),r1.dt t1,c1,c2,c3,c4⟩))
 ·cases e
  exact .inr (.inl ⟨_,_,r1.str,r2.str,rfl⟩)
 ·obtain⟨a,kv,rfl,ha,ra⟩:=r2.dK
  cases q:keyOf p1 with
  | none=>rw[q] at e;cases e
  | some ky=>
   rw[q] at e
   cases e
   rw[r1.key q]
   refine .inr (.inr (.inl ⟨a,_,rfl,DGet.k ha,?_⟩))
   unfold jx
   dsimp only
   rcases RepK.val (k:=ky) ra with ⟨v,p,h1,h2,_⟩ | ⟨h1,h2⟩
   ·rw[h1,h2];rfl
   ·rw[h1,h2];rfl
 ·rename_i xs kvs
  obtain⟨a,kv,rfl,ha,ra⟩:=r2.dT
  obtain⟨c,vs,rfl,hc,rc⟩:=r1.tup
  cases q:keysB xs with
  | none=>rw[q] at e;cases e
  | some ky=>
   rw[q] at e
   cases e
   refine .inr (.inr (.inl ⟨a,_,rfl,DGet.t ha (hc.key (rc.keysB q)),?_⟩))
   unfold jx
   dsimp only
   rcases RepT.val (k:=ky) ra with ⟨v,p,h1,h2,_⟩ | ⟨h1,h2⟩
   ·rw[h1,h2];rfl
   ·rw[h1,h2];rfl
 ·cases e
section
variable {b:BX}
theorem M9:Op2 b .val (K6 b.C.K) inQ:=by
 intro Ow H v1 v2 p1 p2 p Q hn r1 r2 e k
 unfold inQ at e
 cases q:inP p1 p2 with
 | none=>rw[q] at e;cases e
 | some c=>
  rw[q] at e
  cases e
  have fin:=k (.bl c) H (Same.refl _) (.bl c)
  rcases Dg r1 r2 q with ⟨a,xs,rfl,h1,h2,h3,h4⟩ | ⟨i,j,rfl,rfl,h1⟩ | ⟨a,o,rfl,h1,h2⟩ | ⟨d,ds,h1,h2,c1,c2,c3,h4⟩
  ·subst h4;exact .inl (.inl ⟨a,xs,rfl,h1,h2,h3,fin⟩)
  ·subst h1;exact .inl (.inr ⟨i,j,rfl,rfl,fin⟩)
  ·subst h2;exact .inr (.inl ⟨a,o,rfl,h1,fin⟩)
  ·subst h4;exact .inr (.inr ⟨d,ds,h1,h2,c1,c2,c3,fin⟩)
theorem FP:Op2 b .val (zF b.C.K) qD:=by
 intro Ow H v1 v2 p1 p2 p Q hn r1 r2 e k
 unfold qD at e
 cases q:inP p1 p2 with
 | none=>rw[q] at e;cases e
 | some c=>
  rw[q] at e
  cases e
  have fin:=k (.bl (!c)) H (Same.refl _) (.bl _)
  rcases Dg r1 r2 q with ⟨a,xs,rfl,h1,h2,h3,h4⟩ | ⟨i,j,rfl,rfl,h1⟩ | ⟨a,o,rfl,h1,h2⟩ | ⟨d,ds,h1,h2,c1,c2,c3,h4⟩
  ·subst h4;exact .inl (.inl ⟨a,xs,rfl,h1,h2,h3,fin⟩)
  ·subst h1;exact .inl (.inr ⟨i,j,rfl,rfl,fin⟩)
  ·subst h2;exact .inr (.inl ⟨a,o,rfl,h1,fin⟩)
  ·subst h4;exact .inr (.inr ⟨d,ds,h1,h2,c1,c2,c3,fin⟩)
end
@[simp] def FQ:PV->Bool
 | .non=>true
 | _=>false
noncomputable def isN (x y:PV):Option PV:=match y with
 | .non=>some (.bl (FQ x))
 | _=>none
@[simp] theorem PB (x y:PV):isN x y=(match y with
 | .non=>some (.bl (FQ x))
 | _=>none):=id rfl
theorem RepB.isN {C:MC}{A:Addr->Prop}{H:Hp}{v:V}{p:PV}(h:RepB C A H v p):decide (v=.non)=FQ p:=by
 cases p with
 | non=>rw[h.non];rfl
 | bl b=>rw[h.bl];rfl
 | int b=>rw[h.int];rfl
 | str b=>rw[h.str];rfl
 | lst b=>obtain⟨a,_,rfl,_⟩:=h.lst;rfl
 | frz b=>obtain⟨a,_,rfl,_⟩:=h.frz;rfl
 | tup b=>obtain⟨a,_,rfl,_⟩:=h.tup;rfl
 | ktp b=>obtain⟨a,_,rfl,_⟩:=h.ktp;rfl
 | dK b=>obtain⟨a,_,rfl,_⟩:=h.dK;rfl
 | dT b=>obtain⟨a,_,rfl,_⟩:=h.dT;rfl
 | obj c b=>obtain⟨a,_,_,rfl,_⟩:=h.obj;rfl
section
variable {b:BX}
theorem K7:Op2 b .val (λx y H Q=>y=.non/\Q (.bl (decide (x=.non))) H) isN:=by
 intro Ow H v1 v2 p1 p2 p Q hn r1 r2 e k
 cases p2 with
 | non=>
  simp only[isN] at e
  cases e
  exact⟨r2.non,by rw[r1.isN];exact k _ H (Same.refl _) (.bl _)⟩
 | _=>simp only[isN] at e;cases e
end
section
variable {X:Cx}{b:BX}{G:List Nat}{m:Md}{e e1 e2 e3:Expr}{f f1 f2 f3:Env->Option PV}{pos:Pos}{m1 m2 m3:Md}
structure SC (X:Cx) (b:BX) (G:List Nat) (op:CmpOp) (e1 e2:Expr) (f:Env->Option PV):Prop where
 pe:∀ pos,SE X b G .val (.Compare e1 [op] [e2] pos) f
 pt:∀ pos,ST X b G (.Compare e1 [op] [e2] pos) (tV f)
theorem pK {op:CmpOp}{r:R2}{g:PV->PV->Option PV}(ho:OpR X (compareOp op) r) (hr:Op2 b .val r g) (h1:SE X b G m1 e1 f1) (h2:SE X b G m2 e2 f2) (hm:behindInMarks op e2=false):SC X b G op e1 e2 (b2 g f1 f2):=by
 refine⟨λpos=>PE.imp (Hs ho h1.bor h2.bor hm) fun σ H Q h=>Aw hr h,λpos=>PT.imp (Ht ho h1.bor h2.bor hm) fun σ H Q h=>?_⟩
 obtain⟨Ow,env,c,E,hf,k⟩:=h
 unfold tV at hf
 cases q:b2 g f1 f2 env with
 | none=>rw[q] at hf;cases hf
 | some p=>
  rw[q] at hf
  refine Aw (Q:=λx H'=>∃ k,x=.bl k/\_) hr ⟨Ow,env,p,E,q,λv H' s r=>?_⟩
  cases p with
  | bl d=>
   cases hf
   cases r
   exact⟨_,rfl,k H' s⟩
  | _=>cases hf
theorem cN {j:Nat}(hr:Room j X.A) (h1:SE X b G m1 e1 f1) (h2:SE X b G m2 e2 f2) (hK:X.K=b.C.K:=by rfl):SC X b G .Eq e1 e2 (b2 eqQ f1 f2):=pK (r:=K1 b.C.K) (by rw[← hK];exact OpR.or Mq (Ks hr.units)) M6 h1 h2 (qp _)
theorem nT {j:Nat}(hr:Room j X.A) (h1:SE X b G m1 e1 f1) (h2:SE X b G m2 e2 f2) (hK:X.K=b.C.K:=by rfl):SC X b G .NotEq e1 e2 (b2 neQ f1 f2):=pK (r:=K3 b.C.K) (by rw[← hK];exact OpR.or Mr (Ku hr.units)) M7 h1 h2 (qp _)
theorem Hf (h1:SE X b G m1 e1 f1) (h2:SE X b G m2 e2 f2):SC X b G .Lt e1 e2 (b2 (jU λi j=>decide (i < j)) f1 f2):=pK Ms C_ h1 h2 (qp _)
theorem uc (h1:SE X b G m1 e1 f1) (h2:SE X b G m2 e2 f2):SC X b G .Gt e1 e2 (b2 (jU λi j=>decide (j < i)) f1 f2):=pK Mt C_ h1 h2 (qp _)
theorem jy {j:Nat}(hr:Room j X.A) (h1:SE X b G m1 e1 f1) (h2:SE X b G m2 e2 f2) (hm:behindInMarks .In e2=false:=by rfl) (hK:X.K=b.C.K:=by rfl):SC X b G .In e1 e2 (b2 inQ f1 f2):=
 pK (r:=K6 b.C.K) (by rw[← hK];exact OpR.or (OpR.or Cz Cj) (OpR.or (K4 (wW hr)) (K5 hr.units))) M9 h1 h2 hm
theorem FT {j:Nat}(hr:Room j X.A) (h1:SE X b G m1 e1 f1) (h2:SE X b G m2 e2 f2) (hm:behindInMarks .NotIn e2=false:=by rfl) (hK:X.K=b.C.K:=by rfl):SC X b G .NotIn e1 e2 (b2 qD f1 f2):=
 pK (r:=zF b.C.K) (by rw[← hK];exact OpR.or (OpR.or xM xN) (OpR.or (Df (wW hr)) (De hr.units))) FP h1 h2 hm
theorem A_ (h1:SE X b G m1 e1 f1) (h2:SE X b G m2 e2 f2):SC X b G .Is e1 e2 (b2 isN f1 f2):=pK J1 K7 h1 h2 (qp _)
theorem cj {op:CmpOp}(h:SC X b G op e1 e2 f):SE X b G .val (.Compare e1 [op] [e2] pos) f:=h.pe pos
theorem bu {op:CmpOp}(h:SC X b G op e1 e2 f):ST X b G (.Compare e1 [op] [e2] pos) (tV f):=h.pt pos
noncomputable def qF (g g':Int->Int->Bool) (f1 f2 f3:Env->Option PV) (env:Env):Option PV:=(f1 env).bind λx=>(f2 env).bind λy=>match x,y with
 | .int i,.int j=>if g i j=true then (f3 env).bind λz=>jU g' y z else some (.bl false)
 | _,_=>none
@[simp] theorem NB (g g':Int->Int->Bool) (f1 f2 f3:Env->Option PV) (env:Env):qF g g' f1 f2 f3 env=((f1 env).bind λx=>(f2 env).bind λy=>match x,y with
 | .int i,.int j=>if g i j=true then (f3 env).bind λz=>jU g' y z else some (.bl false)
 | _,_=>none):=id rfl
theorem zc {g g':Int->Int->Bool}{f1 f2 f3:Env->Option PV}{env:Env}{p:PV}(h:qF g g' f1 f2 f3 env=some p):
  ∃ i j,f1 env=some (.int i)/\f2 env=some (.int j)/\((g i j=false/\p=.bl false)\/(g i j=true/\∃ l,f3 env=some (.int l)/\p=.bl (g' j l))):=by
 unfold qF at h
 cases q1:f1 env with
 | none=>rw[q1] at h;cases h
 | some p1=>
  cases q2:f2 env with
  | none=>rw[q1,q2] at h;cases h
  | some p2=>
   rw[q1,q2] at h
   simp only[Option.bind_some] at h
   split at h
   ·rename_i i j
    refine⟨i,j,rfl,rfl,?_⟩
    cases hg:g i j with
    | false=>
     rw[hg] at h
     cases h
     exact .inl ⟨rfl,rfl⟩
    | true=>
     rw[hg] at h
     simp only[if_true] at h
     obtain⟨p3,q3,h⟩:=Option.bind_eq_some_iff.mp h
     cases p3 with
     | int l=>
      cases h
      exact .inr ⟨rfl,l,q3,rfl⟩
     | _=>cases h
   ·cases h
theorem FW {op op':CmpOp}{g g':Int->Int->Bool}(ho:OpR X (compareOp op) (rI0 λi j=>.bl (g i j))) (ho':OpR X (compareOp op') (rI0 λi j=>.bl (g' i j))) (h1:SE X b G m1 e1 f1) (h2:SE X b G m2 e2 f2) (h3:SE X b G m3 e3 f3)
  (hm:lastMarks [op,op'] [e2,e3]=false:=by with_unfolding_all rfl):SE X b G .val (.Compare e1 [op,op'] [e2,e3] pos) (qF g g' f1 f2 f3):=
 PE.imp (Ew ho ho' h1.bor h2.bor h3.bor hm)<|by
  rintro σ H Q ⟨Ow,env,p,E,hf,k⟩
  obtain⟨i,j,q1,q2,hc⟩:=zc hf
  refine⟨Ow,env,_,E,q1,λv1 H1 s1 r1=>⟨Ow,env,_,E.up s1,q2,λv2 H2 s2 r2=>?_⟩⟩
  have r1':RepB b.C (Bs b Ow) H2 v1 (.int i):=Res.up (m:=.bor) r1 s2
  have r2':RepB b.C (Bs b Ow) H2 v2 (.int j):=r2
  rw[r1'.int,r2'.int]
  refine⟨i,j,rfl,rfl,g i j,rfl,?_⟩
  rcases hc with ⟨hc,rfl⟩ | ⟨hc,l,q3,rfl⟩
  ·rw[hc]
   simp only[Bool.false_eq_true,if_false]
   exact k _ H2 (s1.trans s2) (.bl false)
  ·rw[hc]
   simp only[if_true]
   refine⟨Ow,env,_,E.up (s1.trans s2),q3,λv3 H3 s3 r3=>?_⟩
   have r3':RepB b.C (Bs b Ow) H3 v3 (.int l):=r3
   rw[r3'.int]
   exact⟨_,_,rfl,rfl,k _ H3 (s1.trans (s2.trans s3)) (.bl _)⟩
theorem gj {op}(h:SE X b G m e f):SE X b G m (.BoolOp op [e] pos) f:=JG h
theorem d9 {rest:List Expr}(h1:SE X b G .val e1 f1) (h2:SE X b G .val (.BoolOp .And (e2::rest) pos) f2):SE X b G .val (.BoolOp .And (e1::e2::rest) pos) (eX f1 f2):=
 PE.imp (JH h1 h2)<|by
  rintro σ H Q ⟨Ow,env,p,E,hf,k⟩
  unfold eX at hf
  cases q1:f1 env with
  | none=>rw[q1] at hf;cases hf
  | some p1=>
   rw[q1] at hf
   refine⟨Ow,env,p1,E,q1,λv1 H1 s1 r1=>?_⟩
   cases p1 with
   | bl c=>
    cases r1
    refine⟨c,rfl,?_⟩
    cases c with
    | true=>exact⟨Ow,env,p,E.up s1,hf,λv H' s r=>k v H' (s1.trans s) r⟩
    | false=>cases hf;exact k _ H1 s1 (.bl false)
   | _=>cases hf
theorem M_ {rest:List Expr}(h1:SE X b G .val e1 f1) (h2:SE X b G .val (.BoolOp .Or (e2::rest) pos) f2):SE X b G .val (.BoolOp .Or (e1::e2::rest) pos) (bOr f1 f2):=
 PE.imp (Mf h1 h2)<|by
  rintro σ H Q ⟨Ow,env,p,E,hf,k⟩
  unfold bOr at hf
  cases q1:f1 env with
  | none=>rw[q1] at hf;cases hf
  | some p1=>
   rw[q1] at hf
   refine⟨Ow,env,p1,E,q1,λv1 H1 s1 r1=>?_⟩
   cases p1 with
   | bl c=>
    cases r1
    refine⟨c,rfl,?_⟩
    cases c with
    | false=>exact⟨Ow,env,p,E.up s1,hf,λv H' s r=>k v H' (s1.trans s) r⟩
    | true=>cases hf;exact k _ H1 s1 (.bl true)
   | _=>cases hf
@[simp] noncomputable def jG:PV->Option PV
 | .int i=>some (.int (-i))
 | _=>none
theorem jN (h1:SE X b G m e1 f1):SE X b G .val (.UnaryOp .USub e1 pos) (b1 jG f1):=
 PE.imp (Mp J0 h1.bor) fun σ H Q h=>Ax (r:=rU λi=>.int (-i)) (λOw H v1 p1 p Q hn r1 e k=>by
  cases p1 <;> simp only[jG] at e <;> cases e
  exact⟨_,r1.int,k _ H (Same.refl _) (.int _)⟩) h
theorem gk (h:SE X b G .val e f) (he:∀ whole,isTrue e X.env whole=(do let v ← whole;standAt e.pos;holding [v] (truthy v)):=by intro _;rfl):ST X b G e (tV f):=
 PT.imp (JB h he)<|by
  rintro σ H Q ⟨Ow,env,c,E,hf,k⟩
  unfold tV at hf
  cases q1:f env with
  | none=>rw[q1] at hf;cases hf
  | some p1=>
   rw[q1] at hf
   refine⟨Ow,env,p1,E,q1,λv1 H1 s1 r1=>?_⟩
   cases p1 with
   | bl d=>cases r1;cases hf;exact⟨_,rfl,k H1 s1⟩
   | _=>cases hf
theorem ud {g:Env->Option Bool}(h:ST X b G e g):ST X b G (.UnaryOp .Not e pos) (tN g):=
 PT.imp (JF h)<|by
  rintro σ H Q ⟨Ow,env,c,E,hf,k⟩
  unfold tN at hf
  cases q1:g env with
  | none=>rw[q1] at hf;cases hf
  | some p1=>rw[q1] at hf;cases hf;exact⟨Ow,env,p1,E,q1,λH' s=>k H' s⟩
abbrev SW (X:Cx) (b:BX) (G:List Nat) (e:Expr) (g:Env->Option Bool):Prop:=PW X e (tMT b G g)
theorem PW.imp {t u:TT}(h:PW X e t) (i:∀ σ H Q,u σ H Q->t σ H Q):PW X e u:=λwh pins s σ H Q I q=>h wh pins s σ H Q I (i σ H Q q)
variable {g1 g2:Env->Option Bool}
theorem Ij (h:ST X b G e g1):SW X b G (.BoolOp .And [e] pos) g1:=Hm h
theorem qG (h:ST X b G e g1):SW X b G (.BoolOp .Or [e] pos) g1:=JC h
theorem K8 {rest:List Expr}(h1:ST X b G e1 g1) (h2:SW X b G (.BoolOp .And (e2::rest) pos) g2):SW X b G (.BoolOp .And (e1::e2::rest) pos) (tA g1 g2):=
 PW.imp (JD h1 h2)<|by
  rintro σ H Q ⟨Ow,env,c,E,hf,k⟩
  unfold tA at hf
  cases q1:g1 env with
  | none=>rw[q1] at hf;cases hf
  | some p1=>
   rw[q1] at hf
   refine⟨Ow,env,p1,E,q1,λH1 s1=>?_⟩
   cases p1 with
   | true=>exact⟨Ow,env,c,E.up s1,hf,λH' s=>k H' (s1.trans s)⟩
   | false=>cases hf;exact k H1 s1
theorem rB {rest:List Expr}(h1:ST X b G e1 g1) (h2:SW X b G (.BoolOp .Or (e2::rest) pos) g2):SW X b G (.BoolOp .Or (e1::e2::rest) pos) (tO g1 g2):=
 PW.imp (L_ h1 h2)<|by
  rintro σ H Q ⟨Ow,env,c,E,hf,k⟩
  unfold tO at hf
  cases q1:g1 env with
  | none=>rw[q1] at hf;cases hf
  | some p1=>
   rw[q1] at hf
   refine⟨Ow,env,p1,E,q1,λH1 s1=>?_⟩
   cases p1 with
   | false=>exact⟨Ow,env,c,E.up s1,hf,λH' s=>k H' (s1.trans s)⟩
   | true=>cases hf;exact k H1 s1
theorem SW.st (h:SW X b G e g1):ST X b G e g1:=h _
theorem Nb {c:Expr}(hc:ST X b G c g1) (h1:SE X b G m e1 f1) (h2:SE X b G m e2 f2):SE X b G m (.IfExp c e1 e2 pos) (bIf g1 f1 f2):=
 PE.imp (Ek hc h1 h2)<|by
  rintro σ H Q ⟨Ow,env,p,E,hf,k⟩
  unfold bIf at hf
  cases q1:g1 env with
  | none=>rw[q1] at hf;cases hf
  | some c=>
   rw[q1] at hf
   refine⟨Ow,env,c,E,q1,λH1 s1=>?_⟩
   cases c with
   | true=>exact⟨Ow,env,p,E.up s1,hf,λv H' s r=>k v H' (s1.trans s) (r.down s1)⟩
   | false=>exact⟨Ow,env,p,E.up s1,hf,λv H' s r=>k v H' (s1.trans s) (r.down s1)⟩
end
end MR
namespace MR
open PySem L2
def ArA (b:BX) (Ow:Addr->Prop) (L:Bool) (H:Hp) (a:Addr):Prop:=Bs b Ow a\/(L=true/\∃ vs,H a=some (.lst vs))
def tMA (b:BX) (G:List Nat) (L:Bool) (g:Env->Option (List PV)):TA:=fun σ H Q=>∃ Ow env ps,ER b Ow G σ env H/\g env=some ps/\∀ vs H',Same H H'->Reps b.C (ArA b Ow L H') H' vs ps->Q vs H'
abbrev SA (X:Cx) (b:BX) (G:List Nat) (L:Bool) (es:List Expr) (g:Env->Option (List PV)):Prop:=PA X es (tMA b G L g)
theorem PA.imp {X:Cx}{es:List Expr}{t u:TA}(h:PA X es t) (i:∀ σ H Q,u σ H Q->t σ H Q):PA X es u:=λpos pins s σ H Q I q=>h pos pins s σ H Q I (i σ H Q q)
section
variable {X:Cx}{b:BX}{G:List Nat}{m m1 m2:Md}{L:Bool}{e e1 e2:Expr}{es:List Expr}{f f1 f2:Env->Option PV}{g:Env->Option (List PV)}{pos p:Pos}
theorem aB:SA X b G L [] aF:=PA.imp gf<|by rintro σ H Q ⟨Ow,env,ps,E,hg,k⟩;cases hg;exact k [] H (Same.refl _) .nil
theorem aj (h1:SE X b G .val e f) (h2:SA X b G L es g) (hs:starEach (e::es) X.env=(false,eval e X.env)::starEach es X.env:=by rfl):SA X b G L (e::es) (ak f g):=
 PA.imp (cO h1 h2 hs)<|by
  rintro σ H Q ⟨Ow,env,ps,E,hg,k⟩
  unfold ak at hg
  cases q1:f env with
  | none=>rw[q1] at hg;cases hg
  | some p1=>
   rw[q1] at hg
   cases q2:g env with
   | none=>rw[q2] at hg;cases hg
   | some ps'=>
    rw[q2] at hg
    cases hg
    exact⟨Ow,env,p1,E,q1,λv H1 s1 r1=>⟨Ow,env,ps',E.up s1,q2,λvs H2 s2 r2=>k (v::vs) H2 (s1.trans s2) (.cons (Rep.ex (λa o h=>⟨λq=>⟨s2 _ _ h,.inl q⟩,λ_=>s2 _ _ h⟩) r1) r2)⟩⟩
theorem wZ {b:BX}{Ow:Addr->Prop}{H:Hp}{vs:List V}{ps:List PV}(h:Reps b.C (ArA b Ow false H) H vs ps):Reps b.C (Bs b Ow) H vs ps:=h.ex (cZ λa o _ q=>q.elim id λz=>by cases z.1)
theorem b8 (h:SA X b G false es g):SE X b G .own (.List es pos) (cF g):=PE.imp (J7 h)<|by
 rintro σ H Q ⟨Ow,env,p,E,hf,k⟩
 unfold cF at hf
 cases q1:g env with
 | none=>rw[q1] at hf;cases hf
 | some ps=>
  rw[q1] at hf
  simp only[Option.bind_some] at hf
  split at hf
  ·rename_i hl
   cases hf
   refine⟨Ow,env,ps,E,q1,λvs H1 s1 r=>⟨jw (by rw[r.length];exact hl),λq hq=>k _ _ (s1.trans (bh hq _)) (Res.down s1 (gh hq (wZ r)))⟩⟩
  ·cases hf
theorem lU {x1}(h:SA X b G false es g):SE X b G .val (.Tuple es x1 pos) (my g):=PE.imp (J6 h)<|by
 rintro σ H Q ⟨Ow,env,p,E,hf,k⟩
 unfold my at hf
 cases q1:g env with
 | none=>rw[q1] at hf;cases hf
 | some ps=>
  rw[q1] at hf
  simp only[Option.bind_some] at hf
  split at hf
  ·rename_i hl
   cases hf
   refine⟨Ow,env,ps,E,q1,λvs H1 s1 r=>⟨jw (by rw[r.length];exact hl),λq hq=>k _ _ (s1.trans (bh hq _)) (Ii hq (wZ r))⟩⟩
  ·cases hf
theorem Nf:SE X b G .own (.Dict [] [] pos) (bC (.dK [])):=PE.imp Ff<|by
 rintro σ H Q ⟨Ow,env,p,E,hf,k⟩ q hq
 cases hf
 exact k _ _ (bh hq _) ⟨q,rfl,hq,[],bK,.nil⟩
theorem Ng:SE X b G .own (.Dict [] [] pos) (bC (.dT [])):=PE.imp Fg<|by
 rintro σ H Q ⟨Ow,env,p,E,hf,k⟩ q hq
 cases hf
 exact k _ _ (bh hq _) ⟨q,rfl,hq,[],bK,.nil⟩
@[simp] noncomputable def ixP:PV->PV->Option PV
 | .lst xs,.int i=>atI xs i
 | .frz xs,.int i=>atI xs i
 | .tup xs,.int i=>atI xs i
 | .ktp xs,.int i=>atI xs i
 | .str x,.int i=>if x.length<=1000000 then (atI x.cps.toList i).map λc=>.str ⟨#[c]⟩ else none
 | .dK kvs,y=>(keyOf y).bind λk=>jx kvs k
 | .dT kvs,.tup ys=>(keysB ys).bind λk=>jx kvs k
 | _,_=>none
theorem Reps.atI {C:MC}{A:Addr->Prop}{H:Hp}{vs:List V}{ps:List PV}{i:Int}{p:PV}(h:Reps C A H vs ps) (e:atI ps i=some p):∃ v,L2.atI vs i=some v/\Rep C A H v p:=by
 unfold L2.atI at e ⊢
 rw[h.length]
 cases q:ixN ps.length i with
 | none=>rw[q] at e;cases e
 | some j=>rw[q] at e;exact h.get e
theorem aY {j:Nat}(hr:Room j X.A) (h1:SE X b G m1 e1 f1) (h2:SE X b G m2 e2 f2) (hs:zB e2:=by intro _ _;rfl) (hs':Fb e2:=by intro _ _;rfl) (hK:X.K=b.C.K:=by rfl):SE X b G .val (.Subscript e1 e2 pos) (b2 ixP f1 f2):=by
 refine PE.imp (PE.or (MN (r:=rIx b.C.K) (by rw[← hK];exact Kh) h1.bor h2.bor hs) (HH (wW hr) h1.bor h2.bor hs')) fun σ H Q h=>?_
 obtain⟨Ow,env,p,E,hf,k⟩:=h
 unfold b2 at hf
 cases q1:f1 env with
 | none=>rw[q1] at hf;cases hf
 | some p1=>
  rw[q1] at hf
  cases q2:f2 env with
  | none=>rw[q2] at hf;cases hf
  | some p2=>
   rw[q2] at hf
   simp only[Option.bind_some] at hf
   have step:∀ (R:V->V->Hp->VK->Prop),(∀ H2 v1 v2,RepB b.C (Bs b Ow) H2 v1 p1->RepB b.C (Bs b Ow) H2 v2 p2->Same H H2->R v1 v2 H2 Q)->tM b G .bor f1 σ H λx H1=>tM b G .bor f2 σ H1 λy H2=>R x y H2 Q:=λR hR=>
    ⟨Ow,env,p1,E,q1,λv1 H1 s1 r1=>⟨Ow,env,p2,E.up s1,q2,λv2 H2 s2 r2=>hR H2 v1 v2 (Res.up (m:=.bor) r1 s2) r2 (s1.trans s2)⟩⟩
   unfold ixP at hf
   split at hf
   ·refine .inl (step _ λH2 v1 v2 r1 r2 s=>?_)
    obtain⟨a,vs,rfl,ha,ra⟩:=r1.lst
    obtain⟨v,hv,rv⟩:=ra.atI hf
    rw[r2.int]
    exact .inl ⟨a,vs,_,v,rfl,rfl,SqL.of ha,hv,k v H2 s rv⟩
   ·refine .inl (step _ λH2 v1 v2 r1 r2 s=>?_)
    obtain⟨a,vs,rfl,ha,ra⟩:=r1.frz
    obtain⟨v,hv,rv⟩:=ra.atI hf
    rw[r2.int]
    exact .inl ⟨a,vs,_,v,rfl,rfl,ha,hv,k v H2 s rv⟩
   ·refine .inl (step _ λH2 v1 v2 r1 r2 s=>?_)
    obtain⟨a,vs,rfl,ha,ra⟩:=r1.tup
    obtain⟨v,hv,rv⟩:=ra.atI hf
    rw[r2.int]
    exact .inr (.inl ⟨a,vs,_,v,rfl,rfl,ha.sq,hv,k v H2 s rv⟩)
   ·refine .inl (step _ λH2 v1 v2 r1 r2 s=>?_)
    obtain⟨a,vs,rfl,ha,ra⟩:=r1.ktp
    obtain⟨v,hv,rv⟩:=ra.atI hf
    rw[r2.int]
    exact .inr (.inl ⟨a,vs,_,v,rfl,rfl,ha,hv,k v H2 s rv⟩)
   ·split at hf
    ·rename_i x i hx
     cases q3:atI x.cps.toList i with
     | none=>rw[q3] at hf;cases hf
     | some c=>
      rw[q3] at hf
      cases hf
      refine .inl (step _ λH2 v1 v2 r1 r2 s=>?_)
      rw[r1.str,r2.int]
      exact .inr (.inr ⟨x,i,c,rfl,rfl,jw hx,q3,k _ H2 s (.str _)⟩)
    ·cases hf
   ·rename_i kvs
    cases q3:keyOf p2 with
    | none=>rw[q3] at hf;cases hf
    | some ky=>
     rw[q3] at hf
     simp only[Option.bind_some] at hf
     refine .inr (step (λx y H2 Q=>∃ a v,x=.ref a/\DGet X.K H2 a y (some v)/\Q v H2) λH2 v1 v2 r1 r2 s=>?_)
     obtain⟨a,kv,rfl,ha,ra⟩:=r1.dK
     rw[r2.key q3]
     unfold jx at hf
     rcases RepK.val (k:=ky) ra with ⟨v,p',h1,h2,rv⟩ | ⟨h1,h2⟩
     ·rw[h2] at hf
      cases hf
      exact⟨a,v,rfl,by rw[← h1];exact DGet.k ha,k v H2 s rv⟩
     ·rw[h2] at hf;cases hf
   ·rename_i kvs ys
    cases q3:keysB ys with
    | none=>rw[q3] at hf;cases hf
    | some ky=>
     rw[q3] at hf
     simp only[Option.bind_some] at hf
     refine .inr (step (λx y H2 Q=>∃ a v,x=.ref a/\DGet X.K H2 a y (some v)/\Q v H2) λH2 v1 v2 r1 r2 s=>?_)
     obtain⟨a,kv,rfl,ha,ra⟩:=r1.dT
     obtain⟨c,vs,rfl,hc,rc⟩:=r2.tup
     unfold jx at hf
     rcases RepT.val (k:=ky) ra with ⟨v,p',h1,h2,rv⟩ | ⟨h1,h2⟩
     ·rw[h2] at hf
      cases hf
      exact⟨a,v,rfl,by rw[← h1,hK];exact DGet.t ha (hc.key (rc.keysB q3)),k v H2 s rv⟩
     ·rw[h2] at hf;cases hf
   ·cases hf
noncomputable def gW (xs:List PV) (lo hi:Option Int):List PV:=(xs.drop (HT.sIx xs.length 0 lo)).take (HT.sIx xs.length xs.length hi - HT.sIx xs.length 0 lo)
theorem Reps.cut {C:MC}{A:Addr->Prop}{H:Hp}{vs:List V}{ps:List PV}(h:Reps C A H vs ps) (lo hi:Option Int):Reps C A H (uN vs lo hi) (gW ps lo hi):=by
 unfold uN gW
 rw[h.length]
 exact(h.drop _).take _
noncomputable def oN (env:Env):Option (Option Int):=some none
@[simp] theorem Qe (env:Env):oN env=(some none):=id rfl
noncomputable def oS (f:Env->Option PV) (env:Env):Option (Option Int):=(f env).bind λp=>match p with | .int i=>some (some i) | _=>none
@[simp] theorem Qf (f:Env->Option PV) (env:Env):oS f env=((f env).bind λp=>match p with | .int i=>some (some i) | _=>none):=id rfl
def tMO (b:BX) (G:List Nat) (f:Env->Option (Option Int)):TO:=fun σ H Q=>∃ Ow env o,ER b Ow G σ env H/\f env=some o/\∀ H',Same H H'->Q o H'
theorem PO.imp {x:Option Expr}{t u:TO}(h:PO X x t) (i:∀ σ H Q,u σ H Q->t σ H Q):PO X x u:=by
 intro pins s σ H Q I q
 exact h pins s σ H Q I (i σ H Q q)
abbrev SO (X:Cx) (b:BX) (G:List Nat) (e:Option Expr) (f:Env->Option (Option Int)):Prop:=PO X e (tMO b G f)
theorem dj:SO X b G none oN:=PO.imp HR<|by rintro σ H Q ⟨Ow,env,o,E,hf,k⟩;cases hf;exact k H (Same.refl _)
theorem bF (h:SE X b G m e f):SO X b G (some e) (oS f):=PO.imp (HW h.bor)<|by
 rintro σ H Q ⟨Ow,env,o,E,hf,k⟩
 unfold oS at hf
 cases q1:f env with
 | none=>rw[q1] at hf;cases hf
 | some p1=>
  rw[q1] at hf
  refine⟨Ow,env,p1,E,q1,λv H1 s1 r1=>?_⟩
  have r1':RepB b.C (Bs b Ow) H1 v p1:=r1
  cases p1 <;> simp only[Option.bind_some] at hf <;> cases hf
  exact⟨_,r1'.int,k H1 s1⟩
noncomputable def bSl (f:Env->Option PV) (lo hi:Env->Option (Option Int)) (env:Env):Option PV:=(f env).bind λx=>(lo env).bind λl=>(hi env).bind λh=>match x with
 | .lst xs=>some (.lst (gW xs l h))
 | .frz xs=>some (.lst (gW xs l h))
 | .str x=>if x.length<=1000000 then some (.str (cQ x l h)) else none
 | _=>none
@[simp] theorem PJ (f:Env->Option PV) (lo hi:Env->Option (Option Int)) (env:Env):bSl f lo hi env=((f env).bind λx=>(lo env).bind λl=>(hi env).bind λh=>match x with
 | .lst xs=>some (.lst (gW xs l h))
 | .frz xs=>some (.lst (gW xs l h))
 | .str x=>if x.length<=1000000 then some (.str (cQ x l h)) else none
 | _=>none):=id rfl
theorem dF {lo hi:Option Expr}{p2:Pos}{fl fh:Env->Option (Option Int)}(h1:SE X b G m e f) (hl:SO X b G lo fl) (hh:SO X b G hi fh) (hK:X.K=b.C.K:=by rfl):SE X b G .val (.Subscript e (.Slice lo hi none p2) pos) (bSl f fl fh):=by
 refine PE.imp (Fi (r:=Kz b.C.K) (by rw[← hK];exact KC) h1.bor hl hh) fun σ H Q ⟨Ow,env,p,E,hf,k⟩=>?_
 unfold bSl at hf
 cases q1:f env with
 | none=>rw[q1] at hf;cases hf
 | some p1=>
  rw[q1] at hf
  cases q2:fl env with
  | none=>rw[q2] at hf;cases hf
  | some l=>
   rw[q2] at hf
   cases q3:fh env with
   | none=>rw[q3] at hf;cases hf
   | some h=>
    rw[q3] at hf
    refine⟨Ow,env,p1,E,q1,λv H1 s1 r1=>⟨Ow,env,l,E.up s1,q2,λH2 s2=>⟨Ow,env,h,E.up (s1.trans s2),q3,λH3 s3=>?_⟩⟩⟩
    have r1':RepB b.C (Bs b Ow) H3 v p1:=Res.up (m:=.bor) r1 (s2.trans s3)
    cases p1 <;> simp only[Option.bind_some] at hf
    case lst xs=>
     cases hf
     obtain⟨a,vs,rfl,ha,ra⟩:=r1'.lst
     exact .inl ⟨a,vs,rfl,SqL.of ha,λq hq=>k _ _ (s1.trans (s2.trans (s3.trans (bh hq _)))) (Res.val (m:=.own) E (λz=>nomatch z) (Res.down (s1.trans (s2.trans s3)) (gh hq (ra.cut l h))))⟩
    case frz xs=>
     cases hf
     obtain⟨a,vs,rfl,ha,ra⟩:=r1'.frz
     exact .inl ⟨a,vs,rfl,ha,λq hq=>k _ _ (s1.trans (s2.trans (s3.trans (bh hq _)))) (Res.val (m:=.own) E (λz=>nomatch z) (Res.down (s1.trans (s2.trans s3)) (gh hq (ra.cut l h))))⟩
    case str x=>
     split at hf
     ·rename_i hx
      cases hf
      exact .inr ⟨x,r1'.str,jw hx,k _ _ (s1.trans (s2.trans s3)) (.str _)⟩
     ·cases hf
    all_goals cases hf
theorem ue {id:String}{x:Str}{r:List V->Hp->VK->Prop}{g:PV->Option PV}(hc:CallR X (.builtin id) r) (hr:Op1 b m (λv H Q=>r [v] H Q) g) (hm:X.mg x=none) (hv:bootBuiltins x=some (.builtin id)) (h:SE X b G m1 e f)
  (hg:Gl X x:=by rfl) (hn:x ≠ "__name__" := by decide) (hdb:(x == ("__debug__" : Str))=false:=by decide) (he:starEach [e] X.env=(false,eval e X.env)::starEach [] X.env:=by rfl):
  SE X b G m (.Call (.Name x p) [e] [] pos) (b1 g f):=
 PE.imp (xH hc hg hm hv (cO h.bor gf he) hn hdb he rfl) fun σ H Q h=>Ax hr h
theorem Ik {id:String}{x:Str}{r:List V->Hp->VK->Prop}{g:PV->Option PV}(hc:CallR X (.type id) r) (hr:Op1 b m (λv H Q=>r [v] H Q) g) (hm:X.mg x=none) (hv:bootBuiltins x=some (.type id)) (h:SE X b G m1 e f)
  (hg:Gl X x:=by rfl) (hn:x ≠ "__name__" := by decide) (hdb:(x == ("__debug__" : Str))=false:=by decide) (he:starEach [e] X.env=(false,eval e X.env)::starEach [] X.env:=by rfl):
  SE X b G m (.Call (.Name x p) [e] [] pos) (b1 g f):=
 PE.imp (Cr hc hg hm hv (cO h.bor gf he) hn hdb he rfl) fun σ H Q h=>Ax hr h
@[simp] noncomputable def lenV:PV->Option PV
 | .lst xs=>some (.int xs.length)
 | .frz xs=>some (.int xs.length)
 | .tup xs=>some (.int xs.length)
 | .ktp xs=>some (.int xs.length)
 | .str x=>if x.length<=1000000 then some (.int x.length) else none
 | .dK kvs=>some (.int kvs.length)
 | _=>none
theorem RepK.length {C:MC}{A:Addr->Prop}{H:Hp}:∀ {vs:List (Key×V)}{ps:List (Key×PV)},RepK C A H vs ps->vs.length=ps.length
 | _,_,.nil=>rfl
 | _,_,.cons _ t=>by simp[RepK.length t]
theorem bY (hm:X.mg "len" = none) (h:SE X b G m1 e f) (hK:X.K=b.C.K:=by rfl) (hg:Gl X "len" := by rfl) (he:starEach [e] X.env=(false,eval e X.env)::starEach [] X.env:=by rfl):SE X b G .val (.Call (.Name "len" p) [e] [] pos) (b1 lenV f):=by
 refine ue (CallR.or (CallR.or xO xP) CP) (λOw H v1 p1 p Q hn r1 e k=>?_) hm PySem.boot_len h hg (by decide) (by decide) he
 rw[hK]
 cases p1 <;> simp only[lenV] at e
 case lst xs=>cases e;obtain⟨a,vs,rfl,ha,ra⟩:=r1.lst;exact .inl (.inl ⟨a,vs,rfl,.inl (SqL.of ha),by rw[ra.length];exact k _ H (Same.refl _) (.int _)⟩)
 case frz xs=>cases e;obtain⟨a,vs,rfl,ha,ra⟩:=r1.frz;exact .inl (.inl ⟨a,vs,rfl,.inl ha,by rw[ra.length];exact k _ H (Same.refl _) (.int _)⟩)
 case tup xs=>cases e;obtain⟨a,vs,rfl,ha,ra⟩:=r1.tup;exact .inl (.inl ⟨a,vs,rfl,.inr ha.sq,by rw[ra.length];exact k _ H (Same.refl _) (.int _)⟩)
 case ktp xs=>cases e;obtain⟨a,vs,rfl,ha,ra⟩:=r1.ktp;exact .inl (.inl ⟨a,vs,rfl,.inr ha,by rw[ra.length];exact k _ H (Same.refl _) (.int _)⟩)
 case str x=>
  split at e
  ·rename_i hx
   cases e
   rw[r1.str]
   exact .inl (.inr ⟨x,rfl,jw hx,k _ H (Same.refl _) (.int _)⟩)
  ·cases e
 case dK kvs=>cases e;obtain⟨a,vs,rfl,ha,ra⟩:=r1.dK;exact .inr ⟨a,vs,rfl,ha,by rw[ra.length];exact k _ H (Same.refl _) (.int _)⟩
 all_goals cases e
def w5:Key->PV
 | .inl i=>.int i
 | .inr x=>.str x
@[simp] noncomputable def lQ:PV->Option PV
 | .lst xs=>some (.lst xs)
 | .frz xs=>some (.lst xs)
 | .tup xs=>some (.lst xs)
 | .ktp xs=>some (.lst xs)
 | .dK kvs=>some (.lst (kvs.map λkv=>w5 kv.1))
 | _=>none
theorem Il {C:MC}{A:Addr->Prop}{H:Hp}(k:Key):Rep C A H (kV k) (w5 k):=by cases k with | inl i=>exact .int i | inr x=>exact .str x
theorem RepK.keys {C:MC}{A:Addr->Prop}{H:Hp}:∀ {vs:List (Key×V)}{ps:List (Key×PV)},RepK C A H vs ps->Reps C A H (vs.map λkv=>kV kv.1) (ps.map λkv=>w5 kv.1)
 | _,_,.nil=>.nil
 | _,_,.cons (k:=k) _ t=>.cons (Il k) (RepK.keys t)
theorem rC (hm:X.mg "list" = none) (h:SE X b G m1 e f) (hcm:X.calm=true:=by rfl) (hK:X.K=b.C.K:=by rfl) (hg:Gl X "list" := by rfl) (he:starEach [e] X.env=(false,eval e X.env)::starEach [] X.env:=by rfl):SE X b G .own (.Call (.Name "list" p) [e] [] pos) (b1 lQ f):=by
 refine Ik (CallR.or xQ (uP hcm)) (λOw H v1 p1 p Q hn r1 e k=>?_) hm PyProof.Rows.boot_list h hg (by decide) (by decide) he
 rw[hK]
 cases p1 <;> simp only[lQ] at e <;> cases e
 case lst xs=>obtain⟨a,vs,rfl,ha,ra⟩:=r1.lst;exact .inl ⟨a,vs,rfl,.inl (SqL.of ha),λl hl=>k _ _ (bh hl _) (gh hl ra)⟩
 case frz xs=>obtain⟨a,vs,rfl,ha,ra⟩:=r1.frz;exact .inl ⟨a,vs,rfl,.inl ha,λl hl=>k _ _ (bh hl _) (gh hl ra)⟩
 case tup xs=>obtain⟨a,vs,rfl,ha,ra⟩:=r1.tup;exact .inl ⟨a,vs,rfl,.inr ha.sq,λl hl=>k _ _ (bh hl _) (gh hl ra)⟩
 case ktp xs=>obtain⟨a,vs,rfl,ha,ra⟩:=r1.ktp;exact .inl ⟨a,vs,rfl,.inr ha,λl hl=>k _ _ (bh hl _) (gh hl ra)⟩
 case dK kvs=>obtain⟨a,vs,rfl,ha,ra⟩:=r1.dK;exact .inr ⟨a,vs,rfl,ha,λl hl=>k _ _ (bh hl _) (gh hl ra.keys)⟩
@[simp] def bools:List PV->Option (List Bool)
 | []=>some []
 | .bl c::r=>(bools r).map (c::·)
 | _::_=>none
theorem Reps.bools {C:MC}{A:Addr->Prop}{H:Hp}:∀ {vs:List V}{ps:List PV}{bs:List Bool},Reps C A H vs ps->bools ps=some bs->vs=bs.map V.bl
 | _,_,_,.nil,e=>by cases e;rfl
 | _,_,_,.cons (p:=p) (ps:=ps) h t,e=>by
  cases p <;> simp only[MR.bools] at e <;> first | cases e | skip
  rename_i c
  cases q:MR.bools ps with
  | none=>rw[q] at e;cases e
  | some bs=>rw[q] at e;cases e;cases h;rw[Reps.bools t q];rfl
@[simp] noncomputable def mC:PV->Option PV
 | .lst xs=>(bools xs).map λbs=>.bl (bs.all id)
 | _=>none
@[simp] def FZ:PV->Option PV
 | .lst xs=>(bools xs).map λbs=>.bl (bs.any id)
 | _=>none
theorem lV (hm:X.mg "all" = none) (h:SE X b G m1 e f) (hcm:X.calm=true:=by rfl) (hg:Gl X "all" := by rfl) (he:starEach [e] X.env=(false,eval e X.env)::starEach [] X.env:=by rfl):SE X b G .val (.Call (.Name "all" p) [e] [] pos) (b1 mC f):=by
 refine ue (Fw hcm) (λOw H v1 p1 p Q hn r1 e k=>?_) hm PyProof.Rows.boot_all h hg (by decide) (by decide) he
 cases p1 <;> simp only[mC] at e <;> first | cases e | skip
 rename_i xs
 cases q:bools xs with
 | none=>rw[q] at e;cases e
 | some bs=>
  rw[q] at e
  cases e
  obtain⟨a,vs,rfl,ha,ra⟩:=r1.lst
  have hv:=ra.bools q
  subst hv
  exact⟨a,bs,rfl,SqL.of ha,k _ H (Same.refl _) (.bl _)⟩
theorem K9 (hm:X.mg "any" = none) (h:SE X b G m1 e f) (hcm:X.calm=true:=by rfl) (hg:Gl X "any" := by rfl) (he:starEach [e] X.env=(false,eval e X.env)::starEach [] X.env:=by rfl):SE X b G .val (.Call (.Name "any" p) [e] [] pos) (b1 FZ f):=by
 refine ue (Fx hcm) (λOw H v1 p1 p Q hn r1 e k=>?_) hm PyProof.Rows.boot_any h hg (by decide) (by decide) he
 cases p1 <;> simp only[FZ] at e <;> first | cases e | skip
 rename_i xs
 cases q:bools xs with
 | none=>rw[q] at e;cases e
 | some bs=>
  rw[q] at e
  cases e
  obtain⟨a,vs,rfl,ha,ra⟩:=r1.lst
  have hv:=ra.bools q
  subst hv
  exact⟨a,bs,rfl,SqL.of ha,k _ H (Same.refl _) (.bl _)⟩
@[simp] def strsP:List PV->Option (List Str)
 | []=>some []
 | .str c::r=>(strsP r).map (c::·)
 | _::_=>none
theorem Reps.strsP {C:MC}{A:Addr->Prop}{H:Hp}:∀ {vs:List V}{ps:List PV}{bs:List Str},Reps C A H vs ps->strsP ps=some bs->vs=bs.map V.str
 | _,_,_,.nil,e=>by cases e;rfl
 | _,_,_,.cons (p:=p) (ps:=ps) h t,e=>by
  cases p <;> simp only[MR.strsP] at e <;> first | cases e | skip
  rename_i c
  cases q:MR.strsP ps with
  | none=>rw[q] at e;cases e
  | some bs=>rw[q] at e;cases e;cases h;rw[Reps.strsP t q];rfl
@[simp] def lR:PV->PV->Option PV
 | .str z,.lst xs=>(strsP xs).bind λzs=>if JoinOk z zs=true then some (.str (Str.join z zs)) else none
 | _,_=>none
@[simp] def qH:PV->PV->Option PV
 | .str z,.str y=>if (y.length == 0)=false/\z.length<=1000000 then some (.lst ((Txt.split z y).map .str)) else none
 | _,_=>none
theorem Hg {id:String}{name:Str}{apos cpos:Pos}{o:Expr}{fo:Env->Option PV}{r:V->List V->Hp->VK->Prop}{g:PV->PV->Option PV}(slot:Slot "str" name id) (hty:typeOf (.builtin id)=pure (.type "method_descriptor")) (pa:PlainAttrs "str") (hm:MtR X id r)
  (hr:Op2 b m (λx y H Q=>(∃ z,x=.str z)->r x [y] H Q) g) (hgs:∀ x y p,g x y=some p->∃ z,x=.str z) (ho:SE X b G m1 o fo) (h:SE X b G m2 e f)
  (hbase:attributeBase o name X.env (eval o X.env)=eval o X.env:=by rfl)
  (hfew:((backTo cpos (starEach [e] X.env)).all (λx=>!x.1)&&(backToKw cpos (keywordEach [] X.env)).all (λx=>x.1.isSome)
   && decide ([e].length+([]:List Keyword).length+(if ([]:List Keyword).isEmpty then 0 else 1) < 30))=true:=by rfl)
  (hline:(apos.endLine == cpos.line)=true:=by rfl) (hs:starEach [e] X.env=(false,eval e X.env)::starEach [] X.env:=by rfl):
  SE X b G m (.Call (.Attribute o name apos) [e] [] cpos) (b2 g fo f):=by
 refine PE.imp (An pa slot hty hm ho.bor (cO h.bor gf hs) hbase hfew hline hs rfl) fun σ H Q h=>?_
 obtain⟨Ow,env,p,E,hf,k⟩:=h
 unfold b2 at hf
 cases q1:fo env with
 | none=>rw[q1] at hf;cases hf
 | some p1=>
  rw[q1] at hf
  cases q2:f env with
  | none=>rw[q2] at hf;cases hf
  | some p2=>
   rw[q2] at hf
   simp only[Option.bind_some] at hf
   obtain⟨z,rfl⟩:=hgs _ _ _ hf
   refine⟨Ow,env,_,E,q1,λv1 H1 s1 r1=>?_⟩
   have r1':RepB b.C (Bs b Ow) H1 v1 (.str z):=r1
   have ev:=r1'.str
   subst ev
   refine⟨rfl,Ow,env,p2,E.up s1,q2,λv2 H2 s2 r2=>?_⟩
   exact hr Ow H2 _ v2 _ p2 p Q (λa=>(E.up (s1.trans s2)).fresh) (RepB.ex (.of_same s2) s2 r1') r2 hf (λv H' s r=>k v H' (s1.trans (s2.trans s)) (r.down (s1.trans s2))) ⟨z,rfl⟩
theorem Im:Op2 b .val (λx y H Q=>(∃ z,x=.str z)->rJoin b.C.K x [y] H Q) lR:=by
 intro Ow H v1 v2 p1 p2 p Q hn r1 r2 e k _
 unfold lR at e
 split at e
 ·rename_i z xs
  cases q:strsP xs with
  | none=>rw[q] at e;cases e
  | some zs=>
   rw[q] at e
   simp only[Option.bind_some] at e
   split at e
   ·rename_i hj
    cases e
    obtain⟨a,vs,rfl,ha,ra⟩:=r2.lst
    have hv:=ra.strsP q
    subst hv
    exact⟨z,a,zs,r1.str,rfl,SqL.of ha,hj,k _ H (Same.refl _) (.str _)⟩
   ·cases e
 ·cases e
theorem F_:Op2 b .own (λx y H Q=>(∃ z,x=.str z)->CT x [y] H Q) qH:=by
 intro Ow H v1 v2 p1 p2 p Q hn r1 r2 e k _
 unfold qH at e
 split at e
 ·rename_i z y
  split at e
  ·rename_i hj
   cases e
   refine⟨z,y,r1.str,by rw[r2.str],hj.1,hj.2,λl hl=>k _ _ (bh hl _) (gh hl (uQ _ _ (λx=>.str x) _))⟩
  ·cases e
 ·cases e
theorem oW {apos cpos:Pos}{o:Expr}{fo:Env->Option PV}(ho:SE X b G m1 o fo) (h:SE X b G m2 e f) (hK:X.K=b.C.K:=by rfl) (hbase:attributeBase o "join" X.env (eval o X.env)=eval o X.env:=by rfl)
  (hfew:((backTo cpos (starEach [e] X.env)).all (λx=>!x.1)&&(backToKw cpos (keywordEach [] X.env)).all (λx=>x.1.isSome)
   && decide ([e].length+([]:List Keyword).length+(if ([]:List Keyword).isEmpty then 0 else 1) < 30))=true:=by rfl)
  (hline:(apos.endLine == cpos.line)=true:=by rfl) (hs:starEach [e] X.env=(false,eval e X.env)::starEach [] X.env:=by rfl):
  SE X b G .val (.Call (.Attribute o "join" apos) [e] [] cpos) (b2 lR fo f):=
 Hg PySem.F.slot_str_join PySem.F.type_str_join PySem.F.plainAttrs_str (r:=rJoin b.C.K) (by rw[← hK];exact Ig) Im (λx y p e=>by
  unfold lR at e
  split at e
  ·exact⟨_,rfl⟩
  ·cases e) ho h hbase hfew hline hs
theorem Ga {apos cpos:Pos}{o:Expr}{fo:Env->Option PV}(ho:SE X b G m1 o fo) (h:SE X b G m2 e f) (hbase:attributeBase o "split" X.env (eval o X.env)=eval o X.env:=by rfl)
  (hfew:((backTo cpos (starEach [e] X.env)).all (λx=>!x.1)&&(backToKw cpos (keywordEach [] X.env)).all (λx=>x.1.isSome)
   && decide ([e].length+([]:List Keyword).length+(if ([]:List Keyword).isEmpty then 0 else 1) < 30))=true:=by rfl)
  (hline:(apos.endLine == cpos.line)=true:=by rfl) (hs:starEach [e] X.env=(false,eval e X.env)::starEach [] X.env:=by rfl):
  SE X b G .own (.Call (.Attribute o "split" apos) [e] [] cpos) (b2 qH fo f):=
 Hg PySem.F.slot_str_split PySem.F.type_str_split PySem.F.plainAttrs_str Fv F_ (λx y p e=>by
  unfold qH at e
  split at e
  ·exact⟨_,rfl⟩
  ·cases e) ho h hbase hfew hline hs
def Ret (C:MC) (A:Addr->Prop) (H:Hp) (ro:Bool) (H':Hp) (v:V) (p:PV):Prop:=match ro with
 | true=>∃ a,v=.ref a/\H a=none/\Top C (λc=>(A c\/H c=none)/\c≠a) H' a p
 | false=>Rep C (λc=>A c\/H c=none) H' v p
def spM (C:MC) (m:List PV->Option PV) (ro:Bool):Sp:=λvs H Q _=>∃ A ps p,Reps C A H vs ps/\m ps=some p/\∀ v H',Same H H'->Ret C A H ro H' v p->Q v H'
def Ba:Bool->Md
 | true=>.own
 | false=>.val
theorem Ret.res {Ow:Addr->Prop}{σ:St}{env:Env}{H H1 H':Hp}{ro:Bool}{v:V}{q:PV}(E:ER b Ow G σ env H) (s:Same H H1) (r:Ret b.C (Bs b Ow) H1 ro H' v q):Res b Ow H H' (Ba ro) v q:=by
 cases ro with
 | true=>
  obtain⟨a,rfl,h,t⟩:=r
  exact⟨a,rfl,s.free h,t.ex (cZ λc o _ z=>⟨z.1.elim id λw=>(E.up s).fresh w,z.2⟩) λo z=>z⟩
 | false=>exact Rep.ex (cZ λc o _ z=>z.elim id λw=>(E.up s).fresh w) r
theorem zG {k j:Nat}{x:Str}{ps:List Str}{mi:List PV->Option PV}{ro:Bool}(c:Cal X.prog X.w X.K X.mg X.base k x ps (spM b.C mi ro)) (hr:Room j X.A) (ha:SA X b G false (e::es) g) (hle:k<=j:=by decide) (hg:Gl X x:=by rfl)
  (hdb:(x == ("__debug__" : Str))=false:=by decide) (he:starEach (e::es) X.env=(false,eval e X.env)::starEach es X.env:=by rfl) (hpl:(backTo pos (starEach es X.env)).any (·.1)=false:=by rfl):
  SE X b G (Ba ro) (.Call (.Name x p) (e::es) [] pos) (aK mi g):=by
 refine PE.imp (Kv c hr ha hle hg hdb he hpl) ?_
 rintro σ H Q ⟨Ow,env,q,E,hf,kk⟩
 unfold aK at hf
 cases q1:g env with
 | none=>rw[q1] at hf;cases hf
 | some qs=>
  rw[q1] at hf
  refine⟨Ow,env,qs,E,q1,λvs H1 s1 r=>?_⟩
  dsimp only
  rw[List.append_nil]
  exact⟨Bs b Ow,qs,q,wZ r,hf,λv H' s' rr=>kk v H' (s1.trans s') (Ret.res E s1 rr)⟩
mutual
def noL:PV->Bool
 | .lst _=>false
 | .tup xs=>uV xs
 | .ktp xs=>uV xs
 | .frz xs=>uV xs
 | .dK kvs=>Bb kvs
 | .dT kvs=>Bc kvs
 | .obj _ fs=>x_ fs
 | _=>true
def uV:List PV->Bool
 | []=>true
 | x::xs=>noL x&&uV xs
def Bb:List (Key×PV)->Bool
 | []=>true
 | x::xs=>noL x.2&&Bb xs
def Bc:List (List Key×PV)->Bool
 | []=>true
 | x::xs=>noL x.2&&Bc xs
def x_:List (Str×PV)->Bool
 | []=>true
 | x::xs=>noL x.2&&x_ xs
end
def NL (A A':Addr->Prop) (H:Hp):Prop:=∀ a o,H a=some o->A a->A' a\/∃ vs,o=.lst vs
mutual
theorem Rep.nl {C:MC}{A A':Addr->Prop}{H:Hp}(e:NL A A' H):∀ {v:V}{p:PV},Rep C A H v p->noL p=true->Rep C A' H v p
 | _,_,.non,_=>.non
 | _,_,.bl b,_=>.bl b
 | _,_,.int i,_=>.int i
 | _,_,.str x,_=>.str x
 | _,_,.lst h q r,n=>by simp only[noL] at n;cases n
 | _,_,.lstF h r,n=>.lstF h (Reps.nl e r (by simpa only [noL] using n))
 | _,_,.lstK h r,n=>.lstK h (Reps.nl e r (by simpa only [noL] using n))
 | _,_,.tup h r,n=>.tup h (Reps.nl e r (by simpa only [noL] using n))
 | _,_,.tupC h r,n=>.tupC h (Reps.nl e r (by simpa only [noL] using n))
 | _,_,.tupK h r,n=>.tupK h (Reps.nl e r (by simpa only [noL] using n))
 | _,_,.dK h q r,n=>.dK h ((e _ _ h q).elim id λ⟨_,z⟩=>nomatch z) (RepK.nl e r (by simpa only [noL] using n))
 | _,_,.dT h q r,n=>.dT h ((e _ _ h q).elim id λ⟨_,z⟩=>nomatch z) (RepT.nl e r (by simpa only [noL] using n))
 | _,_,.obj h q r,n=>.obj h ((e _ _ h q).elim id λ⟨_,z⟩=>nomatch z) (RepF.nl e r (by simpa only [noL] using n))
theorem Reps.nl {C:MC}{A A':Addr->Prop}{H:Hp}(e:NL A A' H):∀ {v:List V}{p:List PV},Reps C A H v p->uV p=true->Reps C A' H v p
 | _,_,.nil,_=>.nil
 | _,_,.cons h t,n=>by
  simp only[uV,Bool.and_eq_true] at n
  exact .cons (Rep.nl e h n.1) (Reps.nl e t n.2)
theorem RepK.nl {C:MC}{A A':Addr->Prop}{H:Hp}(e:NL A A' H):∀ {v:List (Key×V)}{p:List (Key×PV)},RepK C A H v p->Bb p=true->RepK C A' H v p
 | _,_,.nil,_=>.nil
 | _,_,.cons h t,n=>by
  simp only[Bb,Bool.and_eq_true] at n
  exact .cons (Rep.nl e h n.1) (RepK.nl e t n.2)
theorem RepT.nl {C:MC}{A A':Addr->Prop}{H:Hp}(e:NL A A' H):∀ {v:List (List Key×V)}{p:List (List Key×PV)},RepT C A H v p->Bc p=true->RepT C A' H v p
 | _,_,.nil,_=>.nil
 | _,_,.cons h t,n=>by
  simp only[Bc,Bool.and_eq_true] at n
  exact .cons (Rep.nl e h n.1) (RepT.nl e t n.2)
theorem RepF.nl {C:MC}{A A':Addr->Prop}{H:Hp}(e:NL A A' H):∀ {v:List (Str×V)}{p:List (Str×PV)},RepF C A H v p->x_ p=true->RepF C A' H v p
 | _,_,.nil,_=>.nil
 | _,_,.cons h t,n=>by
  simp only[x_,Bool.and_eq_true] at n
  exact .cons (Rep.nl e h n.1) (RepF.nl e t n.2)
end
def lG (c:Nat) (x:Str) (f:Env->Option PV) (env:Env):Option PV:=(f env).bind λp=>match p with
 | .obj c' fs=>if c'=c then fs.lookup x else none
 | _=>none
@[simp] theorem O8 (c:Nat) (x:Str) (f:Env->Option PV) (env:Env):lG c x f env=((f env).bind λp=>match p with
 | .obj c' fs=>if c'=c then fs.lookup x else none
 | _=>none):=id rfl
theorem jO {c:Nat}{x:Str}(hc:Cls b.C.K (b.C.cl c)) (hn:NoAttr b.C.K (b.C.cl c) x) (h:SE X b G m e f) (hb:attributeBase e x X.env (eval e X.env)=eval e X.env:=by rfl) (hK:X.K=b.C.K:=by rfl):SE X b G .val (.Attribute e x pos) (lG c x f):=
 PE.imp (J3 h.bor hb)<|by
  rintro σ H Q ⟨Ow,env,p,E,hf,k⟩
  unfold lG at hf
  cases q1:f env with
  | none=>rw[q1] at hf;cases hf
  | some p1=>
   rw[q1] at hf
   refine⟨Ow,env,p1,E,q1,λv H1 s1 r1=>?_⟩
   have r1':RepB b.C (Bs b Ow) H1 v p1:=r1
   cases p1 <;> simp only[Option.bind_some] at hf <;> first | cases hf | skip
   rename_i c' fs
   split at hf
   ·rename_i hcc
    subst hcc
    obtain⟨a,dx,fv,rfl,ha,ra⟩:=r1'.obj
    obtain⟨v',hv,rv⟩:=ra.look hf
    rw[hK]
    exact⟨a,_,dx,fv,v',rfl,ha,hc,hn,hv,k v' H1 s1 rv⟩
   ·cases hf
structure CalM (P:Program) (w:World) (K:PySem.W.Frag) (mg:Str->Option Value) (base:Heap) (C:Addr) (k:Nat) (x:Str) (ps:List Str) (sp:Sp):Prop where
 ex:∃ f fd,FnOk P w K mg base CX0 k f fd ps sp/\Binds K fd ps []/\Meth K C x f
def fD (c:Nat) (x:Str) (mi:List PV->Option PV) (f:Env->Option PV) (g:Env->Option (List PV)) (env:Env):Option PV:=(f env).bind λp=>match p with
 | .obj c' fs=>if c'=c/\fs.lookup x=none then (g env).bind λps=>mi (p::ps) else none
 | _=>none
@[simp] theorem Oo (c:Nat) (x:Str) (mi:List PV->Option PV) (f:Env->Option PV) (g:Env->Option (List PV)) (env:Env):fD c x mi f g env=((f env).bind λp=>match p with
 | .obj c' fs=>if c'=c/\fs.lookup x=none then (g env).bind λps=>mi (p::ps) else none
 | _=>none):=id rfl
theorem Io {c k j:Nat}{o:Expr}{fo:Env->Option PV}{x:Str}{ps:List Str}{mi:List PV->Option PV}{ro:Bool}{apos:Pos}(cM:CalM X.prog X.w X.K X.mg X.base (b.C.cl c) k x ps (spM b.C mi ro)) (hc:Cls X.K (b.C.cl c)) (hr:Room j X.A) (ho:SE X b G .val o fo) (ha:SA X b G false (e::es) g) (hle:k<=j:=by decide)
  (hst:starEach (e::es) X.env=(false,eval e X.env)::starEach es X.env:=by rfl) (hpl:(backTo pos (starEach es X.env)).any (·.1)=false:=by rfl){pl:Sem Bool}
  (ht:eval (.Call (.Attribute o x apos) (e::es) [] pos) X.env=(do
   let ov ← eval o X.env
   standAt apos.atName
   let (f,first) ← holding [ov] (getMethod ov x pl)
   callWith pos f first (backTo pos (starEach (e::es) X.env)) (backToKw pos (keywordEach [] X.env))):=by rfl):
  SE X b G (Ba ro) (.Call (.Attribute o x apos) (e::es) [] pos) (fD c x mi fo g):=by
 obtain⟨f,fd,F,hb,hM⟩:=cM.ex
 refine PE.imp (Hy (pl:=pl) ho hc hM F (hr.mono hle) hb .nil wV ha hst hpl ht) ?_
 rintro σ H Q ⟨Ow,env,q,E,hf,kk⟩
 unfold fD at hf
 cases q1:fo env with
 | none=>rw[q1] at hf;cases hf
 | some p1=>
  rw[q1] at hf
  refine⟨Ow,env,p1,E,q1,λv H1 s1 r1=>?_⟩
  have r1v:Rep b.C (Bs b Ow) H1 v p1:=r1
  cases p1 <;> simp only[Option.bind_some] at hf <;> first | cases hf | skip
  rename_i c' fs
  split at hf
  ·rename_i hcc
   obtain⟨rfl,hno⟩:=hcc
   cases q2:g env with
   | none=>rw[q2] at hf;cases hf
   | some qs=>
    rw[q2] at hf
    obtain⟨a,dx,fv,rfl,hha,ra⟩:=RepB.obj (.inl r1v)
    refine⟨a,dx,fv,rfl,hha,ra.look0 hno,Ow,env,qs,E.up s1,q2,λvs H2 s2 r2=>?_⟩
    dsimp only
    rw[List.append_nil]
    exact⟨Bs b Ow,_::qs,q,.cons (r1v.ex (.of_same s2)) (wZ r2),hf,λv' H' s' rr=>kk v' H' (s1.trans (s2.trans s')) (Ret.res E (s1.trans s2) rr)⟩
  ·cases hf
theorem Gb {c k j:Nat}{o:Expr}{fo:Env->Option PV}{x:Str}{ps:List Str}{mi:List PV->Option PV}{ro:Bool}{apos:Pos}(cM:CalM X.prog X.w X.K X.mg X.base (b.C.cl c) k x ps (spM b.C mi ro)) (hc:Cls X.K (b.C.cl c)) (hr:Room j X.A) (ho:SE X b G .val o fo) (hle:k<=j:=by decide){pl:Sem Bool}
  (ht:eval (.Call (.Attribute o x apos) [] [] pos) X.env=(do
   let ov ← eval o X.env
   standAt apos.atName
   let (f,first) ← holding [ov] (getMethod ov x pl)
   callWith pos f first (backTo pos (starEach [] X.env)) (backToKw pos (keywordEach [] X.env))):=by rfl):
  SE X b G (Ba ro) (.Call (.Attribute o x apos) [] [] pos) (fD c x mi fo aF):=by
 obtain⟨f,fd,F,hb,hM⟩:=cM.ex
 refine PE.imp (EY (pl:=pl) ho hc hM F (hr.mono hle) hb .nil wV ht) ?_
 rintro σ H Q ⟨Ow,env,q,E,hf,kk⟩
 unfold fD at hf
 cases q1:fo env with
 | none=>rw[q1] at hf;cases hf
 | some p1=>
  rw[q1] at hf
  refine⟨Ow,env,p1,E,q1,λv H1 s1 r1=>?_⟩
  have r1v:Rep b.C (Bs b Ow) H1 v p1:=r1
  cases p1 <;> simp only[Option.bind_some] at hf <;> first | cases hf | skip
  rename_i c' fs
  split at hf
  ·rename_i hcc
   obtain⟨rfl,hno⟩:=hcc
   obtain⟨a,dx,fv,rfl,hha,ra⟩:=RepB.obj (.inl r1v)
   refine⟨a,dx,fv,rfl,hha,ra.look0 hno,?_⟩
   show spM b.C mi ro ([.ref a]++[]) H1 Q E0
   exact⟨Bs b Ow,[_],q,.cons r1v .nil,hf,λv' H' s' rr=>kk v' H' (s1.trans s') (Ret.res E s1 rr)⟩
  ·cases hf
theorem aH {k j:Nat}{x:Str}{ps:List Str}{mi:List PV->Option PV}(c:Cal X.prog X.w X.K X.mg X.base k x ps (spM b.C mi false)) (hr:Room j X.A) (ha:SA X b G false (e::es) g) (hle:k<=j:=by decide) (hg:Gl X x:=by rfl)
  (hdb:(x == ("__debug__" : Str))=false:=by decide) (he:starEach (e::es) X.env=(false,eval e X.env)::starEach es X.env:=by rfl) (hpl:(backTo pos (starEach es X.env)).any (·.1)=false:=by rfl):
  SE X b G .val (.Call (.Name x p) (e::es) [] pos) (aK mi g):=zG c hr ha hle hg hdb he hpl
theorem pL {k j:Nat}{x:Str}{ps:List Str}{mi:List PV->Option PV}(c:Cal X.prog X.w X.K X.mg X.base k x ps (spM b.C mi true)) (hr:Room j X.A) (ha:SA X b G false (e::es) g) (hle:k<=j:=by decide) (hg:Gl X x:=by rfl)
  (hdb:(x == ("__debug__" : Str))=false:=by decide) (he:starEach (e::es) X.env=(false,eval e X.env)::starEach es X.env:=by rfl) (hpl:(backTo pos (starEach es X.env)).any (·.1)=false:=by rfl):
  SE X b G .own (.Call (.Name x p) (e::es) [] pos) (aK mi g):=zG c hr ha hle hg hdb he hpl
theorem gY {c k j:Nat}{o:Expr}{fo:Env->Option PV}{x:Str}{ps:List Str}{mi:List PV->Option PV}{apos:Pos}(cM:CalM X.prog X.w X.K X.mg X.base (b.C.cl c) k x ps (spM b.C mi false)) (hc:Cls X.K (b.C.cl c)) (hr:Room j X.A) (ho:SE X b G .val o fo) (ha:SA X b G false (e::es) g) (hle:k<=j:=by decide)
  (hst:starEach (e::es) X.env=(false,eval e X.env)::starEach es X.env:=by rfl) (hpl:(backTo pos (starEach es X.env)).any (·.1)=false:=by rfl){pl:Sem Bool}
  (ht:eval (.Call (.Attribute o x apos) (e::es) [] pos) X.env=(do
   let ov ← eval o X.env
   standAt apos.atName
   let (f,first) ← holding [ov] (getMethod ov x pl)
   callWith pos f first (backTo pos (starEach (e::es) X.env)) (backToKw pos (keywordEach [] X.env))):=by rfl):
  SE X b G .val (.Call (.Attribute o x apos) (e::es) [] pos) (fD c x mi fo g):=Io (pl:=pl) cM hc hr ho ha hle hst hpl ht
theorem vL {c k j:Nat}{o:Expr}{fo:Env->Option PV}{x:Str}{ps:List Str}{mi:List PV->Option PV}{apos:Pos}(cM:CalM X.prog X.w X.K X.mg X.base (b.C.cl c) k x ps (spM b.C mi false)) (hc:Cls X.K (b.C.cl c)) (hr:Room j X.A) (ho:SE X b G .val o fo) (hle:k<=j:=by decide){pl:Sem Bool}
  (ht:eval (.Call (.Attribute o x apos) [] [] pos) X.env=(do
   let ov ← eval o X.env
   standAt apos.atName
   let (f,first) ← holding [ov] (getMethod ov x pl)
   callWith pos f first (backTo pos (starEach [] X.env)) (backToKw pos (keywordEach [] X.env))):=by rfl):
  SE X b G .val (.Call (.Attribute o x apos) [] [] pos) (fD c x mi fo aF):=Gb (pl:=pl) cM hc hr ho hle ht
end
end MR
namespace MR
open PySem L2
section
variable {b:BX}{Ow:Addr->Prop}{G:List Nat}{σ:St}{env:Env}{H H':Hp}
theorem ER.set (E:ER b Ow G σ env H){i:Nat}{v:V}{p:PV}(hi:i∉G) (r:Rep b.C (Bs b Ow) H v p) (hx:b.fx i=none):ER b Ow G (σ.set i (some v)) (env.set i (some p)) H:=by
 refine⟨by rw[List.length_set,List.length_set];exact E.len,E.same,E.live,E.new,λj q e n=>?_,λj q e n=>?_,λj k a q q' e1 n1 s1 e2 n2 s2=>?_,λk w hw=>?_⟩
 ·by_cases hj:i=j
  ·subst hj
   rw[List.getElem?_set] at e
   split at e
   ·split at e
    ·rename_i hl
     have:=Option.some.inj (Option.some.inj e)
     subst this
     exact⟨v,by rw[List.getElem?_set_self (by rw[E.len];exact hl)],r⟩
    ·cases e
   ·exact absurd rfl ‹_›
  ·rw[List.getElem?_set_ne hj] at e ⊢
   exact E.val j q e n
 ·have hj:i≠j:=λz=>hi (z▸n)
  rw[List.getElem?_set_ne hj] at e ⊢
  exact E.own j q e n
 ·have hj:i≠j:=λz=>hi (z▸n1)
  have hk:i≠k:=λz=>hi (z▸n2)
  rw[List.getElem?_set_ne hj] at e1 s1
  rw[List.getElem?_set_ne hk] at e2 s2
  exact E.sep j k a q q' e1 n1 s1 e2 n2 s2
 ·by_cases hk:i=k
  ·subst hk;rw[hx] at hw;cases hw
  ·rw[List.getElem?_set_ne hk];exact E.fix k w hw
theorem ER.setO (E:ER b Ow G σ env H){i:Nat}{a:Addr}{p:PV}{H0:Hp}{G':List Nat}(hG:∀ j,j∈G'↔(j∈G\/j=i)) (s0:Same H0 H) (hn:H0 a=none) (hE0:ER b Ow G σ env H0) (t:Top b.C (λc=>Bs b Ow c/\c≠a) H a p) (hx:b.fx i=none):
  ER b (λc=>Ow c\/c=a) G' (σ.set i (some (.ref a))) (env.set i (some p)) H/\Ex (Bs b Ow) H0 (Bs b λc=>Ow c\/c=a) H:=by
 have hx0:Ex (Bs b Ow) H0 (Bs b λc=>Ow c\/c=a) H:=λc o h=>⟨λq=>⟨s0 _ _ h,λz=>z.elim q.1 (bf h hn),q.2⟩,λ_=>s0 _ _ h⟩
 have ht:Top b.C (Bs b λc=>Ow c\/c=a) H a p:=t.ex (cZ λc o _ q=>⟨λz=>z.elim q.1.1 q.2,q.1.2⟩) λo z=>z
 refine⟨⟨by rw[List.length_set,List.length_set];exact E.len,E.same,λc w=>w.elim (E.live c) λz=>by subst z;obtain⟨o,h,_⟩:=t.live;exact⟨o,h⟩,λc w=>w.elim (E.new c) λz=>by subst z;exact hE0.same.free hn,λj q e n=>?_,λj q e n=>?_,λj k c q q' e1 n1 s1 e2 n2 s2=>?_,λk w hw=>?_⟩,hx0⟩
 ·have hj:i≠j:=λz=>n ((hG j).mpr (.inr z.symm))
  rw[List.getElem?_set_ne hj] at e ⊢
  obtain⟨v,h1,h2⟩:=hE0.val j q e λz=>n ((hG j).mpr (.inl z))
  exact⟨v,h1,h2.ex hx0⟩
 ·by_cases hj:i=j
  ·subst hj
   rw[List.getElem?_set] at e
   split at e
   ·split at e
    ·rename_i hl
     have:=Option.some.inj (Option.some.inj e)
     subst this
     exact⟨a,by rw[List.getElem?_set_self (by rw[E.len];exact hl)],.inr rfl,ht⟩
    ·cases e
   ·exact absurd rfl ‹_›
  ·rw[List.getElem?_set_ne hj] at e ⊢
   have nG:j∈G:=((hG j).mp n).elim id λz=>absurd z.symm hj
   obtain⟨c,h1,h2,h3⟩:=hE0.own j q e nG
   exact⟨c,h1,.inl h2,h3.ex hx0 λo z=>s0 _ _ z⟩
 ·have old:∀ {j:Nat}{q:PV},i≠j->j∈G'->env[j]?=some (some q)->σ[j]?=some (some (.ref c))->c≠a:=λ{j q} hj n e s=>by
   have nG:j∈G:=((hG j).mp n).elim id λz=>absurd z.symm hj
   obtain⟨c',h1,h2,h3⟩:=hE0.own j q e nG
   rw[s] at h1
   cases h1
   obtain⟨o,h4,_⟩:=h3.live
   exact bf h4 hn
  by_cases hj:i=j
  ·by_cases hk:i=k
   ·exact hj.symm.trans hk
   ·subst hj
    rw[List.getElem?_set_ne hk] at e2 s2
    have hl:i < σ.length:=by
     by_cases hl:i < σ.length
     ·exact hl
     ·rw[List.getElem?_eq_none (by rw[List.length_set];omega)] at s1;cases s1
    rw[List.getElem?_set_self hl] at s1
    cases s1
    exact absurd rfl (old hk n2 e2 s2)
  ·by_cases hk:i=k
   ·subst hk
    rw[List.getElem?_set_ne hj] at e1 s1
    have hl:i < σ.length:=by
     by_cases hl:i < σ.length
     ·exact hl
     ·rw[List.getElem?_eq_none (by rw[List.length_set];omega)] at s2;cases s2
    rw[List.getElem?_set_self hl] at s2
    cases s2
    exact absurd rfl (old hj n1 e1 s1)
   ·rw[List.getElem?_set_ne hj] at e1 s1
    rw[List.getElem?_set_ne hk] at e2 s2
    have g1:j∈G:=((hG j).mp n1).elim id λz=>absurd z.symm hj
    have g2:k∈G:=((hG k).mp n2).elim id λz=>absurd z.symm hk
    exact E.sep j k c q q' e1 g1 s1 e2 g2 s2
 ·by_cases hk:i=k
  ·subst hk;rw[hx] at hw;cases hw
  ·rw[List.getElem?_set_ne hk];exact E.fix k w hw
theorem ER.write (E:ER b Ow G σ env H){i:Nat}{a:Addr}{p p':PV}{o':HO}(hi:i∈G) (hσ:σ[i]?=some (some (.ref a))) (he:env[i]?=some (some p)) (hw:Ow a) (t:Top b.C (Bs b Ow) H a p) (t':Top b.C (Bs b Ow) (upd H a o') a p'):
  ER b Ow G σ (env.set i (some p')) (upd H a o')/\Ex (Bs b Ow) H (Bs b Ow) (upd H a o'):=by
 obtain⟨o,ho,hm⟩:=t.live
 have hx:Ex (Bs b Ow) H (Bs b Ow) (upd H a o'):=λc u h=>⟨λq=>⟨by rw[aP (λz:c=a=>q.1 (z▸hw))];exact h,q⟩,λm=>by
  have hc:c≠a:=λz=>by subst z;rw[ho] at h;cases h;rw[hm] at m;cases m
  rw[aP hc];exact h⟩
 refine⟨⟨by rw[List.length_set];exact E.len,λc u h=>?_,λc w=>?_,E.new,λj q e n=>?_,λj q e n=>?_,λj k c q q' e1 n1 s1 e2 n2 s2=>?_,E.fix⟩,hx⟩
 ·have hc:c≠a:=bf h (E.new a hw)
  rw[aP hc];exact E.same c u h
 ·by_cases hc:c=a
  ·subst hc;exact⟨o',bK⟩
  ·obtain⟨u,h⟩:=E.live c w
   exact⟨u,by rw[aP hc];exact h⟩
 ·have hj:i≠j:=λz=>n (z▸hi)
  rw[List.getElem?_set_ne hj] at e
  obtain⟨v,h1,h2⟩:=E.val j q e n
  exact⟨v,h1,h2.ex hx⟩
 ·by_cases hj:i=j
  ·subst hj
   rw[List.getElem?_set] at e
   split at e
   ·split at e
    ·have:=Option.some.inj (Option.some.inj e)
     subst this
     exact⟨a,hσ,hw,t'⟩
    ·cases e
   ·exact absurd rfl ‹_›
  ·rw[List.getElem?_set_ne hj] at e
   obtain⟨c,h1,h2,h3⟩:=E.own j q e n
   have hc:c≠a:=λz=>by subst z;exact hj (E.sep i j c p q he hi hσ e n h1)
   exact⟨c,h1,h2,h3.ex hx λu z=>by rw[aP hc];exact z⟩
 ·have back:∀ {j:Nat}{q:PV},(env.set i (some p'))[j]?=some (some q)->∃ q,env[j]?=some (some q):=λ{j q} e=>by
   by_cases hj:i=j
   ·subst hj;exact⟨p,he⟩
   ·rw[List.getElem?_set_ne hj] at e;exact⟨q,e⟩
  obtain⟨r1,e1'⟩:=back e1
  obtain⟨r2,e2'⟩:=back e2
  exact E.sep j k c r1 r2 e1' n1 s1 e2' n2 s2
theorem ER.weak {G':List Nat}(E:ER b Ow G σ env H) (h:∀ j,j∈G'->j∈G):∃ Ow',ER b Ow' G' σ env H/\Ex (Bs b Ow) H (Bs b Ow') H:=by
 refine⟨λa=>Ow a/\∃ j q,j∈G'/\env[j]?=some (some q)/\σ[j]?=some (some (.ref a)),?_⟩
 have hx:Ex (Bs b Ow) H (Bs b λa=>Ow a/\∃ j q,j∈G'/\env[j]?=some (some q)/\σ[j]?=some (some (.ref a))) H:=cZ λc o _ q=>⟨λz=>q.1 z.1,q.2⟩
 refine⟨⟨E.len,E.same,λa w=>E.live a w.1,λa w=>E.new a w.1,λi p e n=>?_,λi p e n=>?_,λi j a p q e1 n1 s1 e2 n2 s2=>E.sep i j a p q e1 (h i n1) s1 e2 (h j n2) s2,E.fix⟩,hx⟩
 ·by_cases hi:i∈G
  ·obtain⟨a,h1,h2,h3⟩:=E.own i p e hi
   refine⟨_,h1,(h3.ex hx λo z=>z).rep ⟨λz=>?_,.inr (E.new a h2)⟩⟩
   obtain⟨_,j,q,hj,e',s'⟩:=z
   have:=E.sep i j a p q e hi h1 e' (h j hj) s'
   subst this
   exact n hj
  ·obtain⟨v,h1,h2⟩:=E.val i p e hi
   exact⟨v,h1,h2.ex hx⟩
 ·obtain⟨a,h1,h2,h3⟩:=E.own i p e (h i n)
  exact⟨a,h1,⟨h2,i,p,n,e,h1⟩,h3.ex hx λo z=>z⟩
theorem ER.forget (E:ER b Ow G σ env H) (i:Nat):ER b Ow G σ (env.set i none) H:=by
 have back:∀ {j:Nat}{q:PV},(env.set i none)[j]?=some (some q)->env[j]?=some (some q):=λ{j q} e=>by
  by_cases hj:i=j
  ·subst hj
   rw[List.getElem?_set] at e
   split at e
   ·split at e <;> cases e
   ·exact absurd rfl ‹_›
  ·rw[List.getElem?_set_ne hj] at e;exact e
 exact⟨by rw[List.length_set];exact E.len,E.same,E.live,E.new,λj q e n=>E.val j q (back e) n,λj q e n=>E.own j q (back e) n,λj k a q q' e1 n1 s1 e2 n2 s2=>E.sep j k a q q' (back e1) n1 s1 (back e2) n2 s2,E.fix⟩
@[simp] noncomputable def clr:List Nat->Env->Env
 | [],env=>env
 | i::r,env=>clr r (env.set i none)
theorem ER.clr:∀ {ds:List Nat}{env:Env},ER b Ow G σ env H->ER b Ow G σ (clr ds env) H
 | [],_,E=>E
 | i::r,env,E=>ER.clr (ds:=r) (E.forget i)
end
inductive Out where
 | nx (e:Env) | bk (e:Env) | ct (e:Env) | rt (p:PV)
def Post (b:BX) (Ow:Addr->Prop) (H:Hp) (G L:List Nat) (ro:Bool) (D:Ends):Out->Prop
 | .nx e=>∀ Ow' σ' H',ER b Ow' G σ' e H'->Ex (Bs b Ow) H (Bs b Ow') H'->D.nx σ' H'
 | .bk e=>∀ Ow' σ' H',ER b Ow' L σ' e H'->Ex (Bs b Ow) H (Bs b Ow') H'->D.bk σ' H'
 | .ct e=>∀ Ow' σ' H',ER b Ow' L σ' e H'->Ex (Bs b Ow) H (Bs b Ow') H'->D.ct σ' H'
 | .rt p=>∀ v H',Same b.H0 H'->Ret b.C b.A b.H0 ro H' v p->D.rt v H'
def tS (b:BX) (G G' L:List Nat) (ro:Bool) (f:Env->Option Out):TS:=λD σ H=>∃ Ow env out,ER b Ow G σ env H/\f env=some out/\Post b Ow H G' L ro D out
abbrev SS (X:Cx) (b:BX) (G G' L:List Nat) (ro:Bool) (st:Stmt) (f:Env->Option Out):Prop:=PS X st (tS b G G' L ro f)
abbrev SSs (X:Cx) (b:BX) (G G' L:List Nat) (ro:Bool) (st:List Stmt) (f:Env->Option Out):Prop:=PSs X st (tS b G G' L ro f)
theorem PSs.imp {X:Cx}{e:List Stmt}{t u:TS}(h:PSs X e t) (i:∀ D σ H,u D σ H->t D σ H):PSs X e u:=λpins s σ H D I q=>h pins s σ H D I (i D σ H q)
theorem PS.or {X:Cx}{e:Stmt}{t u:TS}(h:PS X e t) (h':PS X e u):PS X e (λD σ H=>t D σ H\/u D σ H):=λpins s σ H D I q=>q.elim (h pins s σ H D I) (h' pins s σ H D I)
theorem Post.ex {b:BX}{Ow Ow1:Addr->Prop}{H H1:Hp}{G L:List Nat}{ro:Bool}{D:Ends}{o:Out}(e:Ex (Bs b Ow) H (Bs b Ow1) H1) (h:Post b Ow H G L ro D o):Post b Ow1 H1 G L ro D o:=by
 cases o with
 | nx e'=>exact λOw' σ' H' E x=>h Ow' σ' H' E (e.trans x)
 | bk e'=>exact λOw' σ' H' E x=>h Ow' σ' H' E (e.trans x)
 | ct e'=>exact λOw' σ' H' E x=>h Ow' σ' H' E (e.trans x)
 | rt p=>exact h
noncomputable def sNx (env:Env):Option Out:=some (.nx env)
@[simp] theorem PK (env:Env):sNx env=(some (.nx env)):=id rfl
noncomputable def sNo (env:Env):Option Out:=none
@[simp] theorem PL (env:Env):sNo env=(none):=id rfl
noncomputable def aG (f g:Env->Option Out) (env:Env):Option Out:=(f env).bind λo=>match o with | .nx e=>g e | o=>some o
@[simp] theorem O9 (f g:Env->Option Out) (env:Env):aG f g env=((f env).bind λo=>match o with | .nx e=>g e | o=>some o):=id rfl
noncomputable def aJ (i:Nat) (f:Env->Option PV) (env:Env):Option Out:=(f env).bind λp=>some (.nx (env.set i (some p)))
@[simp] theorem Ip (i:Nat) (f:Env->Option PV) (env:Env):aJ i f env=((f env).bind λp=>some (.nx (env.set i (some p)))):=id rfl
noncomputable def aW (f:Env->Option PV) (env:Env):Option Out:=(f env).bind λp=>some (.rt p)
@[simp] theorem O_ (f:Env->Option PV) (env:Env):aW f env=((f env).bind λp=>some (.rt p)):=id rfl
noncomputable def sIf (c:Env->Option Bool) (f g:Env->Option Out) (env:Env):Option Out:=(c env).bind λk=>if k=true then f env else g env
@[simp] theorem PN (c:Env->Option Bool) (f g:Env->Option Out) (env:Env):sIf c f g env=((c env).bind λk=>if k=true then f env else g env):=id rfl
noncomputable def uf (f:Env->Option PV) (env:Env):Option Out:=(f env).bind λ_=>some (.nx env)
@[simp] theorem Oq (f:Env->Option PV) (env:Env):uf f env=((f env).bind λ_=>some (.nx env)):=id rfl
noncomputable def bU (g:PV->PV->Option PV) (i:Nat) (f:Env->Option PV) (env:Env):Option Out:=(bV i env).bind λx=>(f env).bind λp=>(g x p).bind λy=>some (.nx (env.set i (some y)))
@[simp] theorem Ot (g:PV->PV->Option PV) (i:Nat) (f:Env->Option PV) (env:Env):bU g i f env=((bV i env).bind λx=>(f env).bind λp=>(g x p).bind λy=>some (.nx (env.set i (some y)))):=id rfl
noncomputable def nU (g:PV->PV->PV->Option PV) (i:Nat) (f h:Env->Option PV) (env:Env):Option Out:=(bV i env).bind λx=>(f env).bind λp=>(h env).bind λq=>(g x p q).bind λy=>some (.nx (env.set i (some y)))
@[simp] theorem Ou (g:PV->PV->PV->Option PV) (i:Nat) (f h:Env->Option PV) (env:Env):nU g i f h env=((bV i env).bind λx=>(f env).bind λp=>(h env).bind λq=>(g x p q).bind λy=>some (.nx (env.set i (some y)))):=id rfl
@[simp] noncomputable def fY:PV->PV->Option PV
 | .lst xs,p=>if xs.length < 1000000 then some (.lst (xs++[p])) else none
 | _,_=>none
noncomputable def oF {κ:Type} [DecidableEq κ] (kvs:List (κ×PV)) (k:κ) (v:PV):List (κ×PV):=
 if (kvs.any λkv=>decide (kv.1=k))=true then kvs.map (λkv=>if kv.1=k then (kv.1,v) else kv) else kvs++[(k,v)]
@[simp] noncomputable def mD:PV->PV->PV->Option PV
 | .dK kvs,k,v=>(keyOf k).bind λk=>if kvs.length < 1000000 then some (.dK (oF kvs k v)) else none
 | .dT kvs,.tup ks,v=>(keysB ks).bind λk=>if kvs.length < 1000000 then some (.dT (oF kvs k v)) else none
 | .lst xs,.int i,v=>(ixN xs.length i).map λj=>.lst (xs.set j v)
 | _,_,_=>none
def pF (f:Str) (v:PV):List (Str×PV)->List (Str×PV)
 | []=>[(f,v)]
 | (g,x)::r=>if g=f then (g,v)::r else (g,x)::pF f v r
@[simp] def fsV (c:Nat) (x:Str):PV->PV->Option PV
 | .obj c' fs,v=>if c'=c/\fs.length < 1000 then some (.obj c' (pF x v fs)) else none
 | _,_=>none
section
variable {X:Cx}{b:BX}{G G' G1 L:List Nat}{ro:Bool}{st:Stmt}{rest:List Stmt}{f g:Env->Option Out}{e e1 e2:Expr}{h h1 h2:Env->Option PV}{m m1 m2:Md}{pos:Pos}
theorem bG:SSs X b G G L ro [] sNx:=PSs.imp Hn<|by rintro D σ H ⟨Ow,env,o,E,hf,k⟩;cases hf;exact k Ow σ H E (Ex.refl _ _)
theorem au (a:SS X b G G1 L ro st f) (c:SSs X b G1 G' L ro rest g):SSs X b G G' L ro (st::rest) (aG f g):=PSs.imp (El a c)<|by
 rintro D σ H ⟨Ow,env,o,E,hf,k⟩
 unfold aG at hf
 cases q:f env with
 | none=>rw[q] at hf;cases hf
 | some o1=>
  rw[q] at hf
  refine⟨Ow,env,o1,E,q,?_⟩
  cases o1 with
  | nx e'=>exact λOw' σ' H' E' x=>⟨Ow',e',o,E',hf,k.ex x⟩
  | bk e'=>cases hf;exact k
  | ct e'=>cases hf;exact k
  | rt p=>cases hf;exact k
theorem aA (a:SS X b G G' L ro st f):SSs X b G G' L ro [st] f:=Ho a
theorem fU (c:SSs X b G1 G' L ro rest g) (hs:∀ j,j∈G1->j∈G:=by decide):SSs X b G G' L ro rest g:=PSs.imp c<|by
 rintro D σ H ⟨Ow,env,o,E,hf,k⟩
 obtain⟨Ow',E',x⟩:=E.weak hs
 exact⟨Ow',env,o,E',hf,k.ex x⟩
theorem K_:SS X b G G' L ro st sNo:=PS.imp Em<|by rintro D σ H ⟨Ow,env,o,E,hf,k⟩;cases hf
theorem aC {α β:Type}{x:Option α}{k:α->Option β}{y:β}(h:x.bind k=some y):∃ a,x=some a/\k a=some y:=by
 cases x with
 | none=>cases h
 | some a=>exact⟨a,rfl,h⟩
theorem La {i:Nat}{D:Ends}{σ:St}{H:Hp}(hi:i∉G) (hx:b.fx i=none) (q:tS b G G L ro (aJ i h) D σ H):tM b G .val h σ H λv H1=>D.nx (σ.set i (some v)) H1:=by
 obtain⟨Ow,env,o,E,hf,k⟩:=q
 obtain⟨p,hp,e⟩:=aC hf
 cases e
 exact⟨Ow,env,p,E,hp,λv H' s r=>k Ow _ H' ((E.up s).set hi r hx) (.of_same s)⟩
theorem Hh {i:Nat}{D:Ends}{σ:St}{H:Hp}(hG:∀ j,j∈G'↔(j∈G\/j=i)) (hx:b.fx i=none) (q:tS b G G' L ro (aJ i h) D σ H):tM b G .own h σ H λv H1=>D.nx (σ.set i (some v)) H1:=by
 obtain⟨Ow,env,o,E,hf,k⟩:=q
 obtain⟨p,hp,e⟩:=aC hf
 cases e
 refine⟨Ow,env,p,E,hp,?_⟩
 rintro v H' s ⟨a,ev,hn,t⟩
 subst ev
 obtain⟨E',x⟩:=(E.up s).setO hG s hn E t hx
 exact k _ _ H' E' x
theorem aZ (i:Nat){x:Str}{pos':Pos}(nd:X.N.Nodup) (he:SE X b G .val e h) (hG:i∉G:=by decide) (hx:b.fx i=none:=by first | rfl | assumption) (hi:X.N[i]?=some x:=by rfl) (hl:Loc X.env.scope x:=by first | exact Or.inl rfl | exact Or.inr rfl)
  (hs:swapsWith e (some (.Name x pos')) pos.line X.env=pure false:=by rfl) (hf:X.fn x=true\/X.env.scope.names.lookup x=some .local:=by first | exact .inl rfl | exact .inr rfl | assumption):SS X b G G L ro (.Assign [.Name x pos'] e pos) (aJ i h):=
 PS.imp (Ca nd hi hl he hs hf) λD σ H q=>La hG hx q
theorem eY (i:Nat){x:Str}{pos':Pos}(nd:X.N.Nodup) (he:SE X b G .own e h) (hG:i∈G:=by decide) (hx:b.fx i=none:=by first | rfl | assumption) (hi:X.N[i]?=some x:=by rfl) (hl:Loc X.env.scope x:=by first | exact Or.inl rfl | exact Or.inr rfl)
  (hs:swapsWith e (some (.Name x pos')) pos.line X.env=pure false:=by rfl) (hf:X.fn x=true\/X.env.scope.names.lookup x=some .local:=by first | exact .inl rfl | exact .inr rfl | assumption):SS X b G G L ro (.Assign [.Name x pos'] e pos) (aJ i h):=
 PS.imp (Ca nd hi hl he hs hf) λD σ H q=>Hh (λj=>⟨.inl,λz=>z.elim id λy=>y▸hG⟩) hx q
theorem aV (he:SE X b G .val e h):SS X b G G' L false (.Return (some e) pos) (aW h):=PS.imp (xx he)<|by
 rintro D σ H ⟨Ow,env,o,E,hf,k⟩
 obtain⟨p,hp,z1⟩:=aC hf
 clear hf
 cases z1
 exact⟨Ow,env,p,E,hp,λv H' s r=>k v H' (E.same.trans s) (Rep.ex (cZ λc o _ q=>q.2) r)⟩
theorem Lb (he:SE X b G .own e h):SS X b G G' L true (.Return (some e) pos) (aW h):=PS.imp (xx he)<|by
 rintro D σ H ⟨Ow,env,o,E,hf,k⟩
 obtain⟨p,hp,z1⟩:=aC hf
 clear hf
 cases z1
 exact⟨Ow,env,p,E,hp,λv H' s ⟨a,ev,hn,t⟩=>k v H' (E.same.trans s) ⟨a,ev,E.same.free hn,t.ex (cZ λc o _ q=>⟨q.1.2,q.2⟩) λo z=>z⟩⟩
theorem Dh (i:Nat){x:Str}{p1:Pos}(hi:i∈G:=by decide) (hN:X.N[i]?=some x:=by rfl) (hv:Vis X.env.scope x:=by first | exact Or.inl rfl | exact Or.inr (Or.inl rfl) | exact Or.inr (Or.inr rfl)) (hd:(x == ("__debug__" : Str))=false:=by decide)
  (hcd:(x == ("__classdict__" : Str))=false:=by decide):SS X b G G' L true (.Return (some (.Name x p1)) pos) (aW (bV i)):=PS.imp (xx (j_ hN hv hd hcd))<|by
 rintro D σ H ⟨Ow,env,o,E,hf,k⟩
 obtain⟨p,hp,z1⟩:=aC hf
 clear hf
 cases z1
 obtain⟨a,e,w,t⟩:=E.own i p (fJ hp) hi
 exact⟨_,e,k _ H E.same ⟨a,rfl,E.new a w,t.ex (cZ λc o _ q=>⟨q.2,λz=>q.1 (z▸w)⟩) λo z=>z⟩⟩
theorem cC {c:Expr}{k:Env->Option Bool}{sa sb:List Stmt}(hc:ST X b G c k) (ha:SSs X b G G' L ro sa f) (hb:SSs X b G G' L ro sb g):SS X b G G' L ro (.If c sa sb pos) (sIf k f g):=PS.imp (Mi hc ha hb)<|by
 rintro D σ H ⟨Ow,env,o,E,hf,kk⟩
 obtain⟨p,hp,z1⟩:=aC hf
 clear hf
 refine⟨Ow,env,p,E,hp,λH' s=>?_⟩
 cases p with
 | true=>exact Fq ⟨Ow,env,o,E.up s,z1,kk.ex (.of_same s)⟩
 | false=>exact Fp ⟨Ow,env,o,E.up s,z1,kk.ex (.of_same s)⟩
theorem Di (he:SE X b G m e h) (hs:swapsWith e none pos.line X.env=pure false:=by rfl):SS X b G G L ro (.Expr e pos) (uf h):=PS.imp (uL he.bor hs)<|by
 rintro D σ H ⟨Ow,env,o,E,hf,k⟩
 obtain⟨p,hp,z1⟩:=aC hf
 clear hf
 cases z1
 exact⟨Ow,env,p,E,hp,λv H' s r=>k Ow σ H' (E.up s) (.of_same s)⟩
theorem fG (i:Nat){x:Str}{p1 apos cpos:Pos}(he:SE X b G .val e h) (hi:i∈G:=by decide) (hN:X.N[i]?=some x:=by rfl) (hv:Vis X.env.scope x:=by first | exact Or.inl rfl | exact Or.inr (Or.inl rfl) | exact Or.inr (Or.inr rfl)) (hd:(x == ("__debug__" : Str))=false:=by decide)
  (hcd:(x == ("__classdict__" : Str))=false:=by decide) (hbase:attributeBase (.Name x p1) "append" X.env (eval (.Name x p1) X.env)=eval (.Name x p1) X.env:=by rfl)
  (hfew:((backTo cpos (starEach [e] X.env)).all (λx=>!x.1)&&(backToKw cpos (keywordEach [] X.env)).all (λx=>x.1.isSome)
   && decide ([e].length+([]:List Keyword).length+(if ([]:List Keyword).isEmpty then 0 else 1) < 30))=true:=by rfl)
  (hline:(apos.endLine == cpos.line)=true:=by rfl) (hs:starEach [e] X.env=(false,eval e X.env)::starEach [] X.env:=by rfl):
  SS X b G G L ro (.Expr (.Call (.Attribute (.Name x p1) "append" apos) [e] [] cpos) pos) (bU fY i h):=
 PS.imp (uL (An PySem.F.plainAttrs_list PySem.F.slot_list_append PySem.F.type_list_append vC (j_ hN hv hd hcd) (cO he gf hs) hbase hfew hline hs rfl))<|by
  rintro D σ H ⟨Ow,env,o,E,hf,k⟩
  obtain⟨px,hpx,z1⟩:=aC hf
  clear hf
  obtain⟨p,hp,z2⟩:=aC z1
  clear z1
  obtain⟨y,hy,z3⟩:=aC z2
  clear z2
  cases z3
  obtain⟨a,ea,w,t⟩:=E.own i px (fJ hpx) hi
  cases px <;> simp only[fY] at hy <;> first | cases hy | skip
  rename_i xs
  split at hy
  ·rename_i hl
   cases hy
   obtain⟨vs,ha,ra⟩:=id t
   refine⟨_,ea,.inl ⟨rfl,_,SqL.of ha⟩,Ow,env,p,E,hp,λv H' s r=>?_⟩
   refine⟨a,vs,v,rfl,rfl,s _ _ ha,oU (by rw[ra.length];omega),?_⟩
   have ra':Reps b.C (Bs b Ow) (upd H' a (.lst (vs++[v]))) (vs++[v]) (xs++[p]):=by
    refine(ra.ex (.of_same s)).append (.cons r .nil) |>.ex λc o h=>⟨λq=>⟨by rw[aP (λz:c=a=>q.1 (z▸w))];exact h,q⟩,λm=>?_⟩
    have hc:c≠a:=λz=>by subst z;rw[s _ _ ha] at h;cases h;cases m
    rw[aP hc];exact h
   obtain⟨E',x⟩:=(E.up s).write hi ea (fJ hpx) w (t.ex (.of_same s) λo z=>s _ _ z) (o':=.lst (vs++[v])) (p':=.lst (xs++[p])) ⟨_,bK,ra'⟩
   exact k Ow σ _ E' ((Ex.of_same s).trans x)
  ·cases hy
theorem RepK.put {C:MC}{A:Addr->Prop}{H:Hp}{k:Key}{v:V}{p:PV}(r:Rep C A H v p){kv:List (Key×V)}{kvs:List (Key×PV)}(t:RepK C A H kv kvs):RepK C A H (putK kv k v) (oF kvs k p):=by
 have hany:∀ {kv:List (Key×V)}{kvs:List (Key×PV)},RepK C A H kv kvs->(kv.any λx=>decide (x.1=k))=(kvs.any λx=>decide (x.1=k)):=by
  intro kv kvs t
  induction kv generalizing kvs with
  | nil=>cases t;rfl
  | cons x l ih=>cases t with | cons h t=>rw[List.any_cons,List.any_cons,ih t]
 have hmap:∀ {kv:List (Key×V)}{kvs:List (Key×PV)},RepK C A H kv kvs->RepK C A H (kv.map λx=>if x.1=k then (x.1,v) else x) (kvs.map λx=>if x.1=k then (x.1,p) else x):=by
  intro kv kvs t
  induction kv generalizing kvs with
  | nil=>cases t;exact .nil
  | cons x l ih=>
   cases t with
   | cons h t=>
    rw[List.map_cons,List.map_cons]
    rename_i k' v' p' ps'
    by_cases e:k'=k
    ·simp only[e,if_true];exact .cons r (ih t)
    ·simp only[e,if_false];exact .cons h (ih t)
 have happ:∀ {kv:List (Key×V)}{kvs:List (Key×PV)},RepK C A H kv kvs->RepK C A H (kv++[(k,v)]) (kvs++[(k,p)]):=by
  intro kv kvs t
  induction kv generalizing kvs with
  | nil=>cases t;exact .cons r .nil
  | cons x l ih=>cases t with | cons h t=>exact .cons h (ih t)
 unfold putK oF
 rw[hany t]
 split
 ·exact hmap t
 ·exact happ t
theorem RepT.put {C:MC}{A:Addr->Prop}{H:Hp}{k:List Key}{v:V}{p:PV}(r:Rep C A H v p){kv:List (List Key×V)}{kvs:List (List Key×PV)}(t:RepT C A H kv kvs):RepT C A H (putK kv k v) (oF kvs k p):=by
 have hany:∀ {kv:List (List Key×V)}{kvs:List (List Key×PV)},RepT C A H kv kvs->(kv.any λx=>decide (x.1=k))=(kvs.any λx=>decide (x.1=k)):=by
  intro kv kvs t
  induction kv generalizing kvs with
  | nil=>cases t;rfl
  | cons x l ih=>cases t with | cons h t=>rw[List.any_cons,List.any_cons,ih t]
 have hmap:∀ {kv:List (List Key×V)}{kvs:List (List Key×PV)},RepT C A H kv kvs->RepT C A H (kv.map λx=>if x.1=k then (x.1,v) else x) (kvs.map λx=>if x.1=k then (x.1,p) else x):=by
  intro kv kvs t
  induction kv generalizing kvs with
  | nil=>cases t;exact .nil
  | cons x l ih=>
   cases t with
   | cons h t=>
    rw[List.map_cons,List.map_cons]
    rename_i k' v' p' ps'
    by_cases e:k'=k
    ·simp only[e,if_true];exact .cons r (ih t)
    ·simp only[e,if_false];exact .cons h (ih t)
 have happ:∀ {kv:List (List Key×V)}{kvs:List (List Key×PV)},RepT C A H kv kvs->RepT C A H (kv++[(k,v)]) (kvs++[(k,p)]):=by
  intro kv kvs t
  induction kv generalizing kvs with
  | nil=>cases t;exact .cons r .nil
  | cons x l ih=>cases t with | cons h t=>exact .cons h (ih t)
 unfold putK oF
 rw[hany t]
 split
 ·exact hmap t
 ·exact happ t
theorem RepT.length {C:MC}{A:Addr->Prop}{H:Hp}:∀ {vs:List (List Key×V)}{ps:List (List Key×PV)},RepT C A H vs ps->vs.length=ps.length
 | _,_,.nil=>rfl
 | _,_,.cons _ t=>by simp[RepT.length t]
theorem RepF.length {C:MC}{A:Addr->Prop}{H:Hp}:∀ {vs:List (Str×V)}{ps:List (Str×PV)},RepF C A H vs ps->vs.length=ps.length
 | _,_,.nil=>rfl
 | _,_,.cons _ t=>by simp[RepF.length t]
theorem RepF.put {C:MC}{A:Addr->Prop}{H:Hp}{k:Str}{v:V}{p:PV}(r:Rep C A H v p):∀ {kv:List (Str×V)}{kvs:List (Str×PV)},RepF C A H kv kvs->RepF C A H (gR k v kv) (pF k p kvs)
 | _,_,.nil=>.cons r .nil
 | _,_,.cons (k:=k') h t=>by
  unfold gR pF
  split
  ·exact .cons r t
  ·exact .cons h (RepF.put r t)
theorem nj {Ow:Addr->Prop}{H:Hp}{a:Addr}{o o':HO}(w:Ow a) (ha:H a=some o) (hm:Ar o=true):Ex (Bs b Ow) H (Bs b Ow) (upd H a o'):=λc u h=>⟨λq=>⟨by rw[aP (λz:c=a=>q.1 (z▸w))];exact h,q⟩,λm=>by
 have hc:c≠a:=λz=>by subst z;rw[ha] at h;cases h;rw[hm] at m;cases m
 rw[aP hc];exact h⟩
theorem rD (i:Nat){x:Str}{p1 p2:Pos}{j:Nat}(hr:Room j X.A) (hk:SE X b G .val e1 h1) (hv':SE X b G .val e2 h2) (hi:i∈G:=by decide) (hN:X.N[i]?=some x:=by rfl) (hv:Vis X.env.scope x:=by first | exact Or.inl rfl | exact Or.inr (Or.inl rfl) | exact Or.inr (Or.inr rfl)) (hd:(x == ("__debug__" : Str))=false:=by decide)
  (hcd:(x == ("__classdict__" : Str))=false:=by decide) (hs:swapsWith e2 (some (.Subscript (.Name x p1) e1 p2)) pos.line X.env=pure false:=by rfl) (hs2:swapsWithSole [.Subscript (.Name x p1) e1 p2] e2 pos.line X.env=pure false:=by rfl) (hw:swappedStores [.Subscript (.Name x p1) e1 p2] e2 X.env=pure none:=by rfl)
  (ha1:(assignEach [.Subscript (.Name x p1) e1 p2] X.env).map (·.2)=[assign (.Subscript (.Name x p1) e1 p2) X.env]:=by rfl)
  (ha:∀ v,assign (.Subscript (.Name x p1) e1 p2) X.env v=(do
   let ov ← holding [v] (eval (.Name x p1) X.env)
   let iv ← holding [v,ov] (eval e1 X.env)
   standAt p2
   holding [v,ov,iv] (setItem ov iv v)
   release [v,ov,iv] []):=by intro _;rfl) (hK:X.K=b.C.K:=by rfl):SS X b G G L ro (.Assign [.Subscript (.Name x p1) e1 p2] e2 pos) (nU mD i h1 h2):=by
 refine PS.imp (PS.or (HJ (wW hr) (j_ hN hv hd hcd) hk hv' hs) (JQ hv' (JP (j_ hN hv hd hcd) hk set_list ha) hs2 hw ha1)) ?_
 rintro D σ H ⟨Ow,env,o,E,hf,k⟩
 obtain⟨px,hpx,z1⟩:=aC hf
 clear hf
 obtain⟨pk,hpk,z2⟩:=aC z1
 clear z1
 obtain⟨pv,hpv,z3⟩:=aC z2
 clear z2
 obtain⟨y,hy,z4⟩:=aC z3
 clear z3
 cases z4
 obtain⟨a,ea,w,t⟩:=E.own i px (fJ hpx) hi
 have fin:∀ {H2:Hp}{o':HO},Same H H2->Top b.C (Bs b Ow) (upd H2 a o') a y->D.nx σ (upd H2 a o'):=λ{H2 o'} s t'=>by
  obtain⟨E',x⟩:=(E.up s).write hi ea (fJ hpx) w (t.ex (.of_same s) λo z=>s _ _ z) t'
  exact k Ow σ _ E' ((Ex.of_same s).trans x)
 unfold mD at hy
 split at hy
 ·obtain⟨ky,hky,hy⟩:=aC hy
  split at hy
  ·rename_i hl
   cases hy
   obtain⟨kv,ha,ra⟩:=id t
   refine .inl ⟨Ow,env,pv,E,hpv,λv H1 s1 r1=>⟨_,ea,Ow,env,pk,E.up s1,hpk,λu H2 s2 r2=>?_⟩⟩
   have s:=s1.trans s2
   have eu:=RepB.key (.inl r2) hky
   subst eu
   refine⟨a,_,rfl,DPut.k (s _ _ ha) (oU (by rw[ra.length];omega)),fin s ⟨_,bK,?_⟩⟩
   exact(RepK.put (k:=ky) (Rep.ex (.of_same s2) r1) (ra.ex (.of_same s))).ex (nj w (s _ _ ha) rfl)
  ·cases hy
 ·obtain⟨ky,hky,hy⟩:=aC hy
  split at hy
  ·rename_i hl
   cases hy
   obtain⟨kv,ha,ra⟩:=id t
   refine .inl ⟨Ow,env,pv,E,hpv,λv H1 s1 r1=>⟨_,ea,Ow,env,_,E.up s1,hpk,λu H2 s2 r2=>?_⟩⟩
   have s:=s1.trans s2
   obtain⟨c,us,rfl,hc,rc⟩:=RepB.tup (.inl r2)
   refine⟨a,_,rfl,DPut.t (s _ _ ha) (by rw[hK];exact hc.key (rc.keysB hky)) (oU (by rw[ra.length];omega)),fin s ⟨_,bK,?_⟩⟩
   exact(RepT.put (k:=ky) (Rep.ex (.of_same s2) r1) (ra.ex (.of_same s))).ex (nj w (s _ _ ha) rfl)
  ·cases hy
 ·rename_i xs n
  cases q:ixN xs.length n with
  | none=>rw[q] at hy;cases hy
  | some jj=>
   rw[q] at hy
   cases hy
   obtain⟨vs,ha,ra⟩:=id t
   refine .inr ⟨Ow,env,pv,E,hpv,λv H1 s1 r1=>⟨_,ea,Ow,env,_,E.up s1,hpk,λu H2 s2 r2=>?_⟩⟩
   have s:=s1.trans s2
   have eu:=RepB.int (.inl r2)
   subst eu
   refine⟨a,vs,n,jj,rfl,rfl,s _ _ ha,by rw[ra.length];exact q,fin s ⟨_,bK,?_⟩⟩
   exact(Reps.set (Rep.ex (.of_same s2) r1) jj (ra.ex (.of_same s))).ex (nj w (s _ _ ha) rfl)
 ·cases hy
theorem nW (i:Nat){x y:Str}{p1 p2:Pos}{c:Nat}(hc:Cls X.K (b.C.cl c)) (hn:NoAttr X.K (b.C.cl c) y) (he:SE X b G .val e h) (hi:i∈G:=by decide) (hN:X.N[i]?=some x:=by rfl) (hv:Vis X.env.scope x:=by first | exact Or.inl rfl | exact Or.inr (Or.inl rfl) | exact Or.inr (Or.inr rfl)) (hd:(x == ("__debug__" : Str))=false:=by decide)
  (hcd:(x == ("__classdict__" : Str))=false:=by decide) (hs:swapsWith e (some (.Attribute (.Name x p1) y p2)) pos.line X.env=pure false:=by rfl):SS X b G G L ro (.Assign [.Attribute (.Name x p1) y p2] e pos) (bU (fsV c y) i h):=
 PS.imp (J4 (j_ hN hv hd hcd) he hs)<|by
  rintro D σ H ⟨Ow,env,o,E,hf,k⟩
  obtain⟨px,hpx,z1⟩:=aC hf
  clear hf
  obtain⟨p,hp,z2⟩:=aC z1
  clear z1
  obtain⟨y',hy,z3⟩:=aC z2
  clear z2
  cases z3
  obtain⟨a,ea,w,t⟩:=E.own i px (fJ hpx) hi
  cases px <;> simp only[fsV] at hy <;> first | cases hy | skip
  rename_i c' fs
  split at hy
  ·rename_i hcc
   obtain⟨rfl,hl⟩:=hcc
   cases hy
   obtain⟨dx,fv,ha,ra⟩:=id t
   refine⟨Ow,env,p,E,hp,λv H1 s r=>⟨_,ea,a,_,dx,fv,rfl,s _ _ ha,hc,hn,by rw[ra.length];exact hl,?_⟩⟩
   obtain⟨E',x⟩:=(E.up s).write hi ea (fJ hpx) w (t.ex (.of_same s) λo z=>s _ _ z) (o':=.ins (b.C.cl c') dx (gR y v fv)) (p':=.obj c' (pF y p fs)) ⟨dx,_,bK,(RepF.put r (ra.ex (.of_same s))).ex (nj w (s _ _ ha) rfl)⟩
   exact k Ow σ _ E' ((Ex.of_same s).trans x)
  ·cases hy
def IW (b:BX) (Ow:Addr->Prop) (fr:Bool) (H1:Hp) (J:It) (ps:List PV):Prop:=∀ Ow' H,(fr=false->Same H1 H)->Ex (Bs b Ow) H1 (Bs b Ow') H->(∀ a,H a=none->Bs b Ow' a)->
 (∀ i p,ps[i]?=some p->J.go i H/\∀ x H',J.yld i H x H'->Same H H'/\Rep b.C (Bs b Ow') H' x p)/\J.stop ps.length H
def tMI (b:BX) (G:List Nat) (fr:Bool) (g:Env->Option (List PV)):TI:=fun σ H R=>∃ Ow env ps,ER b Ow G σ env H/\g env=some ps/\∀ J H1,Same H H1->IW b Ow fr H1 J ps->R J H1
abbrev SI (X:Cx) (b:BX) (G:List Nat) (fr:Bool) (tg it:Expr) (g:Env->Option (List PV)):Prop:=PI X tg it (tMI b G fr g)
theorem PI.imp {tg it:Expr}{t u:TI}(h:PI X tg it t) (i:∀ σ H R,u σ H R->t σ H R):PI X tg it u:=λpins s σ H R I q=>h pins s σ H R I (i σ H R q)
theorem PI.or {tg it:Expr}{t u:TI}(h:PI X tg it t) (h':PI X tg it u):PI X tg it (fun σ H R=>t σ H R\/u σ H R):=λpins s σ H R I q=>q.elim (h pins s σ H R I) (h' pins s σ H R I)
def chV (x:Str):List PV:=x.cps.toList.map λc=>.str ⟨#[c]⟩
@[simp] def itV:PV->Option (List PV)
 | .lst xs=>some xs
 | .frz xs=>some xs
 | .tup xs=>some xs
 | .ktp xs=>some xs
 | .str x=>some (chV x)
 | _=>none
noncomputable def iV (f:Env->Option PV) (env:Env):Option (List PV):=(f env).bind itV
@[simp] theorem Nh (f:Env->Option PV) (env:Env):iV f env=((f env).bind itV):=id rfl
theorem uW {Ow:Addr->Prop}{fr:Bool}{H1:Hp}{a:Addr}{vs:List V}{xs:List PV}(hq:∀ Ow' H,(fr=false->Same H1 H)->Ex (Bs b Ow) H1 (Bs b Ow') H->SqL b.C.K H a vs/\Reps b.C (Bs b Ow') H vs xs):IW b Ow fr H1 (Itl b.C.K a) xs:=by
 intro Ow' H h0 h1 hn
 obtain⟨q,r⟩:=hq Ow' H h0 h1
 refine⟨λi p hp=>?_,⟨vs,q,by rw[r.length];exact Nat.le_refl _⟩⟩
 obtain⟨v,hv,rv⟩:=r.get hp
 refine⟨⟨vs,v,q,hv⟩,λx H' y=>?_⟩
 obtain⟨e,y⟩:=y
 subst e
 have e2:=y vs q
 rw[hv] at e2
 cases e2
 exact⟨Same.refl _,rv⟩
theorem Dj {Ow:Addr->Prop}{fr:Bool}{H1:Hp}{a:Addr}{vs:List V}{xs:List PV}(hq:∀ Ow' H,(fr=false->Same H1 H)->Ex (Bs b Ow) H1 (Bs b Ow') H->SqT b.C.K H a vs/\Reps b.C (Bs b Ow') H vs xs):IW b Ow fr H1 (Itt b.C.K a) xs:=by
 intro Ow' H h0 h1 hn
 obtain⟨q,r⟩:=hq Ow' H h0 h1
 refine⟨λi p hp=>?_,⟨vs,q,by rw[r.length];exact Nat.le_refl _⟩⟩
 obtain⟨v,hv,rv⟩:=r.get hp
 refine⟨⟨vs,v,q,hv⟩,λx H' y=>?_⟩
 obtain⟨e,y⟩:=y
 subst e
 have e2:=y vs q
 rw[hv] at e2
 cases e2
 exact⟨Same.refl _,rv⟩
theorem Ld {Ow:Addr->Prop}{fr:Bool}{H1:Hp}{x:Str}:IW b Ow fr H1 (Its x) (chV x):=by
 intro Ow' H h0 h1 hn
 refine⟨λi p hp=>?_,by show (chV x).length=x.cps.size;unfold chV;rw[List.length_map,Array.length_toList]⟩
 unfold chV at hp
 rw[List.getElem?_map] at hp
 cases q:x.cps.toList[i]? with
 | none=>rw[q] at hp;cases hp
 | some c=>
  rw[q] at hp
  cases hp
  have hc:x.cps[i]?=some c:=by rw[← Array.getElem?_toList];exact q
  refine⟨(Array.getElem?_eq_some_iff.mp hc).1,λv H' y=>?_⟩
  obtain⟨e,c',h',ev⟩:=y
  subst e
  rw[hc] at h'
  cases h'
  subst ev
  exact⟨Same.refl _,.str _⟩
theorem dH {tg:Expr}{fr:Bool}(he:SE X b G m e h) (hm:fr=true->m≠.bor:=by simp) (hK:X.K=b.C.K:=by rfl):SI X b G fr tg e (iV h):=by
 have hPI:=PI.or (tg:=tg) (PI.or (Hq he) (JS he)) (Kr he)
 refine PI.imp hPI ?_
 rintro σ H R ⟨Ow,env,ps,E,hg,k⟩
 rw[hK]
 obtain⟨p,hp,hps⟩:=aC hg
 have keep:∀ {H1 Ow' H2}{v:V},Same H H1->Res b Ow H H1 m v p->(fr=false->Same H1 H2)->Ex (Bs b Ow) H1 (Bs b Ow') H2->RepB b.C (Bs b Ow') H2 v p:=λ{H1 Ow' H2 v} s r h0 h1=>by
  cases fr with
  | false=>exact RepB.ex h1 (h0 rfl) r.bor
  | true=>exact .inl (Rep.ex h1 (r.val E (hm rfl)))
 unfold itV at hps
 split at hps
 ·cases hps
  refine .inl (.inl ⟨Ow,env,_,E,hp,λv H1 s r=>?_⟩)
  have r1:RepB b.C (Bs b Ow) H1 v (.lst _):=r.bor
  obtain⟨a,vs,rfl,ha,ra⟩:=r1.lst
  refine⟨a,rfl,⟨vs,SqL.of ha⟩,k _ _ s (uW (vs:=vs) λOw' H2 h0 h1=>?_)⟩
  obtain⟨a',vs',e',ha',ra'⟩:=(keep s r h0 h1).lst
  cases e'
  have:H2 a=some (.lst vs):=by
   cases fr with
   | false=>exact h0 rfl _ _ ha
   | true=>
    have rv:Rep b.C (Bs b Ow) H1 (.ref a) (.lst _):=r.val E (hm rfl)
    cases rv with
    | lst q1 q2 q3=>rw[ha] at q1;cases q1;exact((h1 _ _ ha).1 q2).1
  rw[ha'] at this
  cases this
  exact⟨SqL.of ha',ra'⟩
 ·cases hps
  refine .inl (.inl ⟨Ow,env,_,E,hp,λv H1 s r=>?_⟩)
  have r1:Rep b.C (Bs b Ow) H1 v (.frz _):=(by rcases r.bor with z | ⟨_,_,z⟩;exact z;exact z.elim)
  cases r1 with
  | lstF q1 q3=>exact⟨_,rfl,⟨_,.inl (.inr ⟨_,q1⟩)⟩,k _ _ s (uW λOw' H2 h0 h1=>⟨.inl (.inr ⟨_,(h1 _ _ q1).2 rfl⟩),q3.ex h1⟩)⟩
  | lstK q1 q3=>exact⟨_,rfl,⟨_,sqK q1⟩,k _ _ s (uW λOw' H2 h0 h1=>⟨sqK q1,q3.ex h1⟩)⟩
 ·cases hps
  refine .inl (.inr ⟨Ow,env,_,E,hp,λv H1 s r=>?_⟩)
  have r1:RepB b.C (Bs b Ow) H1 v (.tup _):=r.bor
  obtain⟨a,vs,rfl,ha,ra⟩:=r1.tup
  exact⟨a,rfl,⟨vs,ha.sq⟩,k _ _ s (Dj (vs:=vs) λOw' H2 h0 h1=>⟨(ha.ex h1).sq,ra.ex h1⟩)⟩
 ·cases hps
  refine .inl (.inr ⟨Ow,env,_,E,hp,λv H1 s r=>?_⟩)
  have r1:RepB b.C (Bs b Ow) H1 v (.ktp _):=r.bor
  rcases r1 with r1 | ⟨_,_,t⟩
  ·cases r1 with
   | tupK q1 q3=>exact⟨_,rfl,⟨_,uR q1⟩,k _ _ s (Dj λOw' H2 h0 h1=>⟨uR q1,q3.ex h1⟩)⟩
  ·exact t.elim
 ·cases hps
  refine .inr ⟨Ow,env,_,E,hp,λv H1 s r=>?_⟩
  have r1:RepB b.C (Bs b Ow) H1 v (.str _):=r.bor
  exact⟨_,r1.str,k _ _ s Ld⟩
 ·cases hps
noncomputable def rgI (i:Int):Bool:=@decide (-4611686018427387904<=i/\i < 4611686018427387904) (Classical.propDecidable _)
theorem Le {i:Int}(h:-4611686018427387904<=i) (h':i < 4611686018427387904):rgI i=true:=@decide_eq_true _ (Classical.propDecidable _) ⟨h,h'⟩
theorem Dk {i:Int}(h:rgI i=true):-(2 ^ 62)<=i/\i < 2 ^ 62:=by
 simp only[rgI,decide_eq_true_eq] at h
 exact h
noncomputable def gn (lo hi:Int):List PV:=(List.range (hi - lo).toNat).map λi=>.int (lo+(i:Nat))
noncomputable def iR1 (f:Env->Option PV) (env:Env):Option (List PV):=(f env).bind λp=>match p with
 | .int j=>if rgI j=true then some (gn 0 j) else none
 | _=>none
@[simp] theorem PP (f:Env->Option PV) (env:Env):iR1 f env=((f env).bind λp=>match p with
 | .int j=>if rgI j=true then some (gn 0 j) else none
 | _=>none):=id rfl
theorem Lf {Ow:Addr->Prop}{fr:Bool}{H1:Hp}{lo hi:Int}:IW b Ow fr H1 (Itr lo (hi - lo).toNat) (gn lo hi):=by
 intro Ow' H h0 h1 hn
 have hl:(gn lo hi).length=(hi - lo).toNat:=by unfold gn;rw[List.length_map,List.length_range]
 refine⟨λi p hp=>?_,by show (hi - lo).toNat<=(gn lo hi).length;rw[hl];exact Nat.le_refl _⟩
 have hi':i < (hi - lo).toNat:=by rw[← hl];exact(List.getElem?_eq_some_iff.mp hp).1
 refine⟨hi',λx H' y=>?_⟩
 obtain⟨e,ex⟩:=y
 subst e ex
 unfold gn at hp
 rw[List.getElem?_map,List.getElem?_range hi'] at hp
 cases hp
 exact⟨Same.refl _,.int _⟩
theorem ug {tg:Expr}{fr:Bool}{p pos:Pos}(hm:X.mg "range" = none) (he:SE X b G m e h) (hg:Gl X "range" := by rfl) (hs:starEach [e] X.env=[(false,eval e X.env)]:=by rfl) (hs':starEach [e] X.env=(false,eval e X.env)::starEach [] X.env:=by rfl):SI X b G fr tg (.Call (.Name "range" p) [e] [] pos) (iR1 h):=by
 refine PI.imp (Ce hg hm (cO he.bor gf hs') hs) ?_
 rintro σ H R ⟨Ow,env,ps,E,hf,k⟩
 obtain⟨p1,hp,hps⟩:=aC hf
 refine⟨Ow,env,p1,E,hp,λv H1 s r=>?_⟩
 have r1:RepB b.C (Bs b Ow) H1 v p1:=r
 cases p1 <;> simp only at hps <;> first | cases hps | skip
 rename_i j
 split at hps
 ·rename_i hj
  cases hps
  have hw:IW b Ow fr H1 (Itr 0 (j - 0).toNat) (gn 0 j):=Lf
  rw[Int.sub_zero] at hw
  exact⟨j,by rw[r1.int],(Dk hj).1,(Dk hj).2,k _ _ s hw⟩
 ·cases hps
noncomputable def f9 (n:Nat):List PV->List PV
 | []=>[]
 | x::xs=>.tup [.int (n:Nat),x]::f9 (n+1) xs
theorem vM {p:PV}:∀ {xs:List PV}{n i:Nat},(f9 n xs)[i]?=some p->∃ x,xs[i]?=some x/\p=.tup [.int ((n+i:Nat):Int),x]
 | [],n,i,e=>by simp[f9] at e
 | x::xs,n,0,e=>by
  simp[f9] at e
  exact⟨x,rfl,by rw[← e];rfl⟩
 | x::xs,n,i+1,e=>by
  simp only[f9,List.getElem?_cons_succ] at e
  obtain⟨y,h1,h2⟩:=vM e
  exact⟨y,by simpa using h1,by rw[h2,Nat.add_right_comm,Nat.add_assoc]⟩
theorem qI:∀ {xs:List PV}{n:Nat},(f9 n xs).length=xs.length
 | [],_=>rfl
 | x::xs,n=>by simp[f9,qI (xs:=xs)]
def iE (f:Env->Option PV) (env:Env):Option (List PV):=(f env).bind λp=>match p with
 | .lst xs=>some (f9 0 xs)
 | _=>none
@[simp] theorem Qg (f:Env->Option PV) (env:Env):iE f env=((f env).bind λp=>match p with
 | .lst xs=>some (f9 0 xs)
 | _=>none):=id rfl
theorem zH {fr:Bool}{es:List Expr}{x1:Nat}{tpos p pos:Pos}(hm:X.mg "enumerate" = none) (he:SE X b G m e h) (hmd:fr=true->m≠.bor) (hK:X.K=b.C.K:=by rfl) (hg:Gl X "enumerate" := by rfl) (hs:starEach [e] X.env=[(false,eval e X.env)]:=by rfl) (hs':starEach [e] X.env=(false,eval e X.env)::starEach [] X.env:=by rfl):
  SI X b G fr (.Tuple es x1 tpos) (.Call (.Name "enumerate" p) [e] [] pos) (iE h):=by
 refine PI.imp (Ie hg hm (cO he gf hs') hs) ?_
 rintro σ H R ⟨Ow,env,ps,E,hf,k⟩
 rw[hK]
 obtain⟨p1,hp,hps⟩:=aC hf
 refine⟨Ow,env,p1,E,hp,λv H1 s r=>?_⟩
 have r1:RepB b.C (Bs b Ow) H1 v p1:=r.bor
 cases p1 <;> simp only at hps <;> cases hps
 rename_i xs
 obtain⟨a,vs,rfl,ha,ra⟩:=r1.lst
 refine⟨a,rfl,⟨vs,SqL.of ha⟩,k _ _ s λOw' H2 h0 h1 hn=>?_⟩
 have hq:H2 a=some (.lst vs)/\Reps b.C (Bs b Ow') H2 vs xs:=by
  refine⟨?_,ra.ex h1⟩
  cases fr with
  | false=>exact h0 rfl _ _ ha
  | true=>
   have rv:Rep b.C (Bs b Ow) H1 (.ref a) (.lst _):=r.val E (hmd rfl)
   cases rv with
   | lst q1 q2 q3=>rw[ha] at q1;cases q1;exact((h1 _ _ ha).1 q2).1
 refine⟨λi p hp'=>?_,⟨vs,SqL.of hq.1,by rw[qI,hq.2.length];exact Nat.le_refl _⟩⟩
 obtain⟨x,hx,rfl⟩:=vM hp'
 obtain⟨v,hv,rv⟩:=hq.2.get hx
 refine⟨⟨vs,v,SqL.of hq.1,hv⟩,λy H' yl=>?_⟩
 obtain⟨t,x',ht,e1,e2,yl⟩:=yl
 subst e1 e2
 have e3:=yl vs (SqL.of hq.1)
 rw[hv] at e3
 cases e3
 refine⟨bh ht _,.tup bK (.cons ?_ (.cons (rv.ex (.of_same (bh ht _))) .nil))⟩
 rw[Nat.zero_add]
 exact .int _
end
end MR
namespace MR
open PySem L2
noncomputable def gN (i:Nat) (p:PV) (env:Env):Option Env:=some (env.set i (some p))
@[simp] theorem Qh (i:Nat) (p:PV) (env:Env):gN i p env=(some (env.set i (some p))):=id rfl
@[simp] noncomputable def gNs:List Nat->List PV->Env->Option Env
 | [],[],env=>some env
 | i::is,p::ps,env=>gNs is ps (env.set i (some p))
 | _,_,_=>none
noncomputable def gT (is:List Nat) (p:PV) (env:Env):Option Env:=match p with
 | .tup xs=>gNs is xs env
 | _=>none
@[simp] theorem Ni (is:List Nat) (p:PV) (env:Env):gT is p env=(match p with
 | .tup xs=>gNs is xs env
 | _=>none):=id rfl
def tMG (b:BX) (G:List Nat) (g:PV->Env->Option Env):TG:=λv σ H Q=>∃ Ow env p env',ER b Ow G σ env H/\Rep b.C (Bs b Ow) H v p/\g p env=some env'/\∀ σ',ER b Ow G σ' env' H->Q σ' H
def Ov (b:BX) (G:List Nat) (is:List Nat):TGs:=λvs σ H Q=>∃ Ow env ps env',ER b Ow G σ env H/\Reps b.C (Bs b Ow) H vs ps/\gNs is ps env=some env'/\∀ σ',ER b Ow G σ' env' H->Q σ' H
abbrev SG (X:Cx) (b:BX) (G:List Nat) (tg:Expr) (g:PV->Env->Option Env):Prop:=PG X tg (tMG b G g)
abbrev SGs (X:Cx) (b:BX) (G:List Nat) (tgs:List Expr) (is:List Nat):Prop:=PGs X tgs (Ov b G is)
theorem PG.imp {X:Cx}{tg:Expr}{t u:TG}(h:PG X tg t) (i:∀ v σ H Q,u v σ H Q->t v σ H Q):PG X tg u:=λpins s σ H v w Q I r q=>h pins s σ H v w Q I r (i v σ H Q q)
theorem PGs.imp {X:Cx}{tg:List Expr}{t u:TGs}(h:PGs X tg t) (i:∀ v σ H Q,u v σ H Q->t v σ H Q):PGs X tg u:=λpins s σ H v w Q I r q=>h pins s σ H v w Q I r (i v σ H Q q)
section
variable {X:Cx}{b:BX}{G G' L:List Nat}{ro:Bool}{pos:Pos}
theorem kj (i:Nat){x:Str}(nd:X.N.Nodup) (hG:i∉G:=by decide) (hx:b.fx i=none:=by first | rfl | assumption) (hi:X.N[i]?=some x:=by rfl) (hl:Loc X.env.scope x:=by first | exact Or.inl rfl | exact Or.inr rfl)
  (hf:X.fn x=true\/X.env.scope.names.lookup x=some .local:=by first | exact .inl rfl | exact .inr rfl | assumption):SG X b G (.Name x pos) (gN i):=
 PG.imp (bj nd hi hl hf)<|by rintro v σ H Q ⟨Ow,env,p,env',E,r,e,k⟩;cases e;exact k _ (E.set hG r hx)
theorem rE:SGs X b G [] []:=PGs.imp oK<|by
 rintro vs σ H Q ⟨Ow,env,ps,env',E,r,e,k⟩
 cases ps with
 | nil=>cases r;cases e;exact⟨rfl,k σ E⟩
 | cons p ps=>cases e
theorem ji (i:Nat){x:Str}{es:List Expr}{is:List Nat}{p1:Pos}(nd:X.N.Nodup) (h2:SGs X b G es is) (hG:i∉G:=by decide) (hx:b.fx i=none:=by first | rfl | assumption) (hi:X.N[i]?=some x:=by rfl) (hl:Loc X.env.scope x:=by first | exact Or.inl rfl | exact Or.inr rfl)
  (hf:X.fn x=true\/X.env.scope.names.lookup x=some .local:=by first | exact .inl rfl | exact .inr rfl | assumption) (hs:(assignEach (.Name x p1::es) X.env).map (·.2)=assign (.Name x p1) X.env::(assignEach es X.env).map (·.2):=by rfl):SGs X b G (.Name x p1::es) (i::is):=
 PGs.imp (dY (bj nd hi hl hf) h2 hs)<|by
  rintro vs σ H Q ⟨Ow,env,ps,env',E,r,e,k⟩
  cases ps with
  | nil=>cases e
  | cons p ps=>
   cases r with
   | cons r1 r2=>exact⟨_,_,rfl,Ow,env.set i (some p),ps,env',E.set hG r1 hx,r2,e,k⟩
theorem uX:∀ {is:List Nat}{ps:List PV}{env env':Env},gNs is ps env=some env'->ps.length=is.length
 | [],[],_,_,_=>rfl
 | i::is,p::ps,env,env',e=>by simp[uX (is:=is) (ps:=ps) e]
 | [],_::_,_,_,e=>by cases e
 | _::_,[],_,_,e=>by cases e
theorem Bd {es:List Expr}{k:Nat}{is:List Nat}(h:SGs X b G es is) (hc:X.calm=true:=by rfl) (hn:(assignEach es X.env).length=is.length:=by rfl) (hst:(assignEach es X.env).findIdx? (·.1)=none:=by rfl) (hK:X.K=b.C.K:=by rfl):SG X b G (.Tuple es k pos) (gT is):=
 PG.imp (ql hc h hn hst)<|by
  rintro v σ H Q ⟨Ow,env,p,env',E,r,e,k⟩
  cases p <;> simp only[gT] at e <;> first | cases e | skip
  rename_i xs
  obtain⟨a,vs,rfl,ha,ra⟩:=RepB.tup (.inl r)
  rw[hK]
  exact⟨a,vs,rfl,ha.sq,by rw[ra.length];exact uX e,Ow,env,xs,env',E,ra,e,k⟩
noncomputable def bw (g:PV->Env->Option Env) (ds:List Nat) (body:Env->Option Out):List PV->Env->Option Out
 | [],env=>some (.nx env)
 | x::xs,env=>(g x env).bind λe1=>(body e1).bind λo=>match o with
  | .nx e=>bw g ds body xs (clr ds e)
  | .ct e=>bw g ds body xs (clr ds e)
  | .bk e=>some (.nx (clr ds e))
  | .rt p=>some (.rt p)
noncomputable def eZ (g:PV->Env->Option Env) (src:Env->Option (List PV)) (ds:List Nat) (body:Env->Option Out) (env:Env):Option Out:=(src env).bind λxs=>bw g ds body xs (clr ds env)
@[simp] theorem Pa (g:PV->Env->Option Env) (src:Env->Option (List PV)) (ds:List Nat) (body:Env->Option Out) (env:Env):eZ g src ds body env=((src env).bind λxs=>bw g ds body xs (clr ds env)):=id rfl
theorem fH {tg it:Expr}{body:List Stmt}{g:PV->Env->Option Env}{src:Env->Option (List PV)}{f:Env->Option Out}(ds:List Nat) (hi:SI X b G true tg it src) (hg:SG X b G tg g) (hb:SSs X b G G G ro body f) (hp:PassesOwn (model X.prog X.w) X.A X.env X.xe) (hc:X.calm=true:=by rfl)
  (hs:∀ x,foldedSetIterable it X.env x=pure x:=by intro _;rfl):SS X b G G L ro (.For tg it body [] pos) (eZ g src ds f):=by
 refine PS.imp (JT hp hc hi hg hb hs) ?_
 rintro D σ H ⟨Ow,env,out,E,hf,k⟩
 obtain⟨ps,hps,hl⟩:=aC hf
 refine⟨Ow,env,ps,E,hps,λJ H1 s1 iw=>?_⟩
 refine⟨λi m σ2 H2=>m=ps.length - i/\i<=ps.length/\∃ Ow2 env2,ER b Ow2 G σ2 env2 H2/\Ex (Bs b Ow) H1 (Bs b Ow2) H2/\bw g ds f (ps.drop i) env2=some out,⟨ps.length,by simp,Nat.zero_le _,Ow,clr ds env,(E.up s1).clr,Ex.refl _ _,by simpa using hl⟩,?_⟩
 rintro i m σ2 H2 ⟨rfl,hi,Ow2,env2,E2,x2,l2⟩
 obtain⟨w1,w2⟩:=iw Ow2 H2 (λz=>by cases z) x2 λa=>E2.fresh
 have xk:Ex (Bs b Ow) H (Bs b Ow2) H2:=(Ex.of_same s1).trans x2
 by_cases hlt:i < ps.length
 ·rw[List.drop_eq_getElem_cons hlt] at l2
  obtain⟨e1,he1,l2⟩:=aC l2
  obtain⟨o,ho,l2⟩:=aC l2
  obtain⟨g1,g2⟩:=w1 i ps[i] (List.getElem?_eq_getElem hlt)
  refine .inr ⟨g1,fun σ' H'=>i+1<=ps.length/\∃ Ow2 env2,ER b Ow2 G σ' env2 H'/\Ex (Bs b Ow) H1 (Bs b Ow2) H'/\bw g ds f (ps.drop (i+1)) env2=some out,fun σ' H' q=>⟨ps.length - (i+1),by omega,rfl,q⟩,λx H' y=>?_⟩
  obtain⟨s3,r3⟩:=g2 x H' y
  refine⟨Ow2,env2,_,e1,E2.up s3,r3,he1,fun σ3 E3=>⟨Ow2,e1,o,E3,ho,?_⟩⟩
  cases o with
  | nx e'=>exact λOw' σ' H'' E' x'=>⟨hlt,Ow',_,E'.clr,x2.trans ((Ex.of_same s3).trans x'),l2⟩
  | ct e'=>exact λOw' σ' H'' E' x'=>⟨hlt,Ow',_,E'.clr,x2.trans ((Ex.of_same s3).trans x'),l2⟩
  | bk e'=>cases l2;exact λOw' σ' H'' E' x'=>k Ow' σ' H'' E'.clr (xk.trans ((Ex.of_same s3).trans x'))
  | rt p=>cases l2;exact k
 ·have e:i=ps.length:=by omega
  subst e
  rw[List.drop_length] at l2
  cases l2
  exact .inl ⟨w2,k Ow2 σ2 H2 E2 xk⟩
noncomputable def jP (c:Env->Option Bool) (ds:List Nat) (body:Env->Option Out):Nat->Env->Option Out
 | 0,_=>none
 | n+1,env=>(c env).bind λk=>if k=true then (body env).bind λo=>match o with
   | .nx e=>jP c ds body n (clr ds e)
   | .ct e=>jP c ds body n (clr ds e)
   | .bk e=>some (.nx (clr ds e))
   | .rt p=>some (.rt p)
  else some (.nx env)
noncomputable def uh (n:Nat) (c:Env->Option Bool) (ds:List Nat) (body:Env->Option Out) (env:Env):Option Out:=jP c ds body n (clr ds env)
@[simp] theorem Dl (n:Nat) (c:Env->Option Bool) (ds:List Nat) (body:Env->Option Out) (env:Env):uh n c ds body env=(jP c ds body n (clr ds env)):=id rfl
theorem Ir {c:Expr}{body:List Stmt}{t:Env->Option Bool}{f:Env->Option Out}(n:Nat) (ds:List Nat) (hc:ST X b G c t) (hb:SSs X b G G G ro body f) (hp:PassesOwn (model X.prog X.w) X.A X.env X.xe):SS X b G G L ro (.While c body [] pos) (uh n t ds f):=by
 refine PS.imp (Ep hp hc hb) ?_
 rintro D σ H ⟨Ow,env,out,E,hf,k⟩
 refine⟨λm σ2 H2=>∃ Ow2 env2,ER b Ow2 G σ2 env2 H2/\Ex (Bs b Ow) H (Bs b Ow2) H2/\jP t ds f m env2=some out,⟨n,Ow,clr ds env,E.clr,Ex.refl _ _,hf⟩,?_⟩
 rintro m σ2 H2 ⟨Ow2,env2,E2,x2,l2⟩
 cases m with
 | zero=>cases l2
 | succ m=>
  obtain⟨kk,hk,l2⟩:=aC l2
  refine⟨Ow2,env2,kk,E2,hk,λH3 s3=>?_⟩
  cases kk with
  | false=>cases l2;exact Fp (k Ow2 σ2 H3 (E2.up s3) (x2.trans (.of_same s3)))
  | true=>
   refine Fq ⟨fun σ' H'=>∃ Ow2 env2,ER b Ow2 G σ' env2 H'/\Ex (Bs b Ow) H (Bs b Ow2) H'/\jP t ds f m env2=some out,fun σ' H' q=>⟨m,Nat.lt_succ_self m,q⟩,?_⟩
   obtain⟨o,ho,l2⟩:=aC l2
   refine⟨Ow2,env2,o,E2.up s3,ho,?_⟩
   cases o with
   | nx e'=>exact λOw' σ' H'' E' x'=>⟨Ow',_,E'.clr,x2.trans ((Ex.of_same s3).trans x'),l2⟩
   | ct e'=>exact λOw' σ' H'' E' x'=>⟨Ow',_,E'.clr,x2.trans ((Ex.of_same s3).trans x'),l2⟩
   | bk e'=>cases l2;exact λOw' σ' H'' E' x'=>k Ow' σ' H'' E'.clr (x2.trans ((Ex.of_same s3).trans x'))
   | rt p=>cases l2;exact k
end
def mF (cap:List (Option Nat)) (env:Env):Env:=cap.map λo=>match o with | some i=>(env[i]?).getD none | none=>none
@[simp] theorem Pb (cap:List (Option Nat)) (env:Env):mF cap env=(cap.map λo=>match o with | some i=>(env[i]?).getD none | none=>none):=id rfl
def jV (cap:List (Option Nat)) (G:List Nat):List Nat:=(List.range cap.length).filter λj=>match cap[j]? with | some (some i)=>decide (i∈G) | _=>false
def BX.in (b:BX):BX:={ b with fx:=λ_=>none }
noncomputable def bJ (env:Env) (g:PV->Env->Option Env) (t:Env->Option Bool) (f:Env->Option PV):List PV->Option (List PV)
 | []=>some []
 | x::xs=>(g x env).bind λe=>(t e).bind λk=>if k=true then (f e).bind λy=>(bJ env g t f xs).bind λys=>some (y::ys) else bJ env g t f xs
noncomputable def cD (cap:List (Option Nat)) (src:Env->Option (List PV)) (g:PV->Env->Option Env) (t:Env->Option Bool) (f:Env->Option PV) (env:Env):Option PV:=(src env).bind λxs=>if xs.length<=1000000 then (bJ (mF cap env) g t f xs).bind λys=>some (.lst ys) else none
@[simp] theorem Gd (cap:List (Option Nat)) (src:Env->Option (List PV)) (g:PV->Env->Option Env) (t:Env->Option Bool) (f:Env->Option PV) (env:Env):cD cap src g t f env=((src env).bind λxs=>if xs.length<=1000000 then (bJ (mF cap env) g t f xs).bind λys=>some (.lst ys) else none):=id rfl
noncomputable def bA (env:Env):Option Bool:=some true
@[simp] theorem Ox (env:Env):bA env=(some true):=id rfl
theorem capG_mem {cap:List (Option Nat)}{G:List Nat}{j:Nat}:j∈jV cap G↔∃ i,cap[j]?=some (some i)/\i∈G:=by
 unfold jV
 rw[List.mem_filter,List.mem_range]
 constructor
 ·rintro ⟨h1,h2⟩
  split at h2
  ·rename_i i e;exact⟨i,e,by simpa using h2⟩
  ·cases h2
 ·rintro ⟨i,e,h⟩
  refine⟨(List.getElem?_eq_some_iff.mp e).1,?_⟩
  rw[e];simpa using h
theorem pM {cap:List (Option Nat)}{env:Env}{j:Nat}{p:PV}(h:(mF cap env)[j]?=some (some p)):∃ i,cap[j]?=some (some i)/\env[i]?=some (some p):=by
 unfold mF at h
 rw[List.getElem?_map] at h
 cases q:cap[j]? with
 | none=>rw[q] at h;cases h
 | some o=>
  rw[q] at h
  cases o with
  | none=>cases h
  | some i=>
   refine⟨i,rfl,?_⟩
   have h':(env[i]?).getD none=some p:=by simpa using h
   cases q2:env[i]? with
   | none=>rw[q2] at h';cases h'
   | some o=>rw[q2] at h';simp at h';rw[h']
theorem nY {cap:List (Option Nat)}{σ:St}{j i:Nat}{v:V}(h:cap[j]?=some (some i)) (e:σ[i]?=some (some v)):(fC cap σ)[j]?=some (some v):=by
 unfold fC
 rw[List.getElem?_map,h]
 simp[xR,e]
def oX (cap:List (Option Nat)):Bool:=(List.range cap.length).all λj=>(List.range cap.length).all λk=>match cap[j]?,cap[k]? with
 | some (some i),some (some i')=>decide (i=i'->j=k)
 | _,_=>true
theorem Dm {cap:List (Option Nat)}(h:oX cap=true){j k i:Nat}(h1:cap[j]?=some (some i)) (h2:cap[k]?=some (some i)):j=k:=by
 have a:=List.all_eq_true.mp h j (List.mem_range.mpr (List.getElem?_eq_some_iff.mp h1).1)
 have c:=List.all_eq_true.mp a k (List.mem_range.mpr (List.getElem?_eq_some_iff.mp h2).1)
 rw[h1,h2] at c
 simpa using c
theorem ER.cap {b:BX}{Ow:Addr->Prop}{G:List Nat}{σ:St}{env:Env}{H:Hp}{cap:List (Option Nat)}(E:ER b Ow G σ env H) (hc:oX cap=true):ER b.in Ow (jV cap G) (fC cap σ) (mF cap env) H:=by
 refine⟨by unfold fC mF;rw[List.length_map,List.length_map],E.same,E.live,E.new,λj p e n=>?_,λj p e n=>?_,λj k a p q e1 n1 s1 e2 n2 s2=>?_,λk v z=>by cases z⟩
 ·obtain⟨i,h1,h2⟩:=pM e
  obtain⟨v,h3,h4⟩:=E.val i p h2 λz=>n (capG_mem.mpr ⟨i,h1,z⟩)
  exact⟨v,nY h1 h3,h4⟩
 ·obtain⟨i,h1,h2⟩:=pM e
  obtain⟨i',h1',hG⟩:=capG_mem.mp n
  rw[h1] at h1';cases h1'
  obtain⟨a,h3,h4,h5⟩:=E.own i p h2 hG
  exact⟨a,nY h1 h3,h4,h5⟩
 ·obtain⟨i,h1,h2⟩:=pM e1
  obtain⟨i',h1',hG⟩:=capG_mem.mp n1
  rw[h1] at h1';cases h1'
  obtain⟨k',h3,h4⟩:=pM e2
  obtain⟨k'',h3',hG2⟩:=capG_mem.mp n2
  rw[h3] at h3';cases h3'
  obtain⟨c,g1,_,_⟩:=E.own i p h2 hG
  obtain⟨c2,g2,_,_⟩:=E.own k' q h4 hG2
  have t1:=nY (cap:=cap) h1 g1
  have t2:=nY (cap:=cap) h3 g2
  rw[s1] at t1;cases t1
  rw[s2] at t2;cases t2
  have:=E.sep i k' _ p q h2 hG g1 h4 hG2 g2
  subst this
  exact Dm hc h1 h3
theorem ER.more {b:BX}{Ow:Addr->Prop}{G:List Nat}{σ:St}{env:Env}{H H':Hp}{D:Addr}(E:ER b Ow G σ env H) (hD:H D=none) (s:Same H H') (hl:∃ o,H' D=some o):ER b (λc=>Ow c\/c=D) G σ env H'/\Ex (Bs b Ow) H (Bs b λc=>Ow c\/c=D) H':=by
 have hx:Ex (Bs b Ow) H (Bs b λc=>Ow c\/c=D) H':=λc o h=>⟨λq=>⟨s _ _ h,λz=>z.elim q.1 (bf h hD),q.2⟩,λ_=>s _ _ h⟩
 exact⟨⟨E.len,E.same.trans s,λc w=>w.elim (λz=>let ⟨o,h⟩:=E.live c z;⟨o,s _ _ h⟩) λz=>by subst z;exact hl,λc w=>w.elim (E.new c) λz=>by subst z;exact E.same.free hD,λi p e n=>let ⟨v,h1,h2⟩:=E.val i p e n;⟨v,h1,h2.ex hx⟩,
  λi p e n=>let ⟨a,h1,h2,h3⟩:=E.own i p e n;⟨a,h1,.inl h2,h3.ex hx λo z=>s _ _ z⟩,E.sep,E.fix⟩,hx⟩
structure TgOk (K:PySem.W.Frag) (cap:List (Option Nat)) (g:TG) (gm:PV->Env->Option Env):Prop where
 go:∀ (b:BX) (Ow:Addr->Prop) (G:List Nat) (σ:St) (env e:Env) (H:Hp) (v:V) (p:PV) (Q:St->Hp->Prop),b.C.K=K->(∀ i,b.fx i=none)->ER b Ow (jV cap G) (fC cap σ) (mF cap env) H->Rep b.C (Bs b Ow) H v p->gm p (mF cap env)=some e->
  (∀ σ',Kp (fC cap σ) σ'->ER b Ow (jV cap G) σ' e H->Q σ' H)->g v (fC cap σ) H Q
theorem Dn {σ σ':St}{i:Nat}{v:V}(h:Kp σ σ') (hn:∀ w,σ[i]?≠some (some w)):Kp σ (σ'.set i (some v)):=by
 refine⟨by rw[List.length_set];exact h.1,λj w e=>?_⟩
 by_cases hj:i=j
 ·subst hj;exact absurd e (hn w)
 ·rw[List.getElem?_set_ne hj];exact h.2 j w e
theorem zJ (σ:St):Kp σ σ:=⟨rfl,λ_ _ e=>e⟩
theorem ul {cap:List (Option Nat)}{σ:St}{i:Nat}(h:cap[i]?=some none) (w:V):(fC cap σ)[i]?≠some (some w):=by
 unfold fC
 rw[List.getElem?_map,h]
 intro z;cases z
theorem vN {cap:List (Option Nat)}{G:List Nat}{i:Nat}(h:cap[i]?=some none):i∉jV cap G:=λz=>by
 obtain⟨k,e,_⟩:=capG_mem.mp z
 rw[h] at e;cases e
theorem jk {K:PySem.W.Frag}{cap:List (Option Nat)}(i:Nat) (h:cap[i]?=some none:=by rfl):TgOk K cap (tW i) (gN i):=
 ⟨λb Ow G σ env e H v p Q hK hx E r he k=>by
  cases he
  exact k _ (Dn (zJ _) (ul h)) (E.set (vN h) r (hx _))⟩
def yc:List Nat->TGs
 | []=>JM
 | i::is=>G6 (tW i) (yc is)
theorem Be {K:PySem.W.Frag}{cap:List (Option Nat)}(is:List Nat) (h:(is.all λi=>decide (cap[i]?=some none))=true:=by rfl):TgOk K cap (JN K is.length (yc is)) (gT is):=
 ⟨λb Ow G σ env e H v p Q hK hx E r he k=>by
  subst hK
  cases p <;> simp only[gT] at he <;> first | cases he | skip
  rename_i xs
  obtain⟨a,vs,rfl,ha,ra⟩:=RepB.tup (.inl r)
  refine⟨a,vs,rfl,ha.sq,by rw[ra.length];exact uX he,?_⟩
  have gen:∀ (is:List Nat) (vs:List V) (xs:List PV) (σ1:St) (env1:Env),(is.all λi=>decide (cap[i]?=some none))=true->Kp (fC cap σ) σ1->ER b Ow (jV cap G) σ1 env1 H->Reps b.C (Bs b Ow) H vs xs->gNs is xs env1=some e->yc is vs σ1 H Q:=by
   intro is
   induction is with
   | nil=>
    intro vs xs σ1 env1 _ kp E1 r1 e1
    cases xs with
    | nil=>cases r1;cases e1;exact⟨rfl,k σ1 kp E1⟩
    | cons x xs=>cases e1
   | cons i is ih=>
    intro vs xs σ1 env1 hall kp E1 r1 e1
    cases xs with
    | nil=>cases e1
    | cons x xs=>
     cases r1 with
     | cons r2 r3=>
      rw[List.all_cons,Bool.and_eq_true] at hall
      have hi:cap[i]?=some none:=by simpa using hall.1
      exact⟨_,_,rfl,ih _ xs _ _ hall.2 (Dn kp (ul hi)) (E1.set (vN hi) r2 (hx _)) r3 e1⟩
  exact gen is vs xs _ _ h (zJ _) E ra he⟩
section
variable {X:Cx}{b:BX}{G L:List Nat}{ro:Bool}{pos:Pos}{tg iter elt:Expr}{ifs:List Expr}{scope osc:Scope}{ON N:List Str}{cap:List (Option Nat)}{src:Env->Option (List PV)}{g:TG}{gm:PV->Env->Option Env}{t:Env->Option Bool}{f:Env->Option PV}
theorem Bf {σ:St}{H:Hp}{Q:VK}(tgo:TgOk b.C.K cap g gm) (hc:oX cap=true) (h:tM b G .own (cD cap src gm t f) σ H Q):
  wX (tMI b G false src) cap g (tMT b.in (jV cap G) t) (tM b.in (jV cap G) .val f) σ H Q:=by
 obtain⟨Ow,env,p,E,hf,k⟩:=h
 obtain⟨xs,hxs,hf⟩:=aC hf
 split at hf
 ·rename_i hlen
  obtain⟨ys,hys,hf⟩:=aC hf
  cases hf
  refine⟨Ow,env,xs,E,hxs,λJ H1 s1 iw D hD=>?_⟩
  have E1:=E.up s1
  have nD:H D=none:=s1.free hD
  refine⟨λi m vs H2=>m=xs.length - i/\i<=xs.length/\Same H1 H2/\H2 D=some (.lst vs)/\vs.length<=i/\∃ done rest,Reps b.C (Bs b λc=>Ow c\/c=D) H2 vs done/\bJ (mF cap env) gm t f (xs.drop i)=some rest/\done++rest=ys,
   ⟨xs.length,by simp,Nat.zero_le _,bh hD _,bK,Nat.le_refl _,[],ys,.nil,by simpa using hys,rfl⟩,?_⟩
  rintro i m vs H2 ⟨rfl,hi,s2,d2,hv,done,rest,rd,cl,hdone⟩
  refine⟨d2,?_⟩
  obtain⟨E2,x2⟩:=E1.more hD s2 ⟨_,d2⟩
  obtain⟨w1,w2⟩:=iw _ H2 (λ_=>s2) x2 λa=>E2.fresh
  by_cases hlt:i < xs.length
  ·rw[List.drop_eq_getElem_cons hlt] at cl
   obtain⟨e1,he1,cl⟩:=aC cl
   obtain⟨kk,hk,cl⟩:=aC cl
   obtain⟨g1,g2⟩:=w1 i xs[i] (List.getElem?_eq_getElem hlt)
   refine .inr ⟨g1,λvs' H'=>i+1<=xs.length/\Same H1 H'/\H' D=some (.lst vs')/\vs'.length<=i+1/\∃ done rest,Reps b.C (Bs b λc=>Ow c\/c=D) H' vs' done/\bJ (mF cap env) gm t f (xs.drop (i+1))=some rest/\done++rest=ys,λvs' H' q=>⟨xs.length - (i+1),by omega,rfl,q⟩,λx H' y=>?_⟩
   obtain⟨s3,r3⟩:=g2 x H' y
   have E3:=(E2.up s3).cap hc
   refine tgo.go b.in _ G σ env e1 H' x _ _ rfl (λ_=>rfl) E3 r3 he1 fun σ3 kp E4=>⟨kp,_,e1,kk,E4,hk,λH4 s4=>?_⟩
   have d4:H4 D=some (.lst vs):=s4 _ _ (s3 _ _ d2)
   have s24:Same H2 H4:=s3.trans s4
   cases kk with
   | false=>
    refine Fp ⟨hlt,s2.trans s24,d4,Nat.le_succ_of_le hv,done,rest,rd.ex (.of_same s24),?_,hdone⟩
    simpa using cl
   | true=>
    simp only[if_true] at cl
    obtain⟨y1,hy1,cl⟩:=aC cl
    obtain⟨ys1,hys1,cl⟩:=aC cl
    cases cl
    refine Fq ⟨_,e1,y1,E4.up s4,hy1,λv5 H5 s5 r5=>⟨s5 _ _ d4,oU (by omega),hlt,?_,bK,by rw[List.length_append];show vs.length+1<=i+1;omega,done++[y1],ys1,?_,hys1,by rw[List.append_assoc];exact hdone⟩⟩
    ·exact λc o h=>by rw[aP (bf h hD)];exact s5 _ _ (s24 _ _ (s2 _ _ h))
    ·have r5':Rep b.C (Bs b λc=>Ow c\/c=D) H5 v5 y1:=r5
     refine((rd.ex (.of_same (s24.trans s5))).append (.cons r5' .nil)).ex ?_
     exact nj (b:=b) (Ow:=λc=>Ow c\/c=D) (.inr rfl) (s5 _ _ d4) rfl
  ·have e:i=xs.length:=by omega
   subst e
   rw[List.drop_length] at cl
   cases cl
   rw[List.append_nil] at hdone
   subst hdone
   refine .inl ⟨w2,k _ H2 (s1.trans s2) ⟨D,rfl,nD,vs,d2,rd.ex (cZ λc o _ q=>⟨⟨λz=>q.1 (.inl z),q.2⟩,λz=>q.1 (.inr z)⟩)⟩⟩
 ·cases hf
theorem cu {X:Cx}:pD X [] (tMT b G bA):=by rintro pins s σ H Q I ⟨Ow,env,k,E,hf,kk⟩;cases hf;exact Ft pins s σ H Q I (kk H (Same.refl _))
theorem cP (S:CSc osc scope ON N cap) (tgo:TgOk b.C.K cap g gm) (hi:SI X b G false tg iter src) (hg:∀ C s H fp,PG (X.comp N scope C s H fp) tg g) (ht:∀ C s H fp,pD (X.comp N scope C s H fp) ifs (tMT b.in (jV cap G) t)) (he:∀ C s H fp,SE (X.comp N scope C s H fp) b.in (jV cap G) .val elt f)
  (hci:oX cap=true:=by rfl) (hc:X.calm=true:=by rfl) (hsc:X.env.scope=osc:=by rfl) (hN:X.N=ON:=by rfl) (hs:∀ x,foldedSetIterable iter X.env x=pure x:=by intro _;rfl):SE X b G .own (.ListComp elt [⟨tg,iter,ifs,0⟩] scope pos) (cD cap src gm t f):=
 PE.imp (Ib S hi hg ht he hc hsc hN hs) fun σ H Q h=>Bf tgo hci h
theorem Lg (i:Nat){y:Str}{py spos:Pos}(nd:X.N.Nodup) (S:CSc osc scope ON N cap) (tgo:TgOk b.C.K cap g gm) (hi:SI X b G false tg iter src) (hg:∀ C s H fp,PG (X.comp N scope C s H fp) tg g) (ht:∀ C s H fp,pD (X.comp N scope C s H fp) ifs (tMT b.in (jV cap G) t)) (he:∀ C s H fp,SE (X.comp N scope C s H fp) b.in (jV cap G) .val elt f)
  (hG:i∉G:=by decide) (hx:b.fx i=none:=by first | rfl | assumption) (hi':X.N[i]?=some y:=by rfl) (hy:Loc X.env.scope y:=by first | exact Or.inl rfl | exact Or.inr rfl) (hci:oX cap=true:=by rfl)
  (hsw:swapsWith (.ListComp elt [⟨tg,iter,ifs,0⟩] scope pos) (some (.Name y py)) spos.line X.env=pure true:=by rfl)
  (hc:X.calm=true:=by rfl) (hsc:X.env.scope=osc:=by rfl) (hN:X.N=ON:=by rfl) (hs:∀ x,foldedSetIterable iter X.env x=pure x:=by intro _;rfl)
  (hf:X.fn y=true\/X.env.scope.names.lookup y=some .local:=by first | exact .inl rfl | exact .inr rfl | assumption):
  SS X b G G L ro (.Assign [.Name y py] (.ListComp elt [⟨tg,iter,ifs,0⟩] scope pos) spos) (aJ i (cD cap src gm t f)):=
 PS.imp (zE S nd hi' hy hi hg ht he hsw hc hsc hN hs hf) λD σ H q=>Bf tgo hci (by
  obtain⟨Ow,env,p,E,hf,k⟩:=La hG hx q
  exact⟨Ow,env,p,E,hf,λv H' s r=>k v H' s (r.val E (by intro z;cases z))⟩)
theorem uY (i:Nat){y:Str}{py spos:Pos}(nd:X.N.Nodup) (S:CSc osc scope ON N cap) (tgo:TgOk b.C.K cap g gm) (hi:SI X b G false tg iter src) (hg:∀ C s H fp,PG (X.comp N scope C s H fp) tg g) (ht:∀ C s H fp,pD (X.comp N scope C s H fp) ifs (tMT b.in (jV cap G) t)) (he:∀ C s H fp,SE (X.comp N scope C s H fp) b.in (jV cap G) .val elt f)
  (hG:i∈G:=by decide) (hx:b.fx i=none:=by first | rfl | assumption) (hi':X.N[i]?=some y:=by rfl) (hy:Loc X.env.scope y:=by first | exact Or.inl rfl | exact Or.inr rfl) (hci:oX cap=true:=by rfl)
  (hsw:swapsWith (.ListComp elt [⟨tg,iter,ifs,0⟩] scope pos) (some (.Name y py)) spos.line X.env=pure true:=by rfl)
  (hc:X.calm=true:=by rfl) (hsc:X.env.scope=osc:=by rfl) (hN:X.N=ON:=by rfl) (hs:∀ x,foldedSetIterable iter X.env x=pure x:=by intro _;rfl)
  (hf:X.fn y=true\/X.env.scope.names.lookup y=some .local:=by first | exact .inl rfl | exact .inr rfl | assumption):
  SS X b G G L ro (.Assign [.Name y py] (.ListComp elt [⟨tg,iter,ifs,0⟩] scope pos) spos) (aJ i (cD cap src gm t f)):=
 PS.imp (zE S nd hi' hy hi hg ht he hsw hc hsc hN hs hf) λD σ H q=>Bf tgo hci (Hh (λj=>⟨.inl,λz=>z.elim id λy=>y▸hG⟩) hx q)
end
noncomputable def bL (n k:Nat) (ro:Bool) (f:Env->Option Out) (ps:List PV):Option PV:=if ps.length=k then (f (ps.map some++List.replicate (n - k) none)).bind λo=>match o with
 | .nx _=>if ro=true then none else some .non
 | .rt p=>some p
 | _=>none
 else none
@[simp] theorem Pg (n k:Nat) (ro:Bool) (f:Env->Option Out) (ps:List PV):bL n k ro f ps=(if ps.length=k then (f (ps.map some++List.replicate (n - k) none)).bind λo=>match o with
 | .nx _=>if ro=true then none else some .non
 | .rt p=>some p
 | _=>none
 else none):=id rfl
theorem Ge {C:MC}{A:Addr->Prop}{H:Hp}{N:List Str}{vs:List V}{ps:List PV}{G:List Nat}(r:Reps C A H vs ps) (hG:∀ i,i∈G->ps.length<=i) (hn:ps.length<=N.length):ER ⟨C,A,H,λ_=>none⟩ (λ_=>False) G (L2.start N vs) (ps.map some++List.replicate (N.length - ps.length) none) H:=by
 have hl:=r.length
 have old:∀ i p,(ps.map some++List.replicate (N.length - ps.length) none)[i]?=some (some p)->ps[i]?=some p:=λi p e=>by
  by_cases hi:i < ps.length
  ·rw[List.getElem?_append_left (by rw[List.length_map];exact hi),List.getElem?_map] at e
   cases q:ps[i]? with
   | none=>rw[q] at e;cases e
   | some p'=>rw[q] at e;cases e;rfl
  ·rw[List.getElem?_append_right (by rw[List.length_map];omega),List.getElem?_replicate] at e
   split at e <;> cases e
 refine⟨?_,Same.refl _,λa w=>w.elim,λa w=>w.elim,λi p e n=>?_,λi p e n=>?_,λi j a p q e1 n1 s1 e2 n2 s2=>?_,λk v z=>by cases z⟩
 ·unfold L2.start
  simp only[List.length_append,List.length_map,List.length_replicate]
  omega
 ·obtain⟨v,hv,rv⟩:=r.get (old i p e)
  refine⟨v,?_,rv.ex (cZ λa o _ q=>⟨λz=>z,.inl q⟩)⟩
  unfold L2.start
  have hi:i < vs.length:=(List.getElem?_eq_some_iff.mp hv).1
  rw[List.getElem?_append_left (by rw[List.length_map];exact hi),List.getElem?_map,hv]
  rfl
 ·have h1:=(List.getElem?_eq_some_iff.mp (old i p e)).1
  have h2:=hG i n
  omega
 ·have h1:=(List.getElem?_eq_some_iff.mp (old i p e1)).1
  have h2:=hG i n1
  omega
theorem aQ {X:Cx}{C:MC}{N:List Str}{n k:Nat}{G G' L:List Nat}{ro:Bool}{body:List Stmt}{f:Env->Option Out}(hN:N.length=n) (hk:k<=n) (hG:(G.all λi=>decide (k<=i))=true) (hb:∀ A H,SSs X ⟨C,A,H,λ_=>none⟩ G G' L ro body f)
  {vs:List V}{H:Hp}{Q:VK}{E:XK}(h:spM C (bL n k ro f) ro vs H Q E):∃ t,PSs X body t/\t { nx:=λ_ H'=>Q .non H',rt:=Q } (L2.start N vs) H:=by
 obtain⟨A,ps,p,r,hm,kk⟩:=h
 refine⟨_,hb A H,?_⟩
 unfold bL at hm
 split at hm
 ·rename_i hl
  obtain⟨o,ho,hm⟩:=aC hm
  refine⟨_,_,o,Ge (N:=N) (G:=G) r (λi hi=>by rw[hl];simpa using List.all_eq_true.mp hG i hi) (by omega),by rw[hN,hl];exact ho,?_⟩
  cases o with
  | nx e=>
   cases ro with
   | true=>cases hm
   | false=>cases hm;exact λOw' σ' H' E' _=>kk .non H' E'.same .non
  | rt q=>cases hm;exact λv H' s rr=>kk v H' s rr
  | bk e=>cases hm
  | ct e=>cases hm
 ·cases hm
theorem aR {C:MC}{n k:Nat}{f:Env->Option Out}{ro ro':Bool}{vs:List V}{H:Hp}{Q:VK}{E:XK}(h:spM C (bL n k ro' f) ro vs H Q E):vs.length=k:=by
 obtain⟨A,ps,p,r,hm,kk⟩:=h
 unfold bL at hm
 split at hm
 ·rename_i hl;rw[r.length];exact hl
 ·cases hm
def rF (n k c:Nat) (f:Env->Option Out) (ps:List PV):Option (List (Str×PV)):=if ps.length+1=k then (f (some (.obj c [])::(ps.map some++List.replicate (n - k) none))).bind λo=>match o with
 | .nx (some (.obj c' fs)::_)=>if c'=c then some fs else none
 | _=>none
 else none
@[simp] theorem Oz (n k c:Nat) (f:Env->Option Out) (ps:List PV):rF n k c f ps=(if ps.length+1=k then (f (some (.obj c [])::(ps.map some++List.replicate (n - k) none))).bind λo=>match o with
 | .nx (some (.obj c' fs)::_)=>if c'=c then some fs else none
 | _=>none
 else none):=id rfl
def spI (C:MC) (c:Nat) (m:List PV->Option (List (Str×PV))):Sp:=λvs H Q _=>∃ A ps fs x dx us,vs=.ref x::us/\H x=some (.ins (C.cl c) dx [])/\¬ A x/\Reps C A H us ps/\m ps=some fs /\
 ∀ H',(∀ a o,a≠x->H a=some o->H' a=some o)->Top C (λz=>(A z\/H z=none)/\z≠x) H' x (.obj c fs)->Q .non H'
theorem Iu {X:Cx}{C:MC}{N:List Str}{n k c:Nat}{G G' L:List Nat}{body:List Stmt}{f:Env->Option Out}(hN:N.length=n) (hk:k<=n) (hG0:0∈G) (hG1:0∈G') (hG:(G.all λi=>decide (i=0\/k<=i))=true) (hb:∀ A H x,SSs X ⟨C,A,H,fx0 x⟩ G G' L false body f)
  {vs:List V}{H:Hp}{Q:VK}{E:XK}(h:spI C c (rF n k c f) vs H Q E):∃ t,PSs X body t/\t { nx:=λ_ H'=>Q .non H',rt:=Q } (L2.start N vs) H:=by
 obtain⟨A,ps,fs,x,dx,us,rfl,hx,nA,r,hm,kk⟩:=h
 refine⟨_,hb A (λa=>if a=x then none else H a) (.ref x),?_⟩
 unfold rF at hm
 split at hm
 ·rename_i hl
  obtain⟨o,ho,hm2⟩:=aC hm
  clear hm
  have hus:=r.length
  have old:∀ i p,(ps.map some++List.replicate (n - k) none)[i]?=some (some p)->ps[i]?=some p:=λi p e=>by
   by_cases hi:i < ps.length
   ·rw[List.getElem?_append_left (by rw[List.length_map];exact hi),List.getElem?_map] at e
    cases q:ps[i]? with
    | none=>rw[q] at e;cases e
    | some p'=>rw[q] at e;cases e;rfl
   ·rw[List.getElem?_append_right (by rw[List.length_map];omega),List.getElem?_replicate] at e
    split at e <;> cases e
  have low:∀ i,i+1∈G->∀ p,(ps.map some++List.replicate (n - k) none)[i]?=some (some p)->False:=λi hi p e=>by
   have h1:=(List.getElem?_eq_some_iff.mp (old i p e)).1
   have h2:i+1=0\/k<=i+1:=by simpa using List.all_eq_true.mp hG (i+1) hi
   omega
  have E0:ER ⟨C,A,λa=>if a=x then none else H a,fx0 (.ref x)⟩ (λa=>a=x) G (L2.start N (.ref x::us)) (some (.obj c [])::(ps.map some++List.replicate (n - k) none)) H:=by
   refine⟨?_,λa o e=>?_,λa w=>?_,λa w=>?_,λi p e n=>?_,λi p e n=>?_,λi j a p q e1 n1 s1 e2 n2 s2=>?_,λk v z=>?_⟩
   ·unfold L2.start
    simp only[List.length_append,List.length_map,List.length_replicate,List.length_cons]
    omega
   ·have e':(if a=x then none else H a)=some o:=e
    split at e'
    ·cases e'
    ·exact e'
   ·subst w;exact⟨_,hx⟩
   ·subst w;show (if a=a then none else H a)=none;rw[if_pos rfl]
   ·cases i with
    | zero=>exact absurd hG0 n
    | succ i=>
     rw[List.getElem?_cons_succ] at e
     obtain⟨v,hv,rv⟩:=r.get (old i p e)
     refine⟨v,?_,rv.ex (cZ λa o _ q=>⟨λz=>nA (z▸q),.inl q⟩)⟩
     have hi:i < us.length:=(List.getElem?_eq_some_iff.mp hv).1
     show ((V.ref x::us).map some++_)[i+1]?=_
     rw[List.map_cons,List.cons_append,List.getElem?_cons_succ,List.getElem?_append_left (by rw[List.length_map];exact hi),List.getElem?_map,hv]
     rfl
   ·cases i with
    | zero=>cases e;exact⟨x,rfl,rfl,dx,[],hx,.nil⟩
    | succ i=>exact(low i n p e).elim
   ·cases i with
    | zero=>
     cases j with
     | zero=>rfl
     | succ j=>exact(low j n2 q e2).elim
    | succ i=>exact(low i n1 p e1).elim
   ·cases k with
    | zero=>cases z;rfl
    | succ k=>cases z
  refine⟨_,_,o,E0,ho,?_⟩
  cases o with
  | nx e=>
   cases e with
   | nil=>cases hm2
   | cons s0 rest=>
    cases s0 with
    | none=>cases hm2
    | some p0=>
     cases p0 <;> simp only at hm2 <;> first | cases hm2 | skip
     rename_i c' fs'
     split at hm2
     ·rename_i hcc
      subst hcc
      cases hm2
      intro Ow' σ' H' E' _
      obtain⟨a,h1,h2,h3⟩:=E'.own 0 _ rfl hG1
      have h4:=E'.fix 0 (.ref x) rfl
      rw[h1] at h4
      cases h4
      refine kk H' (λa o na e=>E'.same a o (by show (if a=x then none else H a)=some o;rw[if_neg na];exact e)) (h3.ex (cZ λz o _ q=>?_) λo z=>z)
      have nz:z≠x:=λy=>q.1 (y▸h2)
      refine⟨q.2.imp id λy=>?_,nz⟩
      have y':(if z=x then none else H z)=none:=y
      rwa [if_neg nz] at y'
     ·cases hm2
  | rt q=>cases hm2
  | bk e=>cases hm2
  | ct e=>cases hm2
 ·cases hm
theorem Iv {C:MC}{n k c c':Nat}{f:Env->Option Out}{vs:List V}{H:Hp}{Q:VK}{E:XK}(h:spI C c' (rF n k c f) vs H Q E):vs.length=k:=by
 obtain⟨A,ps,fs,x,dx,us,rfl,hx,nA,r,hm,kk⟩:=h
 unfold rF at hm
 split at hm
 ·rename_i hl;rw[List.length_cons,r.length];exact hl
 ·cases hm
structure CalI (P:Program) (w:World) (K:PySem.W.Frag) (mg:Str->Option Value) (base:Heap) (C:Addr) (k:Nat) (x:Str) (ps:List Str) (sp:Sp):Prop where
 ex:∃ f fd,FnOk P w K mg base CX0 k f fd ps sp/\Binds K fd ps []/\Mk K C f/\mg x=some (.ref C)
def w6 (c:Nat) (m:List PV->Option (List (Str×PV))) (g:Env->Option (List PV)) (env:Env):Option PV:=(g env).bind λps=>(m ps).bind λfs=>some (.obj c fs)
@[simp] theorem OD (c:Nat) (m:List PV->Option (List (Str×PV))) (g:Env->Option (List PV)) (env:Env):w6 c m g env=((g env).bind λps=>(m ps).bind λfs=>some (.obj c fs)):=id rfl
section
variable {X:Cx}{b:BX}{G:List Nat}{pos p:Pos}{e:Expr}{es:List Expr}{g:Env->Option (List PV)}
theorem Gf {c:Nat}{mi:List PV->Option (List (Str×PV))}{L:Bool}{σ:St}{H:Hp}{Q:VK}{Ow:Addr->Prop}{env:Env}{qs:List PV}{fs:List (Str×PV)}(E:ER b Ow G σ env H) (q1:g env=some qs) (q2:mi qs=some fs) (hl:L=true->x_ fs=true)
  (kk:∀ v H',Same H H'->Res b Ow H H' .own v (.obj c fs)->Q v H'):G_ (b.C.cl c) (spI b.C c mi) [] E0 (tMA b G L g) σ H Q:=by
 refine⟨Ow,env,qs,E,q1,λvs H1 s1 r x dx hx hdx hne=>?_⟩
 rw[List.append_nil]
 have s2:Same H1 (upd (upd H1 dx (.own x)) x (.ins (b.C.cl c) dx [])):=λa o h=>by rw[aP (bf h hx),aP (bf h hdx)];exact h
 have nw:(upd (upd H1 dx (.own x)) x (.ins (b.C.cl c) dx [])) x=some (.ins (b.C.cl c) dx []):=bK
 refine⟨λa=>ArA b Ow L H1 a/\a≠x,qs,fs,x,dx,vs,rfl,nw,λz=>z.2 rfl,r.ex λa o h=>⟨λq=>⟨s2 _ _ h,q,bf h hx⟩,λ_=>s2 _ _ h⟩,q2,λH' hH t=>⟨rfl,kk _ H' ?_ ⟨x,rfl,s1.free hx,?_⟩⟩⟩
 ·exact λa o h=>hH a o (bf (s1 _ _ h) hx) (s2 _ _ (s1 _ _ h))
 ·obtain⟨dx',f,h1,h2⟩:=t
  refine⟨dx',f,h1,?_⟩
  have keep:∀ a o,H1 a=some o->H' a=some o:=λa o h=>hH a o (bf h hx) (s2 _ _ h)
  have old:∀ a,(upd (upd H1 dx (.own x)) x (.ins (b.C.cl c) dx [])) a=none->H1 a=none:=λa h=>s2.free h
  cases L with
  | false=>exact h2.ex (cZ λz o _ q=>⟨q.1.elim (λy=>y.1.elim id λy'=>by cases y'.1) λy=>(E.up s1).fresh (old z y),q.2⟩)
  | true=>
   refine h2.nl (λa o ha z=>?_) (hl rfl)
   rcases z with ⟨(⟨z | ⟨_,us,z⟩,_⟩ | z),nz⟩
   ·exact .inl ⟨z,nz⟩
   ·have:=keep _ _ z
    rw[this] at ha
    exact .inr ⟨us,(Option.some.inj ha).symm⟩
   ·exact .inl ⟨(E.up s1).fresh (old a z),nz⟩
theorem Iw {c k j:Nat}{x:Str}{ps:List Str}{mi:List PV->Option (List (Str×PV))}(cI:CalI X.prog X.w X.K X.mg X.base (b.C.cl c) k x ps (spI b.C c mi)) (hr:Room j X.A) (ha:SA X b G false (e::es) g) (hle:k+1<=j:=by decide) (hg:Gl X x:=by rfl)
  (hdb:(x == ("__debug__" : Str))=false:=by decide) (he:starEach (e::es) X.env=(false,eval e X.env)::starEach es X.env:=by rfl) (hpl:(backTo pos (starEach es X.env)).any (·.1)=false:=by rfl):
  SE X b G .own (.Call (.Name x p) (e::es) [] pos) (w6 c mi g):=by
 obtain⟨f,fd,F,hb,hM,hm⟩:=cI.ex
 refine PE.imp (Hz hM F (hr.mono hle) hg hm hb .nil wV ha hdb he hpl) ?_
 rintro σ H Q ⟨Ow,env,q,E,hf,kk⟩
 obtain⟨qs,q1,hf⟩:=aC hf
 obtain⟨fs,q2,hf⟩:=aC hf
 cases hf
 exact Gf E q1 q2 (λz=>by cases z) kk
@[simp] noncomputable def tyN:PV->Option String
 | .non=>some "NoneType"
 | .bl _=>some "bool"
 | .int _=>some "int"
 | .str _=>some "str"
 | .lst _=>some "list"
 | .tup _=>some "tuple"
 | .dK _=>some "dict"
 | .dT _=>some "dict"
 | _=>none
noncomputable def sX (tb:List (String×Bool)) (p:PV):Option PV:=(tyN p).bind λt=>(tb.lookup t).bind λk=>some (.bl k)
@[simp] theorem Ph (tb:List (String×Bool)) (p:PV):sX tb p=((tyN p).bind λt=>(tb.lookup t).bind λk=>some (.bl k)):=id rfl
theorem RepB.ty {C:MC}{A:Addr->Prop}{H:Hp}{v:V}{p:PV}{t:String}(r:RepB C A H v p) (h:tyN p=some t):TyOf C.K H v (.type t):=by
 cases p <;> simp only[tyN] at h <;> cases h
 ·rw[r.non];exact .non
 ·rw[r.bl];exact .bl _
 ·rw[r.int];exact .int _
 ·rw[r.str];exact .str _
 ·obtain⟨a,vs,rfl,ha,_⟩:=r.lst;exact .lst ha
 ·obtain⟨a,vs,rfl,ha,_⟩:=r.tup;exact ha.elim (λq=>.tup q) λq=>.tupC q
 ·obtain⟨a,vs,rfl,ha,_⟩:=r.dK;exact .dK ha
 ·obtain⟨a,vs,rfl,ha,_⟩:=r.dT;exact .dT ha
theorem sW {α β:Type} [BEq α] [LawfulBEq α] {x:α}{y:β}:∀ {l:List (α×β)},l.lookup x=some y->(x,y)∈l
 | [],h=>by cases h
 | (a,c)::r,h=>by
  rw[List.lookup_cons] at h
  cases q:x == a with
  | true=>rw[q] at h;cases h;have:=eq_of_beq q;subst this;exact List.mem_cons_self
  | false=>rw[q] at h;exact List.mem_cons_of_mem _ (sW h)
theorem yd {m:Md}{f:Env->Option PV}{n:Str}{n':String}{p1:Pos}(tb:List (String×Bool)) (hk:∀ t k,(t,k)∈tb->PySem.W.kitOne X.K (.type t) (.type n')=some k) (hm:X.mg "isinstance" = none) (hmn:X.mg n=none) (hbn:bootBuiltins n=some (.type n')) (h:SE X b G m e f) (hK:X.K=b.C.K:=by rfl) (hg:Gl X "isinstance" := by rfl) (hgn:Gl X n:=by rfl)
  (hbi:bootBuiltins "isinstance" = some (.builtin "isinstance"):=by decide +kernel) (hn1:n ≠ "__name__" := by decide) (hd:(n == ("__debug__" : Str))=false:=by decide)
  (he:starEach [e,.Name n p1] X.env=(false,eval e X.env)::starEach [.Name n p1] X.env:=by rfl) (he2:starEach [.Name n p1] X.env=(false,eval (.Name n p1) X.env)::starEach [] X.env:=by rfl) (hpl:(backTo pos (starEach [.Name n p1] X.env)).any (·.1)=false:=by rfl):
  SE X b G .val (.Call (.Name "isinstance" p) [e,.Name n p1] [] pos) (b1 (sX tb) f):=by
 refine PE.imp (xH zb hg hm hbi (cO h.bor (cO (Hl (v:=.ty n') hgn hmn hbn rfl hn1 hd) gf he2) he) (by decide) (by decide) he hpl) ?_
 rintro σ H Q ⟨Ow,env,q,E,hf,kk⟩
 obtain⟨p1,hp1,hf⟩:=aC hf
 obtain⟨t,ht,hf⟩:=aC hf
 obtain⟨k,hk',hf⟩:=aC hf
 cases hf
 refine⟨Ow,env,p1,E,hp1,λv H1 s r=>?_⟩
 have r1:RepB b.C (Bs b Ow) H1 v p1:=r
 exact⟨v,n',.type t,k,rfl,by rw[hK];exact r1.ty ht,hk t k (sW hk'),kk _ H1 s (.bl k)⟩
end
end MR
namespace MR
open PySem L2
section
variable {X:Cx}{b:BX}{G G' L:List Nat}{ro:Bool}{pos:Pos}
noncomputable def dI (xs ys:List PV):List PV:=List.zipWith (λx y=>.tup [x,y]) xs ys
def iZ (f g:Env->Option PV) (env:Env):Option (List PV):=(f env).bind λp=>(g env).bind λq=>match p,q with
 | .lst xs,.lst ys=>some (dI xs ys)
 | _,_=>none
@[simp] theorem Qi (f g:Env->Option PV) (env:Env):iZ f g env=((f env).bind λp=>(g env).bind λq=>match p,q with
 | .lst xs,.lst ys=>some (dI xs ys)
 | _,_=>none):=id rfl
theorem um {fr:Bool}{m1 m2:Md}{e1 e2:Expr}{h1 h2:Env->Option PV}{es:List Expr}{x1:Nat}{tpos p pos:Pos}(hm:X.mg "zip" = none) (he:SE X b G m1 e1 h1) (he2:SE X b G m2 e2 h2) (hmd:fr=true->m1≠.bor) (hmd2:fr=true->m2≠.bor) (hK:X.K=b.C.K:=by rfl) (hg:Gl X "zip" := by rfl)
  (hs:starEach [e1,e2] X.env=(false,eval e1 X.env)::starEach [e2] X.env:=by rfl) (hs2:starEach [e2] X.env=(false,eval e2 X.env)::starEach [] X.env:=by rfl) (hp:(backTo pos (starEach [e2] X.env)).any (·.1)=false:=by rfl):
  SI X b G fr (.Tuple es x1 tpos) (.Call (.Name "zip" p) [e1,e2] [] pos) (iZ h1 h2):=by
 refine PI.imp (KD hg hm (cO he (cO he2 gf hs2) hs) hs hp) ?_
 rintro σ H R ⟨Ow,env,ps,E,hf,k⟩
 rw[hK]
 obtain⟨p1,hp1,hps1⟩:=aC hf
 clear hf
 obtain⟨p2,hp2,hps⟩:=aC hps1
 clear hps1
 refine⟨Ow,env,p1,E,hp1,λv H1 s r=>⟨Ow,env,p2,E.up s,hp2,λv2 H2 s2 r2=>?_⟩⟩
 have r':Res b Ow H H2 m1 v p1:=Res.up r s2
 have b1:RepB b.C (Bs b Ow) H2 v p1:=r'.bor
 have b2:RepB b.C (Bs b Ow) H2 v2 p2:=r2.bor
 cases p1 <;> cases p2 <;> simp only at hps <;> cases hps
 rename_i xs ys
 obtain⟨a,vs,rfl,ha,ra⟩:=b1.lst
 obtain⟨c,us,rfl,hc,rc⟩:=b2.lst
 refine⟨a,c,rfl,⟨vs,SqL.of ha⟩,⟨us,SqL.of hc⟩,k _ _ (s.trans s2) λOw' H3 h0 hx hn=>?_⟩
 have hq:H3 a=some (.lst vs)/\Reps b.C (Bs b Ow') H3 vs xs:=by
  refine⟨?_,ra.ex hx⟩
  cases fr with
  | false=>exact h0 rfl _ _ ha
  | true=>
   have rv:Rep b.C (Bs b Ow) H2 (.ref a) (.lst _):=r'.val E (hmd rfl)
   cases rv with
   | lst q1 q2 q3=>rw[ha] at q1;cases q1;exact((hx _ _ ha).1 q2).1
 have hq2:H3 c=some (.lst us)/\Reps b.C (Bs b Ow') H3 us ys:=by
  refine⟨?_,rc.ex hx⟩
  cases fr with
  | false=>exact h0 rfl _ _ hc
  | true=>
   have rv:Rep b.C (Bs b Ow) H2 (.ref c) (.lst _):=r2.val (E.up s) (hmd2 rfl)
   cases rv with
   | lst q1 q2 q3=>rw[hc] at q1;cases q1;exact((hx _ _ hc).1 q2).1
 refine⟨λi p hp'=>?_,⟨vs,us,SqL.of hq.1,SqL.of hq2.1,?_⟩⟩
 ·unfold dI at hp'
  rw[List.getElem?_zipWith] at hp'
  cases qx:xs[i]? with
  | none=>rw[qx] at hp';simp at hp'
  | some x=>
   cases qy:ys[i]? with
   | none=>rw[qx,qy] at hp';simp at hp'
   | some y=>
    rw[qx,qy] at hp'
    cases hp'
    obtain⟨v,hv,rv⟩:=hq.2.get qx
    obtain⟨u,hu,ru⟩:=hq2.2.get qy
    refine⟨⟨vs,v,us,u,SqL.of hq.1,hv,SqL.of hq2.1,hu⟩,λz H' yl=>?_⟩
    obtain⟨t,x',y',ht,e1,e2,y1,y2⟩:=yl
    subst e1 e2
    have e3:=y1 vs (SqL.of hq.1)
    have e4:=y2 us (SqL.of hq2.1)
    rw[hv] at e3
    rw[hu] at e4
    cases e3
    cases e4
    exact⟨bh ht _,.tup bK (.cons (rv.ex (.of_same (bh ht _))) (.cons (ru.ex (.of_same (bh ht _))) .nil))⟩
 ·have l1:=hq.2.length
  have l2:=hq2.2.length
  unfold dI
  rw[List.length_zipWith]
  omega
end
end MR
namespace L2
open PySem PySem.Spec PyProof.Rows
section
variable {X:Cx}
end
end L2
namespace MR
open PySem L2
section
variable {X:Cx}{b:BX}{G G' L:List Nat}{ro:Bool}{pos p:Pos}{m m1 m2:Md}{e e1 e2:Expr}{f f1 f2:Env->Option PV}
end
end MR
namespace MR
open PySem L2
section
variable {X:Cx}{b:BX}{G G' L:List Nat}{ro:Bool}{pos p:Pos}{m m1 m2:Md}{e e1 e2:Expr}{f f1 f2 h:Env->Option PV}
@[simp] noncomputable def Bg:PV->PV->Option PV
 | .lst xs,.lst ys=>if xs.length+ys.length<=1000000 then some (.lst (xs++ys)) else none
 | _,_=>none
theorem Do {x y z:PV}(e:Bg x y=some z):∃ xs ys,x=.lst xs/\y=.lst ys/\xs.length+ys.length<=1000000/\z=.lst (xs++ys):=by
 unfold Bg at e
 split at e
 ·split at e
  ·cases e;exact⟨_,_,rfl,rfl,‹_›,rfl⟩
  ·cases e
 ·cases e
theorem Nj (i:Nat){x:Str}{p1 apos cpos:Pos}(he:SE X b G .val e h) (hi:i∈G:=by decide) (hN:X.N[i]?=some x:=by rfl) (hv:Vis X.env.scope x:=by first | exact Or.inl rfl | exact Or.inr (Or.inl rfl) | exact Or.inr (Or.inr rfl)) (hd:(x == ("__debug__" : Str))=false:=by decide)
  (hcd:(x == ("__classdict__" : Str))=false:=by decide) (hbase:attributeBase (.Name x p1) "extend" X.env (eval (.Name x p1) X.env)=eval (.Name x p1) X.env:=by rfl)
  (hfew:((backTo cpos (starEach [e] X.env)).all (λx=>!x.1)&&(backToKw cpos (keywordEach [] X.env)).all (λx=>x.1.isSome)
   && decide ([e].length+([]:List Keyword).length+(if ([]:List Keyword).isEmpty then 0 else 1) < 30))=true:=by rfl)
  (hline:(apos.endLine == cpos.line)=true:=by rfl) (hs:starEach [e] X.env=(false,eval e X.env)::starEach [] X.env:=by rfl):
  SS X b G G L ro (.Expr (.Call (.Attribute (.Name x p1) "extend" apos) [e] [] cpos) pos) (bU Bg i h):=
 PS.imp (uL (An PySem.F.plainAttrs_list PySem.F.slot_list_extend PySem.F.type_list_extend CG (j_ hN hv hd hcd) (cO he gf hs) hbase hfew hline hs rfl))<|by
  rintro D σ H ⟨Ow,env,o,E,hf,k⟩
  obtain⟨px,hpx,z1⟩:=aC hf
  clear hf
  obtain⟨p,hp,z2⟩:=aC z1
  clear z1
  obtain⟨y,hy,z3⟩:=aC z2
  clear z2
  cases z3
  obtain⟨xs,ys,rfl,rfl,hl,rfl⟩:=Do hy
  obtain⟨a,ea,w,t⟩:=E.own i _ (fJ hpx) hi
  obtain⟨vs,ha,ra⟩:=id t
  refine⟨_,ea,.inl ⟨rfl,_,SqL.of ha⟩,Ow,env,_,E,hp,λv H' s r=>?_⟩
  cases r with
  | @lst c us _ q1 q2 q3=>
   refine⟨a,c,vs,us,rfl,rfl,s _ _ ha,q1,jw (by rw[ra.length,q3.length];exact hl),?_⟩
   have ra':Reps b.C (Bs b Ow) (upd H' a (.lst (vs++us))) (vs++us) (xs++ys):=by
    refine(ra.ex (.of_same s)).append q3 |>.ex λc o h=>⟨λq=>⟨by rw[aP (λz:c=a=>q.1 (z▸w))];exact h,q⟩,λm=>?_⟩
    have hc:c≠a:=λz=>by subst z;rw[s _ _ ha] at h;cases h;cases m
    rw[aP hc];exact h
   obtain⟨E',x⟩:=(E.up s).write hi ea (fJ hpx) w (t.ex (.of_same s) λo z=>s _ _ z) (o':=.lst (vs++us)) (p':=.lst (xs++ys)) ⟨_,bK,ra'⟩
   exact k Ow σ _ E' ((Ex.of_same s).trans x)
@[simp] noncomputable def xf:PV->Option PV
 | .lst xs=>some (.lst xs.reverse)
 | _=>none
def iRv (f:Env->Option PV) (env:Env):Option (List PV):=(f env).bind λp=>match p with
 | .lst xs=>some xs.reverse
 | _=>none
@[simp] theorem PQ (f:Env->Option PV) (env:Env):iRv f env=((f env).bind λp=>match p with
 | .lst xs=>some xs.reverse
 | _=>none):=id rfl
end
end MR
namespace MR
open PySem L2
section
variable {X:Cx}{b:BX}{G G' L:List Nat}{ro:Bool}{pos p p2 pos2:Pos}{m m1 m2:Md}{e e1 e2:Expr}{f f1 f2 h:Env->Option PV}
theorem Bh {x q:PV}(e:xf x=some q):∃ xs,x=.lst xs/\q=.lst xs.reverse:=by
 unfold xf at e
 split at e
 ·cases e;exact⟨_,rfl,rfl⟩
 ·cases e
theorem Gg (hm:X.mg "list" = none) (hm2:X.mg "reversed" = none) (h:SE X b G m1 e f) (hb:bootBuiltins "reversed" = some (.type "reversed"):=by decide +kernel) (hK:X.K=b.C.K:=by rfl) (hc:X.calm=true:=by rfl) (hg:Gl X "list" := by rfl) (hg2:Gl X "reversed" := by rfl) (hs':starEach [e] X.env=(false,eval e X.env)::starEach [] X.env:=by rfl) (hp2:(backTo pos2 (starEach [] X.env)).any (·.1)=false:=by rfl)
  (hs2:starEach [.Call (.Name "reversed" p2) [e] [] pos2] X.env=(false,eval (.Call (.Name "reversed" p2) [e] [] pos2) X.env)::starEach [] X.env:=by rfl) (hpl:(backTo pos (starEach [] X.env)).any (·.1)=false:=by rfl):
  SE X b G .own (.Call (.Name "list" p) [.Call (.Name "reversed" p2) [e] [] pos2] [] pos) (b1 xf f):=by
 refine PE.imp (FN hg hm hg2 hm2 hb hc (cO h.bor gf hs') hs' hp2 hs2 hpl) ?_
 rintro σ H Q ⟨Ow,env,q,E,hf,k⟩
 rw[hK]
 obtain⟨x,hx,hf⟩:=aC hf
 obtain⟨xs,rfl,rfl⟩:=Bh hf
 refine⟨Ow,env,_,E,hx,λv H1 s r=>?_⟩
 have r1:RepB b.C (Bs b Ow) H1 v (.lst xs):=r
 obtain⟨a,vs,rfl,ha,ra⟩:=r1.lst
 exact⟨a,vs,rfl,SqL.of ha,λl hl=>k _ _ (s.new hl _) (Res.down s (gh hl ra.reverse))⟩
theorem Lh {fr:Bool}{tg:Expr}(hm:X.mg "reversed" = none) (he:SE X b G m1 e h) (hmd:fr=true->m1≠.bor) (hb:bootBuiltins "reversed" = some (.type "reversed"):=by decide +kernel) (hK:X.K=b.C.K:=by rfl) (hg:Gl X "reversed" := by rfl) (hs:starEach [e] X.env=(false,eval e X.env)::starEach [] X.env:=by rfl) (hp:(backTo pos (starEach [] X.env)).any (·.1)=false:=by rfl):
  SI X b G fr tg (.Call (.Name "reversed" p) [e] [] pos) (iRv h):=by
 refine PI.imp (KH hg hm (cO he gf hs) hb hs hp) ?_
 rintro σ H R ⟨Ow,env,ps,E,hf,k⟩
 rw[hK]
 obtain⟨x,hx,hps⟩:=aC hf
 clear hf
 refine⟨Ow,env,x,E,hx,λv H1 s r=>?_⟩
 have r1:RepB b.C (Bs b Ow) H1 v x:=r.bor
 cases x <;> simp only at hps <;> cases hps
 rename_i xs
 obtain⟨a,vs,rfl,ha,ra⟩:=r1.lst
 refine⟨a,vs,rfl,SqL.of ha,k _ _ s λOw' H2 h0 h1 hn=>?_⟩
 have hq:H2 a=some (.lst vs)/\Reps b.C (Bs b Ow') H2 vs xs:=by
  refine⟨?_,ra.ex h1⟩
  cases fr with
  | false=>exact h0 rfl _ _ ha
  | true=>
   have rv:Rep b.C (Bs b Ow) H1 (.ref a) (.lst _):=r.val E (hmd rfl)
   cases rv with
   | lst q1 q2 q3=>rw[ha] at q1;cases q1;exact((h1 _ _ ha).1 q2).1
 have hlen:=hq.2.length
 refine⟨λi p hp'=>?_,?_⟩
 ·rcases Nat.lt_or_ge i xs.length with z | z
  ·rw[List.getElem?_reverse z] at hp'
   obtain⟨u,hu,ru⟩:=hq.2.get hp'
   rw[← hlen] at hu
   refine⟨⟨vs,u,SqL.of hq.1,rfl,by omega,hu⟩,λy H' yl=>?_⟩
   obtain⟨e1,e2⟩:=yl
   subst e1
   have e3:=e2 vs (SqL.of hq.1)
   rw[hu] at e3
   cases e3
   exact⟨Same.refl _,ru⟩
  ·rw[List.getElem?_eq_none (by simpa using z)] at hp'
   cases hp'
 ·show vs.length=xs.reverse.length
  rw[List.length_reverse]
  exact hlen
end
end MR
namespace MR
theorem Bj {α:Type}{n:Nat}{us:List α}(hl:us.length=n+1):∃ a r,us=a::r/\r.length=n:=by
 cases us with
 | nil=>cases hl
 | cons a r=>exact⟨a,r,rfl,Nat.succ.inj hl⟩
@[elab_as_elim] theorem len0 {α:Type}{P:List α->Prop}(us:List α) (hl:us.length=0) (h:P []):P us:=by
 cases us with
 | nil=>exact h
 | cons a r=>cases hl
@[elab_as_elim] theorem len1 {α:Type}{P:List α->Prop}(us:List α) (hl:us.length=1) (h:∀ a,P [a]):P us:=by
 obtain⟨a,r,rfl,hr⟩:=Bj hl
 exact len0 (P:=λr=>P (a::r)) r hr (h a)
@[elab_as_elim] theorem len2 {α:Type}{P:List α->Prop}(us:List α) (hl:us.length=2) (h:∀ a b,P [a,b]):P us:=by
 obtain⟨a,r,rfl,hr⟩:=Bj hl
 exact len1 (P:=λr=>P (a::r)) r hr (h a)
@[elab_as_elim] theorem len3 {α:Type}{P:List α->Prop}(us:List α) (hl:us.length=3) (h:∀ a b c,P [a,b,c]):P us:=by
 obtain⟨a,r,rfl,hr⟩:=Bj hl
 exact len2 (P:=λr=>P (a::r)) r hr (h a)
@[elab_as_elim] theorem len4 {α:Type}{P:List α->Prop}(us:List α) (hl:us.length=4) (h:∀ a b c d,P [a,b,c,d]):P us:=by
 obtain⟨a,r,rfl,hr⟩:=Bj hl
 exact len3 (P:=λr=>P (a::r)) r hr (h a)
end MR
namespace MR
open PySem L2
@[simp] def Li:PV->Option (List PV)
 | .lst xs=>some xs
 | .frz xs=>some xs
 | .tup xs=>some xs
 | .ktp xs=>some xs
 | _=>none
def kd:PV->SK
 | .tup _=>.T
 | .ktp _=>.T
 | _=>.L
section
variable {X:Cx}{b:BX}{G G' L:List Nat}{ro:Bool}{pos p:Pos}{m m1 m2:Md}{e e1 e2:Expr}
theorem sY {Ow:Addr->Prop}{σ:St}{env:Env}{H H2:Hp}{fr:Bool}{v:V}{p:PV}{xs:List PV}(E:ER b Ow G σ env H) (r:Res b Ow H H2 m v p) (hmd:fr=true->m≠.bor) (hs:Li p=some xs):
  ∃ a vs,v=.ref a/\SK.sq (kd p) b.C.K H2 a vs/\Reps b.C (Bs b Ow) H2 vs xs/\∀ Ow' H3,(fr=false->Same H2 H3)->Ex (Bs b Ow) H2 (Bs b Ow') H3->SK.sq (kd p) b.C.K H3 a vs/\Reps b.C (Bs b Ow') H3 vs xs:=by
 have b1:RepB b.C (Bs b Ow) H2 v p:=r.bor
 unfold Li at hs
 split at hs
 ·cases hs
  obtain⟨a,vs,rfl,ha,ra⟩:=b1.lst
  refine⟨a,vs,rfl,SqL.of ha,ra,λOw' H3 h0 hx=>?_⟩
  have hq:H3 a=some (.lst vs):=by
   cases fr with
   | false=>exact h0 rfl _ _ ha
   | true=>
    have rv:Rep b.C (Bs b Ow) H2 (.ref a) (.lst _):=r.val E (hmd rfl)
    cases rv with
    | lst q1 q2 q3=>rw[ha] at q1;cases q1;exact((hx _ _ ha).1 q2).1
  exact⟨SqL.of hq,ra.ex hx⟩
 ·cases hs
  have r1:Rep b.C (Bs b Ow) H2 v (.frz _):=(by rcases b1 with z | ⟨_,_,z⟩;exact z;exact z.elim)
  cases r1 with
  | lstF q1 q3=>exact⟨_,_,rfl,.inl (.inr ⟨_,q1⟩),q3,λOw' H3 h0 hx=>⟨.inl (.inr ⟨_,(hx _ _ q1).2 rfl⟩),q3.ex hx⟩⟩
  | lstK q1 q3=>exact⟨_,_,rfl,sqK q1,q3,λOw' H3 h0 hx=>⟨sqK q1,q3.ex hx⟩⟩
 ·cases hs
  obtain⟨a,vs,rfl,ha,ra⟩:=b1.tup
  exact⟨a,vs,rfl,ha.sq,ra,λOw' H3 h0 hx=>⟨(ha.ex hx).sq,ra.ex hx⟩⟩
 ·cases hs
  have r1:Rep b.C (Bs b Ow) H2 v (.ktp _):=(by rcases b1 with z | ⟨_,_,z⟩;exact z;exact z.elim)
  cases r1 with
  | tupK q1 q3=>exact⟨_,_,rfl,uR q1,q3,λOw' H3 h0 hx=>⟨uR q1,q3.ex hx⟩⟩
 ·cases hs
end
end MR
namespace MR
open PySem L2
section
variable {X:Cx}{b:BX}{G G' L:List Nat}{pos p p2 pos2:Pos}{m m1 m2:Md}{e:Expr}{f:Env->Option PV}
end
end MR
namespace L2
open PySem PyProof
section
variable {X:Cx}
end
end L2
namespace MR
open PySem L2
section
variable {X:Cx}{b:BX}{G G' L:List Nat}{pos p p2 pos2:Pos}{m m1 m2:Md}{e:Expr}{f:Env->Option PV}
end
end MR
namespace L2
open PySem PySem.Spec PyProof PyProof.Rows
section
variable {X:Cx}
end
end L2
namespace MR
open PySem L2
section
variable {X:Cx}{b:BX}{G G' L:List Nat}{pos p p2 pos2:Pos}{m m1 m2:Md}{e:Expr}{f:Env->Option PV}
@[simp] noncomputable def uo:List PV->Option (List Int)
 | []=>some []
 | .int c::r=>(uo r).map (c::·)
 | _::_=>none
end
end MR
namespace MR
open PySem L2
section
variable {X:Cx}{b:BX}{G G' L:List Nat}{ro:Bool}{pos p p2 pos2:Pos}{m m1 m2:Md}{e:Expr}{f:Env->Option PV}
end
end MR
namespace MR
open PySem L2
section
variable {X:Cx}{b:BX}{G G' L:List Nat}{ro:Bool}{pos p p2 pos2:Pos}{m m1 m2:Md}{e:Expr}{h:Env->Option PV}
end
end MR
namespace MR
open PySem L2
section
variable {X:Cx}{b:BX}{G G' L:List Nat}{ro:Bool}{pos p:Pos}{m m1 m2:Md}{e e1 e2:Expr}
end
end MR
namespace MR
open PySem L2
section
variable {X:Cx}{b:BX}{G:List Nat}{pos:Pos}{m1 m2 m3:Md}{e1 e2 e3:Expr}{f1 f2 f3:Env->Option PV}
end
end MR
namespace MR
open PySem L2
section
variable {X:Cx}{b:BX}{G G' L:List Nat}{pos p p2 pos2:Pos}{m m1 m2:Md}{e1 e2:Expr}{f1 f2:Env->Option PV}
end
end MR
namespace MR
open PySem L2
section
variable {X:Cx}{b:BX}{G G' L:List Nat}{ro:Bool}{pos p:Pos}{m m1 m2:Md}{e e1 e2:Expr}
end
end MR
namespace HT
open PySem PyProof.Rows
section
open PySem.SeqAt
open PySem.AutoSeq1 (wpAny_loadPart')
open PySem.MeetsSeq PySem.MeetsSeq2 PySem.MeetsSeq3
end
section
variable {A:Around}{s:Shared}
end
end HT
namespace HT
open PySem PyProof.Rows
def ltTwo (n1 n2 m1 m2:List Int):Bool:=if n1=m1 then lexLt n2 m2 else lexLt n1 m1
end HT
namespace L2
open PySem PyProof.Rows
section
variable {X:Cx}
end
end L2
namespace MR
open PySem L2
inductive Inn (C:MC) (A:Addr->Prop) (H:Hp):List Addr->List (List PV)->Prop
 | nil:Inn C A H [] []
 | cons {c:Addr}{cs:List Addr}{us:List V}{ys:List PV}{yss:List (List PV)}:H c=some (.lst us)->Reps C A H us ys->Inn C A H cs yss->Inn C A H (c::cs) (ys::yss)
section
variable {b:BX}{Ow:Addr->Prop}{G:List Nat}{i:Nat}{σ:St}{env:Env}{H H':Hp}{a:Addr}{cs:List Addr}{yss:List (List PV)}
end
end MR
namespace MR
open PySem L2
noncomputable def hid (i:Nat) (f:Env->Option Out) (env:Env):Option Out:=(f (env.set i none)).bind λo=>match o with
 | .nx e=>some (.nx (e.set i (env.getD i none)))
 | _=>none
section
variable {X:Cx}{b:BX}{G G' L:List Nat}{ro:Bool}{i:Nat}{st:Stmt}{rest:List Stmt}{f g:Env->Option Out}{e e1 e2:Expr}{h h1 h2:Env->Option PV}{m m1 m2:Md}{pos:Pos}
end
end MR
namespace MR
open PySem L2
section
variable {X:Cx}{b:BX}{G G' L:List Nat}{ro:Bool}{i:Nat}{st:Stmt}{rest:List Stmt}{f g:Env->Option Out}{e e1 e2:Expr}{h h1 h2:Env->Option PV}{m m1 m2:Md}{pos:Pos}
end
end MR
namespace MR
open PySem L2
section
variable {X:Cx}{b:BX}{G G' L:List Nat}{ro:Bool}{i:Nat}{st:Stmt}{rest:List Stmt}{f g:Env->Option Out}{e e1 e2:Expr}{h h1 h2:Env->Option PV}{m m1 m2:Md}{pos:Pos}
end
end MR
namespace MR
open PySem L2
section
variable {X:Cx}{b:BX}{G G' L:List Nat}{ro:Bool}{i n:Nat}{st:Stmt}{es:List Expr}{rest:List Stmt}{f g:Env->Option Out}{e e1 e2:Expr}{h h1 h2:Env->Option PV}{m m1 m2:Md}{pos:Pos}
end
end MR
namespace MR
open PySem L2
section
variable {X:Cx}{b:BX}{G G' L:List Nat}{pos:Pos}
end
end MR
namespace MR
open PySem L2
section
variable {X:Cx}{b:BX}{G G' L:List Nat}{ro:Bool}{i:Nat}{st:Stmt}{rest:List Stmt}{f g:Env->Option Out}{e e1 e2:Expr}{h h1 h2:Env->Option PV}{m m1 m2:Md}{pos:Pos}
variable {Ow Ow':Addr->Prop}{σ σ':St}{env env':Env}{H H':Hp}{j:Nat}{a:Addr}
end
end MR
namespace MR
open PySem L2
section
variable {X:Cx}{b:BX}{G G' L:List Nat}{ro:Bool}{i:Nat}{st:Stmt}{rest:List Stmt}{f g:Env->Option Out}{e e1 e2:Expr}{h h1 h2:Env->Option PV}{m m1 m2:Md}{pos:Pos}
end
end MR
namespace MR
open PySem L2
section
variable {X:Cx}{b:BX}{G:List Nat}{pos p p2 pos2:Pos}{m1 m2:Md}{e1 e2:Expr}{f1 f2:Env->Option PV}
end
end MR
namespace MR
open PySem L2
@[simp] noncomputable def Qj:PV->PV->PV->Option PV
 | .dK kvs,y,z=>(keyOf y).map λk=>(jx kvs k).getD z
 | .dT kvs,.tup ys,z=>(keysB ys).map λk=>(jx kvs k).getD z
 | _,_,_=>none
section
variable {X:Cx}{b:BX}{G:List Nat}{apos cpos:Pos}{m1 m2:Md}{e1 e2 e3:Expr}{f1 f2 f3:Env->Option PV}
end
end MR
namespace MR
open PySem L2
section
variable {X:Cx}{b:BX}{G:List Nat}{p pos:Pos}{m1:Md}{e:Expr}{f:Env->Option PV}
end
end MR
namespace L2
open PySem PySem.Spec PyProof PyProof.Rows
section
variable {X:Cx}
end
end L2
namespace MR
open PySem L2
section
variable {X:Cx}{b:BX}{G:List Nat}{pos p:Pos}{m1:Md}{e:Expr}{f:Env->Option PV}
end
end MR
namespace MR
open PySem L2
@[simp] noncomputable def Qk:PV->PV->Option PV
 | .lst xs,.lst ys=>if ys.length=xs.length then some (.lst (List.zipWith (λa c=>.tup [a,c]) xs ys)) else none
 | _,_=>none
@[simp] noncomputable def Ql:PV->PV->Option PV
 | .tup ys,v=>if dR v=true then (keysB ys).map λk=>.dT [(k,v)] else none
 | .ktp ys,v=>if dR v=true then (keysB ys).map λk=>.dT [(k,v)] else none
 | _,_=>none
def kP:Key->PV
 | .inl i=>.int i
 | .inr x=>.str x
@[simp] noncomputable def Hi:PV->Option (List PV)
 | .dT kvs=>if (kvs.all λkv=>kv.1.length != 2)=true then some (kvs.map λkv=>.tup (kv.1.map kP)) else none
 | _=>none
noncomputable def iK (f:Env->Option PV) (env:Env):Option (List PV):=(f env).bind Hi
@[simp] theorem Qm (f:Env->Option PV) (env:Env):iK f env=((f env).bind Hi):=id rfl
@[simp] noncomputable def Qn:PV->PV->PV->Option PV
 | .dT kvs,.ktp ys,z=>(keysB ys).map λk=>(jx kvs k).getD z
 | _,_,_=>none
section
variable {X:Cx}{b:BX}{G:List Nat}{apos cpos p p2 pos pos2:Pos}{m m1 m2:Md}{e e1 e2 e3:Expr}{f f1 f2 f3:Env->Option PV}
end
end MR
namespace MR
open PySem L2
def asL:List PV->Option (List (List PV))
 | []=>some []
 | .lst ys::r=>(asL r).map λl=>ys::l
 | _=>none
section
variable {X:Cx}{b:BX}{G G' G1 L:List Nat}{ro:Bool}{i j n:Nat}{st s1 s2:Stmt}{es:List Expr}{rest:List Stmt}{f g f1 f2:Env->Option Out}{e e1 e2 e3:Expr}{h h1 h2 h3:Env->Option PV}{m m1 m2:Md}{pos:Pos}
def Nk (i j:Nat) (f1 f2:Env->Option Out) (env:Env):Option Out:=(f1 (env.set i none)).bind λo1=>match o1 with
 | .nx e1=>(f2 e1).bind λo2=>match o2 with
  | .nx e2=>(bV j e2).bind λy=>(bV i env).bind λx=>match y,x with
   | .lst ys,.lst ws=>if ws.length < 1000000 then some (.nx ((e2.set j none).set i (some (.lst (ws++[.lst ys]))))) else none
   | _,_=>none
  | _=>none
 | _=>none
@[simp] theorem OJ (i j:Nat) (f1 f2:Env->Option Out) (env:Env):Nk i j f1 f2 env=((f1 (env.set i none)).bind λo1=>match o1 with
 | .nx e1=>(f2 e1).bind λo2=>match o2 with
  | .nx e2=>(bV j e2).bind λy=>(bV i env).bind λx=>match y,x with
   | .lst ys,.lst ws=>if ws.length < 1000000 then some (.nx ((e2.set j none).set i (some (.lst (ws++[.lst ys]))))) else none
   | _,_=>none
  | _=>none
 | _=>none):=id rfl
def Nm (i:Nat) (mi:List PV->Option PV) (ga:Env->Option (List PV)) (env:Env):Option Out:=(ga env).bind λqs=>(mi qs).bind λp=>match p with
 | .lst ws=>(asL ws).bind λ_=>if i < env.length then some (.nx (env.set i (some (.lst ws)))) else none
 | _=>none
@[simp] theorem O1 (i:Nat) (mi:List PV->Option PV) (ga:Env->Option (List PV)) (env:Env):Nm i mi ga env=((ga env).bind λqs=>(mi qs).bind λp=>match p with
 | .lst ws=>(asL ws).bind λ_=>if i < env.length then some (.nx (env.set i (some (.lst ws)))) else none
 | _=>none):=id rfl
end
end MR
namespace MR
open PySem L2
section
variable {X:Cx}{b:BX}{G G' L:List Nat}{i j:Nat}{e1 e2 e3:Expr}{h1 h2 h3:Env->Option PV}{pos pos2:Pos}
@[simp] def atL:PV->PV->Option (Nat×List PV)
 | .lst ws,.int k=>(ixN ws.length k).bind λp=>(ws[p]?).bind λw=>match w with
  | .lst ys=>some (p,ys)
  | _=>none
 | _,_=>none
@[simp] def puL:PV->Nat×List PV->PV->PV->Option PV
 | .lst ws,(p,ys),.int n,q=>(ixN ys.length n).bind λm=>some (.lst (ws.set p (.lst (ys.set m q))))
 | _,_,_,_=>none
def O2 (i j:Nat) (h1 h2 h3:Env->Option PV) (env:Env):Option Out:=(bV i env).bind λx=>(h1 env).bind λk=>(atL x k).bind λw=>(h3 ((env.set j none).set i none)).bind λq=>(h2 (env.set j (some (.lst w.2)))).bind λn=>(puL x w n q).bind λy=>if j < env.length then some (.nx ((env.set j none).set i (some y))) else none
@[simp] theorem Pj (i j:Nat) (h1 h2 h3:Env->Option PV) (env:Env):O2 i j h1 h2 h3 env=((bV i env).bind λx=>(h1 env).bind λk=>(atL x k).bind λw=>(h3 ((env.set j none).set i none)).bind λq=>(h2 (env.set j (some (.lst w.2)))).bind λn=>(puL x w n q).bind λy=>if j < env.length then some (.nx ((env.set j none).set i (some y))) else none):=id rfl
end
end MR
namespace MR
open PySem L2
@[simp] noncomputable def Dp:PV->Option (List PV)
 | .dT kvs=>if (kvs.all λkv=>kv.1.length != 2)=true then some (kvs.map λkv=>.tup [.tup (kv.1.map kP),kv.2]) else none
 | _=>none
noncomputable def iDi (f:Env->Option PV) (env:Env):Option (List PV):=(f env).bind Dp
@[simp] theorem P0 (f:Env->Option PV) (env:Env):iDi f env=((f env).bind Dp):=id rfl
section
variable {X:Cx}{b:BX}{G:List Nat}{apos cpos:Pos}{m:Md}{e:Expr}{f:Env->Option PV}
theorem RepT.get {C:MC}{A:Addr->Prop}{H:Hp}:∀ {vs:List (List Key×V)}{ps:List (List Key×PV)}{i:Nat}{w:List Key×PV},RepT C A H vs ps->ps[i]?=some w->∃ v,vs[i]?=some (w.1,v)/\Rep C A H v w.2
 | _,_,i,w,.nil,h=>by simp at h
 | _,_,0,w,.cons r t,h=>by simp at h;subst h;exact⟨_,rfl,r⟩
 | _,_,i+1,w,.cons r t,h=>by
  obtain⟨v,h1,h2⟩:=RepT.get (i:=i) t (by simpa using h)
  exact⟨v,by simpa using h1,h2⟩
end
end MR
namespace MR
open PySem L2
section
variable {X:Cx}{b:BX}{G G' L:List Nat}{pos p p2 pos2:Pos}{m m1 m2:Md}{e1 e2:Expr}{f1 f2:Env->Option PV}
@[simp] noncomputable def Qo:PV->PV->Option PV
 | .tup [.lst xs,.lst xs'],.tup [.lst ys,.lst ys']=>(uo xs).bind λns=>(uo xs').bind λns'=>(uo ys).bind λms=>(uo ys').bind λms'=>some (.bl (HT.ltTwo ns ns' ms ms'))
 | _,_=>none
end
end MR
namespace My
open PySem L2 MR
@[simp] theorem Pk (i j:Int):eqP (.int i) (.int j)=some (decide (i=j)):=rfl
@[simp] theorem zK (i j:Str):eqP (.str i) (.str j)=some (decide (i=j)):=rfl
@[simp] theorem P_ (i j:Bool):eqP (.bl i) (.bl j)=some (decide (i=j)):=rfl
theorem zL {α:Type}{xs:List α}{i:Int}(h0:0<=i) (h1:i < xs.length):atI xs i=xs[i.toNat]?:=by
 unfold atI ixN
 rw[if_pos h0,if_pos h1]
 rfl
theorem Iz {α β:Type}(f:α->β) (xs:List α) (i:Int):atI (xs.map f) i=(atI xs i).map f:=by
 unfold atI
 rw[List.length_map]
 cases ixN xs.length i with
 | none=>rfl
 | some j=>simp
theorem bQ {α:Type}{xs:List α}{k:Nat}{x:α}(h:xs[k]?=some x):atI xs (k:Int)=some x:=HX h
section
variable {α:Type}{env:MR.Env}{g:PV->MR.Env->Option MR.Env}{t:MR.Env->Option Bool}{f:MR.Env->Option PV}
theorem cz (c h:α->PV):∀ (ys:List α),(∀ y∈ys,∃ e,g (c y) env=some e/\f e=some (h y))->bJ env g bA f (ys.map c)=some (ys.map h)
 | [],_=>rfl
 | y::ys,hh=>by
  obtain⟨e,h1,h2⟩:=hh y List.mem_cons_self
  have ih:=cz c h ys λz hz=>hh z (List.mem_cons_of_mem _ hz)
  simp[bJ,h1,h2,ih]
theorem jl (c h:α->PV) (p:α->Bool):∀ (ys:List α),(∀ y∈ys,∃ e,g (c y) env=some e/\t e=some (p y)/\(p y=true->f e=some (h y)))->bJ env g t f (ys.map c)=some ((ys.filter p).map h)
 | [],_=>rfl
 | y::ys,hh=>by
  obtain⟨e,h1,h2,h3⟩:=hh y List.mem_cons_self
  have ih:=jl c h p ys λz hz=>hh z (List.mem_cons_of_mem _ hz)
  cases hp:p y with
  | true=>simp[bJ,h1,h2,h3 hp,ih,hp]
  | false=>simp[bJ,h1,h2,ih,hp]
theorem uq {S:Type}{ds:List Nat}{body:MR.Env->Option Out}(c:α->PV) (E:S->MR.Env) (step:S->α->S):∀ (ys:List α) (s:S),(∀ y∈ys,∀ s,∃ e1 e2,g (c y) (E s)=some e1/\body e1=some (.nx e2)/\clr ds e2=E (step s y))->
  bw g ds body (ys.map c) (E s)=some (.nx (E (ys.foldl step s)))
 | [],s,_=>rfl
 | y::ys,s,hh=>by
  obtain⟨e1,e2,h1,h2,h3⟩:=hh y List.mem_cons_self s
  have ih:=uq c E step ys (step s y) λz hz=>hh z (List.mem_cons_of_mem _ hz)
  simp[bw,h1,h2,h3,ih]
theorem ur {ds:List Nat}{body:MR.Env->Option Out}(c:α->PV):∀ (ys:List α),(∀ y∈ys,∃ e1 e2,g (c y) env=some e1/\body e1=some (.nx e2)/\clr ds e2=env)->bw g ds body (ys.map c) env=some (.nx env)
 | [],_=>rfl
 | y::ys,hh=>by
  obtain⟨e1,e2,h1,h2,h3⟩:=hh y List.mem_cons_self
  have ih:=ur c ys λz hz=>hh z (List.mem_cons_of_mem _ hz)
  simp[bw,h1,h2,h3,ih]
end
theorem vO {α:Type}(c:α->PV):∀ (ys:List α) (n:Nat),f9 n (ys.map c)=(ys.zipIdx n).map λy=>.tup [.int (y.2:Nat),c y.1]
 | [],_=>rfl
 | y::ys,n=>by simp[f9,vO c ys]
def sdP (ks:List Str):List (Key×PV):=ks.map λx=>((Sum.inr x:Key),PV.bl true)
theorem ut (ks:List Str):(sdP ks).length=ks.length:=by simp[sdP]
theorem ye (x:Str):∀ ks:List Str,jx (sdP ks) (Sum.inr x:Key)=if x∈ks then some (.bl true) else none
 | []=>rfl
 | k::r=>by
  have ih:=ye x r
  unfold jx at ih ⊢
  show ((((Sum.inr k:Key),PV.bl true)::sdP r).find? _).map _=_
  by_cases h:k=x
  ·subst h;simp
  ·have h':¬ x=k:=λe=>h e.symm
   have hk:¬ (Sum.inr k:Key)=Sum.inr x:=λe=>h (Sum.inr.inj e)
   rw[List.find?_cons_of_neg (by simpa using hk),ih]
   simp[h']
theorem km (x:Str) (ks:List Str):inP (.str x) (.dK (sdP ks))=some (decide (x∈ks)):=by
 simp only[inP,keyOf,Option.map_some,ye]
 by_cases h:x∈ks <;> simp[h]
def pN (ks:List Str) (x:Str):List Str:=if x∈ks then ks else ks++[x]
theorem IK (ks:List Str) (x:Str):oF (sdP ks) (Sum.inr x:Key) (.bl true)=sdP (pN ks x):=by
 have hany:((sdP ks).any λkv=>decide (kv.1=(Sum.inr x:Key)))=decide (x∈ks):=by
  unfold sdP
  rw[List.any_map]
  induction ks with
  | nil=>simp
  | cons k r ih=>
   rw[List.any_cons,ih]
   by_cases h:k=x
   ·subst h;simp
   ·have h':¬ x=k:=λe=>h e.symm
    simp[h,h']
 unfold oF pN
 rw[hany]
 by_cases h:x∈ks
 ·rw[if_pos (by simpa using h),if_pos h]
  unfold sdP
  rw[List.map_map]
  refine List.map_congr_left λy _=>?_
  by_cases e:y=x
  ·subst e;simp
  ·have:¬ (Sum.inr y:Key)=Sum.inr x:=λz=>e (Sum.inr.inj z)
   simp[this]
 ·rw[if_neg (by simpa using h),if_neg h]
  unfold sdP
  simp
def nZ (ks ws:List Str):List Str:=ws.foldl pN ks
def fZ (kind:Str) (ks:List Str):List Str->List Str
 | c::r=>if c=kind then nZ ks r else ks
 | []=>ks
def tell (kind:Str) (rs:List (List Str)):List Str:=rs.foldl (fZ kind) []
theorem yf (ks:List Str) (x:Str):(pN ks x).length<=ks.length+1:=by
 unfold pN;split <;> simp
theorem qJ:∀ (ws ks:List Str),(nZ ks ws).length<=ks.length+ws.length
 | [],ks=>Nat.le_refl _
 | x::r,ks=>by
  have h1:=qJ r (pN ks x)
  have h2:=yf ks x
  show (nZ (pN ks x) r).length<=ks.length+(r.length+1)
  omega
def total (rs:List (List Str)):Nat:=(rs.map List.length).sum
theorem vP {kind:Str}:∀ (rs:List (List Str)) (ks:List Str),(rs.foldl (fZ kind) ks).length<=ks.length+total rs
 | [],ks=>Nat.le_add_right _ _
 | ws::rs,ks=>by
  have h1:=vP (kind:=kind) rs (fZ kind ks ws)
  have h2:(fZ kind ks ws).length<=ks.length+ws.length:=by
   cases ws with
   | nil=>exact Nat.le_add_right _ _
   | cons c r=>
    show (if c=kind then nZ ks r else ks).length<=_
    split
    ·have h4:=qJ r ks
     simp
     omega
    ·exact Nat.le_add_right _ _
  rw[List.foldl_cons]
  unfold total at *
  simp
  omega
end My
namespace My
open PySem L2 MR
section
variable {α:Type}(a b c d e f g h:α) (l:List α)
@[simp] theorem at0:atI (a::l) 0=some a:=bQ (k:=0) rfl
@[simp] theorem at1:atI (a::b::l) 1=some b:=bQ (k:=1) rfl
@[simp] theorem at2:atI (a::b::c::l) 2=some c:=bQ (k:=2) rfl
@[simp] theorem at3:atI (a::b::c::d::l) 3=some d:=bQ (k:=3) rfl
end
@[simp] noncomputable def nxt (ds:List Nat):Option Out->Option MR.Env
 | some (.nx e)=>some (clr ds e)
 | some (.ct e)=>some (clr ds e)
 | _=>none
noncomputable def turn (g:PV->MR.Env->Option MR.Env) (ds:List Nat) (body:MR.Env->Option Out) (x:PV) (env:MR.Env):Option MR.Env:=(g x env).bind λe=>nxt ds (body e)
theorem mU (g:PV->MR.Env->Option MR.Env) (ds:List Nat) (body:MR.Env->Option Out) (x:PV) (env:MR.Env):turn g ds body x env=(g x env).bind λe=>nxt ds (body e):=id rfl
theorem b_ {g:PV->MR.Env->Option MR.Env}{ds:List Nat}{body:MR.Env->Option Out}{x:PV}{xs:List PV}{env env':MR.Env}(h:turn g ds body x env=some env'):bw g ds body (x::xs) env=bw g ds body xs env':=by
 unfold turn at h
 obtain⟨e,h1,h2⟩:=aC h
 unfold nxt at h2
 split at h2
 ·rename_i q;cases h2;simp[bw,h1,q]
 ·rename_i q;cases h2;simp[bw,h1,q]
 ·cases h2
theorem bR {f g:MR.Env->Option Out}{env e:MR.Env}(h:f env=some (.nx e)):aG f g env=g e:=by simp[h]
theorem lH (n:Nat):gn 0 (n:Int)=(List.range n).map λk=>PV.int (k:Nat):=by
 unfold gn
 simp
def cell (ns:List Int) (k:Nat):Int:=ns.getD k 0
def okP:Nat->PV->Prop
 | _,.non=>True
 | _,.bl _=>True
 | _,.int _=>True
 | _,.str x=>PyData.strOk x=true
 | n+1,.lst xs=>∀ x∈xs,okP n x
 | n+1,.tup xs=>∀ x∈xs,okP n x
 | _,_=>False
theorem yg {n:Nat}(ih:∀ p,okP n p->∃ d,toD p=some d/\d.canLay0=true/\d.depth<=n/\PyData.eqv d d=true):∀ xs:List PV,(∀ x∈xs,okP n x)->∃ ds,gU xs=some ds/\PyData.canLayAll0 ds=true/\PyData.depthAll ds<=n/\PyData.eqvAll ds ds=true
 | [],_=>⟨[],rfl,rfl,Nat.zero_le _,rfl⟩
 | x::xs,h=>by
  obtain⟨d,h1,h2,h3,h4⟩:=ih x (h x List.mem_cons_self)
  obtain⟨ds,g1,g2,g3,g4⟩:=yg ih xs λz hz=>h z (List.mem_cons_of_mem _ hz)
  refine⟨d::ds,by simp[gU,h1,g1],by simp[PyData.canLayAll0,h2,g2],?_,by simp[PyData.eqvAll,h4,g4]⟩
  simp only[PyData.depthAll]
  omega
theorem Bk:∀ (n:Nat) (p:PV),okP n p->∃ d,toD p=some d/\d.canLay0=true/\d.depth<=n/\PyData.eqv d d=true
 | n,.non,_=>⟨.none,by simp[toD],by simp[PyData.canLay0],by simp[PyData.depth],by simp[PyData.eqv]⟩
 | n,.bl b,_=>⟨.bool b,by simp[toD],by simp[PyData.canLay0],by simp[PyData.depth],by simp[PyData.eqv]⟩
 | n,.int b,_=>⟨.int b,by simp[toD],by simp[PyData.canLay0],by simp[PyData.depth],by simp[PyData.eqv]⟩
 | n,.str b,h=>⟨.str b,by simp[toD],by simpa [PyData.canLay0,okP] using h,by simp[PyData.depth],by simp[PyData.eqv]⟩
 | n+1,.lst xs,h=>by
  obtain⟨ds,g1,g2,g3,g4⟩:=yg (Bk n) xs (by simpa [okP] using h)
  exact⟨.list ds,by simp[toD,g1],by simp[PyData.canLay0,g2],by simp only[PyData.depth];omega,by simp[PyData.eqv,g4]⟩
 | n+1,.tup xs,h=>by
  obtain⟨ds,g1,g2,g3,g4⟩:=yg (Bk n) xs (by simpa [okP] using h)
  exact⟨.tuple ds,by simp[toD,g1],by simp[PyData.canLay0,g2],by simp only[PyData.depth];omega,by simp[PyData.eqv,g4]⟩
 | 0,.lst _,h=>by simp[okP] at h
 | 0,.tup _,h=>by simp[okP] at h
 | _,.frz _,h=>by simp[okP] at h
 | _,.ktp _,h=>by simp[okP] at h
 | _,.dK _,h=>by simp[okP] at h
 | _,.dT _,h=>by simp[okP] at h
 | _,.obj _ _,h=>by simp[okP] at h
theorem Gh {n:Nat}{p:PV}(h:okP n p) (hn:n<=64):eqD p p=some true:=by
 obtain⟨d,h1,h2,h3,h4⟩:=Bk n p h
 have hs:SeqAt.shaped d=true:=by
  unfold SeqAt.shaped
  rw[h2,Bool.true_and,decide_eq_true_eq]
  omega
 simp[eqD,h1,hs,h4]
theorem Gi {p:PV}{k:Bool}(h:eqS p p=some k):k=true:=by
 cases p <;> simp at h <;> first | exact h | exact h.symm | cases h
theorem sZ {n:Nat}{p:PV}(h:okP n p) (hn:n<=64):eqP p p=some true:=by
 unfold eqP
 cases q:eqS p p with
 | none=>exact Gh h hn
 | some k=>rw[Gi q]
@[simp] theorem Pn:eqP (.lst []) (.lst [])=some true:=sZ (n:=1) (by simp[okP]) (by decide)
end My
namespace MR
open PySem L2
@[simp] def xu:PV->Option PV
 | .int i=>some (.int (if i < 0 then -i else i))
 | _=>none
end MR
namespace MR
open PySem PySem.Spec PyProof.Rows L2
section
variable {X:Cx}{b:BX}{G:List Nat}{p pos:Pos}{m1:Md}{e:Expr}{f:Env->Option PV}
theorem Dq:bootBuiltins (Str.ofString "abs")=some (.builtin "abs"):=by kernel_rfl
theorem Dr:CallR X (.builtin "abs") (λxs H Q=>∃ i:Int,xs=[.int i]/\Q (.int (if i < 0 then -i else i)) H):=by
 intro pins s σ H xs us Q I r h
 obtain⟨i,rfl,q⟩:=h
 obtain⟨u,rfl,t,rfl⟩:=vals1 r
 exact PyProof.Rows.call_abs_int λu tk=>⟨.int _,H,I.tok _,⟨_,rfl⟩,q⟩
theorem Lj (hm:X.mg "abs" = none) (h:SE X b G m1 e f) (hg:Gl X "abs" := by rfl) (he:starEach [e] X.env=(false,eval e X.env)::starEach [] X.env:=by rfl):SE X b G .val (.Call (.Name "abs" p) [e] [] pos) (b1 xu f):=by
 refine ue Dr (λOw H v1 p1 p Q hn r1 e k=>?_) hm Dq h hg (by decide) (by decide) he
 unfold xu at e
 split at e
 ·cases e;rw[r1.int];exact⟨_,rfl,k _ H (Same.refl _) (.int _)⟩
 ·cases e
end
end MR
namespace L2
open PySem PySem.Spec PyProof.Rows
theorem uZ (a b c:Value):checkTypeCall "zip" ⟨[a,b,c],[]⟩=pure ():=by kernel_rfl
theorem wC (a b c:Value):checkBuiltinCall "zip.__new__" ⟨[.type "zip",a,b,c],[]⟩=pure ():=by kernel_rfl
theorem qK (a b c d:Value):argsOk "object.__init__" ⟨[a,b,c,d],[]⟩:=by
 unfold argsOk;rw[signature?_of (id := "object.__init__") (n:=['_','_','t','i','n','i','_','_']) (o:=['t','c','e','j','b','o']) (by kernel_rfl) F.owner_object];kernel_rfl
abbrev jz (h:Heap) (T:Addr) (a b c:Value):Prop:=h.get? T=some { cls:=.type "tuple",data:=.seq #[a,b,c] }
section
variable {prog:Program}{w:World}{A:Around}{E:Value->Shared->Prop}{s:Shared}
theorem u0 {T:Addr}{a b c x:Value}{k:Nat}{Q:Unit->Shared->Prop}(hT:jz s.heap T a b c)
  (h:∀ h',h'.get? T=some { cls:=.type "tuple",data:=.seq ((#[a,b,c]:Array Value).setIfInBounds k x) }->Heap.SameBut T s.heap h'->Q () { s with heap:=h' }):
  wpAny (model prog w) A (updateSeq T (·.setIfInBounds k x)) Q E s:=by
 refine wpAny_updateSeq hT rfl (h _ ?_ (Heap.SameBut.update ..))
 rw[Heap.get?_update_self _ hT rfl]
 simp[Obj.mapSeq]
def Z3 (n l1 l2 l3:Nat) (k:Nat) (h:Heap):Prop:=IsZip h (n+5) (n+3) (n+4) .none/\jz h (n+3) (.ref n) (.ref (n+1)) (.ref (n+2))/\(∃ a b c,jz h (n+4) a b c)/\h.IsListIter n l1 k/\h.IsListIter (n+1) l2 k/\h.IsListIter (n+2) l3 k
theorem nq {a b:Nat}(h:a≠b):@Ne Addr a b:=h
theorem np {a b c:Addr}(h:a≠b) (h':a≠c):a∉[b,c]:=by simp[h,h']
theorem Ds {n l1 l2 l3:Nat}{k:Nat}{xs ys zs:Array Value}{x y z:Value}{Q:Value->Shared->Prop}(hh:A.handled=none) (q1:l1 < n) (q2:l2 < n) (q3:l3 < n) (st:Z3 n l1 l2 l3 k s.heap)
  (L1:s.heap.IsList l1 xs) (L2:s.heap.IsList l2 ys) (L3:s.heap.IsList l3 zs) (hx:xs[k]?=some x) (hy:ys[k]?=some y) (hw:zs[k]?=some z)
  (hQ:∀ h' tk,IsZip h' (n+5) (n+3) (n+4) (rawInt s.heap.objs.size)->jz h' (n+4) x y z->h'.IsListIter n l1 (k+1)->h'.IsListIter (n+1) l2 (k+1)->h'.IsListIter (n+2) l3 (k+1)->jz h' s.heap.objs.size x y z->h'.objs.size=s.heap.objs.size+1->
   (∀ c o,c≠n+5->c≠n+4->c≠n->c≠n+1->c≠n+2->s.heap.get? c=some o->h'.get? c=some o)->Q (.ref s.heap.objs.size) { s with heap:=h',toks:=tk }):
  wpAny (model prog w) A (Builtin.«zip.__next__» ⟨[.ref (n+5)],[]⟩) (λfin s'=>∃ v,fin=.done (.ret v)/\Q v s') E s:=by
 obtain⟨hz,hTI,⟨a,b,c,hTO⟩,h1,h2,h3⟩:=st
 have D1:=Draws.list (prog:=prog) (w:=w) (A:=A) hh n l1 (nq (by omega)) xs
 have D2:=Draws.list (prog:=prog) (w:=w) (A:=A) hh (n+1) l2 (nq (by omega)) ys
 have D3:=Draws.list (prog:=prog) (w:=w) (A:=A) hh (n+2) l3 (nq (by omega)) zs
 have k1:k < xs.size:=(Array.getElem?_eq_some_iff.mp hx).1
 have k2:k < ys.size:=(Array.getElem?_eq_some_iff.mp hy).1
 have k3:k < zs.size:=(Array.getElem?_eq_some_iff.mp hw).1
 show wpAny _ _ (field (.ref (n+5)) 2 >>= _) _ _ _
 refine wpAny_bind (wpAny_field hz rfl (x:=.bool false) rfl ?_)
 show wpAny _ _ (field (.ref (n+5)) 3 >>= _) _ _ _
 refine wpAny_bind (wpAny_field hz rfl (x:=.ref (n+3)) rfl (wpAny_bind (wpAny_seqItems hTI rfl ?_)))
 show wpAny _ _ (Builtin.SmallTypes.ownedTupleIsFree (.ref (n+5)) >>= _) _ _ _
 refine wpAny_bind ?_;unfold Builtin.SmallTypes.ownedTupleIsFree
 refine wpAny_bind (wpAny_field hz rfl (x:=.none) rfl (wpAny_pure ?_));simp only[if_true]
 refine wpAny_bind (wpAny_rule (wpAny_bind (wpAny_field hz rfl (x:=.ref (n+4)) rfl (wpAny_bind (wpAny_setField_rec hz (by simp) λg1 z1 s1=>?_)))))
 replace z1:IsZip g1 (n+5) (n+3) (n+4) .ellipsis:=z1
 refine wpAny_bind ?_;simp only[List.zipIdx_cons,List.zipIdx_nil,List.forIn_cons,List.forIn_nil]
 refine wpAny_bind (wpAny_bind (wpAny_onRaise ?_))
 show wpAny _ _ (Builtin.SmallTypes.nextOf (.ref n) >>= _) _ _ _
 refine wpAny_bind (D1.item k _ _ _ k1 (D1.frame k _ _ ⟨h1,L1⟩ (cB s1 (np (nq (by omega)) (nq (by omega))))) λx' g2 tk2 px u2 s2=>wpAny_pure ?_)
 have o2:jz g2 (n+4) a b c:=s2.extBut _ _ (nq (by omega)) (s1.extBut _ _ (nq (by omega)) hTO)
 refine wpAny_bind (wpAny_seqItems o2 rfl (wpAny_bind (u0 o2 λg3 o3 s3=>wpAny_bind (wpAny_letGo (wpAny_pure ?_)))))
 replace o3:jz g3 (n+4) x' b c:=o3
 refine wpAny_bind (wpAny_bind (wpAny_onRaise ?_))
 show wpAny _ _ (Builtin.SmallTypes.nextOf (.ref (n+1)) >>= _) _ _ _
 have v3:=D2.frame k _ _ (D2.frame k _ _ (D2.frame k _ _ ⟨h2,L2⟩ (cB s1 (np (nq (by omega)) (nq (by omega))))) (cB s2 (np (nq (by omega)) (nq (by omega))))) (cB s3 (np (nq (by omega)) (nq (by omega))))
 refine wpAny_bind (D2.item k _ _ _ k2 v3 λy' g4 tk4 py u4 s4=>wpAny_pure ?_)
 have o4:jz g4 (n+4) x' b c:=s4.extBut _ _ (nq (by omega)) o3
 refine wpAny_bind (wpAny_seqItems o4 rfl (wpAny_bind (u0 o4 λg5 o5 s5=>wpAny_bind (wpAny_letGo (wpAny_pure ?_)))))
 replace o5:jz g5 (n+4) x' y' c:=o5
 refine wpAny_bind (wpAny_bind (wpAny_onRaise ?_))
 show wpAny _ _ (Builtin.SmallTypes.nextOf (.ref (n+2)) >>= _) _ _ _
 have v5:=D3.frame k _ _ (D3.frame k _ _ (D3.frame k _ _ (D3.frame k _ _ (D3.frame k _ _ ⟨h3,L3⟩ (cB s1 (np (nq (by omega)) (nq (by omega))))) (cB s2 (np (nq (by omega)) (nq (by omega))))) (cB s3 (np (nq (by omega)) (nq (by omega))))) (cB s4 (np (nq (by omega)) (nq (by omega))))) (cB s5 (np (nq (by omega)) (nq (by omega))))
 refine wpAny_bind (D3.item k _ _ _ k3 v5 λw' g6 tk6 pw u6 s6=>wpAny_pure ?_)
 have o6:jz g6 (n+4) x' y' c:=s6.extBut _ _ (nq (by omega)) o5
 refine wpAny_bind (wpAny_seqItems o6 rfl (wpAny_bind (u0 o6 λg7 o7 s7=>wpAny_bind (wpAny_letGo (wpAny_pure (wpAny_pure ?_))))))
 replace o7:jz g7 (n+4) x' y' w':=o7
 rw[hx] at px;rw[hy] at py;rw[hw] at pw
 cases px;cases py;cases pw
 refine wpAny_bind (wpAny_seqItems o7 rfl (wpAny_bind (wpAny_newTuple ?_)))
 have sz:g7.objs.size=s.heap.objs.size:=by rw[s7.1,s6.1,s5.1,s4.1,s3.1,s2.1,s1.1]
 have z7:IsZip g7 (n+5) (n+3) (n+4) .ellipsis:=s7.extBut _ _ (nq (by omega)) (s6.extBut _ _ (nq (by omega)) (s5.extBut _ _ (nq (by omega)) (s4.extBut _ _ (nq (by omega)) (s3.extBut _ _ (nq (by omega)) (s2.extBut _ _ (nq (by omega)) z1)))))
 have k7:∀ c o,c≠n+5->c≠n+4->c≠n->c≠n+1->c≠n+2->s.heap.get? c=some o->g7.get? c=some o:=λc o c1 c2 c3 c4 c5 e=>s7.extBut _ _ c2 (s6.extBut _ _ c5 (s5.extBut _ _ c2 (s4.extBut _ _ c4 (s3.extBut _ _ c2 (s2.extBut _ _ c3 (s1.extBut _ _ c1 e))))))
 have w1:=D1.frame _ _ _ (D1.frame _ _ _ (D1.frame _ _ _ (D1.frame _ _ _ (D1.frame _ _ _ u2 (cB s3 (np (nq (by omega)) (nq (by omega))))) (cB s4 (np (nq (by omega)) (nq (by omega))))) (cB s5 (np (nq (by omega)) (nq (by omega))))) (cB s6 (np (nq (by omega)) (nq (by omega))))) (cB s7 (np (nq (by omega)) (nq (by omega))))
 have w2:=D2.frame _ _ _ (D2.frame _ _ _ (D2.frame _ _ _ u4 (cB s5 (np (nq (by omega)) (nq (by omega))))) (cB s6 (np (nq (by omega)) (nq (by omega))))) (cB s7 (np (nq (by omega)) (nq (by omega))))
 have w3:=D3.frame _ _ _ u6 (cB s7 (np (nq (by omega)) (nq (by omega))))
 have lz:n+5 < g7.objs.size:=Heap.lt_size z7
 show wpAny _ _ (Builtin.SmallTypes.ownedTupleHandOut (.ref (n+5)) (.ref g7.objs.size) >>= _) _ _ _
 refine wpAny_bind ?_;unfold Builtin.SmallTypes.ownedTupleHandOut
 have z8:IsZip (g7.push { cls:=.type "tuple",data:=.seq #[x,y,z] }) (n+5) (n+3) (n+4) .ellipsis:=Heap.get?_push_of_some _ z7
 refine wpAny_bind (wpAny_setField_rec z8 (by simp) λg9 z9 s9=>?_)
 replace z9:IsZip g9 (n+5) (n+3) (n+4) (rawInt g7.objs.size):=z9
 refine wpAny_setField_rec z9 (by simp) λgA zA sA=>?_
 replace zA:IsZip gA (n+5) (n+3) (n+4) (rawInt g7.objs.size):=zA
 have up:∀ c o,c≠n+5->g7.get? c=some o->gA.get? c=some o:=λc o c1 e=>sA.extBut _ _ c1 (s9.extBut _ _ c1 (Heap.get?_push_of_some _ e))
 have pA:jz gA g7.objs.size x y z:=sA.extBut _ _ (Nat.ne_of_gt lz) (s9.extBut _ _ (Nat.ne_of_gt lz) (Heap.get?_push_size _ rfl))
 have yA:gA.objs.size=g7.objs.size+1:=by rw[sA.1,s9.1,Heap.size_push]
 rw[sz] at zA pA yA
 refine wpAny_pure ⟨_,rfl,?_⟩
 show Q (.ref g7.objs.size) _
 rw[sz]
 exact hQ gA _ zA (up _ _ (nq (by omega)) o7) (w1.1.at λo e=>up _ _ (nq (by omega)) e) (w2.1.at λo e=>up _ _ (nq (by omega)) e) (w3.1.at λo e=>up _ _ (nq (by omega)) e) pA yA λc o c1 c2 c3 c4 c5 e=>up c o c1 (k7 c o c1 c2 c3 c4 c5 e)
theorem Gj {n l1 l2 l3:Nat}{k:Nat}{xs:Array Value}{Q:Fin->Shared->Prop}(hh:A.handled=none) (q1:l1 < n) (st:Z3 n l1 l2 l3 k s.heap) (L1:s.heap.IsList l1 xs) (hk:k=xs.size)
  (hE:∀ h' tk e,(∀ c o,c≠n+5->c≠n->s.heap.get? c=some o->h'.get? c=some o)->(∃ o,h'.get? e=some o/\o.cls=.type "StopIteration")->E (.ref e) { s with heap:=h',toks:=tk }):
  wpAny (model prog w) A (Builtin.«zip.__next__» ⟨[.ref (n+5)],[]⟩) Q E s:=by
 obtain⟨hz,hTI,⟨a,b,c,hTO⟩,h1,h2,h3⟩:=st
 have D1:=Draws.list (prog:=prog) (w:=w) (A:=A) hh n l1 (nq (by omega)) xs
 show wpAny _ _ (field (.ref (n+5)) 2 >>= _) _ _ _
 refine wpAny_bind (wpAny_field hz rfl (x:=.bool false) rfl ?_)
 show wpAny _ _ (field (.ref (n+5)) 3 >>= _) _ _ _
 refine wpAny_bind (wpAny_field hz rfl (x:=.ref (n+3)) rfl (wpAny_bind (wpAny_seqItems hTI rfl ?_)))
 show wpAny _ _ (Builtin.SmallTypes.ownedTupleIsFree (.ref (n+5)) >>= _) _ _ _
 refine wpAny_bind ?_;unfold Builtin.SmallTypes.ownedTupleIsFree
 refine wpAny_bind (wpAny_field hz rfl (x:=.none) rfl (wpAny_pure ?_));simp only[if_true]
 refine wpAny_bind (wpAny_rule (wpAny_bind (wpAny_field hz rfl (x:=.ref (n+4)) rfl (wpAny_bind (wpAny_setField_rec hz (by simp) λg1 z1 s1=>?_)))))
 replace z1:IsZip g1 (n+5) (n+3) (n+4) .ellipsis:=z1
 refine wpAny_bind ?_;simp only[List.zipIdx_cons,List.zipIdx_nil,List.forIn_cons,List.forIn_nil]
 refine wpAny_bind (wpAny_bind (wpAny_onRaise ?_))
 show wpAny _ _ (Builtin.SmallTypes.nextOf (.ref n) >>= _) _ _ _
 subst hk
 refine wpAny_bind (D1.done _ _ _ (D1.frame _ _ _ ⟨h1,L1⟩ (cB s1 (np (nq (by omega)) (nq (by omega))))) λg2 e s2 he=>?_)
 obtain⟨oe,hoe,hce⟩:=he
 have z2:IsZip g2 (n+5) (n+3) (n+4) .ellipsis:=s2 _ _ (nq (by omega)) z1
 have hez:e≠n+5:=λq=>by subst q;rw[z2] at hoe;cases hoe;simp at hce
 exact wpAny_setField_rec z2 (by simp) λg3 _ s3=>hE g3 _ e (λc o c1 c3 q=>s3.extBut _ _ c1 (s2 _ _ c3 (s1.extBut _ _ c1 q))) ⟨oe,s3.extBut _ _ hez hoe,hce⟩
end
def z3h (h:Heap) (l1 l2 l3:Addr):Heap:=(((((h.push { cls:=.type "list_iterator",data:=.fields #[.ref l1,.int 0 0] }).push { cls:=.type "list_iterator",data:=.fields #[.ref l2,.int 0 0] }).push { cls:=.type "list_iterator",data:=.fields #[.ref l3,.int 0 0] }).push
 { cls:=.type "tuple",data:=.seq #[.ref h.objs.size,.ref (h.push { cls:=.type "list_iterator",data:=.fields #[.ref l1,.int 0 0] }).objs.size,.ref ((h.push { cls:=.type "list_iterator",data:=.fields #[.ref l1,.int 0 0] }).push { cls:=.type "list_iterator",data:=.fields #[.ref l2,.int 0 0] }).objs.size] }).push { cls:=.type "tuple",data:=.seq #[.none,.none,.none] })
def z3H (h:Heap) (l1 l2 l3:Addr):Heap:=(z3h h l1 l2 l3).push { cls:=.type "zip",data:=.fields #[.none,.bool false,.bool false,.ref (((h.push { cls:=.type "list_iterator",data:=.fields #[.ref l1,.int 0 0] }).push { cls:=.type "list_iterator",data:=.fields #[.ref l2,.int 0 0] }).push { cls:=.type "list_iterator",data:=.fields #[.ref l3,.int 0 0] }).objs.size,.ref ((((h.push { cls:=.type "list_iterator",data:=.fields #[.ref l1,.int 0 0] }).push { cls:=.type "list_iterator",data:=.fields #[.ref l2,.int 0 0] }).push { cls:=.type "list_iterator",data:=.fields #[.ref l3,.int 0 0] }).push
 { cls:=.type "tuple",data:=.seq #[.ref h.objs.size,.ref (h.push { cls:=.type "list_iterator",data:=.fields #[.ref l1,.int 0 0] }).objs.size,.ref ((h.push { cls:=.type "list_iterator",data:=.fields #[.ref l1,.int 0 0] }).push { cls:=.type "list_iterator",data:=.fields #[.ref l2,.int 0 0] }).objs.size] }).objs.size] }
theorem IV (l1 l2 l3:Addr) (xs ys zs:Array Value):Meets (Builtin.«zip.__new__» ⟨[.type "zip",.ref l1,.ref l2,.ref l3],[]⟩) (λ_ R s=>s.heap.IsList l1 xs/\s.heap.IsList l2 ys/\s.heap.IsList l3 zs /\
   R (.ok (.ret (.ref (z3h s.heap l1 l2 l3).objs.size))) { s with heap:=z3H s.heap l1 l2 l3 }):=
 .of_wp λprog w A R s h=>by
  obtain⟨hp,g,d,tk,os⟩:=s
  obtain⟨q1,q2,q3,h⟩:=h
  have hsub:=sub_zip
  have e1:Heap.IsList (Shared.heap ⟨hp,g,d,tk,os⟩) l1 xs:=q1
  have e2:Heap.IsList (Shared.heap ⟨hp.push { cls:=.type "list_iterator",data:=.fields #[.ref l1,.int 0 0] },g,d,tk,os⟩) l2 ys:=Heap.IsList.push q2 _
  have e3:Heap.IsList (Shared.heap ⟨(hp.push { cls:=.type "list_iterator",data:=.fields #[.ref l1,.int 0 0] }).push { cls:=.type "list_iterator",data:=.fields #[.ref l2,.int 0 0] },g,d,tk,os⟩) l3 zs:=Heap.IsList.push (Heap.IsList.push q3 _) _
  wp_walk using wpAny_pyIter_list e1,wpAny_pyIter_list e2,wpAny_pyIter_list e3
  exact⟨_,rfl,h⟩
section
variable {prog:Program}{w:World}{A:Around}{E:Value->Shared->Prop}{s:Shared}
theorem Du {l1 l2 l3:Addr}{xs ys zs:Array Value}{Q:Value->Shared->Prop}(q1:s.heap.IsList l1 xs) (q2:s.heap.IsList l2 ys) (q3:s.heap.IsList l3 zs)
  (h:∀ h',Z3 s.heap.objs.size l1 l2 l3 0 h'->(∀ c o,s.heap.get? c=some o->h'.get? c=some o)->Q (.ref (s.heap.objs.size+5)) { s with heap:=h' }):
  wpAny (model prog w) A (call (.type "zip") [.ref l1,.ref l2,.ref l3]) Q E s:=by
 refine callType_new F.called_zip (by decide) (uZ _ _ _) (wC _ _ _) (λobj=>qK obj _ _ _) F.entry_zip_new (IV l1 l2 l3 xs ys zs) ⟨q1,q2,q3,?_⟩
 have g1:(z3H s.heap l1 l2 l3).get? (z3h s.heap l1 l2 l3).objs.size=some _:=Heap.get?_push_size _ rfl
 have e1:(z3h s.heap l1 l2 l3).objs.size=s.heap.objs.size+5:=by simp only[z3h,Heap.size_push]
 show _/\_
 rw[e1] at g1 ⊢
 refine⟨⟨_,g1,rfl⟩,h _ ⟨?_,?_,⟨.none,.none,.none,?_⟩,?_,?_,?_⟩ λc o x=>?_⟩
 ·simp only[Heap.size_push] at g1
  exact g1
 ·have:(z3H s.heap l1 l2 l3).get? (((s.heap.push { cls:=.type "list_iterator",data:=.fields #[.ref l1,.int 0 0] }).push { cls:=.type "list_iterator",data:=.fields #[.ref l2,.int 0 0] }).push { cls:=.type "list_iterator",data:=.fields #[.ref l3,.int 0 0] }).objs.size=some _:=Heap.get?_push_of_some _ (Heap.get?_push_of_some _ (Heap.get?_push_size _ rfl))
  simp only[Heap.size_push] at this
  exact this
 ·have:(z3H s.heap l1 l2 l3).get? (_:Heap).objs.size=some _:=Heap.get?_push_of_some _ (Heap.get?_push_size _ rfl)
  simp only[Heap.size_push] at this
  exact this
 ·exact⟨_,Heap.get?_push_of_some _ (Heap.get?_push_of_some _ (Heap.get?_push_of_some _ (Heap.get?_push_of_some _ (Heap.get?_push_of_some _ (Heap.get?_push_size _ rfl))))),rfl,rfl⟩
 ·have:(z3H s.heap l1 l2 l3).get? (s.heap.push { cls:=.type "list_iterator",data:=.fields #[.ref l1,.int 0 0] }).objs.size=some _:=Heap.get?_push_of_some _ (Heap.get?_push_of_some _ (Heap.get?_push_of_some _ (Heap.get?_push_of_some _ (Heap.get?_push_size _ rfl))))
  simp only[Heap.size_push] at this
  exact⟨_,this,rfl,rfl⟩
 ·have:(z3H s.heap l1 l2 l3).get? ((s.heap.push { cls:=.type "list_iterator",data:=.fields #[.ref l1,.int 0 0] }).push { cls:=.type "list_iterator",data:=.fields #[.ref l2,.int 0 0] }).objs.size=some _:=Heap.get?_push_of_some _ (Heap.get?_push_of_some _ (Heap.get?_push_of_some _ (Heap.get?_push_size _ rfl)))
  simp only[Heap.size_push] at this
  exact⟨_,this,rfl,rfl⟩
 ·exact Heap.get?_push_of_some _ (Heap.get?_push_of_some _ (Heap.get?_push_of_some _ (Heap.get?_push_of_some _ (Heap.get?_push_of_some _ (Heap.get?_push_of_some _ x)))))
end
def It3 (K:PySem.W.Frag) (a b c:Addr):It:=
  ⟨λi H=>∃ xs x ys y zs z,SqL K H a xs/\xs[i]?=some x/\SqL K H b ys/\ys[i]?=some y/\SqL K H c zs/\zs[i]?=some z,
   λi H v H'=>∃ t x y z,H t=none/\v=.ref t/\H'=upd H t (.tup [x,y,z])/\(∀ xs,SqL K H a xs->xs[i]?=some x)/\(∀ ys,SqL K H b ys->ys[i]?=some y)/\∀ zs,SqL K H c zs->zs[i]?=some z,
   λi H=>∃ xs,SqL K H a xs/\xs.length=i⟩
theorem O3 {n b:Nat}(h:b∈[n+5,n+4,n,n+1,n+2]):b∈[n+5,n+3,n+4,n,n+1,n+2]:=by
 simp only[List.mem_cons,List.not_mem_nil,or_false] at h ⊢
 omega
theorem vQ {P:Program}{w:World}{K:PySem.W.Frag}{es:List Expr}{x1:Nat}{tpos:Pos}{n l1 l2 l3:Nat}(q1:l1 < n) (q2:l2 < n) (q3:l3 < n):Turn P w K (.Tuple es x1 tpos) (It3 K l1 l2 l3) [n+5,n+3,n+4,n,n+1,n+2] (n+5) (Z3 n l1 l2 l3) where
 mem:=by simp
 obj:=λi h st b hb=>by
  obtain⟨hz,hTI,⟨a,c,e,hTO⟩,⟨o1,e1,c1,d1⟩,⟨o2,e2,c2,d2⟩,⟨o3,e3,c3,d3⟩⟩:=st
  simp only[List.mem_cons,List.not_mem_nil,or_false] at hb
  rcases hb with rfl | rfl | rfl | rfl | rfl | rfl
  ·exact⟨_,hz,λv y=>by have y':Data.fields _=Data.cell v:=y;cases y'⟩
  ·exact⟨_,hTI,λv y=>by have y':Data.seq _ _=Data.cell v:=y;cases y'⟩
  ·exact⟨_,hTO,λv y=>by have y':Data.seq _ _=Data.cell v:=y;cases y'⟩
  ·exact⟨o1,e1,λv y=>by rw[d1] at y;cases y⟩
  ·exact⟨o2,e2,λv y=>by rw[d2] at y;cases y⟩
  ·exact⟨o3,e3,λv y=>by rw[d3] at y;cases y⟩
 keep:=λi h h' st k=>by
  obtain⟨hz,hTI,⟨a,c,e,hTO⟩,s1,s2,s3⟩:=st
  exact⟨k _ (by simp) _ hz,k _ (by simp) _ hTI,⟨a,c,e,k _ (by simp) _ hTO⟩,s1.at λo q=>k _ (by simp) o q,s2.at λo q=>k _ (by simp) o q,s3.at λo q=>k _ (by simp) o q⟩
 item:=by
  intro X hP hw hK hc i pins s σ H E I hf st hg
  subst hP hw hK
  obtain⟨xs,x,ys,y,zs,z,hq1,hx,hq2,hy,hq3,hz3⟩:=hg
  have st':=st
  obtain⟨hz,hTI,⟨a,b,c,hTO⟩,s1,s2,s3⟩:=st
  obtain⟨its1,rv1,p1,_⟩:=I.list hq1
  obtain⟨its2,rv2,p2,_⟩:=I.list hq2
  obtain⟨its3,rv3,p3,_⟩:=I.list hq3
  obtain⟨u,hu,ru⟩:=rv1.get hx
  obtain⟨v,hv,rv⟩:=rv2.get hy
  obtain⟨r,hr,rr⟩:=rv3.get hz3
  have hh:=I.ok.hd hc
  have hT:s.TypeIs (.ref (n+5)) "zip" := ⟨_,hz,rfl⟩
  unfold pyNext
  refine wpAny_bind (wpAny_attempt (wpAny_callSpecial?_slot (name:=Str.ofString "__next__") hT F.slot_zip_next (wpAny_call_entry F.slot_zip_next hT F.entry_zip_next
   (Ds hh q1 q2 q3 st' p1.isList p2.isList p3.isList (x:=u) (y:=v) (z:=r) (by simpa using hu) (by simpa using hv) (by simpa using hr) λh' tk z1 t1 j1 j2 j3 tp hsz hk=>wpAny_pure ⟨_,rfl,?_⟩) (F.args_zip_next_1 _))))
  refine wpAny_letOwnedTupleGo_zip (s:={ s with heap:=h',toks:=tk }) z1 λh2 z2 sb=>?_
  have lz:n+5 < s.heap.objs.size:=Heap.lt_size hz
  have g2:h2.get? s.heap.objs.size=some { cls:=.type "tuple",data:=.seq #[u,v,r] }:=(sb.2 _ (Nat.ne_of_gt lz)).trans tp
  have kp:∀ c o,c∉[n+5,n+4,n,n+1,n+2]->s.heap.get? c=some o->h2.get? c=some o:=λc o hb q=>by
   simp only[List.mem_cons,List.not_mem_nil,or_false,not_or] at hb
   exact(sb.2 c hb.1).trans (hk c o hb.1 hb.2.1 hb.2.2.1 hb.2.2.2.1 hb.2.2.2.2 q)
  have gTO:jz h2 (n+4) u v r:=(sb.2 _ (nq (by omega))).trans t1
  have g1:h2.IsListIter n l1 (i+1):=j1.extBut sb.extBut (nq (by omega))
  have g2':h2.IsListIter (n+1) l2 (i+1):=j2.extBut sb.extBut (nq (by omega))
  have g3':h2.IsListIter (n+2) l3 (i+1):=j3.extBut sb.extBut (nq (by omega))
  have ht2:∀ c o,s.heap.get? c=some o->∃ o',h2.get? c=some o':=λc o q=>by
   by_cases n1:c∈[n+5,n+4,n,n+1,n+2]
   ·simp only[List.mem_cons,List.not_mem_nil,or_false] at n1
    rcases n1 with rfl | rfl | rfl | rfl | rfl
    ·exact⟨_,z2⟩
    ·exact⟨_,gTO⟩
    ·obtain⟨o',e',_⟩:=g1;exact⟨o',e'⟩
    ·obtain⟨o',e',_⟩:=g2';exact⟨o',e'⟩
    ·obtain⟨o',e',_⟩:=g3';exact⟨o',e'⟩
   ·exact⟨o,kp c o n1 q⟩
  have I2:Inv X pins σ (upd H s.heap.objs.size (.tup [x,y,z])) { s with heap:=h2,toks:=tk }:=
   I.turnedL (ch:=[n+5,n+4,n,n+1,n+2]) kp ht2 (λb hb=>hf b (O3 hb)) (Nat.le_refl _)
    ⟨by show 3<=sizeLine;decide,[u,v,r],.cons ru (.cons rv (.cons rr .nil)),⟨_,g2,rfl,_,rfl⟩⟩
  refine⟨.ref s.heap.objs.size,_,I2,rfl,⟨s.heap.objs.size,x,y,z,I.fresh,rfl,rfl,λzs hy=>by rw[I.list_inj hy hq1];exact hx,λzs hy'=>by rw[I.list_inj hy' hq2];exact hy,λzs hy'=>by rw[I.list_inj hy' hq3];exact hz3⟩,⟨z2,?_,⟨u,v,r,gTO⟩,g1,g2',g3'⟩,λb hb=>?_⟩
  ·exact kp _ _ (by simp) hTI
  ·have hb0:=(hf b hb).1
   rw[aP ?_]
   ·exact hb0
   ·obtain⟨o,e⟩:∃ o,s.heap.get? b=some o:=by
     simp only[List.mem_cons,List.not_mem_nil,or_false] at hb
     rcases hb with rfl | rfl | rfl | rfl | rfl | rfl
     ·exact⟨_,hz⟩
     ·exact⟨_,hTI⟩
     ·exact⟨_,hTO⟩
     ·obtain⟨o,e1,_⟩:=s1;exact⟨o,e1⟩
     ·obtain⟨o,e1,_⟩:=s2;exact⟨o,e1⟩
     ·obtain⟨o,e1,_⟩:=s3;exact⟨o,e1⟩
    exact Nat.ne_of_lt (Heap.lt_size e)
 done:=by
  intro X hP hw hK hc i pins s σ H E I hf st hg
  subst hP hw hK
  obtain⟨xs,hq1,hl⟩:=hg
  obtain⟨its1,rv1,p1,_⟩:=I.list hq1
  have l1':=rv1.length
  have hh:=I.ok.hd hc
  have hT:s.TypeIs (.ref (n+5)) "zip" := ⟨_,st.1,rfl⟩
  unfold pyNext
  refine wpAny_bind (wpAny_attempt (wpAny_callSpecial?_slot (name:=Str.ofString "__next__") hT F.slot_zip_next (wpAny_call_entry F.slot_zip_next hT F.entry_zip_next
   (Gj hh q1 st p1.isList (by rw[List.size_toArray];omega) λh' tk e kp he=>?_) (F.args_zip_next_1 _))))
  obtain⟨o,ho,ho'⟩:=he
  refine wpAny_bind (wpAny_isInstance (T := "StopIteration") (b:=true) ⟨o,ho,ho'⟩ isSubtype_stop (wpAny_pure ⟨rfl,?_⟩))
  refine I.turnedM (ch:=[n+5,n]) (λc o hb q=>?_) (λb hb=>hf b (by simp only[List.mem_cons,List.not_mem_nil,or_false] at hb ⊢;rcases hb with e | e <;> simp[e]))
  simp only[List.mem_cons,List.not_mem_nil,or_false,not_or] at hb
  exact kp c o hb.1 hb.2 q
 self:=λA i s Q E st h=>wpAny_pyIter_zip st.1 h
section
variable {X:Cx}
theorem vals3 {a b c:V}{us:List Value}(h:Vals [a,b,c] us):∃ u v w,us=[u,v,w]/\RelV a u/\RelV b v/\RelV c w:=by
 cases h with
 | cons h1 h=>
  obtain⟨v,w,rfl,h2,h3⟩:=vals2 h
  exact⟨_,v,w,rfl,h1,h2,h3⟩
def Np (K:PySem.W.Frag) (ta:TA):TI:=fun σ H R=>ta σ H λvs H1=>∃ a b c,vs=[.ref a,.ref b,.ref c]/\(∃ xs,SqL K H1 a xs)/\(∃ ys,SqL K H1 b ys)/\(∃ zs,SqL K H1 c zs)/\R (It3 K a b c) H1
theorem Gk {l r e:Expr}{ta:TA}{es:List Expr}{x1:Nat}{tpos p pos:Pos}(hg:Gl X "zip") (hm:X.mg "zip" = none) (ha:PA X [l,r,e] ta) (hs:starEach [l,r,e] X.env=(false,eval l X.env)::starEach [r,e] X.env:=by rfl) (hp:(backTo pos (starEach [r,e] X.env)).any (·.1)=false:=by rfl):
  PI X (.Tuple es x1 tpos) (.Call (.Name "zip" p) [l,r,e] [] pos) (Np X.K ta):=by
 intro pins s σ H R I h
 refine Call_ (jM I hg hm PyProof.Rows.boot_zip (PyProof.Rows.callWith_type1 (thn (ha pos pins s σ H _ I h) ?_) hs hp))
 rintro us s1 ⟨vs,H1,I1,r1,q1⟩
 obtain⟨a,b,c,e,⟨xs,hq1⟩,⟨ys,hq2⟩,⟨zs,hq3⟩,q⟩:=q1
 subst e
 obtain⟨u,v,w,rfl,ru,rv,rw'⟩:=vals3 r1
 cases ru
 cases rv
 cases rw'
 obtain⟨its1,rv1,p1,_⟩:=I1.list hq1
 obtain⟨its2,rv2,p2,_⟩:=I1.list hq2
 obtain⟨its3,rv3,p3,_⟩:=I1.list hq3
 have a1:a < s1.heap.objs.size:=by obtain⟨_,e,_⟩:=p1.isList;exact Heap.lt_size e
 have a2:b < s1.heap.objs.size:=by obtain⟨_,e,_⟩:=p2.isList;exact Heap.lt_size e
 have a3:c < s1.heap.objs.size:=by obtain⟨_,e,_⟩:=p3.isList;exact Heap.lt_size e
 refine Du p1.isList p2.isList p3.isList λh' st hk=>?_
 have I2:Inv X pins σ H1 { s1 with heap:=h' }:=I1.kept (t':=s1.toks) hk
 refine(vQ (P:=X.prog) (w:=X.w) (K:=X.K) (es:=es) (x1:=x1) (tpos:=tpos) a1 a2 a3).self X.A 0 { s1 with heap:=h' } _ _ st ?_
 refine⟨s1.heap.objs.size+5,_,_,_,H1,rfl,I2,vQ a1 a2 a3,st,λc hb=>?_,q⟩
 have hb':s1.heap.objs.size<=c:=by
  simp only[List.mem_cons,List.not_mem_nil,or_false] at hb
  rcases hb with e | e | e | e | e | e <;> rw[e] <;> omega
 exact I1.fpOk hb' (I1.hok.fresh hb')
end
end L2
namespace MR
open PySem L2
def qL:PV->Option (List PV)
 | .lst xs=>some xs
 | _=>none
@[simp] theorem Pq (xs:List PV):qL (.lst xs)=some xs:=id rfl
def jQ:List PV->List PV->List PV->List PV
 | x::xs,y::ys,z::zs=>.tup [x,y,z]::jQ xs ys zs
 | _,_,_=>[]
def Gm (f g h:Env->Option PV) (env:Env):Option (List PV):=(f env).bind λp=>(g env).bind λq=>(h env).bind λr=>(qL p).bind λxs=>(qL q).bind λys=>(qL r).bind λzs=>if xs.length=ys.length/\ys.length=zs.length then some (jQ xs ys zs) else none
@[simp] theorem Pr (f g h:Env->Option PV) (env:Env):Gm f g h env=((f env).bind λp=>(g env).bind λq=>(h env).bind λr=>(qL p).bind λxs=>(qL q).bind λys=>(qL r).bind λzs=>if xs.length=ys.length/\ys.length=zs.length then some (jQ xs ys zs) else none):=id rfl
theorem qM:∀ {xs ys zs:List PV},xs.length=ys.length->ys.length=zs.length->(jQ xs ys zs).length=xs.length
 | [],[],[],_,_=>rfl
 | _::xs,_::ys,_::zs,h,h'=>by simp only[jQ,List.length_cons] at *;rw[qM (by omega) (by omega)]
theorem vR:∀ {xs ys zs:List PV}{i:Nat}{p:PV},(jQ xs ys zs)[i]?=some p->∃ x y z,xs[i]?=some x/\ys[i]?=some y/\zs[i]?=some z/\p=.tup [x,y,z]
 | x::xs,y::ys,z::zs,0,p,h=>by cases h;exact⟨x,y,z,rfl,rfl,rfl,rfl⟩
 | x::xs,y::ys,z::zs,i+1,p,h=>vR (xs:=xs) (ys:=ys) (zs:=zs) (i:=i) h
 | [],_,_,_,_,h=>by cases h
 | _::_,[],_,_,_,h=>by cases h
 | _::_,_::_,[],_,_,h=>by cases h
theorem tu {p:PV}{xs:List PV}(h:qL p=some xs):p=.lst xs:=by
 cases p with
 | lst ys=>cases h;rfl
 | _=>cases h
section
variable {X:Cx}{b:BX}{G:List Nat}{pos p:Pos}{m1 m2 m3:Md}{e1 e2 e3:Expr}
theorem Gn {h1 h2 h3:Env->Option PV}{es:List Expr}{x1:Nat}{tpos:Pos}(hm:X.mg "zip" = none) (he:SE X b G m1 e1 h1) (he2:SE X b G m2 e2 h2) (he3:SE X b G m3 e3 h3) (hK:X.K=b.C.K:=by rfl) (hg:Gl X "zip" := by rfl)
  (hs:starEach [e1,e2,e3] X.env=(false,eval e1 X.env)::starEach [e2,e3] X.env:=by rfl) (hs2:starEach [e2,e3] X.env=(false,eval e2 X.env)::starEach [e3] X.env:=by rfl) (hs3:starEach [e3] X.env=(false,eval e3 X.env)::starEach [] X.env:=by rfl) (hp:(backTo pos (starEach [e2,e3] X.env)).any (·.1)=false:=by rfl):
  SI X b G false (.Tuple es x1 tpos) (.Call (.Name "zip" p) [e1,e2,e3] [] pos) (Gm h1 h2 h3):=by
 refine PI.imp (Gk hg hm (cO he (cO he2 (cO he3 gf hs3) hs2) hs) hs hp) ?_
 rintro σ H R ⟨Ow,env,ps,E,hf,k⟩
 rw[hK]
 obtain⟨p1,hp1,z1⟩:=aC hf
 obtain⟨p2,hp2,z2⟩:=aC z1
 obtain⟨p3,hp3,z3⟩:=aC z2
 obtain⟨xs,hxs,z4⟩:=aC z3
 obtain⟨ys,hys,z5⟩:=aC z4
 obtain⟨zs,hzs,z6⟩:=aC z5
 clear hf z1 z2 z3 z4 z5
 split at z6
 ·rename_i hl
  cases z6
  cases tu hxs
  cases tu hys
  cases tu hzs
  refine⟨Ow,env,.lst xs,E,hp1,λv H1 s r=>⟨Ow,env,.lst ys,E.up s,hp2,λv2 H2 s2 r2=>⟨Ow,env,.lst zs,(E.up s).up s2,hp3,λv3 H3 s3 r3=>?_⟩⟩⟩
  obtain⟨a,vs,rfl,qa,ra,ka⟩:=sY (fr:=false) E (Res.up (Res.up r s2) s3) (λz=>by cases z) (xs:=xs) rfl
  obtain⟨c,us,rfl,qc,rc,kc⟩:=sY (fr:=false) (E.up s) (Res.up r2 s3) (λz=>by cases z) (xs:=ys) rfl
  obtain⟨d,ws,rfl,qd,rd,kd'⟩:=sY (fr:=false) ((E.up s).up s2) r3 (λz=>by cases z) (xs:=zs) rfl
  refine⟨a,c,d,rfl,⟨vs,qa⟩,⟨us,qc⟩,⟨ws,qd⟩,k _ _ (s.trans (s2.trans s3)) λOw' H4 h0 hx hn=>?_⟩
  obtain⟨qa',ra'⟩:=ka Ow' H4 h0 hx
  obtain⟨qc',rc'⟩:=kc Ow' H4 h0 hx
  obtain⟨qd',rd'⟩:=kd' Ow' H4 h0 hx
  have l1:=ra'.length
  refine⟨λi p hp'=>?_,⟨vs,qa',by rw[qM hl.1 hl.2];exact l1⟩⟩
  obtain⟨x,y,z,qx,qy,qz,rfl⟩:=vR hp'
  obtain⟨v,hv,rv⟩:=ra'.get qx
  obtain⟨u,hu,ru⟩:=rc'.get qy
  obtain⟨w,hw,rw'⟩:=rd'.get qz
  refine⟨⟨vs,v,us,u,ws,w,qa',hv,qc',hu,qd',hw⟩,λz' H' yl=>?_⟩
  obtain⟨t,x',y',w',ht,e1,e2,y1,y2,y3⟩:=yl
  subst e1 e2
  have f1:=y1 vs qa'
  have f2:=y2 us qc'
  have f3:=y3 ws qd'
  rw[hv] at f1
  rw[hu] at f2
  rw[hw] at f3
  cases f1
  cases f2
  cases f3
  exact⟨bh ht _,.tup bK (.cons (rv.ex (.of_same (bh ht _))) (.cons (ru.ex (.of_same (bh ht _))) (.cons (rw'.ex (.of_same (bh ht _))) .nil)))⟩
 ·cases z6
end
end MR
namespace MR
open PySem L2
end MR
namespace My
open PySem L2 MR
noncomputable section
def oY:PV:=.ktp [.str "never",.str "may",.str "must"]
def rG:PV:=.ktp [.int 1,.str "-"]
def tb_list:List (String×Bool):=[("list",true)]
def tb_str:List (String×Bool):=[("str",true)]
def jW:=(nU mD 2 (bV 4) (bC (.bl true)))
def dm:=(sIf (tV (b2 eqQ (b2 ixP (bV 3) (bC (.int 0))) (bV 0))) (eZ (gN 4) (iV (bSl (bV 3) (oS (bC (.int 1))) oN)) [4] jW) sNx)
def oZ:=(aG (aJ 2 (bC (.dK []))) (aG (eZ (gN 3) (iV (bV 1)) [3,4] dm) (aW (bV 2))))
def a_:=bL 5 2 false oZ
def jR:=(sIf (tV (b2 eqQ (b2 ixP (bV 2) (bC (.int 0))) (bC (.str "run")))) (aJ 1 (b2 ixP (bV 2) (bC (.int 1)))) sNx)
def sJ:=(aG (aJ 1 (bC (.str "never"))) (aG (eZ (gN 2) (iV (bV 0)) [2] jR) (aW (bV 1))))
def iC:=bL 3 1 false sJ
def dU:=(sIf (tV (b2 eqQ (b2 ixP (bV 2) (bC (.int 0))) (bC (.str "alike")))) (nU mD 1 (my (ak (b2 ixP (bV 2) (bC (.int 1))) (ak (b2 ixP (bV 2) (bC (.int 2))) aF))) (bC (.bl true))) sNx)
def pY:=(aG (aJ 1 (bC (.dT []))) (aG (eZ (gN 2) (iV (bV 0)) [2] dU) (aW (bV 1))))
def fK:=bL 3 1 false pY
def qN:=(aW (eX (b2 eqQ (b1 lenV (bV 0)) (bC (.int 1))) (b2 inQ (bV 0) (bC (.str "abcdefghijklmnopqrstuvwxyz")))))
def cT:=bL 1 1 false qN
def jH:=(aK cT (ak (bV 0) aF))
def n_:=(aW (eX (b2 eqQ (b2 ixP (bV 0) (bC (.int 0))) (bC (.str "carry"))) (eX (b2 (jU λi j=>decide (j < i)) (b1 lenV (bV 0)) (bC (.int 1))) (b1 mC (cD [none] (iV (bSl (bV 0) (oS (bC (.int 1))) oN)) (gN 0) bA jH)))))
def cJ:=bL 1 1 false n_
def pZ:=(aW (eX (b2 eqQ (b1 lenV (bV 1)) (bC (.int 2))) (eX (b2 inQ (b2 ixP (bV 1) (bC (.int 0))) (bV 0)) (b2 inQ (b2 ixP (bV 1) (bC (.int 1))) (bV 0)))))
def il:=bL 2 2 false pZ
def kE:=(aK il (ak (bV 1) (ak (bV 0) aF)))
def p6:=(aW (eX (b2 eqQ (b2 ixP (bV 1) (bC (.int 0))) (bC (.str "one"))) (eX (b2 (jU λi j=>decide (j < i)) (b1 lenV (bV 1)) (bC (.int 1))) (b1 mC (cD [none,some 0] (iV (bSl (bV 1) (oS (bC (.int 1))) oN)) (gN 0) bA kE)))))
def di:=bL 2 2 false p6
def uv:=(aW (eX (aK cT (ak (bV 1) aF)) (b2 qD (bV 1) (bV 0))))
def gZ:=bL 2 2 false uv
def g8:=(b2 inQ (bV 0) (bV 1))
def g_:=(aK gZ (ak (bV 1) (ak (bV 0) aF)))
def lW:=(aG (sIf (tV (b2 neQ (b1 lenV (bV 2)) (bC (.int 2)))) (aW (bC (.bl false))) sNx) (aW (bOr (b1 mC (cD [none,some 1] (iV (bV 2)) (gN 0) bA g8)) (b1 mC (cD [none,some 0] (iV (bV 2)) (gN 0) bA g_)))))
def dJ:=bL 3 3 false lW
def kI:=(aK gZ (ak (bV 1) (ak (bV 0) aF)))
def p7:=(aW (eX (qF (λi j=>decide (i<=j)) (λi j=>decide (i<=j)) (bC (.int 2)) (b1 lenV (bV 1)) (bC (.int 4))) (b1 mC (cD [none,some 0] (iV (bV 1)) (gN 0) bA kI))))
def ir:=bL 2 2 false p7
def nu:=(b2 inQ (bV 0) (bV 1))
def nF:=(aK ir (ak (bV 1) (ak (bV 0) aF)))
def pO:=(aG (aJ 3 (b2 ixP (bV 2) (bC (.int 0)))) (aG (aJ 4 (bSl (bV 2) (oS (bC (.int 1))) oN)) (aG (aJ 5 (b2 cg (b1 lQ (bV 0)) (b1 lQ (bV 1)))) (aG (sIf (tV (b2 eqQ (bV 3) (bC (.str "carry")))) (aW (aK cJ (ak (bV 2) aF))) sNx) (aG (sIf (tV (b2 eqQ (bV 3) (bC (.str "one")))) (aW (aK di (ak (bV 0) (ak (bV 2) aF)))) sNx) (aG (sIf (tO (tV (b2 eqQ (bV 3) (bC (.str "long")))) (tV (b2 eqQ (bV 3) (bC (.str "either"))))) (aW (eX (b2 (jU λi j=>decide (j < i)) (b1 lenV (bV 4)) (bC (.int 0))) (b1 mC (cD [none,some 5] (iV (bV 4)) (gN 0) bA nu)))) sNx) (aG (sIf (tO (tV (b2 eqQ (bV 3) (bC (.str "begin")))) (tV (b2 eqQ (bV 3) (bC (.str "split"))))) (aW (eX (b2 (jU λi j=>decide (j < i)) (b1 lenV (bV 4)) (bC (.int 0))) (b1 mC (cD [none,some 0] (iV (bV 4)) (gN 0) bA nF)))) sNx) (aG (sIf (tV (b2 eqQ (bV 3) (bC (.str "run")))) (aW (eX (b2 eqQ (b1 lenV (bV 4)) (bC (.int 1))) (b2 inQ (b2 ixP (bV 4) (bC (.int 0))) (bC oY)))) sNx) (aW (eX (b2 eqQ (bV 3) (bC (.str "alike"))) (aK dJ (ak (bV 0) (ak (bV 5) (ak (bV 4) aF))))))))))))))
def kJ:=bL 6 3 false pO
def dW:=(b2 qH (bV 0) (bC (.str " ")))
def gq:=(bV 0)
def gr:=(tV (aK cJ (ak (bV 0) aF)))
def gw:=(bV 0)
def gB:=(tV (aK di (ak (lG 0 "carrying" (bV 1)) (ak (bV 0) aF))))
def gC:=(sIf (tN (tV (aK kJ (ak (lG 0 "carrying" (bV 0)) (ak (lG 0 "pairs" (bV 0)) (ak (bV 4) aF)))))) sNo sNx)
def lD:=(aG (aJ 2 (cD [none] (iV (bV 1)) (gN 0) bA dW)) (aG (bU (fsV 0 "carrying") 0 (aK a_ (ak (bC (.str "carry")) (ak (cD [none] (iV (bV 2)) (gN 0) gr gq) aF)))) (aG (bU (fsV 0 "pairs") 0 (aK a_ (ak (bC (.str "one")) (ak (cD [none,some 0] (iV (bV 2)) (gN 0) gB gw) aF)))) (aG (eZ (gT [3,4]) (iE (bV 2)) [3,4] gC) (aG (bU (fsV 0 "longs") 0 (aK a_ (ak (bC (.str "long")) (ak (bV 2) aF)))) (aG (bU (fsV 0 "eithers") 0 (aK a_ (ak (bC (.str "either")) (ak (bV 2) aF)))) (aG (bU (fsV 0 "beginnings") 0 (aK a_ (ak (bC (.str "begin")) (ak (bV 2) aF)))) (aG (bU (fsV 0 "splittings") 0 (aK a_ (ak (bC (.str "split")) (ak (bV 2) aF)))) (aG (bU (fsV 0 "running") 0 (aK iC (ak (bV 2) aF))) (bU (fsV 0 "likes") 0 (aK fK (ak (bV 2) aF))))))))))))
def b7:List PV->Option (List (Str×PV)):=rF 5 2 0 lD
def iT:=(b2 ixP (bV 1) (b2 lF (b2 ixP (bV 2) (b2 cg (b2 uU (bC (.int 5)) (bV 3)) (bV 0))) (bC (.int 9))))
def iU:=(bV 0)
def iW:=(tV (b2 inQ (bV 0) (bC (.str "aei"))))
def fW:=(aG (aJ 3 (b1 xu (b2 ixP (bV 0) (b2 uU (bC (.int 5)) (bV 2))))) (aG (aJ 4 (cF (ak (bC (.str "a")) (ak (bC (.str "e")) (ak (bC (.str "i")) (ak (bC (.str "p")) (ak (bC (.str "t")) (ak (bC (.str "r")) (ak (bC (.str "s")) (ak (bC (.str "spr")) (ak (bC (.str "tr")) aF))))))))))) (aG (aJ 5 (b2 lR (bC (.str "")) (cD [none,some 4,some 0,some 2] (iR1 (b2 cg (bC (.int 1)) (b2 lF (bV 3) (bC (.int 4))))) (gN 0) bA iT))) (aG (aJ 5 (b2 cg (b2 cg (b2 ixP (cF (ak (bC (.str "")) (ak (bC (.str "a")) (ak (bC (.str "p")) (ak (bC (.str "e")) aF))))) (b2 lF (b2 pI (bV 3) (bC (.int 4))) (bC (.int 4)))) (bV 5)) (b2 ixP (cF (ak (bC (.str "")) (ak (bC (.str "a")) (ak (bC (.str "i")) (ak (bC (.str "s")) aF))))) (b2 lF (b2 pI (bV 3) (bC (.int 16))) (bC (.int 4)))))) (aG (sIf (tV (b2 eqQ (b1 lenV (cD [none] (iV (bV 5)) (gN 0) iW iU)) (bC (.int 0)))) (aJ 5 (b2 cg (bV 5) (bC (.str "a")))) sNx) (bU fY 1 (bV 5)))))))
def p8:=(aG (aJ 1 (cF aF)) (aG (eZ (gN 2) (iR1 (b2 pI (b1 lenV (bV 0)) (bC (.int 5)))) [2,3,4,5] fW) (aW (bV 1))))
def fL:=bL 6 1 false p8
def lX:=(aW (b2 inQ (bV 1) (lG 0 "carrying" (bV 0))))
def bc:=bL 2 2 false lX
def kO:=(aK cT (ak (bV 0) aF))
def kW:=(fD 0 "carries" bc (bV 1) (ak (bV 0) aF))
def uw:=(aG (sIf (tO (tN (tV (b1 (sX tb_str) (bV 1)))) (tV (b2 (jU λi j=>decide (j < i)) (b1 lenV (bV 1)) (bC (.int 24))))) (aW (bC (.bl false))) sNx) (aW (eX (b1 mC (cD [none] (iV (bV 1)) (gN 0) bA kO)) (b1 FZ (cD [none,some 0] (iV (bV 1)) (gN 0) bA kW)))))
def kY:=bL 2 2 false uw
def jJ:=(sIf (tN (tV (aK kY (ak (bV 0) (ak (bV 1) aF))))) sNo sNx)
def bI:=bL 2 2 false jJ
def lY:=(aW (b2 inQ (bV 1) (lG 0 "pairs" (bV 0))))
def dM:=bL 2 2 false lY
def fM:=(aG (aJ 4 (bIf (tV (fD 0 "is_pair" dM (bV 0) (ak (bSl (bV 1) (oS (bV 3)) (oS (b2 cg (bV 3) (bC (.int 2))))) aF))) (bC (.int 2)) (bC (.int 1)))) (aG (bU fY 2 (bSl (bV 1) (oS (bV 3)) (oS (b2 cg (bV 3) (bV 4))))) (aJ 3 (b2 cg (bV 3) (bV 4)))))
def fO:=(tV (b2 (jU λi j=>decide (i < j)) (bV 3) (b1 lenV (bV 1))))
def oG:=(aG (uf (aK bI (ak (bV 0) (ak (bV 1) aF)))) (aG (aJ 2 (cF aF)) (aG (aJ 3 (bC (.int 0))) (aG (uh 1000000 fO [4] fM) (aW (bV 2))))))
def iD:=bL 5 2 false oG
def jX:=(bV 0)
def jY:=(tV (fD 0 "carries" bc (bV 1) (ak (b2 ixP (bV 0) (bC (.int 0))) aF)))
def o8:=(aW (cD [none,some 0] (iV (bV 1)) (gN 0) jY jX))
def eG:=bL 2 2 false o8
def e_:=(sIf (tV (fD 0 "carries" bc (bV 0) (ak (b2 ixP (bV 3) (bC (.int 0))) aF))) (bU fY 2 (bC (.str ""))) (nU mD 2 (b1 jG (bC (.int 1))) (b2 cg (b2 ixP (bV 2) (b1 jG (bC (.int 1)))) (bV 3))))
def mL:=(aG (aJ 2 (cF (ak (bC (.str "")) aF))) (aG (eZ (gN 3) (iV (bV 1)) [3] e_) (aW (bV 2))))
def jA:=bL 4 2 false mL
def mH:=(aW (b2 inQ (bV 1) (lG 0 "splittings" (bV 0))))
def cG:=bL 2 2 false mH
def mJ:=(aW (b2 inQ (bV 1) (lG 0 "beginnings" (bV 0))))
def d_:=bL 2 2 false mJ
def gF:=(sIf (tV (fD 0 "begins" d_ (bV 0) (ak (bSl (bV 1) (oS (bV 2)) oN) aF))) (aW (bSl (bV 1) oN (oS (bV 2)))) sNx)
def mO:=(aG (sIf (tV (fD 0 "splits" cG (bV 0) (ak (bV 1) aF))) (aW (bC (.str ""))) sNx) (aG (eZ (gN 2) (iR1 (b1 lenV (bV 1))) [2] gF) (aW (bSl (bV 1) oN (oS (b1 jG (bC (.int 1))))))))
def jB:=bL 3 2 false mO
def eE:=(aG (aJ 9 (aK jB (ak (bV 0) (ak (bV 8) aF)))) (aG (bU fY 5 (my (ak (bV 6) (ak (bV 7) (ak (bV 9) (ak (fD 0 "splits" cG (bV 0) (ak (bV 8) aF)) aF)))))) (aJ 6 (bSl (bV 8) (oS (b1 lenV (bV 9))) oN))))
def iY:=(aG (aJ 2 (aK iD (ak (bV 0) (ak (bV 1) aF)))) (aG (aJ 3 (aK eG (ak (bV 0) (ak (bV 2) aF)))) (aG (aJ 4 (aK jA (ak (bV 0) (ak (bV 2) aF)))) (aG (aJ 5 (cF aF)) (aG (aJ 6 (b2 ixP (bV 4) (bC (.int 0)))) (aG (eZ (gT [7,8]) (iZ (bSl (bV 3) oN (oS (b1 jG (bC (.int 1))))) (bSl (bV 4) (oS (bC (.int 1))) (oS (b1 jG (bC (.int 1)))))) [7,8,9] eE) (aG (bU fY 5 (my (ak (bV 6) (ak (b2 ixP (bV 3) (b1 jG (bC (.int 1)))) (ak (b2 ixP (bV 4) (b1 jG (bC (.int 1)))) (ak (bC (.bl false)) aF)))))) (aW (bV 5)))))))))
def bx:=bL 10 2 false iY
def gb:=(aG (sIf (tV (b2 inQ (bV 1) (lG 0 "longs" (bV 0)))) (aW (bC (.str "-"))) sNx) (aG (sIf (tV (b2 inQ (bV 1) (lG 0 "eithers" (bV 0)))) (aW (bC (.str "x"))) sNx) (aW (bC (.str "u")))))
def cH:=bL 2 2 false gb
def kZ:=(aG (sIf (tV (b2 neQ (bV 2) (bC (.str "")))) (aW (cF (ak (my (ak (bC (.int 0)) (ak (bC (.str "-")) aF))) aF))) sNx) (aG (aJ 4 (fD 0 "weight" cH (bV 0) (ak (bV 1) aF))) (aG (aJ 5 (cF aF)) (aG (sIf (tV (b2 neQ (bV 4) (bC (.str "-")))) (bU fY 5 (my (ak (bC (.int 0)) (ak (bC (.str "u")) aF)))) sNx) (aG (sIf (tV (b2 neQ (bV 4) (bC (.str "u")))) (bU fY 5 (my (ak (bC (.int 0)) (ak (bC (.str "-")) aF)))) sNx) (aG (sIf (tV (bV 3)) (bU fY 5 (my (ak (bC (.int 1)) (ak (bC (.str "-")) aF)))) sNx) (aW (bV 5))))))))
def cU:=bL 6 4 true kZ
def o9:=(aW (lG 0 "running" (bV 0)))
def eN:=bL 1 1 false o9
def jm:=(aG (sIf (tV (b2 neQ (bV 2) (bC (.str "")))) (aW (aK cU (ak (bV 0) (ak (bV 1) (ak (bSl (bV 2) oN (oS (b1 jG (bC (.int 1))))) (ak (bC (.bl false)) aF)))))) sNx) (aG (sIf (tV (b2 eqQ (fD 0 "run" eN (bV 0) aF) (bC (.str "must")))) (aW (cF (ak (bC .non) aF))) sNx) (aG (aJ 3 (aK cU (ak (bV 0) (ak (bV 1) (ak (bV 2) (ak (bC (.bl false)) aF)))))) (aG (sIf (tV (b2 eqQ (fD 0 "run" eN (bV 0) aF) (bC (.str "may")))) (bU fY 3 (bC .non)) sNx) (aW (bV 3))))))
def cV:=bL 4 3 false jm
def i_:=(aK cU (ak (bV 4) (ak (bV 1) (ak (bV 2) (ak (bV 3) aF)))))
def mG:=(aG (aJ 3 (aK bx (ak (bV 0) (ak (bV 1) aF)))) (aG (aJ 4 (cD [none,none,none,none,some 0] (iV (bV 3)) (gT [0,1,2,3]) bA i_)) (aG (sIf (tV (b2 isN (bV 2) (bC .non))) (aW (bV 4)) sNx) (aG (uf (aK bI (ak (bV 0) (ak (bV 2) aF)))) (aG (sIf (tV (fD 0 "carries" bc (bV 0) (ak (b2 ixP (bV 2) (bC (.int 0))) aF))) (aG (aJ 5 (b2 ixP (bV 3) (b1 jG (bC (.int 1))))) (nU mD 4 (b1 jG (bC (.int 1))) (aK cV (ak (bV 0) (ak (b2 ixP (bV 5) (bC (.int 1))) (ak (b2 ixP (bV 5) (bC (.int 2))) aF)))))) sNx) (aW (bV 4)))))))
def bO:=bL 6 3 false mG
def iu:=(aK bO (ak (bV 2) (ak (bV 0) (ak (bV 1) aF))))
def sO:=(aG (aJ 2 (b2 xX (bSl (bV 1) (oS (bC (.int 1))) oN) (cF (ak (bC .non) aF)))) (aW (cD [none,none,some 0] (iZ (bV 1) (bV 2)) (gT [0,1]) bA iu)))
def dG:=bL 3 2 false sO
def k_:=(bU Bg 1 (bV 2))
def p_:=(aG (aJ 1 (cF aF)) (aG (eZ (gN 2) (iV (bV 0)) [2] k_) (aW (bV 1))))
def dZ:=bL 3 1 false p_
def lJ:=(aG (bU fY 2 (b2 ixP (bV 4) (b2 lF (bV 3) (b1 lenV (bV 4))))) (aJ 3 (b2 pI (bV 3) (b1 lenV (bV 4)))))
def qO:=(aG (aJ 2 (cF aF)) (aG (aJ 3 (bV 1)) (aG (eZ (gN 4) (iRv (aK dZ (ak (bV 0) aF))) [4] lJ) (aW (b1 xf (bV 2))))))
def gG:=bL 5 2 false qO
def jb:=(b2 ixP (bV 0) (bC (.int 0)))
def jc:=(b2 ixP (bV 0) (bC (.int 2)))
def fX:=(sIf (tV (b2 eqQ (bV 5) (bC rG))) (aG (nU mD 3 (bV 4) (b2 cg (b2 ixP (bV 3) (bV 4)) (bSl (b2 ixP (bV 2) (b2 cg (bV 4) (bC (.int 1)))) oN (oS (bC (.int 1)))))) (nU mD 2 (b2 cg (bV 4) (bC (.int 1))) (bSl (b2 ixP (bV 2) (b2 cg (bV 4) (bC (.int 1)))) (oS (bC (.int 1))) oN))) sNx)
def jd:=(b2 cg (b2 cg (bV 0) (b2 ixP (bV 1) (bC (.int 1)))) (bV 2))
def qb:=(aG (aJ 2 (cD [none] (iV (bV 0)) (gN 0) bA jb)) (aG (aJ 3 (cD [none] (iV (bV 0)) (gN 0) bA jc)) (aG (eZ (gT [4,5]) (iE (bV 1)) [4,5] fX) (aW (cD [none,none,none] (Gm (bV 2) (bV 0) (bV 3)) (gT [0,1,2]) bA jd)))))
def iy:=bL 6 2 false qb
def jK:=(aG (sIf (tV (b2 isN (bV 1) (bC .non))) (aW (b2 cg (b2 cg (bC (.str "(")) (bV 0)) (bC (.str ")")))) sNx) (aW (b2 cg (bV 0) (b2 ixP (bV 1) (bC (.int 1))))))
def c7:=bL 2 2 false jK
def je:=(aK c7 (ak (bV 0) (ak (bV 1) aF)))
def qe:=(aG (aJ 2 (aK iy (ak (bV 0) (ak (bV 1) aF)))) (aW (b2 lR (bC (.str ".")) (cD [none,none] (iZ (bV 2) (bV 1)) (gT [0,1]) bA je))))
def iz:=bL 3 2 false qe
def iB:=(aG (aJ 6 (aK bx (ak (bV 0) (ak (bV 5) aF)))) (aG (aJ 7 (b2 cg (bV 4) (b1 lenV (bV 6)))) (aG (bU fY 3 (aK iz (ak (bV 6) (ak (bSl (bV 2) (oS (bV 4)) (oS (bV 7))) aF)))) (aJ 4 (bV 7)))))
def sS:=(aG (aJ 3 (cF aF)) (aG (aJ 4 (bC (.int 0))) (aG (eZ (gN 5) (iV (bV 1)) [5,6,7] iB) (aW (b2 lR (bC (.str " ")) (bV 3))))))
def iG:=bL 8 3 false sS
def dq:=(sIf (tA (tV (b2 eqQ (b2 lF (b2 pI (bV 0) (b2 ixP (cF (ak (bC (.int 1)) (ak (bC (.int 2)) (ak (bC (.int 4)) (ak (bC (.int 8)) (ak (bC (.int 16)) (ak (bC (.int 32)) (ak (bC (.int 64)) (ak (bC (.int 128)) aF))))))))) (bV 3))) (bC (.int 2))) (bC (.int 1)))) (tO (tV (b2 neQ (bV 3) (bC (.int 1)))) (tV (b2 eqQ (b2 lF (bV 0) (bC (.int 2))) (bC (.int 1)))))) (bU fY 2 (b2 ixP (bV 1) (bV 3))) sNx)
def qP:=(aG (aJ 1 (cF (ak (bC (.str "one ae ai")) (ak (bC (.str "long ae")) (ak (bC (.str "long e")) (ak (bC (.str "either a")) (ak (bC (.str "either i")) (ak (bC (.str "begin tr pr spr")) (ak (bC (.str "split tr")) (ak (bC (.str "split sp pr spr")) aF)))))))))) (aG (aJ 2 (cF (ak (bC (.str "carry a e i")) aF))) (aG (eZ (gN 3) (iR1 (bC (.int 8))) [3] dq) (aG (bU fY 2 (b2 cg (bC (.str "run ")) (b2 ixP (cF (ak (bC (.str "never")) (ak (bC (.str "may")) (ak (bC (.str "must")) (ak (bC (.str "may")) aF))))) (b2 lF (b2 pI (bV 0) (bC (.int 256))) (bC (.int 4)))))) (aW (bV 2))))))
def gH:=bL 4 1 true qP
def lg:=(aG (sIf (tV (b2 (jU λi j=>decide (i < j)) (bV 1) (b1 lenV (bV 0)))) (aW (b2 ixP (bV 0) (bV 1))) sNx) (aW (bC (.int 0))))
def bM:=bL 2 2 false lg
def jL:=(aJ 1 (b2 uU (bV 1) (b1 lenV (bV 2))))
def oh:=(aG (aJ 1 (bC (.int 1))) (aG (eZ (gN 2) (iV (aK dZ (ak (bV 0) aF))) [2] jL) (aW (bV 1))))
def dX:=bL 3 1 false oh
def eO:=(aG (aJ 6 (bSl (b2 ixP (bV 4) (bC (.int 0))) (oS (b1 lenV (bV 3))) oN)) (aG (aJ 7 (b2 cg (b2 cg (bV 6) (b2 ixP (bV 4) (bC (.int 1)))) (b2 ixP (bV 4) (bC (.int 2))))) (aG (aJ 3 (bC (.str ""))) (sIf (tV (b2 isN (bV 5) (bC .non))) (bU fY 2 (b2 cg (b2 cg (bC (.str "(")) (bV 7)) (bC (.str ")")))) (sIf (tV (b2 eqQ (bV 5) (my (ak (bC (.int 1)) (ak (bC (.str "-")) aF))))) (aG (aJ 3 (bSl (b2 ixP (b2 ixP (bV 0) (b2 cg (b1 lenV (bV 2)) (bC (.int 1)))) (bC (.int 0))) oN (oS (bC (.int 1))))) (bU fY 2 (b2 cg (b2 cg (bV 7) (bV 3)) (bC (.str "-"))))) (bU fY 2 (b2 cg (bV 7) (b2 ixP (bV 5) (bC (.int 1))))))))))
def qQ:=(aG (aJ 2 (cF aF)) (aG (aJ 3 (bC (.str ""))) (aG (eZ (gT [4,5]) (iZ (bV 0) (bV 1)) [4,5,6,7] eO) (aW (b2 lR (bC (.str ".")) (bV 2))))))
def jn:=bL 8 2 false qQ
def nH:=(bU fY 5 (aK bO (ak (bV 1) (ak (b2 ixP (bV 2) (bV 6)) (ak (b2 ixP (b2 xX (bV 2) (cF (ak (bC .non) aF))) (b2 cg (bV 6) (bC (.int 1)))) aF)))))
def lK:=(aG (aJ 11 (aK bx (ak (bV 1) (ak (bV 10) aF)))) (aG (bU fY 8 (aK jn (ak (bV 11) (ak (bSl (bV 7) (oS (bV 9)) (oS (b2 cg (bV 9) (b1 lenV (bV 11))))) aF)))) (aJ 9 (b2 cg (bV 9) (b1 lenV (bV 11))))))
def yh:=(aG (aJ 1 (w6 0 b7 (ak (aK gH (ak (aK bM (ak (bV 0) (ak (bC (.int 0)) aF))) aF)) aF))) (aG (aJ 2 (aK fL (ak (bSl (bV 0) (oS (bC (.int 2))) (oS (bC (.int 52)))) aF))) (aG (aJ 3 (b1 lQ (bV 2))) (aG (aJ 4 (aK dG (ak (bV 1) (ak (bV 3) aF)))) (aG (aJ 5 (cF aF)) (aG (eZ (gN 6) (iR1 (b1 lenV (bV 2))) [6] nH) (aG (sIf (tO (tN (tV (b1 (sX tb_list) (bV 4)))) (tO (tV (b2 neQ (bV 4) (bV 5))) (tV (b2 neQ (bV 3) (bV 2))))) (aW (bC (.bl false))) sNx) (aG (aJ 7 (aK gG (ak (bV 4) (ak (b2 lF (aK bM (ak (bV 0) (ak (bC (.int 1)) aF))) (aK dX (ak (bV 4) aF))) aF)))) (aG (aJ 8 (cF aF)) (aG (aJ 9 (bC (.int 0))) (aG (eZ (gN 10) (iV (bV 2)) [10,11] lK) (aG (aJ 12 (aK iG (ak (bV 1) (ak (bV 2) (ak (b1 lQ (bV 7)) aF))))) (aW (eX (b1 (sX tb_str) (bV 12)) (eX (b2 eqQ (bV 12) (b2 lR (bC (.str " ")) (bV 8))) (b2 eqQ (aK dG (ak (bV 1) (ak (cF aF) aF))) (cF aF)))))))))))))))))
def ux:=bL 13 1 false yh
end
end My
namespace My
open PySem L2 MR
abbrev LET:Str := "abcdefghijklmnopqrstuvwxyz"
def isLetter (x:Str):Bool:=decide (x.length=1)&&!(Builtin.Str.occurrences LET x 0 LET.length 1).isEmpty
def h_:List Str->Bool
 | w::r=>decide (w=("carry" : Str))&&decide (0 < r.length)&&r.all isLetter
 | []=>false
def pairOf (C:Str->Bool) (x:Str):Bool:=match x.cps.toList with
 | [a,b]=>C ⟨#[a]⟩&&C ⟨#[b]⟩
 | _=>false
def lq (C:Str->Bool):List Str->Bool
 | w::r=>decide (w=("one" : Str))&&decide (0 < r.length)&&r.all (pairOf C)
 | []=>false
def o_ (C:Str->Bool) (x:Str):Bool:=isLetter x&&!C x
def lZ (C:Str->Bool) (x:Str):Bool:=decide (2<=x.length)&&decide (x.length<=4)&&x.cps.toList.all λc=>o_ C ⟨#[c]⟩
def lr (C:Str->Bool) (cs ws:List Str):Bool:=decide (ws.length=2)&&(ws.all (λw=>decide (w∈cs))||ws.all (o_ C))
def eF (C:Str->Bool) (cs:List Str):List Str->Bool
 | w::r=>
  if w=("carry" : Str) then h_ (w::r)
  else if w=("one" : Str) then lq C (w::r)
  else if w=("long" : Str)\/w=("either" : Str) then decide (0 < r.length)&&r.all λx=>decide (x∈cs)
  else if w=("begin" : Str)\/w=("split" : Str) then decide (0 < r.length)&&r.all (lZ C)
  else if w=("run" : Str) then decide (r.length=1)&&r.all λx=>decide (x=("never" : Str)\/x=("may" : Str)\/x=("must" : Str))
  else decide (w=("alike" : Str))&&lr C cs r
 | []=>false
def Few (ws:List Str):Prop:=ws.length<=1000/\∀ x∈ws,x.length<=1000
def inS (ks:List Str) (x:Str):Bool:=decide (x∈ks)
theorem qR {x:Str}(h:x.length<=1000):cT [.str x]=some (.bl (isLetter x)):=by
 have h':x.length<=1000000:=by omega
 simp[cT,qN,eqQ,eqP,h',isLetter,inP]
 by_cases e:(x.length:Int)=1
 ·have e':x.length=1:=by omega
  simp[e,e']
 ·have e':¬ x.length=1:=by omega
  simp[e,e']
theorem l_ {α:Type}(f:α->PV) (w:α) (r:List α):gW ((w::r).map f) (some 1) none=r.map f:=by
 unfold gW
 have h1:HT.sIx ((w::r).map f).length 0 (some ((1:Nat):Int))=1:=by
  rw[HT.sIx_nat];simp
 have h1':HT.sIx ((w::r).map f).length 0 (some 1)=1:=h1
 rw[h1',HT.sIx_none]
 simp only[List.map_cons,List.drop_succ_cons,List.drop_zero]
 exact List.take_of_length_le (by simp)
theorem j0 {α:Type}(p:α->Bool):∀ l:List α,bools (l.map λx=>PV.bl (p x))=some (l.map p)
 | []=>rfl
 | x::l=>by simp[j0 p l]
theorem yj {w:Str}{r:List Str}(hf:Few (w::r)):cJ [.lst ((w::r).map .str)]=some (.bl (h_ (w::r))):=by
 have hl:r.length<=1000:=by have:=hf.1;simp at this;omega
 have hc:bJ [none] (gN 0) bA jH (r.map .str)=some (r.map λx=>.bl (isLetter x)):=
  cz _ _ r λy hy=>⟨_,rfl,by simp[jH,qR (hf.2 y (List.mem_cons_of_mem _ hy))]⟩
 have h0:atI ((w::r).map PV.str) 0=some (.str w):=bQ (k:=0) rfl
 have ht:=l_ PV.str w r
 simp only[List.map_cons] at h0 ht
 simp[cJ,n_,h0,ht,eqQ,eqP,h_]
 by_cases e:w=("carry" : Str)
 ·subst e
  simp
  by_cases e2:(1:Int) < (r.length:Int)+1
  ·have e3:0 < r.length:=by omega
   have hl':r.length<=1000000:=by omega
   simp[e2,e3,hc,hl',j0]
  ·have e3:¬ 0 < r.length:=by omega
   simp[e2,e3]
 ·simp[e]
end My
namespace My
open PySem L2 MR
theorem Dv {x:Str}(h:x.length=2):∃ a b,x.cps.toList=[a,b]:=by
 have h':x.cps.toList.length=2:=by rw[Array.length_toList];exact h
 match hx:x.cps.toList,h' with
 | [a,b],_=>exact⟨a,b,rfl⟩
theorem I_ {ks:List Str}{x:Str}(h:x.length<=1000):il [.dK (sdP ks),.str x]=some (.bl (pairOf (inS ks) x)):=by
 have h':x.length<=1000000:=by omega
 simp[il,pZ,h']
 by_cases e:(x.length:Int)=2
 ·obtain⟨a,c,hs⟩:=Dv (x:=x) (by omega)
  have a0:atI x.cps.toList 0=some a:=by rw[hs];exact bQ (k:=0) rfl
  have a1:atI x.cps.toList 1=some c:=by rw[hs];exact bQ (k:=1) rfl
  have ep:pairOf (inS ks) x=(inS ks ⟨#[a]⟩&&inS ks ⟨#[c]⟩):=by unfold pairOf;rw[hs]
  rw[ep]
  simp[e,a0,a1,km,inS]
  by_cases m:(⟨#[a]⟩:Str)∈ks <;> simp[m]
 ·have e1:pairOf (inS ks) x=false:=by
   unfold pairOf
   split
   ·rename_i a c hs
    have:x.cps.toList.length=2:=by rw[hs];rfl
    rw[Array.length_toList] at this
    exact absurd (show ((x.length:Nat):Int)=2 by unfold Str.length;omega) e
   ·rfl
  simp[e,e1]
theorem Dw {ks:List Str}{w:Str}{r:List Str}(hf:Few (w::r)):di [.dK (sdP ks),.lst ((w::r).map .str)]=some (.bl (lq (inS ks) (w::r))):=by
 have hl:r.length<=1000:=by have:=hf.1;simp at this;omega
 have hc:bJ [none,some (.dK (sdP ks))] (gN 0) bA kE (r.map .str)=some (r.map λx=>.bl (pairOf (inS ks) x)):=
  cz _ _ r λy hy=>⟨_,rfl,by simp[kE,I_ (hf.2 y (List.mem_cons_of_mem _ hy))]⟩
 have h0:atI ((w::r).map PV.str) 0=some (.str w):=bQ (k:=0) rfl
 have ht:=l_ PV.str w r
 simp only[List.map_cons] at h0 ht
 simp[di,p6,h0,ht,lq]
 by_cases e:w=("one" : Str)
 ·subst e
  simp
  by_cases e2:(1:Int) < (r.length:Int)+1
  ·have e3:0 < r.length:=by omega
   have hl':r.length<=1000000:=by omega
   simp[e2,e3,hc,hl',j0]
  ·have e3:¬ 0 < r.length:=by omega
   simp[e2,e3]
 ·simp[e]
theorem zM {ks:List Str}{x:Str}(h:x.length<=1000):gZ [.dK (sdP ks),.str x]=some (.bl (o_ (inS ks) x)):=by
 simp[gZ,uv,qR h,o_,km,inS]
 cases isLetter x <;> simp
theorem rH (x:Str):chV x=x.cps.toList.map λc=>PV.str ⟨#[c]⟩:=rfl
theorem Bl {ks:List Str}{x:Str}(h:x.length<=1000):ir [.dK (sdP ks),.str x]=some (.bl (lZ (inS ks) x)):=by
 have h':x.length<=1000000:=by omega
 have hl:x.cps.toList.length=x.length:=Array.length_toList
 have hc:bJ [none,some (.dK (sdP ks))] (gN 0) bA kI (chV x)=some (x.cps.toList.map λc=>.bl (o_ (inS ks) ⟨#[c]⟩)):=by
  rw[rH]
  exact cz _ _ _ λy hy=>⟨_,rfl,by simp[kI,zM (ks:=ks) (x:=⟨#[y]⟩) (by show 1<=1000;decide)]⟩
 have hcl:(chV x).length<=1000000:=by unfold chV;rw[List.length_map,hl];exact h'
 simp[ir,p7,h',lZ]
 by_cases e:(2:Int)<=x.length
 ·have e1:2<=x.length:=by omega
  simp[e,e1]
  by_cases e2:(x.length:Int)<=4
  ·have e3:x.length<=4:=by omega
   simp[e2,e3,hc,hcl,j0]
  ·have e3:¬ x.length<=4:=by omega
   simp[e2,e3]
 ·have e1:¬ 2<=x.length:=by omega
  simp[e,e1]
theorem tD (x:Str):∀ cs:List Str,((cs.map PV.str).any λy=>eqF y (.str x))=decide (x∈cs)
 | []=>by simp
 | c::r=>by
  have ih:=tD x r
  rw[List.map_cons,List.any_cons,ih]
  by_cases h:c=x
  ·subst h;simp[eqF]
  ·have h':¬ x=c:=λe=>h e.symm
   simp[eqF,h,h']
theorem vU:∀ cs:List Str,(cs.map PV.str).all dR=true
 | []=>rfl
 | _::r=>by simp[vU r]
theorem ym (x:Str) (cs:List Str):inP (.str x) (.lst (cs.map .str))=some (decide (x∈cs)):=by
 have h:=tD x cs
 have hf:=vU cs
 unfold inP
 simp only[hf,h,dR,and_self,if_true]
theorem Gp {ks cs ws:List Str}(hf:Few ws):dJ [.dK (sdP ks),.lst (cs.map .str),.lst (ws.map .str)]=some (.bl (lr (inS ks) cs ws)):=by
 have hl:ws.length<=1000000:=by have:=hf.1;omega
 have h1:bJ [none,some (.lst (cs.map .str))] (gN 0) bA g8 (ws.map .str)=some (ws.map λx=>.bl (decide (x∈cs))):=
  cz _ _ ws λy hy=>⟨_,rfl,by simp[g8,ym]⟩
 have h2:bJ [none,some (.dK (sdP ks))] (gN 0) bA g_ (ws.map .str)=some (ws.map λx=>.bl (o_ (inS ks) x)):=
  cz _ _ ws λy hy=>⟨_,rfl,by simp[g_,zM (hf.2 y hy)]⟩
 simp[dJ,lW,lr]
 by_cases e:(ws.length:Int)=2
 ·have e':ws.length=2:=by omega
  simp[e,e',h1,h2,hl,j0]
  cases (ws.all λx=>decide (x∈cs)) <;> simp
 ·have e':¬ ws.length=2:=by omega
  simp[e,e']
theorem Gq (ks:List Str):(sdP ks).map (λkv=>w5 kv.1)=ks.map PV.str:=by
 unfold sdP;rw[List.map_map];rfl
theorem tE {f g:MR.Env->Option Out}{env e:MR.Env}(h:f env=some (.nx e)):aG f g env=g e:=by simp[h]
theorem qT {c:MR.Env->Option Bool}{f g:MR.Env->Option Out}{env:MR.Env}(h:c env=some false):aG (sIf c f sNx) g env=g env:=by simp[h]
theorem qU {c:MR.Env->Option Bool}{f g:MR.Env->Option Out}{env:MR.Env}{p:PV}(h:c env=some true) (h':f env=some (.rt p)):aG (sIf c f sNx) g env=some (.rt p):=by simp[h,h']
theorem j4 {env:MR.Env}{w:Str}(h:bV 3 env=some (.str w)) (s:Str):tV (b2 eqQ (bV 3) (bC (.str s))) env=some (decide (w=s)):=by
 simp only[M3,pH,h,Option.bind_some,wY,Dd,zK,Option.map_some]
theorem rJ {env:MR.Env}{w:Str}(h:bV 3 env=some (.str w)) (s t:Str):tO (tV (b2 eqQ (bV 3) (bC (.str s)))) (tV (b2 eqQ (bV 3) (bC (.str t)))) env=some (decide (w=s\/w=t)):=by
 rw[M4,j4 h,j4 h]
 by_cases q:w=s <;> simp[q]
theorem lL {f:MR.Env->Option PV}{env:MR.Env}{p:PV}(h:f env=some p):aW f env=some (.rt p):=by simp[h]
theorem Dy {env:MR.Env}{cap:List (Option Nat)}{ce:MR.Env->Option PV}{r:List Str}{q:Str->Bool}(h4:bV 4 env=some (.lst (r.map .str))) (hl:r.length<=1000000) (hc:bJ (mF cap env) (gN 0) bA ce (r.map .str)=some (r.map λx=>.bl (q x))):
  eX (b2 (jU λi j=>decide (j < i)) (b1 lenV (bV 4)) (bC (.int 0))) (b1 mC (cD cap (iV (bV 4)) (gN 0) bA ce)) env=some (.bl (decide (0 < r.length)&&r.all q)):=by
 have hbl:=j0 q r
 rw[uT,pH,Av,h4,Av,Gd,Nh,h4]
 simp only[Option.bind_some,lenV,wY,jU,itV,List.length_map,hl,if_true,hc,mC,hbl,Option.map_some]
 cases r with
 | nil=>rfl
 | cons x r=>
  have h1:(0:Int) < ((x::r).length:Int):=by simp
  simp only[h1,decide_true]
  simp
theorem Ja {ks ps:List Str}{w:Str}{r:List Str}(hf:Few (w::r)) (hk:ks.length<=100000) (hp:ps.length<=100000):
  kJ [.dK (sdP ks),.dK (sdP ps),.lst ((w::r).map .str)]=some (.bl (eF (inS ks) (ks++ps) (w::r))):=by
 have hl:r.length<=1000:=by have:=hf.1;simp at this;omega
 have hl':r.length<=1000000:=by omega
 have rf:Few r:=⟨hl,λx hx=>hf.2 x (List.mem_cons_of_mem _ hx)⟩
 have h0:atI ((w::r).map PV.str) 0=some (.str w):=bQ (k:=0) rfl
 have ht:=l_ PV.str w r
 have hC:=yj hf
 have hO:=Dw (ks:=ks) hf
 have hU:=Gp (ks:=ks) (cs:=ks++ps) rf
 have c1:bJ [none,some (.lst ((ks++ps).map .str))] (gN 0) bA nu (r.map .str)=some (r.map λx=>.bl (decide (x∈ks++ps))):=
  cz _ _ r λy hy=>⟨_,rfl,by simp only[nu,b2,bV,inQ];simp only[List.set,List.getElem?_cons_zero,List.getElem?_cons_succ,Option.bind_some,ym,Option.map_some]⟩
 have c2:bJ [none,some (.dK (sdP ks))] (gN 0) bA nF (r.map .str)=some (r.map λx=>.bl (lZ (inS ks) x)):=
  cz _ _ r λy hy=>⟨_,rfl,by simp[nF,Bl (rf.2 y hy)]⟩
 have hz:ks.length+ps.length<=1000000:=by omega
 generalize hrow:PV.lst ((w::r).map .str)=row at hC hO
 generalize hcs:ks++ps=cs at c1 hU
 have s1:aJ 3 (b2 ixP (bV 2) (bC (.int 0))) [some (.dK (sdP ks)),some (.dK (sdP ps)),some row,none,none,none]=some (.nx [some (.dK (sdP ks)),some (.dK (sdP ps)),some row,some (.str w),none,none]):=by
  subst hrow
  simp only[Ip,pH,bV,List.getElem?_cons_succ,List.getElem?_cons_zero,Option.bind_some,wY,ixP,h0,List.set]
 have s2:aJ 4 (bSl (bV 2) (oS (bC (.int 1))) oN) [some (.dK (sdP ks)),some (.dK (sdP ps)),some row,some (.str w),none,none]=some (.nx [some (.dK (sdP ks)),some (.dK (sdP ps)),some row,some (.str w),some (.lst (r.map .str)),none]):=by
  subst hrow
  simp[-List.map_cons,ht]
 have s3:aJ 5 (b2 cg (b1 lQ (bV 0)) (b1 lQ (bV 1))) [some (.dK (sdP ks)),some (.dK (sdP ps)),some row,some (.str w),some (.lst (r.map .str)),none]=some (.nx [some (.dK (sdP ks)),some (.dK (sdP ps)),some row,some (.str w),some (.lst (r.map .str)),some (.lst (cs.map .str))]):=by
  subst hcs
  simp[Gq,ut,hz]
 have g3:bV 3 [some (.dK (sdP ks)),some (.dK (sdP ps)),some row,some (.str w),some (.lst (r.map .str)),some (.lst (cs.map .str))]=some (.str w):=rfl
 have g4:bV 4 [some (.dK (sdP ks)),some (.dK (sdP ps)),some row,some (.str w),some (.lst (r.map .str)),some (.lst (cs.map .str))]=some (.lst (r.map .str)):=rfl
 have fb:pO [some (.dK (sdP ks)),some (.dK (sdP ps)),some row,none,none,none]=some (.rt (.bl (eF (inS ks) cs (w::r)))):=by
  have hC':aW (aK cJ (ak (bV 2) aF)) [some (.dK (sdP ks)),some (.dK (sdP ps)),some row,some (.str w),some (.lst (r.map .str)),some (.lst (cs.map .str))]=_:=lL (by rw[xW];exact hC)
  have hO':aW (aK di (ak (bV 0) (ak (bV 2) aF))) [some (.dK (sdP ks)),some (.dK (sdP ps)),some row,some (.str w),some (.lst (r.map .str)),some (.lst (cs.map .str))]=_:=lL (by rw[xW];exact hO)
  have a1:=Dy (cap:=[none,some 5]) (q:=λx=>decide (x∈cs)) g4 hl' c1
  have a2:=Dy (cap:=[none,some 0]) (q:=λx=>lZ (inS ks) x) g4 hl' c2
  generalize hE:[some (PV.dK (sdP ks)),some (.dK (sdP ps)),some row,some (.str w),some (.lst (r.map .str)),some (.lst (cs.map .str))]=E at s3 g3 g4 hC' hO' a1 a2
  unfold pO
  rw[tE s1,tE s2,tE s3]
  by_cases n1:w=("carry" : Str)
  ·rw[qU (by rw[j4 g3,decide_eq_true n1]) hC']
   simp only[eF,if_pos n1]
  rw[qT (by rw[j4 g3,decide_eq_false n1])]
  by_cases n2:w=("one" : Str)
  ·rw[qU (by rw[j4 g3,decide_eq_true n2]) hO']
   simp only[eF,if_neg n1,if_pos n2]
  rw[qT (by rw[j4 g3,decide_eq_false n2])]
  by_cases n3:w=("long" : Str)\/w=("either" : Str)
  ·rw[qU (by rw[rJ g3,decide_eq_true n3]) (lL a1)]
   simp only[eF,if_neg n1,if_neg n2,if_pos n3]
  rw[qT (by rw[rJ g3,decide_eq_false n3])]
  by_cases n4:w=("begin" : Str)\/w=("split" : Str)
  ·rw[qU (by rw[rJ g3,decide_eq_true n4]) (lL a2)]
   simp only[eF,if_neg n1,if_neg n2,if_neg n3,if_pos n4]
  rw[qT (by rw[rJ g3,decide_eq_false n4])]
  by_cases n5:w=("run" : Str)
  ·have a3:eX (b2 eqQ (b1 lenV (bV 4)) (bC (.int 1))) (b2 inQ (b2 ixP (bV 4) (bC (.int 0))) (bC oY)) E=some (.bl (decide (r.length=1)&&r.all λx=>decide (x=("never" : Str)\/x=("may" : Str)\/x=("must" : Str)))):=by
    rw[uT,pH,Av,g4,pH,pH,g4]
    clear hE
    match r with
    | []=>rfl
    | [x]=>
     have h8:inP (.str x) oY=some (decide (x=("never" : Str)\/x=("may" : Str)\/x=("must" : Str))):=by
      have q:=tD x ["never", "may", "must"]
      simp only[List.map_cons,List.map_nil] at q
      unfold oY inP
      simp only[dR,List.all_cons,List.all_nil,Bool.and_self,and_self,if_true,q]
      simp
     have h9:atI [PV.str x] 0=some (.str x):=bQ (k:=0) rfl
     simp[h9,h8]
    | x::y::r'=>
     have:¬ ((r'.length:Int)+1+1=1):=by omega
     simp[this]
   rw[qU (by rw[j4 g3,decide_eq_true n5]) (lL a3)]
   simp only[eF,if_neg n1,if_neg n2,if_neg n3,if_neg n4,if_pos n5]
  rw[qT (by rw[j4 g3,decide_eq_false n5])]
  refine lL ?_
  have e:eF (inS ks) cs (w::r)=(decide (w=("alike" : Str))&&lr (inS ks) cs r):=by
   simp only[eF,if_neg n1,if_neg n2,if_neg n3,if_neg n4,if_neg n5]
  rw[e,uT,pH,g3]
  simp only[Option.bind_some,wY,Dd,zK,Option.map_some]
  by_cases n6:w=("alike" : Str)
  ·subst hE
   simp[n6,hU]
  ·simp[n6]
 subst hcs
 simp[kJ,fb]
end My
namespace My
open PySem L2 MR
def d7 (ws:List Str):PV:=.lst (ws.map .str)
def bW (rs:List (List Str)):List PV:=rs.map d7
theorem zN {kind:Str}{q:PV}{row:PV}:∀ (ws ks:List Str),ks.length+ws.length < 1000000->
  bw (gN 4) [4] jW (ws.map .str) [some (.str kind),some q,some (.dK (sdP ks)),some row,none]=some (.nx [some (.str kind),some q,some (.dK (sdP (nZ ks ws))),some row,none])
 | [],ks,_=>rfl
 | w::ws,ks,h=>by
  have h1:(sdP ks).length < 1000000:=by rw[ut];simp at h;omega
  have h2:=yf ks w
  have ih:=zN (kind:=kind) (q:=q) (row:=row) ws (pN ks w) (by simp at h;omega)
  have e:nZ ks (w::ws)=nZ (pN ks w) ws:=rfl
  rw[e,← ih]
  simp[bw,jW,h1,IK]
theorem yo {kind:Str}{q:PV}:∀ (rs:List (List Str)) (ks:List Str),(∀ ws∈rs,ws≠[])->ks.length+total rs < 1000000->
  bw (gN 3) [3,4] dm (bW rs) [some (.str kind),some q,some (.dK (sdP ks)),none,none]=some (.nx [some (.str kind),some q,some (.dK (sdP (rs.foldl (fZ kind) ks))),none,none])
 | [],ks,_,_=>rfl
 | []::rs,ks,hne,_=>absurd rfl (hne [] List.mem_cons_self)
 | (c::r)::rs,ks,hne,h=>by
  have ht:ks.length+(r.length+1)+total rs < 1000000:=by unfold total at h ⊢;simp at h;omega
  have h0:atI ((c::r).map PV.str) 0=some (.str c):=bQ (k:=0) rfl
  have hc:=l_ PV.str c r
  simp only[List.map_cons] at h0 hc
  have key:dm [some (.str kind),some q,some (.dK (sdP ks)),some (d7 (c::r)),none]=some (.nx [some (.str kind),some q,some (.dK (sdP (fZ kind ks (c::r)))),some (d7 (c::r)),none]):=by
   by_cases e:c=kind
   ·subst e
    have hi:=zN (kind:=c) (q:=q) (row:=d7 (c::r)) r ks (by omega)
    simp only[d7,List.map_cons] at hi
    simp[dm,d7,h0,hc,fZ,hi]
   ·simp[dm,d7,h0,hc,fZ,e]
  have hl:(fZ kind ks (c::r)).length<=ks.length+(r.length+1):=by
   show (if c=kind then nZ ks r else ks).length<=_
   split
   ·have:=qJ r ks;omega
   ·omega
  have ih:=yo (kind:=kind) (q:=q) rs (fZ kind ks (c::r)) (λws hws=>hne ws (List.mem_cons_of_mem _ hws)) (by omega)
  rw[List.foldl_cons,← ih]
  show bw (gN 3) [3,4] dm (d7 (c::r)::bW rs) _=_
  simp[bw,key]
theorem mV {kind:Str}{rs:List (List Str)}(hne:∀ ws∈rs,ws≠[]) (h:total rs < 1000000):a_ [.str kind,.lst (bW rs)]=some (.dK (sdP (tell kind rs))):=by
 have hl:=yo (kind:=kind) (q:=.lst (bW rs)) rs [] hne (by simpa using h)
 have e:([]:List (Key×PV))=sdP []:=rfl
 simp[a_,oZ,e,hl,tell]
def rK (t:Str):List Str->Str
 | c::x::_=>if c=("run" : Str) then x else t
 | _=>t
def iH (rs:List (List Str)):Str:=rs.foldl rK ("never" : Str)
theorem Lk {rs:List (List Str)}(hne:∀ ws∈rs,ws≠[]) (hrun:∀ r,(("run" : Str)::r)∈rs->r≠[]):iC [.lst (bW rs)]=some (.str (iH rs)):=by
 have hl:=uq (g:=gN 2) (ds:=[2]) (body:=jR) d7 (λs:Str=>[some (.lst (bW rs)),some (.str s),none]) rK rs ("never" : Str) (λws hws s=>by
  cases ws with
  | nil=>exact absurd rfl (hne _ hws)
  | cons c r=>
   have h0:atI ((c::r).map PV.str) 0=some (.str c):=bQ (k:=0) rfl
   simp only[List.map_cons] at h0
   by_cases e:c=("run" : Str)
   ·cases r with
    | nil=>subst e;exact absurd rfl (hrun _ hws)
    | cons x r=>
     subst e
     have h1:atI (((("run" : Str)::x::r)).map PV.str) 1=some (.str x):=bQ (k:=1) rfl
     simp only[List.map_cons] at h0 h1
     exact⟨_,_,rfl,by simp[jR,d7,h0,h1];rfl,by simp[rK]⟩
   ·refine⟨_,_,rfl,by simp[jR,d7,h0,e];rfl,?_⟩
    cases r <;> simp[rK,e])
 simp[iC,sJ,iH]
 unfold bW at hl ⊢
 simp[hl]
def yp (ks:List (Str×Str)) (x:Str×Str):List (Str×Str):=if x∈ks then ks else ks++[x]
def ie (ks:List (Str×Str)):List Str->List (Str×Str)
 | c::x::y::_=>if c=("alike" : Str) then yp ks (x,y) else ks
 | _=>ks
def likes (rs:List (List Str)):List (Str×Str):=rs.foldl ie []
def pk (x:Str×Str):List Key:=[Sum.inr x.1,Sum.inr x.2]
theorem Dz {x y:Str×Str}(h:pk x=pk y):x=y:=by
 obtain⟨a,b⟩:=x
 obtain⟨c,d⟩:=y
 simp[pk] at h
 rw[h.1,h.2]
def sdT (ks:List (Str×Str)):List (List Key×PV):=ks.map λx=>(pk x,PV.bl true)
theorem Bm (ks:List (Str×Str)):(sdT ks).length=ks.length:=by simp[sdT]
theorem Jb (ks:List (Str×Str)) (x:Str×Str):oF (sdT ks) (pk x) (.bl true)=sdT (yp ks x):=by
 have hany:((sdT ks).any λkv=>decide (kv.1=pk x))=decide (x∈ks):=by
  unfold sdT
  rw[List.any_map]
  induction ks with
  | nil=>simp
  | cons k r ih=>
   rw[List.any_cons,ih]
   by_cases h:k=x
   ·subst h;simp
   ·have h':¬ x=k:=λe=>h e.symm
    have hk:¬ pk k=pk x:=λe=>h (Dz e)
    simp[hk,h']
 unfold oF yp
 rw[hany]
 by_cases h:x∈ks
 ·rw[if_pos (by simpa using h),if_pos h]
  unfold sdT
  rw[List.map_map]
  refine List.map_congr_left λy _=>?_
  by_cases e:y=x
  ·subst e;simp
  ·have:¬ pk y=pk x:=λz=>e (Dz z)
   simp[this]
 ·rw[if_neg (by simpa using h),if_neg h]
  unfold sdT
  simp
theorem Gr (ks:List (Str×Str)) (x:Str×Str):(yp ks x).length<=ks.length+1:=by
 unfold yp;split <;> simp
theorem yq (ks:List (Str×Str)) (ws:List Str):(ie ks ws).length<=ks.length+1:=by
 unfold ie
 split
 ·split
  ·exact Gr _ _
  ·exact Nat.le_add_right _ _
 ·exact Nat.le_add_right _ _
theorem zf {ks:List (Str×Str)}{c:Str}{r:List Str}(e:¬ c=("alike" : Str)):ie ks (c::r)=ks:=by
 cases r with
 | nil=>rfl
 | cons x r=>
  cases r with
  | nil=>rfl
  | cons y r=>simp[ie,e]
theorem yr {q:PV}:∀ (rs:List (List Str)) (ks:List (Str×Str)),(∀ ws∈rs,ws≠[])->(∀ r,(("alike" : Str)::r)∈rs->2<=r.length)->ks.length+rs.length < 1000000->
  bw (gN 2) [2] dU (bW rs) [some q,some (.dT (sdT ks)),none]=some (.nx [some q,some (.dT (sdT (rs.foldl ie ks))),none])
 | [],ks,_,_,_=>rfl
 | []::rs,ks,hne,_,_=>absurd rfl (hne [] List.mem_cons_self)
 | (c::r)::rs,ks,hne,hal,h=>by
  have hk:(sdT ks).length < 1000000:=by rw[Bm];omega
  have key:dU [some q,some (.dT (sdT ks)),some (d7 (c::r))]=some (.nx [some q,some (.dT (sdT (ie ks (c::r)))),some (d7 (c::r))]):=by
   by_cases e:c=("alike" : Str)
   ·subst e
    have h2:=hal r List.mem_cons_self
    match r,h2 with
    | x::y::r,_=>
     have h0:atI (((("alike" : Str)::x::y::r)).map PV.str) 0=some (.str "alike"):=bQ (k:=0) rfl
     have h1:atI (((("alike" : Str)::x::y::r)).map PV.str) 1=some (.str x):=bQ (k:=1) rfl
     have h2:atI (((("alike" : Str)::x::y::r)).map PV.str) 2=some (.str y):=bQ (k:=2) rfl
     have hp:=Jb ks (x,y)
     simp only[List.map_cons] at h0 h1 h2
     simp only[pk] at hp
     simp[dU,d7,h0,h1,h2,hk,ie,hp]
   ·have h0:atI ((c::r).map PV.str) 0=some (.str c):=bQ (k:=0) rfl
    simp only[List.map_cons] at h0
    simp[dU,d7,h0,e,zf e]
  have hl:=yq ks (c::r)
  have ih:=yr (q:=q) rs (ie ks (c::r)) (λws hws=>hne ws (List.mem_cons_of_mem _ hws)) (λr hr=>hal r (List.mem_cons_of_mem _ hr)) (by simp at h;omega)
  rw[List.foldl_cons,← ih]
  show bw (gN 2) [2] dU (d7 (c::r)::bW rs) _=_
  simp[bw,key]
theorem Gu {rs:List (List Str)}(hne:∀ ws∈rs,ws≠[]) (hal:∀ r,(("alike" : Str)::r)∈rs->2<=r.length) (h:rs.length < 1000000):fK [.lst (bW rs)]=some (.dT (sdT (likes rs))):=by
 have hl:=yr (q:=.lst (bW rs)) rs [] hne hal (by simpa using h)
 have e:([]:List (List Key×PV))=sdT []:=rfl
 simp[fK,pY,e,hl,likes]
end My
namespace My
open PySem
end My
namespace My
open PySem L2 MR
def jo (z:Str):List Str:=Txt.split z (" " : Str)
def aO (cut:List (List Str)):List Str:=tell ("carry" : Str) (cut.filter h_)
def pairsOf (cut:List (List Str)):List Str:=tell ("one" : Str) (cut.filter (lq (inS (aO cut))))
def aq (cut:List (List Str)):List (Str×PV):=[("carrying",.dK (sdP (aO cut))),("pairs",.dK (sdP (pairsOf cut))),("longs",.dK (sdP (tell ("long" : Str) cut))),("eithers",.dK (sdP (tell ("either" : Str) cut))),
 ("beginnings",.dK (sdP (tell ("begin" : Str) cut))),("splittings",.dK (sdP (tell ("split" : Str) cut))),("running",.str (iH cut)),("likes",.dT (sdT (likes cut)))]
theorem Nq (a:PV):List.lookup ("carrying" : Str) (pF "carrying" a [])=some a:=rfl
theorem Nr (a b:PV):List.lookup ("carrying" : Str) (pF "pairs" b (pF "carrying" a []))=some a:=rfl
theorem Nt (a b:PV):List.lookup ("pairs" : Str) (pF "pairs" b (pF "carrying" a []))=some b:=rfl
theorem Ln {C:Str->Bool}{cs r:List Str}(h:eF C cs (("run" : Str)::r)=true):r≠[]:=by
 intro e
 subst e
 have:eF C cs [("run" : Str)]=false:=by
  dsimp only [eF]
  rw[if_neg (by decide +kernel),if_neg (by decide +kernel),if_neg (by decide +kernel),if_neg (by decide +kernel),if_pos rfl]
  rfl
 rw[this] at h;cases h
theorem Gv {C:Str->Bool}{cs r:List Str}(h:eF C cs (("alike" : Str)::r)=true):2<=r.length:=by
 dsimp only [eF] at h
 rw[if_neg (by decide +kernel),if_neg (by decide +kernel),if_neg (by decide +kernel),if_neg (by decide +kernel),if_neg (by decide +kernel)] at h
 simp[lr] at h
 omega
theorem lu (p:List Str->Bool):∀ rs:List (List Str),total (rs.filter p)<=total rs
 | []=>Nat.le_refl _
 | ws::rs=>by
  have ih:=lu p rs
  unfold total at *
  rw[List.filter_cons]
  split <;> simp <;> omega
theorem yt (kind:Str) (rs:List (List Str)):(tell kind rs).length<=total rs:=by
 have:=vP (kind:=kind) rs []
 simpa [tell] using this
structure RowsOk (cut:List (List Str)):Prop where
 n:cut.length<=1000
 few:∀ ws∈cut,ws≠[]/\Few ws
 tot:total cut<=100000
 good:∀ ws∈cut,eF (inS (aO cut)) (aO cut++pairsOf cut) ws=true
theorem Jc {zs:List Str}(hz:∀ z∈zs,z.length<=1000) (R:RowsOk (zs.map jo)):b7 [.lst (zs.map .str)]=some (aq (zs.map jo)):=by
 have c1:bJ [none] (gN 0) bA dW (zs.map .str)=some (bW (zs.map jo)):=by
  have h:=cz (env:=[none]) (g:=gN 0) (f:=dW) PV.str (λz=>d7 (jo z)) zs λy hy=>⟨_,rfl,by
   have h1:y.length<=1000000:=by have:=hz y hy;omega
   have h2:¬ (Str.ofString " ").length=0:=by decide +kernel
   simp[dW,h1,h2,d7,jo]⟩
  rw[h]
  unfold bW
  rw[List.map_map]
  rfl
 have hlz:zs.length<=1000000:=by have:=R.n;rw[List.length_map] at this;omega
 generalize hcut:zs.map jo=cut at *
 have hlc:(bW cut).length<=1000000:=by unfold bW;rw[List.length_map];have:=R.n;omega
 have c2:bJ [none] (gN 0) gr gq (bW cut)=some (bW (cut.filter h_)):=
  jl d7 d7 h_ cut λws hws=>by
   obtain⟨hne,hf⟩:=R.few ws hws
   cases ws with
   | nil=>exact absurd rfl hne
   | cons w r=>
    have:=yj hf
    exact⟨_,rfl,by simp[gr,d7] at this ⊢;simp[this],λ_=>by simp[gq]⟩
 have ne:∀ ws∈cut,ws≠[]:=λws h=>(R.few ws h).1
 have nef:∀ p:List Str->Bool,∀ ws∈cut.filter p,ws≠[]:=λp ws h=>ne ws (List.mem_filter.mp h).1
 have tf:∀ p:List Str->Bool,total (cut.filter p) < 1000000:=λp=>by have:=lu p cut;have:=R.tot;omega
 have t0:total cut < 1000000:=by have:=R.tot;omega
 have k1:a_ [.str "carry",.lst (bW (cut.filter h_))]=some (.dK (sdP (aO cut))):=mV (nef _) (tf _)
 have hC:(aO cut).length<=100000:=by have h1:=yt ("carry" : Str) (cut.filter h_);have h2:=lu h_ cut;have:=R.tot;unfold aO;omega
 have hP:(pairsOf cut).length<=100000:=by have h1:=yt ("one" : Str) (cut.filter (lq (inS (aO cut))));have h2:=lu (lq (inS (aO cut))) cut;have:=R.tot;unfold pairsOf;omega
 have c3:bJ [none,some (.obj 0 (pF "carrying" (.dK (sdP (aO cut))) []))] (gN 0) gB gw (bW cut)=some (bW (cut.filter (lq (inS (aO cut))))):=
  jl d7 d7 (lq (inS (aO cut))) cut λws hws=>by
   obtain⟨hne,hf⟩:=R.few ws hws
   cases ws with
   | nil=>exact absurd rfl hne
   | cons w r=>
    have:=Dw (ks:=aO cut) hf
    exact⟨_,rfl,by simp[gB,d7,Nq] at this ⊢;simp[this],λ_=>by simp[gw]⟩
 have k2:a_ [.str "one",.lst (bW (cut.filter (lq (inS (aO cut)))))]=some (.dK (sdP (pairsOf cut))):=mV (nef _) (tf _)
 have l6:∀ q:PV,bw (gT [3,4]) [3,4] gC (f9 0 (bW cut)) [some (.obj 0 (pF "pairs" (.dK (sdP (pairsOf cut))) (pF "carrying" (.dK (sdP (aO cut))) []))),some q,some (.lst (bW cut)),none,none]=
   some (.nx [some (.obj 0 (pF "pairs" (.dK (sdP (pairsOf cut))) (pF "carrying" (.dK (sdP (aO cut))) []))),some q,some (.lst (bW cut)),none,none]):=λq=>by
  unfold bW
  rw[vO]
  refine ur _ _ λy hy=>?_
  have hm:y.1∈cut:=by
   have:=List.mem_zipIdx' hy
   rw[this.2]
   exact List.getElem_mem _
  obtain⟨hne,hf⟩:=R.few _ hm
  have hg:=R.good _ hm
  obtain⟨ws,i⟩:=y
  cases ws with
  | nil=>exact absurd rfl hne
  | cons w r=>
   have:=Ja (ks:=aO cut) (ps:=pairsOf cut) hf hC hP
   rw[hg] at this
   simp only[List.map_cons] at this
   exact⟨_,_,rfl,by simp[gC,d7,Nr,Nt,this];rfl,by simp⟩
 have k3:a_ [.str "long",.lst (bW cut)]=some (.dK (sdP (tell ("long" : Str) cut))):=mV ne t0
 have k4:a_ [.str "either",.lst (bW cut)]=some (.dK (sdP (tell ("either" : Str) cut))):=mV ne t0
 have k5:a_ [.str "begin",.lst (bW cut)]=some (.dK (sdP (tell ("begin" : Str) cut))):=mV ne t0
 have k6:a_ [.str "split",.lst (bW cut)]=some (.dK (sdP (tell ("split" : Str) cut))):=mV ne t0
 have k7:iC [.lst (bW cut)]=some (.str (iH cut)):=Lk ne λr h=>Ln (R.good _ h)
 have k8:fK [.lst (bW cut)]=some (.dT (sdT (likes cut))):=Gu ne (λr h=>Gv (R.good _ h)) (by have:=R.n;omega)
 have m1:∀ a:PV,(pF "carrying" a []).length < 1000:=λa=>by show 1 < 1000;decide
 have m2:∀ a b:PV,(pF "pairs" b (pF "carrying" a [])).length < 1000:=λa b=>by show 2 < 1000;decide
 have m3:∀ a b c:PV,(pF "longs" c (pF "pairs" b (pF "carrying" a []))).length < 1000:=λa b c=>by show 3 < 1000;decide
 have m4:∀ a b c d:PV,(pF "eithers" d (pF "longs" c (pF "pairs" b (pF "carrying" a [])))).length < 1000:=λa b c d=>by show 4 < 1000;decide
 have m5:∀ a b c d e:PV,(pF "beginnings" e (pF "eithers" d (pF "longs" c (pF "pairs" b (pF "carrying" a []))))).length < 1000:=λa b c d e=>by show 5 < 1000;decide
 have m6:∀ a b c d e f:PV,(pF "splittings" f (pF "beginnings" e (pF "eithers" d (pF "longs" c (pF "pairs" b (pF "carrying" a [])))))).length < 1000:=λa b c d e f=>by show 6 < 1000;decide
 have m7:∀ a b c d e f g:PV,(pF "running" g (pF "splittings" f (pF "beginnings" e (pF "eithers" d (pF "longs" c (pF "pairs" b (pF "carrying" a []))))))).length < 1000:=λa b c d e f g=>by show 7 < 1000;decide
 have fin:∀ a b c d e f g h:PV,pF "likes" h (pF "running" g (pF "splittings" f (pF "beginnings" e (pF "eithers" d (pF "longs" c (pF "pairs" b (pF "carrying" a [])))))))=([("carrying",a),("pairs",b),("longs",c),("eithers",d),("beginnings",e),("splittings",f),("running",g),("likes",h)]:List (Str×PV)):=λa b c d e f g h=>rfl
 unfold aq
 simp[b7,lD,c1,hlz,c2,hlc,k1,m1,c3,k2,m2,l6,k3,m3,k4,m4,k5,m5,k6,m6,k7,m7,k8,fin]
theorem Bo (cut:List (List Str)):List.lookup ("carrying" : Str) (aq cut)=some (.dK (sdP (aO cut))):=rfl
theorem Jd (cut:List (List Str)):List.lookup ("pairs" : Str) (aq cut)=some (.dK (sdP (pairsOf cut))):=rfl
theorem u5 (cut:List (List Str)):List.lookup ("longs" : Str) (aq cut)=some (.dK (sdP (tell ("long" : Str) cut))):=rfl
theorem vV (cut:List (List Str)):List.lookup ("eithers" : Str) (aq cut)=some (.dK (sdP (tell ("either" : Str) cut))):=rfl
theorem yu (cut:List (List Str)):List.lookup ("beginnings" : Str) (aq cut)=some (.dK (sdP (tell ("begin" : Str) cut))):=rfl
theorem yw (cut:List (List Str)):List.lookup ("splittings" : Str) (aq cut)=some (.dK (sdP (tell ("split" : Str) cut))):=rfl
theorem DG (cut:List (List Str)):List.lookup ("running" : Str) (aq cut)=some (.str (iH cut)):=rfl
end My
namespace My
open PySem L2 MR
theorem qW {α S:Type}{g:PV->MR.Env->Option MR.Env}{ds:List Nat}{body:MR.Env->Option Out}(c:α->PV) (E:S->MR.Env) (step:S->α->S) (sz:S->Nat) (wt:α->Nat) (B:Nat) (I:S->Prop):∀ (ys:List α) (s:S),I s->sz s+(ys.map wt).sum<=B->
  (∀ y∈ys,∀ s,I s->sz s+wt y<=B->sz (step s y)<=sz s+wt y/\I (step s y)/\turn g ds body (c y) (E s)=some (E (step s y)))->
  bw g ds body (ys.map c) (E s)=some (.nx (E (ys.foldl step s)))
 | [],s,_,_,_=>rfl
 | y::ys,s,i,hb,hh=>by
  simp at hb
  obtain⟨h0,hI,h1⟩:=hh y List.mem_cons_self s i (by omega)
  have ih:=qW c E step sz wt B I ys (step s y) hI (by omega) λz hz=>hh z (List.mem_cons_of_mem _ hz)
  rw[List.map_cons,b_ h1,ih,List.foldl_cons]
theorem yx {α:Type}:∀ ys:List α,(ys.map λ_=>1).sum=ys.length
 | []=>rfl
 | _::ys=>by simp[yx ys];omega
def pick (l:List Str) (i:Int):Str:=l.getD i.toNat ⟨#[]⟩
theorem rM {l:List Str}{i:Int}(h0:0<=i) (h1:i < l.length):atI (l.map PV.str) i=some (.str (pick l i)):=by
 have h:i.toNat < l.length:=by omega
 rw[zL h0 (by rw[List.length_map];exact h1),List.getElem?_map]
 unfold pick
 rw[List.getD_eq_getElem?_getD,List.getElem?_eq_getElem h]
 rfl
theorem pP {l:List Str}{i:Int}(h0:0<=i) (h1:i < l.length):pick l i∈l:=by
 have h:i.toNat < l.length:=by omega
 unfold pick
 rw[List.getD_eq_getElem?_getD,List.getElem?_eq_getElem h]
 exact List.getElem_mem h
theorem tG (n:Nat):(gn 0 (n:Int)).length=n:=by rw[lH];simp
theorem qX {k:Nat}(h:k<=1000):rgI (k:Int)=true:=Le (by omega) (by omega)
theorem wD {n:Nat}(h:97<=n) (h':n < 123):isLetter ⟨#[n]⟩=true:=by
 have key:∀ m:Fin 26,isLetter ⟨#[97+m.val]⟩=true:=by decide +kernel
 have:=key ⟨n - 97,by omega⟩
 rwa [show 97+(n - 97)=n by omega] at this
structure Rc where
 carriers:List Str
 pairs:List Str
 longs:List Str
 eithers:List Str
 begins:List Str
 splits:List Str
 run:Str
structure Rc.Good (R:Rc):Prop where
 one:∀ w∈R.carriers,∃ c,w=⟨#[c]⟩
 prs:∀ w∈R.pairs,∃ a∈R.carriers,∃ b∈R.carriers,w=a++b
theorem bH (a b:Str):(a++b).length=a.length+b.length:=by
 unfold Str.length
 rw[Str.cps_append]
 simp
theorem vW (a b:Str):(a++b).cps.toList=a.cps.toList++b.cps.toList:=by
 rw[Str.cps_append]
 simp
def LowT (w:Str):Prop:=∀ c∈w.cps.toList,97<=c/\c < 123
theorem LowT.ok {w:Str}(h:LowT w):PyData.strOk w=true:=by
 unfold PyData.strOk
 rw[← Array.all_toList,List.all_eq_true]
 intro c hc
 have:=h c hc
 simp;omega
theorem lw (x:Str) (lo hi:Option Int):(cQ x lo hi).cps.toList=(x.cps.toList.drop (HT.sIx x.length 0 lo)).take (HT.sIx x.length x.length hi - HT.sIx x.length 0 lo):=by simp[cQ]
theorem LowT.app {a b:Str}(ha:LowT a) (hb:LowT b):LowT (a++b):=λc hc=>by
 rw[vW] at hc
 exact(List.mem_append.mp hc).elim (ha c) (hb c)
structure WordR (R:Rc) (w:Str):Prop where
 t:LowT w
 l:w.length<=24
 c:∃ s∈w.cps.toList,(⟨#[s]⟩:Str)∈R.carriers
def runOf (R:Rc):Str:=if R.run=("" : Str) then ("never" : Str) else R.run
end My
namespace My
open PySem L2 MR
theorem uy (cut:List (List Str)) (x:Str):bc [.obj 0 (aq cut),.str x]=some (.bl (decide (x∈aO cut))):=by
 simp[bc,lX,Bo,km]
theorem vX (cut:List (List Str)) (x:Str):dM [.obj 0 (aq cut),.str x]=some (.bl (decide (x∈pairsOf cut))):=by
 simp[dM,lY,Jd,km]
theorem lA (cut:List (List Str)):List.lookup ("carries" : Str) (aq cut)=none:=rfl
theorem vY (cut:List (List Str)):List.lookup ("is_pair" : Str) (aq cut)=none:=rfl
theorem Bp {c:MR.Env->Option Bool}{ds:List Nat}{body:MR.Env->Option Out}{n:Nat}{env e:MR.Env}(h:c env=some true) (h':body env=some (.nx e)):jP c ds body (n+1) env=jP c ds body n (clr ds e):=by simp[jP,h,h']
theorem uz {c:MR.Env->Option Bool}{ds:List Nat}{body:MR.Env->Option Out}{n:Nat}{env:MR.Env}(h:c env=some false):jP c ds body (n+1) env=some (.nx env):=by simp[jP,h]
section
variable {R:Rc}(G:R.Good)
def ctU (w:Str) (a:Nat) (k:Nat):Str:=cQ w (some (a:Int)) (some ((a:Int)+(k:Int)))
def szU (R:Rc) (w:Str) (a:Nat):Nat:=if ctU w a 2∈R.pairs then 2 else 1
def un (R:Rc) (w:Str):Nat->Nat->List Str
 | 0,_=>[]
 | n+1,a=>if a < w.length then ctU w a (szU R w a)::un R w n (a+szU R w a) else []
theorem zO (w:Str) (a:Nat):1<=szU R w a:=by unfold szU;split <;> omega
include G
theorem yz {x:Str}(h:x∈R.pairs):x.length=2:=by
 obtain⟨a,ha,b,hb,e⟩:=G.prs x h
 obtain⟨i,ea⟩:=G.one a ha
 obtain⟨j,eb⟩:=G.one b hb
 rw[e,bH,ea,eb];rfl
theorem DK {w:Str}{a:Nat}(h:a < w.length):a+szU R w a<=w.length:=by
 unfold szU
 split
 ·rename_i hm
  have h2:=yz G hm
  have hl:=congrArg List.length (lw w (some (a:Int)) (some ((a:Int)+2)))
  have h1:(cQ w (some (a:Int)) (some ((a:Int)+2))).cps.toList.length=(cQ w (some (a:Int)) (some ((a:Int)+2))).length:=Array.length_toList
  have h3:(cQ w (some (a:Int)) (some ((a:Int)+2))).length=2:=h2
  have e2:(some ((a:Int)+2))=some (((a+2:Nat)):Int):=rfl
  rw[h1,h3,List.length_take,e2,HT.sIx_nat,HT.sIx_nat] at hl
  omega
 ·omega
variable {cut:List (List Str)}(hc:∀ y,y∈aO cut↔y∈R.carriers) (hp:∀ y,y∈pairsOf cut↔y∈R.pairs)
include hc
theorem vZ {w:Str}(W:WordR R w):kY [.obj 0 (aq cut),.str w]=some (.bl true):=by
 have hl:=W.l
 have h6:w.length<=1000000:=by omega
 have hwl:w.cps.toList.length=w.length:=Array.length_toList
 have hcl:(chV w).length<=1000000:=by unfold chV;rw[List.length_map,hwl];omega
 have h24:¬ (24:Int) < (w.length:Int):=by omega
 have h24':¬ 24 < w.length:=by omega
 have k1:bJ [none] (gN 0) bA kO (chV w)=some ((w.cps.toList.map λ_=>true).map .bl):=by
  rw[rH]
  have h:=cz (env:=[none]) (g:=gN 0) (f:=kO) (λs:Nat=>PV.str ⟨#[s]⟩) (λ_=>.bl true) w.cps.toList λs hs=>⟨_,rfl,by
   have h1:=qR (x:=⟨#[s]⟩) (by show 1<=1000;decide)
   rw[wD (W.t s hs).1 (W.t s hs).2] at h1
   simp[kO,h1]⟩
  rw[h,List.map_map];rfl
 have k2:bJ [none,some (.obj 0 (aq cut))] (gN 0) bA kW (chV w)=some ((w.cps.toList.map λs=>decide ((⟨#[s]⟩:Str)∈aO cut)).map .bl):=by
  rw[rH]
  have h:=cz (env:=[none,some (.obj 0 (aq cut))]) (g:=gN 0) (f:=kW) (λs:Nat=>PV.str ⟨#[s]⟩) (λs=>.bl (decide ((⟨#[s]⟩:Str)∈aO cut))) w.cps.toList λs hs=>⟨_,rfl,by
   simp[kW,lA,uy]⟩
  rw[h,List.map_map];rfl
 have hany:((w.cps.toList.map λs=>decide ((⟨#[s]⟩:Str)∈aO cut)).any id)=true:=by
  obtain⟨s,hs,hm⟩:=W.c
  rw[List.any_eq_true]
  exact⟨true,List.mem_map.mpr ⟨s,hs,decide_eq_true ((hc _).mpr hm)⟩,rfl⟩
 have hall:((w.cps.toList.map λ_=>true).all id)=true:=by
  rw[List.all_eq_true]
  intro b hb
  obtain⟨_,_,e⟩:=List.mem_map.mp hb
  rw[← e];rfl
 have bb:∀ bs:List Bool,bools (bs.map PV.bl)=some bs:=by
  intro bs
  induction bs with
  | nil=>rfl
  | cons b bs ih=>simp[bools,ih]
 generalize (w.cps.toList.map λ_=>true)=b1' at k1 hall
 generalize (w.cps.toList.map λs=>decide ((⟨#[s]⟩:Str)∈aO cut))=b2' at k2 hany
 simp[kY,uw,tb_str,h6,h24,h24',k1,k2,hcl,bb,hall,hany]
include hp
theorem Bq {w:Str}(W:WordR R w):iD [.obj 0 (aq cut),.str w]=some (.lst ((un R w 24 0).map .str)):=by
 have hl:=W.l
 have h6:w.length<=1000000:=by omega
 have hr:bI [.obj 0 (aq cut),.str w]=some .non:=by
  have:=vZ G hc W
  simp[bI,jJ,this]
 have loop:∀ (n a:Nat) (us:List Str) (N:Nat),a<=w.length->w.length - a<=n->n < N->us.length+n<=1000->
   jP fO [4] fM N [some (.obj 0 (aq cut)),some (.str w),some (.lst (us.map .str)),some (.int a),none]=some (.nx [some (.obj 0 (aq cut)),some (.str w),some (.lst ((us++un R w n a).map .str)),some (.int w.length),none]):=by
  intro n
  induction n with
  | zero=>
   intro a us N ha hn hN hu
   obtain⟨N,rfl⟩:∃ M,N=M+1:=⟨N - 1,by omega⟩
   have e:a=w.length:=by omega
   rw[uz (by simp[fO,h6,e]),e]
   simp[un]
  | succ n ih=>
   intro a us N ha hn hN hu
   obtain⟨N,rfl⟩:∃ M,N=M+1:=⟨N - 1,by omega⟩
   by_cases h:a < w.length
   ·have hsz:=DK G h
    have hs1:=zO (R:=R) w a
    have hb:fM [some (.obj 0 (aq cut)),some (.str w),some (.lst (us.map .str)),some (.int a),none]=some (.nx [some (.obj 0 (aq cut)),some (.str w),some (.lst ((us++[ctU w a (szU R w a)]).map .str)),some (.int ((a+szU R w a:Nat):Int)),some (.int (szU R w a:Nat))]):=by
     have hu':us.length < 1000000:=by omega
     by_cases hm:ctU w a 2∈R.pairs
     ·have hq:cQ w (some (a:Int)) (some ((a:Int)+2))∈pairsOf cut:=(hp _).mpr hm
      have hz:szU R w a=2:=if_pos hm
      rw[hz]
      simp[fM,vY,vX,h6,hq,hu',ctU]
     ·have hq:¬ cQ w (some (a:Int)) (some ((a:Int)+2))∈pairsOf cut:=λz=>hm ((hp _).mp z)
      have hz:szU R w a=1:=if_neg hm
      rw[hz]
      simp[fM,vY,vX,h6,hq,hu',ctU]
    have hi:(a:Int) < (w.length:Int):=by omega
    rw[Bp (by simp[fO,h6,hi,h]) hb]
    have:=ih (a+szU R w a) (us++[ctU w a (szU R w a)]) N hsz (by omega) (by omega) (by simp;omega)
    have e:un R w (n+1) a=ctU w a (szU R w a)::un R w n (a+szU R w a):=by
     rw[un,if_pos h]
    rw[e]
    rw[List.append_assoc,List.singleton_append] at this
    exact this
   ·have e:a=w.length:=by omega
    have e2:un R w (n+1) a=[]:=by rw[un,if_neg h]
    rw[uz (by simp[fO,h6,e]),e2,e]
    simp
 have l0:=loop 24 0 [] 1000000 (by omega) (by omega) (by omega) (by simp)
 have s1:uf (aK bI (ak (bV 0) (ak (bV 1) aF))) [some (.obj 0 (aq cut)),some (.str w),none,none,none]=some (.nx [some (.obj 0 (aq cut)),some (.str w),none,none,none]):=by simp[hr]
 have s2:aJ 2 (cF aF) [some (.obj 0 (aq cut)),some (.str w),none,none,none]=some (.nx [some (.obj 0 (aq cut)),some (.str w),some (.lst []),none,none]):=by simp
 have s3:aJ 3 (bC (.int 0)) [some (.obj 0 (aq cut)),some (.str w),some (.lst []),none,none]=some (.nx [some (.obj 0 (aq cut)),some (.str w),some (.lst []),some (.int 0),none]):=by simp
 have s4:uh 1000000 fO [4] fM [some (.obj 0 (aq cut)),some (.str w),some (.lst []),some (.int 0),none]=some (.nx [some (.obj 0 (aq cut)),some (.str w),some (.lst ((un R w 24 0).map .str)),some (.int w.length),none]):=by
  rw[Dl]
  exact l0
 have e:oG [some (.obj 0 (aq cut)),some (.str w),none,none,none]=some (.rt (.lst ((un R w 24 0).map .str))):=by
  unfold oG
  rw[bR s1,bR s2,bR s3,bR s4]
  simp
 simp[iD,e]
end
theorem DN {α:Type}(f:α->PV) (l:List α) (x:α):gW ((l++[x]).map f) none (some (-1))=l.map f:=by
 unfold gW
 have e1:HT.sIx ((l++[x]).map f).length 0 none=0:=rfl
 have e2:HT.sIx ((l++[x]).map f).length ((l++[x]).map f).length (some (-1))=l.length:=by
  show (if (-1:Int) < 0 then ((-1:Int)+(((l++[x]).map f).length:Int)).toNat else min (-1:Int).toNat ((l++[x]).map f).length)=l.length
  rw[if_pos (by decide)]
  simp
  omega
 rw[e1,e2]
 simp
end My
namespace My
open PySem L2 MR
def oH (u:Str):Str:=⟨#[u.cps.toList.headD 0]⟩
def dN (R:Rc) (u:Str):Bool:=decide (oH u∈R.carriers)
section
variable {R:Rc}(G:R.Good)
theorem v4 (w:Str) (a k:Nat):(ctU w a k).cps.toList=(w.cps.toList.drop a).take k:=by
 have hl:w.cps.toList.length=w.length:=Array.length_toList
 unfold ctU
 rw[lw,show ((a:Int)+(k:Int))=((a+k:Nat):Int) from rfl,HT.sIx_nat,HT.sIx_nat]
 by_cases h:a<=w.length
 ·rw[Nat.min_eq_left h]
  by_cases h2:a+k<=w.length
  ·rw[Nat.min_eq_left h2,Nat.add_sub_cancel_left]
  ·rw[Nat.min_eq_right (by omega)]
   rw[List.take_of_length_le (by rw[List.length_drop,hl];omega),List.take_of_length_le (by rw[List.length_drop,hl];omega)]
 ·have e1:w.cps.toList.drop a=[]:=List.drop_eq_nil_of_le (by omega)
  have e2:w.cps.toList.drop (min a w.length)=[]:=List.drop_eq_nil_of_le (by omega)
  rw[e1,e2]
  simp
def flat (us:List Str):List Nat:=(us.map λu=>u.cps.toList).flatten
include G
theorem rN {w:Str}:∀ (n a:Nat),w.length - a<=n->a<=w.length->flat (un R w n a)=w.cps.toList.drop a
 | 0,a,h1,h2=>by
  have hl:w.cps.toList.length=w.length:=Array.length_toList
  rw[List.drop_eq_nil_of_le (by omega)]
  rfl
 | n+1,a,h1,h2=>by
  have hl:w.cps.toList.length=w.length:=Array.length_toList
  by_cases h:a < w.length
  ·have hsz:=DK G h
   have hs1:=zO (R:=R) w a
   have e:un R w (n+1) a=ctU w a (szU R w a)::un R w n (a+szU R w a):=by rw[un,if_pos h]
   have ih:=rN (w:=w) n (a+szU R w a) (by omega) hsz
   have ef:flat (ctU w a (szU R w a)::un R w n (a+szU R w a))=(ctU w a (szU R w a)).cps.toList++flat (un R w n (a+szU R w a)):=rfl
   rw[e,ef,ih,v4,← List.drop_drop,List.take_append_drop]
  ·have e:un R w (n+1) a=[]:=by rw[un,if_neg h]
   rw[e,List.drop_eq_nil_of_le (by omega)]
   rfl
theorem pQ {w:Str}:∀ (n a:Nat),∀ u∈un R w n a,u∈R.pairs\/∃ c,u=⟨#[c]⟩
 | 0,_,u,h=>by cases h
 | n+1,a,u,h=>by
  unfold un at h
  split at h
  ·rename_i hlt
   rcases List.mem_cons.mp h with e | h
   ·by_cases hm:ctU w a 2∈R.pairs
    ·have hz:szU R w a=2:=if_pos hm
     rw[hz] at e
     rw[e]
     exact .inl hm
    ·have hz:szU R w a=1:=if_neg hm
     rw[hz] at e
     have hl:w.cps.toList.length=w.length:=Array.length_toList
     have hc:=v4 w a 1
     rw[List.drop_eq_getElem_cons (by omega:a < w.cps.toList.length),List.take_succ_cons,List.take_zero] at hc
     refine .inr ⟨w.cps.toList[a],?_⟩
     rw[e]
     generalize ctU w a 1=z at hc
     cases z with
     | mk cps=>
      congr 1
      exact Array.toList_inj.mp hc
   ·exact pQ n _ u h
  ·cases h
theorem tH {u:Str}(h:u∈R.pairs):dN R u=true/\u.length=2:=by
 refine⟨?_,yz G h⟩
 obtain⟨a,ha,b,hb,e⟩:=G.prs u h
 obtain⟨i,ea⟩:=G.one a ha
 have hf:oH u=a:=by
  rw[e,ea]
  unfold oH
  rw[Str.cps_append,Array.toList_append]
  rfl
 unfold dN
 rw[hf]
 exact decide_eq_true ha
theorem yC {w:Str}(W:WordR R w):∃ u∈un R w 24 0,dN R u=true:=by
 obtain⟨s,hs,hm⟩:=W.c
 have hj:=rN G (w:=w) 24 0 (by have:=W.l;omega) (by omega)
 rw[List.drop_zero] at hj
 rw[← hj] at hs
 obtain⟨l,hl,hs'⟩:=List.mem_flatten.mp hs
 obtain⟨u,hu,rfl⟩:=List.mem_map.mp hl
 refine⟨u,hu,?_⟩
 rcases pQ G 24 0 u hu with z | ⟨c,z⟩
 ·exact(tH G z).1
 ·rw[z] at hs' ⊢
  have:s=c:=by simpa using hs'
  subst this
  exact decide_eq_true hm
end
end My
namespace My
open PySem L2 MR
theorem mW {x y:Str}(h:x.cps.toList=y.cps.toList):x=y:=by
 cases x;cases y
 congr 1
 exact Array.toList_inj.mp h
def sfx (w:Str) (a:Nat):Str:=cQ w (some (a:Int)) none
theorem mj (w:Str) (a:Nat):(sfx w a).cps.toList=w.cps.toList.drop a:=by
 have hl:w.cps.toList.length=w.length:=Array.length_toList
 unfold sfx
 rw[lw,HT.sIx_nat,HT.sIx_none]
 by_cases h:a<=w.length
 ·rw[Nat.min_eq_left h,List.take_of_length_le (by rw[List.length_drop,hl];omega)]
 ·rw[List.drop_eq_nil_of_le (by omega:w.cps.toList.length<=a),Nat.min_eq_right (by omega)]
  simp
theorem Je (w:Str) (a:Nat):(sfx w a).length=w.length - a:=by
 have hl:w.cps.toList.length=w.length:=Array.length_toList
 have h2:(sfx w a).cps.toList.length=(sfx w a).length:=Array.length_toList
 rw[← h2,mj,List.length_drop,hl]
theorem O4 (w:Str):sfx w 0=w:=mW (by rw[mj];rfl)
section
variable {R:Rc}(G:R.Good)
include G
end
end My
namespace My
open PySem L2 MR
theorem v6 (x y z:Str):(x++y)++z=x++(y++z):=by
 cases x;cases y;cases z
 show Str.mk _=Str.mk _
 simp[Str.cps_append,Array.append_assoc]
theorem zP (x:Str):("" : Str)++x=x:=by
 apply mW
 have e0:("" : Str).cps.toList=[]:=by decide +kernel
 rw[Str.cps_append,Array.toList_append,e0]
 rfl
theorem zQ (x:Str):x++("" : Str)=x:=by
 apply mW
 have e0:("" : Str).cps.toList=[]:=by decide +kernel
 rw[Str.cps_append,Array.toList_append,e0,List.append_nil]
def bT (R:Rc):List Str->Str×List (Str×Str)
 | []=>("",[])
 | v::us=>if dN R v=true then ("",(v,(bT R us).1)::(bT R us).2) else (v++(bT R us).1,(bT R us).2)
theorem pR (R:Rc):∀ us:List Str,(bT R us).2.map (·.1)=us.filter (dN R)
 | []=>rfl
 | v::us=>by
  have ih:=pR R us
  unfold bT
  by_cases h:dN R v=true
  ·rw[if_pos h,List.filter_cons_of_pos h,List.map_cons,ih]
  ·rw[if_neg h,List.filter_cons_of_neg h]
   exact ih
theorem yD (R:Rc):∀ us:List Str,(bT R us).2.length<=us.length
 | []=>Nat.le_refl _
 | v::us=>by
  have ih:=yD R us
  unfold bT
  split
  ·simp;exact ih
  ·simp;omega
def bindG (l:List (Str×Str)):List Nat:=(l.map λx=>x.1.cps.toList++x.2.cps.toList).flatten
theorem qY (R:Rc):∀ us:List Str,(bT R us).1.cps.toList++bindG (bT R us).2=flat us
 | []=>by
  have e0:("" : Str).cps.toList=[]:=by decide +kernel
  show ("" : Str).cps.toList++[]=[]
  rw[e0]
  rfl
 | v::us=>by
  have ih:=qY R us
  have ef:flat (v::us)=v.cps.toList++flat us:=rfl
  have e0:("" : Str).cps.toList=[]:=by decide +kernel
  unfold bT
  rw[ef,← ih]
  by_cases h:dN R v=true
  ·rw[if_pos h]
   simp only[e0,List.nil_append]
   show (v.cps.toList++(bT R us).1.cps.toList)++bindG (bT R us).2=_
   rw[List.append_assoc]
  ·rw[if_neg h]
   simp only
   rw[Str.cps_append,Array.toList_append,List.append_assoc]
section
variable {R:Rc}(G:R.Good){cut:List (List Str)}(hc:∀ y,y∈aO cut↔y∈R.carriers) (hp:∀ y,y∈pairsOf cut↔y∈R.pairs)
include G
theorem tK {w u:Str}(hm:u∈un R w 24 0):ixP (.str u) (.int 0)=some (.str (oH u))/\u.length<=2:=by
 have hlen:u.length<=2:=by
  rcases pQ G 24 0 u hm with z | ⟨c,z⟩
  ·have:=(tH G z).2;omega
  ·rw[z];show 1<=2;decide
 have hne:∃ c cs,u.cps.toList=c::cs:=by
  rcases pQ G 24 0 u hm with z | ⟨c,z⟩
  ·have h2:=(tH G z).2
   have hl:u.cps.toList.length=u.length:=Array.length_toList
   cases q:u.cps.toList with
   | nil=>rw[q] at hl;simp at hl;omega
   | cons c cs=>exact⟨c,cs,rfl⟩
  ·rw[z];exact⟨c,[],rfl⟩
 obtain⟨c,cs,hcs⟩:=hne
 have h6:u.length<=1000000:=by omega
 refine⟨?_,hlen⟩
 unfold oH
 simp[h6,hcs]
include hc
omit G in
theorem u9 (u:Str):bc [.obj 0 (aq cut),.str (oH u)]=some (.bl (dN R u)):=by
 have hcar:=uy cut (oH u)
 have hd:decide (oH u∈aO cut)=dN R u:=by
  unfold dN
  exact decide_eq_decide.mpr (hc _)
 rw[hd] at hcar
 exact hcar
theorem DP {w:Str}{us:List Str}(hus:∀ u∈us,u∈un R w 24 0) (hl:us.length<=24):eG [.obj 0 (aq cut),.lst (us.map .str)]=some (.lst (((bT R us).2.map (·.1)).map .str)):=by
 have hcm:=jl (env:=[none,some (.obj 0 (aq cut))]) (g:=gN 0) (t:=jY) (f:=jX) PV.str PV.str (dN R) us λu hu=>⟨[some (.str u),some (.obj 0 (aq cut))],rfl,by
  have h1:=(tK G (hus u hu)).1
  have h2:=u9 hc u
  simp[jY,-ixP,h1,lA,h2],λ_=>by simp[jX]⟩
 rw[← pR] at hcm
 have q:(us.map PV.str).length<=1000000:=by rw[List.length_map];omega
 unfold eG o8
 generalize us.map PV.str=US,((bT R us).2.map (·.1)).map PV.str=CS at *
 simp[q,hcm]
theorem DQ {w v:Str}(hv:v∈un R w 24 0){x:PV}{Gs:List Str}{c:Str}(hg:Gs.length < 900) (hcl:c.length<=1000):
  turn (gN 3) [3] e_ (.str v) [some (.obj 0 (aq cut)),some x,some (.lst ((Gs++[c]).map .str)),none]=
   some [some (.obj 0 (aq cut)),some x,some (.lst ((if dN R v=true then (Gs++[c])++[("" : Str)] else Gs++[c++v]).map .str)),none]:=by
 obtain⟨h1,hvl⟩:=tK G hv
 have h2:=u9 hc v
 have hll:(Gs++[c]).length < 1000000:=by simp;omega
 have hlast:ixN ((Gs++[c]).map PV.str).length (-1)=some Gs.length:=by
  unfold ixN
  rw[if_neg (by decide),if_pos (by simp;omega)]
  simp
  omega
 have hix:ixP (.lst ((Gs++[c]).map PV.str)) (.int (-1))=some (.str c):=by
  show atI ((Gs++[c]).map PV.str) (-1)=_
  unfold atI
  rw[hlast]
  simp
 have hset:((Gs++[c]).map PV.str).set Gs.length (.str (c++v))=(Gs++[c++v]).map PV.str:=by
  simp[List.set_append]
 have hcv:c.length+v.length<=1000000:=by omega
 by_cases h:dN R v=true
 ·rw[h] at h2
  rw[if_pos h,List.map_append (l₁:=Gs++[c])]
  have hlm:((Gs++[c]).map PV.str).length < 1000000:=by rw[List.length_map];exact hll
  generalize (Gs++[c]).map PV.str=GC at *
  simp[mU,e_,-ixP,h1,lA,h2,hlm]
 ·have h0:dN R v=false:=by cases z:dN R v with | true=>exact absurd z h | false=>rfl
  rw[h0] at h2
  rw[if_neg h,← hset]
  generalize (Gs++[c]).map PV.str=GC at *
  simp[mU,e_,-ixP,h1,lA,h2,hix,hcv,mD,hlast]
end
end My
namespace My
open PySem L2 MR
def rO (R:Rc) (s:List Str×Str) (v:Str):List Str×Str:=if dN R v=true then (s.1++[s.2], "") else (s.1,s.2++v)
theorem uA (R:Rc):∀ (us:List Str) (s:List Str×Str),(us.foldl (rO R) s).1++[(us.foldl (rO R) s).2]=s.1++(s.2++(bT R us).1)::(bT R us).2.map (·.2)
 | [],s=>by
  show s.1++[s.2]=s.1++(s.2++("" : Str))::[]
  rw[zQ]
 | v::us,s=>by
  rw[List.foldl_cons,uA R us]
  have e:bT R (v::us)=if dN R v=true then (("" : Str),(v,(bT R us).1)::(bT R us).2) else (v++(bT R us).1,(bT R us).2):=rfl
  rw[e]
  unfold rO
  generalize bT R us=sg
  by_cases h:dN R v=true
  ·rw[if_pos h,if_pos h]
   simp only[zP,zQ,List.map_cons,List.append_assoc]
   rfl
  ·rw[if_neg h,if_neg h]
   simp only[v6]
section
variable {R:Rc}(G:R.Good){cut:List (List Str)}(hc:∀ y,y∈aO cut↔y∈R.carriers)
include G hc
theorem DR {w:Str}{us:List Str}(hus:∀ u∈us,u∈un R w 24 0) (hl:us.length<=24):jA [.obj 0 (aq cut),.lst (us.map .str)]=some (.lst (((bT R us).1::(bT R us).2.map (·.2)).map .str)):=by
 have hf:=qW (g:=gN 3) (ds:=[3]) (body:=e_) PV.str (λs:List Str×Str=>[some (.obj 0 (aq cut)),some (.lst (us.map .str)),some (.lst ((s.1++[s.2]).map .str)),none]) (rO R) (λs=>s.1.length*2+s.2.length) (λ_=>2) 800 (λ_=>True) us ([], "") trivial
  (by
   have:(us.map λ_=>2).sum=us.length*2:=by
    have gen:∀ l:List Str,(l.map λ_=>2).sum=l.length*2:=by
     intro l
     induction l with
     | nil=>rfl
     | cons a l ih=>simp[ih];omega
    exact gen us
   have e0:("" : Str).length=0:=by decide +kernel
   rw[this]
   simp only[List.length_nil,Nat.zero_mul,e0]
   omega) λv hv s _ hs=>⟨by
    have hvl:=(tK G (hus v hv)).2
    have e0:("" : Str).length=0:=by decide +kernel
    unfold rO
    split
    ·simp only[List.length_append,List.length_singleton,e0];omega
    ·simp only[bH];omega,trivial,by
    have:=DQ G hc (hus v hv) (x:=.lst (us.map .str)) (Gs:=s.1) (c:=s.2) (by omega) (by omega)
    rw[this]
    unfold rO
    split <;> simp⟩
 rw[uA,zP] at hf
 have hf:bw (gN 3) [3] e_ (us.map .str) [some (.obj 0 (aq cut)),some (.lst (us.map .str)),some (.lst [.str ""]),none]=some (.nx [some (.obj 0 (aq cut)),some (.lst (us.map .str)),some (.lst (((bT R us).1::(bT R us).2.map (·.2)).map .str)),none]):=hf
 have hb:mL [some (.obj 0 (aq cut)),some (.lst (us.map .str)),none,none]=some (.rt (.lst (((bT R us).1::(bT R us).2.map (·.2)).map .str))):=by
  unfold mL
  generalize e_=BB,us.map PV.str=US,((bT R us).1::(bT R us).2.map (·.2)).map PV.str=GS at *
  simp[hf]
 unfold jA
 generalize mL=B,us.map PV.str=US,((bT R us).1::(bT R us).2.map (·.2)).map PV.str=GS at *
 simp[hb]
end
theorem DW {R:Rc}{cut:List (List Str)}(hb:∀ y,y∈tell ("begin" : Str) cut↔y∈R.begins) (x:Str):d_ [.obj 0 (aq cut),.str x]=some (.bl (decide (x∈R.begins))):=by
 have:decide (x∈tell ("begin" : Str) cut)=decide (x∈R.begins):=decide_eq_decide.mpr (hb x)
 simp[d_,mJ,yu,km,this]
theorem v7 {R:Rc}{cut:List (List Str)}(hb:∀ y,y∈tell ("split" : Str) cut↔y∈R.splits) (x:Str):cG [.obj 0 (aq cut),.str x]=some (.bl (decide (x∈R.splits))):=by
 have:decide (x∈tell ("split" : Str) cut)=decide (x∈R.splits):=decide_eq_decide.mpr (hb x)
 simp[cG,mH,yw,km,this]
theorem v8 (cut:List (List Str)):List.lookup ("begins" : Str) (aq cut)=none:=rfl
theorem ou (cut:List (List Str)):List.lookup ("splits" : Str) (aq cut)=none:=rfl
def pfx (g:Str) (k:Nat):Str:=cQ g none (some (k:Int))
theorem oA (g:Str) (k:Nat):(pfx g k).cps.toList=g.cps.toList.take k:=by
 have hl:g.cps.toList.length=g.length:=Array.length_toList
 unfold pfx
 rw[lw,HT.sIx_none,HT.sIx_nat,List.drop_zero,Nat.sub_zero,List.take_eq_take_iff]
 omega
theorem lM (g:Str) (k:Nat):(pfx g k).length=min k g.length:=by
 have hl:g.cps.toList.length=g.length:=Array.length_toList
 have h2:(pfx g k).cps.toList.length=(pfx g k).length:=Array.length_toList
 rw[← h2,oA,List.length_take,hl]
def stF (R:Rc) (g:Str):Nat->Option Nat
 | 0=>none
 | n+1=>if sfx g (g.length - (n+1))∈R.begins then some (g.length - (n+1)) else stF R g n
def stN (R:Rc) (g:Str):Nat:=if g∈R.splits then 0 else (stF R g g.length).getD (g.length - 1)
theorem DX (R:Rc) (g:Str):∀ n k,stF R g n=some k->k<=g.length/\sfx g k∈R.begins
 | 0,k,h=>by cases h
 | n+1,k,h=>by
  unfold stF at h
  split at h
  ·rename_i hm
   cases h
   exact⟨by omega,hm⟩
  ·exact DX R g n k h
theorem Lp (R:Rc) (g:Str):stN R g<=g.length:=by
 unfold stN
 split
 ·exact Nat.zero_le _
 ·cases h:stF R g g.length with
  | none=>simp
  | some k=>simp;exact(DX R g _ k h).1
theorem zR {R:Rc}{cut:List (List Str)}(hb:∀ y,y∈tell ("begin" : Str) cut↔y∈R.begins){g:Str}(hg:g.length<=1000):∀ n,n<=g.length->
  bw (gN 2) [2] gF ((List.range' (g.length - n) n).map λk=>PV.int (k:Nat)) [some (.obj 0 (aq cut)),some (.str g),none]=some (match stF R g n with | some k=>.rt (.str (pfx g k)) | none=>.nx [some (.obj 0 (aq cut)),some (.str g),none])
 | 0,_=>rfl
 | n+1,hn=>by
  have ih:=zR hb hg n (by omega)
  have h6:g.length<=1000000:=by omega
  rw[List.range'_succ,List.map_cons,show g.length - (n+1)+1=g.length - n by omega]
  have hm:=DW hb (sfx g (g.length - (n+1)))
  have hs:cQ g (some ((g.length - (n+1):Nat):Int)) none=sfx g (g.length - (n+1)):=rfl
  have hp':cQ g none (some ((g.length - (n+1):Nat):Int))=pfx g (g.length - (n+1)):=rfl
  unfold stF
  generalize g.length - (n+1)=k at *
  by_cases h:sfx g k∈R.begins
  ·rw[if_pos h]
   rw[decide_eq_true h] at hm
   have hbd:gF [some (.obj 0 (aq cut)),some (.str g),some (.int (k:Nat))]=some (.rt (.str (pfx g k))):=by
    simp[gF,h6,hs,v8,hm,hp']
   simp[bw,hbd]
  ·rw[if_neg h,← ih]
   rw[decide_eq_false h] at hm
   have hbd:gF [some (.obj 0 (aq cut)),some (.str g),some (.int (k:Nat))]=some (.nx [some (.obj 0 (aq cut)),some (.str g),some (.int (k:Nat))]):=by
    simp[gF,h6,hs,v8,hm]
   simp[bw,hbd]
theorem Jf {R:Rc}{cut:List (List Str)}(hb:∀ y,y∈tell ("begin" : Str) cut↔y∈R.begins) (hsp:∀ y,y∈tell ("split" : Str) cut↔y∈R.splits){g:Str}(hg:g.length<=1000):jB [.obj 0 (aq cut),.str g]=some (.str (pfx g (stN R g))):=by
 have hs:=v7 hsp g
 have h6:g.length<=1000000:=by omega
 have fin:∀ v,mO [some (.obj 0 (aq cut)),some (.str g),none]=some (.rt v)->jB [.obj 0 (aq cut),.str g]=some v:=λv h=>by
  unfold jB
  generalize mO=B at *
  simp[h]
 apply fin
 unfold mO stN
 by_cases h:g∈R.splits
 ·rw[if_pos h]
  rw[decide_eq_true h] at hs
  have e0:pfx g 0=("" : Str):=by
   apply mW
   rw[oA,List.take_zero]
   decide +kernel
  rw[e0]
  simp[ou,hs]
 ·rw[if_neg h]
  rw[decide_eq_false h] at hs
  have lp:=zR hb hg g.length (Nat.le_refl _)
  rw[Nat.sub_self,← List.range_eq_range',← lH] at lp
  have hr:rgI (g.length:Int)=true:=qX hg
  have hlast:cQ g none (some (-1))=pfx g (g.length - 1):=by
   apply mW
   have hl:g.cps.toList.length=g.length:=Array.length_toList
   rw[oA,lw,HT.sIx_none,List.drop_zero,Nat.sub_zero]
   congr 1
   show (if (-1:Int) < 0 then ((-1:Int)+(g.length:Int)).toNat else min (-1:Int).toNat g.length)=g.length - 1
   rw[if_pos (by decide)]
   omega
  cases hst:stF R g g.length with
  | none=>
   rw[hst] at lp
   simp only[Option.getD_none]
   simp[ou,hs,h6,hr,lp,hlast]
  | some k=>
   rw[hst] at lp
   simp only[Option.getD_some]
   simp[ou,hs,h6,hr,lp]
end My
namespace My
open PySem L2 MR
abbrev Row:=Str×Str×Str×Bool
def lN (R:Rc):Str->List (Str×Str)->List Row
 | _,[]=>[]
 | h,[x]=>[(h,x.1,x.2,false)]
 | h,x::y::r=>(h,x.1,pfx x.2 (stN R x.2),decide (x.2∈R.splits))::lN R (sfx x.2 (stN R x.2)) (y::r)
def aL (r:Row):PV:=.tup [.str r.1,.str r.2.1,.str r.2.2.1,.bl r.2.2.2]
def jT (R:Rc) (s:List Row×Str) (x:Str×Str):List Row×Str:=(s.1++[(s.2,x.1,pfx x.2 (stN R x.2),decide (x.2∈R.splits))],sfx x.2 (stN R x.2))
theorem v9 (R:Rc) (z:Str×Str):∀ (init:List (Str×Str)) (s:List Row×Str),(init.foldl (jT R) s).1++[((init.foldl (jT R) s).2,z.1,z.2,false)]=s.1++lN R s.2 (init++[z])
 | [],s=>rfl
 | x::init,s=>by
  rw[List.foldl_cons,v9 R z init]
  obtain⟨y,r,e⟩:∃ y r,init++[z]=y::r:=by
   cases init with
   | nil=>exact⟨_,_,rfl⟩
   | cons a b=>exact⟨_,_,rfl⟩
  rw[List.cons_append,e]
  show (s.1++[_])++_=s.1++(_::_)
  rw[List.append_assoc]
  rfl
theorem Jg {l:List (Str×Str)}{y:Str×Str}(h:y∈l):y.1.length+y.2.length<=(bindG l).length:=by
 induction l with
 | nil=>cases h
 | cons a l ih=>
  have e:bindG (a::l)=(a.1.cps.toList++a.2.cps.toList)++bindG l:=rfl
  have h1:a.1.cps.toList.length=a.1.length:=Array.length_toList
  have h2:a.2.cps.toList.length=a.2.length:=Array.length_toList
  rw[e,List.length_append,List.length_append,h1,h2]
  rcases List.mem_cons.mp h with z | z
  ·rw[z];omega
  ·have:=ih z;omega
section
variable {R:Rc}(G:R.Good){cut:List (List Str)}(hc:∀ y,y∈aO cut↔y∈R.carriers) (hp:∀ y,y∈pairsOf cut↔y∈R.pairs) (hb:∀ y,y∈tell ("begin" : Str) cut↔y∈R.begins) (hsp:∀ y,y∈tell ("split" : Str) cut↔y∈R.splits)
include hb hsp
theorem Gw {x:Str×Str}(hx:x.2.length<=1000){x1 x2 x3 x4:PV}{acc:List Row}{h:Str}(ha:acc.length < 900):
  turn (gT [7,8]) [7,8,9] eE (.tup [.str x.1,.str x.2]) [some (.obj 0 (aq cut)),some x1,some x2,some x3,some x4,some (.lst (acc.map aL)),some (.str h),none,none,none]=
   some [some (.obj 0 (aq cut)),some x1,some x2,some x3,some x4,some (.lst ((jT R (acc,h) x).1.map aL)),some (.str (jT R (acc,h) x).2),none,none,none]:=by
 have hst:=Jf hb hsp hx
 have hs:=v7 hsp x.2
 have hle:=Lp R x.2
 have hpl:(pfx x.2 (stN R x.2)).length=stN R x.2:=by rw[lM];omega
 have hpl6:(pfx x.2 (stN R x.2)).length<=1000000:=by omega
 have h6:x.2.length<=1000000:=by omega
 have hsf:cQ x.2 (some ((stN R x.2:Nat):Int)) none=sfx x.2 (stN R x.2):=rfl
 have ha':(acc.map aL).length < 1000000:=by rw[List.length_map];omega
 have e1:(jT R (acc,h) x).1.map aL=acc.map aL++[.tup [.str h,.str x.1,.str (pfx x.2 (stN R x.2)),.bl (decide (x.2∈R.splits))]]:=by
  simp[jT,aL]
 have e2:(jT R (acc,h) x).2=sfx x.2 (stN R x.2):=rfl
 rw[e1,e2]
 generalize stN R x.2=k at *
 generalize pfx x.2 k=P,sfx x.2 k=Q,acc.map aL=AP,decide (x.2∈R.splits)=db at *
 have hk6:k<=1000000:=by omega
 simp[mU,eE,hst,ou,hs,ha',h6,hk6,hpl,hsf]
include G hc hp
theorem Lq {w:Str}(W:WordR R w):bx [.obj 0 (aq cut),.str w]=some (.lst ((lN R (bT R (un R w 24 0)).1 (bT R (un R w 24 0)).2).map aL)):=by
 have hu:=Bq G hc hp W
 have hlu:(un R w 24 0).length<=24:=by
  have gen:∀ n a,(un R w n a).length<=n:=by
   intro n
   induction n with
   | zero=>intro a;simp[un]
   | succ n ih=>
    intro a
    unfold un
    split
    ·simp;exact ih _
    ·simp
  exact gen 24 0
 have hca:=DP G hc (us:=un R w 24 0) (w:=w) (λ_ h=>h) hlu
 have hga:=DR G hc (us:=un R w 24 0) (w:=w) (λ_ h=>h) hlu
 have hfl:flat (un R w 24 0)=w.cps.toList:=by
  have:=rN G (w:=w) 24 0 (by have:=W.l;omega) (by omega)
  rw[List.drop_zero] at this
  exact this
 have hsf:=qY R (un R w 24 0)
 have hll:=yD R (un R w 24 0)
 have hne:(bT R (un R w 24 0)).2≠[]:=by
  obtain⟨u,hu1,hu2⟩:=yC G W
  intro z
  have:=pR R (un R w 24 0)
  rw[z] at this
  have hm:u∈(un R w 24 0).filter (dN R):=List.mem_filter.mpr ⟨hu1,hu2⟩
  rw[← this] at hm
  cases hm
 have hwl:w.cps.toList.length=w.length:=Array.length_toList
 have hW:=W.l
 generalize hus:un R w 24 0=us at *
 generalize hg0:(bT R us).1=g0,hl:(bT R us).2=l at *
 have hbl:(bindG l).length<=24:=by
  have:=congrArg List.length hsf
  rw[List.length_append,hfl,hwl] at this
  omega
 obtain⟨init,z,rfl⟩:∃ init z,l=init++[z]:=by
  rcases List.eq_nil_or_concat l with q | ⟨i,z,q⟩
  ·exact absurd q hne
  ·exact⟨i,z,by rw[q,List.concat_eq_append]⟩
 have hgl:∀ y∈init,y.2.length<=1000:=λy hy=>by
  have:=Jg (List.mem_append_left [z] hy)
  omega
 have hil:init.length<=24:=by simp at hll;omega
 have c1:gW (((init++[z]).map (·.1)).map PV.str) none (some (-1))=(init.map (·.1)).map PV.str:=by
  rw[List.map_append,List.map_singleton]
  exact DN PV.str (init.map (·.1)) z.1
 have c2:gW ((g0::(init++[z]).map (·.2)).map PV.str) (some 1) (some (-1))=(init.map (·.2)).map PV.str:=by
  unfold gW
  have e1:HT.sIx ((g0::(init++[z]).map (·.2)).map PV.str).length 0 (some 1)=1:=by
   rw[show (some (1:Int))=some ((1:Nat):Int) from rfl,HT.sIx_nat]
   simp
  have e2:HT.sIx ((g0::(init++[z]).map (·.2)).map PV.str).length ((g0::(init++[z]).map (·.2)).map PV.str).length (some (-1))=init.length+1:=by
   show (if (-1:Int) < 0 then ((-1:Int)+(((g0::(init++[z]).map (·.2)).map PV.str).length:Int)).toNat else min (-1:Int).toNat ((g0::(init++[z]).map (·.2)).map PV.str).length)=init.length+1
   rw[if_pos (by decide)]
   simp
   omega
  rw[e1,e2]
  simp
 have hz:dI ((init.map (·.1)).map PV.str) ((init.map (·.2)).map PV.str)=init.map λy=>PV.tup [.str y.1,.str y.2]:=by
  unfold dI
  generalize init=i
  induction i with
  | nil=>rfl
  | cons a i ih=>simp only[List.map_cons,List.zipWith_cons_cons,ih]
 have hix0:ixP (.lst ((g0::(init++[z]).map (·.2)).map PV.str)) (.int 0)=some (.str g0):=at0 _ _
 have atl:∀ (L:List PV) (v:PV),ixP (.lst (L++[v])) (.int (-1))=some v:=λL v=>by
  show atI (L++[v]) (-1)=_
  unfold atI ixN
  rw[if_neg (by decide),if_pos (by simp;omega),Option.bind_some,show ((-1:Int)+((L++[v]).length:Nat)).toNat=L.length by simp;omega]
  simp
 have hixc:ixP (.lst (((init++[z]).map (·.1)).map PV.str)) (.int (-1))=some (.str z.1):=by
  rw[List.map_append,List.map_append]
  exact atl _ _
 have hixg:ixP (.lst ((g0::(init++[z]).map (·.2)).map PV.str)) (.int (-1))=some (.str z.2):=by
  rw[List.map_cons,List.map_append,List.map_append,← List.cons_append]
  exact atl _ _
 have lp:=qW (g:=gT [7,8]) (ds:=[7,8,9]) (body:=eE) (λy:Str×Str=>PV.tup [.str y.1,.str y.2])
  (λs:List Row×Str=>[some (.obj 0 (aq cut)),some (.str w),some (.lst (us.map .str)),some (.lst (((init++[z]).map (·.1)).map .str)),some (.lst ((g0::(init++[z]).map (·.2)).map .str)),some (.lst (s.1.map aL)),some (.str s.2),none,none,none])
  (jT R) (λs=>s.1.length) (λ_=>1) 800 (λ_=>True) init ([],g0) trivial (by rw[yx];simp;omega)
  λy hy s _ hs=>⟨by simp[jT],trivial,Gw hb hsp (hgl y hy) (by omega)⟩
 have hfin:=v9 R z init ([],g0)
 generalize hF:init.foldl (jT R) ([],g0)=F at *
 have hFl:F.1.length<=24:=by
  rw[← hF]
  have gen:∀ (i:List (Str×Str)) (s:List Row×Str),(i.foldl (jT R) s).1.length=s.1.length+i.length:=by
   intro i
   induction i with
   | nil=>intro s;rfl
   | cons a i ih=>intro s;rw[List.foldl_cons,ih];simp[jT];omega
  rw[gen]
  simp
  exact hil
 simp only[List.map_nil,List.nil_append] at lp hfin
 rw[← hz,← c1,← c2] at lp
 rw[← hfin,List.map_append,List.map_singleton]
 have hFm:(F.1.map aL).length < 1000000:=by rw[List.length_map];omega
 have hrv:aL (F.2,z.1,z.2,false)=.tup [.str F.2,.str z.1,.str z.2,.bl false]:=rfl
 rw[hrv]
 have hbd:iY [some (.obj 0 (aq cut)),some (.str w),none,none,none,none,none,none,none,none]=some (.rt (.lst (F.1.map aL++[.tup [.str F.2,.str z.1,.str z.2,.bl false]]))):=by
  unfold iY
  generalize eE=BB,iD=m1,eG=m2,jA=m3,us.map PV.str=US,((init++[z]).map (·.1)).map PV.str=CS,(g0::(init++[z]).map (·.2)).map PV.str=GS,F.1.map aL=FR,aq cut=TF at *
  have s1:aJ 2 (aK m1 (ak (bV 0) (ak (bV 1) aF))) [some (.obj 0 TF),some (.str w),none,none,none,none,none,none,none,none]=some (.nx [some (.obj 0 TF),some (.str w),some (.lst US),none,none,none,none,none,none,none]):=by simp[hu]
  have s2:aJ 3 (aK m2 (ak (bV 0) (ak (bV 2) aF))) [some (.obj 0 TF),some (.str w),some (.lst US),none,none,none,none,none,none,none]=some (.nx [some (.obj 0 TF),some (.str w),some (.lst US),some (.lst CS),none,none,none,none,none,none]):=by simp[hca]
  have s3:aJ 4 (aK m3 (ak (bV 0) (ak (bV 2) aF))) [some (.obj 0 TF),some (.str w),some (.lst US),some (.lst CS),none,none,none,none,none,none]=some (.nx [some (.obj 0 TF),some (.str w),some (.lst US),some (.lst CS),some (.lst GS),none,none,none,none,none]):=by simp[hga]
  have s4:aJ 5 (cF aF) [some (.obj 0 TF),some (.str w),some (.lst US),some (.lst CS),some (.lst GS),none,none,none,none,none]=some (.nx [some (.obj 0 TF),some (.str w),some (.lst US),some (.lst CS),some (.lst GS),some (.lst []),none,none,none,none]):=by simp
  have s5:aJ 6 (b2 ixP (bV 4) (bC (.int 0))) [some (.obj 0 TF),some (.str w),some (.lst US),some (.lst CS),some (.lst GS),some (.lst []),none,none,none,none]=some (.nx [some (.obj 0 TF),some (.str w),some (.lst US),some (.lst CS),some (.lst GS),some (.lst []),some (.str g0),none,none,none]):=by simp[-ixP,hix0]
  have s6:eZ (gT [7,8]) (iZ (bSl (bV 3) oN (oS (b1 jG (bC (.int 1))))) (bSl (bV 4) (oS (bC (.int 1))) (oS (b1 jG (bC (.int 1)))))) [7,8,9] BB [some (.obj 0 TF),some (.str w),some (.lst US),some (.lst CS),some (.lst GS),some (.lst []),some (.str g0),none,none,none]=some (.nx [some (.obj 0 TF),some (.str w),some (.lst US),some (.lst CS),some (.lst GS),some (.lst FR),some (.str F.2),none,none,none]):=by
   simp[-Ni,lp]
  have s7:bU fY 5 (my (ak (bV 6) (ak (b2 ixP (bV 3) (b1 jG (bC (.int 1)))) (ak (b2 ixP (bV 4) (b1 jG (bC (.int 1)))) (ak (bC (.bl false)) aF))))) [some (.obj 0 TF),some (.str w),some (.lst US),some (.lst CS),some (.lst GS),some (.lst FR),some (.str F.2),none,none,none]=some (.nx [some (.obj 0 TF),some (.str w),some (.lst US),some (.lst CS),some (.lst GS),some (.lst (FR++[.tup [.str F.2,.str z.1,.str z.2,.bl false]])),some (.str F.2),none,none,none]):=by
   simp[-ixP,hixc,hixg,hFm]
  rw[bR s1,bR s2,bR s3,bR s4,bR s5,bR s6,bR s7]
  simp
 unfold bx
 generalize iY=B,F.1.map aL=FR at *
 simp[hbd]
end
end My
namespace My
open PySem L2 MR
def pU (r:Row):List Nat:=r.1.cps.toList++(r.2.1.cps.toList++r.2.2.1.cps.toList)
theorem yE (R:Rc):∀ (l:List (Str×Str)) (h:Str),l≠[]->((lN R h l).map pU).flatten=h.cps.toList++bindG l
 | [],_,hn=>absurd rfl hn
 | [x],h,_=>by
  show (pU (h,x.1,x.2,false))++[]=h.cps.toList++((x.1.cps.toList++x.2.cps.toList)++[])
  unfold pU
  simp
 | x::y::r,h,_=>by
  have ih:=yE R (y::r) (sfx x.2 (stN R x.2)) (by simp)
  have e:lN R h (x::y::r)=(h,x.1,pfx x.2 (stN R x.2),decide (x.2∈R.splits))::lN R (sfx x.2 (stN R x.2)) (y::r):=rfl
  have eb:bindG (x::y::r)=(x.1.cps.toList++x.2.cps.toList)++bindG (y::r):=rfl
  rw[e,List.map_cons,List.flatten_cons,ih,eb]
  unfold pU
  simp only[oA,mj]
  have:=List.take_append_drop (stN R x.2) x.2.cps.toList
  simp only[List.append_assoc]
  congr 2
  rw[← List.append_assoc,this]
theorem zT (R:Rc):∀ (l:List (Str×Str)) (h:Str),(lN R h l).map (·.2.1)=l.map (·.1)
 | [],_=>rfl
 | [x],h=>rfl
 | x::y::r,h=>by
  have ih:=zT R (y::r) (sfx x.2 (stN R x.2))
  have e:lN R h (x::y::r)=(h,x.1,pfx x.2 (stN R x.2),decide (x.2∈R.splits))::lN R (sfx x.2 (stN R x.2)) (y::r):=rfl
  rw[e,List.map_cons,ih]
  rfl
theorem Jh (R:Rc) (l:List (Str×Str)) (h:Str):(lN R h l).length=l.length:=by
 have:=congrArg List.length (zT R l h)
 simpa using this
theorem yF (R:Rc):∀ (l:List (Str×Str)) (h:Str),l≠[]->∃ i r,lN R h l=i++[r]/\r.2.2.2=false
 | [],_,hn=>absurd rfl hn
 | [x],h,_=>⟨[],(h,x.1,x.2,false),rfl,rfl⟩
 | x::y::r,h,_=>by
  obtain⟨i,q,e1,e2⟩:=yF R (y::r) (sfx x.2 (stN R x.2)) (by simp)
  have e:lN R h (x::y::r)=(h,x.1,pfx x.2 (stN R x.2),decide (x.2∈R.splits))::lN R (sfx x.2 (stN R x.2)) (y::r):=rfl
  exact⟨_::i,q,by rw[e,e1];rfl,e2⟩
section
variable {R:Rc}(G:R.Good)
include G
end
end My
namespace My
open PySem L2 MR
abbrev Opt:=Option (Bool×Bool)
def aU:Opt->PV
 | none=>.non
 | some (a,b)=>.tup [.int (if a then 1 else 0),.str (if b then "-" else "u")]
def wtR (R:Rc) (x:Str):Str:=if x∈R.longs then "-" else if x∈R.eithers then "x" else "u"
def tL (R:Rc) (c:Str):List Opt:=if c∈R.longs then [some (false,true)] else if c∈R.eithers then [some (false,false),some (false,true)] else [some (false,false)]
def jf (R:Rc) (c tail:Str) (sp:Bool):List Opt:=if tail=("" : Str) then tL R c++(if sp then [some (true,true)] else []) else [some (false,true)]
def jg (R:Rc) (c tail:Str):List Opt:=
 if tail=("" : Str) then (if runOf R=("must" : Str) then [none] else jf R c tail false++(if runOf R=("may" : Str) then [none] else [])) else jf R c (cQ tail none (some (-1))) false
theorem DY {R:Rc}{cut:List (List Str)}(hl:∀ y,y∈tell ("long" : Str) cut↔y∈R.longs) (he:∀ y,y∈tell ("either" : Str) cut↔y∈R.eithers) (x:Str):cH [.obj 0 (aq cut),.str x]=some (.str (wtR R x)):=by
 unfold wtR
 by_cases h1:x∈R.longs
 ·have h1':=(hl x).mpr h1
  simp[cH,gb,u5,km,h1,h1']
 ·have h1':¬ x∈tell ("long" : Str) cut:=λz=>h1 ((hl x).mp z)
  by_cases h2:x∈R.eithers
  ·have h2':=(he x).mpr h2
   simp[cH,gb,u5,vV,km,h1,h1',h2,h2']
  ·have h2':¬ x∈tell ("either" : Str) cut:=λz=>h2 ((he x).mp z)
   simp[cH,gb,u5,vV,km,h1,h1',h2,h2']
theorem Ji (cut:List (List Str)):eN [.obj 0 (aq cut)]=some (.str (iH cut)):=by
 simp[eN,o9,DG]
theorem D_ (cut:List (List Str)):List.lookup ("weight" : Str) (aq cut)=none:=rfl
theorem Lr (cut:List (List Str)):List.lookup ("run" : Str) (aq cut)=none:=rfl
section
variable {R:Rc}{cut:List (List Str)}(hl:∀ y,y∈tell ("long" : Str) cut↔y∈R.longs) (he:∀ y,y∈tell ("either" : Str) cut↔y∈R.eithers)
include hl he
theorem u_ (c t:Str) (sp:Bool):cU [.obj 0 (aq cut),.str c,.str t,.bl sp]=some (.lst ((jf R c t sp).map aU)):=by
 have hw:=DY hl he c
 have hno:=D_ cut
 have n1:¬ (Str.ofString "-" = Str.ofString "u"):=by decide +kernel
 have n2:¬ (Str.ofString "x" = Str.ofString "u"):=by decide +kernel
 have n3:¬ (Str.ofString "x" = Str.ofString "-"):=by decide +kernel
 have n4:¬ (Str.ofString "u" = Str.ofString "-"):=by decide +kernel
 unfold jf tL
 unfold wtR at hw
 by_cases ht:t=("" : Str)
 ·rw[if_pos ht]
  by_cases h1:c∈R.longs
  ·rw[if_pos h1] at hw ⊢
   cases sp <;> simp[cU,kZ,ht,hno,hw,n1,aU]
  ·rw[if_neg h1] at hw ⊢
   by_cases h2:c∈R.eithers
   ·rw[if_pos h2] at hw ⊢
    cases sp <;> simp[cU,kZ,ht,hno,hw,n2,n3,aU]
   ·rw[if_neg h2] at hw ⊢
    cases sp <;> simp[cU,kZ,ht,hno,hw,n4,aU]
 ·rw[if_neg ht]
  have ht':¬ t=Str.ofString "" := ht
  simp[cU,kZ,ht,ht',aU]
variable (hr:iH cut=runOf R)
include hr
theorem Gx (c t:Str) (htl:t.length<=1000):cV [.obj 0 (aq cut),.str c,.str t]=some (.lst ((jg R c t).map aU)):=by
 have hq:=Ji cut
 rw[hr] at hq
 have hno:=Lr cut
 have n1:¬ (Str.ofString "must" = Str.ofString "may"):=by decide +kernel
 have h6:t.length<=1000000:=by omega
 unfold jg
 by_cases ht:t=("" : Str)
 ·rw[if_pos ht]
  have hw:=u_ hl he c t false
  rw[ht] at hw ⊢
  have hwl:((jf R c "" false).map aU).length < 1000000:=by
   unfold jf tL
   rw[if_pos rfl]
   split
   ·simp
   ·split <;> simp
  by_cases h1:runOf R=("must" : Str)
  ·rw[if_pos h1]
   rw[h1] at hq
   simp[cV,jm,hno,hq,aU]
  ·rw[if_neg h1]
   by_cases h2:runOf R=("may" : Str)
   ·rw[if_pos h2]
    rw[h2] at hq h1
    rw[List.map_append]
    generalize (jf R c "" false).map aU=W at *
    simp[cV,jm,hno,hq,h1,hw,hwl,aU]
   ·rw[if_neg h2]
    rw[List.append_nil]
    generalize (jf R c "" false).map aU=W,runOf R=r at *
    simp[cV,jm,hno,hq,h1,h2,hw]
 ·rw[if_neg ht]
  have ht':¬ t=Str.ofString "" := ht
  have hw:=u_ hl he c (cQ t none (some (-1))) false
  generalize (jf R c (cQ t none (some (-1))) false).map aU=W at *
  simp[cV,jm,ht',h6,hw]
end
def cW (R:Rc) (r:Row):List Opt:=jf R r.2.1 r.2.2.1 r.2.2.2
def oLV (o:List Opt):PV:=.lst (o.map aU)
section
variable {R:Rc}(G:R.Good){cut:List (List Str)}(hc:∀ y,y∈aO cut↔y∈R.carriers) (hp:∀ y,y∈pairsOf cut↔y∈R.pairs)
variable (hl:∀ y,y∈tell ("long" : Str) cut↔y∈R.longs) (he:∀ y,y∈tell ("either" : Str) cut↔y∈R.eithers)
include hl he
theorem v_ (rows:List Row):bJ [none,none,none,none,some (.obj 0 (aq cut))] (gT [0,1,2,3]) bA i_ (rows.map aL)=some ((rows.map (cW R)).map oLV):=by
 have:=cz (env:=[none,none,none,none,some (.obj 0 (aq cut))]) (g:=gT [0,1,2,3]) (f:=i_) aL (λr=>oLV (cW R r)) rows λr _=>⟨[some (.str r.1),some (.str r.2.1),some (.str r.2.2.1),some (.bl r.2.2.2),some (.obj 0 (aq cut))],by simp[aL],by
  have hw:=u_ hl he r.2.1 r.2.2.1 r.2.2.2
  simp[i_,hw,oLV,cW]⟩
 rw[this,List.map_map]
 rfl
theorem Gy {w:Str}{rows:List Row}(hs:bx [.obj 0 (aq cut),.str w]=some (.lst (rows.map aL))) (hn:rows.length<=1000):bO [.obj 0 (aq cut),.str w,.non]=some (.lst ((rows.map (cW R)).map oLV)):=by
 have hcm:=v_ hl he rows
 have h6:(rows.map aL).length<=1000000:=by rw[List.length_map];omega
 unfold bO mG
 generalize rows.map aL=RV,(rows.map (cW R)).map oLV=OV at *
 simp[hs,h6,hcm]
include G hc
variable (hr:iH cut=runOf R)
include hr
theorem Gz {w w2:Str}{i:List Row}{r:Row}(hs:bx [.obj 0 (aq cut),.str w]=some (.lst ((i++[r]).map aL))) (hn:i.length<=900) (hrl:r.2.2.1.length<=1000) (W2:WordR R w2):
  bO [.obj 0 (aq cut),.str w,.str w2]=some (.lst ((i.map (cW R)++[if dN R w2=true then jg R r.2.1 r.2.2.1 else cW R r]).map oLV)):=by
 have hcm:=v_ hl he (i++[r])
 have h6:((i++[r]).map aL).length<=1000000:=by rw[List.length_map,List.length_append];simp;omega
 have hrf:bI [.obj 0 (aq cut),.str w2]=some .non:=by
  have:=vZ G hc W2
  simp[bI,jJ,this]
 have hix:ixP (.str w2) (.int 0)=some (.str (oH w2)):=by
  obtain⟨s,hs,_⟩:=W2.c
  have hl24:=W2.l
  have h6:w2.length<=1000000:=by omega
  unfold oH
  cases q:w2.cps.toList with
  | nil=>rw[q] at hs;cases hs
  | cons c cs=>simp[h6,q]
 have hca:=u9 hc w2
 have hlw:=Gx hl he hr r.2.1 r.2.2.1 hrl
 have hlast:ixP (.lst ((i++[r]).map aL)) (.int (-1))=some (aL r):=by
  rw[List.map_append,List.map_singleton]
  show atI (i.map aL++[aL r]) (-1)=_
  unfold atI ixN
  rw[if_neg (by decide),if_pos (by simp;omega),Option.bind_some,show ((-1:Int)+((i.map aL++[aL r]).length:Nat)).toNat=i.length by simp;omega]
  simp
 have r1:ixP (aL r) (.int 1)=some (.str r.2.1):=rfl
 have r2:ixP (aL r) (.int 2)=some (.str r.2.2.1):=rfl
 have e1:((i++[r]).map (cW R)).map oLV=(i.map (cW R)).map oLV++[oLV (cW R r)]:=by simp
 have e2:(i.map (cW R)++[if dN R w2=true then jg R r.2.1 r.2.2.1 else cW R r]).map oLV=(i.map (cW R)).map oLV++[if dN R w2=true then oLV (jg R r.2.1 r.2.2.1) else oLV (cW R r)]:=by
  rw[List.map_append,List.map_singleton]
  congr 2
  split <;> rfl
 have hput:mD (.lst ((i.map (cW R)).map oLV++[oLV (cW R r)])) (.int (-1)) (oLV (jg R r.2.1 r.2.2.1))=some (.lst ((i.map (cW R)).map oLV++[oLV (jg R r.2.1 r.2.2.1)])):=by
  show (ixN ((i.map (cW R)).map oLV++[oLV (cW R r)]).length (-1)).map _=_
  unfold ixN
  rw[if_neg (by decide),if_pos (by simp;omega)]
  rw[show ((-1:Int)+(((i.map (cW R)).map oLV++[oLV (cW R r)]).length:Nat)).toNat=i.length by simp;omega]
  simp
 have hlw:cV [.obj 0 (aq cut),.str r.2.1,.str r.2.2.1]=some (oLV (jg R r.2.1 r.2.2.1)):=hlw
 rw[e1] at hcm
 rw[e2]
 unfold bO mG
 have hno:=lA cut
 generalize (i++[r]).map aL=RV,(i.map (cW R)).map oLV=OV,oLV (jg R r.2.1 r.2.2.1)=LV,oLV (cW R r)=WV,aL r=RR,dN R w2=b at *
 cases b with
 | true=>simp[-ixP,-mD,hs,h6,hcm,hrf,hix,hno,hca,hlast,r1,r2,hlw,hput]
 | false=>simp[-ixP,-mD,hs,h6,hcm,hrf,hix,hno,hca]
end
end My
namespace My
open PySem L2 MR
def allB:Nat->(List Bool->Bool)->Bool
 | 0,p=>p []
 | n+1,p=>allB n (λl=>p (false::l))&&allB n (λl=>p (true::l))
theorem ph:∀ {n:Nat}{p:List Bool->Bool},allB n p=true->∀ l:List Bool,l.length=n->p l=true
 | 0,p,h,l,e=>by rw[List.length_eq_zero_iff.mp e];exact h
 | n+1,p,h,b::l,e=>by
  unfold allB at h
  rw[Bool.and_eq_true] at h
  cases b with
  | false=>exact ph h.1 l (by simpa using e)
  | true=>exact ph h.2 l (by simpa using e)
def oJ (l:List Bool) (k:Nat) (x:List Str):List (List Str):=if l.getD k false=true then [x] else []
def wsT (l:List Bool) (k:Nat) (x:List Str):List Str:=if l.getD k false=true then x else []
def ig (l:List Bool) (r:Str):List (List Str):=([["carry", "a", "e", "i"]]:List (List Str))++oJ l 0 ["one", "ae", "ai"]++oJ l 1 ["long", "ae"]++oJ l 2 ["long", "e"]++oJ l 3 ["either", "a"]++oJ l 4 ["either", "i"]++oJ l 5 ["begin", "tr", "pr", "spr"]++oJ l 6 ["split", "tr"]++oJ l 7 ["split", "sp", "pr", "spr"]++([["run",r]]:List (List Str))
def R10 (l:List Bool) (r:Str):Rc:=⟨["a", "e", "i"],wsT l 0 ["ae", "ai"],wsT l 1 ["ae"]++wsT l 2 ["e"],wsT l 3 ["a"]++wsT l 4 ["i"],wsT l 5 ["tr", "pr", "spr"],wsT l 6 ["tr"]++wsT l 7 ["sp", "pr", "spr"],r⟩
def uB (r:Str) (l:List Bool):Bool:=(l.getD 1 false&&!l.getD 0 false)||(decide (aO (ig l r)=(R10 l r).carriers)&&decide (pairsOf (ig l r)=(R10 l r).pairs)&&decide (tell ("long" : Str) (ig l r)=(R10 l r).longs)&&decide (tell ("either" : Str) (ig l r)=(R10 l r).eithers) &&
 decide (tell ("begin" : Str) (ig l r)=(R10 l r).begins)&&decide (tell ("split" : Str) (ig l r)=(R10 l r).splits)&&decide (iH (ig l r)=r) &&
 (ig l r).all (λws=>eF (inS (R10 l r).carriers) ((R10 l r).carriers++(R10 l r).pairs) ws&&decide (ws≠[])&&decide (ws.length<=1000)&&ws.all (λx=>decide (x.length<=1000)))&&decide ((ig l r).length<=1000)&&decide (total (ig l r)<=100000))
theorem Ea:allB 8 (uB "never")=true:=by decide +kernel
theorem Jj:allB 8 (uB "may")=true:=by decide +kernel
theorem GD:allB 8 (uB "must")=true:=by decide +kernel
def mQ:List Str:=["never", "may", "must"]
theorem Jk {r:Str}(h:r∈mQ){l:List Bool}(hl:l.length=8):uB r l=true:=by
 simp only[mQ,List.mem_cons,List.not_mem_nil,or_false] at h
 rcases h with rfl | rfl | rfl
 ·exact ph Ea l hl
 ·exact ph Jj l hl
 ·exact ph GD l hl
section
variable {α:Type}(a b c d e f g h:α) (l:List α)
@[simp] theorem at4:atI (a::b::c::d::e::l) 4=some e:=bQ (k:=4) rfl
@[simp] theorem at5:atI (a::b::c::d::e::f::l) 5=some f:=bQ (k:=5) rfl
@[simp] theorem at6:atI (a::b::c::d::e::f::g::l) 6=some g:=bQ (k:=6) rfl
@[simp] theorem at7:atI (a::b::c::d::e::f::g::h::l) 7=some h:=bQ (k:=7) rfl
end
def txT (l:List Bool) (k:Nat) (x:Str):List Str:=if l.getD k false=true then [x] else []
def oE (l:List Bool):List Str:=(["carry a e i"]:List Str)++txT l 0 "one ae ai" ++ txT l 1 "long ae" ++ txT l 2 "long e" ++ txT l 3 "either a" ++ txT l 4 "either i" ++ txT l 5 "begin tr pr spr" ++ txT l 6 "split tr" ++ txT l 7 "split sp pr spr"
def nM (l:List Bool) (r:Str):List Str:=oE l++[("run " : Str)++r]
theorem j5 {l:List Bool}{k:Nat}{x:Str}{ws:List Str}(h:jo x=ws):(txT l k x).map jo=oJ l k ws:=by
 unfold txT oJ
 split
 ·simp[h]
 ·rfl
theorem GF {l:List Bool}{r:Str}(h:r∈mQ):(nM l r).map jo=ig l r:=by
 have hr:jo (("run " : Str)++r)=(["run",r]:List Str):=by
  simp only[mQ,List.mem_cons,List.not_mem_nil,or_false] at h
  rcases h with rfl | rfl | rfl <;> decide +kernel
 have h0:jo ("carry a e i" : Str)=(["carry", "a", "e", "i"]:List Str):=by decide +kernel
 unfold nM oE ig
 rw[List.map_append,List.map_append,List.map_append,List.map_append,List.map_append,List.map_append,List.map_append,List.map_append,List.map_append,j5 (ws:=["one", "ae", "ai"]) (by decide +kernel),j5 (ws:=["long", "ae"]) (by decide +kernel),j5 (ws:=["long", "e"]) (by decide +kernel),j5 (ws:=["either", "a"]) (by decide +kernel),j5 (ws:=["either", "i"]) (by decide +kernel),
  j5 (ws:=["begin", "tr", "pr", "spr"]) (by decide +kernel),j5 (ws:=["split", "tr"]) (by decide +kernel),j5 (ws:=["split", "sp", "pr", "spr"]) (by decide +kernel),List.map_cons,List.map_nil,List.map_cons,List.map_nil,h0,hr]
def bits (c:Int):List Bool:=[decide (c / 1 % 2=1),decide (c / 2 % 2=1)&&decide (c % 2=1),decide (c / 4 % 2=1),decide (c / 8 % 2=1),decide (c / 16 % 2=1),decide (c / 32 % 2=1),decide (c / 64 % 2=1),decide (c / 128 % 2=1)]
def jZ (c:Int):Str:=pick ["never", "may", "must", "may"] (c / 256 % 4)
theorem zU (c:Int):jZ c∈mQ:=by
 have h:jZ c∈(["never", "may", "must", "may"]:List Str):=pP (by omega) (by show c / 256 % 4 < 4;omega)
 simp only[mQ,List.mem_cons,List.not_mem_nil,or_false] at h ⊢
 rcases h with h | h | h | h <;> simp[h]
abbrev s8:List Str:=["one ae ai", "long ae", "long e", "either a", "either i", "begin tr pr spr", "split tr", "split sp pr spr"]
theorem jq {c:Int}{k:Nat}{L:List Str}{x:Str}{l:List Bool}{p:Int}(hL:L.length<=100) (hx:atI (s8.map PV.str) (k:Int)=some (.str x)) (hp:atI [PV.int 1,.int 2,.int 4,.int 8,.int 16,.int 32,.int 64,.int 128] (k:Int)=some (.int p)) (h0:0 < p) (h1:p < 1073741824) (hb:(decide (c / p % 2=1)&&(decide (¬ (k:Int)=1)||decide (c % 2=1)))=l.getD k false):
  turn (gN 3) [3] dq (.int k) [some (.int c),some (.lst (s8.map .str)),some (.lst (L.map .str)),none]=some [some (.int c),some (.lst (s8.map .str)),some (.lst ((L++txT l k x).map .str)),none]:=by
 have hl:L.length < 1000000:=by omega
 generalize s8.map PV.str=S at *
 have hP6:([PV.int 1,.int 2,.int 4,.int 8,.int 16,.int 32,.int 64,.int 128]:List PV).length<=1000000:=by decide
 generalize hP:[PV.int 1,.int 2,.int 4,.int 8,.int 16,.int 32,.int 64,.int 128]=P at *
 unfold txT
 rw[← hb]
 by_cases e1:c / p % 2=1
 ·by_cases e2:(k:Int)=1
  ·by_cases e3:c % 2=1
   ·simp[turn,dq,hP,hP6,hp,hx,h0,h1,e1,e2,e3,hl,clr] <;> simp_all
   ·simp[turn,dq,hP,hP6,hp,hx,h0,h1,e1,e2,e3,hl,clr] <;> simp_all
  ·simp[turn,dq,hP,hP6,hp,hx,h0,h1,e1,e2,hl,clr] <;> simp_all
 ·simp[turn,dq,hP,hP6,hp,hx,h0,h1,e1,hl,clr] <;> simp_all
theorem Eb (c:Int):gH [.int c]=some (.lst ((nM (bits c) (jZ c)).map .str)):=by
 have l0:bw (gN 3) [3] dq [.int (0:Nat),.int (1:Nat),.int (2:Nat),.int (3:Nat),.int (4:Nat),.int (5:Nat),.int (6:Nat),.int (7:Nat)] [some (.int c),some (.lst (s8.map .str)),some (.lst (([("carry a e i" : Str)]:List Str).map .str)),none]=
   some (.nx [some (.int c),some (.lst (s8.map .str)),some (.lst ((oE (bits c)).map .str)),none]):=by
  have tl:∀ k x,(txT (bits c) k x).length<=1:=λk x=>by unfold txT;split <;> simp
  have g:∀ {A:List Str}{n:Nat}(k:Nat) (x:Str),A.length<=n->(A++txT (bits c) k x).length<=n+1:=λk x h=>by rw[List.length_append];have:=tl k x;omega
  have a0:([("carry a e i" : Str)]:List Str).length<=1:=by simp
  have a1:=g 0 "one ae ai" a0
  have a2:=g 1 "long ae" a1
  have a3:=g 2 "long e" a2
  have a4:=g 3 "either a" a3
  have a5:=g 4 "either i" a4
  have a6:=g 5 "begin tr pr spr" a5
  have a7:=g 6 "split tr" a6
  rw[b_ (jq (k:=0) (p:=1) (x := "one ae ai") (l:=bits c) (by omega) (by simp) (by simp) (by decide) (by decide) (by simp[bits]))]
  rw[b_ (jq (k:=1) (p:=2) (x := "long ae") (l:=bits c) (Nat.le_trans a1 (by decide)) (by simp) (by simp) (by decide) (by decide) (by simp[bits]))]
  rw[b_ (jq (k:=2) (p:=4) (x := "long e") (l:=bits c) (Nat.le_trans a2 (by decide)) (by simp) (by simp) (by decide) (by decide) (by simp[bits]))]
  rw[b_ (jq (k:=3) (p:=8) (x := "either a") (l:=bits c) (Nat.le_trans a3 (by decide)) (by simp) (by simp) (by decide) (by decide) (by simp[bits]))]
  rw[b_ (jq (k:=4) (p:=16) (x := "either i") (l:=bits c) (Nat.le_trans a4 (by decide)) (by simp) (by simp) (by decide) (by decide) (by simp[bits]))]
  rw[b_ (jq (k:=5) (p:=32) (x := "begin tr pr spr") (l:=bits c) (Nat.le_trans a5 (by decide)) (by simp) (by simp) (by decide) (by decide) (by simp[bits]))]
  rw[b_ (jq (k:=6) (p:=64) (x := "split tr") (l:=bits c) (Nat.le_trans a6 (by decide)) (by simp) (by simp) (by decide) (by decide) (by simp[bits]))]
  rw[b_ (jq (k:=7) (p:=128) (x := "split sp pr spr") (l:=bits c) (Nat.le_trans a7 (by decide)) (by simp) (by simp) (by decide) (by decide) (by simp[bits]))]
  rfl
 have hrun:atI [PV.str "never",.str "may",.str "must",.str "may"] (c / 256 % 4)=some (.str (jZ c)):=rM (l:=["never", "may", "must", "may"]) (by omega) (by show c / 256 % 4 < 4;omega)
 have hr8:gn 0 8=[.int (0:Nat),.int (1:Nat),.int (2:Nat),.int (3:Nat),.int (4:Nat),.int (5:Nat),.int (6:Nat),.int (7:Nat)]:=lH 8
 have hlen:(oE (bits c)).length < 1000000:=by
  have tl:∀ k x,(txT (bits c) k x).length<=1:=λk x=>by unfold txT;split <;> simp
  unfold oE
  simp only[List.length_append,List.length_cons,List.length_nil]
  have:=tl 0 "one ae ai";have:=tl 1 "long ae";have:=tl 2 "long e";have:=tl 3 "either a";have:=tl 4 "either i";have:=tl 5 "begin tr pr spr";have:=tl 6 "split tr";have:=tl 7 "split sp pr spr"
  omega
 have hrl:(jZ c).length<=10:=by
  have h:=zU c
  simp only[mQ,List.mem_cons,List.not_mem_nil,or_false] at h
  rcases h with h | h | h <;> rw[h] <;> decide +kernel
 have e:nM (bits c) (jZ c)=(oE (bits c))++[("run " : Str)++jZ c]:=rfl
 rw[e]
 generalize (oE (bits c))=A,jZ c=r at *
 simp only[List.map_cons,List.map_nil] at l0
 have hg:rgI 8=true:=qX (k:=8) (by decide)
 generalize hx0:gn 0 8=X0 at *
 rw[← hr8] at l0
 have h6:X0.length<=1000000:=by rw[hr8];decide
 have hq:(Str.ofString "run ").length+r.length<=1000000:=by
  have:(Str.ofString "run ").length=4:=by decide +kernel
  omega
 simp[gH,qP,hx0,hg,h6,l0,hrun,hlen,hq]
theorem GJ (l:List Bool) (r:Str):(R10 l r).Good:=by
 refine⟨λw h=>?_,λw h=>?_⟩
 ·simp only[R10,List.mem_cons,List.not_mem_nil,or_false] at h
  rcases h with rfl | rfl | rfl
  ·exact⟨97,by decide +kernel⟩
  ·exact⟨101,by decide +kernel⟩
  ·exact⟨105,by decide +kernel⟩
 ·have:w∈(["ae", "ai"]:List Str):=by
   simp only[R10,wsT] at h
   split at h
   ·exact h
   ·cases h
  simp only[List.mem_cons,List.not_mem_nil,or_false] at this
  have ha:("a" : Str)∈(R10 l r).carriers:=by simp[R10]
  have he:("e" : Str)∈(R10 l r).carriers:=by simp[R10]
  have hi:("i" : Str)∈(R10 l r).carriers:=by simp[R10]
  rcases this with rfl | rfl
  ·exact⟨_,ha,_,he,by decide +kernel⟩
  ·exact⟨_,ha,_,hi,by decide +kernel⟩
structure Tels (R:Rc) (cut:List (List Str)):Prop where
 g:R.Good
 hc:∀ y,y∈aO cut↔y∈R.carriers
 hp:∀ y,y∈pairsOf cut↔y∈R.pairs
 hb:∀ y,y∈tell ("begin" : Str) cut↔y∈R.begins
 hs:∀ y,y∈tell ("split" : Str) cut↔y∈R.splits
 hl:∀ y,y∈tell ("long" : Str) cut↔y∈R.longs
 he:∀ y,y∈tell ("either" : Str) cut↔y∈R.eithers
 hr:iH cut=runOf R
theorem Ls (c:Int):b7 [.lst ((nM (bits c) (jZ c)).map .str)]=some (aq (ig (bits c) (jZ c)))/\Tels (R10 (bits c) (jZ c)) (ig (bits c) (jZ c)):=by
 have hr:=zU c
 have hk:=Jk hr (l:=bits c) rfl
 have h10:((bits c).getD 1 false&&!(bits c).getD 0 false)=false:=by
  simp only[bits,List.getD_cons_succ,List.getD_cons_zero,Int.ediv_one]
  cases decide (c / 2 % 2=1) <;> cases decide (c % 2=1) <;> rfl
 generalize jZ c=r,bits c=l at *
 unfold uB at hk
 rw[h10,Bool.false_or] at hk
 simp only[Bool.and_eq_true,decide_eq_true_eq,List.all_eq_true] at hk
 obtain⟨⟨⟨⟨⟨⟨⟨⟨⟨k1,k2⟩,k3⟩,k4⟩,k5⟩,k6⟩,k7⟩,k8⟩,k9⟩,kA⟩:=hk
 have hcr:=GF (l:=l) hr
 refine⟨?_,⟨GJ l r,λy=>by rw[k1],λy=>by rw[k2],λy=>by rw[k5],λy=>by rw[k6],λy=>by rw[k3],λy=>by rw[k4],?_⟩⟩
 ·have hz:∀ z∈nM l r,z.length<=1000:=λz hz=>by
   have tl:∀ {k:Nat}{x:Str},x.length<=1000->∀ z∈txT l k x,z.length<=1000:=λ{k x} hx z hz=>by
    unfold txT at hz
    split at hz
    ·rw[List.mem_singleton.mp hz];exact hx
    ·cases hz
   unfold nM oE at hz
   simp only[List.mem_append] at hz
   rcases hz with (((((((((z1 | z1) | z1) | z1) | z1) | z1) | z1) | z1) | z1) | z1)
   ·rw[List.mem_singleton.mp z1];decide +kernel
   ·exact tl (by decide +kernel) z z1
   ·exact tl (by decide +kernel) z z1
   ·exact tl (by decide +kernel) z z1
   ·exact tl (by decide +kernel) z z1
   ·exact tl (by decide +kernel) z z1
   ·exact tl (by decide +kernel) z z1
   ·exact tl (by decide +kernel) z z1
   ·exact tl (by decide +kernel) z z1
   ·rw[List.mem_singleton.mp z1]
    simp only[mQ,List.mem_cons,List.not_mem_nil,or_false] at hr
    rcases hr with rfl | rfl | rfl <;> decide +kernel
  have:=Jc hz (by
   rw[hcr]
   exact⟨k9,λws h=>⟨(k8 ws h).1.1.2,(k8 ws h).1.2,λx hx=>(k8 ws h).2 x hx⟩,kA,λws h=>by rw[k1,k2];exact(k8 ws h).1.1.1⟩)
  rw[this,hcr]
 ·rw[k7]
  unfold runOf
  rw[if_neg]
  ·rfl
  ·show ¬ r=_
   simp only[mQ,List.mem_cons,List.not_mem_nil,or_false] at hr
   rcases hr with rfl | rfl | rfl <;> decide +kernel
end My
namespace My
open PySem L2 MR
theorem lO {α S:Type}{g:PV->MR.Env->Option MR.Env}{ds:List Nat}{body:MR.Env->Option Out}(c:α->PV) (E:S->MR.Env) (I:List α->S->Prop) (hh:∀ y ys s,I (y::ys) s->∃ s',I ys s'/\turn g ds body (c y) (E s)=some (E s')):∀ (ys:List α) (s:S),I ys s->
  ∃ s',I [] s'/\bw g ds body (ys.map c) (E s)=some (.nx (E s'))
 | [],s,i=>⟨s,i,rfl⟩
 | y::ys,s,i=>by
  obtain⟨s1,i1,h1⟩:=hh y ys s i
  obtain⟨s2,i2,h2⟩:=lO c E I hh ys s1 i1
  exact⟨s2,i2,by rw[List.map_cons,b_ h1,h2]⟩
theorem mq:∀ ws:List Str,strsP (ws.map PV.str)=some ws
 | []=>rfl
 | w::ws=>by simp[strsP,mq ws]
theorem pW {sep:Str}{ts:List Str}(hs:sep.length<=1) (h:∀ y∈ts,y.length<=3000) (hn:ts.length<=100):JoinOk sep ts=true:=by
 unfold JoinOk
 have h1:ts.length*sep.length<=100*1:=Nat.mul_le_mul hn hs
 have:=StrLaws.joinFits (sep:=sep) (texts:=ts) (B:=3000) h (by omega)
 rw[this]
 rfl
theorem mem_join {sep:Str}{c:Nat}:∀ {ts:List Str},c∈(Str.join sep ts).cps.toList->c∈sep.cps.toList\/∃ t∈ts,c∈t.cps.toList
 | [],h=>by cases h
 | [t],h=>.inr ⟨t,by simp,h⟩
 | t::y::r,h=>by
  have e:(Str.join sep (t::y::r)).cps.toList=t.cps.toList++sep.cps.toList++(Str.join sep (y::r)).cps.toList:=by
   show (t.cps++sep.cps++(Str.join sep (y::r)).cps).toList=_
   simp
  rw[e] at h
  rcases List.mem_append.mp h with h | h
  ·rcases List.mem_append.mp h with h | h
   ·exact .inr ⟨t,by simp,h⟩
   ·exact .inl h
  ·rcases mem_join h with h | ⟨x,hx,h⟩
   ·exact .inl h
   ·exact .inr ⟨x,List.mem_cons_of_mem _ hx,h⟩
theorem rP:(Str.ofString "").length=0:=by decide +kernel
theorem wg:∀ (ts:List Str),(∀ t∈ts,t.length<=3)->(Str.join (Str.ofString "") ts).length<=3*ts.length
 | [],_=>by decide +kernel
 | [t],h=>by simpa [Str.join] using h t (by simp)
 | t::y::r,h=>by
  have ih:=wg (y::r) λz hz=>h z (List.mem_cons_of_mem _ hz)
  have h1:=h t (by simp)
  show (t++(Str.ofString "")++Str.join (Str.ofString "") (y::r)).length<=_
  rw[bH,bH,rP]
  simp only[List.length_cons] at ih ⊢
  omega
abbrev s9:List Str:=["a", "e", "i", "p", "t", "r", "s", "spr", "tr"]
theorem Nu:∀ x∈s9,(∀ c∈x.cps.toList,97<=c/\c < 123)/\x.length<=3:=by decide +kernel
theorem Lw:∀ x∈(["", "a", "p", "e"]:List Str),(∀ c∈x.cps.toList,97<=c/\c < 123)/\x.length<=1:=by decide +kernel
theorem Lx:∀ x∈(["", "a", "i", "s"]:List Str),(∀ c∈x.cps.toList,97<=c/\c < 123)/\x.length<=1:=by decide +kernel
def aei (s:Nat):Bool:=!(Builtin.Str.occurrences (Str.ofString "aei") ⟨#[s]⟩ 0 (Str.ofString "aei").length 1).isEmpty
theorem Jl:∀ k:Fin 26,aei (97+k.val)=true->(⟨#[97+k.val]⟩:Str)∈(["a", "e", "i"]:List Str):=by decide +kernel
theorem Ly {s:Nat}(h0:97<=s) (h1:s < 123) (h:aei s=true):(⟨#[s]⟩:Str)∈(["a", "e", "i"]:List Str):=by
 have:=Jl ⟨s - 97,by omega⟩
 have e:97+(s - 97)=s:=by omega
 simp only[e] at this
 exact this h
theorem Nv:∃ s∈(Str.ofString "a").cps.toList,(⟨#[s]⟩:Str)∈(["a", "e", "i"]:List Str):=⟨97,by decide +kernel,by decide +kernel⟩
structure Wd10 (w:Str):Prop where
 t:LowT w
 l:w.length<=24
 c:∃ s∈w.cps.toList,(⟨#[s]⟩:Str)∈(["a", "e", "i"]:List Str)
theorem Wd10.r {w:Str}(h:Wd10 w) (l:List Bool) (r:Str):WordR (R10 l r) w:=⟨h.t,h.l,h.c⟩
theorem int_at {cs:List Int}{k:Nat}(h:k < cs.length):atI (cs.map PV.int) (k:Int)=some (.int (cs.getD k 0)):=by
 refine bQ ?_
 rw[List.getElem?_map,List.getElem?_eq_getElem h,List.getD_eq_getElem?_getD,List.getElem?_eq_getElem h]
 rfl
theorem Ec {cs:List Int}{k:Nat}(hk:5*k+4 < cs.length) (hl:cs.length<=1000){ws:List Str}(hw:ws.length<=100):∃ w,Wd10 w /\
  turn (gN 2) [2,3,4,5] fW (.int k) [some (.lst (cs.map .int)),some (.lst (ws.map .str)),none,none,none,none]=some [some (.lst (cs.map .int)),some (.lst ((ws++[w]).map .str)),none,none,none,none]:=by
 obtain⟨n,hn⟩:∃ n:Nat,(if cs.getD (5*k) 0 < 0 then -(cs.getD (5*k) 0) else cs.getD (5*k) 0)=(n:Int):=⟨(cs.getD (5*k) 0).natAbs,by split <;> omega⟩
 obtain⟨t,ht,ht4⟩:∃ t:Nat,1+(n:Int) % 4=(t:Int)/\t<=4:=⟨1+n % 4,by omega,by omega⟩
 have a0:atI (cs.map PV.int) (5*(k:Int))=some (.int (cs.getD (5*k) 0)):=by
  have:=int_at (cs:=cs) (k:=5*k) (by omega)
  rw[← this];congr 1
 have hc:bJ [none,some (.lst (s9.map .str)),some (.lst (cs.map .int)),some (.int k)] (gN 0) bA iT (gn 0 t)=some (((List.range t).map λj=>pick s9 (cs.getD (5*k+j) 0 % 9)).map .str):=by
  rw[lH]
  have:=cz (env:=[none,some (.lst (s9.map .str)),some (.lst (cs.map .int)),some (.int k)]) (g:=gN 0) (f:=iT) (λj:Nat=>PV.int (j:Nat)) (λj=>.str (pick s9 (cs.getD (5*k+j) 0 % 9))) (List.range t) λj hj=>⟨_,rfl,by
   have hj':j < t:=List.mem_range.mp hj
   have b0:atI (cs.map PV.int) (5*(k:Int)+(j:Int))=some (.int (cs.getD (5*k+j) 0)):=by
    have:=int_at (cs:=cs) (k:=5*k+j) (by omega)
    rw[← this];congr 1
   have b1:atI (s9.map PV.str) (cs.getD (5*k+j) 0 % 9)=some (.str (pick s9 (cs.getD (5*k+j) 0 % 9))):=rM (by omega) (by show _ < (9:Int);omega)
   have b2:smI (k:Int)=true:=qC (by omega) (by omega)
   have b3:smI 5=true:=qC (by decide) (by decide)
   generalize cs.map PV.int=C,s9.map PV.str=S,pick s9 (cs.getD (5*k+j) 0 % 9)=P,cs.getD (5*k+j) 0=v at *
   simp[iT,b0,b1,b2,b3]⟩
  rw[this,List.map_map]
  rfl
 have hp:∀ y∈(List.range t).map (λj=>pick s9 (cs.getD (5*k+j) 0 % 9)),(∀ c∈y.cps.toList,97<=c/\c < 123)/\y.length<=3:=λy hy=>by
  obtain⟨j,hj,rfl⟩:=List.mem_map.mp hy
  exact Nu _ (pP (by omega) (by show _ < (9:Int);omega))
 have hpl:((List.range t).map (λj=>pick s9 (cs.getD (5*k+j) 0 % 9))).length=t:=by simp
 generalize (List.range t).map (λj=>pick s9 (cs.getD (5*k+j) 0 % 9))=ps at *
 have hj:JoinOk (Str.ofString "") ps=true:=pW (by rw[rP];decide) (λy hy=>by have:=(hp y hy).2;omega) (by omega)
 have q1:atI (([("" : Str), "a", "p", "e"]:List Str).map PV.str) ((n:Int) / 4 % 4)=some (.str (pick ["", "a", "p", "e"] ((n:Int) / 4 % 4))):=rM (by omega) (by show _ < (4:Int);omega)
 have q2:atI (([("" : Str), "a", "i", "s"]:List Str).map PV.str) ((n:Int) / 16 % 4)=some (.str (pick ["", "a", "i", "s"] ((n:Int) / 16 % 4))):=rM (by omega) (by show _ < (4:Int);omega)
 have p1:=Lw (pick ["", "a", "p", "e"] ((n:Int) / 4 % 4)) (pP (by omega) (by show _ < (4:Int);omega))
 have p2:=Lx (pick ["", "a", "i", "s"] ((n:Int) / 16 % 4)) (pP (by omega) (by show _ < (4:Int);omega))
 generalize pick ["", "a", "p", "e"] ((n:Int) / 4 % 4)=x1,pick ["", "a", "i", "s"] ((n:Int) / 16 % 4)=x2 at *
 have hjl:=wg ps λy hy=>(hp y hy).2
 have hjt:LowT (Str.join (Str.ofString "") ps):=λc hc=>by
  rcases mem_join hc with h | ⟨y,hy,h⟩
  ·have:(Str.ofString "").cps.toList=[]:=by decide +kernel
   rw[this] at h;cases h
  ·exact(hp y hy).1 c h
 generalize hJ:Str.join (Str.ofString "") ps=J at *
 have hwt:LowT (x1++J++x2):=(LowT.app (LowT.app p1.1 hjt) p2.1)
 have hwl:(x1++J++x2).length<=14:=by rw[bH,bH];have:=p1.2;have:=p2.2;omega
 have hl1:x1.length+J.length<=1000000:=by have:=p1.2;omega
 have hl2:(x1++J).length+x2.length<=1000000:=by rw[bH];have:=p1.2;have:=p2.2;omega
 have hf:bJ [none] (gN 0) iW iU (chV (x1++J++x2))=some (((x1++J++x2).cps.toList.filter aei).map λs=>.str ⟨#[s]⟩):=by
  rw[rH]
  exact jl (env:=[none]) (g:=gN 0) (t:=iW) (f:=iU) (λs:Nat=>PV.str ⟨#[s]⟩) (λs=>PV.str ⟨#[s]⟩) aei _ λs hs=>⟨_,rfl,by simp[iW,inP,aei],λ_=>by simp[iU]⟩
 have hfl:(chV (x1++J++x2)).length<=1000000:=by
  unfold chV
  rw[List.length_map]
  have:(x1++J++x2).cps.toList.length=(x1++J++x2).length:=Array.length_toList
  omega
 have hs0:strsP (ps.map PV.str)=some ps:=mq ps
 have hws:ws.length < 1000000:=by omega
 have e5:smI 5=true:=qC (by decide) (by decide)
 have ek:smI (k:Int)=true:=qC (by omega) (by omega)
 have egt:rgI (t:Int)=true:=qX (by omega)
 have erl:(gn 0 (t:Int)).length<=1000000:=by rw[tG];omega
 have al:(Str.ofString "a").length=1:=by decide +kernel
 have hl6:(x1++J++x2).length<=1000000:=by omega
 have hl7:(x1++J++x2).length+(Str.ofString "a").length<=1000000:=by omega
 have hS6:(s9.map PV.str).length<=1000000:=by decide
 by_cases hz:(x1++J++x2).cps.toList.filter aei=[]
 ·refine⟨x1++J++x2++("a" : Str),⟨hwt.app ?_,by rw[bH];omega,?_⟩,?_⟩
  ·intro c hc
   have h97:(Str.ofString "a").cps.toList=[97]:=by decide +kernel
   rw[h97] at hc
   simp at hc
   omega
  ·obtain⟨s,h1,h2⟩:=Nv
   exact⟨s,by rw[vW];exact List.mem_append_right _ h1,h2⟩
  ·rw[hz] at hf
   generalize hW:x1++J++x2=W,cs.map PV.int=C,cs.getD (5*k) 0=v,hS:s9.map PV.str=S at *
   simp only[List.map_cons,List.map_nil] at q1 q2 hS
   simp[turn,fW,a0,e5,ek,hn,hS,hS6,ht,egt,erl,hc,hs0,hj,hJ,q1,q2,hl1,hl2,hW,hf,hfl,hws,hl7,clr]
 ·refine⟨x1++J++x2,⟨hwt,by omega,?_⟩,?_⟩
  ·obtain⟨s,hs⟩:=List.exists_mem_of_ne_nil _ hz
   obtain⟨h1,h2⟩:=List.mem_filter.mp hs
   exact⟨s,h1,Ly (hwt s h1).1 (hwt s h1).2 h2⟩
  ·have hz0:¬ (((((x1++J++x2).cps.toList.filter aei).map λs=>PV.str ⟨#[s]⟩).length:Nat):Int)=0:=λe=>hz (by
    have e':(((x1++J++x2).cps.toList.filter aei).map λs=>PV.str ⟨#[s]⟩).length=0:=by omega
    rw[List.length_map] at e'
    exact List.length_eq_zero_iff.mp e')
   obtain⟨F,hF⟩:∃ F:List PV,F=((x1++J++x2).cps.toList.filter aei).map (λs=>PV.str ⟨#[s]⟩):=⟨_,rfl⟩
   rw[← hF] at hf hz0
   clear hF
   generalize hW:x1++J++x2=W,cs.map PV.int=C,cs.getD (5*k) 0=v,hS:s9.map PV.str=S at *
   simp only[List.map_cons,List.map_nil] at q1 q2 hS
   have hz1:¬ F=[]:=λe=>hz0 (by rw[e];rfl)
   simp[turn,fW,a0,e5,ek,hn,hS,hS6,ht,egt,erl,hc,hs0,hj,hJ,q1,q2,hl1,hl2,hW,hf,hfl,hws,hz0,hz1,clr]
theorem GK {cs:List Int}(hl:cs.length<=60):∃ ws:List Str,fL [.lst (cs.map .int)]=some (.lst (ws.map .str))/\ws.length<=12/\∀ w∈ws,Wd10 w:=by
 obtain⟨ws,⟨i1,i2,_⟩,h⟩:=lO (g:=gN 2) (ds:=[2,3,4,5]) (body:=fW) (λj:Nat=>PV.int (j:Nat)) (λws:List Str=>[some (.lst (cs.map .int)),some (.lst (ws.map .str)),none,none,none,none])
  (λr ws=>ws.length+r.length<=12/\(∀ w∈ws,Wd10 w)/\∀ j∈r,5*j+4 < cs.length)
  (by
   rintro j r ws ⟨i1,i2,i3⟩
   simp only[List.length_cons] at i1
   obtain⟨w,hw,ht⟩:=Ec (cs:=cs) (k:=j) (i3 j List.mem_cons_self) (by omega) (ws:=ws) (by omega)
   refine⟨ws++[w],⟨by simp;omega,λx hx=>?_,λz hz=>i3 z (List.mem_cons_of_mem _ hz)⟩,ht⟩
   rcases List.mem_append.mp hx with h | h
   ·exact i2 x h
   ·rw[List.mem_singleton.mp h];exact hw)
  (List.range (cs.length / 5)) [] ⟨by simp;omega,by simp,λj hj=>by have:=List.mem_range.mp hj;omega⟩
 rw[← lH] at h
 refine⟨ws,?_,by simpa using i1,i2⟩
 have e1:(cs.length:Int) / 5=((cs.length / 5:Nat):Int):=by omega
 have e2:rgI ((cs.length / 5:Nat):Int)=true:=qX (by omega)
 have e3:(gn 0 ((cs.length / 5:Nat):Int)).length<=1000000:=by rw[tG];omega
 generalize hn:cs.length / 5=n at *
 have hm:(cs.map PV.int).length=cs.length:=by simp
 generalize cs.map PV.int=C,hx0:gn 0 (n:Int)=X0 at *
 simp only[List.map_nil] at h
 have h0:(C.length:Int) / 5=(n:Int):=by rw[hm];exact e1
 simp[fL,p8,h0,e2,hx0,e3,h]
end My
namespace My
open PySem L2 MR
section
variable {R:Rc}{cut:List (List Str)}(T:Tels R cut)
include T
theorem Jm {w:Str}(W:WordR R w):∃ i rl,bx [.obj 0 (aq cut),.str w]=some (.lst ((i++[rl]).map aL))/\rl.2.2.2=false/\i.length<=23/\∀ r∈i++[rl],r.1.length<=24/\r.2.1.length<=24/\r.2.2.1.length<=24:=by
 have hsy:=Lq T.g T.hc T.hp T.hb T.hs W
 have hfl:flat (un R w 24 0)=w.cps.toList:=by
  have:=rN T.g (w:=w) 24 0 (by have:=W.l;omega) (by omega)
  rw[List.drop_zero] at this
  exact this
 have hsf:=qY R (un R w 24 0)
 have hsc:=pR R (un R w 24 0)
 have hwl:w.cps.toList.length=w.length:=Array.length_toList
 have hW:=W.l
 have hne:(bT R (un R w 24 0)).2≠[]:=by
  obtain⟨u,hu1,hu2⟩:=yC T.g W
  intro z
  rw[z] at hsc
  have hm:u∈(un R w 24 0).filter (dN R):=List.mem_filter.mpr ⟨hu1,hu2⟩
  rw[← hsc] at hm
  cases hm
 have hlu:((un R w 24 0).filter (dN R)).length<=24:=by
  have gen:∀ n a,(un R w n a).length<=n:=by
   intro n
   induction n with
   | zero=>intro a;simp[un]
   | succ n ih=>
    intro a
    unfold un
    split
    ·simp;exact ih _
    ·simp
  exact Nat.le_trans (List.length_filter_le _ _) (gen 24 0)
 generalize hlq:(bT R (un R w 24 0)).2=l,hgq:(bT R (un R w 24 0)).1=g0 at *
 have hcodes:=yE R l g0 hne
 rw[hsf,hfl] at hcodes
 have hslen:=Jh R l g0
 obtain⟨i,rl,hlast,hlf⟩:=yF R l g0 hne
 have hlc:l.length<=24:=by
  have:=congrArg List.length hsc
  rw[List.length_map] at this
  omega
 rw[hlast] at hsy hcodes hslen
 refine⟨i,rl,hsy,hlf,by rw[List.length_append] at hslen;simp at hslen;omega,λr hr=>?_⟩
 have h3:r.2.2.1.cps.toList.length=r.2.2.1.length:=Array.length_toList
 have h3a:r.1.cps.toList.length=r.1.length:=Array.length_toList
 have h3b:r.2.1.cps.toList.length=r.2.1.length:=Array.length_toList
 have h4:(pU r).length<=(((i++[rl]).map pU).flatten).length:=by
  obtain⟨a,b,e⟩:=List.append_of_mem (List.mem_map.mpr ⟨r,hr,rfl⟩:pU r∈(i++[rl]).map pU)
  rw[e,List.flatten_append,List.flatten_cons]
  simp
  omega
 rw[hcodes,hwl] at h4
 unfold pU at h4
 simp only[List.length_append] at h4
 refine⟨?_,?_,?_⟩ <;> omega
end
abbrev spO:Opt:=some (true,true)
def OOk (o:List Opt):Prop:=o≠[]/\o.length<=4
theorem Jo (R:Rc) (c:Str):tL R c≠[]/\(tL R c).length<=2/\spO∉tL R c:=by
 unfold tL
 split
 ·simp
 ·split <;> simp
theorem pq (R:Rc) (c t:Str) (sp:Bool):jf R c t sp≠[]/\(jf R c t sp).length<=3/\(sp=false->spO∉jf R c t sp):=by
 obtain⟨h1,h2,h3⟩:=Jo R c
 unfold jf
 split
 ·refine⟨by simp[h1],?_,λe=>?_⟩
  ·rw[List.length_append]
   cases sp <;> simp <;> omega
  ·subst e
   simpa using h3
 ·simp
theorem zV (R:Rc) (c t:Str):jg R c t≠[]/\(jg R c t).length<=4/\spO∉jg R c t:=by
 unfold jg
 split
 ·split
  ·simp
  ·obtain⟨h1,h2,h3⟩:=pq R c t false
   split
   ·refine⟨by simp[h1],by simp;omega,by simpa using h3 rfl⟩
   ·refine⟨by simp[h1],by simp;omega,by simpa using h3 rfl⟩
 ·obtain⟨h1,h2,h3⟩:=pq R c (cQ t none (some (-1))) false
  exact⟨h1,by omega,h3 rfl⟩
structure WDat where
 w:Str
 rows:List Row
 os:List (List Opt)
structure WD (cut:List (List Str)) (f:PV) (d:WDat):Prop where
 syl:bx [.obj 0 (aq cut),.str d.w]=some (.lst (d.rows.map aL))
 opt:bO [.obj 0 (aq cut),.str d.w,f]=some (.lst (d.os.map oLV))
 len:d.os.length=d.rows.length
 l24:d.rows.length<=24
 o4:∀ o∈d.os,OOk o
 last:∀ o,d.os.getLast?=some o->spO∉o
 rb:∀ r∈d.rows,r.1.length<=24/\r.2.1.length<=24/\r.2.2.1.length<=24
def yG:Option Str->PV
 | none=>.non
 | some w=>.str w
theorem Ny {R:Rc}{cut:List (List Str)}(T:Tels R cut){w:Str}(W:WordR R w) (f:Option Str) (hf:∀ w2,f=some w2->WordR R w2):∃ d:WDat,d.w=w/\WD cut (yG f) d:=by
 obtain⟨i,rl,h1,h2,h3,h4⟩:=Jm T W
 have wl:∀ r:Row,cW R r≠[]/\(cW R r).length<=4:=λr=>by
  obtain⟨a,b,_⟩:=pq R r.2.1 r.2.2.1 r.2.2.2
  exact⟨a,by unfold cW;omega⟩
 cases f with
 | none=>
  refine⟨⟨w,i++[rl],(i++[rl]).map (cW R)⟩,rfl,⟨h1,Gy T.hl T.he h1 (by simp;omega),by simp,by simp;omega,λo ho=>?_,λo ho=>?_,h4⟩⟩
  ·obtain⟨r,_,rfl⟩:=List.mem_map.mp ho
   exact wl r
  ·simp at ho
   subst ho
   exact(pq R rl.2.1 rl.2.2.1 rl.2.2.2).2.2 h2
 | some w2=>
  refine⟨⟨w,i++[rl],i.map (cW R)++[if dN R w2=true then jg R rl.2.1 rl.2.2.1 else cW R rl]⟩,rfl,⟨h1,Gz T.g T.hc T.hl T.he T.hr h1 (by omega) (by have:=(h4 rl (by simp)).2.2;omega) (hf w2 rfl),by simp,by simp;omega,λo ho=>?_,λo ho=>?_,h4⟩⟩
  ·rcases List.mem_append.mp ho with h | h
   ·obtain⟨r,_,rfl⟩:=List.mem_map.mp h
    exact wl r
   ·rw[List.mem_singleton.mp h]
    obtain⟨a,b,_⟩:=zV R rl.2.1 rl.2.2.1
    split
    ·exact⟨a,b⟩
    ·exact wl rl
  ·simp at ho
   subst ho
   split
   ·exact(zV R rl.2.1 rl.2.2.1).2.2
   ·exact(pq R rl.2.1 rl.2.2.1 rl.2.2.2).2.2 h2
def Chn (cut:List (List Str)):List WDat->Prop
 | []=>True
 | d::ds=>WD cut (yG (ds.head?.map (·.w))) d/\Chn cut ds
theorem Ed {R:Rc}{cut:List (List Str)}(T:Tels R cut):∀ ws:List Str,(∀ w∈ws,WordR R w)->∃ ds:List WDat,ds.map (·.w)=ws/\Chn cut ds
 | [],_=>⟨[],rfl,trivial⟩
 | w::ws,h=>by
  obtain⟨ds,e,hc⟩:=Ed T ws λx hx=>h x (List.mem_cons_of_mem _ hx)
  obtain⟨d,e1,h1⟩:=Ny T (h w List.mem_cons_self) (ds.head?.map (·.w)) λw2 e2=>h w2 (by
   rw[← e]
   cases ds with
   | nil=>cases e2
   | cons d2 r=>cases e2;simp)
  exact⟨d::ds,by rw[List.map_cons,e1,e],h1,hc⟩
theorem Ef {cut:List (List Str)}:∀ {ds:List WDat},Chn cut ds->∀ {k:Nat}{d:WDat},ds[k]?=some d->WD cut (yG (ds[k+1]?.map (·.w))) d
 | d0::ds,h,0,d,e=>by
  cases e
  have:=h.1
  cases ds <;> exact this
 | d0::ds,h,k+1,d,e=>by
  have:=Ef (ds:=ds) h.2 (k:=k) (d:=d) e
  exact this
def cL (ds:List WDat):List PV:=ds.map λd=>.lst (d.os.map oLV)
theorem yH {cut:List (List Str)}:∀ {ds:List WDat},Chn cut ds->bJ [none,none,some (.obj 0 (aq cut))] (gT [0,1]) bA iu (dI ((ds.map (·.w)).map .str) (((ds.map (·.w)).tail.map .str)++[.non]))=some (cL ds)
 | [],_=>rfl
 | [d],h=>by
  have h1:bO [.obj 0 (aq cut),.str d.w,.non]=_:=h.1.opt
  simp[dI,bJ,iu,h1,cL]
 | d::d2::ds,h=>by
  have h1:bO [.obj 0 (aq cut),.str d.w,.str d2.w]=_:=h.1.opt
  have ih:=yH (ds:=d2::ds) h.2
  simp only[List.map_cons,List.tail_cons] at ih ⊢
  have e:dI (.str d.w::.str d2.w::(ds.map (·.w)).map .str) ((.str d2.w::(ds.map (·.w)).map .str)++[.non])=.tup [.str d.w,.str d2.w]::dI (.str d2.w::(ds.map (·.w)).map .str) ((ds.map (·.w)).map .str++[.non]):=rfl
  rw[e]
  generalize dI (.str d2.w::(ds.map (·.w)).map .str) ((ds.map (·.w)).map .str++[.non])=Z at *
  have hce:iu [some (.str d.w),some (.str d2.w),some (.obj 0 (aq cut))]=some (.lst (d.os.map oLV)):=by simp[iu,h1]
  simp[bJ,hce,ih]
  rfl
theorem yI {cut:List (List Str)}{ds:List WDat}(h:Chn cut ds) (hl:ds.length<=100):dG [.obj 0 (aq cut),.lst ((ds.map (·.w)).map .str)]=some (.lst (cL ds)):=by
 have hc:=yH h
 have h1:gW ((ds.map (·.w)).map PV.str) (some 1) none=(ds.map (·.w)).tail.map .str:=by
  cases ds with
  | nil=>rfl
  | cons d r=>exact l_ PV.str d.w (r.map (·.w))
 have hn:((ds.map (·.w)).map PV.str).length<=100:=by simpa using hl
 have hn2:((ds.map (·.w)).tail.map PV.str).length<=100:=by simp;omega
 generalize (ds.map (·.w)).map PV.str=A,(ds.map (·.w)).tail.map PV.str=B at *
 have hz:(dI A (B++[.non])).length<=1000000:=by
  unfold dI
  rw[List.length_zipWith]
  omega
 have h3:B.length+1<=1000000:=by omega
 generalize hZ:dI A (B++[.non])=Z at *
 simp[dG,sO,h1,h3,hZ,hz,hc]
theorem wj {ds:List WDat}(hl:(ds.flatMap (·.os)).length<=1000):dZ [.lst (cL ds)]=some (.lst ((ds.flatMap (·.os)).map oLV)):=by
 obtain⟨A,⟨d,h1,h2⟩,h3⟩:=lO (g:=gN 2) (ds:=[2]) (body:=k_) (λd:WDat=>PV.lst (d.os.map oLV)) (λA:List (List Opt)=>[some (.lst (cL ds)),some (.lst (A.map oLV)),none]) (λr A=>∃ d,ds=d++r/\A=d.flatMap (·.os))
  (by
   rintro w r A ⟨d,h1,h2⟩
   refine⟨A++w.os,⟨d++[w],by rw[h1];simp,by rw[h2];simp⟩,?_⟩
   have hs:A.length+w.os.length<=1000000:=by
    have:(ds.flatMap (·.os)).length=A.length+(w.os.length+(r.flatMap (·.os)).length):=by rw[h1,h2];simp[List.flatMap_append,List.flatMap_cons]
    omega
   simp[mU,k_,hs])
  ds [] ⟨[],rfl,rfl⟩
 rw[List.append_nil] at h1
 subst h1 h2
 have e:ds.map (λd:WDat=>PV.lst (d.os.map oLV))=cL ds:=rfl
 rw[e] at h3
 simp only[List.map_nil] at h3
 generalize cL ds=TB at *
 simp[dZ,p_,itV,h3]
theorem GP {ds:List WDat}(hl:(ds.flatMap (·.os)).length<=1000) (ok:∀ o∈ds.flatMap (·.os),OOk o):∃ m:Int,dX [.lst (cL ds)]=some (.int m)/\0 < m:=by
 have h1:=wj hl
 generalize cL ds=TB,ds.flatMap (·.os)=O at *
 obtain⟨a,h2,h3⟩:=lO (g:=gN 2) (ds:=[2]) (body:=jL) oLV (λa:Int=>[some (.lst TB),some (.int a),none]) (λr a=>0 < a/\∀ o∈r,OOk o)
  (by
   rintro o r a ⟨h2,h4⟩
   have ho:=h4 o List.mem_cons_self
   have hp:(0:Int) < o.length:=by have:=List.length_pos_iff.mpr ho.1;omega
   refine⟨a*o.length,⟨Int.mul_pos h2 hp,λz hz=>h4 z (List.mem_cons_of_mem _ hz)⟩,?_⟩
   have hs:smI (o.length:Int)=true:=by have:=ho.2;exact qC (by omega) (by omega)
   simp[mU,jL,oLV,hs])
  O 1 ⟨by decide,ok⟩
 exact⟨a,by simp[dX,oh,h1,itV,h3],h2.1⟩
def Sel:List Opt->List (List Opt)->Prop
 | [],[]=>True
 | s::ss,o::os=>s∈o/\Sel ss os
 | _,_=>False
theorem zW:∀ {ss:List Opt}{os:List (List Opt)},Sel ss os->ss.length=os.length
 | [],[],_=>rfl
 | _::ss,_::os,h=>by simp[zW h.2]
theorem tQ:∀ {ss:List Opt}{os:List (List Opt)}{s:Opt}{o:List Opt},Sel ss os->s∈o->Sel (ss++[s]) (os++[o])
 | [],[],_,_,_,h=>⟨h,trivial⟩
 | _::ss,_::os,_,_,h,h'=>⟨h.1,tQ h.2 h'⟩
theorem zX:∀ {ss:List Opt}{os:List (List Opt)},Sel ss os->Sel ss.reverse os.reverse
 | [],[],_=>trivial
 | _::ss,_::os,h=>by rw[List.reverse_cons,List.reverse_cons];exact tQ (zX h.2) h.1
theorem yJ:∀ {ss:List Opt}{os os':List (List Opt)},Sel ss (os++os')->Sel (ss.take os.length) os/\Sel (ss.drop os.length) os'
 | ss,[],os',h=>⟨trivial,by simpa using h⟩
 | s::ss,o::os,os',h=>by
  obtain⟨h1,h2⟩:=yJ (ss:=ss) (os:=os) (os':=os') h.2
  exact⟨⟨h.1,by simpa using h1⟩,by simpa using h2⟩
theorem Lz {o:List Opt}(h:o≠[]) (n:Int):∃ s∈o,atI (o.map aU) (n % (o.length:Int))=some (aU s):=by
 have h0:0 < o.length:=List.length_pos_iff.mpr h
 have h1:0<=n % (o.length:Int):=Int.emod_nonneg _ (by omega)
 have h2:n % (o.length:Int) < o.length:=Int.emod_lt_of_pos _ (by omega)
 have h3:(n % (o.length:Int)).toNat < o.length:=by omega
 refine⟨o[(n % (o.length:Int)).toNat],List.getElem_mem _,?_⟩
 rw[Iz,zL h1 h2,List.getElem?_eq_getElem h3]
 rfl
theorem Jp {ds:List WDat}(hl:(ds.flatMap (·.os)).length<=1000) (ok:∀ o∈ds.flatMap (·.os),OOk o) (n:Int):∃ ss:List Opt,gG [.lst (cL ds),.int n]=some (.lst (ss.map aU))/\Sel ss (ds.flatMap (·.os)):=by
 have h1:=wj hl
 generalize cL ds=TB,ds.flatMap (·.os)=O at *
 obtain⟨⟨B,m⟩,⟨d,h2,h4,h5⟩,h3⟩:=lO (g:=gN 4) (ds:=[4]) (body:=lJ) oLV (λs:List Opt×Int=>[some (.lst TB),some (.int n),some (.lst (s.1.map aU)),some (.int s.2),none]) (λr s=>∃ d,O.reverse=d++r/\Sel s.1 d/\∀ o∈r,OOk o)
  (by
   rintro o r s ⟨d,h2,h4,h5⟩
   have ho:=h5 o List.mem_cons_self
   obtain⟨x,hx,ha⟩:=Lz ho.1 s.2
   refine⟨(s.1++[x],s.2 / (o.length:Int)),⟨d++[o],by rw[h2];simp,tQ h4 hx,λz hz=>h5 z (List.mem_cons_of_mem _ hz)⟩,?_⟩
   have hp:0 < o.length:=List.length_pos_iff.mpr ho.1
   have hp2:(0:Int) < (o.length:Int)/\(o.length:Int) < 1073741824:=by have:=ho.2;omega
   have hs:s.1.length < 1000000:=by
    have:=zW h4
    have e:=congrArg List.length h2
    rw[List.length_reverse,List.length_append] at e
    omega
   simp[mU,lJ,oLV,ha,hp,hp2,hs])
  O.reverse ([],n) ⟨[],rfl,trivial,λo ho=>ok o (List.mem_reverse.mp ho)⟩
 rw[List.append_nil] at h2
 subst h2
 refine⟨B.reverse,?_,by have:=zX h4;rwa [List.reverse_reverse] at this⟩
 rw[List.map_reverse] at h3
 simp only[List.map_nil] at h3
 generalize O.map oLV=OV at *
 simp[gG,qO,h1,h3]
end My
namespace My
open PySem L2 MR
theorem GQ (o:Opt):eqP (aU o) (.tup [.int 1,.str "-"])=some (decide (o=spO)):=by
 rcases o with _ | ⟨_ | _,_ | _⟩ <;> decide +kernel
theorem GX (o:Opt):eqP (aU o) rG=some (decide (o=spO)):=by
 rcases o with _ | ⟨_ | _,_ | _⟩ <;> decide +kernel
def hdR (rs:List Row):Str:=(rs.head?.map (·.1)).getD ""
def hdS (p:Bool) (r:Row):Str:=if p=true then sfx r.1 1 else r.1
def tlS (r:Row) (o:Opt) (rs:List Row):Str:=if o=spO then r.2.2.1++pfx (hdR rs) 1 else r.2.2.1
def tx1 (p:Bool) (r:Row) (o:Opt) (rs:List Row):Str:=hdS p r++r.2.1++tlS r o rs
def mrk:Opt->Str
 | none => ""
 | some (_,b)=>if b then "-" else "u"
def shS (x:Str) (o:Opt):Str:=if o=none then ("(" : Str)++x++(")" : Str) else x++mrk o
def lets:Bool->List Row->List Opt->List Str
 | p,r::rs,o::os=>tx1 p r o rs::lets (decide (o=spO)) rs os
 | _,_,_=>[]
def cX:Bool->List Row->List Opt->List Str
 | p,r::rs,o::os=>shS (tx1 p r o rs) o::cX (decide (o=spO)) rs os
 | _,_,_=>[]
def nO:List Row->List Opt->Prop
 | _::rs,o::os=>(o=spO->rs≠[])/\nO rs os
 | [],[]=>True
 | _,_=>False
def RB (r:Row):Prop:=r.1.length<=24/\r.2.1.length<=24/\r.2.2.1.length<=24
theorem mX {p:Bool}{r:Row}(h:RB r):(hdS p r).length<=24:=by
 unfold hdS
 have:=h.1
 split
 ·rw[Je];omega
 ·omega
theorem zY {r:Row}{o:Opt}{rs:List Row}(h:RB r):(tlS r o rs).length<=25:=by
 unfold tlS
 have:=h.2.2
 split
 ·rw[bH,lM];omega
 ·omega
theorem zZ {p:Bool}{r:Row}{o:Opt}{rs:List Row}(h:RB r):(tx1 p r o rs).length<=80:=by
 unfold tx1
 rw[bH,bH]
 have:=mX (p:=p) h
 have:=zY (o:=o) (rs:=rs) h
 have:=h.2.1
 omega
theorem brl:(Str.ofString "(").length=1:=by decide +kernel
theorem brr:(Str.ofString ")").length=1:=by decide +kernel
theorem vd (o:Opt):(mrk o).length<=1:=by
 rcases o with _ | ⟨a,_ | _⟩
 ·decide +kernel
 ·exact(by decide +kernel:(Str.ofString "u").length<=1)
 ·exact(by decide +kernel:(Str.ofString "-").length<=1)
theorem Jq {x:Str}{o:Opt}(h:x.length<=80):(shS x o).length<=100:=by
 unfold shS
 split
 ·rw[bH,bH,brl,brr];omega
 ·rw[bH];have:=vd o;omega
theorem pX:∀ {p:Bool}{rs:List Row}{os:List Opt},(∀ r∈rs,RB r)->(∀ x∈cX p rs os,x.length<=100)/\(cX p rs os).length<=rs.length
 | p,r::rs,o::os,h=>by
  obtain⟨h1,h2⟩:=pX (p:=decide (o=spO)) (rs:=rs) (os:=os) λz hz=>h z (List.mem_cons_of_mem _ hz)
  refine⟨λx hx=>?_,by simp only[cX,List.length_cons];omega⟩
  simp only[cX] at hx
  rcases List.mem_cons.mp hx with rfl | hx
  ·exact Jq (zZ (h r List.mem_cons_self))
  ·exact h1 x hx
 | p,[],os,h=>by simp[cX]
 | p,_::_,[],h=>by simp[cX]
theorem Jr (x:Str):sfx x (pfx x 1).length=sfx x 1:=by
 apply mW
 rw[mj,mj,lM]
 have hl:x.cps.toList.length=x.length:=Array.length_toList
 by_cases h:1<=x.length
 ·rw[Nat.min_eq_left h]
 ·rw[List.drop_eq_nil_of_le (by omega),List.drop_eq_nil_of_le (by omega)]
theorem GZ {RW dn rs:List Row}{r:Row}{o:Opt}{p:Bool}{S:PV}{sh:List Str}(e:RW=dn++r::rs) (hs:sh.length=dn.length) (hsp:o=spO->rs≠[]) (hn:RW.length<=100) (hb:∀ x∈RW,RB x):
  turn (gT [4,5]) [4,5,6,7] eO (.tup [aL r,aU o]) [some (.lst (RW.map aL)),some S,some (.lst (sh.map .str)),some (.str (if p=true then pfx r.1 1 else "")),none,none,none,none]=
   some [some (.lst (RW.map aL)),some S,some (.lst ((sh++[shS (tx1 p r o rs) o]).map .str)),some (.str (if o=spO then pfx (hdR rs) 1 else "")),none,none,none,none]:=by
 have hr:RB r:=hb r (by rw[e];simp)
 have hrl:=hr.1
 have hol:(if p=true then pfx r.1 1 else ("" : Str)).length<=1000000:=by
  split
  ·rw[lM];omega
  ·rw[rP];decide
 have hcut:cQ r.1 (some ((if p=true then pfx r.1 1 else ("" : Str)).length:Int)) none=hdS p r:=by
  unfold hdS
  cases p with
  | true=>exact Jr r.1
  | false=>
   have e0:(if false=true then pfx r.1 1 else ("" : Str)).length=0:=rP
   rw[e0]
   exact O4 r.1
 generalize (if p=true then pfx r.1 1 else ("" : Str))=ov at *
 have a1:(hdS p r).length+r.2.1.length<=1000000:=by have:=mX (p:=p) hr;have:=hr.2.1;omega
 have a2:(hdS p r++r.2.1).length+r.2.2.1.length<=1000000:=by rw[bH];have:=mX (p:=p) hr;have:=hr.2.1;have:=hr.2.2;omega
 have a3:(hdS p r++r.2.1++r.2.2.1).length<=100:=by rw[bH,bH];have:=mX (p:=p) hr;have:=hr.2.1;have:=hr.2.2;omega
 have a4:r.1.length<=1000000:=by omega
 have hsl:sh.length < 1000000:=by have:=congrArg List.length e;rw[List.length_append] at this;omega
 have erv:aL r=.tup [.str r.1,.str r.2.1,.str r.2.2.1,.bl r.2.2.2]:=rfl
 rw[erv]
 have iE:=GQ o
 have dl:(Str.ofString "-").length=1:=by decide +kernel
 have htx:tx1 p r o rs=hdS p r++r.2.1++tlS r o rs:=rfl
 rw[htx]
 by_cases h1:o=none
 ·have htl:tlS r o rs=r.2.2.1:=by rw[h1];rfl
  have hsh:∀ x,shS x o=("(" : Str)++x++(")" : Str):=λx=>if_pos h1
  have hne:¬ o=spO:=by rw[h1];simp
  rw[hsh,htl,if_neg hne]
  have b1:(Str.ofString "(").length+(hdS p r++r.2.1++r.2.2.1).length<=1000000:=by rw[brl];omega
  have b2:(Str.ofString "(" ++ (hdS p r++r.2.1++r.2.2.1)).length+(Str.ofString ")").length<=1000000:=by rw[bH,brl,brr];omega
  have eov:aU o=.non:=by rw[h1];rfl
  rw[eov]
  generalize RW.map aL=RWV,hdS p r=HS at *
  simp[turn,eO,hol,a4,hcut,a1,a2,b1,b2,hsl,clr]
 ·have hsh:∀ x,shS x o=x++mrk o:=λx=>if_neg h1
  rw[hsh]
  by_cases h2:o=spO
  ·rw[decide_eq_true h2] at iE
   obtain⟨r2,rs2,e2⟩:∃ r2 rs2,rs=r2::rs2:=by
    cases rs with
    | nil=>exact absurd rfl (hsp h2)
    | cons a b=>exact⟨a,b,rfl⟩
   have hh:hdR rs=r2.1:=by rw[e2];rfl
   have htl:tlS r o rs=r.2.2.1++pfx r2.1 1:=by unfold tlS;rw[if_pos h2,hh]
   have hmk:mrk o=("-" : Str):=by rw[h2];rfl
   rw[htl,hmk,if_pos h2,hh]
   have hr2:RB r2:=hb r2 (by rw[e,e2];simp)
   have at1:atI (RW.map aL) (((sh.map PV.str).length:Int)+1)=some (aL r2):=by
    have:((sh.map PV.str).length:Int)+1=((dn.length+1:Nat):Int):=by rw[List.length_map,hs];rfl
    rw[this]
    refine bQ ?_
    rw[List.getElem?_map,e,e2,List.getElem?_append_right (by omega)]
    have:dn.length+1 - dn.length=1:=by omega
    rw[this]
    rfl
   have erv2:aL r2=.tup [.str r2.1,.str r2.2.1,.str r2.2.2.1,.bl r2.2.2.2]:=rfl
   rw[erv2] at at1
   have eov:aU o=.tup [.int 1,.str "-"]:=by rw[h2];rfl
   rw[eov] at iE ⊢
   have b1:r2.1.length<=1000000:=by have:=hr2.1;omega
   have b2:(hdS p r++r.2.1++r.2.2.1).length+(pfx r2.1 1).length<=1000000:=by rw[lM];omega
   have b3:(hdS p r++r.2.1++r.2.2.1++pfx r2.1 1).length+(Str.ofString "-").length<=1000000:=by rw[bH,lM,dl];omega
   have as:hdS p r++r.2.1++(r.2.2.1++pfx r2.1 1)=hdS p r++r.2.1++r.2.2.1++pfx r2.1 1:=(v6 _ _ _).symm
   rw[as]
   have hpx:cQ r2.1 none (some 1)=pfx r2.1 1:=rfl
   generalize RW.map aL=RWV,hdS p r=HS,pfx r2.1 1=PX at *
   rw[List.length_map] at at1
   simp[turn,eO,iE,hol,a4,hcut,a1,a2,at1,b1,hpx,b2,b3,hsl,clr]
  ·rw[decide_eq_false h2] at iE
   have htl:tlS r o rs=r.2.2.1:=if_neg h2
   rw[htl,if_neg h2]
   obtain⟨a,eov⟩:∃ a:Int,aU o=.tup [.int a,.str (mrk o)]:=by
    rcases o with _ | ⟨a,b⟩
    ·exact absurd rfl h1
    ·exact⟨_,rfl⟩
   rw[eov] at iE ⊢
   have b1:(hdS p r++r.2.1++r.2.2.1).length+(mrk o).length<=1000000:=by have:=vd o;omega
   generalize RW.map aL=RWV,hdS p r=HS,mrk o=MK at *
   simp[turn,eO,iE,hol,a4,hcut,a1,a2,b1,hsl,clr]
end My
namespace My
open PySem L2 MR
theorem yK {RW:List Row}{S:PV}(hn:RW.length<=100) (hb:∀ x∈RW,RB x):∀ (rs:List Row) (os:List Opt) (dn:List Row) (sh:List Str) (p:Bool) (ov:Str),RW=dn++rs->sh.length=dn.length->nO rs os->(rs≠[]->ov=if p=true then pfx (hdR rs) 1 else "")->
  ∃ ov',bw (gT [4,5]) [4,5,6,7] eO (dI (rs.map aL) (os.map aU)) [some (.lst (RW.map aL)),some S,some (.lst (sh.map .str)),some (.str ov),none,none,none,none]=some (.nx [some (.lst (RW.map aL)),some S,some (.lst ((sh++cX p rs os).map .str)),some (.str ov'),none,none,none,none])
 | [],[],dn,sh,p,ov,_,_,_,_=>⟨ov,by simp[dI,bw,cX]⟩
 | r::rs,o::os,dn,sh,p,ov,e,hs,hns,hov=>by
  have ho:=hov (by simp)
  have e0:hdR (r::rs)=r.1:=rfl
  rw[e0] at ho
  subst ho
  have ht:=GZ (p:=p) (S:=S) (o:=o) e hs hns.1 hn hb
  obtain⟨ov',ih⟩:=yK hn hb rs os (dn++[r]) (sh++[shS (tx1 p r o rs) o]) (decide (o=spO)) (if o=spO then pfx (hdR rs) 1 else "") (by rw[e];simp) (by simp[hs]) hns.2 λ_=>by simp
  refine⟨ov',?_⟩
  have ez:dI ((r::rs).map aL) ((o::os).map aU)=.tup [aL r,aU o]::dI (rs.map aL) (os.map aU):=rfl
  rw[ez,b_ ht,ih]
  simp[cX]
theorem G3:(Str.ofString ".").length=1:=by decide +kernel
theorem Br {rs:List Row}{os:List Opt}(hn:rs.length<=24) (hb:∀ x∈rs,RB x) (hns:nO rs os):jn [.lst (rs.map aL),.lst (os.map aU)]=some (.str (Str.join (Str.ofString ".") (cX false rs os))):=by
 obtain⟨ov,h⟩:=yK (S:=.lst (os.map aU)) (by omega) hb rs os [] [] false "" rfl rfl hns (λ_=>rfl)
 obtain⟨b1,b2⟩:=pX (p:=false) (os:=os) hb
 have hj:JoinOk (Str.ofString ".") (cX false rs os)=true:=pW (by rw[G3];decide) (λy hy=>by have:=b1 y hy;omega) (by omega)
 have hs:=mq (cX false rs os)
 simp only[List.map_nil,List.nil_append] at h
 generalize cX false rs os=TX,hz:dI (rs.map aL) (os.map aU)=Z,rs.map aL=A,os.map aU=B at *
 simp[jn,qQ,hz,h,hs,hj]
def hds (p:Bool):List Row->List Str
 | []=>[]
 | r::rs=>hdS p r::rs.map (·.1)
def lB:Bool->List Row->List Opt->List Str
 | p,r::rs,o::os=>hdS p r::lB (decide (o=spO)) rs os
 | _,_,_=>[]
def lC:List Row->List Opt->List Str
 | r::rs,o::os=>tlS r o rs::lC rs os
 | _,_=>[]
theorem z_ {n k:Nat}(h:k < n):ixN n (k:Int)=some k:=by
 unfold ixN
 rw[if_pos (by omega),if_pos (by omega)]
 simp
theorem Aa {A:List Str}{x:Str}{B:List Str}{k:Nat}(h:A.length=k):atI ((A++x::B).map PV.str) (k:Int)=some (.str x):=by
 refine bQ ?_
 rw[List.getElem?_map,List.getElem?_append_right (by omega),h,Nat.sub_self]
 rfl
theorem Ab {A:List Str}{x y:Str}{B:List Str}{k:Nat}(h:A.length=k):((A++x::B).map PV.str).set k (.str y)=(A++y::B).map PV.str:=by
 subst h
 rw[List.map_append,List.set_append]
 simp
theorem yL {A B:PV}{n:Nat}:∀ (rs:List Row) (os:List Opt) (p:Bool) (DH DT:List Str) (k:Nat),DH.length=k->DT.length=k->nO rs os->(∀ x∈rs,RB x)->k+rs.length<=100->
  bw (gT [4,5]) [4,5] fX (f9 k (os.map aU)) [some A,some B,some (.lst ((DH++hds p rs).map .str)),some (.lst ((DT++rs.map (·.2.2.1)).map .str)),none,none]=some (.nx [some A,some B,some (.lst ((DH++lB p rs os).map .str)),some (.lst ((DT++lC rs os).map .str)),none,none])
 | [],[],p,DH,DT,k,h1,h2,_,_,_=>by simp[f9,bw,hds,lB,lC]
 | r::rs,o::os,p,DH,DT,k,h1,h2,hns,hb,hk=>by
  have hr:RB r:=hb r List.mem_cons_self
  have ih:=yL (A:=A) (B:=B) (n:=n) rs os (decide (o=spO)) (DH++[hdS p r]) (DT++[tlS r o rs]) (k+1) (by simp[h1]) (by simp[h2]) hns.2 (λx hx=>hb x (List.mem_cons_of_mem _ hx)) (by simp only[List.length_cons] at hk;omega)
  have ht:turn (gT [4,5]) [4,5] fX (.tup [.int (k:Nat),aU o]) [some A,some B,some (.lst ((DH++hds p (r::rs)).map .str)),some (.lst ((DT++(r::rs).map (·.2.2.1)).map .str)),none,none]=
    some [some A,some B,some (.lst (((DH++[hdS p r])++hds (decide (o=spO)) rs).map .str)),some (.lst (((DT++[tlS r o rs])++rs.map (·.2.2.1)).map .str)),none,none]:=by
   have iE:=GX o
   by_cases h:o=spO
   ·rw[decide_eq_true h] at iE ⊢
    obtain⟨r2,rs2,e2⟩:∃ r2 rs2,rs=r2::rs2:=by
     cases rs with
     | nil=>exact absurd rfl (hns.1 h)
     | cons a b=>exact⟨a,b,rfl⟩
    subst e2
    have hr2:RB r2:=hb r2 (by simp)
    have htl:tlS r o (r2::rs2)=r.2.2.1++pfx r2.1 1:=by unfold tlS;rw[if_pos h];rfl
    rw[htl]
    have q1:hds p (r::r2::rs2)=[hdS p r]++r2.1::rs2.map (·.1):=rfl
    have q2:hds true (r2::rs2)=sfx r2.1 1::rs2.map (·.1):=rfl
    rw[q1,q2,← List.append_assoc,List.map_cons]
    have a1:=Aa (A:=DH++[hdS p r]) (x:=r2.1) (B:=rs2.map (·.1)) (k:=k+1) (by simp[h1])
    have a2:=Aa (A:=DT) (x:=r.2.2.1) (B:=(r2::rs2).map (·.2.2.1)) (k:=k) h2
    have a3:=Ab (A:=DH++[hdS p r]) (x:=r2.1) (y:=sfx r2.1 1) (B:=rs2.map (·.1)) (k:=k+1) (by simp[h1])
    have a4:=Ab (A:=DT) (x:=r.2.2.1) (y:=r.2.2.1++pfx r2.1 1) (B:=(r2::rs2).map (·.2.2.1)) (k:=k) h2
    have l1:k+1 < (((DH++[hdS p r])++r2.1::rs2.map (·.1)).map PV.str).length:=by simp[h1]
    have l2:k < ((DT++r.2.2.1::(r2::rs2).map (·.2.2.1)).map PV.str).length:=by simp[h2]
    have x1:=z_ l1
    have x2:=z_ l2
    have e5:DT++[r.2.2.1++pfx r2.1 1]++(r2::rs2).map (·.2.2.1)=DT++(r.2.2.1++pfx r2.1 1)::(r2::rs2).map (·.2.2.1):=by simp
    rw[e5]
    have e6:((k+1:Nat):Int)=(k:Int)+1:=rfl
    rw[e6] at a1 x1
    have b1:r2.1.length<=1000000:=by have:=hr2.1;omega
    have b2:r.2.2.1.length+(pfx r2.1 1).length<=1000000:=by rw[lM];have:=hr.2.2;omega
    have hpx:cQ r2.1 none (some 1)=pfx r2.1 1:=rfl
    have hsx:cQ r2.1 (some 1) none=sfx r2.1 1:=rfl
    generalize ((DH++[hdS p r])++r2.1::rs2.map (·.1)).map PV.str=HV,(DT++r.2.2.1::(r2::rs2).map (·.2.2.1)).map PV.str=TV,((DH++[hdS p r])++sfx r2.1 1::rs2.map (·.1)).map PV.str=HV',(DT++(r.2.2.1++pfx r2.1 1)::(r2::rs2).map (·.2.2.1)).map PV.str=TV',aU o=OV at *
    simp[turn,fX,iE,a1,a2,a3,a4,x1,x2,b1,b2,hpx,hsx,clr]
   ·rw[decide_eq_false h] at iE ⊢
    have htl:tlS r o rs=r.2.2.1:=if_neg h
    rw[htl]
    have q1:DH++[hdS p r]++hds false rs=DH++hds p (r::rs):=by
     cases rs with
     | nil=>simp[hds]
     | cons a b=>simp[hds,hdS]
    have q2:DT++[r.2.2.1]++rs.map (·.2.2.1)=DT++(r::rs).map (·.2.2.1):=by simp
    rw[q1,q2]
    generalize (DH++hds p (r::rs)).map PV.str=HV,(DT++(r::rs).map (·.2.2.1)).map PV.str=TV,aU o=OV at *
    simp[turn,fX,iE,clr]
  have ez:f9 k ((o::os).map aU)=.tup [.int (k:Nat),aU o]::f9 (k+1) (os.map aU):=rfl
  rw[ez,b_ ht,ih]
  simp[lB,lC]
theorem wk:∀ (rs:List Row) (os:List Opt) (p:Bool),nO rs os->(∀ x∈rs,RB x)->bJ [none,none,none] (gT [0,1,2]) bA jd (jQ ((lB p rs os).map .str) (rs.map aL) ((lC rs os).map .str))=some ((lets p rs os).map .str)
 | [],[],p,_,_=>rfl
 | r::rs,o::os,p,hns,hb=>by
  have ih:=wk rs os (decide (o=spO)) hns.2 λx hx=>hb x (List.mem_cons_of_mem _ hx)
  have hr:RB r:=hb r List.mem_cons_self
  have a1:(hdS p r).length+r.2.1.length<=1000000:=by have:=mX (p:=p) hr;have:=hr.2.1;omega
  have a2:(hdS p r++r.2.1).length+(tlS r o rs).length<=1000000:=by rw[bH];have:=mX (p:=p) hr;have:=hr.2.1;have:=zY (o:=o) (rs:=rs) hr;omega
  have ez:jQ ((lB p (r::rs) (o::os)).map .str) ((r::rs).map aL) ((lC (r::rs) (o::os)).map .str)=.tup [.str (hdS p r),aL r,.str (tlS r o rs)]::jQ ((lB (decide (o=spO)) rs os).map .str) (rs.map aL) ((lC rs os).map .str):=rfl
  have hce:jd [some (.str (hdS p r)),some (aL r),some (.str (tlS r o rs))]=some (.str (tx1 p r o rs)):=by
   have erv:aL r=.tup [.str r.1,.str r.2.1,.str r.2.2.1,.bl r.2.2.2]:=rfl
   rw[erv]
   simp[jd,a1,a2,tx1]
  rw[ez]
  generalize jQ ((lB (decide (o=spO)) rs os).map .str) (rs.map aL) ((lC rs os).map .str)=Z at *
  simp[bJ,hce,ih,lets]
theorem tR:∀ {rs:List Row}{os:List Opt},nO rs os->rs.length=os.length
 | [],[],_=>rfl
 | _::rs,_::os,h=>by simp[tR h.2]
theorem yM:∀ {p:Bool}{rs:List Row}{os:List Opt},rs.length=os.length->(lB p rs os).length=rs.length
 | _,[],[],_=>rfl
 | _,_::rs,o::os,h=>by simp[lB,yM (p:=decide (o=spO)) (rs:=rs) (os:=os) (by simpa using h)]
theorem yN:∀ {rs:List Row}{os:List Opt},rs.length=os.length->(lC rs os).length=rs.length
 | [],[],_=>rfl
 | _::rs,o::os,h=>by simp[lC,yN (rs:=rs) (os:=os) (by simpa using h)]
theorem Bt {rs:List Row}{os:List Opt}(hn:rs.length<=24) (hb:∀ x∈rs,RB x) (hns:nO rs os):iy [.lst (rs.map aL),.lst (os.map aU)]=some (.lst ((lets false rs os).map .str)):=by
 have c1:bJ [none] (gN 0) bA jb (rs.map aL)=some ((rs.map (·.1)).map .str):=by
  have:=cz (env:=[none]) (g:=gN 0) (f:=jb) aL (λr=>.str r.1) rs λr _=>⟨_,rfl,by simp[jb,aL]⟩
  rw[this,List.map_map];rfl
 have c2:bJ [none] (gN 0) bA jc (rs.map aL)=some ((rs.map (·.2.2.1)).map .str):=by
  have:=cz (env:=[none]) (g:=gN 0) (f:=jc) aL (λr=>.str r.2.2.1) rs λr _=>⟨_,rfl,by simp[jc,aL]⟩
  rw[this,List.map_map];rfl
 have hl:=yL (A:=.lst (rs.map aL)) (B:=.lst (os.map aU)) (n:=0) rs os false [] [] 0 rfl rfl hns hb (by omega)
 have hh:hds false rs=rs.map (·.1):=by
  cases rs with
  | nil=>rfl
  | cons a b=>rfl
 rw[hh] at hl
 simp only[List.nil_append] at hl
 have c4:=wk rs os false hns hb
 have hle:=tR hns
 have n1:=yM (p:=false) hle
 have n2:=yN hle
 have hl3:((lB false rs os).map PV.str).length=(rs.map aL).length/\(rs.map aL).length=((lC rs os).map PV.str).length:=by simp[n1,n2]
 have hz:=qM hl3.1 hl3.2
 have h24:(rs.map aL).length<=1000000:=by simp;omega
 have hz6:(jQ ((lB false rs os).map PV.str) (rs.map aL) ((lC rs os).map PV.str)).length<=1000000:=by rw[hz,List.length_map,n1];omega
 generalize hZ:jQ ((lB false rs os).map PV.str) (rs.map aL) ((lC rs os).map PV.str)=Z,(lets false rs os).map PV.str=LV,(lB false rs os).map PV.str=HF,(lC rs os).map PV.str=TF,(rs.map (·.1)).map PV.str=H0,(rs.map (·.2.2.1)).map PV.str=T0,rs.map aL=RV,os.map aU=OV at *
 have h25:TF.length<=1000000:=by rw[← hl3.2];exact h24
 simp[iy,qb,h24,h25,c1,c2,hl,hl3,hZ,hz6,c4]
theorem G4 {x:Str}{o:Opt}(h:x.length<=80):c7 [.str x,aU o]=some (.str (shS x o)):=by
 unfold shS
 rcases o with _ | ⟨a,b⟩
 ·have b1:(Str.ofString "(").length+x.length<=1000000:=by rw[brl];omega
  have b2:(Str.ofString "(" ++ x).length+(Str.ofString ")").length<=1000000:=by rw[bH,brl,brr];omega
  simp[c7,jK,aU,b1,b2]
 ·have hm:=vd (some (a,b))
  have b1:x.length+(mrk (some (a,b))).length<=1000000:=by omega
  have e:aU (some (a,b))=.tup [.int (if a then 1 else 0),.str (mrk (some (a,b)))]:=rfl
  rw[e]
  generalize mrk (some (a,b))=M at *
  simp[c7,jK,b1]
theorem Ac:∀ (rs:List Row) (os:List Opt) (p:Bool),nO rs os->(∀ x∈rs,RB x)->bJ [none,none] (gT [0,1]) bA je (dI ((lets p rs os).map .str) (os.map aU))=some ((cX p rs os).map .str)
 | [],[],p,_,_=>rfl
 | r::rs,o::os,p,hns,hb=>by
  have ih:=Ac rs os (decide (o=spO)) hns.2 λx hx=>hb x (List.mem_cons_of_mem _ hx)
  have hr:RB r:=hb r List.mem_cons_self
  have hm:=G4 (x:=tx1 p r o rs) (o:=o) (zZ hr)
  have ez:dI ((lets p (r::rs) (o::os)).map .str) ((o::os).map aU)=.tup [.str (tx1 p r o rs),aU o]::dI ((lets (decide (o=spO)) rs os).map .str) (os.map aU):=rfl
  have hce:je [some (.str (tx1 p r o rs)),some (aU o)]=some (.str (shS (tx1 p r o rs) o)):=by simp[je,hm]
  rw[ez]
  generalize dI ((lets (decide (o=spO)) rs os).map .str) (os.map aU)=Z at *
  simp[bJ,hce,ih,cX]
theorem Eg {rs:List Row}{os:List Opt}(hn:rs.length<=24) (hb:∀ x∈rs,RB x) (hns:nO rs os):iz [.lst (rs.map aL),.lst (os.map aU)]=some (.str (Str.join (Str.ofString ".") (cX false rs os))):=by
 have h1:=Bt hn hb hns
 have h2:=Ac rs os false hns hb
 obtain⟨b1,b2⟩:=pX (p:=false) (os:=os) hb
 have hj:JoinOk (Str.ofString ".") (cX false rs os)=true:=pW (by rw[G3];decide) (λy hy=>by have:=b1 y hy;omega) (by omega)
 have hs:=mq (cX false rs os)
 have hle:=tR hns
 have hz6:(dI ((lets false rs os).map .str) (os.map aU)).length<=1000000:=by unfold dI;rw[List.length_zipWith,List.length_map,List.length_map];omega
 generalize cX false rs os=TX,(lets false rs os).map PV.str=LV,rs.map aL=A,os.map aU=B at *
 generalize hZ:dI LV B=Z at *
 simp[iz,qe,h1,hZ,hz6,h2,hs,hj]
end My
namespace My
open PySem L2 MR
theorem Ad:∀ {os:List (List Opt)}{rs:List Row}{ss:List Opt},Sel ss os->rs.length=os.length->(∀ o,os.getLast?=some o->spO∉o)->nO rs ss
 | [],rs,ss,h,he,_=>by
  cases ss with
  | nil=>
   cases rs with
   | nil=>trivial
   | cons r rs=>cases he
  | cons s ss=>cases h
 | o::os,rs,ss,h,he,hl=>by
  cases ss with
  | nil=>cases h
  | cons s ss=>
   cases rs with
   | nil=>cases he
   | cons r rs=>
    have he':rs.length=os.length:=by simpa using he
    refine⟨λe hr=>?_,Ad h.2 he' λo' ho=>hl o' ?_⟩
    ·subst hr
     have:os=[]:=List.length_eq_zero_iff.mp he'.symm
     subst this
     exact hl o rfl (e▸h.1)
    ·cases os with
     | nil=>cases ho
     | cons o2 os=>rw[List.getLast?_cons_cons];exact ho
def jr:List WDat->List Opt->List Str
 | [],_=>[]
 | d::ds,ss=>Str.join (Str.ofString ".") (cX false d.rows (ss.take d.os.length))::jr ds (ss.drop d.os.length)
theorem wu {sep:Str}(hs:sep.length<=1):∀ (ts:List Str),(∀ t∈ts,t.length<=100)->(Str.join sep ts).length<=101*ts.length
 | [],_=>by simp[Str.join];rfl
 | [t],h=>by have:=h t (by simp);simp[Str.join];omega
 | t::y::r,h=>by
  have ih:=wu hs (y::r) λz hz=>h z (List.mem_cons_of_mem _ hz)
  have h1:=h t (by simp)
  show (t++sep++Str.join sep (y::r)).length<=_
  rw[bH,bH]
  simp only[List.length_cons] at ih ⊢
  omega
theorem tU {α:Type}(f:α->PV) (l:List α) (a b:Nat):gW (l.map f) (some (a:Int)) (some ((a:Int)+(b:Int)))=((l.drop a).take b).map f:=by
 unfold gW
 have e:(a:Int)+(b:Int)=((a+b:Nat):Int):=rfl
 rw[e,HT.sIx_nat,HT.sIx_nat,List.length_map,← List.map_drop,← List.map_take]
 congr 1
 by_cases h:a<=l.length
 ·rw[Nat.min_eq_left h]
  rw[List.take_eq_take_iff,List.length_drop]
  omega
 ·have h1:l.drop a=[]:=List.drop_eq_nil_of_le (by omega)
  have h2:l.drop (min a l.length)=[]:=List.drop_eq_nil_of_le (by omega)
  rw[h1,h2]
  simp
section
variable {cut:List (List Str)}
theorem yO {f:PV}{d:WDat}(W:WD cut f d){ss:List Opt}{os':List (List Opt)}(h:Sel ss (d.os++os')):
  nO d.rows (ss.take d.os.length)/\Sel (ss.drop d.os.length) os'/\(Str.join (Str.ofString ".") (cX false d.rows (ss.take d.os.length))).length<=3000:=by
 obtain⟨h1,h2⟩:=yJ h
 refine⟨Ad h1 W.len.symm W.last,h2,?_⟩
 obtain⟨b1,b2⟩:=pX (p:=false) (rs:=d.rows) (os:=ss.take d.os.length) W.rb
 have:=wu (sep:=Str.ofString ".") (by rw[G3];decide) (cX false d.rows (ss.take d.os.length)) b1
 have:=W.l24
 omega
theorem Ae:∀ {ds:List WDat},Chn cut ds->(ds.flatMap (·.os)).length<=24*ds.length/\∀ o∈ds.flatMap (·.os),OOk o
 | [],_=>by simp
 | d::ds,h=>by
  obtain⟨i1,i2⟩:=Ae h.2
  have:=h.1.len
  have:=h.1.l24
  refine⟨by simp only[List.flatMap_cons,List.length_append,List.length_cons];omega,λo ho=>?_⟩
  rw[List.flatMap_cons] at ho
  rcases List.mem_append.mp ho with z | z
  ·exact h.1.o4 o z
  ·exact i2 o z
theorem ww {S W HN GR DU SY:PV}{SS:List Opt}(hS:SY=.lst (SS.map aU)):∀ (ds:List WDat) (ss:List Opt) (tx:List Str) (a:Nat),Chn cut ds->SS.drop a=ss->Sel ss (ds.flatMap (·.os))->tx.length+ds.length<=100->(∀ x∈tx,x.length<=3000)->
  ∃ a',(∀ x∈tx++jr ds ss,x.length<=3000)/\(jr ds ss).length=ds.length/\bw (gN 10) [10,11] lK ((ds.map (·.w)).map .str) [some S,some (.obj 0 (aq cut)),some W,some HN,some GR,some DU,none,some SY,some (.lst (tx.map .str)),some (.int a),none,none,none]=
   some (.nx [some S,some (.obj 0 (aq cut)),some W,some HN,some GR,some DU,none,some SY,some (.lst ((tx++jr ds ss).map .str)),some (.int a'),none,none,none])
 | [],ss,tx,a,_,_,_,_,hx=>⟨a,by simpa [jr] using hx,rfl,by simp[bw,jr]⟩
 | d::ds,ss,tx,a,hc,hd,hs,hl,hx=>by
  obtain⟨t1,t2,t3⟩:=yO hc.1 (by simpa [List.flatMap_cons] using hs)
  have hm:=Br hc.1.l24 hc.1.rb t1
  obtain⟨a',i1,i2,ih⟩:=ww (S:=S) (W:=W) (HN:=HN) (GR:=GR) (DU:=DU) hS ds (ss.drop d.os.length) (tx++[Str.join (Str.ofString ".") (cX false d.rows (ss.take d.os.length))]) (a+d.rows.length) hc.2 (by rw[← hd,List.drop_drop,hc.1.len]) t2 (by simp only[List.length_append,List.length_cons,List.length_nil] at hl ⊢;omega) λx h=>by
   rcases List.mem_append.mp h with z | z
   ·exact hx x z
   ·rw[List.mem_singleton.mp z];exact t3
  refine⟨a',by simpa [jr] using i1,by simp[jr,i2],?_⟩
  have hcut:gW (SS.map aU) (some (a:Int)) (some ((a:Int)+((d.rows.map aL).length:Int)))=(ss.take d.os.length).map aU:=by
   rw[List.length_map,tU,hd,hc.1.len]
  have hy:=hc.1.syl
  have hsl:tx.length < 1000000:=by simp only[List.length_cons] at hl;omega
  have hlen:(d.rows.map aL).length=d.rows.length:=List.length_map _
  have ht:turn (gN 10) [10,11] lK (.str d.w) [some S,some (.obj 0 (aq cut)),some W,some HN,some GR,some DU,none,some SY,some (.lst (tx.map .str)),some (.int a),none,none,none]=
    some [some S,some (.obj 0 (aq cut)),some W,some HN,some GR,some DU,none,some SY,some (.lst ((tx++[Str.join (Str.ofString ".") (cX false d.rows (ss.take d.os.length))]).map .str)),some (.int ((a+d.rows.length:Nat):Int)),none,none,none]:=by
   rw[hS]
   generalize (.obj 0 (aq cut):PV)=O,Str.join (Str.ofString ".") (cX false d.rows (ss.take d.os.length))=J,(ss.take d.os.length).map aU=OV,SS.map aU=SV at *
   have e:((a+d.rows.length:Nat):Int)=(a:Int)+((d.rows.map aL).length:Int):=by rw[hlen];rfl
   rw[e]
   generalize d.rows.map aL=RV at *
   simp[turn,lK,hy,hcut,hm,hsl,clr]
  rw[List.map_cons,List.map_cons,b_ ht,ih]
  simp[jr]
theorem uC {W SY:PV}{SS:List Opt}(hS:SY=.lst (SS.map aU)):∀ (ds:List WDat) (ss:List Opt) (tx:List Str) (a:Nat),Chn cut ds->SS.drop a=ss->Sel ss (ds.flatMap (·.os))->tx.length+ds.length<=100->
  ∃ a',bw (gN 5) [5,6,7] iB ((ds.map (·.w)).map .str) [some (.obj 0 (aq cut)),some W,some SY,some (.lst (tx.map .str)),some (.int a),none,none,none]=
   some (.nx [some (.obj 0 (aq cut)),some W,some SY,some (.lst ((tx++jr ds ss).map .str)),some (.int a'),none,none,none])
 | [],ss,tx,a,_,_,_,_=>⟨a,by simp[bw,jr]⟩
 | d::ds,ss,tx,a,hc,hd,hs,hl=>by
  obtain⟨t1,t2,t3⟩:=yO hc.1 (by simpa [List.flatMap_cons] using hs)
  have hm:=Eg hc.1.l24 hc.1.rb t1
  obtain⟨a',ih⟩:=uC (W:=W) hS ds (ss.drop d.os.length) (tx++[Str.join (Str.ofString ".") (cX false d.rows (ss.take d.os.length))]) (a+d.rows.length) hc.2 (by rw[← hd,List.drop_drop,hc.1.len]) t2 (by simp only[List.length_append,List.length_cons,List.length_nil] at hl ⊢;omega)
  refine⟨a',?_⟩
  have hcut:gW (SS.map aU) (some (a:Int)) (some ((a:Int)+((d.rows.map aL).length:Int)))=(ss.take d.os.length).map aU:=by
   rw[List.length_map,tU,hd,hc.1.len]
  have hy:=hc.1.syl
  have hsl:tx.length < 1000000:=by simp only[List.length_cons] at hl;omega
  have hlen:(d.rows.map aL).length=d.rows.length:=List.length_map _
  have ht:turn (gN 5) [5,6,7] iB (.str d.w) [some (.obj 0 (aq cut)),some W,some SY,some (.lst (tx.map .str)),some (.int a),none,none,none]=
    some [some (.obj 0 (aq cut)),some W,some SY,some (.lst ((tx++[Str.join (Str.ofString ".") (cX false d.rows (ss.take d.os.length))]).map .str)),some (.int ((a+d.rows.length:Nat):Int)),none,none,none]:=by
   rw[hS]
   generalize (.obj 0 (aq cut):PV)=O,Str.join (Str.ofString ".") (cX false d.rows (ss.take d.os.length))=J,(ss.take d.os.length).map aU=OV,SS.map aU=SV at *
   have e:((a+d.rows.length:Nat):Int)=(a:Int)+((d.rows.map aL).length:Int):=by rw[hlen];rfl
   rw[e]
   generalize d.rows.map aL=RV at *
   simp[turn,iB,hy,hcut,hm,hsl,clr]
  rw[List.map_cons,List.map_cons,b_ ht,ih]
  simp[jr]
theorem G5 {S W HN GR:PV}{ws:List Str}{ds:List WDat}(hw:ds.map (·.w)=ws) (hW:W=.lst (ws.map .str)) (hc:Chn cut ds) (hn:ds.length<=100):
  bw (gN 6) [6] nH (gn 0 (ds.length:Int)) [some S,some (.obj 0 (aq cut)),some W,some HN,some GR,some (.lst []),none,none,none,none,none,none,none]=some (.nx [some S,some (.obj 0 (aq cut)),some W,some HN,some GR,some (.lst (cL ds)),none,none,none,none,none,none,none]):=by
 rw[lH]
 obtain⟨k,⟨h1,h2⟩,h3⟩:=lO (g:=gN 6) (ds:=[6]) (body:=nH) (λj:Nat=>PV.int (j:Nat)) (λk:Nat=>[some S,some (.obj 0 (aq cut)),some W,some HN,some GR,some (.lst ((cL ds).take k)),none,none,none,none,none,none,none]) (λr k=>k+r.length=ds.length/\∀ i (h:i < r.length),r[i]=k+i)
  (by
   rintro j r k ⟨h1,h2⟩
   have hj:j=k:=by have:=h2 0 (by simp);simpa using this
   subst hj
   simp only[List.length_cons] at h1
   have hlt:j < ds.length:=by omega
   refine⟨j+1,⟨by omega,λi h=>?_⟩,?_⟩
   ·have:=h2 (i+1) (by simp;omega)
    simp at this
    omega
   ·have hd:ds[j]?=some ds[j]:=List.getElem?_eq_getElem hlt
    have hwd:=Ef hc hd
    have hlw:ws.length=ds.length:=by rw[← hw];simp
    have a1:atI (ws.map PV.str) (j:Int)=some (.str ds[j].w):=by
     refine bQ ?_
     rw[List.getElem?_map,← hw,List.getElem?_map,hd]
     rfl
    have a2:atI (ws.map PV.str++[.non]) ((j:Int)+1)=some (yG (ds[j+1]?.map (·.w))):=by
     have e:(j:Int)+1=((j+1:Nat):Int):=rfl
     rw[e]
     refine bQ ?_
     by_cases h:j+1 < ds.length
     ·rw[List.getElem?_append_left (by simp;omega),List.getElem?_map,← hw,List.getElem?_map,List.getElem?_eq_getElem h]
      rfl
     ·have:j+1=ws.length:=by omega
      have hd2:ds[j+1]?=none:=List.getElem?_eq_none (by omega)
      rw[hd2,List.getElem?_append_right (by rw[List.length_map];omega),List.length_map,this,Nat.sub_self]
      rfl
    have ho:=hwd.opt
    have ht:(cL ds).take (j+1)=(cL ds).take j++[.lst (ds[j].os.map oLV)]:=by
     have hj':j < (cL ds).length:=by simp[cL];exact hlt
     rw[List.take_succ,List.getElem?_eq_getElem hj']
     simp[cL]
    rw[ht]
    have hl6:min j (cL ds).length < 1000000:=by omega
    have hl7:(ws.map PV.str).length+1<=1000000:=by simp;omega
    have hl8:((cL ds).take j).length < 1000000:=by rw[List.length_take];omega
    rw[hW]
    generalize (.obj 0 (aq cut):PV)=O,ws.map PV.str=WV,yG (ds[j+1]?.map (·.w))=F,(cL ds).take j=TB,ds[j].os.map oLV=OV,ds[j].w=w at *
    simp[turn,nH,a1,a2,ho,hl7,hl8,clr])
  (List.range ds.length) 0 ⟨by simp,λi h=>by simp⟩
 have hk:k=ds.length:=by simpa using h1
 rw[hk] at h3
 have e:(cL ds).take ds.length=cL ds:=List.take_of_length_le (by simp[cL])
 rw[e,List.take_zero] at h3
 exact h3
end
theorem Js (ds:List WDat):okP 4 (.lst (cL ds)):=by
 have h1:PyData.strOk ("-" : Str)=true:=by decide +kernel
 have h2:PyData.strOk ("u" : Str)=true:=by decide +kernel
 simp only[okP,cL,List.mem_map]
 rintro x ⟨d,hd,rfl⟩
 simp only[okP,List.mem_map]
 rintro x ⟨o,ho,rfl⟩
 simp only[okP,oLV,List.mem_map]
 rintro x ⟨s,hs,rfl⟩
 rcases s with _ | ⟨a,b⟩
 ·simp[aU,okP]
 ·cases b <;> simp[aU,okP,h1,h2]
theorem wy (ns:List Int) (k:Nat):bM [.frz (ns.map PV.int),.int k]=some (.int (cell ns k)):=by
 by_cases h:k < ns.length
 ·have h1:atI (ns.map PV.int) (k:Int)=some (.int ns[k]):=bQ (by simp[h])
  simp[bM,lg,h,h1,cell]
 ·simp[bM,lg,h,cell]
theorem blk:(Str.ofString " ").length=1:=by decide +kernel
theorem law_true (ns:List Int) (h:ns.length<=63):ux [.frz (ns.map PV.int)]=some (.bl true):=by
 have c0:bM [.frz (ns.map PV.int),.int 0]=some (.int (cell ns 0)):=wy ns 0
 have c1:bM [.frz (ns.map PV.int),.int 1]=some (.int (cell ns 1)):=wy ns 1
 have hrow:=Eb (cell ns 0)
 obtain⟨hmk,T⟩:=Ls (cell ns 0)
 have hcs:gW (ns.map PV.int) (some 2) (some 52)=((ns.drop 2).take 50).map PV.int:=tU PV.int ns 2 50
 obtain⟨ws,hws,hwl,hwd⟩:=GK (cs:=(ns.drop 2).take 50) (by simp;omega)
 obtain⟨ds,e,hc⟩:=Ed T ws λw hw=>(hwd w hw).r _ _
 have hdl:ds.length=ws.length:=by rw[← e];simp
 generalize ig (bits (cell ns 0)) (jZ (cell ns 0))=cut,R10 (bits (cell ns 0)) (jZ (cell ns 0))=R at *
 have htab:=yI hc (by omega)
 rw[e] at htab
 have hnil:dG [.obj 0 (aq cut),.lst []]=some (.lst []):=yI (cut:=cut) (ds:=[]) trivial (by simp)
 obtain⟨f1,f2⟩:=Ae hc
 obtain⟨m,hm,hm0⟩:=GP (ds:=ds) (by omega) f2
 obtain⟨ss,hss,hsel⟩:=Jp (ds:=ds) (by omega) f2 (cell ns 1 % m)
 have hdue:=G5 (S:=.frz (ns.map PV.int)) (HN:=.lst (ws.map .str)) (GR:=.lst (cL ds)) e rfl hc (by omega)
 obtain⟨a1,g1,g2,hl2⟩:=ww (cut:=cut) (S:=.frz (ns.map PV.int)) (W:=.lst (ws.map .str)) (HN:=.lst (ws.map .str)) (GR:=.lst (cL ds)) (DU:=.lst (cL ds)) (SS:=ss) rfl ds ss [] 0 hc rfl hsel (by simp;omega) (by simp)
 obtain⟨a2,hsh⟩:=uC (cut:=cut) (W:=.lst (ws.map .str)) (SS:=ss) rfl ds ss [] 0 hc rfl hsel (by simp;omega)
 have hj:JoinOk (Str.ofString " ") (jr ds ss)=true:=pW (by rw[blk];decide) (λy hy=>g1 y (by simpa using hy)) (by omega)
 have hst:=mq (jr ds ss)
 simp only[List.nil_append,List.map_nil] at hl2 hsh
 rw[e] at hl2 hsh
 have hshown:iG [.obj 0 (aq cut),.lst (ws.map .str),.lst (ss.map aU)]=some (.str (Str.join (Str.ofString " ") (jr ds ss))):=by
  generalize (.obj 0 (aq cut):PV)=O,ws.map PV.str=WV,ss.map aU=SV,jr ds ss=TX at *
  have hsh':bw (gN 5) [5,6,7] iB WV [some O,some (.lst WV),some (.lst SV),some (.lst []),some (.int 0),none,none,none]=_:=hsh
  simp[iG,sS,hsh',hst,hj]
 have heq1:eqP (.lst (cL ds)) (.lst (cL ds))=some true:=sZ (Js ds) (by decide)
 have heq2:eqP (.lst (ws.map .str)) (.lst (ws.map .str))=some true:=sZ (n:=1) (by
  simp only[okP,List.mem_map]
  rintro x ⟨w,hw,rfl⟩
  exact(hwd w hw).t.ok) (by decide)
 have hrl:(gn 0 (ds.length:Int)).length<=1000000:=by rw[tG];omega
 have hrg:rgI (ds.length:Int)=true:=qX (by omega)
 have hwv:(ws.map PV.str).length=ds.length:=by rw[List.length_map,hdl]
 have hm0':m≠0:=by omega
 generalize ((ns.drop 2).take 50).map PV.int=CV,ns.map PV.int=NV,hwsv:ws.map PV.str=WV,cL ds=TB,ss.map aU=SV,jr ds ss=TX,hX0:gn 0 (ds.length:Int)=X0 at *
 have hl2':bw (gN 10) [10,11] lK WV [some (.frz NV),some (.obj 0 (aq cut)),some (.lst WV),some (.lst WV),some (.lst TB),some (.lst TB),none,some (.lst SV),some (.lst []),some (.int 0),none,none,none]=_:=hl2
 have s1:(aJ 1 (w6 0 b7 (ak (aK gH (ak (aK bM (ak (bV 0) (ak (bC (.int 0)) aF))) aF)) aF))) [some (.frz NV),none,none,none,none,none,none,none,none,none,none,none,none]=some (.nx [some (.frz NV),some (.obj 0 (aq cut)),none,none,none,none,none,none,none,none,none,none,none]):=by
  simp[c0,hrow,hmk]
 have s2:(aJ 2 (aK fL (ak (bSl (bV 0) (oS (bC (.int 2))) (oS (bC (.int 52)))) aF))) [some (.frz NV),some (.obj 0 (aq cut)),none,none,none,none,none,none,none,none,none,none,none]=some (.nx [some (.frz NV),some (.obj 0 (aq cut)),some (.lst WV),none,none,none,none,none,none,none,none,none,none]):=by
  simp[hcs,hws]
 have s3:(aJ 3 (b1 lQ (bV 2))) [some (.frz NV),some (.obj 0 (aq cut)),some (.lst WV),none,none,none,none,none,none,none,none,none,none]=some (.nx [some (.frz NV),some (.obj 0 (aq cut)),some (.lst WV),some (.lst WV),none,none,none,none,none,none,none,none,none]):=by
  simp[]
 have s4:(aJ 4 (aK dG (ak (bV 1) (ak (bV 3) aF)))) [some (.frz NV),some (.obj 0 (aq cut)),some (.lst WV),some (.lst WV),none,none,none,none,none,none,none,none,none]=some (.nx [some (.frz NV),some (.obj 0 (aq cut)),some (.lst WV),some (.lst WV),some (.lst TB),none,none,none,none,none,none,none,none]):=by
  simp[htab]
 have s5:(aJ 5 (cF aF)) [some (.frz NV),some (.obj 0 (aq cut)),some (.lst WV),some (.lst WV),some (.lst TB),none,none,none,none,none,none,none,none]=some (.nx [some (.frz NV),some (.obj 0 (aq cut)),some (.lst WV),some (.lst WV),some (.lst TB),some (.lst []),none,none,none,none,none,none,none]):=by
  simp[]
 have s6:(eZ (gN 6) (iR1 (b1 lenV (bV 2))) [6] nH) [some (.frz NV),some (.obj 0 (aq cut)),some (.lst WV),some (.lst WV),some (.lst TB),some (.lst []),none,none,none,none,none,none,none]=some (.nx [some (.frz NV),some (.obj 0 (aq cut)),some (.lst WV),some (.lst WV),some (.lst TB),some (.lst TB),none,none,none,none,none,none,none]):=by
  simp[hwv,hrg,hX0,hrl,hdue]
 have s7:(sIf (tO (tN (tV (b1 (sX tb_list) (bV 4)))) (tO (tV (b2 neQ (bV 4) (bV 5))) (tV (b2 neQ (bV 3) (bV 2))))) (aW (bC (.bl false))) sNx) [some (.frz NV),some (.obj 0 (aq cut)),some (.lst WV),some (.lst WV),some (.lst TB),some (.lst TB),none,none,none,none,none,none,none]=some (.nx [some (.frz NV),some (.obj 0 (aq cut)),some (.lst WV),some (.lst WV),some (.lst TB),some (.lst TB),none,none,none,none,none,none,none]):=by
  simp[tb_list,heq1,heq2]
 have s8:(aJ 7 (aK gG (ak (bV 4) (ak (b2 lF (aK bM (ak (bV 0) (ak (bC (.int 1)) aF))) (aK dX (ak (bV 4) aF))) aF)))) [some (.frz NV),some (.obj 0 (aq cut)),some (.lst WV),some (.lst WV),some (.lst TB),some (.lst TB),none,none,none,none,none,none,none]=some (.nx [some (.frz NV),some (.obj 0 (aq cut)),some (.lst WV),some (.lst WV),some (.lst TB),some (.lst TB),none,some (.lst SV),none,none,none,none,none]):=by
  simp[c1,hm,hss,hm0]
 have s9:(aJ 8 (cF aF)) [some (.frz NV),some (.obj 0 (aq cut)),some (.lst WV),some (.lst WV),some (.lst TB),some (.lst TB),none,some (.lst SV),none,none,none,none,none]=some (.nx [some (.frz NV),some (.obj 0 (aq cut)),some (.lst WV),some (.lst WV),some (.lst TB),some (.lst TB),none,some (.lst SV),some (.lst []),none,none,none,none]):=by
  simp[]
 have s10:(aJ 9 (bC (.int 0))) [some (.frz NV),some (.obj 0 (aq cut)),some (.lst WV),some (.lst WV),some (.lst TB),some (.lst TB),none,some (.lst SV),some (.lst []),none,none,none,none]=some (.nx [some (.frz NV),some (.obj 0 (aq cut)),some (.lst WV),some (.lst WV),some (.lst TB),some (.lst TB),none,some (.lst SV),some (.lst []),some (.int 0),none,none,none]):=by
  simp[]
 have s11:(eZ (gN 10) (iV (bV 2)) [10,11] lK) [some (.frz NV),some (.obj 0 (aq cut)),some (.lst WV),some (.lst WV),some (.lst TB),some (.lst TB),none,some (.lst SV),some (.lst []),some (.int 0),none,none,none]=some (.nx [some (.frz NV),some (.obj 0 (aq cut)),some (.lst WV),some (.lst WV),some (.lst TB),some (.lst TB),none,some (.lst SV),some (.lst (TX.map .str)),some (.int a1),none,none,none]):=by
  simp[hl2']
 have s12:(aJ 12 (aK iG (ak (bV 1) (ak (bV 2) (ak (b1 lQ (bV 7)) aF))))) [some (.frz NV),some (.obj 0 (aq cut)),some (.lst WV),some (.lst WV),some (.lst TB),some (.lst TB),none,some (.lst SV),some (.lst (TX.map .str)),some (.int a1),none,none,none]=some (.nx [some (.frz NV),some (.obj 0 (aq cut)),some (.lst WV),some (.lst WV),some (.lst TB),some (.lst TB),none,some (.lst SV),some (.lst (TX.map .str)),some (.int a1),none,none,some (.str (Str.join (Str.ofString " ") TX))]):=by
  simp[hshown]
 have s13:(aW (eX (b1 (sX tb_str) (bV 12)) (eX (b2 eqQ (bV 12) (b2 lR (bC (.str " ")) (bV 8))) (b2 eqQ (aK dG (ak (bV 1) (ak (cF aF) aF))) (cF aF))))) [some (.frz NV),some (.obj 0 (aq cut)),some (.lst WV),some (.lst WV),some (.lst TB),some (.lst TB),none,some (.lst SV),some (.lst (TX.map .str)),some (.int a1),none,none,some (.str (Str.join (Str.ofString " ") TX))]=some (.rt (.bl true)):=by
  simp[tb_str,hst,hj,hnil]
 have e0:yh [some (.frz NV),none,none,none,none,none,none,none,none,none,none,none,none]=some (.rt (.bl true)):=by
  unfold yh
  rw[bR s1,bR s2,bR s3,bR s4,bR s5,bR s6,bR s7,bR s8,bR s9,bR s10,bR s11,bR s12]
  exact s13
 simp[ux,e0]
end My
namespace My
open PySem L2 MR
def top (i:Nat):Stmt:=PySem.Challenge.pw_lilt_k22_tables_and_texts.main.body.getD i (.Pass ⟨0,0,0,0⟩)
abbrev fP:Stmt:=top 17
abbrev jC:Stmt:=top 18
abbrev gJ:Stmt:=top 19
abbrev iI:Stmt:=top 9
abbrev du:Stmt:=top 10
abbrev gK:Stmt:=top 11
abbrev fc:Stmt:=top 12
abbrev j6:Stmt:=top 13
abbrev bZ:Stmt:=top 15
abbrev fj:Stmt:=top 14
abbrev gO:Stmt:=top 16
abbrev bN:Stmt:=inClass (top 20) 0
abbrev dO:Stmt:=top 46
abbrev dg:Stmt:=inClass (top 20) 1
abbrev gP:Stmt:=top 23
abbrev dw:Stmt:=top 24
abbrev dh:Stmt:=inClass (top 20) 2
abbrev jD:Stmt:=top 25
abbrev d8:Stmt:=top 26
abbrev j7:Stmt:=top 27
abbrev dz:Stmt:=inClass (top 20) 4
abbrev dB:Stmt:=inClass (top 20) 3
abbrev j8:Stmt:=top 28
abbrev eQ:Stmt:=top 29
abbrev dC:Stmt:=inClass (top 20) 5
abbrev j9:Stmt:=top 30
abbrev fQ:Stmt:=inClass (top 20) 6
abbrev iJ:Stmt:=top 31
abbrev fu:Stmt:=top 32
abbrev ik:Stmt:=top 35
abbrev gM:Stmt:=top 36
abbrev iM:Stmt:=top 38
abbrev cY:Stmt:=top 39
abbrev dD:Stmt:=top 40
abbrev fB:Stmt:=top 41
abbrev jE:Stmt:=top 42
abbrev iQ:Stmt:=top 45
abbrev eU:Stmt:=top 44
abbrev eV:Stmt:=top 37
abbrev iR:Stmt:=top 47
abbrev mR:Stmt:=top 48
theorem sc_told_behind:FnScope ["kind", "rows", "told", "row", "word"] ["kind", "rows"] (ao fP):=⟨rfl,rfl,rfl,by decide +kernel,rfl,by decide +kernel,by decide +kernel⟩
theorem sc_last_run:FnScope ["rows", "told", "row"] ["rows"] (ao jC):=⟨rfl,rfl,rfl,by decide +kernel,rfl,by decide +kernel,by decide +kernel⟩
theorem sc_told_alike:FnScope ["rows", "told", "row"] ["rows"] (ao gJ):=⟨rfl,rfl,rfl,by decide +kernel,rfl,by decide +kernel,by decide +kernel⟩
theorem yP:FnScope ["text"] ["text"] (ao iI):=⟨rfl,rfl,rfl,by decide +kernel,rfl,by decide +kernel,by decide +kernel⟩
theorem uD:FnScope ["row"] ["row"] (ao du):=⟨rfl,rfl,rfl,by decide +kernel,rfl,by decide +kernel,by decide +kernel⟩
theorem wF:FnScope ["carrying", "word"] ["carrying", "word"] (ao gK):=⟨rfl,rfl,rfl,by decide +kernel,rfl,by decide +kernel,by decide +kernel⟩
theorem wG:FnScope ["carrying", "row"] ["carrying", "row"] (ao fc):=⟨rfl,rfl,rfl,by decide +kernel,rfl,by decide +kernel,by decide +kernel⟩
theorem Bu:FnScope ["carrying", "text"] ["carrying", "text"] (ao j6):=⟨rfl,rfl,rfl,by decide +kernel,rfl,by decide +kernel,by decide +kernel⟩
theorem qZ:FnScope ["carrying", "carriers", "words"] ["carrying", "carriers", "words"] (ao bZ):=⟨rfl,rfl,rfl,by decide +kernel,rfl,by decide +kernel,by decide +kernel⟩
theorem wH:FnScope ["carrying", "word"] ["carrying", "word"] (ao fj):=⟨rfl,rfl,rfl,by decide +kernel,rfl,by decide +kernel,by decide +kernel⟩
theorem sc_is_rule:FnScope ["carrying", "pairs", "row", "kind", "words", "carriers"] ["carrying", "pairs", "row"] (ao gO):=⟨rfl,rfl,rfl,by decide +kernel,rfl,by decide +kernel,by decide +kernel⟩
theorem sc_Tongue____init__:FnScope ["self", "rows", "cut", "at", "row"] ["self", "rows"] (ao bN):=⟨rfl,rfl,rfl,by decide +kernel,rfl,by decide +kernel,by decide +kernel⟩
theorem sc__law_words:FnScope ["_law_cells", "_law_words_here", "_law_k", "_law_n", "_law_some", "_law_word_here"] ["_law_cells"] (ao dO):=⟨rfl,rfl,rfl,by decide +kernel,rfl,by decide +kernel,by decide +kernel⟩
theorem q8:FnScope ["self", "letter"] ["self", "letter"] (ao dg):=⟨rfl,rfl,rfl,by decide +kernel,rfl,by decide +kernel,by decide +kernel⟩
theorem Bv:FnScope ["tongue", "thing"] ["tongue", "thing"] (ao gP):=⟨rfl,rfl,rfl,by decide +kernel,rfl,by decide +kernel,by decide +kernel⟩
theorem rQ:FnScope ["tongue", "thing"] ["tongue", "thing"] (ao dw):=⟨rfl,rfl,rfl,by decide +kernel,rfl,by decide +kernel,by decide +kernel⟩
theorem q9:FnScope ["self", "pair"] ["self", "pair"] (ao dh):=⟨rfl,rfl,rfl,by decide +kernel,rfl,by decide +kernel,by decide +kernel⟩
theorem sc_units_of:FnScope ["tongue", "word", "units", "at", "size"] ["tongue", "word"] (ao jD):=⟨rfl,rfl,rfl,by decide +kernel,rfl,by decide +kernel,by decide +kernel⟩
theorem vf:FnScope ["tongue", "units"] ["tongue", "units"] (ao d8):=⟨rfl,rfl,rfl,by decide +kernel,rfl,by decide +kernel,by decide +kernel⟩
theorem sc_gaps_of:FnScope ["tongue", "units", "gaps", "unit"] ["tongue", "units"] (ao j7):=⟨rfl,rfl,rfl,by decide +kernel,rfl,by decide +kernel,by decide +kernel⟩
theorem rR:FnScope ["self", "cluster"] ["self", "cluster"] (ao dz):=⟨rfl,rfl,rfl,by decide +kernel,rfl,by decide +kernel,by decide +kernel⟩
theorem rT:FnScope ["self", "cluster"] ["self", "cluster"] (ao dB):=⟨rfl,rfl,rfl,by decide +kernel,rfl,by decide +kernel,by decide +kernel⟩
theorem sc_staying:FnScope ["tongue", "stops", "start"] ["tongue", "stops"] (ao j8):=⟨rfl,rfl,rfl,by decide +kernel,rfl,by decide +kernel,by decide +kernel⟩
theorem sc_syllables_of:FnScope ["tongue", "word", "units", "carriers", "gaps", "syllables", "head", "carrier", "stops", "tail"] ["tongue", "word"] (ao eQ):=⟨rfl,rfl,rfl,by decide +kernel,rfl,by decide +kernel,by decide +kernel⟩
theorem rW:FnScope ["self", "carrier"] ["self", "carrier"] (ao dC):=⟨rfl,rfl,rfl,by decide +kernel,rfl,by decide +kernel,by decide +kernel⟩
theorem sc_ways_of:FnScope ["tongue", "carrier", "tail", "split", "weight", "ways"] ["tongue", "carrier", "tail", "split"] (ao j9):=⟨rfl,rfl,rfl,by decide +kernel,rfl,by decide +kernel,by decide +kernel⟩
theorem vg:FnScope ["self"] ["self"] (ao fQ):=⟨rfl,rfl,rfl,by decide +kernel,rfl,by decide +kernel,by decide +kernel⟩
theorem sc_last_ways:FnScope ["tongue", "carrier", "tail", "ways"] ["tongue", "carrier", "tail"] (ao iJ):=⟨rfl,rfl,rfl,by decide +kernel,rfl,by decide +kernel,by decide +kernel⟩
theorem sc_options_of:FnScope ["tongue", "word", "follow", "syllables", "options", "last"] ["tongue", "word", "follow"] (ao fu):=⟨rfl,rfl,rfl,by decide +kernel,rfl,by decide +kernel,by decide +kernel⟩
theorem sc_table_of:FnScope ["tongue", "words", "follows"] ["tongue", "words"] (ao ik):=⟨rfl,rfl,rfl,by decide +kernel,rfl,by decide +kernel,by decide +kernel⟩
theorem sc_options_in:FnScope ["table", "listed", "word"] ["table"] (ao gM):=⟨rfl,rfl,rfl,by decide +kernel,rfl,by decide +kernel,by decide +kernel⟩
theorem sc_saying_at:FnScope ["table", "number", "backwards", "rest", "options"] ["table", "number"] (ao iM):=⟨rfl,rfl,rfl,by decide +kernel,rfl,by decide +kernel,by decide +kernel⟩
theorem sc_letters_in:FnScope ["syllables", "saying", "heads", "tails", "at", "option"] ["syllables", "saying"] (ao cY):=⟨rfl,rfl,rfl,by decide +kernel,rfl,by decide +kernel,by decide +kernel⟩
theorem rY:FnScope ["letters", "option"] ["letters", "option"] (ao dD):=⟨rfl,rfl,rfl,by decide +kernel,rfl,by decide +kernel,by decide +kernel⟩
theorem sc_shown_word:FnScope ["syllables", "saying", "letters"] ["syllables", "saying"] (ao fB):=⟨rfl,rfl,rfl,by decide +kernel,rfl,by decide +kernel,by decide +kernel⟩
theorem sc_shown_as:FnScope ["tongue", "words", "saying", "shown", "start", "word", "syllables", "behind"] ["tongue", "words", "saying"] (ao jE):=⟨rfl,rfl,rfl,by decide +kernel,rfl,by decide +kernel,by decide +kernel⟩
theorem sc__law_rows:FnScope ["_law_cell", "_law_some", "_law_rows_here", "_law_k"] ["_law_cell"] (ao iQ):=⟨rfl,rfl,rfl,by decide +kernel,rfl,by decide +kernel,by decide +kernel⟩
theorem uE:FnScope ["_law_script", "_law_k"] ["_law_script", "_law_k"] (ao eU):=⟨rfl,rfl,rfl,by decide +kernel,rfl,by decide +kernel,by decide +kernel⟩
theorem sc_many_sayings:FnScope ["table", "many", "options"] ["table"] (ao eV):=⟨rfl,rfl,rfl,by decide +kernel,rfl,by decide +kernel,by decide +kernel⟩
theorem sc__law_word:FnScope ["_law_parts", "_law_saying", "_law_shown", "_law_over", "_law_part", "_law_option", "_law_head", "_law_text"] ["_law_parts", "_law_saying"] (ao iR):=⟨rfl,rfl,rfl,by decide +kernel,rfl,by decide +kernel,by decide +kernel⟩
theorem sc_law:FnScope ["_law_script", "_law_tongue", "_law_words_here", "_law_handed", "_law_grid", "_law_due", "_law_k", "_law_saying", "_law_texts", "_law_at", "_law_word_here", "_law_parts", "_law_found"] ["_law_script"] (ao mR):=⟨rfl,rfl,rfl,by decide +kernel,rfl,by decide +kernel,by decide +kernel⟩
structure Adr where
 a0:Nat:=0
 t_LEAST_STOPS:Tok
 t_LETTERS:Tok
 t_MOST_LETTERS:Tok
 t_MOST_STOPS:Tok
 a_RUNS:Addr
 a_SPLIT:Addr
section
variable {P:Program}{w:World}{K:PySem.W.Frag}{mg:Str->Option Value}{base:Heap}{cl:Nat->Addr}{A:Adr}
structure Tx_told_behind (P:Program) (w:World) (K:PySem.W.Frag) (mg:Str->Option Value) (base:Heap) (cl:Nat->Addr) (A:Adr):Prop where
 ok:True
theorem vh {f:Addr}{fd:FuncData}(F:Fun K "told_behind" "told_behind" fP f fd) (T:Tx_told_behind P w K mg base cl A):FnOk P w K mg base CX0 1 f fd ["kind", "rows"] (spM ⟨K,cl⟩ a_ false):=by
 refine F.ok sc_told_behind (λvs H Q E h=>aR h) (λcdv A' outer s H vs Q E hr h=>aQ (G:=[2]) (G':=[]) (L:=[]) (N:=["kind", "rows", "told", "row", "word"]) rfl (by decide) (by decide) (λB H'=>?_) h)
 exact(au (eY 2 sc_told_behind.nd Nf) (au (fH [3,4] (dH (aa 1) (λ_=>by intro z;cases z)) (kj 3 sc_told_behind.nd) (aA (cC (bu (cN hr (aY hr (aa 3) az) (aa 0))) (aA (fH [4] (dH (dF (aa 3) (bF az) dj) (λ_=>by intro z;cases z)) (kj 4 sc_told_behind.nd) (aA (rD 2 hr (aa 4) nR)) PassesOwn.never)) bG)) PassesOwn.never) (fU (G1:=[]) (aA (aV (aa 2))))))
structure Tx_last_run (P:Program) (w:World) (K:PySem.W.Frag) (mg:Str->Option Value) (base:Heap) (cl:Nat->Addr) (A:Adr):Prop where
 ok:True
theorem zg {f:Addr}{fd:FuncData}(F:Fun K "last_run" "last_run" jC f fd) (T:Tx_last_run P w K mg base cl A):FnOk P w K mg base CX0 1 f fd ["rows"] (spM ⟨K,cl⟩ iC false):=by
 refine F.ok sc_last_run (λvs H Q E h=>aR h) (λcdv A' outer s H vs Q E hr h=>aQ (G:=[]) (G':=[]) (L:=[]) (N:=["rows", "told", "row"]) rfl (by decide) (by decide) (λB H'=>?_) h)
 exact(au (aZ 1 sc_last_run.nd aD) (au (fH [2] (dH (aa 0) (λ_=>by intro z;cases z)) (kj 2 sc_last_run.nd) (aA (cC (bu (cN hr (aY hr (aa 2) az) aD)) (aA (aZ 1 sc_last_run.nd (aY hr (aa 2) az))) bG)) PassesOwn.never) (aA (aV (aa 1)))))
structure Tx_told_alike (P:Program) (w:World) (K:PySem.W.Frag) (mg:Str->Option Value) (base:Heap) (cl:Nat->Addr) (A:Adr):Prop where
 ok:True
theorem wI {f:Addr}{fd:FuncData}(F:Fun K "told_alike" "told_alike" gJ f fd) (T:Tx_told_alike P w K mg base cl A):FnOk P w K mg base CX0 1 f fd ["rows"] (spM ⟨K,cl⟩ fK false):=by
 refine F.ok sc_told_alike (λvs H Q E h=>aR h) (λcdv A' outer s H vs Q E hr h=>aQ (G:=[1]) (G':=[]) (L:=[]) (N:=["rows", "told", "row"]) rfl (by decide) (by decide) (λB H'=>?_) h)
 exact(au (eY 1 sc_told_alike.nd Ng) (au (fH [2] (dH (aa 0) (λ_=>by intro z;cases z)) (kj 2 sc_told_alike.nd) (aA (cC (bu (cN hr (aY hr (aa 2) az) aD)) (aA (rD 1 hr (lU (aj (aY hr (aa 2) az) (aj (aY hr (aa 2) az) aB))) nR)) bG)) PassesOwn.never) (fU (G1:=[]) (aA (aV (aa 1))))))
structure Tx_is_letter (P:Program) (w:World) (K:PySem.W.Frag) (mg:Str->Option Value) (base:Heap) (cl:Nat->Addr) (A:Adr):Prop where
 z_len:mg "len" = none
 g_LETTERS:mg "LETTERS" = some (.str "abcdefghijklmnopqrstuvwxyz" A.t_LETTERS)
theorem yQ {f:Addr}{fd:FuncData}(F:Fun K "is_letter" "is_letter" iI f fd) (T:Tx_is_letter P w K mg base cl A):FnOk P w K mg base CX0 1 f fd ["text"] (spM ⟨K,cl⟩ cT false):=by
 refine F.ok yP (λvs H Q E h=>aR h) (λcdv A' outer s H vs Q E hr h=>aQ (G:=[]) (G':=[]) (L:=[]) (N:=["text"]) rfl (by decide) (by decide) (λB H'=>?_) h)
 exact(aA (aV (d9 (cj (cN hr (bY T.z_len (aa 0)) az)) (gj (cj (jy hr (aa 0) (M5 T.g_LETTERS)))))))
structure Tx_is_carry_row (P:Program) (w:World) (K:PySem.W.Frag) (mg:Str->Option Value) (base:Heap) (cl:Nat->Addr) (A:Adr):Prop where
 z_all:mg "all" = none
 z_len:mg "len" = none
 c_is_letter:Cal P w K mg base 1 "is_letter" ["text"] (spM ⟨K,cl⟩ cT false)
theorem uF {f:Addr}{fd:FuncData}(F:Fun K "is_carry_row" "is_carry_row" du f fd) (T:Tx_is_carry_row P w K mg base cl A):FnOk P w K mg base CX0 2 f fd ["row"] (spM ⟨K,cl⟩ cJ false):=by
 refine F.ok uD (λvs H Q E h=>aR h) (λcdv A' outer s H vs Q E hr h=>aQ (G:=[]) (G':=[]) (L:=[]) (N:=["row"]) rfl (by decide) (by decide) (λB H'=>?_) h)
 exact(aA (aV (d9 (cj (cN hr (aY hr (aa 0) az) aD)) (d9 (cj (uc (bY T.z_len (aa 0)) az)) (gj (lV T.z_all (cP (osc:=(ao du)) (ON:=["row"]) (N:=["word"]) (cap:=[none]) ⟨rfl,by decide +kernel,by decide +kernel,by decide +kernel,by decide +kernel⟩ (jk 0) (dH (dF (aa 0) (bF az) dj) (λz=>by cases z)) (λ_ _ _ _=>bj (i:=0) (show (["word"]:List Str).Nodup by decide +kernel) rfl (Or.inl rfl)) (λ_ _ _ _=>cu) (λ_ _ _ _=>(aH T.c_is_letter hr (aj (aa 0) aB))))))))))
structure Tx_is_pair_of (P:Program) (w:World) (K:PySem.W.Frag) (mg:Str->Option Value) (base:Heap) (cl:Nat->Addr) (A:Adr):Prop where
 z_len:mg "len" = none
theorem wJ {f:Addr}{fd:FuncData}(F:Fun K "is_pair_of" "is_pair_of" gK f fd) (T:Tx_is_pair_of P w K mg base cl A):FnOk P w K mg base CX0 1 f fd ["carrying", "word"] (spM ⟨K,cl⟩ il false):=by
 refine F.ok wF (λvs H Q E h=>aR h) (λcdv A' outer s H vs Q E hr h=>aQ (G:=[]) (G':=[]) (L:=[]) (N:=["carrying", "word"]) rfl (by decide) (by decide) (λB H'=>?_) h)
 exact(aA (aV (d9 (cj (cN hr (bY T.z_len (aa 1)) az)) (d9 (cj (jy hr (aY hr (aa 1) az) (aa 0))) (gj (cj (jy hr (aY hr (aa 1) az) (aa 0))))))))
structure Tx_is_one_row (P:Program) (w:World) (K:PySem.W.Frag) (mg:Str->Option Value) (base:Heap) (cl:Nat->Addr) (A:Adr):Prop where
 z_all:mg "all" = none
 z_len:mg "len" = none
 c_is_pair_of:Cal P w K mg base 1 "is_pair_of" ["carrying", "word"] (spM ⟨K,cl⟩ il false)
theorem wK {f:Addr}{fd:FuncData}(F:Fun K "is_one_row" "is_one_row" fc f fd) (T:Tx_is_one_row P w K mg base cl A):FnOk P w K mg base CX0 2 f fd ["carrying", "row"] (spM ⟨K,cl⟩ di false):=by
 refine F.ok wG (λvs H Q E h=>aR h) (λcdv A' outer s H vs Q E hr h=>aQ (G:=[]) (G':=[]) (L:=[]) (N:=["carrying", "row"]) rfl (by decide) (by decide) (λB H'=>?_) h)
 exact(aA (aV (d9 (cj (cN hr (aY hr (aa 1) az) aD)) (d9 (cj (uc (bY T.z_len (aa 1)) az)) (gj (lV T.z_all (cP (osc:=(ao fc)) (ON:=["carrying", "row"]) (N:=["word", "carrying"]) (cap:=[none,some 0]) ⟨rfl,by decide +kernel,by decide +kernel,by decide +kernel,by decide +kernel⟩ (jk 0) (dH (dF (aa 1) (bF az) dj) (λz=>by cases z)) (λ_ _ _ _=>bj (i:=0) (show (["word", "carrying"]:List Str).Nodup by decide +kernel) rfl (Or.inl rfl)) (λ_ _ _ _=>cu) (λ_ _ _ _=>(aH T.c_is_pair_of hr (aj (aa 1) (aj (aa 0) aB)))))))))))
structure Tx_is_stop (P:Program) (w:World) (K:PySem.W.Frag) (mg:Str->Option Value) (base:Heap) (cl:Nat->Addr) (A:Adr):Prop where
 c_is_letter:Cal P w K mg base 1 "is_letter" ["text"] (spM ⟨K,cl⟩ cT false)
theorem Bw {f:Addr}{fd:FuncData}(F:Fun K "is_stop" "is_stop" j6 f fd) (T:Tx_is_stop P w K mg base cl A):FnOk P w K mg base CX0 2 f fd ["carrying", "text"] (spM ⟨K,cl⟩ gZ false):=by
 refine F.ok Bu (λvs H Q E h=>aR h) (λcdv A' outer s H vs Q E hr h=>aQ (G:=[]) (G':=[]) (L:=[]) (N:=["carrying", "text"]) rfl (by decide) (by decide) (λB H'=>?_) h)
 exact(aA (aV (d9 (aH T.c_is_letter hr (aj (aa 1) aB)) (gj (cj (FT hr (aa 1) (aa 0)))))))
structure Tx_are_alike_units (P:Program) (w:World) (K:PySem.W.Frag) (mg:Str->Option Value) (base:Heap) (cl:Nat->Addr) (A:Adr):Prop where
 z_all:mg "all" = none
 z_len:mg "len" = none
 c_is_stop:Cal P w K mg base 2 "is_stop" ["carrying", "text"] (spM ⟨K,cl⟩ gZ false)
theorem q_ {f:Addr}{fd:FuncData}(F:Fun K "are_alike_units" "are_alike_units" bZ f fd) (T:Tx_are_alike_units P w K mg base cl A):FnOk P w K mg base CX0 3 f fd ["carrying", "carriers", "words"] (spM ⟨K,cl⟩ dJ false):=by
 refine F.ok qZ (λvs H Q E h=>aR h) (λcdv A' outer s H vs Q E hr h=>aQ (G:=[]) (G':=[]) (L:=[]) (N:=["carrying", "carriers", "words"]) rfl (by decide) (by decide) (λB H'=>?_) h)
 exact(au (cC (bu (nT hr (bY T.z_len (aa 2)) az)) (aA (aV nR)) bG) (aA (aV (M_ (lV T.z_all (cP (osc:=(ao bZ)) (ON:=["carrying", "carriers", "words"]) (N:=["word", "carriers"]) (cap:=[none,some 1]) ⟨rfl,by decide +kernel,by decide +kernel,by decide +kernel,by decide +kernel⟩ (jk 0) (dH (aa 2) (λz=>by cases z)) (λ_ _ _ _=>bj (i:=0) (show (["word", "carriers"]:List Str).Nodup by decide +kernel) rfl (Or.inl rfl)) (λ_ _ _ _=>cu) (λ_ _ _ _=>(cj (jy hr (aa 0) (aa 1)))))) (gj (lV T.z_all (cP (osc:=(ao bZ)) (ON:=["carrying", "carriers", "words"]) (N:=["word", "carrying"]) (cap:=[none,some 0]) ⟨rfl,by decide +kernel,by decide +kernel,by decide +kernel,by decide +kernel⟩ (jk 0) (dH (aa 2) (λz=>by cases z)) (λ_ _ _ _=>bj (i:=0) (show (["word", "carrying"]:List Str).Nodup by decide +kernel) rfl (Or.inl rfl)) (λ_ _ _ _=>cu) (λ_ _ _ _=>(aH T.c_is_stop hr (aj (aa 1) (aj (aa 0) aB)))))))))))
structure Tx_is_cluster (P:Program) (w:World) (K:PySem.W.Frag) (mg:Str->Option Value) (base:Heap) (cl:Nat->Addr) (A:Adr):Prop where
 z_all:mg "all" = none
 z_len:mg "len" = none
 g_LEAST_STOPS:mg "LEAST_STOPS" = some (.int 2 A.t_LEAST_STOPS)
 g_MOST_STOPS:mg "MOST_STOPS" = some (.int 4 A.t_MOST_STOPS)
 c_is_stop:Cal P w K mg base 2 "is_stop" ["carrying", "text"] (spM ⟨K,cl⟩ gZ false)
theorem wL {f:Addr}{fd:FuncData}(F:Fun K "is_cluster" "is_cluster" fj f fd) (T:Tx_is_cluster P w K mg base cl A):FnOk P w K mg base CX0 3 f fd ["carrying", "word"] (spM ⟨K,cl⟩ ir false):=by
 refine F.ok wH (λvs H Q E h=>aR h) (λcdv A' outer s H vs Q E hr h=>aQ (G:=[]) (G':=[]) (L:=[]) (N:=["carrying", "word"]) rfl (by decide) (by decide) (λB H'=>?_) h)
 exact(aA (aV (d9 (FW G7 G7 (Ay T.g_LEAST_STOPS) (bY T.z_len (aa 1)) (Ay T.g_MOST_STOPS)) (gj (lV T.z_all (cP (osc:=(ao fj)) (ON:=["carrying", "word"]) (N:=["sign", "carrying"]) (cap:=[none,some 0]) ⟨rfl,by decide +kernel,by decide +kernel,by decide +kernel,by decide +kernel⟩ (jk 0) (dH (aa 1) (λz=>by cases z)) (λ_ _ _ _=>bj (i:=0) (show (["sign", "carrying"]:List Str).Nodup by decide +kernel) rfl (Or.inl rfl)) (λ_ _ _ _=>cu) (λ_ _ _ _=>(aH T.c_is_stop hr (aj (aa 1) (aj (aa 0) aB))))))))))
structure Tx_is_rule (P:Program) (w:World) (K:PySem.W.Frag) (mg:Str->Option Value) (base:Heap) (cl:Nat->Addr) (A:Adr):Prop where
 z_all:mg "all" = none
 z_len:mg "len" = none
 z_list:mg "list" = none
 g_RUNS:mg "RUNS" = some (.ref A.a_RUNS)
 r_RUNS:∀ (B:Addr->Prop) (H:Hp),Rep ⟨K,cl⟩ B H (.ref A.a_RUNS) oY
 c_are_alike_units:Cal P w K mg base 3 "are_alike_units" ["carrying", "carriers", "words"] (spM ⟨K,cl⟩ dJ false)
 c_is_carry_row:Cal P w K mg base 2 "is_carry_row" ["row"] (spM ⟨K,cl⟩ cJ false)
 c_is_cluster:Cal P w K mg base 3 "is_cluster" ["carrying", "word"] (spM ⟨K,cl⟩ ir false)
 c_is_one_row:Cal P w K mg base 2 "is_one_row" ["carrying", "row"] (spM ⟨K,cl⟩ di false)
theorem Bx {f:Addr}{fd:FuncData}(F:Fun K "is_rule" "is_rule" gO f fd) (T:Tx_is_rule P w K mg base cl A):FnOk P w K mg base CX0 4 f fd ["carrying", "pairs", "row"] (spM ⟨K,cl⟩ kJ false):=by
 refine F.ok sc_is_rule (λvs H Q E h=>aR h) (λcdv A' outer s H vs Q E hr h=>aQ (G:=[]) (G':=[]) (L:=[]) (N:=["carrying", "pairs", "row", "kind", "words", "carriers"]) rfl (by decide) (by decide) (λB H'=>?_) h)
 exact(au (aZ 3 sc_is_rule.nd (aY hr (aa 2) az)) (au (aZ 4 sc_is_rule.nd (dF (aa 2) (bF az) dj)) (au (aZ 5 sc_is_rule.nd (bD (rC T.z_list (aa 0)) (rC T.z_list (aa 1)))) (au (cC (bu (cN hr (aa 3) aD)) (aA (aV (aH T.c_is_carry_row hr (aj (aa 2) aB)))) bG) (au (cC (bu (cN hr (aa 3) aD)) (aA (aV (aH T.c_is_one_row hr (aj (aa 0) (aj (aa 2) aB))))) bG) (au (cC (SW.st (rB (bu (cN hr (aa 3) aD)) (qG (bu (cN hr (aa 3) aD))))) (aA (aV (d9 (cj (uc (bY T.z_len (aa 4)) az)) (gj (lV T.z_all (cP (osc:=(ao gO)) (ON:=["carrying", "pairs", "row", "kind", "words", "carriers"]) (N:=["word", "carriers"]) (cap:=[none,some 5]) ⟨rfl,by decide +kernel,by decide +kernel,by decide +kernel,by decide +kernel⟩ (jk 0) (dH (aa 4) (λz=>by cases z)) (λ_ _ _ _=>bj (i:=0) (show (["word", "carriers"]:List Str).Nodup by decide +kernel) rfl (Or.inl rfl)) (λ_ _ _ _=>cu) (λ_ _ _ _=>(cj (jy hr (aa 0) (aa 1)))))))))) bG) (au (cC (SW.st (rB (bu (cN hr (aa 3) aD)) (qG (bu (cN hr (aa 3) aD))))) (aA (aV (d9 (cj (uc (bY T.z_len (aa 4)) az)) (gj (lV T.z_all (cP (osc:=(ao gO)) (ON:=["carrying", "pairs", "row", "kind", "words", "carriers"]) (N:=["word", "carrying"]) (cap:=[none,some 0]) ⟨rfl,by decide +kernel,by decide +kernel,by decide +kernel,by decide +kernel⟩ (jk 0) (dH (aa 4) (λz=>by cases z)) (λ_ _ _ _=>bj (i:=0) (show (["word", "carrying"]:List Str).Nodup by decide +kernel) rfl (Or.inl rfl)) (λ_ _ _ _=>cu) (λ_ _ _ _=>(aH T.c_is_cluster hr (aj (aa 1) (aj (aa 0) aB)))))))))) bG) (au (cC (bu (cN hr (aa 3) aD)) (aA (aV (d9 (cj (cN hr (bY T.z_len (aa 4)) az)) (gj (cj (jy hr (aY hr (aa 4) az) (Hd T.g_RUNS (T.r_RUNS)))))))) bG) (aA (aV (d9 (cj (cN hr (aa 3) aD)) (gj (aH T.c_are_alike_units hr (aj (aa 0) (aj (aa 5) (aj (aa 4) aB))))))))))))))))
structure Tx_Tongue____init__ (P:Program) (w:World) (K:PySem.W.Frag) (mg:Str->Option Value) (base:Heap) (cl:Nat->Addr) (A:Adr):Prop where
 z_enumerate:mg "enumerate" = none
 cl_Tongue:Cls K (cl 0)
 n_Tongue_beginnings:NoAttr K (cl 0) "beginnings"
 n_Tongue_carrying:NoAttr K (cl 0) "carrying"
 n_Tongue_eithers:NoAttr K (cl 0) "eithers"
 n_Tongue_likes:NoAttr K (cl 0) "likes"
 n_Tongue_longs:NoAttr K (cl 0) "longs"
 n_Tongue_pairs:NoAttr K (cl 0) "pairs"
 n_Tongue_running:NoAttr K (cl 0) "running"
 n_Tongue_splittings:NoAttr K (cl 0) "splittings"
 c_is_carry_row:Cal P w K mg base 2 "is_carry_row" ["row"] (spM ⟨K,cl⟩ cJ false)
 c_is_one_row:Cal P w K mg base 2 "is_one_row" ["carrying", "row"] (spM ⟨K,cl⟩ di false)
 c_is_rule:Cal P w K mg base 4 "is_rule" ["carrying", "pairs", "row"] (spM ⟨K,cl⟩ kJ false)
 c_last_run:Cal P w K mg base 1 "last_run" ["rows"] (spM ⟨K,cl⟩ iC false)
 c_told_alike:Cal P w K mg base 1 "told_alike" ["rows"] (spM ⟨K,cl⟩ fK false)
 c_told_behind:Cal P w K mg base 1 "told_behind" ["kind", "rows"] (spM ⟨K,cl⟩ a_ false)
theorem qg {f:Addr}{fd:FuncData}(F:Fun K "__init__" "Tongue.__init__" bN f fd) (T:Tx_Tongue____init__ P w K mg base cl A):FnOk P w K mg base CX0 5 f fd ["self", "rows"] (spI ⟨K,cl⟩ 0 b7):=by
 refine F.ok sc_Tongue____init__ (λvs H Q E h=>Iv h) (λcdv A' outer s H vs Q E hr h=>Iu (G:=[0]) (G':=[0]) (L:=[]) (N:=["self", "rows", "cut", "at", "row"]) rfl (by decide) (by decide) (by decide) (by decide) (λB H' x=>?_) h)
 exact(au (Lg 2 sc_Tongue____init__.nd (osc:=(ao bN)) (ON:=["self", "rows", "cut", "at", "row"]) (N:=["row"]) (cap:=[none]) ⟨rfl,by decide +kernel,by decide +kernel,by decide +kernel,by decide +kernel⟩ (jk 0) (dH (aa 1) (λz=>by cases z)) (λ_ _ _ _=>bj (i:=0) (show (["row"]:List Str).Nodup by decide +kernel) rfl (Or.inl rfl)) (λ_ _ _ _=>cu) (λ_ _ _ _=>(SE.val (Ga (aa 0) aD)))) (au (nW 0 (c:=0) T.cl_Tongue T.n_Tongue_carrying (aH T.c_told_behind hr (aj aD (aj (SE.val (cP (osc:=(ao bN)) (ON:=["self", "rows", "cut", "at", "row"]) (N:=["row"]) (cap:=[none]) ⟨rfl,by decide +kernel,by decide +kernel,by decide +kernel,by decide +kernel⟩ (jk 0) (dH (aa 2) (λz=>by cases z)) (λ_ _ _ _=>bj (i:=0) (show (["row"]:List Str).Nodup by decide +kernel) rfl (Or.inl rfl)) (λ_ _ _ _=>pG (gk (aH T.c_is_carry_row hr (aj (aa 0) aB)))) (λ_ _ _ _=>(aa 0)))) aB)))) (au (nW 0 (c:=0) T.cl_Tongue T.n_Tongue_pairs (aH T.c_told_behind hr (aj aD (aj (SE.val (cP (osc:=(ao bN)) (ON:=["self", "rows", "cut", "at", "row"]) (N:=["row", "self"]) (cap:=[none,some 0]) ⟨rfl,by decide +kernel,by decide +kernel,by decide +kernel,by decide +kernel⟩ (jk 0) (dH (aa 2) (λz=>by cases z)) (λ_ _ _ _=>bj (i:=0) (show (["row", "self"]:List Str).Nodup by decide +kernel) rfl (Or.inl rfl)) (λ_ _ _ _=>pG (gk (aH T.c_is_one_row hr (aj (jO (c:=0) T.cl_Tongue T.n_Tongue_carrying (mz 1)) (aj (aa 0) aB))))) (λ_ _ _ _=>(aa 0)))) aB)))) (au (fH [3,4] (zH T.z_enumerate (aa 2) (λ_=>by intro z;cases z)) (Bd (ji 3 sc_Tongue____init__.nd (ji 4 sc_Tongue____init__.nd rE))) (aA (cC (ud (gk (aH T.c_is_rule hr (aj (jO (c:=0) T.cl_Tongue T.n_Tongue_carrying (mz 0)) (aj (jO (c:=0) T.cl_Tongue T.n_Tongue_pairs (mz 0)) (aj (aa 4) aB)))))) (aA K_) bG)) PassesOwn.never) (au (nW 0 (c:=0) T.cl_Tongue T.n_Tongue_longs (aH T.c_told_behind hr (aj aD (aj (aa 2) aB)))) (au (nW 0 (c:=0) T.cl_Tongue T.n_Tongue_eithers (aH T.c_told_behind hr (aj aD (aj (aa 2) aB)))) (au (nW 0 (c:=0) T.cl_Tongue T.n_Tongue_beginnings (aH T.c_told_behind hr (aj aD (aj (aa 2) aB)))) (au (nW 0 (c:=0) T.cl_Tongue T.n_Tongue_splittings (aH T.c_told_behind hr (aj aD (aj (aa 2) aB)))) (au (nW 0 (c:=0) T.cl_Tongue T.n_Tongue_running (aH T.c_last_run hr (aj (aa 2) aB))) (aA (nW 0 (c:=0) T.cl_Tongue T.n_Tongue_likes (aH T.c_told_alike hr (aj (aa 2) aB)))))))))))))
structure Tx__law_words (P:Program) (w:World) (K:PySem.W.Frag) (mg:Str->Option Value) (base:Heap) (cl:Nat->Addr) (A:Adr):Prop where
 z_abs:mg "abs" = none
 z_len:mg "len" = none
 z_range:mg "range" = none
theorem wM {f:Addr}{fd:FuncData}(F:Fun K "_law_words" "_law_words" dO f fd) (T:Tx__law_words P w K mg base cl A):FnOk P w K mg base CX0 1 f fd ["_law_cells"] (spM ⟨K,cl⟩ fL false):=by
 refine F.ok sc__law_words (λvs H Q E h=>aR h) (λcdv A' outer s H vs Q E hr h=>aQ (G:=[1]) (G':=[]) (L:=[]) (N:=["_law_cells", "_law_words_here", "_law_k", "_law_n", "_law_some", "_law_word_here"]) rfl (by decide) (by decide) (λB H'=>?_) h)
 exact(au (eY 1 sc__law_words.nd (b8 aB)) (au (fH [2,3,4,5] (ug T.z_range (oV (bY T.z_len (aa 0)) az)) (kj 2 sc__law_words.nd) (au (aZ 3 sc__law_words.nd (Lj T.z_abs (aY hr (aa 0) (xY az (aa 2))))) (au (aZ 4 sc__law_words.nd (SE.val (b8 (aj aD (aj aD (aj aD (aj aD (aj aD (aj aD (aj aD (aj aD (aj aD aB)))))))))))) (au (aZ 5 sc__law_words.nd (oW aD (cP (osc:=(ao dO)) (ON:=["_law_cells", "_law_words_here", "_law_k", "_law_n", "_law_some", "_law_word_here"]) (N:=["_law_j", "_law_some", "_law_cells", "_law_k"]) (cap:=[none,some 4,some 0,some 2]) ⟨rfl,by decide +kernel,by decide +kernel,by decide +kernel,by decide +kernel⟩ (jk 0) (ug T.z_range (bD az (kh (aa 3) az))) (λ_ _ _ _=>bj (i:=0) (show (["_law_j", "_law_some", "_law_cells", "_law_k"]:List Str).Nodup by decide +kernel) rfl (Or.inl rfl)) (λ_ _ _ _=>cu) (λ_ _ _ _=>(aY hr (aa 1) (kh (aY hr (aa 2) (bD (xY az (aa 3)) (aa 0))) az)))))) (au (aZ 5 sc__law_words.nd (bD (bD (aY hr (b8 (aj aD (aj aD (aj aD (aj aD aB))))) (kh (oV (aa 3) az) az)) (aa 5)) (aY hr (b8 (aj aD (aj aD (aj aD (aj aD aB))))) (kh (oV (aa 3) az) az)))) (au (cC (bu (cN hr (bY T.z_len (cP (osc:=(ao dO)) (ON:=["_law_cells", "_law_words_here", "_law_k", "_law_n", "_law_some", "_law_word_here"]) (N:=["_law_letter"]) (cap:=[none]) ⟨rfl,by decide +kernel,by decide +kernel,by decide +kernel,by decide +kernel⟩ (jk 0) (dH (aa 5) (λz=>by cases z)) (λ_ _ _ _=>bj (i:=0) (show (["_law_letter"]:List Str).Nodup by decide +kernel) rfl (Or.inl rfl)) (λ_ _ _ _=>pG (bu (jy hr (aa 0) aD))) (λ_ _ _ _=>(aa 0)))) az)) (aA (aZ 5 sc__law_words.nd (bD (aa 5) aD))) bG) (aA (fG 1 (aa 5)))))))) PassesOwn.never) (fU (G1:=[]) (aA (aV (aa 1))))))
structure Tx_Tongue__carries (P:Program) (w:World) (K:PySem.W.Frag) (mg:Str->Option Value) (base:Heap) (cl:Nat->Addr) (A:Adr):Prop where
 cl_Tongue:Cls K (cl 0)
 n_Tongue_carrying:NoAttr K (cl 0) "carrying"
theorem rm {f:Addr}{fd:FuncData}(F:Fun K "carries" "Tongue.carries" dg f fd) (T:Tx_Tongue__carries P w K mg base cl A):FnOk P w K mg base CX0 1 f fd ["self", "letter"] (spM ⟨K,cl⟩ bc false):=by
 refine F.ok q8 (λvs H Q E h=>aR h) (λcdv A' outer s H vs Q E hr h=>aQ (G:=[]) (G':=[]) (L:=[]) (N:=["self", "letter"]) rfl (by decide) (by decide) (λB H'=>?_) h)
 exact(aA (aV (cj (jy hr (aa 1) (jO (c:=0) T.cl_Tongue T.n_Tongue_carrying (aa 0))))))
structure Tx_is_word (P:Program) (w:World) (K:PySem.W.Frag) (mg:Str->Option Value) (base:Heap) (cl:Nat->Addr) (A:Adr):Prop where
 z_all:mg "all" = none
 z_any:mg "any" = none
 z_isinstance:mg "isinstance" = none
 z_len:mg "len" = none
 z_str:mg "str" = none
 is_str:∀ t k,(t,k)∈tb_str->PySem.W.kitOne K (.type t) (.type "str")=some k
 g_MOST_LETTERS:mg "MOST_LETTERS" = some (.int 24 A.t_MOST_LETTERS)
 cl_Tongue:Cls K (cl 0)
 c_is_letter:Cal P w K mg base 1 "is_letter" ["text"] (spM ⟨K,cl⟩ cT false)
 m_Tongue__carries:CalM P w K mg base (cl 0) 1 "carries" ["self", "letter"] (spM ⟨K,cl⟩ bc false)
theorem By {f:Addr}{fd:FuncData}(F:Fun K "is_word" "is_word" gP f fd) (T:Tx_is_word P w K mg base cl A):FnOk P w K mg base CX0 2 f fd ["tongue", "thing"] (spM ⟨K,cl⟩ kY false):=by
 refine F.ok Bv (λvs H Q E h=>aR h) (λcdv A' outer s H vs Q E hr h=>aQ (G:=[]) (G':=[]) (L:=[]) (N:=["tongue", "thing"]) rfl (by decide) (by decide) (λB H'=>?_) h)
 exact(au (cC (SW.st (rB (ud (gk (yd tb_str T.is_str T.z_isinstance T.z_str PyProof.Rows.boot_str (aa 1)))) (qG (bu (uc (bY T.z_len (aa 1)) (Ay T.g_MOST_LETTERS)))))) (aA (aV nR)) bG) (aA (aV (d9 (lV T.z_all (cP (osc:=(ao gP)) (ON:=["tongue", "thing"]) (N:=["sign"]) (cap:=[none]) ⟨rfl,by decide +kernel,by decide +kernel,by decide +kernel,by decide +kernel⟩ (jk 0) (dH (aa 1) (λz=>by cases z)) (λ_ _ _ _=>bj (i:=0) (show (["sign"]:List Str).Nodup by decide +kernel) rfl (Or.inl rfl)) (λ_ _ _ _=>cu) (λ_ _ _ _=>(aH T.c_is_letter hr (aj (aa 0) aB))))) (gj (K9 T.z_any (cP (osc:=(ao gP)) (ON:=["tongue", "thing"]) (N:=["sign", "tongue"]) (cap:=[none,some 0]) ⟨rfl,by decide +kernel,by decide +kernel,by decide +kernel,by decide +kernel⟩ (jk 0) (dH (aa 1) (λz=>by cases z)) (λ_ _ _ _=>bj (i:=0) (show (["sign", "tongue"]:List Str).Nodup by decide +kernel) rfl (Or.inl rfl)) (λ_ _ _ _=>cu) (λ_ _ _ _=>(gY (c:=0) T.m_Tongue__carries T.cl_Tongue hr (aa 1) (aj (aa 0) aB))))))))))
structure Tx_refuse_no_word (P:Program) (w:World) (K:PySem.W.Frag) (mg:Str->Option Value) (base:Heap) (cl:Nat->Addr) (A:Adr):Prop where
 c_is_word:Cal P w K mg base 2 "is_word" ["tongue", "thing"] (spM ⟨K,cl⟩ kY false)
theorem rZ {f:Addr}{fd:FuncData}(F:Fun K "refuse_no_word" "refuse_no_word" dw f fd) (T:Tx_refuse_no_word P w K mg base cl A):FnOk P w K mg base CX0 3 f fd ["tongue", "thing"] (spM ⟨K,cl⟩ bI false):=by
 refine F.ok rQ (λvs H Q E h=>aR h) (λcdv A' outer s H vs Q E hr h=>aQ (G:=[]) (G':=[]) (L:=[]) (N:=["tongue", "thing"]) rfl (by decide) (by decide) (λB H'=>?_) h)
 exact(aA (cC (ud (gk (aH T.c_is_word hr (aj (aa 0) (aj (aa 1) aB))))) (aA K_) bG))
structure Tx_Tongue__is_pair (P:Program) (w:World) (K:PySem.W.Frag) (mg:Str->Option Value) (base:Heap) (cl:Nat->Addr) (A:Adr):Prop where
 cl_Tongue:Cls K (cl 0)
 n_Tongue_pairs:NoAttr K (cl 0) "pairs"
theorem rn {f:Addr}{fd:FuncData}(F:Fun K "is_pair" "Tongue.is_pair" dh f fd) (T:Tx_Tongue__is_pair P w K mg base cl A):FnOk P w K mg base CX0 1 f fd ["self", "pair"] (spM ⟨K,cl⟩ dM false):=by
 refine F.ok q9 (λvs H Q E h=>aR h) (λcdv A' outer s H vs Q E hr h=>aQ (G:=[]) (G':=[]) (L:=[]) (N:=["self", "pair"]) rfl (by decide) (by decide) (λB H'=>?_) h)
 exact(aA (aV (cj (jy hr (aa 1) (jO (c:=0) T.cl_Tongue T.n_Tongue_pairs (aa 0))))))
structure Tx_units_of (P:Program) (w:World) (K:PySem.W.Frag) (mg:Str->Option Value) (base:Heap) (cl:Nat->Addr) (A:Adr):Prop where
 z_len:mg "len" = none
 cl_Tongue:Cls K (cl 0)
 c_refuse_no_word:Cal P w K mg base 3 "refuse_no_word" ["tongue", "thing"] (spM ⟨K,cl⟩ bI false)
 m_Tongue__is_pair:CalM P w K mg base (cl 0) 1 "is_pair" ["self", "pair"] (spM ⟨K,cl⟩ dM false)
theorem zj {f:Addr}{fd:FuncData}(F:Fun K "units_of" "units_of" jD f fd) (T:Tx_units_of P w K mg base cl A):FnOk P w K mg base CX0 4 f fd ["tongue", "word"] (spM ⟨K,cl⟩ iD false):=by
 refine F.ok sc_units_of (λvs H Q E h=>aR h) (λcdv A' outer s H vs Q E hr h=>aQ (G:=[2]) (G':=[]) (L:=[]) (N:=["tongue", "word", "units", "at", "size"]) rfl (by decide) (by decide) (λB H'=>?_) h)
 exact(au (Di (aH T.c_refuse_no_word hr (aj (aa 0) (aj (aa 1) aB)))) (au (eY 2 sc_units_of.nd (b8 aB)) (au (aZ 3 sc_units_of.nd az) (au (Ir 1000000 [4] (bu (Hf (aa 3) (bY T.z_len (aa 1)))) (au (aZ 4 sc_units_of.nd (Nb (gk (gY (c:=0) T.m_Tongue__is_pair T.cl_Tongue hr (aa 0) (aj (dF (aa 1) (bF (aa 3)) (bF (bD (aa 3) az))) aB))) az az)) (au (fG 2 (dF (aa 1) (bF (aa 3)) (bF (bD (aa 3) (aa 4))))) (aA (aZ 3 sc_units_of.nd (bD (aa 3) (aa 4)))))) PassesOwn.never) (fU (G1:=[]) (aA (aV (aa 2))))))))
structure Tx_carriers_of (P:Program) (w:World) (K:PySem.W.Frag) (mg:Str->Option Value) (base:Heap) (cl:Nat->Addr) (A:Adr):Prop where
 cl_Tongue:Cls K (cl 0)
 m_Tongue__carries:CalM P w K mg base (cl 0) 1 "carries" ["self", "letter"] (spM ⟨K,cl⟩ bc false)
theorem vm {f:Addr}{fd:FuncData}(F:Fun K "carriers_of" "carriers_of" d8 f fd) (T:Tx_carriers_of P w K mg base cl A):FnOk P w K mg base CX0 2 f fd ["tongue", "units"] (spM ⟨K,cl⟩ eG false):=by
 refine F.ok vf (λvs H Q E h=>aR h) (λcdv A' outer s H vs Q E hr h=>aQ (G:=[]) (G':=[]) (L:=[]) (N:=["tongue", "units"]) rfl (by decide) (by decide) (λB H'=>?_) h)
 exact(aA (aV (SE.val (cP (osc:=(ao d8)) (ON:=["tongue", "units"]) (N:=["unit", "tongue"]) (cap:=[none,some 0]) ⟨rfl,by decide +kernel,by decide +kernel,by decide +kernel,by decide +kernel⟩ (jk 0) (dH (aa 1) (λz=>by cases z)) (λ_ _ _ _=>bj (i:=0) (show (["unit", "tongue"]:List Str).Nodup by decide +kernel) rfl (Or.inl rfl)) (λ_ _ _ _=>pG (gk (gY (c:=0) T.m_Tongue__carries T.cl_Tongue hr (aa 1) (aj (aY hr (aa 0) az) aB)))) (λ_ _ _ _=>(aa 0))))))
structure Tx_gaps_of (P:Program) (w:World) (K:PySem.W.Frag) (mg:Str->Option Value) (base:Heap) (cl:Nat->Addr) (A:Adr):Prop where
 cl_Tongue:Cls K (cl 0)
 m_Tongue__carries:CalM P w K mg base (cl 0) 1 "carries" ["self", "letter"] (spM ⟨K,cl⟩ bc false)
theorem BJ {f:Addr}{fd:FuncData}(F:Fun K "gaps_of" "gaps_of" j7 f fd) (T:Tx_gaps_of P w K mg base cl A):FnOk P w K mg base CX0 2 f fd ["tongue", "units"] (spM ⟨K,cl⟩ jA false):=by
 refine F.ok sc_gaps_of (λvs H Q E h=>aR h) (λcdv A' outer s H vs Q E hr h=>aQ (G:=[2]) (G':=[]) (L:=[]) (N:=["tongue", "units", "gaps", "unit"]) rfl (by decide) (by decide) (λB H'=>?_) h)
 exact(au (eY 2 sc_gaps_of.nd (b8 (aj aD aB))) (au (fH [3] (dH (aa 1) (λ_=>by intro z;cases z)) (kj 3 sc_gaps_of.nd) (aA (cC (gk (gY (c:=0) T.m_Tongue__carries T.cl_Tongue hr (aa 0) (aj (aY hr (aa 3) az) aB))) (aA (fG 2 aD)) (aA (rD 2 hr (jN az) (bD (aY hr (mz 2) (jN az)) (aa 3)))))) PassesOwn.never) (fU (G1:=[]) (aA (aV (aa 2))))))
structure Tx_Tongue__splits (P:Program) (w:World) (K:PySem.W.Frag) (mg:Str->Option Value) (base:Heap) (cl:Nat->Addr) (A:Adr):Prop where
 cl_Tongue:Cls K (cl 0)
 n_Tongue_splittings:NoAttr K (cl 0) "splittings"
theorem sr {f:Addr}{fd:FuncData}(F:Fun K "splits" "Tongue.splits" dz f fd) (T:Tx_Tongue__splits P w K mg base cl A):FnOk P w K mg base CX0 1 f fd ["self", "cluster"] (spM ⟨K,cl⟩ cG false):=by
 refine F.ok rR (λvs H Q E h=>aR h) (λcdv A' outer s H vs Q E hr h=>aQ (G:=[]) (G':=[]) (L:=[]) (N:=["self", "cluster"]) rfl (by decide) (by decide) (λB H'=>?_) h)
 exact(aA (aV (cj (jy hr (aa 1) (jO (c:=0) T.cl_Tongue T.n_Tongue_splittings (aa 0))))))
structure Tx_Tongue__begins (P:Program) (w:World) (K:PySem.W.Frag) (mg:Str->Option Value) (base:Heap) (cl:Nat->Addr) (A:Adr):Prop where
 cl_Tongue:Cls K (cl 0)
 n_Tongue_beginnings:NoAttr K (cl 0) "beginnings"
theorem su {f:Addr}{fd:FuncData}(F:Fun K "begins" "Tongue.begins" dB f fd) (T:Tx_Tongue__begins P w K mg base cl A):FnOk P w K mg base CX0 1 f fd ["self", "cluster"] (spM ⟨K,cl⟩ d_ false):=by
 refine F.ok rT (λvs H Q E h=>aR h) (λcdv A' outer s H vs Q E hr h=>aQ (G:=[]) (G':=[]) (L:=[]) (N:=["self", "cluster"]) rfl (by decide) (by decide) (λB H'=>?_) h)
 exact(aA (aV (cj (jy hr (aa 1) (jO (c:=0) T.cl_Tongue T.n_Tongue_beginnings (aa 0))))))
structure Tx_staying (P:Program) (w:World) (K:PySem.W.Frag) (mg:Str->Option Value) (base:Heap) (cl:Nat->Addr) (A:Adr):Prop where
 z_len:mg "len" = none
 z_range:mg "range" = none
 cl_Tongue:Cls K (cl 0)
 m_Tongue__begins:CalM P w K mg base (cl 0) 1 "begins" ["self", "cluster"] (spM ⟨K,cl⟩ d_ false)
 m_Tongue__splits:CalM P w K mg base (cl 0) 1 "splits" ["self", "cluster"] (spM ⟨K,cl⟩ cG false)
theorem BK {f:Addr}{fd:FuncData}(F:Fun K "staying" "staying" j8 f fd) (T:Tx_staying P w K mg base cl A):FnOk P w K mg base CX0 2 f fd ["tongue", "stops"] (spM ⟨K,cl⟩ jB false):=by
 refine F.ok sc_staying (λvs H Q E h=>aR h) (λcdv A' outer s H vs Q E hr h=>aQ (G:=[]) (G':=[]) (L:=[]) (N:=["tongue", "stops", "start"]) rfl (by decide) (by decide) (λB H'=>?_) h)
 exact(au (cC (gk (gY (c:=0) T.m_Tongue__splits T.cl_Tongue hr (aa 0) (aj (aa 1) aB))) (aA (aV aD)) bG) (au (fH [2] (ug T.z_range (bY T.z_len (aa 1))) (kj 2 sc_staying.nd) (aA (cC (gk (gY (c:=0) T.m_Tongue__begins T.cl_Tongue hr (aa 0) (aj (dF (aa 1) (bF (aa 2)) dj) aB))) (aA (aV (dF (aa 1) dj (bF (aa 2))))) bG)) PassesOwn.never) (aA (aV (dF (aa 1) dj (bF (jN az)))))))
structure Tx_syllables_of (P:Program) (w:World) (K:PySem.W.Frag) (mg:Str->Option Value) (base:Heap) (cl:Nat->Addr) (A:Adr):Prop where
 z_len:mg "len" = none
 z_zip:mg "zip" = none
 cl_Tongue:Cls K (cl 0)
 c_carriers_of:Cal P w K mg base 2 "carriers_of" ["tongue", "units"] (spM ⟨K,cl⟩ eG false)
 c_gaps_of:Cal P w K mg base 2 "gaps_of" ["tongue", "units"] (spM ⟨K,cl⟩ jA false)
 c_staying:Cal P w K mg base 2 "staying" ["tongue", "stops"] (spM ⟨K,cl⟩ jB false)
 c_units_of:Cal P w K mg base 4 "units_of" ["tongue", "word"] (spM ⟨K,cl⟩ iD false)
 m_Tongue__splits:CalM P w K mg base (cl 0) 1 "splits" ["self", "cluster"] (spM ⟨K,cl⟩ cG false)
theorem uG {f:Addr}{fd:FuncData}(F:Fun K "syllables_of" "syllables_of" eQ f fd) (T:Tx_syllables_of P w K mg base cl A):FnOk P w K mg base CX0 5 f fd ["tongue", "word"] (spM ⟨K,cl⟩ bx false):=by
 refine F.ok sc_syllables_of (λvs H Q E h=>aR h) (λcdv A' outer s H vs Q E hr h=>aQ (G:=[5]) (G':=[]) (L:=[]) (N:=["tongue", "word", "units", "carriers", "gaps", "syllables", "head", "carrier", "stops", "tail"]) rfl (by decide) (by decide) (λB H'=>?_) h)
 exact(au (aZ 2 sc_syllables_of.nd (aH T.c_units_of hr (aj (aa 0) (aj (aa 1) aB)))) (au (aZ 3 sc_syllables_of.nd (aH T.c_carriers_of hr (aj (aa 0) (aj (aa 2) aB)))) (au (aZ 4 sc_syllables_of.nd (aH T.c_gaps_of hr (aj (aa 0) (aj (aa 2) aB)))) (au (eY 5 sc_syllables_of.nd (b8 aB)) (au (aZ 6 sc_syllables_of.nd (aY hr (aa 4) az)) (au (fH [7,8,9] (um T.z_zip (dF (aa 3) dj (bF (jN az))) (dF (aa 4) (bF az) (bF (jN az))) (λ_=>by intro z;cases z) (λ_=>by intro z;cases z)) (Bd (ji 7 sc_syllables_of.nd (ji 8 sc_syllables_of.nd rE))) (au (aZ 9 sc_syllables_of.nd (aH T.c_staying hr (aj (aa 0) (aj (aa 8) aB)))) (au (fG 5 (lU (aj (aa 6) (aj (aa 7) (aj (aa 9) (aj (gY (c:=0) T.m_Tongue__splits T.cl_Tongue hr (aa 0) (aj (aa 8) aB)) aB)))))) (aA (aZ 6 sc_syllables_of.nd (dF (aa 8) (bF (bY T.z_len (aa 9))) dj))))) PassesOwn.never) (au (fG 5 (lU (aj (aa 6) (aj (aY hr (aa 3) (jN az)) (aj (aY hr (aa 4) (jN az)) (aj nR aB)))))) (fU (G1:=[]) (aA (aV (aa 5)))))))))))
structure Tx_Tongue__weight (P:Program) (w:World) (K:PySem.W.Frag) (mg:Str->Option Value) (base:Heap) (cl:Nat->Addr) (A:Adr):Prop where
 cl_Tongue:Cls K (cl 0)
 n_Tongue_eithers:NoAttr K (cl 0) "eithers"
 n_Tongue_longs:NoAttr K (cl 0) "longs"
theorem sy {f:Addr}{fd:FuncData}(F:Fun K "weight" "Tongue.weight" dC f fd) (T:Tx_Tongue__weight P w K mg base cl A):FnOk P w K mg base CX0 1 f fd ["self", "carrier"] (spM ⟨K,cl⟩ cH false):=by
 refine F.ok rW (λvs H Q E h=>aR h) (λcdv A' outer s H vs Q E hr h=>aQ (G:=[]) (G':=[]) (L:=[]) (N:=["self", "carrier"]) rfl (by decide) (by decide) (λB H'=>?_) h)
 exact(au (cC (bu (jy hr (aa 1) (jO (c:=0) T.cl_Tongue T.n_Tongue_longs (aa 0)))) (aA (aV aD)) bG) (au (cC (bu (jy hr (aa 1) (jO (c:=0) T.cl_Tongue T.n_Tongue_eithers (aa 0)))) (aA (aV aD)) bG) (aA (aV aD))))
structure Tx_ways_of (P:Program) (w:World) (K:PySem.W.Frag) (mg:Str->Option Value) (base:Heap) (cl:Nat->Addr) (A:Adr):Prop where
 cl_Tongue:Cls K (cl 0)
 m_Tongue__weight:CalM P w K mg base (cl 0) 1 "weight" ["self", "carrier"] (spM ⟨K,cl⟩ cH false)
theorem BL {f:Addr}{fd:FuncData}(F:Fun K "ways_of" "ways_of" j9 f fd) (T:Tx_ways_of P w K mg base cl A):FnOk P w K mg base CX0 2 f fd ["tongue", "carrier", "tail", "split"] (spM ⟨K,cl⟩ cU true):=by
 refine F.ok sc_ways_of (λvs H Q E h=>aR h) (λcdv A' outer s H vs Q E hr h=>aQ (G:=[5]) (G':=[5]) (L:=[]) (N:=["tongue", "carrier", "tail", "split", "weight", "ways"]) rfl (by decide) (by decide) (λB H'=>?_) h)
 exact(au (cC (bu (nT hr (aa 2) aD)) (aA (Lb (b8 (aj (lU (aj az (aj aD aB))) aB)))) bG) (au (aZ 4 sc_ways_of.nd (gY (c:=0) T.m_Tongue__weight T.cl_Tongue hr (aa 0) (aj (aa 1) aB))) (au (eY 5 sc_ways_of.nd (b8 aB)) (au (cC (bu (nT hr (aa 4) aD)) (aA (fG 5 (lU (aj az (aj aD aB))))) bG) (au (cC (bu (nT hr (aa 4) aD)) (aA (fG 5 (lU (aj az (aj aD aB))))) bG) (au (cC (gk (aa 3)) (aA (fG 5 (lU (aj az (aj aD aB))))) bG) (aA (Dh 5))))))))
structure Tx_Tongue__run (P:Program) (w:World) (K:PySem.W.Frag) (mg:Str->Option Value) (base:Heap) (cl:Nat->Addr) (A:Adr):Prop where
 cl_Tongue:Cls K (cl 0)
 n_Tongue_running:NoAttr K (cl 0) "running"
theorem vo {f:Addr}{fd:FuncData}(F:Fun K "run" "Tongue.run" fQ f fd) (T:Tx_Tongue__run P w K mg base cl A):FnOk P w K mg base CX0 1 f fd ["self"] (spM ⟨K,cl⟩ eN false):=by
 refine F.ok vg (λvs H Q E h=>aR h) (λcdv A' outer s H vs Q E hr h=>aQ (G:=[]) (G':=[]) (L:=[]) (N:=["self"]) rfl (by decide) (by decide) (λB H'=>?_) h)
 exact(aA (aV (jO (c:=0) T.cl_Tongue T.n_Tongue_running (aa 0))))
structure Tx_last_ways (P:Program) (w:World) (K:PySem.W.Frag) (mg:Str->Option Value) (base:Heap) (cl:Nat->Addr) (A:Adr):Prop where
 cl_Tongue:Cls K (cl 0)
 c_ways_of:Cal P w K mg base 2 "ways_of" ["tongue", "carrier", "tail", "split"] (spM ⟨K,cl⟩ cU true)
 m_Tongue__run:CalM P w K mg base (cl 0) 1 "run" ["self"] (spM ⟨K,cl⟩ eN false)
theorem yR {f:Addr}{fd:FuncData}(F:Fun K "last_ways" "last_ways" iJ f fd) (T:Tx_last_ways P w K mg base cl A):FnOk P w K mg base CX0 3 f fd ["tongue", "carrier", "tail"] (spM ⟨K,cl⟩ cV false):=by
 refine F.ok sc_last_ways (λvs H Q E h=>aR h) (λcdv A' outer s H vs Q E hr h=>aQ (G:=[3]) (G':=[]) (L:=[]) (N:=["tongue", "carrier", "tail", "ways"]) rfl (by decide) (by decide) (λB H'=>?_) h)
 exact(au (cC (bu (nT hr (aa 2) aD)) (aA (aV (SE.val (pL T.c_ways_of hr (aj (aa 0) (aj (aa 1) (aj (dF (aa 2) dj (bF (jN az))) (aj nR aB)))))))) bG) (au (cC (bu (cN hr (vL (c:=0) T.m_Tongue__run T.cl_Tongue hr (aa 0)) aD)) (aA (aV (SE.val (b8 (aj ni aB))))) bG) (au (eY 3 sc_last_ways.nd (pL T.c_ways_of hr (aj (aa 0) (aj (aa 1) (aj (aa 2) (aj nR aB)))))) (au (cC (bu (cN hr (vL (c:=0) T.m_Tongue__run T.cl_Tongue hr (aa 0)) aD)) (aA (fG 3 ni)) bG) (fU (G1:=[]) (aA (aV (aa 3))))))))
structure Tx_options_of (P:Program) (w:World) (K:PySem.W.Frag) (mg:Str->Option Value) (base:Heap) (cl:Nat->Addr) (A:Adr):Prop where
 cl_Tongue:Cls K (cl 0)
 c_last_ways:Cal P w K mg base 3 "last_ways" ["tongue", "carrier", "tail"] (spM ⟨K,cl⟩ cV false)
 c_refuse_no_word:Cal P w K mg base 3 "refuse_no_word" ["tongue", "thing"] (spM ⟨K,cl⟩ bI false)
 c_syllables_of:Cal P w K mg base 5 "syllables_of" ["tongue", "word"] (spM ⟨K,cl⟩ bx false)
 c_ways_of:Cal P w K mg base 2 "ways_of" ["tongue", "carrier", "tail", "split"] (spM ⟨K,cl⟩ cU true)
 m_Tongue__carries:CalM P w K mg base (cl 0) 1 "carries" ["self", "letter"] (spM ⟨K,cl⟩ bc false)
theorem wN {f:Addr}{fd:FuncData}(F:Fun K "options_of" "options_of" fu f fd) (T:Tx_options_of P w K mg base cl A):FnOk P w K mg base CX0 6 f fd ["tongue", "word", "follow"] (spM ⟨K,cl⟩ bO false):=by
 refine F.ok sc_options_of (λvs H Q E h=>aR h) (λcdv A' outer s H vs Q E hr h=>aQ (G:=[4]) (G':=[]) (L:=[]) (N:=["tongue", "word", "follow", "syllables", "options", "last"]) rfl (by decide) (by decide) (λB H'=>?_) h)
 exact(au (aZ 3 sc_options_of.nd (aH T.c_syllables_of hr (aj (aa 0) (aj (aa 1) aB)))) (au (uY 4 sc_options_of.nd (osc:=(ao fu)) (ON:=["tongue", "word", "follow", "syllables", "options", "last"]) (N:=["head", "carrier", "tail", "split", "tongue"]) (cap:=[none,none,none,none,some 0]) ⟨rfl,by decide +kernel,by decide +kernel,by decide +kernel,by decide +kernel⟩ (Be [0,1,2,3]) (dH (aa 3) (λz=>by cases z)) (λ_ _ _ _=>ql rfl (dY (bj (i:=0) (show (["head", "carrier", "tail", "split", "tongue"]:List Str).Nodup by decide +kernel) rfl (Or.inl rfl)) (dY (bj (i:=1) (show (["head", "carrier", "tail", "split", "tongue"]:List Str).Nodup by decide +kernel) rfl (Or.inl rfl)) (dY (bj (i:=2) (show (["head", "carrier", "tail", "split", "tongue"]:List Str).Nodup by decide +kernel) rfl (Or.inl rfl)) (dY (bj (i:=3) (show (["head", "carrier", "tail", "split", "tongue"]:List Str).Nodup by decide +kernel) rfl (Or.inl rfl)) oK))))) (λ_ _ _ _=>cu) (λ_ _ _ _=>(SE.val (pL T.c_ways_of hr (aj (aa 4) (aj (aa 1) (aj (aa 2) (aj (aa 3) aB)))))))) (au (cC (bu (A_ (aa 2) ni)) (fU (G1:=[]) (aA (aV (aa 4)))) bG) (au (Di (aH T.c_refuse_no_word hr (aj (aa 0) (aj (aa 2) aB)))) (au (cC (gk (gY (c:=0) T.m_Tongue__carries T.cl_Tongue hr (aa 0) (aj (aY hr (aa 2) az) aB))) (au (aZ 5 sc_options_of.nd (aY hr (aa 3) (jN az))) (aA (rD 4 hr (jN az) (aH T.c_last_ways hr (aj (aa 0) (aj (aY hr (aa 5) az) (aj (aY hr (aa 5) az) aB))))))) bG) (fU (G1:=[]) (aA (aV (aa 4)))))))))
structure Tx_table_of (P:Program) (w:World) (K:PySem.W.Frag) (mg:Str->Option Value) (base:Heap) (cl:Nat->Addr) (A:Adr):Prop where
 z_zip:mg "zip" = none
 c_options_of:Cal P w K mg base 6 "options_of" ["tongue", "word", "follow"] (spM ⟨K,cl⟩ bO false)
theorem zm {f:Addr}{fd:FuncData}(F:Fun K "table_of" "table_of" ik f fd) (T:Tx_table_of P w K mg base cl A):FnOk P w K mg base CX0 7 f fd ["tongue", "words"] (spM ⟨K,cl⟩ dG false):=by
 refine F.ok sc_table_of (λvs H Q E h=>aR h) (λcdv A' outer s H vs Q E hr h=>aQ (G:=[]) (G':=[]) (L:=[]) (N:=["tongue", "words", "follows"]) rfl (by decide) (by decide) (λB H'=>?_) h)
 exact(au (aZ 2 sc_table_of.nd (SE.val (Dc (dF (aa 1) (bF az) dj) (b8 (aj ni aB))))) (aA (aV (SE.val (cP (osc:=(ao ik)) (ON:=["tongue", "words", "follows"]) (N:=["word", "follow", "tongue"]) (cap:=[none,none,some 0]) ⟨rfl,by decide +kernel,by decide +kernel,by decide +kernel,by decide +kernel⟩ (Be [0,1]) (um T.z_zip (aa 1) (aa 2) (λz=>by cases z) (λz=>by cases z)) (λ_ _ _ _=>ql rfl (dY (bj (i:=0) (show (["word", "follow", "tongue"]:List Str).Nodup by decide +kernel) rfl (Or.inl rfl)) (dY (bj (i:=1) (show (["word", "follow", "tongue"]:List Str).Nodup by decide +kernel) rfl (Or.inl rfl)) oK))) (λ_ _ _ _=>cu) (λ_ _ _ _=>(aH T.c_options_of hr (aj (aa 2) (aj (aa 0) (aj (aa 1) aB))))))))))
structure Tx_options_in (P:Program) (w:World) (K:PySem.W.Frag) (mg:Str->Option Value) (base:Heap) (cl:Nat->Addr) (A:Adr):Prop where
 ok:True
theorem wO {f:Addr}{fd:FuncData}(F:Fun K "options_in" "options_in" gM f fd) (T:Tx_options_in P w K mg base cl A):FnOk P w K mg base CX0 1 f fd ["table"] (spM ⟨K,cl⟩ dZ false):=by
 refine F.ok sc_options_in (λvs H Q E h=>aR h) (λcdv A' outer s H vs Q E hr h=>aQ (G:=[1]) (G':=[]) (L:=[]) (N:=["table", "listed", "word"]) rfl (by decide) (by decide) (λB H'=>?_) h)
 exact(au (eY 1 sc_options_in.nd (b8 aB)) (au (fH [2] (dH (aa 0) (λ_=>by intro z;cases z)) (kj 2 sc_options_in.nd) (aA (Nj 1 (aa 2))) PassesOwn.never) (fU (G1:=[]) (aA (aV (aa 1))))))
structure Tx_saying_at (P:Program) (w:World) (K:PySem.W.Frag) (mg:Str->Option Value) (base:Heap) (cl:Nat->Addr) (A:Adr):Prop where
 z_len:mg "len" = none
 z_list:mg "list" = none
 z_reversed:mg "reversed" = none
 c_options_in:Cal P w K mg base 1 "options_in" ["table"] (spM ⟨K,cl⟩ dZ false)
theorem yS {f:Addr}{fd:FuncData}(F:Fun K "saying_at" "saying_at" iM f fd) (T:Tx_saying_at P w K mg base cl A):FnOk P w K mg base CX0 2 f fd ["table", "number"] (spM ⟨K,cl⟩ gG false):=by
 refine F.ok sc_saying_at (λvs H Q E h=>aR h) (λcdv A' outer s H vs Q E hr h=>aQ (G:=[2]) (G':=[2]) (L:=[]) (N:=["table", "number", "backwards", "rest", "options"]) rfl (by decide) (by decide) (λB H'=>?_) h)
 exact(au (eY 2 sc_saying_at.nd (b8 aB)) (au (aZ 3 sc_saying_at.nd (aa 1)) (au (fH [4] (Lh T.z_reversed (aH T.c_options_in hr (aj (aa 0) aB)) (λ_=>by intro z;cases z)) (kj 4 sc_saying_at.nd) (au (fG 2 (aY hr (aa 4) (kh (aa 3) (bY T.z_len (aa 4))))) (aA (aZ 3 sc_saying_at.nd (oV (aa 3) (bY T.z_len (aa 4)))))) PassesOwn.never) (aA (aV (SE.val (Gg T.z_list T.z_reversed (mz 2))))))))
structure Tx_letters_in (P:Program) (w:World) (K:PySem.W.Frag) (mg:Str->Option Value) (base:Heap) (cl:Nat->Addr) (A:Adr):Prop where
 z_enumerate:mg "enumerate" = none
 z_zip:mg "zip" = none
 g_SPLIT:mg "SPLIT" = some (.ref A.a_SPLIT)
 r_SPLIT:∀ (B:Addr->Prop) (H:Hp),Rep ⟨K,cl⟩ B H (.ref A.a_SPLIT) rG
theorem wQ {f:Addr}{fd:FuncData}(F:Fun K "letters_in" "letters_in" cY f fd) (T:Tx_letters_in P w K mg base cl A):FnOk P w K mg base CX0 1 f fd ["syllables", "saying"] (spM ⟨K,cl⟩ iy false):=by
 refine F.ok sc_letters_in (λvs H Q E h=>aR h) (λcdv A' outer s H vs Q E hr h=>aQ (G:=[2,3]) (G':=[2,3]) (L:=[]) (N:=["syllables", "saying", "heads", "tails", "at", "option"]) rfl (by decide) (by decide) (λB H'=>?_) h)
 exact(au (uY 2 sc_letters_in.nd (osc:=(ao cY)) (ON:=["syllables", "saying", "heads", "tails", "at", "option"]) (N:=["syllable"]) (cap:=[none]) ⟨rfl,by decide +kernel,by decide +kernel,by decide +kernel,by decide +kernel⟩ (jk 0) (dH (aa 0) (λz=>by cases z)) (λ_ _ _ _=>bj (i:=0) (show (["syllable"]:List Str).Nodup by decide +kernel) rfl (Or.inl rfl)) (λ_ _ _ _=>cu) (λ_ _ _ _=>(aY hr (aa 0) az))) (au (uY 3 sc_letters_in.nd (osc:=(ao cY)) (ON:=["syllables", "saying", "heads", "tails", "at", "option"]) (N:=["syllable"]) (cap:=[none]) ⟨rfl,by decide +kernel,by decide +kernel,by decide +kernel,by decide +kernel⟩ (jk 0) (dH (aa 0) (λz=>by cases z)) (λ_ _ _ _=>bj (i:=0) (show (["syllable"]:List Str).Nodup by decide +kernel) rfl (Or.inl rfl)) (λ_ _ _ _=>cu) (λ_ _ _ _=>(aY hr (aa 0) az))) (au (fH [4,5] (zH T.z_enumerate (aa 1) (λ_=>by intro z;cases z)) (Bd (ji 4 sc_letters_in.nd (ji 5 sc_letters_in.nd rE))) (aA (cC (bu (cN hr (aa 5) (Hd T.g_SPLIT (T.r_SPLIT)))) (au (rD 3 hr (aa 4) (bD (aY hr (mz 3) (aa 4)) (dF (aY hr (mz 2) (bD (aa 4) az)) dj (bF az)))) (aA (rD 2 hr (bD (aa 4) az) (dF (aY hr (mz 2) (bD (aa 4) az)) (bF az) dj)))) bG)) PassesOwn.never) (aA (aV (SE.val (cP (osc:=(ao cY)) (ON:=["syllables", "saying", "heads", "tails", "at", "option"]) (N:=["head", "syllable", "tail"]) (cap:=[none,none,none]) ⟨rfl,by decide +kernel,by decide +kernel,by decide +kernel,by decide +kernel⟩ (Be [0,1,2]) (Gn T.z_zip (mz 2) (aa 0) (mz 3)) (λ_ _ _ _=>ql rfl (dY (bj (i:=0) (show (["head", "syllable", "tail"]:List Str).Nodup by decide +kernel) rfl (Or.inl rfl)) (dY (bj (i:=1) (show (["head", "syllable", "tail"]:List Str).Nodup by decide +kernel) rfl (Or.inl rfl)) (dY (bj (i:=2) (show (["head", "syllable", "tail"]:List Str).Nodup by decide +kernel) rfl (Or.inl rfl)) oK)))) (λ_ _ _ _=>cu) (λ_ _ _ _=>(bD (bD (aa 0) (aY hr (aa 1) az)) (aa 2))))))))))
structure Tx_shown_syllable (P:Program) (w:World) (K:PySem.W.Frag) (mg:Str->Option Value) (base:Heap) (cl:Nat->Addr) (A:Adr):Prop where
 ok:True
theorem sE {f:Addr}{fd:FuncData}(F:Fun K "shown_syllable" "shown_syllable" dD f fd) (T:Tx_shown_syllable P w K mg base cl A):FnOk P w K mg base CX0 1 f fd ["letters", "option"] (spM ⟨K,cl⟩ c7 false):=by
 refine F.ok rY (λvs H Q E h=>aR h) (λcdv A' outer s H vs Q E hr h=>aQ (G:=[]) (G':=[]) (L:=[]) (N:=["letters", "option"]) rfl (by decide) (by decide) (λB H'=>?_) h)
 exact(au (cC (bu (A_ (aa 1) ni)) (aA (aV (bD (bD aD (aa 0)) aD))) bG) (aA (aV (bD (aa 0) (aY hr (aa 1) az)))))
structure Tx_shown_word (P:Program) (w:World) (K:PySem.W.Frag) (mg:Str->Option Value) (base:Heap) (cl:Nat->Addr) (A:Adr):Prop where
 z_zip:mg "zip" = none
 c_letters_in:Cal P w K mg base 1 "letters_in" ["syllables", "saying"] (spM ⟨K,cl⟩ iy false)
 c_shown_syllable:Cal P w K mg base 1 "shown_syllable" ["letters", "option"] (spM ⟨K,cl⟩ c7 false)
theorem wR {f:Addr}{fd:FuncData}(F:Fun K "shown_word" "shown_word" fB f fd) (T:Tx_shown_word P w K mg base cl A):FnOk P w K mg base CX0 2 f fd ["syllables", "saying"] (spM ⟨K,cl⟩ iz false):=by
 refine F.ok sc_shown_word (λvs H Q E h=>aR h) (λcdv A' outer s H vs Q E hr h=>aQ (G:=[]) (G':=[]) (L:=[]) (N:=["syllables", "saying", "letters"]) rfl (by decide) (by decide) (λB H'=>?_) h)
 exact(au (aZ 2 sc_shown_word.nd (aH T.c_letters_in hr (aj (aa 0) (aj (aa 1) aB)))) (aA (aV (oW aD (cP (osc:=(ao fB)) (ON:=["syllables", "saying", "letters"]) (N:=["text", "option"]) (cap:=[none,none]) ⟨rfl,by decide +kernel,by decide +kernel,by decide +kernel,by decide +kernel⟩ (Be [0,1]) (um T.z_zip (aa 2) (aa 1) (λz=>by cases z) (λz=>by cases z)) (λ_ _ _ _=>ql rfl (dY (bj (i:=0) (show (["text", "option"]:List Str).Nodup by decide +kernel) rfl (Or.inl rfl)) (dY (bj (i:=1) (show (["text", "option"]:List Str).Nodup by decide +kernel) rfl (Or.inl rfl)) oK))) (λ_ _ _ _=>cu) (λ_ _ _ _=>(aH T.c_shown_syllable hr (aj (aa 0) (aj (aa 1) aB)))))))))
structure Tx_shown_as (P:Program) (w:World) (K:PySem.W.Frag) (mg:Str->Option Value) (base:Heap) (cl:Nat->Addr) (A:Adr):Prop where
 z_len:mg "len" = none
 c_shown_word:Cal P w K mg base 2 "shown_word" ["syllables", "saying"] (spM ⟨K,cl⟩ iz false)
 c_syllables_of:Cal P w K mg base 5 "syllables_of" ["tongue", "word"] (spM ⟨K,cl⟩ bx false)
theorem zp {f:Addr}{fd:FuncData}(F:Fun K "shown_as" "shown_as" jE f fd) (T:Tx_shown_as P w K mg base cl A):FnOk P w K mg base CX0 6 f fd ["tongue", "words", "saying"] (spM ⟨K,cl⟩ iG false):=by
 refine F.ok sc_shown_as (λvs H Q E h=>aR h) (λcdv A' outer s H vs Q E hr h=>aQ (G:=[3]) (G':=[]) (L:=[]) (N:=["tongue", "words", "saying", "shown", "start", "word", "syllables", "behind"]) rfl (by decide) (by decide) (λB H'=>?_) h)
 exact(au (eY 3 sc_shown_as.nd (b8 aB)) (au (aZ 4 sc_shown_as.nd az) (au (fH [5,6,7] (dH (aa 1) (λ_=>by intro z;cases z)) (kj 5 sc_shown_as.nd) (au (aZ 6 sc_shown_as.nd (aH T.c_syllables_of hr (aj (aa 0) (aj (aa 5) aB)))) (au (aZ 7 sc_shown_as.nd (bD (aa 4) (bY T.z_len (aa 6)))) (au (fG 3 (aH T.c_shown_word hr (aj (aa 6) (aj (dF (aa 2) (bF (aa 4)) (bF (aa 7))) aB)))) (aA (aZ 4 sc_shown_as.nd (aa 7)))))) PassesOwn.never) (fU (G1:=[]) (aA (aV (oW aD (aa 3))))))))
structure Tx__law_rows (P:Program) (w:World) (K:PySem.W.Frag) (mg:Str->Option Value) (base:Heap) (cl:Nat->Addr) (A:Adr):Prop where
 z_range:mg "range" = none
theorem yU {f:Addr}{fd:FuncData}(F:Fun K "_law_rows" "_law_rows" iQ f fd) (T:Tx__law_rows P w K mg base cl A):FnOk P w K mg base CX0 1 f fd ["_law_cell"] (spM ⟨K,cl⟩ gH true):=by
 refine F.ok sc__law_rows (λvs H Q E h=>aR h) (λcdv A' outer s H vs Q E hr h=>aQ (G:=[2]) (G':=[2]) (L:=[]) (N:=["_law_cell", "_law_some", "_law_rows_here", "_law_k"]) rfl (by decide) (by decide) (λB H'=>?_) h)
 exact(au (aZ 1 sc__law_rows.nd (SE.val (b8 (aj aD (aj aD (aj aD (aj aD (aj aD (aj aD (aj aD (aj aD aB))))))))))) (au (eY 2 sc__law_rows.nd (b8 (aj aD aB))) (au (fH [3] (ug T.z_range az) (kj 3 sc__law_rows.nd) (aA (cC (SW.st (K8 (bu (cN hr (kh (oV (aa 0) (aY hr (b8 (aj az (aj az (aj az (aj az (aj az (aj az (aj az (aj az aB))))))))) (aa 3))) az) az)) (Ij (SW.st (rB (bu (nT hr (aa 3) az)) (qG (bu (cN hr (kh (aa 0) az) az)))))))) (aA (fG 2 (aY hr (aa 1) (aa 3)))) bG)) PassesOwn.never) (au (fG 2 (bD aD (aY hr (b8 (aj aD (aj aD (aj aD (aj aD aB))))) (kh (oV (aa 0) az) az)))) (aA (Dh 2))))))
structure Tx__law_cell_at (P:Program) (w:World) (K:PySem.W.Frag) (mg:Str->Option Value) (base:Heap) (cl:Nat->Addr) (A:Adr):Prop where
 z_len:mg "len" = none
theorem uH {f:Addr}{fd:FuncData}(F:Fun K "_law_cell_at" "_law_cell_at" eU f fd) (T:Tx__law_cell_at P w K mg base cl A):FnOk P w K mg base CX0 1 f fd ["_law_script", "_law_k"] (spM ⟨K,cl⟩ bM false):=by
 refine F.ok uE (λvs H Q E h=>aR h) (λcdv A' outer s H vs Q E hr h=>aQ (G:=[]) (G':=[]) (L:=[]) (N:=["_law_script", "_law_k"]) rfl (by decide) (by decide) (λB H'=>?_) h)
 exact(au (cC (bu (Hf (aa 1) (bY T.z_len (aa 0)))) (aA (aV (aY hr (aa 0) (aa 1)))) bG) (aA (aV az)))
structure Tx_many_sayings (P:Program) (w:World) (K:PySem.W.Frag) (mg:Str->Option Value) (base:Heap) (cl:Nat->Addr) (A:Adr):Prop where
 z_len:mg "len" = none
 c_options_in:Cal P w K mg base 1 "options_in" ["table"] (spM ⟨K,cl⟩ dZ false)
theorem uI {f:Addr}{fd:FuncData}(F:Fun K "many_sayings" "many_sayings" eV f fd) (T:Tx_many_sayings P w K mg base cl A):FnOk P w K mg base CX0 2 f fd ["table"] (spM ⟨K,cl⟩ dX false):=by
 refine F.ok sc_many_sayings (λvs H Q E h=>aR h) (λcdv A' outer s H vs Q E hr h=>aQ (G:=[]) (G':=[]) (L:=[]) (N:=["table", "many", "options"]) rfl (by decide) (by decide) (λB H'=>?_) h)
 exact(au (aZ 1 sc_many_sayings.nd az) (au (fH [2] (dH (aH T.c_options_in hr (aj (aa 0) aB)) (λ_=>by intro z;cases z)) (kj 2 sc_many_sayings.nd) (aA (aZ 1 sc_many_sayings.nd (xY (aa 1) (bY T.z_len (aa 2))))) PassesOwn.never) (aA (aV (aa 1)))))
structure Tx__law_word (P:Program) (w:World) (K:PySem.W.Frag) (mg:Str->Option Value) (base:Heap) (cl:Nat->Addr) (A:Adr):Prop where
 z_len:mg "len" = none
 z_zip:mg "zip" = none
theorem yV {f:Addr}{fd:FuncData}(F:Fun K "_law_word" "_law_word" iR f fd) (T:Tx__law_word P w K mg base cl A):FnOk P w K mg base CX0 1 f fd ["_law_parts", "_law_saying"] (spM ⟨K,cl⟩ jn false):=by
 refine F.ok sc__law_word (λvs H Q E h=>aR h) (λcdv A' outer s H vs Q E hr h=>aQ (G:=[2]) (G':=[]) (L:=[]) (N:=["_law_parts", "_law_saying", "_law_shown", "_law_over", "_law_part", "_law_option", "_law_head", "_law_text"]) rfl (by decide) (by decide) (λB H'=>?_) h)
 exact(au (eY 2 sc__law_word.nd (b8 aB)) (au (aZ 3 sc__law_word.nd aD) (au (fH [4,5,6,7] (um T.z_zip (aa 0) (aa 1) (λ_=>by intro z;cases z) (λ_=>by intro z;cases z)) (Bd (ji 4 sc__law_word.nd (ji 5 sc__law_word.nd rE))) (au (aZ 6 sc__law_word.nd (dF (aY hr (aa 4) az) (bF (bY T.z_len (aa 3))) dj)) (au (aZ 7 sc__law_word.nd (bD (bD (aa 6) (aY hr (aa 4) az)) (aY hr (aa 4) az))) (au (aZ 3 sc__law_word.nd aD) (aA (cC (bu (A_ (aa 5) ni)) (aA (fG 2 (bD (bD aD (aa 7)) aD))) (aA (cC (bu (cN hr (aa 5) (lU (aj az (aj aD aB))))) (au (aZ 3 sc__law_word.nd (dF (aY hr (aY hr (aa 0) (bD (bY T.z_len (mz 2)) az)) az) dj (bF az))) (aA (fG 2 (bD (bD (aa 7) (aa 3)) aD)))) (aA (fG 2 (bD (aa 7) (aY hr (aa 5) az))))))))))) PassesOwn.never) (fU (G1:=[]) (aA (aV (oW aD (aa 2))))))))
structure Tx_law (P:Program) (w:World) (K:PySem.W.Frag) (mg:Str->Option Value) (base:Heap) (cl:Nat->Addr) (A:Adr):Prop where
 z_isinstance:mg "isinstance" = none
 z_len:mg "len" = none
 z_list:mg "list" = none
 z_range:mg "range" = none
 z_str:mg "str" = none
 is_list:∀ t k,(t,k)∈tb_list->PySem.W.kitOne K (.type t) (.type "list")=some k
 is_str:∀ t k,(t,k)∈tb_str->PySem.W.kitOne K (.type t) (.type "str")=some k
 c__law_cell_at:Cal P w K mg base 1 "_law_cell_at" ["_law_script", "_law_k"] (spM ⟨K,cl⟩ bM false)
 c__law_rows:Cal P w K mg base 1 "_law_rows" ["_law_cell"] (spM ⟨K,cl⟩ gH true)
 c__law_word:Cal P w K mg base 1 "_law_word" ["_law_parts", "_law_saying"] (spM ⟨K,cl⟩ jn false)
 c__law_words:Cal P w K mg base 1 "_law_words" ["_law_cells"] (spM ⟨K,cl⟩ fL false)
 c_many_sayings:Cal P w K mg base 2 "many_sayings" ["table"] (spM ⟨K,cl⟩ dX false)
 c_options_of:Cal P w K mg base 6 "options_of" ["tongue", "word", "follow"] (spM ⟨K,cl⟩ bO false)
 c_saying_at:Cal P w K mg base 2 "saying_at" ["table", "number"] (spM ⟨K,cl⟩ gG false)
 c_shown_as:Cal P w K mg base 6 "shown_as" ["tongue", "words", "saying"] (spM ⟨K,cl⟩ iG false)
 c_syllables_of:Cal P w K mg base 5 "syllables_of" ["tongue", "word"] (spM ⟨K,cl⟩ bx false)
 c_table_of:Cal P w K mg base 7 "table_of" ["tongue", "words"] (spM ⟨K,cl⟩ dG false)
 i_Tongue:CalI P w K mg base (cl 0) 5 "Tongue" ["self", "rows"] (spI ⟨K,cl⟩ 0 b7)
theorem LC {f:Addr}{fd:FuncData}(F:Fun K "law" "law" mR f fd) (T:Tx_law P w K mg base cl A):FnOk P w K mg base CX0 8 f fd ["_law_script"] (spM ⟨K,cl⟩ ux false):=by
 refine F.ok sc_law (λvs H Q E h=>aR h) (λcdv A' outer s H vs Q E hr h=>aQ (G:=[5,8]) (G':=[]) (L:=[]) (N:=["_law_script", "_law_tongue", "_law_words_here", "_law_handed", "_law_grid", "_law_due", "_law_k", "_law_saying", "_law_texts", "_law_at", "_law_word_here", "_law_parts", "_law_found"]) rfl (by decide) (by decide) (λB H'=>?_) h)
 exact(au (aZ 1 sc_law.nd (SE.val (Iw (c:=0) T.i_Tongue hr (aj (SE.val (pL T.c__law_rows hr (aj (aH T.c__law_cell_at hr (aj (aa 0) (aj az aB))) aB))) aB)))) (au (aZ 2 sc_law.nd (aH T.c__law_words hr (aj (dF (aa 0) (bF az) (bF az)) aB))) (au (aZ 3 sc_law.nd (SE.val (rC T.z_list (aa 2)))) (au (aZ 4 sc_law.nd (aH T.c_table_of hr (aj (aa 1) (aj (aa 3) aB)))) (au (eY 5 sc_law.nd (b8 aB)) (au (fH [6] (ug T.z_range (bY T.z_len (aa 2))) (kj 6 sc_law.nd) (aA (fG 5 (aH T.c_options_of hr (aj (aa 1) (aj (aY hr (aa 2) (aa 6)) (aj (aY hr (Dc (aa 2) (b8 (aj ni aB))) (bD (aa 6) az)) aB)))))) PassesOwn.never) (au (cC (SW.st (rB (ud (gk (yd tb_list T.is_list T.z_isinstance T.z_list PyProof.Rows.boot_list (aa 4)))) (rB (bu (nT hr (aa 4) (mz 5))) (qG (bu (nT hr (aa 3) (aa 2))))))) (aA (aV nR)) bG) (au (aZ 7 sc_law.nd (aH T.c_saying_at hr (aj (aa 4) (aj (kh (aH T.c__law_cell_at hr (aj (aa 0) (aj az aB))) (aH T.c_many_sayings hr (aj (aa 4) aB))) aB)))) (au (eY 8 sc_law.nd (b8 aB)) (au (aZ 9 sc_law.nd az) (fU (G1:=[8]) (au (fH [10,11] (dH (aa 2) (λ_=>by intro z;cases z)) (kj 10 sc_law.nd) (au (aZ 11 sc_law.nd (aH T.c_syllables_of hr (aj (aa 1) (aj (aa 10) aB)))) (au (fG 8 (aH T.c__law_word hr (aj (aa 11) (aj (dF (aa 7) (bF (aa 9)) (bF (bD (aa 9) (bY T.z_len (aa 11))))) aB)))) (aA (aZ 9 sc_law.nd (bD (aa 9) (bY T.z_len (aa 11))))))) PassesOwn.never) (au (aZ 12 sc_law.nd (aH T.c_shown_as hr (aj (aa 1) (aj (aa 2) (aj (SE.val (rC T.z_list (aa 7))) aB))))) (fU (G1:=[]) (aA (aV (d9 (yd tb_str T.is_str T.z_isinstance T.z_str PyProof.Rows.boot_str (aa 12)) (d9 (cj (cN hr (aa 12) (oW aD (aa 8)))) (gj (cj (cN hr (aH T.c_table_of hr (aj (aa 1) (aj (SE.val (b8 aB)) aB))) (b8 aB))))))))))))))))))))))
end
end My
namespace My
open PySem L2 MR
def xg (K:PySem.W.Frag):Sp:=λvs H Q _=>∃ (a:Addr) (ns:List Int),vs=[V.ref a]/\Only H/\SqL K H a (ns.map V.int)/\ns.length<=63/\∀ J,Q (.bl true) J
theorem LK {K:PySem.W.Frag}{cl:Nat->Addr}{vs:List V}{H:Hp}{Q:VK}{E:XK}(h:xg K vs H Q E):spM ⟨K,cl⟩ ux false vs H Q E:=by
 obtain⟨a,ns,rfl,ho,hs,hl,k⟩:=h
 have ri:Reps ⟨K,cl⟩ (λ_=>True) H (ns.map V.int) (ns.map PV.int):=uQ _ _ (λi=>.int i) ns
 refine⟨λ_=>True,[.frz (ns.map PV.int)],.bl true,.cons ?_ .nil,law_true ns hl,λv H' s r=>?_⟩
 ·rcases hs with (hs | ⟨o,hs⟩) | hs
  ·rcases ho a with z | ⟨o,xs,z⟩
   ·rw[z] at hs;cases hs
   ·rw[z] at hs;cases hs
  ·exact .lstF hs ri
  ·exact .lstK (.inr hs) ri
 ·cases r
  exact k _
theorem all_mk {l:PySem.W.OpenLaw}{w:World}{K:PySem.W.Frag}{h:Heap}{mg:Str->Option Value}{fa:Addr}(X:K.In h) (G:h.Ns mainGlobals mg) (hfa:mg "law" = some (.ref fa))
  (aC_Tongue:PySem.W.nsIn K mainGlobals "Tongue" = some (some (.ref C_Tongue)))
  (a_0:PySem.W.nsIn K mainGlobals "told_behind" = some (some (.ref f_0)))
  (l_0:K.lookup f_0=some ⟨oc_0,od_0,.func (PySem.W.fnOf "told_behind" "told_behind" (aN fP) (aM fP) (ao fP) .none kV_0 dc_0 pm_0 an_0 cd_0 ct_0),sl_0⟩)
  (c_0:PySem.W.codeIn K cd_0 "told_behind" = true)
  (k_0:PySem.W.keepIn K (.ref f_0)=true)
  (a_1:PySem.W.nsIn K mainGlobals "last_run" = some (some (.ref f_1)))
  (l_1:K.lookup f_1=some ⟨oc_1,od_1,.func (PySem.W.fnOf "last_run" "last_run" (aN jC) (aM jC) (ao jC) .none kV_1 dc_1 pm_1 an_1 cd_1 ct_1),sl_1⟩)
  (c_1:PySem.W.codeIn K cd_1 "last_run" = true)
  (k_1:PySem.W.keepIn K (.ref f_1)=true)
  (a_2:PySem.W.nsIn K mainGlobals "told_alike" = some (some (.ref f_2)))
  (l_2:K.lookup f_2=some ⟨oc_2,od_2,.func (PySem.W.fnOf "told_alike" "told_alike" (aN gJ) (aM gJ) (ao gJ) .none kV_2 dc_2 pm_2 an_2 cd_2 ct_2),sl_2⟩)
  (c_2:PySem.W.codeIn K cd_2 "told_alike" = true)
  (k_2:PySem.W.keepIn K (.ref f_2)=true)
  (a_3:PySem.W.nsIn K mainGlobals "is_letter" = some (some (.ref f_3)))
  (l_3:K.lookup f_3=some ⟨oc_3,od_3,.func (PySem.W.fnOf "is_letter" "is_letter" (aN iI) (aM iI) (ao iI) .none kV_3 dc_3 pm_3 an_3 cd_3 ct_3),sl_3⟩)
  (c_3:PySem.W.codeIn K cd_3 "is_letter" = true)
  (k_3:PySem.W.keepIn K (.ref f_3)=true)
  (a_4:PySem.W.nsIn K mainGlobals "is_carry_row" = some (some (.ref f_4)))
  (l_4:K.lookup f_4=some ⟨oc_4,od_4,.func (PySem.W.fnOf "is_carry_row" "is_carry_row" (aN du) (aM du) (ao du) .none kV_4 dc_4 pm_4 an_4 cd_4 ct_4),sl_4⟩)
  (c_4:PySem.W.codeIn K cd_4 "is_carry_row" = true)
  (k_4:PySem.W.keepIn K (.ref f_4)=true)
  (a_5:PySem.W.nsIn K mainGlobals "is_pair_of" = some (some (.ref f_5)))
  (l_5:K.lookup f_5=some ⟨oc_5,od_5,.func (PySem.W.fnOf "is_pair_of" "is_pair_of" (aN gK) (aM gK) (ao gK) .none kV_5 dc_5 pm_5 an_5 cd_5 ct_5),sl_5⟩)
  (c_5:PySem.W.codeIn K cd_5 "is_pair_of" = true)
  (k_5:PySem.W.keepIn K (.ref f_5)=true)
  (a_6:PySem.W.nsIn K mainGlobals "is_one_row" = some (some (.ref f_6)))
  (l_6:K.lookup f_6=some ⟨oc_6,od_6,.func (PySem.W.fnOf "is_one_row" "is_one_row" (aN fc) (aM fc) (ao fc) .none kV_6 dc_6 pm_6 an_6 cd_6 ct_6),sl_6⟩)
  (c_6:PySem.W.codeIn K cd_6 "is_one_row" = true)
  (k_6:PySem.W.keepIn K (.ref f_6)=true)
  (a_7:PySem.W.nsIn K mainGlobals "is_stop" = some (some (.ref f_7)))
  (l_7:K.lookup f_7=some ⟨oc_7,od_7,.func (PySem.W.fnOf "is_stop" "is_stop" (aN j6) (aM j6) (ao j6) .none kV_7 dc_7 pm_7 an_7 cd_7 ct_7),sl_7⟩)
  (c_7:PySem.W.codeIn K cd_7 "is_stop" = true)
  (k_7:PySem.W.keepIn K (.ref f_7)=true)
  (a_8:PySem.W.nsIn K mainGlobals "are_alike_units" = some (some (.ref f_8)))
  (l_8:K.lookup f_8=some ⟨oc_8,od_8,.func (PySem.W.fnOf "are_alike_units" "are_alike_units" (aN bZ) (aM bZ) (ao bZ) .none kV_8 dc_8 pm_8 an_8 cd_8 ct_8),sl_8⟩)
  (c_8:PySem.W.codeIn K cd_8 "are_alike_units" = true)
  (k_8:PySem.W.keepIn K (.ref f_8)=true)
  (a_9:PySem.W.nsIn K mainGlobals "is_cluster" = some (some (.ref f_9)))
  (l_9:K.lookup f_9=some ⟨oc_9,od_9,.func (PySem.W.fnOf "is_cluster" "is_cluster" (aN fj) (aM fj) (ao fj) .none kV_9 dc_9 pm_9 an_9 cd_9 ct_9),sl_9⟩)
  (c_9:PySem.W.codeIn K cd_9 "is_cluster" = true)
  (k_9:PySem.W.keepIn K (.ref f_9)=true)
  (a_10:PySem.W.nsIn K mainGlobals "is_rule" = some (some (.ref f_10)))
  (l_10:K.lookup f_10=some ⟨oc_10,od_10,.func (PySem.W.fnOf "is_rule" "is_rule" (aN gO) (aM gO) (ao gO) .none kV_10 dc_10 pm_10 an_10 cd_10 ct_10),sl_10⟩)
  (c_10:PySem.W.codeIn K cd_10 "is_rule" = true)
  (k_10:PySem.W.keepIn K (.ref f_10)=true)
  (a_11:PySem.W.findIn K (.ref C_Tongue) "__init__" = some (some (.ref f_11)))
  (i_11:PySem.W.isFn K (.ref f_11)=true)
  (l_11:K.lookup f_11=some ⟨oc_11,od_11,.func (PySem.W.fnOf "__init__" "Tongue.__init__" (aN bN) (aM bN) (ao bN) .none kV_11 dc_11 pm_11 an_11 cd_11 ct_11),sl_11⟩)
  (c_11:PySem.W.codeIn K cd_11 "Tongue.__init__" = true)
  (k_11:PySem.W.keepIn K (.ref f_11)=true)
  (a_12:PySem.W.nsIn K mainGlobals "_law_words" = some (some (.ref f_12)))
  (l_12:K.lookup f_12=some ⟨oc_12,od_12,.func (PySem.W.fnOf "_law_words" "_law_words" (aN dO) (aM dO) (ao dO) .none kV_12 dc_12 pm_12 an_12 cd_12 ct_12),sl_12⟩)
  (c_12:PySem.W.codeIn K cd_12 "_law_words" = true)
  (k_12:PySem.W.keepIn K (.ref f_12)=true)
  (a_13:PySem.W.findIn K (.ref C_Tongue) "carries" = some (some (.ref f_13)))
  (i_13:PySem.W.isFn K (.ref f_13)=true)
  (l_13:K.lookup f_13=some ⟨oc_13,od_13,.func (PySem.W.fnOf "carries" "Tongue.carries" (aN dg) (aM dg) (ao dg) .none kV_13 dc_13 pm_13 an_13 cd_13 ct_13),sl_13⟩)
  (c_13:PySem.W.codeIn K cd_13 "Tongue.carries" = true)
  (k_13:PySem.W.keepIn K (.ref f_13)=true)
  (a_14:PySem.W.nsIn K mainGlobals "is_word" = some (some (.ref f_14)))
  (l_14:K.lookup f_14=some ⟨oc_14,od_14,.func (PySem.W.fnOf "is_word" "is_word" (aN gP) (aM gP) (ao gP) .none kV_14 dc_14 pm_14 an_14 cd_14 ct_14),sl_14⟩)
  (c_14:PySem.W.codeIn K cd_14 "is_word" = true)
  (k_14:PySem.W.keepIn K (.ref f_14)=true)
  (a_15:PySem.W.nsIn K mainGlobals "refuse_no_word" = some (some (.ref f_15)))
  (l_15:K.lookup f_15=some ⟨oc_15,od_15,.func (PySem.W.fnOf "refuse_no_word" "refuse_no_word" (aN dw) (aM dw) (ao dw) .none kV_15 dc_15 pm_15 an_15 cd_15 ct_15),sl_15⟩)
  (c_15:PySem.W.codeIn K cd_15 "refuse_no_word" = true)
  (k_15:PySem.W.keepIn K (.ref f_15)=true)
  (a_16:PySem.W.findIn K (.ref C_Tongue) "is_pair" = some (some (.ref f_16)))
  (i_16:PySem.W.isFn K (.ref f_16)=true)
  (l_16:K.lookup f_16=some ⟨oc_16,od_16,.func (PySem.W.fnOf "is_pair" "Tongue.is_pair" (aN dh) (aM dh) (ao dh) .none kV_16 dc_16 pm_16 an_16 cd_16 ct_16),sl_16⟩)
  (c_16:PySem.W.codeIn K cd_16 "Tongue.is_pair" = true)
  (k_16:PySem.W.keepIn K (.ref f_16)=true)
  (a_17:PySem.W.nsIn K mainGlobals "units_of" = some (some (.ref f_17)))
  (l_17:K.lookup f_17=some ⟨oc_17,od_17,.func (PySem.W.fnOf "units_of" "units_of" (aN jD) (aM jD) (ao jD) .none kV_17 dc_17 pm_17 an_17 cd_17 ct_17),sl_17⟩)
  (c_17:PySem.W.codeIn K cd_17 "units_of" = true)
  (k_17:PySem.W.keepIn K (.ref f_17)=true)
  (a_18:PySem.W.nsIn K mainGlobals "carriers_of" = some (some (.ref f_18)))
  (l_18:K.lookup f_18=some ⟨oc_18,od_18,.func (PySem.W.fnOf "carriers_of" "carriers_of" (aN d8) (aM d8) (ao d8) .none kV_18 dc_18 pm_18 an_18 cd_18 ct_18),sl_18⟩)
  (c_18:PySem.W.codeIn K cd_18 "carriers_of" = true)
  (k_18:PySem.W.keepIn K (.ref f_18)=true)
  (a_19:PySem.W.nsIn K mainGlobals "gaps_of" = some (some (.ref f_19)))
  (l_19:K.lookup f_19=some ⟨oc_19,od_19,.func (PySem.W.fnOf "gaps_of" "gaps_of" (aN j7) (aM j7) (ao j7) .none kV_19 dc_19 pm_19 an_19 cd_19 ct_19),sl_19⟩)
  (c_19:PySem.W.codeIn K cd_19 "gaps_of" = true)
  (k_19:PySem.W.keepIn K (.ref f_19)=true)
  (a_20:PySem.W.findIn K (.ref C_Tongue) "splits" = some (some (.ref f_20)))
  (i_20:PySem.W.isFn K (.ref f_20)=true)
  (l_20:K.lookup f_20=some ⟨oc_20,od_20,.func (PySem.W.fnOf "splits" "Tongue.splits" (aN dz) (aM dz) (ao dz) .none kV_20 dc_20 pm_20 an_20 cd_20 ct_20),sl_20⟩)
  (c_20:PySem.W.codeIn K cd_20 "Tongue.splits" = true)
  (k_20:PySem.W.keepIn K (.ref f_20)=true)
  (a_21:PySem.W.findIn K (.ref C_Tongue) "begins" = some (some (.ref f_21)))
  (i_21:PySem.W.isFn K (.ref f_21)=true)
  (l_21:K.lookup f_21=some ⟨oc_21,od_21,.func (PySem.W.fnOf "begins" "Tongue.begins" (aN dB) (aM dB) (ao dB) .none kV_21 dc_21 pm_21 an_21 cd_21 ct_21),sl_21⟩)
  (c_21:PySem.W.codeIn K cd_21 "Tongue.begins" = true)
  (k_21:PySem.W.keepIn K (.ref f_21)=true)
  (a_22:PySem.W.nsIn K mainGlobals "staying" = some (some (.ref f_22)))
  (l_22:K.lookup f_22=some ⟨oc_22,od_22,.func (PySem.W.fnOf "staying" "staying" (aN j8) (aM j8) (ao j8) .none kV_22 dc_22 pm_22 an_22 cd_22 ct_22),sl_22⟩)
  (c_22:PySem.W.codeIn K cd_22 "staying" = true)
  (k_22:PySem.W.keepIn K (.ref f_22)=true)
  (a_23:PySem.W.nsIn K mainGlobals "syllables_of" = some (some (.ref f_23)))
  (l_23:K.lookup f_23=some ⟨oc_23,od_23,.func (PySem.W.fnOf "syllables_of" "syllables_of" (aN eQ) (aM eQ) (ao eQ) .none kV_23 dc_23 pm_23 an_23 cd_23 ct_23),sl_23⟩)
  (c_23:PySem.W.codeIn K cd_23 "syllables_of" = true)
  (k_23:PySem.W.keepIn K (.ref f_23)=true)
  (a_24:PySem.W.findIn K (.ref C_Tongue) "weight" = some (some (.ref f_24)))
  (i_24:PySem.W.isFn K (.ref f_24)=true)
  (l_24:K.lookup f_24=some ⟨oc_24,od_24,.func (PySem.W.fnOf "weight" "Tongue.weight" (aN dC) (aM dC) (ao dC) .none kV_24 dc_24 pm_24 an_24 cd_24 ct_24),sl_24⟩)
  (c_24:PySem.W.codeIn K cd_24 "Tongue.weight" = true)
  (k_24:PySem.W.keepIn K (.ref f_24)=true)
  (a_25:PySem.W.nsIn K mainGlobals "ways_of" = some (some (.ref f_25)))
  (l_25:K.lookup f_25=some ⟨oc_25,od_25,.func (PySem.W.fnOf "ways_of" "ways_of" (aN j9) (aM j9) (ao j9) .none kV_25 dc_25 pm_25 an_25 cd_25 ct_25),sl_25⟩)
  (c_25:PySem.W.codeIn K cd_25 "ways_of" = true)
  (k_25:PySem.W.keepIn K (.ref f_25)=true)
  (a_26:PySem.W.findIn K (.ref C_Tongue) "run" = some (some (.ref f_26)))
  (i_26:PySem.W.isFn K (.ref f_26)=true)
  (l_26:K.lookup f_26=some ⟨oc_26,od_26,.func (PySem.W.fnOf "run" "Tongue.run" (aN fQ) (aM fQ) (ao fQ) .none kV_26 dc_26 pm_26 an_26 cd_26 ct_26),sl_26⟩)
  (c_26:PySem.W.codeIn K cd_26 "Tongue.run" = true)
  (k_26:PySem.W.keepIn K (.ref f_26)=true)
  (a_27:PySem.W.nsIn K mainGlobals "last_ways" = some (some (.ref f_27)))
  (l_27:K.lookup f_27=some ⟨oc_27,od_27,.func (PySem.W.fnOf "last_ways" "last_ways" (aN iJ) (aM iJ) (ao iJ) .none kV_27 dc_27 pm_27 an_27 cd_27 ct_27),sl_27⟩)
  (c_27:PySem.W.codeIn K cd_27 "last_ways" = true)
  (k_27:PySem.W.keepIn K (.ref f_27)=true)
  (a_28:PySem.W.nsIn K mainGlobals "options_of" = some (some (.ref f_28)))
  (l_28:K.lookup f_28=some ⟨oc_28,od_28,.func (PySem.W.fnOf "options_of" "options_of" (aN fu) (aM fu) (ao fu) .none kV_28 dc_28 pm_28 an_28 cd_28 ct_28),sl_28⟩)
  (c_28:PySem.W.codeIn K cd_28 "options_of" = true)
  (k_28:PySem.W.keepIn K (.ref f_28)=true)
  (a_29:PySem.W.nsIn K mainGlobals "table_of" = some (some (.ref f_29)))
  (l_29:K.lookup f_29=some ⟨oc_29,od_29,.func (PySem.W.fnOf "table_of" "table_of" (aN ik) (aM ik) (ao ik) .none kV_29 dc_29 pm_29 an_29 cd_29 ct_29),sl_29⟩)
  (c_29:PySem.W.codeIn K cd_29 "table_of" = true)
  (k_29:PySem.W.keepIn K (.ref f_29)=true)
  (a_30:PySem.W.nsIn K mainGlobals "options_in" = some (some (.ref f_30)))
  (l_30:K.lookup f_30=some ⟨oc_30,od_30,.func (PySem.W.fnOf "options_in" "options_in" (aN gM) (aM gM) (ao gM) .none kV_30 dc_30 pm_30 an_30 cd_30 ct_30),sl_30⟩)
  (c_30:PySem.W.codeIn K cd_30 "options_in" = true)
  (k_30:PySem.W.keepIn K (.ref f_30)=true)
  (a_31:PySem.W.nsIn K mainGlobals "saying_at" = some (some (.ref f_31)))
  (l_31:K.lookup f_31=some ⟨oc_31,od_31,.func (PySem.W.fnOf "saying_at" "saying_at" (aN iM) (aM iM) (ao iM) .none kV_31 dc_31 pm_31 an_31 cd_31 ct_31),sl_31⟩)
  (c_31:PySem.W.codeIn K cd_31 "saying_at" = true)
  (k_31:PySem.W.keepIn K (.ref f_31)=true)
  (a_32:PySem.W.nsIn K mainGlobals "letters_in" = some (some (.ref f_32)))
  (l_32:K.lookup f_32=some ⟨oc_32,od_32,.func (PySem.W.fnOf "letters_in" "letters_in" (aN cY) (aM cY) (ao cY) .none kV_32 dc_32 pm_32 an_32 cd_32 ct_32),sl_32⟩)
  (c_32:PySem.W.codeIn K cd_32 "letters_in" = true)
  (k_32:PySem.W.keepIn K (.ref f_32)=true)
  (a_33:PySem.W.nsIn K mainGlobals "shown_syllable" = some (some (.ref f_33)))
  (l_33:K.lookup f_33=some ⟨oc_33,od_33,.func (PySem.W.fnOf "shown_syllable" "shown_syllable" (aN dD) (aM dD) (ao dD) .none kV_33 dc_33 pm_33 an_33 cd_33 ct_33),sl_33⟩)
  (c_33:PySem.W.codeIn K cd_33 "shown_syllable" = true)
  (k_33:PySem.W.keepIn K (.ref f_33)=true)
  (a_34:PySem.W.nsIn K mainGlobals "shown_word" = some (some (.ref f_34)))
  (l_34:K.lookup f_34=some ⟨oc_34,od_34,.func (PySem.W.fnOf "shown_word" "shown_word" (aN fB) (aM fB) (ao fB) .none kV_34 dc_34 pm_34 an_34 cd_34 ct_34),sl_34⟩)
  (c_34:PySem.W.codeIn K cd_34 "shown_word" = true)
  (k_34:PySem.W.keepIn K (.ref f_34)=true)
  (a_35:PySem.W.nsIn K mainGlobals "shown_as" = some (some (.ref f_35)))
  (l_35:K.lookup f_35=some ⟨oc_35,od_35,.func (PySem.W.fnOf "shown_as" "shown_as" (aN jE) (aM jE) (ao jE) .none kV_35 dc_35 pm_35 an_35 cd_35 ct_35),sl_35⟩)
  (c_35:PySem.W.codeIn K cd_35 "shown_as" = true)
  (k_35:PySem.W.keepIn K (.ref f_35)=true)
  (a_36:PySem.W.nsIn K mainGlobals "_law_rows" = some (some (.ref f_36)))
  (l_36:K.lookup f_36=some ⟨oc_36,od_36,.func (PySem.W.fnOf "_law_rows" "_law_rows" (aN iQ) (aM iQ) (ao iQ) .none kV_36 dc_36 pm_36 an_36 cd_36 ct_36),sl_36⟩)
  (c_36:PySem.W.codeIn K cd_36 "_law_rows" = true)
  (k_36:PySem.W.keepIn K (.ref f_36)=true)
  (a_37:PySem.W.nsIn K mainGlobals "_law_cell_at" = some (some (.ref f_37)))
  (l_37:K.lookup f_37=some ⟨oc_37,od_37,.func (PySem.W.fnOf "_law_cell_at" "_law_cell_at" (aN eU) (aM eU) (ao eU) .none kV_37 dc_37 pm_37 an_37 cd_37 ct_37),sl_37⟩)
  (c_37:PySem.W.codeIn K cd_37 "_law_cell_at" = true)
  (k_37:PySem.W.keepIn K (.ref f_37)=true)
  (a_38:PySem.W.nsIn K mainGlobals "many_sayings" = some (some (.ref f_38)))
  (l_38:K.lookup f_38=some ⟨oc_38,od_38,.func (PySem.W.fnOf "many_sayings" "many_sayings" (aN eV) (aM eV) (ao eV) .none kV_38 dc_38 pm_38 an_38 cd_38 ct_38),sl_38⟩)
  (c_38:PySem.W.codeIn K cd_38 "many_sayings" = true)
  (k_38:PySem.W.keepIn K (.ref f_38)=true)
  (a_39:PySem.W.nsIn K mainGlobals "_law_word" = some (some (.ref f_39)))
  (l_39:K.lookup f_39=some ⟨oc_39,od_39,.func (PySem.W.fnOf "_law_word" "_law_word" (aN iR) (aM iR) (ao iR) .none kV_39 dc_39 pm_39 an_39 cd_39 ct_39),sl_39⟩)
  (c_39:PySem.W.codeIn K cd_39 "_law_word" = true)
  (k_39:PySem.W.keepIn K (.ref f_39)=true)
  (a_40:PySem.W.nsIn K mainGlobals "law" = some (some (.ref f_40)))
  (l_40:K.lookup f_40=some ⟨oc_40,od_40,.func (PySem.W.fnOf "law" "law" (aN mR) (aM mR) (ao mR) .none kV_40 dc_40 pm_40 an_40 cd_40 ct_40),sl_40⟩)
  (c_40:PySem.W.codeIn K cd_40 "law" = true)
  (k_40:PySem.W.keepIn K (.ref f_40)=true)
  (pg_Tongue:PySem.W.plainGet K C_Tongue Str.empty=true)
  (hd_Tongue:PySem.W.hasDictIn K C_Tongue=true)
  (po_Tongue:PySem.W.plainOver K C_Tongue=true)
  (sa_Tongue:PySem.W.findIn K (.ref C_Tongue) "__setattr__" = some (some (.builtin "object.__setattr__")))
  (mk_Tongue:PySem.W.makesIn K C_Tongue=true)
  (kc_Tongue:PySem.W.keepIn K (.ref C_Tongue)=true)
  (nf_Tongue_beginnings:PySem.W.findIn K (.ref C_Tongue) "beginnings" = some none)
  (nf_Tongue_carrying:PySem.W.findIn K (.ref C_Tongue) "carrying" = some none)
  (nf_Tongue_eithers:PySem.W.findIn K (.ref C_Tongue) "eithers" = some none)
  (nf_Tongue_likes:PySem.W.findIn K (.ref C_Tongue) "likes" = some none)
  (nf_Tongue_longs:PySem.W.findIn K (.ref C_Tongue) "longs" = some none)
  (nf_Tongue_pairs:PySem.W.findIn K (.ref C_Tongue) "pairs" = some none)
  (nf_Tongue_running:PySem.W.findIn K (.ref C_Tongue) "running" = some none)
  (nf_Tongue_splittings:PySem.W.findIn K (.ref C_Tongue) "splittings" = some none)
  (z_abs:PySem.W.nsIn K mainGlobals "abs" = some none)
  (z_all:PySem.W.nsIn K mainGlobals "all" = some none)
  (z_any:PySem.W.nsIn K mainGlobals "any" = some none)
  (z_enumerate:PySem.W.nsIn K mainGlobals "enumerate" = some none)
  (z_isinstance:PySem.W.nsIn K mainGlobals "isinstance" = some none)
  (z_len:PySem.W.nsIn K mainGlobals "len" = some none)
  (z_list:PySem.W.nsIn K mainGlobals "list" = some none)
  (z_range:PySem.W.nsIn K mainGlobals "range" = some none)
  (z_reversed:PySem.W.nsIn K mainGlobals "reversed" = some none)
  (z_str:PySem.W.nsIn K mainGlobals "str" = some none)
  (z_zip:PySem.W.nsIn K mainGlobals "zip" = some none)
  (g_LEAST_STOPS:PySem.W.nsIn K mainGlobals "LEAST_STOPS" = some (some (.int 2 t_LEAST_STOPS)))
  (g_LETTERS:PySem.W.nsIn K mainGlobals "LETTERS" = some (some (.str "abcdefghijklmnopqrstuvwxyz" t_LETTERS)))
  (g_MOST_LETTERS:PySem.W.nsIn K mainGlobals "MOST_LETTERS" = some (some (.int 24 t_MOST_LETTERS)))
  (g_MOST_STOPS:PySem.W.nsIn K mainGlobals "MOST_STOPS" = some (some (.int 4 t_MOST_STOPS)))
  (g_RUNS:PySem.W.nsIn K mainGlobals "RUNS" = some (some (.ref a_RUNS)))
  (lk_RUNS:K.lookup a_RUNS=some ⟨.type "tuple",o_RUNS,.seq #[.str "never" t_RUNS_0,.str "may" t_RUNS_1,.str "must" t_RUNS_2] n_RUNS,sl_RUNS⟩)
  (g_SPLIT:PySem.W.nsIn K mainGlobals "SPLIT" = some (some (.ref a_SPLIT)))
  (lk_SPLIT:K.lookup a_SPLIT=some ⟨.type "tuple",o_SPLIT,.seq #[.int 1 t_SPLIT_0,.str "-" t_SPLIT_1] n_SPLIT,sl_SPLIT⟩)
  (is_list:∀ t k,(t,k)∈tb_list->PySem.W.kitOne K (.type t) (.type "list")=some k)
  (is_str:∀ t k,(t,k)∈tb_str->PySem.W.kitOne K (.type t) (.type "str")=some k):
  ∃ fd:FuncData,(∀ (s:Shared) (v:Value),BindsTo s fd ⟨[v],[]⟩ [("_law_script",v)])/\∀ base:Heap,K.In base->base.Ns mainGlobals mg->FnOk l.prog w K mg base CX0 8 fa fd ["_law_script"] (xg K):=by
 have e:=hfa.symm.trans (PySem.W.mg_of X G a_40)
 cases e
 have F_0:=aX (st:=fP) l_0 c_0 k_0
 have b_0:=F_0.binds (ps:=["kind", "rows"]) λ_ _ _ _ _ _ us hl=>MR.len2 us hl (λ_ _=>rfl)
 have F_1:=aX (st:=jC) l_1 c_1 k_1
 have b_1:=F_1.binds (ps:=["rows"]) λ_ _ _ _ _ _ us hl=>MR.len1 us hl (λ_=>rfl)
 have F_2:=aX (st:=gJ) l_2 c_2 k_2
 have b_2:=F_2.binds (ps:=["rows"]) λ_ _ _ _ _ _ us hl=>MR.len1 us hl (λ_=>rfl)
 have F_3:=aX (st:=iI) l_3 c_3 k_3
 have b_3:=F_3.binds (ps:=["text"]) λ_ _ _ _ _ _ us hl=>MR.len1 us hl (λ_=>rfl)
 have F_4:=aX (st:=du) l_4 c_4 k_4
 have b_4:=F_4.binds (ps:=["row"]) λ_ _ _ _ _ _ us hl=>MR.len1 us hl (λ_=>rfl)
 have F_5:=aX (st:=gK) l_5 c_5 k_5
 have b_5:=F_5.binds (ps:=["carrying", "word"]) λ_ _ _ _ _ _ us hl=>MR.len2 us hl (λ_ _=>rfl)
 have F_6:=aX (st:=fc) l_6 c_6 k_6
 have b_6:=F_6.binds (ps:=["carrying", "row"]) λ_ _ _ _ _ _ us hl=>MR.len2 us hl (λ_ _=>rfl)
 have F_7:=aX (st:=j6) l_7 c_7 k_7
 have b_7:=F_7.binds (ps:=["carrying", "text"]) λ_ _ _ _ _ _ us hl=>MR.len2 us hl (λ_ _=>rfl)
 have F_8:=aX (st:=bZ) l_8 c_8 k_8
 have b_8:=F_8.binds (ps:=["carrying", "carriers", "words"]) λ_ _ _ _ _ _ us hl=>MR.len3 us hl (λ_ _ _=>rfl)
 have F_9:=aX (st:=fj) l_9 c_9 k_9
 have b_9:=F_9.binds (ps:=["carrying", "word"]) λ_ _ _ _ _ _ us hl=>MR.len2 us hl (λ_ _=>rfl)
 have F_10:=aX (st:=gO) l_10 c_10 k_10
 have b_10:=F_10.binds (ps:=["carrying", "pairs", "row"]) λ_ _ _ _ _ _ us hl=>MR.len3 us hl (λ_ _ _=>rfl)
 have F_11:=aX (st:=bN) l_11 c_11 k_11
 have b_11:=F_11.binds (ps:=["self", "rows"]) λ_ _ _ _ _ _ us hl=>MR.len2 us hl (λ_ _=>rfl)
 have F_12:=aX (st:=dO) l_12 c_12 k_12
 have b_12:=F_12.binds (ps:=["_law_cells"]) λ_ _ _ _ _ _ us hl=>MR.len1 us hl (λ_=>rfl)
 have F_13:=aX (st:=dg) l_13 c_13 k_13
 have b_13:=F_13.binds (ps:=["self", "letter"]) λ_ _ _ _ _ _ us hl=>MR.len2 us hl (λ_ _=>rfl)
 have F_14:=aX (st:=gP) l_14 c_14 k_14
 have b_14:=F_14.binds (ps:=["tongue", "thing"]) λ_ _ _ _ _ _ us hl=>MR.len2 us hl (λ_ _=>rfl)
 have F_15:=aX (st:=dw) l_15 c_15 k_15
 have b_15:=F_15.binds (ps:=["tongue", "thing"]) λ_ _ _ _ _ _ us hl=>MR.len2 us hl (λ_ _=>rfl)
 have F_16:=aX (st:=dh) l_16 c_16 k_16
 have b_16:=F_16.binds (ps:=["self", "pair"]) λ_ _ _ _ _ _ us hl=>MR.len2 us hl (λ_ _=>rfl)
 have F_17:=aX (st:=jD) l_17 c_17 k_17
 have b_17:=F_17.binds (ps:=["tongue", "word"]) λ_ _ _ _ _ _ us hl=>MR.len2 us hl (λ_ _=>rfl)
 have F_18:=aX (st:=d8) l_18 c_18 k_18
 have b_18:=F_18.binds (ps:=["tongue", "units"]) λ_ _ _ _ _ _ us hl=>MR.len2 us hl (λ_ _=>rfl)
 have F_19:=aX (st:=j7) l_19 c_19 k_19
 have b_19:=F_19.binds (ps:=["tongue", "units"]) λ_ _ _ _ _ _ us hl=>MR.len2 us hl (λ_ _=>rfl)
 have F_20:=aX (st:=dz) l_20 c_20 k_20
 have b_20:=F_20.binds (ps:=["self", "cluster"]) λ_ _ _ _ _ _ us hl=>MR.len2 us hl (λ_ _=>rfl)
 have F_21:=aX (st:=dB) l_21 c_21 k_21
 have b_21:=F_21.binds (ps:=["self", "cluster"]) λ_ _ _ _ _ _ us hl=>MR.len2 us hl (λ_ _=>rfl)
 have F_22:=aX (st:=j8) l_22 c_22 k_22
 have b_22:=F_22.binds (ps:=["tongue", "stops"]) λ_ _ _ _ _ _ us hl=>MR.len2 us hl (λ_ _=>rfl)
 have F_23:=aX (st:=eQ) l_23 c_23 k_23
 have b_23:=F_23.binds (ps:=["tongue", "word"]) λ_ _ _ _ _ _ us hl=>MR.len2 us hl (λ_ _=>rfl)
 have F_24:=aX (st:=dC) l_24 c_24 k_24
 have b_24:=F_24.binds (ps:=["self", "carrier"]) λ_ _ _ _ _ _ us hl=>MR.len2 us hl (λ_ _=>rfl)
 have F_25:=aX (st:=j9) l_25 c_25 k_25
 have b_25:=F_25.binds (ps:=["tongue", "carrier", "tail", "split"]) λ_ _ _ _ _ _ us hl=>MR.len4 us hl (λ_ _ _ _=>rfl)
 have F_26:=aX (st:=fQ) l_26 c_26 k_26
 have b_26:=F_26.binds (ps:=["self"]) λ_ _ _ _ _ _ us hl=>MR.len1 us hl (λ_=>rfl)
 have F_27:=aX (st:=iJ) l_27 c_27 k_27
 have b_27:=F_27.binds (ps:=["tongue", "carrier", "tail"]) λ_ _ _ _ _ _ us hl=>MR.len3 us hl (λ_ _ _=>rfl)
 have F_28:=aX (st:=fu) l_28 c_28 k_28
 have b_28:=F_28.binds (ps:=["tongue", "word", "follow"]) λ_ _ _ _ _ _ us hl=>MR.len3 us hl (λ_ _ _=>rfl)
 have F_29:=aX (st:=ik) l_29 c_29 k_29
 have b_29:=F_29.binds (ps:=["tongue", "words"]) λ_ _ _ _ _ _ us hl=>MR.len2 us hl (λ_ _=>rfl)
 have F_30:=aX (st:=gM) l_30 c_30 k_30
 have b_30:=F_30.binds (ps:=["table"]) λ_ _ _ _ _ _ us hl=>MR.len1 us hl (λ_=>rfl)
 have F_31:=aX (st:=iM) l_31 c_31 k_31
 have b_31:=F_31.binds (ps:=["table", "number"]) λ_ _ _ _ _ _ us hl=>MR.len2 us hl (λ_ _=>rfl)
 have F_32:=aX (st:=cY) l_32 c_32 k_32
 have b_32:=F_32.binds (ps:=["syllables", "saying"]) λ_ _ _ _ _ _ us hl=>MR.len2 us hl (λ_ _=>rfl)
 have F_33:=aX (st:=dD) l_33 c_33 k_33
 have b_33:=F_33.binds (ps:=["letters", "option"]) λ_ _ _ _ _ _ us hl=>MR.len2 us hl (λ_ _=>rfl)
 have F_34:=aX (st:=fB) l_34 c_34 k_34
 have b_34:=F_34.binds (ps:=["syllables", "saying"]) λ_ _ _ _ _ _ us hl=>MR.len2 us hl (λ_ _=>rfl)
 have F_35:=aX (st:=jE) l_35 c_35 k_35
 have b_35:=F_35.binds (ps:=["tongue", "words", "saying"]) λ_ _ _ _ _ _ us hl=>MR.len3 us hl (λ_ _ _=>rfl)
 have F_36:=aX (st:=iQ) l_36 c_36 k_36
 have b_36:=F_36.binds (ps:=["_law_cell"]) λ_ _ _ _ _ _ us hl=>MR.len1 us hl (λ_=>rfl)
 have F_37:=aX (st:=eU) l_37 c_37 k_37
 have b_37:=F_37.binds (ps:=["_law_script", "_law_k"]) λ_ _ _ _ _ _ us hl=>MR.len2 us hl (λ_ _=>rfl)
 have F_38:=aX (st:=eV) l_38 c_38 k_38
 have b_38:=F_38.binds (ps:=["table"]) λ_ _ _ _ _ _ us hl=>MR.len1 us hl (λ_=>rfl)
 have F_39:=aX (st:=iR) l_39 c_39 k_39
 have b_39:=F_39.binds (ps:=["_law_parts", "_law_saying"]) λ_ _ _ _ _ _ us hl=>MR.len2 us hl (λ_ _=>rfl)
 have F_40:=aX (st:=mR) l_40 c_40 k_40
 have b_40:=F_40.binds (ps:=["_law_script"]) λ_ _ _ _ _ _ us hl=>MR.len1 us hl (λ_=>rfl)
 refine⟨PySem.W.fnOf "law" "law" (aN mR) (aM mR) (ao mR) .none kV_40 dc_40 pm_40 an_40 cd_40 ct_40,λs v=>.of_eq rfl,λbase _ _=>?_⟩
 let cl:Nat->Addr:=λn=>match n with | 0=>C_Tongue | _=>0
 let A:Adr:={ t_LEAST_STOPS:=t_LEAST_STOPS,t_LETTERS:=t_LETTERS,t_MOST_LETTERS:=t_MOST_LETTERS,t_MOST_STOPS:=t_MOST_STOPS,a_RUNS:=a_RUNS,a_SPLIT:=a_SPLIT }
 have cl_Tongue:Cls K (cl 0):=⟨pg_Tongue,hd_Tongue,po_Tongue,sa_Tongue⟩
 have r_RUNS:∀ (B:Addr->Prop) (H:Hp),Rep ⟨K,cl⟩ B H (.ref a_RUNS) oY:=λB H=>.tupK (vs:=[V.str "never",V.str "may",V.str "must"]) (.inr ⟨_,_,_,lk_RUNS,rfl,rfl,(by show 3<=sizeLine;decide),(.cons ⟨_,rfl⟩ (.cons ⟨_,rfl⟩ (.cons ⟨_,rfl⟩ .nil)))⟩) (.cons (.str _) (.cons (.str _) (.cons (.str _) .nil)))
 have r_SPLIT:∀ (B:Addr->Prop) (H:Hp),Rep ⟨K,cl⟩ B H (.ref a_SPLIT) rG:=λB H=>.tupK (vs:=[V.int 1,V.str "-"]) (.inr ⟨_,_,_,lk_SPLIT,rfl,rfl,(by show 2<=sizeLine;decide),(.cons ⟨_,rfl⟩ (.cons ⟨_,rfl⟩ .nil))⟩) (.cons (.int _) (.cons (.str _) .nil))
 have G_0:=vh (P:=l.prog) (w:=w) (mg:=mg) (base:=base) (cl:=cl) (A:=A) F_0 ⟨trivial⟩
 have k_told_behind:=bz F_0 (PySem.W.mg_of X G a_0) b_0 G_0
 have G_1:=zg (P:=l.prog) (w:=w) (mg:=mg) (base:=base) (cl:=cl) (A:=A) F_1 ⟨trivial⟩
 have k_last_run:=bz F_1 (PySem.W.mg_of X G a_1) b_1 G_1
 have G_2:=wI (P:=l.prog) (w:=w) (mg:=mg) (base:=base) (cl:=cl) (A:=A) F_2 ⟨trivial⟩
 have k_told_alike:=bz F_2 (PySem.W.mg_of X G a_2) b_2 G_2
 have G_3:=yQ (P:=l.prog) (w:=w) (mg:=mg) (base:=base) (cl:=cl) (A:=A) F_3 ⟨PySem.W.mg_none_of X G z_len,PySem.W.mg_of X G g_LETTERS⟩
 have k_is_letter:=bz F_3 (PySem.W.mg_of X G a_3) b_3 G_3
 have G_4:=uF (P:=l.prog) (w:=w) (mg:=mg) (base:=base) (cl:=cl) (A:=A) F_4 ⟨PySem.W.mg_none_of X G z_all,PySem.W.mg_none_of X G z_len,k_is_letter⟩
 have k_is_carry_row:=bz F_4 (PySem.W.mg_of X G a_4) b_4 G_4
 have G_5:=wJ (P:=l.prog) (w:=w) (mg:=mg) (base:=base) (cl:=cl) (A:=A) F_5 ⟨PySem.W.mg_none_of X G z_len⟩
 have k_is_pair_of:=bz F_5 (PySem.W.mg_of X G a_5) b_5 G_5
 have G_6:=wK (P:=l.prog) (w:=w) (mg:=mg) (base:=base) (cl:=cl) (A:=A) F_6 ⟨PySem.W.mg_none_of X G z_all,PySem.W.mg_none_of X G z_len,k_is_pair_of⟩
 have k_is_one_row:=bz F_6 (PySem.W.mg_of X G a_6) b_6 G_6
 have G_7:=Bw (P:=l.prog) (w:=w) (mg:=mg) (base:=base) (cl:=cl) (A:=A) F_7 ⟨k_is_letter⟩
 have k_is_stop:=bz F_7 (PySem.W.mg_of X G a_7) b_7 G_7
 have G_8:=q_ (P:=l.prog) (w:=w) (mg:=mg) (base:=base) (cl:=cl) (A:=A) F_8 ⟨PySem.W.mg_none_of X G z_all,PySem.W.mg_none_of X G z_len,k_is_stop⟩
 have k_are_alike_units:=bz F_8 (PySem.W.mg_of X G a_8) b_8 G_8
 have G_9:=wL (P:=l.prog) (w:=w) (mg:=mg) (base:=base) (cl:=cl) (A:=A) F_9 ⟨PySem.W.mg_none_of X G z_all,PySem.W.mg_none_of X G z_len,PySem.W.mg_of X G g_LEAST_STOPS,PySem.W.mg_of X G g_MOST_STOPS,k_is_stop⟩
 have k_is_cluster:=bz F_9 (PySem.W.mg_of X G a_9) b_9 G_9
 have G_10:=Bx (P:=l.prog) (w:=w) (mg:=mg) (base:=base) (cl:=cl) (A:=A) F_10 ⟨PySem.W.mg_none_of X G z_all,PySem.W.mg_none_of X G z_len,PySem.W.mg_none_of X G z_list,PySem.W.mg_of X G g_RUNS,r_RUNS,k_are_alike_units,k_is_carry_row,k_is_cluster,k_is_one_row⟩
 have k_is_rule:=bz F_10 (PySem.W.mg_of X G a_10) b_10 G_10
 have G_11:=qg (P:=l.prog) (w:=w) (mg:=mg) (base:=base) (cl:=cl) (A:=A) F_11 ⟨PySem.W.mg_none_of X G z_enumerate,cl_Tongue,nf_Tongue_beginnings,nf_Tongue_carrying,nf_Tongue_eithers,nf_Tongue_likes,nf_Tongue_longs,nf_Tongue_pairs,nf_Tongue_running,nf_Tongue_splittings,k_is_carry_row,k_is_one_row,k_is_rule,k_last_run,k_told_alike,k_told_behind⟩
 have k_Tongue____init__:CalI l.prog w K mg base (cl 0) _ "Tongue" _ _:=⟨_,_,G_11,b_11,⟨mk_Tongue,a_11,i_11,kc_Tongue⟩,PySem.W.mg_of X G aC_Tongue⟩
 have G_12:=wM (P:=l.prog) (w:=w) (mg:=mg) (base:=base) (cl:=cl) (A:=A) F_12 ⟨PySem.W.mg_none_of X G z_abs,PySem.W.mg_none_of X G z_len,PySem.W.mg_none_of X G z_range⟩
 have k__law_words:=bz F_12 (PySem.W.mg_of X G a_12) b_12 G_12
 have G_13:=rm (P:=l.prog) (w:=w) (mg:=mg) (base:=base) (cl:=cl) (A:=A) F_13 ⟨cl_Tongue,nf_Tongue_carrying⟩
 have k_Tongue__carries:CalM l.prog w K mg base (cl 0) _ "carries" _ _:=⟨_,_,G_13,b_13,⟨a_13,i_13,k_13⟩⟩
 have G_14:=By (P:=l.prog) (w:=w) (mg:=mg) (base:=base) (cl:=cl) (A:=A) F_14 ⟨PySem.W.mg_none_of X G z_all,PySem.W.mg_none_of X G z_any,PySem.W.mg_none_of X G z_isinstance,PySem.W.mg_none_of X G z_len,PySem.W.mg_none_of X G z_str,is_str,PySem.W.mg_of X G g_MOST_LETTERS,cl_Tongue,k_is_letter,k_Tongue__carries⟩
 have k_is_word:=bz F_14 (PySem.W.mg_of X G a_14) b_14 G_14
 have G_15:=rZ (P:=l.prog) (w:=w) (mg:=mg) (base:=base) (cl:=cl) (A:=A) F_15 ⟨k_is_word⟩
 have k_refuse_no_word:=bz F_15 (PySem.W.mg_of X G a_15) b_15 G_15
 have G_16:=rn (P:=l.prog) (w:=w) (mg:=mg) (base:=base) (cl:=cl) (A:=A) F_16 ⟨cl_Tongue,nf_Tongue_pairs⟩
 have k_Tongue__is_pair:CalM l.prog w K mg base (cl 0) _ "is_pair" _ _:=⟨_,_,G_16,b_16,⟨a_16,i_16,k_16⟩⟩
 have G_17:=zj (P:=l.prog) (w:=w) (mg:=mg) (base:=base) (cl:=cl) (A:=A) F_17 ⟨PySem.W.mg_none_of X G z_len,cl_Tongue,k_refuse_no_word,k_Tongue__is_pair⟩
 have k_units_of:=bz F_17 (PySem.W.mg_of X G a_17) b_17 G_17
 have G_18:=vm (P:=l.prog) (w:=w) (mg:=mg) (base:=base) (cl:=cl) (A:=A) F_18 ⟨cl_Tongue,k_Tongue__carries⟩
 have k_carriers_of:=bz F_18 (PySem.W.mg_of X G a_18) b_18 G_18
 have G_19:=BJ (P:=l.prog) (w:=w) (mg:=mg) (base:=base) (cl:=cl) (A:=A) F_19 ⟨cl_Tongue,k_Tongue__carries⟩
 have k_gaps_of:=bz F_19 (PySem.W.mg_of X G a_19) b_19 G_19
 have G_20:=sr (P:=l.prog) (w:=w) (mg:=mg) (base:=base) (cl:=cl) (A:=A) F_20 ⟨cl_Tongue,nf_Tongue_splittings⟩
 have k_Tongue__splits:CalM l.prog w K mg base (cl 0) _ "splits" _ _:=⟨_,_,G_20,b_20,⟨a_20,i_20,k_20⟩⟩
 have G_21:=su (P:=l.prog) (w:=w) (mg:=mg) (base:=base) (cl:=cl) (A:=A) F_21 ⟨cl_Tongue,nf_Tongue_beginnings⟩
 have k_Tongue__begins:CalM l.prog w K mg base (cl 0) _ "begins" _ _:=⟨_,_,G_21,b_21,⟨a_21,i_21,k_21⟩⟩
 have G_22:=BK (P:=l.prog) (w:=w) (mg:=mg) (base:=base) (cl:=cl) (A:=A) F_22 ⟨PySem.W.mg_none_of X G z_len,PySem.W.mg_none_of X G z_range,cl_Tongue,k_Tongue__begins,k_Tongue__splits⟩
 have k_staying:=bz F_22 (PySem.W.mg_of X G a_22) b_22 G_22
 have G_23:=uG (P:=l.prog) (w:=w) (mg:=mg) (base:=base) (cl:=cl) (A:=A) F_23 ⟨PySem.W.mg_none_of X G z_len,PySem.W.mg_none_of X G z_zip,cl_Tongue,k_carriers_of,k_gaps_of,k_staying,k_units_of,k_Tongue__splits⟩
 have k_syllables_of:=bz F_23 (PySem.W.mg_of X G a_23) b_23 G_23
 have G_24:=sy (P:=l.prog) (w:=w) (mg:=mg) (base:=base) (cl:=cl) (A:=A) F_24 ⟨cl_Tongue,nf_Tongue_eithers,nf_Tongue_longs⟩
 have k_Tongue__weight:CalM l.prog w K mg base (cl 0) _ "weight" _ _:=⟨_,_,G_24,b_24,⟨a_24,i_24,k_24⟩⟩
 have G_25:=BL (P:=l.prog) (w:=w) (mg:=mg) (base:=base) (cl:=cl) (A:=A) F_25 ⟨cl_Tongue,k_Tongue__weight⟩
 have k_ways_of:=bz F_25 (PySem.W.mg_of X G a_25) b_25 G_25
 have G_26:=vo (P:=l.prog) (w:=w) (mg:=mg) (base:=base) (cl:=cl) (A:=A) F_26 ⟨cl_Tongue,nf_Tongue_running⟩
 have k_Tongue__run:CalM l.prog w K mg base (cl 0) _ "run" _ _:=⟨_,_,G_26,b_26,⟨a_26,i_26,k_26⟩⟩
 have G_27:=yR (P:=l.prog) (w:=w) (mg:=mg) (base:=base) (cl:=cl) (A:=A) F_27 ⟨cl_Tongue,k_ways_of,k_Tongue__run⟩
 have k_last_ways:=bz F_27 (PySem.W.mg_of X G a_27) b_27 G_27
 have G_28:=wN (P:=l.prog) (w:=w) (mg:=mg) (base:=base) (cl:=cl) (A:=A) F_28 ⟨cl_Tongue,k_last_ways,k_refuse_no_word,k_syllables_of,k_ways_of,k_Tongue__carries⟩
 have k_options_of:=bz F_28 (PySem.W.mg_of X G a_28) b_28 G_28
 have G_29:=zm (P:=l.prog) (w:=w) (mg:=mg) (base:=base) (cl:=cl) (A:=A) F_29 ⟨PySem.W.mg_none_of X G z_zip,k_options_of⟩
 have k_table_of:=bz F_29 (PySem.W.mg_of X G a_29) b_29 G_29
 have G_30:=wO (P:=l.prog) (w:=w) (mg:=mg) (base:=base) (cl:=cl) (A:=A) F_30 ⟨trivial⟩
 have k_options_in:=bz F_30 (PySem.W.mg_of X G a_30) b_30 G_30
 have G_31:=yS (P:=l.prog) (w:=w) (mg:=mg) (base:=base) (cl:=cl) (A:=A) F_31 ⟨PySem.W.mg_none_of X G z_len,PySem.W.mg_none_of X G z_list,PySem.W.mg_none_of X G z_reversed,k_options_in⟩
 have k_saying_at:=bz F_31 (PySem.W.mg_of X G a_31) b_31 G_31
 have G_32:=wQ (P:=l.prog) (w:=w) (mg:=mg) (base:=base) (cl:=cl) (A:=A) F_32 ⟨PySem.W.mg_none_of X G z_enumerate,PySem.W.mg_none_of X G z_zip,PySem.W.mg_of X G g_SPLIT,r_SPLIT⟩
 have k_letters_in:=bz F_32 (PySem.W.mg_of X G a_32) b_32 G_32
 have G_33:=sE (P:=l.prog) (w:=w) (mg:=mg) (base:=base) (cl:=cl) (A:=A) F_33 ⟨trivial⟩
 have k_shown_syllable:=bz F_33 (PySem.W.mg_of X G a_33) b_33 G_33
 have G_34:=wR (P:=l.prog) (w:=w) (mg:=mg) (base:=base) (cl:=cl) (A:=A) F_34 ⟨PySem.W.mg_none_of X G z_zip,k_letters_in,k_shown_syllable⟩
 have k_shown_word:=bz F_34 (PySem.W.mg_of X G a_34) b_34 G_34
 have G_35:=zp (P:=l.prog) (w:=w) (mg:=mg) (base:=base) (cl:=cl) (A:=A) F_35 ⟨PySem.W.mg_none_of X G z_len,k_shown_word,k_syllables_of⟩
 have k_shown_as:=bz F_35 (PySem.W.mg_of X G a_35) b_35 G_35
 have G_36:=yU (P:=l.prog) (w:=w) (mg:=mg) (base:=base) (cl:=cl) (A:=A) F_36 ⟨PySem.W.mg_none_of X G z_range⟩
 have k__law_rows:=bz F_36 (PySem.W.mg_of X G a_36) b_36 G_36
 have G_37:=uH (P:=l.prog) (w:=w) (mg:=mg) (base:=base) (cl:=cl) (A:=A) F_37 ⟨PySem.W.mg_none_of X G z_len⟩
 have k__law_cell_at:=bz F_37 (PySem.W.mg_of X G a_37) b_37 G_37
 have G_38:=uI (P:=l.prog) (w:=w) (mg:=mg) (base:=base) (cl:=cl) (A:=A) F_38 ⟨PySem.W.mg_none_of X G z_len,k_options_in⟩
 have k_many_sayings:=bz F_38 (PySem.W.mg_of X G a_38) b_38 G_38
 have G_39:=yV (P:=l.prog) (w:=w) (mg:=mg) (base:=base) (cl:=cl) (A:=A) F_39 ⟨PySem.W.mg_none_of X G z_len,PySem.W.mg_none_of X G z_zip⟩
 have k__law_word:=bz F_39 (PySem.W.mg_of X G a_39) b_39 G_39
 have G_40:=LC (P:=l.prog) (w:=w) (mg:=mg) (base:=base) (cl:=cl) (A:=A) F_40 ⟨PySem.W.mg_none_of X G z_isinstance,PySem.W.mg_none_of X G z_len,PySem.W.mg_none_of X G z_list,PySem.W.mg_none_of X G z_range,PySem.W.mg_none_of X G z_str,is_list,is_str,k__law_cell_at,k__law_rows,k__law_word,k__law_words,k_many_sayings,k_options_of,k_saying_at,k_shown_as,k_syllables_of,k_table_of,k_Tongue____init__⟩
 exact G_40.imp λvs H Q E h=>LK h
theorem walk {l:PySem.W.OpenLaw}{q:Program}{loose:List Str}{XP:(Str->Option Value)->Heap->Prop}{YP:World->Heap->Prop}{d:DefRec}{K:Params->PySem.W.Frag}(hn:l.most=some 63) (hdf:d.params.defaults=[])
  (hY:∀ (w:World) (h:Heap),YP w h->(K w.params).In h)
  (F:∀ (w:World) (mg:Str->Option Value) (fa:Addr) (h:Heap),(K w.params).In h->h.Ns mainGlobals mg->mg d.name=some (.ref fa)->
   ∃ fd:FuncData,(∀ (s:Shared) (u:Value),BindsTo s fd ⟨[u],[]⟩ [("_law_script",u)])/\∀ base:Heap,(K w.params).In base->base.Ns mainGlobals mg->FnOk l.prog w (K w.params) mg base CX0 8 fa fd ["_law_script"] (xg (K w.params))):
  PySem.W.WalkO q loose XP YP l.row.toRowW d [] (λf vs=>PySem.call f vs):=
 L2.walk_of (n:=63) (k:=8) (x := "_law_script") (CX:=λ_=>CX0) (sp:=λw=>xg (K w.params)) hn (by decide) hdf ⟨rfl,by decide,by decide⟩ hY F (λ_ _ a ns hl hO hS=>⟨a,ns,rfl,hO,hS,hl,λ_=>rfl⟩) λ_ _ _ _ _ z=>z
end My
end
open PySem PySem.W PyProof.Rows
def PySem.W.Fast.tw6623635295833410246 : Unit := ()
def PySem.W.Fast.tw6064421522268848568 : Unit := ()
def PySem.W.Fast.tw14805436849044126181 : Unit := ()
def PySem.W.Fast.tw17221511701877183468 : Unit := ()
def PySem.W.Fast.tw1729680450902721299 : Unit := ()
def PySem.W.Fast.tw12955385333349639088 : Unit := ()
def PySem.W.Fast.tw10432471917224411868 : Unit := ()
def PySem.W.Fast.tw958477325772939730 : Unit := ()
def PySem.W.Fast.tw16793974416250997359 : Unit := ()
def PySem.W.Fast.tw14423713385867940946 : Unit := ()
def PySem.W.Fast.tw3281999015302294165 : Unit := ()
def PySem.W.Fast.tw16756279052573338328 : Unit := ()
def PySem.W.Fast.tw7715728378450857574 : Unit := ()
def PySem.W.Fast.tw3701667548780212921 : Unit := ()
def PySem.W.Fast.tw15737910040039855551 : Unit := ()
def PySem.W.Fast.tw16351723499927022316 : Unit := ()
def PySem.W.Fast.tw5725043866583072490 : Unit := ()
def PySem.W.Fast.tw18183625072049100361 : Unit := ()
def PySem.W.Fast.tw8387053481521161953 : Unit := ()
def PySem.W.Fast.tw17349689058905775420 : Unit := ()
def PySem.W.Fast.tw15746733103737367522 : Unit := ()
def PySem.W.Fast.tw6356265837232830003 : Unit := ()
def PySem.W.Fast.tw10269550311590791736 : Unit := ()
def PySem.W.Fast.tw17801157755591087730 : Unit := ()
def PySem.W.Fast.tw4493481225968262167 : Unit := ()
def PySem.W.Fast.tw9038746086035610985 : Unit := ()
def PySem.W.Fast.tw9788437869892892443 : Unit := ()
def PySem.W.Fast.tw274526282473463772 : Unit := ()
def PySem.W.Fast.tw3132481635948260517 : Unit := ()
def PySem.W.Fast.tw15338310335974655925 : Unit := ()
def PySem.W.Fast.tw11865225656741671413 : Unit := ()
def PySem.W.Fast.tw11442775671250051597 : Unit := ()
def PySem.W.Fast.tw10608534660473108665 : Unit := ()
def PySem.W.Fast.tw4685456147103365409 : Unit := ()
def PySem.W.Fast.tw18435800055318654677 : Unit := ()
def PySem.W.Fast.tw12625509127293251375 : Unit := ()
def PySem.W.Fast.tw10644071636399315682 : Unit := ()
def PySem.W.Fast.tw3811615823162052009 : Unit := ()
def PySem.W.Fast.tw3885945109078967327 : Unit := ()
def PySem.W.Fast.tw1649056047211483896 : Unit := ()
def PySem.W.Fast.tw4088244290657922653 : Unit := ()
def PySem.W.Fast.tw5790058091372358412 : Unit := ()
def PySem.W.Fast.tw13772191841749154116 : Unit := ()
set_option maxRecDepth 100000 in
set_option maxHeartbeats 0 in
theorem PySem.Challenge.cw_lilt_k22_tables_and_texts_holds : PySem.Challenge.rw_lilt_k22_tables_and_texts.Holds := by
 w_on;o_law;k_head;(case hw=>w_witness2)
 k_fill
 refine My.walk (l:=PySem.Challenge.rw_lilt_k22_tables_and_texts) rfl rfl (λw h Y=>PySem.W.kIn_of Y) ?F
 case F=>
  intro w mg fa h KX G hmg
  refine' My.all_mk KX G hmg ?aC_Tongue ?a_0 ?l_0 ?c_0 ?k_0 ?a_1 ?l_1 ?c_1 ?k_1 ?a_2 ?l_2 ?c_2 ?k_2 ?a_3 ?l_3 ?c_3 ?k_3 ?a_4 ?l_4 ?c_4 ?k_4 ?a_5 ?l_5 ?c_5 ?k_5 ?a_6 ?l_6 ?c_6 ?k_6 ?a_7 ?l_7 ?c_7 ?k_7 ?a_8 ?l_8 ?c_8 ?k_8 ?a_9 ?l_9 ?c_9 ?k_9 ?a_10 ?l_10 ?c_10 ?k_10 ?a_11 ?i_11 ?l_11 ?c_11 ?k_11 ?a_12 ?l_12 ?c_12 ?k_12 ?a_13 ?i_13 ?l_13 ?c_13 ?k_13 ?a_14 ?l_14 ?c_14 ?k_14 ?a_15 ?l_15 ?c_15 ?k_15 ?a_16 ?i_16 ?l_16 ?c_16 ?k_16 ?a_17 ?l_17 ?c_17 ?k_17 ?a_18 ?l_18 ?c_18 ?k_18 ?a_19 ?l_19 ?c_19 ?k_19 ?a_20 ?i_20 ?l_20 ?c_20 ?k_20 ?a_21 ?i_21 ?l_21 ?c_21 ?k_21 ?a_22 ?l_22 ?c_22 ?k_22 ?a_23 ?l_23 ?c_23 ?k_23 ?a_24 ?i_24 ?l_24 ?c_24 ?k_24 ?a_25 ?l_25 ?c_25 ?k_25 ?a_26 ?i_26 ?l_26 ?c_26 ?k_26 ?a_27 ?l_27 ?c_27 ?k_27 ?a_28 ?l_28 ?c_28 ?k_28 ?a_29 ?l_29 ?c_29 ?k_29 ?a_30 ?l_30 ?c_30 ?k_30 ?a_31 ?l_31 ?c_31 ?k_31 ?a_32 ?l_32 ?c_32 ?k_32 ?a_33 ?l_33 ?c_33 ?k_33 ?a_34 ?l_34 ?c_34 ?k_34 ?a_35 ?l_35 ?c_35 ?k_35 ?a_36 ?l_36 ?c_36 ?k_36 ?a_37 ?l_37 ?c_37 ?k_37 ?a_38 ?l_38 ?c_38 ?k_38 ?a_39 ?l_39 ?c_39 ?k_39 ?a_40 ?l_40 ?c_40 ?k_40 ?pg_Tongue ?hd_Tongue ?po_Tongue ?sa_Tongue ?mk_Tongue ?kc_Tongue ?nf_Tongue_beginnings ?nf_Tongue_carrying ?nf_Tongue_eithers ?nf_Tongue_likes ?nf_Tongue_longs ?nf_Tongue_pairs ?nf_Tongue_running ?nf_Tongue_splittings ?z_abs ?z_all ?z_any ?z_enumerate ?z_isinstance ?z_len ?z_list ?z_range ?z_reversed ?z_str ?z_zip ?g_LEAST_STOPS ?g_LETTERS ?g_MOST_LETTERS ?g_MOST_STOPS ?g_RUNS ?lk_RUNS ?g_SPLIT ?lk_SPLIT ?is_list ?is_str
  (case aC_Tongue | a_0 | l_0 | c_0 | k_0 | a_1 | l_1 | c_1 | k_1 | a_2 | l_2 | c_2 | k_2 | a_3 | l_3 | c_3 | k_3 | a_4 | l_4 | c_4 | k_4 | a_5 | l_5 | c_5 | k_5 | a_6 | l_6 | c_6 | k_6 | a_7 | l_7 | c_7 | k_7 | a_8 | l_8 | c_8 | k_8 | a_9 | l_9 | c_9 | k_9 | a_10 | l_10 | c_10 | k_10 | a_11 | i_11 | l_11 | c_11 | k_11 | a_12 | l_12 | c_12 | k_12 | a_13 | i_13 | l_13 | c_13 | k_13 | a_14 | l_14 | c_14 | k_14 | a_15 | l_15 | c_15 | k_15 | a_16 | i_16 | l_16 | c_16 | k_16 | a_17 | l_17 | c_17 | k_17 | a_18 | l_18 | c_18 | k_18 | a_19 | l_19 | c_19 | k_19 | a_20 | i_20 | l_20 | c_20 | k_20 | a_21 | i_21 | l_21 | c_21 | k_21 | a_22 | l_22 | c_22 | k_22 | a_23 | l_23 | c_23 | k_23 | a_24 | i_24 | l_24 | c_24 | k_24 | a_25 | l_25 | c_25 | k_25 | a_26 | i_26 | l_26 | c_26 | k_26 | a_27 | l_27 | c_27 | k_27 | a_28 | l_28 | c_28 | k_28 | a_29 | l_29 | c_29 | k_29 | a_30 | l_30 | c_30 | k_30 | a_31 | l_31 | c_31 | k_31 | a_32 | l_32 | c_32 | k_32 | a_33 | l_33 | c_33 | k_33 | a_34 | l_34 | c_34 | k_34 | a_35 | l_35 | c_35 | k_35 | a_36 | l_36 | c_36 | k_36 | a_37 | l_37 | c_37 | k_37 | a_38 | l_38 | c_38 | k_38 | a_39 | l_39 | c_39 | k_39 | a_40 | l_40 | c_40 | k_40 | pg_Tongue | hd_Tongue | po_Tongue | sa_Tongue | mk_Tongue | kc_Tongue | nf_Tongue_beginnings | nf_Tongue_carrying | nf_Tongue_eithers | nf_Tongue_likes | nf_Tongue_longs | nf_Tongue_pairs | nf_Tongue_running | nf_Tongue_splittings | z_abs | z_all | z_any | z_enumerate | z_isinstance | z_len | z_list | z_range | z_reversed | z_str | z_zip | g_LEAST_STOPS | g_LETTERS | g_MOST_LETTERS | g_MOST_STOPS | g_RUNS | lk_RUNS | g_SPLIT | lk_SPLIT=>k_is)
  (case is_list=>intro t k hm;simp only[My.tb_list,List.mem_cons,List.not_mem_nil,or_false,Prod.mk.injEq] at hm;rcases hm with ⟨rfl,rfl⟩ <;> first | rfl | k_is)
  (case is_str=>intro t k hm;simp only[My.tb_str,List.mem_cons,List.not_mem_nil,or_false,Prod.mk.injEq] at hm;rcases hm with ⟨rfl,rfl⟩ <;> first | rfl | k_is)
