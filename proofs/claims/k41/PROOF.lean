import PyProof.Rows.All
import Wide.All
import OpenK.AllK
import Wide.FinOn
import Lean
import PyProof.EqAt
import PyProof.EqKinds
import PyProof.TupleCall
import PyProof.ZipIter
import PyProof.ListStr
import KE.KRevIter
import PyProof.Rows.Range3
import PyProof.DictWalks
import PyProof.Rows.TupDisplay
import KE.KIntText
import PyProof.WalkInts
import PySem.Challenge.RW_lilt_k41_readings_counted
set_option Elab.async false
set_option linter.all false
set_option maxRecDepth 100000
set_option maxHeartbeats 4000000
namespace L2
open PySem PySem.Spec PyProof.Rows
section
variable {prog:Program}{w:World}{κ:Type} [DecidableEq κ] {kd:HeapKind prog w κ}{A:Around}{E:Value->Shared->Prop}{s:Shared}{d a it:Addr}{xs:List (κ×Addr×Value)}{k:κ}{v:Value}
def DictE (kd:HeapKind prog w κ) (h:Heap) (d:Addr) (xs:List (κ×Addr×Value)):Prop:=
 ∃ o es,h.get? d=some o/\o.ExactDict/\o.data=.dict es xs.length/\es.toList=xs.map (entryOfKey kd)/\(∀ x∈xs,kd.is h x.1 x.2.1)/\(xs.map (·.1)).Nodup
theorem DictE.of {h:Heap}(m:DictE kd h d xs):h.DictOfH kd d xs:=let ⟨o,es,q⟩:=m;⟨o,es,_,q⟩
theorem uB {Q:Unit->Shared->Prop}(hu:kd.room A) (hk:kd.is s.heap k a) (m:DictE kd s.heap d xs) (hz:xs.length<=sizeLine)
  (q:∀ h',DictE kd h' d (storedH xs k a v)->Heap.SameBut d s.heap h'->Q () { s with heap:=h',toks:=s.toks+kd.draws k }):wpAny (model prog w) A (dictSet d (.ref a) v) Q E s:=by
 obtain⟨o,es,o1,o2,o3,o4,o5,o6⟩:=m
 unfold dictSet
 try with_reducible refine wpAny_holding ?_
 refine wpAny_bind (kd.pyHash hu hk ?_)
 unfold dictSetHashed
 try with_reducible refine wpAny_holding ?_
 refine wpAny_bind (wpAny_dictFind_heap (s:={ s with toks:=s.toks+kd.draws k }) hu hk o1 o3 o4 o5 o6 (λno=>?_) λj p hj=>?_)
 ·have nk:k∉xs.map (·.1):=not_mem_keys_of_get no
  have e:=storedH_new (atKey_none_of_get no) a v
  rw[e] at q
  refine wpAny_bind (wpAny_rule (wpAny_updateDictKeys (hz:=by have:=size_of_entries o4;omega) (s:={ s with toks:=s.toks+kd.draws k }) o1 o3 (q _ ⟨_,_,Heap.get?_update_self _ o1 (Obj.isFreed_of_dict (Obj.data_mapDictKeys o3 _)),o2.mapDictKeys _,by rw[List.length_append];exact Obj.data_mapDictKeys o3 _,?_,λx hx=>?_,?_⟩ (Heap.SameBut.update ..))))
  ·simp[o4,entryOfKey]
  ·rcases List.mem_append.mp hx with z | z
   ·exact kd.keeps (o5 x z) o1 o3 (Heap.SameBut.update ..)
   ·rw[List.mem_singleton.mp z];exact kd.keeps hk o1 o3 (Heap.SameBut.update ..)
  ·rw[List.map_append]
   exact List.nodup_append.mpr ⟨o6,by simp,λx hx y hy z=>nk (by rw[List.map_cons,List.map_nil,List.mem_singleton] at hy;have hy:y=k:=hy;subst hy z;exact hx)⟩
 ·have e:=storedH_old (atKey_of_get o6 hj) a v
  rw[e] at q
  refine wpAny_bind (wpAny_rule (wpAny_bind (wpAny_updateDict (s:={ s with toks:=s.toks+kd.draws k }) o1 o3 (wpAny_point (q _ ⟨_,_,Heap.get?_update_self _ o1 (Obj.isFreed_of_dict (Obj.data_mapDict o3 _)),o2.mapDict _,by rw[List.length_map];exact Obj.data_mapDict o3 _,?_,λx hx=>?_,?_⟩ (Heap.SameBut.update ..))))))
  ·have y:=modify_map_putAt (entryOfKey kd) (λe:DictEntry=>{ e with val:=v }) k v (λ_ _=>rfl) o6 hj
   rw[← o4] at y
   cases es
   simpa using y
  ·obtain⟨y,hy,rfl⟩:=List.mem_map.mp hx
   unfold putAt
   split <;> exact kd.keeps (o5 y hy) o1 o3 (Heap.SameBut.update ..)
  ·rw[keys_map_putAt];exact o6
theorem BW {Q:Unit->Shared->Prop}(hu:kd.room A.in1) (hk:kd.is s.heap k a) (m:DictE kd s.heap d xs) (hz:xs.length<=sizeLine)
  (q:∀ h',DictE kd h' d (storedH xs k a v)->Heap.SameBut d s.heap h'->Q () { s with heap:=h',toks:=s.toks+kd.draws k }):wpAny (model prog w) A (setItem (.ref d) (.ref a) v) Q E s:=by
 have ty:=m.of.typeIs
 unfold setItem
 try with_reducible refine wpAny_holding ?_
 refine wpAny_bind (wpAny_sequenceKey ty (by decide) (wpAny_bind (wpAny_callSpecial?_slot (name:=Str.ofString "__setitem__") ty slot_dict_setitem (wpAny_call_entry slot_dict_setitem ty entry_dict_setitem ?_ (args_dict_setitem _ _ _)))))
 show wpAny _ _ (Builtin.Dict.notOrdered "__setitem__" ⟨[.ref d,.ref a,v],[]⟩ >>= _) _ _ s
 refine wpAny_bind (wpAny_notOrdered_dict ty ?_)
 show wpAny _ _ (dictSet d (.ref a) v >>= λ_=>_) _ _ s
 exact wpAny_bind (uB hu hk m hz λh' m' hs'=>wpAny_pure ⟨.none,rfl,wpAny_pure (q h' m' hs')⟩)
theorem Mg {Q:Value->Shared->Prop}(hd:(d == sysModules)=false) (m:DictE kd s.heap d xs)
  (q:∀ h',h'=s.heap.push { cls:=.type "dict_keyiterator",data:=.fields #[.ref d,.int 0 0,.int xs.length 0,.int xs.length 0] }->Q (.ref s.heap.objs.size) { s with heap:=h' }):wpAny (model prog w) A (pyIter (.ref d)) Q E s:=by
 obtain⟨o,es,o1,o2,o3,o4,o5,o6⟩:=id m
 have ty:=m.of.typeIs
 have sz:=size_of_entries o4
 refine wpAny_pyIter_slot ty F.slot_dict_iter (wpAny_call_entry F.slot_dict_iter ty F.entry_dict_iter ?_ (F.args_dict_iter_1 _))
 unfold Builtin.«dict.__iter__» Builtin.Dict.dictSlotNone
 refine wpAny_bind (wpAny_bind (wpAny_notOrdered_dict ty ?_))
 show wpAny _ _ (pure (Value.ref d)) (λ_ _=>_) _ s
 refine wpAny_pure ?_
 show wpAny _ _ (Builtin.Dict.showsAll d >>= λ_=>_) _ _ s
 unfold Builtin.Dict.showsAll
 rw[if_neg (by rw[hd];decide)]
 refine wpAny_bind (wpAny_pure (wpAny_bind (wpAny_dictEntries o1 o3 (wpAny_bind (wpAny_dictEpoch o1 o3 (wpAny_bind (wpAny_newObj_type (wpAny_pure ⟨_,rfl, "dict_keyiterator",_,⟨_,Heap.get?_push_size _ rfl,rfl⟩,F.slot_dict_keyiterator_next.lookup,?_⟩))))))))
 simpa [rawInt,sz] using q _ rfl
theorem Mh {i:Nat}{b:Addr}{Q:Option Value->Shared->Prop}(hi:s.heap.IsKeyIter it d i xs.length xs.length) (m:DictE kd s.heap d xs) (hx:xs[i]?=some (k,b,v))
  (q:∀ h',h'.IsKeyIter it d (i+1) xs.length xs.length->Heap.SameBut it s.heap h'->Q (some (.ref b)) { s with heap:=h' }):wpAny (model prog w) A (pyNext (.ref it)) Q E s:=by
 obtain⟨p,p1,p2,p3⟩:=id hi
 obtain⟨o,es,o1,o2,o3,o4,o5,o6⟩:=id m
 have ty:=hi.typeIs
 have sz:=size_of_entries o4
 unfold pyNext
 refine wpAny_bind (wpAny_attempt (wpAny_callSpecial?_slot (name:=Str.ofString "__next__") ty F.slot_dict_keyiterator_next (wpAny_call_entry F.slot_dict_keyiterator_next ty F.entry_dict_keyiterator_next ?_ (F.args_dict_keyiterator_next_1 _))))
 refine wpAny_bind (wpAny_pure (wpAny_bind (wpAny_bind ?_)))
 first | refine wpAny_bind (wpAny_typeNameOfWhole_keyiter ty (wpAny_pure ?_)) | refine wpAny_bind (wpAny_typeNameOf_keyiter ty (wpAny_pure ?_))
 refine wpAny_bind (wpAny_fieldsOf p1 p3 ?_)
 have own:Builtin.Dict_items.ownsTuple "dict_keyiterator" = false:=by decide
 simp only[own,Bool.false_eq_true,if_false]
 show wpAny _ _ (if (Value.ref d == Value.none)=true then _ else _) (λ_ _=>_) _ s
 rw[if_neg (by intro z;cases z)]
 refine wpAny_bind (wpAny_pure (wpAny_bind (wpAny_dictEntries o1 o3 ?_)))
 rw[if_neg (by rw[sz];simp)]
 refine wpAny_bind (wpAny_pure (wpAny_bind (wpAny_dictEpoch o1 o3 ?_)))
 rw[if_neg (by simp)]
 refine wpAny_pure ?_
 have lt:i < es.size:=by rw[sz];exact(List.getElem?_eq_some_iff.mp hx).1
 have ek:es[i].key=.ref b:=by
  have z:=entry_at o4 i
  rw[hx,Array.getElem?_eq_getElem lt] at z
  rw[Option.some.inj z];rfl
 simp only[show ¬ ((i:Int) < 0) by omega,if_false,Int.toNat_natCast,Array.getElem?_eq_getElem lt]
 refine wpAny_bind ?_
 first | refine wpAny_bind (wpAny_typeNameOfWhole_keyiter ty (wpAny_pure ?_)) | refine wpAny_bind (wpAny_typeNameOf_keyiter ty (wpAny_pure ?_))
 refine wpAny_bind (wpAny_isOneOf_keyiter ty ?_)
 show wpAny _ _ (setField (.ref it) 1 (rawInt ((i:Int)+1)) >>= λ_=>_) _ _ s
 refine wpAny_bind (wpAny_setField p1 p3 (by simp) ?_)
 have hi':(s.heap.update it (Obj.mapFields (·.setIfInBounds 1 (rawInt ((i:Int)+1))))).IsKeyIter it d (i+1) xs.length xs.length:=
  ⟨_,Heap.get?_update_self _ p1 (Obj.isFreed_of_fields (Obj.data_mapFields p3 _)),(Obj.cls_mapFields ..).trans p2,by rw[Obj.data_mapFields p3];simp[rawInt]⟩
 refine wpAny_bind (wpAny_holding (wpAny_bind (wpAny_isOneOf_keyiter (s:={ s with heap:=s.heap.update it (Obj.mapFields (·.setIfInBounds 1 (rawInt ((i:Int)+1)))) }) hi'.typeIs ?_)))
 show wpAny _ _ (pure es[i].key) (λ_ _=>_) _ _
 rw[ek]
 exact wpAny_pure (wpAny_pure ⟨_,rfl,wpAny_pure (q _ hi' (Heap.SameBut.update ..))⟩)
theorem Oq {i:Nat}{Q:Option Value->Shared->Prop}(hh:A.handled=none) (hi:s.heap.IsKeyIter it d i xs.length xs.length) (m:DictE kd s.heap d xs) (hx:xs.length<=i)
  (q:∀ h',Heap.ExtBut it s.heap h'->Q none { s with heap:=h' }):wpAny (model prog w) A (pyNext (.ref it)) Q E s:=by
 obtain⟨p,p1,p2,p3⟩:=id hi
 obtain⟨o,es,o1,o2,o3,o4,o5,o6⟩:=id m
 have ty:=hi.typeIs
 have sz:=size_of_entries o4
 unfold pyNext
 refine wpAny_bind (wpAny_attempt (wpAny_callSpecial?_slot (name:=Str.ofString "__next__") ty F.slot_dict_keyiterator_next (wpAny_call_entry F.slot_dict_keyiterator_next ty F.entry_dict_keyiterator_next ?_ (F.args_dict_keyiterator_next_1 _))))
 refine wpAny_bind (wpAny_pure (wpAny_bind (wpAny_bind ?_)))
 first | refine wpAny_bind (wpAny_typeNameOfWhole_keyiter ty (wpAny_pure ?_)) | refine wpAny_bind (wpAny_typeNameOf_keyiter ty (wpAny_pure ?_))
 refine wpAny_bind (wpAny_fieldsOf p1 p3 ?_)
 have own:Builtin.Dict_items.ownsTuple "dict_keyiterator" = false:=by decide
 simp only[own,Bool.false_eq_true,if_false]
 show wpAny _ _ (if (Value.ref d == Value.none)=true then _ else _) (λ_ _=>_) _ s
 rw[if_neg (by intro z;cases z)]
 refine wpAny_bind (wpAny_pure (wpAny_bind (wpAny_dictEntries o1 o3 ?_)))
 rw[if_neg (by rw[sz];simp)]
 refine wpAny_bind (wpAny_pure (wpAny_bind (wpAny_dictEpoch o1 o3 ?_)))
 rw[if_neg (by simp)]
 refine wpAny_pure ?_
 simp only[show ¬ ((i:Int) < 0) by omega,if_false,Int.toNat_natCast,Array.getElem?_eq_none (show es.size<=i by omega)]
 refine wpAny_bind ?_
 first | refine wpAny_bind (wpAny_typeNameOfWhole_keyiter ty (wpAny_pure ?_)) | refine wpAny_bind (wpAny_typeNameOf_keyiter ty (wpAny_pure ?_))
 show wpAny _ _ (setField (.ref it) 0 .none >>= λ_=>_) _ _ s
 refine wpAny_bind (wpAny_setField p1 p3 (by simp) ?_)
 show wpAny _ _ (newExc (.type "StopIteration") [] >>= λ_=>_) _ _ _
 refine wpAny_bind ?_
 simp only[newExc,newTuple]
 refine wpAny_bind (wpAny_newObj_type (wpAny_bind (m:=firstArgMember _ _) (wpAny_of_eq (a:=Value.none) (by first | rfl | (simp only[firstArgMember];rfl)) (wpAny_newObj_type ?_ (by size_fits)))) (by size_fits))
 simp only[raiseNew]
 refine wpAny_bind (wpAny_handled ?_)
 rw[show A.in1.handled=none by exact hh]
 refine wpAny_bind (wpAny_pure (wpAny_throw ?_))
 refine wpAny_bind (wpAny_isInstance (b:=true) (T := "StopIteration") ⟨_,Heap.get?_push_size _ rfl,rfl⟩ isSubtype_stop ?_)
 exact wpAny_pure (q _ (((Heap.SameBut.update ..).extBut.push _).push _))
end
end L2
namespace L2
open PySem PySem.Spec PyProof.Rows
abbrev pH (h:Heap) (z TI TO T:Addr) (f:Bool):Prop:=h.get? z=some { cls:=.type "zip",dict:=none,data:=.fields #[rawInt T,.bool f,.bool false,.ref TI,.ref TO],slots:=#[] }
section
variable {prog:Program}{w:World}{A:Around}{E:Value->Shared->Prop}{s:Shared}{z TI TO T i1 i2 l1 l2:Addr}{k:Nat}{xs ys:Array Value}{x y:Value}{f:Bool}{oT:Obj}
theorem wR {Q:Bool->Shared->Prop}(hz:pH s.heap z TI TO T f) (hT:s.heap.get? T=some oT) (q:∀ h',pH h' z TI TO T true->Heap.SameBut z s.heap h'->Q false { s with heap:=h' }):wpAny (model prog w) A (Builtin.SmallTypes.ownedTupleIsFree (.ref z)) Q E s:=by
 unfold Builtin.SmallTypes.ownedTupleIsFree
 refine wpAny_bind (wpAny_field hz rfl (x:=rawInt T) rfl ?_)
 have hl:∀ {R:Option Obj->Shared->Prop},R (some oT) s->wpAny (model prog w) A (loadIfAlive T) R E s:=λ{R} hr Γ p _=>by
  show Sem.wp _ _ (.loadIfAlive T _) _ _ p s
  rw[Sem.wp_loadIfAlive,hT]
  exact hr
 refine wpAny_bind (hl ?_)
 have hf:(Option.isNone (some oT))=false:=rfl
 simp only[hf,Bool.false_eq_true,if_false]
 refine wpAny_bind (wpAny_field hz rfl (x:=.bool f) rfl ?_)
 cases f with
 | true=>
  rw[if_neg (by decide)]
  exact wpAny_pure (q s.heap hz ⟨rfl,λ_ _=>rfl⟩)
 | false=>
  rw[if_pos (by decide)]
  exact wpAny_bind (wpAny_setField_rec hz (by simp) λh1 hz1 s1=>wpAny_pure (q h1 hz1 s1))
theorem FW {Q:Option Value->Shared->Prop}(D:ZipApart z TI TO i1 i2 l1 l2) (hz:pH s.heap z TI TO T f) (hT:s.heap.get? T=some oT) (hTI:IsPair s.heap TI (.ref i1) (.ref i2))
  (h1:s.heap.IsListIter i1 l1 k) (h2:s.heap.IsListIter i2 l2 k) (hl1:s.heap.IsList l1 xs) (hl2:s.heap.IsList l2 ys) (hx:xs[k]?=some x) (hy:ys[k]?=some y)
  (q:∀ h',pH h' z TI TO T true->h'.IsListIter i1 l1 (k+1)->h'.IsListIter i2 l2 (k+1)->IsPair h' s.heap.objs.size x y->
   (∀ c o,c≠z->c≠i1->c≠i2->s.heap.get? c=some o->h'.get? c=some o)->h'.objs.size=s.heap.objs.size+1->Q (some (.ref s.heap.objs.size)) { s with heap:=h' }):wpAny (model prog w) A (pyNext (.ref z)) Q E s:=by
 have ty:s.TypeIs (.ref z) "zip" := ⟨_,hz,rfl⟩
 unfold pyNext
 refine wpAny_bind (wpAny_attempt (wpAny_callSpecial?_slot (name:=Str.ofString "__next__") ty F.slot_zip_next (wpAny_call_entry F.slot_zip_next ty F.entry_zip_next ?_ (F.args_zip_next_1 _))))
 show wpAny _ _ (field (.ref z) 2 >>= λ_=>_) _ _ _
 refine wpAny_bind (wpAny_field hz rfl (x:=.bool false) rfl ?_)
 show wpAny _ _ (field (.ref z) 3 >>= λ_=>_) _ _ _
 refine wpAny_bind (wpAny_field hz rfl (x:=.ref TI) rfl (wpAny_bind (wpAny_seqItems hTI rfl ?_)))
 show wpAny _ _ (Builtin.SmallTypes.ownedTupleIsFree (.ref z) >>= λ_=>_) _ _ _
 refine wpAny_bind (wR hz hT λg1 z1 u1=>?_)
 simp only[Bool.false_eq_true,if_false]
 have e1:g1.IsListIter i1 l1 k:=h1.extBut u1.extBut D.i1z
 have e2:g1.IsListIter i2 l2 k:=h2.extBut u1.extBut D.i2z
 have e3:g1.IsList l1 xs:=hl1.extBut u1.extBut D.l1z
 have e4:g1.IsList l2 ys:=hl2.extBut u1.extBut D.l2z
 refine wpAny_bind ?_
 rw[← Array.forIn_toList];simp only[List.forIn_cons,List.forIn_nil]
 refine wpAny_bind (wpAny_bind (wpAny_holding ?_))
 show wpAny _ _ (Builtin.SmallTypes.nextOf (.ref i1) >>= λ_=>_) _ _ _
 refine wpAny_bind (wpAny_nextOf_list_item (s:={ s with heap:=g1 }) e1 e3 hx λg2 z2 u2=>wpAny_pure (wpAny_pure ?_))
 refine wpAny_bind (wpAny_bind (wpAny_holding ?_))
 show wpAny _ _ (Builtin.SmallTypes.nextOf (.ref i2) >>= λ_=>_) _ _ _
 refine wpAny_bind (wpAny_nextOf_list_item (s:={ s with heap:=g2 }) (e2.extBut u2.extBut D.i12.symm) (e4.extBut u2.extBut D.l2i1) hy λg3 z3 u3=>wpAny_pure (wpAny_pure (wpAny_pure ?_)))
 have sz:g3.objs.size=s.heap.objs.size:=by rw[u3.1,u2.1,u1.1]
 refine wpAny_bind (wpAny_newTuple (hsz:=by show (2:Nat)<=sizeLine;decide) ?_)
 have up:∀ c o,c≠z->c≠i1->c≠i2->s.heap.get? c=some o->(g3.push { cls:=.type "tuple",data:=.seq #[x,y] }).get? c=some o:=λc o c1 c2 c3 e=>Heap.get?_push_of_some _ (u3.extBut _ _ c3 (u2.extBut _ _ c2 (u1.extBut _ _ c1 e)))
 refine wpAny_pure ⟨_,rfl,wpAny_pure ?_⟩
 show Q (some (.ref g3.objs.size)) _
 rw[sz]
 refine q _ (Heap.get?_push_of_some _ (u3.extBut _ _ D.i2z.symm (u2.extBut _ _ D.i1z.symm z1))) ((z2.extBut u3.extBut D.i12).at λo e=>Heap.get?_push_of_some _ e) (z3.at λo e=>Heap.get?_push_of_some _ e) (by rw[← sz];exact Heap.get?_push_size _ rfl) up (by rw[Heap.size_push,sz])
theorem Ip {Q:Option Value->Shared->Prop}(hh:A.handled=none) (D:ZipApart z TI TO i1 i2 l1 l2) (hz:pH s.heap z TI TO T f) (hT:s.heap.get? T=some oT) (hTI:IsPair s.heap TI (.ref i1) (.ref i2))
  (h1:s.heap.IsListIter i1 l1 k) (hl1:s.heap.IsList l1 xs) (hx:xs[k]?=none)
  (q:∀ h',(∀ c o,c≠z->c≠i1->c≠i2->s.heap.get? c=some o->h'.get? c=some o)->Q none { s with heap:=h' }):wpAny (model prog w) A (pyNext (.ref z)) Q E s:=by
 have ty:s.TypeIs (.ref z) "zip" := ⟨_,hz,rfl⟩
 unfold pyNext
 refine wpAny_bind (wpAny_attempt (wpAny_callSpecial?_slot (name:=Str.ofString "__next__") ty F.slot_zip_next (wpAny_call_entry F.slot_zip_next ty F.entry_zip_next ?_ (F.args_zip_next_1 _))))
 show wpAny _ _ (field (.ref z) 2 >>= λ_=>_) _ _ _
 refine wpAny_bind (wpAny_field hz rfl (x:=.bool false) rfl ?_)
 show wpAny _ _ (field (.ref z) 3 >>= λ_=>_) _ _ _
 refine wpAny_bind (wpAny_field hz rfl (x:=.ref TI) rfl (wpAny_bind (wpAny_seqItems hTI rfl ?_)))
 show wpAny _ _ (Builtin.SmallTypes.ownedTupleIsFree (.ref z) >>= λ_=>_) _ _ _
 refine wpAny_bind (wR hz hT λg1 z1 u1=>?_)
 simp only[Bool.false_eq_true,if_false]
 refine wpAny_bind ?_
 rw[← Array.forIn_toList];simp only[List.forIn_cons,List.forIn_nil]
 refine wpAny_bind (wpAny_bind (wpAny_holding ?_))
 show wpAny _ _ (Builtin.SmallTypes.nextOf (.ref i1) >>= λ_=>_) _ _ _
 refine wpAny_bind (wpAny_nextOf_list_end (s:={ s with heap:=g1 }) hh (h1.extBut u1.extBut D.i1z) (hl1.extBut u1.extBut D.l1z) hx λg2 e u2 he=>?_)
 obtain⟨o,ho,hc⟩:=he
 refine wpAny_bind (wpAny_isInstance (b:=true) (T := "StopIteration") ⟨o,ho,hc⟩ isSubtype_stop ?_)
 exact wpAny_pure (q _ λc o c1 c2 c3 e=>u2 _ _ c2 (u1.extBut _ _ c1 e))
def ZIts (h:Heap) (xs ys:Array Value) (B:Addr) (W:List Addr) (acc:Array Value) (n:Nat):Prop:=
 acc.size=n/\∀ i,i < n->∃ t x y,acc[i]?=some (.ref t)/\xs[i]?=some x/\ys[i]?=some y/\IsPair h t x y/\B<=t/\t∉W/\∀ j,j < i->acc[j]?≠some (.ref t)
theorem ZIts.keep {h h':Heap}{B:Addr}{W:List Addr}{acc:Array Value}{n:Nat}(q:ZIts h xs ys B W acc n) (k:∀ c o,c∉W->h.get? c=some o->h'.get? c=some o):ZIts h' xs ys B W acc n:=
 ⟨q.1,λi hi=>let ⟨t,x,y,a,b,c,d,e,f,g⟩:=q.2 i hi;⟨t,x,y,a,b,c,k _ _ f d,e,f,g⟩⟩
theorem ZIts.push {h:Heap}{B t:Addr}{W:List Addr}{acc:Array Value}{n:Nat}{x y:Value}(q:ZIts h xs ys B W acc n) (hx:xs[n]?=some x) (hy:ys[n]?=some y) (ht:IsPair h t x y) (hB:B<=t) (hW:t∉W) (hw:∀ j,j < n->acc[j]?≠some (.ref t)):ZIts h xs ys B W (acc.push (.ref t)) (n+1):=by
 obtain⟨q1,q2⟩:=q
 refine⟨by rw[Array.size_push,q1],λi hi=>?_⟩
 rcases Nat.lt_or_ge i n with h1 | h1
 ·obtain⟨t',x',y',a,b,c,d,e,f,g⟩:=q2 i h1
  exact⟨t',x',y',by rw[Array.getElem?_push_lt (by omega)];rw[Array.getElem?_eq_getElem (by omega)] at a;exact a,b,c,d,e,f,λj hj=>by rw[Array.getElem?_push_lt (by omega),← Array.getElem?_eq_getElem (by omega)];exact g j hj⟩
 ·have e:i=n:=by omega
  subst e
  exact⟨t,x,y,by rw[← q1];exact Array.getElem?_push_size,hx,hy,ht,hB,hW,λj hj=>by rw[Array.getElem?_push_lt (by omega),← Array.getElem?_eq_getElem (by omega)];exact hw j hj⟩
theorem FZ {R:Result->Shared->Prop}{N B:Addr}{res:Value}{a b:Value}(hh:A.handled=none) (D:ZipApart z TI TO i1 i2 l1 l2) (hn:xs.size<=sizeLine) (hxy:ys.size=xs.size) (n1:N≠z) (n2:N≠TI) (n3:N≠TO) (n4:N≠i1) (n5:N≠i2) (n6:N≠l1) (n7:N≠l2)
  (lz:z < B) (lTO:TO < B) (li1:i1 < B) (li2:i2 < B) (lN:N < B):
  ∀ (m k:Nat) (s:Shared) (acc:Array Value) (c:Nat),xs.size - k=m->k<=xs.size->B<=s.heap.objs.size->((k=0/\IsZip s.heap z TI TO .none/\IsPair s.heap TO a b)\/∃ T f oT,pH s.heap z TI TO T f/\s.heap.get? T=some oT/\T∉[z,TO,i1,i2,N])->
  IsPair s.heap TI (.ref i1) (.ref i2)->s.heap.IsListIter i1 l1 k->s.heap.IsListIter i2 l2 k->s.heap.IsList l1 xs->s.heap.IsList l2 ys->
  s.heap.get? N=some { cls:=.type "list",dict:=none,data:=.seq acc c,slots:=#[] }->ZIts s.heap xs ys B [z,TO,i1,i2,N] acc k->
  (∀ h' acc' c',(∀ c o,c∉[z,TO,i1,i2,N]->s.heap.get? c=some o->h'.get? c=some o)->h'.get? N=some { cls:=.type "list",dict:=none,data:=.seq acc' c',slots:=#[] }->ZIts h' xs ys B [z,TO,i1,i2,N] acc' xs.size->R (.ok (.ret res)) { s with heap:=h' })->
  codeAny (model prog w) A (.builtin "list.extend.loop" ⟨[.ref N,.ref z,res],[]⟩) R s:=by
 have ni:∀ {c:Addr},c∉[z,TO,i1,i2,N]->c≠z/\c≠TO/\c≠i1/\c≠i2/\c≠N:=λ{c} h=>by simpa using h
 intro m
 induction m with
 | zero=>
  intro k s acc c hm hk hB hZ hTI h1 h2 hl1 hl2 hN hI q
  have e:k=xs.size:=by omega
  subst e
  have ex:xs[xs.size]?=none:=Array.getElem?_eq_none (Nat.le_refl _)
  refine codeAny_builtin F.entry_extend_loop ?_
  rw[Around.under_plainId F.plain_extend_loop _]
  show wpAny _ A.in1 (pyNext (.ref z) >>= λ_=>_) _ _ s
  rcases hZ with ⟨_,hz,hTO⟩ | ⟨T,f,oT,hz,hT,_⟩
  ·refine wpAny_bind (wpAny_pyNext_zip_end hh D hz hTI hTO h1 h2 hl1 hl2 (.inl ex) λh' k'=>wpAny_pure ?_)
   have kk:∀ c o,c∉[z,TO,i1,i2,N]->s.heap.get? c=some o->h'.get? c=some o:=λc o hc e=>let ⟨a,b,c,d,_⟩:=ni hc;k' _ _ a b c d e
   exact q h' acc c kk (k' _ _ n1 n3 n4 n5 hN) (hI.keep kk)
  ·refine wpAny_bind (Ip hh D hz hT hTI h1 hl1 ex λh' k'=>wpAny_pure ?_)
   have kk:∀ c o,c∉[z,TO,i1,i2,N]->s.heap.get? c=some o->h'.get? c=some o:=λc o hc e=>let ⟨a,b,c,d,_⟩:=ni hc;k' _ _ a c d e
   exact q h' acc c kk (k' _ _ n1 n4 n5 hN) (hI.keep kk)
 | succ m ih=>
  intro k s acc c hm hk hB hZ hTI h1 h2 hl1 hl2 hN hI q
  have lt:k < xs.size:=by omega
  have ex:xs[k]?=some xs[k]:=Array.getElem?_eq_getElem lt
  have ey:ys[k]?=some (ys[k]'(by omega)):=Array.getElem?_eq_getElem (by omega)
  refine codeAny_builtin F.entry_extend_loop ?_
  rw[Around.under_plainId F.plain_extend_loop _]
  show wpAny _ A.in1 (pyNext (.ref z) >>= λ_=>_) _ _ s
  have big:∀ c,c < B->s.heap.objs.size≠c:=λc hc e=>absurd (Nat.lt_of_lt_of_le hc hB) (by rw[e];exact Nat.lt_irrefl _)
  have nW:s.heap.objs.size∉[z,TO,i1,i2,N]:=by
   simp only[List.mem_cons,List.not_mem_nil,or_false,not_or]
   exact⟨big _ lz,big _ lTO,big _ li1,big _ li2,big _ lN⟩
  have go:∀ h',(∀ c o,c∉[z,TO,i1,i2,N]->s.heap.get? c=some o->h'.get? c=some o)->h'.get? N=some { cls:=.type "list",dict:=none,data:=.seq acc c,slots:=#[] }->IsPair h' TI (.ref i1) (.ref i2)->h'.IsListIter i1 l1 (k+1)->h'.IsListIter i2 l2 (k+1)->
    h'.IsList l1 xs->h'.IsList l2 ys->IsPair h' s.heap.objs.size xs[k] (ys[k]'(by omega))->h'.objs.size=s.heap.objs.size+1->(∃ T f oT,pH h' z TI TO T f/\h'.get? T=some oT/\T∉[z,TO,i1,i2,N])->
    wpAny (model prog w) A.in1 (updateSeq N (·.push (.ref s.heap.objs.size)) >>= λ_=>pure (Fin.again (.builtin "list.extend.loop" ⟨[.ref N,.ref z,res],[]⟩)))
     (λfin s'=>match fin with | .done f=>R (.ok f) s' | .again c'=>c'.quiet=true/\codeAny (model prog w) A c' R s') (λe s'=>R (.error e) s') { s with heap:=h' }:=by
   intro h' kk hN' hTI' h1' h2' hl1' hl2' hp hsz hZ'
   have up:∀ c o,c≠N->h'.get? c=some o->(h'.update N (Obj.mapSeq (·.push (.ref s.heap.objs.size)))).get? c=some o:=λc o hc e=>(Heap.get?_update_other _ _ (Ne.symm hc)).trans e
   have usz:(h'.update N (Obj.mapSeq (·.push (.ref s.heap.objs.size)))).objs.size=h'.objs.size:=(Heap.SameBut.update h' N _).1
   refine wpAny_bind (wpAny_updateSeq (s:={ s with heap:=h' }) hN' rfl (wpAny_pure ⟨plainId_quiet F.plain_extend_loop _,ih (k+1) { s with heap:=h'.update N (Obj.mapSeq (·.push (.ref s.heap.objs.size))) } (acc.push (.ref s.heap.objs.size)) _ (by omega) lt (by show B<=Array.size _;rw[usz,hsz];exact Nat.le_succ_of_le hB) (.inr ?_) (up _ _ n2.symm hTI') (h1'.at λo e=>up _ o n4.symm e) (h2'.at λo e=>up _ o n5.symm e) (hl1'.at λo e=>up _ o n6.symm e) (hl2'.at λo e=>up _ o n7.symm e) (Heap.get?_update_self _ hN' rfl) ?_ λh2 acc2 c2 k2 e2 i2=>?_⟩) (by rw[hI.1];omega) (by show (acc.push _).size<=sizeLine+1;rw[Array.size_push,hI.1];omega))
   ·obtain⟨T,f,oT,a1,a2,a3⟩:=hZ'
    exact⟨T,f,oT,up _ _ n1.symm a1,up _ _ (ni a3).2.2.2.2 a2,a3⟩
   ·exact((hI.keep kk).push ex ey hp hB nW λj hj e=>by
     obtain⟨t',_,_,a1,_,_,a2,_⟩:=hI.2 j hj
     rw[a1] at e
     have e':t'=s.heap.objs.size:=Value.ref.inj (Option.some.inj e)
     exact absurd (Heap.lt_size a2) (by rw[e'];exact Nat.lt_irrefl _)).keep λc o hc e=>up c o (ni hc).2.2.2.2 e
   ·exact q h2 acc2 c2 (λc o hc e=>k2 c o hc (up c o (ni hc).2.2.2.2 (kk c o hc e))) e2 i2
  rcases hZ with ⟨_,hz,hTO⟩ | ⟨T,f,oT,hz,hT,nT⟩
  ·refine wpAny_bind (wpAny_pyNext_zip_item D hz hTI hTO h1 h2 hl1 hl2 ex ey λh' z1 z2 z3 z4 z5 z6 k'=>?_)
   exact go h' (λc o hc e=>let ⟨a,b,c,d,_⟩:=ni hc;k' _ _ a b c d e) (k' _ _ n1 n3 n4 n5 hN) (k' _ _ D.TIz D.TITO D.TIi1 D.TIi2 hTI) z3 z4 (hl1.at λo e=>k' _ o D.l1z D.l1TO D.l1i1 D.l1i2 e) (hl2.at λo e=>k' _ o D.l2z D.l2TO D.l2i1 D.l2i2 e) z5 z6 ⟨_,false,_,z1,z5,nW⟩
  ·refine wpAny_bind (FW D hz hT hTI h1 h2 hl1 hl2 ex ey λh' z1 z3 z4 z5 k' z6=>?_)
   obtain⟨b1,b2,b3,b4,b5⟩:=ni nT
   exact go h' (λc o hc e=>let ⟨a,b,c,d,_⟩:=ni hc;k' _ _ a c d e) (k' _ _ n1 n4 n5 hN) (k' _ _ D.TIz D.TIi1 D.TIi2 hTI) z3 z4 (hl1.at λo e=>k' _ o D.l1z D.l1i1 D.l1i2 e) (hl2.at λo e=>k' _ o D.l2z D.l2i1 D.l2i2 e) z5 z6 ⟨T,true,oT,z1,k' _ _ b1 b3 b4 hT,nT⟩
theorem zc:typeLookup (.type "zip") "__len__" = pure none:=by rw[typeLookup_type,builtinLookup_eq_fast];kernel_rfl
theorem yg:typeLookup (.type "zip") "__length_hint__" = pure none:=by rw[typeLookup_type,builtinLookup_eq_fast];kernel_rfl
theorem tR {Q:Value->Shared->Prop}{a b:Value}(hh:A.handled=none) (D:ZipApart z TI TO i1 i2 l1 l2) (hn:xs.size<=sizeLine) (hxy:ys.size=xs.size) (hz:IsZip s.heap z TI TO .none) (hTO:IsPair s.heap TO a b) (hTI:IsPair s.heap TI (.ref i1) (.ref i2))
  (h1:s.heap.IsListIter i1 l1 0) (h2:s.heap.IsListIter i2 l2 0) (hl1:s.heap.IsList l1 xs) (hl2:s.heap.IsList l2 ys)
  (q:∀ h' acc c,(∀ c o,c∉[z,TO,i1,i2,s.heap.objs.size]->s.heap.get? c=some o->h'.get? c=some o)->h'.get? s.heap.objs.size=some { cls:=.type "list",dict:=none,data:=.seq acc c,slots:=#[] }->
   ZIts h' xs ys (s.heap.objs.size+1) [z,TO,i1,i2,s.heap.objs.size] acc xs.size->Q (.ref s.heap.objs.size) { s with heap:=h' }):wpAny (model prog w) A (call (.type "list") [.ref z]) Q E s:=by
 refine callType_codes (Q₁:=λx t=>x=.ref s.heap.objs.size/\t={ s with heap:=s.heap.push { cls:=.type "list",data:=.seq #[] } }) F.called_list (F.typeCall_list_1 _) F.entry_list_init (code_list_new _ ⟨rfl,rfl⟩) λx t ht=>?_
 obtain⟨rfl,rfl⟩:=ht
 have hN:(s.heap.push { cls:=.type "list",data:=.seq #[] }).get? s.heap.objs.size=some { cls:=.type "list",data:=.seq #[] }:=Heap.get?_push_size _ rfl
 refine⟨⟨_,hN,rfl⟩,F.args_list_init_2 _ _,?_⟩
 have lt:∀ {b:Addr}{o:Obj},s.heap.get? b=some o->b < s.heap.objs.size:=λe=>Heap.lt_size e
 have ne:∀ {b:Addr}{o:Obj},s.heap.get? b=some o->b≠s.heap.objs.size:=λe=>Nat.ne_of_lt (Heap.lt_size e)
 have m1:∃ o,s.heap.get? i1=some o:=let ⟨o,e,_⟩:=h1;⟨o,e⟩
 have m2:∃ o,s.heap.get? i2=some o:=let ⟨o,e,_⟩:=h2;⟨o,e⟩
 have m3:∃ o,s.heap.get? l1=some o:=let ⟨o,e,_⟩:=hl1;⟨o,e⟩
 have m4:∃ o,s.heap.get? l2=some o:=let ⟨o,e,_⟩:=hl2;⟨o,e⟩
 obtain⟨o1,m1⟩:=m1
 obtain⟨o2,m2⟩:=m2
 obtain⟨o3,m3⟩:=m3
 obtain⟨o4,m4⟩:=m4
 have psz:(s.heap.push { cls:=.type "list",data:=.seq #[] }).objs.size=s.heap.objs.size+1:=Heap.size_push ..
 show wpAny _ A.in1.in1 (do let old ← Builtin.List.listItems (.ref s.heap.objs.size);Builtin.List.listUpdate (.ref s.heap.objs.size) (λ_=>#[]);letGo old.toList.reverse;Builtin.List.listExtendWith (.ref s.heap.objs.size) (.ref z) .none) _ _ _
 refine wpAny_bind ?_;unfold Builtin.List.listItems
 refine wpAny_bind (wpAny_seqItems hN rfl (wpAny_pure ?_))
 show wpAny _ A.in1.in1 (updateSeq s.heap.objs.size (λ_=>#[]) >>= λ_=>letGo (#[]:Array Value).toList.reverse >>= λ_=>Builtin.List.listExtendWith (.ref s.heap.objs.size) (.ref z) .none) _ _ _
 refine wpAny_bind (wpAny_updateSeq hN rfl (wpAny_bind (wpAny_letGo ?_)))
 have g1:=Heap.get?_update_self (Obj.mapSeq (λ_=>(#[]:Array Value))) hN rfl
 generalize hS:s.heap.objs.size=N at *
 have up:∀ b o,b≠N->s.heap.get? b=some o->((s.heap.push { cls:=.type "list",data:=.seq #[] }).update N (Obj.mapSeq (λ_=>(#[]:Array Value)))).get? b=some o:=λb o hb e=>(Heap.get?_update_other _ _ (Ne.symm hb)).trans (Heap.get?_push_of_some _ e)
 have usz:((s.heap.push { cls:=.type "list",data:=.seq #[] }).update N (Obj.mapSeq (λ_=>(#[]:Array Value)))).objs.size=N+1:=by rw[(Heap.SameBut.update (s.heap.push { cls:=.type "list",data:=.seq #[] }) N _).1,psz]
 generalize (s.heap.push { cls:=.type "list",data:=.seq #[] }).update N (Obj.mapSeq (λ_=>(#[]:Array Value)))=G1 at *
 have zn:z≠N:=ne hz
 have tz:(⟨G1,s.gens,s.drawn,s.toks,s.os⟩:Shared).TypeIs (.ref z) "zip" := ⟨_,up _ _ zn hz,rfl⟩
 unfold Builtin.List.listExtendWith
 refine wpAny_bind (wpAny_typeOf tz ?_)
 have r1:Builtin.List.listSameRef (.ref N) (.ref z)=false:=by simp[Builtin.List.listSameRef,zn.symm]
 have r2:(Value.type "zip" == Value.type "list")=false:=by decide
 have r3:(Value.type "zip" == Value.type "tuple")=false:=by decide
 simp only[r1,r2,r3,Bool.or_false,Bool.false_eq_true,if_false]
 refine wpAny_bind (wpAny_pyIter_zip (up _ _ zn hz) (wpAny_bind (wpAny_holding ?_)))
 unfold Builtin.List.listLengthHint
 refine wpAny_bind (wpAny_specialOf tz zc ?_)
 show wpAny _ A.in1.in1 (specialOf (Value.ref z) (Str.ofString "__length_hint__") >>= λ_=>_) _ _ _
 refine wpAny_bind (wpAny_specialOf tz yg (wpAny_pure ?_))
 show wpAny _ A.in1.in1 (rule "list.extend.makes-room" >>= λ_=>Builtin.List.listTouch (.ref N) >>= λ_=>again (.builtin "list.extend.loop" ⟨[.ref N,.ref z,.none],[]⟩)) _ _ _
 refine wpAny_bind (wpAny_rule (wpAny_bind ?_))
 show wpAny _ A.in1.in1 (updateSeq N (·.push .none) >>= λ_=>updateSeq N (·.pop)) _ _ _
 refine wpAny_bind (wpAny_updateSeq g1 rfl ?_)
 have g2:=Heap.get?_update_self (Obj.mapSeq (·.push Value.none)) g1 rfl
 refine wpAny_updateSeq (hz:=by seq_fits) g2 rfl ?_
 have g3:=Heap.get?_update_self (Obj.mapSeq (·.pop)) g2 rfl
 have up2:∀ b o,b≠N->s.heap.get? b=some o->((G1.update N (Obj.mapSeq (·.push Value.none))).update N (Obj.mapSeq (·.pop))).get? b=some o:=λb o hb e=>(Heap.get?_update_other _ _ (Ne.symm hb)).trans ((Heap.get?_update_other _ _ (Ne.symm hb)).trans (up b o hb e))
 have usz2:((G1.update N (Obj.mapSeq (·.push Value.none))).update N (Obj.mapSeq (·.pop))).objs.size=N+1:=by rw[(Heap.SameBut.update _ N _).1,(Heap.SameBut.update G1 N _).1,usz]
 generalize (G1.update N (Obj.mapSeq (·.push Value.none))).update N (Obj.mapSeq (·.pop))=G2 at *
 refine wpAny_pure ⟨plainId_quiet F.plain_extend_loop _,FZ (A:=A.in1) (a:=a) (b:=b) (show A.in1.handled=none from hh) D hn hxy zn.symm (ne hTI).symm (ne hTO).symm (ne m1).symm (ne m2).symm (ne m3).symm (ne m4).symm (Nat.lt_succ_of_lt (lt hz)) (Nat.lt_succ_of_lt (lt hTO)) (Nat.lt_succ_of_lt (lt m1)) (Nat.lt_succ_of_lt (lt m2)) (Nat.lt_succ_self N) xs.size 0 _ #[] _ rfl (Nat.zero_le _) (Nat.le_of_eq usz2.symm) (.inl ⟨rfl,up2 _ _ zn hz,up2 _ _ (ne hTO) hTO⟩) (up2 _ _ (ne hTI) hTI)
  (h1.at λo e=>up2 _ o (ne m1) e) (h2.at λo e=>up2 _ o (ne m2) e) (hl1.at λo e=>up2 _ o (ne m3) e) (hl2.at λo e=>up2 _ o (ne m4) e) g3 ⟨rfl,λi hi=>absurd hi (Nat.not_lt_zero _)⟩ λh' acc c kk e it=>?_⟩
 exact⟨rfl,q h' acc c (λc o hc e=>kk c o hc (up2 c o (λz=>hc (by simp[z])) e)) e it⟩
end
end L2
namespace L2
open PySem PySem.Spec PyProof.Rows
abbrev Key:=Sum Int Str
def km:Key->Value->Bool
 | .inl k,v=>Value.isInt k v
 | .inr x,v=>Value.isStrOf x v
def Ir (w:World):Key->Int
 | .inl k=>hashInt k
 | .inr x=>hashStr w x
theorem bR:∀ {k:Key}{v:Value},km k v=true->(∃ i t,k=Sum.inl i/\v=Value.int i t)\/(∃ x t,k=Sum.inr x/\v=Value.str x t)
 | .inl i,v,h=>by
  obtain⟨t,e⟩:=Value.isInt_shape (k:=i) (v:=v) h
  exact .inl ⟨i,t,rfl,e⟩
 | .inr x,v,h=>by
  obtain⟨t,e⟩:=Value.isStrOf_shape (x:=x) (v:=v) h
  exact .inr ⟨x,t,rfl,e⟩
theorem zf (i:Int) (t:Tok):km (.inl i) (.int i t)=true:=by simp[km,Value.isInt]
theorem zg (x:Str) (t:Tok):km (.inr x) (.str x t)=true:=by simp[km,Value.isStrOf]
theorem nO (a b:Int):decide ((Sum.inl a:Key)=Sum.inl b)=(a == b):=by
 by_cases e:a=b
 ·subst e;simp
 ·have h:¬ (Sum.inl a:Key)=Sum.inl b:=λq=>e (Sum.inl.inj q)
  rw[decide_eq_false h]
  exact(beq_eq_false_iff_ne.mpr e).symm
theorem zj (a b:Str):decide ((Sum.inr a:Key)=Sum.inr b)=decide (a=b):=by
 by_cases e:a=b
 ·subst e;simp
 ·have h:¬ (Sum.inr a:Key)=Sum.inr b:=λq=>e (Sum.inr.inj q)
  rw[decide_eq_false h,decide_eq_false e]
theorem uC (a:Int) (b:Str):decide ((Sum.inl a:Key)=Sum.inr b)=false:=decide_eq_false (λq=>nomatch q)
theorem uD (a:Str) (b:Int):decide ((Sum.inr a:Key)=Sum.inl b)=false:=decide_eq_false (λq=>nomatch q)
def fW (prog:Program) (w:World):PySem.KeyKind prog w Key where
 is:=km
 hash:=Ir w
 inj:=λv a b ha hb=>by
  rcases bR ha with ⟨i,t,rfl,rfl⟩ | ⟨x,t,rfl,rfl⟩
  ·rcases bR hb with ⟨j,u,rfl,e⟩ | ⟨y,u,rfl,e⟩
   ·injection e with e1 _;rw[e1]
   ·exact nomatch e
  ·rcases bR hb with ⟨j,u,rfl,e⟩ | ⟨y,u,rfl,e⟩
   ·exact nomatch e
   ·injection e with e1 _;rw[e1]
 byValue:=λk v h=>by
  rcases bR h with ⟨i,t,rfl,rfl⟩ | ⟨x,t,rfl,rfl⟩ <;> rfl
 pyHash:=λhv h=>by
  rcases bR hv with ⟨i,t,rfl,rfl⟩ | ⟨x,t,rfl,rfl⟩
  ·exact wpAny_pyHash_int h
  ·exact wpAny_pyHash_str h
 eqBool:=λhu hv h=>by
  rcases bR hu with ⟨i,t,rfl,rfl⟩ | ⟨x,t,rfl,rfl⟩
  ·rcases bR hv with ⟨j,u,rfl,rfl⟩ | ⟨y,u,rfl,rfl⟩
   ·rw[nO] at h;exact wpAny_eqBool_int h
   ·rw[uC] at h;exact SeqAt.EqAt.int_str i t y u _ _ _ _ h
  ·rcases bR hv with ⟨j,u,rfl,rfl⟩ | ⟨y,u,rfl,rfl⟩
   ·rw[uD] at h;exact SeqAt.EqAt.str_int x t j u _ _ _ _ h
   ·rw[zj] at h;exact wpAny_eqBool_str h
 «strs»:=λk x t v h=>by
  rcases bR h with ⟨i,u,rfl,e⟩ | ⟨y,u,rfl,e⟩
  ·exact nomatch e
  ·injection e with e1 _
   subst e1
   cases v <;> rfl
def nP:Key->Value->Bool
 | .inl k,.bool b=>decide (k=if b=true then 1 else 0)
 | k,v=>km k v
theorem cB {k:Key}{v:Value}(h:nP k v=true):(∃ b,k=Sum.inl (if b=true then 1 else 0)/\v=Value.bool b)\/(∃ i t,k=Sum.inl i/\v=Value.int i t)\/(∃ x t,k=Sum.inr x/\v=Value.str x t):=by
 unfold nP at h
 split at h
 ·exact .inl ⟨_,congrArg _ (of_decide_eq_true h),rfl⟩
 ·exact .inr (bR h)
theorem zm {k:Key}{v:Value}(h:km k v=true):nP k v=true:=by
 rcases bR h with ⟨i,t,rfl,rfl⟩ | ⟨x,t,rfl,rfl⟩ <;> exact h
theorem wG (b:Bool):nP (.inl (if b=true then 1 else 0)) (.bool b)=true:=decide_eq_true rfl
theorem Iu (a b:Bool):decide ((Sum.inl (if a=true then 1 else 0):Key)=Sum.inl (if b=true then 1 else 0))=(a == b):=by
 rw[nO];cases a <;> cases b <;> rfl
theorem zp {prog:Program}{w:World}{A:Around}{E:Value->Shared->Prop}{s:Shared}(b:Bool){Q:Int->Shared->Prop}(h:Q (hashInt (if b=true then 1 else 0)) { s with toks:=s.toks+1 }):
  wpAny (model prog w) A (pyHash (.bool b)) Q E s:=by
 refine PySem.W.pyHash_slot (s:=s) (T := "bool") (by cases b <;> exact PySem.typeIs_bool s _) PySem.F.slot_bool_hash entry_int_hash (args_int_hash _) (by rw[beq_builtin_none]) (.inl rfl) ?_
 have e:reduceHash (rawHash (if b=true then 1 else 0))=hashInt (if b=true then 1 else 0):=by cases b <;> decide
 show wpAny _ _ (do ret (← mkInt (rawHash (if b=true then 1 else 0)))) _ _ s
 refine wpAny_mono (wpAny_ret_mkInt (Q:=λv s'=>∃ t,v=.int (rawHash (if b=true then 1 else 0)) t/\s'={ s with toks:=s.toks+1 }) ⟨_,rfl,rfl⟩) (λfin s' hq=>?_) λ_ _ x=>x
 obtain⟨v,rfl,t,rfl,rfl⟩:=hq
 exact⟨_,_,rfl,by rw[e];exact h⟩
def dh (prog:Program) (w:World):PySem.KeyKind prog w Key where
 is:=nP
 hash:=Ir w
 inj:=λv a b ha hb=>by
  rcases cB ha with ⟨c,rfl,rfl⟩ | ⟨i,t,rfl,rfl⟩ | ⟨x,t,rfl,rfl⟩ <;> rcases cB hb with ⟨d,rfl,e⟩ | ⟨j,u,rfl,e⟩ | ⟨y,u,rfl,e⟩ <;> cases e <;> rfl
 byValue:=λk v h=>by
  rcases cB h with ⟨c,rfl,rfl⟩ | ⟨i,t,rfl,rfl⟩ | ⟨x,t,rfl,rfl⟩ <;> rfl
 pyHash:=λhv h=>by
  rcases cB hv with ⟨c,rfl,rfl⟩ | ⟨i,t,rfl,rfl⟩ | ⟨x,t,rfl,rfl⟩
  ·exact zp c h
  ·exact wpAny_pyHash_int h
  ·exact wpAny_pyHash_str h
 eqBool:=λhu hv h=>by
  rcases cB hu with ⟨c,rfl,rfl⟩ | ⟨i,t,rfl,rfl⟩ | ⟨x,t,rfl,rfl⟩
  ·rcases cB hv with ⟨d,rfl,rfl⟩ | ⟨j,u,rfl,rfl⟩ | ⟨y,u,rfl,rfl⟩
   ·rw[Iu] at h;exact SeqAt.EqAt.bool_bool _ _ _ _ _ _ h
   ·rw[nO] at h;exact SeqAt.EqAt.bool_int _ _ _ _ _ _ _ h
   ·rw[uC] at h;exact SeqAt.EqAt.bool_str _ _ _ _ _ _ _ h
  ·rcases cB hv with ⟨d,rfl,rfl⟩ | ⟨j,u,rfl,rfl⟩ | ⟨y,u,rfl,rfl⟩
   ·rw[nO] at h;exact SeqAt.EqAt.int_bool _ _ _ _ _ _ _ h
   ·rw[nO] at h;exact wpAny_eqBool_int h
   ·rw[uC] at h;exact SeqAt.EqAt.int_str i t y u _ _ _ _ h
  ·rcases cB hv with ⟨d,rfl,rfl⟩ | ⟨j,u,rfl,rfl⟩ | ⟨y,u,rfl,rfl⟩
   ·rw[uD] at h;exact SeqAt.EqAt.str_bool _ _ _ _ _ _ _ h
   ·rw[uD] at h;exact SeqAt.EqAt.str_int x t j u _ _ _ _ h
   ·rw[zj] at h;exact wpAny_eqBool_str h
 «strs»:=λk x t v h=>by
  rcases cB h with ⟨c,rfl,e⟩ | ⟨i,u,rfl,e⟩ | ⟨y,u,rfl,e⟩
  ·exact nomatch e
  ·exact nomatch e
  ·injection e with e1 _
   subst e1
   cases v <;> rfl
theorem wH (prog:Program) (w:World) (i:Int) (t:Tok):(fW prog w).is (.inl i) (.int i t)=true:=zf i t
theorem wI (prog:Program) (w:World) (x:Str) (t:Tok):(fW prog w).is (.inr x) (.str x t)=true:=zg x t
end L2
namespace L2
open PySem PySem.Spec PyProof.Rows
inductive V where
 | non | bl (b:Bool) | int (i:Int) | str (x:Str) | byt (b:Array UInt8) | flt (b:UInt64) | ref (a:Addr) | ty (n:String)
 deriving DecidableEq
def RelV:V->Value->Prop
 | .non,u=>u=Value.none
 | .bl b,u=>u=Value.bool b
 | .int i,u=>∃ t,u=Value.int i t
 | .str x,u=>∃ t,u=Value.str x t
 | .byt b,u=>∃ t,u=Value.bytes b t
 | .flt b,u=>∃ t,u=Value.float b t
 | .ref a,u=>u=Value.ref a
 | .ty n,u=>u=Value.type n
abbrev Vals:List V->List Value->Prop:=Paired RelV
theorem Vals.length {xs:List V}{us:List Value}(r:Vals xs us):xs.length=us.length:=Paired.length r
theorem Vals.get:∀ {xs:List V}{us:List Value}{i:Nat}{x:V},Vals xs us->xs[i]?=some x->∃ u,us[i]?=some u/\RelV x u
 | _,_,_,_,.nil,e=>by simp at e
 | _,_,0,_,.cons r _,e=>by simp at e;subst e;exact⟨_,rfl,r⟩
 | _,_,i+1,x,.cons _ t,e=>by
  obtain⟨u,h1,h2⟩:=Vals.get (i:=i) (x:=x) t (by simpa using e)
  exact⟨u,by simpa using h1,h2⟩
theorem Vals.set {x:V}{u:Value}(r:RelV x u):∀ {xs:List V}{us:List Value}(i:Nat),Vals xs us->Vals (xs.set i x) (us.set i u)
 | _,_,_,.nil=>.nil
 | _,_,0,.cons _ t=>.cons r t
 | _,_,i+1,.cons q t=>.cons q (Vals.set r i t)
theorem Vals.append:∀ {xs ys:List V}{us ws:List Value},Vals xs us->Vals ys ws->Vals (xs++ys) (us++ws)
 | _,_,_,_,.nil,s=>s
 | _,_,_,_,.cons r t,s=>.cons r (Vals.append t s)
theorem Vals.take:∀ {xs:List V}{us:List Value}(n:Nat),Vals xs us->Vals (xs.take n) (us.take n)
 | _,_,0,_=>.nil
 | _,_,_+1,.nil=>.nil
 | _,_,n+1,.cons r t=>.cons r (Vals.take n t)
theorem Vals.drop:∀ {xs:List V}{us:List Value}(n:Nat),Vals xs us->Vals (xs.drop n) (us.drop n)
 | _,_,0,r=>r
 | _,_,_+1,.nil=>.nil
 | _,_,n+1,.cons _ t=>Vals.drop n t
def RelO:Option V->Option Value->Prop
 | some v,some u=>RelV v u
 | none,none=>True
 | _,_=>False
def KV {κ:Type}:List (κ×V)->List (κ×Value)->Prop:=Paired λ(p:κ×V) (q:κ×Value)=>p.1=q.1/\RelV p.2 q.2
def kV:Key->V
 | .inl i=>.int i
 | .inr x=>.str x
inductive HO where
 | lst (xs:List V)
 | tup (xs:List V)
 | dK (kvs:List (Key×V)) | dT (kvs:List (List Key×V))
 | set (S:Int->Bool) (n:Nat)
 | ins (C dx:Addr) (fs:List (Str×V))
 | own (x:Addr)
 | xd (fs:List (Str×V))
 | met (f x:Addr)
 | rng (lo hi:Int)
 | frz (o:Obj) (u:HO)
 | tbl (ps:Array Value)
 | ext (φ:Heap->Prop)
abbrev Hp:=Addr->Option HO
def upd (H:Hp) (a:Addr) (o:HO):Hp:=λb=>if b=a then some o else H b
theorem aP {H:Hp}{a:Addr}{o:HO}:upd H a o a=some o:=by unfold upd;rw[if_pos rfl]
theorem aH {H:Hp}{a b:Addr}{o:HO}(h:b≠a):upd H a o b=H b:=by unfold upd;rw[if_neg h]
theorem Es {H:Hp}{a b:Addr}{o u:HO}(h:H a=some o) (h':H b=some u) (d:o≠u):a≠b:=by
 intro e;subst e;rw[h] at h';exact d (Option.some.inj h')
theorem aV {H:Hp}{a b:Addr}{o:HO}(h:H a=some o) (h':H b=none):a≠b:=by
 intro e;subst e;rw[h] at h';cases h'
def uE (ks:List Key) (vs:List V):Prop:=vs=ks.map kV\/∃ x b,ks=[.inr x,.inl (if b=true then 1 else 0)]/\vs=[.str x,.bl b]
abbrev jE (H:Hp) (b:Addr) (ks:List Key):Prop:=∃ vs,H b=some (.tup vs)/\uE ks vs
section
variable (P:Program) (w:World)
def ObjOk (H:Hp) (h:Heap) (a:Addr):HO->Prop
 | .lst xs=>xs.length<=sizeLine/\∃ (its:List Value) (n:Nat),Vals xs its/\h.get? a=some { cls:=.type "list",data:=.seq its.toArray n }
 | .tup xs=>xs.length<=sizeLine/\∃ its:List Value,Vals xs its/\IsTup h a its.toArray
 | .dK kvs=>kvs.length<=sizeLine/\(a == sysModules)=false/\∃ vs,KV kvs vs/\h.DictOf (fW P w) a vs
 | .dT kvs=>kvs.length<=sizeLine/\(a == sysModules)=false/\∃ xs:List (List Key×Addr×Value),
   Paired (λ(p:List Key×V) (q:List Key×Addr×Value)=>p.1=q.1/\jE H q.2.1 p.1/\RelV p.2 q.2.2) kvs xs /\
   ∃ o es ep,h.get? a=some o/\o.ExactDict/\o.data=.dict es ep/\es.toList=xs.map (entryOfKey (tupleKind (dh P w)))/\(xs.map (·.1)).Nodup/\ep=xs.length
 | .set S n=>h.SetOf (intKind P w) a S n
 | .ins C dx fs=>H dx=some (.own a)/\fs.length<=1000/\dx≠a/\h.get? a=some (PySem.W.instObj C dx) /\
   ∃ mA,h.Ns1 dx mA/\(∀ f,RelO (fs.lookup f) (mA f))/\PySem.Within mA (fs.map (·.1))
 | .own _=>∃ o,h.get? a=some o
 | .xd fs=>∃ mA,h.Ns1 a mA/\∀ f,RelO (fs.lookup f) (mA f)
 | .rng lo hi=>∃ t u v,h.get? a=some { cls:=.type "range",data:=.fields #[.int lo t,.int hi u,.int 1 v] }
 | .frz o u=>h.get? a=some o/\ObjOk H h a u
 | .tbl ps=>h.get? a=some { cls:=.none,data:=.fields ps }
 | .met f x=>h.get? a=some (PySem.W.methodObj (.ref f) (.ref x))
 | .ext φ=>φ h/\(∃ o,h.get? a=some o)/\∀ h1 h2:Heap,φ h1->(∀ o,h1.get? a=some o->h2.get? a=some o)->φ h2
def HOk (H:Hp) (h:Heap):Prop:=∀ a o,H a=some o->ObjOk P w H h a o
end
section
variable {P:Program}{w:World}{H H':Hp}{h h':Heap}{a:Addr}{o:HO}
theorem ObjOk.lt (x:ObjOk P w H h a o):a < h.objs.size:=by
 cases o with
 | lst xs=>obtain⟨_,_,_,_,e⟩:=x;exact Heap.lt_size e
 | tup xs=>obtain⟨_,_,_,p⟩:=x;exact p.lt
 | dK kvs=>obtain⟨_,_,_,_,o,_,_,e,_⟩:=x;exact Heap.lt_size e
 | dT kvs=>obtain⟨_,_,_,_,o,_,_,e,_⟩:=x;exact Heap.lt_size e
 | set S n=>obtain⟨o,_,_,_,e,_⟩:=x;exact Heap.lt_size e
 | ins C dx fs=>obtain⟨_,_,_,e,_⟩:=x;exact Heap.lt_size e
 | own y=>obtain⟨_,e⟩:=x;exact Heap.lt_size e
 | xd fs=>obtain⟨_,⟨_,_,_,e,_⟩,_⟩:=x;exact Heap.lt_size e
 | rng lo hi=>obtain⟨_,_,_,e⟩:=x;exact Heap.lt_size e
 | frz ob u=>obtain⟨e,_⟩:=x;exact Heap.lt_size e
 | tbl ps=>exact Heap.lt_size (show h.get? a=some _ from x)
 | met f y=>exact Heap.lt_size (show h.get? a=some _ from x)
 | ext φ=>obtain⟨_,⟨_,e⟩,_⟩:=x;exact Heap.lt_size e
theorem Paired.mapP {α β:Type}{F G:α->β->Prop}:∀ {l₁:List α}{l₂:List β},Paired F l₁ l₂->(∀ a b,F a b->G a b)->Paired G l₁ l₂
 | _,_,.nil,_=>.nil
 | _,_,.cons r t,f=>.cons (f _ _ r) (Paired.mapP t f)
theorem ObjOk.stay (x:ObjOk P w H h a o) (k:∀ b u,(b=a\/H b=some (.own a))->h.get? b=some u->h'.get? b=some u)
  (ho:∀ b,H b=some (.own a)->H' b=some (.own a)) (ht:∀ b xs,H b=some (.tup xs)->H' b=some (.tup xs)):ObjOk P w H' h' a o:=by
 induction o with
 | lst xs=>obtain⟨z,its,n,r,e⟩:=x;exact⟨z,its,n,r,k _ _ (.inl rfl) e⟩
 | tup xs=>obtain⟨z,its,r,ob,e,c⟩:=x;exact⟨z,its,r,ob,k _ _ (.inl rfl) e,c⟩
 | dK kvs=>obtain⟨z,y,vs,r,ob,es,ep,e,c⟩:=x;exact⟨z,y,vs,r,ob,es,ep,k _ _ (.inl rfl) e,c⟩
 | dT kvs=>
  obtain⟨z,y,xs,r,ob,es,ep,e,c⟩:=x
  exact⟨z,y,xs,Paired.mapP r λp q z=>⟨z.1,⟨_,ht _ _ z.2.1.choose_spec.1,z.2.1.choose_spec.2⟩,z.2.2⟩,ob,es,ep,k _ _ (.inl rfl) e,c⟩
 | set S n=>obtain⟨ob,es,ep,t,e,c⟩:=x;exact⟨ob,es,ep,t,k _ _ (.inl rfl) e,c⟩
 | ins C dx fs=>
  obtain⟨d,z,ne,e,mA,⟨od,es,ep,e2,c⟩,r⟩:=x
  exact⟨ho _ d,z,ne,k _ _ (.inl rfl) e,mA,⟨od,es,ep,k _ _ (.inr d) e2,c⟩,r⟩
 | own y=>obtain⟨ob,e⟩:=x;exact⟨ob,k _ _ (.inl rfl) e⟩
 | xd fs=>obtain⟨mA,⟨od,es,ep,e,c⟩,r⟩:=x;exact⟨mA,⟨od,es,ep,k _ _ (.inl rfl) e,c⟩,r⟩
 | rng lo hi=>obtain⟨t,u,v,e⟩:=x;exact⟨t,u,v,k _ _ (.inl rfl) e⟩
 | frz ob u ih=>obtain⟨e,q⟩:=x;exact⟨k _ _ (.inl rfl) e,ih q⟩
 | tbl ps=>
  have e:h.get? a=some { cls:=.none,data:=.fields ps }:=x
  show h'.get? a=some { cls:=.none,data:=.fields ps }
  exact k a _ (.inl rfl) e
 | met f y=>
  have e:h.get? a=some (PySem.W.methodObj (.ref f) (.ref y)):=x
  show h'.get? a=some (PySem.W.methodObj (.ref f) (.ref y))
  exact k a _ (.inl rfl) e
 | ext φ=>obtain⟨p,⟨o,e⟩,st⟩:=x;exact⟨st _ _ p λo q=>k _ _ (.inl rfl) q,⟨o,k _ _ (.inl rfl) e⟩,st⟩
theorem HOk.lt (x:HOk P w H h) (e:H a=some o):a < h.objs.size:=(x a o e).lt
theorem HOk.fresh (x:HOk P w H h) (e:h.objs.size<=a):H a=none:=by
 cases q:H a with
 | none=>rfl
 | some u=>exact absurd (Nat.lt_of_lt_of_le (x.lt q) e) (Nat.lt_irrefl _)
theorem HOk.kept (x:HOk P w H h) (k:∀ b u,h.get? b=some u->h'.get? b=some u):HOk P w H h':=λa o e=>
 (x a o e).stay (λb u _ q=>k b u q) (λ_ q=>q) λ_ _ q=>q
theorem HOk.laid (x:HOk P w H h) (k:∀ b u,h.get? b=some u->h'.get? b=some u) (hp:h.objs.size<=a) (new:ObjOk P w (upd H a o) h' a o):HOk P w (upd H a o) h':=λb u e=>by
 have hn:=x.fresh hp
 by_cases hb:b=a
 ·subst hb;rw[aP] at e;cases e;exact new
 ·rw[aH hb] at e
  exact(x b u e).stay (λc v _ q=>k c v q) (λc q=>by rw[aH (aV q hn)];exact q) λc xs q=>by rw[aH (aV q hn)];exact q
end
def Rd (H:Hp) (a:Addr) (u:HO):Prop:=H a=some u\/∃ o,H a=some (.frz o u)
theorem Rd.of {H:Hp}{a:Addr}{u:HO}(h:H a=some u):Rd H a u:=.inl h
theorem Rd.ok {P:Program}{w:World}{H:Hp}{h:Heap}{a:Addr}{u:HO}(r:Rd H a u) (x:HOk P w H h):ObjOk P w H h a u:=by
 rcases r with r | ⟨o,r⟩
 ·exact x a u r
 ·obtain⟨_,q⟩:=x a _ r
  exact q
def Mut:Option HO->Prop
 | some (.lst _)=>True
 | some (.dK _)=>True
 | some (.dT _)=>True
 | some (.set _ _)=>True
 | some (.ins _ _ _)=>True
 | some (.ext _)=>True
 | _=>False
section
variable {P:Program}{w:World}{H:Hp}{h h':Heap}{x e:Addr}{o':HO}
theorem HOk.write (ok:HOk P w H h) (mu:Mut (H x)) (he:e=x\/H e=some (.own x)) (k:∀ b u,b≠e->h.get? b=some u->h'.get? b=some u) (heo:∃ u,h'.get? e=some u)
  (new:ObjOk P w (upd H x o') h' x o'):HOk P w (upd H x o') h':=λb u q=>by
 have nown:∀ c y,H c=some (.own y)->c≠x:=λc y r z=>by subst z;rw[r] at mu;exact mu
 have ntup:∀ c xs,H c=some (.tup xs)->c≠x:=λc xs r z=>by subst z;rw[r] at mu;exact mu
 by_cases hb:b=x
 ·subst hb;rw[aP] at q;cases q;exact new
 ·rw[aH hb] at q
  by_cases hbe:b=e
  ·have q':H b=some (.own x):=by
    rcases he with z | z
    ·exact absurd (hbe.trans z) hb
    ·rw[hbe];exact z
   rw[q] at q';cases q'
   obtain⟨v,hv⟩:=heo
   exact⟨v,by rw[hbe];exact hv⟩
  ·refine(ok b u q).stay (λc v hc r=>k c v ?_ r) (λc r=>by rw[aH (nown c b r)];exact r) λc xs r=>by rw[aH (ntup c xs r)];exact r
   rcases hc with rfl | hc
   ·exact hbe
   ·rintro rfl
    rcases he with z | z
    ·exact nown c b hc z
    ·rw[hc] at z;cases z;exact hb rfl
end
structure Un (fs ex:List Addr) (H H':Hp) (h h':Heap):Prop where
 keep:∀ b o,h.get? b=some o->H b=none->b∉fs->b∉ex->h'.get? b=some o
 slot:∀ b o,h.get? b=some o->H b=none->b∈fs->b∉ex->∃ sl,h'.get? b=some { o with slots:=sl }
 free:∀ b o,h.get? b=some o->H b=none->b∉ex->H' b=none
 there:∀ b o,h.get? b=some o->b∉ex->∃ o',h'.get? b=some o'
 tups:∀ b xs,H b=some (.tup xs)->H' b=some (.tup xs)
 frzs:∀ b o u,H b=some (.frz o u)->H' b=some (.frz o u)
 tbls:∀ b ps,H b=some (.tbl ps)->∃ more,H' b=some (.tbl (ps++more))
section
variable {fs fs' ex ex':List Addr}{H H1 H2:Hp}{h h1 h2 h':Heap}{a x e:Addr}{o:HO}
theorem Un.any (u:Un fs ex H H1 h h1){b:Addr}{ob:Obj}(q:h.get? b=some ob) (n:H b=none) (hx:b∉ex):∃ sl,h1.get? b=some { ob with slots:=sl }:=by
 by_cases hb:b∈fs
 ·exact u.slot b ob q n hb hx
 ·exact⟨ob.slots,u.keep b ob q n hb hx⟩
theorem Un.trans (a:Un fs ex H H1 h h1) (b:Un fs ex H1 H2 h1 h2):Un fs ex H H2 h h2 where
 keep:=λc ob q n hc hx=>b.keep c ob (a.keep c ob q n hc hx) (a.free c ob q n hx) hc hx
 slot:=λc ob q n hc hx=>by
  obtain⟨sl,e1⟩:=a.slot c ob q n hc hx
  obtain⟨sl',e2⟩:=b.slot c _ e1 (a.free c ob q n hx) hc hx
  exact⟨sl',e2⟩
 free:=λc ob q n hx=>by
  obtain⟨o',e1⟩:=a.there c ob q hx
  exact b.free c o' e1 (a.free c ob q n hx) hx
 there:=λc ob q hx=>by
  obtain⟨o',e1⟩:=a.there c ob q hx
  exact b.there c o' e1 hx
 tups:=λc xs q=>b.tups c xs (a.tups c xs q)
 frzs:=λc ob xs q=>b.frzs c ob xs (a.frzs c ob xs q)
 tbls:=λc ps q=>by
  obtain⟨m1,e1⟩:=a.tbls c ps q
  obtain⟨m2,e2⟩:=b.tbls c _ e1
  exact⟨m1++m2,by rw[e2,Array.append_assoc]⟩
theorem Un.kept (k:∀ b u,h.get? b=some u->h'.get? b=some u):Un fs ex H H h h':=
 ⟨λb ob q _ _ _=>k b ob q,λb ob q _ _ _=>⟨ob.slots,k b ob q⟩,λ_ _ _ n _=>n,λb ob q _=>⟨ob,k b ob q⟩,λ_ _ q=>q,λ_ _ _ q=>q,λ_ ps q=>⟨#[],by rw[q];simp⟩⟩
theorem Un.refl:Un fs ex H H h h:=Un.kept λ_ _ q=>q
theorem Un.laid (k:∀ b u,h.get? b=some u->h'.get? b=some u) (hp:h.objs.size<=a) (hn:H a=none):Un fs ex H (upd H a o) h h' where
 keep:=λb u q _ _ _=>k b u q
 slot:=λb u q _ _ _=>⟨u.slots,k b u q⟩
 free:=λb u q n _=>by rw[aH (Nat.ne_of_lt (Nat.lt_of_lt_of_le (Heap.lt_size q) hp))];exact n
 there:=λb u q _=>⟨u,k b u q⟩
 tups:=λb xs q=>by rw[aH (aV q hn)];exact q
 frzs:=λb u xs q=>by rw[aH (aV q hn)];exact q
 tbls:=λb ps q=>⟨#[],by rw[aH (aV q hn),q];simp⟩
theorem Un.write (mu:Mut (H x)) (he:e=x\/H e=some (.own x)) (k:∀ b u,b≠e->h.get? b=some u->h'.get? b=some u) (heo:∃ u,h'.get? e=some u):Un fs ex H (upd H x o) h h':=by
 have hx:∀ b,H b=none->b≠x:=λb n z=>by subst z;rw[n] at mu;exact mu
 have hb:∀ b,H b=none->b≠e:=λb n z=>by
  subst z
  rcases he with r | r
  ·exact hx b n r
  ·rw[n] at r;cases r
 have hm:∀ b u,H b=some u->¬ Mut (some u)->b≠x:=λb u q nm z=>by subst z;rw[q] at mu;exact nm mu
 refine⟨λb u q n _ _=>k b u (hb b n) q,λb u q n _ _=>⟨u.slots,k b u (hb b n) q⟩,λb u q n _=>by rw[aH (hx b n)];exact n,λb u q _=>?_,
  λb xs q=>by rw[aH (hm b _ q λz=>z)];exact q,λb u xs q=>by rw[aH (hm b _ q λz=>z)];exact q,λb ps q=>⟨#[],by rw[aH (hm b _ q λz=>z),q];simp⟩⟩
 by_cases hbe:b=e
 ·subst hbe;exact heo
 ·exact⟨u,k b u hbe q⟩
theorem Un.mono (u:Un fs ex H H1 h h1) (hs:∀ b∈fs,b∈fs') (hx:∀ b∈ex,b∈ex'):Un fs' ex' H H1 h h1:=
 ⟨λb ob q n hb he=>u.keep b ob q n (λz=>hb (hs b z)) λz=>he (hx b z),λ_ _ q n _ he=>u.any q n λz=>he (hx _ z),λb ob q n he=>u.free b ob q n λz=>he (hx b z),λb ob q he=>u.there b ob q λz=>he (hx b z),u.tups,u.frzs,u.tbls⟩
end
def trk (h:Heap) (H:Hp):List Addr:=(List.range h.objs.size).filter λa=>(H a).isSome
def mH (h:Heap) (H:Hp):Heap:=PySem.W.hideAll h (trk h H)
theorem zq (h:Heap) (H:Hp):(mH h H).objs.size=h.objs.size:=PySem.W.hideAll_size _ _
theorem BZ {h:Heap}{H:Hp}{b:Addr}{o:Obj}(e:h.get? b=some o) (n:H b=none):(mH h H).get? b=some o:=
 PySem.W.hideAll_get _ e λhm=>by
  have q:(H b).isSome=true:=(List.mem_filter.mp hm).2
  rw[n] at q;simp at q
theorem F_ {h:Heap}{H:Hp}{b:Addr}{o:Obj}(e:(mH h H).get? b=some o):h.get? b=some o/\H b=none:=by
 have e':h.get? b=some o:=PySem.W.of_hideAll (trk h H) e
 refine⟨e',?_⟩
 cases q:H b with
 | none=>rfl
 | some x=>
  have hm:b∈trk h H:=List.mem_filter.mpr ⟨List.mem_range.mpr (Heap.lt_size e'),by simp[q]⟩
  have z:(mH h H).get? b=none:=PySem.W.hideAll_none (trk h H) hm
  rw[z] at e;cases e
def Ga (g h:Heap) (L:Addr):List (Addr×Obj):=(List.range h.objs.size).filterMap λa=>if a=L\/(g.get? a).isSome=true then none else (h.get? a).map λo=>(a,o)
def rest (g h:Heap) (L d:Addr):List (Addr×Obj):=(Ga g h L).filter λp=>decide (p.1≠d)
end L2
namespace L2
open PySem PySem.Spec PyProof.Rows
structure Mod (K:PySem.W.Frag) (mg:Str->Option Value) (base:Heap):Prop where
 kin:K.In base
 glob:base.Ns mainGlobals mg
 blt:∃ mb,base.Ns builtinsNs mb/\∀ x:Str,x ≠ "__name__" -> mb x=bootBuiltins x
 nolimit:base.NoLimit
structure Cx where
 prog:Program
 w:World
 K:PySem.W.Frag
 mg:Str->Option Value
 base:Heap
 A:Around
 N:List Str
 s₀:Shared
 H₀:Hp
 env:Env
 outer:List Env
 stack:List Env
 ex:List Addr
 fn:Str->Bool
 calm:Bool
 pn:List (Addr×Obj)
 xe:Value->Shared->Prop
def frs (l:List Env):List Addr:=l.filterMap (·.frame)
abbrev Cx.fs (X:Cx):List Addr:=frs X.outer
def Vis (sc:Scope) (x:Str):Prop:=sc.names.lookup x=some .local\/sc.names.lookup x=some .cell\/sc.names.lookup x=some .free
def Loc (sc:Scope) (x:Str):Prop:=sc.names.lookup x=some .local\/sc.names.lookup x=some .cell
def Look (env:Env) (h:Heap) (m:Str->Option Value) (x:Str) (u:Value):Prop:=
 (env.kindOf x=some .local/\m x=some u)\/((env.kindOf x=some .cell\/env.kindOf x=some .free)/\∃ c,env.cells.lookup x=some c/\h.IsCell c (some u))
structure Cx.Ok (X:Cx):Prop where
 mod:Mod X.K X.mg X.base
 kind:X.env.scope.kind=.function
 glob:X.env.globals=mainGlobals
 blt:X.env.builtins=builtinsNs
 above:X.s₀.heap.objs.size<=X.env.locals
 inj:∀ x y c,X.env.cells.lookup x=some c->X.env.cells.lookup y=some c->x=y
 has:∀ x,(X.env.kindOf x=some .cell\/X.env.kindOf x=some .free)->∃ c,X.env.cells.lookup x=some c
 cab:∀ x c,X.fn x=true->X.env.cells.lookup x=some c->X.s₀.heap.objs.size<=c
 hd:X.calm=true->X.A.handled=none
 frames:X.A.frames=some X.stack
 stk:X.stack=X.outer\/(X.stack=X.env::X.outer/\X.env.frame=some X.env.locals)
 exf:∀ b∈X.ex,b≠X.env.locals/\∀ x c,X.env.cells.lookup x=some c->c≠b
 bs:∀ b o,X.base.get? b=some o->X.s₀.heap.get? b=some o/\X.H₀ b=none
 bsz:X.base.objs.size<=X.s₀.heap.objs.size
 noex:∀ b o,X.base.get? b=some o->b∉X.ex
 exfs:∀ b∈X.ex,b∉X.fs
 funs:X.s₀.heap.FunFrames X.base X.outer
 frf:∀ b∈X.fs,X.H₀ b=none
structure Inv (X:Cx) (pins:List (Addr×Obj)) (σ:List (Option V)) (H:Hp) (s:Shared):Prop where
 ok:X.Ok
 os:s.os=X.s₀.os
 bare:AllBare s.gens
 base:Un X.fs X.ex X.H₀ H X.s₀.heap s.heap
 loc:∃ m,s.heap.Ns X.env.locals m/\∀ (i:Nat) (x:Str) (v:V),X.N[i]?=some x->σ[i]?=some (some v)->Vis X.env.scope x->∃ u,RelV v u/\Look X.env s.heap m x u
 cell:∀ x c,X.env.cells.lookup x=some c->∃ v,s.heap.IsCell c v
 free:H X.env.locals=none
 freeC:∀ x c,X.env.cells.lookup x=some c->H c=none
 pin:∀ p∈X.pn++pins,s.heap.get? p.1=some p.2/\H p.1=none/\p.1≠X.env.locals/\p.1∉X.fs/\∀ v,p.2.data≠.cell v
 hok:HOk X.prog X.w H s.heap
 len:σ.length=X.N.length
section
variable {X:Cx}{pins:List (Addr×Obj)}{σ:List (Option V)}{H H':Hp}{s:Shared}{h':Heap}
theorem Cx.Ok.nofr (ok:X.Ok){b:Addr}{o:Obj}(e:X.base.get? b=some o):b∉X.fs:=λhb=>by
 have:=(ok.funs.mem hb).1
 rw[e] at this;cases this
theorem Inv.bs (I:Inv X pins σ H s):∀ b o,X.base.get? b=some o->s.heap.get? b=some o/\H b=none:=λb o e=>
 ⟨I.base.keep b o (I.ok.bs b o e).1 (I.ok.bs b o e).2 (I.ok.nofr e) (I.ok.noex b o e),I.base.free b o (I.ok.bs b o e).1 (I.ok.bs b o e).2 (I.ok.noex b o e)⟩
theorem Inv.bk (I:Inv X pins σ H s):∀ b o,X.base.get? b=some o->s.heap.get? b=some o:=λb o e=>(I.bs b o e).1
theorem Inv.mod (I:Inv X pins σ H s):Mod X.K X.mg X.base:=I.ok.mod
theorem Inv.kIn (I:Inv X pins σ H s):X.K.In s.heap:=I.ok.mod.kin.keeps I.bk
theorem Inv.nolimit (I:Inv X pins σ H s):s.heap.NoLimit:=I.ok.mod.nolimit.keeps I.bk
theorem Inv.fr (I:Inv X pins σ H s):∃ m,Fr X.base X.env.locals s.heap m:=
 let ⟨m,hn,_⟩:=I.loc
 ⟨m,hn,I.bk,Nat.le_trans I.ok.bsz I.ok.above⟩
theorem Inv.lt (I:Inv X pins σ H s):X.env.locals < s.heap.objs.size:=let ⟨_,hn,_⟩:=I.loc;hn.lt
theorem Inv.sz (I:Inv X pins σ H s):X.s₀.heap.objs.size<=s.heap.objs.size:=Nat.le_trans I.ok.above (Nat.le_of_lt I.lt)
theorem Inv.nofs (I:Inv X pins σ H s){a:Addr}(h:s.heap.objs.size<=a):a∉X.fs:=λhb=>by
 obtain⟨_,o,ho,_⟩:=I.ok.funs.mem hb
 exact absurd (Nat.lt_of_lt_of_le (Heap.lt_size ho) (Nat.le_trans I.sz h)) (Nat.lt_irrefl _)
theorem Inv.cne (I:Inv X pins σ H s):∀ x c,X.env.cells.lookup x=some c->c≠X.env.locals:=λx c e z=>by
 obtain⟨v,o,ho,hd⟩:=I.cell x c e
 obtain⟨m,⟨o',es,ep,ho',hd',_⟩,_⟩:=I.loc
 rw[z,ho'] at ho;cases ho;rw[hd'] at hd;cases hd
theorem Inv.funs (I:Inv X pins σ H s):s.heap.FunFrames X.base X.outer:=by
 have all:∀ (l:List Env),(∀ b∈frs l,b∈X.fs)->X.s₀.heap.FunFrames X.base l->s.heap.FunFrames X.base l:=by
  intro l
  induction l with
  | nil=>intro _ _;trivial
  | cons env r ih=>
   intro hs hl
   obtain⟨hk,⟨L,o,hf,hn,ho,hd⟩,hr⟩:=hl
   have hL:L∈X.fs:=hs L (by unfold frs;rw[List.filterMap_cons,hf];exact List.mem_cons_self)
   obtain⟨sl,e⟩:=I.base.slot L o ho (I.ok.frf L hL) hL λz=>I.ok.exfs L z hL
   exact⟨hk,⟨L,_,hf,hn,e,hd⟩,ih (λb hb=>hs b (by unfold frs;rw[List.filterMap_cons,hf];exact List.mem_cons_of_mem _ hb)) hr⟩
 exact all X.outer (λ_ hb=>hb) I.ok.funs
theorem Inv.stack (I:Inv X pins σ H s):s.heap.FunFrames X.base X.stack:=by
 rcases I.ok.stk with e | ⟨e,hf⟩
 ·rw[e];exact I.funs
 ·rw[e]
  obtain⟨m,hn,_⟩:=I.loc
  refine .cons (by rw[I.ok.kind];decide) hf hn ?_ I.funs
  exact Heap.get?_none_of_le (Nat.le_trans I.ok.bsz I.ok.above)
theorem Inv.stkSub (I:Inv X pins σ H s):∀ b∈frs X.stack,b∈X.env.locals::X.fs:=λb hb=>by
 rcases I.ok.stk with e | ⟨e,hf⟩
 ·rw[e] at hb;exact List.mem_cons_of_mem _ hb
 ·rw[e] at hb
  unfold frs at hb
  rw[List.filterMap_cons,hf] at hb
  exact hb
theorem Inv.stkFree (I:Inv X pins σ H s):∀ b∈frs X.stack,H b=none:=λb hb=>by
 rcases List.mem_cons.mp (I.stkSub b hb) with e | hb
 ·rw[e];exact I.free
 ·obtain⟨_,o,ho,_⟩:=I.ok.funs.mem hb
  exact I.base.free b o ho (I.ok.frf b hb) λz=>I.ok.exfs b z hb
theorem Inv.step {g':Array GenState}{t':Nat}{d':Drawn}{ch:List Addr}(I:Inv X pins σ H s)
  (hch:∀ b∈ch,(b∈X.ex\/X.s₀.heap.objs.size<=b)/\b≠X.env.locals/\(∀ x c,X.env.cells.lookup x=some c->c≠b)/\∀ p∈X.pn++pins,p.1≠b)
  (keep:∀ b o,b≠X.env.locals->b∉X.fs->b∉ch->s.heap.get? b=some o->H b=none->h'.get? b=some o)
  (slot:∀ b o,b≠X.env.locals->b∈X.fs->b∉ch->s.heap.get? b=some o->H b=none->∃ sl,h'.get? b=some { o with slots:=sl }) (free:∀ b o,b∉ch->s.heap.get? b=some o->H b=none->H' b=none)
  (there:∀ b o,b∉ch->s.heap.get? b=some o->∃ o',h'.get? b=some o')
  (tups:∀ b xs,H b=some (.tup xs)->H' b=some (.tup xs)) (frzs:∀ b o u,H b=some (.frz o u)->H' b=some (.frz o u)) (tbls:∀ b ps,H b=some (.tbl ps)->∃ more,H' b=some (.tbl (ps++more)))
  (ns:∀ m,s.heap.Ns X.env.locals m->h'.Ns X.env.locals m) (hok:HOk X.prog X.w H' h') (hg:AllBare g'):
  Inv X pins σ H' { s with heap:=h',gens:=g',drawn:=d',toks:=t' }:=by
 have neL:∀ b o,X.s₀.heap.get? b=some o->b≠X.env.locals:=λb o e=>Nat.ne_of_lt (Nat.lt_of_lt_of_le (Heap.lt_size e) I.ok.above)
 have neC:∀ b o,X.s₀.heap.get? b=some o->b∉X.ex->b∉ch:=λb o e hx hb=>by
  rcases(hch b hb).1 with z | z
  ·exact hx z
  ·exact absurd (Nat.lt_of_lt_of_le (Heap.lt_size e) z) (Nat.lt_irrefl _)
 have cellK:∀ x c,X.env.cells.lookup x=some c->∀ v,s.heap.IsCell c v->h'.IsCell c v:=λx c e v ⟨o,ho,hd⟩=>by
  have nch:c∉ch:=λz=>(hch c z).2.2.1 x c e rfl
  by_cases hc:c∈X.fs
  ·obtain⟨sl,q⟩:=slot c o (I.cne x c e) hc nch ho (I.freeC x c e)
   exact⟨_,q,hd⟩
  ·exact⟨o,keep c o (I.cne x c e) hc nch ho (I.freeC x c e),hd⟩
 refine⟨I.ok,I.os,hg,⟨λb o e n hb hx=>?_,λb o e n hb hx=>?_,λb o e n hx=>?_,λb o e hx=>?_,λb xs e=>tups b xs (I.base.tups b xs e),λb o xs e=>frzs b o xs (I.base.frzs b o xs e),λb ps e=>?_⟩,?_,λx c e=>?_,?_,λx c e=>?_,λp hp=>?_,hok,I.len⟩
 ·exact keep b o (neL b o e) hb (neC b o e hx) (I.base.keep b o e n hb hx) (I.base.free b o e n hx)
 ·obtain⟨sl,e1⟩:=I.base.slot b o e n hb hx
  obtain⟨sl',e2⟩:=slot b _ (neL b o e) hb (neC b o e hx) e1 (I.base.free b o e n hx)
  exact⟨sl',e2⟩
 ·obtain⟨o',e1⟩:=I.base.there b o e hx
  exact free b o' (neC b o e hx) e1 (I.base.free b o e n hx)
 ·obtain⟨o',e1⟩:=I.base.there b o e hx
  exact there b o' (neC b o e hx) e1
 ·obtain⟨m1,e1⟩:=I.base.tbls b ps e
  obtain⟨m2,e2⟩:=tbls b _ e1
  exact⟨m1++m2,by rw[e2,Array.append_assoc]⟩
 ·obtain⟨m,hn,hl⟩:=I.loc
  refine⟨m,ns m hn,λi x v e1 e2 e3=>?_⟩
  obtain⟨u,r,l⟩:=hl i x v e1 e2 e3
  refine⟨u,r,?_⟩
  rcases l with l | ⟨k,c,e,z⟩
  ·exact .inl l
  ·exact .inr ⟨k,c,e,cellK x c e _ z⟩
 ·obtain⟨v,z⟩:=I.cell x c e
  exact⟨v,cellK x c e v z⟩
 ·obtain⟨m,⟨o,_,_,ho,_⟩,_⟩:=I.loc
  exact free _ o (λz=>(hch _ z).2.1 rfl) ho I.free
 ·obtain⟨v,o,ho,hd⟩:=I.cell x c e
  exact free c o (λz=>(hch c z).2.2.1 x c e rfl) ho (I.freeC x c e)
 ·obtain⟨e,n,ne,nf,d⟩:=I.pin p hp
  have nch:p.1∉ch:=λz=>(hch p.1 z).2.2.2 p hp rfl
  exact⟨keep p.1 p.2 ne nf nch e n,free p.1 p.2 nch e n,ne,nf,d⟩
theorem Inv.un {t':Nat}(I:Inv X pins σ H s) (u:Un X.fs [] H H' s.heap h') (hok:HOk X.prog X.w H' h'):Inv X pins σ H' { s with heap:=h',toks:=t' }:=by
 obtain⟨m,⟨o,es,ep,ho,r⟩,_⟩:=id I.loc
 obtain⟨sl,hL⟩:=u.any ho I.free (by simp)
 exact I.step (g':=s.gens) (d':=s.drawn) (ch:=[]) (λ_ z=>nomatch z) (λb o _ hb _ e n=>u.keep b o e n hb (by simp)) (λb o _ hb _ e n=>u.slot b o e n hb (by simp)) (λb o _ e n=>u.free b o e n (by simp)) (λb o _ e=>u.there b o e (by simp)) u.tups u.frzs u.tbls (λm' hm=>by
  obtain⟨o',es',ep',ho',r'⟩:=hm
  rw[ho] at ho';cases ho'
  exact⟨_,es',ep',hL,r'⟩) hok I.bare
theorem Inv.call {g':Array GenState}{t':Nat}{d':Drawn}{ch:List Addr}(I:Inv X pins σ H s) (u:Un (frs X.stack) ch H H' s.heap h') (hok:HOk X.prog X.w H' h') (hg:AllBare g')
  (hch:∀ b∈ch,(b∈X.ex\/X.s₀.heap.objs.size<=b)/\b≠X.env.locals/\(∀ x c,X.env.cells.lookup x=some c->c≠b)/\∀ p∈X.pn++pins,p.1≠b):
  Inv X pins σ H' { s with heap:=h',gens:=g',drawn:=d',toks:=t' }:=by
 obtain⟨m,⟨o,es,ep,ho,r⟩,_⟩:=id I.loc
 obtain⟨sl,hL⟩:=u.any ho I.free λz=>(hch _ z).2.1 rfl
 exact I.step (ch:=ch) hch (λb o hL hb hc e n=>u.keep b o e n (λz=>(List.mem_cons.mp (I.stkSub b z)).elim hL hb) hc) (λb o _ _ hc e n=>u.any e n hc) (λb o hc e n=>u.free b o e n hc) (λb o hc e=>u.there b o e hc) u.tups u.frzs u.tbls (λm' hm=>by
  obtain⟨o',es',ep',ho',r'⟩:=hm
  rw[ho] at ho';cases ho'
  exact⟨_,es',ep',hL,r'⟩) hok hg
theorem Inv.turned {t':Nat}{it:Addr}(I:Inv X pins σ H s) (k:∀ b o,b≠it->s.heap.get? b=some o->h'.get? b=some o) (hn:H it=none) (hL:it≠X.env.locals)
  (h1:it∈X.ex\/X.s₀.heap.objs.size<=it) (h2:∀ x c,X.env.cells.lookup x=some c->c≠it) (h3:∀ p∈X.pn++pins,p.1≠it):Inv X pins σ H { s with heap:=h',toks:=t' }:=by
 have nit:∀ b u,H b=some u->b≠it:=λb u e z=>by rw[z,hn] at e;cases e
 refine I.step (g':=s.gens) (d':=s.drawn) (ch:=[it]) (λb hb=>?_) (λb o _ _ hc e _=>k b o (λz=>hc (by simp[z])) e) (λb o _ _ hc e _=>⟨o.slots,k b o (λz=>hc (by simp[z])) e⟩) (λ_ _ _ _ n=>n)
  (λb o hc e=>⟨o,k b o (λz=>hc (by simp[z])) e⟩) (λ_ _ e=>e) (λ_ _ _ e=>e) (λb ps e=>⟨#[],by rw[e];simp⟩) (λm hm=>?_) (λb u e=>?_) I.bare
 ·have e:b=it:=by simpa using hb
  subst e
  exact⟨h1,hL,h2,h3⟩
 ·obtain⟨o,es,ep,ho,r⟩:=hm
  exact⟨o,es,ep,k _ o (Ne.symm hL) ho,r⟩
 ·refine(I.hok b u e).stay (λc v hc q=>k c v ?_ q) (λ_ q=>q) λ_ _ q=>q
  rcases hc with z | z
  ·rw[z];exact nit b u e
  ·exact nit c _ z
theorem Inv.tok (I:Inv X pins σ H s) (t:Nat):Inv X pins σ H { s with toks:=t }:=I.un (h':=s.heap) (t':=t) Un.refl I.hok
theorem Inv.kept {t':Nat}(I:Inv X pins σ H s) (k:∀ b u,s.heap.get? b=some u->h'.get? b=some u):Inv X pins σ H { s with heap:=h',toks:=t' }:=I.un (Un.kept k) (I.hok.kept k)
theorem Inv.laid {a:Addr}{o:HO}{t':Nat}(I:Inv X pins σ H s) (k:∀ b u,s.heap.get? b=some u->h'.get? b=some u) (hp:s.heap.objs.size<=a) (new:ObjOk X.prog X.w (upd H a o) h' a o):
  Inv X pins σ (upd H a o) { s with heap:=h',toks:=t' }:=I.un (Un.laid k hp (I.hok.fresh hp)) (I.hok.laid k hp new)
theorem Inv.write {x e:Addr}{o:HO}{t':Nat}(I:Inv X pins σ H s) (mu:Mut (H x)) (he:e=x\/H e=some (.own x)) (k:∀ b u,b≠e->s.heap.get? b=some u->h'.get? b=some u) (heo:∃ u,h'.get? e=some u)
  (new:ObjOk X.prog X.w (upd H x o) h' x o):Inv X pins σ (upd H x o) { s with heap:=h',toks:=t' }:=I.un (Un.write mu he k heo) (I.hok.write mu he k heo new)
theorem Inv.weak {σ':List (Option V)}(I:Inv X pins σ H s) (hl:σ'.length=σ.length) (w:∀ (i:Nat) v,σ'[i]?=some (some v)->σ[i]?=some (some v)):Inv X pins σ' H s:=
 ⟨I.ok,I.os,I.bare,I.base,let ⟨m,hn,hl'⟩:=I.loc;⟨m,hn,λi x v e1 e2 e3=>hl' i x v e1 (w i v e2) e3⟩,I.cell,I.free,I.freeC,I.pin,I.hok,hl.trans I.len⟩
theorem Inv.pins_of {pins':List (Addr×Obj)}(I:Inv X pins σ H s) (h:∀ p∈pins',s.heap.get? p.1=some p.2/\H p.1=none/\p.1≠X.env.locals/\p.1∉X.fs/\∀ v,p.2.data≠.cell v):Inv X pins' σ H s:=
 ⟨I.ok,I.os,I.bare,I.base,I.loc,I.cell,I.free,I.freeC,λp hp=>(List.mem_append.mp hp).elim (λz=>I.pin p (List.mem_append_left _ z)) (h p),I.hok,I.len⟩
theorem uF {N:List Str}(hN:N.Nodup){i j:Nat}{x:Str}(a:N[i]?=some x) (b:N[j]?=some x):i=j:=by
 obtain⟨h1,e1⟩:=List.getElem?_eq_some_iff.mp a
 obtain⟨h2,e2⟩:=List.getElem?_eq_some_iff.mp b
 exact(List.getElem_inj hN).mp (e1.trans e2.symm)
theorem sy {M:Model}{A:Around}{E:Value->Shared->Prop}{i:Nat}{x:Str}{v:V}{u:Value}{Q:Unit->Shared->Prop}(I:Inv X pins σ H s) (hN:X.N.Nodup) (hi:X.N[i]?=some x) (hx:Loc X.env.scope x) (r:RelV v u)
  (h:∀ s',Inv X pins (σ.set i (some v)) H s'->(∃ a,Heap.SameBut a s.heap s'.heap/\(a=X.env.locals\/X.env.cells.lookup x=some a))->Q () s') (hf:X.fn x=true\/X.env.scope.names.lookup x=some .local:=by first | exact .inl rfl | exact .inr rfl | assumption):wpAny M A (storeName X.env x u) Q E s:=by
 obtain⟨m,hn,hl⟩:=id I.loc
 have hcls:(X.env.scope.kind == .class||(X.env.scope.kind == .module&&X.env.locals != X.env.globals))=false:=by rw[I.ok.kind];rfl
 have hiσ:i < σ.length:=by rw[I.len];exact(List.getElem?_eq_some_iff.mp hi).1
 have cne:=I.cne
 have tracked:∀ {a:Addr}{h':Heap},(∃ o,s.heap.get? a=some o/\H a=none)->Heap.SameBut a s.heap h'->HOk X.prog X.w H h':=λ{a h'} ha hs b ob e=>by
  obtain⟨_,_,hfree⟩:=ha
  refine(I.hok b ob e).stay (λc w' hc q=>(hs.2 c ?_).trans q) (λ_ q=>q) λ_ _ q=>q
  rintro rfl
  rcases hc with rfl | hc
  ·rw[hfree] at e;cases e
  ·rw[hfree] at hc;cases hc
 rcases hx with hk | hk
 ·refine wpAny_storeName_local hk hn (λh' hn' hs=>?_) hcls
  obtain⟨oL,_,_,hoL,_⟩:=id hn
  refine h _ ⟨I.ok,I.os,I.bare,⟨λb o e n hb hx=>?_,λb o e n hb hx=>?_,I.base.free,λb o e hx=>?_,I.base.tups,I.base.frzs,I.base.tbls⟩,⟨_,hn',λj y v' e1 e2 e3=>?_⟩,λy c e=>?_,I.free,I.freeC,λp hp=>?_,tracked ⟨oL,hoL,I.free⟩ hs,by simpa using I.len⟩ ⟨_,hs,.inl rfl⟩
  ·exact(hs.2 b (Nat.ne_of_lt (Nat.lt_of_lt_of_le (Heap.lt_size e) I.ok.above))).trans (I.base.keep b o e n hb hx)
  ·obtain⟨sl,e1⟩:=I.base.slot b o e n hb hx
   exact⟨sl,(hs.2 b (Nat.ne_of_lt (Nat.lt_of_lt_of_le (Heap.lt_size e) I.ok.above))).trans e1⟩
  ·obtain⟨o',e1⟩:=I.base.there b o e hx
   exact⟨o',(hs.2 b (Nat.ne_of_lt (Nat.lt_of_lt_of_le (Heap.lt_size e) I.ok.above))).trans e1⟩
  ·by_cases hj:j=i
   ·subst hj
    rw[hi] at e1;cases e1
    rw[List.getElem?_set_self hiσ] at e2
    cases e2
    exact⟨u,r,.inl ⟨hk,by simp⟩⟩
   ·rw[List.getElem?_set_ne (Ne.symm hj)] at e2
    obtain⟨u',r',q⟩:=hl j y v' e1 e2 e3
    refine⟨u',r',?_⟩
    rcases q with ⟨k,e⟩ | ⟨k,c,e,z⟩
    ·refine .inl ⟨k,?_⟩
     have:y≠x:=λe=>hj (uF hN e1 (e▸hi))
     simp[this,e]
    ·exact .inr ⟨k,c,e,z.sameBut hs (cne y c e)⟩
  ·obtain⟨w',z⟩:=I.cell y c e
   exact⟨w',z.sameBut hs (cne y c e)⟩
  ·obtain⟨e,n,ne,nf,d⟩:=I.pin p hp
   exact⟨(hs.2 p.1 ne).trans e,n,ne,nf,d⟩
 ·have hfn:X.fn x=true:=by
   rcases hf with z | z
   ·exact z
   ·rw[z] at hk;cases hk
  obtain⟨c,hc⟩:=I.ok.has x (.inl hk)
  obtain⟨w',z⟩:=I.cell x c hc
  refine wpAny_storeName_cell I.ok.kind hk hc z (λh' hc' hs=>?_)
  obtain⟨oc,hoc,hocd⟩:=id z
  refine h { s with heap:=h' } ⟨I.ok,I.os,I.bare,⟨λb o e n hb hx=>?_,λb o e n hb hx=>?_,I.base.free,λb o e hx=>?_,I.base.tups,I.base.frzs,I.base.tbls⟩,⟨m,hn.sameBut hs (Ne.symm (cne x c hc)),λj y v' e1 e2 e3=>?_⟩,λy c' e=>?_,I.free,I.freeC,λp hp=>?_,tracked ⟨oc,hoc,I.freeC x c hc⟩ hs,by simpa using I.len⟩ ⟨c,hs,.inr hc⟩
  ·exact(hs.2 b (Nat.ne_of_lt (Nat.lt_of_lt_of_le (Heap.lt_size e) (I.ok.cab x c hfn hc)))).trans (I.base.keep b o e n hb hx)
  ·obtain⟨sl,e1⟩:=I.base.slot b o e n hb hx
   exact⟨sl,(hs.2 b (Nat.ne_of_lt (Nat.lt_of_lt_of_le (Heap.lt_size e) (I.ok.cab x c hfn hc)))).trans e1⟩
  ·obtain⟨o',e1⟩:=I.base.there b o e hx
   exact⟨o',(hs.2 b (Nat.ne_of_lt (Nat.lt_of_lt_of_le (Heap.lt_size e) (I.ok.cab x c hfn hc)))).trans e1⟩
  ·by_cases hj:j=i
   ·subst hj
    rw[hi] at e1;cases e1
    rw[List.getElem?_set_self hiσ] at e2
    cases e2
    exact⟨u,r,.inr ⟨.inl hk,c,hc,hc'⟩⟩
   ·rw[List.getElem?_set_ne (Ne.symm hj)] at e2
    obtain⟨u',r',q⟩:=hl j y v' e1 e2 e3
    refine⟨u',r',?_⟩
    rcases q with q | ⟨k,c',e,z'⟩
    ·exact .inl q
    ·refine .inr ⟨k,c',e,z'.sameBut hs ?_⟩
     rintro rfl
     exact hj (uF hN e1 (I.ok.inj _ _ _ e hc▸hi))
  ·by_cases hcc:c'=c
   ·subst hcc;exact⟨_,hc'⟩
   ·obtain⟨w2,z2⟩:=I.cell y c' e
    exact⟨w2,z2.sameBut hs hcc⟩
  ·obtain⟨e,n,ne,nf,d⟩:=I.pin p hp
   refine⟨(hs.2 p.1 ?_).trans e,n,ne,nf,d⟩
   intro q
   rw[q,hoc] at e
   have q':oc=p.2:=Option.some.inj e
   exact d w' (by rw[← q'];exact hocd)
theorem uG {M:Model}{A:Around}{E:Value->Shared->Prop}{i:Nat}{x:Str}{v:V}{u:Value}{Q:Unit->Shared->Prop}(I:Inv X pins σ H s) (hN:X.N.Nodup) (hi:X.N[i]?=some x) (hx:Loc X.env.scope x) (r:RelV v u)
  (h:∀ s',Inv X pins (σ.set i (some v)) H s'->Q () s') (hf:X.fn x=true\/X.env.scope.names.lookup x=some .local:=by first | exact .inl rfl | exact .inr rfl | assumption):wpAny M A (storeName X.env x u) Q E s:=
 sy I hN hi hx r (λs' I' _=>h s' I') hf
theorem Inv.call' {s':Shared}{ch:List Addr}(I:Inv X pins σ H s) (ho:s'.os=s.os) (u:Un (frs X.stack) ch H H' s.heap s'.heap) (hok:HOk X.prog X.w H' s'.heap) (hg:AllBare s'.gens)
  (hch:∀ b∈ch,(b∈X.ex\/X.s₀.heap.objs.size<=b)/\b≠X.env.locals/\(∀ x c,X.env.cells.lookup x=some c->c≠b)/\∀ p∈X.pn++pins,p.1≠b):Inv X pins σ H' s':=by
 obtain⟨h',g',d',t',o'⟩:=s'
 have e:o'=s.os:=ho
 subst e
 exact I.call (g':=g') (t':=t') (d':=d') u hok hg hch
end
abbrev XK:=Value->Option Addr->Hp->Prop
abbrev St:=List (Option V)
abbrev VK:=V->Hp->Prop
abbrev TE:=St->Hp->VK->Prop
abbrev TT:=St->Hp->(Bool->Hp->Prop)->Prop
abbrev TA:=St->Hp->(List V->Hp->Prop)->Prop
structure Ends where
 nx:St->Hp->Prop
 rt:VK
 bk:St->Hp->Prop:=λ_ _=>False
 ct:St->Hp->Prop:=λ_ _=>False
abbrev TS:=Ends->St->Hp->Prop
def EP (X:Cx) (pins:List (Addr×Obj)) (σ:St) (Q:VK) (u:Value) (s':Shared):Prop:=∃ v H',Inv X pins σ H' s'/\RelV v u/\Q v H'
def TP (X:Cx) (pins:List (Addr×Obj)) (σ:St) (Q:Bool->Hp->Prop) (b:Bool) (s':Shared):Prop:=∃ H',Inv X pins σ H' s'/\Q b H'
def AP (X:Cx) (pins:List (Addr×Obj)) (σ:St) (Q:List V->Hp->Prop) (us:List Value) (s':Shared):Prop:=∃ vs H',Inv X pins σ H' s'/\Vals vs us/\Q vs H'
def SP (X:Cx) (pins:List (Addr×Obj)) (D:Ends) (f:Flow) (s':Shared):Prop:=
 match f with
 | .next=>∃ σ' H',Inv X pins σ' H' s'/\D.nx σ' H'
 | .brk=>∃ σ' H',Inv X pins σ' H' s'/\D.bk σ' H'
 | .cont=>∃ σ' H',Inv X pins σ' H' s'/\D.ct σ' H'
 | .ret u=>∃ v σ' H',Inv X pins σ' H' s'/\RelV v u/\D.rt v H'
def PE (X:Cx) (e:Expr) (t:TE):Prop:=
 ∀ (pins:List (Addr×Obj)) (s:Shared) (σ:St) (H:Hp) (Q:VK),Inv X pins σ H s->t σ H Q->wpAny (model X.prog X.w) X.A (eval e X.env) (EP X pins σ Q) X.xe s
def PT (X:Cx) (e:Expr) (t:TT):Prop:=
 ∀ (pins:List (Addr×Obj)) (s:Shared) (σ:St) (H:Hp) (Q:Bool->Hp->Prop),Inv X pins σ H s->t σ H Q->wpAny (model X.prog X.w) X.A (isTrue e X.env (eval e X.env)) (TP X pins σ Q) X.xe s
def PW (X:Cx) (e:Expr) (t:TT):Prop:=
 ∀ (whole:Sem Value) (pins:List (Addr×Obj)) (s:Shared) (σ:St) (H:Hp) (Q:Bool->Hp->Prop),Inv X pins σ H s->t σ H Q->wpAny (model X.prog X.w) X.A (isTrue e X.env whole) (TP X pins σ Q) X.xe s
theorem PW.pt {X:Cx}{e:Expr}{t:TT}(h:PW X e t):PT X e t:=h _
def PA (X:Cx) (es:List Expr) (t:TA):Prop:=
 ∀ (pos:Pos) (pins:List (Addr×Obj)) (s:Shared) (σ:St) (H:Hp) (Q:List V->Hp->Prop),Inv X pins σ H s->t σ H Q->wpAny (model X.prog X.w) X.A (spliced (backTo pos (starEach es X.env))) (AP X pins σ Q) X.xe s
def PS (X:Cx) (st:Stmt) (t:TS):Prop:=
 ∀ (pins:List (Addr×Obj)) (s:Shared) (σ:St) (H:Hp) (D:Ends),Inv X pins σ H s->t D σ H->wpAny (model X.prog X.w) X.A (exec st X.env) (SP X pins D) X.xe s
def PSs (X:Cx) (st:List Stmt) (t:TS):Prop:=
 ∀ (pins:List (Addr×Obj)) (s:Shared) (σ:St) (H:Hp) (D:Ends),Inv X pins σ H s->t D σ H->wpAny (model X.prog X.w) X.A (execs st X.env) (SP X pins D) X.xe s
theorem thn {α:Type}{t:Sem α}{Q Q':α->Shared->Prop}{M:Model}{A:Around}{E:Value->Shared->Prop}{s:Shared}(h:wpAny M A t Q E s) (hQ:∀ a s,Q a s->Q' a s):wpAny M A t Q' E s:=wpAny_mono h hQ λ_ _ x=>x
end L2
namespace L2
open PySem PySem.Spec PyProof.Rows
section
variable {X:Cx}
def Iv (i:Nat):TE:=fun σ H Q=>∃ v,σ[i]?=some (some v)/\Q v H
def tC (v:V):TE:=λ_ H Q=>Q v H
theorem dN {i:Nat}{x:Str}{pos:Pos}(hN:X.N[i]?=some x) (hv:Vis X.env.scope x) (hd:(x == ("__debug__" : Str))=false:=by decide) (hcd:(x == ("__classdict__" : Str))=false:=by decide):PE X (.Name x pos) (Iv i):=by
 intro pins s σ H Q I h
 obtain⟨v,e,h⟩:=h
 obtain⟨m,hn,hl⟩:=I.loc
 obtain⟨u,r,l⟩:=hl i x v hN e hv
 have fin:EP X pins σ Q u s:=⟨v,H,I,r,h⟩
 rcases l with ⟨hk,hm⟩ | ⟨hk,c,hc,hcell⟩
 ·exact wpAny_Name (wpAny_loadName_local I.ok.kind hk hn hm fin) hd
 ·rcases hk with hk | hk
  ·exact wpAny_Name (wpAny_loadName_cell I.ok.kind hk hc hcell fin) hd
  ·exact wpAny_Name (wpAny_loadName_free I.ok.kind hk hc hcell fin hcd) hd
theorem Iw {i j pos}:PE X (.Constant (.int i) j pos) (tC (.int i)):=λ_ _ _ H _ I h=>wpAny_Constant_int ⟨.int i,H,I.tok _,⟨_,rfl⟩,h⟩
theorem Mi {b j pos}:PE X (.Constant (.bool b) j pos) (tC (.bl b)):=λ_ _ _ H _ I h=>Constant_bool ⟨.bl b,H,I,rfl,h⟩
theorem Iz {j pos}:PE X (.Constant .none j pos) (tC .non):=λ_ _ _ H _ I h=>Constant_none ⟨.non,H,I,rfl,h⟩
theorem IK {x j pos}:PE X (.Constant (.str x) j pos) (tC (.str x)):=λ_ _ _ H _ I h=>Calls.Constant_str ⟨.str x,H,I.tok _,⟨_,rfl⟩,h⟩
def Gl (X:Cx) (x:Str):Prop:=X.env.kindOf x=some .globalImplicit
theorem wU {E:Value->Shared->Prop}{pins:List (Addr×Obj)}{s:Shared}{σ:St}{H:Hp}{x:Str}{u:Value}{pos:Pos}{Q:Value->Shared->Prop}(I:Inv X pins σ H s) (hg:Gl X x) (hm:X.mg x=some u) (h:Q u s)
  (hd:(x == ("__debug__" : Str))=false:=by decide):wpAny (model X.prog X.w) X.A (eval (.Name x pos) X.env) Q E s:=
 Calls.Name_function_global I.ok.kind hg (Calls.loadGlobal_global (by rw[I.ok.glob];exact I.mod.glob.keeps I.bk) hm h) hd
theorem d_ {E:Value->Shared->Prop}{pins:List (Addr×Obj)}{s:Shared}{σ:St}{H:Hp}{x:Str}{u:Value}{pos:Pos}{Q:Value->Shared->Prop}(I:Inv X pins σ H s) (hg:Gl X x) (hm:X.mg x=none) (hv:bootBuiltins x=some u) (h:Q u s)
  (hn:x ≠ "__name__" := by decide) (hd:(x == ("__debug__" : Str))=false:=by decide):wpAny (model X.prog X.w) X.A (eval (.Name x pos) X.env) Q E s:=by
 obtain⟨mb,h1,h2⟩:=I.mod.blt
 exact Calls.Name_function_global I.ok.kind hg (Calls.loadGlobal_builtin (by rw[I.ok.glob];exact I.mod.glob.keeps I.bk) hm (by rw[I.ok.blt];exact h1.keeps I.bk) ((h2 x hn).trans hv) h) hd
theorem Gb {x:Str}{v:V}{u:Value}{pos:Pos}(hg:Gl X x) (hm:X.mg x=some u) (r:RelV v u) (hd:(x == ("__debug__" : Str))=false:=by decide):PE X (.Name x pos) (tC v):=
 λ_ _ _ H _ I h=>wU I hg hm ⟨v,H,I,r,h⟩ hd
theorem Gd {x:Str}{v:V}{u:Value}{pos:Pos}(hg:Gl X x) (hm:X.mg x=none) (hv:bootBuiltins x=some u) (r:RelV v u) (hn:x ≠ "__name__" := by decide) (hd:(x == ("__debug__" : Str))=false:=by decide):PE X (.Name x pos) (tC v):=
 λ_ _ _ H _ I h=>d_ I hg hm hv ⟨v,H,I,r,h⟩ hn hd
variable {a b:Expr}{ta tb:TE}{pos:Pos}
def tB (t:TE):TT:=fun σ H Q=>t σ H λx H1=>∃ c,x=.bl c/\Q c H1
theorem IV {e:Expr}{t:TE}(h:PE X e t) (he:∀ whole,isTrue e X.env whole=(do let v ← whole;standAt e.pos;holding [v] (truthy v)):=by intro _;rfl):PT X e (tB t):=by
 intro pins s σ H Q I hw
 refine isTrue_plain (thn (h pins s σ H _ I hw) λv s1 ⟨x,H1,I1,r1,q1⟩=>?_) (he _)
 obtain⟨d,rfl,q⟩:=q1
 cases r1
 exact wpAny_truthy_bool ⟨H1,I1,q⟩
variable {tA tB':TT}{rest:List Expr}
def Ot (t u:TT):TT:=fun σ H Q=>t σ H λc H1=>if c=true then u σ H1 Q else Q false H1
def tOr (t u:TT):TT:=fun σ H Q=>t σ H λc H1=>if c=true then Q true H1 else u σ H1 Q
def Ou (t:TT):TT:=fun σ H Q=>t σ H λc H1=>Q (!c) H1
theorem Ge (ha:PT X a tA):PW X (.BoolOp .And [a] pos) tA:=by
 intro wh pins s σ H Q I h
 refine isTrue_and (thn (ha pins s σ H Q I h) λc s1 e=>?_)
 cases c with
 | true=>exact isTrue_and_nil e
 | false=>exact e
theorem I_ (ha:PT X a tA):PW X (.BoolOp .Or [a] pos) tA:=by
 intro wh pins s σ H Q I h
 refine isTrue_or (thn (ha pins s σ H Q I h) λc s1 e=>?_)
 cases c with
 | false=>exact isTrue_or_nil e
 | true=>exact e
theorem Ja (ha:PT X a tA) (hb:PW X (.BoolOp .And (b::rest) pos) tB'):PW X (.BoolOp .And (a::b::rest) pos) (Ot tA tB'):=by
 intro wh pins s σ H Q I h
 refine isTrue_and (thn (ha pins s σ H _ I h) λc s1 ⟨H1,I1,q1⟩=>?_)
 cases c with
 | true=>exact hb wh pins s1 σ H1 Q I1 q1
 | false=>exact⟨H1,I1,q1⟩
theorem Mj (ha:PT X a tA) (hb:PW X (.BoolOp .Or (b::rest) pos) tB'):PW X (.BoolOp .Or (a::b::rest) pos) (tOr tA tB'):=by
 intro wh pins s σ H Q I h
 refine isTrue_or (thn (ha pins s σ H _ I h) λc s1 ⟨H1,I1,q1⟩=>?_)
 cases c with
 | true=>exact⟨H1,I1,q1⟩
 | false=>exact hb wh pins s1 σ H1 Q I1 q1
theorem Jb (ha:PT X a tA):PT X (.UnaryOp .Not a pos) (Ou tA):=by
 intro pins s σ H Q I h
 exact isTrue_not (ha pins s σ H (λc H1=>Q (!c) H1) I h)
def Ml (ta tb:TE):TE:=fun σ H Q=>ta σ H λx H1=>∃ c,x=.bl c/\if c=true then tb σ H1 Q else Q (.bl false) H1
def Ov (ta tb:TE):TE:=fun σ H Q=>ta σ H λx H1=>∃ c,x=.bl c/\if c=true then Q (.bl true) H1 else tb σ H1 Q
def Mm (ta:TE):TE:=fun σ H Q=>ta σ H λx H1=>∃ c,x=.bl c/\Q (.bl (!c)) H1
theorem Jc {op}{t:TE}(h:PE X a t):PE X (.BoolOp op [a] pos) t:=λpins s σ H Q I hw=>BoolOp_one (h pins s σ H Q I hw)
theorem Jd (ha:PE X a ta) (hb:PE X (.BoolOp .And (b::rest) pos) tb):PE X (.BoolOp .And (a::b::rest) pos) (Ml ta tb):=by
 intro pins s σ H Q I h
 refine BoolOp_and (thn (ha pins s σ H _ I h) λv s1 ⟨x,H1,I1,r1,q1⟩=>?_)
 obtain⟨c,rfl,q1⟩:=q1
 cases r1
 refine wpAny_truthy_bool ?_
 cases c with
 | true=>exact hb pins s1 σ H1 Q I1 q1
 | false=>exact⟨.bl false,H1,I1,rfl,q1⟩
theorem Mp (ha:PE X a ta) (hb:PE X (.BoolOp .Or (b::rest) pos) tb):PE X (.BoolOp .Or (a::b::rest) pos) (Ov ta tb):=by
 intro pins s σ H Q I h
 refine BoolOp_or (thn (ha pins s σ H _ I h) λv s1 ⟨x,H1,I1,r1,q1⟩=>?_)
 obtain⟨c,rfl,q1⟩:=q1
 cases r1
 refine wpAny_truthy_bool ?_
 cases c with
 | false=>exact hb pins s1 σ H1 Q I1 q1
 | true=>exact⟨.bl true,H1,I1,rfl,q1⟩
theorem Je (ha:PE X a ta):PE X (.UnaryOp .Not a pos) (Mm ta):=by
 intro pins s σ H Q I h
 refine UnaryOp_ (thn (ha pins s σ H _ I h) λv s1 ⟨x,H1,I1,r1,q1⟩=>?_)
 obtain⟨c,rfl,q1⟩:=q1
 cases r1
 exact not_of (wpAny_truthy_bool ⟨.bl (!c),H1,I1,rfl,q1⟩)
def tIf (t:TT) (ta tb:TE):TE:=fun σ H Q=>t σ H λc H1=>if c=true then ta σ H1 Q else tb σ H1 Q
theorem B_ {c:Expr}(hc:PT X c tA) (ha:PE X a ta) (hb:PE X b tb):PE X (.IfExp c a b pos) (tIf tA ta tb):=by
 intro pins s σ H Q I h
 refine wpAny_IfExp (thn (hc pins s σ H _ I h) λd s1 ⟨H1,I1,q1⟩=>?_)
 cases d with
 | true=>exact ha pins s1 σ H1 Q I1 q1
 | false=>exact hb pins s1 σ H1 Q I1 q1
end
end L2
namespace L2
open PySem PySem.Spec PyProof.Rows
def SqL (K:PySem.W.Frag) (H:Hp) (a:Addr) (xs:List V):Prop:=
 Rd H a (.lst xs) \/
  ∃ (o:Obj) (its:Array Value) (n:Nat),K.lookup a=some o/\o.cls=.type "list" /\ o.dict=none/\o.data=.seq its n/\its.size<=sizeLine/\Vals xs its.toList
def SqT (K:PySem.W.Frag) (H:Hp) (a:Addr) (xs:List V):Prop:=
 Rd H a (.tup xs) \/
  ∃ (o:Obj) (its:Array Value) (n:Nat),K.lookup a=some o/\o.cls=.type "tuple" /\ o.data=.seq its n/\its.size<=sizeLine/\Vals xs its.toList
def Ox:Value->Option V
 | .none=>some .non
 | .bool b=>some (.bl b)
 | .int i _=>some (.int i)
 | .str x _=>some (.str x)
 | .bytes b _=>some (.byt b)
 | .float b _=>some (.flt b)
 | .ref a=>some (.ref a)
 | .type n=>some (.ty n)
 | _=>none
theorem RelV.abs {x:V}{u:Value}(r:RelV x u):Ox u=some x:=by
 cases x with
 | non=>cases r;rfl
 | bl _=>cases r;rfl
 | int _=>obtain⟨t,rfl⟩:=r;rfl
 | str _=>obtain⟨t,rfl⟩:=r;rfl
 | byt _=>obtain⟨t,rfl⟩:=r;rfl
 | flt _=>obtain⟨t,rfl⟩:=r;rfl
 | ref _=>cases r;rfl
 | ty _=>cases r;rfl
theorem RelV.inj {x y:V}{u:Value}(r:RelV x u) (q:RelV y u):x=y:=Option.some.inj (r.abs.symm.trans q.abs)
theorem Vals.inj:∀ {xs ys:List V}{us:List Value},Vals xs us->Vals ys us->xs=ys
 | _,_,_,.nil,.nil=>rfl
 | _,_,_,.cons r t,.cons r' t'=>by rw[r.inj r',Vals.inj t t']
section
variable {X:Cx}{pins:List (Addr×Obj)}{σ:St}{H:Hp}{s:Shared}{a:Addr}{xs ys:List V}
theorem SqL.of {K:PySem.W.Frag}(h:H a=some (.lst xs)):SqL K H a xs:=.inl (.inl h)
theorem SqT.of {K:PySem.W.Frag}(h:H a=some (.tup xs)):SqT K H a xs:=.inl (.inl h)
theorem Inv.list (I:Inv X pins σ H s) (h:SqL X.K H a xs):∃ its:List Value,Vals xs its/\PlainL s.heap a its.toArray/\xs.length<=sizeLine:=by
 rcases h with h | ⟨o,its,n,hk,hc,hd,hs,hz,r⟩
 ·obtain⟨z,its,n,r,e⟩:=h.ok I.hok
  exact⟨its,r,⟨_,n,e,rfl,rfl,rfl⟩,z⟩
 ·refine⟨its.toList,r,⟨o,n,I.kIn a o hk,hc,hd,by simpa using hs⟩,?_⟩
  have e:=r.length
  simp only[Array.length_toList] at e
  omega
theorem Inv.tuple (I:Inv X pins σ H s) (h:SqT X.K H a xs):∃ its:List Value,Vals xs its/\IsTup s.heap a its.toArray/\xs.length<=sizeLine:=by
 rcases h with h | ⟨o,its,n,hk,hc,hs,hz,r⟩
 ·obtain⟨z,its,r,p⟩:=h.ok I.hok
  exact⟨its,r,p,z⟩
 ·refine⟨its.toList,r,⟨o,I.kIn a o hk,hc,n,by simpa using hs⟩,?_⟩
  have e:=r.length
  simp only[Array.length_toList] at e
  omega
theorem Inv.list_inj (I:Inv X pins σ H s) (h:SqL X.K H a xs) (h':SqL X.K H a ys):xs=ys:=by
 obtain⟨its,r,⟨o,n,e,_,_,d⟩,_⟩:=I.list h
 obtain⟨its',r',⟨o',n',e',_,_,d'⟩,_⟩:=I.list h'
 rw[e] at e';cases e'
 rw[d] at d'
 injection d' with d1 _
 have:its=its':=by simpa using congrArg Array.toList d1
 subst this
 exact r.inj r'
theorem Inv.tuple_inj (I:Inv X pins σ H s) (h:SqT X.K H a xs) (h':SqT X.K H a ys):xs=ys:=by
 obtain⟨its,r,⟨o,e,_,n,d⟩,_⟩:=I.tuple h
 obtain⟨its',r',⟨o',e',_,n',d'⟩,_⟩:=I.tuple h'
 rw[e] at e';cases e'
 rw[d] at d'
 injection d' with d1 _
 have:its=its':=by simpa using congrArg Array.toList d1
 subst this
 exact r.inj r'
end
abbrev Cx.wish (X:Cx) (E:Value->Shared->Prop):Cx:={ X with xe:=E }
abbrev Cx.nox (X:Cx):Cx:=X.wish λ_ _=>False
theorem Cx.Ok.wish {X:Cx}(ok:X.Ok) (E:Value->Shared->Prop):(X.wish E).Ok:=
 ⟨ok.mod,ok.kind,ok.glob,ok.blt,ok.above,ok.inj,ok.has,ok.cab,ok.hd,ok.frames,ok.stk,ok.exf,ok.bs,ok.bsz,ok.noex,ok.exfs,ok.funs,ok.frf⟩
theorem Cx.Ok.unwish {X:Cx}{E:Value->Shared->Prop}(ok:(X.wish E).Ok):X.Ok:=
 ⟨ok.mod,ok.kind,ok.glob,ok.blt,ok.above,ok.inj,ok.has,ok.cab,ok.hd,ok.frames,ok.stk,ok.exf,ok.bs,ok.bsz,ok.noex,ok.exfs,ok.funs,ok.frf⟩
section
variable {X:Cx}{pins:List (Addr×Obj)}{σ:St}{H:Hp}{s:Shared}{E:Value->Shared->Prop}
theorem Inv.wish (I:Inv X pins σ H s) (E:Value->Shared->Prop):Inv (X.wish E) pins σ H s:=⟨I.ok.wish E,I.os,I.bare,I.base,I.loc,I.cell,I.free,I.freeC,I.pin,I.hok,I.len⟩
theorem Inv.unwish (I:Inv (X.wish E) pins σ H s):Inv X pins σ H s:=⟨I.ok.unwish,I.os,I.bare,I.base,I.loc,I.cell,I.free,I.freeC,I.pin,I.hok,I.len⟩
theorem SP.unwish {D:Ends}{f:Flow}{s':Shared}(h:SP (X.wish E) pins D f s'):SP X pins D f s':=by
 cases f with
 | next=>obtain⟨σ',H',I,q⟩:=h;exact⟨σ',H',I.unwish,q⟩
 | brk=>obtain⟨σ',H',I,q⟩:=h;exact⟨σ',H',I.unwish,q⟩
 | cont=>obtain⟨σ',H',I,q⟩:=h;exact⟨σ',H',I.unwish,q⟩
 | ret u=>obtain⟨v,σ',H',I,r,q⟩:=h;exact⟨v,σ',H',I.unwish,r,q⟩
theorem PE.nox {e:Expr}{t:TE}(h:PE X.nox e t):PE X e t:=λpins s σ H Q I hw=>
 wpAny_mono (h pins s σ H Q (I.wish _) hw) (λ_ _ ⟨v,H',I',r,q⟩=>⟨v,H',I'.unwish,r,q⟩) λ_ _ z=>False.elim z
theorem PT.nox {e:Expr}{t:TT}(h:PT X.nox e t):PT X e t:=λpins s σ H Q I hw=>
 wpAny_mono (h pins s σ H Q (I.wish _) hw) (λ_ _ ⟨H',I',q⟩=>⟨H',I'.unwish,q⟩) λ_ _ z=>False.elim z
theorem PSs.nox {st:List Stmt}{t:TS}(h:PSs X.nox st t):PSs X st t:=λpins s σ H D I hw=>
 wpAny_mono (h pins s σ H D (I.wish _) hw) (λ_ _ q=>q.unwish) λ_ _ z=>False.elim z
end
section
variable {X:Cx}{st:Stmt}{rest:List Stmt}{t u:TS}{e:Expr}{te:TE}{pos:Pos}
def Mq:TS:=λD σ H=>D.nx σ H
def Oz (t u:TS):TS:=λD σ H=>t { D with nx:=u D } σ H
theorem wV:PSs X [] Mq:=λ_ _ σ H _ I h=>wpAny_execs_nil ⟨σ,H,I,h⟩
theorem fK (h1:PS X st t) (h2:PSs X rest u):PSs X (st::rest) (Oz t u):=by
 intro pins s σ H D I h
 refine wpAny_execs_cons (thn (h1 pins s σ H { D with nx:=u D } I h) λf s1 q=>?_)
 cases f with
 | next=>
  obtain⟨σ',H',I',q⟩:=q
  exact h2 pins s1 σ' H' D I' q
 | ret v=>exact q
 | brk=>exact q
 | cont=>exact q
theorem lQ (h1:PS X st t):PSs X [st] t:=by
 intro pins s σ H D I h
 refine wpAny_execs_cons (thn (h1 pins s σ H D I h) λf s1 q=>?_)
 cases f with
 | next=>exact wpAny_execs_nil q
 | ret v=>exact q
 | brk=>exact q
 | cont=>exact q
theorem Inv.quiet {pins:List (Addr×Obj)}{σ:St}{H:Hp}{s:Shared}(I:Inv X pins σ H s):interactive X.env=false:=by simp[interactive,I.ok.kind]
def Ms (te:TE):TS:=λD σ H=>te σ H λ_ H1=>D.nx σ H1
theorem lR (he:PE X e te) (hs:swapsWith e none pos.line X.env=pure false:=by rfl):PS X (.Expr e pos) (Ms te):=by
 intro pins s σ H D I h
 exact wpAny_Expr_any (thn (he pins s σ H _ I h) λv s1 ⟨x,H1,I1,r1,q1⟩=>⟨σ,H1,I1,q1⟩) I.quiet hs
def OD (te:TE):TS:=λD σ H=>te σ H D.rt
theorem zr (he:PE X e te):PS X (.Return (some e) pos) (OD te):=by
 intro pins s σ H D I h
 exact wpAny_Return_some (thn (he pins s σ H _ I h) λv s1 ⟨x,H1,I1,r1,q1⟩=>⟨x,σ,H1,I1,r1,q1⟩)
def OJ (c:TT) (t u:TS):TS:=λD σ H=>c σ H λb H1=>if b=true then t D σ H1 else u D σ H1
theorem Et {c:Expr}{a b:List Stmt}{tc:TT}(hc:PT X c tc) (ha:PSs X a t) (hb:PSs X b u):PS X (.If c a b pos) (OJ tc t u):=by
 intro pins s σ H D I h
 refine wpAny_If (thn (hc pins s σ H _ I h) λd s1 ⟨H1,I1,q1⟩=>?_)
 cases d with
 | true=>exact ha pins s1 σ H1 D I1 q1
 | false=>exact hb pins s1 σ H1 D I1 q1
end
abbrev TG:=V->St->Hp->(St->Hp->Prop)->Prop
abbrev TGs:=List V->St->Hp->(St->Hp->Prop)->Prop
def PG (X:Cx) (target:Expr) (t:TG):Prop:=
 ∀ (pins:List (Addr×Obj)) (s:Shared) (σ:St) (H:Hp) (v:V) (u:Value) (Q:St->Hp->Prop),Inv X pins σ H s->RelV v u->t v σ H Q->
  wpAny (model X.prog X.w) X.A (assign target X.env u) (λ_ s'=>∃ σ' H',Inv X pins σ' H' s'/\Q σ' H') X.xe s
def PGs (X:Cx) (ts:List Expr) (t:TGs):Prop:=
 ∀ (pins:List (Addr×Obj)) (s:Shared) (σ:St) (H:Hp) (vs:List V) (us:List Value) (Q:St->Hp->Prop),Inv X pins σ H s->Vals vs us->t vs σ H Q->
  wpAny (model X.prog X.w) X.A (assignInOrder ((assignEach ts X.env).map (·.2)) us) (λ_ s'=>∃ σ' H',Inv X pins σ' H' s'/\Q σ' H') X.xe s
abbrev Ca:=V->V->V->Hp->(Hp->Prop)->Prop
def Jf (X:Cx) (t:Ca):Prop:=
 ∀ (pins:List (Addr×Obj)) (s:Shared) (σ:St) (H:Hp) (o i v:V) (ov iv u:Value) (Q:Hp->Prop),Inv X pins σ H s->RelV o ov->RelV i iv->RelV v u->t o i v H Q->
  wpAny (model X.prog X.w) X.A (setItem ov iv u) (λ_ s'=>∃ H',Inv X pins σ H' s'/\Q H') X.xe s
section
variable {X:Cx}{pos:Pos}
def oW (i:Nat):TG:=λv σ H Q=>Q (σ.set i (some v)) H
theorem qW {i:Nat}{x:Str}(hN:X.N.Nodup) (hi:X.N[i]?=some x) (hx:Loc X.env.scope x) (hf:X.fn x=true\/X.env.scope.names.lookup x=some .local:=by first | exact .inl rfl | exact .inr rfl | assumption):PG X (.Name x pos) (oW i):=by
 intro pins s σ H v u Q I r h
 exact wpAny_assign_Name (uG I hN hi hx r (λs' I'=>⟨_,H,I',h⟩) hf)
def Jg:TGs:=λvs σ H Q=>vs=[]/\Q σ H
def Eu (t:TG) (u:TGs):TGs:=λvs σ H Q=>∃ v r,vs=v::r/\t v σ H fun σ' H'=>u r σ' H' Q
theorem wW:PGs X [] Jg:=by
 intro pins s σ H vs us Q I r h
 obtain⟨e,h⟩:=h
 subst e
 cases r
 exact assignInOrder_nil ⟨σ,H,I,h⟩
theorem pI {e:Expr}{es:List Expr}{t:TG}{u:TGs}(h1:PG X e t) (h2:PGs X es u)
  (hs:(assignEach (e::es) X.env).map (·.2)=assign e X.env::(assignEach es X.env).map (·.2):=by rfl):PGs X (e::es) (Eu t u):=by
 intro pins s σ H vs us Q I r h
 obtain⟨v,vr,e1,h⟩:=h
 subst e1
 cases r with
 | cons r rr=>
  rw[hs]
  refine assignInOrder_cons (thn (h1 pins s σ H _ _ _ I r h) λ_ s1 ⟨σ1,H1,I1,q1⟩=>?_)
  exact h2 pins s1 σ1 H1 _ _ Q I1 rr q1
def Jh (K:PySem.W.Frag) (n:Nat) (t:TGs):TG:=λv σ H Q=>∃ a xs,v=.ref a/\SqT K H a xs/\xs.length=n/\t xs σ H Q
theorem zu {es:List Expr}{k:Nat}{t:TGs}{n:Nat}(hc:X.calm=true) (h:PGs X es t)
  (hn:(assignEach es X.env).length=n:=by rfl) (hst:(assignEach es X.env).findIdx? (·.1)=none:=by rfl):PG X (.Tuple es k pos) (Jh X.K n t):=by
 intro pins s σ H v u Q I r hw
 obtain⟨a,xs,e1,hq,hl,hw⟩:=hw
 subst e1
 cases r
 obtain⟨its,rv,ht,hz⟩:=I.tuple hq
 refine assign_Tuple_tuple (I.ok.hd hc) ht (by simp[hn,← hl,rv.length]) hst λh' hx=>?_
 have I1:Inv X pins σ H { s with heap:=h' }:=I.kept (t':=s.toks) λb o e=>hx b o (Nat.ne_of_lt (Heap.lt_size e)) e
 exact h pins _ σ H xs _ Q I1 (by simpa using rv) hw
def O3 (to ti:TE) (t:Ca):TG:=λv σ H Q=>to σ H λo H1=>ti σ H1 λi H2=>t o i v H2 λH3=>Q σ H3
theorem zx {o i:Expr}{to ti:TE}{t:Ca}(ho:PE X o to) (hi:PE X i ti) (hs:Jf X t)
  (ha:∀ v,assign (.Subscript o i pos) X.env v=(do
   let ov ← holding [v] (eval o X.env)
   let iv ← holding [v,ov] (eval i X.env)
   standAt pos
   holding [v,ov,iv] (setItem ov iv v)
   release [v,ov,iv] []):=by intro _;rfl):PG X (.Subscript o i pos) (O3 to ti t):=by
 intro pins s σ H v u Q I r h
 rw[ha]
 refine wpAny_bind (wpAny_holding (thn (ho pins s σ H _ I h) λov s1 ⟨x,H1,I1,r1,q1⟩=>?_))
 refine wpAny_bind (wpAny_holding (thn (hi pins s1 σ H1 _ I1 q1) λiv s2 ⟨y,H2,I2,r2,q2⟩=>?_))
 refine wpAny_bind (wpAny_standAt (wpAny_bind (wpAny_holding (thn (hs pins s2 σ H2 x y v ov iv u _ I2 r1 r2 r q2) λ_ s3 ⟨H3,I3,q3⟩=>?_))))
 exact wpAny_release ⟨σ,H3,I3,q3⟩
def Cd (te:TE) (g:TG):TS:=λD σ H=>te σ H λx H1=>g x σ H1 D.nx
theorem uH {tg e:Expr}{te:TE}{g:TG}(he:PE X e te) (hg:PG X tg g) (hs:swapsWithSole [tg] e pos.line X.env=pure false:=by rfl) (hw:swappedStores [tg] e X.env=pure none:=by rfl)
  (h1:(assignEach [tg] X.env).map (·.2)=[assign tg X.env]:=by rfl):PS X (.Assign [tg] e pos) (Cd te g):=by
 intro pins s σ H D I h
 refine wpAny_Assign_stores (thn (he pins s σ H _ I h) λv s1 ⟨x,H1,I1,r1,q1⟩=>?_) hs hw
 rw[h1]
 exact thn (hg pins s1 σ H1 x v _ I1 r1 q1) λ_ s2 q=>q
theorem jF {i:Nat}{x:Str}{e:Expr}{te:TE}{pos':Pos}(hN:X.N.Nodup) (hi:X.N[i]?=some x) (hx:Loc X.env.scope x) (he:PE X e te) (hs:swapsWith e (some (.Name x pos')) pos.line X.env=pure false:=by rfl) (hf:X.fn x=true\/X.env.scope.names.lookup x=some .local:=by first | exact .inl rfl | exact .inr rfl | assumption):
  PS X (.Assign [.Name x pos'] e pos) (Cd te (oW i)):=by
 intro pins s σ H D I h
 refine wpAny_Assign_Name (thn (he pins s σ H _ I h) λv s1 ⟨y,H1,I1,r1,q1⟩=>?_) hs
 exact uG I1 hN hi hx r1 (λs2 I2=>⟨_,H1,I2,q1⟩) hf
end
section
variable {X:Cx}{pos:Pos}
end
structure It where
 go:Nat->Hp->Prop
 yld:Nat->Hp->V->Hp->Prop
 stop:Nat->Hp->Prop
def jm (X:Cx) (pins:List (Addr×Obj)) (H:Hp) (b:Addr):Prop:=
 H b=none/\b≠X.env.locals/\b∉X.fs/\(b∈X.ex\/X.s₀.heap.objs.size<=b)/\(∀ x c,X.env.cells.lookup x=some c->c≠b)/\∀ p∈X.pn++pins,p.1≠b
theorem Inv.fpOk {X:Cx}{pins:List (Addr×Obj)}{σ:St}{H H':Hp}{s:Shared}{b:Addr}(I:Inv X pins σ H s) (hb:s.heap.objs.size<=b) (hn:H' b=none):jm X pins H' b:=by
 refine⟨hn,Nat.ne_of_gt (Nat.lt_of_lt_of_le I.lt hb),I.nofs hb,.inr (Nat.le_trans I.sz hb),λx c e z=>?_,λp hp z=>?_⟩
 ·obtain⟨v,q⟩:=I.cell x c e
  exact absurd (Nat.lt_of_lt_of_le q.lt (by rw[z];exact hb)) (Nat.lt_irrefl _)
 ·exact absurd (Nat.lt_of_lt_of_le (Heap.lt_size (I.pin p hp).1) (by rw[z];exact hb)) (Nat.lt_irrefl _)
structure Turn (P:Program) (w:World) (K:PySem.W.Frag) (tg:Expr) (J:It) (fp:List Addr) (it:Addr) (tn:Nat->Heap->Prop):Prop where
 mem:it∈fp
 obj:∀ i h,tn i h->∀ b∈fp,∃ o,h.get? b=some o/\∀ v,o.data≠.cell v
 keep:∀ i h h',tn i h->(∀ b∈fp,∀ o,h.get? b=some o->h'.get? b=some o)->tn i h'
 item:∀ (X:Cx),X.prog=P->X.w=w->X.K=K->X.calm=true->∀ (i:Nat) (pins:List (Addr×Obj)) (s:Shared) (σ:St) (H:Hp) (E:Value->Shared->Prop),Inv X pins σ H s->(∀ b∈fp,jm X pins H b)->tn i s.heap->J.go i H->
  wpAny (model P w) X.A (pyNext (.ref it)) (λr s1=>∃ u,r=some u /\
   wpAny (model P w) X.A (letOwnedTupleGo tg (.ref it) u) (λ_ s2=>∃ x H',Inv X pins σ H' s2/\RelV x u/\J.yld i H x H'/\tn (i+1) s2.heap/\∀ b∈fp,H' b=none) E s1) E s
 done:∀ (X:Cx),X.prog=P->X.w=w->X.K=K->X.calm=true->∀ (i:Nat) (pins:List (Addr×Obj)) (s:Shared) (σ:St) (H:Hp) (E:Value->Shared->Prop),Inv X pins σ H s->(∀ b∈fp,jm X pins H b)->tn i s.heap->J.stop i H->
  wpAny (model P w) X.A (pyNext (.ref it)) (λr s1=>r=none/\Inv X pins σ H s1) E s
 self:∀ (A:Around) (i:Nat) (s:Shared) (Q:Value->Shared->Prop) (E:Value->Shared->Prop),tn i s.heap->Q (.ref it) s->wpAny (model P w) A (pyIter (.ref it)) Q E s
abbrev TI:=St->Hp->(It->Hp->Prop)->Prop
def PIE (X:Cx) (pins:List (Addr×Obj)) (σ:St) (tg:Expr) (R:It->Hp->Prop) (itv:Value) (s2:Shared):Prop:=
 ∃ (it:Addr) (fp:List Addr) (tn:Nat->Heap->Prop) (J:It) (H':Hp),itv=.ref it/\Inv X pins σ H' s2/\Turn X.prog X.w X.K tg J fp it tn/\tn 0 s2.heap/\(∀ b∈fp,jm X pins H' b)/\R J H'
def PI (X:Cx) (tg iter:Expr) (wi:TI):Prop:=
 ∀ (pins:List (Addr×Obj)) (s:Shared) (σ:St) (H:Hp) (R:It->Hp->Prop),Inv X pins σ H s->wi σ H R->
  wpAny (model X.prog X.w) X.A (eval iter X.env) (λv s1=>wpAny (model X.prog X.w) X.A (pyIter v) (PIE X pins σ tg R) X.xe s1) X.xe s
theorem mJ {M:Model}{A:Around}{E:Value->Shared->Prop}{s:Shared}{tg:Expr}{it:Addr}{u:Value}{o:Obj}{n:String}{vs:Array Value}{Q:Unit->Shared->Prop}(ho:s.heap.get? it=some o) (hc:o.cls=.type n) (hd:o.data=.fields vs)
    (hn:["enumerate", "zip", "dict_itemiterator", "dict_reverseitemiterator", "odict_iterator", "itertools.zip_longest", "itertools.pairwise"].contains n=false) (hQ:Q () s):wpAny M A (letOwnedTupleGo tg (.ref it) u) Q E s:=by
  unfold letOwnedTupleGo
  cases tg <;> first
    | exact wpAny_pure hQ
    | (cases u <;> first
        | exact wpAny_pure hQ
        | (refine wpAny_bind (wpAny_load ho ?_)
           rw[hc,hd]
           show wpAny M A (if (["enumerate", "zip", "dict_itemiterator", "dict_reverseitemiterator", "odict_iterator", "itertools.zip_longest", "itertools.pairwise"].contains n&&vs[0]? == some (rawInt _))=true then _ else _) Q E s
           rw[if_neg (by intro h;rw[hn,Bool.false_and] at h;cases h)]
           exact wpAny_pure hQ))
def Itl (K:PySem.W.Frag) (a:Addr):It:=
 ⟨λi H=>∃ xs x,SqL K H a xs/\xs[i]?=some x,λi H x H'=>H'=H/\∀ xs,SqL K H a xs->xs[i]?=some x,λi H=>∃ xs,SqL K H a xs/\xs.length<=i⟩
def Itt (K:PySem.W.Frag) (a:Addr):It:=
 ⟨λi H=>∃ xs x,SqT K H a xs/\xs[i]?=some x,λi H x H'=>H'=H/\∀ xs,SqT K H a xs->xs[i]?=some x,λi H=>∃ xs,SqT K H a xs/\xs.length<=i⟩
def Itr (lo:Int) (n:Nat):It:=⟨λi _=>i < n,λi H x H'=>H'=H/\x=.int (lo+i),λi _=>n<=i⟩
theorem zy {P:Program}{w:World}{K:PySem.W.Frag}{tg:Expr}(a it:Addr):Turn P w K tg (Itl K a) [it] it (λi h=>h.IsListIter it a i) where
 mem:=by simp
 obj:=λi h st b hb=>by
  have e:b=it:=by simpa using hb
  subst e
  obtain⟨o,e,c,d⟩:=st
  exact⟨o,e,λv z=>by rw[d] at z;cases z⟩
 keep:=λi h h' st k=>st.at λo e=>k it (by simp) o e
 item:=by
  intro X hP hw hK hc i pins s σ H E I hf st hg
  subst hP hw hK
  obtain⟨xs,x,hq,hx⟩:=hg
  obtain⟨its,rv,p,hz⟩:=I.list hq
  obtain⟨u,hu,ru⟩:=rv.get hx
  obtain⟨f0,f1,f2,f3,f4,f5⟩:=hf it (by simp)
  refine wpAny_pyNext_list_item st p.isList (x:=u) (by simpa using hu) λh' st' sb=>?_
  have I1:Inv X pins σ H { s with heap:=h' }:=I.turned (t':=s.toks) (λb o hb e=>(sb.2 b hb).trans e) f0 f1 f3 f4 f5
  obtain⟨o,e,c,d⟩:=id st'
  exact⟨u,rfl,mJ (s:={ s with heap:=h' }) e c d (by decide) ⟨x,H,I1,ru,⟨rfl,λys hy=>by rw[I.list_inj hy hq];exact hx⟩,st',λb hb=>(hf b hb).1⟩⟩
 done:=by
  intro X hP hw hK hc i pins s σ H E I hf st hg
  subst hP hw hK
  obtain⟨xs,hq,hx⟩:=hg
  obtain⟨its,rv,p,hz⟩:=I.list hq
  obtain⟨f0,f1,f2,f3,f4,f5⟩:=hf it (by simp)
  have hl:=rv.length
  exact wpAny_pyNext_list_end (I.ok.hd hc) st p.isList (by simp;omega) λh' eb=>⟨rfl,I.turned (t':=s.toks) (λb o hb e=>eb b o hb e) f0 f1 f3 f4 f5⟩
 self:=λ_ _ _ _ _ st h=>wpAny_pyIter_listiter st h
theorem yh {P:Program}{w:World}{K:PySem.W.Frag}{tg:Expr}(a it:Addr):Turn P w K tg (Itt K a) [it] it (λi h=>h.IsTupleIter it a i) where
 mem:=by simp
 obj:=λi h st b hb=>by
  have e:b=it:=by simpa using hb
  subst e
  obtain⟨o,e,c,d⟩:=st
  exact⟨o,e,λv z=>by rw[d] at z;cases z⟩
 keep:=λi h h' st k=>st.at λo e=>k it (by simp) o e
 item:=by
  intro X hP hw hK hc i pins s σ H E I hf st hg
  subst hP hw hK
  obtain⟨xs,x,hq,hx⟩:=hg
  obtain⟨its,rv,p,hz⟩:=I.tuple hq
  obtain⟨u,hu,ru⟩:=rv.get hx
  obtain⟨f0,f1,f2,f3,f4,f5⟩:=hf it (by simp)
  refine wpAny_pyNext_tuple_item st (show s.heap.IsTuple a its.toArray from p) (x:=u) (by simpa using hu) λh' st' sb=>?_
  have I1:Inv X pins σ H { s with heap:=h' }:=I.turned (t':=s.toks) (λb o hb e=>(sb.2 b hb).trans e) f0 f1 f3 f4 f5
  obtain⟨o,e,c,d⟩:=id st'
  exact⟨u,rfl,mJ (s:={ s with heap:=h' }) e c d (by decide) ⟨x,H,I1,ru,⟨rfl,λys hy=>by rw[I.tuple_inj hy hq];exact hx⟩,st',λb hb=>(hf b hb).1⟩⟩
 done:=by
  intro X hP hw hK hc i pins s σ H E I hf st hg
  subst hP hw hK
  obtain⟨xs,hq,hx⟩:=hg
  obtain⟨its,rv,p,hz⟩:=I.tuple hq
  obtain⟨f0,f1,f2,f3,f4,f5⟩:=hf it (by simp)
  have hl:=rv.length
  exact wpAny_pyNext_tuple_end (I.ok.hd hc) st (show s.heap.IsTuple a its.toArray from p) (by simp;omega) λh' eb=>⟨rfl,I.turned (t':=s.toks) (λb o hb e=>eb b o hb e) f0 f1 f3 f4 f5⟩
 self:=λ_ _ _ _ _ st h=>wpAny_pyIter_tupleiter st h
theorem yj {P:Program}{w:World}{K:PySem.W.Frag}{tg:Expr}(it:Addr) (lo:Int) (n:Nat):Turn P w K tg (Itr lo n) [it] it (λi h=>IsRangeIter h it (lo+(i:Nat)*1) ((n:Int) - (i:Nat)) 1) where
 mem:=by simp
 obj:=λi h st b hb=>by
  have e:b=it:=by simpa using hb
  subst e
  exact⟨_,st,λv z=>by
   have z':Data.fields _=Data.cell v:=z
   cases z'⟩
 keep:=λi h h' st k=>k it (by simp) _ st
 item:=by
  intro X hP hw hK hc i pins s σ H E I hf st hg
  subst hP hw hK
  obtain⟨f0,f1,f2,f3,f4,f5⟩:=hf it (by simp)
  have W:=Walks.range (prog:=X.prog) (w:=X.w) (I.ok.hd hc) it lo 1 n
  refine W.item i s _ _ hg st λv h' tk hv st' kk=>?_
  obtain⟨t,rfl⟩:=hv
  have I1:Inv X pins σ H { s with heap:=h',toks:=tk }:=I.turned (λb o hb e=>kk b o (by simpa using hb) e) f0 f1 f3 f4 f5
  refine⟨_,rfl,mJ (s:={ s with heap:=h',toks:=tk }) (n := "range_iterator") st' rfl rfl (by decide) ⟨.int (lo+i),H,I1,⟨t,?_⟩,⟨rfl,rfl⟩,st',λb hb=>(hf b hb).1⟩⟩
  rw[Int.mul_one]
 done:=by
  intro X hP hw hK hc i pins s σ H E I hf st hg
  subst hP hw hK
  obtain⟨f0,f1,f2,f3,f4,f5⟩:=hf it (by simp)
  exact wpAny_pyNext_range_end (I.ok.hd hc) st (by have:n<=i:=hg;omega) λh' eb=>⟨rfl,I.turned (t':=s.toks) (λb o hb e=>eb b o hb e) f0 f1 f3 f4 f5⟩
 self:=λ_ _ _ _ _ st h=>wpAny_pyIter_rangeiter st h
end L2
namespace L2
open PySem PySem.Spec PyProof.Rows
section
variable {X:Cx}{tg:Expr}
def Mt (K:PySem.W.Frag) (tl:TE):TI:=fun σ H R=>tl σ H λx H1=>∃ a,x=.ref a/\(∃ xs,SqL K H1 a xs)/\R (Itl K a) H1
def O4 (K:PySem.W.Frag) (tl:TE):TI:=fun σ H R=>tl σ H λx H1=>∃ a,x=.ref a/\(∃ xs,SqT K H1 a xs)/\R (Itt K a) H1
theorem Gf {l:Expr}{tl:TE}(hl:PE X l tl):PI X tg l (Mt X.K tl):=by
 intro pins s σ H R I h
 refine thn (hl pins s σ H _ I h) λv s1 ⟨x,H1,I1,r1,q1⟩=>?_
 obtain⟨a,e,⟨xs,hq⟩,q⟩:=q1
 subst e
 cases r1
 obtain⟨its,rv,p,hz⟩:=I1.list hq
 refine wpAny_pyIter_list p.isList ?_
 refine⟨s1.heap.objs.size,[s1.heap.objs.size],_,_,H1,rfl,I1.kept (t':=s1.toks) λb o e=>Heap.get?_push_of_some _ e,zy a _,⟨_,Heap.get?_push_size _ rfl,rfl,rfl⟩,λb hb=>?_,q⟩
 have e:b=s1.heap.objs.size:=by simpa using hb
 subst e
 exact I1.fpOk (Nat.le_refl _) (I1.hok.fresh (Nat.le_refl _))
theorem Ji {l:Expr}{tl:TE}(hl:PE X l tl):PI X tg l (O4 X.K tl):=by
 intro pins s σ H R I h
 refine thn (hl pins s σ H _ I h) λv s1 ⟨x,H1,I1,r1,q1⟩=>?_
 obtain⟨a,e,⟨xs,hq⟩,q⟩:=q1
 subst e
 cases r1
 obtain⟨its,rv,p,hz⟩:=I1.tuple hq
 refine wpAny_pyIter_tuple (show s1.heap.IsTuple a its.toArray from p) ?_
 refine⟨s1.heap.objs.size,[s1.heap.objs.size],_,_,H1,rfl,I1.kept (t':=s1.toks) λb o e=>Heap.get?_push_of_some _ e,yh a _,⟨_,Heap.get?_push_size _ rfl,rfl,rfl⟩,λb hb=>?_,q⟩
 have e:b=s1.heap.objs.size:=by simpa using hb
 subst e
 exact I1.fpOk (Nat.le_refl _) (I1.hok.fresh (Nat.le_refl _))
theorem uI {pins:List (Addr×Obj)}{σ:St}{H:Hp}{s:Shared}{R:It->Hp->Prop}{E:Value->Shared->Prop}{lo hi:Int}{t u v:Tok}{tk:Nat}(I:Inv X pins σ H s) (h1:-(2 ^ 62)<=lo) (h2:lo < 2 ^ 62) (h3:-(2 ^ 62)<=hi) (h4:hi < 2 ^ 62)
  (q:R (Itr lo (hi - lo).toNat) H):wpAny (model X.prog X.w) X.A (pyIter (.ref s.heap.objs.size)) (PIE X pins σ tg R) E { s with heap:=s.heap.push { cls:=.type "range",data:=.fields #[.int lo t,.int hi u,.int 1 v] },toks:=tk }:=by
 refine wpAny_pyIter_range (IsRange.new ..) (small_one h1 h2 h3 h4) ?_
 have I1:Inv X pins σ H { s with heap:=s.heap.push { cls:=.type "range",data:=.fields #[.int lo t,.int hi u,.int 1 v] },toks:=tk }:=I.kept λb o e=>Heap.get?_push_of_some _ e
 refine⟨(s.heap.push { cls:=.type "range",data:=.fields #[.int lo t,.int hi u,.int 1 v] }).objs.size,[(s.heap.push { cls:=.type "range",data:=.fields #[.int lo t,.int hi u,.int 1 v] }).objs.size],_,_,H,rfl,
  I1.kept (t':=tk) λb o e=>Heap.get?_push_of_some _ e,yj _ lo (hi - lo).toNat,?_,λb hb=>?_,q⟩
 ·have e1:lo+((0:Nat):Int)*1=lo:=by simp
  have e2:(((hi - lo).toNat:Nat):Int) - ((0:Nat):Int)=Builtin.Range.rangeSize lo hi 1:=by rw[rangeSize_one];split <;> omega
  show IsRangeIter _ _ (lo+((0:Nat):Int)*1) ((((hi - lo).toNat:Nat):Int) - ((0:Nat):Int)) 1
  rw[e1,e2]
  exact Heap.get?_push_size _ rfl
 ·have e:b=(s.heap.push { cls:=.type "range",data:=.fields #[.int lo t,.int hi u,.int 1 v] }).objs.size:=by simpa using hb
  subst e
  exact I1.fpOk (Nat.le_refl _) (I1.hok.fresh (Nat.le_refl _))
def Mu (ta:TA):TI:=fun σ H R=>ta σ H λvs H1=>∃ j:Int,vs=[.int j]/\-(2 ^ 62)<=j/\j < 2 ^ 62/\R (Itr 0 j.toNat) H1
def Mv (ta:TA):TI:=fun σ H R=>ta σ H λvs H1=>∃ i j:Int,vs=[.int i,.int j]/\(-(2 ^ 62)<=i/\i < 2 ^ 62/\-(2 ^ 62)<=j/\j < 2 ^ 62)/\R (Itr i (j - i).toNat) H1
theorem zz {a:Expr}{ta:TA}{p pos:Pos}(hg:Gl X "range") (hm:X.mg "range" = none) (ha:PA X [a] ta) (hs:starEach [a] X.env=[(false,eval a X.env)]:=by rfl):PI X tg (.Call (.Name "range" p) [a] [] pos) (Mu ta):=by
 intro pins s σ H R I h
 refine Call_ (d_ I hg hm boot_range (PyProof.Rows.callWith_type1 (thn (ha pos pins s σ H _ I h) λus s1 ⟨vs,H1,I1,r1,q1⟩=>?_) hs rfl))
 obtain⟨j,e,q1,q2,q⟩:=q1
 subst e
 cases r1 with
 | cons r rr=>
  cases rr
  obtain⟨t,rfl⟩:=r
  exact call_range_1 (uI I1 (by omega) (by omega) q1 q2 (by simpa using q))
theorem zA {a b:Expr}{ta:TA}{p pos:Pos}(hg:Gl X "range") (hm:X.mg "range" = none) (ha:PA X [a,b] ta) (hs:starEach [a,b] X.env=[(false,eval a X.env),(false,eval b X.env)]:=by rfl) (hs2:starEach [b] X.env=[(false,eval b X.env)]:=by rfl):
  PI X tg (.Call (.Name "range" p) [a,b] [] pos) (Mv ta):=by
 intro pins s σ H R I h
 refine Call_ (d_ I hg hm boot_range (PyProof.Rows.callWith_type1 (thn (ha pos pins s σ H _ I h) λus s1 ⟨vs,H1,I1,r1,q1⟩=>?_) (by rw[hs,hs2]) (by rw[hs2];rfl)))
 obtain⟨i,j,e,⟨q1,q2,q3,q4⟩,q⟩:=q1
 subst e
 cases r1 with
 | cons r rr=>
  cases rr with
  | cons r' rr=>
   cases rr
   obtain⟨t,rfl⟩:=r
   obtain⟨t',rfl⟩:=r'
   exact call_range_2 (uI I1 q1 q2 q3 q4 q)
def O5 (wi:TI) (g:TG) (tb:TS):TS:=λD σ H=>wi σ H λJ H1=>∃ W:Nat->Nat->St->Hp->Prop,(∃ m,W 0 m σ H1)/\∀ i m σ H,W i m σ H->
 (J.stop i H/\D.nx σ H)\/(J.go i H/\∃ N:St->Hp->Prop,(∀ σ' H',N σ' H'->∃ m',m' < m/\W (i+1) m' σ' H')/\∀ x H',J.yld i H x H'->g x σ H' fun σ2 H2=>tb { D with nx:=N,ct:=N,bk:=D.nx } σ2 H2)
def nQ (fp:List Addr) (h:Heap):List (Addr×Obj):=fp.filterMap λb=>(h.get? b).map λo=>(b,o)
theorem jx {fp:List Addr}{h:Heap}{b:Addr}{o:Obj}(hb:b∈fp) (e:h.get? b=some o):(b,o)∈nQ fp h:=List.mem_filterMap.mpr ⟨b,hb,by rw[e];rfl⟩
theorem zB {fp:List Addr}{h:Heap}{p:Addr×Obj}(hp:p∈nQ fp h):p.1∈fp/\h.get? p.1=some p.2:=by
 obtain⟨b,hb,e⟩:=List.mem_filterMap.mp hp
 cases q:h.get? b with
 | none=>rw[q] at e;cases e
 | some o=>
  rw[q] at e
  have e':(b,o)=p:=Option.some.inj e
  subst e'
  exact⟨hb,q⟩
theorem Inv.pinned {pins:List (Addr×Obj)}{σ:St}{H:Hp}{s:Shared}{fp:List Addr}(I:Inv X pins σ H s) (hf:∀ b∈fp,jm X pins H b) (ho:∀ b∈fp,∃ o,s.heap.get? b=some o/\∀ v,o.data≠.cell v):Inv X (pins++nQ fp s.heap) σ H s:=
 I.pins_of λp hp=>(List.mem_append.mp hp).elim (λz=>I.pin p (List.mem_append_right _ z)) λz=>by
  obtain⟨hb,e⟩:=zB z
  obtain⟨f0,f1,f2,_⟩:=hf p.1 hb
  obtain⟨o,e',d⟩:=ho p.1 hb
  rw[e] at e';cases e'
  exact⟨e,f0,f1,f2,d⟩
theorem Inv.unpinned {pins pl:List (Addr×Obj)}{σ:St}{H:Hp}{s:Shared}(I:Inv X (pins++pl) σ H s):Inv X pins σ H s:=I.pins_of λp hp=>I.pin p (List.mem_append_right _ (List.mem_append_left _ hp))
theorem zE {iter:Expr}{body:List Stmt}{wi:TI}{g:TG}{tb:TS}{pos:Pos}(hp:PassesOwn (model X.prog X.w) X.A X.env X.xe) (hc:X.calm=true) (hi:PI X tg iter wi) (hg:PG X tg g) (hb:PSs X body tb)
  (hs:∀ x,foldedSetIterable iter X.env x=pure x:=by intro _;rfl):PS X (.For tg iter body [] pos) (O5 wi g tb):=by
 intro pins s σ H D I h
 refine wpAny_For (thn (hi pins s σ H _ I h) λv s1 h1=>thn h1 λitv s2 h2=>?_) hs
 obtain⟨it,fp,tn,J,H2,e,I2,T,st2,f2,W,⟨m0,w0⟩,turn⟩:=h2
 subst e
 have stat:∀ {H':Hp},(∀ b∈fp,H' b=none)->∀ b∈fp,jm X pins H' b:=λhn b hb=>⟨hn b hb,(f2 b hb).2⟩
 refine codeAny_forLoop_any (λn s'=>∃ i σ' H',Inv X pins σ' H' s'/\tn i s'.heap/\(∀ b∈fp,H' b=none)/\W i n σ' H') ?_ m0 ⟨0,σ,H2,I2,st2,λb hb=>(f2 b hb).1,w0⟩
 rintro n s3 ⟨i,σ3,H3,I3,st3,fr3,w3⟩
 rcases turn i n σ3 H3 w3 with ⟨stop,qn⟩ | ⟨go,N,hN,step⟩
 ·refine wpAny_passesOwn hp (thn (T.done X rfl rfl rfl hc i pins s3 σ3 H3 X.xe I3 (stat fr3) st3 stop) λr s4 ⟨hr,I4⟩=>?_)
  subst hr
  exact wpAny_execs_nil ⟨σ3,H3,I4,qn⟩
 ·refine wpAny_passesOwn hp (thn (T.item X rfl rfl rfl hc i pins s3 σ3 H3 X.xe I3 (stat fr3) st3 go) λr s4 ⟨u,hr,h4⟩=>?_)
  subst hr
  refine wpAny_passesOwn hp (thn h4 λ_ s5 ⟨x,H5,I5,r5,y5,st5,fr5⟩=>?_)
  have I5':=I5.pinned (stat fr5) (T.obj _ _ st5)
  refine wpAny_passesOwn hp (thn (hg _ s5 σ3 H5 x u _ I5' r5 (step x H5 y5)) λ_ s6 ⟨σ6,H6,I6,q6⟩=>?_)
  refine wpAny_passesOwn hp (thn (hb _ s6 σ6 H6 _ I6 q6) λf s7 q7=>?_)
  have again:∀ {σ7:St}{H7:Hp},Inv X (pins++nQ fp s5.heap) σ7 H7 s7->N σ7 H7->∃ m,m < n/\∃ i σ' H',Inv X pins σ' H' s7/\tn i s7.heap/\(∀ b∈fp,H' b=none)/\W i m σ' H':=λ{σ7 H7} I7 n7=>by
   obtain⟨m',hm,w7⟩:=hN σ7 H7 n7
   refine⟨m',hm,i+1,σ7,H7,I7.unpinned,T.keep _ _ _ st5 λb hb o e=>(I7.pin (b,o) (List.mem_append_right _ (List.mem_append_right _ (jx hb e)))).1,λb hb=>?_,w7⟩
   obtain⟨o,e,d⟩:=T.obj _ _ st5 b hb
   exact(I7.pin (b,o) (List.mem_append_right _ (List.mem_append_right _ (jx hb e)))).2.1
  cases f with
  | next=>obtain⟨σ7,H7,I7,n7⟩:=q7;exact again I7 n7
  | cont=>obtain⟨σ7,H7,I7,n7⟩:=q7;exact again I7 n7
  | brk=>obtain⟨σ7,H7,I7,q7⟩:=q7;exact⟨σ7,H7,I7.unpinned,q7⟩
  | ret v=>obtain⟨x7,σ7,H7,I7,r7,q7⟩:=q7;exact⟨x7,σ7,H7,I7.unpinned,r7,q7⟩
end
end L2
namespace L2
open PySem PySem.Spec PyProof.Rows
abbrev R2:=V->V->Hp->VK->Prop
def OpR (X:Cx) (f:Value->Value->Sem Value) (r:R2):Prop:=
 ∀ (pins:List (Addr×Obj)) (s:Shared) (σ:St) (H:Hp) (x y:V) (v u:Value) (Q:VK),Inv X pins σ H s->RelV x v->RelV y u->r x y H Q->
  wpAny (model X.prog X.w) X.A (f v u) (EP X pins σ Q) X.xe s
def UnR (X:Cx) (f:Value->Sem Value) (r:V->Hp->VK->Prop):Prop:=
 ∀ (pins:List (Addr×Obj)) (s:Shared) (σ:St) (H:Hp) (x:V) (v:Value) (Q:VK),Inv X pins σ H s->RelV x v->r x H Q->
  wpAny (model X.prog X.w) X.A (f v) (EP X pins σ Q) X.xe s
def CallR (X:Cx) (f:Value) (r:List V->Hp->VK->Prop):Prop:=
 ∀ (pins:List (Addr×Obj)) (s:Shared) (σ:St) (H:Hp) (xs:List V) (us:List Value) (Q:VK),Inv X pins σ H s->Vals xs us->r xs H Q->
  wpAny (model X.prog X.w) X.A (call f us) (EP X pins σ Q) X.xe s
def tOp (r:R2) (ta tb:TE):TE:=fun σ H Q=>ta σ H λx H1=>tb σ H1 λy H2=>r x y H2 Q
def tUn (r:V->Hp->VK->Prop) (ta:TE):TE:=fun σ H Q=>ta σ H λx H1=>r x H1 Q
def rI (C:Int->Int->Prop) (g:Int->Int->V):R2:=λx y H Q=>∃ i j,x=.int i/\y=.int j/\C i j/\Q (g i j) H
def rI0 (g:Int->Int->V):R2:=λx y H Q=>∃ i j,x=.int i/\y=.int j/\Q (g i j) H
def rU (g:Int->V):V->Hp->VK->Prop:=λx H Q=>∃ i,x=.int i/\Q (g i) H
section
variable {X:Cx}{a b c:Expr}{ta tb tc:TE}{pos:Pos}
theorem Ce (ha:PE X a ta) (hb:PE X b tb){pins:List (Addr×Obj)}{s:Shared}{σ:St}{H:Hp}{R:V->V->Hp->Prop}(I:Inv X pins σ H s)
  (h:ta σ H λx H1=>tb σ H1 λy H2=>R x y H2){Q:Value->Shared->Prop}{f:Value->Value->Sem Value}
  (hf:∀ v u s2 x y H2,Inv X pins σ H2 s2->RelV x v->RelV y u->R x y H2->wpAny (model X.prog X.w) X.A (f v u) Q X.xe s2):
  wpAny (model X.prog X.w) X.A (eval a X.env) (λv s₁=>wpAny (model X.prog X.w) X.A (eval b X.env) (λu s₂=>wpAny (model X.prog X.w) X.A (f v u) Q X.xe s₂) X.xe s₁) X.xe s:=by
 refine thn (ha pins s σ H _ I h) λv s1 ⟨x,H1,I1,r1,q1⟩=>?_
 refine thn (hb pins s1 σ H1 _ I1 q1) λu s2 ⟨y,H2,I2,r2,q2⟩=>?_
 exact hf v u s2 x y H2 I2 r1 r2 q2
theorem Mw {op:Operator}{r:R2}(ho:OpR X (binaryOp op) r) (ha:PE X a ta) (hb:PE X b tb):PE X (.BinOp a op b pos) (tOp r ta tb):=by
 intro pins s σ H Q I h
 exact wpAny_BinOp (Ce ha hb I h λv u s2 x y H2 I2 rx ry q=>ho pins s2 σ H2 x y v u Q I2 rx ry q)
theorem Mx {op:UnaryOp}{r:V->Hp->VK->Prop}(ho:UnR X (unaryOp op) r) (ha:PE X a ta):PE X (.UnaryOp op a pos) (tUn r ta):=by
 intro pins s σ H Q I h
 exact UnaryOp_ (thn (ha pins s σ H _ I h) λv s1 ⟨x,H1,I1,r1,q1⟩=>ho pins s1 σ H1 x v Q I1 r1 q1)
theorem opI {f:Value->Value->Sem Value}{C:Int->Int->Prop}{g:Int->Int->Int}
  (rule:∀ (i j:Int) (t u:Tok) (s:Shared) (Q:Value->Shared->Prop) (E:Value->Shared->Prop),C i j->Q (.int (g i j) s.toks) { s with toks:=s.toks+1 }->wpAny (model X.prog X.w) X.A (f (.int i t) (.int j u)) Q E s):
  OpR X f (rI C λi j=>.int (g i j)):=by
 intro pins s σ H x y v u Q I rx ry h
 obtain⟨i,j,rfl,rfl,hc,q⟩:=h
 obtain⟨t,rfl⟩:=rx
 obtain⟨t',rfl⟩:=ry
 exact rule i j t t' s _ _ hc ⟨.int (g i j),H,I.tok _,⟨_,rfl⟩,q⟩
theorem Jj {f:Value->Value->Sem Value}{g:Int->Int->Int}
  (rule:∀ (i j:Int) (t u:Tok) (s:Shared) (Q:Value->Shared->Prop) (E:Value->Shared->Prop),Q (.int (g i j) s.toks) { s with toks:=s.toks+1 }->wpAny (model X.prog X.w) X.A (f (.int i t) (.int j u)) Q E s):
  OpR X f (rI0 λi j=>.int (g i j)):=by
 intro pins s σ H x y v u Q I rx ry h
 obtain⟨i,j,rfl,rfl,q⟩:=h
 obtain⟨t,rfl⟩:=rx
 obtain⟨t',rfl⟩:=ry
 exact rule i j t t' s _ _ ⟨.int (g i j),H,I.tok _,⟨_,rfl⟩,q⟩
theorem Jk {f:Value->Value->Sem Value}{g:Int->Int->Bool}
  (rule:∀ (i j:Int) (t u:Tok) (s:Shared) (Q:Value->Shared->Prop) (E:Value->Shared->Prop),Q (.bool (g i j)) s->wpAny (model X.prog X.w) X.A (f (.int i t) (.int j u)) Q E s):
  OpR X f (rI0 λi j=>.bl (g i j)):=by
 intro pins s σ H x y v u Q I rx ry h
 obtain⟨i,j,rfl,rfl,q⟩:=h
 obtain⟨t,rfl⟩:=rx
 obtain⟨t',rfl⟩:=ry
 exact rule i j t t' s _ _ ⟨.bl (g i j),H,I,rfl,q⟩
def Jl (i j:Int):Prop:=0 < j/\j < 1073741824
def CMul (i j:Int):Prop:=(-(2 ^ 64) < i/\i < 2 ^ 64)\/(-(2 ^ 64) < j/\j < 2 ^ 64)
theorem CMul.ok {i j:Int}(h:CMul i j):IntMulOk i j:=by
 rcases h with ⟨h1,h2⟩ | ⟨h1,h2⟩
 ·exact .of_left (intBits_le_64 h1 h2)
 ·exact .of_right (intBits_le_64 h1 h2)
theorem Jm:OpR X (binaryOp .Add) (rI0 λi j=>.int (i+j)):=Jj λ_ _ _ _ _ _ _ q=>add_int q
theorem Jo:OpR X (binaryOp .Sub) (rI0 λi j=>.int (i - j)):=Jj λ_ _ _ _ _ _ _ q=>sub_int q
theorem Jp:OpR X (binaryOp .Mult) (rI CMul λi j=>.int (i*j)):=opI λ_ _ _ _ _ _ _ hc q=>mul_int q hc.ok
theorem Gg:OpR X (binaryOp .FloorDiv) (rI Jl λi j=>.int (i / j)):=opI λi j _ _ _ _ _ hc q=>by
 have h1:(0:Int) < j:=hc.1
 have h2:j < 1073741824:=hc.2
 exact floordiv_int (by omega) (by rw[Int.fdiv_eq_ediv_of_nonneg i (by omega)];exact q) (.inl (PyProof.noPylong_small (by omega)))
theorem Jq:OpR X (binaryOp .Mod) (rI (λ_ j=>0 < j) λi j=>.int (i % j)):=opI λi j _ _ _ _ _ hc q=>by
 have h1:(0:Int) < j:=hc
 exact mod_int' (by omega) (by rw[Int.fmod_eq_emod_of_nonneg i (by omega)];exact q)
theorem unI {f:Value->Sem Value}{g:Int->Int}
  (rule:∀ (i:Int) (t:Tok) (s:Shared) (Q:Value->Shared->Prop) (E:Value->Shared->Prop),Q (.int (g i) s.toks) { s with toks:=s.toks+1 }->wpAny (model X.prog X.w) X.A (f (.int i t)) Q E s):
  UnR X f (rU λi=>.int (g i)):=by
 intro pins s σ H x v Q I rx h
 obtain⟨i,rfl,q⟩:=h
 obtain⟨t,rfl⟩:=rx
 exact rule i t s _ _ ⟨.int (g i),H,I.tok _,⟨_,rfl⟩,q⟩
theorem Jr:UnR X (unaryOp .USub) (rU λi=>.int (-i)):=unI λ_ _ _ _ _ q=>neg_int q
end
def Cg:V->V->Bool
 | .non,.non=>true | .non,.int _=>true | .int _,.non=>true | .non,.bl _=>true | .bl _,.non=>true | .non,.str _=>true | .str _,.non=>true
 | .int _,.int _=>true | .bl _,.bl _=>true | .str _,.str _=>true | .byt _,.byt _=>true
 | .int _,.str _=>true | .str _,.int _=>true | .bl _,.str _=>true | .str _,.bl _=>true
 | _,_=>false
def rEq:R2:=λx y H Q=>Cg x y=true/\Q (.bl (decide (x=y))) H
def rNe:R2:=λx y H Q=>Cg x y=true/\Q (.bl (!decide (x=y))) H
theorem wX {i j:Int}:decide (V.int i=V.int j)=(i == j):=by
 rw[Bool.eq_iff_iff]
 simp
theorem zF {i j:Bool}:decide (V.bl i=V.bl j)=(i == j):=by
 rw[Bool.eq_iff_iff]
 simp
theorem wY {i j:Str}:decide (V.str i=V.str j)=(i == j):=by
 rw[Bool.eq_iff_iff]
 simp
theorem wZ {i j:Array UInt8}:decide (V.byt i=V.byt j)=(i.toList == j.toList):=by
 rw[Bool.eq_iff_iff]
 cases i
 cases j
 simp
section
variable {X:Cx}{a b c:Expr}{ta tb tc:TE}{pos:Pos}
theorem aX {pins:List (Addr×Obj)}{σ:St}{H:Hp}{s:Shared}{Q:VK}{k k':Bool}(I:Inv X pins σ H s) (q:Q (.bl k) H) (e:k=k'):EP X pins σ Q (.bool k') s:=by
 subst e
 exact⟨.bl k,H,I,rfl,q⟩
theorem Mz:OpR X (compareOp .Eq) rEq:=by
 intro pins s σ H x y v u Q I rx ry h
 obtain⟨hs,q⟩:=h
 cases x with
 | non=>
  cases rx
  cases y with
  | non=>cases ry;exact PySem.EqNone.eq_none_none (aX I q (by simp))
  | bl j=>cases ry;exact PySem.EqNone.eq_none_bool (aX I q (by simp))
  | int j=>obtain⟨t',rfl⟩:=ry;exact PySem.EqNone.eq_none_int (aX I q (by simp))
  | str j=>obtain⟨t',rfl⟩:=ry;exact PySem.EqNone.eq_none_str (aX I q (by simp))
  | _=>exact absurd (show false=true from hs) Bool.false_ne_true
 | bl i=>
  cases rx
  cases y with
  | non=>cases ry;exact PySem.EqNone.eq_bool_none (aX I q (by simp))
  | bl j=>cases ry;exact eq_bool (aX I q zF)
  | str j=>obtain⟨t',rfl⟩:=ry;exact PySem.EqMixed.eq_bool_str (aX I q (by simp))
  | _=>exact absurd (show false=true from hs) Bool.false_ne_true
 | int i=>
  obtain⟨t,rfl⟩:=rx
  cases y with
  | non=>cases ry;exact PySem.EqNone.eq_int_none (aX I q (by simp))
  | int j=>obtain⟨t',rfl⟩:=ry;exact eq_int (aX I q wX)
  | str j=>obtain⟨t',rfl⟩:=ry;exact PySem.EqMixed.eq_int_str (aX I q (by simp))
  | _=>exact absurd (show false=true from hs) Bool.false_ne_true
 | str i=>
  obtain⟨t,rfl⟩:=rx
  cases y with
  | non=>cases ry;exact PySem.EqNone.eq_str_none (aX I q (by simp))
  | bl j=>cases ry;exact PySem.EqMixed.eq_str_bool (aX I q (by simp))
  | int j=>obtain⟨t',rfl⟩:=ry;exact PySem.EqMixed.eq_str_int (aX I q (by simp))
  | str j=>obtain⟨t',rfl⟩:=ry;exact eq_str (aX I q wY)
  | _=>exact absurd (show false=true from hs) Bool.false_ne_true
 | byt i=>
  obtain⟨t,rfl⟩:=rx
  cases y with
  | byt j=>obtain⟨t',rfl⟩:=ry;exact PySem.W.eq_bytes (aX I q wZ)
  | _=>exact absurd (show false=true from hs) Bool.false_ne_true
 | _=>cases y <;> exact absurd (show false=true from hs) Bool.false_ne_true
theorem MF:OpR X (compareOp .NotEq) rNe:=by
 intro pins s σ H x y v u Q I rx ry h
 obtain⟨hs,q⟩:=h
 cases x with
 | non=>
  cases rx
  cases y with
  | non=>cases ry;exact PySem.EqNone.ne_none_none (aX I q (by simp))
  | bl j=>cases ry;exact PySem.EqNone.ne_none_bool (aX I q (by simp))
  | int j=>obtain⟨t',rfl⟩:=ry;exact PySem.EqNone.ne_none_int (aX I q (by simp))
  | str j=>obtain⟨t',rfl⟩:=ry;exact PySem.EqNone.ne_none_str (aX I q (by simp))
  | _=>exact absurd (show false=true from hs) Bool.false_ne_true
 | bl i=>
  cases rx
  cases y with
  | non=>cases ry;exact PySem.EqNone.ne_bool_none (aX I q (by simp))
  | bl j=>cases ry;exact ne_bool (aX I q (congrArg not zF))
  | str j=>obtain⟨t',rfl⟩:=ry;exact PySem.EqMixed.ne_bool_str (aX I q (by simp))
  | _=>exact absurd (show false=true from hs) Bool.false_ne_true
 | int i=>
  obtain⟨t,rfl⟩:=rx
  cases y with
  | non=>cases ry;exact PySem.EqNone.ne_int_none (aX I q (by simp))
  | int j=>obtain⟨t',rfl⟩:=ry;exact ne_int (aX I q (congrArg not wX))
  | str j=>obtain⟨t',rfl⟩:=ry;exact PySem.EqMixed.ne_int_str (aX I q (by simp))
  | _=>exact absurd (show false=true from hs) Bool.false_ne_true
 | str i=>
  obtain⟨t,rfl⟩:=rx
  cases y with
  | non=>cases ry;exact PySem.EqNone.ne_str_none (aX I q (by simp))
  | bl j=>cases ry;exact PySem.EqMixed.ne_str_bool (aX I q (by simp))
  | int j=>obtain⟨t',rfl⟩:=ry;exact PySem.EqMixed.ne_str_int (aX I q (by simp))
  | str j=>obtain⟨t',rfl⟩:=ry;exact ne_str (aX I q (congrArg not wY))
  | _=>exact absurd (show false=true from hs) Bool.false_ne_true
 | byt i=>
  obtain⟨t,rfl⟩:=rx
  cases y with
  | byt j=>obtain⟨t',rfl⟩:=ry;exact PySem.W.ne_bytes (aX I q (congrArg not wZ))
  | _=>exact absurd (show false=true from hs) Bool.false_ne_true
 | _=>cases y <;> exact absurd (show false=true from hs) Bool.false_ne_true
theorem MJ:OpR X (compareOp .Lt) (rI0 λi j=>.bl (decide (i < j))):=Jk λ_ _ _ _ _ _ _ q=>lt_int q
theorem MK:OpR X (compareOp .Gt) (rI0 λi j=>.bl (decide (j < i))):=Jk λ_ _ _ _ _ _ _ q=>gt_int q
theorem zG:OpR X (compareOp .In) (λx y H Q=>∃ i j,x=.str i/\y=.str j/\Q (.bl (!(Builtin.Str.occurrences j i 0 j.length 1).isEmpty)) H):=by
 intro pins s σ H x y v u Q I rx ry h
 obtain⟨i,j,rfl,rfl,q⟩:=h
 obtain⟨t,rfl⟩:=rx
 obtain⟨t',rfl⟩:=ry
 exact in_str (aX I q rfl)
theorem Js:OpR X (compareOp .Is) (λx y H Q=>y=.non/\Q (.bl (decide (x=.non))) H):=by
 intro pins s σ H x y v u Q I rx ry h
 obtain⟨rfl,q⟩:=h
 cases ry
 refine is_none_gen (aX I q ?_)
 cases x <;> first
  | (cases rx;rfl)
  | (obtain⟨t,rfl⟩:=rx;rfl)
theorem Gh:OpR X (compareOp .IsNot) (λx y H Q=>y=.non/\Q (.bl (!decide (x=.non))) H):=by
 intro pins s σ H x y v u Q I rx ry h
 obtain⟨rfl,q⟩:=h
 cases ry
 refine isnot_none_gen (aX I q ?_)
 cases x <;> first
  | (cases rx;rfl)
  | (obtain⟨t,rfl⟩:=rx;rfl)
theorem OpR.or {f:Value->Value->Sem Value}{r r':R2}(h:OpR X f r) (h':OpR X f r'):OpR X f (λx y H Q=>r x y H Q\/r' x y H Q):=by
 intro pins s σ H x y v u Q I rx ry q
 rcases q with q | q
 ·exact h pins s σ H x y v u Q I rx ry q
 ·exact h' pins s σ H x y v u Q I rx ry q
theorem lU (b:Expr){op:CmpOp}(h:op≠.In:=by decide) (h2:op≠.NotIn:=by decide):behindInMarks op b=false:=by
 have e1:(op == CmpOp.In)=false:=by cases op <;> first | rfl | exact absurd rfl h
 have e2:(op == CmpOp.NotIn)=false:=by cases op <;> first | rfl | exact absurd rfl h2
 cases b <;> simp[behindInMarks,e1,e2]
theorem Gi {op:CmpOp}{r:R2}(ho:OpR X (compareOp op) r) (ha:PE X a ta) (hb:PE X b tb) (hm:behindInMarks op b=false):PE X (.Compare a [op] [b] pos) (tOp r ta tb):=by
 intro pins s σ H Q I h
 exact wpAny_Compare1 (Ce ha hb I h λv u s2 x y H2 I2 rx ry q=>ho pins s2 σ H2 x y v u Q I2 rx ry q) hm
def MN (t:TE):TT:=fun σ H Q=>t σ H λx H'=>∃ k,x=.bl k/\Q k H'
theorem Gj {op:CmpOp}{r:R2}(ho:OpR X (compareOp op) r) (ha:PE X a ta) (hb:PE X b tb) (hm:behindInMarks op b=false):PT X (.Compare a [op] [b] pos) (MN (tOp r ta tb)):=by
 intro pins s σ H Q I h
 refine wpAny_isTrue_Compare1 (thn (ha pins s σ H _ I h) λv s1 ⟨x,H1,I1,r1,q1⟩=>thn (hb pins s1 σ H1 _ I1 q1) λu s2 ⟨y,H2,I2,r2,q2⟩=>
  thn (ho pins s2 σ H2 x y v u _ I2 r1 r2 q2) λc s3 ⟨z,H3,I3,r3,k,e,q3⟩=>?_) hm
 subst e
 cases r3
 exact wpAny_truthy_bool ⟨H3,I3,q3⟩
theorem lV:(sizeLine:Nat) < 2 ^ 63:=by rw[sizeLine_eq];decide
theorem ym:OpR X (binaryOp .Add) (λx y H Q=>∃ i j,x=.str i/\y=.str j/\i.length+j.length<=sizeLine/\Q (.str (i++j)) H):=by
 intro pins s σ H x y v u Q I rx ry h
 obtain⟨i,j,rfl,rfl,hz,q⟩:=h
 obtain⟨t,rfl⟩:=rx
 obtain⟨t',rfl⟩:=ry
 exact add_str (λt' tk=>⟨.str (i++j),H,I.tok _,⟨_,rfl⟩,q⟩) hz
theorem vals1 {x:V}{us:List Value}(r:Vals [x] us):∃ u,us=[u]/\RelV x u:=by
 cases r with
 | cons r1 r2=>cases r2;exact⟨_,rfl,r1⟩
theorem vals2 {x y:V}{us:List Value}(r:Vals [x,y] us):∃ u w',us=[u,w']/\RelV x u/\RelV y w':=by
 cases r with
 | cons r1 r2=>
  cases r2 with
  | cons r3 r4=>cases r4;exact⟨_,_,rfl,r1,r3⟩
theorem zH:CallR X (.type "int") (λxs H Q=>(∃ i,xs=[.int i]/\Q (.int i) H)\/∃ k,xs=[.bl k]/\Q (.int (if k then 1 else 0)) H):=by
 intro pins s σ H xs us Q I r h
 rcases h with ⟨i,rfl,q⟩ | ⟨k,rfl,q⟩
 ·obtain⟨u,rfl,t,rfl⟩:=vals1 r
  exact call_int_int ⟨.int i,H,I,⟨_,rfl⟩,q⟩
 ·obtain⟨u,rfl,r1⟩:=vals1 r
  cases r1
  exact call_int_bool ⟨.int (if k then 1 else 0),H,I.tok _,⟨_,rfl⟩,q⟩
end
end L2
namespace L2
open PySem PySem.Spec PyProof.Rows
structure ObjM (h:Heap) (x dx C:Addr) (mA:Str->Option Value):Prop where
 obj:h.get? x=some (PySem.W.instObj C dx)
 ns:h.Ns1 dx mA
 ne:dx≠x
theorem zJ {h:Heap}{dx:Addr}{mA:Str->Option Value}(n:h.Ns1 dx mA):∃ od,h.get? dx=some od/\∀ name,PySem.W.lookIn name od=some (mA name):=by
 obtain⟨o,es,ep,ho,hd,hk,_,hm⟩:=n
 refine⟨o,ho,λname=>?_⟩
 have e:=hm name
 unfold nsFind findBy at e
 rw[← Array.find?_toList] at e
 unfold PySem.W.lookIn
 rw[hd]
 dsimp only
 split
 ·rename_i y q
  rw[q] at e
  exact congrArg some e
 ·rename_i q
  rw[q] at e
  have a:es.toList.any (·.refKey)=false:=by
   rw[List.any_eq_false]
   intro y hy
   obtain⟨z,t,hkey⟩:=hk y (Array.mem_toList_iff.mp hy)
   simp[DictEntry.refKey,hkey]
  have a':¬ es.toList.any (·.refKey)=true:=by rw[a];exact Bool.false_ne_true
  rw[if_neg a']
  exact congrArg some e
theorem ObjM.look {h:Heap}{x dx C:Addr}{mA:Str->Option Value}(I:ObjM h x dx C mA):∃ od,PySem.W.InstAt h x (PySem.W.instObj C dx) C (some od)/\∀ name,PySem.W.lookIn name od=some (mA name):=
 let ⟨od,ho,hl⟩:=zJ I.ns
 ⟨od,⟨I.obj,rfl,rfl,ho⟩,hl⟩
section
variable {prog:Program}{w:World}{A:Around}{E:Value->Shared->Prop}{s:Shared}{K:PySem.W.Frag}{x dx C f:Addr}{mA:Str->Option Value}{name:Str}{v:Value}
end
def Ci (f:Str) (v:V):List (Str×V)->List (Str×V)
 | []=>[(f,v)]
 | (g,x)::r=>if g=f then (g,v)::r else (g,x)::Ci f v r
theorem RelO.some_of {v:V}{o:Option Value}(r:RelO (some v) o):∃ u,o=some u/\RelV v u:=by
 cases o with
 | none=>exact(show False from r).elim
 | some u=>exact⟨u,rfl,r⟩
section
variable {P:Program}{w:World}{H H':Hp}{h h':Heap}{a C dx:Addr}{fs fs':List (Str×V)}
theorem Gk (hok:HOk P w H h) (e:H a=some (.ins C dx fs)):∃ mA,ObjM h a dx C mA/\(∀ f,RelO (fs.lookup f) (mA f))/\PySem.Within mA (fs.map (·.1))/\fs.length<=1000/\H dx=some (.own a):=by
 obtain⟨d,z,ne,ob,mA,n,r,q⟩:=(show ObjOk P w H h a (.ins C dx fs) from hok a _ e)
 exact⟨mA,⟨ob,n,ne⟩,r,q,z,d⟩
end
structure Cls (K:PySem.W.Frag) (C:Addr):Prop where
 pg:PySem.W.plainGet K C Str.empty=true
 hd:PySem.W.hasDictIn K C=true
 po:PySem.W.plainOver K C=true
 sa:PySem.W.findIn K (.ref C) "__setattr__" = some (some (.builtin "object.__setattr__"))
theorem Cls.get {K:PySem.W.Frag}{C:Addr}(c:Cls K C) (f:Str):PySem.W.plainGet K C f=true:=c.pg
section
variable {X:Cx}{pins:List (Addr×Obj)}{σ:St}{H:Hp}{s:Shared}{a C dx:Addr}{fs:List (Str×V)}{f:Str}{v:V}{A:Around}{E:Value->Shared->Prop}
theorem Inv.made (I:Inv X pins σ H s):Inv X pins σ (upd (upd H s.heap.objs.size (.own (s.heap.objs.size+1))) (s.heap.objs.size+1) (.ins C s.heap.objs.size []))
  { s with heap:=(s.heap.push PySem.W.emptyDict).push (PySem.W.instObj C s.heap.objs.size) }:=by
 have e1:(s.heap.push PySem.W.emptyDict).get? s.heap.objs.size=some PySem.W.emptyDict:=Heap.get?_push_size s.heap rfl
 have e2:((s.heap.push PySem.W.emptyDict).push (PySem.W.instObj C s.heap.objs.size)).get? (s.heap.objs.size+1)=some (PySem.W.instObj C s.heap.objs.size):=by
  have:=Heap.get?_push_size (s.heap.push PySem.W.emptyDict) (o:=PySem.W.instObj C s.heap.objs.size) rfl
  rwa [Heap.size_push] at this
 have e3:(s.heap.push PySem.W.emptyDict).Ns s.heap.objs.size (λ_=>none):=⟨PySem.W.emptyDict,#[],_,e1,rfl,(λe he=>absurd he (by simp)),λ_=>rfl⟩
 have I1:=I.laid (a:=s.heap.objs.size) (o:=.own (s.heap.objs.size+1)) (h':=s.heap.push PySem.W.emptyDict) (t':=s.toks) (λb u q=>Heap.get?_push_of_some _ q) (Nat.le_refl _) ⟨_,e1⟩
 refine I1.laid (a:=s.heap.objs.size+1) (o:=.ins C s.heap.objs.size []) (t':=s.toks) (λb u q=>Heap.get?_push_of_some _ q) (Nat.le_of_eq (Heap.size_push _ _)) ?_
 have ne:s.heap.objs.size≠s.heap.objs.size+1:=Nat.ne_of_lt (Nat.lt_succ_self _)
 refine⟨by rw[aH ne,aP],Nat.zero_le _,ne,e2,λ_=>none,(Heap.Ns1.of_empty e3).at λo q=>Heap.get?_push_of_some _ q,λ_=>True.intro,λy hy=>absurd rfl hy⟩
end
section
variable {X:Cx}{o e value:Expr}{f:Str}{pos pos' tpos:Pos}{ta tv:TE}
end
section
variable {X:Cx}{pins:List (Addr×Obj)}{σ:St}{H:Hp}{s:Shared}{A:Around}{E:Value->Shared->Prop}{Q:Value->Shared->Prop}{c:Value}{b:Bool}
inductive TyOf (K:PySem.W.Frag) (H:Hp):V->Value->Prop where
 | non:TyOf K H .non (.type "NoneType")
 | bl (x:Bool):TyOf K H (.bl x) (.type "bool")
 | int (i:Int):TyOf K H (.int i) (.type "int")
 | str (x:Str):TyOf K H (.str x) (.type "str")
 | flt (x:UInt64):TyOf K H (.flt x) (.type "float")
 | lst {a:Addr}{xs:List V}(e:H a=some (.lst xs)):TyOf K H (.ref a) (.type "list")
 | frz {a:Addr}{o:Obj}{xs:List V}(e:H a=some (.frz o (.lst xs))):TyOf K H (.ref a) (.type "list")
 | tup {a:Addr}{xs:List V}(e:H a=some (.tup xs)):TyOf K H (.ref a) (.type "tuple")
 | dK {a:Addr}{kvs:List (Key×V)}(e:H a=some (.dK kvs)):TyOf K H (.ref a) (.type "dict")
 | dT {a:Addr}{kvs:List (List Key×V)}(e:H a=some (.dT kvs)):TyOf K H (.ref a) (.type "dict")
 | ins {a C dx:Addr}{fs:List (Str×V)}(e:H a=some (.ins C dx fs)) (cl:Cls K C) (ha:PySem.W.findIn K (.ref C) "__class__" = some (some (.builtin "object.__class__")))
   (hn:PySem.W.specialIn K (.builtin "object.__class__") "__get__" = some (some (.builtin "getset_descriptor.__get__"))) (htk:PySem.W.takesIn K (.builtin "object.__class__")=some true)
   (hm:PySem.W.mroIn K C (.type "object")=some true):TyOf K H (.ref a) (.ref C)
theorem zK {x:V}{u t:Value}(I:Inv X pins σ H s) (rx:RelV x u) (ty:TyOf X.K H x t) (e:PySem.W.kitOne X.K t c=some b) (h:∀ tk,Q (.bool b) { s with toks:=tk }):
  wpAny (model X.prog X.w) A (call (.builtin "isinstance") [u,c]) Q E s:=by
 cases ty with
 | non=>cases (show u=Value.none from rx);exact PySem.W.kia_one PySem.W.kitx_none I.kIn True.intro e (λz=>nomatch z) h
 | bl y=>cases (show u=Value.bool y from rx);exact PySem.W.kia_one PySem.W.kitx_bool I.kIn True.intro e (λz=>nomatch z) h
 | int i=>obtain⟨t,q⟩:=(show ∃ t,u=Value.int i t from rx);cases q;exact PySem.W.kia_one PySem.W.kitx_int I.kIn True.intro e (λz=>nomatch z) h
 | str y=>obtain⟨t,q⟩:=(show ∃ t,u=Value.str y t from rx);cases q;exact PySem.W.kia_one PySem.W.kitx_str I.kIn True.intro e (λz=>nomatch z) h
 | flt y=>obtain⟨t,q⟩:=(show ∃ t,u=Value.float y t from rx);cases q;exact PySem.W.kia_one PySem.W.kitx_float I.kIn True.intro e (λz=>nomatch z) h
 | @lst a xs ea=>
  cases (show u=Value.ref a from rx)
  obtain⟨_,_,n,_,h1⟩:=(show ObjOk X.prog X.w H s.heap a (.lst xs) from I.hok a _ ea)
  exact PySem.W.kia_one PySem.W.kitx_list I.kIn ⟨_,h1,rfl⟩ e (λz=>nomatch z) h
 | @frz a ob xs ea=>
  cases (show u=Value.ref a from rx)
  obtain⟨_,_,_,n,_,h1⟩:=(show ObjOk X.prog X.w H s.heap a (.frz ob (.lst xs)) from I.hok a _ ea)
  exact PySem.W.kia_one PySem.W.kitx_list I.kIn ⟨_,h1,rfl⟩ e (λz=>nomatch z) h
 | @tup a xs ea=>
  cases (show u=Value.ref a from rx)
  obtain⟨_,_,_,p⟩:=(show ObjOk X.prog X.w H s.heap a (.tup xs) from I.hok a _ ea)
  obtain⟨o,h1,h2,_⟩:=p
  exact PySem.W.kia_one PySem.W.kitx_tuple I.kIn ⟨o,h1,h2⟩ e (λz=>nomatch z) h
 | @dK a kvs ea=>
  cases (show u=Value.ref a from rx)
  obtain⟨_,_,vs,_,p⟩:=(show ObjOk X.prog X.w H s.heap a (.dK kvs) from I.hok a _ ea)
  obtain⟨o,es,ep,h1,h2,_⟩:=p
  exact PySem.W.kia_one PySem.W.kitx_dict I.kIn ⟨o,h1,h2.1⟩ e (λz=>nomatch z) h
 | @dT a kvs ea=>
  cases (show u=Value.ref a from rx)
  obtain⟨_,_,xs,_,o,es,ep,h1,h2,_⟩:=(show ObjOk X.prog X.w H s.heap a (.dT kvs) from I.hok a _ ea)
  exact PySem.W.kia_one PySem.W.kitx_dict I.kIn ⟨o,h1,h2.1⟩ e (λz=>nomatch z) h
 | @ins a C dx fs ea cl ha hn htk hm=>
  cases (show u=Value.ref a from rx)
  obtain⟨mA,O,_⟩:=Gk I.hok ea
  obtain⟨od,J,_⟩:=O.look
  exact PySem.W.kia_one (PySem.W.kitx_own (cl.get _) cl.hd ha hn htk hm) I.kIn J e (λz=>nomatch z) h
end
end L2
namespace L2
open PySem PySem.Spec PyProof.Rows
structure Room (k:Nat) (A:Around):Prop where
 hd:A.handled=none
 dp:A.depth+3*k+5 < recursionLimit
 un:A.units+16*k+200 < cLine
theorem Room.mono {j k:Nat}{A:Around}(r:Room k A) (h:j<=k):Room j A:=⟨r.hd,by have:=r.dp;omega,by have:=r.un;omega⟩
theorem Room.deeper {k:Nat}{A:Around}(r:Room (k+1) A) (env:Env):Room k (A.deeper env):=
 ⟨r.hd,by have:=r.dp;show A.depth+1+3*k+5 < _;omega,by have:=r.un;show A.units+3+16*k+200 < _;omega⟩
theorem Room.in1 {k:Nat}{A:Around}(r:Room (k+1) A):Room k A.in1:=
 ⟨r.hd,by have:=r.dp;show A.depth+3*k+5 < _;omega,by have:=r.un;show A.units+1+16*k+200 < _;omega⟩
theorem Room.depth {k:Nat}{A:Around}(r:Room k A):A.depth < recursionLimit:=by have:=r.dp;omega
theorem Room.units {k:Nat}{A:Around}(r:Room k A):A.units+64 < cLine:=by have:=r.un;omega
def Cj:TA:=λ_ H Q=>Q [] H
def Ew (ta:TE) (tr:TA):TA:=fun σ H Q=>ta σ H λx H1=>tr σ H1 λxs H2=>Q (x::xs) H2
section
variable {X:Cx}{e:Expr}{es:List Expr}{te:TE}{t:TA}{pos:Pos}
theorem cT:PA X [] Cj:=λ_ _ _ _ H Q I h=>Calls.spliced_nil ⟨[],H,I,.nil,h⟩
theorem bU (ha:PE X e te) (hr:PA X es t) (hs:starEach (e::es) X.env=(false,eval e X.env)::starEach es X.env:=by rfl):PA X (e::es) (Ew te t):=by
 intro pos pins s σ H Q I h
 rw[hs]
 show wpAny _ _ (spliced ((false,eval e X.env)::backTo pos (starEach es X.env))) _ _ s
 refine Calls.spliced_cons (thn (ha pins s σ H _ I h) λu s1 ⟨x,H1,I1,r1,q1⟩=>?_)
 exact thn (hr pos pins s1 σ H1 _ I1 q1) λus s2 ⟨xs,H2,I2,r2,q2⟩=>⟨x::xs,H2,I2,.cons r1 r2,q2⟩
def O6 (t:TA):TE:=fun σ H Q=>t σ H λxs H1=>xs.length<=sizeLine/\∀ p,H1 p=none->Q (.ref p) (upd H1 p (.tup xs))
def Jt (t:TA):TE:=fun σ H Q=>t σ H λxs H1=>xs.length<=sizeLine/\∀ p,H1 p=none->Q (.ref p) (upd H1 p (.lst xs))
theorem Ju {x1}(h:PA X es t):PE X (.Tuple es x1 pos) (O6 t):=by
 intro pins s σ H Q I hq
 refine wpAny_Tuple_spliced (thn (h pos pins s σ H _ I hq) λus s1 ⟨xs,H1,I1,r,z,q⟩=>⟨by rw[← r.length];exact z,?_⟩)
 have hf:H1 s1.heap.objs.size=none:=I1.hok.fresh (Nat.le_refl _)
 refine⟨.ref s1.heap.objs.size,upd H1 s1.heap.objs.size (.tup xs),I1.laid (t':=s1.toks) (λb u e=>Heap.get?_push_of_some _ e) (Nat.le_refl _) ?_,rfl,q _ hf⟩
 exact⟨z,us,r,⟨_,Heap.get?_push_size _ rfl,rfl,_,rfl⟩⟩
theorem uJ (h:PA X es t):PE X (.List es pos) (Jt t):=by
 intro pins s σ H Q I hq
 refine wpAny_List_spliced (thn (h pos pins s σ H _ I hq) λus s1 ⟨xs,H1,I1,r,z,q⟩=>⟨by rw[← r.length];exact z,?_⟩)
 have hf:H1 s1.heap.objs.size=none:=I1.hok.fresh (Nat.le_refl _)
 refine⟨.ref s1.heap.objs.size,upd H1 s1.heap.objs.size (.lst xs),I1.laid (t':=s1.toks) (λb u e=>Heap.get?_push_of_some _ e) (Nat.le_refl _) ?_,rfl,q _ hf⟩
 exact⟨z,us,0,r,Heap.get?_push_size _ rfl⟩
end
abbrev Sp:=List V->Hp->VK->XK->Prop
abbrev CXT:=List Env->Hp->Shared->XK->Value->Shared->Prop
structure Env0 (P:Program) (w:World) (K:PySem.W.Frag) (mg:Str->Option Value) (base:Heap) (A:Around) (outer:List Env) (s:Shared) (H:Hp):Prop where
 frames:A.frames=some outer
 mod:Mod K mg base
 bs:∀ b o,base.get? b=some o->s.heap.get? b=some o/\H b=none
 bsz:base.objs.size<=s.heap.objs.size
 funs:s.heap.FunFrames base outer
 frf:∀ b∈frs outer,H b=none
 hok:HOk P w H s.heap
 bare:AllBare s.gens
def CE (outer:List Env) (P:Program) (w:World) (H:Hp) (s:Shared) (Q:VK) (u:Value) (s':Shared):Prop:=
 ∃ v H',s'.os=s.os/\AllBare s'.gens/\Un (frs outer) [] H H' s.heap s'.heap/\HOk P w H' s'.heap/\RelV v u/\Q v H'
def CR (CX:CXT) (outer:List Env) (P:Program) (w:World) (H:Hp) (s:Shared) (Q:VK) (E:XK) (r:Result) (s':Shared):Prop:=
 match r with
 | .ok (.ret u)=>CE outer P w H s Q u s'
 | .ok _=>False
 | .error e=>CX outer H s E e s'
structure FnOk (P:Program) (w:World) (K:PySem.W.Frag) (mg:Str->Option Value) (base:Heap) (CX:CXT) (k:Nat) (f:Addr) (fd:FuncData) (ps:List Str) (sp:Sp):Prop where
 len:∀ vs H Q E,sp vs H Q E->vs.length=ps.length
 run:∀ (A:Around) (outer:List Env) (s:Shared) (H:Hp) (args:Args) (us:List Value) (vs:List V) (Q:VK) (E:XK),Room k A->Env0 P w K mg base A outer s H->BindsTo s fd args (ps.zip us)->Vals vs us->sp vs H Q E->
  codeAny (model P w) A (.call (.ref f) args) (CR CX outer P w H s Q E) s
theorem FnOk.mono {P:Program}{w:World}{K:PySem.W.Frag}{mg:Str->Option Value}{base:Heap}{CX:CXT}{j k:Nat}{f:Addr}{fd:FuncData}{ps:List Str}{sp:Sp}(F:FnOk P w K mg base CX j f fd ps sp) (h:j<=k):
  FnOk P w K mg base CX k f fd ps sp:=⟨F.len,λA outer s H args us vs Q E hr=>F.run A outer s H args us vs Q E (hr.mono h)⟩
theorem FnOk.imp {P:Program}{w:World}{K:PySem.W.Frag}{mg:Str->Option Value}{base:Heap}{CX:CXT}{k:Nat}{f:Addr}{fd:FuncData}{ps:List Str}{sp sp':Sp}(F:FnOk P w K mg base CX k f fd ps sp)
  (h:∀ vs H Q E,sp' vs H Q E->sp vs H Q E):FnOk P w K mg base CX k f fd ps sp':=
 ⟨λvs H Q E q=>F.len vs H Q E (h _ _ _ _ q),λA outer s H args us vs Q E hr he hb hv hs=>F.run A outer s H args us vs Q E hr he hb hv (h _ _ _ _ hs)⟩
theorem Env0.in1 {P:Program}{w:World}{K:PySem.W.Frag}{mg:Str->Option Value}{base:Heap}{A:Around}{outer:List Env}{s:Shared}{H:Hp}(e:Env0 P w K mg base A outer s H):
  Env0 P w K mg base A.in1 outer s H:=⟨e.frames,e.mod,e.bs,e.bsz,e.funs,e.frf,e.hok,e.bare⟩
section
variable {X:Cx}{pins:List (Addr×Obj)}{σ:St}{H:Hp}{s s':Shared}
theorem Inv.env0 (I:Inv X pins σ H s):Env0 X.prog X.w X.K X.mg X.base X.A X.stack s H:=
 ⟨I.ok.frames,I.ok.mod,I.bs,Nat.le_trans I.ok.bsz I.sz,I.stack,I.stkFree,I.hok,I.bare⟩
theorem Inv.after {Q:VK}{u:Value}(I:Inv X pins σ H s) (h:CE X.stack X.prog X.w H s Q u s'):EP X pins σ Q u s':=by
 obtain⟨v,H',os,bare,un,hok,r,q⟩:=h
 obtain⟨hh,g,d,t,os'⟩:=s'
 obtain rfl:os'=s.os:=os
 exact⟨v,H',I.call (h':=hh) (g':=g) (d':=d) (t':=t) (ch:=[]) un hok bare (λb z=>absurd z (by simp)),r,q⟩
end
def Ey (sp:Sp) (dvs:List V) (E:XK) (t:TA):TE:=fun σ H Q=>t σ H λvs H1=>sp (vs++dvs) H1 Q E
def Binds (K:PySem.W.Frag) (fd:FuncData) (ps:List Str) (ds:List Value):Prop:=
 ∀ (s:Shared) (us:List Value),K.In s.heap->(us++ds).length=ps.length->BindsTo s fd ⟨us,[]⟩ (ps.zip (us++ds))
theorem Binds.all {K:PySem.W.Frag}{fd:FuncData}{ps:List Str}(h:∀ us:List Value,us.length=ps.length->bindArgs fd ⟨us,[]⟩=pure (ps.zip us)):Binds K fd ps []:=λs us _ hl=>by
 rw[List.append_nil] at hl ⊢
 exact .of_eq (h us hl)
def uK (CX:CXT) (X:Cx) (E:XK):Prop:=∀ (pins:List (Addr×Obj)) (σ:St) (H:Hp) (s:Shared) (e:Value) (s':Shared),Inv X pins σ H s->CX X.stack H s E e s'->X.xe e s'
section
variable {X:Cx}{CX:CXT}{k:Nat}{f C:Addr}{fd:FuncData}{ps:List Str}{sp:Sp}{dvs:List V}{ds:List Value}{E:XK}{x m:Str}{p pos apos:Pos}{e o:Expr}{es:List Expr}{ta:TE}{t:TA}
theorem Jv {pins:List (Addr×Obj)}{σ:St}{H:Hp}{s:Shared}{Q:VK}{us:List Value}{vs:List V}(F:FnOk X.prog X.w X.K X.mg X.base CX k f fd ps sp) (hr:Room k X.A) (hb:Binds X.K fd ps ds) (hd:Vals dvs ds) (hx:uK CX X E)
  (I:Inv X pins σ H s) (r:Vals vs us) (h:sp (vs++dvs) H Q E):wpAny (model X.prog X.w) X.A (call (.ref f) us) (EP X pins σ Q) X.xe s:=by
 have r2:Vals (vs++dvs) (us++ds):=r.append hd
 have hl:(us++ds).length=ps.length:=by rw[← r2.length];exact F.len _ _ _ _ h
 refine wpAny_call (codeAny_mono (F.run X.A X.stack s H ⟨us,[]⟩ (us++ds) (vs++dvs) Q E hr I.env0 (hb s us I.kIn hl) r2 h) λr s' hq=>?_)
 cases r with
 | error e=>exact hx pins σ H s e s' I hq
 | ok fl=>
  cases fl with
  | ret u=>exact I.after hq
  | next=>exact False.elim hq
  | brk=>exact False.elim hq
  | cont=>exact False.elim hq
theorem Gm (F:FnOk X.prog X.w X.K X.mg X.base CX k f fd ps sp) (hr:Room k X.A) (hg:Gl X x) (hm:X.mg x=some (.ref f)) (hk:PySem.W.keepIn X.K (.ref f)=true) (hb:Binds X.K fd ps ds) (hd:Vals dvs ds) (hx:uK CX X E)
  (ha:PA X (e::es) t) (hdb:(x == ("__debug__" : Str))=false:=by decide) (he:starEach (e::es) X.env=(false,eval e X.env)::starEach es X.env:=by rfl) (hpl:(backTo pos (starEach es X.env)).any (·.1)=false:=by rfl):
  PE X (.Call (.Name x p) (e::es) [] pos) (Ey sp dvs E t):=by
 intro pins s σ H Q I h
 refine wpAny_Call_Name_kw (wU I hg hm ?_ hdb)
 refine PySem.W.callWith_K (h₀:=X.base) I.ok.mod.kin hk (thn (ha pos pins s σ H _ I h) λus s1 ⟨vs,H1,I1,r,q⟩=>⟨I1.kIn,?_⟩) he hpl
 exact Jv F hr hb hd hx I1 r q
end
section
variable {X:Cx}{CX:CXT}{k:Nat}{f C:Addr}{fd:FuncData}{ps ks:List Str}{sp:Sp}{E:XK}{x m:Str}{p pos apos kpos:Pos}{e o:Expr}{es:List Expr}{kws:List Keyword}{te ta:TE}{t tk:TA}{nm:Option Str}
variable {g:List Value->List Value->List Value}{gV:List V->List V->List V}
end
structure FnScope (N P:List Str) (sc:Scope):Prop where
 kind:sc.kind=.function
 co:sc.isCoroutine=false
 gen:sc.isGenerator=false
 nd:N.Nodup
 pre:N.take P.length=P
 par:∀ x∈P,sc.names.lookup x=some .local\/sc.names.lookup x=some .cell
 nofree:∀ y∈sc.names,y.2≠.free
theorem sG {kindOf:Str->Option NameKind}{x:Str}:∀ {binds:List (Str×Value)}{m:Str->Option Value},(∀ v,(x,v)∉binds)->bindL kindOf binds m x=m x
 | [],_,_=>rfl
 | (n,v)::r,m,h=>by
  unfold bindL
  rw[sG λw hw=>h w (List.mem_cons_of_mem _ hw)]
  split
  ·have:x≠n:=by rintro rfl;exact h v List.mem_cons_self
   simp[this]
  ·rfl
theorem sH {kindOf:Str->Option NameKind}{x:Str}:∀ {binds:List (Str×Value)}{m:Str->Option Value},(∀ v,(x,v)∉binds)->bindC kindOf binds m x=m x
 | [],_,_=>rfl
 | (n,v)::r,m,h=>by
  unfold bindC
  rw[sH λw hw=>h w (List.mem_cons_of_mem _ hw)]
  split
  ·rfl
  ·have:x≠n:=by rintro rfl;exact h v List.mem_cons_self
   simp[this]
theorem sI {kindOf:Str->Option NameKind}{x:Str}{v:Value}:∀ {P:List Str}{vs:List Value}{i:Nat}{m:Str->Option Value},P.Nodup->P[i]?=some x->vs[i]?=some v->kindOf x=some .local->
  bindL kindOf (P.zip vs) m x=some v
 | [],_,_,_,_,h,_,_=>by simp at h
 | _::_,[],_,_,_,_,h,_=>by simp at h
 | p::P,w::vs,0,m,nd,h1,h2,hk=>by
  simp at h1 h2;subst h1;subst h2
  show bindL kindOf ((p,w)::P.zip vs) m p=_
  unfold bindL
  rw[sG λv hv=>(List.nodup_cons.mp nd).1 (List.of_mem_zip hv).1,if_pos hk]
  simp
 | p::P,w::vs,i+1,m,nd,h1,h2,hk=>by
  show bindL kindOf ((p,w)::P.zip vs) m x=_
  unfold bindL
  exact sI (i:=i) (List.nodup_cons.mp nd).2 (by simpa using h1) (by simpa using h2) hk
theorem sJ {kindOf:Str->Option NameKind}{x:Str}{v:Value}:∀ {P:List Str}{vs:List Value}{i:Nat}{m:Str->Option Value},P.Nodup->P[i]?=some x->vs[i]?=some v->kindOf x≠some .local->
  bindC kindOf (P.zip vs) m x=some v
 | [],_,_,_,_,h,_,_=>by simp at h
 | _::_,[],_,_,_,_,h,_=>by simp at h
 | p::P,w::vs,0,m,nd,h1,h2,hk=>by
  simp at h1 h2;subst h1;subst h2
  show bindC kindOf ((p,w)::P.zip vs) m p=_
  unfold bindC
  rw[sH λv hv=>(List.nodup_cons.mp nd).1 (List.of_mem_zip hv).1,if_neg hk]
  simp
 | p::P,w::vs,i+1,m,nd,h1,h2,hk=>by
  show bindC kindOf ((p,w)::P.zip vs) m x=_
  unfold bindC
  exact sJ (i:=i) (List.nodup_cons.mp nd).2 (by simpa using h1) (by simpa using h2) hk
def start (N:List Str) (vs:List V):St:=vs.map some++List.replicate (N.length - vs.length) none
def pJ (CX:CXT) (P:Program) (w:World) (K:PySem.W.Frag) (mg:Str->Option Value) (base:Heap) (N:List Str) (qual:Str) (scope:Scope) (f:Addr) (cd:Value) (A:Around) (outer:List Env) (s:Shared) (H:Hp) (E:XK):Cx where
 prog:=P
 w:=w
 K:=K
 mg:=mg
 base:=base
 A:=A.deeper (envOfC qual scope s.heap.objs.size f cd)
 N:=N
 s₀:=s
 H₀:=H
 env:=envOfC qual scope s.heap.objs.size f cd
 outer:=outer
 stack:=envOfC qual scope s.heap.objs.size f cd::outer
 ex:=[]
 calm:=true
 fn:=λ_=>true
 pn:=[]
 xe:=λe s'=>wpAny (model P w) (A.deeper (envOfC qual scope s.heap.objs.size f cd)) (leaving (envOfC qual scope s.heap.objs.size f cd) e) (λ_ s''=>CX outer H s E e s'') (λe' s''=>CX outer H s E e' s'') s'
theorem uL {sc:Scope}{n:Nat}{x:Str}(h:sc.names.lookup x=some .cell):∃ c,(cellsFrom n sc.names []).lookup x=some c:=by
 have q:=PySem.W.cellsFrom_some sc.names n [] (.inl h)
 exact Option.isSome_iff_exists.mp q
theorem zM {CX:CXT}{P:Program}{w:World}{K:PySem.W.Frag}{mg:Str->Option Value}{base:Heap}{N ps:List Str}{qual:Str}{scope:Scope}{f:Addr}{cd:Value}{A:Around}{outer:List Env}{s s1:Shared}{H:Hp}{E:XK}{us:List Value}{vs:List V}
  (S:FnScope N ps scope) (hd:A.handled=none) (e0:Env0 P w K mg base A outer s H) (hl:vs.length=ps.length) (r:Vals vs us)
  (x:InCallC s s.heap.objs.size (bindL (envOfC qual scope s.heap.objs.size f cd).kindOf (ps.zip us) λ_=>none) (cellsFrom (s.heap.objs.size+1) scope.names []) (bindC (envOfC qual scope s.heap.objs.size f cd).kindOf (ps.zip us) λ_=>none) s1):
  Inv (pJ CX P w K mg base N qual scope f cd A outer s H E) [] (start N vs) H s1:=by
 have hpl:ps.length<=N.length:=by have:=congrArg List.length S.pre;rw[List.length_take] at this;omega
 obtain⟨h1,tk,rfl,hk⟩:=x.done
 have noA:∀ b:Addr,b∉(pJ CX P w K mg base N qual scope f cd A outer s H E).ex:=λb z=>absurd (show b∈([]:List Addr) from z) (by simp)
 refine⟨⟨e0.mod,S.kind,rfl,rfl,Nat.le_refl _,λy z c h1 h2=>?_,λy hy=>?_,λy c _ h=>?_,λ_=>hd,Around.frames_deeper e0.frames,.inr ⟨rfl,rfl⟩,λb z=>absurd z (noA b),e0.bs,e0.bsz,λb _ _=>noA b,λb z=>absurd z (noA b),e0.funs,e0.frf⟩,
  rfl,e0.bare,Un.kept hk,⟨_,x.toInCall.ns,λi y v h1 h2 h3=>?_⟩,λy c h=>⟨_,x.cell y c h⟩,e0.hok.fresh (Nat.le_refl _),λy c h=>?_,λp hp=>absurd (show p∈([]:List (Addr×Obj)) from hp) (by simp),e0.hok.kept hk,?_⟩
 ·exact name_of_addr x.apart (PySem.mem_of_lookup h1) (PySem.mem_of_lookup h2)
 ·have hy:scope.names.lookup y=some .cell\/scope.names.lookup y=some .free:=hy
  rcases hy with hy | hy
  ·exact uL hy
  ·exact absurd rfl (S.nofree _ (PySem.mem_of_lookup hy))
 ·exact Nat.le_of_lt (x.above y c (PySem.mem_of_lookup h))
 ·have hi:i < vs.length:=by
   unfold start at h2
   by_cases hi:i < vs.length
   ·exact hi
   ·rw[List.getElem?_append_right (by simpa using hi)] at h2
    rw[List.getElem?_replicate] at h2
    split at h2 <;> cases h2
  have ha:vs[i]?=some v:=by
   unfold start at h2
   rw[List.getElem?_append_left (by simpa using hi),List.getElem?_map] at h2
   cases e:vs[i]? with
   | none=>rw[e] at h2;cases h2
   | some a=>rw[e] at h2;cases h2;rfl
  obtain⟨u,hu,rv⟩:=r.get ha
  have hp:ps[i]?=some y:=by
   rw[← S.pre,List.getElem?_take_of_lt (by omega)];exact h1
  have ndP:ps.Nodup:=by rw[← S.pre];exact S.nd.sublist (List.take_sublist _ _)
  refine⟨u,rv,?_⟩
  rcases S.par y (List.mem_of_getElem? hp) with k | k
  ·exact .inl ⟨k,sI ndP hp hu k⟩
  ·obtain⟨c,e⟩:=uL (n:=s.heap.objs.size+1) k
   refine .inr ⟨.inl k,c,e,?_⟩
   have q:=x.cell y c e
   rw[sJ ndP hp hu (by show scope.names.lookup y≠_;rw[k];decide)] at q
   exact q
 ·exact e0.hok.fresh (Nat.le_of_lt (x.above y c (PySem.mem_of_lookup h)))
 ·unfold start
  show _=N.length
  rw[List.length_append,List.length_map,List.length_replicate]
  omega
theorem MT {CX:CXT}{P:Program}{w:World}{K:PySem.W.Frag}{mg:Str->Option Value}{base:Heap}{k:Nat}{f:Addr}{name qual:Str}{params:Arguments}{body:List Stmt}{scope:Scope}{dV kV doc pm cdv ct oc:Value}{an od:Option Addr}
  {osl:Array (Option Value)}{N ps:List Str}{sp:Sp}(lk:K.lookup f=some ⟨oc,od,.func (PySem.W.fnOf name qual params body scope dV kV doc pm an cdv ct),osl⟩) (hcd:PySem.W.codeIn K cdv qual=true) (S:FnScope N ps scope)
  (len:∀ vs H Q E,sp vs H Q E->vs.length=ps.length)
  (hbody:∀ (A:Around) (outer:List Env) (s:Shared) (H:Hp) (vs:List V) (Q:VK) (E:XK),Room k (A.deeper (envOfC qual scope s.heap.objs.size f cdv))->sp vs H Q E->
   ∃ t,PSs (pJ CX P w K mg base N qual scope f cdv A outer s H E) body t/\t { nx:=λ_ H'=>Q .non H',rt:=Q } (start N vs) H):
  FnOk P w K mg base CX (k+1) f (PySem.W.fnOf name qual params body scope dV kV doc pm an cdv ct) ps sp:=by
 refine⟨len,λA outer s H args us vs Q E hr e0 hb r hsp=>?_⟩
 have hl:=len _ _ _ _ hsp
 have KX:K.In s.heap:=e0.mod.kin.keeps λb o e=>(e0.bs b o e).1
 have lim:s.heap.NoLimit:=e0.mod.nolimit.keeps λb o e=>(e0.bs b o e).1
 have hkind:∀ y∈ps.zip us,scope.names.lookup y.1=some .local\/(scope.names.lookup y.1=some .cell/\((cellsFrom (s.heap.objs.size+1) scope.names []).lookup y.1).isSome=true):=λ⟨n,v⟩ hy=>by
  rcases S.par n (List.of_mem_zip hy).1 with q | q
  ·exact .inl q
  ·exact .inr ⟨q,PySem.W.cellsFrom_some _ _ _ (.inl q)⟩
 refine codeAny_call_function hr.depth (KX _ _ lk) rfl S.co S.gen rfl (PySem.W.codeRec_of KX hcd) (hb _ _ _ _ ?_)
 refine wpAny_newFunctionEnv_cells S.kind hkind λenv he s1 x=>?_
 subst he
 refine⟨lim.keeps x.toInCall.keep,codeAny_func ?_⟩
 obtain⟨t,ht,hq⟩:=hbody A outer s H vs Q E (hr.deeper _) hsp
 have I:Inv (pJ CX P w K mg base N qual scope f cdv A outer s H E) [] (start N vs) H s1:=zM S hr.hd e0 hl r x
 refine wpAny_mono (ht [] s1 (start N vs) H _ I hq) (λfl s' hs=>?_) λe s' hs=>hs
 have fin:∀ {σ':St}{H':Hp}{v:V}{u:Value},Inv (pJ CX P w K mg base N qual scope f cdv A outer s H E) [] σ' H' s'->RelV v u->Q v H'->CE outer P w H s Q u s':=
  λ{σ' H' v u} J rv q=>⟨v,H',J.os,J.bare,J.base,J.hok,rv,q⟩
 cases fl with
 | ret u=>
  obtain⟨v,σ',H',J,rv,q⟩:=hs
  exact fin J rv q
 | next=>
  obtain⟨σ',H',J,q⟩:=hs
  exact fin (v:=V.non) (u:=Value.none) J rfl q
 | brk=>
  obtain⟨_,_,_,q⟩:=hs
  exact False.elim q
 | cont=>
  obtain⟨_,_,_,q⟩:=hs
  exact False.elim q
end L2
namespace L2
open PySem PySem.Spec PyProof.Rows
section
variable {X:Cx}{x:Str}{p pos:Pos}{e:Expr}{es:List Expr}{t:TA}{id T:String}{r:List V->Hp->VK->Prop}
def tCB (r:List V->Hp->VK->Prop) (t:TA):TE:=fun σ H Q=>t σ H λvs H1=>r vs H1 Q
theorem uM (hc:CallR X (.builtin id) r) (hg:Gl X x) (hm:X.mg x=none) (hv:bootBuiltins x=some (.builtin id)) (ha:PA X (e::es) t) (hn:x ≠ "__name__" := by decide) (hdb:(x == ("__debug__" : Str))=false:=by decide)
  (he:starEach (e::es) X.env=(false,eval e X.env)::starEach es X.env:=by rfl) (hpl:(backTo pos (starEach es X.env)).any (·.1)=false:=by rfl):PE X (.Call (.Name x p) (e::es) [] pos) (tCB r t):=by
 intro pins s σ H Q I h
 refine wpAny_Call_Name_kw (d_ I hg hm hv ?_ hn hdb)
 exact PyProof.Rows.callWith_builtin1 (thn (ha pos pins s σ H _ I h) λus s1 ⟨vs,H1,I1,r1,q1⟩=>hc pins s1 σ H1 vs us Q I1 r1 q1) he hpl
theorem zN (hc:CallR X (.type T) r) (hg:Gl X x) (hm:X.mg x=none) (hv:bootBuiltins x=some (.type T)) (ha:PA X (e::es) t) (hn:x ≠ "__name__" := by decide) (hdb:(x == ("__debug__" : Str))=false:=by decide)
  (he:starEach (e::es) X.env=(false,eval e X.env)::starEach es X.env:=by rfl) (hpl:(backTo pos (starEach es X.env)).any (·.1)=false:=by rfl):PE X (.Call (.Name x p) (e::es) [] pos) (tCB r t):=by
 intro pins s σ H Q I h
 refine wpAny_Call_Name_kw (d_ I hg hm hv ?_ hn hdb)
 exact PyProof.Rows.callWith_type1 (thn (ha pos pins s σ H _ I h) λus s1 ⟨vs,H1,I1,r1,q1⟩=>hc pins s1 σ H1 vs us Q I1 r1 q1) he hpl
end
end L2
namespace L2
open PySem PySem.Spec PyProof.Rows
section
variable {κ:Type} [DecidableEq κ]
def gf (kvs:List (κ×V)) (k:κ):Option V:=(kvs.find? λkv=>decide (kv.1=k)).map (·.2)
def putK (kvs:List (κ×V)) (k:κ) (v:V):List (κ×V):=
 if (kvs.any λkv=>decide (kv.1=k))=true then kvs.map (λkv=>if kv.1=k then (kv.1,v) else kv) else kvs++[(k,v)]
def Ez (kvs:List (κ×V)) (k:κ):List (κ×V):=kvs.filter λkv=>decide (kv.1≠k)
theorem jG {p:κ×V}{r:List (κ×V)}{k:κ}(e:p.1=k):gf (p::r) k=some p.2:=by simp[gf,List.find?_cons,e]
theorem jH {p:κ×V}{r:List (κ×V)}{k:κ}(e:¬ p.1=k):gf (p::r) k=gf r k:=by simp[gf,List.find?_cons,e]
theorem uN (k:κ):∀ kvs:List (κ×V),(kvs.any λkv=>decide (kv.1=k))=(gf kvs k).isSome
 | []=>rfl
 | p::r=>by
  rw[List.any_cons]
  by_cases e:p.1=k
  ·simp only[jG e,decide_eq_true e,Bool.true_or,Option.isSome_some]
  ·rw[jH e,decide_eq_false e,Bool.false_or];exact uN k r
theorem pA (kvs:List (κ×V)) (k:κ) (v:V):(putK kvs k v).length<=kvs.length+1:=by
 unfold putK
 split
 ·rw[List.length_map];omega
 ·rw[List.length_append,List.length_cons,List.length_nil];omega
theorem RelO.isSome_eq {o:Option V}{u:Option Value}(r:RelO o u):o.isSome=u.isSome:=by
 cases o with
 | none=>cases u with
  | none=>rfl
  | some _=>exact(show False from r).elim
 | some _=>cases u with
  | none=>exact(show False from r).elim
  | some _=>rfl
theorem RelO.getD {o:Option V}{u:Option Value}{d:V}{d':Value}(r:RelO o u) (rd:RelV d d'):RelV (o.getD d) (u.getD d'):=by
 cases o with
 | none=>cases u with
  | none=>exact rd
  | some _=>exact(show False from r).elim
 | some _=>cases u with
  | none=>exact(show False from r).elim
  | some _=>exact r
theorem KV.val {kvs:List (κ×V)}{vs:List (κ×Value)}(r:KV kvs vs) (k:κ):RelO (gf kvs k) (valueAt vs k):=by
 unfold KV at r
 induction r with
 | nil=>exact True.intro
 | @cons p q ps qs h t ih=>
  obtain⟨h1,h2⟩:=h
  by_cases e:p.1=k
  ·have e':q.1=k:=h1.symm.trans e
   have b:valueAt (q::qs) k=some q.2:=by simp[valueAt,List.find?_cons,e']
   rw[jG e,b];exact h2
  ·have e':¬ q.1=k:=λz=>e (h1.trans z)
   have b:valueAt (q::qs) k=valueAt qs k:=by simp[valueAt,List.find?_cons,e']
   rw[jH e,b];exact ih
theorem KV.any {kvs:List (κ×V)}{vs:List (κ×Value)}(r:KV kvs vs) (k:κ):(kvs.any λkv=>decide (kv.1=k))=vs.any λkv=>decide (kv.1=k):=by
 unfold KV at r
 induction r with
 | nil=>rfl
 | cons h t ih=>rw[List.any_cons,List.any_cons,ih,h.1]
theorem KV.repl {kvs:List (κ×V)}{vs:List (κ×Value)}(r:KV kvs vs) (k:κ){y:V}{u:Value}(ry:RelV y u):
  KV (kvs.map λkv=>if kv.1=k then (kv.1,y) else kv) (vs.map λkv=>if kv.1=k then (kv.1,u) else kv):=by
 unfold KV at r ⊢
 induction r with
 | nil=>exact .nil
 | @cons p q ps qs h t ih=>
  rw[List.map_cons,List.map_cons]
  refine .cons ?_ ih
  obtain⟨h1,h2⟩:=h
  by_cases e:p.1=k
  ·rw[if_pos e,if_pos (h1.symm.trans e)];exact⟨h1,ry⟩
  ·rw[if_neg e,if_neg (λz=>e (h1.trans z))];exact⟨h1,h2⟩
theorem KV.put {kvs:List (κ×V)}{vs:List (κ×Value)}(r:KV kvs vs) (k:κ){y:V}{u:Value}(ry:RelV y u):KV (putK kvs k y) (stored vs k u):=by
 unfold putK stored
 rw[r.any k]
 by_cases e:(vs.any λkv=>decide (kv.1=k))=true
 ·rw[if_pos e,if_pos e];exact r.repl k ry
 ·rw[if_neg e,if_neg e];exact Paired.snoc r ⟨rfl,ry⟩
theorem KV.drop {kvs:List (κ×V)}{vs:List (κ×Value)}(r:KV kvs vs) (k:κ):KV (Ez kvs k) (without vs k):=by
 unfold KV at r ⊢
 unfold Ez without
 induction r with
 | nil=>exact .nil
 | @cons p q ps qs h t ih=>
  obtain⟨h1,h2⟩:=h
  rw[List.filter_cons,List.filter_cons]
  by_cases e:p.1=k
  ·have a:¬ decide (p.1≠k)=true:=by simp[e]
   have b:¬ decide (q.1≠k)=true:=by simp[h1.symm.trans e]
   rw[if_neg a,if_neg b];exact ih
  ·have e':¬ q.1=k:=λz=>e (h1.trans z)
   have a:decide (p.1≠k)=true:=by simp[e]
   have b:decide (q.1≠k)=true:=by simp[e']
   rw[if_pos a,if_pos b];exact .cons ⟨h1,h2⟩ ih
theorem KV.keys {kvs:List (κ×V)}{vs:List (κ×Value)}(r:KV kvs vs):kvs.map (·.1)=vs.map (·.1):=by
 unfold KV at r
 induction r with
 | nil=>rfl
 | cons h t ih=>rw[List.map_cons,List.map_cons,ih,h.1]
theorem KV.length {kvs:List (κ×V)}{vs:List (κ×Value)}(r:KV kvs vs):kvs.length=vs.length:=Paired.length r
end
theorem oX {P:Program}{w:World}{k:Key}{u:Value}(r:RelV (kV k) u):(fW P w).is k u=true:=by
 cases k with
 | inl i=>obtain⟨t,e⟩:=(show ∃ t,u=Value.int i t from r);subst e;exact wH P w i t
 | inr x=>obtain⟨t,e⟩:=(show ∃ t,u=Value.str x t from r);subst e;exact wI P w x t
theorem zO {P:Program}{w:World}{k:Key}{u:Value}(r:RelV (kV k) u):(dh P w).is k u=true:=zm (oX (P:=P) (w:=w) r)
theorem w5 {P:Program}{w:World}:∀ {ks:List Key}{us:List Value},Vals (ks.map kV) us->ItemsAre (dh P w) ks us
 | [],_,r=>by rw[List.map_nil] at r;cases r;exact .nil
 | k::ks,_,r=>by
  rw[List.map_cons] at r
  cases r with
  | cons h t=>exact .cons (zO h) (w5 t)
theorem sO {P:Program}{w:World}{ks:List Key}{vs:List V}{us:List Value}(kt:uE ks vs) (r:Vals vs us):ItemsAre (dh P w) ks us:=by
 rcases kt with rfl | ⟨x,b,rfl,rfl⟩
 ·exact w5 r
 ·cases r with
  | cons h1 t=>cases t with
   | cons h2 t=>
    cases t
    cases (show _=Value.bool b from h2)
    exact .cons (zO (k:=.inr x) h1) (.cons (wG b) .nil)
abbrev KT (H:Hp):List (List Key×V)->List (List Key×Addr×Value)->Prop:=Paired λp q=>p.1=q.1/\jE H q.2.1 p.1/\RelV p.2 q.2.2
theorem KT.val {H:Hp}{kvs:List (List Key×V)}{xs:List (List Key×Addr×Value)}(r:KT H kvs xs) (k:List Key):RelO (gf kvs k) ((atKey xs k).map (·.2)):=by
 induction r with
 | nil=>exact True.intro
 | @cons p q ps qs h t ih=>
  obtain⟨h1,_,h2⟩:=h
  by_cases e:p.1=k
  ·have e':q.1=k:=h1.symm.trans e
   have b:atKey (q::qs) k=some q.2:=by simp[atKey,List.find?_cons,e']
   rw[jG e,b];exact h2
  ·have e':¬ q.1=k:=λz=>e (h1.trans z)
   have b:atKey (q::qs) k=atKey qs k:=by simp[atKey,List.find?_cons,e']
   rw[jH e,b];exact ih
theorem KT.repl {H:Hp}{kvs:List (List Key×V)}{xs:List (List Key×Addr×Value)}(r:KT H kvs xs) (k:List Key){y:V}{u:Value}(ry:RelV y u):
  KT H (kvs.map λkv=>if kv.1=k then (kv.1,y) else kv) (xs.map (putAt k u)):=by
 induction r with
 | nil=>exact .nil
 | @cons p q ps qs h t ih=>
  rw[List.map_cons,List.map_cons]
  refine .cons ?_ ih
  obtain⟨h1,h2,h3⟩:=h
  unfold putAt
  by_cases e:p.1=k
  ·rw[if_pos e,if_pos (h1.symm.trans e)];exact⟨h1,h2,ry⟩
  ·rw[if_neg e,if_neg (λz=>e (h1.trans z))];exact⟨h1,h2,h3⟩
theorem KT.put {H:Hp}{kvs:List (List Key×V)}{xs:List (List Key×Addr×Value)}(r:KT H kvs xs) (k:List Key){b:Addr}{y:V}{u:Value}(hb:jE H b k) (ry:RelV y u):
  KT H (putK kvs k y) (storedH xs k b u):=by
 have e:(kvs.any λkv=>decide (kv.1=k))=(atKey xs k).isSome:=by
  rw[uN,(r.val k).isSome_eq,Option.isSome_map]
 unfold putK storedH
 rw[e]
 by_cases q:(atKey xs k).isSome=true
 ·rw[if_pos q,if_pos q];exact r.repl k ry
 ·rw[if_neg q,if_neg q];exact Paired.snoc r ⟨rfl,hb,ry⟩
theorem KT.keeps {H H':Hp}{kvs:List (List Key×V)}{xs:List (List Key×Addr×Value)}(r:KT H kvs xs) (ht:∀ b ys,H b=some (.tup ys)->H' b=some (.tup ys)):KT H' kvs xs:=
 Paired.mapP r λ_ _ z=>⟨z.1,⟨_,ht _ _ z.2.1.choose_spec.1,z.2.1.choose_spec.2⟩,z.2.2⟩
section
variable {P:Program}{w:World}{H:Hp}{h:Heap}{a:Addr}
theorem EY {u:HO}(ok:HOk P w H h) (e:Rd H a u):ObjOk P w H h a u:=e.ok ok
theorem kE {kvs:List (Key×V)}(ok:HOk P w H h) (e:Rd H a (.dK kvs)):kvs.length<=sizeLine/\(a == sysModules)=false/\∃ vs,KV kvs vs/\h.DictOf (fW P w) a vs:=
 show ObjOk P w H h a (.dK kvs) from EY ok e
theorem E_ {kvs:List (Key×V)}(ok:HOk P w H h) (e:H a=some (.dK kvs)):kvs.length<=sizeLine/\(a == sysModules)=false/\∃ vs,KV kvs vs/\h.DictOf (fW P w) a vs:=kE ok (.inl e)
theorem jJ {ks:List Key}(ok:HOk P w H h) (e:jE H a ks):(tupleKind (dh P w)).is h ks a:=by
 obtain⟨vs,e,kt⟩:=e
 obtain⟨_,its,r,o,h1,h2,n,h3⟩:=(show ObjOk P w H h a (.tup vs) from ok a _ e)
 exact⟨o,its.toArray,n,h1,h2,h3,by simpa using sO kt r⟩
theorem qX {kvs:List (List Key×V)}(ok:HOk P w H h) (e:Rd H a (.dT kvs)):kvs.length<=sizeLine/\(a == sysModules)=false/\∃ xs,KT H kvs xs/\DictE (tupleKind (dh P w)) h a xs:=by
 obtain⟨z,y,xs,r,o,es,ep,h1,h2,h3,h4,h5,h6⟩:=(show ObjOk P w H h a (.dT kvs) from EY ok e)
 subst h6
 refine⟨z,y,xs,r,o,es,h1,h2,h3,h4,λx hx=>?_,h5⟩
 have all:∀ {l:List (List Key×V)}{m:List (List Key×Addr×Value)},KT H l m->∀ x∈m,(tupleKind (dh P w)).is h x.1 x.2.1:=by
  intro l m q
  induction q with
  | nil=>intro x hx;exact nomatch hx
  | cons hq t ih=>
   intro x hx
   rcases List.mem_cons.mp hx with e | hx
   ·rw[e];exact jJ ok (by rw[← hq.1];exact hq.2.1)
   ·exact ih x hx
 exact all r x hx
theorem mK {kvs:List (List Key×V)}(ok:HOk P w H h) (e:Rd H a (.dT kvs)):kvs.length<=sizeLine/\(a == sysModules)=false /\
  ∃ xs,KT H kvs xs/\h.DictOfH (tupleKind (dh P w)) a xs:=let ⟨z,y,xs,r,q⟩:=qX ok e;⟨z,y,xs,r,q.of⟩
end
def DGet (H:Hp) (a:Addr) (y:V) (r:Option V):Prop:=
 (∃ kvs k,Rd H a (.dK kvs)/\y=kV k/\r=gf kvs k)\/∃ kvs k b,Rd H a (.dT kvs)/\y=.ref b/\jE H b k/\r=gf kvs k
def DPut (H:Hp) (a:Addr) (y v:V) (H':Hp):Prop:=
 (∃ kvs k,H a=some (.dK kvs)/\y=kV k/\kvs.length < sizeLine/\H'=upd H a (.dK (putK kvs k v))) \/
 ∃ kvs k b,H a=some (.dT kvs)/\y=.ref b/\jE H b k/\kvs.length < sizeLine/\H'=upd H a (.dT (putK kvs k v))
theorem DGet.k {H:Hp}{a:Addr}{kvs:List (Key×V)}{k:Key}(e:H a=some (.dK kvs)):DGet H a (kV k) (gf kvs k):=.inl ⟨kvs,k,.inl e,rfl,rfl⟩
theorem DGet.t {H:Hp}{a b:Addr}{kvs:List (List Key×V)}{k:List Key}(e:H a=some (.dT kvs)) (eb:jE H b k):DGet H a (.ref b) (gf kvs k):=.inr ⟨kvs,k,b,.inl e,rfl,eb,rfl⟩
theorem DPut.k {H:Hp}{a:Addr}{kvs:List (Key×V)}{k:Key}{v:V}(e:H a=some (.dK kvs)) (hl:kvs.length < sizeLine):DPut H a (kV k) v (upd H a (.dK (putK kvs k v))):=.inl ⟨kvs,k,e,rfl,hl,rfl⟩
theorem DPut.t {H:Hp}{a b:Addr}{kvs:List (List Key×V)}{k:List Key}{v:V}(e:H a=some (.dT kvs)) (eb:jE H b k) (hl:kvs.length < sizeLine):
  DPut H a (.ref b) v (upd H a (.dT (putK kvs k v))):=.inr ⟨kvs,k,b,e,rfl,eb,hl,rfl⟩
section
variable {X:Cx}{pins:List (Addr×Obj)}{σ:St}{H:Hp}{s:Shared}{a:Addr}{y v:V}{u r:Value}{o:Option V}{A:Around}{E:Value->Shared->Prop}
theorem Inv.big (I:Inv X pins σ H s):sysModules < s.heap.objs.size:=by
 have h:mainGlobals < s.heap.objs.size:=(I.mod.glob.keeps I.bk).lt
 exact Nat.lt_trans (by decide) h
theorem zQ {Q:Value->Shared->Prop}(hu:A.units+1 < cLine) (I:Inv X pins σ H s) (g:DGet H a y (some v)) (ry:RelV y u) (h:∀ w' s',Inv X pins σ H s'->RelV v w'->Q w' s'):
  wpAny (model X.prog X.w) A (getItem (.ref a) u) Q E s:=by
 rcases g with ⟨kvs,k,e,ey,l⟩ | ⟨kvs,k,b,e,ey,eb,l⟩
 ·subst ey
  obtain⟨z,hd,vs,rel,dd⟩:=kE I.hok e
  obtain⟨w',hw,rw'⟩:=RelO.some_of (v:=v) (o:=valueAt vs k) (by rw[l];exact rel.val k)
  exact wpAny_getItem_of (oX ry) dd.mapOf hw (h w' _ (I.tok _) rw')
 ·subst ey
  cases (show u=Value.ref b from ry)
  obtain⟨z,hd,xs,rel,dd⟩:=mK I.hok e
  obtain⟨w',hw,rw'⟩:=RelO.some_of (v:=v) (o:=(atKey xs k).map (·.2)) (by rw[l];exact rel.val k)
  obtain⟨p,hp,hp2⟩:=Option.map_eq_some_iff.mp hw
  refine wpAny_getItem_heap (tupleKind_room_in1 hu) (jJ I.hok eb) dd hp ?_
  rw[hp2]
  exact h w' _ (I.tok _) rw'
theorem O7 {Q:Value->Shared->Prop}(hu:A.units+1 < cLine) (I:Inv X pins σ H s) (g:DGet H a y o) (ry:RelV y u) (h:∀ s',Inv X pins σ H s'->Q (.bool o.isSome) s'):
  wpAny (model X.prog X.w) A (compareOp .In u (.ref a)) Q E s:=by
 rcases g with ⟨kvs,k,e,ey,l⟩ | ⟨kvs,k,b,e,ey,eb,l⟩
 ·subst ey
  obtain⟨z,hd,vs,rel,dd⟩:=kE I.hok e
  refine wpAny_in_of (oX ry) hd dd.mapOf ?_
  rw[← (rel.val k).isSome_eq,← l]
  exact h _ (I.tok _)
 ·subst ey
  cases (show u=Value.ref b from ry)
  obtain⟨z,hd,xs,rel,dd⟩:=mK I.hok e
  refine wpAny_in_heap (tupleKind_room_in1 hu) (jJ I.hok eb) hd dd ?_
  have q:=(rel.val k).isSome_eq
  rw[Option.isSome_map] at q
  rw[← q,← l]
  exact h _ (I.tok _)
theorem Gn {Q:Value->Shared->Prop}(hu:A.units+1 < cLine) (I:Inv X pins σ H s) (g:DGet H a y o) (ry:RelV y u) (h:∀ s',Inv X pins σ H s'->Q (.bool (!o.isSome)) s'):
  wpAny (model X.prog X.w) A (compareOp .NotIn u (.ref a)) Q E s:=by
 rcases g with ⟨kvs,k,e,ey,l⟩ | ⟨kvs,k,b,e,ey,eb,l⟩
 ·subst ey
  obtain⟨z,hd,vs,rel,dd⟩:=kE I.hok e
  refine wpAny_notIn_of (oX ry) hd dd.mapOf ?_
  rw[← (rel.val k).isSome_eq,← l]
  exact h _ (I.tok _)
 ·subst ey
  cases (show u=Value.ref b from ry)
  obtain⟨z,hd,xs,rel,dd⟩:=mK I.hok e
  refine wpAny_notIn_heap (tupleKind_room_in1 hu) (jJ I.hok eb) hd dd ?_
  have q:=(rel.val k).isSome_eq
  rw[Option.isSome_map] at q
  rw[← q,← l]
  exact h _ (I.tok _)
theorem qY {h':Heap}{t':Nat}{ob:HO}(I:Inv X pins σ H s) (mu:Mut (H a)) (hs:Heap.SameBut a s.heap h') (he:∃ q,h'.get? a=some q) (new:ObjOk X.prog X.w (upd H a ob) h' a ob):
  Inv X pins σ (upd H a ob) { s with heap:=h',toks:=t' }:=
 I.write (x:=a) (e:=a) mu (.inl rfl) (λb q hb z=>(hs.2 b hb).trans z) he new
theorem Jw {P:Program}{w:World}{H':Hp}{h':Heap}{kvs:List (Key×V)}{vs:List (Key×Value)}(z:kvs.length<=sizeLine) (hd:(a == sysModules)=false) (rel:KV kvs vs) (dd:h'.DictOf (fW P w) a vs):
  ObjOk P w H' h' a (.dK kvs):=⟨z,hd,vs,rel,dd⟩
theorem zR {H':Hp}{Q:Unit->Shared->Prop}(hu:A.units+1 < cLine) (I:Inv X pins σ H s) (g:DPut H a y v H') (ry:RelV y u) (rv:RelV v r) (h:∀ s',Inv X pins σ H' s'->Q () s'):
  wpAny (model X.prog X.w) A (setItem (.ref a) u r) Q E s:=by
 rcases g with ⟨kvs,k,e,ey,l,eH⟩ | ⟨kvs,k,b,e,ey,eb,l,eH⟩
 ·subst ey eH
  obtain⟨z,hd,vs,rel,dd⟩:=E_ I.hok e
  have hz:vs.length<=sizeLine:=by rw[← rel.length];exact z
  have hl:(putK kvs k v).length<=sizeLine:=by have:=pA kvs k v;omega
  refine wpAny_setItem_pairs (hsz:=hz) (oX ry) dd λh' dd' hs=>h _ ?_
  have he:∃ q,h'.get? a=some q:=let ⟨q,_,_,hq,_⟩:=dd';⟨q,hq⟩
  exact qY I (by rw[e];exact True.intro) hs he (Jw hl hd (rel.put k rv) dd')
 ·subst ey eH
  cases (show u=Value.ref b from ry)
  obtain⟨z,hd,xs,rel,dd⟩:=qX I.hok (.inl e)
  have hz:xs.length<=sizeLine:=by rw[← Paired.length rel];exact z
  have hl:(putK kvs k v).length<=sizeLine:=by have:=pA kvs k v;omega
  refine BW (tupleKind_room_in1 hu) (jJ I.hok eb) dd hz λh' dd' hs=>h _ ?_
  obtain⟨q,es,hq,h2,h3,h4,_,h5⟩:=dd'
  refine qY I (by rw[e];exact True.intro) hs ⟨q,hq⟩ ⟨hl,hd,_,(rel.put k eb rv).keeps λc ys ec=>?_,q,es,_,hq,h2,h3,h4,h5,rfl⟩
  rw[aH (Es ec e (λz=>nomatch z))]
  exact ec
end
section
variable {X:Cx}{pins:List (Addr×Obj)}{σ:St}{H:Hp}{s:Shared}{a:Addr}{kvs:List (Key×V)}{k:Key}{u:Value}{A:Around}{E:Value->Shared->Prop}
theorem M3 {Q:Value->Shared->Prop}(I:Inv X pins σ H s) (e:Rd H a (.dK kvs)) (h:∀ t s',Inv X pins σ H s'->Q (.int kvs.length t) s'):wpAny (model X.prog X.w) A (call (.builtin "len") [.ref a]) Q E s:=by
 obtain⟨z,hd,vs,rel,dd⟩:=kE I.hok e
 refine call_len_dict hd dd (by rw[← rel.length];rw[sizeLine_eq] at z;omega) ?_
 rw[← rel.length]
 exact h _ _ (I.tok _)
end
def Ck (i:Expr):Prop:=∀ ov iv,subscripted i false ov iv=operate [ov,iv] (getItem ov iv)
theorem Gp {prog:Program}{w:World}{A:Around}{E:Value->Shared->Prop}{s:Shared}{env:Env}{value slice:Expr}{pos:Pos}{T id:String}{Q:Value->Shared->Prop}
  (hl:typeLookup (.type T) "__getitem__" = pure (some (.builtin id))) (hs:Ck slice)
  (h:wpAny (model prog w) A (eval value env) (λo s₁=>wpAny (model prog w) A (eval slice env) (λi s₂=>s₂.TypeIs o T/\wpAny (model prog w) A (getItem o i) Q E s₂) E s₁) E s):
  wpAny (model prog w) A (eval (.Subscript value slice pos) env) Q E s:=by
 refine Subscript_ (wpAny_mono h (λo s₁ h₁=>wpAny_mono h₁ (λi s₂ h₂=>?_) λ_ _ x=>x) λ_ _ x=>x)
 obtain⟨hT,h₂⟩:=h₂
 unfold subscriptTail
 refine wpAny_bind ?_
 rw[getitemInPython_of_ne hT.not_modules]
 refine wpAny_bind (wpAny_specialOf hT hl ?_)
 have fin:wpAny (model prog w) A (subscripted slice false o i) (λr s₃=>wpAny (model prog w) A (letTemporaryGo value o r >>= λ_=>pure r) Q E s₃) E s₂:=by
  rw[hs o i]
  exact wpAny_operating (wpAny_mono h₂ (λr s₃ h₃=>wpAny_bind (wpAny_letTemporaryGo (wpAny_pure h₃))) λ_ _ x=>x)
 first
  | exact wpAny_pure (wpAny_bind fin)
  | exact wpAny_bind (wpAny_pure (wpAny_bind fin))
  | exact wpAny_bind fin
theorem wJ {X:Cx}{pins:List (Addr×Obj)}{σ:St}{H:Hp}{s:Shared}{a:Addr}{y:V}{o:Option V}(I:Inv X pins σ H s) (g:DGet H a y o):s.TypeIs (.ref a) "dict" := by
 rcases g with ⟨kvs,k,e,_,_⟩ | ⟨kvs,k,b,e,_,_,_⟩
 ·obtain⟨_,_,vs,_,dd⟩:=kE I.hok e
  exact dd.typeIs
 ·obtain⟨_,_,xs,_,dd⟩:=mK I.hok e
  exact dd.typeIs
def M4 (td ty:TE):TE:=fun σ H Q=>td σ H λx H1=>ty σ H1 λy H2=>∃ a v,x=.ref a/\DGet H2 a y (some v)/\Q v H2
def M5 (td ty tv:TE):TS:=λD σ H=>tv σ H λv H1=>td σ H1 λx H2=>ty σ H2 λy H3=>∃ a H4,x=.ref a/\DPut H3 a y v H4/\D.nx σ H4
section
variable {X:Cx}{o i e value:Expr}{pos pos' tpos:Pos}{td ty tv:TE}
theorem Gq (hu:X.A.units+1 < cLine) (ho:PE X o td) (hi:PE X i ty) (hs:Ck i):PE X (.Subscript o i pos) (M4 td ty):=by
 intro pins s σ H Q I h
 refine Gp PySem.F.slot_dict_getitem.lookup hs (thn (ho pins s σ H _ I h) λu s1 ⟨x,H1,I1,rx,q1⟩=>thn (hi pins s1 σ H1 _ I1 q1) λiv s2 ⟨y,H2,I2,ry,a,v,ex,g,q2⟩=>?_)
 subst ex
 obtain rfl:u=Value.ref a:=rx
 exact⟨wJ I2 g,zQ hu I2 g ry λw' s3 I3 rw'=>⟨v,H2,I3,rw',q2⟩⟩
theorem Gr (hu:X.A.units+1 < cLine) (ho:PE X o td) (hi:PE X i ty) (hv:PE X value tv) (hs:swapsWith value (some (.Subscript o i pos')) pos.line X.env=pure false):
  PS X (.Assign [.Subscript o i pos'] value pos) (M5 td ty tv):=by
 intro pins s σ H D I h
 refine wpAny_Assign_Subscript (thn (hv pins s σ H _ I h) λr s1 ⟨v,H1,I1,rv,q1⟩=>thn (ho pins s1 σ H1 _ I1 q1) λu s2 ⟨x,H2,I2,rx,q2⟩=>thn (hi pins s2 σ H2 _ I2 q2) λiv s3 ⟨y,H3,I3,ry,a,H4,ex,g,q3⟩=>?_) hs
 subst ex
 obtain rfl:u=Value.ref a:=rx
 exact zR hu I3 g ry rv λs4 I4=>⟨σ,H4,I4,q3⟩
end
theorem uO {P:Program}{w:World}{H:Hp}(h:Heap) (hb:sysModules < h.objs.size):ObjOk P w H (h.push { cls:=.type "dict",data:=.dict #[] }) h.objs.size (.dT []):=
 ⟨Nat.zero_le _,beq_eq_false_iff_ne.mpr (Ne.symm (Nat.ne_of_lt hb)),[],.nil,_,#[],0,Heap.get?_push_size _ rfl,⟨rfl,rfl,rfl⟩,rfl,rfl,List.nodup_nil,rfl⟩
def Jx:TE:=λ_ H Q=>∀ p,H p=none->Q (.ref p) (upd H p (.dT []))
section
variable {X:Cx}{pos:Pos}
theorem Cm:PE X (.Dict [] [] pos) Jx:=λpins s σ H Q I h=>
 wpAny_Dict_empty ⟨.ref s.heap.objs.size,_,I.laid (a:=s.heap.objs.size) (o:=.dT []) (t':=s.toks) (λ_ _ q=>Heap.get?_push_of_some _ q) (Nat.le_refl _) (uO s.heap I.big),rfl,h _ (I.hok.fresh (Nat.le_refl _))⟩
end
structure M1 (X:Cx) (o:Expr) (m:Str) (apos:Pos) (e:Expr) (cpos:Pos):Prop where
 base:attributeBase o m X.env (eval o X.env)=eval o X.env
 few:((backTo cpos (starEach [e] X.env)).all (λx=>!x.1)&&(backToKw cpos (keywordEach [] X.env)).all (λx=>x.1.isSome)
  && decide (([e]:List Expr).length+([]:List Keyword).length+(if ([]:List Keyword).isEmpty then 0 else 1) < 30))=true
 line:(apos.endLine == cpos.line)=true
 trees:backTo cpos (starEach [e] X.env)=[(false,eval e X.env)]
structure M2 (X:Cx) (o:Expr) (m:Str) (apos:Pos) (e f:Expr) (cpos:Pos):Prop where
 base:attributeBase o m X.env (eval o X.env)=eval o X.env
 few:((backTo cpos (starEach [e,f] X.env)).all (λx=>!x.1)&&(backToKw cpos (keywordEach [] X.env)).all (λx=>x.1.isSome)
  && decide (([e,f]:List Expr).length+([]:List Keyword).length+(if ([]:List Keyword).isEmpty then 0 else 1) < 30))=true
 line:(apos.endLine == cpos.line)=true
 trees:backTo cpos (starEach [e,f] X.env)=[(false,eval e X.env),(false,eval f X.env)]
def IsD (H:Hp) (a:Addr):Prop:=(∃ kvs,Rd H a (.dK kvs))\/∃ kvs,Rd H a (.dT kvs)
theorem zT {X:Cx}{pins:List (Addr×Obj)}{σ:St}{H:Hp}{s:Shared}{a:Addr}(I:Inv X pins σ H s) (d:IsD H a):
  s.TypeIs (.ref a) "dict" /\ (∀ b,Value.ref a=.ref b->∃ ob,s.heap.get? b=some ob/\ob.dict=none)/\(a == sysModules)=false:=by
 rcases d with ⟨kvs,e⟩ | ⟨kvs,e⟩
 ·obtain⟨_,hd,vs,_,dd⟩:=kE I.hok e
  refine⟨dd.typeIs,λb q=>?_,hd⟩
  cases q
  obtain⟨ob,_,_,h1,h2,_⟩:=dd
  exact⟨ob,h1,h2.2.1⟩
 ·obtain⟨_,hd,xs,_,dd⟩:=mK I.hok e
  refine⟨dd.typeIs,λb q=>?_,hd⟩
  cases q
  obtain⟨ob,_,_,h1,h2,_⟩:=dd
  exact⟨ob,h1,h2.2.1⟩
section
variable {X:Cx}{pins:List (Addr×Obj)}{σ:St}{H:Hp}{s:Shared}{a:Addr}{y d:V}{u r:Value}{o:Option V}{A:Around}{E:Value->Shared->Prop}
theorem Jy {Q:Value->Shared->Prop}(hu:A.units+1 < cLine) (I:Inv X pins σ H s) (g:DGet H a y o) (ry:RelV y u) (rd:RelV d r) (h:∀ w' s',Inv X pins σ H s'->RelV (o.getD d) w'->Q w' s'):
  wpAny (model X.prog X.w) A (call (.builtin "dict.get") [.ref a,u,r]) Q E s:=by
 rcases g with ⟨kvs,k,e,ey,l⟩ | ⟨kvs,k,b,e,ey,eb,l⟩
 ·subst ey
  obtain⟨z,hd,vs,rel,dd⟩:=kE I.hok e
  refine call_meetsIn PySem.F.slot_dict_get dd.typeIs PySem.F.entry_dict_get (PySem.F.args_dict_get_3 _ _ _) (meets_dict_get_default (fW X.prog X.w) a (oX ry) hd r) ⟨_,dd.mapOf,h _ _ (I.tok _) ?_⟩
  rw[l]
  exact(rel.val k).getD rd
 ·subst ey
  cases (show u=Value.ref b from ry)
  obtain⟨z,hd,xs,rel,dd⟩:=mK I.hok e
  refine call_meetsIn PySem.F.slot_dict_get dd.typeIs PySem.F.entry_dict_get (PySem.F.args_dict_get_3 _ _ _) (meetsH_dict_get_default (tupleKind (dh X.prog X.w)) a b hd r) ⟨tupleKind_room_in1 hu,k,xs,jJ I.hok eb,dd,h _ _ (I.tok _) ?_⟩
  rw[l]
  exact(rel.val k).getD rd
end
def Jz (td ty tx:TE):TE:=fun σ H Q=>td σ H λx H1=>∃ a,x=.ref a/\IsD H1 a/\ty σ H1 λy H2=>tx σ H2 λz H3=>∃ o,DGet H3 a y o/\Q (o.getD z) H3
section
variable {X:Cx}{o e f:Expr}{apos cpos:Pos}{td ty tx:TE}
theorem Cp (hu:X.A.units+1 < cLine) (ho:PE X o td) (he:PE X e ty) (hf:PE X f tx) (m:M2 X o "get" apos e f cpos):PE X (.Call (.Attribute o "get" apos) [e,f] [] cpos) (Jz td ty tx):=by
 intro pins s σ H Q I h
 refine wpAny_Call_method m.base m.few m.line PySem.F.plainAttrs_dict PySem.F.slot_dict_get PySem.F.type_dict_get (thn (ho pins s σ H _ I h) λu s1 ⟨x,H1,I1,rx,a,ex,d,q1⟩=>?_)
 subst ex
 obtain rfl:u=Value.ref a:=rx
 obtain⟨t1,t2,_⟩:=zT I1 d
 refine⟨t1,t2,?_⟩
 rw[m.trees]
 refine Calls.callWith_builtin rfl (Calls.evalArgs_plain (Calls.spliced_cons (thn (he pins s1 σ H1 _ I1 q1) λiv s2 ⟨y,H2,I2,ry,q2⟩=>
  Calls.spliced_cons (thn (hf pins s2 σ H2 _ I2 q2) λfv s3 ⟨z,H3,I3,rz,ov,g,q3⟩=>Calls.spliced_nil ?_))))
 exact Jy hu I3 g ry rz λw' s4 I4 rw'=>⟨_,H3,I4,rw',q3⟩
end
section
variable {X:Cx}{pins:List (Addr×Obj)}{σ:St}{H:Hp}{s:Shared}{a:Addr}{kvs:List (Key×V)}{A:Around}{E:Value->Shared->Prop}
end
section
variable {X:Cx}{pins:List (Addr×Obj)}{σ:St}{H:Hp}{s:Shared}{a:Addr}{y:V}{u:Value}{A:Around}{E:Value->Shared->Prop}
end
end L2
namespace HT
open PySem PyProof.Rows
section
open PySem.SeqAt
open PySem.AutoSeq1 (wpAny_loadPart')
open PySem.MeetsSeq PySem.MeetsSeq2 PySem.MeetsSeq3
end
section
variable {prog:Program}{w:World}{A:Around}{E:Value->Shared->Prop}{s:Shared}
def sIx (n d:Nat):Option Int->Nat
 | none=>d
 | some v=>if v < 0 then (v+(n:Int)).toNat else min v.toNat n
theorem sIx_none (n d:Nat):sIx n d none=d:=rfl
theorem sIx_nat (n d k:Nat):sIx n d (some (k:Int))=min k n:=by
 show (if (k:Int) < 0 then ((k:Int)+(n:Int)).toNat else min (k:Int).toNat n)=min k n
 rw[if_neg (by omega),Int.toNat_natCast]
theorem sIx_le (n d:Nat) (hd:d<=n) (o:Option Int):sIx n d o<=n:=by
 cases o with
 | none=>exact hd
 | some v=>
  show (if v < 0 then (v+(n:Int)).toNat else min v.toNat n)<=n
  by_cases hv:v < 0
  ·rw[if_pos hv];omega
  ·rw[if_neg hv];exact Nat.min_le_right _ _
end
end HT
namespace L2
open PySem PySem.Spec PyProof.Rows
abbrev TO:=St->Hp->(Option Int->Hp->Prop)->Prop
def PO (X:Cx) (e:Option Expr) (t:TO):Prop:=
 ∀ (pins:List (Addr×Obj)) (s:Shared) (σ:St) (H:Hp) (Q:Option Int->Hp->Prop),Inv X pins σ H s->t σ H Q->
  wpAny (model X.prog X.w) X.A (evalPart e X.env) (λu s'=>∃ o H',Inv X pins σ H' s'/\IsPart u o/\Q o H') X.xe s
def Gs:TO:=λ_ H Q=>Q none H
def M6 (t:TE):TO:=fun σ H Q=>t σ H λx H1=>∃ i,x=.int i/\Q (some i) H1
section
variable {X:Cx}{e:Expr}{te:TE}{lo hi:Option Expr}{tl th:TO}{pos p2:Pos}
theorem Gu:PO X none Gs:=by
 intro pins s σ H Q I h
 rw[evalPart_none]
 exact wpAny_pure ⟨none,H,I,.none,h⟩
theorem Gv (h:PE X e te):PO X (some e) (M6 te):=by
 intro pins s σ H Q I hw
 rw[evalPart_some]
 refine thn (h pins s σ H _ I hw) λu s1 ⟨x,H1,I1,r1,q1⟩=>?_
 obtain⟨i,rfl,q⟩:=q1
 obtain⟨t,rfl⟩:=r1
 exact⟨some i,H1,I1,.int i t,q⟩
def SlR (X:Cx) (r:V->Option Int->Option Int->Hp->VK->Prop):Prop:=
 ∀ (pins:List (Addr×Obj)) (s:Shared) (σ:St) (H:Hp) (x:V) (v vl vu:Value) (lo hi:Option Int) (sl:Addr) (Q:VK),Inv X pins σ H s->RelV x v->s.heap.IsSliceOf sl vl vu .none->IsPart vl lo->IsPart vu hi->r x lo hi H Q->
  ∃ T id,typeLookup (.type T) "__getitem__" = pure (some (.builtin id))/\s.TypeIs v T/\wpAny (model X.prog X.w) X.A (getItem v (.ref sl)) (EP X pins σ Q) X.xe s
theorem SlR.or {r r':V->Option Int->Option Int->Hp->VK->Prop}(h:SlR X r) (h':SlR X r'):SlR X (λx lo hi H Q=>r x lo hi H Q\/r' x lo hi H Q):=by
 intro pins s σ H x v vl vu lo hi sl Q I rx hs pl pu q
 rcases q with q | q
 ·exact h pins s σ H x v vl vu lo hi sl Q I rx hs pl pu q
 ·exact h' pins s σ H x v vl vu lo hi sl Q I rx hs pl pu q
def tSl (r:V->Option Int->Option Int->Hp->VK->Prop) (te:TE) (tl th:TO):TE:=fun σ H Q=>te σ H λx H1=>tl σ H1 λl H2=>th σ H2 λu H3=>r x l u H3 Q
theorem Cq {r:V->Option Int->Option Int->Hp->VK->Prop}(hr:SlR X r) (he:PE X e te) (hl:PO X lo tl) (hu:PO X hi th):PE X (.Subscript e (.Slice lo hi none p2) pos) (tSl r te tl th):=by
 intro pins s σ H Q I h
 refine Subscript_ (thn (he pins s σ H _ I h) λv s1 ⟨x,H1,I1,r1,q1⟩=>?_)
 refine wpAny_Slice (thn (hl pins s1 σ H1 _ I1 q1) λvl s2 ⟨l,H2,I2,pl,q2⟩=>thn (hu pins s2 σ H2 _ I2 q2) λvu s3 ⟨u,H3,I3,pu,q3⟩=>?_)
 rw[evalPart_none]
 refine wpAny_pure ?_
 have I4:Inv X pins σ H3 { s3 with heap:=s3.heap.push { cls:=.type "slice",data:=.fields #[vl,vu,.none] } }:=I3.kept (t':=s3.toks) λb ob q=>Heap.get?_push_of_some _ q
 obtain⟨T,id,hT,ht,hg⟩:=hr pins { s3 with heap:=s3.heap.push { cls:=.type "slice",data:=.fields #[vl,vu,.none] } } σ H3 x v vl vu l u s3.heap.objs.size Q I4 r1 (Heap.IsSliceOf.new ..) pl pu q3
 show wpAny (model X.prog X.w) X.A (subscriptTail e (.Slice lo hi none p2) v (.ref s3.heap.objs.size)) (EP X pins σ Q) X.xe { s3 with heap:=s3.heap.push { cls:=.type "slice",data:=.fields #[vl,vu,.none] } }
 exact tail_any (ops:=[.ref s3.heap.objs.size,v]) ht hT hg (by with_unfolding_all rfl)
def qZ (xs:List V) (lo hi:Option Int):List V:=(xs.drop (HT.sIx xs.length 0 lo)).take (HT.sIx xs.length xs.length hi - HT.sIx xs.length 0 lo)
theorem wK (xs:List V) (lo hi:Option Int):(qZ xs lo hi).length<=xs.length:=by
 unfold qZ
 rw[List.length_take,List.length_drop]
 omega
end
end L2
namespace L2
open PySem PySem.Spec PyProof.Rows
def ixN (n:Nat) (i:Int):Option Nat:=if 0<=i then (if i < n then some i.toNat else none) else if -(n:Int)<=i then some (i+n).toNat else none
def atI {α:Type}(xs:List α) (i:Int):Option α:=(ixN xs.length i).bind λj=>xs[j]?
theorem q8 {n:Nat}{i:Int}{j:Nat}(h:ixN n i=some j):seqIndex? i n=some j/\j < n/\-(n:Int)<=i/\i < n:=by
 unfold ixN at h
 by_cases h0:0<=i
 ·rw[if_pos h0] at h
  by_cases h1:i < n
  ·rw[if_pos h1] at h
   have e:i.toNat=j:=Option.some.inj h
   exact⟨by rw[seqIndex_of h0 h1,e],by omega,by omega,h1⟩
  ·rw[if_neg h1] at h;cases h
 ·rw[if_neg h0] at h
  by_cases h1:-(n:Int)<=i
  ·rw[if_pos h1] at h
   have e:(i+n).toNat=j:=Option.some.inj h
   exact⟨by rw[seqIndex_neg (by omega) h1,e],by omega,h1,by omega⟩
  ·rw[if_neg h1] at h;cases h
theorem q9 {α:Type}{xs:List α}{i:Int}{v:α}(h:atI xs i=some v):∃ j,seqIndex? i xs.length=some j/\xs[j]?=some v/\j < xs.length/\-(xs.length:Int)<=i/\i < xs.length:=by
 unfold atI at h
 cases e:ixN xs.length i with
 | none=>rw[e] at h;cases h
 | some j=>
  rw[e] at h
  obtain⟨h1,h2,h3,h4⟩:=q8 e
  exact⟨j,h1,h,h2,h3,h4⟩
theorem Gw {α:Type}{xs:List α}{j:Nat}{v:α}(h:xs[j]?=some v):atI xs (j:Int)=some v:=by
 have hj:j < xs.length:=(List.getElem?_eq_some_iff.mp h).1
 have e:ixN xs.length (j:Int)=some j:=by
  unfold ixN
  rw[if_pos (by omega),if_pos (by omega)];simp
 unfold atI;rw[e];exact h
def oY (b:Expr):Prop:=∀ o i,subscripted b false o i=operate [o,i] (getItem o i)
def IxR (X:Cx) (r:R2):Prop:=
 ∀ (value slice:Expr) (pins:List (Addr×Obj)) (s:Shared) (σ:St) (H:Hp) (x y:V) (v u:Value) (Q:VK),Inv X pins σ H s->RelV x v->RelV y u->r x y H Q->
  subscripted slice false v u=operate [v,u] (getItem v u)->wpAny (model X.prog X.w) X.A (subscriptTail value slice v u) (EP X pins σ Q) X.xe s
def MtR (X:Cx) (id:String) (r:V->List V->Hp->VK->Prop):Prop:=
 ∀ (pins:List (Addr×Obj)) (s:Shared) (σ:St) (H:Hp) (x:V) (xs:List V) (v:Value) (us:List Value) (Q:VK),Inv X pins σ H s->RelV x v->Vals xs us->r x xs H Q->
  wpAny (model X.prog X.w) X.A (call (.builtin id) (v::us)) (EP X pins σ Q) X.xe s
section
variable {X:Cx}{a b:Expr}{ta tb:TE}{pos:Pos}
theorem IxR.or {r r':R2}(h:IxR X r) (h':IxR X r'):IxR X (λx y H Q=>r x y H Q\/r' x y H Q):=by
 intro value slice pins s σ H x y v u Q I rx ry q hs
 rcases q with q | q
 ·exact h value slice pins s σ H x y v u Q I rx ry q hs
 ·exact h' value slice pins s σ H x y v u Q I rx ry q hs
theorem MtR.or {id:String}{r r':V->List V->Hp->VK->Prop}(h:MtR X id r) (h':MtR X id r'):MtR X id (λx xs H Q=>r x xs H Q\/r' x xs H Q):=by
 intro pins s σ H x xs v us Q I rx rs q
 rcases q with q | q
 ·exact h pins s σ H x xs v us Q I rx rs q
 ·exact h' pins s σ H x xs v us Q I rx rs q
theorem yo {r:R2}(hr:IxR X r) (ha:PE X a ta) (hb:PE X b tb) (hs:oY b):PE X (.Subscript a b pos) (tOp r ta tb):=by
 intro pins s σ H Q I h
 exact Subscript_ (Ce ha hb I h λv u s2 x y H2 I2 rx ry q=>hr a b pins s2 σ H2 x y v u Q I2 rx ry q (hs _ _))
def yp (K:PySem.W.Frag):R2:=λx y H Q=>∃ p xs i v,x=.ref p/\y=.int i/\SqL K H p xs/\atI xs i=some v/\Q v H
def JB (K:PySem.W.Frag):R2:=λx y H Q=>∃ p xs i v,x=.ref p/\y=.int i/\SqT K H p xs/\atI xs i=some v/\Q v H
def JC:R2:=λx y H Q=>∃ z i c,x=.str z/\y=.int i/\z.length<=sizeLine/\atI z.cps.toList i=some c/\Q (.str ⟨#[c]⟩) H
theorem ix_list:IxR X (yp X.K):=by
 intro value slice pins s σ H x y v u Q I rx ry h hs
 obtain⟨p,xs,i,z,rfl,rfl,hq,he,q⟩:=h
 cases rx
 obtain⟨t,rfl⟩:=ry
 obtain⟨its,r,pl,hz⟩:=I.list hq
 obtain⟨j,h1,h2,h3,h4,h5⟩:=q9 he
 obtain⟨w,ew,rw'⟩:=r.get h2
 have hl:=r.length
 have hn:=lV
 have fin:EP X pins σ Q w s:=⟨z,H,I,rw',q⟩
 by_cases h0:0<=i
 ·have hj:i.toNat=j:=by
   rw[seqIndex_of h0 h5] at h1
   exact Option.some.inj h1
  exact item_listR pl.isList h0 (by omega) (by rw[hj];simpa using ew) fin hs
 ·have hj:(i+(its.toArray.size:Int)).toNat=j:=by
   rw[seqIndex_neg (by omega) h4] at h1
   rw[List.size_toArray,← hl]
   exact Option.some.inj h1
  exact subscriptTail_builtinR (x:=w) pl.isList.typeIs slot_list_getitem.lookup
   (wpAny_getItem_list_neg (Q:=λr s'=>r=w/\EP X pins σ Q r s') pl.isList (by omega) (by rw[List.size_toArray] <;> omega) (by omega) (by rw[hj];simpa using ew) ⟨rfl,fin⟩) hs
theorem ix_tup:IxR X (JB X.K):=by
 intro value slice pins s σ H x y v u Q I rx ry h hs
 obtain⟨p,xs,i,z,rfl,rfl,hq,he,q⟩:=h
 cases rx
 obtain⟨t,rfl⟩:=ry
 obtain⟨its,r,pl,hz⟩:=I.tuple hq
 obtain⟨j,h1,h2,h3,h4,h5⟩:=q9 he
 obtain⟨w,ew,rw'⟩:=r.get h2
 have hl:=r.length
 have hn:=lV
 have fin:EP X pins σ Q w s:=⟨z,H,I,rw',q⟩
 exact subscriptTail_builtinR (x:=w) pl.typeIs slot_tuple_getitem.lookup
  (getItem_tuple (j:=j) (Q:=λr s'=>r=w/\EP X pins σ Q r s') pl (by omega) (by omega) (by rw[List.size_toArray,← hl];exact h1) (by simpa using ew) ⟨rfl,fin⟩) hs
theorem JD:IxR X JC:=by
 intro value slice pins s σ H x y v u Q I rx ry h hs
 obtain⟨z,i,c,rfl,rfl,hz,he,q⟩:=h
 obtain⟨t,rfl⟩:=rx
 obtain⟨t',rfl⟩:=ry
 obtain⟨j,h1,h2,h3,h4,h5⟩:=q9 he
 have hl:z.cps.toList.length=z.length:=by simp[Str.length]
 rw[hl] at h1 h4 h5
 have hn:=lV
 exact tail_any (typeIs_str s z t) slot_str_getitem.lookup (getItem_str (c:=c) (by
  have e1:decide (i < -(2 ^ 63:Int))=false:=decide_eq_false (by omega)
  have e2:decide (i ≥ 2 ^ 63)=false:=decide_eq_false (by omega)
  rw[e1,e2,Bool.or_false]) (by rw[h1];simpa using h2) ⟨.str ⟨#[c]⟩,H,I.tok _,⟨_,rfl⟩,q⟩) hs
def rIx (K:PySem.W.Frag):R2:=λx y H Q=>yp K x y H Q\/JB K x y H Q\/JC x y H Q
theorem JF:IxR X (rIx X.K):=ix_list.or (ix_tup.or JD)
theorem yq (its:List Value) (n j:Nat) (u:Value):Obj.mapSeq (·.setIfInBounds j u) { cls:=.type "list",data:=.seq its.toArray n }={ cls:=.type "list",data:=.seq (its.set j u).toArray n }:=by
 simp[Obj.mapSeq]
theorem Inv.lst {pins:List (Addr×Obj)}{σ:St}{H:Hp}{s:Shared}{p:Addr}{xs:List V}(I:Inv X pins σ H s) (h:H p=some (.lst xs)):
  ∃ (its:List Value) (n:Nat),Vals xs its/\s.heap.get? p=some { cls:=.type "list",data:=.seq its.toArray n }/\xs.length<=sizeLine:=by
 obtain⟨z,its,n,r,e⟩:=I.hok p _ h
 exact⟨its,n,r,e,z⟩
theorem Inv.lstUpd {pins:List (Addr×Obj)}{σ:St}{H:Hp}{s:Shared}{p:Addr}{xs ys:List V}{its its':List Value}{n n':Nat}{f:Obj->Obj}(I:Inv X pins σ H s) (h:H p=some (.lst xs))
  (ho:s.heap.get? p=some { cls:=.type "list",data:=.seq its.toArray n }) (hf:f { cls:=.type "list",data:=.seq its.toArray n }={ cls:=.type "list",data:=.seq its'.toArray n' }) (r:Vals ys its') (hz:ys.length<=sizeLine) (t:Nat):
  Inv X pins σ (upd H p (.lst ys)) { s with heap:=s.heap.update p f,toks:=t }:=by
 have e:(s.heap.update p f).get? p=some { cls:=.type "list",data:=.seq its'.toArray n' }:=by
  rw[Heap.get?_update_self f ho (by rw[hf] <;> rfl),hf]
 refine I.write (x:=p) (e:=p) (by rw[h];trivial) (.inl rfl) (λb u hb q=>(Heap.get?_update_other _ _ (Ne.symm hb)).trans q) ⟨_,e⟩ ?_
 exact⟨hz,its',n',r,e⟩
def M7:V->V->V->Hp->(Hp->Prop)->Prop:=λo i v H Q=>∃ p xs k j,o=.ref p/\i=.int k/\H p=some (.lst xs)/\ixN xs.length k=some j/\Q (upd H p (.lst (xs.set j v)))
theorem set_list:Jf X M7:=by
 intro pins s σ H o i v ov iv u Q I ro ri rv h
 obtain⟨p,xs,k,j,rfl,rfl,hp,hj,q⟩:=h
 cases ro
 obtain⟨t,rfl⟩:=ri
 obtain⟨its,n,r,ho,hz⟩:=I.lst hp
 obtain⟨h1,h2,h3,h4⟩:=q8 hj
 have hl:=r.length
 have hn:=lV
 have I':Inv X pins σ (upd H p (.lst (xs.set j v))) { s with heap:=s.heap.update p (Obj.mapSeq (·.setIfInBounds j u)) }:=
  I.lstUpd hp ho (yq its n j u) (r.set rv j) (by rw[List.length_set];exact hz) s.toks
 by_cases h0:0<=k
 ·have hk:k.toNat=j:=by
   rw[seqIndex_of h0 h4] at h1
   exact Option.some.inj h1
  exact PySem.W.ki_setAt ho h0 (by omega) (by rw[List.size_toArray,← hl];exact h4) (by rw[hk];exact⟨_,I',q⟩)
 ·have hk:(k+(its.toArray.size:Int)).toNat=j:=by
   rw[seqIndex_neg (by omega) h3] at h1
   rw[List.size_toArray,← hl]
   exact Option.some.inj h1
  exact PySem.W.ki_setBack ho (by omega) (by rw[List.size_toArray,← hl];exact h3) (by omega) (by rw[hk];exact⟨_,I',q⟩)
theorem uP (lo hi:Option Int) (n:Nat):(sliceBounds lo hi none n).1=((HT.sIx n 0 lo:Nat):Int)/\(sliceBounds lo hi none n).2.1=((HT.sIx n n hi:Nat):Int)/\(sliceBounds lo hi none n).2.2=1:=by
 refine⟨?_,?_,rfl⟩
 ·cases lo with
  | none=>simp[sliceBounds,HT.sIx]
  | some i=>
   simp only[sliceBounds,HT.sIx,Option.getD_none,show (1:Int) > 0 by decide,if_true]
   by_cases h:i < 0
   ·simp only[h,if_true] <;> omega
   ·simp only[h,if_false] <;> omega
 ·cases hi with
  | none=>simp[sliceBounds,HT.sIx]
  | some i=>
   simp only[sliceBounds,HT.sIx,Option.getD_none,show (1:Int) > 0 by decide,if_true]
   by_cases h:i < 0
   ·simp only[h,if_true] <;> omega
   ·simp only[h,if_false] <;> omega
theorem tU (its:List Value) (lo hi:Option Int):slicePick its.toArray lo hi none=((its.drop (HT.sIx its.length 0 lo)).take (HT.sIx its.length its.length hi - HT.sIx its.length 0 lo)).toArray:=by
 obtain⟨h1,h2,h3⟩:=uP lo hi its.toArray.size
 unfold slicePick
 rw[h1,h2,h3]
 simp only[sliceRange_one,pick_run,List.size_toArray] <;> rfl
def JG (K:PySem.W.Frag):V->Option Int->Option Int->Hp->VK->Prop:=λx lo hi H Q=>∃ a xs,x=.ref a/\SqL K H a xs/\∀ p,H p=none->Q (.ref p) (upd H p (.lst (qZ xs lo hi)))
theorem sl_list:SlR X (JG X.K):=by
 intro pins s σ H x v vl vu lo hi sl Q I rx hs pl pu h
 obtain⟨a,xs,rfl,hx,q⟩:=h
 cases rx
 obtain⟨its,r,ht,hz⟩:=I.list hx
 have hlen:=r.length
 refine⟨"list",_,slot_list_getitem.lookup,ht.isList.typeIs,?_⟩
 refine wpAny_getItem_list_slice ht.isList hs pl pu .none (by simp) ?_ (by rw[List.size_toArray] <;> omega)
 rw[tU,← hlen]
 refine⟨.ref s.heap.objs.size,_,I.laid (t':=s.toks) (o:=.lst (qZ xs lo hi)) (λb ob q=>Heap.get?_push_of_some _ q) (Nat.le_refl _) ?_,rfl,q _ (I.hok.fresh (Nat.le_refl _))⟩
 exact⟨Nat.le_trans (wK xs lo hi) hz,_,0,(r.drop (HT.sIx xs.length 0 lo)).take (HT.sIx xs.length xs.length hi - HT.sIx xs.length 0 lo),Heap.get?_push_size _ rfl⟩
def gF:V->Bool
 | .non=>true
 | .bl _=>true
 | .int _=>true
 | .str _=>true
 | _=>false
def eqV:V->V->Bool
 | .non,.non=>true
 | .bl a,.bl b=>a == b
 | .bl a,.int b=>(if a then 1 else 0) == b
 | .int a,.bl b=>a == (if b then 1 else 0)
 | .int a,.int b=>a == b
 | .str a,.str b=>a == b
 | _,_=>false
theorem JH {A:Around}{s:Shared}{y x:V}{u v:Value}(ry:RelV y u) (rx:RelV x v) (fy:gF y=true) (fx:gF x=true):SeqAt.EqAt A s u v (eqV y x):=by
 cases y with
 | non=>
  cases ry
  cases x with
  | non=>cases rx;exact SeqAt.EqAt.same _
  | bl b=>cases rx;exact SeqAt.EqAt.none_bool b
  | int b=>obtain⟨t,rfl⟩:=rx;exact SeqAt.EqAt.none_int b t
  | str b=>obtain⟨t,rfl⟩:=rx;exact SeqAt.EqAt.none_str b t
  | _=>exact absurd (show false=true from fx) Bool.false_ne_true
 | bl a=>
  cases ry
  cases x with
  | non=>cases rx;exact SeqAt.EqAt.bool_none a
  | bl b=>cases rx;exact SeqAt.EqAt.bool_bool a b
  | int b=>obtain⟨t,rfl⟩:=rx;exact SeqAt.EqAt.bool_int a b t
  | str b=>obtain⟨t,rfl⟩:=rx;exact SeqAt.EqAt.bool_str a b t
  | _=>exact absurd (show false=true from fx) Bool.false_ne_true
 | int a=>
  obtain⟨t',rfl⟩:=ry
  cases x with
  | non=>cases rx;exact SeqAt.EqAt.int_none a t'
  | bl b=>cases rx;exact SeqAt.EqAt.int_bool a t' b
  | int b=>obtain⟨t,rfl⟩:=rx;exact SeqAt.EqAt.int_int a t' b t
  | str b=>obtain⟨t,rfl⟩:=rx;exact SeqAt.EqAt.int_str a t' b t
  | _=>exact absurd (show false=true from fx) Bool.false_ne_true
 | str a=>
  obtain⟨t',rfl⟩:=ry
  cases x with
  | non=>cases rx;exact SeqAt.EqAt.str_none a t'
  | bl b=>cases rx;exact SeqAt.EqAt.str_bool a t' b
  | int b=>obtain⟨t,rfl⟩:=rx;exact SeqAt.EqAt.str_int a t' b t
  | str b=>obtain⟨t,rfl⟩:=rx;exact SeqAt.EqAt.str_str a t' b t
  | _=>exact absurd (show false=true from fx) Bool.false_ne_true
 | _=>exact absurd (show false=true from fy) Bool.false_ne_true
def eqU (x:V) (u:Value):Bool:=match u with
 | .none=>eqV .non x
 | .bool b=>eqV (.bl b) x
 | .int i _=>eqV (.int i) x
 | .str z _=>eqV (.str z) x
 | _=>false
theorem zU {x y:V}{u:Value}(r:RelV y u) (f:gF y=true):eqU x u=eqV y x:=by
 cases y with
 | non=>cases r;rfl
 | bl b=>cases r;rfl
 | int i=>obtain⟨t,rfl⟩:=r;rfl
 | str z=>obtain⟨t,rfl⟩:=r;rfl
 | _=>exact absurd (show false=true from f) Bool.false_ne_true
theorem lW {x:V}:∀ {xs:List V}{us:List Value},Vals xs us->xs.all gF=true->us.any (eqU x)=xs.any λy=>eqV y x
 | _,_,.nil,_=>rfl
 | y::xs,u::us,.cons r t,f=>by
  rw[List.all_cons,Bool.and_eq_true] at f
  rw[List.any_cons,List.any_cons,zU r f.1,lW t f.2]
theorem jK {A:Around}{s:Shared}{x:V}{v:Value}(rx:RelV x v) (fx:gF x=true):∀ {xs:List V}{us:List Value},Vals xs us->xs.all gF=true->∀ u∈us,SeqAt.EqAt A s u v (eqU x u)
 | _,_,.nil,_=>λu hu=>by cases hu
 | y::xs,u::us,.cons r t,f=>λu' hu=>by
  rw[List.all_cons,Bool.and_eq_true] at f
  rcases List.mem_cons.mp hu with rfl | hu
  ·rw[zU r f.1];exact JH r rx f.1 fx
  ·exact jK rx fx t f.2 u' hu
def inV (x:V) (xs:List V):Bool:=xs.any λy=>eqV y x
def rIn (K:PySem.W.Frag) (neg:Bool):R2:=λx y H Q=>∃ p xs,y=.ref p/\(SqL K H p xs\/SqT K H p xs)/\gF x=true/\xs.all gF=true/\Q (.bl (if neg then !inV x xs else inV x xs)) H
theorem zV:OpR X (compareOp .In) (rIn X.K false):=by
 intro pins s σ H x y v u Q I rx ry h
 obtain⟨p,xs,rfl,hq,fx,fs,q⟩:=h
 cases ry
 rcases hq with hq | hq
 ·obtain⟨its,r,pl,hz⟩:=I.list hq
  refine SeqAt.in_listAt (eqU x) pl.isList (λw hw=>jK rx fx r fs w (by simpa using hw)) ⟨.bl _,H,I,rfl,?_⟩
  rw[show its.toArray.any (eqU x)=its.any (eqU x) by simp,lW r fs]
  exact q
 ·obtain⟨its,r,pl,hz⟩:=I.tuple hq
  refine SeqAt.in_tupleAt (eqU x) pl (λw hw=>jK rx fx r fs w (by simpa using hw)) ⟨.bl _,H,I,rfl,?_⟩
  rw[show its.toArray.any (eqU x)=its.any (eqU x) by simp,lW r fs]
  exact q
theorem uQ:OpR X (compareOp .NotIn) (rIn X.K true):=by
 intro pins s σ H x y v u Q I rx ry h
 obtain⟨p,xs,rfl,hq,fx,fs,q⟩:=h
 cases ry
 rcases hq with hq | hq
 ·obtain⟨its,r,pl,hz⟩:=I.list hq
  refine SeqAt.notIn_listAt (eqU x) pl.isList (λw hw=>jK rx fx r fs w (by simpa using hw)) ⟨.bl _,H,I,rfl,?_⟩
  rw[show its.toArray.any (eqU x)=its.any (eqU x) by simp,lW r fs]
  exact q
 ·obtain⟨its,r,pl,hz⟩:=I.tuple hq
  refine SeqAt.notIn_tupleAt (eqU x) pl (λw hw=>jK rx fx r fs w (by simpa using hw)) ⟨.bl _,H,I,rfl,?_⟩
  rw[show its.toArray.any (eqU x)=its.any (eqU x) by simp,lW r fs]
  exact q
theorem uR:OpR X (compareOp .NotIn) (λx y H Q=>∃ i j,x=.str i/\y=.str j/\Q (.bl (!(!(Builtin.Str.occurrences j i 0 j.length 1).isEmpty))) H):=by
 intro pins s σ H x y v u Q I rx ry h
 obtain⟨i,j,rfl,rfl,q⟩:=h
 obtain⟨t,rfl⟩:=rx
 obtain⟨t',rfl⟩:=ry
 exact notIn_str ⟨.bl _,H,I,rfl,q⟩
theorem uT:CallR X (.builtin "len") (λxs H Q=>∃ p ys,xs=[.ref p]/\(SqL X.K H p ys\/SqT X.K H p ys)/\Q (.int ys.length) H):=by
 intro pins s σ H xs us Q I r h
 obtain⟨p,ys,rfl,hq,q⟩:=h
 obtain⟨u,rfl,rx⟩:=vals1 r
 cases rx
 have hn:=lV
 rcases hq with hq | hq
 ·obtain⟨its,r',pl,hz⟩:=I.list hq
  have hlen:=r'.length
  exact Calls.call_len_list pl.isList (by simp only[List.size_toArray] <;> omega) ⟨.int ys.length,H,I.tok _,⟨s.toks+1,by rw[List.size_toArray,hlen]⟩,q⟩
 ·obtain⟨its,r',pl,hz⟩:=I.tuple hq
  have hlen:=r'.length
  exact len_tuple pl (by simp only[List.size_toArray] <;> omega) ⟨.int ys.length,H,I.tok _,⟨s.toks+1,by rw[List.size_toArray,hlen]⟩,q⟩
theorem uU:CallR X (.builtin "len") (λxs H Q=>∃ z,xs=[.str z]/\z.length<=sizeLine/\Q (.int z.length) H):=by
 intro pins s σ H xs us Q I r h
 obtain⟨z,rfl,hz,q⟩:=h
 obtain⟨u,rfl,t,rfl⟩:=vals1 r
 have hn:=lV
 exact len_str (by omega) ⟨.int z.length,H,I.tok _,⟨_,rfl⟩,q⟩
theorem CallR.or {f:Value}{r r':List V->Hp->VK->Prop}(h:CallR X f r) (h':CallR X f r'):CallR X f (λxs H Q=>r xs H Q\/r' xs H Q):=by
 intro pins s σ H xs us Q I rs q
 rcases q with q | q
 ·exact h pins s σ H xs us Q I rs q
 ·exact h' pins s σ H xs us Q I rs q
theorem uV:CallR X (.type "list") (λxs H Q=>∃ p ys,xs=[.ref p]/\(SqL X.K H p ys\/SqT X.K H p ys)/\∀ l,H l=none->Q (.ref l) (upd H l (.lst ys))):=by
 intro pins s σ H xs us Q I r h
 obtain⟨p,ys,rfl,hq,q⟩:=h
 obtain⟨u,rfl,rx⟩:=vals1 r
 cases rx
 have fin:∀ (its:List Value),Vals ys its->ys.length<=sizeLine->∀ (h':Heap) (c':Nat),(∀ b o',s.heap.get? b=some o'->h'.get? b=some o')->
   h'.get? s.heap.objs.size=some { cls:=.type "list",dict:=none,data:=.seq its.toArray c',slots:=#[] }->EP X pins σ Q (.ref s.heap.objs.size) { s with heap:=h' }:=λits r' hz h' c' kp e=>
  ⟨.ref s.heap.objs.size,_,I.laid (t':=s.toks) kp (Nat.le_refl _) (show ObjOk X.prog X.w _ h' _ (.lst ys) from ⟨hz,its,c',r',e⟩),rfl,q _ (I.hok.fresh (Nat.le_refl _))⟩
 rcases hq with hq | hq
 ·obtain⟨its,r',pl,hz⟩:=I.list hq
  have hlen:=r'.length
  obtain⟨o,ho,hc,n,hd⟩:=pl.isList
  exact call_list_seq p (.inl rfl) ho hc hd (λh' c' kp e=>fin its r' hz h' c' kp e) (by simp only[List.size_toArray] <;> omega)
 ·obtain⟨its,r',pl,hz⟩:=I.tuple hq
  have hlen:=r'.length
  obtain⟨o,ho,hc,n,hd⟩:=pl
  exact call_list_seq p (.inr rfl) ho hc hd (λh' c' kp e=>fin its r' hz h' c' kp e) (by simp only[List.size_toArray] <;> omega)
theorem tX:CallR X (.type "tuple") (λxs H Q=>∃ p ys,xs=[.ref p]/\((SqL X.K H p ys/\∀ l,H l=none->Q (.ref l) (upd H l (.tup ys)))\/(SqT X.K H p ys/\Q (.ref p) H))):=by
 intro pins s σ H xs us Q I r h
 obtain⟨p,ys,rfl,h⟩:=h
 obtain⟨u,rfl,rx⟩:=vals1 r
 cases rx
 rcases h with ⟨hq,q⟩ | ⟨hq,q⟩
 ·obtain⟨its,r',pl,hz⟩:=I.list hq
  have hlen:=r'.length
  refine call_tuple_list pl.isList (λh' kp=>?_) (by simp only[List.size_toArray] <;> omega)
  have I1:Inv X pins σ H { s with heap:=h' }:=I.kept (t':=s.toks) kp
  have I2:Inv X pins σ (upd H h'.objs.size (.tup ys)) { s with heap:=h'.push { cls:=.type "tuple",data:=.seq its.toArray } }:=
   I1.laid (t':=s.toks) (λb o e=>Heap.get?_push_of_some _ e) (Nat.le_refl _) (show ObjOk X.prog X.w _ _ _ (.tup ys) from ⟨hz,its,r',IsTup.new _ _⟩)
  exact⟨.ref h'.objs.size,_,I2,rfl,q _ (I1.hok.fresh (Nat.le_refl _))⟩
 ·obtain⟨its,r',pl,hz⟩:=I.tuple hq
  exact call_tuple_same pl ⟨.ref p,H,I,rfl,q⟩
def tyV (K:PySem.W.Frag) (T:String) (x:V) (H:Hp):Prop:=match x with
 | .str _=>T = "str"
 | .int _=>T = "int"
 | .ref p=>(T = "list" /\ ∃ xs,SqL K H p xs)\/(T = "tuple" /\ ∃ o,K.lookup p=some o/\o.cls=.type "tuple" /\ o.dict=none) \/
   (T = "dict" /\ ((∃ kvs,H p=some (.dK kvs))\/∃ kvs,H p=some (.dT kvs)))\/(T = "set" /\ ∃ S n,H p=some (.set S n))
 | _=>False
theorem JK {pins:List (Addr×Obj)}{σ:St}{H:Hp}{s:Shared}{T:String}{x:V}{v:Value}(I:Inv X pins σ H s) (r:RelV x v) (ty:tyV X.K T x H):
  s.TypeIs v T/\∀ a,v=.ref a->∃ ob,s.heap.get? a=some ob/\ob.dict=none:=by
 cases x with
 | str z=>
  obtain⟨t,rfl⟩:=r
  cases (show T = "str" from ty)
  exact⟨typeIs_str s z t,λ_ e=>nomatch e⟩
 | int i=>
  obtain⟨t,rfl⟩:=r
  cases (show T = "int" from ty)
  exact⟨typeIs_int s i t,λ_ e=>nomatch e⟩
 | ref p=>
  cases r
  rcases ty with ⟨rfl,xs,hq⟩ | ⟨rfl,o,hk,hc,hd⟩ | ⟨rfl,hk⟩ | ⟨rfl,S,n,hk⟩
  ·obtain⟨its,_,pl,_⟩:=I.list hq
   refine⟨pl.isList.typeIs,λa e=>?_⟩
   cases e
   obtain⟨o,n,e,c,hd,_⟩:=pl
   exact⟨o,e,hd⟩
  ·refine⟨⟨o,I.kIn p o hk,hc⟩,λa e=>?_⟩
   cases e
   exact⟨o,I.kIn _ o hk,hd⟩
  ·have z:∃ o,s.heap.get? p=some o/\o.ExactDict:=by
    rcases hk with ⟨kvs,hk⟩ | ⟨kvs,hk⟩
    ·obtain⟨_,_,_,_,o,_,_,e,ex,_⟩:=I.hok p _ hk
     exact⟨o,e,ex⟩
    ·obtain⟨_,_,_,_,o,_,_,e,ex,_⟩:=I.hok p _ hk
     exact⟨o,e,ex⟩
   obtain⟨o,e,ex⟩:=z
   refine⟨⟨o,e,ex.1⟩,λa e2=>?_⟩
   cases e2
   exact⟨o,e,ex.2.1⟩
  ·obtain⟨o,_,_,_,e,ex,_⟩:=I.hok p _ hk
   refine⟨⟨o,e,ex.1⟩,λa e2=>?_⟩
   cases e2
   exact⟨o,e,ex.2.1⟩
 | _=>exact False.elim ty
def tBM (K:PySem.W.Frag) (T:String) (r:V->List V->Hp->VK->Prop) (to:TE) (t:TA):TE:=fun σ H Q=>to σ H λx H1=>tyV K T x H1/\t σ H1 λxs H2=>r x xs H2 Q
variable {o e:Expr}{es:List Expr}{to:TE}{t:TA}{name:Str}{apos cpos:Pos}{T id:String}{r:V->List V->Hp->VK->Prop}
theorem ql (pa:PlainAttrs T) (slot:Slot T name id) (hty:typeOf (.builtin id)=pure (.type "method_descriptor")) (hm:MtR X id r) (ho:PE X o to) (ha:PA X (e::es) t)
  (hbase:attributeBase o name X.env (eval o X.env)=eval o X.env:=by rfl)
  (hfew:((backTo cpos (starEach (e::es) X.env)).all (λx=>!x.1)&&(backToKw cpos (keywordEach [] X.env)).all (λx=>x.1.isSome)
   && decide ((e::es).length+([]:List Keyword).length+(if ([]:List Keyword).isEmpty then 0 else 1) < 30))=true:=by rfl)
  (hline:(apos.endLine == cpos.line)=true:=by rfl) (hs:starEach (e::es) X.env=(false,eval e X.env)::starEach es X.env:=by rfl) (hplain:(backTo cpos (starEach es X.env)).any (·.1)=false:=by rfl):
  PE X (.Call (.Attribute o name apos) (e::es) [] cpos) (tBM X.K T r to t):=by
 intro pins s σ H Q I h
 refine wpAny_Call_method_late hbase hfew hline rfl (thn (ho pins s σ H _ I h) λv s1 ⟨x,H1,I1,r1,ty,q1⟩=>?_)
 obtain⟨h1,h2⟩:=JK I1 r1 ty
 refine⟨T,id,pa,slot,hty,h1,h2,?_⟩
 have hA:=ha cpos pins s1 σ H1 _ I1 q1
 rw[hs] at hA ⊢
 refine Calls.callWith_builtin (by show (false||(backTo cpos (starEach es X.env)).any (·.1))=false;rw[hplain] <;> rfl) (Calls.evalArgs_plain ?_)
 exact thn hA λus s2 ⟨vs,H2,I2,r2,q2⟩=>hm pins s2 σ H2 x vs v us Q I2 r1 r2 q2
end
end L2
namespace L2
open PySem PySem.Spec PyProof.Rows
def MtM (X:Cx) (id:String) (r:V->List V->Hp->VK->Prop):Prop:=
 ∀ (pins:List (Addr×Obj)) (s:Shared) (σ:St) (H:Hp) (x:V) (xs:List V) (v:Value) (us:List Value) (Q:VK),Inv X pins σ H s->RelV x v->Vals xs us->r x xs H Q->
  wpAny (model X.prog X.w) X.A (call (.builtin id) (v::us)) (EP X pins σ Q) X.xe s
theorem Vals.one {x:V}{us:List Value}(h:Vals [x] us):∃ u,us=[u]/\RelV x u:=by
 cases h with
 | cons r t=>cases t;exact⟨_,rfl,r⟩
theorem Vals.two {x y:V}{us:List Value}(h:Vals [x,y] us):∃ u v,us=[u,v]/\RelV x u/\RelV y v:=by
 cases h with
 | cons r t=>
  obtain⟨v,rfl,q⟩:=Vals.one t
  exact⟨_,v,rfl,r,q⟩
theorem Vals.zero {us:List Value}(h:Vals [] us):us=[]:=by cases h;rfl
theorem Vals.reverse {xs:List V}{us:List Value}(h:Vals xs us):Vals xs.reverse us.reverse:=by
 induction h with
 | nil=>exact .nil
 | cons r t ih=>rw[List.reverse_cons,List.reverse_cons];exact Vals.append ih (.cons r .nil)
theorem Vals.rep {xs:List V}{us:List Value}(h:Vals xs us):∀ k:Nat,Vals (List.replicate k xs).flatten (List.replicate k us).flatten
 | 0=>.nil
 | k+1=>by
  rw[List.replicate_succ,List.replicate_succ,List.flatten_cons,List.flatten_cons]
  exact Vals.append h (Vals.rep h k)
theorem foldl_rep (its:List Value):∀ (k:Nat) (acc:List Value),
  List.foldl (λx1 x2=>x1++x2) acc.toArray (List.replicate k its.toArray)=(acc++(List.replicate k its).flatten).toArray
 | 0,acc=>by simp
 | k+1,acc=>by
  have e:acc.toArray++its.toArray=(acc++its).toArray:=by simp
  have e2:(acc++its)++(List.replicate k its).flatten=acc++(List.replicate (k+1) its).flatten:=by
   rw[List.replicate_succ,List.flatten_cons,List.append_assoc]
  rw[← e2,← foldl_rep its k (acc++its),← e,List.replicate_succ,List.foldl_cons]
section
variable {X:Cx}{pins:List (Addr×Obj)}{σ:St}{H:Hp}{s:Shared}{l b:Addr}{xs ys zs:List V}
theorem Inv.lset {its its':List Value}{n:Nat}{f:Array Value->Array Value}{t':Nat}(I:Inv X pins σ H s) (hH:H l=some (.lst xs))
  (e:s.heap.get? l=some { cls:=.type "list",data:=.seq its.toArray n }) (hf:f its.toArray=its'.toArray) (hv:Vals ys its') (hz:ys.length<=sizeLine):
  Inv X pins σ (upd H l (.lst ys)) { s with heap:=s.heap.update l (Obj.mapSeq f),toks:=t' }:=by
 have q:=PySem.IsL.update e f
 rw[hf] at q
 refine I.write (x:=l) (e:=l) (by rw[hH];exact trivial) (.inl rfl) (λb' u hb hu=>(Heap.get?_update_other s.heap (Obj.mapSeq f) (Ne.symm hb)).trans hu) ⟨_,q⟩ ?_
 exact⟨hz,its',_,hv,q⟩
theorem Inv.lnew {its:List Value}{t':Nat}(I:Inv X pins σ H s) (hv:Vals ys its) (hz:ys.length<=sizeLine):
  Inv X pins σ (upd H s.heap.objs.size (.lst ys)) { s with heap:=s.heap.push { cls:=.type "list",data:=.seq its.toArray },toks:=t' }:=
 I.laid (λ_ _ q=>Heap.get?_push_of_some _ q) (Nat.le_refl _) ⟨hz,its,0,hv,Heap.get?_push_size _ rfl⟩
theorem Inv.fresh (I:Inv X pins σ H s):H s.heap.objs.size=none:=I.hok.fresh (Nat.le_refl _)
theorem Inv.lstM (I:Inv X pins σ H s) (hH:H l=some (.lst xs)):xs.length<=sizeLine/\∃ (its:List Value) (n:Nat),Vals xs its/\xs.length=its.length/\s.heap.get? l=some { cls:=.type "list",data:=.seq its.toArray n }:=by
 obtain⟨z,its,n,r,e⟩:=I.hok l _ hH
 exact⟨z,its,n,r,r.length,e⟩
theorem uW {n:Nat}(h:n<=sizeLine):Builtin.List.listTooLong n=false:=by
 unfold Builtin.List.listTooLong
 exact decide_eq_false (by omega)
end
section
variable {X:Cx}
def Gx:V->List V->Hp->VK->Prop:=λx vs H Q=>∃ l xs y,x=.ref l/\vs=[y]/\H l=some (.lst xs)/\xs.length < sizeLine/\Q .non (upd H l (.lst (xs++[y])))
theorem jg:MtM X "list.append" Gx:=by
 intro pins s σ H x vs v us Q I rx rv h
 obtain⟨l,xs,y,rfl,rfl,hH,hz,q⟩:=h
 cases rx
 obtain⟨u,rfl,ru⟩:=rv.one
 obtain⟨z,its,n,r,hl,e⟩:=I.lstM hH
 refine call_meets F.slot_list_append ⟨_,e,rfl⟩ F.entry_list_append (F.args_list_append_2 _ _) (PySem.list_append l its.toArray n u (by rw[List.size_toArray];omega)) ⟨e,?_⟩
 refine⟨.non,_,I.lset (its':=its++[u]) hH e (by simp) (r.append (.cons ru .nil)) ?_,rfl,q⟩
 rw[List.length_append,List.length_singleton]
 omega
def Gy:V->List V->Hp->VK->Prop:=λx vs H Q=>∃ l b xs zs,x=.ref l/\vs=[.ref b]/\H l=some (.lst xs)/\H b=some (.lst zs)/\xs.length+zs.length<=sizeLine/\Q .non (upd H l (.lst (xs++zs)))
theorem zW:MtM X "list.extend" Gy:=by
 intro pins s σ H x vs v us Q I rx rv h
 obtain⟨l,b,xs,zs,rfl,rfl,hH,hB,hz,q⟩:=h
 cases rx
 obtain⟨u,rfl,ru⟩:=rv.one
 cases ru
 obtain⟨z,its,n,r,hl,e⟩:=I.lstM hH
 obtain⟨z2,its2,n2,r2,hl2,e2⟩:=I.lstM hB
 have hsz:its.toArray.size+its2.toArray.size<=sizeLine:=by rw[List.size_toArray,List.size_toArray];omega
 have hlong:¬ (!its.toArray.isEmpty&&Builtin.List.listTooLong (its.toArray.size+its2.toArray.size))=true:=by
  rw[uW hsz,Bool.and_false]
  exact Bool.false_ne_true
 refine call_meets F.slot_list_extend ⟨_,e,rfl⟩ F.entry_list_extend (F.args_list_extend_2 _ _)
  (AutoSeq1.list_extend_list_list_0 l its.toArray n b its2.toArray n2 hlong (by rw[List.size_toArray];omega) (by omega)) ⟨e,e2,?_⟩
 refine⟨.non,_,I.lset (its':=its++its2) hH e (by simp) (r.append r2) ?_,rfl,q⟩
 rw[List.length_append]
 omega
def Cr:R2:=λx y H Q=>∃ l b xs zs,x=.ref l/\y=.ref b/\H l=some (.lst xs)/\H b=some (.lst zs)/\xs.length+zs.length<=sizeLine/\∀ p,H p=none->Q (.ref p) (upd H p (.lst (xs++zs)))
theorem zX:OpR X (binaryOp .Add) Cr:=by
 intro pins s σ H x y v u Q I rx ry h
 obtain⟨l,b,xs,zs,rfl,rfl,hH,hB,hz,q⟩:=h
 cases rx
 cases ry
 obtain⟨z,its,n,r,hl,e⟩:=I.lstM hH
 obtain⟨z2,its2,n2,r2,hl2,e2⟩:=I.lstM hB
 refine PySem.P.add_list e e2 ?_ (by rw[List.size_toArray,List.size_toArray];omega)
 have ea:its.toArray++its2.toArray=(its++its2).toArray:=by simp
 rw[ea]
 exact⟨.ref _,_,I.lnew (t':=s.toks) (r.append r2) (by rw[List.length_append];omega),rfl,q _ I.fresh⟩
def JL:R2:=λx y H Q=>∃ l k xs,x=.ref l/\y=.int k/\H l=some (.lst xs)/\-(2 ^ 63)<=k/\k < 2 ^ 63/\xs.length*k.toNat<=sizeLine /\
 ∀ p,H p=none->Q (.ref p) (upd H p (.lst (List.replicate k.toNat xs).flatten))
theorem len_rep {α:Type}(xs:List α) (k:Nat):(List.replicate k xs).flatten.length=k*xs.length:=by
 induction k with
 | zero=>simp
 | succ k ih=>rw[List.replicate_succ,List.flatten_cons,List.length_append,ih,Nat.succ_mul,Nat.add_comm]
theorem JM:OpR X (binaryOp .Mult) JL:=by
 intro pins s σ H x y v u Q I rx ry h
 obtain⟨l,k,xs,rfl,rfl,hH,h1,h2,hz,q⟩:=h
 cases rx
 obtain⟨t,rfl⟩:=ry
 obtain⟨z,its,n,r,hl,e⟩:=I.lstM hH
 have hlen:its.toArray.size*k.toNat<=sizeLine:=by rw[List.size_toArray,← hl];exact hz
 have hcap:¬ its.toArray.size*k.toNat > (2 ^ 63 - 1) / 8:=by
  have:(sizeLine:Nat)<=(2 ^ 63 - 1) / 8:=by decide
  omega
 have hfit:¬ (!Builtin.List.listFitsIndex k)=true:=by
  rw[fitsIndex_both h1 h2]
  exact Bool.false_ne_true
 have hlong:¬ Builtin.List.listTooLong (its.toArray.size*k.toNat)=true:=by
  rw[uW hlen]
  exact Bool.false_ne_true
 have hnew:List.foldl (λx1 x2=>x1++x2) #[] (List.replicate (if its.toArray.isEmpty=true then 0 else k.toNat) its.toArray)=(List.replicate k.toNat its).flatten.toArray:=by
  have f0:∀ m:Nat,List.foldl (λx1 x2=>x1++x2) #[] (List.replicate m its.toArray)=(List.replicate m its).flatten.toArray:=λm=>by
   have:=foldl_rep its m []
   rw[List.nil_append] at this
   exact this
  rw[f0]
  cases its with
  | nil=>simp
  | cons a r'=>rw[if_neg (by simp)]
 refine wpAny_binaryOp_repeat_ref (T := "list") (U := "int") (by decide) ⟨_,e,rfl⟩ (λs'=>typeIs_int s' k t) noFill_list_mul F.fills_int_mul F.slot_int_rmul repeat_list F.slot_int_index.lookup
  (call_meets F.slot_int_rmul (typeIs_int s k t) F.entry_int_rmul (F.args_int_rmul_2 _ _) (int___rmul___int_list k t l its.toArray n)
   ⟨e,rfl,⟨_,e,rfl⟩,call_meets F.slot_list_mul ⟨_,e,rfl⟩ F.entry_list_mul (F.args_list_mul_2 _ _) (AutoListH.list___mul___list_int_3 l its.toArray n k t hfit hcap hlong) ⟨e,?_⟩⟩)
 rw[hnew]
 exact⟨.ref _,_,I.lnew (t':=s.toks) (r.rep k.toNat) (by rw[len_rep,Nat.mul_comm];exact hz),rfl,q _ I.fresh⟩
end
section
variable {prog:Program}{w:World}{A:Around}{E:Value->Shared->Prop}{s:Shared}
end
section
variable {X:Cx}
end
end L2
namespace Att
open PySem PySem.W PySem.Calls PyProof.Rows
theorem qm {P:Params}{h:Heap}:∀ (ns:List Int) (vs:List Value),WellAll P h vs (ns.map WData.int)->IntsAre vs ns:=by
 intro ns
 induction ns with
 | nil=>
  intro vs w
  rw[List.map_nil] at w
  cases w
  exact .nil
 | cons n ns ih=>
  intro vs w
  rw[List.map_cons] at w
  cases w with
  | cons a b=>
   cases a
   exact .cons _ _ (ih _ b)
theorem zY {l:OpenLaw}{n:Nat}(hn:l.most=some n){P:Params}{h:Heap}{args:List WData}{vals:List Value}
  (hpre:l.row.toRowW.claim.pre args=true) (hwl:WellAll P h vals args):
  ∃ a vs ns,vals=[Value.ref a]/\args=[WData.list (ns.map WData.int)]/\h.get? a=some { cls:=.type "list",data:=.seq vs.toArray }/\IntsAre vs ns/\ns.length<=n:=by
 have hsh:WShape.hasAll [] args [.list .int]=true:=(pre_splitW hpre).1
 have hc:l.pre.holds [] { args:=args }=true:=(pre_splitW hpre).2
 obtain⟨d,r,rfl,h1,h2⟩:=hasAllW_cons hsh
 obtain rfl:=hasAllW_nil h2
 obtain⟨xs,rfl,h3⟩:=hasW_list h1
 obtain⟨ns,rfl⟩:=items_int h3
 have hlen:ns.length<=n:=by
  unfold OpenLaw.pre at hc
  have h4:(WTm.not (.lt (.lit (.int (n:Int))) (.len (.arg 0)))).holds [] { args:=[.list (ns.map .int)] }=true:=by
   have h4:=(holds_andW hc).1
   rw[hn] at h4
   exact h4
  have h5:=condW_of h4 (w_not (w_lt w_lit (w_len_list (w_arg rfl))))
  rw[List.length_map] at h5
  refine Nat.le_of_not_lt λq=>?_
  have q':(n:Int) < ((ns.length:Nat):Int):=by omega
  first
   | (rw[decide_eq_true q'] at h5;exact absurd h5 (by decide))
   | (simp at h5;omega)
 cases hwl with
 | cons w1 w2=>
  cases w2
  cases w1 with
  | list ho hall=>exact⟨_,_,ns,rfl,rfl,ho,qm ns _ hall,hlen⟩
theorem zZ (l:OpenLaw) (args:List WData):l.row.toRowW.claim.post args (.bool true) args=true:=
 postW_of (r:=l.row.toRowW) (X:=(true == true))
  (show WShape.has [] (.bool true) .bool=true by first | rfl | decide | simp[WShape.has,WShape.arms,WShape.armsAll])
  (show (WTm.eq .res (.lit (.bool true))).value [] { args:=args,res:=some (.bool true),after:=args }=some (.bool (true == true)) from w_eq_bool (w_res rfl) w_lit) rfl
theorem attach_call {l:OpenLaw}{n:Nat}{q:Program}{loose:List Str}{XP:(Str->Option Value)->Heap->Prop}{YP:World->Heap->Prop}{d:DefRec}
  (hn:l.most=some n) (hdf:d.params.defaults=[])
  (call:∀ (w:World) (s₀ s₁:Shared) (mg mb:Str->Option Value) (fa:Addr) (o:Obj) (pm cd doc:Value) (a:Addr) (vs:List Value) (ns:List Int),
   Ground q loose [] XP w s₀ mg mb s₁.heap->YP w s₁.heap->
   s₁.heap.get? fa=some o->o.data=.func (docDef d.name d.params d.body d.scope pm cd doc)->s₁.heap.CodeRec cd d.name->mg d.name=some (.ref fa)->
   s₁.heap.get? a=some { cls:=.type "list",data:=.seq vs.toArray }->IntsAre vs ns->ns.length<=n->s₁.gens=#[]->
   codeAny (model l.prog w) callerA (.call (.ref fa) ⟨[.ref a],[]⟩) (λr s'=>r=.ok (.ret (.bool true))/\OldK s₁.heap s'.heap/\s'.os=s₁.os/\AllBare s'.gens) s₁):
  WalkO q loose XP YP l.row.toRowW d [] (λf vs=>PySem.call f vs):=by
 intro w s₀ s₁ mg mb G Y fa o pm cd doc dV kV ho hd hcd hD hmg hg args vals as hpre hlay hrd hwl hlo
 obtain rfl:dV=.none:=Dflts.none hD hdf
 obtain rfl:kV=.none:=Dflts.noKw hD
 obtain⟨a,vs,ns,rfl,rfl,hobj,hints,hlen⟩:=zY hn hpre hwl
 refine enter_call (codeAny_mono (call w s₀ s₁ mg mb fa o pm cd doc a vs ns G Y ho (fd_plain hd) hcd hmg hobj hints hlen hg) λr s' hq=>?_)
 obtain⟨rfl,h2,h3,h4⟩:=hq
 exact⟨.inl ⟨.bool true,.bool true,[],rfl,λ_=>rfl,.bool true,zZ l _,λ_=>⟨List.Pairwise.nil,λ_ hm=>(nomatch hm)⟩⟩,h2,h3,h4⟩
section
variable {prog:Program}{w:World}{A:Around}{E:Value->Shared->Prop}{s:Shared}{K:Frag}
def ledger (h:Heap) (L d:Addr):List (Addr×Obj):=(List.range h.objs.size).filterMap λa=>if a=L\/a=d then none else (h.get? a).map λo=>(a,o)
end
end Att
namespace L2
open PySem PySem.Spec PyProof.Rows
theorem sS:∀ {vs:List Value}{ns:List Int},IntsAre vs ns->Vals (ns.map V.int) vs
 | _,_,.nil=>.nil
 | _,_,.cons n t h=>.cons ⟨t,rfl⟩ (sS h)
def Only (H:Hp):Prop:=∀ b,H b=none\/∃ o xs,H b=some (.frz o (.lst xs))
theorem Cu {P:Program}{w:World}{K:PySem.W.Frag}{mg mb:Str->Option Value}{CX:CXT}{k:Nat}{fa a:Addr}{fd:FuncData}{x:Str}{sp:Sp}{s₁:Shared}{vs:List Value}{ns:List Int}
  (KX:K.In s₁.heap) (hns:s₁.heap.Ns mainGlobals mg) (hb:s₁.heap.Ns builtinsNs mb) (hbb:∀ x:Str,x ≠ "__name__" -> mb x=bootBuiltins x) (hlim:s₁.heap.NoLimit) (hg:s₁.gens=#[])
  (ha:s₁.heap.get? a=some { cls:=.type "list",data:=.seq vs.toArray }) (hi:IntsAre vs ns) (hl:ns.length<=sizeLine) (hr:Room k callerA)
  (F:∀ base:Heap,K.In base->base.Ns mainGlobals mg->FnOk P w K mg base CX k fa fd [x] sp) (hbind:∀ (s:Shared) (u:Value),BindsTo s fd ⟨[u],[]⟩ [(x,u)])
  (hsp:∀ H:Hp,Only H->SqL K H a (ns.map V.int)->sp [.ref a] H (λv _=>v=.bl true) λ_ _ _=>False)
  (hCX:∀ H e s',CX [] H s₁ (λ_ _ _=>False) e s'->False):
  codeAny (model P w) callerA (.call (.ref fa) ⟨[.ref a],[]⟩) (λr s'=>r=.ok (.ret (.bool true))/\OldK s₁.heap s'.heap/\s'.os=s₁.os/\AllBare s'.gens) s₁:=by
 have rv:=sS hi
 have lenV:=hi.length
 have core:∀ H:Hp,Only H->SqL K H a (ns.map V.int)->HOk P w H s₁.heap->(∀ b,H b≠none->b=a)->(H a≠none->K.lookup a=none)->
   codeAny (model P w) callerA (.call (.ref fa) ⟨[.ref a],[]⟩) (λr s'=>r=.ok (.ret (.bool true))/\OldK s₁.heap s'.heap/\s'.os=s₁.os/\AllBare s'.gens) s₁:=by
  intro H hO hS hok hA hK
  have base_of:∀ {b:Addr}{o:Obj},s₁.heap.get? b=some o->H b=none->(mH s₁.heap H).get? b=some o:=λe n=>BZ e n
  have noA:∀ {b:Addr}{o:Obj}{es:Array DictEntry}{ep:Nat},s₁.heap.get? b=some o->o.data=.dict es ep->H b=none:=λ{b o es ep} e d=>by
   cases q:H b with
   | none=>rfl
   | some u=>
    have e':b=a:=hA b (by rw[q];simp)
    subst e'
    rw[ha] at e;cases e
    have d':Data.seq vs.toArray _=Data.dict es ep:=d
    cases d'
  have nsK:∀ {b:Addr}{m:Str->Option Value},s₁.heap.Ns b m->(mH s₁.heap H).Ns b m:=λ{b m} ⟨o,es,ep,e,d,r⟩=>⟨o,es,ep,base_of e (noA e d),d,r⟩
  have hKb:K.In (mH s₁.heap H):=λb o e=>base_of (KX b o e) (by
   cases q:H b with
   | none=>rfl
   | some u=>
    have e':b=a:=hA b (by rw[q];simp)
    subst e'
    rw[hK (by rw[q];simp)] at e;cases e)
  have hM:Mod K mg (mH s₁.heap H):=⟨hKb,nsK hns,⟨mb,nsK hb,hbb⟩,let ⟨mc,h1,h2⟩:=hlim;⟨mc,nsK h1,h2⟩⟩
  have e0:Env0 P w K mg (mH s₁.heap H) callerA [] s₁ H:=⟨rfl,hM,λb o e=>F_ e,Nat.le_of_eq (zq _ _),trivial,λb hb=>absurd (show b∈([]:List Addr) from hb) (by simp),hok,.of_eq hg⟩
  refine codeAny_mono ((F _ hKb (nsK hns)).run callerA [] s₁ H ⟨[.ref a],[]⟩ [.ref a] [.ref a] _ _ hr e0 (hbind s₁ (.ref a)) (.cons rfl .nil) (hsp H hO hS)) λr s' h=>?_
  cases r with
  | error e=>exact(hCX H e s' h).elim
  | ok fl=>
   cases fl with
   | next=>exact False.elim h
   | brk=>exact False.elim h
   | cont=>exact False.elim h
   | ret u=>
    obtain⟨v,H',os,bare,un,hok',r',q⟩:=h
    have q':v=.bl true:=q
    subst q'
    obtain rfl:u=Value.bool true:=r'
    refine⟨rfl,OldK.of_keep λb o e=>?_,os,bare⟩
    cases q:H b with
    | none=>exact un.keep b o e q (by intro z;exact absurd (show b∈([]:List Addr) from z) (by simp)) (by simp)
    | some u=>
     rcases hO b with z | ⟨ob,xs,z⟩
     ·rw[q] at z;cases z
     ·have z2:=un.frzs b ob _ z
      obtain⟨e1,_⟩:=hok b _ z
      obtain⟨e2,_⟩:=hok' b _ z2
      rw[e] at e1;cases e1
      exact e2
 cases hk:K.lookup a with
 | some o=>
  have e:=KX a o hk
  rw[ha] at e
  cases e
  refine core (λ_=>none) (λ_=>.inl rfl) (.inr ⟨_,vs.toArray,_,hk,rfl,rfl,rfl,by rw[List.size_toArray,lenV];exact hl,by simpa using rv⟩) (λb u z=>by have z':(none:Option HO)=some u:=z;cases z') (λb z=>absurd rfl z) λz=>absurd rfl z
 | none=>
  refine core (λb=>if b=a then some (.frz { cls:=.type "list",data:=.seq vs.toArray } (.lst (ns.map V.int))) else none) (λb=>?_) (.inl (.inr ⟨{ cls:=.type "list",data:=.seq vs.toArray },if_pos rfl⟩)) (λb u z=>?_) (λb z=>?_) λ_=>hk
  ·by_cases hb:b=a
   ·exact .inr ⟨_,_,if_pos hb⟩
   ·exact .inl (if_neg hb)
  ·by_cases hb:b=a
   ·have z':=(if_pos hb).symm.trans z
    cases z'
    subst hb
    exact⟨ha,by rw[List.length_map];exact hl,vs,_,rv,ha⟩
   ·have z':=(if_neg hb).symm.trans z
    cases z'
  ·by_cases hb:b=a
   ·exact hb
   ·exact absurd (if_neg hb) z
end L2
namespace L2
open PySem PySem.Spec PyProof.Rows
theorem walk_of {l:PySem.W.OpenLaw}{n k:Nat}{q:Program}{loose:List Str}{XP:(Str->Option Value)->Heap->Prop}{YP:World->Heap->Prop}{d:DefRec}{K:Params->PySem.W.Frag}{CX:World->CXT}{sp:World->Sp}{x:Str}
  (hn:l.most=some n) (hn2:n<=sizeLine) (hdf:d.params.defaults=[]) (hr:Room k callerA)
  (hY:∀ (w:World) (h:Heap),YP w h->(K w.params).In h)
  (F:∀ (w:World) (mg:Str->Option Value) (fa:Addr) (h:Heap),(K w.params).In h->h.Ns mainGlobals mg->mg d.name=some (.ref fa)->
   ∃ fd:FuncData,(∀ (s:Shared) (u:Value),BindsTo s fd ⟨[u],[]⟩ [(x,u)]) /\
    ∀ base:Heap,(K w.params).In base->base.Ns mainGlobals mg->FnOk l.prog w (K w.params) mg base (CX w) k fa fd [x] (sp w))
  (hsp:∀ (w:World) (H:Hp) (a:Addr) (ns:List Int),ns.length<=n->Only H->SqL (K w.params) H a (ns.map V.int)->sp w [.ref a] H (λv _=>v=.bl true) λ_ _ _=>False)
  (hCX:∀ (w:World) (H:Hp) (s:Shared) (e:Value) (s':Shared),CX w [] H s (λ_ _ _=>False) e s'->False):
  PySem.W.WalkO q loose XP YP l.row.toRowW d [] (λf vs=>PySem.call f vs):=by
 refine Att.attach_call hn hdf λw s₀ s₁ mg mb fa o pm cd doc a vs ns G Y ho hd hcd hmg hobj hints hlen hg=>?_
 have KX:=hY w _ Y
 obtain⟨fd,hb,hF⟩:=F w mg fa _ KX G.T.g hmg
 exact Cu KX G.T.g G.T.b G.T.builtins G.T.nolimit hg hobj hints (Nat.le_trans hlen hn2) hr hF hb (λH hO hS=>hsp w H a ns hlen hO hS) λH e s'=>hCX w H s₁ e s'
end L2
namespace L2
open PySem PySem.Spec PyProof.Rows
def fX (s:Stmt):Arguments:=match s with
 | .FunctionDef _ a _ _ _ _ _ _ _ _=>a
 | _=>{ posonlyargs:=[],args:=[],vararg:=none,kwonlyargs:=[],kw_defaults:=[],kwarg:=none,defaults:=[] }
def dZ (s:Stmt):List Stmt:=match s with
 | .FunctionDef _ _ b _ _ _ _ _ _ _=>b
 | _=>[]
def aF (s:Stmt):Scope:=match s with
 | .FunctionDef _ _ _ _ _ _ sc _ _ _=>sc
 | _=>{ kind:=.function,names:=[],isGenerator:=false,isCoroutine:=false }
abbrev CX0:CXT:=λ_ _ _ _ _ _=>False
abbrev E0:XK:=λ_ _ _=>False
theorem M8 {X:Cx}:uK CX0 X E0:=λ_ _ _ _ _ _ _ h=>h.elim
structure Fun (K:PySem.W.Frag) (x qual:Str) (st:Stmt) (f:Addr) (fd:FuncData):Prop where
 ex:∃ (oc:Value) (od:Option Addr) (kV doc pm:Value) (an:Option Addr) (cdv ct:Value) (osl:Array (Option Value)),
  fd=PySem.W.fnOf x qual (fX st) (dZ st) (aF st) .none kV doc pm an cdv ct/\K.lookup f=some ⟨oc,od,.func fd,osl⟩/\PySem.W.codeIn K cdv qual=true
 kp:PySem.W.keepIn K (.ref f)=true
section
variable {P:Program}{w:World}{K:PySem.W.Frag}{mg:Str->Option Value}{base:Heap}
theorem Fun.ok {x qual:Str}{st:Stmt}{f:Addr}{fd:FuncData}{N ps:List Str}{k:Nat}{sp:Sp}(F:Fun K x qual st f fd) (S:FnScope N ps (aF st)) (len:∀ vs H Q E,sp vs H Q E->vs.length=ps.length)
  (hbody:∀ (cdv:Value) (A:Around) (outer:List Env) (s:Shared) (H:Hp) (vs:List V) (Q:VK) (E:XK),Room k (A.deeper (envOfC qual (aF st) s.heap.objs.size f cdv))->sp vs H Q E->
   ∃ t,PSs (pJ CX0 P w K mg base N qual (aF st) f cdv A outer s H E).nox (dZ st) t/\t { nx:=λ_ H'=>Q .non H',rt:=Q } (start N vs) H):FnOk P w K mg base CX0 (k+1) f fd ps sp:=by
 obtain⟨oc,od,kV,doc,pm,an,cdv,ct,osl,rfl,lk,hcd⟩:=F.ex
 refine MT lk hcd S len λA outer s H vs Q E hr hsp=>?_
 obtain⟨t,h,q⟩:=hbody cdv A outer s H vs Q E hr hsp
 exact⟨t,h.nox,q⟩
theorem Fun.binds {x qual:Str}{st:Stmt}{f:Addr}{fd:FuncData}{ps:List Str}(F:Fun K x qual st f fd)
  (h:∀ (kV doc pm:Value) (an:Option Addr) (cdv ct:Value) (us:List Value),us.length=ps.length->bindArgs (PySem.W.fnOf x qual (fX st) (dZ st) (aF st) .none kV doc pm an cdv ct) ⟨us,[]⟩=pure (ps.zip us)):Binds K fd ps []:=by
 obtain⟨oc,od,kV,doc,pm,an,cdv,ct,osl,rfl,lk,hcd⟩:=F.ex
 exact .all (h kV doc pm an cdv ct)
theorem fun_mk {x qual:Str}{st:Stmt}{f:Addr}{oc:Value}{od an:Option Addr}{osl:Array (Option Value)}{kV doc pm cdv ct:Value}(l:K.lookup f=some ⟨oc,od,.func (PySem.W.fnOf x qual (fX st) (dZ st) (aF st) .none kV doc pm an cdv ct),osl⟩)
  (c:PySem.W.codeIn K cdv qual=true) (k:PySem.W.keepIn K (.ref f)=true):Fun K x qual st f (PySem.W.fnOf x qual (fX st) (dZ st) (aF st) .none kV doc pm an cdv ct):=⟨⟨oc,od,kV,doc,pm,an,cdv,ct,osl,rfl,l,c⟩,k⟩
end
theorem mL {A:Around}{k:Nat}(hr:Room k A):A.units+1 < cLine:=Nat.lt_of_le_of_lt (Nat.add_le_add_left (by decide:1<=64) _) hr.units
theorem z7 {n:Nat}(h:n<=1000):n < sizeLine:=Nat.lt_of_le_of_lt h (by decide)
section
variable {X:Cx}
theorem pv (i:Nat){x:Str}{pos:Pos}(hN:X.N[i]?=some x:=by rfl) (hv:Vis X.env.scope x:=by first | exact Or.inl rfl | exact Or.inr (Or.inl rfl) | exact Or.inr (Or.inr rfl)) (hd:(x == ("__debug__" : Str))=false:=by decide)
  (hcd:(x == ("__classdict__" : Str))=false:=by decide):PE X (.Name x pos) (Iv i):=dN hN hv hd hcd
end
theorem Cv {A B:Prop}(h:B):if false=true then A else B:=by
 rw[if_neg Bool.false_ne_true]
 exact h
theorem Cw {A B:Prop}(h:A):if true=true then A else B:=by
 rw[if_pos rfl]
 exact h
def Same (H H':Hp):Prop:=∀ b o,H b=some o->H' b=some o
theorem Same.refl (H:Hp):Same H H:=λ_ _ h=>h
theorem Same.trans {H H1 H2:Hp}(a:Same H H1) (b:Same H1 H2):Same H H2:=λc o h=>b c o (a c o h)
theorem Same.free {H H':Hp}(e:Same H H'){l:Addr}(h:H' l=Option.none):H l=Option.none:=by
 cases q:H l with
 | none=>rfl
 | some o=>
  rw[e l o q] at h
  cases h
theorem Same.seq {K:PySem.W.Frag}{H H':Hp}{a:Addr}{xs:List V}(e:Same H H') (h:SqL K H a xs):SqL K H' a xs:=by
 rcases h with (h | ⟨o,h⟩) | h
 ·exact .inl (.inl (e _ _ h))
 ·exact .inl (.inr ⟨o,e _ _ h⟩)
 ·exact .inr h
end L2
namespace L2
open PySem PySem.Spec PyProof.Rows
section
variable {X:Cx}
theorem z8:CallR X (.builtin "len") (λxs H Q=>∃ a kvs,xs=[V.ref a]/\H a=some (.dK kvs)/\Q (.int kvs.length) H):=by
 intro pins s σ H xs us Q I r h
 obtain⟨a,kvs,rfl,ha,q⟩:=h
 obtain⟨u,rfl,ru⟩:=vals1 r
 cases ru
 exact M3 I (.inl ha) λt s' I'=>⟨.int kvs.length,H,I',⟨t,rfl⟩,q⟩
end
section
variable {κ:Type} [DecidableEq κ]
end
end L2
namespace L2
open PySem PySem.Spec PyProof.Rows
theorem pK {α β:Type}{l:List α}{f:α->β->Sem (ForInStep β)}(g:α->β->β):∀ (c:β),(∀ x∈l,∀ c,f x c=pure (.yield (g x c)))->
  forIn l c f=pure (l.foldl (λc x=>g x c) c):=by
 induction l with
 | nil=>intro c _;rfl
 | cons x l ih=>
  intro c h
  rw[List.forIn_cons,h x List.mem_cons_self,pure_bind]
  exact ih _ λy hy=>h y (List.mem_cons_of_mem _ hy)
def gh (env:Env) (x:Str×NameKind) (c:List (Str×Addr)):List (Str×Addr):=if x.2=.free then (x.1,(env.cells.lookup x.1).getD 0)::c else c
def pL (env:Env) (names:List (Str×NameKind)):List (Str×Addr):=names.foldl (λc x=>gh env x c) []
theorem tY {scope:Scope}{env:Env}(h:∀ x∈scope.names,x.2=.free->∃ c,env.cells.lookup x.1=some c):closureFor scope env=pure (pL env scope.names):=by
 simp only[closureFor]
 rw[pK (gh env) [] (λx hx c=>by
  obtain⟨n,kind⟩:=x
  by_cases e:kind=.free
  ·subst e
   obtain⟨a,ha⟩:=h _ hx rfl
   have ha':env.cells.lookup n=some a:=ha
   simp[gh,cellOf,ha']
  ·have:(kind == NameKind.free)=false:=by simpa using e
   simp[gh,e,this])]
 rfl
theorem qp {env:Env}:∀ (l:List (Str×NameKind)) (cs:List (Str×Addr)),(∀ x∈l,x.2=.free->∃ c,env.cells.lookup x.1=some c)->(∀ y c,cs.lookup y=some c->env.cells.lookup y=some c)->
  ∀ y c,(l.foldl (λc x=>gh env x c) cs).lookup y=some c->env.cells.lookup y=some c
 | [],cs,_,h2,y,c,e=>h2 y c e
 | x::r,cs,h1,h2,y,c,e=>by
  refine qp r (gh env x cs) (λz hz=>h1 z (List.mem_cons_of_mem _ hz)) (λz d q=>?_) y c e
  unfold gh at q
  by_cases k:x.2=.free
  ·rw[if_pos k] at q
   obtain⟨a,ha⟩:=h1 x List.mem_cons_self k
   rw[List.lookup_cons] at q
   cases hb:z == x.1 with
   | true=>
    rw[hb] at q
    have ez:z=x.1:=by simpa using hb
    rw[ha] at q
    have q':a=d:=by simpa using q
    rw[ez,ha,q']
   | false=>
    rw[hb] at q
    exact h2 z d q
  ·rw[if_neg k] at q
   exact h2 z d q
theorem jL {env:Env}{names:List (Str×NameKind)}(h:∀ x∈names,x.2=.free->∃ c,env.cells.lookup x.1=some c){y:Str}{c:Addr}(e:(pL env names).lookup y=some c):env.cells.lookup y=some c:=
 qp names [] h (λy c q=>by simp at q) y c e
theorem qt {env:Env}{y:Str}:∀ (l:List (Str×NameKind)) (cs:List (Str×Addr)),((y,.free)∈l\/∃ c,cs.lookup y=some c)->∃ c,(l.foldl (λc x=>gh env x c) cs).lookup y=some c
 | [],cs,h=>by
  rcases h with h | h
  ·simp at h
  ·exact h
 | x::r,cs,h=>by
  refine qt r (gh env x cs) ?_
  rcases h with h | ⟨c,h⟩
  ·rcases List.mem_cons.mp h with e | e
   ·refine .inr ⟨(env.cells.lookup y).getD 0,?_⟩
    rw[← e]
    simp[gh]
   ·exact .inl e
  ·refine .inr ?_
   unfold gh
   split
   ·rw[List.lookup_cons]
    split
    ·exact⟨_,rfl⟩
    ·exact⟨c,h⟩
   ·exact⟨c,h⟩
theorem z9 {env:Env}{names:List (Str×NameKind)}{y:Str}(h:(y,.free)∈names):∃ c,(pL env names).lookup y=some c:=qt names [] (.inl h)
theorem mem_of_lookup {x:Str}{k:NameKind}:∀ {l:List (Str×NameKind)},l.lookup x=some k->(x,k)∈l
 | [],h=>by simp at h
 | (n,j)::r,h=>by
  rw[List.lookup_cons] at h
  cases hb:x == n with
  | true=>
   rw[hb] at h
   have e:x=n:=by simpa using hb
   have e2:j=k:=by simpa using h
   rw[e,e2]
   exact List.mem_cons_self
  | false=>
   rw[hb] at h
   exact List.mem_cons_of_mem _ (mem_of_lookup h)
theorem nR {env:Env}:∀ {names:List (Str×NameKind)}{x:Str},names.lookup x=some .free->
  (names.map λ(n,k)=>if (k == NameKind.free&&env.scope.kind == .function&&env.kindOf n == some .cell) then (n,NameKind.cell) else (n,k)).lookup x=some .cell \/
  (names.map λ(n,k)=>if (k == NameKind.free&&env.scope.kind == .function&&env.kindOf n == some .cell) then (n,NameKind.cell) else (n,k)).lookup x=some .free
 | [],_,h=>by simp at h
 | (n,k)::r,x,h=>by
  have ih:=@nR env r x
  cases hx:x == n with
  | true=>
   simp only[List.lookup_cons,hx] at h
   cases h
   by_cases hc:(NameKind.free == NameKind.free&&env.scope.kind == .function&&env.kindOf n == some .cell)=true
   ·refine .inl ?_
    simp only[List.map_cons,if_pos hc,List.lookup_cons,hx]
   ·refine .inr ?_
    simp only[List.map_cons,if_neg hc,List.lookup_cons,hx]
  | false=>
   simp only[List.lookup_cons,hx] at h
   have ih:=ih h
   by_cases hc:(k == NameKind.free&&env.scope.kind == .function&&env.kindOf n == some .cell)=true
   ·simp only[List.map_cons,if_pos hc,List.lookup_cons,hx]
    exact ih
   ·simp only[List.map_cons,if_neg hc,List.lookup_cons,hx]
    exact ih
theorem mO {env:Env}:∀ {names:List (Str×NameKind)}{x:Str}{j:NameKind},(∀ y∈names,y.2≠.cell)->(j=.cell\/j=.free)->
  (names.map λ(n,k)=>if (k == NameKind.free&&env.scope.kind == .function&&env.kindOf n == some .cell) then (n,NameKind.cell) else (n,k)).lookup x=some j->(x,.free)∈names
 | [],_,_,_,_,h=>by simp at h
 | (n,k)::r,x,j,hn,hj,h=>by
  have ih:=@mO env r x j (λy hy=>hn y (List.mem_cons_of_mem _ hy)) hj
  cases hx:x == n with
  | true=>
   have e:x=n:=by simpa using hx
   subst e
   by_cases hc:(k == NameKind.free&&env.scope.kind == .function&&env.kindOf x == some .cell)=true
   ·have hk:k=.free:=by
     simp only[Bool.and_eq_true,beq_iff_eq] at hc
     exact hc.1.1
    subst hk
    exact List.mem_cons_self
   ·simp only[List.map_cons,if_neg hc,List.lookup_cons,hx] at h
    have hk:k=j:=by simpa using h
    rcases hj with z | z
    ·exact absurd (hk.trans z) (hn (x,k) List.mem_cons_self)
    ·rw[hk,z]
     exact List.mem_cons_self
  | false=>
   by_cases hc:(k == NameKind.free&&env.scope.kind == .function&&env.kindOf n == some .cell)=true
   ·simp only[List.map_cons,if_pos hc,List.lookup_cons,hx] at h
    exact List.mem_cons_of_mem _ (ih h)
   ·simp only[List.map_cons,if_neg hc,List.lookup_cons,hx] at h
    exact List.mem_cons_of_mem _ (ih h)
abbrev Cx.comp (X:Cx) (N:List Str) (scope:Scope) (C:Addr) (s:Shared) (H:Hp) (fp:List Addr):Cx where
 prog:=X.prog
 w:=X.w
 K:=X.K
 mg:=X.mg
 base:=X.base
 A:=X.A
 N:=N
 s₀:=s
 H₀:=H
 env:=compEnvC scope (pL X.env scope.names) C X.env
 outer:=X.stack
 stack:=X.stack
 ex:=fp
 fn:=λ_=>false
 calm:=X.calm
 pn:=[]
 xe:=λ_ _=>False
def ul (scope:Scope) (ON N:List Str) (cap:List (Option Nat)):Bool:=
 cap.length == N.length&&(List.range N.length).all λj=>match cap[j]? with
  | some (some i)=>(match N[j]?,ON[i]? with
   | some x,some y=>x == y&&(scope.names.lookup x == some NameKind.free)
   | _,_=>false)
  | _=>true
structure CSc (osc scope:Scope) (ON N:List Str) (cap:List (Option Nat)):Prop where
 kind:scope.kind=.function
 noc:∀ y∈scope.names,y.2≠.cell
 loc:∀ y∈scope.names,y.2=.local->scope.names.lookup y.1=some .local
 fr:∀ y∈scope.names,y.2=.free->osc.names.lookup y.1=some .cell\/osc.names.lookup y.1=some .free
 cap:ul scope ON N cap=true
theorem CSc.at {osc scope:Scope}{ON N:List Str}{cap:List (Option Nat)}(S:CSc osc scope ON N cap){j i:Nat}{x:Str}(h:cap[j]?=some (some i)) (hx:N[j]?=some x):ON[i]?=some x/\scope.names.lookup x=some .free:=by
 have h0:=S.cap
 unfold ul at h0
 rw[Bool.and_eq_true] at h0
 have hj:j < N.length:=(List.getElem?_eq_some_iff.mp hx).1
 have h1:=List.all_eq_true.mp h0.2 j (List.mem_range.mpr hj)
 rw[h] at h1
 dsimp only at h1
 rw[hx] at h1
 cases hy:ON[i]? with
 | none=>rw[hy] at h1;simp at h1
 | some y=>
  rw[hy] at h1
  simp only[Bool.and_eq_true,beq_iff_eq] at h1
  exact⟨by rw[h1.1],h1.2⟩
theorem CSc.len {osc scope:Scope}{ON N:List Str}{cap:List (Option Nat)}(S:CSc osc scope ON N cap):cap.length=N.length:=by
 have h0:=S.cap
 unfold ul at h0
 rw[Bool.and_eq_true,beq_iff_eq] at h0
 exact h0.1
def uX (σ:St):Option Nat->Option V
 | some i=>(σ[i]?).getD none
 | none=>none
def dU (cap:List (Option Nat)) (σ:St):St:=cap.map (uX σ)
def nU (X:Cx) (ifs:List Expr) (t:TT):Prop:=
 ∀ (pins:List (Addr×Obj)) (s:Shared) (σ:St) (H:Hp) (Q:Bool->Hp->Prop),Inv X pins σ H s->t σ H Q->
  wpAny (model X.prog X.w) X.A (forIn ifs true λc r=>if r=true then do let ok ← isTrue c X.env (eval c X.env);pure (ForInStep.yield ok) else pure (ForInStep.yield r)) (TP X pins σ Q) X.xe s
def O8:TT:=λ_ H Q=>Q true H
theorem Cy {X:Cx}:nU X [] O8:=λ_ _ _ H _ I h=>wpAny_tests_nil ⟨H,I,h⟩
theorem mQ {X:Cx}{c:Expr}{t:TT}(h:PT X c t):nU X [c] t:=λpins s σ H Q I q=>wpAny_tests_one (h pins s σ H Q I q)
theorem kh {prog:Program}{w:World}{A:Around}{R:Result->Shared->Prop}{s:Shared}{elt target iter:Expr}{ifs:List Expr}{scope:Scope}{pos:Pos}{it acc:Value}{env:Env}(I:Nat->Shared->Prop)
  (turn:∀ n s,I n s->wpAny (model prog w) A (pyNext it) (λr s₁=>match r with
   | none=>R (.ok .next) s₁
   | some v=>wpAny (model prog w) A (letOwnedTupleGo target it v) (λ_ s₁'=>wpAny (model prog w) A (assign target env v) (λ_ s₂=>
     wpAny (model prog w) A (forIn ifs true λc r=>if r=true then do let ok ← isTrue c env (eval c env);pure (ForInStep.yield ok) else pure (ForInStep.yield r)) (λok s₃=>
      if ok=true then wpAny (model prog w) A (eval elt env) (λx s₄=>
       wpAny (model prog w) A (call (.builtin "list.append") [acc,x]) (λ_ s₅=>∃ m,m < n/\I m s₅) (λ_ _=>False) s₄) (λ_ _=>False) s₃
      else ∃ m,m < n/\I m s₃) (λ_ _=>False) s₂) (λ_ _=>False) s₁') (λ_ _=>False) s₁) (λ_ _=>False) s)
  (n:Nat) (h:I n s):
  codeAny (model prog w) A (.compLoop (.ListComp elt [⟨target,iter,ifs,0⟩] scope pos) 0 it acc env) R s:=by
 refine codeAny_loop rfl I (λn s hI=>?_) n h
 show wpAny _ A ((compTurn (.ListComp elt [⟨target,iter,ifs,0⟩] scope pos) 0 it acc env).onRaise (λx=>do noteFrame x env;theTreesLotGoes x)) _ _ s
 refine wpAny_noted ?_
 rw[compTurn_list]
 refine wpAny_bind (wpAny_standAt (wpAny_bind (wpAny_mono (turn n s hI) (λr s₁ h₁=>?_) λ_ _ h'=>h'.elim)))
 cases r with
 | none=>exact wpAny_pure h₁
 | some v=>
  refine wpAny_bind (wpAny_mono h₁ (λ_ s₁' h₁'=>?_) λ_ _ h'=>h'.elim)
  refine wpAny_bind (wpAny_mono h₁' (λ_ s₂ h₂=>wpAny_bind (wpAny_mono h₂ (λok s₃ h₃=>?_) λ_ _ h'=>h'.elim)) λ_ _ h'=>h'.elim)
  cases ok with
  | false=>exact wpAny_pure ⟨rfl,h₃⟩
  | true=>
   exact wpAny_bind (wpAny_bind (wpAny_mono h₃ (λx s₄ h₄=>wpAny_bind (wpAny_mono h₄ (λ_ s₅ h₅=>wpAny_pure (wpAny_pure ⟨rfl,h₅⟩)) λ_ _ h'=>h'.elim)) λ_ _ h'=>h'.elim))
def Kp (σ σ2:St):Prop:=σ.length=σ2.length/\∀ (i:Nat) (v:V),σ[i]?=some (some v)->σ2[i]?=some (some v)
structure TComp (wi:TI) (cap:List (Option Nat)) (g:TG) (tt:TT) (te:TE) (σ:St) (H:Hp) (Q:VK):Prop where
 ex:wi σ H λJ H1=>∀ D,H1 D=none->∃ W:Nat->Nat->List V->Hp->Prop,
 (∃ m,W 0 m [] (upd H1 D (.lst [])))/\∀ i m ys H,W i m ys H->H D=some (.lst ys)/\((J.stop i H/\Q (.ref D) H) \/
  (J.go i H/\∃ N:List V->Hp->Prop,(∀ ys' H',N ys' H'->∃ m',m' < m/\W (i+1) m' ys' H')/\∀ x H',J.yld i H x H'->g x (dU cap σ) H' fun σ2 H2=>Kp (dU cap σ) σ2/\tt σ2 H2 λb H3=>
   if b=true then te σ2 H3 λy H4=>H4 D=some (.lst ys)/\ys.length < sizeLine/\N (ys++[y]) (upd H4 D (.lst (ys++[y]))) else N ys H3))
def um (wi:TI) (cap:List (Option Nat)) (g:TG) (tt:TT) (te:TE):TE:=fun σ H Q=>TComp wi cap g tt te σ H Q
section
variable {X:Cx}{tg iter elt:Expr}{ifs:List Expr}{scope osc:Scope}{ON N:List Str}{cap:List (Option Nat)}{wi:TI}{g:TG}{tt:TT}{te:TE}{pos:Pos}
theorem Gz {pins:List (Addr×Obj)}{σ:St}{H2:Hp}{s2:Shared}{fp:List Addr}{C:Addr}(I2:Inv X pins σ H2 s2) (S:CSc osc scope ON N cap) (hsc:X.env.scope=osc) (f2:∀ b∈fp,jm X pins H2 b)
  (hfp:∀ b∈fp,b < s2.heap.objs.size) (hC:s2.heap.objs.size<=C):(X.comp N scope C s2 H2 fp).Ok:=by
 have hfr:∀ x∈scope.names,x.2=.free->∃ c,X.env.cells.lookup x.1=some c:=λx hx e=>I2.ok.has x.1 (by
  rcases S.fr x hx e with z | z
  ·exact .inl (by rw[Env.kindOf,hsc];exact z)
  ·exact .inr (by rw[Env.kindOf,hsc];exact z))
 refine⟨I2.mod,S.kind,I2.ok.glob,I2.ok.blt,hC,λx y c h1 h2=>I2.ok.inj x y c (jL hfr h1) (jL hfr h2),λx h=>?_,λx c h=>by simp at h,I2.ok.hd,I2.ok.frames,.inl rfl,λb hb=>⟨?_,λx c e=>?_⟩,λb o e=>I2.bs b o e,?_,λb o e hb=>?_,λb hb hz=>?_,I2.stack,I2.stkFree⟩
 ·have hm:(x,NameKind.free)∈scope.names:=by
   rcases h with h | h
   ·exact mO (env:=X.env) S.noc (.inl rfl) h
   ·exact mO (env:=X.env) S.noc (.inr rfl) h
  exact z9 hm
 ·exact Nat.ne_of_lt (Nat.lt_of_lt_of_le (hfp b hb) hC)
 ·exact(f2 b hb).2.2.2.2.1 x c (jL hfr e)
 ·exact Nat.le_trans I2.ok.bsz I2.sz
 ·rcases(f2 b hb).2.2.2.1 with z | z
  ·exact I2.ok.noex b o e z
  ·exact absurd (Nat.lt_of_lt_of_le (Heap.lt_size e) (Nat.le_trans I2.ok.bsz z)) (Nat.lt_irrefl _)
 ·obtain⟨_,f1,f3,_⟩:=f2 b hb
  rcases List.mem_cons.mp (I2.stkSub b hz) with z | z
  ·exact f1 z
  ·exact f3 z
theorem sU {pins:List (Addr×Obj)}{s:Shared}{σ:St}{H:Hp}{Q:VK}{RR:Value->Addr->Result->Shared->Prop}{cqual:Str}(hc:X.calm=true) (S:CSc osc scope ON N cap) (hsc:X.env.scope=osc) (hN:X.N=ON)
  (hi:PI X tg iter wi) (hg:∀ C s H fp,PG (X.comp N scope C s H fp) tg g) (ht:∀ C s H fp,nU (X.comp N scope C s H fp) ifs tt) (he:∀ C s H fp,PE (X.comp N scope C s H fp) elt te)
  (I:Inv X pins σ H s) (h:um wi cap g tt te σ H Q)
  (fin:∀ D C H' s',Inv X pins σ H' s'->jm X pins H' C->(∃ m,s'.heap.Ns C m)->Q (.ref D) H'->RR (.ref D) C (.ok .next) s'):
  wpAny (model X.prog X.w) X.A (eval iter X.env) (λx s₁=>wpAny (model X.prog X.w) X.A (pyIter x) (λitv s₂=>wpAny (model X.prog X.w) X.A (newList []) (λacc s₃=>
   wpAny (model X.prog X.w) X.A (newFunctionEnv scope X.env.globals (pL X.env scope.names) [] X.env.qual none .none (some X.env)) (λcenv s₄=>
    codeAny (model X.prog X.w) X.A (.compStart (.ListComp elt [⟨tg,iter,ifs,0⟩] scope pos) 0 itv acc { cenv with scope:=relabel scope X.env }) (RR acc cenv.locals) s₄) X.xe s₃) X.xe s₂) X.xe s₁) X.xe s:=by
 refine thn (hi pins s σ H _ I h.ex) λv s1 h1=>thn h1 λitv s2 h2=>?_
 obtain⟨it,fp,tn,J,H2,e,I2,T,st2,f2,q2⟩:=h2
 subst e
 refine wpAny_newObj_type (wpAny_newFunctionEnv S.noc (by intro y hy;simp at hy) (λh₁ hns₁ hsb₁=>?_) S.kind)
 dsimp only at hns₁ hsb₁ ⊢
 generalize hH2:s2.heap.push { cls:=.type "list",dict:=none,data:=.seq ([]:List Value).toArray }=P2 at hns₁ hsb₁ ⊢
 generalize hD:s2.heap.objs.size=D
 generalize hCe:P2.objs.size=C at hns₁ hsb₁ ⊢
 have hCD:C=D+1:=by rw[← hCe,← hH2,Heap.size_push,hD]
 have hCle:s2.heap.objs.size<=C:=by rw[hCD,hD];exact Nat.le_succ _
 have hfp:∀ b∈fp,b < s2.heap.objs.size:=λb hb=>by
  obtain⟨o,e,_⟩:=T.obj 0 _ st2 b hb
  exact Heap.lt_size e
 have below:∀ b,b < s2.heap.objs.size->b≠C:=λb hb=>Nat.ne_of_lt (Nat.lt_of_lt_of_le hb hCle)
 have k1:∀ b o,s2.heap.get? b=some o->h₁.get? b=some o:=λb o e=>hsb₁.extBut b o (below b (Heap.lt_size e)) (Heap.get?_push_of_some _ (hH2▸Heap.get?_push_of_some _ e))
 have hDC:D≠C:=by rw[hCD];exact Nat.ne_of_lt (Nat.lt_succ_self _)
 have gD:h₁.get? D=some { cls:=.type "list",dict:=none,data:=.seq ([]:List Value).toArray }:=by
  refine hsb₁.extBut D _ hDC (Heap.get?_push_of_some _ ?_)
  rw[← hH2,← hD]
  exact Heap.get?_push_size _ rfl
 have nD:H2 D=none:=I2.hok.fresh (by rw[hD];exact Nat.le_refl _)
 have nC:H2 C=none:=I2.hok.fresh hCle
 have hfr:∀ x∈scope.names,x.2=.free->∃ c,X.env.cells.lookup x.1=some c:=λx hx e=>I2.ok.has x.1 (by
  rcases S.fr x hx e with z | z
  ·exact .inl (by rw[Env.kindOf,hsc];exact z)
  ·exact .inr (by rw[Env.kindOf,hsc];exact z))
 obtain⟨W,⟨m0,w0⟩,turn⟩:=q2 D nD
 have IY:Inv (X.comp N scope C s2 H2 fp) [] (dU cap σ) (upd H2 D (.lst [])) { s2 with heap:=h₁,toks:=s2.toks+([]:List (Str×Value)).length }:=by
  have hp:s2.heap.objs.size<=D:=by rw[hD];exact Nat.le_refl _
  refine⟨Gz I2 S hsc f2 hfp hCle,rfl,I2.bare,Un.laid k1 hp nD,⟨_,hns₁,λj x v e1 e2 e3=>?_⟩,λx c e=>?_,?_,λx c e=>?_,λp hp=>by simp at hp,I2.hok.laid k1 hp ⟨Nat.zero_le _,[],_,.nil,gD⟩,?_⟩
  ·have e2':(cap.map (uX σ))[j]?=some (some v):=e2
   rw[List.getElem?_map] at e2'
   cases q:cap[j]? with
   | none=>rw[q] at e2';cases e2'
   | some o=>
    rw[q] at e2'
    have e4:uX σ o=some v:=Option.some.inj e2'
    cases o with
    | none=>cases e4
    | some i=>
     have hσ:σ[i]?=some (some v):=by
      have e5:(σ[i]?).getD none=some v:=e4
      cases z:σ[i]? with
      | none=>rw[z] at e5;cases e5
      | some w=>rw[z] at e5;exact congrArg some e5
     obtain⟨hx1,hx2⟩:=S.at q e1
     have hk:X.env.kindOf x=some .cell\/X.env.kindOf x=some .free:=by
      rcases S.fr _ (mem_of_lookup hx2) rfl with z | z
      ·exact .inl (by rw[Env.kindOf,hsc];exact z)
      ·exact .inr (by rw[Env.kindOf,hsc];exact z)
     obtain⟨m,hn,hl⟩:=I2.loc
     obtain⟨u,r,l⟩:=hl i x v (by rw[hN];exact hx1) hσ (by
      rcases hk with z | z
      ·exact .inr (.inl z)
      ·exact .inr (.inr z))
     refine⟨u,r,?_⟩
     rcases l with ⟨z,_⟩ | ⟨_,c,hc',hcell⟩
     ·rcases hk with y | y
      ·rw[y] at z;cases z
      ·rw[y] at z;cases z
     ·obtain⟨c',hc2⟩:=z9 (env:=X.env) (mem_of_lookup hx2)
      have e6:=jL hfr hc2
      rw[hc'] at e6
      have e7:c=c':=Option.some.inj e6
      subst e7
      obtain⟨oc,ho,hd⟩:=hcell
      exact .inr ⟨nR (env:=X.env) hx2,c,hc2,⟨oc,k1 c oc ho,hd⟩⟩
  ·obtain⟨v,oc,ho,hd⟩:=I2.cell x c (jL hfr e)
   exact⟨v,oc,k1 c oc ho,hd⟩
  ·show upd H2 D (.lst []) C=none
   rw[aH (Ne.symm hDC)]
   exact nC
  ·have e':=jL hfr e
   obtain⟨v,oc,ho,hd⟩:=I2.cell x c e'
   show upd H2 D (.lst []) c=none
   rw[aH (λz=>absurd (Heap.lt_size ho) (by rw[z,hD];exact Nat.lt_irrefl _))]
   exact I2.freeC x c e'
  ·show (cap.map (uX σ)).length=N.length
   rw[List.length_map]
   exact S.len
 have stat:∀ {H':Hp},(∀ b∈fp,H' b=none)->∀ b∈fp,jm (X.comp N scope C s2 H2 fp) [] H' b:=λhn b hb=>by
  obtain⟨_,f1,f3,f4,f5,f6⟩:=f2 b hb
  refine⟨hn b hb,below b (hfp b hb),λhz=>?_,.inl hb,λx c e=>f5 x c (jL hfr e),λp hp=>by simp at hp⟩
  rcases List.mem_cons.mp (I2.stkSub b hz) with z | z
  ·exact f1 z
  ·exact f3 z
 have back:∀ {σ':St}{H':Hp}{s':Shared},Inv (X.comp N scope C s2 H2 fp) [] σ' H' s'->Inv X pins σ H' s':=λ{σ' H' s'} I'=>
  I2.call' (ch:=fp) I'.os I'.base I'.hok I'.bare λb hb=>let ⟨_,f1,_,f4,f5,f6⟩:=f2 b hb;⟨f4,f1,f5,f6⟩
 have st1:tn 0 h₁:=T.keep 0 _ _ st2 λb _ o e=>k1 b o e
 have fr1:∀ b∈fp,upd H2 D (.lst []) b=none:=λb hb=>by
  rw[aH (λz=>absurd (hfp b hb) (by rw[z,hD];exact Nat.lt_irrefl _))]
  exact(f2 b hb).1
 have loop:codeAny (model X.prog X.w) X.A (.compLoop (.ListComp elt [⟨tg,iter,ifs,0⟩] scope pos) 0 (.ref it) (.ref D) (compEnvC scope (pL X.env scope.names) C X.env)) (RR (.ref D) C) { s2 with heap:=h₁,toks:=s2.toks+([]:List (Str×Value)).length }:=by
  refine kh (λn s'=>∃ i ys H',Inv (X.comp N scope C s2 H2 fp) [] (dU cap σ) H' s'/\tn i s'.heap/\(∀ b∈fp,H' b=none)/\W i n ys H') ?_ m0 ⟨0,[],_,IY,st1,fr1,w0⟩
  rintro n s3 ⟨i,ys,H3,I3,st3,fr3,w3⟩
  obtain⟨hDy,hturn⟩:=turn i n ys H3 w3
  rcases hturn with ⟨stop,qn⟩ | ⟨go,Nx,hNx,step⟩
  ·refine thn (T.done (X.comp N scope C s2 H2 fp) rfl rfl rfl hc i [] s3 (dU cap σ) H3 _ I3 (stat fr3) st3 stop) λr s4 ⟨hr,I4⟩=>?_
   subst hr
   obtain⟨m,hm,_⟩:=I4.loc
   exact fin D C H3 s4 (back I4) (I2.fpOk hCle I4.free) ⟨m,hm⟩ qn
  ·refine thn (T.item (X.comp N scope C s2 H2 fp) rfl rfl rfl hc i [] s3 (dU cap σ) H3 _ I3 (stat fr3) st3 go) λr s4 ⟨u,hr,h4⟩=>?_
   subst hr
   refine thn h4 λ_ s5 ⟨x,H5,I5,r5,y5,st5,fr5⟩=>?_
   have I5':=I5.pinned (stat fr5) (T.obj _ _ st5)
   refine thn (hg C s2 H2 fp _ s5 (dU cap σ) H5 x u _ I5' r5 (step x H5 y5)) λ_ s6 ⟨σ6,H6,I6,kp6,q6⟩=>?_
   refine thn (ht C s2 H2 fp _ s6 σ6 H6 _ I6 q6) λb s7 ⟨H7,I7,q7⟩=>?_
   have again:∀ {ys':List V}{H7:Hp}{s7:Shared},Inv (X.comp N scope C s2 H2 fp) ([]++nQ fp s5.heap) σ6 H7 s7->Nx ys' H7->∃ m,m < n/\∃ i ys H',Inv (X.comp N scope C s2 H2 fp) [] (dU cap σ) H' s7/\tn i s7.heap/\(∀ b∈fp,H' b=none)/\W i m ys H':=λ{ys' H7 s7} I7 n7=>by
    obtain⟨m',hm,w7⟩:=hNx ys' H7 n7
    refine⟨m',hm,i+1,ys',H7,I7.unpinned.weak kp6.1 kp6.2,T.keep _ _ _ st5 λb hb o e=>(I7.pin (b,o) (List.mem_append_right _ (List.mem_append_right _ (jx hb e)))).1,λb hb=>?_,w7⟩
    obtain⟨o,e,d⟩:=T.obj _ _ st5 b hb
    exact(I7.pin (b,o) (List.mem_append_right _ (List.mem_append_right _ (jx hb e)))).2.1
   cases b with
   | false=>
    rw[if_neg Bool.false_ne_true] at q7 ⊢
    exact again I7 q7
   | true=>
    rw[if_pos rfl] at q7 ⊢
    refine thn (he C s2 H2 fp _ s7 σ6 H7 _ I7 q7) λxv s8 ⟨y,H8,I8,r8,hD8,hl8,n8⟩=>?_
    refine thn (jg (X:=X.comp N scope C s2 H2 fp) _ s8 σ6 H8 (.ref D) [y] (.ref D) [xv] (λ_ H9=>Nx (ys++[y]) H9) I8 rfl (.cons r8 .nil) ⟨D,ys,y,rfl,rfl,hD8,hl8,n8⟩) λ_ s9 ⟨_,H9,I9,_,n9⟩=>?_
    exact again I9 n9
 subst hD hCe
 exact codeAny_compStart_list loop (T.self _ 0 _ _ _ st1 loop)
theorem uY {pins:List (Addr×Obj)}{s:Shared}{σ:St}{H:Hp}(S:CSc osc scope ON N cap) (hsc:X.env.scope=osc) (I:Inv X pins σ H s):closureFor scope X.env=pure (pL X.env scope.names):=
 tY λx hx e=>I.ok.has x.1 (by
  rcases S.fr x hx e with z | z
  ·exact .inl (by rw[Env.kindOf,hsc];exact z)
  ·exact .inr (by rw[Env.kindOf,hsc];exact z))
theorem Inv.letgo {pins:List (Addr×Obj)}{s':Shared}{σ:St}{H':Hp}{C:Addr}{h':Heap}(I:Inv X pins σ H' s') (f:jm X pins H' C) (hs:Heap.SameBut C s'.heap h'):Inv X pins σ H' { s' with heap:=h' }:=
 I.turned (t':=s'.toks) (it:=C) (λb o hb e=>(hs.2 b hb).trans e) f.1 f.2.1 f.2.2.2.1 f.2.2.2.2.1 f.2.2.2.2.2
theorem GC (S:CSc osc scope ON N cap) (hi:PI X tg iter wi) (hg:∀ C s H fp,PG (X.comp N scope C s H fp) tg g) (ht:∀ C s H fp,nU (X.comp N scope C s H fp) ifs tt) (he:∀ C s H fp,PE (X.comp N scope C s H fp) elt te)
  (hc:X.calm=true:=by rfl) (hsc:X.env.scope=osc:=by rfl) (hN:X.N=ON:=by rfl) (hs:∀ x,foldedSetIterable iter X.env x=pure x:=by intro _;rfl):PE X (.ListComp elt [⟨tg,iter,ifs,0⟩] scope pos) (um wi cap g tt te):=by
 intro pins s σ H Q I h
 rw[eval_ListComp]
 refine wpAny_comprehension_free (use:=none) rfl hs (uY S hsc I) S.kind S.loc ?_
 refine sU (RR:=λacc C=>compPost (model X.prog X.w) X.A X.xe none (EP X pins σ Q) acc C) (cqual := "") hc S hsc hN hi hg ht he I h λD C H' s' I' f hm q=>?_
 obtain⟨m,hm⟩:=hm
 exact⟨m,hm,λh' hs'=>⟨.ref D,H',I'.letgo f hs',rfl,q⟩⟩
theorem GD {i:Nat}{y:Str}{py spos:Pos}(S:CSc osc scope ON N cap) (hNd:X.N.Nodup) (hi':X.N[i]?=some y) (hy:Loc X.env.scope y) (hi:PI X tg iter wi) (hg:∀ C s H fp,PG (X.comp N scope C s H fp) tg g) (ht:∀ C s H fp,nU (X.comp N scope C s H fp) ifs tt) (he:∀ C s H fp,PE (X.comp N scope C s H fp) elt te)
  (hsw:swapsWith (.ListComp elt [⟨tg,iter,ifs,0⟩] scope pos) (some (.Name y py)) spos.line X.env=pure true:=by rfl)
  (hc:X.calm=true:=by rfl) (hsc:X.env.scope=osc:=by rfl) (hN:X.N=ON:=by rfl) (hs:∀ x,foldedSetIterable iter X.env x=pure x:=by intro _;rfl)
  (hf:X.fn y=true\/X.env.scope.names.lookup y=some .local:=by first | exact .inl rfl | exact .inr rfl | assumption):
  PS X (.Assign [.Name y py] (.ListComp elt [⟨tg,iter,ifs,0⟩] scope pos) spos) (Cd (um wi cap g tt te) (oW i)):=by
 intro pins s σ H D0 I h
 rw[exec_Assign_Name_used _ _ _ _ hsw]
 refine wpAny_bind (wpAny_standAt (wpAny_bind ?_))
 show wpAny _ _ (do let _ ← comprehension (.ListComp elt [⟨tg,iter,ifs,0⟩] scope pos) scope X.env _ (newList []) false (eval iter X.env) (some (assign (.Name y py) X.env))) _ _ s
 refine wpAny_bind (wpAny_mono (wpAny_comprehension_free (use:=some (assign (.Name y py) X.env)) (Q:=λ_ s'=>SP X pins D0 .next s') rfl hs (uY S hsc I) S.kind S.loc
  (sU (RR:=λacc C=>compPost (model X.prog X.w) X.A X.xe (some (assign (.Name y py) X.env)) (λ_ s'=>SP X pins D0 .next s') acc C) (cqual := "") hc S hsc hN hi hg ht he I h λD C H' s' I' f hm q=>?_))
  (λ_ s' hq=>wpAny_pure (wpAny_pure hq)) λ_ _ e=>e)
 obtain⟨m,hm⟩:=hm
 show wpAny _ _ (assign (.Name y py) X.env (.ref D)) _ _ s'
 refine wpAny_assign_Name (sy I' hNd hi' hy (v:=.ref D) rfl (λs'' I'' hch=>?_) hf)
 obtain⟨a,hsb,ha⟩:=hch
 have nCa:C≠a:=by
  rintro rfl
  rcases ha with z | z
  ·exact f.2.1 z
  ·exact f.2.2.2.2.1 y C z rfl
 refine⟨m,hm.sameBut hsb nCa,λh' hs'=>⟨_,H',I''.letgo f hs',q⟩⟩
end
section
variable {tt:TT}{te:TE}{Q:VK}{σ0 rest:St}{H:Hp}{D:Addr}
end
end L2
namespace L2
open PySem PySem.Spec PyProof.Rows
section
variable {X:Cx}{pins:List (Addr×Obj)}{σ:St}{H H':Hp}{s:Shared}{h':Heap}
theorem Inv.turnedL {t':Nat}{ch:List Addr}{a:Addr}{o:HO}(I:Inv X pins σ H s) (k:∀ b u,b∉ch->s.heap.get? b=some u->h'.get? b=some u) (ht:∀ b u,s.heap.get? b=some u->∃ u',h'.get? b=some u') (hf:∀ b∈ch,jm X pins H b)
  (hp:s.heap.objs.size<=a) (new:ObjOk X.prog X.w (upd H a o) h' a o):Inv X pins σ (upd H a o) { s with heap:=h',toks:=t' }:=by
 have hn:H a=none:=I.hok.fresh hp
 have nch:∀ b u,H b=some u->b∉ch:=λb u e hb=>by
  rw[(hf b hb).1] at e;cases e
 have na:∀ b u,s.heap.get? b=some u->b≠a:=λb u e=>Nat.ne_of_lt (Nat.lt_of_lt_of_le (Heap.lt_size e) hp)
 have hhok:HOk X.prog X.w (upd H a o) h':=λb u e=>by
  by_cases hb:b=a
  ·subst hb;rw[aP] at e;cases e;exact new
  ·rw[aH hb] at e
   refine(I.hok b u e).stay (λc v hc q=>k c v ?_ q) (λc q=>by rw[aH (aV q hn)];exact q) λc xs q=>by rw[aH (aV q hn)];exact q
   rcases hc with rfl | hc
   ·exact nch c u e
   ·exact nch c _ hc
 refine I.step (g':=s.gens) (d':=s.drawn) (ch:=ch) (λb hb=>let ⟨_,f1,_,f4,f5,f6⟩:=hf b hb;⟨f4,f1,f5,f6⟩) (λb o _ _ hc e _=>k b o hc e) (λb o _ _ hc e _=>⟨o.slots,k b o hc e⟩)
  (λb o _ e n=>by rw[aH (na b o e)];exact n) (λb o _ e=>ht b o e) (λb xs q=>by rw[aH (aV q hn)];exact q) (λb u xs q=>by rw[aH (aV q hn)];exact q)
  (λb ps q=>⟨#[],by rw[aH (aV q hn),q];simp⟩) (λm hm=>?_) hhok I.bare
 obtain⟨oL,es,ep,ho,r⟩:=hm
 have nL:X.env.locals∉ch:=λhb=>(hf _ hb).2.1 rfl
 exact⟨oL,es,ep,k _ oL nL ho,r⟩
end
section
variable {X:Cx}
end
def Its (x:Str):It:=⟨λi _=>i < x.cps.size,λi H v H'=>H'=H/\∃ c,x.cps[i]?=some c/\v=.str ⟨#[c]⟩,λi _=>i=x.cps.size⟩
theorem uZ {P:Program}{w:World}{K:PySem.W.Frag}{tg:Expr}(it:Addr) (x:Str) (t:Tok) (ty:String) (hty:["enumerate", "zip", "dict_itemiterator", "dict_reverseitemiterator", "odict_iterator", "itertools.zip_longest", "itertools.pairwise"].contains ty=false)
  (W:∀ A:Around,A.handled=none->Walks P w A it [it] [it] x.cps.size (SignAt x) (λi h=>h.IsStrIter it ty x t i))
  (slf:∀ (A:Around) (i:Nat) (s:Shared) (Q:Value->Shared->Prop) (E:Value->Shared->Prop),s.heap.IsStrIter it ty x t i->Q (.ref it) s->wpAny (model P w) A (pyIter (.ref it)) Q E s):
  Turn P w K tg (Its x) [it] it (λi h=>h.IsStrIter it ty x t i) where
 mem:=by simp
 obj:=λi h st b hb=>by
  have e:b=it:=by simpa using hb
  subst e
  obtain⟨o,e,c,d⟩:=st
  exact⟨o,e,λv z=>by rw[d] at z;cases z⟩
 keep:=λi h h' st k=>by
  obtain⟨o,e,r⟩:=st
  exact⟨o,k it (by simp) o e,r⟩
 item:=by
  intro X hP hw hK hc i pins s σ H E I hf st hg
  subst hP hw hK
  obtain⟨f0,f1,f2,f3,f4,f5⟩:=hf it (by simp)
  refine(W X.A (I.ok.hd hc)).item i s _ _ hg st λv h' tk hv st' kk=>?_
  obtain⟨c,u,hx,rfl⟩:=hv
  have I1:Inv X pins σ H { s with heap:=h',toks:=tk }:=I.turned (λb o hb e=>kk b o (by simpa using hb) e) f0 f1 f3 f4 f5
  obtain⟨o,e,cc,d⟩:=id st'
  exact⟨_,rfl,mJ (s:={ s with heap:=h',toks:=tk }) e cc d hty ⟨.str ⟨#[c]⟩,H,I1,⟨u,rfl⟩,⟨rfl,c,hx,rfl⟩,st',λb hb=>(hf b hb).1⟩⟩
 done:=by
  intro X hP hw hK hc i pins s σ H E I hf st hg
  subst hP hw hK
  obtain⟨f0,f1,f2,f3,f4,f5⟩:=hf it (by simp)
  have hg':i=x.cps.size:=hg
  subst hg'
  exact(W X.A (I.ok.hd hc)).done s _ _ st λh' tk kk=>⟨rfl,I.turned (λb o hb e=>kk b o (by simpa using hb) e) f0 f1 f3 f4 f5⟩
 self:=slf
section
variable {X:Cx}{tg:Expr}
def O9 (tl:TE):TI:=fun σ H R=>tl σ H λx H1=>∃ z,x=.str z/\R (Its z) H1
theorem JN {l:Expr}{tl:TE}(hl:PE X l tl):PI X tg l (O9 tl):=by
 intro pins s σ H R I h
 refine thn (hl pins s σ H _ I h) λv s1 ⟨x,H1,I1,r1,q1⟩=>?_
 obtain⟨z,e,q⟩:=q1
 subst e
 obtain⟨t,rfl⟩:=r1
 have fp:∀ b∈[s1.heap.objs.size],jm X pins H1 b:=λb hb=>by
  have e:b=s1.heap.objs.size:=by simpa using hb
  subst e
  exact I1.fpOk (Nat.le_refl _) (I1.hok.fresh (Nat.le_refl _))
 cases ha:z.cps.all (· < 128)
 ·exact wpAny_pyIter_wide ha ⟨s1.heap.objs.size,[s1.heap.objs.size],_,_,H1,rfl,I1.kept (t':=s1.toks) λb o e=>Heap.get?_push_of_some _ e,uZ _ z t "str_iterator" (by decide) (λA hA=>Walks.strWide hA _ z t) (λA i s Q E st h=>wpAny_pyIter_striter_wide st h),⟨_,Heap.get?_push_size _ rfl,rfl,rfl⟩,fp,q⟩
 ·exact wpAny_pyIter_ascii ha ⟨s1.heap.objs.size,[s1.heap.objs.size],_,_,H1,rfl,I1.kept (t':=s1.toks) λb o e=>Heap.get?_push_of_some _ e,uZ _ z t "str_ascii_iterator" (by decide) (λA hA=>Walks.strAscii hA _ z t) (λA i s Q E st h=>wpAny_pyIter_striter_ascii st h),⟨_,Heap.get?_push_size _ rfl,rfl,rfl⟩,fp,q⟩
end
section
variable {tt:TT}{te:TE}{Q:VK}{σ0 rest:St}{H:Hp}{D:Addr}
end
section
variable {X:Cx}
theorem q_ (hc:X.calm=true:=by rfl):CallR X (.type "list") (λxs H Q=>∃ p kvs,xs=[.ref p]/\H p=some (.dK kvs)/\∀ l,H l=none->Q (.ref l) (upd H l (.lst (kvs.map λkv=>kV kv.1)))):=by
 intro pins s σ H xs us Q I r h
 obtain⟨p,kvs,rfl,hp,q⟩:=h
 obtain⟨u,rfl,rx⟩:=vals1 r
 cases rx
 obtain⟨hz,lo,vs,rel,hD⟩:=E_ I.hok hp
 obtain⟨o,es,ep,ho,hx,hd,hk,hpr,hn⟩:=hD
 have hlen:=rel.length
 refine PySem.W.kdl_call (PySem.W.kdl_dict (knd:=fW X.prog X.w) (kvs:=vs) (ep:=ep) lo) (I.ok.hd hc) ⟨o,es,ho,hx,hd,hk,hpr,hn⟩ (by omega) λh' tk acc' c' kk hS hacc=>?_
 have hv:Vals (kvs.map λkv=>kV kv.1) acc'.toList:=by
  have gen:∀ (l:List (Key×V)) (l2:List (Key×Value)) (us:List Value),KV l l2->us.length=l2.length->(∀ (j:Nat) (v:Value),us[j]?=some v->∃ k x,l2[j]?=some (k,x)/\(fW X.prog X.w).is k v=true)->Vals (l.map λkv=>kV kv.1) us:=by
   intro l
   induction l with
   | nil=>
    intro l2 us hr hl hu
    cases hr
    have:us=[]:=List.length_eq_zero_iff.mp hl
    subst this
    exact .nil
   | cons a r ih=>
    intro l2 us hr hl hu
    cases hr with
    | @cons _ b _ r2 h1 h2=>
     cases us with
     | nil=>simp at hl
     | cons v us=>
      obtain⟨k,x,e,hk⟩:=hu 0 v rfl
      have e':b=(k,x):=by simpa using e
      have ek:a.1=k:=by rw[h1.1,e']
      refine .cons ?_ (ih r2 us h2 (by simpa using hl) λj w e=>by simpa using hu (j+1) w (by simpa using e))
      show RelV (kV a.1) v
      rw[ek]
      rcases bR hk with ⟨i,t,rfl,rfl⟩ | ⟨x,t,rfl,rfl⟩
      ·exact⟨t,rfl⟩
      ·exact⟨t,rfl⟩
  refine gen kvs vs acc'.toList rel (by rw[Array.length_toList];exact hacc.1) λj v e=>hacc.2 j v (by rw[← Array.getElem?_toList];exact e)
 refine⟨.ref s.heap.objs.size,_,I.laid kk (Nat.le_refl _) (show ObjOk X.prog X.w _ h' _ (.lst _) from ⟨?_,acc'.toList,c',hv,?_⟩),rfl,q _ I.fresh⟩
 ·rw[List.length_map];omega
 ·simpa using hS
mutual
inductive Dt (K:PySem.W.Frag) (H:Hp):V->PyData->Prop
 | non:Dt K H .non .none
 | bl (b:Bool):Dt K H (.bl b) (.bool b)
 | int (i:Int):Dt K H (.int i) (.int i)
 | str (x:Str):Dt K H (.str x) (.str x)
 | lst {a:Addr}{xs:List V}{ds:List PyData}:SqL K H a xs->Dts K H xs ds->Dt K H (.ref a) (.list ds)
 | tup {a:Addr}{xs:List V}{ds:List PyData}:SqT K H a xs->Dts K H xs ds->Dt K H (.ref a) (.tuple ds)
inductive Dts (K:PySem.W.Frag) (H:Hp):List V->List PyData->Prop
 | nil:Dts K H [] []
 | cons {x:V}{xs:List V}{d:PyData}{ds:List PyData}:Dt K H x d->Dts K H xs ds->Dts K H (x::xs) (d::ds)
end
mutual
theorem Dt.reads {pins:List (Addr×Obj)}{σ:St}{H:Hp}{s:Shared}(I:Inv X pins σ H s):∀ {x:V}{d:PyData}{u:Value},Dt X.K H x d->RelV x u->∃ as,Reads s.heap u d as
 | _,_,_,.non,r=>by cases r;exact⟨[],.none⟩
 | _,_,_,.bl b,r=>by cases r;exact⟨[],.bool b⟩
 | _,_,_,.int i,r=>by obtain⟨t,rfl⟩:=r;exact⟨[],.int i t⟩
 | _,_,_,.str x,r=>by obtain⟨t,rfl⟩:=r;exact⟨[],.str x t⟩
 | _,_,_,.lst hq hs,r=>by
  cases r
  obtain⟨its,rv,pl,_⟩:=I.list hq
  obtain⟨o,e,c,n,d⟩:=pl.isList
  obtain⟨as,ra⟩:=Dts.reads I hs rv
  exact⟨_,.list e c d (by simpa using ra)⟩
 | _,_,_,.tup hq hs,r=>by
  cases r
  obtain⟨its,rv,pl,_⟩:=I.tuple hq
  obtain⟨o,e,c,n,d⟩:=pl
  obtain⟨as,ra⟩:=Dts.reads I hs rv
  exact⟨_,.tuple e c d (by simpa using ra)⟩
theorem Dts.reads {pins:List (Addr×Obj)}{σ:St}{H:Hp}{s:Shared}(I:Inv X pins σ H s):∀ {xs:List V}{ds:List PyData}{us:List Value},Dts X.K H xs ds->Vals xs us->∃ as,ReadsAll s.heap us ds as
 | _,_,_,.nil,r=>by cases r;exact⟨[],.nil⟩
 | _,_,_,.cons h hs,r=>by
  cases r with
  | cons r1 r2=>
   obtain⟨as,ra⟩:=Dt.reads I h r1
   obtain⟨bs,rb⟩:=Dts.reads I hs r2
   exact⟨_,.cons ra rb⟩
end
theorem JP (hu:X.A.units+64 < cLine):OpR X (compareOp .Eq) (λx y H Q=>∃ d e,Dt X.K H x d/\Dt X.K H y e/\SeqAt.shaped d=true/\SeqAt.shaped e=true/\Q (.bl (PyData.eqv d e)) H):=by
 intro pins s σ H x y v u Q I rx ry h
 obtain⟨d,e,h1,h2,s1,s2,q⟩:=h
 obtain⟨as,ra⟩:=h1.reads I rx
 obtain⟨bs,rb⟩:=h2.reads I ry
 exact eq_dataH ra rb s1 s2 hu ⟨.bl _,H,I,rfl,q⟩
theorem JQ (hu:X.A.units+64 < cLine):OpR X (compareOp .NotEq) (λx y H Q=>∃ d e,Dt X.K H x d/\Dt X.K H y e/\SeqAt.shaped d=true/\SeqAt.shaped e=true/\Q (.bl (!PyData.eqv d e)) H):=by
 intro pins s σ H x y v u Q I rx ry h
 obtain⟨d,e,h1,h2,s1,s2,q⟩:=h
 obtain⟨as,ra⟩:=h1.reads I rx
 obtain⟨bs,rb⟩:=h2.reads I ry
 exact ne_dataH ra rb s1 s2 hu ⟨.bl _,H,I,rfl,q⟩
theorem wL:CallR X (.builtin "isinstance") (λxs H Q=>∃ x n t b,xs=[x,.ty n]/\TyOf X.K H x t/\PySem.W.kitOne X.K t (.type n)=some b/\Q (.bl b) H):=by
 intro pins s σ H xs us Q I r h
 obtain⟨x,n,t,b,rfl,ty,e,q⟩:=h
 obtain⟨u,w',rfl,r1,r2⟩:=vals2 r
 cases r2
 exact zK I r1 ty e λtk=>⟨.bl b,H,I.tok _,rfl,q⟩
end
end L2
namespace L2
open PySem PySem.Spec PyProof.Rows
structure Cal (P:Program) (w:World) (K:PySem.W.Frag) (mg:Str->Option Value) (base:Heap) (k:Nat) (x:Str) (ps:List Str) (sp:Sp):Prop where
 ex:∃ f fd,FnOk P w K mg base CX0 k f fd ps sp/\Binds K fd ps []/\PySem.W.keepIn K (.ref f)=true/\mg x=some (.ref f)
theorem bI {P:Program}{w:World}{K:PySem.W.Frag}{mg:Str->Option Value}{base:Heap}{k:Nat}{x:Str}{ps:List Str}{sp:Sp}{st:Stmt}{f:Addr}{fd:FuncData}(F:Fun K x x st f fd)
  (hm:mg x=some (.ref f)) (hb:Binds K fd ps []) (G:FnOk P w K mg base CX0 k f fd ps sp):Cal P w K mg base k x ps sp:=⟨f,fd,G,hb,F.kp,hm⟩
theorem z_ {X:Cx}{k j:Nat}{x:Str}{ps:List Str}{sp:Sp}{p pos:Pos}{e:Expr}{es:List Expr}{t:TA}(c:Cal X.prog X.w X.K X.mg X.base k x ps sp) (hr:Room j X.A) (ha:PA X (e::es) t) (hle:k<=j:=by decide) (hg:Gl X x:=by rfl)
  (hdb:(x == ("__debug__" : Str))=false:=by decide) (he:starEach (e::es) X.env=(false,eval e X.env)::starEach es X.env:=by rfl) (hpl:(backTo pos (starEach es X.env)).any (·.1)=false:=by rfl):
  PE X (.Call (.Name x p) (e::es) [] pos) (Ey sp [] E0 t):=by
 obtain⟨f,fd,G,hb,kp,hm⟩:=c.ex
 exact Gm G (hr.mono hle) hg hm kp hb .nil M8 ha hdb he hpl
theorem bh {H:Hp}{p:Addr}(h:H p=none) (o:HO):Same H (upd H p o):=λb u q=>by rw[aH (aV q h)];exact q
theorem Same.new {H H':Hp}{p:Addr}(s:Same H H') (h:H' p=none) (o:HO):Same H (upd H' p o):=s.trans (bh h o)
theorem Same.over {H H':Hp}{p:Addr}(s:Same H H') (h:H p=none) (o:HO):Same H (upd H' p o):=λb u q=>by rw[aH (aV q h)];exact s b u q
theorem small {n:Nat}(h:n<=1000):n<=sizeLine:=Nat.le_of_lt (z7 h)
theorem gG {n:Nat}(h:n<=1000000):n < sizeLine:=Nat.lt_of_le_of_lt h (by decide)
abbrev PureAt (t:TE) (σ:St) (H:Hp) (v:V):Prop:=∀ H',Same H H'->∀ Q:VK,(∀ H'',Same H' H''->Q v H'')->t σ H' Q
abbrev PureT (t:TT) (σ:St) (H:Hp) (b:Bool):Prop:=∀ H',Same H H'->∀ Q:Bool->Hp->Prop,(∀ H'',Same H' H''->Q b H'')->t σ H' Q
section
variable {tt:TT}{te:TE}{Q:VK}{σ0 rest:St}{H:Hp}{D:Addr}
end
section
variable {K:PySem.W.Frag}{wi:TI}{cap:List (Option Nat)}{tt:TT}{te:TE}{σ rest:St}{H:Hp}{Q:VK}{xs:List V}
theorem PureAt.same {t:TE}{H1:Hp}{v:V}(h:PureAt t σ H v) (s:Same H H1):PureAt t σ H1 v:=λH' s' Q q=>h H' (s.trans s') Q q
theorem PureT.same {t:TT}{H1:Hp}{b:Bool}(h:PureT t σ H b) (s:Same H H1):PureT t σ H1 b:=λH' s' Q q=>h H' (s.trans s') Q q
end
def Txts (K:PySem.W.Frag) (H:Hp) (v:V) (ws:List Str):Prop:=∃ l,v=.ref l/\SqL K H l (ws.map V.str)
theorem Txts.mono {K:PySem.W.Frag}{H H':Hp}{v:V}{ws:List Str}(h:Txts K H v ws) (s:Same H H'):Txts K H' v ws:=let ⟨l,e,q⟩:=h;⟨l,e,s.seq q⟩
def Rws (K:PySem.W.Frag) (H:Hp) (v:V) (rs:List (List Str)):Prop:=∃ l ys,v=.ref l/\SqL K H l ys/\Paired (λws y=>Txts K H y ws) rs ys
theorem pB {α β:Type}{F G:α->β->Prop}(f:∀ a b,F a b->G a b):∀ {l₁:List α}{l₂:List β},Paired F l₁ l₂->Paired G l₁ l₂
 | _,_,.nil=>.nil
 | _,_,.cons h t=>.cons (f _ _ h) (pB f t)
theorem Rws.mono {K:PySem.W.Frag}{H H':Hp}{v:V}{rs:List (List Str)}(h:Rws K H v rs) (s:Same H H'):Rws K H' v rs:=let ⟨l,ys,e,q,p⟩:=h;⟨l,ys,e,s.seq q,pB (λ_ _ t=>t.mono s) p⟩
theorem Paired.get {α β:Type}{F:α->β->Prop}:∀ {l₁:List α}{l₂:List β}{i:Nat}{y:β},Paired F l₁ l₂->l₂[i]?=some y->∃ x,l₁[i]?=some x/\F x y
 | _,_,_,_,.nil,e=>by simp at e
 | _,_,0,_,.cons r _,e=>by simp at e;subst e;exact⟨_,rfl,r⟩
 | _,_,i+1,y,.cons _ t,e=>by
  obtain⟨x,h1,h2⟩:=Paired.get (i:=i) (y:=y) t (by simpa using e)
  exact⟨x,by simpa using h1,h2⟩
section
variable (K:PySem.W.Frag){X:Cx}
end
end L2
namespace L2
open PySem PySem.Spec PyProof.Rows
def nY (x:Str) (lo hi:Option Int):Str:=⟨((x.cps.toList.drop (HT.sIx x.length 0 lo)).take (HT.sIx x.length x.length hi - HT.sIx x.length 0 lo)).toArray⟩
theorem GF (lo hi:Option Int) (n:Nat):Builtin.Str.strSliceIndices lo hi 1 n=(List.range (HT.sIx n n hi - HT.sIx n 0 lo)).map (HT.sIx n 0 lo+·):=by
 rw[← sliceRange_one]
 unfold Builtin.Str.strSliceIndices
 have cl:∀ (o:Option Int) (d:Nat),d<=n->(match o with | none=>(d:Int) | some i=>let i:=if i < 0 then i+(n:Int) else i;if (1:Int) > 0 then max 0 (min i (n:Int)) else max (-1) (min i ((n:Int) - 1)))=((HT.sIx n d o:Nat):Int):=λo d hd=>by
  cases o with
  | none=>rfl
  | some i=>
   simp only[HT.sIx,show (1:Int) > 0 by decide,if_true]
   by_cases h:i < 0
   ·simp only[h,if_true] <;> omega
   ·simp only[h,if_false] <;> omega
 have c1:=cl lo 0 (Nat.zero_le _)
 have c2:=cl hi n (Nat.le_refl _)
 simp only[show (1:Int) > 0 by decide,if_true] at c1 c2 ⊢
 exact congr (congrArg sliceRange c1) c2▸rfl
theorem Cz (x:Str) (t:Tok) (l u:Option (Int×Tok)){Q:Value->Shared->Prop}{s:Shared}(hl:x.length<=sizeLine)
  (h:∀ t' s',(s'=s\/s'={ s with toks:=s.toks+1 })->Q (.str (nY x (l.map (·.1)) (u.map (·.1))) t') s'):(sliceMade x t l u none).post Q s:=by
 unfold sliceMade slicePicked
 have e:Builtin.Str.strSliceIndices (l.map (·.1)) (u.map (·.1)) ((((none:Option (Int×Tok)).map (·.1)).getD 1)) x.length=_:=GF (l.map (·.1)) (u.map (·.1)) x.length
 rw[e]
 have hp:=pick_run x.cps (HT.sIx x.length 0 (l.map (·.1))) (HT.sIx x.length x.length (u.map (·.1)) - HT.sIx x.length 0 (l.map (·.1)))
 have hs:HT.sIx x.length x.length (u.map (·.1))<=x.length:=HT.sIx_le _ _ (Nat.le_refl _) _
 have hc:x.length=x.cps.toList.length:=by simp[Str.length]
 by_cases hw:((((none:Option (Int×Tok)).map (·.1)).getD 1 == 1&&((List.range (HT.sIx x.length x.length (u.map (·.1)) - HT.sIx x.length 0 (l.map (·.1)))).map (HT.sIx x.length 0 (l.map (·.1))+·)).length == x.length)=true)
 ·rw[if_pos hw]
  show Q (.str x t) s
  have hn:HT.sIx x.length x.length (u.map (·.1)) - HT.sIx x.length 0 (l.map (·.1))=x.length:=by
   have:=(Bool.and_eq_true _ _▸hw).2
   simpa using this
  have e2:nY x (l.map (·.1)) (u.map (·.1))=x:=by
   unfold nY
   rw[hn]
   by_cases h0:x.length=0
   ·have:x.cps.toList=[]:=List.eq_nil_of_length_eq_zero (by omega)
    cases x with | mk c=>simp at this;subst this;simp
   ·have h1:HT.sIx x.length 0 (l.map (·.1))=0:=by omega
    rw[h1,List.drop_zero,hc,List.take_length]
  have:=h t s (.inl rfl)
  rw[e2] at this
  exact this
 ·rw[if_neg hw,hp]
  refine⟨?_,h _ _ (.inr rfl)⟩
  show ((x.cps.toList.drop _).take _).toArray.size<=sizeLine
  rw[List.size_toArray,List.length_take,List.length_drop,← hc]
  omega
section
variable {X:Cx}
def JR:V->Option Int->Option Int->Hp->VK->Prop:=λx lo hi H Q=>∃ z,x=.str z/\z.length<=sizeLine/\Q (.str (nY z lo hi)) H
theorem JS:SlR X JR:=by
 intro pins s σ H x v vl vu lo hi sl Q I rx hs pl pu h
 obtain⟨z,rfl,hz,q⟩:=h
 obtain⟨t,rfl⟩:=rx
 refine⟨"str",_,slot_str_getitem.lookup,typeIs_str s z t,?_⟩
 have part:∀ {v:Value}{o:Option Int},IsPart v o->∃ p:Option (Int×Tok),v=partValue p/\p.map (·.1)=o:=λp=>by
  cases p with
  | none=>exact⟨none,rfl,rfl⟩
  | int i t=>exact⟨some (i,t),rfl,rfl⟩
 obtain⟨l,rfl,rfl⟩:=part pl
 obtain⟨u,rfl,rfl⟩:=part pu
 refine wpAny_getItem_str_slice (l:=l) (u:=u) (st:=none) hs rfl (Cz z t l u hz λt' s' hs'=>?_)
 rcases hs' with rfl | rfl
 ·exact⟨.str (nY z (l.map (·.1)) (u.map (·.1))),H,I,⟨t',rfl⟩,q⟩
 ·exact⟨.str (nY z (l.map (·.1)) (u.map (·.1))),H,I.tok _,⟨t',rfl⟩,q⟩
def JT (K:PySem.W.Frag):V->Option Int->Option Int->Hp->VK->Prop:=λx lo hi H Q=>JG K x lo hi H Q\/JR x lo hi H Q
theorem JV:SlR X (JT X.K):=sl_list.or JS
end
end L2
namespace L2
open PySem PySem.Spec PyProof.Rows
section
variable {X:Cx}{pins:List (Addr×Obj)}{σ:St}{H H':Hp}{s:Shared}{h':Heap}
end
section
variable {X:Cx}
end
end L2
namespace L2
open PySem PySem.Spec PyProof.Rows
section
variable {X:Cx}
def rm (n:Nat):List V:=(List.range n).map λi=>.int (i:Nat)
theorem u0:∀ (n k:Nat) (l:List Value),l.length=n->(∀ (j:Nat) v,l[j]?=some v->∃ t,v=.int ((k+j:Nat):Int) t)->Vals ((List.range' k n).map λi=>V.int (i:Nat)) l
 | 0,k,l,h,_=>by
  have:=List.eq_nil_of_length_eq_zero h
  subst this
  exact .nil
 | n+1,k,l,h,hv=>by
  cases l with
  | nil=>cases h
  | cons v l=>
   rw[List.range'_succ,List.map_cons]
   refine .cons ?_ (u0 n (k+1) l (by simpa using h) λj u hu=>?_)
   ·obtain⟨t,e⟩:=hv 0 v rfl
    exact⟨t,e⟩
   ·obtain⟨t,e⟩:=hv (j+1) u (by simpa using hu)
    exact⟨t,by rw[e];congr 1;omega⟩
def JW (ta:TA):TE:=fun σ H Q=>ta σ H λvs H1=>∃ n:Nat,vs=[.int (n:Nat)]/\n<=1000000/\∀ l,H1 l=none->Q (.ref l) (upd H1 l (.lst (rm n)))
theorem CG {a:Expr}{ta:TA}{p p2 pos pos2:Pos}(hg:Gl X "list") (hm:X.mg "list" = none) (hg2:Gl X "range") (hm2:X.mg "range" = none) (hc:X.calm=true) (ha:PA X [a] ta) (hs:starEach [a] X.env=[(false,eval a X.env)]:=by rfl)
  (hs2:starEach [.Call (.Name "range" p2) [a] [] pos2] X.env=(false,eval (.Call (.Name "range" p2) [a] [] pos2) X.env)::starEach [] X.env:=by rfl) (hpl:(backTo pos (starEach [] X.env)).any (·.1)=false:=by rfl):
  PE X (.Call (.Name "list" p) [.Call (.Name "range" p2) [a] [] pos2] [] pos) (JW ta):=by
 intro pins s σ H Q I h
 refine wpAny_Call_Name_kw (d_ I hg hm PyProof.Rows.boot_list ?_ (by decide) (by decide))
 refine PyProof.Rows.callWith_type1 ?_ hs2 hpl
 rw[hs2]
 show wpAny _ _ (spliced ((false,eval (.Call (.Name "range" p2) [a] [] pos2) X.env)::backTo pos (starEach [] X.env))) _ _ s
 refine Calls.spliced_cons ?_
 refine Call_ (d_ I hg2 hm2 PyProof.Rows.boot_range (PyProof.Rows.callWith_type1 (thn (ha pos2 pins s σ H _ I h) λus s1 ⟨vs,H1,I1,r1,q1⟩=>?_) hs rfl))
 obtain⟨n,e,hn,q⟩:=q1
 subst e
 cases r1 with
 | cons r rr=>
  cases rr
  obtain⟨t,rfl⟩:=r
  refine call_range_1 (Calls.spliced_nil ?_)
  have h64:(2 ^ 62:Int)=4611686018427387904:=by decide
  refine call_list_range (n:=n) (I1.ok.hd hc) (IsRange.new ..) (small_one (by omega) (by omega) (by omega) (by omega)) (by rw[rangeSize_one];split <;> omega) (by omega) λh' tk acc' c' kp e it=>?_
  obtain⟨i1,i2⟩:=it
  have hv:Vals (rm n) acc'.toList:=by
   have:=u0 n 0 acc'.toList (by simpa using i1) λj v hj=>by
    obtain⟨t,e⟩:=i2 j v (by simpa using hj)
    exact⟨t,by rw[e];congr 1;omega⟩
   unfold rm
   rw[List.range_eq_range']
   exact this
  have I2:=I1.laid (a:=s1.heap.objs.size+1) (o:=.lst (rm n)) (h':=h') (t':=tk) (λb o eb=>kp b o (Heap.get?_push_of_some _ eb)) (by omega)
   (show ObjOk X.prog X.w _ h' _ (.lst (rm n)) from ⟨(by unfold rm;rw[List.length_map,List.length_range];exact Nat.le_of_lt (gG hn)),acc'.toList,c',hv,by
    have:=e
    rw[Heap.size_push] at this
    simpa using this⟩)
  refine⟨.ref (s1.heap.objs.size+1),_,I2,?_,q _ (I1.hok.fresh (by omega))⟩
  show Value.ref _=Value.ref _
  rw[Heap.size_push]
end
end L2
namespace L2
open PySem PySem.Spec PyProof.Rows
theorem Aa:typeLookup (.type "list_reverseiterator") "__len__" = pure none:=by rw[typeLookup_type,builtinLookup_eq_fast];kernel_rfl
theorem CJ:typeLookup (.type "list_reverseiterator") "__length_hint__" = pure (some (.builtin "list_reverseiterator.__length_hint__")):=by rw[typeLookup_type,builtinLookup_eq_fast];kernel_rfl
section
variable {prog:Program}{w:World}{A:Around}{E:Value->Shared->Prop}{s:Shared}
theorem yr {J l N:Addr}{items:Array Value}{c₀:Nat}{R:Result->Shared->Prop}(hh:A.handled=none) (hit:s.heap.IsRevIter J l ((items.size:Int) - 1)) (hl:s.heap.IsList l items) (hlJ:l≠J) (hNJ:N≠J) (hNl:N≠l) (hn:items.size<=sizeLine)
  (hN:s.heap.get? N=some { cls:=.type "list",data:=.seq #[] c₀ })
  (hR:∀ h' tk acc c,(∀ b o,b≠J->b≠N->s.heap.get? b=some o->h'.get? b=some o)->h'.get? N=some { cls:=.type "list",dict:=none,data:=.seq acc c,slots:=#[] }->ItemsOf (λi v=>items[items.size - 1 - i]?=some v) acc items.size->R (.ok (.ret .none)) { s with heap:=h',toks:=tk }):
  wpAny (model prog w) A.in1 (Builtin.List.listExtendWith (.ref N) (.ref J) .none)
   (λfin s'=>match fin with | .done f=>R (.ok f) s' | .again c'=>c'.quiet=true/\codeAny (model prog w) A c' R s') (λe s'=>R (.error e) s') s:=by
 have W:=(Walks.listRev (prog:=prog) (w:=w) (A:=A.in1) hh J l hlJ items).toS
 have st0:(0:Nat)<=items.size/\s.heap.IsRevIter J l ((items.size:Int) - 1 - ((0:Nat):Int))/\s.heap.IsList l items:=⟨Nat.zero_le _,by simpa using hit,hl⟩
 unfold Builtin.List.listExtendWith
 have hr:Builtin.List.listSameRef (.ref N) (.ref J)=false:=by simp[Builtin.List.listSameRef,hNJ]
 refine wpAny_bind (wpAny_typeOf hit.typeIs ?_);rw[if_neg (by rw[hr];decide)]
 refine wpAny_bind (wpAny_pyIter_revIter hit (wpAny_bind (wpAny_holding ?_)))
 unfold Builtin.List.listLengthHint
 refine wpAny_bind (wpAny_specialOf hit.typeIs Aa ?_)
 show wpAny _ A.in1 (specialOf (Value.ref J) (Str.ofString "__length_hint__") >>= _) _ _ _
 refine wpAny_bind (wpAny_specialOf hit.typeIs CJ ?_)
 (generalize hid:("list_reverseiterator.__length_hint__" : String)=nm;(fail_if_success (clear hid nm));wp_delta;rw[show splitId nm=some ("list_reverseiterator", "__length_hint__") from by subst hid;decide +kernel];subst hid)
 refine wpAny_bind (wpAny_isInstance (b:=true) hit.typeIs (by rw[isSubtype_type];kernel_rfl) (wpAny_pure ?_))
 rw[if_neg (by decide)]
 have hNf:N∉[J,l]:=by simp[hNJ,hNl]
 refine wpAny_pure ⟨plainId_quiet F.plain_extend_loop _,codeAny_extend_loopS W hn N hNf .none items.size 0 _ _ _ rfl (Nat.zero_le _) st0 hN (ItemsOf.nil _) λs' acc c hm hN' it=>?_⟩
 rw[Moved.eq_with hm]
 exact hR s'.heap s'.toks acc c (λb o h1 h2 e=>hm.heap b o (by simp[h1,h2]) e) hN' it
theorem tZ {J l:Addr}{items:Array Value}{Q:Value->Shared->Prop}(hh:A.handled=none) (hit:s.heap.IsRevIter J l ((items.size:Int) - 1)) (hl:s.heap.IsList l items) (hlJ:l≠J) (hn:items.size<=sizeLine)
  (hQ:∀ h' tk acc c,(∀ b o,b≠J->s.heap.get? b=some o->h'.get? b=some o)->h'.get? s.heap.objs.size=some { cls:=.type "list",dict:=none,data:=.seq acc c,slots:=#[] }->ItemsOf (λi v=>items[items.size - 1 - i]?=some v) acc items.size->Q (.ref s.heap.objs.size) { s with heap:=h',toks:=tk }):
  wpAny (model prog w) A (call (.type "list") [.ref J]) Q E s:=by
 have lt:∀ {b:Addr}{o:Obj},s.heap.get? b=some o->b≠s.heap.objs.size:=λe=>Nat.ne_of_lt (Heap.lt_size e)
 have nJ:J≠s.heap.objs.size:=let ⟨_,e,_⟩:=hit;lt e
 have nl:l≠s.heap.objs.size:=let ⟨_,e,_⟩:=hl;lt e
 refine callType_codes (Q₁:=λx t=>x=.ref s.heap.objs.size/\t={ s with heap:=s.heap.push { cls:=.type "list",data:=.seq #[] } }) F.called_list (F.typeCall_list_1 _) F.entry_list_init (code_list_new _ ⟨rfl,rfl⟩) λx t ht=>?_
 obtain⟨rfl,rfl⟩:=ht
 have hN:(s.heap.push { cls:=.type "list",data:=.seq #[] }).get? s.heap.objs.size=some { cls:=.type "list",data:=.seq #[] }:=Heap.get?_push_size _ rfl
 refine⟨⟨_,hN,rfl⟩,F.args_list_init_2 _ _,?_⟩
 generalize hS:s.heap.objs.size=N at *
 have up:∀ b o,b≠N->s.heap.get? b=some o->((s.heap.push { cls:=.type "list",data:=.seq #[] }).update N (Obj.mapSeq (λ_=>(#[]:Array Value)))).get? b=some o:=λb o hb e=>(Heap.get?_update_other _ _ (Ne.symm hb)).trans (Heap.get?_push_of_some _ e)
 show wpAny _ A.in1.in1 (do let old ← Builtin.List.listItems (.ref N);Builtin.List.listUpdate (.ref N) (λ_=>#[]);letGo old.toList.reverse;Builtin.List.listExtendWith (.ref N) (.ref J) .none) _ _ _
 refine wpAny_bind ?_;unfold Builtin.List.listItems
 refine wpAny_bind (wpAny_seqItems hN rfl (wpAny_pure ?_))
 show wpAny _ A.in1.in1 (updateSeq N (λ_=>#[]) >>= λ_=>letGo (#[]:Array Value).toList.reverse >>= λ_=>Builtin.List.listExtendWith (.ref N) (.ref J) .none) _ _ _
 refine wpAny_bind (wpAny_updateSeq hN rfl (wpAny_bind (wpAny_letGo ?_)))
 have hN2:=Heap.get?_update_self (Obj.mapSeq (λ_=>(#[]:Array Value))) hN rfl
 refine yr (A:=A.in1) hh (hit.at λo e=>up J o nJ e) (hl.at λo e=>up l o nl e) hlJ (Ne.symm nJ) (Ne.symm nl) hn hN2 λh' tk acc c k e it=>⟨rfl,hQ h' tk acc c (λb o hb eb=>k b o hb (hS▸lt eb) (up b o (hS▸lt eb) eb)) e it⟩
end
def Itv (K:PySem.W.Frag) (a:Addr) (n:Nat):It:=
 ⟨λi H=>∃ xs x,SqL K H a xs/\xs.length=n/\i < n/\xs[n - 1 - i]?=some x,λi H x H'=>H'=H/\∀ xs,SqL K H a xs->xs[n - 1 - i]?=some x,λi _=>n=i⟩
theorem CK {P:Program}{w:World}{K:PySem.W.Frag}{tg:Expr}(a it:Addr) (n:Nat):Turn P w K tg (Itv K a n) [it] it (λi h=>h.IsRevIter it a ((n:Int) - 1 - ((i:Nat):Int))) where
 mem:=by simp
 obj:=λi h st b hb=>by
  obtain⟨o,e,c,d⟩:=st
  exact⟨o,by rw[List.mem_singleton.mp hb];exact e,λv z=>by rw[d] at z;cases z⟩
 keep:=λi h h' st k=>st.at λo e=>k it List.mem_cons_self o e
 item:=by
  intro X hP hw hK hc i pins s σ H E I hf st hg
  subst hP hw hK
  obtain⟨xs,x,hq,hlen,hlt,hx⟩:=hg
  obtain⟨its,rv,p,hz⟩:=I.list hq
  obtain⟨u,hu,ru⟩:=rv.get hx
  obtain⟨f0,f1,f2,f3,f4,f5⟩:=hf it List.mem_cons_self
  have e1:(n:Int) - 1 - ((i:Nat):Int)=((n - 1 - i:Nat):Int):=by omega
  have st1:=st
  rw[e1] at st1
  refine wpAny_pyNext_rev_item st1 p.isList (x:=u) (by simpa using hu) λh' st' sb=>?_
  have e2:((n - 1 - i:Nat):Int) - 1=(n:Int) - 1 - ((i+1:Nat):Int):=by omega
  rw[e2] at st'
  obtain⟨o,e,c,d⟩:=id st'
  exact⟨u,rfl,mJ (s:={ s with heap:=h' }) e c d (by decide) ⟨x,H,I.turned (t':=s.toks) (λb o hb q=>(sb.2 b hb).trans q) f0 f1 f3 f4 f5,ru,⟨rfl,λys hy=>by rw[I.list_inj hy hq];exact hx⟩,st',λb hb=>(hf b hb).1⟩⟩
 done:=by
  intro X hP hw hK hc i pins s σ H E I hf st hg
  subst hP hw hK
  obtain⟨f0,f1,f2,f3,f4,f5⟩:=hf it List.mem_cons_self
  have hg':n=i:=hg
  have e1:(n:Int) - 1 - ((i:Nat):Int)=-1:=by omega
  rw[e1] at st
  exact wpAny_pyNext_rev_end (I.ok.hd hc) st λh' eb=>⟨rfl,I.turned (t':=s.toks) (λb o hb q=>eb b o hb q) f0 f1 f3 f4 f5⟩
 self:=λ_ _ _ _ _ st h=>wpAny_pyIter_revIter st h
section
variable {X:Cx}{tg:Expr}
def O_ (K:PySem.W.Frag) (ta:TA):TI:=fun σ H R=>ta σ H λvs H1=>∃ a xs,vs=[.ref a]/\SqL K H1 a xs/\R (Itv K a xs.length) H1
theorem JX {l:Expr}{ta:TA}{p pos:Pos}(hg:Gl X "reversed") (hm:X.mg "reversed" = none) (ha:PA X [l] ta) (hb:bootBuiltins "reversed" = some (.type "reversed")) (hs:starEach [l] X.env=(false,eval l X.env)::starEach [] X.env:=by rfl) (hp:(backTo pos (starEach [] X.env)).any (·.1)=false:=by rfl):
  PI X tg (.Call (.Name "reversed" p) [l] [] pos) (O_ X.K ta):=by
 intro pins s σ H R I h
 refine Call_ (d_ I hg hm hb (PyProof.Rows.callWith_type1 (thn (ha pos pins s σ H _ I h) λus s1 ⟨vs,H1,I1,r1,q1⟩=>?_) hs hp))
 obtain⟨a,xs,e,hq,q⟩:=q1
 subst e
 obtain⟨u,rfl,ru⟩:=vals1 r1
 cases ru
 obtain⟨its,rv,p,hz⟩:=I1.list hq
 refine call_reversed_list p.isList ?_
 have hlen:=rv.length
 have ez:((its.toArray.size:Nat):Int) - 1=(xs.length:Int) - 1 - ((0:Nat):Int):=by rw[List.size_toArray];omega
 rw[ez]
 refine wpAny_pyIter_revIter ⟨_,Heap.get?_push_size _ rfl,rfl,rfl⟩ ⟨s1.heap.objs.size,[s1.heap.objs.size],_,_,H1,rfl,I1.kept (t':=s1.toks) λb o e=>Heap.get?_push_of_some _ e,CK a _ xs.length,⟨_,Heap.get?_push_size _ rfl,rfl,rfl⟩,λb hb=>?_,q⟩
 rw[List.mem_singleton.mp hb]
 exact I1.fpOk (Nat.le_refl _) (I1.hok.fresh (Nat.le_refl _))
theorem Ab {xs:List V}{its:List Value}(r:Vals xs its) (acc:List Value) (hl:acc.length=its.length) (h:∀ (i:Nat) v,acc[i]?=some v->its[its.length - 1 - i]?=some v):Vals xs.reverse acc:=by
 have e:acc=its.reverse:=by
  refine List.ext_getElem? λi=>?_
  rcases Nat.lt_or_ge i acc.length with hi | hi
  ·have:=h i acc[i] (List.getElem?_eq_getElem hi)
   rw[List.getElem?_eq_getElem hi,List.getElem?_reverse (by omega),this]
  ·rw[List.getElem?_eq_none hi,List.getElem?_eq_none (by rw[List.length_reverse];omega)]
 rw[e]
 exact r.reverse
def JZ (K:PySem.W.Frag) (ta:TA):TE:=fun σ H Q=>ta σ H λvs H1=>∃ a xs,vs=[.ref a]/\SqL K H1 a xs/\∀ l,H1 l=none->Q (.ref l) (upd H1 l (.lst xs.reverse))
theorem CN {a:Expr}{ta:TA}{p p2 pos pos2:Pos}(hg:Gl X "list") (hm:X.mg "list" = none) (hg2:Gl X "reversed") (hm2:X.mg "reversed" = none) (hb:bootBuiltins "reversed" = some (.type "reversed")) (hc:X.calm=true) (ha:PA X [a] ta) (hs:starEach [a] X.env=(false,eval a X.env)::starEach [] X.env:=by rfl) (hp2:(backTo pos2 (starEach [] X.env)).any (·.1)=false:=by rfl)
  (hs2:starEach [.Call (.Name "reversed" p2) [a] [] pos2] X.env=(false,eval (.Call (.Name "reversed" p2) [a] [] pos2) X.env)::starEach [] X.env:=by rfl) (hpl:(backTo pos (starEach [] X.env)).any (·.1)=false:=by rfl):
  PE X (.Call (.Name "list" p) [.Call (.Name "reversed" p2) [a] [] pos2] [] pos) (JZ X.K ta):=by
 intro pins s σ H Q I h
 refine wpAny_Call_Name_kw (d_ I hg hm PyProof.Rows.boot_list (PyProof.Rows.callWith_type1 ?_ hs2 hpl) (by decide) (by decide))
 rw[hs2]
 show wpAny _ _ (spliced ((false,eval (.Call (.Name "reversed" p2) [a] [] pos2) X.env)::backTo pos (starEach [] X.env))) _ _ s
 refine Calls.spliced_cons (Call_ (d_ I hg2 hm2 hb (PyProof.Rows.callWith_type1 (thn (ha pos2 pins s σ H _ I h) λus s1 ⟨vs,H1,I1,r1,q1⟩=>?_) hs hp2)))
 obtain⟨a,xs,e,hq,q⟩:=q1
 subst e
 obtain⟨u,rfl,ru⟩:=vals1 r1
 cases ru
 obtain⟨its,rv,pl,hz⟩:=I1.list hq
 have hlen:=rv.length
 have hlt:a≠s1.heap.objs.size:=let ⟨_,e,_⟩:=pl.isList;Nat.ne_of_lt (Heap.lt_size e)
 refine call_reversed_list pl.isList (Calls.spliced_nil ?_)
 refine tZ (I1.ok.hd hc) ⟨_,Heap.get?_push_size _ rfl,rfl,rfl⟩ (pl.isList.at λo e=>Heap.get?_push_of_some _ e) hlt (by rw[List.size_toArray];omega) λh' tk acc c k e it=>?_
 obtain⟨i1,i2⟩:=it
 rw[List.size_toArray] at i1
 have hv:Vals xs.reverse acc.toList:=Ab rv acc.toList (by simpa using i1) λi v hi=>by
  have:=i2 i v (by simpa using hi)
  simpa using this
 have I2:=I1.laid (a:=s1.heap.objs.size+1) (o:=.lst xs.reverse) (h':=h') (t':=tk) (λb o eb=>k b o (Nat.ne_of_lt (Heap.lt_size eb)) (Heap.get?_push_of_some _ eb)) (by omega)
  (show ObjOk X.prog X.w _ h' _ (.lst xs.reverse) from ⟨(by rw[List.length_reverse];exact hz),acc.toList,c,hv,by
   have:=e
   rw[Heap.size_push] at this
   simpa using this⟩)
 refine⟨.ref (s1.heap.objs.size+1),_,I2,?_,q _ (I1.hok.fresh (by omega))⟩
 show Value.ref _=Value.ref _
 rw[Heap.size_push]
end
end L2
namespace L2
open PySem PySem.Spec PyProof.Rows
section
variable {X:Cx}{tg:Expr}
end
end L2
namespace L2
open PySem PySem.Spec PyProof.Rows
section
variable {prog:Program}{w:World}{A:Around}{E:Value->Shared->Prop}{s:Shared}
theorem nextT {it t:Addr}{i:Nat}{items:Array Value}{x:Value}{Q:Value->Shared->Prop}(hit:s.heap.IsTupleIter it t i) (ht:s.heap.IsTuple t items) (hx:items[i]?=some x)
  (hQ:∀ h',h'.IsTupleIter it t (i+1)->Heap.SameBut it s.heap h'->Q x { s with heap:=h' }):wpAny (model prog w) A (Builtin.SmallTypes.nextOf (.ref it)) Q E s:=by
 obtain⟨o,eo,co,fo⟩:=id hit
 obtain⟨p,ep,_,np,dp⟩:=ht
 unfold Builtin.SmallTypes.nextOf
 refine wpAny_bind (wpAny_callSpecial?_slot (name:=Str.ofString "__next__") hit.typeIs F.slot_tuple_iterator_next (wpAny_call_entry F.slot_tuple_iterator_next hit.typeIs F.entry_tuple_iterator_next ?_ (F.args_tuple_iterator_next_1 _)))
 show wpAny _ _ (field (.ref it) 0 >>= _) _ _ _
 refine wpAny_bind (wpAny_field eo fo (x:=.ref t) rfl ?_)
 show wpAny _ _ (if (Value.ref t == Value.none)=true then _ else _) _ _ _
 rw[if_neg (λz:(Value.ref t == Value.none)=true=>Bool.false_ne_true z)]
 show wpAny _ _ (field (.ref it) 1 >>= _) _ _ _
 refine wpAny_bind (wpAny_field eo fo (x:=.int i 0) rfl ?_)
 show wpAny _ _ (seqItems? (.ref t) >>= _) _ _ _
 refine wpAny_bind (wpAny_seqItems ep dp ?_);simp only[Int.toNat_natCast,hx]
 refine wpAny_bind (wpAny_setField eo fo (by simp) (wpAny_pure ⟨x,rfl,wpAny_pure (hQ _ ⟨_,Heap.get?_update_self _ eo (Obj.isFreed_of_fields (Obj.data_mapFields fo _)),(Obj.cls_mapFields ..).trans co,?_⟩ (Heap.SameBut.update ..))⟩))
 rw[Obj.data_mapFields fo]
 simp[rawInt]
theorem Ac {it t:Addr}{i:Nat}{items:Array Value}{Q:Value->Shared->Prop}(hh:A.handled=none) (hit:s.heap.IsTupleIter it t i) (ht:s.heap.IsTuple t items) (hx:items[i]?=none)
  (hE:∀ h' e,Heap.ExtBut it s.heap h'->(∃ o,h'.get? e=some o/\o.cls=.type "StopIteration")->E (.ref e) { s with heap:=h' }):wpAny (model prog w) A (Builtin.SmallTypes.nextOf (.ref it)) Q E s:=by
 obtain⟨o,eo,co,fo⟩:=id hit
 obtain⟨p,ep,_,np,dp⟩:=ht
 unfold Builtin.SmallTypes.nextOf
 refine wpAny_bind (wpAny_callSpecial?_slot (name:=Str.ofString "__next__") hit.typeIs F.slot_tuple_iterator_next (wpAny_call_entry F.slot_tuple_iterator_next hit.typeIs F.entry_tuple_iterator_next ?_ (F.args_tuple_iterator_next_1 _)))
 show wpAny _ _ (field (.ref it) 0 >>= _) _ _ _
 refine wpAny_bind (wpAny_field eo fo (x:=.ref t) rfl ?_)
 show wpAny _ _ (if (Value.ref t == Value.none)=true then _ else _) _ _ _
 rw[if_neg (λz:(Value.ref t == Value.none)=true=>Bool.false_ne_true z)]
 show wpAny _ _ (field (.ref it) 1 >>= _) _ _ _
 refine wpAny_bind (wpAny_field eo fo (x:=.int i 0) rfl ?_)
 show wpAny _ _ (seqItems? (.ref t) >>= _) _ _ _
 refine wpAny_bind (wpAny_seqItems ep dp ?_);simp only[Int.toNat_natCast,hx]
 refine wpAny_bind (wpAny_rule (wpAny_bind (wpAny_setField eo fo (by simp) ?_)))
 show wpAny _ _ (newExc (.type "StopIteration") [] >>= _) _ _ _
 refine wpAny_bind ?_;simp only[newExc,newTuple]
 refine wpAny_bind (wpAny_newObj_type (wpAny_bind (m:=firstArgMember _ _) (wpAny_of_eq (a:=Value.none) (by first | rfl | (simp only[firstArgMember];rfl)) (wpAny_newObj_type ?_ (by size_fits)))) (by size_fits))
 simp only[raiseNew]
 refine wpAny_bind (wpAny_handled ?_);rw[hh]
 refine wpAny_bind (wpAny_pure (wpAny_throw ?_))
 exact hE _ _ (((Heap.SameBut.update ..).extBut.push _).push _) ⟨_,Heap.get?_push_size _ rfl,rfl⟩
theorem J0 (hh:A.handled=none) (it t:Addr) (hne:t≠it) (items:Array Value):Draws prog w A it [it,t] items.size (λi v=>items[i]?=some v) (λi h=>h.IsTupleIter it t i/\h.IsTuple t items) where
 live:=λi h st=>let ⟨o,e,_⟩:=st.1;⟨o,e⟩
 frame:=λi h h' st k=>⟨st.1.at λo e=>k it (by simp) o e,let ⟨o,e,c⟩:=st.2;⟨o,k t (by simp) o e,c⟩⟩
 item:=λi s Q E hi st hQ=>nextT st.1 st.2 (Array.getElem?_eq_getElem hi) λh' a b=>hQ _ h' s.toks (Array.getElem?_eq_getElem hi) ⟨a,let ⟨o,e,c⟩:=st.2;⟨o,(b.2 t hne).trans e,c⟩⟩ b
 done:=λs Q E st hE=>Ac hh st.1 st.2 (Array.getElem?_eq_none (Nat.le_refl _)) hE
variable {z TI TO i1 i2:Addr}{fp1 fp2:List Addr}{n1 n2:Nat}{P1 P2:Nat->Value->Prop}{St1 St2:Nat->Heap->Prop}
end
inductive SK where | L | T
def SK.ty:SK->String
 | .L => "list_iterator"
 | .T => "tuple_iterator"
def SK.is (k:SK) (h:Heap) (a:Addr) (items:Array Value):Prop:=match k with
 | .L=>h.IsList a items
 | .T=>h.IsTuple a items
def SK.at (k:SK) (h:Heap) (it a:Addr) (i:Nat):Prop:=match k with
 | .L=>h.IsListIter it a i
 | .T=>h.IsTupleIter it a i
theorem SK.at_of {k:SK}{h:Heap}{it a:Addr}(e:h.get? it=some { cls:=.type k.ty,data:=.fields #[.ref a,.int 0 0] }):k.at h it a 0:=by
 cases k with
 | L=>exact⟨_,e,rfl,rfl⟩
 | T=>exact⟨_,e,rfl,rfl⟩
theorem SK.at_obj {k:SK}{h:Heap}{it a:Addr}{i:Nat}(st:k.at h it a i):∃ o,h.get? it=some o/\∀ v,o.data≠.cell v:=by
 cases k with
 | L=>obtain⟨o,e,c,d⟩:=st;exact⟨o,e,λv y=>by rw[d] at y;cases y⟩
 | T=>obtain⟨o,e,c,d⟩:=st;exact⟨o,e,λv y=>by rw[d] at y;cases y⟩
theorem SK.at_keep {k:SK}{h h':Heap}{it a:Addr}{i:Nat}(st:k.at h it a i) (q:∀ o,h.get? it=some o->h'.get? it=some o):k.at h' it a i:=by
 cases k with
 | L=>exact Heap.IsListIter.at st q
 | T=>exact Heap.IsTupleIter.at st q
theorem SK.is_lt {k:SK}{h:Heap}{a:Addr}{items:Array Value}(p:k.is h a items):a < h.objs.size:=by
 cases k with
 | L=>obtain⟨o,e,_⟩:=p;exact Heap.lt_size e
 | T=>obtain⟨o,e,_⟩:=p;exact Heap.lt_size e
theorem SK.draws {prog:Program}{w:World}{A:Around}(k:SK) (hh:A.handled=none) (it a:Addr) (hne:a≠it) (items:Array Value):Draws prog w A it [it,a] items.size (λi v=>items[i]?=some v) (λi h=>k.at h it a i/\k.is h a items):=by
 cases k with
 | L=>exact Draws.list hh it a hne items
 | T=>exact J0 hh it a hne items
end L2
namespace L2
open PySem PySem.Spec PyProof.Rows
section
variable {prog:Program}{w:World}{A:Around}{E:Value->Shared->Prop}{s:Shared}
end
def SK.sq (k:SK) (K:PySem.W.Frag) (H:Hp) (a:Addr) (xs:List V):Prop:=match k with
 | .L=>SqL K H a xs
 | .T=>SqT K H a xs
section
variable {X:Cx}{pins:List (Addr×Obj)}{σ:St}{H:Hp}{s:Shared}
theorem Inv.sk (I:Inv X pins σ H s){k:SK}{a:Addr}{xs:List V}(h:k.sq X.K H a xs):∃ its:List Value,Vals xs its/\k.is s.heap a its.toArray:=by
 cases k with
 | L=>obtain⟨its,r,p,_⟩:=I.list h;exact⟨its,r,p.isList⟩
 | T=>obtain⟨its,r,p,_⟩:=I.tuple h;exact⟨its,r,p⟩
theorem Inv.sk_inj (I:Inv X pins σ H s){k:SK}{a:Addr}{xs ys:List V}(h:k.sq X.K H a xs) (h':k.sq X.K H a ys):xs=ys:=by
 cases k with
 | L=>exact I.list_inj h h'
 | T=>exact I.tuple_inj h h'
end
section
variable {X:Cx}
end
end L2
namespace L2
open PySem PySem.Spec PyProof.Rows
def nZ (H:Hp) (L:List (Addr×HO)):Hp:=λa=>match L.lookup a with
 | some o=>some o
 | none=>H a
theorem oZ {H:Hp}{L:List (Addr×HO)}{a:Addr}(h:L.lookup a=none):nZ H L a=H a:=by unfold nZ;rw[h]
theorem rn {H:Hp}{L:List (Addr×HO)}{a:Addr}{o:HO}(h:L.lookup a=some o):nZ H L a=some o:=by unfold nZ;rw[h]
theorem kI {L:List (Addr×HO)}{a:Addr}(h:∀ p∈L,p.1≠a):L.lookup a=none:=by
 induction L with
 | nil=>rfl
 | cons p L ih=>
  rw[List.lookup_cons,beq_eq_false_iff_ne.mpr (Ne.symm (h p List.mem_cons_self))]
  exact ih λq hq=>h q (List.mem_cons_of_mem _ hq)
theorem Inv.lays {X:Cx}{pins:List (Addr×Obj)}{σ:St}{H:Hp}{s:Shared}{h':Heap}{t':Nat}{L:List (Addr×HO)}(I:Inv X pins σ H s) (k:∀ b u,s.heap.get? b=some u->h'.get? b=some u) (hp:∀ p∈L,s.heap.objs.size<=p.1)
  (new:∀ a o,L.lookup a=some o->ObjOk X.prog X.w (nZ H L) h' a o):Inv X pins σ (nZ H L) { s with heap:=h',toks:=t' }:=by
 have hn:∀ p∈L,H p.1=none:=λp q=>I.hok.fresh (hp p q)
 have old:∀ b o,H b=some o->nZ H L b=some o:=λb o e=>by
  rw[oZ (kI λp q z=>by have:=hn p q;rw[z,e] at this;cases this)];exact e
 have there:∀ b u,s.heap.get? b=some u->L.lookup b=none:=λb u e=>kI λp q z=>by
  have:=Heap.lt_size e
  rw[← z] at this
  exact absurd (Nat.lt_of_lt_of_le this (hp p q)) (Nat.lt_irrefl _)
 refine I.un ⟨λb u q _ _ _=>k b u q,λb u q _ _ _=>⟨u.slots,k b u q⟩,λb u q n _=>by rw[oZ (there b u q)];exact n,λb u q _=>⟨u,k b u q⟩,λb xs q=>old b _ q,λb u xs q=>old b _ q,λb ps q=>⟨#[],by rw[old b _ q];simp⟩⟩ λb u e=>?_
 cases q:L.lookup b with
 | some o=>rw[rn q] at e;cases e;exact new b _ q
 | none=>
  rw[oZ q] at e
  exact(I.hok b u e).stay (λc v _ q=>k c v q) (λc q=>old c _ q) λc xs q=>old c _ q
inductive ZTs (H:Hp):List Addr->List V->List V->Prop
 | nil:ZTs H [] [] []
 | cons {t:Addr}{x y:V}{ts:List Addr}{xs ys:List V}:H t=some (.tup [x,y])->ZTs H ts xs ys->ZTs H (t::ts) (x::xs) (y::ys)
theorem Ad {H:Hp}:∀ {ts:List Addr}{xs ys:List V},ts.length=xs.length->ys.length=xs.length->(∀ (i:Nat) (t:Addr) (x y:V),ts[i]?=some t->xs[i]?=some x->ys[i]?=some y->H t=some (.tup [x,y]))->ZTs H ts xs ys
 | [],[],[],_,_,_=>.nil
 | t::ts,x::xs,y::ys,e1,e2,h=>.cons (h 0 t x y rfl rfl rfl) (Ad (Nat.succ.inj e1) (Nat.succ.inj e2) λi a b c=>h (i+1) a b c)
 | [],_::_,_,e,_,_=>nomatch e
 | _::_,[],_,e,_,_=>nomatch e
 | _,[],_::_,_,e,_=>nomatch e
 | _,_::_,[],_,e,_=>nomatch e
def zL (ts:List Addr) (xs ys:List V):List (Addr×HO):=List.zipWith (λt (p:V×V)=>(t,.tup [p.1,p.2])) ts (xs.zip ys)
theorem w6:∀ {ts:List Addr}{xs ys:List V},ts.Nodup->∀ (i:Nat) (t:Addr) (x y:V),ts[i]?=some t->xs[i]?=some x->ys[i]?=some y->(zL ts xs ys).lookup t=some (.tup [x,y])
 | [],_,_,_,i,t,x,y,h,_,_=>by simp at h
 | _::_,[],_,_,i,t,x,y,_,h,_=>by simp at h
 | _::_,_::_,[],_,i,t,x,y,_,_,h=>by simp at h
 | a::ts,b::xs,c::ys,nd,0,t,x,y,h1,h2,h3=>by
  cases h1;cases h2;cases h3
  show List.lookup a ((a,_)::zL ts xs ys)=_
  rw[List.lookup_cons,beq_self_eq_true]
 | a::ts,b::xs,c::ys,nd,i+1,t,x,y,h1,h2,h3=>by
  have h1:ts[i]?=some t:=h1
  have ne:t≠a:=λz=>(List.nodup_cons.mp nd).1 (z▸List.mem_of_getElem? h1)
  show List.lookup t ((a,_)::zL ts xs ys)=_
  rw[List.lookup_cons,beq_eq_false_iff_ne.mpr ne]
  exact w6 (xs:=xs) (ys:=ys) (List.nodup_cons.mp nd).2 i t x y h1 h2 h3
theorem u5 {ts:List Addr}{xs ys:List V}{p:Addr×HO}(h:p∈zL ts xs ys):∃ (i:Nat) (x y:V),ts[i]?=some p.1/\xs[i]?=some x/\ys[i]?=some y/\p.2=.tup [x,y]:=by
 obtain⟨i,hi⟩:=List.mem_iff_getElem?.mp h
 unfold zL at hi
 rw[List.getElem?_zipWith] at hi
 cases q1:ts[i]? with
 | none=>rw[q1] at hi;cases hi
 | some t=>
  rw[q1] at hi
  cases q2:(xs.zip ys)[i]? with
  | none=>rw[q2] at hi;cases hi
  | some xy=>
   rw[q2] at hi
   cases hi
   rw[List.getElem?_zip_eq_some] at q2
   exact⟨i,xy.1,xy.2,q1,q2.1,q2.2,rfl⟩
theorem fL {L:List (Addr×HO)}{a:Addr}{o:HO}(h:L.lookup a=some o):(a,o)∈L:=by
 induction L with
 | nil=>cases h
 | cons p L ih=>
  rw[List.lookup_cons] at h
  split at h
  ·rename_i e
   cases h
   rw[beq_iff_eq] at e
   subst e
   exact List.mem_cons_self
  ·exact List.mem_cons_of_mem _ (ih h)
theorem sV:∀ ts:List Addr,Vals (ts.map V.ref) (ts.map Value.ref)
 | []=>.nil
 | _::ts=>.cons rfl (sV ts)
section
variable {X:Cx}{tg:Expr}
def J1 (K:PySem.W.Frag) (ta:TA):TE:=fun σ H Q=>ta σ H λvs H1=>∃ a c xs ys,vs=[.ref a,.ref c]/\SqL K H1 a xs/\SqL K H1 c ys/\ys.length=xs.length /\
 ∀ l ts H2,H1 l=none->(∀ b o,H1 b=some o->H2 b=some o)->H2 l=some (.lst (ts.map V.ref))->ZTs H2 ts xs ys->Q (.ref l) H2
theorem CP {a c:Expr}{ta:TA}{p p2 pos pos2:Pos}(hg:Gl X "list") (hm:X.mg "list" = none) (hg2:Gl X "zip") (hm2:X.mg "zip" = none) (hb:bootBuiltins "zip" = some (.type "zip")) (hc:X.calm=true) (ha:PA X [a,c] ta) (hs:starEach [a,c] X.env=(false,eval a X.env)::starEach [c] X.env:=by rfl) (hp2:(backTo pos2 (starEach [c] X.env)).any (·.1)=false:=by rfl)
  (hs2:starEach [.Call (.Name "zip" p2) [a,c] [] pos2] X.env=(false,eval (.Call (.Name "zip" p2) [a,c] [] pos2) X.env)::starEach [] X.env:=by rfl) (hpl:(backTo pos (starEach [] X.env)).any (·.1)=false:=by rfl):
  PE X (.Call (.Name "list" p) [.Call (.Name "zip" p2) [a,c] [] pos2] [] pos) (J1 X.K ta):=by
 intro pins s σ H Q I h
 refine wpAny_Call_Name_kw (d_ I hg hm PyProof.Rows.boot_list (PyProof.Rows.callWith_type1 ?_ hs2 hpl) (by decide) (by decide))
 rw[hs2]
 show wpAny _ _ (spliced ((false,eval (.Call (.Name "zip" p2) [a,c] [] pos2) X.env)::backTo pos (starEach [] X.env))) _ _ s
 refine Calls.spliced_cons (Call_ (d_ I hg2 hm2 hb (PyProof.Rows.callWith_type1 (thn (ha pos2 pins s σ H _ I h) λus s1 ⟨vs,H1,I1,r1,q1⟩=>?_) hs hp2)))
 obtain⟨a,c,xs,ys,e,hq,hq2,hxy,q⟩:=q1
 subst e
 obtain⟨u,v,rfl,ru,rv⟩:=vals2 r1
 cases ru
 cases rv
 obtain⟨its,rv,pl,hz⟩:=I1.list hq
 obtain⟨its2,rv2,pl2,hz2⟩:=I1.list hq2
 have l1:=rv.length
 have l2:=rv2.length
 refine call_zip_2 pl.isList pl2.isList λg gz gTI gTO g1 g2 gsz gk=>Calls.spliced_nil ?_
 have lt:∀ {b:Addr},s1.heap.get? b≠none->∀ n,b≠s1.heap.objs.size+n:=λ{b} hb n z=>hb (by rw[z];exact Heap.get?_none_of_le (Nat.le_add_right _ _))
 have ma:s1.heap.get? a≠none:=let ⟨_,e,_⟩:=pl.isList;by rw[e];exact λz=>nomatch z
 have mc:s1.heap.get? c≠none:=let ⟨_,e,_⟩:=pl2.isList;by rw[e];exact λz=>nomatch z
 have nn:∀ m n:Nat,m≠n->s1.heap.objs.size+m≠s1.heap.objs.size+n:=λm n h z=>h (Nat.add_left_cancel z)
 have D:ZipApart (s1.heap.objs.size+4) (s1.heap.objs.size+2) (s1.heap.objs.size+3) s1.heap.objs.size (s1.heap.objs.size+1) a c:=
  ⟨nn _ _ (by decide),nn _ _ (by decide),nn 0 _ (by decide),nn _ _ (by decide),nn _ _ (by decide),nn _ 0 (by decide),nn _ _ (by decide),nn _ 0 (by decide),nn _ _ (by decide),nn 0 _ (by decide),lt ma _,lt ma _,lt ma 0,lt ma _,lt mc _,lt mc _,lt mc 0,lt mc _⟩
 refine tR (s:={ s1 with heap:=g }) (I1.ok.hd hc) D (by rw[List.size_toArray];omega) (by rw[List.size_toArray,List.size_toArray];omega) gz gTO gTI g1 g2 (pl.isList.at λo e=>gk _ _ e) (pl2.isList.at λo e=>gk _ _ e) λh' acc cc kk he it=>?_
 have he:h'.get? g.objs.size=some { cls:=.type "list",dict:=none,data:=.seq acc cc,slots:=#[] }:=he
 have it:ZIts h' its.toArray its2.toArray (g.objs.size+1) [s1.heap.objs.size+4,s1.heap.objs.size+3,s1.heap.objs.size,s1.heap.objs.size+1,g.objs.size] acc its.toArray.size:=it
 have kk:∀ c o,c∉[s1.heap.objs.size+4,s1.heap.objs.size+3,s1.heap.objs.size,s1.heap.objs.size+1,g.objs.size]->g.get? c=some o->h'.get? c=some o:=kk
 obtain⟨i1,i2⟩:=it
 have esz:its.toArray.size=its.length:=List.size_toArray ..
 rw[esz] at i1 i2
 have refs:∀ v∈acc.toList,∃ t,v=.ref t:=λv hv=>by
  obtain⟨i,hi⟩:=List.mem_iff_getElem?.mp hv
  have hlt:i < acc.size:=by have:=(List.getElem?_eq_some_iff.mp hi).1;rwa [Array.length_toList] at this
  obtain⟨t,_,_,e,_⟩:=i2 i (by omega)
  rw[Array.getElem?_toList,e] at hi
  exact⟨t,(Option.some.inj hi).symm⟩
 let ad:Value->Addr:=λv=>match v with | .ref t=>t | _=>0
 have ea:acc.toList=(acc.toList.map ad).map Value.ref:=by
  rw[List.map_map]
  refine(List.map_id _).symm.trans (List.map_congr_left λv hv=>?_)
  obtain⟨t,rfl⟩:=refs v hv
  rfl
 generalize htt:acc.toList.map ad=ts at ea
 have lts:ts.length=its.length:=by rw[← htt,List.length_map,Array.length_toList,i1]
 have tat:∀ (i:Nat) (t:Addr),ts[i]?=some t->acc[i]?=some (Value.ref t):=λi t h=>by rw[← Array.getElem?_toList,ea,List.getElem?_map,h];rfl
 have nd:ts.Nodup:=by
  rw[List.nodup_iff_pairwise_ne,List.pairwise_iff_getElem]
  intro i j hi hj hij z
  have a1:=tat i ts[i] (List.getElem?_eq_getElem hi)
  have a2:=tat j ts[j] (List.getElem?_eq_getElem hj)
  obtain⟨t,_,_,e,_,_,_,_,_,w⟩:=i2 j (by omega)
  rw[e] at a2
  have e2:t=ts[j]:=Value.ref.inj (Option.some.inj a2)
  refine w i hij ?_
  rw[a1,z,e2]
 have fact:∀ (i:Nat) (t:Addr),ts[i]?=some t->∃ x y,its[i]?=some x/\its2[i]?=some y/\IsPair h' t x y/\g.objs.size+1<=t:=λi t h=>by
  have hi:i < its.length:=by have:=(List.getElem?_eq_some_iff.mp h).1;omega
  obtain⟨t',x,y,e,ex,ey,hp,hB,_,_⟩:=i2 i hi
  have:=tat i t h
  rw[e] at this
  have e2:t'=t:=Value.ref.inj (Option.some.inj this)
  subst e2
  exact⟨x,y,by simpa using ex,by simpa using ey,hp,hB⟩
 have big:∀ t∈ts,g.objs.size+1<=t:=λt ht=>by
  obtain⟨i,hi⟩:=List.mem_iff_getElem?.mp ht
  obtain⟨_,_,_,_,_,w⟩:=fact i t hi
  exact w
 have lk:∀ (i:Nat) (t:Addr) (x y:V),ts[i]?=some t->xs[i]?=some x->ys[i]?=some y->(zL ts xs ys++[(g.objs.size,HO.lst (ts.map V.ref))]).lookup t=some (.tup [x,y]):=λi t x y h1 h2 h3=>by
  rw[List.lookup_append,w6 (xs:=xs) (ys:=ys) nd i t x y h1 h2 h3];rfl
 have ln:(zL ts xs ys++[(g.objs.size,HO.lst (ts.map V.ref))]).lookup g.objs.size=some (.lst (ts.map V.ref)):=by
  rw[List.lookup_append,kI λp hp z=>by
   obtain⟨i,_,_,e,_⟩:=u5 hp
   have:=big _ (List.mem_of_getElem? e)
   rw[z] at this
   exact absurd this (Nat.not_succ_le_self _)]
  simp
 have sz:s1.heap.objs.size<=g.objs.size:=by rw[gsz];exact Nat.le_add_right _ _
 have hmem:∀ p∈zL ts xs ys++[(g.objs.size,HO.lst (ts.map V.ref))],s1.heap.objs.size<=p.1:=λp hp=>by
  rcases List.mem_append.mp hp with hp | hp
  ·obtain⟨i,_,_,e,_⟩:=u5 hp
   exact Nat.le_trans sz (Nat.le_of_succ_le (big _ (List.mem_of_getElem? e)))
  ·rw[List.mem_singleton.mp hp];exact sz
 have I2:Inv X pins σ (nZ H1 (zL ts xs ys++[(g.objs.size,HO.lst (ts.map V.ref))])) { s1 with heap:=h' }:=I1.lays (t':=s1.toks) (λb u e=>kk b u (λz=>by
   simp only[List.mem_cons,List.not_mem_nil,or_false] at z
   have hb:=Heap.lt_size e
   rcases z with z | z | z | z | z <;> rw[z] at hb
   ·exact absurd hb (Nat.not_lt.mpr (Nat.le_add_right _ _))
   ·exact absurd hb (Nat.not_lt.mpr (Nat.le_add_right _ _))
   ·exact absurd hb (Nat.lt_irrefl _)
   ·exact absurd hb (Nat.not_lt.mpr (Nat.le_add_right _ _))
   ·exact absurd hb (Nat.not_lt.mpr sz)) (gk _ _ e)) hmem λb o lo=>by
  rcases List.mem_append.mp (fL lo) with hp | hp
  ·obtain⟨i,x,y,e1,e2,e3,e4⟩:=u5 hp
   dsimp only at e1 e4
   subst e4
   obtain⟨u,v,f1,f2,f3,_⟩:=fact i b e1
   obtain⟨u',w1,w2⟩:=rv.get e2
   obtain⟨v',w3,w4⟩:=rv2.get e3
   rw[f1] at w1
   rw[f2] at w3
   cases w1
   cases w3
   exact⟨by show (2:Nat)<=sizeLine;decide,[u,v],.cons w2 (.cons w4 .nil),_,f3,rfl,_,rfl⟩
  ·cases List.mem_singleton.mp hp
   exact⟨by rw[List.length_map,lts,← l1];exact hz,acc.toList,cc,by
    rw[ea]
    exact sV ts,by simpa using he⟩
 refine⟨.ref g.objs.size,_,I2,rfl,q g.objs.size ts _ (I1.hok.fresh sz) (λb o e=>?_) (rn ln) (Ad (by omega) hxy λi t x y h1 h2 h3=>rn (lk i t x y h1 h2 h3))⟩
 rw[oZ (kI λp hp z=>by
  have:=I1.hok.fresh (hmem p hp)
  rw[z,e] at this;cases this)]
 exact e
end
end L2
namespace L2
open PySem PySem.Spec PyProof.Rows
section
variable {X:Cx}{tg:Expr}{pins:List (Addr×Obj)}{σ:St}{H:Hp}{s:Shared}{apos cpos pos:Pos}{td ty tx tv:TE}{o e f:Expr}
theorem J2 {b:Addr}{vs:List V}{ks:List Key}(I:Inv X pins σ H s) (hq:SqT X.K H b vs) (kt:uE ks vs):(tupleKind (dh X.prog X.w)).is s.heap ks b:=by
 obtain⟨its,r,⟨o,h1,h2,n,h3⟩,_⟩:=I.tuple hq
 exact⟨o,its.toArray,n,h1,h2,h3,by simpa using sO kt r⟩
def J3 (K:PySem.W.Frag) (td ty tx:TE):TE:=fun σ H Q=>td σ H λx H1=>∃ a,x=.ref a/\IsD H1 a/\ty σ H1 λy H2=>tx σ H2 λz H3=>∃ kvs ks b vs,Rd H3 a (.dT kvs)/\y=.ref b/\SqT K H3 b vs/\uE ks vs/\Q ((gf kvs ks).getD z) H3
theorem CQ (hu:X.A.units+1 < cLine) (ho:PE X o td) (he:PE X e ty) (hf:PE X f tx) (m:M2 X o "get" apos e f cpos):PE X (.Call (.Attribute o "get" apos) [e,f] [] cpos) (J3 X.K td ty tx):=by
 intro pins s σ H Q I h
 refine wpAny_Call_method m.base m.few m.line PySem.F.plainAttrs_dict PySem.F.slot_dict_get PySem.F.type_dict_get (thn (ho pins s σ H _ I h) λu s1 ⟨x,H1,I1,rx,a,ex,d,q1⟩=>?_)
 subst ex
 cases (show u=Value.ref a from rx)
 obtain⟨t1,t2,_⟩:=zT I1 d
 refine⟨t1,t2,?_⟩
 rw[m.trees]
 refine Calls.callWith_builtin rfl (Calls.evalArgs_plain (Calls.spliced_cons (thn (he pins s1 σ H1 _ I1 q1) λiv s2 ⟨y,H2,I2,ry,q2⟩=>Calls.spliced_cons (thn (hf pins s2 σ H2 _ I2 q2) λfv s3 ⟨z,H3,I3,rz,kvs,ks,b,vs,e1,e2,e3,e4,q3⟩=>Calls.spliced_nil ?_))))
 subst e2
 cases (show iv=Value.ref b from ry)
 obtain⟨_,hd,xs,rel,dd⟩:=mK I3.hok e1
 exact call_meetsIn PySem.F.slot_dict_get dd.typeIs PySem.F.entry_dict_get (PySem.F.args_dict_get_3 _ _ _) (meetsH_dict_get_default (tupleKind (dh X.prog X.w)) a b hd fv) ⟨tupleKind_room_in1 hu,ks,xs,J2 I3 e3 e4,dd,⟨_,H3,I3.tok _,(rel.val ks).getD rz,q3⟩⟩
def M9 (tk tv:TE):TE:=fun σ H Q=>∀ p,H p=none->tk σ (upd H p (.dT [])) λy H1=>tv σ H1 λz H2=>H2 p=some (.dT [])/\∃ b ks,y=.ref b/\jE H2 b ks/\Q (.ref p) (upd H2 p (.dT [(ks,z)]))
theorem GJ (hu:X.A.units+1 < cLine) (hk:PE X e ty) (hv:PE X f tv):PE X (.Dict [some e] [f] pos) (M9 ty tv):=by
 intro pins s σ H Q I q
 have hn:=I.hok.fresh (Nat.le_refl s.heap.objs.size)
 have I1:=I.laid (a:=s.heap.objs.size) (o:=.dT []) (h':=s.heap.push { cls:=.type "dict",data:=.dict #[] }) (t':=s.toks) (λ_ _ q=>Heap.get?_push_of_some _ q) (Nat.le_refl _) (uO s.heap I.big)
 refine wpAny_Dict_any rfl rfl (λz=>nomatch z) (show (1:Nat)<=15 by decide) ?_
 refine pairTrees_cons_walk (thn (hk pins _ σ _ _ I1 (q _ hn)) λu s1 ⟨y,H1,I2,ry,q1⟩=>thn (hv pins s1 σ H1 _ I2 q1) λw2 s2 ⟨z,H2,I3,rz,e1,b,ks,e2,dk,q2⟩=>pairTrees_nil_walk ?_)
 subst e2
 cases (show u=Value.ref b from ry)
 obtain⟨_,hd,xs,rel,dd⟩:=qX I3.hok (.inl e1)
 cases rel
 unfold storeAll
 rw[List.forIn_cons]
 refine wpAny_bind (wpAny_bind (uB (show X.A.units < cLine from Nat.lt_of_succ_lt hu) (jJ I3.hok dk) dd (Nat.zero_le _) λh' dd' hs=>wpAny_pure ?_))
 show wpAny _ _ (forIn [] _ _) _ _ _
 rw[List.forIn_nil]
 refine wpAny_pure ?_
 obtain⟨o,es,hq,h2,h3,h4,_,h5⟩:=dd'
 have new:ObjOk X.prog X.w (upd H2 s.heap.objs.size (.dT [(ks,z)])) h' s.heap.objs.size (.dT [(ks,z)]):=⟨by show (1:Nat)<=sizeLine;decide,hd,_,((KT.put (H:=H2) (kvs:=[]) .nil ks dk rz)).keeps λc ys ec=>by rw[aH (Es ec e1 (λz=>nomatch z))];exact ec,o,es,_,hq,h2,h3,h4,h5,rfl⟩
 exact⟨.ref s.heap.objs.size,_,qY (t':=s2.toks+(tupleKind (dh X.prog X.w)).draws ks) I3 (by rw[e1];exact True.intro) hs ⟨o,hq⟩ new,rfl,q2⟩
def J4 (a:Addr) (n:Nat):It:=
 ⟨λi H=>∃ kvs,Rd H a (.dT kvs)/\kvs.length=n/\i < n,λi H x H'=>H'=H/\∃ kvs b ks y,Rd H a (.dT kvs)/\kvs[i]?=some (ks,y)/\x=.ref b/\jE H b ks,λi H=>∃ kvs,Rd H a (.dT kvs)/\kvs.length=n/\n<=i⟩
theorem KT.get {kvs:List (List Key×V)}{xs:List (List Key×Addr×Value)}(r:KT H kvs xs):∀ {i:Nat}{p:List Key×V},kvs[i]?=some p->∃ b u,xs[i]?=some (p.1,b,u)/\jE H b p.1:=by
 induction r with
 | nil=>intro i p h;simp at h
 | @cons p q ps qs h t ih=>
  intro i p' e
  cases i with
  | zero=>
   cases e
   obtain⟨k,b,u⟩:=q
   obtain⟨h1,h2,_⟩:=h
   dsimp only at h1 h2
   exact⟨b,u,by rw[h1];rfl,h2⟩
  | succ i=>exact ih (i:=i) e
theorem GK {P:Program}{w:World}{K:PySem.W.Frag}{tg:Expr}(a it:Addr) (n:Nat):Turn P w K tg (J4 a n) [it] it (λi h=>h.IsKeyIter it a i n n) where
 mem:=List.mem_cons_self
 obj:=λi h st b hb=>by
  obtain⟨o,e,c,d⟩:=st
  exact⟨o,by rw[List.mem_singleton.mp hb];exact e,λv z=>by rw[d] at z;cases z⟩
 keep:=λi h h' st k=>let ⟨o,e,c⟩:=st;⟨o,k it List.mem_cons_self o e,c⟩
 item:=by
  intro X hP hw hK hc i pins s σ H E I hf st hg
  subst hP hw hK
  obtain⟨kvs,hq,hlen,hlt⟩:=hg
  obtain⟨f0,f1,f2,f3,f4,f5⟩:=hf it List.mem_cons_self
  obtain⟨_,_,xs,rel,dd⟩:=qX I.hok hq
  have hl:xs.length=n:=by rw[← Paired.length rel];exact hlen
  obtain⟨p,hp⟩:∃ p,kvs[i]?=some p:=⟨_,List.getElem?_eq_getElem (by omega)⟩
  obtain⟨b,u,hx,dk⟩:=rel.get hp
  subst hl
  refine Mh st dd hx λh' st' sb=>?_
  obtain⟨o,e,c,d⟩:=id st'
  obtain⟨ks,y⟩:=p
  exact⟨.ref b,rfl,mJ (s:={ s with heap:=h' }) e c d (by decide) ⟨.ref b,H,I.turned (t':=s.toks) (λb o hb q=>(sb.2 b hb).trans q) f0 f1 f3 f4 f5,rfl,⟨rfl,kvs,b,ks,y,hq,hp,rfl,dk⟩,st',λb hb=>(hf b hb).1⟩⟩
 done:=by
  intro X hP hw hK hc i pins s σ H E I hf st hg
  subst hP hw hK
  obtain⟨kvs,hq,hlen,hge⟩:=hg
  obtain⟨f0,f1,f2,f3,f4,f5⟩:=hf it List.mem_cons_self
  obtain⟨_,_,xs,rel,dd⟩:=qX I.hok hq
  have hl:xs.length=n:=by rw[← Paired.length rel];exact hlen
  subst hl
  exact Oq (I.ok.hd hc) st dd hge λh' eb=>⟨rfl,I.turned (t':=s.toks) (λb o hb q=>eb b o hb q) f0 f1 f3 f4 f5⟩
 self:=λA i s Q E st h=>wpAny_pyIter_keyiter st h
def iDk (tl:TE):TI:=fun σ H R=>tl σ H λx H1=>∃ a kvs,x=.ref a/\Rd H1 a (.dT kvs)/\R (J4 a kvs.length) H1
theorem M_ {l:Expr}{tl:TE}(hl:PE X l tl):PI X tg l (iDk tl):=by
 intro pins s σ H R I h
 refine thn (hl pins s σ H _ I h) λv s1 ⟨x,H1,I1,r1,q1⟩=>?_
 obtain⟨a,kvs,e,hq,q⟩:=q1
 subst e
 cases r1
 obtain⟨_,hd,xs,rel,dd⟩:=qX I1.hok hq
 have hl:xs.length=kvs.length:=(Paired.length rel).symm
 refine Mg hd dd λh' eh=>?_
 subst eh
 rw[hl]
 refine⟨s1.heap.objs.size,[s1.heap.objs.size],_,_,H1,rfl,I1.kept (t':=s1.toks) λb o e=>Heap.get?_push_of_some _ e,GK a _ kvs.length,⟨_,Heap.get?_push_size _ rfl,rfl,rfl⟩,λb hb=>?_,q⟩
 rw[List.mem_singleton.mp hb]
 exact I1.fpOk (Nat.le_refl _) (I1.hok.fresh (Nat.le_refl _))
end
end L2
namespace L2
open PySem PySem.Spec PyProof.Rows
theorem t6:Slot "reversed" "__init__" "object.__init__" :=
 .of (owner := "object") (n := "__init__") (by rw[typeLookup_type,builtinLookup_eq_fast];kernel_rfl) (by decide +kernel) (by decide +kernel) (by decide +kernel)
  (by first | exact .inl (by decide +kernel) | exact .inr (by decide +kernel)) (by rw[isSubtype_type];kernel_rfl)
theorem qu:TypeCalled "reversed" "reversed.__new__" "object.__init__" :=
 ⟨by decide +kernel,by decide +kernel,⟨_,_,F.mro_reversed⟩,madeBy_type F.mro_reversed F.lookup_reversed_new (by decide +kernel),by decide +kernel,by rw[isSubtype_type];kernel_rfl,t6⟩
theorem sW:Manifest.owners.lookup (String.ofList ['d','e','s','r','e','v','e','r'].reverse)=some Manifest.sig_reversed:=by kernel_rfl
theorem slot_rvd_next:Slot "reversed" "__next__" "reversed.__next__" :=
 .of (owner := "reversed") (n := "__next__") (by rw[typeLookup_type,builtinLookup_eq_fast];kernel_rfl) (by decide +kernel) (by decide +kernel) (by decide +kernel)
  (by first | exact .inl (by decide +kernel) | exact .inr (by decide +kernel)) (by rw[isSubtype_type];kernel_rfl)
theorem lX:entryFor table "reversed.__next__" = some Builtin.«reversed.__next__»:=entryFor_of_tree (by kernel_rfl)
theorem kJ (a:Value):argsOk "reversed.__next__" ⟨[a],[]⟩:=by
 unfold argsOk;rw[signature?_of (id := "reversed.__next__") (n:=['_','_','t','x','e','n','_','_']) (o:=['d','e','s','r','e','v','e','r']) (by kernel_rfl) sW];kernel_rfl
theorem nq:Slot "reversed" "__iter__" "reversed.__iter__" :=
 .of (owner := "reversed") (n := "__iter__") (by rw[typeLookup_type,builtinLookup_eq_fast];kernel_rfl) (by decide +kernel) (by decide +kernel) (by decide +kernel)
  (by first | exact .inl (by decide +kernel) | exact .inr (by decide +kernel)) (by rw[isSubtype_type];kernel_rfl)
theorem qw (a:Value):argsOk "reversed.__iter__" ⟨[a],[]⟩:=by
 unfold argsOk;rw[signature?_of (id := "reversed.__iter__") (n:=['_','_','r','e','t','i','_','_']) (o:=['d','e','s','r','e','v','e','r']) (by kernel_rfl) sW];kernel_rfl
theorem rA:entryFor table "reversed.__iter__" = some Builtin.«dict_keyiterator.__iter__»:=
 entryFor_alias (id' := "dict_keyiterator.__iter__") (by kernel_rfl) (by first | rfl | decide +kernel | (unfold String.splitOn;simp +decide [String.splitOnAux])) (by decide +kernel) (by kernel_rfl)
theorem Ae:typeLookup (.type "tuple") "__reversed__" = pure none:=by rw[typeLookup_type,builtinLookup_eq_fast];kernel_rfl
theorem yt:isSubtype (.type "tuple") (.type "dict")=pure false:=by rw[isSubtype_type];kernel_rfl
def IsRvd (h:Heap) (a t:Addr) (i:Int):Prop:=∃ o,h.get? a=some o/\o.cls=.type "reversed" /\ o.data=.fields #[.ref t,rawInt i]
theorem IsRvd.typeIs {s:Shared}{a l:Addr}{i:Int}(x:IsRvd s.heap a l i):s.TypeIs (.ref a) "reversed" := let ⟨o,ho,hc,_⟩:=x;⟨o,ho,hc⟩
theorem IsRvd.at {h h':Heap}{a l:Addr}{i:Int}(x:IsRvd h a l i) (e:∀ o,h.get? a=some o->h'.get? a=some o):IsRvd h' a l i:=let ⟨o,ho,r⟩:=x;⟨o,e _ ho,r⟩
theorem Fb {n:Nat}(h:n<=sizeLine):(n:Int) < 2 ^ 63:=by
 have:sizeLine < 2 ^ 62:=by decide
 omega
section
variable {prog:Program}{w:World}{A:Around}{E:Value->Shared->Prop}{s:Shared}
theorem J5 (t:Addr) (items:Array Value) (hz:(items.size:Int) < 2 ^ 63):Meets (Builtin.«reversed.__new__» ⟨[.type "reversed",.ref t],[]⟩) (λ_ R s=>IsTup s.heap t items /\
   R (.ok (.ret (.ref s.heap.objs.size))) { s with heap:=s.heap.push { cls:=.type "reversed",data:=.fields #[.ref t,rawInt ((items.size:Int) - 1)] },toks:=s.toks+1+1 }):=
 .of_wp λprog w A R s h=>by
  obtain⟨q1,h⟩:=h
  unfold Builtin.«reversed.__new__»
  refine wpAny_bind (wpAny_of_eq (newClass_reversed _) ?_)
  try dsimp only
  refine wpAny_bind (wpAny_of_eq (a:=()) (by first | rfl | kernel_rfl) ?_)
  refine wpAny_bind (wpAny_of_eq (a:=()) (by first | rfl | kernel_rfl) ?_)
  try dsimp only
  refine wpAny_bind (wpAny_specialOf q1.typeIs Ae ?_)
  try dsimp only
  refine wpAny_bind ?_
  show wpAny _ _ (isInstance (.ref t) (.type "dict") >>= _) _ _ _
  refine wpAny_bind (wpAny_isInstance q1.typeIs yt ?_)
  rw[if_neg (by decide)]
  refine wpAny_bind (wpAny_specialOf q1.typeIs F.slot_tuple_getitem.lookup ?_)
  dsimp only
  rw[if_pos (by decide +kernel)]
  refine wpAny_pure ?_
  rw[if_neg (by decide)]
  refine wpAny_bind (len_tuple q1 hz ?_)
  refine wpAny_bind (wpAny_of_eq (a:=some (items.size:Int)) rfl ?_)
  dsimp only
  refine wpAny_bind ?_
  unfold Builtin.SmallTypes.newRecord
  exact wpAny_newObj_type (wpAny_pure ⟨_,rfl,h⟩) (by size_fits)
theorem CT {t:Addr}{items:Array Value}{Q:Value->Shared->Prop}(ht:IsTup s.heap t items) (hz:(items.size:Int) < 2 ^ 63)
  (h:Q (.ref s.heap.objs.size) { s with heap:=s.heap.push { cls:=.type "reversed",data:=.fields #[.ref t,rawInt ((items.size:Int) - 1)] },toks:=s.toks+1+1 }):wpAny (model prog w) A (call (.type "reversed") [.ref t]) Q E s:=
 callType_new qu (by decide) (F.typeCall_reversed_1 _) (F.newCall_reversed_1 _) (λobj=>F.args_object_init_2 obj _) F.entry_reversed_new (J5 t items hz) ⟨ht,⟨_,Heap.get?_push_size _ rfl,rfl⟩,h⟩
theorem CV {it t:Addr}{i:Nat}{items:Array Value}{x:Value}{Q:Option Value->Shared->Prop}(hit:IsRvd s.heap it t (i:Int)) (ht:IsTup s.heap t items) (hz:(items.size:Int) < 2 ^ 63) (hx:items[i]?=some x)
  (hQ:∀ h' tk,IsRvd h' it t ((i:Int) - 1)->Heap.SameBut it s.heap h'->Q (some x) { s with heap:=h',toks:=tk }):wpAny (model prog w) A (pyNext (.ref it)) Q E s:=by
 obtain⟨o,ho,hc,hd⟩:=id hit
 have hlt:i < items.size:=by
  rcases Nat.lt_or_ge i items.size with z | z
  ·exact z
  ·rw[Array.getElem?_eq_none z] at hx;cases hx
 unfold pyNext
 refine wpAny_bind (wpAny_attempt (wpAny_callSpecial?_slot (name:=Str.ofString "__next__") hit.typeIs slot_rvd_next
  (wpAny_call_entry slot_rvd_next hit.typeIs lX ?_ (kJ _))))
 unfold Builtin.«reversed.__next__»
 refine wpAny_bind (wpAny_of_eq (a:=(Value.ref it,[])) rfl ?_)
 try dsimp only
 refine wpAny_bind (wpAny_field ho hd (x:=.ref t) rfl ?_)
 refine wpAny_bind (wpAny_field ho hd (x:=rawInt (i:Int)) rfl ?_)
 show wpAny _ _ (if (i:Int) < 0 then _ else _) _ _ s
 rw[if_neg (by omega)]
 refine wpAny_bind (wpAny_specialOf ht.typeIs F.slot_tuple_getitem.lookup ?_)
 rw[if_neg (by simp)]
 refine wpAny_bind (wpAny_mkInt ?_)
 refine wpAny_bind (wpAny_attempt (getItem_tuple (s:={ s with toks:=s.toks+1 }) ht (by omega) (by omega) (j:=i) ?_ hx ?_))
 ·exact(q8 (n:=items.size) (i:=(i:Int)) (j:=i) (by unfold ixN;rw[if_pos (by omega),if_pos (by omega),Int.toNat_natCast])).1
 show wpAny _ _ (field (.ref it) 1 >>= _) _ _ _
 refine wpAny_bind (wpAny_field ho hd (x:=rawInt (i:Int)) rfl ?_)
 show wpAny _ _ (setField (.ref it) 1 (rawInt ((i:Int) - 1)) >>= _) _ _ _
 refine wpAny_bind (wpAny_setField ho hd (by simp) ?_)
 refine wpAny_pure ⟨x,rfl,wpAny_pure (hQ _ _ ?_ (Heap.SameBut.update ..))⟩
 exact⟨_,Heap.get?_update_self _ ho (Obj.isFreed_of_fields (Obj.data_mapFields hd _)),(Obj.cls_mapFields ..).trans hc,by
  rw[Obj.data_mapFields hd];simp⟩
theorem GQ {it t:Addr}{Q:Option Value->Shared->Prop}(hh:A.handled=none) (hit:IsRvd s.heap it t (-1))
  (hQ:∀ h',Heap.ExtBut it s.heap h'->Q none { s with heap:=h' }):wpAny (model prog w) A (pyNext (.ref it)) Q E s:=by
 obtain⟨o,ho,hc,hd⟩:=id hit
 unfold pyNext
 refine wpAny_bind (wpAny_attempt (wpAny_callSpecial?_slot (name:=Str.ofString "__next__") hit.typeIs slot_rvd_next
  (wpAny_call_entry slot_rvd_next hit.typeIs lX ?_ (kJ _))))
 unfold Builtin.«reversed.__next__»
 refine wpAny_bind (wpAny_of_eq (a:=(Value.ref it,[])) rfl ?_)
 try dsimp only
 refine wpAny_bind (wpAny_field ho hd (x:=.ref t) rfl ?_)
 refine wpAny_bind (wpAny_field ho hd (x:=rawInt (-1)) rfl ?_)
 show wpAny _ _ (if (-1:Int) < 0 then _ else _) _ _ s
 rw[if_pos (by decide)]
 refine wpAny_bind (wpAny_rule ?_)
 refine wpAny_bind ?_
 show wpAny _ _ (setField (.ref it) 1 (rawInt (-1)) >>= λ_=>setField (.ref it) 0 .none) _ _ _
 refine wpAny_bind (wpAny_setField ho hd (by simp) ?_)
 have ho2:=Heap.get?_update_self (λo=>o.mapFields λvs=>vs.setIfInBounds 1 (rawInt (-1))) ho (Obj.isFreed_of_fields (Obj.data_mapFields hd _))
 refine wpAny_setField ho2 (Obj.data_mapFields hd _) (by simp) ?_
 refine wpAny_bind ?_
 show wpAny _ _ (newExc (.type "StopIteration") [] >>= _) _ _ _
 refine wpAny_bind ?_
 simp only[newExc,newTuple]
 refine wpAny_bind (wpAny_newObj_type ?_ (by size_fits))
 refine wpAny_bind (m:=firstArgMember _ _) (wpAny_of_eq (a:=Value.none) (by first | rfl | (simp only[firstArgMember];rfl)) ?_)
 refine wpAny_newObj_type ?_ (by size_fits)
 simp only[raiseNew]
 refine wpAny_bind (wpAny_handled ?_)
 first | rw[show A.in1.handled=none from hh] | rw[hh]
 refine wpAny_bind (wpAny_pure (wpAny_throw ?_))
 refine wpAny_bind (wpAny_isInstance (T := "StopIteration") (b:=true) ⟨_,Heap.get?_push_size _ rfl,rfl⟩ isSubtype_stop ?_)
 exact wpAny_pure (hQ _ λb o hb e=>Heap.get?_push_of_some _ (Heap.get?_push_of_some _ ((Heap.get?_update_other _ _ (Ne.symm hb)).trans ((Heap.get?_update_other _ _ (Ne.symm hb)).trans e))))
theorem u6 {it l:Addr}{i:Int}{Q:Value->Shared->Prop}(hit:IsRvd s.heap it l i) (h:Q (.ref it) s):wpAny (model prog w) A (pyIter (.ref it)) Q E s:=by
 refine wpAny_pyIter_slot hit.typeIs nq (wpAny_call_entry nq hit.typeIs rA ?_ (qw _))
 show wpAny _ _ (ret (.ref it)) _ _ s
 exact wpAny_pure ⟨_,rfl, "reversed",_,hit.typeIs,slot_rvd_next.lookup,h⟩
end
def CW (K:PySem.W.Frag) (a:Addr) (n:Nat):It:=
 ⟨λi H=>∃ xs x,SqT K H a xs/\xs.length=n/\i < n/\xs[n - 1 - i]?=some x,λi H x H'=>H'=H/\∀ xs,SqT K H a xs->xs[n - 1 - i]?=some x,λi _=>n=i⟩
theorem CZ {P:Program}{w:World}{K:PySem.W.Frag}{tg:Expr}(a it:Addr) (n:Nat):Turn P w K tg (CW K a n) [it] it (λi h=>IsRvd h it a ((n:Int) - 1 - ((i:Nat):Int))) where
 mem:=by simp
 obj:=λi h st b hb=>by
  obtain⟨o,e,c,d⟩:=st
  exact⟨o,by rw[List.mem_singleton.mp hb];exact e,λv z=>by rw[d] at z;cases z⟩
 keep:=λi h h' st k=>st.at λo e=>k it List.mem_cons_self o e
 item:=by
  intro X hP hw hK hc i pins s σ H E I hf st hg
  subst hP hw hK
  obtain⟨xs,x,hq,hlen,hlt,hx⟩:=hg
  obtain⟨its,rv,p,hz⟩:=I.tuple hq
  obtain⟨u,hu,ru⟩:=rv.get hx
  obtain⟨f0,f1,f2,f3,f4,f5⟩:=hf it List.mem_cons_self
  have e1:(n:Int) - 1 - ((i:Nat):Int)=((n - 1 - i:Nat):Int):=by omega
  have st1:=st
  rw[e1] at st1
  refine CV st1 p (Fb (by simpa [rv.length] using hz)) (x:=u) (by simpa using hu) λh' tk st' sb=>?_
  have e2:((n - 1 - i:Nat):Int) - 1=(n:Int) - 1 - ((i+1:Nat):Int):=by omega
  rw[e2] at st'
  obtain⟨o,e,c,d⟩:=id st'
  exact⟨u,rfl,mJ (s:={ s with heap:=h',toks:=tk }) e c d (by decide) ⟨x,H,I.turned (t':=tk) (λb o hb q=>(sb.2 b hb).trans q) f0 f1 f3 f4 f5,ru,⟨rfl,λys hy=>by rw[I.tuple_inj hy hq];exact hx⟩,st',λb hb=>(hf b hb).1⟩⟩
 done:=by
  intro X hP hw hK hc i pins s σ H E I hf st hg
  subst hP hw hK
  obtain⟨f0,f1,f2,f3,f4,f5⟩:=hf it List.mem_cons_self
  have hg':n=i:=hg
  have e1:(n:Int) - 1 - ((i:Nat):Int)=-1:=by omega
  rw[e1] at st
  exact GQ (I.ok.hd hc) st λh' eb=>⟨rfl,I.turned (t':=s.toks) (λb o hb q=>eb b o hb q) f0 f1 f3 f4 f5⟩
 self:=λ_ _ _ _ _ st h=>u6 st h
section
variable {X:Cx}{tg:Expr}
def Pa (K:PySem.W.Frag) (ta:TA):TI:=fun σ H R=>ta σ H λvs H1=>∃ a xs,vs=[.ref a]/\SqT K H1 a xs/\R (CW K a xs.length) H1
theorem J6 {l:Expr}{ta:TA}{p pos:Pos}(hg:Gl X "reversed") (hm:X.mg "reversed" = none) (ha:PA X [l] ta) (hb:bootBuiltins "reversed" = some (.type "reversed")) (hs:starEach [l] X.env=(false,eval l X.env)::starEach [] X.env:=by rfl) (hp:(backTo pos (starEach [] X.env)).any (·.1)=false:=by rfl):
  PI X tg (.Call (.Name "reversed" p) [l] [] pos) (Pa X.K ta):=by
 intro pins s σ H R I h
 refine Call_ (d_ I hg hm hb (PyProof.Rows.callWith_type1 (thn (ha pos pins s σ H _ I h) λus s1 ⟨vs,H1,I1,r1,q1⟩=>?_) hs hp))
 obtain⟨a,xs,e,hq,q⟩:=q1
 subst e
 obtain⟨u,rfl,ru⟩:=vals1 r1
 cases ru
 obtain⟨its,rv,p,hz⟩:=I1.tuple hq
 refine CT p (Fb (by simpa [rv.length] using hz)) ?_
 have hlen:=rv.length
 have ez:((its.toArray.size:Nat):Int) - 1=(xs.length:Int) - 1 - ((0:Nat):Int):=by rw[List.size_toArray];omega
 rw[ez]
 refine u6 ⟨_,Heap.get?_push_size _ rfl,rfl,rfl⟩ ⟨s1.heap.objs.size,[s1.heap.objs.size],_,_,H1,rfl,I1.kept (t':=s1.toks+1+1) λb o e=>Heap.get?_push_of_some _ e,CZ a _ xs.length,⟨_,Heap.get?_push_size _ rfl,rfl,rfl⟩,λb hb=>?_,q⟩
 rw[List.mem_singleton.mp hb]
 exact I1.fpOk (Nat.le_refl _) (I1.hok.fresh (Nat.le_refl _))
end
end L2
namespace L2
open PySem PySem.Spec PyProof.Rows
section
variable {prog:Program}{w:World}{A:Around}{E:Value->Shared->Prop}{s:Shared}
end
section
variable {X:Cx}
end
end L2
namespace L2
open PySem PySem.Spec PyProof.Rows
def en1 (k:SK) (h:Heap) (l:Addr):Heap:=h.push { cls:=.type k.ty,data:=.fields #[.ref l,.int 0 0] }
def en2 (k:SK) (h:Heap) (l:Addr):Heap:=(en1 k h l).push { cls:=.type "enumerate",data:=.fields #[.none,.bool false,.ref h.objs.size,rawInt 0,.none,.none] }
theorem GR (k:SK) (l:Addr) (xs:Array Value):Meets (Builtin.«enumerate.__new__» ⟨[.type "enumerate",.ref l],[]⟩) (λ_ R s=>k.is s.heap l xs/\R (.ok (.ret (.ref (en1 k s.heap l).objs.size))) { s with heap:=en2 k s.heap l }):=
 .of_wp λprog w A R s h=>by
  obtain⟨hp,g,d,tk,os⟩:=s
  obtain⟨q1,h⟩:=h
  have hsub:=sub_enumerate
  cases k with
  | L=>
   have e1:Heap.IsList (Shared.heap ⟨hp,g,d,tk,os⟩) l xs:=q1
   wp_walk using wpAny_pyIter_list e1
   refine wpAny_stack_any λst=>wpAny_pure ?_
   split
   ·rename_i c _ _ _ _ _
    cases (c == Value.type "enumerate") <;> (wp_walk using wpAny_pyIter_list e1;exact⟨_,rfl,h⟩)
   ·wp_walk using wpAny_pyIter_list e1
    exact⟨_,rfl,h⟩
  | T=>
   have e1:Heap.IsTuple (Shared.heap ⟨hp,g,d,tk,os⟩) l xs:=q1
   wp_walk using wpAny_pyIter_tuple e1
   refine wpAny_stack_any λst=>wpAny_pure ?_
   split
   ·rename_i c _ _ _ _ _
    cases (c == Value.type "enumerate") <;> (wp_walk using wpAny_pyIter_tuple e1;exact⟨_,rfl,h⟩)
   ·wp_walk using wpAny_pyIter_tuple e1
    exact⟨_,rfl,h⟩
theorem yu {prog:Program}{w:World}{A:Around}{E:Value->Shared->Prop}{s:Shared}{k:SK}{l:Addr}{xs:Array Value}{Q:Value->Shared->Prop}(q1:k.is s.heap l xs)
  (h:∀ h',IsEnum h' (s.heap.objs.size+1) s.heap.objs.size 0 .none->k.at h' s.heap.objs.size l 0->(∀ b o,s.heap.get? b=some o->h'.get? b=some o)->Q (.ref (s.heap.objs.size+1)) { s with heap:=h' }):
  wpAny (model prog w) A (call (.type "enumerate") [.ref l]) Q E s:=by
 refine callType_new F.called_enumerate (by decide) (F.typeCall_enumerate_1 _) (F.newCall_enumerate_1 _) (λobj=>F.args_object_init_2 obj _) F.entry_enumerate_new (GR k l xs) ⟨q1,?_⟩
 have hz:(en1 k s.heap l).objs.size=s.heap.objs.size+1:=Heap.size_push ..
 show _/\_
 rw[hz]
 have he:IsEnum (en2 k s.heap l) (s.heap.objs.size+1) s.heap.objs.size 0 .none:=by
  have z:=Heap.get?_push_size (en1 k s.heap l) (o:={ cls:=.type "enumerate",data:=.fields #[.none,.bool false,.ref s.heap.objs.size,rawInt 0,.none,.none] }) rfl
  rw[hz] at z
  exact z
 exact⟨⟨_,he,rfl⟩,h _ he (SK.at_of (Heap.get?_push_of_some _ (Heap.get?_push_size _ rfl))) λb o x=>Heap.get?_push_of_some _ (Heap.get?_push_of_some _ x)⟩
def J7 (K:PySem.W.Frag) (k:SK) (a:Addr):It:=
 ⟨λi H=>∃ xs x,k.sq K H a xs/\xs[i]?=some x,λi H v H'=>∃ t x,H t=none/\v=.ref t/\H'=upd H t (.tup [.int (i:Nat),x])/\∀ xs,k.sq K H a xs->xs[i]?=some x,λi H=>∃ xs,k.sq K H a xs/\xs.length=i⟩
def EAt (k:SK) (e it a:Addr) (i:Nat) (h:Heap):Prop:=(∃ old,IsEnum h e it (i:Nat) old)/\k.at h it a i
theorem yw {P:Program}{w:World}{K:PySem.W.Frag}{es:List Expr}{x1:Nat}{tpos:Pos}(k:SK) (a e it:Addr) (hne:e≠it) (hae:a≠e) (hai:a≠it):Turn P w K (.Tuple es x1 tpos) (J7 K k a) [it,e] e (EAt k e it a) where
 mem:=by simp
 obj:=λi h st b hb=>by
  obtain⟨⟨old,he⟩,s1⟩:=st
  simp only[List.mem_cons,List.not_mem_nil,or_false] at hb
  rcases hb with rfl | rfl
  ·exact SK.at_obj s1
  ·exact⟨_,he,λv y=>by have y':Data.fields _=Data.cell v:=y;cases y'⟩
 keep:=λi h h' st kk=>by
  obtain⟨⟨old,he⟩,s1⟩:=st
  exact⟨⟨old,kk e (by simp) _ he⟩,SK.at_keep s1 λo q=>kk it (by simp) o q⟩
 item:=by
  intro X hP hw hK hc i pins s σ H E I hf st hg
  subst hP hw hK
  obtain⟨xs,x,hq,hx⟩:=hg
  obtain⟨⟨old,he⟩,s1⟩:=st
  obtain⟨its,rv,p1⟩:=I.sk hq
  obtain⟨u,hu,ru⟩:=rv.get hx
  have hh:=I.ok.hd hc
  have hi1:i < its.toArray.size:=by
   rcases Nat.lt_or_ge i its.length with q | q
   ·simpa using q
   ·rw[List.getElem?_eq_none q] at hu;cases hu
  refine wpAny_pyNext_enum_itemD (SK.draws (prog:=X.prog) (w:=X.w) (A:=X.A.in1) k hh it a hai its.toArray) he ⟨s1,p1⟩ hi1 hne (by simp[hne,hae.symm]) λx' h' tk ex heo j1 htup hsz hk=>⟨_,rfl,?_⟩
  have eu:x'=u:=Option.some.inj (by rw[← ex,← hu];simp)
  subst eu
  refine wpAny_letOwnedTupleGo_enum (s:={ s with heap:=h',toks:=tk+1 }) heo λh2 he2 hs2=>?_
  have hel:e < s.heap.objs.size:=Heap.lt_size he
  have g2:h2.get? s.heap.objs.size=some { cls:=.type "tuple",data:=.seq #[.int i tk,x'] }:=(hs2.2 _ (Nat.ne_of_gt hel)).trans htup
  have k2:∀ b o,b∉[it,e]->s.heap.get? b=some o->h2.get? b=some o:=λb o hb q=>by
   simp only[List.mem_cons,List.not_mem_nil,or_false,not_or] at hb
   exact(hs2.2 b hb.2).trans (hk b o hb.2 hb.1 q)
  have g1:k.at h2 it a (i+1):=SK.at_keep j1.1 λo q=>(hs2.2 it (Ne.symm hne)).trans q
  have ht2:∀ b o,s.heap.get? b=some o->∃ o',h2.get? b=some o':=λb o q=>by
   by_cases n1:b=it
   ·subst n1;obtain⟨o',e',_⟩:=SK.at_obj g1;exact⟨o',e'⟩
   ·by_cases n2:b=e
    ·subst n2;exact⟨_,he2⟩
    ·exact⟨o,k2 b o (by simp[n1,n2]) q⟩
  have I2:Inv X pins σ (upd H s.heap.objs.size (.tup [.int (i:Nat),x])) { s with heap:=h2,toks:=tk+1 }:=
   I.turnedL (ch:=[it,e]) k2 ht2 hf (Nat.le_refl _) ⟨by show 2<=sizeLine;decide,[.int i tk,x'],.cons ⟨_,rfl⟩ (.cons ru .nil),⟨_,g2,rfl,_,rfl⟩⟩
  refine⟨.ref s.heap.objs.size,_,I2,rfl,⟨s.heap.objs.size,x,I.fresh,rfl,rfl,λys hy=>by rw[I.sk_inj hy hq];exact hx⟩,⟨⟨x',he2⟩,g1⟩,λb hb=>?_⟩
  have hb0:=(hf b hb).1
  rw[aH ?_]
  ·exact hb0
  ·simp only[List.mem_cons,List.not_mem_nil,or_false] at hb
   rcases hb with rfl | rfl
   ·obtain⟨o,e1,_⟩:=SK.at_obj s1;exact Nat.ne_of_lt (Heap.lt_size e1)
   ·exact Nat.ne_of_lt hel
 done:=by
  intro X hP hw hK hc i pins s σ H E I hf st hg
  subst hP hw hK
  obtain⟨xs,hq,hx⟩:=hg
  obtain⟨⟨old,he⟩,s1⟩:=st
  obtain⟨its,rv,p1⟩:=I.sk hq
  obtain⟨f0,f1,f2,f3,f4,f5⟩:=hf it (by simp)
  have hl:=rv.length
  have hi:i=its.toArray.size:=by rw[List.size_toArray];omega
  rw[hi] at s1
  exact wpAny_pyNext_enum_endD (SK.draws (prog:=X.prog) (w:=X.w) (A:=X.A.in1) k (I.ok.hd hc) it a hai its.toArray) he ⟨s1,p1⟩ λh' eb=>⟨rfl,I.turned (t':=s.toks) (λb o hb q=>eb b o hb q) f0 f1 f3 f4 f5⟩
 self:=λA i s Q E st h=>by
  obtain⟨⟨old,he⟩,s1⟩:=st
  have hT:s.TypeIs (.ref e) "enumerate" := ⟨_,he,rfl⟩
  refine wpAny_pyIter_slot hT F.slot_enumerate_iter (wpAny_call_entry F.slot_enumerate_iter hT F.entry_enumerate_iter ?_ (F.args_enumerate_iter_1 _))
  show wpAny _ _ (ret (.ref e)) _ _ s
  exact wpAny_pure ⟨_,rfl, "enumerate",_,hT,F.slot_enumerate_next.lookup,h⟩
section
variable {X:Cx}
def J8 (K:PySem.W.Frag) (k:SK) (ta:TA):TI:=fun σ H R=>ta σ H λvs H1=>∃ a,vs=[.ref a]/\(∃ xs,k.sq K H1 a xs)/\R (J7 K k a) H1
theorem C_ {k:SK}{l:Expr}{ta:TA}{es:List Expr}{x1:Nat}{tpos p pos:Pos}(hg:Gl X "enumerate") (hm:X.mg "enumerate" = none) (ha:PA X [l] ta) (hs:starEach [l] X.env=[(false,eval l X.env)]:=by rfl):
  PI X (.Tuple es x1 tpos) (.Call (.Name "enumerate" p) [l] [] pos) (J8 X.K k ta):=by
 intro pins s σ H R I h
 refine Call_ (d_ I hg hm PyProof.Rows.boot_enumerate (PyProof.Rows.callWith_type1 (thn (ha pos pins s σ H _ I h) λus s1 ⟨vs,H1,I1,r1,q1⟩=>?_) hs rfl))
 obtain⟨a,e,⟨xs,hq⟩,q⟩:=q1
 subst e
 obtain⟨u,rfl,ru⟩:=vals1 r1
 cases ru
 obtain⟨its,rv,p1⟩:=I1.sk hq
 refine yu p1 λh' he hit hk=>?_
 have I2:Inv X pins σ H1 { s1 with heap:=h' }:=I1.kept (t':=s1.toks) hk
 have la:=SK.is_lt p1
 have st:EAt k (s1.heap.objs.size+1) s1.heap.objs.size a 0 h':=⟨⟨.none,he⟩,hit⟩
 have T:=yw (P:=X.prog) (w:=X.w) (K:=X.K) (es:=es) (x1:=x1) (tpos:=tpos) k a (s1.heap.objs.size+1) s1.heap.objs.size (Nat.succ_ne_self _) (Nat.ne_of_lt (Nat.lt_succ_of_lt la)) (Nat.ne_of_lt la)
 refine T.self X.A 0 { s1 with heap:=h' } _ _ st ?_
 refine⟨s1.heap.objs.size+1,[s1.heap.objs.size,s1.heap.objs.size+1],_,_,H1,rfl,I2,T,st,λb hb=>?_,q⟩
 have hb':s1.heap.objs.size<=b:=by
  simp only[List.mem_cons,List.not_mem_nil,or_false] at hb
  rcases hb with z | z
  ·rw[z];exact Nat.le_refl _
  ·rw[z];exact Nat.le_succ _
 exact I1.fpOk hb' (I1.hok.fresh hb')
end
end L2
namespace L2
open PySem PySem.Spec PyProof.Rows
section
variable {prog:Program}{w:World}{A:Around}{E:Value->Shared->Prop}{s:Shared}
theorem Fd {h h':Heap}{b l:Addr}{its:Array Value}(ht:h.IsList l its) (hs:Heap.ExtBut b h h') (hne:l≠b):h'.IsList l its:=let ⟨o,e,c⟩:=ht;⟨o,hs l o hne e,c⟩
theorem Fe {it l:Addr}{its:Array Value}(hne:l≠it):∀ (n i:Nat) (s:Shared) (Q:List Value->Shared->Prop),s.heap.IsListIter it l i->s.heap.IsList l its->i+n<=its.size->
  (∀ h',h'.IsListIter it l (i+n)->Heap.SameBut it s.heap h'->Q ((its.toList.drop i).take n) { s with heap:=h' })->wpAny (model prog w) A (draw (.ref it) n) Q E s
 | 0,i,s,Q,hit,_,_,hQ=>by
  show wpAny (model prog w) A (pure []) Q E s
  refine wpAny_pure ?_
  have:=hQ s.heap hit (Heap.SameBut.refl ..)
  simpa using this
 | n+1,i,s,Q,hit,ht,hle,hQ=>by
  have hlt:i < its.size:=by omega
  show wpAny (model prog w) A (pyNext (.ref it) >>= _) Q E s
  refine wpAny_bind (wpAny_pyNext_list_item hit ht (x:=its[i]) (by simp[hlt]) λg1 hit1 hs1=>?_)
  refine wpAny_bind (wpAny_holding (Fe hne n (i+1) _ _ hit1 (Fd ht hs1.extBut hne) (by omega) λg2 hit2 hs2=>wpAny_pure ?_))
  have hd:its.toList.drop i=its[i]::its.toList.drop (i+1):=by simp[List.drop_eq_getElem_cons,hlt]
  have z:=hQ g2 (by rw[show i+(n+1)=i+1+n by omega];exact hit2) (hs1.trans hs2)
  rw[hd,List.take_succ_cons] at z
  exact z
theorem GX {l:Addr}{its:Array Value}{Q:List Value->Shared->Prop}(hh:A.handled=none) (ht:s.heap.IsList l its)
  (hQ:∀ h',Heap.ExtBut s.heap.objs.size s.heap h'->Q its.toList { s with heap:=h' }):wpAny (model prog w) A (unpackItems (.ref l) its.size none) Q E s:=by
 have hlt:l≠s.heap.objs.size:=by obtain⟨o,ho,_⟩:=ht;exact Nat.ne_of_lt (Heap.lt_size ho)
 unfold unpackItems
 refine wpAny_bind ?_
 unfold notIterableAtAll
 refine wpAny_bind (wpAny_specialOf ht.typeIs slot_list_iter.lookup ?_)
 refine wpAny_pure ?_
 simp only[if_false,Bool.false_eq_true]
 refine wpAny_bind (wpAny_holding (wpAny_pyIter_list ht ?_))
 refine wpAny_bind (wpAny_holding (Fe hlt its.size 0 _ _ ⟨_,Heap.get?_push_size _ rfl,rfl,rfl⟩ (Heap.IsList.push ht _) (by omega) λg1 hit1 hs1=>?_))
 have hall:List.take its.size (List.drop 0 its.toList)=its.toList:=by
  rw[List.drop_zero]
  exact List.take_of_length_le (by simp)
 rw[hall]
 rw[if_neg (by simp)]
 have ht1:g1.IsList l its:=Fd (Heap.IsList.push ht _) hs1.extBut hlt
 refine wpAny_bind (wpAny_holding (wpAny_pyNext_list_end hh hit1 ht1 (by simp) λg2 he2=>?_))
 simp only[Bool.false_eq_true,Option.isSome_none,if_false]
 exact wpAny_pure (hQ g2 λb o hb e=>he2 b o hb (hs1.extBut b o hb (Heap.get?_push_of_some _ e)))
theorem Pb {env:Env}{elts:List Expr} {x1}{pos:Pos}{l:Addr}{its:Array Value}{Q:Unit->Shared->Prop}(hh:A.handled=none) (ht:s.heap.IsList l its) (hn:(assignEach elts env).length=its.size) (hst:(assignEach elts env).findIdx? (·.1)=none)
  (h:∀ h',Heap.ExtBut s.heap.objs.size s.heap h'->wpAny (model prog w) A (assignInOrder ((assignEach elts env).map (·.2)) its.toList) Q E { s with heap:=h' }):wpAny (model prog w) A (assign (.Tuple elts x1 pos) env (.ref l)) Q E s:=by
 rw[PyProof.Rows.assign_Tuple]
 refine wpAny_bind (wpAny_standAt ?_)
 unfold unpack
 rw[hn,hst]
 exact wpAny_bind (wpAny_holding (GX hh ht h))
end
section
variable {X:Cx}{pos:Pos}
def Pg (K:PySem.W.Frag) (n:Nat) (t:TGs):TG:=λv σ H Q=>∃ a xs,v=.ref a/\SqL K H a xs/\xs.length=n/\t xs σ H Q
theorem J9 {es:List Expr}{k:Nat}{t:TGs}{n:Nat}(hc:X.calm=true) (h:PGs X es t) (hn:(assignEach es X.env).length=n:=by rfl) (hst:(assignEach es X.env).findIdx? (·.1)=none:=by rfl):PG X (.Tuple es k pos) (Pg X.K n t):=by
 intro pins s σ H v u Q I r hw
 obtain⟨a,xs,rfl,hq,hl,hw⟩:=hw
 cases r
 obtain⟨its,rv,ht,hz⟩:=I.list hq
 refine Pb (I.ok.hd hc) ht.isList (by simp[hn,← hl,rv.length]) hst λh' hx=>?_
 have I1:Inv X pins σ H { s with heap:=h' }:=I.kept (t':=s.toks) λb o e=>hx b o (Nat.ne_of_lt (Heap.lt_size e)) e
 exact h pins _ σ H xs _ Q I1 (by simpa using rv) hw
end
end L2
namespace L2
open PySem PySem.Spec PyProof.Rows
section
variable {X:Cx}
end
end L2
namespace MR
open PySem L2
inductive PV where
 | non | bl (b:Bool) | int (i:Int) | str (x:Str)
 | lst (xs:List PV) | frz (xs:List PV) | tup (xs:List PV) | ktp (xs:List PV)
 | dK (kvs:List (Key×PV)) | dT (kvs:List (List Key×PV))
 | obj (c:Nat) (fs:List (Str×PV))
structure MC where
 K:PySem.W.Frag
 cl:Nat->Addr
mutual
inductive Rep (C:MC) (A:Addr->Prop) (H:Hp):V->PV->Prop
 | non:Rep C A H .non .non
 | bl (b:Bool):Rep C A H (.bl b) (.bl b)
 | int (i:Int):Rep C A H (.int i) (.int i)
 | str (x:Str):Rep C A H (.str x) (.str x)
 | lst {a:Addr}{vs:List V}{xs:List PV}:H a=some (.lst vs)->A a->Reps C A H vs xs->Rep C A H (.ref a) (.lst xs)
 | lstF {a:Addr}{o:Obj}{vs:List V}{xs:List PV}:H a=some (.frz o (.lst vs))->Reps C A H vs xs->Rep C A H (.ref a) (.frz xs)
 | lstK {a:Addr}{vs:List V}{xs:List PV}:SqL C.K (λ_=>none) a vs->Reps C A H vs xs->Rep C A H (.ref a) (.frz xs)
 | tup {a:Addr}{vs:List V}{xs:List PV}:H a=some (.tup vs)->Reps C A H vs xs->Rep C A H (.ref a) (.tup xs)
 | tupK {a:Addr}{vs:List V}{xs:List PV}:SqT C.K (λ_=>none) a vs->Reps C A H vs xs->Rep C A H (.ref a) (.ktp xs)
 | dK {a:Addr}{kv:List (Key×V)}{kvs:List (Key×PV)}:H a=some (.dK kv)->A a->RepK C A H kv kvs->Rep C A H (.ref a) (.dK kvs)
 | dT {a:Addr}{kv:List (List Key×V)}{kvs:List (List Key×PV)}:H a=some (.dT kv)->A a->RepT C A H kv kvs->Rep C A H (.ref a) (.dT kvs)
 | obj {a dx:Addr}{c:Nat}{f:List (Str×V)}{fs:List (Str×PV)}:H a=some (.ins (C.cl c) dx f)->A a->RepF C A H f fs->Rep C A H (.ref a) (.obj c fs)
inductive Reps (C:MC) (A:Addr->Prop) (H:Hp):List V->List PV->Prop
 | nil:Reps C A H [] []
 | cons {v:V}{p:PV}{vs:List V}{ps:List PV}:Rep C A H v p->Reps C A H vs ps->Reps C A H (v::vs) (p::ps)
inductive RepK (C:MC) (A:Addr->Prop) (H:Hp):List (Key×V)->List (Key×PV)->Prop
 | nil:RepK C A H [] []
 | cons {k:Key}{v:V}{p:PV}{vs:List (Key×V)}{ps:List (Key×PV)}:Rep C A H v p->RepK C A H vs ps->RepK C A H ((k,v)::vs) ((k,p)::ps)
inductive RepT (C:MC) (A:Addr->Prop) (H:Hp):List (List Key×V)->List (List Key×PV)->Prop
 | nil:RepT C A H [] []
 | cons {k:List Key}{v:V}{p:PV}{vs:List (List Key×V)}{ps:List (List Key×PV)}:Rep C A H v p->RepT C A H vs ps->RepT C A H ((k,v)::vs) ((k,p)::ps)
inductive RepF (C:MC) (A:Addr->Prop) (H:Hp):List (Str×V)->List (Str×PV)->Prop
 | nil:RepF C A H [] []
 | cons {k:Str}{v:V}{p:PV}{vs:List (Str×V)}{ps:List (Str×PV)}:Rep C A H v p->RepF C A H vs ps->RepF C A H ((k,v)::vs) ((k,p)::ps)
end
def yx:HO->Bool
 | .lst _=>true
 | .dK _=>true
 | .dT _=>true
 | .ins _ _ _=>true
 | _=>false
def Ex (A:Addr->Prop) (H:Hp) (A':Addr->Prop) (H':Hp):Prop:=∀ a o,H a=some o->(A a->H' a=some o/\A' a)/\(yx o=false->H' a=some o)
theorem Ex.refl (A:Addr->Prop) (H:Hp):Ex A H A H:=λa o h=>⟨λq=>⟨h,q⟩,λ_=>h⟩
theorem Ex.trans {A B C:Addr->Prop}{H I J:Hp}(e:Ex A H B I) (f:Ex B I C J):Ex A H C J:=λa o h=>⟨λq=>by
 obtain⟨h1,q1⟩:=(e a o h).1 q
 exact(f a o h1).1 q1,λm=>(f a o ((e a o h).2 m)).2 m⟩
theorem Ex.of_same {A:Addr->Prop}{H H':Hp}(s:Same H H'):Ex A H A H':=λa o h=>⟨λq=>⟨s a o h,q⟩,λ_=>s a o h⟩
mutual
theorem Rep.ex {C:MC}{A A':Addr->Prop}{H H':Hp}(e:Ex A H A' H'):∀ {v:V}{p:PV},Rep C A H v p->Rep C A' H' v p
 | _,_,.non=>.non
 | _,_,.bl b=>.bl b
 | _,_,.int i=>.int i
 | _,_,.str x=>.str x
 | _,_,.lst h q r=>.lst ((e _ _ h).1 q).1 ((e _ _ h).1 q).2 (Reps.ex e r)
 | _,_,.lstF h r=>.lstF ((e _ _ h).2 rfl) (Reps.ex e r)
 | _,_,.lstK h r=>.lstK h (Reps.ex e r)
 | _,_,.tup h r=>.tup ((e _ _ h).2 rfl) (Reps.ex e r)
 | _,_,.tupK h r=>.tupK h (Reps.ex e r)
 | _,_,.dK h q r=>.dK ((e _ _ h).1 q).1 ((e _ _ h).1 q).2 (RepK.ex e r)
 | _,_,.dT h q r=>.dT ((e _ _ h).1 q).1 ((e _ _ h).1 q).2 (RepT.ex e r)
 | _,_,.obj h q r=>.obj ((e _ _ h).1 q).1 ((e _ _ h).1 q).2 (RepF.ex e r)
theorem Reps.ex {C:MC}{A A':Addr->Prop}{H H':Hp}(e:Ex A H A' H'):∀ {v:List V}{p:List PV},Reps C A H v p->Reps C A' H' v p
 | _,_,.nil=>.nil
 | _,_,.cons h t=>.cons (Rep.ex e h) (Reps.ex e t)
theorem RepK.ex {C:MC}{A A':Addr->Prop}{H H':Hp}(e:Ex A H A' H'):∀ {v:List (Key×V)}{p:List (Key×PV)},RepK C A H v p->RepK C A' H' v p
 | _,_,.nil=>.nil
 | _,_,.cons h t=>.cons (Rep.ex e h) (RepK.ex e t)
theorem RepT.ex {C:MC}{A A':Addr->Prop}{H H':Hp}(e:Ex A H A' H'):∀ {v:List (List Key×V)}{p:List (List Key×PV)},RepT C A H v p->RepT C A' H' v p
 | _,_,.nil=>.nil
 | _,_,.cons h t=>.cons (Rep.ex e h) (RepT.ex e t)
theorem RepF.ex {C:MC}{A A':Addr->Prop}{H H':Hp}(e:Ex A H A' H'):∀ {v:List (Str×V)}{p:List (Str×PV)},RepF C A H v p->RepF C A' H' v p
 | _,_,.nil=>.nil
 | _,_,.cons h t=>.cons (Rep.ex e h) (RepF.ex e t)
end
theorem bF {A A':Addr->Prop}{H:Hp}(h:∀ a o,H a=some o->A a->A' a):Ex A H A' H:=λa o e=>⟨λq=>⟨e,h a o e q⟩,λ_=>e⟩
theorem Reps.length {C:MC}{A:Addr->Prop}{H:Hp}:∀ {vs:List V}{ps:List PV},Reps C A H vs ps->vs.length=ps.length
 | _,_,.nil=>rfl
 | _,_,.cons _ t=>by simp[Reps.length t]
theorem Reps.append {C:MC}{A:Addr->Prop}{H:Hp}:∀ {vs us:List V}{ps qs:List PV},Reps C A H vs ps->Reps C A H us qs->Reps C A H (vs++us) (ps++qs)
 | _,_,_,_,.nil,h=>h
 | _,_,_,_,.cons h t,r=>.cons h (Reps.append t r)
theorem Reps.get {C:MC}{A:Addr->Prop}{H:Hp}:∀ {vs:List V}{ps:List PV}{i:Nat}{p:PV},Reps C A H vs ps->ps[i]?=some p->∃ v,vs[i]?=some v/\Rep C A H v p
 | _,_,_,_,.nil,e=>by simp at e
 | _,_,0,_,.cons h t,e=>by simp at e;subst e;exact⟨_,rfl,h⟩
 | _,_,i+1,p,.cons h t,e=>by
  obtain⟨v,e1,r⟩:=Reps.get (i:=i) (p:=p) t (by simpa using e)
  exact⟨v,by simpa using e1,r⟩
theorem Reps.drop {C:MC}{A:Addr->Prop}{H:Hp}:∀ {vs:List V}{ps:List PV}(n:Nat),Reps C A H vs ps->Reps C A H (vs.drop n) (ps.drop n)
 | _,_,0,h=>by simpa using h
 | _,_,n+1,.nil=>by simpa using Reps.nil
 | _,_,n+1,.cons _ t=>by simpa using Reps.drop n t
theorem Reps.take {C:MC}{A:Addr->Prop}{H:Hp}:∀ {vs:List V}{ps:List PV}(n:Nat),Reps C A H vs ps->Reps C A H (vs.take n) (ps.take n)
 | _,_,0,h=>by simpa using Reps.nil
 | _,_,n+1,.nil=>by simpa using Reps.nil
 | _,_,n+1,.cons h t=>by simpa using Reps.cons h (Reps.take n t)
theorem Reps.set {C:MC}{A:Addr->Prop}{H:Hp}{v:V}{p:PV}(r:Rep C A H v p):∀ {vs:List V}{ps:List PV}(n:Nat),Reps C A H vs ps->Reps C A H (vs.set n v) (ps.set n p)
 | _,_,_,.nil=>.nil
 | _,_,0,.cons _ t=>.cons r t
 | _,_,n+1,.cons h t=>.cons h (Reps.set r n t)
theorem Reps.reverse {C:MC}{A:Addr->Prop}{H:Hp}:∀ {vs:List V}{ps:List PV},Reps C A H vs ps->Reps C A H vs.reverse ps.reverse
 | _,_,.nil=>.nil
 | _,_,.cons h t=>by
  rw[List.reverse_cons,List.reverse_cons]
  exact(Reps.reverse t).append (.cons h .nil)
theorem rB {C:MC}{A:Addr->Prop}{H:Hp}{α:Type}(f:α->V) (g:α->PV) (h:∀ x,Rep C A H (f x) (g x)):∀ l:List α,Reps C A H (l.map f) (l.map g)
 | []=>.nil
 | x::l=>.cons (h x) (rB f g h l)
theorem RepK.val {C:MC}{A:Addr->Prop}{H:Hp}{k:Key}:∀ {kv:List (Key×V)}{kvs:List (Key×PV)},RepK C A H kv kvs->(∃ v p,gf kv k=some v/\(kvs.find? λx=>decide (x.1=k)).map (·.2)=some p/\Rep C A H v p)\/(gf kv k=none/\(kvs.find? λx=>decide (x.1=k)).map (·.2)=none)
 | _,_,.nil=>.inr ⟨rfl,rfl⟩
 | _,_,.cons (k:=k') (v:=v) (p:=p) h t=>by
  by_cases e:k'=k
  ·subst e
   exact .inl ⟨v,p,jG rfl,by simp,h⟩
  ·rw[jH e,List.find?_cons_of_neg (by simpa using e)]
   exact RepK.val t
theorem RepT.val {C:MC}{A:Addr->Prop}{H:Hp}{k:List Key}:∀ {kv:List (List Key×V)}{kvs:List (List Key×PV)},RepT C A H kv kvs->(∃ v p,gf kv k=some v/\(kvs.find? λx=>decide (x.1=k)).map (·.2)=some p/\Rep C A H v p)\/(gf kv k=none/\(kvs.find? λx=>decide (x.1=k)).map (·.2)=none)
 | _,_,.nil=>.inr ⟨rfl,rfl⟩
 | _,_,.cons (k:=k') (v:=v) (p:=p) h t=>by
  by_cases e:k'=k
  ·subst e
   exact .inl ⟨v,p,jG rfl,by simp,h⟩
  ·rw[jH e,List.find?_cons_of_neg (by simpa using e)]
   exact RepT.val t
theorem RepF.look {C:MC}{A:Addr->Prop}{H:Hp}{k:Str}{p:PV}:∀ {f:List (Str×V)}{fs:List (Str×PV)},RepF C A H f fs->fs.lookup k=some p->∃ v,f.lookup k=some v/\Rep C A H v p
 | _,_,.nil,e=>by cases e
 | _,_,.cons (k:=k') (v:=v) (p:=p') h t,e=>by
  rw[List.lookup_cons] at e ⊢
  cases q:k == k' with
  | true=>rw[q] at e;cases e;exact⟨v,rfl,h⟩
  | false=>rw[q] at e;exact RepF.look t e
def Top (C:MC) (A:Addr->Prop) (H:Hp) (a:Addr):PV->Prop
 | .lst xs=>∃ vs,H a=some (.lst vs)/\Reps C A H vs xs
 | .dK kvs=>∃ kv,H a=some (.dK kv)/\RepK C A H kv kvs
 | .dT kvs=>∃ kv,H a=some (.dT kv)/\RepT C A H kv kvs
 | .obj c fs=>∃ dx f,H a=some (.ins (C.cl c) dx f)/\RepF C A H f fs
 | _=>False
theorem Top.ex {C:MC}{A A':Addr->Prop}{H H':Hp}{a:Addr}{p:PV}(e:Ex A H A' H') (h:∀ o,H a=some o->H' a=some o) (t:Top C A H a p):Top C A' H' a p:=by
 cases p with
 | lst xs=>obtain⟨vs,q,r⟩:=t;exact⟨vs,h _ q,r.ex e⟩
 | dK kvs=>obtain⟨vs,q,r⟩:=t;exact⟨vs,h _ q,r.ex e⟩
 | dT kvs=>obtain⟨vs,q,r⟩:=t;exact⟨vs,h _ q,r.ex e⟩
 | obj c fs=>obtain⟨dx,f,q,r⟩:=t;exact⟨dx,f,h _ q,r.ex e⟩
 | _=>exact t
theorem Top.live {C:MC}{A:Addr->Prop}{H:Hp}{a:Addr}{p:PV}(t:Top C A H a p):∃ o,H a=some o/\yx o=true:=by
 cases p with
 | lst xs=>obtain⟨vs,q,r⟩:=t;exact⟨_,q,rfl⟩
 | dK kvs=>obtain⟨vs,q,r⟩:=t;exact⟨_,q,rfl⟩
 | dT kvs=>obtain⟨vs,q,r⟩:=t;exact⟨_,q,rfl⟩
 | obj c fs=>obtain⟨dx,f,q,r⟩:=t;exact⟨_,q,rfl⟩
 | _=>exact t.elim
theorem Top.rep {C:MC}{A:Addr->Prop}{H:Hp}{a:Addr}{p:PV}(t:Top C A H a p) (h:A a):Rep C A H (.ref a) p:=by
 cases p with
 | lst xs=>obtain⟨vs,q,r⟩:=t;exact .lst q h r
 | dK kvs=>obtain⟨vs,q,r⟩:=t;exact .dK q h r
 | dT kvs=>obtain⟨vs,q,r⟩:=t;exact .dT q h r
 | obj c fs=>obtain⟨dx,f,q,r⟩:=t;exact .obj q h r
 | _=>exact t.elim
def RepB (C:MC) (A:Addr->Prop) (H:Hp) (v:V) (p:PV):Prop:=Rep C A H v p\/∃ a,v=.ref a/\Top C A H a p
theorem RepB.ex {C:MC}{A A':Addr->Prop}{H H':Hp}{v:V}{p:PV}(e:Ex A H A' H') (s:Same H H') (h:RepB C A H v p):RepB C A' H' v p:=by
 rcases h with h | ⟨a,q,t⟩
 ·exact .inl (h.ex e)
 ·exact .inr ⟨a,q,t.ex e λo z=>s _ _ z⟩
section
variable {C:MC}{A:Addr->Prop}{H:Hp}{v:V}
theorem sqK {K:PySem.W.Frag}{a:Addr}{vs:List V}(h:SqL K (λ_=>none) a vs):SqL K H a vs:=by
 rcases h with (h | ⟨o,h⟩) | h
 ·cases h
 ·cases h
 ·exact .inr h
theorem pM {K:PySem.W.Frag}{a:Addr}{vs:List V}(h:SqT K (λ_=>none) a vs):SqT K H a vs:=by
 rcases h with (h | ⟨o,h⟩) | h
 ·cases h
 ·cases h
 ·exact .inr h
theorem RepB.lst {xs:List PV}(h:RepB C A H v (.lst xs)):∃ a vs,v=.ref a/\H a=some (.lst vs)/\Reps C A H vs xs:=by
 rcases h with h | ⟨a,rfl,vs,q,r⟩
 ·cases h with
  | lst q _ r=>exact⟨_,_,rfl,q,r⟩
 ·exact⟨a,vs,rfl,q,r⟩
theorem RepB.frz {xs:List PV}(h:RepB C A H v (.frz xs)):∃ a vs,v=.ref a/\SqL C.K H a vs/\Reps C A H vs xs:=by
 rcases h with h | ⟨a,rfl,t⟩
 ·cases h with
  | lstF q r=>exact⟨_,_,rfl,.inl (.inr ⟨_,q⟩),r⟩
  | lstK q r=>exact⟨_,_,rfl,sqK q,r⟩
 ·exact t.elim
theorem RepB.tup {xs:List PV}(h:RepB C A H v (.tup xs)):∃ a vs,v=.ref a/\H a=some (.tup vs)/\Reps C A H vs xs:=by
 rcases h with h | ⟨a,rfl,t⟩
 ·cases h with
  | tup q r=>exact⟨_,_,rfl,q,r⟩
 ·exact t.elim
theorem RepB.ktp {xs:List PV}(h:RepB C A H v (.ktp xs)):∃ a vs,v=.ref a/\SqT C.K H a vs/\Reps C A H vs xs:=by
 rcases h with h | ⟨a,rfl,t⟩
 ·cases h with
  | tupK q r=>exact⟨_,_,rfl,pM q,r⟩
 ·exact t.elim
theorem RepB.dK {kvs:List (Key×PV)}(h:RepB C A H v (.dK kvs)):∃ a kv,v=.ref a/\H a=some (.dK kv)/\RepK C A H kv kvs:=by
 rcases h with h | ⟨a,rfl,vs,q,r⟩
 ·cases h with
  | dK q _ r=>exact⟨_,_,rfl,q,r⟩
 ·exact⟨a,vs,rfl,q,r⟩
theorem RepB.dT {kvs:List (List Key×PV)}(h:RepB C A H v (.dT kvs)):∃ a kv,v=.ref a/\H a=some (.dT kv)/\RepT C A H kv kvs:=by
 rcases h with h | ⟨a,rfl,vs,q,r⟩
 ·cases h with
  | dT q _ r=>exact⟨_,_,rfl,q,r⟩
 ·exact⟨a,vs,rfl,q,r⟩
theorem RepB.obj {c:Nat}{fs:List (Str×PV)}(h:RepB C A H v (.obj c fs)):∃ a dx f,v=.ref a/\H a=some (.ins (C.cl c) dx f)/\RepF C A H f fs:=by
 rcases h with h | ⟨a,rfl,dx,vs,q,r⟩
 ·cases h with
  | obj q _ r=>exact⟨_,_,_,rfl,q,r⟩
 ·exact⟨a,dx,vs,rfl,q,r⟩
theorem RepB.int {i:Int}(h:RepB C A H v (.int i)):v=.int i:=by
 rcases h with h | ⟨a,rfl,t⟩
 ·cases h;rfl
 ·exact t.elim
theorem RepB.str {x:Str}(h:RepB C A H v (.str x)):v=.str x:=by
 rcases h with h | ⟨a,rfl,t⟩
 ·cases h;rfl
 ·exact t.elim
theorem RepB.bl {x:Bool}(h:RepB C A H v (.bl x)):v=.bl x:=by
 rcases h with h | ⟨a,rfl,t⟩
 ·cases h;rfl
 ·exact t.elim
theorem RepB.non (h:RepB C A H v .non):v=.non:=by
 rcases h with h | ⟨a,rfl,t⟩
 ·cases h;rfl
 ·exact t.elim
end
structure BX where
 C:MC
 A:Addr->Prop
 H0:Hp
 fx:Nat->Option V
def fx0 (x:V):Nat->Option V
 | 0=>some x
 | _+1=>none
abbrev Env:=List (Option PV)
def Bs (b:BX) (Ow:Addr->Prop) (a:Addr):Prop:=¬ Ow a/\(b.A a\/b.H0 a=none)
structure ER (b:BX) (Ow:Addr->Prop) (G:List Nat) (σ:St) (env:Env) (H:Hp):Prop where
 len:σ.length=env.length
 same:Same b.H0 H
 live:∀ a,Ow a->∃ o,H a=some o
 new:∀ a,Ow a->b.H0 a=none
 val:∀ i p,env[i]?=some (some p)->i∉G->∃ v,σ[i]?=some (some v)/\Rep b.C (Bs b Ow) H v p
 own:∀ i p,env[i]?=some (some p)->i∈G->∃ a,σ[i]?=some (some (.ref a))/\Ow a/\Top b.C (Bs b Ow) H a p
 sep:∀ i j a p q,env[i]?=some (some p)->i∈G->σ[i]?=some (some (.ref a))->env[j]?=some (some q)->j∈G->σ[j]?=some (some (.ref a))->i=j
 fix:∀ i v,b.fx i=some v->σ[i]?=some (some v)
inductive Md where | val | own | bor
def Res (b:BX) (Ow:Addr->Prop) (H H':Hp) (m:Md) (v:V) (p:PV):Prop:=match m with
 | .val=>Rep b.C (Bs b Ow) H' v p
 | .own=>∃ a,v=.ref a/\H a=none/\Top b.C (λc=>Bs b Ow c/\c≠a) H' a p
 | .bor=>RepB b.C (Bs b Ow) H' v p
def tM (b:BX) (G:List Nat) (m:Md) (f:Env->Option PV):TE:=fun σ H Q=>∃ Ow env p,ER b Ow G σ env H/\f env=some p/\∀ v H',Same H H'->Res b Ow H H' m v p->Q v H'
def tMT (b:BX) (G:List Nat) (f:Env->Option Bool):TT:=fun σ H Q=>∃ Ow env k,ER b Ow G σ env H/\f env=some k/\∀ H',Same H H'->Q k H'
section
variable {b:BX}{Ow:Addr->Prop}{G:List Nat}{σ:St}{env:Env}{H H':Hp}
theorem ER.up (E:ER b Ow G σ env H) (s:Same H H'):ER b Ow G σ env H':=
 ⟨E.len,E.same.trans s,λa h=>let ⟨o,e⟩:=E.live a h;⟨o,s _ _ e⟩,E.new,λi p h n=>let ⟨v,e,r⟩:=E.val i p h n;⟨v,e,r.ex (.of_same s)⟩,
  λi p h n=>let ⟨a,e,w,t⟩:=E.own i p h n;⟨a,e,w,t.ex (.of_same s) λo z=>s _ _ z⟩,E.sep,E.fix⟩
theorem ER.fresh (E:ER b Ow G σ env H){a:Addr}(h:H a=none):Bs b Ow a:=
 ⟨λw=>(by obtain⟨o,e⟩:=E.live a w;rw[h] at e;cases e),.inr (E.same.free h)⟩
theorem Res.val {m:Md}{v:V}{p:PV}(E:ER b Ow G σ env H) (hm:m≠.bor) (r:Res b Ow H H' m v p):Res b Ow H H' .val v p:=by
 cases m with
 | val=>exact r
 | bor=>exact absurd rfl hm
 | own=>
  obtain⟨a,rfl,h,t⟩:=r
  have hw:Ex (λc=>Bs b Ow c/\c≠a) H' (Bs b Ow) H':=bF λ_ _ _ z=>z.1
  exact(t.ex hw λo z=>z).rep (E.fresh h)
theorem Res.bor {m:Md}{v:V}{p:PV}(r:Res b Ow H H' m v p):Res b Ow H H' .bor v p:=by
 cases m with
 | val=>exact .inl r
 | bor=>exact r
 | own=>
  obtain⟨a,rfl,h,t⟩:=r
  have hw:Ex (λc=>Bs b Ow c/\c≠a) H' (Bs b Ow) H':=bF λ_ _ _ z=>z.1
  exact .inr ⟨a,rfl,t.ex hw λo z=>z⟩
theorem Res.up {m:Md}{v:V}{p:PV}{H'':Hp}(r:Res b Ow H H' m v p) (s:Same H' H''):Res b Ow H H'' m v p:=by
 cases m with
 | val=>exact Rep.ex (.of_same s) r
 | bor=>exact RepB.ex (.of_same s) s r
 | own=>
  obtain⟨a,e,h,t⟩:=r
  exact⟨a,e,h,t.ex (.of_same s) λo z=>s _ _ z⟩
theorem Res.down {m:Md}{v:V}{p:PV}{H'':Hp}(s:Same H H') (r:Res b Ow H' H'' m v p):Res b Ow H H'' m v p:=by
 cases m with
 | val=>exact r
 | bor=>exact r
 | own=>
  obtain⟨a,e,h,t⟩:=r
  exact⟨a,e,s.free h,t⟩
end
theorem PE.imp {X:Cx}{e:Expr}{t u:TE}(h:PE X e t) (i:∀ σ H Q,u σ H Q->t σ H Q):PE X e u:=λpins s σ H Q I q=>h pins s σ H Q I (i σ H Q q)
theorem PT.imp {X:Cx}{e:Expr}{t u:TT}(h:PT X e t) (i:∀ σ H Q,u σ H Q->t σ H Q):PT X e u:=λpins s σ H Q I q=>h pins s σ H Q I (i σ H Q q)
theorem PS.imp {X:Cx}{e:Stmt}{t u:TS}(h:PS X e t) (i:∀ D σ H,u D σ H->t D σ H):PS X e u:=λpins s σ H D I q=>h pins s σ H D I (i D σ H q)
theorem PE.or {X:Cx}{e:Expr}{t u:TE}(h:PE X e t) (h':PE X e u):PE X e (fun σ H Q=>t σ H Q\/u σ H Q):=λpins s σ H Q I q=>q.elim (h pins s σ H Q I) (h' pins s σ H Q I)
theorem OpR.or {X:Cx}{op:Value->Value->Sem Value}{r r':R2}(h:OpR X op r) (h':OpR X op r'):OpR X op (λx y H Q=>r x y H Q\/r' x y H Q):=λpins s σ H x y v u Q I rx ry q=>q.elim (h pins s σ H x y v u Q I rx ry) (h' pins s σ H x y v u Q I rx ry)
abbrev SE (X:Cx) (b:BX) (G:List Nat) (m:Md) (e:Expr) (f:Env->Option PV):Prop:=PE X e (tM b G m f)
abbrev ST (X:Cx) (b:BX) (G:List Nat) (e:Expr) (f:Env->Option Bool):Prop:=PT X e (tMT b G f)
theorem SE.bor {X:Cx}{b:BX}{G:List Nat}{m:Md}{e:Expr}{f:Env->Option PV}(h:SE X b G m e f):SE X b G .bor e f:=
 PE.imp h fun σ H Q ⟨Ow,env,p,E,hf,k⟩=>⟨Ow,env,p,E,hf,λv H' s r=>k v H' s r.bor⟩
theorem SE.val {X:Cx}{b:BX}{G:List Nat}{e:Expr}{f:Env->Option PV}(h:SE X b G .own e f):SE X b G .val e f:=
 PE.imp h fun σ H Q ⟨Ow,env,p,E,hf,k⟩=>⟨Ow,env,p,E,hf,λv H' s r=>k v H' s (r.val E (by intro z;cases z))⟩
end MR
namespace MR
open PySem L2
def bC (p:PV) (env:Env):Option PV:=some p
@[simp] theorem Rk (p:PV) (env:Env):bC p env=(some p):=id rfl
def bV (i:Nat) (env:Env):Option PV:=match env[i]? with | some o=>o | none=>none
@[simp] theorem Rm (i:Nat) (env:Env):bV i env=(match env[i]? with | some o=>o | none=>none):=id rfl
def b1 (g:PV->Option PV) (f:Env->Option PV) (env:Env):Option PV:=(f env).bind g
@[simp] theorem Rn (g:PV->Option PV) (f:Env->Option PV) (env:Env):b1 g f env=((f env).bind g):=id rfl
def b2 (g:PV->PV->Option PV) (f h:Env->Option PV) (env:Env):Option PV:=(f env).bind λx=>(h env).bind λy=>g x y
@[simp] theorem Ff (g:PV->PV->Option PV) (f h:Env->Option PV) (env:Env):b2 g f h env=((f env).bind λx=>(h env).bind λy=>g x y):=id rfl
def b3 (g:PV->PV->PV->Option PV) (f h k:Env->Option PV) (env:Env):Option PV:=(f env).bind λx=>(h env).bind λy=>(k env).bind λz=>g x y z
@[simp] theorem Ro (g:PV->PV->PV->Option PV) (f h k:Env->Option PV) (env:Env):b3 g f h k env=((f env).bind λx=>(h env).bind λy=>(k env).bind λz=>g x y z):=id rfl
def lw (f g:Env->Option PV) (env:Env):Option PV:=(f env).bind λx=>match x with | .bl true=>g env | .bl false=>some (.bl false) | _=>none
@[simp] theorem Qk (f g:Env->Option PV) (env:Env):lw f g env=((f env).bind λx=>match x with | .bl true=>g env | .bl false=>some (.bl false) | _=>none):=id rfl
def bOr (f g:Env->Option PV) (env:Env):Option PV:=(f env).bind λx=>match x with | .bl true=>some (.bl true) | .bl false=>g env | _=>none
@[simp] theorem QK (f g:Env->Option PV) (env:Env):bOr f g env=((f env).bind λx=>match x with | .bl true=>some (.bl true) | .bl false=>g env | _=>none):=id rfl
def yz (f:Env->Option PV) (env:Env):Option PV:=(f env).bind λx=>match x with | .bl c=>some (.bl (!c)) | _=>none
@[simp] theorem Ql (f:Env->Option PV) (env:Env):yz f env=((f env).bind λx=>match x with | .bl c=>some (.bl (!c)) | _=>none):=id rfl
def bIf (c:Env->Option Bool) (f g:Env->Option PV) (env:Env):Option PV:=(c env).bind λx=>if x=true then f env else g env
@[simp] theorem QL (c:Env->Option Bool) (f g:Env->Option PV) (env:Env):bIf c f g env=((c env).bind λx=>if x=true then f env else g env):=id rfl
def tV (f:Env->Option PV) (env:Env):Option Bool:=(f env).bind λx=>match x with | .bl c=>some c | _=>none
@[simp] theorem Rp (f:Env->Option PV) (env:Env):tV f env=((f env).bind λx=>match x with | .bl c=>some c | _=>none):=id rfl
def tA (f g:Env->Option Bool) (env:Env):Option Bool:=(f env).bind λx=>if x=true then g env else some false
@[simp] theorem Rq (f g:Env->Option Bool) (env:Env):tA f g env=((f env).bind λx=>if x=true then g env else some false):=id rfl
def tO (f g:Env->Option Bool) (env:Env):Option Bool:=(f env).bind λx=>if x=true then some true else g env
@[simp] theorem Rr (f g:Env->Option Bool) (env:Env):tO f g env=((f env).bind λx=>if x=true then some true else g env):=id rfl
def tN (f:Env->Option Bool) (env:Env):Option Bool:=(f env).bind λx=>some (!x)
@[simp] theorem Rt (f:Env->Option Bool) (env:Env):tN f env=((f env).bind λx=>some (!x)):=id rfl
def az (env:Env):Option (List PV):=some []
@[simp] theorem Qm (env:Env):az env=(some []):=id rfl
def aa (f:Env->Option PV) (g:Env->Option (List PV)) (env:Env):Option (List PV):=(f env).bind λx=>(g env).bind λxs=>some (x::xs)
@[simp] theorem Ph (f:Env->Option PV) (g:Env->Option (List PV)) (env:Env):aa f g env=((f env).bind λx=>(g env).bind λxs=>some (x::xs)):=id rfl
def aU (g:Env->Option (List PV)) (env:Env):Option PV:=(g env).bind λxs=>if xs.length<=1000000 then some (.lst xs) else none
@[simp] theorem Qn (g:Env->Option (List PV)) (env:Env):aU g env=((g env).bind λxs=>if xs.length<=1000000 then some (.lst xs) else none):=id rfl
def bG (g:Env->Option (List PV)) (env:Env):Option PV:=(g env).bind λxs=>if xs.length<=1000000 then some (.tup xs) else none
@[simp] theorem Qo (g:Env->Option (List PV)) (env:Env):bG g env=((g env).bind λxs=>if xs.length<=1000000 then some (.tup xs) else none):=id rfl
def aQ (m:List PV->Option PV) (g:Env->Option (List PV)) (env:Env):Option PV:=(g env).bind m
@[simp] theorem Pj (m:List PV->Option PV) (g:Env->Option (List PV)) (env:Env):aQ m g env=((g env).bind m):=id rfl
section
variable {b:BX}{G:List Nat}{m:Md}{σ:St}{H:Hp}{Q:VK}
def Op2 (b:BX) (m:Md) (r:R2) (g:PV->PV->Option PV):Prop:=∀ (Ow:Addr->Prop) (H:Hp) (v1 v2:V) (p1 p2 p:PV) (Q:VK),(∀ a,H a=none->Bs b Ow a)->RepB b.C (Bs b Ow) H v1 p1->RepB b.C (Bs b Ow) H v2 p2->g p1 p2=some p->
 (∀ v H',Same H H'->Res b Ow H H' m v p->Q v H')->r v1 v2 H Q
theorem yC {r:R2}{g:PV->PV->Option PV}{f1 f2:Env->Option PV}(hr:Op2 b m r g) (h:tM b G m (b2 g f1 f2) σ H Q):tOp r (tM b G .bor f1) (tM b G .bor f2) σ H Q:=by
 obtain⟨Ow,env,p,E,hf,k⟩:=h
 unfold b2 at hf
 cases h1:f1 env with
 | none=>rw[h1] at hf;cases hf
 | some p1=>
  rw[h1] at hf
  cases h2:f2 env with
  | none=>rw[h2] at hf;cases hf
  | some p2=>
   rw[h2] at hf
   exact⟨Ow,env,p1,E,h1,λv1 H1 s1 r1=>⟨Ow,env,p2,E.up s1,h2,λv2 H2 s2 r2=>hr Ow H2 v1 v2 p1 p2 p Q (λa=>(E.up (s1.trans s2)).fresh) (r1.up s2) r2 hf λv H' s r=>k v H' (s1.trans (s2.trans s)) (r.down (s1.trans s2))⟩⟩
def Op1 (b:BX) (m:Md) (r:V->Hp->VK->Prop) (g:PV->Option PV):Prop:=∀ (Ow:Addr->Prop) (H:Hp) (v1:V) (p1 p:PV) (Q:VK),(∀ a,H a=none->Bs b Ow a)->RepB b.C (Bs b Ow) H v1 p1->g p1=some p->
 (∀ v H',Same H H'->Res b Ow H H' m v p->Q v H')->r v1 H Q
theorem yD {r:V->Hp->VK->Prop}{g:PV->Option PV}{f1:Env->Option PV}(hr:Op1 b m r g) (h:tM b G m (b1 g f1) σ H Q):tM b G .bor f1 σ H λx H1=>r x H1 Q:=by
 obtain⟨Ow,env,p,E,hf,k⟩:=h
 unfold b1 at hf
 cases h1:f1 env with
 | none=>rw[h1] at hf;cases hf
 | some p1=>
  rw[h1] at hf
  exact⟨Ow,env,p1,E,h1,λv1 H1 s1 r1=>hr Ow H1 v1 p1 p Q (λa=>(E.up s1).fresh) r1 hf λv H' s r=>k v H' (s1.trans s) (r.down s1)⟩
end
@[simp] def aY:PV->PV->Option PV
 | .int i,.int j=>some (.int (i+j))
 | .str x,.str y=>if x.length+y.length<=1000000 then some (.str (x++y)) else none
 | .lst xs,.lst ys=>if xs.length+ys.length<=1000000 then some (.lst (xs++ys)) else none
 | _,_=>none
@[simp] def pN:PV->PV->Option PV
 | .lst xs,.lst ys=>if xs.length+ys.length<=1000000 then some (.lst (xs++ys)) else none
 | _,_=>none
@[simp] def subV:PV->PV->Option PV
 | .int i,.int j=>some (.int (i - j))
 | _,_=>none
noncomputable def smI (i:Int):Bool:=@decide (-18446744073709551616 < i/\i < 18446744073709551616) (Classical.propDecidable _)
@[simp] noncomputable def jM:PV->PV->Option PV
 | .int i,.int j=>if (smI i||smI j)=true then some (.int (i*j)) else none
 | _,_=>none
@[simp] def cA:PV->PV->Option PV
 | .int i,.int j=>if 0 < j/\j < 1073741824 then some (.int (i / j)) else none
 | _,_=>none
@[simp] def bW:PV->PV->Option PV
 | .int i,.int j=>if 0 < j then some (.int (i % j)) else none
 | _,_=>none
@[simp] def RN:PV->PV->Option PV
 | .int i,.int j=>if 0<=j/\j<=1000000/\i.natAbs < 2 ^ 64 then some (.int (i ^ j.toNat)) else none
 | _,_=>none
@[simp] def mR (g:Int->Int->Bool):PV->PV->Option PV
 | .int i,.int j=>some (.bl (g i j))
 | _,_=>none
theorem fu {n:Nat}(h:n<=1000000):n<=sizeLine:=Nat.le_of_lt (gG h)
section
variable {b:BX}
theorem GZ {g:Int->Int->Int}{f:PV->PV->Option PV}(hf:∀ x y p,f x y=some p->∃ i j,x=.int i/\y=.int j/\p=.int (g i j)):Op2 b .val (rI0 λi j=>.int (g i j)) f:=by
 intro Ow H v1 v2 p1 p2 p Q hn r1 r2 e k
 obtain⟨i,j,rfl,rfl,rfl⟩:=hf _ _ _ e
 rw[r1.int,r2.int]
 exact⟨i,j,rfl,rfl,k _ H (Same.refl _) (.int _)⟩
theorem J_ {g:Int->Int->Bool}:Op2 b .val (rI0 λi j=>.bl (g i j)) (mR g):=by
 intro Ow H v1 v2 p1 p2 p Q hn r1 r2 e k
 unfold mR at e
 split at e
 ·cases e
  rw[r1.int,r2.int]
  exact⟨_,_,rfl,rfl,k _ H (Same.refl _) (.bl _)⟩
 ·cases e
theorem Ka:Op2 b .val (rI0 λi j=>.int (i - j)) subV:=GZ λx y p e=>by
 unfold subV at e
 split at e
 ·cases e;exact⟨_,_,rfl,rfl,rfl⟩
 ·cases e
theorem Kc:Op2 b .val (rI CMul λi j=>.int (i*j)) jM:=by
 intro Ow H v1 v2 p1 p2 p Q hn r1 r2 e k
 unfold jM at e
 split at e
 ·split at e
  ·rename_i h
   cases e
   rw[r1.int,r2.int]
   refine⟨_,_,rfl,rfl,?_,k _ H (Same.refl _) (.int _)⟩
   simp only[smI,Bool.or_eq_true,decide_eq_true_eq] at h
   exact h
  ·cases e
 ·cases e
theorem jh {i:Int}(h:-18446744073709551616 < i) (h':i < 18446744073709551616):smI i=true:=@decide_eq_true _ (Classical.propDecidable _) ⟨h,h'⟩
theorem Kd:Op2 b .val (rI Jl λi j=>.int (i / j)) cA:=by
 intro Ow H v1 v2 p1 p2 p Q hn r1 r2 e k
 unfold cA at e
 split at e
 ·split at e
  ·rename_i h
   cases e
   rw[r1.int,r2.int]
   exact⟨_,_,rfl,rfl,h,k _ H (Same.refl _) (.int _)⟩
  ·cases e
 ·cases e
theorem Ke:Op2 b .val (rI (λ_ j=>0 < j) λi j=>.int (i % j)) bW:=by
 intro Ow H v1 v2 p1 p2 p Q hn r1 r2 e k
 unfold bW at e
 split at e
 ·split at e
  ·rename_i h
   cases e
   rw[r1.int,r2.int]
   exact⟨_,_,rfl,rfl,h,k _ H (Same.refl _) (.int _)⟩
  ·cases e
 ·cases e
end
theorem d7 {b:BX}{Ow:Addr->Prop}{H:Hp}{a:Addr}{vs:List V}{xs:List PV}(h:H a=none) (r:Reps b.C (Bs b Ow) H vs xs):Res b Ow H (upd H a (.lst vs)) .own (.ref a) (.lst xs):=by
 refine⟨a,rfl,h,vs,aP,r.ex λc o e=>?_⟩
 have hc:c≠a:=aV e h
 exact⟨λq=>⟨by rw[aH hc];exact e,q,hc⟩,λ_=>by rw[aH hc];exact e⟩
theorem rC {b:BX}{Ow:Addr->Prop}{H H0:Hp}{a:Addr}{vs:List V}{xs:List PV}(h:H a=none) (r:Reps b.C (Bs b Ow) H vs xs):Res b Ow H0 (upd H a (.tup vs)) .val (.ref a) (.tup xs):=
 Rep.tup aP (r.ex (.of_same (bh h _)))
section
variable {b:BX}
theorem Kf:Op2 b .val (λx y H Q=>(rI0 (λi j=>.int (i+j)) x y H Q\/∃ i j,x=.str i/\y=.str j/\i.length+j.length<=sizeLine/\Q (.str (i++j)) H)\/Cr x y H Q) aY:=by
 intro Ow H v1 v2 p1 p2 p Q hn r1 r2 e k
 unfold aY at e
 split at e
 ·cases e
  rw[r1.int,r2.int]
  exact .inl (.inl ⟨_,_,rfl,rfl,k _ H (Same.refl _) (.int _)⟩)
 ·split at e
  ·rename_i h
   cases e
   rw[r1.str,r2.str]
   exact .inl (.inr ⟨_,_,rfl,rfl,fu h,k _ H (Same.refl _) (.str _)⟩)
  ·cases e
 ·split at e
  ·rename_i h
   cases e
   obtain⟨a,vs,rfl,ha,ra⟩:=r1.lst
   obtain⟨c,us,rfl,hc,rc⟩:=r2.lst
   exact .inr ⟨a,c,vs,us,rfl,rfl,ha,hc,fu (by rw[ra.length,rc.length];exact h),λq hq=>k _ _ (bh hq _) (.lst aP (hn q hq) ((ra.append rc).ex (.of_same (bh hq _))))⟩
  ·cases e
 ·cases e
theorem Kg:Op2 b .own Cr pN:=by
 intro Ow H v1 v2 p1 p2 p Q hn r1 r2 e k
 unfold pN at e
 split at e
 ·split at e
  ·rename_i h
   cases e
   obtain⟨a,vs,rfl,ha,ra⟩:=r1.lst
   obtain⟨c,us,rfl,hc,rc⟩:=r2.lst
   refine⟨a,c,vs,us,rfl,rfl,ha,hc,fu (by rw[ra.length,rc.length];exact h),λq hq=>k _ _ (bh hq _) (d7 hq (ra.append rc))⟩
  ·cases e
 ·cases e
end
section
variable {X:Cx}{b:BX}{G:List Nat}{m:Md}{e e1 e2:Expr}{f f1 f2:Env->Option PV}{pos:Pos}
theorem aq {i j pos}:SE X b G .val (.Constant (.int i) j pos) (bC (.int i)):=PE.imp Iw fun σ H Q ⟨Ow,env,p,E,hf,k⟩=>by cases hf;exact k _ H (Same.refl _) (.int i)
theorem kO {i j pos}:SE X b G .val (.Constant (.bool i) j pos) (bC (.bl i)):=PE.imp Mi fun σ H Q ⟨Ow,env,p,E,hf,k⟩=>by cases hf;exact k _ H (Same.refl _) (.bl i)
theorem du {i j pos}:SE X b G .val (.Constant (.str i) j pos) (bC (.str i)):=PE.imp IK fun σ H Q ⟨Ow,env,p,E,hf,k⟩=>by cases hf;exact k _ H (Same.refl _) (.str i)
theorem ji {j pos}:SE X b G .val (.Constant .none j pos) (bC .non):=PE.imp Iz fun σ H Q ⟨Ow,env,p,E,hf,k⟩=>by cases hf;exact k _ H (Same.refl _) .non
theorem cJ {i:Nat}{env:Env}{p:PV}(h:bV i env=some p):env[i]?=some (some p):=by
 unfold bV at h
 split at h
 ·rename_i o e;rw[e,h]
 ·cases h
theorem aj (i:Nat){x:Str}{pos:Pos}(hN:X.N[i]?=some x:=by rfl) (hv:Vis X.env.scope x:=by first | exact Or.inl rfl | exact Or.inr (Or.inl rfl) | exact Or.inr (Or.inr rfl)) (hG:i∉G:=by decide) (hd:(x == ("__debug__" : Str))=false:=by decide)
  (hcd:(x == ("__classdict__" : Str))=false:=by decide):SE X b G .val (.Name x pos) (bV i):=PE.imp (dN hN hv hd hcd) fun σ H Q ⟨Ow,env,p,E,hf,k⟩=>by
 obtain⟨v,e,r⟩:=E.val i p (cJ hf) hG
 exact⟨v,e,k v H (Same.refl _) r⟩
theorem lA (i:Nat){x:Str}{pos:Pos}(hN:X.N[i]?=some x:=by rfl) (hv:Vis X.env.scope x:=by first | exact Or.inl rfl | exact Or.inr (Or.inl rfl) | exact Or.inr (Or.inr rfl)) (hd:(x == ("__debug__" : Str))=false:=by decide)
  (hcd:(x == ("__classdict__" : Str))=false:=by decide):SE X b G .bor (.Name x pos) (bV i):=PE.imp (dN hN hv hd hcd) fun σ H Q ⟨Ow,env,p,E,hf,k⟩=>by
 by_cases hG:i∈G
 ·obtain⟨a,e,_,t⟩:=E.own i p (cJ hf) hG
  exact⟨_,e,k _ H (Same.refl _) (.inr ⟨a,rfl,t⟩)⟩
 ·obtain⟨v,e,r⟩:=E.val i p (cJ hf) hG
  exact⟨v,e,k v H (Same.refl _) (.inl r)⟩
theorem Nb {x:Str}{a:Addr}{q:PV}{pos:Pos}(hm:X.mg x=some (.ref a)) (hr:∀ A H,Rep b.C A H (.ref a) q) (hg:Gl X x:=by rfl) (hd:(x == ("__debug__" : Str))=false:=by decide):SE X b G .val (.Name x pos) (bC q):=
 PE.imp (Gb hg hm (v:=.ref a) rfl hd) fun σ H Q ⟨Ow,env,p,E,hf,k⟩=>by cases hf;exact k _ H (Same.refl _) (hr _ _)
theorem mU {op:Operator}{r:R2}{g:PV->PV->Option PV}(ho:OpR X (binaryOp op) r) (hr:Op2 b m r g){m1 m2:Md}(h1:SE X b G m1 e1 f1) (h2:SE X b G m2 e2 f2):SE X b G m (.BinOp e1 op e2 pos) (b2 g f1 f2):=
 PE.imp (Mw ho h1.bor h2.bor) fun σ H Q h=>yC hr h
theorem bc {m1 m2:Md}(h1:SE X b G m1 e1 f1) (h2:SE X b G m2 e2 f2):SE X b G .val (.BinOp e1 .Add e2 pos) (b2 aY f1 f2):=mU (OpR.or (OpR.or Jm ym) zX) Kf h1 h2
theorem qx {m1 m2:Md}(h1:SE X b G m1 e1 f1) (h2:SE X b G m2 e2 f2):SE X b G .own (.BinOp e1 .Add e2 pos) (b2 pN f1 f2):=mU zX Kg h1 h2
theorem Af {m1 m2:Md}(h1:SE X b G m1 e1 f1) (h2:SE X b G m2 e2 f2):SE X b G .val (.BinOp e1 .Sub e2 pos) (b2 subV f1 f2):=mU Jo Ka h1 h2
theorem jN {m1 m2:Md}(h1:SE X b G m1 e1 f1) (h2:SE X b G m2 e2 f2):SE X b G .val (.BinOp e1 .Mult e2 pos) (b2 jM f1 f2):=mU Jp Kc h1 h2
theorem dO {m1 m2:Md}(h1:SE X b G m1 e1 f1) (h2:SE X b G m2 e2 f2):SE X b G .val (.BinOp e1 .FloorDiv e2 pos) (b2 cA f1 f2):=mU Gg Kd h1 h2
theorem cI {m1 m2:Md}(h1:SE X b G m1 e1 f1) (h2:SE X b G m2 e2 f2):SE X b G .val (.BinOp e1 .Mod e2 pos) (b2 bW f1 f2):=mU Jq Ke h1 h2
end
end MR
namespace MR
open PySem L2
@[simp] def eqS:PV->PV->Option Bool
 | .non,.non=>some true
 | .non,.int _=>some false | .int _,.non=>some false | .non,.bl _=>some false | .bl _,.non=>some false | .non,.str _=>some false | .str _,.non=>some false
 | .int i,.int j=>some (decide (i=j))
 | .bl i,.bl j=>some (decide (i=j))
 | .str i,.str j=>some (decide (i=j))
 | .int _,.str _=>some false | .str _,.int _=>some false | .bl _,.str _=>some false | .str _,.bl _=>some false
 | _,_=>none
mutual
def toD:PV->Option PyData
 | .non=>some .none
 | .bl b=>some (.bool b)
 | .int i=>some (.int i)
 | .str x=>some (.str x)
 | .lst xs=>(dF xs).map .list
 | .frz xs=>(dF xs).map .list
 | .tup xs=>(dF xs).map .tuple
 | .ktp xs=>(dF xs).map .tuple
 | _=>none
def dF:List PV->Option (List PyData)
 | []=>some []
 | x::xs=>match toD x,dF xs with
  | some d,some ds=>some (d::ds)
  | _,_=>none
end
def eqD (x y:PV):Option Bool:=match toD x,toD y with
 | some d,some e=>if SeqAt.shaped d=true/\SeqAt.shaped e=true then some (PyData.eqv d e) else none
 | _,_=>none
def eqP (x y:PV):Option Bool:=match eqS x y with
 | some k=>some k
 | none=>eqD x y
def eqQ (x y:PV):Option PV:=(eqP x y).map .bl
@[simp] theorem QM (x y:PV):eqQ x y=((eqP x y).map .bl):=id rfl
def neQ (x y:PV):Option PV:=(eqP x y).map λk=>.bl (!k)
@[simp] theorem QQ (x y:PV):neQ x y=((eqP x y).map λk=>.bl (!k)):=id rfl
mutual
theorem Rep.dt {C:MC}{A:Addr->Prop}{H:Hp}:∀ {v:V}{p:PV}{d:PyData},Rep C A H v p->toD p=some d->Dt C.K H v d
 | _,_,_,.non,e=>by simp only[toD] at e;cases e;exact .non
 | _,_,_,.bl b,e=>by simp only[toD] at e;cases e;exact .bl b
 | _,_,_,.int b,e=>by simp only[toD] at e;cases e;exact .int b
 | _,_,_,.str b,e=>by simp only[toD] at e;cases e;exact .str b
 | _,_,_,.lst (xs:=xs) h _ r,e=>by
  simp only[toD] at e
  cases q:dF xs with
  | none=>rw[q] at e;cases e
  | some ds=>rw[q] at e;cases e;exact .lst (SqL.of h) (Reps.dt r q)
 | _,_,_,.lstF (xs:=xs) h r,e=>by
  simp only[toD] at e
  cases q:dF xs with
  | none=>rw[q] at e;cases e
  | some ds=>rw[q] at e;cases e;exact .lst (.inl (.inr ⟨_,h⟩)) (Reps.dt r q)
 | _,_,_,.lstK (xs:=xs) h r,e=>by
  simp only[toD] at e
  cases q:dF xs with
  | none=>rw[q] at e;cases e
  | some ds=>rw[q] at e;cases e;exact .lst (sqK h) (Reps.dt r q)
 | _,_,_,.tup (xs:=xs) h r,e=>by
  simp only[toD] at e
  cases q:dF xs with
  | none=>rw[q] at e;cases e
  | some ds=>rw[q] at e;cases e;exact .tup (SqT.of h) (Reps.dt r q)
 | _,_,_,.tupK (xs:=xs) h r,e=>by
  simp only[toD] at e
  cases q:dF xs with
  | none=>rw[q] at e;cases e
  | some ds=>rw[q] at e;cases e;exact .tup (pM h) (Reps.dt r q)
 | _,_,_,.dK h _ r,e=>by simp only[toD] at e;cases e
 | _,_,_,.dT h _ r,e=>by simp only[toD] at e;cases e
 | _,_,_,.obj h _ r,e=>by simp only[toD] at e;cases e
theorem Reps.dt {C:MC}{A:Addr->Prop}{H:Hp}:∀ {v:List V}{p:List PV}{d:List PyData},Reps C A H v p->dF p=some d->Dts C.K H v d
 | _,_,_,.nil,e=>by simp only[dF] at e;cases e;exact .nil
 | _,_,_,.cons (p:=p) (ps:=ps) h t,e=>by
  simp only[dF] at e
  cases q:toD p with
  | none=>rw[q] at e;cases e
  | some d=>
   cases q2:dF ps with
   | none=>rw[q,q2] at e;cases e
   | some ds=>rw[q,q2] at e;cases e;exact .cons (Rep.dt h q) (Reps.dt t q2)
end
theorem RepB.dt {C:MC}{A:Addr->Prop}{H:Hp}{v:V}{p:PV}{d:PyData}(h:RepB C A H v p) (e:toD p=some d):Dt C.K H v d:=by
 rcases h with h | ⟨a,rfl,t⟩
 ·exact h.dt e
 ·cases p with
  | lst xs=>
   obtain⟨vs,q,r⟩:=t
   exact(Rep.lst (A:=λ_=>True) q True.intro (r.ex (bF λ_ _ _ _=>True.intro))).dt e
  | dK kvs=>simp only[toD] at e;cases e
  | dT kvs=>simp only[toD] at e;cases e
  | obj c fs=>simp only[toD] at e;cases e
  | _=>exact t.elim
theorem u9 {C:MC}{A:Addr->Prop}{H:Hp}{v u:V}{p q:PV}{k:Bool}(h:RepB C A H v p) (h':RepB C A H u q) (e:eqS p q=some k):Cg v u=true/\decide (v=u)=k:=by
 unfold eqS at e
 split at e <;> first | cases e | skip
 ·rw[h.non,h'.non];exact⟨rfl,rfl⟩
 ·rw[h.non,h'.int];exact⟨rfl,rfl⟩
 ·rw[h.int,h'.non];exact⟨rfl,rfl⟩
 ·rw[h.non,h'.bl];exact⟨rfl,rfl⟩
 ·rw[h.bl,h'.non];exact⟨rfl,rfl⟩
 ·rw[h.non,h'.str];exact⟨rfl,rfl⟩
 ·rw[h.str,h'.non];exact⟨rfl,rfl⟩
 ·rw[h.int,h'.int];exact⟨rfl,by simp⟩
 ·rw[h.bl,h'.bl];exact⟨rfl,by simp⟩
 ·rw[h.str,h'.str];exact⟨rfl,by simp⟩
 ·rw[h.int,h'.str];exact⟨rfl,rfl⟩
 ·rw[h.str,h'.int];exact⟨rfl,rfl⟩
 ·rw[h.bl,h'.str];exact⟨rfl,rfl⟩
 ·rw[h.str,h'.bl];exact⟨rfl,rfl⟩
def Kh (K:PySem.W.Frag):R2:=λx y H Q=>rEq x y H Q\/∃ d e,Dt K H x d/\Dt K H y e/\SeqAt.shaped d=true/\SeqAt.shaped e=true/\Q (.bl (PyData.eqv d e)) H
def Kl (K:PySem.W.Frag):R2:=λx y H Q=>rNe x y H Q\/∃ d e,Dt K H x d/\Dt K H y e/\SeqAt.shaped d=true/\SeqAt.shaped e=true/\Q (.bl (!PyData.eqv d e)) H
section
variable {b:BX}
theorem Nf:Op2 b .val (Kh b.C.K) eqQ:=by
 intro Ow H v1 v2 p1 p2 p Q hn r1 r2 e k
 unfold eqQ eqP at e
 cases q:eqS p1 p2 with
 | some c=>
  rw[q] at e
  cases e
  obtain⟨h1,h2⟩:=u9 r1 r2 q
  exact .inl ⟨h1,by rw[h2];exact k _ H (Same.refl _) (.bl c)⟩
 | none=>
  rw[q] at e
  simp only[eqD] at e
  cases q1:toD p1 with
  | none=>rw[q1] at e;cases e
  | some d=>
   cases q2:toD p2 with
   | none=>rw[q1,q2] at e;cases e
   | some d'=>
    rw[q1,q2] at e
    simp only at e
    split at e
    ·rename_i hs
     cases e
     exact .inr ⟨d,d',r1.dt q1,r2.dt q2,hs.1,hs.2,k _ H (Same.refl _) (.bl _)⟩
    ·cases e
theorem Ng:Op2 b .val (Kl b.C.K) neQ:=by
 intro Ow H v1 v2 p1 p2 p Q hn r1 r2 e k
 unfold neQ eqP at e
 cases q:eqS p1 p2 with
 | some c=>
  rw[q] at e
  cases e
  obtain⟨h1,h2⟩:=u9 r1 r2 q
  exact .inl ⟨h1,by rw[h2];exact k _ H (Same.refl _) (.bl _)⟩
 | none=>
  rw[q] at e
  simp only[eqD] at e
  cases q1:toD p1 with
  | none=>rw[q1] at e;cases e
  | some d=>
   cases q2:toD p2 with
   | none=>rw[q1,q2] at e;cases e
   | some d'=>
    rw[q1,q2] at e
    simp only at e
    split at e
    ·rename_i hs
     cases e
     exact .inr ⟨d,d',r1.dt q1,r2.dt q2,hs.1,hs.2,k _ H (Same.refl _) (.bl _)⟩
    ·cases e
end
@[simp] def keyOf:PV->Option Key
 | .int i=>some (.inl i)
 | .str x=>some (.inr x)
 | _=>none
@[simp] def keysOf:List PV->Option (List Key)
 | []=>some []
 | x::xs=>match keyOf x,keysOf xs with
  | some k,some ks=>some (k::ks)
  | _,_=>none
@[simp] def keysB:List PV->Option (List Key)
 | [.str x,.bl b]=>some [.inr x,.inl (if b=true then 1 else 0)]
 | xs=>keysOf xs
@[simp] def cO:PV->Bool
 | .non=>true
 | .bl _=>true
 | .int _=>true
 | .str _=>true
 | _=>false
def eqF:PV->PV->Bool
 | .non,.non=>true
 | .bl a,.bl b=>a == b
 | .bl a,.int b=>(if a then 1 else 0) == b
 | .int a,.bl b=>a == (if b then 1 else 0)
 | .int a,.int b=>a == b
 | .str a,.str b=>a == b
 | _,_=>false
def cC {κ:Type} [DecidableEq κ] (kvs:List (κ×PV)) (k:κ):Option PV:=(kvs.find? λx=>decide (x.1=k)).map (·.2)
def inD (x:PV) (ys:List PV):Option Bool:=match toD x,dF ys with
 | some d,some ds=>if PyData.canLayAll0 ds=true/\d.canLay0=true/\d.depth<=32 then some (ds.any λy=>PyData.eqv y d) else none
 | _,_=>none
theorem mV {x:PV}{ys:List PV}{k:Bool}(h:inD x ys=some k):∃ d ds,toD x=some d/\dF ys=some ds/\PyData.canLayAll0 ds=true/\d.canLay0=true/\d.depth<=32/\(ds.any λy=>PyData.eqv y d)=k:=by
 unfold inD at h
 split at h
 ·rename_i d ds h1 h2
  split at h
  ·rename_i hc
   exact⟨d,ds,h1,h2,hc.1,hc.2.1,hc.2.2,Option.some.inj h⟩
  ·cases h
 ·cases h
def inP:PV->PV->Option Bool
 | x,.lst ys=>if cO x=true/\ys.all cO=true then some (ys.any λy=>eqF y x) else inD x ys
 | x,.frz ys=>if cO x=true/\ys.all cO=true then some (ys.any λy=>eqF y x) else inD x ys
 | x,.ktp ys=>if cO x=true/\ys.all cO=true then some (ys.any λy=>eqF y x) else inD x ys
 | x,.tup ys=>if cO x=true/\ys.all cO=true then some (ys.any λy=>eqF y x) else inD x ys
 | .str x,.str y=>some (!(Builtin.Str.occurrences y x 0 y.length 1).isEmpty)
 | x,.dK kvs=>(keyOf x).map λk=>(cC kvs k).isSome
 | .tup xs,.dT kvs=>(keysB xs).map λk=>(cC kvs k).isSome
 | _,_=>none
theorem Reps.keys {C:MC}{A:Addr->Prop}{H:Hp}:∀ {vs:List V}{ps:List PV}{ks:List Key},Reps C A H vs ps->keysOf ps=some ks->vs=ks.map kV
 | _,_,_,.nil,e=>by cases e;rfl
 | _,_,_,.cons (p:=p) (ps:=ps) h t,e=>by
  unfold keysOf at e
  cases q:keyOf p with
  | none=>rw[q] at e;cases e
  | some k=>
   cases q2:keysOf ps with
   | none=>rw[q,q2] at e;cases e
   | some ks=>
    rw[q,q2] at e
    cases e
    have ih:=Reps.keys t q2
    rw[List.map_cons,ih]
    congr 1
    unfold keyOf at q
    split at q <;> cases q <;> cases h <;> rfl
theorem Reps.keysB {C:MC}{A:Addr->Prop}{H:Hp}{vs:List V}{ps:List PV}{ks:List Key}(r:Reps C A H vs ps) (e:keysB ps=some ks):uE ks vs:=by
 unfold MR.keysB at e
 split at e
 ·cases e
  cases r with
  | cons h1 t=>cases t with
   | cons h2 t=>cases t;cases h1;cases h2;exact .inr ⟨_,_,rfl,rfl⟩
 ·exact .inl (r.keys e)
theorem RepB.key {C:MC}{A:Addr->Prop}{H:Hp}{v:V}{p:PV}{k:Key}(h:RepB C A H v p) (e:keyOf p=some k):v=kV k:=by
 unfold keyOf at e
 split at e
 ·cases e;exact h.int
 ·cases e;exact h.str
 ·cases e
theorem RepB.flat {C:MC}{A:Addr->Prop}{H:Hp}{v:V}{p:PV}(h:RepB C A H v p) (e:cO p=true):gF v=true:=by
 unfold cO at e
 split at e
 ·rw[h.non];rfl
 ·rw[h.bl];rfl
 ·rw[h.int];rfl
 ·rw[h.str];rfl
 ·cases e
def fV:PV->V
 | .bl b=>.bl b
 | .int i=>.int i
 | .str x=>.str x
 | _=>.non
theorem RepB.fV {C:MC}{A:Addr->Prop}{H:Hp}{v:V}{p:PV}(h:RepB C A H v p) (e:cO p=true):v=fV p:=by
 cases p with
 | non=>exact h.non
 | bl b=>exact h.bl
 | int i=>exact h.int
 | str x=>exact h.str
 | _=>cases e
theorem Nh (p q:PV) (hp:cO p=true) (hq:cO q=true):L2.eqV (fV p) (fV q)=eqF p q:=by
 cases p <;> cases q <;> first | rfl | (cases hp;done) | (cases hq;done)
theorem Reps.flat {C:MC}{A:Addr->Prop}{H:Hp}{v:V}{p:PV}(h:RepB C A H v p) (e:cO p=true):∀ {vs:List V}{ps:List PV},Reps C A H vs ps->ps.all cO=true->vs.all gF=true/\inV v vs=ps.any λy=>eqF y p
 | _,_,.nil,_=>⟨rfl,rfl⟩
 | _,_,.cons (v:=v') (p:=p') (vs:=vs) (ps:=ps) q t,e'=>by
  rw[List.all_cons,Bool.and_eq_true] at e'
  obtain⟨h1,h2⟩:=Reps.flat h e t e'.2
  have hf:gF v'=true:=RepB.flat (.inl q) e'.1
  refine⟨by rw[List.all_cons,hf,h1];rfl,?_⟩
  unfold inV at h2 ⊢
  rw[List.any_cons,List.any_cons,h2]
  have q1:=h.fV e
  have q2:=RepB.fV (.inl q) e'.1
  rw[q1,q2,Nh _ _ e'.1 e]
section
variable {X:Cx}
theorem Km (hu:X.A.units+1 < cLine):OpR X (compareOp .In) (λx y H Q=>∃ a o,y=.ref a/\DGet H a x o/\Q (.bl o.isSome) H):=by
 intro pins s σ H x y v u Q I rx ry h
 obtain⟨a,o,rfl,g,q⟩:=h
 obtain rfl:u=Value.ref a:=ry
 exact O7 hu I g rx λs3 I3=>⟨.bl o.isSome,H,I3,rfl,q⟩
def yE (K:PySem.W.Frag) (neg:Bool):R2:=λx y H Q=>∃ d ds,(Dt K H y (.list ds)\/Dt K H y (.tuple ds))/\Dt K H x d/\PyData.canLayAll0 ds=true/\d.canLay0=true/\d.depth<=32/\Q (.bl (if neg then !(ds.any λy=>PyData.eqv y d) else ds.any λy=>PyData.eqv y d)) H
theorem Ko (hu:X.A.units+64 < cLine):OpR X (compareOp .In) (yE X.K false):=by
 intro pins s σ H x y v u Q I rx ry h
 obtain⟨d,ds,h1,h2,c1,c2,c3,q⟩:=h
 have hm:min (PyData.depthAll ds) d.depth<=d.depth:=Nat.min_le_right _ _
 obtain⟨as,ra⟩:=h2.reads I rx
 rcases h1 with h1 | h1
 ·obtain⟨bs,rb⟩:=h1.reads I ry
  exact PySem.SeqAt.in_list_reads rb ra c1 c2 (by omega) ⟨.bl _,H,I,rfl,q⟩
 ·obtain⟨bs,rb⟩:=h1.reads I ry
  exact PySem.SeqAt.in_tuple_reads rb ra c1 c2 (by omega) ⟨.bl _,H,I,rfl,q⟩
theorem Ag (hu:X.A.units+64 < cLine):OpR X (compareOp .NotIn) (yE X.K true):=by
 intro pins s σ H x y v u Q I rx ry h
 obtain⟨d,ds,h1,h2,c1,c2,c3,q⟩:=h
 have hm:min (PyData.depthAll ds) d.depth<=d.depth:=Nat.min_le_right _ _
 obtain⟨as,ra⟩:=h2.reads I rx
 rcases h1 with h1 | h1
 ·obtain⟨bs,rb⟩:=h1.reads I ry
  exact PySem.SeqAt.notIn_list_reads rb ra c1 c2 (by omega) ⟨.bl _,H,I,rfl,q⟩
 ·obtain⟨bs,rb⟩:=h1.reads I ry
  exact PySem.SeqAt.notIn_tuple_reads rb ra c1 c2 (by omega) ⟨.bl _,H,I,rfl,q⟩
theorem Ah (hu:X.A.units+1 < cLine):OpR X (compareOp .NotIn) (λx y H Q=>∃ a o,y=.ref a/\DGet H a x o/\Q (.bl (!o.isSome)) H):=by
 intro pins s σ H x y v u Q I rx ry h
 obtain⟨a,o,rfl,g,q⟩:=h
 obtain rfl:u=Value.ref a:=ry
 exact Gn hu I g rx λs3 I3=>⟨.bl (!o.isSome),H,I3,rfl,q⟩
end
def Kq (K:PySem.W.Frag):R2:=λx y H Q=>(rIn K false x y H Q\/∃ i j,x=.str i/\y=.str j/\Q (.bl (!(Builtin.Str.occurrences j i 0 j.length 1).isEmpty)) H)\/(∃ a o,y=.ref a/\DGet H a x o/\Q (.bl o.isSome) H)\/yE K false x y H Q
def xf (K:PySem.W.Frag):R2:=λx y H Q=>(rIn K true x y H Q\/∃ i j,x=.str i/\y=.str j/\Q (.bl (!(!(Builtin.Str.occurrences j i 0 j.length 1).isEmpty))) H)\/(∃ a o,y=.ref a/\DGet H a x o/\Q (.bl (!o.isSome)) H)\/yE K true x y H Q
def inQ (x y:PV):Option PV:=(inP x y).map .bl
@[simp] theorem QR (x y:PV):inQ x y=((inP x y).map .bl):=id rfl
def n_ (x y:PV):Option PV:=(inP x y).map λk=>.bl (!k)
@[simp] theorem Og (x y:PV):n_ x y=((inP x y).map λk=>.bl (!k)):=id rfl
theorem Ai {C:MC}{A:Addr->Prop}{H:Hp}{v1 v2:V}{p1 p2:PV}{k:Bool}(r1:RepB C A H v1 p1) (r2:RepB C A H v2 p2) (e:inP p1 p2=some k):
  (∃ p xs,v2=.ref p/\(SqL C.K H p xs\/SqT C.K H p xs)/\gF v1=true/\xs.all gF=true/\inV v1 xs=k)\/(∃ i j,v1=.str i/\v2=.str j/\(!(Builtin.Str.occurrences j i 0 j.length 1).isEmpty)=k)\/(∃ a o,v2=.ref a/\DGet H a v1 o/\o.isSome=k)\/∃ d ds,(Dt C.K H v2 (.list ds)\/Dt C.K H v2 (.tuple ds))/\Dt C.K H v1 d/\PyData.canLayAll0 ds=true/\d.canLay0=true/\d.depth<=32/\(ds.any λy=>PyData.eqv y d)=k:=by
 unfold inP at e
 split at e
 ·split at e
  ·rename_i h
   cases e
   obtain⟨a,vs,rfl,ha,ra⟩:=r2.lst
   obtain⟨h1,h2⟩:=Reps.flat r1 h.1 ra h.2
   exact .inl ⟨a,vs,rfl,.inl (SqL.of ha),r1.flat h.1,h1,h2⟩
  ·obtain⟨d,ds,t1,t2,c1,c2,c3,c4⟩:=mV e
   exact .inr (.inr (.inr ⟨d,ds,.inl (r2.dt (by simp[toD,t2])),r1.dt t1,c1,c2,c3,c4⟩))
 ·split at e
  ·rename_i h
   cases e
   obtain⟨a,vs,rfl,ha,ra⟩:=r2.frz
   obtain⟨h1,h2⟩:=Reps.flat r1 h.1 ra h.2
   exact .inl ⟨a,vs,rfl,.inl ha,r1.flat h.1,h1,h2⟩
  ·obtain⟨d,ds,t1,t2,c1,c2,c3,c4⟩:=mV e
   exact .inr (.inr (.inr ⟨d,ds,.inl (r2.dt (by simp[toD,t2])),r1.dt t1,c1,c2,c3,c4⟩))
 ·split at e
  ·rename_i h
   cases e
   obtain⟨a,vs,rfl,ha,ra⟩:=r2.ktp
   obtain⟨h1,h2⟩:=Reps.flat r1 h.1 ra h.2
   exact .inl ⟨a,vs,rfl,.inr ha,r1.flat h.1,h1,h2⟩
  ·obtain⟨d,ds,t1,t2,c1,c2,c3,c4⟩:=mV e
   exact .inr (.inr (.inr ⟨d,ds,.inr (r2.dt (by simp[toD,t2])),r1.dt t1,c1,c2,c3,c4⟩))
 ·split at e
  ·rename_i h
   cases e
   obtain⟨a,vs,rfl,ha,ra⟩:=r2.tup
   obtain⟨h1,h2⟩:=Reps.flat r1 h.1 ra h.2
   exact .inl ⟨a,vs,rfl,.inr (SqT.of ha),r1.flat h.1,h1,h2⟩
  ·obtain⟨d,ds,t1,t2,c1,c2,c3,c4⟩:=mV e
   exact .inr (.inr (.inr ⟨d,ds,.inr (r2.dt (by simp[toD,t2])),r1.dt t1,c1,c2,c3,c4⟩))
 ·cases e
  exact .inr (.inl ⟨_,_,r1.str,r2.str,rfl⟩)
 ·obtain⟨a,kv,rfl,ha,ra⟩:=r2.dK
  cases q:keyOf p1 with
  | none=>rw[q] at e;cases e
  | some ky=>
   rw[q] at e
   cases e
   rw[r1.key q]
   refine .inr (.inr (.inl ⟨a,_,rfl,DGet.k ha,?_⟩))
   unfold cC
   dsimp only
   rcases RepK.val (k:=ky) ra with ⟨v,p,h1,h2,_⟩ | ⟨h1,h2⟩
   ·rw[h1,h2];rfl
   ·rw[h1,h2];rfl
 ·rename_i xs kvs
  obtain⟨a,kv,rfl,ha,ra⟩:=r2.dT
  obtain⟨c,vs,rfl,hc,rc⟩:=r1.tup
  cases q:keysB xs with
  | none=>rw[q] at e;cases e
  | some ky=>
   rw[q] at e
   cases e
   refine .inr (.inr (.inl ⟨a,_,rfl,DGet.t ha ⟨_,hc,rc.keysB q⟩,?_⟩))
   unfold cC
   dsimp only
   rcases RepT.val (k:=ky) ra with ⟨v,p,h1,h2,_⟩ | ⟨h1,h2⟩
   ·rw[h1,h2];rfl
   ·rw[h1,h2];rfl
 ·cases e
section
variable {b:BX}
theorem Ni:Op2 b .val (Kq b.C.K) inQ:=by
 intro Ow H v1 v2 p1 p2 p Q hn r1 r2 e k
 unfold inQ at e
 cases q:inP p1 p2 with
 | none=>rw[q] at e;cases e
 | some c=>
  rw[q] at e
  cases e
  have fin:=k (.bl c) H (Same.refl _) (.bl c)
  rcases Ai r1 r2 q with ⟨a,xs,rfl,h1,h2,h3,h4⟩ | ⟨i,j,rfl,rfl,h1⟩ | ⟨a,o,rfl,h1,h2⟩ | ⟨d,ds,h1,h2,c1,c2,c3,h4⟩
  ·subst h4;exact .inl (.inl ⟨a,xs,rfl,h1,h2,h3,fin⟩)
  ·subst h1;exact .inl (.inr ⟨i,j,rfl,rfl,fin⟩)
  ·subst h2;exact .inr (.inl ⟨a,o,rfl,h1,fin⟩)
  ·subst h4;exact .inr (.inr ⟨d,ds,h1,h2,c1,c2,c3,fin⟩)
theorem Dd:Op2 b .val (xf b.C.K) n_:=by
 intro Ow H v1 v2 p1 p2 p Q hn r1 r2 e k
 unfold n_ at e
 cases q:inP p1 p2 with
 | none=>rw[q] at e;cases e
 | some c=>
  rw[q] at e
  cases e
  have fin:=k (.bl (!c)) H (Same.refl _) (.bl _)
  rcases Ai r1 r2 q with ⟨a,xs,rfl,h1,h2,h3,h4⟩ | ⟨i,j,rfl,rfl,h1⟩ | ⟨a,o,rfl,h1,h2⟩ | ⟨d,ds,h1,h2,c1,c2,c3,h4⟩
  ·subst h4;exact .inl (.inl ⟨a,xs,rfl,h1,h2,h3,fin⟩)
  ·subst h1;exact .inl (.inr ⟨i,j,rfl,rfl,fin⟩)
  ·subst h2;exact .inr (.inl ⟨a,o,rfl,h1,fin⟩)
  ·subst h4;exact .inr (.inr ⟨d,ds,h1,h2,c1,c2,c3,fin⟩)
end
@[simp] def oh:PV->Bool
 | .non=>true
 | _=>false
def isN (x y:PV):Option PV:=match y with
 | .non=>some (.bl (oh x))
 | _=>none
@[simp] theorem QS (x y:PV):isN x y=(match y with
 | .non=>some (.bl (oh x))
 | _=>none):=id rfl
def jO (x y:PV):Option PV:=match y with
 | .non=>some (.bl (!oh x))
 | _=>none
@[simp] theorem Oh (x y:PV):jO x y=(match y with
 | .non=>some (.bl (!oh x))
 | _=>none):=id rfl
theorem RepB.isN {C:MC}{A:Addr->Prop}{H:Hp}{v:V}{p:PV}(h:RepB C A H v p):decide (v=.non)=oh p:=by
 cases p with
 | non=>rw[h.non];rfl
 | bl b=>rw[h.bl];rfl
 | int b=>rw[h.int];rfl
 | str b=>rw[h.str];rfl
 | lst b=>obtain⟨a,_,rfl,_⟩:=h.lst;rfl
 | frz b=>obtain⟨a,_,rfl,_⟩:=h.frz;rfl
 | tup b=>obtain⟨a,_,rfl,_⟩:=h.tup;rfl
 | ktp b=>obtain⟨a,_,rfl,_⟩:=h.ktp;rfl
 | dK b=>obtain⟨a,_,rfl,_⟩:=h.dK;rfl
 | dT b=>obtain⟨a,_,rfl,_⟩:=h.dT;rfl
 | obj c b=>obtain⟨a,_,_,rfl,_⟩:=h.obj;rfl
section
variable {b:BX}
theorem Kr:Op2 b .val (λx y H Q=>y=.non/\Q (.bl (decide (x=.non))) H) isN:=by
 intro Ow H v1 v2 p1 p2 p Q hn r1 r2 e k
 cases p2 with
 | non=>
  simp only[isN] at e
  cases e
  exact⟨r2.non,by rw[r1.isN];exact k _ H (Same.refl _) (.bl _)⟩
 | _=>simp only[isN] at e;cases e
theorem Aj:Op2 b .val (λx y H Q=>y=.non/\Q (.bl (!decide (x=.non))) H) jO:=by
 intro Ow H v1 v2 p1 p2 p Q hn r1 r2 e k
 cases p2 with
 | non=>
  simp only[jO] at e
  cases e
  exact⟨r2.non,by rw[r1.isN];exact k _ H (Same.refl _) (.bl _)⟩
 | _=>simp only[jO] at e;cases e
end
section
variable {X:Cx}{b:BX}{G:List Nat}{m:Md}{e e1 e2 e3:Expr}{f f1 f2 f3:Env->Option PV}{pos:Pos}{m1 m2 m3:Md}
structure SC (X:Cx) (b:BX) (G:List Nat) (op:CmpOp) (e1 e2:Expr) (f:Env->Option PV):Prop where
 pe:∀ pos,SE X b G .val (.Compare e1 [op] [e2] pos) f
 pt:∀ pos,ST X b G (.Compare e1 [op] [e2] pos) (tV f)
theorem kW {op:CmpOp}{r:R2}{g:PV->PV->Option PV}(ho:OpR X (compareOp op) r) (hr:Op2 b .val r g) (h1:SE X b G m1 e1 f1) (h2:SE X b G m2 e2 f2) (hm:behindInMarks op e2=false):SC X b G op e1 e2 (b2 g f1 f2):=by
 refine⟨λpos=>PE.imp (Gi ho h1.bor h2.bor hm) fun σ H Q h=>yC hr h,λpos=>PT.imp (Gj ho h1.bor h2.bor hm) fun σ H Q h=>?_⟩
 obtain⟨Ow,env,c,E,hf,k⟩:=h
 unfold tV at hf
 cases q:b2 g f1 f2 env with
 | none=>rw[q] at hf;cases hf
 | some p=>
  rw[q] at hf
  refine yC (Q:=λx H'=>∃ k,x=.bl k/\_) hr ⟨Ow,env,p,E,q,λv H' s r=>?_⟩
  cases p with
  | bl d=>
   cases hf
   cases r
   exact⟨_,rfl,k H' s⟩
  | _=>cases hf
theorem dG {j:Nat}(hr:Room j X.A) (h1:SE X b G m1 e1 f1) (h2:SE X b G m2 e2 f2) (hK:X.K=b.C.K:=by rfl):SC X b G .Eq e1 e2 (b2 eqQ f1 f2):=kW (r:=Kh b.C.K) (by rw[← hK];exact OpR.or Mz (JP hr.units)) Nf h1 h2 (lU _)
theorem uo {j:Nat}(hr:Room j X.A) (h1:SE X b G m1 e1 f1) (h2:SE X b G m2 e2 f2) (hK:X.K=b.C.K:=by rfl):SC X b G .NotEq e1 e2 (b2 neQ f1 f2):=kW (r:=Kl b.C.K) (by rw[← hK];exact OpR.or MF (JQ hr.units)) Ng h1 h2 (lU _)
theorem yF (h1:SE X b G m1 e1 f1) (h2:SE X b G m2 e2 f2):SC X b G .Gt e1 e2 (b2 (mR λi j=>decide (j < i)) f1 f2):=kW MK J_ h1 h2 (lU _)
theorem yG {j:Nat}(hr:Room j X.A) (h1:SE X b G m1 e1 f1) (h2:SE X b G m2 e2 f2) (hm:behindInMarks .In e2=false:=by rfl) (hK:X.K=b.C.K:=by rfl):SC X b G .In e1 e2 (b2 inQ f1 f2):=
 kW (r:=Kq b.C.K) (by rw[← hK];exact OpR.or (OpR.or zV zG) (OpR.or (Km (mL hr)) (Ko hr.units))) Ni h1 h2 hm
theorem De {j:Nat}(hr:Room j X.A) (h1:SE X b G m1 e1 f1) (h2:SE X b G m2 e2 f2) (hm:behindInMarks .NotIn e2=false:=by rfl) (hK:X.K=b.C.K:=by rfl):SC X b G .NotIn e1 e2 (b2 n_ f1 f2):=
 kW (r:=xf b.C.K) (by rw[← hK];exact OpR.or (OpR.or uQ uR) (OpR.or (Ah (mL hr)) (Ag hr.units))) Dd h1 h2 hm
theorem Fg (h1:SE X b G m1 e1 f1) (h2:SE X b G m2 e2 f2):SC X b G .Is e1 e2 (b2 isN f1 f2):=kW Js Kr h1 h2 (lU _)
theorem u_ (h1:SE X b G m1 e1 f1) (h2:SE X b G m2 e2 f2):SC X b G .IsNot e1 e2 (b2 jO f1 f2):=kW Gh Aj h1 h2 (lU _)
theorem eE {op:CmpOp}(h:SC X b G op e1 e2 f):SE X b G .val (.Compare e1 [op] [e2] pos) f:=h.pe pos
theorem bJ {op:CmpOp}(h:SC X b G op e1 e2 f):ST X b G (.Compare e1 [op] [e2] pos) (tV f):=h.pt pos
def Ks (g g':Int->Int->Bool) (f1 f2 f3:Env->Option PV) (env:Env):Option PV:=(f1 env).bind λx=>(f2 env).bind λy=>match x,y with
 | .int i,.int j=>if g i j=true then (f3 env).bind λz=>mR g' y z else some (.bl false)
 | _,_=>none
@[simp] theorem Oi (g g':Int->Int->Bool) (f1 f2 f3:Env->Option PV) (env:Env):Ks g g' f1 f2 f3 env=((f1 env).bind λx=>(f2 env).bind λy=>match x,y with
 | .int i,.int j=>if g i j=true then (f3 env).bind λz=>mR g' y z else some (.bl false)
 | _,_=>none):=id rfl
theorem jP {op}(h:SE X b G m e f):SE X b G m (.BoolOp op [e] pos) f:=Jc h
theorem qy {rest:List Expr}(h1:SE X b G .val e1 f1) (h2:SE X b G .val (.BoolOp .And (e2::rest) pos) f2):SE X b G .val (.BoolOp .And (e1::e2::rest) pos) (lw f1 f2):=
 PE.imp (Jd h1 h2) fun σ H Q ⟨Ow,env,p,E,hf,k⟩=>by
  unfold lw at hf
  cases q1:f1 env with
  | none=>rw[q1] at hf;cases hf
  | some p1=>
   rw[q1] at hf
   refine⟨Ow,env,p1,E,q1,λv1 H1 s1 r1=>?_⟩
   cases p1 with
   | bl c=>
    cases r1
    refine⟨c,rfl,?_⟩
    cases c with
    | true=>exact⟨Ow,env,p,E.up s1,hf,λv H' s r=>k v H' (s1.trans s) r⟩
    | false=>cases hf;exact k _ H1 s1 (.bl false)
   | _=>cases hf
theorem qz {rest:List Expr}(h1:SE X b G .val e1 f1) (h2:SE X b G .val (.BoolOp .Or (e2::rest) pos) f2):SE X b G .val (.BoolOp .Or (e1::e2::rest) pos) (bOr f1 f2):=
 PE.imp (Mp h1 h2) fun σ H Q ⟨Ow,env,p,E,hf,k⟩=>by
  unfold bOr at hf
  cases q1:f1 env with
  | none=>rw[q1] at hf;cases hf
  | some p1=>
   rw[q1] at hf
   refine⟨Ow,env,p1,E,q1,λv1 H1 s1 r1=>?_⟩
   cases p1 with
   | bl c=>
    cases r1
    refine⟨c,rfl,?_⟩
    cases c with
    | false=>exact⟨Ow,env,p,E.up s1,hf,λv H' s r=>k v H' (s1.trans s) r⟩
    | true=>cases hf;exact k _ H1 s1 (.bl true)
   | _=>cases hf
theorem Ku (h1:SE X b G .val e1 f1):SE X b G .val (.UnaryOp .Not e1 pos) (yz f1):=
 PE.imp (Je h1) fun σ H Q ⟨Ow,env,p,E,hf,k⟩=>by
  unfold yz at hf
  cases q1:f1 env with
  | none=>rw[q1] at hf;cases hf
  | some p1=>
   rw[q1] at hf
   refine⟨Ow,env,p1,E,q1,λv1 H1 s1 r1=>?_⟩
   cases p1 with
   | bl c=>cases r1;cases hf;exact⟨c,rfl,k _ H1 s1 (.bl _)⟩
   | _=>cases hf
@[simp] def mW:PV->Option PV
 | .int i=>some (.int (-i))
 | _=>none
theorem vd (h1:SE X b G m e1 f1):SE X b G .val (.UnaryOp .USub e1 pos) (b1 mW f1):=
 PE.imp (Mx Jr h1.bor) fun σ H Q h=>yD (r:=rU λi=>.int (-i)) (λOw H v1 p1 p Q hn r1 e k=>by
  cases p1 <;> simp only[mW] at e <;> cases e
  exact⟨_,r1.int,k _ H (Same.refl _) (.int _)⟩) h
theorem jk (h:SE X b G .val e f) (he:∀ whole,isTrue e X.env whole=(do let v ← whole;standAt e.pos;holding [v] (truthy v)):=by intro _;rfl):ST X b G e (tV f):=
 PT.imp (IV h he) fun σ H Q ⟨Ow,env,c,E,hf,k⟩=>by
  unfold tV at hf
  cases q1:f env with
  | none=>rw[q1] at hf;cases hf
  | some p1=>
   rw[q1] at hf
   refine⟨Ow,env,p1,E,q1,λv1 H1 s1 r1=>?_⟩
   cases p1 with
   | bl d=>cases r1;cases hf;exact⟨_,rfl,k H1 s1⟩
   | _=>cases hf
theorem vf {g:Env->Option Bool}(h:ST X b G e g):ST X b G (.UnaryOp .Not e pos) (tN g):=
 PT.imp (Jb h) fun σ H Q ⟨Ow,env,c,E,hf,k⟩=>by
  unfold tN at hf
  cases q1:g env with
  | none=>rw[q1] at hf;cases hf
  | some p1=>rw[q1] at hf;cases hf;exact⟨Ow,env,p1,E,q1,λH' s=>k H' s⟩
abbrev SW (X:Cx) (b:BX) (G:List Nat) (e:Expr) (g:Env->Option Bool):Prop:=PW X e (tMT b G g)
theorem PW.imp {t u:TT}(h:PW X e t) (i:∀ σ H Q,u σ H Q->t σ H Q):PW X e u:=λwh pins s σ H Q I q=>h wh pins s σ H Q I (i σ H Q q)
variable {g1 g2:Env->Option Bool}
theorem jB (h:ST X b G e g1):SW X b G (.BoolOp .And [e] pos) g1:=Ge h
theorem Ak (h:ST X b G e g1):SW X b G (.BoolOp .Or [e] pos) g1:=I_ h
theorem lY {rest:List Expr}(h1:ST X b G e1 g1) (h2:SW X b G (.BoolOp .And (e2::rest) pos) g2):SW X b G (.BoolOp .And (e1::e2::rest) pos) (tA g1 g2):=
 PW.imp (Ja h1 h2) fun σ H Q ⟨Ow,env,c,E,hf,k⟩=>by
  unfold tA at hf
  cases q1:g1 env with
  | none=>rw[q1] at hf;cases hf
  | some p1=>
   rw[q1] at hf
   refine⟨Ow,env,p1,E,q1,λH1 s1=>?_⟩
   cases p1 with
   | true=>exact⟨Ow,env,c,E.up s1,hf,λH' s=>k H' (s1.trans s)⟩
   | false=>cases hf;exact k H1 s1
theorem yH {rest:List Expr}(h1:ST X b G e1 g1) (h2:SW X b G (.BoolOp .Or (e2::rest) pos) g2):SW X b G (.BoolOp .Or (e1::e2::rest) pos) (tO g1 g2):=
 PW.imp (Mj h1 h2) fun σ H Q ⟨Ow,env,c,E,hf,k⟩=>by
  unfold tO at hf
  cases q1:g1 env with
  | none=>rw[q1] at hf;cases hf
  | some p1=>
   rw[q1] at hf
   refine⟨Ow,env,p1,E,q1,λH1 s1=>?_⟩
   cases p1 with
   | false=>exact⟨Ow,env,c,E.up s1,hf,λH' s=>k H' (s1.trans s)⟩
   | true=>cases hf;exact k H1 s1
theorem SW.st (h:SW X b G e g1):ST X b G e g1:=h _
theorem Fi {c:Expr}(hc:ST X b G c g1) (h1:SE X b G m e1 f1) (h2:SE X b G m e2 f2):SE X b G m (.IfExp c e1 e2 pos) (bIf g1 f1 f2):=
 PE.imp (B_ hc h1 h2) fun σ H Q ⟨Ow,env,p,E,hf,k⟩=>by
  unfold bIf at hf
  cases q1:g1 env with
  | none=>rw[q1] at hf;cases hf
  | some c=>
   rw[q1] at hf
   refine⟨Ow,env,c,E,q1,λH1 s1=>?_⟩
   cases c with
   | true=>exact⟨Ow,env,p,E.up s1,hf,λv H' s r=>k v H' (s1.trans s) (r.down s1)⟩
   | false=>exact⟨Ow,env,p,E.up s1,hf,λv H' s r=>k v H' (s1.trans s) (r.down s1)⟩
end
end MR
namespace MR
open PySem L2
def ArA (b:BX) (Ow:Addr->Prop) (L:Bool) (H:Hp) (a:Addr):Prop:=Bs b Ow a\/(L=true/\∃ vs,H a=some (.lst vs))
def tMA (b:BX) (G:List Nat) (L:Bool) (g:Env->Option (List PV)):TA:=fun σ H Q=>∃ Ow env ps,ER b Ow G σ env H/\g env=some ps/\∀ vs H',Same H H'->Reps b.C (ArA b Ow L H') H' vs ps->Q vs H'
abbrev SA (X:Cx) (b:BX) (G:List Nat) (L:Bool) (es:List Expr) (g:Env->Option (List PV)):Prop:=PA X es (tMA b G L g)
theorem PA.imp {X:Cx}{es:List Expr}{t u:TA}(h:PA X es t) (i:∀ σ H Q,u σ H Q->t σ H Q):PA X es u:=λpos pins s σ H Q I q=>h pos pins s σ H Q I (i σ H Q q)
theorem ArA.ex {b:BX}{Ow:Addr->Prop}{L:Bool}{H H':Hp}(s:Same H H'):Ex (ArA b Ow L H) H (ArA b Ow L H') H':=λa o h=>⟨λq=>⟨s _ _ h,q.imp id λ⟨l,vs,e⟩=>⟨l,vs,s _ _ e⟩⟩,λ_=>s _ _ h⟩
section
variable {X:Cx}{b:BX}{G:List Nat}{m m1 m2:Md}{L:Bool}{e e1 e2:Expr}{es:List Expr}{f f1 f2:Env->Option PV}{g:Env->Option (List PV)}{pos p:Pos}
theorem aA:SA X b G L [] az:=PA.imp cT fun σ H Q ⟨Ow,env,ps,E,hg,k⟩=>by cases hg;exact k [] H (Same.refl _) .nil
theorem ak (h1:SE X b G .val e f) (h2:SA X b G L es g) (hs:starEach (e::es) X.env=(false,eval e X.env)::starEach es X.env:=by rfl):SA X b G L (e::es) (aa f g):=
 PA.imp (bU h1 h2 hs) fun σ H Q ⟨Ow,env,ps,E,hg,k⟩=>by
  unfold aa at hg
  cases q1:f env with
  | none=>rw[q1] at hg;cases hg
  | some p1=>
   rw[q1] at hg
   cases q2:g env with
   | none=>rw[q2] at hg;cases hg
   | some ps'=>
    rw[q2] at hg
    cases hg
    exact⟨Ow,env,p1,E,q1,λv H1 s1 r1=>⟨Ow,env,ps',E.up s1,q2,λvs H2 s2 r2=>k (v::vs) H2 (s1.trans s2) (.cons (Rep.ex (λa o h=>⟨λq=>⟨s2 _ _ h,.inl q⟩,λ_=>s2 _ _ h⟩) r1) r2)⟩⟩
def bL (f:Env->Option PV) (env:Env):Option PV:=(f env).bind λp=>match p with | .lst xs=>some (.lst xs) | _=>none
@[simp] theorem Ru (f:Env->Option PV) (env:Env):bL f env=((f env).bind λp=>match p with | .lst xs=>some (.lst xs) | _=>none):=id rfl
theorem uq {b:BX}{Ow:Addr->Prop}{H:Hp}{vs:List V}{ps:List PV}(h:Reps b.C (ArA b Ow false H) H vs ps):Reps b.C (Bs b Ow) H vs ps:=h.ex (bF λa o _ q=>q.elim id λz=>by cases z.1)
theorem aZ (h:SA X b G false es g):SE X b G .own (.List es pos) (aU g):=PE.imp (uJ h) fun σ H Q ⟨Ow,env,p,E,hf,k⟩=>by
 unfold aU at hf
 cases q1:g env with
 | none=>rw[q1] at hf;cases hf
 | some ps=>
  rw[q1] at hf
  simp only[Option.bind_some] at hf
  split at hf
  ·rename_i hl
   cases hf
   refine⟨Ow,env,ps,E,q1,λvs H1 s1 r=>⟨fu (by rw[r.length];exact hl),λq hq=>k _ _ (s1.trans (bh hq _)) (Res.down s1 (d7 hq (uq r)))⟩⟩
  ·cases hf
theorem bQ {x1}(h:SA X b G false es g):SE X b G .val (.Tuple es x1 pos) (bG g):=PE.imp (Ju h) fun σ H Q ⟨Ow,env,p,E,hf,k⟩=>by
 unfold bG at hf
 cases q1:g env with
 | none=>rw[q1] at hf;cases hf
 | some ps=>
  rw[q1] at hf
  simp only[Option.bind_some] at hf
  split at hf
  ·rename_i hl
   cases hf
   refine⟨Ow,env,ps,E,q1,λvs H1 s1 r=>⟨fu (by rw[r.length];exact hl),λq hq=>k _ _ (s1.trans (bh hq _)) (rC hq (uq r))⟩⟩
  ·cases hf
theorem Fj:SE X b G .own (.Dict [] [] pos) (bC (.dT [])):=PE.imp Cm fun σ H Q ⟨Ow,env,p,E,hf,k⟩ q hq=>by
 cases hf
 exact k _ _ (bh hq _) ⟨q,rfl,hq,[],aP,.nil⟩
@[simp] def ixP:PV->PV->Option PV
 | .lst xs,.int i=>atI xs i
 | .frz xs,.int i=>atI xs i
 | .tup xs,.int i=>atI xs i
 | .ktp xs,.int i=>atI xs i
 | .str x,.int i=>if x.length<=1000000 then (atI x.cps.toList i).map λc=>.str ⟨#[c]⟩ else none
 | .dK kvs,y=>(keyOf y).bind λk=>cC kvs k
 | .dT kvs,.tup ys=>(keysB ys).bind λk=>cC kvs k
 | _,_=>none
theorem Reps.atI {C:MC}{A:Addr->Prop}{H:Hp}{vs:List V}{ps:List PV}{i:Int}{p:PV}(h:Reps C A H vs ps) (e:atI ps i=some p):∃ v,L2.atI vs i=some v/\Rep C A H v p:=by
 unfold L2.atI at e ⊢
 rw[h.length]
 cases q:ixN ps.length i with
 | none=>rw[q] at e;cases e
 | some j=>rw[q] at e;exact h.get e
theorem aN {j:Nat}(hr:Room j X.A) (h1:SE X b G m1 e1 f1) (h2:SE X b G m2 e2 f2) (hs:oY e2:=by intro _ _;rfl) (hs':Ck e2:=by intro _ _;rfl) (hK:X.K=b.C.K:=by rfl):SE X b G .val (.Subscript e1 e2 pos) (b2 ixP f1 f2):=by
 refine PE.imp (PE.or (yo (r:=rIx b.C.K) (by rw[← hK];exact JF) h1.bor h2.bor hs) (Gq (mL hr) h1.bor h2.bor hs')) fun σ H Q h=>?_
 obtain⟨Ow,env,p,E,hf,k⟩:=h
 unfold b2 at hf
 cases q1:f1 env with
 | none=>rw[q1] at hf;cases hf
 | some p1=>
  rw[q1] at hf
  cases q2:f2 env with
  | none=>rw[q2] at hf;cases hf
  | some p2=>
   rw[q2] at hf
   simp only[Option.bind_some] at hf
   have step:∀ (R:V->V->Hp->VK->Prop),(∀ H2 v1 v2,RepB b.C (Bs b Ow) H2 v1 p1->RepB b.C (Bs b Ow) H2 v2 p2->Same H H2->R v1 v2 H2 Q)->tM b G .bor f1 σ H λx H1=>tM b G .bor f2 σ H1 λy H2=>R x y H2 Q:=λR hR=>
    ⟨Ow,env,p1,E,q1,λv1 H1 s1 r1=>⟨Ow,env,p2,E.up s1,q2,λv2 H2 s2 r2=>hR H2 v1 v2 (Res.up (m:=.bor) r1 s2) r2 (s1.trans s2)⟩⟩
   unfold ixP at hf
   split at hf
   ·refine .inl (step _ λH2 v1 v2 r1 r2 s=>?_)
    obtain⟨a,vs,rfl,ha,ra⟩:=r1.lst
    obtain⟨v,hv,rv⟩:=ra.atI hf
    rw[r2.int]
    exact .inl ⟨a,vs,_,v,rfl,rfl,SqL.of ha,hv,k v H2 s rv⟩
   ·refine .inl (step _ λH2 v1 v2 r1 r2 s=>?_)
    obtain⟨a,vs,rfl,ha,ra⟩:=r1.frz
    obtain⟨v,hv,rv⟩:=ra.atI hf
    rw[r2.int]
    exact .inl ⟨a,vs,_,v,rfl,rfl,ha,hv,k v H2 s rv⟩
   ·refine .inl (step _ λH2 v1 v2 r1 r2 s=>?_)
    obtain⟨a,vs,rfl,ha,ra⟩:=r1.tup
    obtain⟨v,hv,rv⟩:=ra.atI hf
    rw[r2.int]
    exact .inr (.inl ⟨a,vs,_,v,rfl,rfl,SqT.of ha,hv,k v H2 s rv⟩)
   ·refine .inl (step _ λH2 v1 v2 r1 r2 s=>?_)
    obtain⟨a,vs,rfl,ha,ra⟩:=r1.ktp
    obtain⟨v,hv,rv⟩:=ra.atI hf
    rw[r2.int]
    exact .inr (.inl ⟨a,vs,_,v,rfl,rfl,ha,hv,k v H2 s rv⟩)
   ·split at hf
    ·rename_i x i hx
     cases q3:atI x.cps.toList i with
     | none=>rw[q3] at hf;cases hf
     | some c=>
      rw[q3] at hf
      cases hf
      refine .inl (step _ λH2 v1 v2 r1 r2 s=>?_)
      rw[r1.str,r2.int]
      exact .inr (.inr ⟨x,i,c,rfl,rfl,fu hx,q3,k _ H2 s (.str _)⟩)
    ·cases hf
   ·rename_i kvs
    cases q3:keyOf p2 with
    | none=>rw[q3] at hf;cases hf
    | some ky=>
     rw[q3] at hf
     simp only[Option.bind_some] at hf
     refine .inr (step (λx y H2 Q=>∃ a v,x=.ref a/\DGet H2 a y (some v)/\Q v H2) λH2 v1 v2 r1 r2 s=>?_)
     obtain⟨a,kv,rfl,ha,ra⟩:=r1.dK
     rw[r2.key q3]
     unfold cC at hf
     rcases RepK.val (k:=ky) ra with ⟨v,p',h1,h2,rv⟩ | ⟨h1,h2⟩
     ·rw[h2] at hf
      cases hf
      exact⟨a,v,rfl,by rw[← h1];exact DGet.k ha,k v H2 s rv⟩
     ·rw[h2] at hf;cases hf
   ·rename_i kvs ys
    cases q3:keysB ys with
    | none=>rw[q3] at hf;cases hf
    | some ky=>
     rw[q3] at hf
     simp only[Option.bind_some] at hf
     refine .inr (step (λx y H2 Q=>∃ a v,x=.ref a/\DGet H2 a y (some v)/\Q v H2) λH2 v1 v2 r1 r2 s=>?_)
     obtain⟨a,kv,rfl,ha,ra⟩:=r1.dT
     obtain⟨c,vs,rfl,hc,rc⟩:=r2.tup
     unfold cC at hf
     rcases RepT.val (k:=ky) ra with ⟨v,p',h1,h2,rv⟩ | ⟨h1,h2⟩
     ·rw[h2] at hf
      cases hf
      exact⟨a,v,rfl,by rw[← h1];exact DGet.t ha ⟨_,hc,rc.keysB q3⟩,k v H2 s rv⟩
     ·rw[h2] at hf;cases hf
   ·cases hf
def fc (xs:List PV) (lo hi:Option Int):List PV:=(xs.drop (HT.sIx xs.length 0 lo)).take (HT.sIx xs.length xs.length hi - HT.sIx xs.length 0 lo)
theorem Reps.cut {C:MC}{A:Addr->Prop}{H:Hp}{vs:List V}{ps:List PV}(h:Reps C A H vs ps) (lo hi:Option Int):Reps C A H (qZ vs lo hi) (fc ps lo hi):=by
 unfold qZ fc
 rw[h.length]
 exact(h.drop _).take _
def oN (env:Env):Option (Option Int):=some none
@[simp] theorem Rv (env:Env):oN env=(some none):=id rfl
def oS (f:Env->Option PV) (env:Env):Option (Option Int):=(f env).bind λp=>match p with | .int i=>some (some i) | _=>none
@[simp] theorem Rw (f:Env->Option PV) (env:Env):oS f env=((f env).bind λp=>match p with | .int i=>some (some i) | _=>none):=id rfl
def tMO (b:BX) (G:List Nat) (f:Env->Option (Option Int)):TO:=fun σ H Q=>∃ Ow env o,ER b Ow G σ env H/\f env=some o/\∀ H',Same H H'->Q o H'
theorem PO.imp {x:Option Expr}{t u:TO}(h:PO X x t) (i:∀ σ H Q,u σ H Q->t σ H Q):PO X x u:=by
 intro pins s σ H Q I q
 exact h pins s σ H Q I (i σ H Q q)
abbrev SO (X:Cx) (b:BX) (G:List Nat) (e:Option Expr) (f:Env->Option (Option Int)):Prop:=PO X e (tMO b G f)
theorem o7:SO X b G none oN:=PO.imp Gu fun σ H Q ⟨Ow,env,o,E,hf,k⟩=>by cases hf;exact k H (Same.refl _)
theorem jC (h:SE X b G m e f):SO X b G (some e) (oS f):=PO.imp (Gv h.bor) fun σ H Q ⟨Ow,env,o,E,hf,k⟩=>by
 unfold oS at hf
 cases q1:f env with
 | none=>rw[q1] at hf;cases hf
 | some p1=>
  rw[q1] at hf
  refine⟨Ow,env,p1,E,q1,λv H1 s1 r1=>?_⟩
  have r1':RepB b.C (Bs b Ow) H1 v p1:=r1
  cases p1 <;> simp only[Option.bind_some] at hf <;> cases hf
  exact⟨_,r1'.int,k H1 s1⟩
def bSl (f:Env->Option PV) (lo hi:Env->Option (Option Int)) (env:Env):Option PV:=(f env).bind λx=>(lo env).bind λl=>(hi env).bind λh=>match x with
 | .lst xs=>some (.lst (fc xs l h))
 | .frz xs=>some (.lst (fc xs l h))
 | .str x=>if x.length<=1000000 then some (.str (nY x l h)) else none
 | _=>none
@[simp] theorem QT (f:Env->Option PV) (lo hi:Env->Option (Option Int)) (env:Env):bSl f lo hi env=((f env).bind λx=>(lo env).bind λl=>(hi env).bind λh=>match x with
 | .lst xs=>some (.lst (fc xs l h))
 | .frz xs=>some (.lst (fc xs l h))
 | .str x=>if x.length<=1000000 then some (.str (nY x l h)) else none
 | _=>none):=id rfl
theorem qC {lo hi:Option Expr}{p2:Pos}{fl fh:Env->Option (Option Int)}(h1:SE X b G m e f) (hl:SO X b G lo fl) (hh:SO X b G hi fh) (hK:X.K=b.C.K:=by rfl):SE X b G .val (.Subscript e (.Slice lo hi none p2) pos) (bSl f fl fh):=by
 refine PE.imp (Cq (r:=JT b.C.K) (by rw[← hK];exact JV) h1.bor hl hh) fun σ H Q ⟨Ow,env,p,E,hf,k⟩=>?_
 unfold bSl at hf
 cases q1:f env with
 | none=>rw[q1] at hf;cases hf
 | some p1=>
  rw[q1] at hf
  cases q2:fl env with
  | none=>rw[q2] at hf;cases hf
  | some l=>
   rw[q2] at hf
   cases q3:fh env with
   | none=>rw[q3] at hf;cases hf
   | some h=>
    rw[q3] at hf
    refine⟨Ow,env,p1,E,q1,λv H1 s1 r1=>⟨Ow,env,l,E.up s1,q2,λH2 s2=>⟨Ow,env,h,E.up (s1.trans s2),q3,λH3 s3=>?_⟩⟩⟩
    have r1':RepB b.C (Bs b Ow) H3 v p1:=Res.up (m:=.bor) r1 (s2.trans s3)
    cases p1 <;> simp only[Option.bind_some] at hf
    case lst xs=>
     cases hf
     obtain⟨a,vs,rfl,ha,ra⟩:=r1'.lst
     exact .inl ⟨a,vs,rfl,SqL.of ha,λq hq=>k _ _ (s1.trans (s2.trans (s3.trans (bh hq _)))) (Res.val (m:=.own) E (λz=>nomatch z) (Res.down (s1.trans (s2.trans s3)) (d7 hq (ra.cut l h))))⟩
    case frz xs=>
     cases hf
     obtain⟨a,vs,rfl,ha,ra⟩:=r1'.frz
     exact .inl ⟨a,vs,rfl,ha,λq hq=>k _ _ (s1.trans (s2.trans (s3.trans (bh hq _)))) (Res.val (m:=.own) E (λz=>nomatch z) (Res.down (s1.trans (s2.trans s3)) (d7 hq (ra.cut l h))))⟩
    case str x=>
     split at hf
     ·rename_i hx
      cases hf
      exact .inr ⟨x,r1'.str,fu hx,k _ _ (s1.trans (s2.trans s3)) (.str _)⟩
     ·cases hf
    all_goals cases hf
def Pk (f:Env->Option PV) (lo hi:Env->Option (Option Int)) (env:Env):Option PV:=(f env).bind λx=>(lo env).bind λl=>(hi env).bind λh=>match x with
 | .lst xs=>some (.lst (fc xs l h))
 | .frz xs=>some (.lst (fc xs l h))
 | _=>none
@[simp] theorem Qp (f:Env->Option PV) (lo hi:Env->Option (Option Int)) (env:Env):Pk f lo hi env=((f env).bind λx=>(lo env).bind λl=>(hi env).bind λh=>match x with
 | .lst xs=>some (.lst (fc xs l h))
 | .frz xs=>some (.lst (fc xs l h))
 | _=>none):=id rfl
theorem Kv {id:String}{x:Str}{r:List V->Hp->VK->Prop}{g:PV->Option PV}(hc:CallR X (.builtin id) r) (hr:Op1 b m (λv H Q=>r [v] H Q) g) (hm:X.mg x=none) (hv:bootBuiltins x=some (.builtin id)) (h:SE X b G m1 e f)
  (hg:Gl X x:=by rfl) (hn:x ≠ "__name__" := by decide) (hdb:(x == ("__debug__" : Str))=false:=by decide) (he:starEach [e] X.env=(false,eval e X.env)::starEach [] X.env:=by rfl):
  SE X b G m (.Call (.Name x p) [e] [] pos) (b1 g f):=
 PE.imp (uM hc hg hm hv (bU h.bor cT he) hn hdb he rfl) fun σ H Q h=>yD hr h
theorem rD {id:String}{x:Str}{r:List V->Hp->VK->Prop}{g:PV->Option PV}(hc:CallR X (.type id) r) (hr:Op1 b m (λv H Q=>r [v] H Q) g) (hm:X.mg x=none) (hv:bootBuiltins x=some (.type id)) (h:SE X b G m1 e f)
  (hg:Gl X x:=by rfl) (hn:x ≠ "__name__" := by decide) (hdb:(x == ("__debug__" : Str))=false:=by decide) (he:starEach [e] X.env=(false,eval e X.env)::starEach [] X.env:=by rfl):
  SE X b G m (.Call (.Name x p) [e] [] pos) (b1 g f):=
 PE.imp (zN hc hg hm hv (bU h.bor cT he) hn hdb he rfl) fun σ H Q h=>yD hr h
@[simp] def lenV:PV->Option PV
 | .lst xs=>some (.int xs.length)
 | .frz xs=>some (.int xs.length)
 | .tup xs=>some (.int xs.length)
 | .ktp xs=>some (.int xs.length)
 | .str x=>if x.length<=1000000 then some (.int x.length) else none
 | .dK kvs=>some (.int kvs.length)
 | _=>none
theorem RepK.length {C:MC}{A:Addr->Prop}{H:Hp}:∀ {vs:List (Key×V)}{ps:List (Key×PV)},RepK C A H vs ps->vs.length=ps.length
 | _,_,.nil=>rfl
 | _,_,.cons _ t=>by simp[RepK.length t]
theorem bf (hm:X.mg "len" = none) (h:SE X b G m1 e f) (hK:X.K=b.C.K:=by rfl) (hg:Gl X "len" := by rfl) (he:starEach [e] X.env=(false,eval e X.env)::starEach [] X.env:=by rfl):SE X b G .val (.Call (.Name "len" p) [e] [] pos) (b1 lenV f):=by
 refine Kv (CallR.or (CallR.or uT uU) z8) (λOw H v1 p1 p Q hn r1 e k=>?_) hm PySem.boot_len h hg (by decide) (by decide) he
 rw[hK]
 cases p1 <;> simp only[lenV] at e
 case lst xs=>cases e;obtain⟨a,vs,rfl,ha,ra⟩:=r1.lst;exact .inl (.inl ⟨a,vs,rfl,.inl (SqL.of ha),by rw[ra.length];exact k _ H (Same.refl _) (.int _)⟩)
 case frz xs=>cases e;obtain⟨a,vs,rfl,ha,ra⟩:=r1.frz;exact .inl (.inl ⟨a,vs,rfl,.inl ha,by rw[ra.length];exact k _ H (Same.refl _) (.int _)⟩)
 case tup xs=>cases e;obtain⟨a,vs,rfl,ha,ra⟩:=r1.tup;exact .inl (.inl ⟨a,vs,rfl,.inr (SqT.of ha),by rw[ra.length];exact k _ H (Same.refl _) (.int _)⟩)
 case ktp xs=>cases e;obtain⟨a,vs,rfl,ha,ra⟩:=r1.ktp;exact .inl (.inl ⟨a,vs,rfl,.inr ha,by rw[ra.length];exact k _ H (Same.refl _) (.int _)⟩)
 case str x=>
  split at e
  ·rename_i hx
   cases e
   rw[r1.str]
   exact .inl (.inr ⟨x,rfl,fu hx,k _ H (Same.refl _) (.int _)⟩)
  ·cases e
 case dK kvs=>cases e;obtain⟨a,vs,rfl,ha,ra⟩:=r1.dK;exact .inr ⟨a,vs,rfl,ha,by rw[ra.length];exact k _ H (Same.refl _) (.int _)⟩
 all_goals cases e
def yI:Key->PV
 | .inl i=>.int i
 | .inr x=>.str x
@[simp] def yJ:PV->Option PV
 | .lst xs=>some (.lst xs)
 | .frz xs=>some (.lst xs)
 | .tup xs=>some (.lst xs)
 | .ktp xs=>some (.lst xs)
 | .dK kvs=>some (.lst (kvs.map λkv=>yI kv.1))
 | _=>none
theorem G4 {C:MC}{A:Addr->Prop}{H:Hp}(k:Key):Rep C A H (kV k) (yI k):=by cases k with | inl i=>exact .int i | inr x=>exact .str x
theorem RepK.keys {C:MC}{A:Addr->Prop}{H:Hp}:∀ {vs:List (Key×V)}{ps:List (Key×PV)},RepK C A H vs ps->Reps C A H (vs.map λkv=>kV kv.1) (ps.map λkv=>yI kv.1)
 | _,_,.nil=>.nil
 | _,_,.cons (k:=k) _ t=>.cons (G4 k) (RepK.keys t)
theorem G5 (hm:X.mg "list" = none) (h:SE X b G m1 e f) (hcm:X.calm=true:=by rfl) (hK:X.K=b.C.K:=by rfl) (hg:Gl X "list" := by rfl) (he:starEach [e] X.env=(false,eval e X.env)::starEach [] X.env:=by rfl):SE X b G .own (.Call (.Name "list" p) [e] [] pos) (b1 yJ f):=by
 refine rD (CallR.or uV (q_ hcm)) (λOw H v1 p1 p Q hn r1 e k=>?_) hm PyProof.Rows.boot_list h hg (by decide) (by decide) he
 rw[hK]
 cases p1 <;> simp only[yJ] at e <;> cases e
 case lst xs=>obtain⟨a,vs,rfl,ha,ra⟩:=r1.lst;exact .inl ⟨a,vs,rfl,.inl (SqL.of ha),λl hl=>k _ _ (bh hl _) (d7 hl ra)⟩
 case frz xs=>obtain⟨a,vs,rfl,ha,ra⟩:=r1.frz;exact .inl ⟨a,vs,rfl,.inl ha,λl hl=>k _ _ (bh hl _) (d7 hl ra)⟩
 case tup xs=>obtain⟨a,vs,rfl,ha,ra⟩:=r1.tup;exact .inl ⟨a,vs,rfl,.inr (SqT.of ha),λl hl=>k _ _ (bh hl _) (d7 hl ra)⟩
 case ktp xs=>obtain⟨a,vs,rfl,ha,ra⟩:=r1.ktp;exact .inl ⟨a,vs,rfl,.inr ha,λl hl=>k _ _ (bh hl _) (d7 hl ra)⟩
 case dK kvs=>obtain⟨a,vs,rfl,ha,ra⟩:=r1.dK;exact .inr ⟨a,vs,rfl,ha,λl hl=>k _ _ (bh hl _) (d7 hl ra.keys)⟩
@[simp] def vg:PV->Option PV
 | .int i=>some (.int i)
 | .bl k=>some (.int (if k then 1 else 0))
 | _=>none
theorem xg (hm:X.mg "int" = none) (h:SE X b G m1 e f) (hg:Gl X "int" := by rfl) (he:starEach [e] X.env=(false,eval e X.env)::starEach [] X.env:=by rfl):SE X b G .val (.Call (.Name "int" p) [e] [] pos) (b1 vg f):=by
 refine rD zH (λOw H v1 p1 p Q hn r1 e k=>?_) hm PyProof.Rows.boot_int h hg (by decide) (by decide) he
 cases p1 <;> simp only[vg] at e <;> cases e
 ·rw[r1.bl];exact .inr ⟨_,rfl,k _ H (Same.refl _) (.int _)⟩
 ·rw[r1.int];exact .inl ⟨_,rfl,k _ H (Same.refl _) (.int _)⟩
@[simp] def bools:List PV->Option (List Bool)
 | []=>some []
 | .bl c::r=>(bools r).map (c::·)
 | _::_=>none
theorem Reps.bools {C:MC}{A:Addr->Prop}{H:Hp}:∀ {vs:List V}{ps:List PV}{bs:List Bool},Reps C A H vs ps->bools ps=some bs->vs=bs.map V.bl
 | _,_,_,.nil,e=>by cases e;rfl
 | _,_,_,.cons (p:=p) (ps:=ps) h t,e=>by
  cases p <;> simp only[MR.bools] at e <;> first | cases e | skip
  rename_i c
  cases q:MR.bools ps with
  | none=>rw[q] at e;cases e
  | some bs=>rw[q] at e;cases e;cases h;rw[Reps.bools t q];rfl
@[simp] def RQ:PV->Option PV
 | .lst xs=>(bools xs).map λbs=>.bl (bs.all id)
 | _=>none
@[simp] def RT:PV->Option PV
 | .lst xs=>(bools xs).map λbs=>.bl (bs.any id)
 | _=>none
@[simp] def strsP:List PV->Option (List Str)
 | []=>some []
 | .str c::r=>(strsP r).map (c::·)
 | _::_=>none
theorem Reps.strsP {C:MC}{A:Addr->Prop}{H:Hp}:∀ {vs:List V}{ps:List PV}{bs:List Str},Reps C A H vs ps->strsP ps=some bs->vs=bs.map V.str
 | _,_,_,.nil,e=>by cases e;rfl
 | _,_,_,.cons (p:=p) (ps:=ps) h t,e=>by
  cases p <;> simp only[MR.strsP] at e <;> first | cases e | skip
  rename_i c
  cases q:MR.strsP ps with
  | none=>rw[q] at e;cases e
  | some bs=>rw[q] at e;cases e;cases h;rw[Reps.strsP t q];rfl
@[simp] def Nj:PV->PV->Option PV
 | .str z,.lst xs=>(strsP xs).bind λzs=>if JoinOk z zs=true then some (.str (Str.join z zs)) else none
 | _,_=>none
@[simp] def QV:PV->PV->Option PV
 | .str z,.str y=>if (y.length == 0)=false/\z.length<=1000000 then some (.lst ((Txt.split z y).map .str)) else none
 | _,_=>none
def Ret (C:MC) (A:Addr->Prop) (H:Hp) (ro:Bool) (H':Hp) (v:V) (p:PV):Prop:=match ro with
 | true=>∃ a,v=.ref a/\H a=none/\Top C (λc=>(A c\/H c=none)/\c≠a) H' a p
 | false=>Rep C (λc=>A c\/H c=none) H' v p
def spM (C:MC) (m:List PV->Option PV) (ro:Bool):Sp:=λvs H Q _=>∃ A ps p,Reps C A H vs ps/\m ps=some p/\∀ v H',Same H H'->Ret C A H ro H' v p->Q v H'
def Kw:Bool->Md
 | true=>.own
 | false=>.val
theorem Ret.res {Ow:Addr->Prop}{σ:St}{env:Env}{H H1 H':Hp}{ro:Bool}{v:V}{q:PV}(E:ER b Ow G σ env H) (s:Same H H1) (r:Ret b.C (Bs b Ow) H1 ro H' v q):Res b Ow H H' (Kw ro) v q:=by
 cases ro with
 | true=>
  obtain⟨a,rfl,h,t⟩:=r
  exact⟨a,rfl,s.free h,t.ex (bF λc o _ z=>⟨z.1.elim id λw=>(E.up s).fresh w,z.2⟩) λo z=>z⟩
 | false=>exact Rep.ex (bF λc o _ z=>z.elim id λw=>(E.up s).fresh w) r
theorem G6 {k j:Nat}{x:Str}{ps:List Str}{mi:List PV->Option PV}{ro:Bool}(c:Cal X.prog X.w X.K X.mg X.base k x ps (spM b.C mi ro)) (hr:Room j X.A) (ha:SA X b G false (e::es) g) (hle:k<=j:=by decide) (hg:Gl X x:=by rfl)
  (hdb:(x == ("__debug__" : Str))=false:=by decide) (he:starEach (e::es) X.env=(false,eval e X.env)::starEach es X.env:=by rfl) (hpl:(backTo pos (starEach es X.env)).any (·.1)=false:=by rfl):
  SE X b G (Kw ro) (.Call (.Name x p) (e::es) [] pos) (aQ mi g):=by
 refine PE.imp (z_ c hr ha hle hg hdb he hpl) fun σ H Q ⟨Ow,env,q,E,hf,kk⟩=>?_
 unfold aQ at hf
 cases q1:g env with
 | none=>rw[q1] at hf;cases hf
 | some qs=>
  rw[q1] at hf
  refine⟨Ow,env,qs,E,q1,λvs H1 s1 r=>?_⟩
  dsimp only
  rw[List.append_nil]
  exact⟨Bs b Ow,qs,q,uq r,hf,λv H' s' rr=>kk v H' (s1.trans s') (Ret.res E s1 rr)⟩
mutual
def noL:PV->Bool
 | .lst _=>false
 | .tup xs=>rF xs
 | .ktp xs=>rF xs
 | .frz xs=>rF xs
 | .dK kvs=>yK kvs
 | .dT kvs=>yL kvs
 | .obj _ fs=>rG fs
 | _=>true
def rF:List PV->Bool
 | []=>true
 | x::xs=>noL x&&rF xs
def yK:List (Key×PV)->Bool
 | []=>true
 | x::xs=>noL x.2&&yK xs
def yL:List (List Key×PV)->Bool
 | []=>true
 | x::xs=>noL x.2&&yL xs
def rG:List (Str×PV)->Bool
 | []=>true
 | x::xs=>noL x.2&&rG xs
end
def NL (A A':Addr->Prop) (H:Hp):Prop:=∀ a o,H a=some o->A a->A' a\/∃ vs,o=.lst vs
mutual
theorem Rep.nl {C:MC}{A A':Addr->Prop}{H:Hp}(e:NL A A' H):∀ {v:V}{p:PV},Rep C A H v p->noL p=true->Rep C A' H v p
 | _,_,.non,_=>.non
 | _,_,.bl b,_=>.bl b
 | _,_,.int i,_=>.int i
 | _,_,.str x,_=>.str x
 | _,_,.lst h q r,n=>by simp only[noL] at n;cases n
 | _,_,.lstF h r,n=>.lstF h (Reps.nl e r (by simpa only [noL] using n))
 | _,_,.lstK h r,n=>.lstK h (Reps.nl e r (by simpa only [noL] using n))
 | _,_,.tup h r,n=>.tup h (Reps.nl e r (by simpa only [noL] using n))
 | _,_,.tupK h r,n=>.tupK h (Reps.nl e r (by simpa only [noL] using n))
 | _,_,.dK h q r,n=>.dK h ((e _ _ h q).elim id λ⟨_,z⟩=>nomatch z) (RepK.nl e r (by simpa only [noL] using n))
 | _,_,.dT h q r,n=>.dT h ((e _ _ h q).elim id λ⟨_,z⟩=>nomatch z) (RepT.nl e r (by simpa only [noL] using n))
 | _,_,.obj h q r,n=>.obj h ((e _ _ h q).elim id λ⟨_,z⟩=>nomatch z) (RepF.nl e r (by simpa only [noL] using n))
theorem Reps.nl {C:MC}{A A':Addr->Prop}{H:Hp}(e:NL A A' H):∀ {v:List V}{p:List PV},Reps C A H v p->rF p=true->Reps C A' H v p
 | _,_,.nil,_=>.nil
 | _,_,.cons h t,n=>by
  simp only[rF,Bool.and_eq_true] at n
  exact .cons (Rep.nl e h n.1) (Reps.nl e t n.2)
theorem RepK.nl {C:MC}{A A':Addr->Prop}{H:Hp}(e:NL A A' H):∀ {v:List (Key×V)}{p:List (Key×PV)},RepK C A H v p->yK p=true->RepK C A' H v p
 | _,_,.nil,_=>.nil
 | _,_,.cons h t,n=>by
  simp only[yK,Bool.and_eq_true] at n
  exact .cons (Rep.nl e h n.1) (RepK.nl e t n.2)
theorem RepT.nl {C:MC}{A A':Addr->Prop}{H:Hp}(e:NL A A' H):∀ {v:List (List Key×V)}{p:List (List Key×PV)},RepT C A H v p->yL p=true->RepT C A' H v p
 | _,_,.nil,_=>.nil
 | _,_,.cons h t,n=>by
  simp only[yL,Bool.and_eq_true] at n
  exact .cons (Rep.nl e h n.1) (RepT.nl e t n.2)
theorem RepF.nl {C:MC}{A A':Addr->Prop}{H:Hp}(e:NL A A' H):∀ {v:List (Str×V)}{p:List (Str×PV)},RepF C A H v p->rG p=true->RepF C A' H v p
 | _,_,.nil,_=>.nil
 | _,_,.cons h t,n=>by
  simp only[rG,Bool.and_eq_true] at n
  exact .cons (Rep.nl e h n.1) (RepF.nl e t n.2)
end
def Ky (mi:List PV->Option PV) (g:Env->Option (List PV)) (env:Env):Option PV:=((g env).bind mi).bind λp=>if noL p=true then some p else none
@[simp] theorem Oj (mi:List PV->Option PV) (g:Env->Option (List PV)) (env:Env):Ky mi g env=(((g env).bind mi).bind λp=>if noL p=true then some p else none):=id rfl
def Pn (c:Nat) (x:Str) (f:Env->Option PV) (env:Env):Option PV:=(f env).bind λp=>match p with
 | .obj c' fs=>if c'=c then fs.lookup x else none
 | _=>none
@[simp] theorem Qq (c:Nat) (x:Str) (f:Env->Option PV) (env:Env):Pn c x f env=((f env).bind λp=>match p with
 | .obj c' fs=>if c'=c then fs.lookup x else none
 | _=>none):=id rfl
def Nk (c:Nat) (x:Str) (mi:List PV->Option PV) (f:Env->Option PV) (g:Env->Option (List PV)) (env:Env):Option PV:=(f env).bind λp=>match p with
 | .obj c' fs=>if c'=c/\fs.lookup x=none then (g env).bind λps=>mi (p::ps) else none
 | _=>none
@[simp] theorem Pq (c:Nat) (x:Str) (mi:List PV->Option PV) (f:Env->Option PV) (g:Env->Option (List PV)) (env:Env):Nk c x mi f g env=((f env).bind λp=>match p with
 | .obj c' fs=>if c'=c/\fs.lookup x=none then (g env).bind λps=>mi (p::ps) else none
 | _=>none):=id rfl
theorem aM {k j:Nat}{x:Str}{ps:List Str}{mi:List PV->Option PV}(c:Cal X.prog X.w X.K X.mg X.base k x ps (spM b.C mi false)) (hr:Room j X.A) (ha:SA X b G false (e::es) g) (hle:k<=j:=by decide) (hg:Gl X x:=by rfl)
  (hdb:(x == ("__debug__" : Str))=false:=by decide) (he:starEach (e::es) X.env=(false,eval e X.env)::starEach es X.env:=by rfl) (hpl:(backTo pos (starEach es X.env)).any (·.1)=false:=by rfl):
  SE X b G .val (.Call (.Name x p) (e::es) [] pos) (aQ mi g):=G6 c hr ha hle hg hdb he hpl
end
end MR
namespace MR
open PySem L2
section
variable {b:BX}{Ow:Addr->Prop}{G:List Nat}{σ:St}{env:Env}{H H':Hp}
theorem ER.set (E:ER b Ow G σ env H){i:Nat}{v:V}{p:PV}(hi:i∉G) (r:Rep b.C (Bs b Ow) H v p) (hx:b.fx i=none):ER b Ow G (σ.set i (some v)) (env.set i (some p)) H:=by
 refine⟨by rw[List.length_set,List.length_set];exact E.len,E.same,E.live,E.new,λj q e n=>?_,λj q e n=>?_,λj k a q q' e1 n1 s1 e2 n2 s2=>?_,λk w hw=>?_⟩
 ·by_cases hj:i=j
  ·subst hj
   rw[List.getElem?_set] at e
   split at e
   ·split at e
    ·rename_i hl
     have:=Option.some.inj (Option.some.inj e)
     subst this
     exact⟨v,by rw[List.getElem?_set_self (by rw[E.len];exact hl)],r⟩
    ·cases e
   ·exact absurd rfl ‹_›
  ·rw[List.getElem?_set_ne hj] at e ⊢
   exact E.val j q e n
 ·have hj:i≠j:=λz=>hi (z▸n)
  rw[List.getElem?_set_ne hj] at e ⊢
  exact E.own j q e n
 ·have hj:i≠j:=λz=>hi (z▸n1)
  have hk:i≠k:=λz=>hi (z▸n2)
  rw[List.getElem?_set_ne hj] at e1 s1
  rw[List.getElem?_set_ne hk] at e2 s2
  exact E.sep j k a q q' e1 n1 s1 e2 n2 s2
 ·by_cases hk:i=k
  ·subst hk;rw[hx] at hw;cases hw
  ·rw[List.getElem?_set_ne hk];exact E.fix k w hw
theorem ER.setO (E:ER b Ow G σ env H){i:Nat}{a:Addr}{p:PV}{H0:Hp}{G':List Nat}(hG:∀ j,j∈G'↔(j∈G\/j=i)) (s0:Same H0 H) (hn:H0 a=none) (hE0:ER b Ow G σ env H0) (t:Top b.C (λc=>Bs b Ow c/\c≠a) H a p) (hx:b.fx i=none):
  ER b (λc=>Ow c\/c=a) G' (σ.set i (some (.ref a))) (env.set i (some p)) H/\Ex (Bs b Ow) H0 (Bs b λc=>Ow c\/c=a) H:=by
 have hx0:Ex (Bs b Ow) H0 (Bs b λc=>Ow c\/c=a) H:=λc o h=>⟨λq=>⟨s0 _ _ h,λz=>z.elim q.1 (aV h hn),q.2⟩,λ_=>s0 _ _ h⟩
 have ht:Top b.C (Bs b λc=>Ow c\/c=a) H a p:=t.ex (bF λc o _ q=>⟨λz=>z.elim q.1.1 q.2,q.1.2⟩) λo z=>z
 refine⟨⟨by rw[List.length_set,List.length_set];exact E.len,E.same,λc w=>w.elim (E.live c) λz=>by subst z;obtain⟨o,h,_⟩:=t.live;exact⟨o,h⟩,λc w=>w.elim (E.new c) λz=>by subst z;exact hE0.same.free hn,λj q e n=>?_,λj q e n=>?_,λj k c q q' e1 n1 s1 e2 n2 s2=>?_,λk w hw=>?_⟩,hx0⟩
 ·have hj:i≠j:=λz=>n ((hG j).mpr (.inr z.symm))
  rw[List.getElem?_set_ne hj] at e ⊢
  obtain⟨v,h1,h2⟩:=hE0.val j q e λz=>n ((hG j).mpr (.inl z))
  exact⟨v,h1,h2.ex hx0⟩
 ·by_cases hj:i=j
  ·subst hj
   rw[List.getElem?_set] at e
   split at e
   ·split at e
    ·rename_i hl
     have:=Option.some.inj (Option.some.inj e)
     subst this
     exact⟨a,by rw[List.getElem?_set_self (by rw[E.len];exact hl)],.inr rfl,ht⟩
    ·cases e
   ·exact absurd rfl ‹_›
  ·rw[List.getElem?_set_ne hj] at e ⊢
   have nG:j∈G:=((hG j).mp n).elim id λz=>absurd z.symm hj
   obtain⟨c,h1,h2,h3⟩:=hE0.own j q e nG
   exact⟨c,h1,.inl h2,h3.ex hx0 λo z=>s0 _ _ z⟩
 ·have old:∀ {j:Nat}{q:PV},i≠j->j∈G'->env[j]?=some (some q)->σ[j]?=some (some (.ref c))->c≠a:=λ{j q} hj n e s=>by
   have nG:j∈G:=((hG j).mp n).elim id λz=>absurd z.symm hj
   obtain⟨c',h1,h2,h3⟩:=hE0.own j q e nG
   rw[s] at h1
   cases h1
   obtain⟨o,h4,_⟩:=h3.live
   exact aV h4 hn
  by_cases hj:i=j
  ·by_cases hk:i=k
   ·exact hj.symm.trans hk
   ·subst hj
    rw[List.getElem?_set_ne hk] at e2 s2
    have hl:i < σ.length:=by
     by_cases hl:i < σ.length
     ·exact hl
     ·rw[List.getElem?_eq_none (by rw[List.length_set];omega)] at s1;cases s1
    rw[List.getElem?_set_self hl] at s1
    cases s1
    exact absurd rfl (old hk n2 e2 s2)
  ·by_cases hk:i=k
   ·subst hk
    rw[List.getElem?_set_ne hj] at e1 s1
    have hl:i < σ.length:=by
     by_cases hl:i < σ.length
     ·exact hl
     ·rw[List.getElem?_eq_none (by rw[List.length_set];omega)] at s2;cases s2
    rw[List.getElem?_set_self hl] at s2
    cases s2
    exact absurd rfl (old hj n1 e1 s1)
   ·rw[List.getElem?_set_ne hj] at e1 s1
    rw[List.getElem?_set_ne hk] at e2 s2
    have g1:j∈G:=((hG j).mp n1).elim id λz=>absurd z.symm hj
    have g2:k∈G:=((hG k).mp n2).elim id λz=>absurd z.symm hk
    exact E.sep j k c q q' e1 g1 s1 e2 g2 s2
 ·by_cases hk:i=k
  ·subst hk;rw[hx] at hw;cases hw
  ·rw[List.getElem?_set_ne hk];exact E.fix k w hw
theorem ER.write (E:ER b Ow G σ env H){i:Nat}{a:Addr}{p p':PV}{o':HO}(hi:i∈G) (hσ:σ[i]?=some (some (.ref a))) (he:env[i]?=some (some p)) (hw:Ow a) (t:Top b.C (Bs b Ow) H a p) (t':Top b.C (Bs b Ow) (upd H a o') a p'):
  ER b Ow G σ (env.set i (some p')) (upd H a o')/\Ex (Bs b Ow) H (Bs b Ow) (upd H a o'):=by
 obtain⟨o,ho,hm⟩:=t.live
 have hx:Ex (Bs b Ow) H (Bs b Ow) (upd H a o'):=λc u h=>⟨λq=>⟨by rw[aH (λz:c=a=>q.1 (z▸hw))];exact h,q⟩,λm=>by
  have hc:c≠a:=λz=>by subst z;rw[ho] at h;cases h;rw[hm] at m;cases m
  rw[aH hc];exact h⟩
 refine⟨⟨by rw[List.length_set];exact E.len,λc u h=>?_,λc w=>?_,E.new,λj q e n=>?_,λj q e n=>?_,λj k c q q' e1 n1 s1 e2 n2 s2=>?_,E.fix⟩,hx⟩
 ·have hc:c≠a:=aV h (E.new a hw)
  rw[aH hc];exact E.same c u h
 ·by_cases hc:c=a
  ·subst hc;exact⟨o',aP⟩
  ·obtain⟨u,h⟩:=E.live c w
   exact⟨u,by rw[aH hc];exact h⟩
 ·have hj:i≠j:=λz=>n (z▸hi)
  rw[List.getElem?_set_ne hj] at e
  obtain⟨v,h1,h2⟩:=E.val j q e n
  exact⟨v,h1,h2.ex hx⟩
 ·by_cases hj:i=j
  ·subst hj
   rw[List.getElem?_set] at e
   split at e
   ·split at e
    ·have:=Option.some.inj (Option.some.inj e)
     subst this
     exact⟨a,hσ,hw,t'⟩
    ·cases e
   ·exact absurd rfl ‹_›
  ·rw[List.getElem?_set_ne hj] at e
   obtain⟨c,h1,h2,h3⟩:=E.own j q e n
   have hc:c≠a:=λz=>by subst z;exact hj (E.sep i j c p q he hi hσ e n h1)
   exact⟨c,h1,h2,h3.ex hx λu z=>by rw[aH hc];exact z⟩
 ·have back:∀ {j:Nat}{q:PV},(env.set i (some p'))[j]?=some (some q)->∃ q,env[j]?=some (some q):=λ{j q} e=>by
   by_cases hj:i=j
   ·subst hj;exact⟨p,he⟩
   ·rw[List.getElem?_set_ne hj] at e;exact⟨q,e⟩
  obtain⟨r1,e1'⟩:=back e1
  obtain⟨r2,e2'⟩:=back e2
  exact E.sep j k c r1 r2 e1' n1 s1 e2' n2 s2
theorem ER.weak {G':List Nat}(E:ER b Ow G σ env H) (h:∀ j,j∈G'->j∈G):∃ Ow',ER b Ow' G' σ env H/\Ex (Bs b Ow) H (Bs b Ow') H:=by
 refine⟨λa=>Ow a/\∃ j q,j∈G'/\env[j]?=some (some q)/\σ[j]?=some (some (.ref a)),?_⟩
 have hx:Ex (Bs b Ow) H (Bs b λa=>Ow a/\∃ j q,j∈G'/\env[j]?=some (some q)/\σ[j]?=some (some (.ref a))) H:=bF λc o _ q=>⟨λz=>q.1 z.1,q.2⟩
 refine⟨⟨E.len,E.same,λa w=>E.live a w.1,λa w=>E.new a w.1,λi p e n=>?_,λi p e n=>?_,λi j a p q e1 n1 s1 e2 n2 s2=>E.sep i j a p q e1 (h i n1) s1 e2 (h j n2) s2,E.fix⟩,hx⟩
 ·by_cases hi:i∈G
  ·obtain⟨a,h1,h2,h3⟩:=E.own i p e hi
   refine⟨_,h1,(h3.ex hx λo z=>z).rep ⟨λz=>?_,.inr (E.new a h2)⟩⟩
   obtain⟨_,j,q,hj,e',s'⟩:=z
   have:=E.sep i j a p q e hi h1 e' (h j hj) s'
   subst this
   exact n hj
  ·obtain⟨v,h1,h2⟩:=E.val i p e hi
   exact⟨v,h1,h2.ex hx⟩
 ·obtain⟨a,h1,h2,h3⟩:=E.own i p e (h i n)
  exact⟨a,h1,⟨h2,i,p,n,e,h1⟩,h3.ex hx λo z=>z⟩
theorem ER.forget (E:ER b Ow G σ env H) (i:Nat):ER b Ow G σ (env.set i none) H:=by
 have back:∀ {j:Nat}{q:PV},(env.set i none)[j]?=some (some q)->env[j]?=some (some q):=λ{j q} e=>by
  by_cases hj:i=j
  ·subst hj
   rw[List.getElem?_set] at e
   split at e
   ·split at e <;> cases e
   ·exact absurd rfl ‹_›
  ·rw[List.getElem?_set_ne hj] at e;exact e
 exact⟨by rw[List.length_set];exact E.len,E.same,E.live,E.new,λj q e n=>E.val j q (back e) n,λj q e n=>E.own j q (back e) n,λj k a q q' e1 n1 s1 e2 n2 s2=>E.sep j k a q q' (back e1) n1 s1 (back e2) n2 s2,E.fix⟩
@[simp] def clr:List Nat->Env->Env
 | [],env=>env
 | i::r,env=>clr r (env.set i none)
theorem ER.clr:∀ {ds:List Nat}{env:Env},ER b Ow G σ env H->ER b Ow G σ (clr ds env) H
 | [],_,E=>E
 | i::r,env,E=>ER.clr (ds:=r) (E.forget i)
end
inductive Out where
 | nx (e:Env) | bk (e:Env) | ct (e:Env) | rt (p:PV)
def Post (b:BX) (Ow:Addr->Prop) (H:Hp) (G L:List Nat) (ro:Bool) (D:Ends):Out->Prop
 | .nx e=>∀ Ow' σ' H',ER b Ow' G σ' e H'->Ex (Bs b Ow) H (Bs b Ow') H'->D.nx σ' H'
 | .bk e=>∀ Ow' σ' H',ER b Ow' L σ' e H'->Ex (Bs b Ow) H (Bs b Ow') H'->D.bk σ' H'
 | .ct e=>∀ Ow' σ' H',ER b Ow' L σ' e H'->Ex (Bs b Ow) H (Bs b Ow') H'->D.ct σ' H'
 | .rt p=>∀ v H',Same b.H0 H'->Ret b.C b.A b.H0 ro H' v p->D.rt v H'
def tS (b:BX) (G G' L:List Nat) (ro:Bool) (f:Env->Option Out):TS:=λD σ H=>∃ Ow env out,ER b Ow G σ env H/\f env=some out/\Post b Ow H G' L ro D out
abbrev SS (X:Cx) (b:BX) (G G' L:List Nat) (ro:Bool) (st:Stmt) (f:Env->Option Out):Prop:=PS X st (tS b G G' L ro f)
abbrev SSs (X:Cx) (b:BX) (G G' L:List Nat) (ro:Bool) (st:List Stmt) (f:Env->Option Out):Prop:=PSs X st (tS b G G' L ro f)
theorem PSs.imp {X:Cx}{e:List Stmt}{t u:TS}(h:PSs X e t) (i:∀ D σ H,u D σ H->t D σ H):PSs X e u:=λpins s σ H D I q=>h pins s σ H D I (i D σ H q)
theorem PS.or {X:Cx}{e:Stmt}{t u:TS}(h:PS X e t) (h':PS X e u):PS X e (λD σ H=>t D σ H\/u D σ H):=λpins s σ H D I q=>q.elim (h pins s σ H D I) (h' pins s σ H D I)
theorem Post.ex {b:BX}{Ow Ow1:Addr->Prop}{H H1:Hp}{G L:List Nat}{ro:Bool}{D:Ends}{o:Out}(e:Ex (Bs b Ow) H (Bs b Ow1) H1) (h:Post b Ow H G L ro D o):Post b Ow1 H1 G L ro D o:=by
 cases o with
 | nx e'=>exact λOw' σ' H' E x=>h Ow' σ' H' E (e.trans x)
 | bk e'=>exact λOw' σ' H' E x=>h Ow' σ' H' E (e.trans x)
 | ct e'=>exact λOw' σ' H' E x=>h Ow' σ' H' E (e.trans x)
 | rt p=>exact h
def sNx (env:Env):Option Out:=some (.nx env)
@[simp] theorem QW (env:Env):sNx env=(some (.nx env)):=id rfl
def sBk (env:Env):Option Out:=some (.bk env)
@[simp] theorem QX (env:Env):sBk env=(some (.bk env)):=id rfl
def sCt (env:Env):Option Out:=some (.ct env)
@[simp] theorem QZ (env:Env):sCt env=(some (.ct env)):=id rfl
def sNo (env:Env):Option Out:=none
@[simp] theorem Q0 (env:Env):sNo env=(none):=id rfl
def aD (f g:Env->Option Out) (env:Env):Option Out:=(f env).bind λo=>match o with | .nx e=>g e | o=>some o
@[simp] theorem Qs (f g:Env->Option Out) (env:Env):aD f g env=((f env).bind λo=>match o with | .nx e=>g e | o=>some o):=id rfl
def aJ (i:Nat) (f:Env->Option PV) (env:Env):Option Out:=(f env).bind λp=>some (.nx (env.set i (some p)))
@[simp] theorem G7 (i:Nat) (f:Env->Option PV) (env:Env):aJ i f env=((f env).bind λp=>some (.nx (env.set i (some p)))):=id rfl
def bD (f:Env->Option PV) (env:Env):Option Out:=(f env).bind λp=>some (.rt p)
@[simp] theorem G8 (f:Env->Option PV) (env:Env):bD f env=((f env).bind λp=>some (.rt p)):=id rfl
def sIf (c:Env->Option Bool) (f g:Env->Option Out) (env:Env):Option Out:=(c env).bind λk=>if k=true then f env else g env
@[simp] theorem Q3 (c:Env->Option Bool) (f g:Env->Option Out) (env:Env):sIf c f g env=((c env).bind λk=>if k=true then f env else g env):=id rfl
def Nm (f:Env->Option PV) (env:Env):Option Out:=(f env).bind λ_=>some (.nx env)
@[simp] theorem Pr (f:Env->Option PV) (env:Env):Nm f env=((f env).bind λ_=>some (.nx env)):=id rfl
def cP (g:PV->PV->Option PV) (i:Nat) (f:Env->Option PV) (env:Env):Option Out:=(bV i env).bind λx=>(f env).bind λp=>(g x p).bind λy=>some (.nx (env.set i (some y)))
@[simp] theorem Pu (g:PV->PV->Option PV) (i:Nat) (f:Env->Option PV) (env:Env):cP g i f env=((bV i env).bind λx=>(f env).bind λp=>(g x p).bind λy=>some (.nx (env.set i (some y)))):=id rfl
def Np (g:PV->Option PV) (i:Nat) (env:Env):Option Out:=(bV i env).bind λx=>(g x).bind λy=>some (.nx (env.set i (some y)))
@[simp] theorem Px (g:PV->Option PV) (i:Nat) (env:Env):Np g i env=((bV i env).bind λx=>(g x).bind λy=>some (.nx (env.set i (some y)))):=id rfl
def mX (g:PV->PV->PV->Option PV) (i:Nat) (f h:Env->Option PV) (env:Env):Option Out:=(bV i env).bind λx=>(f env).bind λp=>(h env).bind λq=>(g x p q).bind λy=>some (.nx (env.set i (some y)))
@[simp] theorem Py (g:PV->PV->PV->Option PV) (i:Nat) (f h:Env->Option PV) (env:Env):mX g i f h env=((bV i env).bind λx=>(f env).bind λp=>(h env).bind λq=>(g x p q).bind λy=>some (.nx (env.set i (some y)))):=id rfl
@[simp] def fY:PV->PV->Option PV
 | .lst xs,p=>if xs.length < 1000000 then some (.lst (xs++[p])) else none
 | _,_=>none
@[simp] def Q4:PV->Option PV
 | .lst _=>some (.lst [])
 | _=>none
@[simp] def RV:PV->Option PV
 | .lst xs=>some (.lst xs.reverse)
 | _=>none
def lB {κ:Type} [DecidableEq κ] (kvs:List (κ×PV)) (k:κ) (v:PV):List (κ×PV):=
 if (kvs.any λkv=>decide (kv.1=k))=true then kvs.map (λkv=>if kv.1=k then (kv.1,v) else kv) else kvs++[(k,v)]
@[simp] def lC:PV->PV->PV->Option PV
 | .dK kvs,k,v=>(keyOf k).bind λk=>if kvs.length < 1000000 then some (.dK (lB kvs k v)) else none
 | .dT kvs,.tup ks,v=>(keysB ks).bind λk=>if kvs.length < 1000000 then some (.dT (lB kvs k v)) else none
 | .lst xs,.int i,v=>(ixN xs.length i).map λj=>.lst (xs.set j v)
 | _,_,_=>none
def pF (f:Str) (v:PV):List (Str×PV)->List (Str×PV)
 | []=>[(f,v)]
 | (g,x)::r=>if g=f then (g,v)::r else (g,x)::pF f v r
@[simp] def fsV (c:Nat) (x:Str):PV->PV->Option PV
 | .obj c' fs,v=>if c'=c/\fs.length < 1000 then some (.obj c' (pF x v fs)) else none
 | _,_=>none
section
variable {X:Cx}{b:BX}{G G' G1 L:List Nat}{ro:Bool}{st:Stmt}{rest:List Stmt}{f g:Env->Option Out}{e e1 e2:Expr}{h h1 h2:Env->Option PV}{m m1 m2:Md}{pos:Pos}
theorem eF:SSs X b G G L ro [] sNx:=PSs.imp wV λD σ H ⟨Ow,env,o,E,hf,k⟩=>by cases hf;exact k Ow σ H E (Ex.refl _ _)
theorem aB (a:SS X b G G1 L ro st f) (c:SSs X b G1 G' L ro rest g):SSs X b G G' L ro (st::rest) (aD f g):=PSs.imp (fK a c) λD σ H ⟨Ow,env,o,E,hf,k⟩=>by
 unfold aD at hf
 cases q:f env with
 | none=>rw[q] at hf;cases hf
 | some o1=>
  rw[q] at hf
  refine⟨Ow,env,o1,E,q,?_⟩
  cases o1 with
  | nx e'=>exact λOw' σ' H' E' x=>⟨Ow',e',o,E',hf,k.ex x⟩
  | bk e'=>cases hf;exact k
  | ct e'=>cases hf;exact k
  | rt p=>cases hf;exact k
theorem aG (a:SS X b G G' L ro st f):SSs X b G G' L ro [st] f:=lQ a
theorem gR (c:SSs X b G1 G' L ro rest g) (hs:∀ j,j∈G1->j∈G:=by decide):SSs X b G G' L ro rest g:=PSs.imp c λD σ H ⟨Ow,env,o,E,hf,k⟩=>by
 obtain⟨Ow',E',x⟩:=E.weak hs
 exact⟨Ow',env,o,E',hf,k.ex x⟩
theorem ao {α β:Type}{x:Option α}{k:α->Option β}{y:β}(h:x.bind k=some y):∃ a,x=some a/\k a=some y:=by
 cases x with
 | none=>cases h
 | some a=>exact⟨a,rfl,h⟩
theorem Kz {i:Nat}{D:Ends}{σ:St}{H:Hp}(hi:i∉G) (hx:b.fx i=none) (q:tS b G G L ro (aJ i h) D σ H):tM b G .val h σ H λv H1=>D.nx (σ.set i (some v)) H1:=by
 obtain⟨Ow,env,o,E,hf,k⟩:=q
 obtain⟨p,hp,e⟩:=ao hf
 cases e
 exact⟨Ow,env,p,E,hp,λv H' s r=>k Ow _ H' ((E.up s).set hi r hx) (.of_same s)⟩
theorem Fl {i:Nat}{D:Ends}{σ:St}{H:Hp}(hG:∀ j,j∈G'↔(j∈G\/j=i)) (hx:b.fx i=none) (q:tS b G G' L ro (aJ i h) D σ H):tM b G .own h σ H λv H1=>D.nx (σ.set i (some v)) H1:=by
 obtain⟨Ow,env,o,E,hf,k⟩:=q
 obtain⟨p,hp,e⟩:=ao hf
 cases e
 refine⟨Ow,env,p,E,hp,λv H' s ⟨a,ev,hn,t⟩=>?_⟩
 subst ev
 obtain⟨E',x⟩:=(E.up s).setO hG s hn E t hx
 exact k _ _ H' E' x
theorem bx (i:Nat){x:Str}{pos':Pos}(nd:X.N.Nodup) (he:SE X b G .val e h) (hG:i∉G:=by decide) (hx:b.fx i=none:=by first | rfl | assumption) (hi:X.N[i]?=some x:=by rfl) (hl:Loc X.env.scope x:=by first | exact Or.inl rfl | exact Or.inr rfl)
  (hs:swapsWith e (some (.Name x pos')) pos.line X.env=pure false:=by rfl) (hf:X.fn x=true\/X.env.scope.names.lookup x=some .local:=by first | exact .inl rfl | exact .inr rfl | assumption):SS X b G G L ro (.Assign [.Name x pos'] e pos) (aJ i h):=
 PS.imp (jF nd hi hl he hs hf) λD σ H q=>Kz hG hx q
theorem eG (i:Nat){x:Str}{pos':Pos}(nd:X.N.Nodup) (he:SE X b G .own e h) (hG:i∈G:=by decide) (hx:b.fx i=none:=by first | rfl | assumption) (hi:X.N[i]?=some x:=by rfl) (hl:Loc X.env.scope x:=by first | exact Or.inl rfl | exact Or.inr rfl)
  (hs:swapsWith e (some (.Name x pos')) pos.line X.env=pure false:=by rfl) (hf:X.fn x=true\/X.env.scope.names.lookup x=some .local:=by first | exact .inl rfl | exact .inr rfl | assumption):SS X b G G L ro (.Assign [.Name x pos'] e pos) (aJ i h):=
 PS.imp (jF nd hi hl he hs hf) λD σ H q=>Fl (λj=>⟨.inl,λz=>z.elim id λy=>y▸hG⟩) hx q
theorem bB (he:SE X b G .val e h):SS X b G G' L false (.Return (some e) pos) (bD h):=PS.imp (zr he) λD σ H ⟨Ow,env,o,E,hf,k⟩=>by
 obtain⟨p,hp,z1⟩:=ao hf
 clear hf
 cases z1
 exact⟨Ow,env,p,E,hp,λv H' s r=>k v H' (E.same.trans s) (Rep.ex (bF λc o _ q=>q.2) r)⟩
theorem gW {c:Expr}{k:Env->Option Bool}{sa sb:List Stmt}(hc:ST X b G c k) (ha:SSs X b G G' L ro sa f) (hb:SSs X b G G' L ro sb g):SS X b G G' L ro (.If c sa sb pos) (sIf k f g):=PS.imp (Et hc ha hb) λD σ H ⟨Ow,env,o,E,hf,kk⟩=>by
 obtain⟨p,hp,z1⟩:=ao hf
 clear hf
 refine⟨Ow,env,p,E,hp,λH' s=>?_⟩
 cases p with
 | true=>exact Cw ⟨Ow,env,o,E.up s,z1,kk.ex (.of_same s)⟩
 | false=>exact Cv ⟨Ow,env,o,E.up s,z1,kk.ex (.of_same s)⟩
theorem g8 (i:Nat){x:Str}{p1 apos cpos:Pos}(he:SE X b G .val e h) (hi:i∈G:=by decide) (hN:X.N[i]?=some x:=by rfl) (hv:Vis X.env.scope x:=by first | exact Or.inl rfl | exact Or.inr (Or.inl rfl) | exact Or.inr (Or.inr rfl)) (hd:(x == ("__debug__" : Str))=false:=by decide)
  (hcd:(x == ("__classdict__" : Str))=false:=by decide) (hbase:attributeBase (.Name x p1) "append" X.env (eval (.Name x p1) X.env)=eval (.Name x p1) X.env:=by rfl)
  (hfew:((backTo cpos (starEach [e] X.env)).all (λx=>!x.1)&&(backToKw cpos (keywordEach [] X.env)).all (λx=>x.1.isSome)
   && decide ([e].length+([]:List Keyword).length+(if ([]:List Keyword).isEmpty then 0 else 1) < 30))=true:=by rfl)
  (hline:(apos.endLine == cpos.line)=true:=by rfl) (hs:starEach [e] X.env=(false,eval e X.env)::starEach [] X.env:=by rfl):
  SS X b G G L ro (.Expr (.Call (.Attribute (.Name x p1) "append" apos) [e] [] cpos) pos) (cP fY i h):=
 PS.imp (lR (ql PySem.F.plainAttrs_list PySem.F.slot_list_append PySem.F.type_list_append jg (dN hN hv hd hcd) (bU he cT hs) hbase hfew hline hs rfl)) λD σ H ⟨Ow,env,o,E,hf,k⟩=>by
  obtain⟨px,hpx,z1⟩:=ao hf
  clear hf
  obtain⟨p,hp,z2⟩:=ao z1
  clear z1
  obtain⟨y,hy,z3⟩:=ao z2
  clear z2
  cases z3
  obtain⟨a,ea,w,t⟩:=E.own i px (cJ hpx) hi
  cases px <;> simp only[fY] at hy <;> first | cases hy | skip
  rename_i xs
  split at hy
  ·rename_i hl
   cases hy
   obtain⟨vs,ha,ra⟩:=id t
   refine⟨_,ea,.inl ⟨rfl,_,SqL.of ha⟩,Ow,env,p,E,hp,λv H' s r=>?_⟩
   refine⟨a,vs,v,rfl,rfl,s _ _ ha,gG (by rw[ra.length];omega),?_⟩
   have ra':Reps b.C (Bs b Ow) (upd H' a (.lst (vs++[v]))) (vs++[v]) (xs++[p]):=by
    refine(ra.ex (.of_same s)).append (.cons r .nil) |>.ex λc o h=>⟨λq=>⟨by rw[aH (λz:c=a=>q.1 (z▸w))];exact h,q⟩,λm=>?_⟩
    have hc:c≠a:=λz=>by subst z;rw[s _ _ ha] at h;cases h;cases m
    rw[aH hc];exact h
   obtain⟨E',x⟩:=(E.up s).write hi ea (cJ hpx) w (t.ex (.of_same s) λo z=>s _ _ z) (o':=.lst (vs++[v])) (p':=.lst (xs++[p])) ⟨_,aP,ra'⟩
   exact k Ow σ _ E' ((Ex.of_same s).trans x)
  ·cases hy
theorem RepK.put {C:MC}{A:Addr->Prop}{H:Hp}{k:Key}{v:V}{p:PV}(r:Rep C A H v p){kv:List (Key×V)}{kvs:List (Key×PV)}(t:RepK C A H kv kvs):RepK C A H (putK kv k v) (lB kvs k p):=by
 have hany:∀ {kv:List (Key×V)}{kvs:List (Key×PV)},RepK C A H kv kvs->(kv.any λx=>decide (x.1=k))=(kvs.any λx=>decide (x.1=k)):=by
  intro kv kvs t
  induction kv generalizing kvs with
  | nil=>cases t;rfl
  | cons x l ih=>cases t with | cons h t=>rw[List.any_cons,List.any_cons,ih t]
 have hmap:∀ {kv:List (Key×V)}{kvs:List (Key×PV)},RepK C A H kv kvs->RepK C A H (kv.map λx=>if x.1=k then (x.1,v) else x) (kvs.map λx=>if x.1=k then (x.1,p) else x):=by
  intro kv kvs t
  induction kv generalizing kvs with
  | nil=>cases t;exact .nil
  | cons x l ih=>
   cases t with
   | cons h t=>
    rw[List.map_cons,List.map_cons]
    rename_i k' v' p' ps'
    by_cases e:k'=k
    ·simp only[e,if_true];exact .cons r (ih t)
    ·simp only[e,if_false];exact .cons h (ih t)
 have happ:∀ {kv:List (Key×V)}{kvs:List (Key×PV)},RepK C A H kv kvs->RepK C A H (kv++[(k,v)]) (kvs++[(k,p)]):=by
  intro kv kvs t
  induction kv generalizing kvs with
  | nil=>cases t;exact .cons r .nil
  | cons x l ih=>cases t with | cons h t=>exact .cons h (ih t)
 unfold putK lB
 rw[hany t]
 split
 ·exact hmap t
 ·exact happ t
theorem RepT.put {C:MC}{A:Addr->Prop}{H:Hp}{k:List Key}{v:V}{p:PV}(r:Rep C A H v p){kv:List (List Key×V)}{kvs:List (List Key×PV)}(t:RepT C A H kv kvs):RepT C A H (putK kv k v) (lB kvs k p):=by
 have hany:∀ {kv:List (List Key×V)}{kvs:List (List Key×PV)},RepT C A H kv kvs->(kv.any λx=>decide (x.1=k))=(kvs.any λx=>decide (x.1=k)):=by
  intro kv kvs t
  induction kv generalizing kvs with
  | nil=>cases t;rfl
  | cons x l ih=>cases t with | cons h t=>rw[List.any_cons,List.any_cons,ih t]
 have hmap:∀ {kv:List (List Key×V)}{kvs:List (List Key×PV)},RepT C A H kv kvs->RepT C A H (kv.map λx=>if x.1=k then (x.1,v) else x) (kvs.map λx=>if x.1=k then (x.1,p) else x):=by
  intro kv kvs t
  induction kv generalizing kvs with
  | nil=>cases t;exact .nil
  | cons x l ih=>
   cases t with
   | cons h t=>
    rw[List.map_cons,List.map_cons]
    rename_i k' v' p' ps'
    by_cases e:k'=k
    ·simp only[e,if_true];exact .cons r (ih t)
    ·simp only[e,if_false];exact .cons h (ih t)
 have happ:∀ {kv:List (List Key×V)}{kvs:List (List Key×PV)},RepT C A H kv kvs->RepT C A H (kv++[(k,v)]) (kvs++[(k,p)]):=by
  intro kv kvs t
  induction kv generalizing kvs with
  | nil=>cases t;exact .cons r .nil
  | cons x l ih=>cases t with | cons h t=>exact .cons h (ih t)
 unfold putK lB
 rw[hany t]
 split
 ·exact hmap t
 ·exact happ t
theorem RepT.length {C:MC}{A:Addr->Prop}{H:Hp}:∀ {vs:List (List Key×V)}{ps:List (List Key×PV)},RepT C A H vs ps->vs.length=ps.length
 | _,_,.nil=>rfl
 | _,_,.cons _ t=>by simp[RepT.length t]
theorem RepF.length {C:MC}{A:Addr->Prop}{H:Hp}:∀ {vs:List (Str×V)}{ps:List (Str×PV)},RepF C A H vs ps->vs.length=ps.length
 | _,_,.nil=>rfl
 | _,_,.cons _ t=>by simp[RepF.length t]
theorem RepF.put {C:MC}{A:Addr->Prop}{H:Hp}{k:Str}{v:V}{p:PV}(r:Rep C A H v p):∀ {kv:List (Str×V)}{kvs:List (Str×PV)},RepF C A H kv kvs->RepF C A H (Ci k v kv) (pF k p kvs)
 | _,_,.nil=>.cons r .nil
 | _,_,.cons (k:=k') h t=>by
  unfold Ci pF
  split
  ·exact .cons r t
  ·exact .cons h (RepF.put r t)
theorem mY {Ow:Addr->Prop}{H:Hp}{a:Addr}{o o':HO}(w:Ow a) (ha:H a=some o) (hm:yx o=true):Ex (Bs b Ow) H (Bs b Ow) (upd H a o'):=λc u h=>⟨λq=>⟨by rw[aH (λz:c=a=>q.1 (z▸w))];exact h,q⟩,λm=>by
 have hc:c≠a:=λz=>by subst z;rw[ha] at h;cases h;rw[hm] at m;cases m
 rw[aH hc];exact h⟩
theorem ur (i:Nat){x:Str}{p1 p2:Pos}{j:Nat}(hr:Room j X.A) (hk:SE X b G .val e1 h1) (hv':SE X b G .val e2 h2) (hi:i∈G:=by decide) (hN:X.N[i]?=some x:=by rfl) (hv:Vis X.env.scope x:=by first | exact Or.inl rfl | exact Or.inr (Or.inl rfl) | exact Or.inr (Or.inr rfl)) (hd:(x == ("__debug__" : Str))=false:=by decide)
  (hcd:(x == ("__classdict__" : Str))=false:=by decide) (hs:swapsWith e2 (some (.Subscript (.Name x p1) e1 p2)) pos.line X.env=pure false:=by rfl) (hs2:swapsWithSole [.Subscript (.Name x p1) e1 p2] e2 pos.line X.env=pure false:=by rfl) (hw:swappedStores [.Subscript (.Name x p1) e1 p2] e2 X.env=pure none:=by rfl)
  (ha1:(assignEach [.Subscript (.Name x p1) e1 p2] X.env).map (·.2)=[assign (.Subscript (.Name x p1) e1 p2) X.env]:=by rfl)
  (ha:∀ v,assign (.Subscript (.Name x p1) e1 p2) X.env v=(do
   let ov ← holding [v] (eval (.Name x p1) X.env)
   let iv ← holding [v,ov] (eval e1 X.env)
   standAt p2
   holding [v,ov,iv] (setItem ov iv v)
   release [v,ov,iv] []):=by intro _;rfl):SS X b G G L ro (.Assign [.Subscript (.Name x p1) e1 p2] e2 pos) (mX lC i h1 h2):=by
 refine PS.imp (PS.or (Gr (mL hr) (dN hN hv hd hcd) hk hv' hs) (uH hv' (zx (dN hN hv hd hcd) hk set_list ha) hs2 hw ha1)) λD σ H ⟨Ow,env,o,E,hf,k⟩=>?_
 obtain⟨px,hpx,z1⟩:=ao hf
 clear hf
 obtain⟨pk,hpk,z2⟩:=ao z1
 clear z1
 obtain⟨pv,hpv,z3⟩:=ao z2
 clear z2
 obtain⟨y,hy,z4⟩:=ao z3
 clear z3
 cases z4
 obtain⟨a,ea,w,t⟩:=E.own i px (cJ hpx) hi
 have fin:∀ {H2:Hp}{o':HO},Same H H2->Top b.C (Bs b Ow) (upd H2 a o') a y->D.nx σ (upd H2 a o'):=λ{H2 o'} s t'=>by
  obtain⟨E',x⟩:=(E.up s).write hi ea (cJ hpx) w (t.ex (.of_same s) λo z=>s _ _ z) t'
  exact k Ow σ _ E' ((Ex.of_same s).trans x)
 unfold lC at hy
 split at hy
 ·obtain⟨ky,hky,hy⟩:=ao hy
  split at hy
  ·rename_i hl
   cases hy
   obtain⟨kv,ha,ra⟩:=id t
   refine .inl ⟨Ow,env,pv,E,hpv,λv H1 s1 r1=>⟨_,ea,Ow,env,pk,E.up s1,hpk,λu H2 s2 r2=>?_⟩⟩
   have s:=s1.trans s2
   have eu:=RepB.key (.inl r2) hky
   subst eu
   refine⟨a,_,rfl,DPut.k (s _ _ ha) (gG (by rw[ra.length];omega)),fin s ⟨_,aP,?_⟩⟩
   exact(RepK.put (k:=ky) (Rep.ex (.of_same s2) r1) (ra.ex (.of_same s))).ex (mY w (s _ _ ha) rfl)
  ·cases hy
 ·obtain⟨ky,hky,hy⟩:=ao hy
  split at hy
  ·rename_i hl
   cases hy
   obtain⟨kv,ha,ra⟩:=id t
   refine .inl ⟨Ow,env,pv,E,hpv,λv H1 s1 r1=>⟨_,ea,Ow,env,_,E.up s1,hpk,λu H2 s2 r2=>?_⟩⟩
   have s:=s1.trans s2
   obtain⟨c,us,rfl,hc,rc⟩:=RepB.tup (.inl r2)
   refine⟨a,_,rfl,DPut.t (s _ _ ha) ⟨_,hc,rc.keysB hky⟩ (gG (by rw[ra.length];omega)),fin s ⟨_,aP,?_⟩⟩
   exact(RepT.put (k:=ky) (Rep.ex (.of_same s2) r1) (ra.ex (.of_same s))).ex (mY w (s _ _ ha) rfl)
  ·cases hy
 ·rename_i xs n
  cases q:ixN xs.length n with
  | none=>rw[q] at hy;cases hy
  | some jj=>
   rw[q] at hy
   cases hy
   obtain⟨vs,ha,ra⟩:=id t
   refine .inr ⟨Ow,env,pv,E,hpv,λv H1 s1 r1=>⟨_,ea,Ow,env,_,E.up s1,hpk,λu H2 s2 r2=>?_⟩⟩
   have s:=s1.trans s2
   have eu:=RepB.int (.inl r2)
   subst eu
   refine⟨a,vs,n,jj,rfl,rfl,s _ _ ha,by rw[ra.length];exact q,fin s ⟨_,aP,?_⟩⟩
   exact(Reps.set (Rep.ex (.of_same s2) r1) jj (ra.ex (.of_same s))).ex (mY w (s _ _ ha) rfl)
 ·cases hy
def IW (b:BX) (Ow:Addr->Prop) (fr:Bool) (H1:Hp) (J:It) (ps:List PV):Prop:=∀ Ow' H,(fr=false->Same H1 H)->Ex (Bs b Ow) H1 (Bs b Ow') H->(∀ a,H a=none->Bs b Ow' a)->
 (∀ i p,ps[i]?=some p->J.go i H/\∀ x H',J.yld i H x H'->Same H H'/\Rep b.C (Bs b Ow') H' x p)/\J.stop ps.length H
def tMI (b:BX) (G:List Nat) (fr:Bool) (g:Env->Option (List PV)):TI:=fun σ H R=>∃ Ow env ps,ER b Ow G σ env H/\g env=some ps/\∀ J H1,Same H H1->IW b Ow fr H1 J ps->R J H1
abbrev SI (X:Cx) (b:BX) (G:List Nat) (fr:Bool) (tg it:Expr) (g:Env->Option (List PV)):Prop:=PI X tg it (tMI b G fr g)
theorem PI.imp {tg it:Expr}{t u:TI}(h:PI X tg it t) (i:∀ σ H R,u σ H R->t σ H R):PI X tg it u:=λpins s σ H R I q=>h pins s σ H R I (i σ H R q)
theorem PI.or {tg it:Expr}{t u:TI}(h:PI X tg it t) (h':PI X tg it u):PI X tg it (fun σ H R=>t σ H R\/u σ H R):=λpins s σ H R I q=>q.elim (h pins s σ H R I) (h' pins s σ H R I)
def chV (x:Str):List PV:=x.cps.toList.map λc=>.str ⟨#[c]⟩
@[simp] def itV:PV->Option (List PV)
 | .lst xs=>some xs
 | .frz xs=>some xs
 | .tup xs=>some xs
 | .ktp xs=>some xs
 | .str x=>some (chV x)
 | _=>none
def iV (f:Env->Option PV) (env:Env):Option (List PV):=(f env).bind itV
@[simp] theorem Rx (f:Env->Option PV) (env:Env):iV f env=((f env).bind itV):=id rfl
theorem rH {Ow:Addr->Prop}{fr:Bool}{H1:Hp}{a:Addr}{vs:List V}{xs:List PV}(hq:∀ Ow' H,(fr=false->Same H1 H)->Ex (Bs b Ow) H1 (Bs b Ow') H->SqL b.C.K H a vs/\Reps b.C (Bs b Ow') H vs xs):IW b Ow fr H1 (Itl b.C.K a) xs:=by
 intro Ow' H h0 h1 hn
 obtain⟨q,r⟩:=hq Ow' H h0 h1
 refine⟨λi p hp=>?_,⟨vs,q,by rw[r.length];exact Nat.le_refl _⟩⟩
 obtain⟨v,hv,rv⟩:=r.get hp
 refine⟨⟨vs,v,q,hv⟩,λx H' y=>?_⟩
 obtain⟨e,y⟩:=y
 subst e
 have e2:=y vs q
 rw[hv] at e2
 cases e2
 exact⟨Same.refl _,rv⟩
theorem Al {Ow:Addr->Prop}{fr:Bool}{H1:Hp}{a:Addr}{vs:List V}{xs:List PV}(hq:∀ Ow' H,(fr=false->Same H1 H)->Ex (Bs b Ow) H1 (Bs b Ow') H->SqT b.C.K H a vs/\Reps b.C (Bs b Ow') H vs xs):IW b Ow fr H1 (Itt b.C.K a) xs:=by
 intro Ow' H h0 h1 hn
 obtain⟨q,r⟩:=hq Ow' H h0 h1
 refine⟨λi p hp=>?_,⟨vs,q,by rw[r.length];exact Nat.le_refl _⟩⟩
 obtain⟨v,hv,rv⟩:=r.get hp
 refine⟨⟨vs,v,q,hv⟩,λx H' y=>?_⟩
 obtain⟨e,y⟩:=y
 subst e
 have e2:=y vs q
 rw[hv] at e2
 cases e2
 exact⟨Same.refl _,rv⟩
theorem KC {Ow:Addr->Prop}{fr:Bool}{H1:Hp}{x:Str}:IW b Ow fr H1 (Its x) (chV x):=by
 intro Ow' H h0 h1 hn
 refine⟨λi p hp=>?_,by show (chV x).length=x.cps.size;unfold chV;rw[List.length_map,Array.length_toList]⟩
 unfold chV at hp
 rw[List.getElem?_map] at hp
 cases q:x.cps.toList[i]? with
 | none=>rw[q] at hp;cases hp
 | some c=>
  rw[q] at hp
  cases hp
  have hc:x.cps[i]?=some c:=by rw[← Array.getElem?_toList];exact q
  refine⟨(Array.getElem?_eq_some_iff.mp hc).1,λv H' y=>?_⟩
  obtain⟨e,c',h',ev⟩:=y
  subst e
  rw[hc] at h'
  cases h'
  subst ev
  exact⟨Same.refl _,.str _⟩
theorem fB {tg:Expr}{fr:Bool}(he:SE X b G m e h) (hm:fr=true->m≠.bor) (hK:X.K=b.C.K:=by rfl):SI X b G fr tg e (iV h):=by
 have hPI:=PI.or (tg:=tg) (PI.or (Gf he) (Ji he)) (JN he)
 refine PI.imp hPI fun σ H R ⟨Ow,env,ps,E,hg,k⟩=>?_
 rw[hK]
 obtain⟨p,hp,hps⟩:=ao hg
 have keep:∀ {H1 Ow' H2}{v:V},Same H H1->Res b Ow H H1 m v p->(fr=false->Same H1 H2)->Ex (Bs b Ow) H1 (Bs b Ow') H2->RepB b.C (Bs b Ow') H2 v p:=λ{H1 Ow' H2 v} s r h0 h1=>by
  cases fr with
  | false=>exact RepB.ex h1 (h0 rfl) r.bor
  | true=>exact .inl (Rep.ex h1 (r.val E (hm rfl)))
 unfold itV at hps
 split at hps
 ·cases hps
  refine .inl (.inl ⟨Ow,env,_,E,hp,λv H1 s r=>?_⟩)
  have r1:RepB b.C (Bs b Ow) H1 v (.lst _):=r.bor
  obtain⟨a,vs,rfl,ha,ra⟩:=r1.lst
  refine⟨a,rfl,⟨vs,SqL.of ha⟩,k _ _ s (rH (vs:=vs) λOw' H2 h0 h1=>?_)⟩
  obtain⟨a',vs',e',ha',ra'⟩:=(keep s r h0 h1).lst
  cases e'
  have:H2 a=some (.lst vs):=by
   cases fr with
   | false=>exact h0 rfl _ _ ha
   | true=>
    have rv:Rep b.C (Bs b Ow) H1 (.ref a) (.lst _):=r.val E (hm rfl)
    cases rv with
    | lst q1 q2 q3=>rw[ha] at q1;cases q1;exact((h1 _ _ ha).1 q2).1
  rw[ha'] at this
  cases this
  exact⟨SqL.of ha',ra'⟩
 ·cases hps
  refine .inl (.inl ⟨Ow,env,_,E,hp,λv H1 s r=>?_⟩)
  have r1:Rep b.C (Bs b Ow) H1 v (.frz _):=(by rcases r.bor with z | ⟨_,_,z⟩;exact z;exact z.elim)
  cases r1 with
  | lstF q1 q3=>exact⟨_,rfl,⟨_,.inl (.inr ⟨_,q1⟩)⟩,k _ _ s (rH λOw' H2 h0 h1=>⟨.inl (.inr ⟨_,(h1 _ _ q1).2 rfl⟩),q3.ex h1⟩)⟩
  | lstK q1 q3=>exact⟨_,rfl,⟨_,sqK q1⟩,k _ _ s (rH λOw' H2 h0 h1=>⟨sqK q1,q3.ex h1⟩)⟩
 ·cases hps
  refine .inl (.inr ⟨Ow,env,_,E,hp,λv H1 s r=>?_⟩)
  have r1:RepB b.C (Bs b Ow) H1 v (.tup _):=r.bor
  obtain⟨a,vs,rfl,ha,ra⟩:=r1.tup
  exact⟨a,rfl,⟨vs,SqT.of ha⟩,k _ _ s (Al (vs:=vs) λOw' H2 h0 h1=>⟨SqT.of ((h1 _ _ ha).2 rfl),ra.ex h1⟩)⟩
 ·cases hps
  refine .inl (.inr ⟨Ow,env,_,E,hp,λv H1 s r=>?_⟩)
  have r1:RepB b.C (Bs b Ow) H1 v (.ktp _):=r.bor
  rcases r1 with r1 | ⟨_,_,t⟩
  ·cases r1 with
   | tupK q1 q3=>exact⟨_,rfl,⟨_,pM q1⟩,k _ _ s (Al λOw' H2 h0 h1=>⟨pM q1,q3.ex h1⟩)⟩
  ·exact t.elim
 ·cases hps
  refine .inr ⟨Ow,env,_,E,hp,λv H1 s r=>?_⟩
  have r1:RepB b.C (Bs b Ow) H1 v (.str _):=r.bor
  exact⟨_,r1.str,k _ _ s KC⟩
 ·cases hps
noncomputable def rgI (i:Int):Bool:=@decide (-4611686018427387904<=i/\i < 4611686018427387904) (Classical.propDecidable _)
theorem fC {i:Int}(h:-4611686018427387904<=i) (h':i < 4611686018427387904):rgI i=true:=@decide_eq_true _ (Classical.propDecidable _) ⟨h,h'⟩
theorem lZ {i:Int}(h:rgI i=true):-(2 ^ 62)<=i/\i < 2 ^ 62:=by
 simp only[rgI,decide_eq_true_eq] at h
 exact h
def cg (lo hi:Int):List PV:=(List.range (hi - lo).toNat).map λi=>.int (lo+(i:Nat))
noncomputable def iR1 (f:Env->Option PV) (env:Env):Option (List PV):=(f env).bind λp=>match p with
 | .int j=>if rgI j=true then some (cg 0 j) else none
 | _=>none
@[simp] theorem KD (f:Env->Option PV) (env:Env):iR1 f env=((f env).bind λp=>match p with
 | .int j=>if rgI j=true then some (cg 0 j) else none
 | _=>none):=id rfl
noncomputable def iR2 (f g:Env->Option PV) (env:Env):Option (List PV):=(f env).bind λp=>(g env).bind λq=>match p,q with
 | .int i,.int j=>if (rgI i&&rgI j)=true then some (cg i j) else none
 | _,_=>none
@[simp] theorem Q5 (f g:Env->Option PV) (env:Env):iR2 f g env=((f env).bind λp=>(g env).bind λq=>match p,q with
 | .int i,.int j=>if (rgI i&&rgI j)=true then some (cg i j) else none
 | _,_=>none):=id rfl
theorem Am {Ow:Addr->Prop}{fr:Bool}{H1:Hp}{lo hi:Int}:IW b Ow fr H1 (Itr lo (hi - lo).toNat) (cg lo hi):=by
 intro Ow' H h0 h1 hn
 have hl:(cg lo hi).length=(hi - lo).toNat:=by unfold cg;rw[List.length_map,List.length_range]
 refine⟨λi p hp=>?_,by show (hi - lo).toNat<=(cg lo hi).length;rw[hl];exact Nat.le_refl _⟩
 have hi':i < (hi - lo).toNat:=by rw[← hl];exact(List.getElem?_eq_some_iff.mp hp).1
 refine⟨hi',λx H' y=>?_⟩
 obtain⟨e,ex⟩:=y
 subst e ex
 unfold cg at hp
 rw[List.getElem?_map,List.getElem?_range hi'] at hp
 cases hp
 exact⟨Same.refl _,.int _⟩
theorem g_ {tg:Expr}{fr:Bool}{p pos:Pos}(hm:X.mg "range" = none) (he:SE X b G m e h) (hg:Gl X "range" := by rfl) (hs:starEach [e] X.env=[(false,eval e X.env)]:=by rfl) (hs':starEach [e] X.env=(false,eval e X.env)::starEach [] X.env:=by rfl):SI X b G fr tg (.Call (.Name "range" p) [e] [] pos) (iR1 h):=by
 refine PI.imp (zz hg hm (bU he.bor cT hs') hs) fun σ H R ⟨Ow,env,ps,E,hf,k⟩=>?_
 obtain⟨p1,hp,hps⟩:=ao hf
 refine⟨Ow,env,p1,E,hp,λv H1 s r=>?_⟩
 have r1:RepB b.C (Bs b Ow) H1 v p1:=r
 cases p1 <;> simp only at hps <;> first | cases hps | skip
 rename_i j
 split at hps
 ·rename_i hj
  cases hps
  have hw:IW b Ow fr H1 (Itr 0 (j - 0).toNat) (cg 0 j):=Am
  rw[Int.sub_zero] at hw
  exact⟨j,by rw[r1.int],(lZ hj).1,(lZ hj).2,k _ _ s hw⟩
 ·cases hps
theorem Nq {tg:Expr}{fr:Bool}{p pos:Pos}(hm:X.mg "range" = none) (he:SE X b G m1 e1 h1) (he2:SE X b G m2 e2 h2) (hg:Gl X "range" := by rfl) (hs:starEach [e1,e2] X.env=[(false,eval e1 X.env),(false,eval e2 X.env)]:=by rfl) (hs2:starEach [e2] X.env=[(false,eval e2 X.env)]:=by rfl)
  (hs':starEach [e1,e2] X.env=(false,eval e1 X.env)::starEach [e2] X.env:=by rfl) (hs2':starEach [e2] X.env=(false,eval e2 X.env)::starEach [] X.env:=by rfl):SI X b G fr tg (.Call (.Name "range" p) [e1,e2] [] pos) (iR2 h1 h2):=by
 refine PI.imp (zA hg hm (bU he.bor (bU he2.bor cT hs2') hs') hs hs2) fun σ H R ⟨Ow,env,ps,E,hf,k⟩=>?_
 obtain⟨p1,hp,hps1⟩:=ao hf
 clear hf
 obtain⟨p2,hp2,hps⟩:=ao hps1
 clear hps1
 refine⟨Ow,env,p1,E,hp,λv H1 s r=>⟨Ow,env,p2,E.up s,hp2,λv2 H2 s2 r2=>?_⟩⟩
 have r1:RepB b.C (Bs b Ow) H1 v p1:=r
 have r2':RepB b.C (Bs b Ow) H2 v2 p2:=r2
 cases p1 <;> cases p2 <;> simp only at hps <;> first | cases hps | skip
 rename_i i j
 split at hps
 ·rename_i hj
  cases hps
  exact⟨i,j,by rw[r1.int,r2'.int],(by rw[Bool.and_eq_true] at hj;exact⟨(lZ hj.1).1,(lZ hj.1).2,(lZ hj.2).1,(lZ hj.2).2⟩),k _ _ (s.trans s2) Am⟩
 ·cases hps
def eN (n:Nat):List PV->List PV
 | []=>[]
 | x::xs=>.tup [.int (n:Nat),x]::eN (n+1) xs
theorem sX {p:PV}:∀ {xs:List PV}{n i:Nat},(eN n xs)[i]?=some p->∃ x,xs[i]?=some x/\p=.tup [.int ((n+i:Nat):Int),x]
 | [],n,i,e=>by simp[eN] at e
 | x::xs,n,0,e=>by
  simp[eN] at e
  exact⟨x,rfl,by rw[← e];rfl⟩
 | x::xs,n,i+1,e=>by
  simp only[eN,List.getElem?_cons_succ] at e
  obtain⟨y,h1,h2⟩:=sX e
  exact⟨y,by simpa using h1,by rw[h2,Nat.add_right_comm,Nat.add_assoc]⟩
theorem ou:∀ {xs:List PV}{n:Nat},(eN n xs).length=xs.length
 | [],_=>rfl
 | x::xs,n=>by simp[eN,ou (xs:=xs)]
def iE (f:Env->Option PV) (env:Env):Option (List PV):=(f env).bind λp=>match p with
 | .lst xs=>some (eN 0 xs)
 | _=>none
@[simp] theorem Ry (f:Env->Option PV) (env:Env):iE f env=((f env).bind λp=>match p with
 | .lst xs=>some (eN 0 xs)
 | _=>none):=id rfl
end
end MR
namespace MR
open PySem L2
def gN (i:Nat) (p:PV) (env:Env):Option Env:=some (env.set i (some p))
@[simp] theorem Rz (i:Nat) (p:PV) (env:Env):gN i p env=(some (env.set i (some p))):=id rfl
@[simp] def gNs:List Nat->List PV->Env->Option Env
 | [],[],env=>some env
 | i::is,p::ps,env=>gNs is ps (env.set i (some p))
 | _,_,_=>none
def gT (is:List Nat) (p:PV) (env:Env):Option Env:=match p with
 | .tup xs=>gNs is xs env
 | _=>none
@[simp] theorem RB (is:List Nat) (p:PV) (env:Env):gT is p env=(match p with
 | .tup xs=>gNs is xs env
 | _=>none):=id rfl
def tMG (b:BX) (G:List Nat) (g:PV->Env->Option Env):TG:=λv σ H Q=>∃ Ow env p env',ER b Ow G σ env H/\Rep b.C (Bs b Ow) H v p/\g p env=some env'/\∀ σ',ER b Ow G σ' env' H->Q σ' H
def Pz (b:BX) (G:List Nat) (is:List Nat):TGs:=λvs σ H Q=>∃ Ow env ps env',ER b Ow G σ env H/\Reps b.C (Bs b Ow) H vs ps/\gNs is ps env=some env'/\∀ σ',ER b Ow G σ' env' H->Q σ' H
abbrev SG (X:Cx) (b:BX) (G:List Nat) (tg:Expr) (g:PV->Env->Option Env):Prop:=PG X tg (tMG b G g)
abbrev SGs (X:Cx) (b:BX) (G:List Nat) (tgs:List Expr) (is:List Nat):Prop:=PGs X tgs (Pz b G is)
theorem PG.imp {X:Cx}{tg:Expr}{t u:TG}(h:PG X tg t) (i:∀ v σ H Q,u v σ H Q->t v σ H Q):PG X tg u:=λpins s σ H v w Q I r q=>h pins s σ H v w Q I r (i v σ H Q q)
theorem PGs.imp {X:Cx}{tg:List Expr}{t u:TGs}(h:PGs X tg t) (i:∀ v σ H Q,u v σ H Q->t v σ H Q):PGs X tg u:=λpins s σ H v w Q I r q=>h pins s σ H v w Q I r (i v σ H Q q)
section
variable {X:Cx}{b:BX}{G G' L:List Nat}{ro:Bool}{pos:Pos}
theorem dW (i:Nat){x:Str}(nd:X.N.Nodup) (hG:i∉G:=by decide) (hx:b.fx i=none:=by first | rfl | assumption) (hi:X.N[i]?=some x:=by rfl) (hl:Loc X.env.scope x:=by first | exact Or.inl rfl | exact Or.inr rfl)
  (hf:X.fn x=true\/X.env.scope.names.lookup x=some .local:=by first | exact .inl rfl | exact .inr rfl | assumption):SG X b G (.Name x pos) (gN i):=
 PG.imp (qW nd hi hl hf) λv σ H Q ⟨Ow,env,p,env',E,r,e,k⟩=>by cases e;exact k _ (E.set hG r hx)
theorem gJ:SGs X b G [] []:=PGs.imp wW λvs σ H Q ⟨Ow,env,ps,env',E,r,e,k⟩=>by
 cases ps with
 | nil=>cases r;cases e;exact⟨rfl,k σ E⟩
 | cons p ps=>cases e
theorem bM (i:Nat){x:Str}{es:List Expr}{is:List Nat}{p1:Pos}(nd:X.N.Nodup) (h2:SGs X b G es is) (hG:i∉G:=by decide) (hx:b.fx i=none:=by first | rfl | assumption) (hi:X.N[i]?=some x:=by rfl) (hl:Loc X.env.scope x:=by first | exact Or.inl rfl | exact Or.inr rfl)
  (hf:X.fn x=true\/X.env.scope.names.lookup x=some .local:=by first | exact .inl rfl | exact .inr rfl | assumption) (hs:(assignEach (.Name x p1::es) X.env).map (·.2)=assign (.Name x p1) X.env::(assignEach es X.env).map (·.2):=by rfl):SGs X b G (.Name x p1::es) (i::is):=
 PGs.imp (pI (qW nd hi hl hf) h2 hs) λvs σ H Q ⟨Ow,env,ps,env',E,r,e,k⟩=>by
  cases ps with
  | nil=>cases e
  | cons p ps=>
   cases r with
   | cons r1 r2=>exact⟨_,_,rfl,Ow,env.set i (some p),ps,env',E.set hG r1 hx,r2,e,k⟩
theorem o8:∀ {is:List Nat}{ps:List PV}{env env':Env},gNs is ps env=some env'->ps.length=is.length
 | [],[],_,_,_=>rfl
 | i::is,p::ps,env,env',e=>by simp[o8 (is:=is) (ps:=ps) e]
 | [],_::_,_,_,e=>by cases e
 | _::_,[],_,_,e=>by cases e
theorem oA {es:List Expr}{k:Nat}{is:List Nat}(h:SGs X b G es is) (hc:X.calm=true:=by rfl) (hn:(assignEach es X.env).length=is.length:=by rfl) (hst:(assignEach es X.env).findIdx? (·.1)=none:=by rfl) (hK:X.K=b.C.K:=by rfl):SG X b G (.Tuple es k pos) (gT is):=
 PG.imp (zu hc h hn hst) λv σ H Q ⟨Ow,env,p,env',E,r,e,k⟩=>by
  cases p <;> simp only[gT] at e <;> first | cases e | skip
  rename_i xs
  obtain⟨a,vs,rfl,ha,ra⟩:=RepB.tup (.inl r)
  rw[hK]
  exact⟨a,vs,rfl,SqT.of ha,by rw[ra.length];exact o8 e,Ow,env,xs,env',E,ra,e,k⟩
def bK (g:PV->Env->Option Env) (ds:List Nat) (body:Env->Option Out):List PV->Env->Option Out
 | [],env=>some (.nx env)
 | x::xs,env=>(g x env).bind λe1=>(body e1).bind λo=>match o with
  | .nx e=>bK g ds body xs (clr ds e)
  | .ct e=>bK g ds body xs (clr ds e)
  | .bk e=>some (.nx (clr ds e))
  | .rt p=>some (.rt p)
def bY (g:PV->Env->Option Env) (src:Env->Option (List PV)) (ds:List Nat) (body:Env->Option Out) (env:Env):Option Out:=(src env).bind λxs=>bK g ds body xs (clr ds env)
@[simp] theorem Qt (g:PV->Env->Option Env) (src:Env->Option (List PV)) (ds:List Nat) (body:Env->Option Out) (env:Env):bY g src ds body env=((src env).bind λxs=>bK g ds body xs (clr ds env)):=id rfl
theorem bZ {tg it:Expr}{body:List Stmt}{g:PV->Env->Option Env}{src:Env->Option (List PV)}{f:Env->Option Out}(ds:List Nat) (hi:SI X b G true tg it src) (hg:SG X b G tg g) (hb:SSs X b G G G ro body f) (hp:PassesOwn (model X.prog X.w) X.A X.env X.xe) (hc:X.calm=true:=by rfl)
  (hs:∀ x,foldedSetIterable it X.env x=pure x:=by intro _;rfl):SS X b G G L ro (.For tg it body [] pos) (bY g src ds f):=by
 refine PS.imp (zE hp hc hi hg hb hs) λD σ H ⟨Ow,env,out,E,hf,k⟩=>?_
 obtain⟨ps,hps,hl⟩:=ao hf
 refine⟨Ow,env,ps,E,hps,λJ H1 s1 iw=>?_⟩
 refine⟨λi m σ2 H2=>m=ps.length - i/\i<=ps.length/\∃ Ow2 env2,ER b Ow2 G σ2 env2 H2/\Ex (Bs b Ow) H1 (Bs b Ow2) H2/\bK g ds f (ps.drop i) env2=some out,⟨ps.length,by simp,Nat.zero_le _,Ow,clr ds env,(E.up s1).clr,Ex.refl _ _,by simpa using hl⟩,?_⟩
 rintro i m σ2 H2 ⟨rfl,hi,Ow2,env2,E2,x2,l2⟩
 obtain⟨w1,w2⟩:=iw Ow2 H2 (λz=>by cases z) x2 λa=>E2.fresh
 have xk:Ex (Bs b Ow) H (Bs b Ow2) H2:=(Ex.of_same s1).trans x2
 by_cases hlt:i < ps.length
 ·rw[List.drop_eq_getElem_cons hlt] at l2
  obtain⟨e1,he1,l2⟩:=ao l2
  obtain⟨o,ho,l2⟩:=ao l2
  obtain⟨g1,g2⟩:=w1 i ps[i] (List.getElem?_eq_getElem hlt)
  refine .inr ⟨g1,fun σ' H'=>i+1<=ps.length/\∃ Ow2 env2,ER b Ow2 G σ' env2 H'/\Ex (Bs b Ow) H1 (Bs b Ow2) H'/\bK g ds f (ps.drop (i+1)) env2=some out,fun σ' H' q=>⟨ps.length - (i+1),by omega,rfl,q⟩,λx H' y=>?_⟩
  obtain⟨s3,r3⟩:=g2 x H' y
  refine⟨Ow2,env2,_,e1,E2.up s3,r3,he1,fun σ3 E3=>⟨Ow2,e1,o,E3,ho,?_⟩⟩
  cases o with
  | nx e'=>exact λOw' σ' H'' E' x'=>⟨hlt,Ow',_,E'.clr,x2.trans ((Ex.of_same s3).trans x'),l2⟩
  | ct e'=>exact λOw' σ' H'' E' x'=>⟨hlt,Ow',_,E'.clr,x2.trans ((Ex.of_same s3).trans x'),l2⟩
  | bk e'=>cases l2;exact λOw' σ' H'' E' x'=>k Ow' σ' H'' E'.clr (xk.trans ((Ex.of_same s3).trans x'))
  | rt p=>cases l2;exact k
 ·have e:i=ps.length:=by omega
  subst e
  rw[List.drop_length] at l2
  cases l2
  exact .inl ⟨w2,k Ow2 σ2 H2 E2 xk⟩
def ut (c:Env->Option Bool) (ds:List Nat) (body:Env->Option Out):Nat->Env->Option Out
 | 0,_=>none
 | n+1,env=>(c env).bind λk=>if k=true then (body env).bind λo=>match o with
   | .nx e=>ut c ds body n (clr ds e)
   | .ct e=>ut c ds body n (clr ds e)
   | .bk e=>some (.nx (clr ds e))
   | .rt p=>some (.rt p)
  else some (.nx env)
def KH (n:Nat) (c:Env->Option Bool) (ds:List Nat) (body:Env->Option Out) (env:Env):Option Out:=ut c ds body n (clr ds env)
@[simp] theorem Ol (n:Nat) (c:Env->Option Bool) (ds:List Nat) (body:Env->Option Out) (env:Env):KH n c ds body env=(ut c ds body n (clr ds env)):=id rfl
end
def gP (cap:List (Option Nat)) (env:Env):Env:=cap.map λo=>match o with | some i=>(env[i]?).getD none | none=>none
@[simp] theorem Qu (cap:List (Option Nat)) (env:Env):gP cap env=(cap.map λo=>match o with | some i=>(env[i]?).getD none | none=>none):=id rfl
def iG (cap:List (Option Nat)) (G:List Nat):List Nat:=(List.range cap.length).filter λj=>match cap[j]? with | some (some i)=>decide (i∈G) | _=>false
def BX.in (b:BX):BX:={ b with fx:=λ_=>none }
def cY (env:Env) (g:PV->Env->Option Env) (t:Env->Option Bool) (f:Env->Option PV):List PV->Option (List PV)
 | []=>some []
 | x::xs=>(g x env).bind λe=>(t e).bind λk=>if k=true then (f e).bind λy=>(cY env g t f xs).bind λys=>some (y::ys) else cY env g t f xs
def eO (cap:List (Option Nat)) (src:Env->Option (List PV)) (g:PV->Env->Option Env) (t:Env->Option Bool) (f:Env->Option PV) (env:Env):Option PV:=(src env).bind λxs=>if xs.length<=1000000 then (cY (gP cap env) g t f xs).bind λys=>some (.lst ys) else none
@[simp] theorem PB (cap:List (Option Nat)) (src:Env->Option (List PV)) (g:PV->Env->Option Env) (t:Env->Option Bool) (f:Env->Option PV) (env:Env):eO cap src g t f env=((src env).bind λxs=>if xs.length<=1000000 then (cY (gP cap env) g t f xs).bind λys=>some (.lst ys) else none):=id rfl
def fM (env:Env):Option Bool:=some true
@[simp] theorem PJ (env:Env):fM env=(some true):=id rfl
theorem capG_mem {cap:List (Option Nat)}{G:List Nat}{j:Nat}:j∈iG cap G↔∃ i,cap[j]?=some (some i)/\i∈G:=by
 unfold iG
 rw[List.mem_filter,List.mem_range]
 constructor
 ·rintro ⟨h1,h2⟩
  split at h2
  ·rename_i i e;exact⟨i,e,by simpa using h2⟩
  ·cases h2
 ·rintro ⟨i,e,h⟩
  refine⟨(List.getElem?_eq_some_iff.mp e).1,?_⟩
  rw[e];simpa using h
theorem mZ {cap:List (Option Nat)}{env:Env}{j:Nat}{p:PV}(h:(gP cap env)[j]?=some (some p)):∃ i,cap[j]?=some (some i)/\env[i]?=some (some p):=by
 unfold gP at h
 rw[List.getElem?_map] at h
 cases q:cap[j]? with
 | none=>rw[q] at h;cases h
 | some o=>
  rw[q] at h
  cases o with
  | none=>cases h
  | some i=>
   refine⟨i,rfl,?_⟩
   have h':(env[i]?).getD none=some p:=by simpa using h
   cases q2:env[i]? with
   | none=>rw[q2] at h';cases h'
   | some o=>rw[q2] at h';simp at h';rw[h']
theorem kY {cap:List (Option Nat)}{σ:St}{j i:Nat}{v:V}(h:cap[j]?=some (some i)) (e:σ[i]?=some (some v)):(dU cap σ)[j]?=some (some v):=by
 unfold dU
 rw[List.getElem?_map,h]
 simp[uX,e]
def oE (cap:List (Option Nat)):Bool:=(List.range cap.length).all λj=>(List.range cap.length).all λk=>match cap[j]?,cap[k]? with
 | some (some i),some (some i')=>decide (i=i'->j=k)
 | _,_=>true
theorem An {cap:List (Option Nat)}(h:oE cap=true){j k i:Nat}(h1:cap[j]?=some (some i)) (h2:cap[k]?=some (some i)):j=k:=by
 have a:=List.all_eq_true.mp h j (List.mem_range.mpr (List.getElem?_eq_some_iff.mp h1).1)
 have c:=List.all_eq_true.mp a k (List.mem_range.mpr (List.getElem?_eq_some_iff.mp h2).1)
 rw[h1,h2] at c
 simpa using c
theorem ER.cap {b:BX}{Ow:Addr->Prop}{G:List Nat}{σ:St}{env:Env}{H:Hp}{cap:List (Option Nat)}(E:ER b Ow G σ env H) (hc:oE cap=true):ER b.in Ow (iG cap G) (dU cap σ) (gP cap env) H:=by
 refine⟨by unfold dU gP;rw[List.length_map,List.length_map],E.same,E.live,E.new,λj p e n=>?_,λj p e n=>?_,λj k a p q e1 n1 s1 e2 n2 s2=>?_,λk v z=>by cases z⟩
 ·obtain⟨i,h1,h2⟩:=mZ e
  obtain⟨v,h3,h4⟩:=E.val i p h2 λz=>n (capG_mem.mpr ⟨i,h1,z⟩)
  exact⟨v,kY h1 h3,h4⟩
 ·obtain⟨i,h1,h2⟩:=mZ e
  obtain⟨i',h1',hG⟩:=capG_mem.mp n
  rw[h1] at h1';cases h1'
  obtain⟨a,h3,h4,h5⟩:=E.own i p h2 hG
  exact⟨a,kY h1 h3,h4,h5⟩
 ·obtain⟨i,h1,h2⟩:=mZ e1
  obtain⟨i',h1',hG⟩:=capG_mem.mp n1
  rw[h1] at h1';cases h1'
  obtain⟨k',h3,h4⟩:=mZ e2
  obtain⟨k'',h3',hG2⟩:=capG_mem.mp n2
  rw[h3] at h3';cases h3'
  obtain⟨c,g1,_,_⟩:=E.own i p h2 hG
  obtain⟨c2,g2,_,_⟩:=E.own k' q h4 hG2
  have t1:=kY (cap:=cap) h1 g1
  have t2:=kY (cap:=cap) h3 g2
  rw[s1] at t1;cases t1
  rw[s2] at t2;cases t2
  have:=E.sep i k' _ p q h2 hG g1 h4 hG2 g2
  subst this
  exact An hc h1 h3
theorem ER.more {b:BX}{Ow:Addr->Prop}{G:List Nat}{σ:St}{env:Env}{H H':Hp}{D:Addr}(E:ER b Ow G σ env H) (hD:H D=none) (s:Same H H') (hl:∃ o,H' D=some o):ER b (λc=>Ow c\/c=D) G σ env H'/\Ex (Bs b Ow) H (Bs b λc=>Ow c\/c=D) H':=by
 have hx:Ex (Bs b Ow) H (Bs b λc=>Ow c\/c=D) H':=λc o h=>⟨λq=>⟨s _ _ h,λz=>z.elim q.1 (aV h hD),q.2⟩,λ_=>s _ _ h⟩
 exact⟨⟨E.len,E.same.trans s,λc w=>w.elim (λz=>let ⟨o,h⟩:=E.live c z;⟨o,s _ _ h⟩) λz=>by subst z;exact hl,λc w=>w.elim (E.new c) λz=>by subst z;exact E.same.free hD,λi p e n=>let ⟨v,h1,h2⟩:=E.val i p e n;⟨v,h1,h2.ex hx⟩,
  λi p e n=>let ⟨a,h1,h2,h3⟩:=E.own i p e n;⟨a,h1,.inl h2,h3.ex hx λo z=>s _ _ z⟩,E.sep,E.fix⟩,hx⟩
structure TgOk (K:PySem.W.Frag) (cap:List (Option Nat)) (g:TG) (gm:PV->Env->Option Env):Prop where
 go:∀ (b:BX) (Ow:Addr->Prop) (G:List Nat) (σ:St) (env e:Env) (H:Hp) (v:V) (p:PV) (Q:St->Hp->Prop),b.C.K=K->(∀ i,b.fx i=none)->ER b Ow (iG cap G) (dU cap σ) (gP cap env) H->Rep b.C (Bs b Ow) H v p->gm p (gP cap env)=some e->
  (∀ σ',Kp (dU cap σ) σ'->ER b Ow (iG cap G) σ' e H->Q σ' H)->g v (dU cap σ) H Q
theorem Ao {σ σ':St}{i:Nat}{v:V}(h:Kp σ σ') (hn:∀ w,σ[i]?≠some (some w)):Kp σ (σ'.set i (some v)):=by
 refine⟨by rw[List.length_set];exact h.1,λj w e=>?_⟩
 by_cases hj:i=j
 ·subst hj;exact absurd e (hn w)
 ·rw[List.getElem?_set_ne hj];exact h.2 j w e
theorem xj (σ:St):Kp σ σ:=⟨rfl,λ_ _ e=>e⟩
theorem qD {cap:List (Option Nat)}{σ:St}{i:Nat}(h:cap[i]?=some none) (w:V):(dU cap σ)[i]?≠some (some w):=by
 unfold dU
 rw[List.getElem?_map,h]
 intro z;cases z
theorem sY {cap:List (Option Nat)}{G:List Nat}{i:Nat}(h:cap[i]?=some none):i∉iG cap G:=λz=>by
 obtain⟨k,e,_⟩:=capG_mem.mp z
 rw[h] at e;cases e
theorem oF {K:PySem.W.Frag}{cap:List (Option Nat)}(i:Nat) (h:cap[i]?=some none:=by rfl):TgOk K cap (oW i) (gN i):=
 ⟨λb Ow G σ env e H v p Q hK hx E r he k=>by
  cases he
  exact k _ (Ao (xj _) (qD h)) (E.set (sY h) r (hx _))⟩
def vh:List Nat->TGs
 | []=>Jg
 | i::is=>Eu (oW i) (vh is)
theorem PK {K:PySem.W.Frag}{cap:List (Option Nat)}(is:List Nat) (h:(is.all λi=>decide (cap[i]?=some none))=true:=by rfl):TgOk K cap (Jh K is.length (vh is)) (gT is):=
 ⟨λb Ow G σ env e H v p Q hK hx E r he k=>by
  subst hK
  cases p <;> simp only[gT] at he <;> first | cases he | skip
  rename_i xs
  obtain⟨a,vs,rfl,ha,ra⟩:=RepB.tup (.inl r)
  refine⟨a,vs,rfl,SqT.of ha,by rw[ra.length];exact o8 he,?_⟩
  have gen:∀ (is:List Nat) (vs:List V) (xs:List PV) (σ1:St) (env1:Env),(is.all λi=>decide (cap[i]?=some none))=true->Kp (dU cap σ) σ1->ER b Ow (iG cap G) σ1 env1 H->Reps b.C (Bs b Ow) H vs xs->gNs is xs env1=some e->vh is vs σ1 H Q:=by
   intro is
   induction is with
   | nil=>
    intro vs xs σ1 env1 _ kp E1 r1 e1
    cases xs with
    | nil=>cases r1;cases e1;exact⟨rfl,k σ1 kp E1⟩
    | cons x xs=>cases e1
   | cons i is ih=>
    intro vs xs σ1 env1 hall kp E1 r1 e1
    cases xs with
    | nil=>cases e1
    | cons x xs=>
     cases r1 with
     | cons r2 r3=>
      rw[List.all_cons,Bool.and_eq_true] at hall
      have hi:cap[i]?=some none:=by simpa using hall.1
      exact⟨_,_,rfl,ih _ xs _ _ hall.2 (Ao kp (qD hi)) (E1.set (sY hi) r2 (hx _)) r3 e1⟩
  exact gen is vs xs _ _ h (xj _) E ra he⟩
section
variable {X:Cx}{b:BX}{G L:List Nat}{ro:Bool}{pos:Pos}{tg iter elt:Expr}{ifs:List Expr}{scope osc:Scope}{ON N:List Str}{cap:List (Option Nat)}{src:Env->Option (List PV)}{g:TG}{gm:PV->Env->Option Env}{t:Env->Option Bool}{f:Env->Option PV}
theorem Fo {σ:St}{H:Hp}{Q:VK}(tgo:TgOk b.C.K cap g gm) (hc:oE cap=true) (h:tM b G .own (eO cap src gm t f) σ H Q):
  um (tMI b G false src) cap g (tMT b.in (iG cap G) t) (tM b.in (iG cap G) .val f) σ H Q:=by
 obtain⟨Ow,env,p,E,hf,k⟩:=h
 obtain⟨xs,hxs,hf⟩:=ao hf
 split at hf
 ·rename_i hlen
  obtain⟨ys,hys,hf⟩:=ao hf
  cases hf
  refine⟨Ow,env,xs,E,hxs,λJ H1 s1 iw D hD=>?_⟩
  have E1:=E.up s1
  have nD:H D=none:=s1.free hD
  refine⟨λi m vs H2=>m=xs.length - i/\i<=xs.length/\Same H1 H2/\H2 D=some (.lst vs)/\vs.length<=i/\∃ done rest,Reps b.C (Bs b λc=>Ow c\/c=D) H2 vs done/\cY (gP cap env) gm t f (xs.drop i)=some rest/\done++rest=ys,
   ⟨xs.length,by simp,Nat.zero_le _,bh hD _,aP,Nat.le_refl _,[],ys,.nil,by simpa using hys,rfl⟩,?_⟩
  rintro i m vs H2 ⟨rfl,hi,s2,d2,hv,done,rest,rd,cl,hdone⟩
  refine⟨d2,?_⟩
  obtain⟨E2,x2⟩:=E1.more hD s2 ⟨_,d2⟩
  obtain⟨w1,w2⟩:=iw _ H2 (λ_=>s2) x2 λa=>E2.fresh
  by_cases hlt:i < xs.length
  ·rw[List.drop_eq_getElem_cons hlt] at cl
   obtain⟨e1,he1,cl⟩:=ao cl
   obtain⟨kk,hk,cl⟩:=ao cl
   obtain⟨g1,g2⟩:=w1 i xs[i] (List.getElem?_eq_getElem hlt)
   refine .inr ⟨g1,λvs' H'=>i+1<=xs.length/\Same H1 H'/\H' D=some (.lst vs')/\vs'.length<=i+1/\∃ done rest,Reps b.C (Bs b λc=>Ow c\/c=D) H' vs' done/\cY (gP cap env) gm t f (xs.drop (i+1))=some rest/\done++rest=ys,λvs' H' q=>⟨xs.length - (i+1),by omega,rfl,q⟩,λx H' y=>?_⟩
   obtain⟨s3,r3⟩:=g2 x H' y
   have E3:=(E2.up s3).cap hc
   refine tgo.go b.in _ G σ env e1 H' x _ _ rfl (λ_=>rfl) E3 r3 he1 fun σ3 kp E4=>⟨kp,_,e1,kk,E4,hk,λH4 s4=>?_⟩
   have d4:H4 D=some (.lst vs):=s4 _ _ (s3 _ _ d2)
   have s24:Same H2 H4:=s3.trans s4
   cases kk with
   | false=>
    refine Cv ⟨hlt,s2.trans s24,d4,Nat.le_succ_of_le hv,done,rest,rd.ex (.of_same s24),?_,hdone⟩
    simpa using cl
   | true=>
    simp only[if_true] at cl
    obtain⟨y1,hy1,cl⟩:=ao cl
    obtain⟨ys1,hys1,cl⟩:=ao cl
    cases cl
    refine Cw ⟨_,e1,y1,E4.up s4,hy1,λv5 H5 s5 r5=>⟨s5 _ _ d4,gG (by omega),hlt,?_,aP,by rw[List.length_append];show vs.length+1<=i+1;omega,done++[y1],ys1,?_,hys1,by rw[List.append_assoc];exact hdone⟩⟩
    ·exact λc o h=>by rw[aH (aV h hD)];exact s5 _ _ (s24 _ _ (s2 _ _ h))
    ·have r5':Rep b.C (Bs b λc=>Ow c\/c=D) H5 v5 y1:=r5
     refine((rd.ex (.of_same (s24.trans s5))).append (.cons r5' .nil)).ex ?_
     exact mY (b:=b) (Ow:=λc=>Ow c\/c=D) (.inr rfl) (s5 _ _ d4) rfl
  ·have e:i=xs.length:=by omega
   subst e
   rw[List.drop_length] at cl
   cases cl
   rw[List.append_nil] at hdone
   subst hdone
   refine .inl ⟨w2,k _ H2 (s1.trans s2) ⟨D,rfl,nD,vs,d2,rd.ex (bF λc o _ q=>⟨⟨λz=>q.1 (.inl z),q.2⟩,λz=>q.1 (.inr z)⟩)⟩⟩
 ·cases hf
theorem jQ {X:Cx}:nU X [] (tMT b G fM):=λpins s σ H Q I ⟨Ow,env,k,E,hf,kk⟩=>by cases hf;exact Cy pins s σ H Q I (kk H (Same.refl _))
theorem l_ (S:CSc osc scope ON N cap) (tgo:TgOk b.C.K cap g gm) (hi:SI X b G false tg iter src) (hg:∀ C s H fp,PG (X.comp N scope C s H fp) tg g) (ht:∀ C s H fp,nU (X.comp N scope C s H fp) ifs (tMT b.in (iG cap G) t)) (he:∀ C s H fp,SE (X.comp N scope C s H fp) b.in (iG cap G) .val elt f)
  (hci:oE cap=true:=by rfl) (hc:X.calm=true:=by rfl) (hsc:X.env.scope=osc:=by rfl) (hN:X.N=ON:=by rfl) (hs:∀ x,foldedSetIterable iter X.env x=pure x:=by intro _;rfl):SE X b G .own (.ListComp elt [⟨tg,iter,ifs,0⟩] scope pos) (eO cap src gm t f):=
 PE.imp (GC S hi hg ht he hc hsc hN hs) fun σ H Q h=>Fo tgo hci h
theorem qF (i:Nat){y:Str}{py spos:Pos}(nd:X.N.Nodup) (S:CSc osc scope ON N cap) (tgo:TgOk b.C.K cap g gm) (hi:SI X b G false tg iter src) (hg:∀ C s H fp,PG (X.comp N scope C s H fp) tg g) (ht:∀ C s H fp,nU (X.comp N scope C s H fp) ifs (tMT b.in (iG cap G) t)) (he:∀ C s H fp,SE (X.comp N scope C s H fp) b.in (iG cap G) .val elt f)
  (hG:i∉G:=by decide) (hx:b.fx i=none:=by first | rfl | assumption) (hi':X.N[i]?=some y:=by rfl) (hy:Loc X.env.scope y:=by first | exact Or.inl rfl | exact Or.inr rfl) (hci:oE cap=true:=by rfl)
  (hsw:swapsWith (.ListComp elt [⟨tg,iter,ifs,0⟩] scope pos) (some (.Name y py)) spos.line X.env=pure true:=by rfl)
  (hc:X.calm=true:=by rfl) (hsc:X.env.scope=osc:=by rfl) (hN:X.N=ON:=by rfl) (hs:∀ x,foldedSetIterable iter X.env x=pure x:=by intro _;rfl)
  (hf:X.fn y=true\/X.env.scope.names.lookup y=some .local:=by first | exact .inl rfl | exact .inr rfl | assumption):
  SS X b G G L ro (.Assign [.Name y py] (.ListComp elt [⟨tg,iter,ifs,0⟩] scope pos) spos) (aJ i (eO cap src gm t f)):=
 PS.imp (GD S nd hi' hy hi hg ht he hsw hc hsc hN hs hf) λD σ H q=>Fo tgo hci (by
  obtain⟨Ow,env,p,E,hf,k⟩:=Kz hG hx q
  exact⟨Ow,env,p,E,hf,λv H' s r=>k v H' s (r.val E (by intro z;cases z))⟩)
end
def bO (n k:Nat) (ro:Bool) (f:Env->Option Out) (ps:List PV):Option PV:=if ps.length=k then (f (ps.map some++List.replicate (n - k) none)).bind λo=>match o with
 | .nx _=>if ro=true then none else some .non
 | .rt p=>some p
 | _=>none
 else none
@[simp] theorem Qv (n k:Nat) (ro:Bool) (f:Env->Option Out) (ps:List PV):bO n k ro f ps=(if ps.length=k then (f (ps.map some++List.replicate (n - k) none)).bind λo=>match o with
 | .nx _=>if ro=true then none else some .non
 | .rt p=>some p
 | _=>none
 else none):=id rfl
theorem vm {C:MC}{A:Addr->Prop}{H:Hp}{N:List Str}{vs:List V}{ps:List PV}{G:List Nat}(r:Reps C A H vs ps) (hG:∀ i,i∈G->ps.length<=i) (hn:ps.length<=N.length):ER ⟨C,A,H,λ_=>none⟩ (λ_=>False) G (L2.start N vs) (ps.map some++List.replicate (N.length - ps.length) none) H:=by
 have hl:=r.length
 have old:∀ i p,(ps.map some++List.replicate (N.length - ps.length) none)[i]?=some (some p)->ps[i]?=some p:=λi p e=>by
  by_cases hi:i < ps.length
  ·rw[List.getElem?_append_left (by rw[List.length_map];exact hi),List.getElem?_map] at e
   cases q:ps[i]? with
   | none=>rw[q] at e;cases e
   | some p'=>rw[q] at e;cases e;rfl
  ·rw[List.getElem?_append_right (by rw[List.length_map];omega),List.getElem?_replicate] at e
   split at e <;> cases e
 refine⟨?_,Same.refl _,λa w=>w.elim,λa w=>w.elim,λi p e n=>?_,λi p e n=>?_,λi j a p q e1 n1 s1 e2 n2 s2=>?_,λk v z=>by cases z⟩
 ·unfold L2.start
  simp only[List.length_append,List.length_map,List.length_replicate]
  omega
 ·obtain⟨v,hv,rv⟩:=r.get (old i p e)
  refine⟨v,?_,rv.ex (bF λa o _ q=>⟨λz=>z,.inl q⟩)⟩
  unfold L2.start
  have hi:i < vs.length:=(List.getElem?_eq_some_iff.mp hv).1
  rw[List.getElem?_append_left (by rw[List.length_map];exact hi),List.getElem?_map,hv]
  rfl
 ·have h1:=(List.getElem?_eq_some_iff.mp (old i p e)).1
  have h2:=hG i n
  omega
 ·have h1:=(List.getElem?_eq_some_iff.mp (old i p e1)).1
  have h2:=hG i n1
  omega
theorem G9 {X:Cx}{C:MC}{N:List Str}{n k:Nat}{G G' L:List Nat}{ro:Bool}{body:List Stmt}{f:Env->Option Out}(hN:N.length=n) (hk:k<=n) (hG:(G.all λi=>decide (k<=i))=true) (hb:∀ A H,SSs X ⟨C,A,H,λ_=>none⟩ G G' L ro body f)
  {vs:List V}{H:Hp}{Q:VK}{E:XK}(h:spM C (bO n k ro f) ro vs H Q E):∃ t,PSs X body t/\t { nx:=λ_ H'=>Q .non H',rt:=Q } (L2.start N vs) H:=by
 obtain⟨A,ps,p,r,hm,kk⟩:=h
 refine⟨_,hb A H,?_⟩
 unfold bO at hm
 split at hm
 ·rename_i hl
  obtain⟨o,ho,hm⟩:=ao hm
  refine⟨_,_,o,vm (N:=N) (G:=G) r (λi hi=>by rw[hl];simpa using List.all_eq_true.mp hG i hi) (by omega),by rw[hN,hl];exact ho,?_⟩
  cases o with
  | nx e=>
   cases ro with
   | true=>cases hm
   | false=>cases hm;exact λOw' σ' H' E' _=>kk .non H' E'.same .non
  | rt q=>cases hm;exact λv H' s rr=>kk v H' s rr
  | bk e=>cases hm
  | ct e=>cases hm
 ·cases hm
theorem G_ {C:MC}{n k:Nat}{f:Env->Option Out}{ro ro':Bool}{vs:List V}{H:Hp}{Q:VK}{E:XK}(h:spM C (bO n k ro' f) ro vs H Q E):vs.length=k:=by
 obtain⟨A,ps,p,r,hm,kk⟩:=h
 unfold bO at hm
 split at hm
 ·rename_i hl;rw[r.length];exact hl
 ·cases hm
def Nr (n k c:Nat) (f:Env->Option Out) (ps:List PV):Option (List (Str×PV)):=if ps.length+1=k then (f (some (.obj c [])::(ps.map some++List.replicate (n - k) none))).bind λo=>match o with
 | .nx (some (.obj c' fs)::_)=>if c'=c then some fs else none
 | _=>none
 else none
@[simp] theorem PL (n k c:Nat) (f:Env->Option Out) (ps:List PV):Nr n k c f ps=(if ps.length+1=k then (f (some (.obj c [])::(ps.map some++List.replicate (n - k) none))).bind λo=>match o with
 | .nx (some (.obj c' fs)::_)=>if c'=c then some fs else none
 | _=>none
 else none):=id rfl
def Nt (c:Nat) (m:List PV->Option (List (Str×PV))) (g:Env->Option (List PV)) (env:Env):Option PV:=(g env).bind λps=>(m ps).bind λfs=>some (.obj c fs)
@[simp] theorem PN (c:Nat) (m:List PV->Option (List (Str×PV))) (g:Env->Option (List PV)) (env:Env):Nt c m g env=((g env).bind λps=>(m ps).bind λfs=>some (.obj c fs)):=id rfl
def KJ (c:Nat) (m:List PV->Option (List (Str×PV))) (g:Env->Option (List PV)) (env:Env):Option PV:=(g env).bind λps=>(m ps).bind λfs=>if rG fs=true then some (.obj c fs) else none
@[simp] theorem Om (c:Nat) (m:List PV->Option (List (Str×PV))) (g:Env->Option (List PV)) (env:Env):KJ c m g env=((g env).bind λps=>(m ps).bind λfs=>if rG fs=true then some (.obj c fs) else none):=id rfl
section
variable {X:Cx}{b:BX}{G:List Nat}{pos p:Pos}{e:Expr}{es:List Expr}{g:Env->Option (List PV)}
@[simp] def tyN:PV->Option String
 | .non=>some "NoneType"
 | .bl _=>some "bool"
 | .int _=>some "int"
 | .str _=>some "str"
 | .lst _=>some "list"
 | .tup _=>some "tuple"
 | .dK _=>some "dict"
 | .dT _=>some "dict"
 | _=>none
def rJ (tb:List (String×Bool)) (p:PV):Option PV:=(tyN p).bind λt=>(tb.lookup t).bind λk=>some (.bl k)
@[simp] theorem Qw (tb:List (String×Bool)) (p:PV):rJ tb p=((tyN p).bind λt=>(tb.lookup t).bind λk=>some (.bl k)):=id rfl
theorem RepB.ty {C:MC}{A:Addr->Prop}{H:Hp}{v:V}{p:PV}{t:String}(r:RepB C A H v p) (h:tyN p=some t):TyOf C.K H v (.type t):=by
 cases p <;> simp only[tyN] at h <;> cases h
 ·rw[r.non];exact .non
 ·rw[r.bl];exact .bl _
 ·rw[r.int];exact .int _
 ·rw[r.str];exact .str _
 ·obtain⟨a,vs,rfl,ha,_⟩:=r.lst;exact .lst ha
 ·obtain⟨a,vs,rfl,ha,_⟩:=r.tup;exact .tup ha
 ·obtain⟨a,vs,rfl,ha,_⟩:=r.dK;exact .dK ha
 ·obtain⟨a,vs,rfl,ha,_⟩:=r.dT;exact .dT ha
theorem fL {α β:Type} [BEq α] [LawfulBEq α] {x:α}{y:β}:∀ {l:List (α×β)},l.lookup x=some y->(x,y)∈l
 | [],h=>by cases h
 | (a,c)::r,h=>by
  rw[List.lookup_cons] at h
  cases q:x == a with
  | true=>rw[q] at h;cases h;have:=eq_of_beq q;subst this;exact List.mem_cons_self
  | false=>rw[q] at h;exact List.mem_cons_of_mem _ (fL h)
theorem Aq {m:Md}{f:Env->Option PV}{n:Str}{n':String}{p1:Pos}(tb:List (String×Bool)) (hk:∀ t k,(t,k)∈tb->PySem.W.kitOne X.K (.type t) (.type n')=some k) (hm:X.mg "isinstance" = none) (hmn:X.mg n=none) (hbn:bootBuiltins n=some (.type n')) (h:SE X b G m e f) (hK:X.K=b.C.K:=by rfl) (hg:Gl X "isinstance" := by rfl) (hgn:Gl X n:=by rfl)
  (hbi:bootBuiltins "isinstance" = some (.builtin "isinstance"):=by decide +kernel) (hn1:n ≠ "__name__" := by decide) (hd:(n == ("__debug__" : Str))=false:=by decide)
  (he:starEach [e,.Name n p1] X.env=(false,eval e X.env)::starEach [.Name n p1] X.env:=by rfl) (he2:starEach [.Name n p1] X.env=(false,eval (.Name n p1) X.env)::starEach [] X.env:=by rfl) (hpl:(backTo pos (starEach [.Name n p1] X.env)).any (·.1)=false:=by rfl):
  SE X b G .val (.Call (.Name "isinstance" p) [e,.Name n p1] [] pos) (b1 (rJ tb) f):=by
 refine PE.imp (uM wL hg hm hbi (bU h.bor (bU (Gd (v:=.ty n') hgn hmn hbn rfl hn1 hd) cT he2) he) (by decide) (by decide) he hpl) fun σ H Q ⟨Ow,env,q,E,hf,kk⟩=>?_
 obtain⟨p1,hp1,hf⟩:=ao hf
 obtain⟨t,ht,hf⟩:=ao hf
 obtain⟨k,hk',hf⟩:=ao hf
 cases hf
 refine⟨Ow,env,p1,E,hp1,λv H1 s r=>?_⟩
 have r1:RepB b.C (Bs b Ow) H1 v p1:=r
 exact⟨v,n',.type t,k,rfl,by rw[hK];exact r1.ty ht,hk t k (fL hk'),kk _ H1 s (.bl k)⟩
end
end MR
namespace MR
open PySem L2
def BX.fixed (b:BX) (j:Nat) (v:V):BX:={ b with fx:=λi=>if i=j then some v else b.fx i }
def uv (j:Nat) (g:PV->Env->Option Env) (ds:List Nat) (body:Env->Option Out):Nat->Nat->Env->Option Out
 | 0,_,_=>none
 | n+1,k,env=>match bV j env with
  | some (.lst ys)=>match ys[k]? with
   | none=>some (.nx env)
   | some y=>(g y env).bind λe1=>(body e1).bind λo=>match o with
    | .nx e=>uv j g ds body n (k+1) (clr ds e)
    | .ct e=>uv j g ds body n (k+1) (clr ds e)
    | .bk e=>some (.nx (clr ds e))
    | .rt p=>some (.rt p)
  | _=>none
def Nu (j n:Nat) (g:PV->Env->Option Env) (ds:List Nat) (body:Env->Option Out) (env:Env):Option Out:=uv j g ds body n 0 (clr ds env)
@[simp] theorem PP (j n:Nat) (g:PV->Env->Option Env) (ds:List Nat) (body:Env->Option Out) (env:Env):Nu j n g ds body env=uv j g ds body n 0 (clr ds env):=id rfl
section
variable {X:Cx}{b:BX}{G G' L:List Nat}{ro:Bool}{pos:Pos}
theorem ER.free {Ow Ow':Addr->Prop}{σ σ':St}{env env':Env}{H H':Hp}{j:Nat}{v:V}(E0:ER b Ow G σ env H) (h:σ[j]?=some (some v)) (E:ER (b.fixed j v) Ow' G' σ' env' H'):ER b Ow' G' σ' env' H':=
 ⟨E.len,E.same,E.live,E.new,E.val,E.own,E.sep,λi w e=>by
  by_cases hi:i=j
  ·subst hi
   have h1:=E0.fix i w e
   rw[h] at h1
   cases h1
   exact E.fix i v (if_pos rfl)
  ·exact E.fix i w ((if_neg hi).trans e)⟩
def rK (xs ys:List PV):List PV:=List.zipWith (λx y=>.tup [x,y]) xs ys
def iZ (f g:Env->Option PV) (env:Env):Option (List PV):=(f env).bind λp=>(g env).bind λq=>match p,q with
 | .lst xs,.lst ys=>some (rK xs ys)
 | _,_=>none
@[simp] theorem RC (f g:Env->Option PV) (env:Env):iZ f g env=((f env).bind λp=>(g env).bind λq=>match p,q with
 | .lst xs,.lst ys=>some (rK xs ys)
 | _,_=>none):=id rfl
end
end MR
namespace L2
open PySem PySem.Spec PyProof.Rows
section
variable {X:Cx}
end
end L2
namespace MR
open PySem L2
section
variable {X:Cx}{b:BX}{G G' L:List Nat}{ro:Bool}{pos p:Pos}{m m1 m2:Md}{e e1 e2:Expr}{f f1 f2:Env->Option PV}
@[simp] def RW:PV->PV->Option PV
 | .int i,.int j=>some (.int (if j < i then j else i))
 | _,_=>none
@[simp] def maxV:PV->PV->Option PV
 | .int i,.int j=>some (.int (if j > i then j else i))
 | _,_=>none
@[simp] def Oo:PV->PV->Option PV
 | .str x,.str y=>some (.bl (Txt.endswith x y))
 | _,_=>none
end
end MR
namespace MR
open PySem L2
section
variable {X:Cx}{b:BX}{G G' L:List Nat}{ro:Bool}{pos p:Pos}{m m1 m2:Md}{e e1 e2:Expr}{f f1 f2 h:Env->Option PV}
@[simp] def pO:PV->PV->Option PV
 | .lst xs,.lst ys=>if xs.length+ys.length<=1000000 then some (.lst (xs++ys)) else none
 | _,_=>none
theorem Ar {x y z:PV}(e:pO x y=some z):∃ xs ys,x=.lst xs/\y=.lst ys/\xs.length+ys.length<=1000000/\z=.lst (xs++ys):=by
 unfold pO at e
 split at e
 ·split at e
  ·cases e;exact⟨_,_,rfl,rfl,‹_›,rfl⟩
  ·cases e
 ·cases e
theorem uw (i:Nat){x:Str}{p1 apos cpos:Pos}(he:SE X b G .val e h) (hi:i∈G:=by decide) (hN:X.N[i]?=some x:=by rfl) (hv:Vis X.env.scope x:=by first | exact Or.inl rfl | exact Or.inr (Or.inl rfl) | exact Or.inr (Or.inr rfl)) (hd:(x == ("__debug__" : Str))=false:=by decide)
  (hcd:(x == ("__classdict__" : Str))=false:=by decide) (hbase:attributeBase (.Name x p1) "extend" X.env (eval (.Name x p1) X.env)=eval (.Name x p1) X.env:=by rfl)
  (hfew:((backTo cpos (starEach [e] X.env)).all (λx=>!x.1)&&(backToKw cpos (keywordEach [] X.env)).all (λx=>x.1.isSome)
   && decide ([e].length+([]:List Keyword).length+(if ([]:List Keyword).isEmpty then 0 else 1) < 30))=true:=by rfl)
  (hline:(apos.endLine == cpos.line)=true:=by rfl) (hs:starEach [e] X.env=(false,eval e X.env)::starEach [] X.env:=by rfl):
  SS X b G G L ro (.Expr (.Call (.Attribute (.Name x p1) "extend" apos) [e] [] cpos) pos) (cP pO i h):=
 PS.imp (lR (ql PySem.F.plainAttrs_list PySem.F.slot_list_extend PySem.F.type_list_extend zW (dN hN hv hd hcd) (bU he cT hs) hbase hfew hline hs rfl)) λD σ H ⟨Ow,env,o,E,hf,k⟩=>by
  obtain⟨px,hpx,z1⟩:=ao hf
  clear hf
  obtain⟨p,hp,z2⟩:=ao z1
  clear z1
  obtain⟨y,hy,z3⟩:=ao z2
  clear z2
  cases z3
  obtain⟨xs,ys,rfl,rfl,hl,rfl⟩:=Ar hy
  obtain⟨a,ea,w,t⟩:=E.own i _ (cJ hpx) hi
  obtain⟨vs,ha,ra⟩:=id t
  refine⟨_,ea,.inl ⟨rfl,_,SqL.of ha⟩,Ow,env,_,E,hp,λv H' s r=>?_⟩
  cases r with
  | @lst c us _ q1 q2 q3=>
   refine⟨a,c,vs,us,rfl,rfl,s _ _ ha,q1,fu (by rw[ra.length,q3.length];exact hl),?_⟩
   have ra':Reps b.C (Bs b Ow) (upd H' a (.lst (vs++us))) (vs++us) (xs++ys):=by
    refine(ra.ex (.of_same s)).append q3 |>.ex λc o h=>⟨λq=>⟨by rw[aH (λz:c=a=>q.1 (z▸w))];exact h,q⟩,λm=>?_⟩
    have hc:c≠a:=λz=>by subst z;rw[s _ _ ha] at h;cases h;cases m
    rw[aH hc];exact h
   obtain⟨E',x⟩:=(E.up s).write hi ea (cJ hpx) w (t.ex (.of_same s) λo z=>s _ _ z) (o':=.lst (vs++us)) (p':=.lst (xs++ys)) ⟨_,aP,ra'⟩
   exact k Ow σ _ E' ((Ex.of_same s).trans x)
@[simp] def oG:PV->PV->Option PV
 | .lst xs,.int k=>if -1000000<=k/\k<=1000000/\xs.length*k.toNat<=1000000 then some (.lst (List.replicate k.toNat xs).flatten) else none
 | _,_=>none
theorem Reps.repl {C:MC}{A:Addr->Prop}{H:Hp}{vs:List V}{ps:List PV}(h:Reps C A H vs ps):∀ n:Nat,Reps C A H (List.replicate n vs).flatten (List.replicate n ps).flatten
 | 0=>.nil
 | n+1=>by
  rw[List.replicate_succ,List.replicate_succ,List.flatten_cons,List.flatten_cons]
  exact h.append (Reps.repl h n)
theorem KQ:Op2 b .own JL oG:=by
 intro Ow H v1 v2 p1 p2 p Q hn r1 r2 e k
 unfold oG at e
 split at e
 ·split at e
  ·rename_i h
   cases e
   obtain⟨a,vs,rfl,ha,ra⟩:=r1.lst
   have e2:=r2.int
   subst e2
   have h63:(2 ^ 63:Int)=9223372036854775808:=by decide
   exact⟨a,_,vs,rfl,rfl,ha,by omega,by omega,fu (by rw[ra.length];exact h.2.2),λq hq=>k _ _ (bh hq _) (d7 hq (ra.repl _))⟩
  ·cases e
 ·cases e
theorem vo (h1:SE X b G m1 e1 f1) (h2:SE X b G m2 e2 f2):SE X b G .own (.BinOp e1 .Mult e2 pos) (b2 oG f1 f2):=mU JM KQ h1 h2
@[simp] def qG:PV->Option PV
 | .lst xs=>some (.tup xs)
 | .frz xs=>some (.tup xs)
 | .tup xs=>some (.tup xs)
 | _=>none
theorem vp (hm:X.mg "tuple" = none) (h:SE X b G m1 e f) (hK:X.K=b.C.K:=by rfl) (hg:Gl X "tuple" := by rfl) (he:starEach [e] X.env=(false,eval e X.env)::starEach [] X.env:=by rfl):SE X b G .val (.Call (.Name "tuple" p) [e] [] pos) (b1 qG f):=by
 refine rD tX (λOw H v1 p1 p Q hn r1 e k=>?_) hm PyProof.Rows.boot_tuple h hg (by decide) (by decide) he
 rw[hK]
 cases p1 <;> simp only[qG] at e <;> cases e
 case lst xs=>obtain⟨a,vs,rfl,ha,ra⟩:=r1.lst;exact⟨a,vs,rfl,.inl ⟨SqL.of ha,λl hl=>k _ _ (bh hl _) (rC hl ra)⟩⟩
 case frz xs=>obtain⟨a,vs,rfl,ha,ra⟩:=r1.frz;exact⟨a,vs,rfl,.inl ⟨ha,λl hl=>k _ _ (bh hl _) (rC hl ra)⟩⟩
 case tup xs=>obtain⟨a,vs,rfl,ha,ra⟩:=r1.tup;exact⟨a,vs,rfl,.inr ⟨SqT.of ha,k _ _ (Same.refl _) (.tup ha ra)⟩⟩
@[simp] def ux:PV->Option PV
 | .int j=>if 0<=j/\j<=1000000 then some (.lst (cg 0 j)) else none
 | _=>none
@[simp] def uy:PV->Option PV
 | .lst xs=>some (.lst xs.reverse)
 | _=>none
def iRv (f:Env->Option PV) (env:Env):Option (List PV):=(f env).bind λp=>match p with
 | .lst xs=>some xs.reverse
 | _=>none
@[simp] theorem Q6 (f:Env->Option PV) (env:Env):iRv f env=((f env).bind λp=>match p with
 | .lst xs=>some xs.reverse
 | _=>none):=id rfl
def dnV (n:Int):List PV:=(List.range (n+1).toNat).reverse.map λi=>.int (i:Nat)
def iDn (f:Env->Option PV) (env:Env):Option (List PV):=(f env).bind λp=>match p with
 | .int n=>if -1<=n/\n<=1000000 then some (dnV n) else none
 | _=>none
@[simp] theorem Q8 (f:Env->Option PV) (env:Env):iDn f env=((f env).bind λp=>match p with
 | .int n=>if -1<=n/\n<=1000000 then some (dnV n) else none
 | _=>none):=id rfl
@[simp] def RD:PV->Option PV
 | .lst xs=>some (.lst xs.reverse)
 | _=>none
def Av (d:PyData):List PyData->Nat->Option Nat
 | [],_=>none
 | e::es,n=>if PyData.eqv e d=true then some n else Av d es (n+1)
def idxV (xs:List PV) (y:PV):Option Nat:=match toD y,dF xs with
 | some d,some ds=>if d.canLay0=true/\PyData.canLayAll0 ds=true/\d.depth<=32/\ds.length<=1000000 then Av d ds 0 else none
 | _,_=>none
@[simp] def Q9:PV->PV->Option PV
 | .lst xs,y=>(idxV xs y).map λn=>.int (n:Nat)
 | _,_=>none
def oH (g:PV->Env->Option Env) (f:Env->Option PV) (env:Env):Option Out:=(f env).bind λp=>(g p env).bind λe=>some (.nx e)
@[simp] theorem Qx (g:PV->Env->Option Env) (f:Env->Option PV) (env:Env):oH g f env=((f env).bind λp=>(g p env).bind λe=>some (.nx e)):=id rfl
theorem yM {tg:Expr}{g:PV->Env->Option Env}(he:SE X b G .val e h) (hg:SG X b G tg g) (hs:swapsWithSole [tg] e pos.line X.env=pure false:=by rfl) (hw:swappedStores [tg] e X.env=pure none:=by rfl)
  (h1:(assignEach [tg] X.env).map (·.2)=[assign tg X.env]:=by rfl):SS X b G G L ro (.Assign [tg] e pos) (oH g h):=
 PS.imp (uH he hg hs hw h1) λD σ H ⟨Ow,env,o,E,hf,k⟩=>by
  obtain⟨p,hp,z1⟩:=ao hf
  clear hf
  obtain⟨env',he',z2⟩:=ao z1
  clear z1
  cases z2
  exact⟨Ow,env,p,E,hp,λv H' s r=>⟨Ow,env,p,env',E.up s,r,he',fun σ' E'=>k Ow σ' H' E' (.of_same s)⟩⟩
end
end MR
namespace MR
open PySem L2
section
variable {X:Cx}{b:BX}{G G' L:List Nat}{ro:Bool}{pos p p2 pos2:Pos}{m m1 m2:Md}{e e1 e2:Expr}{f f1 f2 h:Env->Option PV}
theorem Aw (i:Nat) (G2:List Nat){x:Str}{pos':Pos}(nd:X.N.Nodup) (he:SE X b G .own e h) (h1:∀ j,j∈G2->j∈i::G:=by decide) (h2:∀ j,j∈G->j∈G2:=by decide) (h3:i∈G2:=by decide) (hx:b.fx i=none:=by first | rfl | assumption) (hi:X.N[i]?=some x:=by rfl) (hl:Loc X.env.scope x:=by first | exact Or.inl rfl | exact Or.inr rfl)
  (hs:swapsWith e (some (.Name x pos')) pos.line X.env=pure false:=by rfl) (hf:X.fn x=true\/X.env.scope.names.lookup x=some .local:=by first | exact .inl rfl | exact .inr rfl | assumption):SS X b G G2 L ro (.Assign [.Name x pos'] e pos) (aJ i h):=
 PS.imp (jF nd hi hl he hs hf) λD σ H q=>Fl (λj=>⟨λz=>(List.mem_cons.mp (h1 j z)).symm,λz=>z.elim (h2 j) λy=>y▸h3⟩) hx q
theorem yN {x q:PV}(e:ux x=some q):∃ n:Nat,x=.int (n:Nat)/\n<=1000000/\q=.lst (cg 0 (n:Nat)):=by
 unfold ux at e
 split at e
 ·split at e
  ·rename_i j hj
   cases e
   have ej:j=((j.toNat:Nat):Int):=by omega
   exact⟨j.toNat,by rw[← ej],by omega,by rw[← ej]⟩
  ·cases e
 ·cases e
theorem Df (hm:X.mg "list" = none) (hm2:X.mg "range" = none) (h:SE X b G m1 e f) (hc:X.calm=true:=by rfl) (hg:Gl X "list" := by rfl) (hg2:Gl X "range" := by rfl) (hs:starEach [e] X.env=[(false,eval e X.env)]:=by rfl) (hs':starEach [e] X.env=(false,eval e X.env)::starEach [] X.env:=by rfl)
  (hs2:starEach [.Call (.Name "range" p2) [e] [] pos2] X.env=(false,eval (.Call (.Name "range" p2) [e] [] pos2) X.env)::starEach [] X.env:=by rfl) (hpl:(backTo pos (starEach [] X.env)).any (·.1)=false:=by rfl):
  SE X b G .own (.Call (.Name "list" p) [.Call (.Name "range" p2) [e] [] pos2] [] pos) (b1 ux f):=by
 refine PE.imp (CG hg hm hg2 hm2 hc (bU h.bor cT hs') hs hs2 hpl) fun σ H Q ⟨Ow,env,q,E,hf,k⟩=>?_
 obtain⟨x,hx,hf⟩:=ao hf
 obtain⟨n,rfl,hn,rfl⟩:=yN hf
 refine⟨Ow,env,_,E,hx,λv H1 s r=>?_⟩
 have r1:RepB b.C (Bs b Ow) H1 v (.int (n:Nat)):=r
 refine⟨n,by rw[r1.int],hn,λl hl=>k _ _ (s.new hl _) (Res.down s (d7 hl ?_))⟩
 have rr:Reps b.C (Bs b Ow) H1 ((List.range n).map λi=>V.int (i:Nat)) ((List.range n).map λi=>PV.int (i:Nat)):=rB _ _ (λi=>.int _) _
 have e1:cg 0 (n:Nat)=(List.range n).map λi=>PV.int (i:Nat):=by unfold cg;simp
 rw[e1]
 exact rr
theorem yO {x q:PV}(e:uy x=some q):∃ xs,x=.lst xs/\q=.lst xs.reverse:=by
 unfold uy at e
 split at e
 ·cases e;exact⟨_,rfl,rfl⟩
 ·cases e
theorem Dg (hm:X.mg "list" = none) (hm2:X.mg "reversed" = none) (h:SE X b G m1 e f) (hb:bootBuiltins "reversed" = some (.type "reversed"):=by decide +kernel) (hK:X.K=b.C.K:=by rfl) (hc:X.calm=true:=by rfl) (hg:Gl X "list" := by rfl) (hg2:Gl X "reversed" := by rfl) (hs':starEach [e] X.env=(false,eval e X.env)::starEach [] X.env:=by rfl) (hp2:(backTo pos2 (starEach [] X.env)).any (·.1)=false:=by rfl)
  (hs2:starEach [.Call (.Name "reversed" p2) [e] [] pos2] X.env=(false,eval (.Call (.Name "reversed" p2) [e] [] pos2) X.env)::starEach [] X.env:=by rfl) (hpl:(backTo pos (starEach [] X.env)).any (·.1)=false:=by rfl):
  SE X b G .own (.Call (.Name "list" p) [.Call (.Name "reversed" p2) [e] [] pos2] [] pos) (b1 uy f):=by
 refine PE.imp (CN hg hm hg2 hm2 hb hc (bU h.bor cT hs') hs' hp2 hs2 hpl) fun σ H Q ⟨Ow,env,q,E,hf,k⟩=>?_
 rw[hK]
 obtain⟨x,hx,hf⟩:=ao hf
 obtain⟨xs,rfl,rfl⟩:=yO hf
 refine⟨Ow,env,_,E,hx,λv H1 s r=>?_⟩
 have r1:RepB b.C (Bs b Ow) H1 v (.lst xs):=r
 obtain⟨a,vs,rfl,ha,ra⟩:=r1.lst
 exact⟨a,vs,rfl,SqL.of ha,λl hl=>k _ _ (s.new hl _) (Res.down s (d7 hl ra.reverse))⟩
end
end MR
namespace MR
theorem vq {α:Type}{n:Nat}{us:List α}(hl:us.length=n+1):∃ a r,us=a::r/\r.length=n:=by
 cases us with
 | nil=>cases hl
 | cons a r=>exact⟨a,r,rfl,Nat.succ.inj hl⟩
@[elab_as_elim] theorem len0 {α:Type}{P:List α->Prop}(us:List α) (hl:us.length=0) (h:P []):P us:=by
 cases us with
 | nil=>exact h
 | cons a r=>cases hl
@[elab_as_elim] theorem KR {α:Type}{P:List α->Prop}(us:List α) (hl:us.length=1) (h:∀ a,P [a]):P us:=by
 obtain⟨a,r,rfl,hr⟩:=vq hl
 exact len0 (P:=λr=>P (a::r)) r hr (h a)
@[elab_as_elim] theorem KY {α:Type}{P:List α->Prop}(us:List α) (hl:us.length=2) (h:∀ a b,P [a,b]):P us:=by
 obtain⟨a,r,rfl,hr⟩:=vq hl
 exact KR (P:=λr=>P (a::r)) r hr (h a)
@[elab_as_elim] theorem KZ {α:Type}{P:List α->Prop}(us:List α) (hl:us.length=3) (h:∀ a b c,P [a,b,c]):P us:=by
 obtain⟨a,r,rfl,hr⟩:=vq hl
 exact KY (P:=λr=>P (a::r)) r hr (h a)
@[elab_as_elim] theorem K1 {α:Type}{P:List α->Prop}(us:List α) (hl:us.length=4) (h:∀ a b c d,P [a,b,c,d]):P us:=by
 obtain⟨a,r,rfl,hr⟩:=vq hl
 exact KZ (P:=λr=>P (a::r)) r hr (h a)
@[elab_as_elim] theorem PQ {α:Type}{P:List α->Prop}(us:List α) (hl:us.length=5) (h:∀ a b c d e,P [a,b,c,d,e]):P us:=by
 obtain⟨a,r,rfl,hr⟩:=vq hl
 exact K1 (P:=λr=>P (a::r)) r hr (h a)
end MR
namespace MR
open PySem L2
@[simp] def iH:PV->Option (List PV)
 | .lst xs=>some xs
 | .frz xs=>some xs
 | .tup xs=>some xs
 | .ktp xs=>some xs
 | _=>none
def kd:PV->SK
 | .tup _=>.T
 | .ktp _=>.T
 | _=>.L
def iZ2 (f g:Env->Option PV) (env:Env):Option (List PV):=(f env).bind λp=>(g env).bind λq=>(iH p).bind λxs=>(iH q).bind λys=>some (rK xs ys)
@[simp] theorem Q_ (f g:Env->Option PV) (env:Env):iZ2 f g env=((f env).bind λp=>(g env).bind λq=>(iH p).bind λxs=>(iH q).bind λys=>some (rK xs ys)):=id rfl
section
variable {X:Cx}{b:BX}{G G' L:List Nat}{ro:Bool}{pos p:Pos}{m m1 m2:Md}{e e1 e2:Expr}
theorem vy {Ow:Addr->Prop}{σ:St}{env:Env}{H H2:Hp}{fr:Bool}{v:V}{p:PV}{xs:List PV}(E:ER b Ow G σ env H) (r:Res b Ow H H2 m v p) (hmd:fr=true->m≠.bor) (hs:iH p=some xs):
  ∃ a vs,v=.ref a/\SK.sq (kd p) b.C.K H2 a vs/\Reps b.C (Bs b Ow) H2 vs xs/\∀ Ow' H3,(fr=false->Same H2 H3)->Ex (Bs b Ow) H2 (Bs b Ow') H3->SK.sq (kd p) b.C.K H3 a vs/\Reps b.C (Bs b Ow') H3 vs xs:=by
 have b1:RepB b.C (Bs b Ow) H2 v p:=r.bor
 unfold iH at hs
 split at hs
 ·cases hs
  obtain⟨a,vs,rfl,ha,ra⟩:=b1.lst
  refine⟨a,vs,rfl,SqL.of ha,ra,λOw' H3 h0 hx=>?_⟩
  have hq:H3 a=some (.lst vs):=by
   cases fr with
   | false=>exact h0 rfl _ _ ha
   | true=>
    have rv:Rep b.C (Bs b Ow) H2 (.ref a) (.lst _):=r.val E (hmd rfl)
    cases rv with
    | lst q1 q2 q3=>rw[ha] at q1;cases q1;exact((hx _ _ ha).1 q2).1
  exact⟨SqL.of hq,ra.ex hx⟩
 ·cases hs
  have r1:Rep b.C (Bs b Ow) H2 v (.frz _):=(by rcases b1 with z | ⟨_,_,z⟩;exact z;exact z.elim)
  cases r1 with
  | lstF q1 q3=>exact⟨_,_,rfl,.inl (.inr ⟨_,q1⟩),q3,λOw' H3 h0 hx=>⟨.inl (.inr ⟨_,(hx _ _ q1).2 rfl⟩),q3.ex hx⟩⟩
  | lstK q1 q3=>exact⟨_,_,rfl,sqK q1,q3,λOw' H3 h0 hx=>⟨sqK q1,q3.ex hx⟩⟩
 ·cases hs
  obtain⟨a,vs,rfl,ha,ra⟩:=b1.tup
  exact⟨a,vs,rfl,SqT.of ha,ra,λOw' H3 h0 hx=>⟨SqT.of ((hx _ _ ha).2 rfl),ra.ex hx⟩⟩
 ·cases hs
  have r1:Rep b.C (Bs b Ow) H2 v (.ktp _):=(by rcases b1 with z | ⟨_,_,z⟩;exact z;exact z.elim)
  cases r1 with
  | tupK q1 q3=>exact⟨_,_,rfl,pM q1,q3,λOw' H3 h0 hx=>⟨pM q1,q3.ex hx⟩⟩
 ·cases hs
theorem PI.all {α:Type}{tg iter:Expr}{wi:α->TI}(h:∀ a,PI X tg iter (wi a)):PI X tg iter (fun σ H R=>∃ a,wi a σ H R):=λpins s σ H R I ⟨a,q⟩=>h a pins s σ H R I q
end
end MR
namespace MR
open PySem L2
section
variable {X:Cx}{b:BX}{G G' L:List Nat}{pos p p2 pos2:Pos}{m m1 m2:Md}{e:Expr}{f:Env->Option PV}
end
end MR
namespace L2
open PySem PyProof
section
variable {X:Cx}
end
end L2
namespace MR
open PySem L2
section
variable {X:Cx}{b:BX}{G G' L:List Nat}{pos p p2 pos2:Pos}{m m1 m2:Md}{e:Expr}{f:Env->Option PV}
@[simp] def Ra:PV->PV->Option PV
 | .str z,.tup xs=>(strsP xs).bind λzs=>if z.length<=64/\(zs.map (·.length)).sum+zs.length*64<=16777216 then some (.str (Str.join z zs)) else none
 | x,y=>Nj x y
end
end MR
namespace L2
open PySem PySem.Spec PyProof PyProof.Rows
section
variable {X:Cx}
end
end L2
namespace MR
open PySem L2
section
variable {X:Cx}{b:BX}{G G' L:List Nat}{pos p p2 pos2:Pos}{m m1 m2:Md}{e:Expr}{f:Env->Option PV}
@[simp] def intsP:List PV->Option (List Int)
 | []=>some []
 | .int c::r=>(intsP r).map (c::·)
 | _::_=>none
theorem Reps.intsP {C:MC}{A:Addr->Prop}{H:Hp}:∀ {vs:List V}{ps:List PV}{bs:List Int},Reps C A H vs ps->intsP ps=some bs->vs=bs.map V.int
 | _,_,_,.nil,e=>by cases e;rfl
 | _,_,_,.cons (p:=p) (ps:=ps) h t,e=>by
  cases p <;> simp only[MR.intsP] at e <;> first | cases e | skip
  rename_i c
  cases q:MR.intsP ps with
  | none=>rw[q] at e;cases e
  | some bs=>rw[q] at e;cases e;cases h;rw[Reps.intsP t q];rfl
@[simp] def RX:PV->Option PV
 | .lst xs=>(intsP xs).map λns=>.int ns.sum
 | _=>none
end
end MR
namespace MR
open PySem L2
section
variable {X:Cx}{b:BX}{G G' L:List Nat}{ro:Bool}{pos p p2 pos2:Pos}{m m1 m2:Md}{e:Expr}{f:Env->Option PV}
def sMv (i j:Nat) (env:Env):Option Out:=(bV j env).bind λp=>some (.nx ((env.set i (some p)).set j none))
@[simp] theorem Rb (i j:Nat) (env:Env):sMv i j env=((bV j env).bind λp=>some (.nx ((env.set i (some p)).set j none))):=id rfl
theorem qH {env:Env}{i j k:Nat}{p q:PV}(h:((env.set i (some p)).set j none)[k]?=some (some q)):k≠j/\((k=i/\q=p)\/(k≠i/\env[k]?=some (some q))):=by
 rw[List.getElem?_set] at h
 split at h
 ·split at h <;> cases h
 ·rename_i hj
  refine⟨λz=>hj z.symm,?_⟩
  rw[List.getElem?_set] at h
  split at h
  ·rename_i hi
   split at h
   ·cases h;exact .inl ⟨hi.symm,rfl⟩
   ·cases h
  ·rename_i hi
   exact .inr ⟨λz=>hi z.symm,h⟩
theorem PX (i j:Nat){x y:Str}{pos' p1:Pos}(nd:X.N.Nodup) (hG:i∈G:=by decide) (hG2:j∈G:=by decide) (hij:i≠j:=by decide) (hx:b.fx i=none:=by first | rfl | assumption) (hi:X.N[i]?=some x:=by rfl) (hl:Loc X.env.scope x:=by first | exact Or.inl rfl | exact Or.inr rfl)
  (hN:X.N[j]?=some y:=by rfl) (hv:Vis X.env.scope y:=by first | exact Or.inl rfl | exact Or.inr (Or.inl rfl) | exact Or.inr (Or.inr rfl)) (hd:(y == ("__debug__" : Str))=false:=by decide) (hcd:(y == ("__classdict__" : Str))=false:=by decide)
  (hs:swapsWith (.Name y p1) (some (.Name x pos')) pos.line X.env=pure false:=by rfl) (hf:X.fn x=true\/X.env.scope.names.lookup x=some .local:=by first | exact .inl rfl | exact .inr rfl | assumption):SS X b G G L ro (.Assign [.Name x pos'] (.Name y p1) pos) (sMv i j):=
 PS.imp (jF nd hi hl (dN hN hv hd hcd) hs hf) λD σ H ⟨Ow,env,o,E,hf,k⟩=>by
  obtain⟨p,hp,z1⟩:=ao hf
  clear hf
  cases z1
  have hp':=cJ hp
  obtain⟨a,ea,w,t⟩:=E.own j p hp' hG2
  have gi:∀ k,k≠i->(σ.set i (some (V.ref a)))[k]?=σ[k]?:=λk hk=>by rw[List.getElem?_set,if_neg λz=>hk z.symm]
  have gs:∀ v,(σ.set i (some (V.ref a)))[i]?=some v->v=some (V.ref a):=λv hv=>by
   rw[List.getElem?_set,if_pos rfl] at hv
   split at hv <;> cases hv
   rfl
  refine⟨_,ea,k Ow _ H ?_ (.of_same (Same.refl _))⟩
  refine⟨by rw[List.length_set,List.length_set,List.length_set];exact E.len,E.same,E.live,E.new,λk q hk hn=>?_,λk q hk hm=>?_,λk1 k2 c q1 q2 h1 m1 s1 h2 m2 s2=>?_,λk v hk=>?_⟩
  ·obtain⟨nj,⟨rfl,_⟩ | ⟨ni,h⟩⟩:=qH hk
   ·exact absurd hG hn
   ·rw[gi k ni];exact E.val k q h hn
  ·obtain⟨nj,⟨e1,e2⟩ | ⟨ni,h⟩⟩:=qH hk
   ·rw[e1,e2]
    rw[e1] at hk
    refine⟨a,?_,w,t⟩
    have:i < σ.length:=by
     rw[E.len]
     rcases Nat.lt_or_ge i env.length with z | z
     ·exact z
     ·rw[List.getElem?_eq_none (by simpa using z)] at hk;cases hk
    rw[List.getElem?_set,if_pos rfl,if_pos this]
   ·rw[gi k ni];exact E.own k q h hm
  ·obtain⟨nj,⟨e1,_⟩ | ⟨ni,g1⟩⟩:=qH h1 <;> obtain⟨nj2,⟨e2,_⟩ | ⟨ni2,g2⟩⟩:=qH h2
   ·rw[e1,e2]
   ·exfalso
    subst e1
    have:=gs _ s1
    cases this
    rw[gi k2 ni2] at s2
    exact nj2 (E.sep j k2 a p q2 hp' hG2 ea g2 m2 s2).symm
   ·exfalso
    subst e2
    have:=gs _ s2
    cases this
    rw[gi k1 ni] at s1
    exact nj (E.sep j k1 a p q1 hp' hG2 ea g1 m1 s1).symm
   ·rw[gi k1 ni] at s1
    rw[gi k2 ni2] at s2
    exact E.sep k1 k2 c q1 q2 g1 m1 s1 g2 m2 s2
  ·have ni:k≠i:=λz=>by rw[z,hx] at hk;cases hk
   rw[gi k ni]
   exact E.fix k v hk
end
end MR
namespace MR
open PySem L2
section
variable {X:Cx}{b:BX}{G G' L:List Nat}{ro:Bool}{pos p p2 pos2:Pos}{m m1 m2:Md}{e:Expr}{h:Env->Option PV}
def Dh (f:Env->Option PV) (env:Env):Option (List PV):=(f env).bind λp=>(iH p).bind λxs=>some xs.reverse
@[simp] theorem Qy (f:Env->Option PV) (env:Env):Dh f env=((f env).bind λp=>(iH p).bind λxs=>some xs.reverse):=id rfl
def P0 (K:PySem.W.Frag) (k:SK) (a:Addr) (n:Nat):It:=match k with
 | .L=>Itv K a n
 | .T=>CW K a n
def P_ (K:PySem.W.Frag) (k:SK) (ta:TA):TI:=fun σ H R=>ta σ H λvs H1=>∃ a xs,vs=[.ref a]/\k.sq K H1 a xs/\R (P0 K k a xs.length) H1
theorem K3 {tg l:Expr}{ta:TA}{p pos:Pos}(k:SK) (hg:Gl X "reversed") (hm:X.mg "reversed" = none) (ha:PA X [l] ta) (hb:bootBuiltins "reversed" = some (.type "reversed")) (hs:starEach [l] X.env=(false,eval l X.env)::starEach [] X.env:=by rfl) (hp:(backTo pos (starEach [] X.env)).any (·.1)=false:=by rfl):
  PI X tg (.Call (.Name "reversed" p) [l] [] pos) (P_ X.K k ta):=by
 cases k with
 | L=>exact JX hg hm ha hb hs hp
 | T=>exact J6 hg hm ha hb hs hp
theorem Ha {fr:Bool}{tg:Expr}(hm:X.mg "reversed" = none) (he:SE X b G m1 e h) (hmd:fr=true->m1≠.bor) (hb:bootBuiltins "reversed" = some (.type "reversed"):=by decide +kernel) (hK:X.K=b.C.K:=by rfl) (hg:Gl X "reversed" := by rfl) (hs:starEach [e] X.env=(false,eval e X.env)::starEach [] X.env:=by rfl) (hp:(backTo pos (starEach [] X.env)).any (·.1)=false:=by rfl):
  SI X b G fr tg (.Call (.Name "reversed" p) [e] [] pos) (Dh h):=by
 refine PI.imp (PI.all λk:SK=>K3 k hg hm (bU he cT hs) hb hs hp) fun σ H R ⟨Ow,env,ps,E,hf,k⟩=>?_
 rw[hK]
 obtain⟨x,hx,z1⟩:=ao hf
 clear hf
 obtain⟨xs,hxs,z2⟩:=ao z1
 clear z1
 cases z2
 refine⟨kd x,Ow,env,x,E,hx,λv H1 s r=>?_⟩
 obtain⟨a,vs,rfl,qa,ra,ka⟩:=vy (fr:=fr) E r hmd hxs
 refine⟨a,vs,rfl,qa,k _ _ s λOw' H2 h0 h1 hn=>?_⟩
 obtain⟨q2,r2⟩:=ka Ow' H2 h0 h1
 have hlen:=r2.length
 have go:∀ i p,xs.reverse[i]?=some p->∃ u,i < vs.length/\vs[vs.length - 1 - i]?=some u/\Rep b.C (Bs b Ow') H2 u p:=λi p hp'=>by
  rcases Nat.lt_or_ge i xs.length with z | z
  ·rw[List.getElem?_reverse z] at hp'
   obtain⟨u,hu,ru⟩:=r2.get hp'
   rw[← hlen] at hu
   exact⟨u,by omega,hu,ru⟩
  ·rw[List.getElem?_eq_none (by simpa using z)] at hp'
   cases hp'
 cases hk:kd x with
 | L=>
  rw[hk] at q2
  refine⟨λi p hp'=>?_,?_⟩
  ·obtain⟨u,hi,hu,ru⟩:=go i p hp'
   refine⟨⟨vs,u,q2,rfl,hi,hu⟩,λy H' yl=>?_⟩
   obtain⟨e1,e2⟩:=yl
   subst e1
   have e3:=e2 vs q2
   rw[hu] at e3
   cases e3
   exact⟨Same.refl _,ru⟩
  ·show vs.length=xs.reverse.length
   rw[List.length_reverse]
   exact hlen
 | T=>
  rw[hk] at q2
  refine⟨λi p hp'=>?_,?_⟩
  ·obtain⟨u,hi,hu,ru⟩:=go i p hp'
   refine⟨⟨vs,u,q2,rfl,hi,hu⟩,λy H' yl=>?_⟩
   obtain⟨e1,e2⟩:=yl
   subst e1
   have e3:=e2 vs q2
   rw[hu] at e3
   cases e3
   exact⟨Same.refl _,ru⟩
  ·show vs.length=xs.reverse.length
   rw[List.length_reverse]
   exact hlen
end
end MR
namespace MR
open PySem L2
@[simp] def K4:PV->Option (List PV)
 | .str x=>some (chV x)
 | p=>iH p
def iZ3 (f g:Env->Option PV) (env:Env):Option (List PV):=(f env).bind λp=>(g env).bind λq=>(K4 p).bind λxs=>(iH q).bind λys=>some (rK xs ys)
@[simp] theorem Rc (f g:Env->Option PV) (env:Env):iZ3 f g env=((f env).bind λp=>(g env).bind λq=>(K4 p).bind λxs=>(iH q).bind λys=>some (rK xs ys)):=id rfl
section
variable {X:Cx}{b:BX}{G G' L:List Nat}{ro:Bool}{pos p:Pos}{m m1 m2:Md}{e e1 e2:Expr}
end
end MR
namespace MR
open PySem L2
section
variable {X:Cx}{b:BX}{G:List Nat}{pos:Pos}{m1 m2 m3:Md}{e1 e2 e3:Expr}{f1 f2 f3:Env->Option PV}
end
end MR
namespace MR
open PySem L2
section
variable {X:Cx}{b:BX}{G G' L:List Nat}{pos p p2 pos2:Pos}{m m1 m2:Md}{e1 e2:Expr}{f1 f2:Env->Option PV}
@[simp] def iI:PV->PV->Option PV
 | .int i,.int j=>some (.bl (decide (i < j)))
 | _,_=>none
theorem K5:Op2 b .val (rI0 λi j=>.bl (decide (i < j))) iI:=by
 intro Ow H v1 v2 p1 p2 p Q hn r1 r2 e k
 unfold iI at e
 split at e
 ·cases e
  rw[r1.int,r2.int]
  exact⟨_,_,rfl,rfl,k _ H (Same.refl _) (.bl _)⟩
 ·cases e
theorem oJ {j:Nat}(hr:Room j X.A) (h1:SE X b G m1 e1 f1) (h2:SE X b G m2 e2 f2):SC X b G .Lt e1 e2 (b2 iI f1 f2):=kW MJ K5 h1 h2 (lU _)
end
end MR
namespace MR
open PySem L2
def iE2 (f:Env->Option PV) (env:Env):Option (List PV):=(f env).bind λp=>(iH p).bind λxs=>some (eN 0 xs)
@[simp] theorem Rf (f:Env->Option PV) (env:Env):iE2 f env=((f env).bind λp=>(iH p).bind λxs=>some (eN 0 xs)):=id rfl
section
variable {X:Cx}{b:BX}{G G' L:List Nat}{ro:Bool}{pos p:Pos}{m m1 m2:Md}{e e1 e2:Expr}
theorem pP {fr:Bool}{h:Env->Option PV}{es:List Expr}{x1:Nat}{tpos:Pos}(hm:X.mg "enumerate" = none) (he:SE X b G m e h) (hmd:fr=true->m≠.bor) (hK:X.K=b.C.K:=by rfl) (hg:Gl X "enumerate" := by rfl) (hs:starEach [e] X.env=[(false,eval e X.env)]:=by rfl) (hs':starEach [e] X.env=(false,eval e X.env)::starEach [] X.env:=by rfl):
  SI X b G fr (.Tuple es x1 tpos) (.Call (.Name "enumerate" p) [e] [] pos) (iE2 h):=by
 refine PI.imp (PI.all λk:SK=>C_ (k:=k) hg hm (bU he cT hs') hs) fun σ H R ⟨Ow,env,ps,E,hf,k⟩=>?_
 rw[hK]
 obtain⟨p1,hp1,z1⟩:=ao hf
 clear hf
 obtain⟨xs,hxs,z4⟩:=ao z1
 clear z1
 cases z4
 refine⟨kd p1,Ow,env,p1,E,hp1,λv H1 s r=>?_⟩
 obtain⟨a,vs,rfl,qa,ra,ka⟩:=vy (fr:=fr) E r hmd hxs
 refine⟨a,rfl,⟨vs,qa⟩,k _ _ s λOw' H3 h0 hx hn=>?_⟩
 obtain⟨qa',ra'⟩:=ka Ow' H3 h0 hx
 refine⟨λi p hp'=>?_,⟨vs,qa',by rw[ou,ra'.length]⟩⟩
 obtain⟨x,hx',rfl⟩:=sX hp'
 obtain⟨v,hv,rv⟩:=ra'.get hx'
 refine⟨⟨vs,v,qa',hv⟩,λy H' yl=>?_⟩
 obtain⟨t,x',ht,e1,e2,yl⟩:=yl
 subst e1 e2
 have e3:=yl vs qa'
 rw[hv] at e3
 cases e3
 refine⟨bh ht _,.tup aP (.cons ?_ (.cons (rv.ex (.of_same (bh ht _))) .nil))⟩
 rw[Nat.zero_add]
 exact .int _
end
end MR
namespace MR
open PySem L2
inductive Inn (C:MC) (A:Addr->Prop) (H:Hp):List Addr->List (List PV)->Prop
 | nil:Inn C A H [] []
 | cons {c:Addr}{cs:List Addr}{us:List V}{ys:List PV}{yss:List (List PV)}:H c=some (.lst us)->Reps C A H us ys->Inn C A H cs yss->Inn C A H (c::cs) (ys::yss)
theorem Inn.ex {C:MC}{A A':Addr->Prop}{H H':Hp}(e:Ex A H A' H'):∀ {cs:List Addr}{yss:List (List PV)},(∀ c∈cs,H' c=H c)->Inn C A H cs yss->Inn C A' H' cs yss
 | _,_,_,.nil=>.nil
 | _,_,h,.cons q r t=>.cons ((h _ List.mem_cons_self).trans q) (r.ex e) (Inn.ex e (λc hc=>h c (List.mem_cons_of_mem _ hc)) t)
theorem Inn.live {C:MC}{A:Addr->Prop}{H:Hp}:∀ {cs:List Addr}{yss:List (List PV)},Inn C A H cs yss->∀ c∈cs,∃ us,H c=some (.lst us)
 | _,_,.nil,c,hc=>by cases hc
 | _,_,.cons q r t,c,hc=>by
  rcases List.mem_cons.mp hc with z | z
  ·subst z;exact⟨_,q⟩
  ·exact Inn.live t c z
theorem Inn.length {C:MC}{A:Addr->Prop}{H:Hp}:∀ {cs:List Addr}{yss:List (List PV)},Inn C A H cs yss->cs.length=yss.length
 | _,_,.nil=>rfl
 | _,_,.cons q r t=>by rw[List.length_cons,List.length_cons,Inn.length t]
theorem Inn.reps {C:MC}{A A':Addr->Prop}{H:Hp}(e:Ex A H A' H):∀ {cs:List Addr}{yss:List (List PV)},(∀ c∈cs,A' c)->Inn C A H cs yss->Reps C A' H (cs.map V.ref) (yss.map PV.lst)
 | _,_,_,.nil=>.nil
 | _,_,h,.cons q r t=>.cons (.lst q (h _ List.mem_cons_self) (r.ex e)) (Inn.reps e (λc hc=>h c (List.mem_cons_of_mem _ hc)) t)
theorem Inn.get {C:MC}{A:Addr->Prop}{H:Hp}:∀ {cs:List Addr}{yss:List (List PV)}{j:Nat}{ys:List PV},Inn C A H cs yss->yss[j]?=some ys->∃ c us,cs[j]?=some c/\H c=some (.lst us)/\Reps C A H us ys
 | _,_,_,_,.nil,e=>by simp at e
 | _,_,0,_,.cons q r t,e=>by simp at e;subst e;exact⟨_,_,rfl,q,r⟩
 | _,_,j+1,_,.cons q r t,e=>by
  obtain⟨c,us,h1,h2,h3⟩:=Inn.get t (j:=j) (by simpa using e)
  exact⟨c,us,by simpa using h1,h2,h3⟩
theorem Inn.set {C:MC}{A:Addr->Prop}{H H':Hp}{us:List V}{ys:List PV}(e:Ex A H A H') (r':Reps C A H' us ys):∀ {cs:List Addr}{yss:List (List PV)}{j:Nat}{c:Addr},cs.Nodup->cs[j]?=some c->H' c=some (.lst us)->(∀ x∈cs,x≠c->H' x=H x)->Inn C A H cs yss->Inn C A H' cs (yss.set j ys)
 | _,_,_,_,_,h,_,_,.nil=>by simp at h
 | _,_,0,_,nd,h,hc,k,.cons q r t=>by
  simp at h
  subst h
  rw[List.nodup_cons] at nd
  exact .cons hc r' (Inn.ex e (λx hx=>k x (List.mem_cons_of_mem _ hx) λz=>nd.1 (z▸hx)) t)
 | _,_,j+1,_,nd,h,hc,k,.cons q r t=>by
  rw[List.nodup_cons] at nd
  have h':=h
  rw[List.getElem?_cons_succ] at h'
  have hm:=List.mem_of_getElem? h'
  exact .cons ((k _ List.mem_cons_self λz=>nd.1 (z▸hm)).trans q) (r.ex e) (Inn.set e r' (j:=j) nd.2 h' hc (λx hx=>k x (List.mem_cons_of_mem _ hx)) t)
theorem Inn.snoc {C:MC}{A:Addr->Prop}{H:Hp}{c:Addr}{us:List V}{ys:List PV}(q:H c=some (.lst us)) (r:Reps C A H us ys):∀ {cs:List Addr}{yss:List (List PV)},Inn C A H cs yss->Inn C A H (cs++[c]) (yss++[ys])
 | _,_,.nil=>.cons q r .nil
 | _,_,.cons q' r' t=>.cons q' r' (Inn.snoc q r t)
def bn (b:BX) (i:Nat) (a:Addr) (cs:List Addr) (H:Hp):BX:=⟨b.C,λx=>b.A x/\x∉a::cs,λx=>if x∈a::cs then H x else b.H0 x,λj=>if j=i then some (.ref a) else b.fx j⟩
def KN (b:BX) (Ow:Addr->Prop) (a:Addr) (cs:List Addr) (x:Addr):Prop:=Bs b Ow x/\x∉a::cs
theorem yP {b:BX}{i:Nat}{a:Addr}{cs:List Addr}{H H':Hp}(h:∀ x∈a::cs,H' x=H x):bn b i a cs H'=bn b i a cs H:=by
 unfold bn
 congr 1
 funext x
 by_cases hx:x∈a::cs
 ·rw[if_pos hx,if_pos hx,h x hx]
 ·rw[if_neg hx,if_neg hx]
theorem cQ {b:BX}{i:Nat}{a:Addr}{cs:List Addr}{H:Hp}{Ow:Addr->Prop}(lv:∀ x∈a::cs,∃ o,H x=some o){x:Addr}:Bs (bn b i a cs H) Ow x↔KN b Ow a cs x:=by
 constructor
 ·rintro ⟨n,(⟨h,z⟩ | h)⟩
  ·exact⟨⟨n,.inl h⟩,z⟩
  ·have h':(if x∈a::cs then H x else b.H0 x)=none:=h
   by_cases hx:x∈a::cs
   ·rw[if_pos hx] at h'
    obtain⟨o,e⟩:=lv x hx
    rw[h'] at e;cases e
   ·rw[if_neg hx] at h'
    exact⟨⟨n,.inr h'⟩,hx⟩
 ·rintro ⟨⟨n,(h | h)⟩,z⟩
  ·exact⟨n,.inl ⟨h,z⟩⟩
  ·exact⟨n,.inr (by show (if x∈a::cs then H x else b.H0 x)=none;rw[if_neg z];exact h)⟩
structure EN (b:BX) (Ow:Addr->Prop) (G:List Nat) (i:Nat) (σ:St) (env:Env) (H:Hp) (a:Addr) (cs:List Addr) (yss:List (List PV)):Prop where
 val:env[i]?=some (some (.lst (yss.map PV.lst)))
 top:H a=some (.lst (cs.map V.ref))
 nd:(a::cs).Nodup
 new:∀ x∈a::cs,b.H0 x=none
 inn:Inn b.C (KN b Ow a cs) H cs yss
 er:ER (bn b i a cs H) Ow G σ (env.set i none) H
section
variable {b:BX}{Ow:Addr->Prop}{G:List Nat}{i:Nat}{σ:St}{env:Env}{H H':Hp}{a:Addr}{cs:List Addr}{yss:List (List PV)}
theorem EN.live (E:EN b Ow G i σ env H a cs yss):∀ x∈a::cs,∃ o,H x=some o:=λx hx=>by
 rcases List.mem_cons.mp hx with z | z
 ·subst z;exact⟨_,E.top⟩
 ·obtain⟨us,h⟩:=E.inn.live x z;exact⟨_,h⟩
theorem EN.slot (E:EN b Ow G i σ env H a cs yss):σ[i]?=some (some (.ref a)):=E.er.fix i (.ref a) (by show (if i=i then _ else _)=_;rw[if_pos rfl])
theorem EN.not_ow (E:EN b Ow G i σ env H a cs yss):∀ x∈a::cs,¬ Ow x:=λx hx w=>by
 have h:=E.er.new x w
 have h':(if x∈a::cs then H x else b.H0 x)=none:=h
 rw[if_pos hx] at h'
 obtain⟨o,e⟩:=E.live x hx
 rw[h'] at e;cases e
theorem EN.of {Ow':Addr->Prop}{σ':St}{e:Env}(E:EN b Ow G i σ env H a cs yss) (E':ER (bn b i a cs H) Ow' G σ' e H') (x:Ex (Bs (bn b i a cs H) Ow) H (Bs (bn b i a cs H) Ow') H'):
  EN b Ow' G i σ' (e.set i (some (.lst (yss.map PV.lst)))) H' a cs yss/\Ex (KN b Ow a cs) H (KN b Ow' a cs) H':=by
 have st:∀ y∈a::cs,H' y=H y:=λy hy=>by
  obtain⟨o,h⟩:=E.live y hy
  rw[h]
  exact E'.same y o (by show (if y∈a::cs then H y else b.H0 y)=some o;rw[if_pos hy];exact h)
 have lv':∀ y∈a::cs,∃ o,H' y=some o:=λy hy=>by rw[st y hy];exact E.live y hy
 have x':Ex (KN b Ow a cs) H (KN b Ow' a cs) H':=λc o hc=>⟨λq=>by
  obtain⟨h1,h2⟩:=(x c o hc).1 ((cQ E.live).mpr q)
  exact⟨h1,(cQ E.live).mp h2⟩,(x c o hc).2⟩
 have hl:i < e.length:=by
  have h:=E'.fix i (.ref a) (by show (if i=i then _ else _)=_;rw[if_pos rfl])
  rw[← E'.len]
  rcases Nat.lt_or_ge i σ'.length with z | z
  ·exact z
  ·rw[List.getElem?_eq_none z] at h;cases h
 refine⟨⟨by rw[List.getElem?_set_self hl],by rw[st a List.mem_cons_self];exact E.top,E.nd,E.new,E.inn.ex x' λc hc=>st c (List.mem_cons_of_mem _ hc),?_⟩,x'⟩
 rw[yP st,List.set_set]
 exact E'.forget i
theorem EN.up (E:EN b Ow G i σ env H a cs yss) (s:Same H H'):EN b Ow G i σ env H' a cs yss:=by
 have h:=(E.of (E.er.up s) (.of_same s)).1
 rw[List.set_set] at h
 have hl:i < env.length:=by
  rcases Nat.lt_or_ge i env.length with z | z
  ·exact z
  ·have:=E.val;rw[List.getElem?_eq_none z] at this;cases this
 have e:env.set i (some (.lst (yss.map PV.lst)))=env:=by
  refine List.ext_getElem? λj=>?_
  by_cases hj:i=j
  ·subst hj;rw[List.getElem?_set_self hl,E.val]
  ·rw[List.getElem?_set_ne hj]
 rw[e] at h
 exact h
theorem EN.out (E:EN b Ow G i σ env H a cs yss) (hi:i∉G) (hx:b.fx i=none):ER b Ow G σ env H:=by
 have no:=E.not_ow
 have w:Ex (KN b Ow a cs) H (Bs b Ow) H:=bF λc o _ q=>q.1
 have w':Ex (Bs (bn b i a cs H) Ow) H (Bs b Ow) H:=bF λc o _ q=>((cQ E.live).mp q).1
 have back:∀ {j:Nat}{q:PV},i≠j->env[j]?=some (some q)->(env.set i none)[j]?=some (some q):=λ{j q} hj e=>by rw[List.getElem?_set_ne hj];exact e
 refine⟨by rw[E.er.len,List.length_set],λc o h=>E.er.same c o ?_,E.er.live,λc z=>?_,λj q e n=>?_,λj q e n=>?_,λj k c q q' e1 n1 s1 e2 n2 s2=>?_,λk v hv=>E.er.fix k v ?_⟩
 ·have hc:c∉a::cs:=λz=>by rw[E.new c z] at h;cases h
  show (if c∈a::cs then H c else b.H0 c)=some o
  rw[if_neg hc];exact h
 ·have h:=E.er.new c z
  have h':(if c∈a::cs then H c else b.H0 c)=none:=h
  rw[if_neg λy=>no c y z] at h'
  exact h'
 ·by_cases hj:i=j
  ·subst hj
   rw[E.val] at e
   cases e
   have ha:Bs b Ow a:=⟨no a List.mem_cons_self,.inr (E.new a List.mem_cons_self)⟩
   exact⟨_,E.slot,.lst E.top ha (E.inn.reps w λc hc=>⟨no c (List.mem_cons_of_mem _ hc),.inr (E.new c (List.mem_cons_of_mem _ hc))⟩)⟩
  ·obtain⟨v,h1,h2⟩:=E.er.val j q (back hj e) n
   exact⟨v,h1,h2.ex w'⟩
 ·have hj:i≠j:=λz=>hi (z▸n)
  obtain⟨c,h1,h2,h3⟩:=E.er.own j q (back hj e) n
  exact⟨c,h1,h2,h3.ex w' λo z=>z⟩
 ·have hj:i≠j:=λz=>hi (z▸n1)
  have hk:i≠k:=λz=>hi (z▸n2)
  exact E.er.sep j k c q q' (back hj e1) n1 s1 (back hk e2) n2 s2
 ·show (if k=i then some (V.ref a) else b.fx k)=some v
  rw[if_neg λz=>by rw[z,hx] at hv;cases hv]
  exact hv
end
end MR
namespace MR
open PySem L2
def tNe (b:BX) (G:List Nat) (i:Nat) (f:Env->Option Out):TS:=λD σ H=>∃ Ow env a cs yss env',EN b Ow G i σ env H a cs yss/\f env=some (.nx env') /\
 ∀ Ow' σ' H' cs' yss',EN b Ow' G i σ' env' H' a cs' yss'->(∀ x∈cs,x∈cs')->Ex (KN b Ow a cs) H (KN b Ow' a cs') H'->D.nx σ' H'
abbrev NS (X:Cx) (b:BX) (G:List Nat) (i:Nat) (st:Stmt) (f:Env->Option Out):Prop:=PS X st (tNe b G i f)
abbrev NSs (X:Cx) (b:BX) (G:List Nat) (i:Nat) (st:List Stmt) (f:Env->Option Out):Prop:=PSs X st (tNe b G i f)
def hid (i:Nat) (f:Env->Option Out) (env:Env):Option Out:=(f (env.set i none)).bind λo=>match o with
 | .nx e=>some (.nx (e.set i (env.getD i none)))
 | _=>none
@[simp] theorem Rg (i:Nat) (f:Env->Option Out) (env:Env):hid i f env=((f (env.set i none)).bind λo=>match o with
 | .nx e=>some (.nx (e.set i (env.getD i none)))
 | _=>none):=id rfl
def nIf (i:Nat) (c:Env->Option Bool) (f g:Env->Option Out) (env:Env):Option Out:=(c (env.set i none)).bind λk=>if k=true then f env else g env
@[simp] theorem vz (i:Nat) (c:Env->Option Bool) (f g:Env->Option Out) (env:Env):nIf i c f g env=((c (env.set i none)).bind λk=>if k=true then f env else g env):=id rfl
def gH (i:Nat) (g:PV->Env->Option Env) (p:PV) (env:Env):Option Env:=(g p (env.set i none)).map λe=>e.set i (env.getD i none)
@[simp] theorem RG (i:Nat) (g:PV->Env->Option Env) (p:PV) (env:Env):gH i g p env=((g p (env.set i none)).map λe=>e.set i (env.getD i none)):=id rfl
def onx (f:Env->Option Out) (env:Env):Option Out:=(f env).bind λo=>match o with
 | .nx e=>some (.nx e)
 | _=>none
@[simp] theorem K6 (f:Env->Option Out) (env:Env):onx f env=((f env).bind λo=>match o with
 | .nx e=>some (.nx e)
 | _=>none):=id rfl
def vA (i:Nat) (g:PV->Env->Option Env) (src:Env->Option (List PV)) (ds:List Nat) (f:Env->Option Out) (env:Env):Option Out:=(src (env.set i none)).bind λxs=>bK (gH i g) ds (onx f) xs (clr ds env)
@[simp] theorem Hb (i:Nat) (g:PV->Env->Option Env) (src:Env->Option (List PV)) (ds:List Nat) (f:Env->Option Out) (env:Env):vA i g src ds f env=((src (env.set i none)).bind λxs=>bK (gH i g) ds (onx f) xs (clr ds env)):=id rfl
@[simp] def apV:PV->PV->PV->Option PV
 | .lst ws,.int k,p=>(ixN ws.length k).bind λj=>(ws[j]?).bind λw=>match w with
  | .lst ys=>if ys.length < 1000000 then some (.lst (ws.set j (.lst (ys++[p])))) else none
  | _=>none
 | _,_,_=>none
def pQ (i:Nat) (f h:Env->Option PV) (env:Env):Option Out:=(bV i env).bind λx=>(f (env.set i none)).bind λk=>(h (env.set i none)).bind λp=>(apV x k p).bind λy=>some (.nx (env.set i (some y)))
@[simp] theorem Qz (i:Nat) (f h:Env->Option PV) (env:Env):pQ i f h env=((bV i env).bind λx=>(f (env.set i none)).bind λk=>(h (env.set i none)).bind λp=>(apV x k p).bind λy=>some (.nx (env.set i (some y)))):=id rfl
@[simp] def newV:PV->Option PV
 | .lst ws=>if ws.length < 1000000 then some (.lst (ws++[.lst []])) else none
 | _=>none
def pR (i:Nat) (env:Env):Option Out:=(bV i env).bind λx=>(newV x).bind λy=>some (.nx (env.set i (some y)))
@[simp] theorem QB (i:Nat) (env:Env):pR i env=((bV i env).bind λx=>(newV x).bind λy=>some (.nx (env.set i (some y)))):=id rfl
section
variable {X:Cx}{b:BX}{G G' L:List Nat}{ro:Bool}{i:Nat}{st:Stmt}{rest:List Stmt}{f g:Env->Option Out}{e e1 e2:Expr}{h h1 h2:Env->Option PV}{m m1 m2:Md}{pos:Pos}
theorem vB {env:Env}{i:Nat}{p:PV}(h:env[i]?=some (some p)):env.getD i none=some p:=by rw[List.getD_eq_getElem?_getD,h];rfl
theorem yQ:NSs X b G i [] sNx:=PSs.imp wV λD σ H ⟨Ow,env,a,cs,yss,env',E,hf,k⟩=>by cases hf;exact k Ow σ H cs yss E (λ_ z=>z) (Ex.refl _ _)
theorem gU (x:NS X b G i st f) (c:NSs X b G i rest g):NSs X b G i (st::rest) (aD f g):=PSs.imp (fK x c) λD σ H ⟨Ow,env,a,cs,yss,env',E,hf,k⟩=>by
 unfold aD at hf
 cases q:f env with
 | none=>rw[q] at hf;cases hf
 | some o1=>
  rw[q] at hf
  cases o1 with
  | nx e'=>exact⟨Ow,env,a,cs,yss,e',E,q,λOw1 σ1 H1 cs1 yss1 E1 s1 x1=>⟨Ow1,e',a,cs1,yss1,env',E1,hf,λOw2 σ2 H2 cs2 yss2 E2 s2 x2=>k Ow2 σ2 H2 cs2 yss2 E2 (λz hz=>s2 z (s1 z hz)) (x1.trans x2)⟩⟩
  | bk e'=>cases hf
  | ct e'=>cases hf
  | rt p=>cases hf
theorem yR (x:NS X b G i st f):NSs X b G i [st] f:=lQ x
theorem gj (x:∀ a cs H,SS X (bn b i a cs H) G G [] false st f):NS X b G i st (hid i f):=λpins s σ H D I ⟨Ow,env,a,cs,yss,env',E,hf,k⟩=>by
 obtain⟨o,ho,z⟩:=ao hf
 refine x a cs H pins s σ H D I ⟨Ow,env.set i none,o,E.er,ho,?_⟩
 cases o with
 | nx e'=>
  rw[vB E.val] at z
  cases z
  intro Ow' σ' H' E' x'
  obtain⟨E2,x2⟩:=E.of E' x'
  exact k Ow' σ' H' cs yss E2 (λ_ z=>z) x2
 | bk e'=>cases z
 | ct e'=>cases z
 | rt p=>cases z
theorem Di {c:Expr}{k:Env->Option Bool}{sa sb:List Stmt}(hc:∀ a cs H,ST X (bn b i a cs H) G c k) (ha:NSs X b G i sa f) (hb:NSs X b G i sb g):NS X b G i (.If c sa sb pos) (nIf i k f g):=λpins s σ H D I ⟨Ow,env,a,cs,yss,env',E,hf,kk⟩=>by
 obtain⟨p,hp,z1⟩:=ao hf
 refine Et (hc a cs H) ha hb pins s σ H D I ⟨Ow,env.set i none,p,E.er,hp,λH' s'=>?_⟩
 have go:∀ {f:Env->Option Out},f env=some (.nx env')->tNe b G i f D σ H':=λ{f} hz=>⟨Ow,env,a,cs,yss,env',E.up s',hz,λOw2 σ2 H2 cs2 yss2 E2 s2 x2=>kk Ow2 σ2 H2 cs2 yss2 E2 s2 ((Ex.of_same s').trans x2)⟩
 cases p with
 | true=>exact Cw (go z1)
 | false=>exact Cv (go z1)
end
end MR
namespace MR
open PySem L2
section
variable {X:Cx}{b:BX}{G G' L:List Nat}{ro:Bool}{i:Nat}{st:Stmt}{rest:List Stmt}{f g:Env->Option Out}{e e1 e2:Expr}{h h1 h2:Env->Option PV}{m m1 m2:Md}{pos:Pos}
def tGN (b:BX) (G:List Nat) (i:Nat) (g:PV->Env->Option Env):TG:=λv σ H Q=>∃ a cs H0,tMG (bn b i a cs H0) G g v σ H Q
theorem rM:∀ {ds:List Nat}{env:Env}{i:Nat},i∉ds->(clr ds env)[i]?=env[i]?
 | [],_,_,_=>rfl
 | d::ds,env,i,h=>by
  rw[List.mem_cons,not_or] at h
  show (clr ds (env.set d none))[i]?=_
  rw[rM h.2,List.getElem?_set_ne (Ne.symm h.1)]
theorem rN:∀ {ds:List Nat}{env:Env}{i:Nat}{v:Option PV},i∉ds->(clr ds env).set i v=clr ds (env.set i v)
 | [],_,_,_,_=>rfl
 | d::ds,env,i,v,h=>by
  rw[List.mem_cons,not_or] at h
  show (clr ds (env.set d none)).set i v=clr ds ((env.set i v).set d none)
  rw[rN h.2,List.set_comm _ _ (Ne.symm h.1)]
theorem EN.clr {Ow:Addr->Prop}{σ:St}{env:Env}{H:Hp}{a:Addr}{cs:List Addr}{yss:List (List PV)}{ds:List Nat}(E:EN b Ow G i σ env H a cs yss) (hd:i∉ds):EN b Ow G i σ (clr ds env) H a cs yss:=
 ⟨by rw[rM hd];exact E.val,E.top,E.nd,E.new,E.inn,by rw[rN hd];exact E.er.clr⟩
theorem Fp {tg it:Expr}{body:List Stmt}{g:PV->Env->Option Env}{src:Env->Option (List PV)}{f:Env->Option Out}(ds:List Nat) (hi:∀ a cs H,SI X (bn b i a cs H) G true tg it src) (hg:∀ a cs H,SG X (bn b i a cs H) G tg g) (hb:NSs X b G i body f)
  (hp:PassesOwn (model X.prog X.w) X.A X.env X.xe) (hd:i∉ds:=by decide) (hc:X.calm=true:=by rfl) (hs:∀ x,foldedSetIterable it X.env x=pure x:=by intro _;rfl):NS X b G i (.For tg it body [] pos) (vA i g src ds f):=λpins s σ H D I ⟨Ow,env,a,cs,yss,env',E,hf,k⟩=>by
 obtain⟨ps,hps,hl⟩:=ao hf
 have hgN:PG X tg (tGN b G i g):=λpins s σ H v w Q I r ⟨a,cs,H0,q⟩=>hg a cs H0 pins s σ H v w Q I r q
 refine zE hp hc (hi a cs H) hgN hb hs pins s σ H D I ⟨Ow,env.set i none,ps,E.er,hps,λJ H1 s1 iw=>?_⟩
 refine⟨λn m σ2 H2=>m=ps.length - n/\n<=ps.length/\∃ Ow2 env2 cs2 yss2,EN b Ow2 G i σ2 env2 H2 a cs2 yss2/\(∀ x∈cs,x∈cs2)/\Ex (KN b Ow a cs) H1 (KN b Ow2 a cs2) H2/\bK (gH i g) ds (onx f) (ps.drop n) env2=some (.nx env'),⟨ps.length,by simp,Nat.zero_le _,Ow,clr ds env,cs,yss,(E.up s1).clr hd,λ_ z=>z,Ex.refl _ _,by simpa using hl⟩,?_⟩
 rintro n m σ2 H2 ⟨rfl,hn,Ow2,env2,cs2,yss2,E2,sub2,x2,l2⟩
 have sub':∀ x,x∉a::cs2->x∉a::cs:=λx hx z=>hx (by
  rcases List.mem_cons.mp z with q | q
  ·rw[q];exact List.mem_cons_self
  ·exact List.mem_cons_of_mem _ (sub2 x q))
 have into:∀ x,KN b Ow2 a cs2 x->Bs (bn b i a cs H) (λy=>Ow2 y\/y∈a::cs2) x:=λx q=>by
  have z:=(cQ (i:=i) E.live (Ow:=Ow2)).mpr ⟨q.1,sub' x q.2⟩
  exact⟨λy=>y.elim q.1.1 q.2,z.2⟩
 have outof:∀ x,Bs (bn b i a cs H) (λy=>Ow2 y\/y∈a::cs2) x->KN b Ow2 a cs2 x:=λx q=>by
  have z:=(cQ (i:=i) E.live (Ow:=λy=>Ow2 y\/y∈a::cs2)).mp q
  exact⟨⟨λy=>z.1.1 (.inl y),z.1.2⟩,λy=>z.1.1 (.inr y)⟩
 obtain⟨w1,w2⟩:=iw (λy=>Ow2 y\/y∈a::cs2) H2 (λz=>by cases z) (λc o hc=>⟨λq=>by
  obtain⟨h1,h2⟩:=(x2 c o hc).1 ((cQ E.live).mp q)
  exact⟨h1,into c h2⟩,(x2 c o hc).2⟩) λc hc=>into c ((cQ E2.live).mp (E2.er.fresh hc))
 have xk:Ex (KN b Ow a cs) H (KN b Ow2 a cs2) H2:=(Ex.of_same s1).trans x2
 by_cases hlt:n < ps.length
 ·rw[List.drop_eq_getElem_cons hlt] at l2
  obtain⟨e1,he1,l2⟩:=ao l2
  obtain⟨o,ho,l2⟩:=ao l2
  obtain⟨e0,he0,rfl⟩:=Option.map_eq_some_iff.mp he1
  obtain⟨o',ho',hz⟩:=ao ho
  obtain⟨g1,g2⟩:=w1 n ps[n] (List.getElem?_eq_getElem hlt)
  refine .inr ⟨g1,fun σ' H'=>n+1<=ps.length/\∃ Ow2 env2 cs2 yss2,EN b Ow2 G i σ' env2 H' a cs2 yss2/\(∀ x∈cs,x∈cs2)/\Ex (KN b Ow a cs) H1 (KN b Ow2 a cs2) H'/\bK (gH i g) ds (onx f) (ps.drop (n+1)) env2=some (.nx env'),fun σ' H' q=>⟨ps.length - (n+1),by omega,rfl,q⟩,λx H' y=>?_⟩
  obtain⟨s3,r3⟩:=g2 x H' y
  have E3:=E2.up s3
  have r3':Rep b.C (Bs (bn b i a cs2 H') Ow2) H' x ps[n]:=r3.ex (bF λc o _ q=>(cQ E3.live).mpr (outof c q))
  refine⟨a,cs2,H',Ow2,env2.set i none,ps[n],e0,E3.er,r3',he0,fun σ3 E4=>?_⟩
  obtain⟨E5,x5⟩:=E3.of E4 (Ex.refl _ _)
  rw[vB E2.val] at ho'
  cases o' with
  | nx e'=>
   cases hz
   exact⟨Ow2,_,a,cs2,yss2,e',E5,ho',λOw6 σ6 H6 cs6 yss6 E6 s6 x6=>⟨hlt,Ow6,_,cs6,yss6,E6.clr hd,λz hz=>s6 z (sub2 z hz),x2.trans ((Ex.of_same s3).trans (x5.trans x6)),l2⟩⟩
  | bk e'=>cases hz
  | ct e'=>cases hz
  | rt p=>cases hz
 ·have e:n=ps.length:=by omega
  subst e
  rw[List.drop_length] at l2
  cases l2
  exact .inl ⟨w2,k Ow2 σ2 H2 cs2 yss2 E2 sub2 xk⟩
end
end MR
namespace MR
open PySem L2
section
variable {X:Cx}{b:BX}{G G' L:List Nat}{ro:Bool}{i:Nat}{st:Stmt}{rest:List Stmt}{f g:Env->Option Out}{e e1 e2:Expr}{h h1 h2:Env->Option PV}{m m1 m2:Md}{pos:Pos}
theorem EN.rebase {Ow:Addr->Prop}{σ:St}{env:Env}{H H':Hp}{a:Addr}{cs cs':List Addr}{yss yss':List (List PV)}(E:EN b Ow G i σ env H a cs yss) (sub:∀ x∈cs,x∈cs') (hx:∀ x o,H x=some o->x∉a::cs'->H' x=some o) (hnew:∀ x∈a::cs',x∉a::cs->H x=none)
  (nd':(a::cs').Nodup) (nw':∀ x∈a::cs',b.H0 x=none) (top':H' a=some (.lst (cs'.map V.ref))) (inn':Inn b.C (KN b Ow a cs') H' cs' yss'):
  EN b Ow G i σ (env.set i (some (.lst (yss'.map PV.lst)))) H' a cs' yss'/\Ex (KN b Ow a cs) H (KN b Ow a cs') H':=by
 have lv':∀ x∈a::cs',∃ o,H' x=some o:=λx hx'=>by
  rcases List.mem_cons.mp hx' with z | z
  ·subst z;exact⟨_,top'⟩
  ·obtain⟨us,q⟩:=inn'.live x z;exact⟨_,q⟩
 have sub':∀ x∈a::cs,x∈a::cs':=λx hx'=>by
  rcases List.mem_cons.mp hx' with z | z
  ·rw[z];exact List.mem_cons_self
  ·exact List.mem_cons_of_mem _ (sub x z)
 have no:=E.not_ow
 have no':∀ x∈a::cs',¬ Ow x:=λx hx' w=>by
  by_cases z:x∈a::cs
  ·exact no x z w
  ·obtain⟨o,q⟩:=E.er.live x w
   rw[hnew x hx' z] at q;cases q
 have mutN:∀ x∈a::cs,∃ us,H x=some (.lst us):=λx hx'=>by
  rcases List.mem_cons.mp hx' with z | z
  ·subst z;exact⟨_,E.top⟩
  ·exact E.inn.live x z
 have out:∀ x o,H x=some o->x∉a::cs->x∉a::cs':=λx o q z y=>by rw[hnew x y z] at q;cases q
 have xk:Ex (KN b Ow a cs) H (KN b Ow a cs') H':=λc o hc=>⟨λq=>⟨hx c o hc (out c o hc q.2),q.1,out c o hc q.2⟩,λmm=>hx c o hc (out c o hc λz=>by
  obtain⟨us,q⟩:=mutN c z
  rw[hc] at q;cases q;cases mm)⟩
 have xb:Ex (Bs (bn b i a cs H) Ow) H (Bs (bn b i a cs' H') Ow) H':=λc o hc=>⟨λq=>by
  obtain⟨z1,z2⟩:=(xk c o hc).1 ((cQ E.live).mp q)
  exact⟨z1,(cQ lv').mpr z2⟩,(xk c o hc).2⟩
 have hl:i < env.length:=by
  rcases Nat.lt_or_ge i env.length with z | z
  ·exact z
  ·have:=E.val;rw[List.getElem?_eq_none z] at this;cases this
 refine⟨⟨by rw[List.getElem?_set_self hl],top',nd',nw',inn',?_⟩,xk⟩
 rw[List.set_set]
 refine⟨E.er.len,λc o hc=>?_,λc w=>?_,λc w=>?_,λj q eq n=>?_,λj q eq n=>?_,E.er.sep,E.er.fix⟩
 ·have hc':(if c∈a::cs' then H' c else b.H0 c)=some o:=hc
  by_cases z:c∈a::cs'
  ·rw[if_pos z] at hc';exact hc'
  ·rw[if_neg z] at hc'
   refine hx c o (E.er.same c o ?_) z
   show (if c∈a::cs then H c else b.H0 c)=some o
   rw[if_neg λy=>z (sub' c y)];exact hc'
 ·obtain⟨o,q⟩:=E.er.live c w
  exact⟨o,hx c o q λz=>no' c z w⟩
 ·show (if c∈a::cs' then H' c else b.H0 c)=none
  rw[if_neg λz=>no' c z w]
  have q:=E.er.new c w
  have q':(if c∈a::cs then H c else b.H0 c)=none:=q
  rw[if_neg λz=>no c z w] at q'
  exact q'
 ·obtain⟨v,z1,z2⟩:=E.er.val j q eq n
  exact⟨v,z1,z2.ex xb⟩
 ·obtain⟨c,z1,z2,z3⟩:=E.er.own j q eq n
  exact⟨c,z1,z2,z3.ex xb λo y=>hx c o y λz=>no' c z z2⟩
theorem Fq (i:Nat){x:Str}{p1 spos apos cpos:Pos}(he1:∀ a cs H,SE X (bn b i a cs H) G m1 e1 h1) (he2:∀ a cs H,SE X (bn b i a cs H) G .val e2 h2) (hN:X.N[i]?=some x:=by rfl) (hv:Vis X.env.scope x:=by first | exact Or.inl rfl | exact Or.inr (Or.inl rfl) | exact Or.inr (Or.inr rfl)) (hd:(x == ("__debug__" : Str))=false:=by decide)
  (hcd:(x == ("__classdict__" : Str))=false:=by decide) (hpi:oY e1:=by intro _ _;rfl) (hbase:attributeBase (.Subscript (.Name x p1) e1 spos) "append" X.env (eval (.Subscript (.Name x p1) e1 spos) X.env)=eval (.Subscript (.Name x p1) e1 spos) X.env:=by rfl)
  (hfew:((backTo cpos (starEach [e2] X.env)).all (λx=>!x.1)&&(backToKw cpos (keywordEach [] X.env)).all (λx=>x.1.isSome)
   && decide ([e2].length+([]:List Keyword).length+(if ([]:List Keyword).isEmpty then 0 else 1) < 30))=true:=by rfl)
  (hline:(apos.endLine == cpos.line)=true:=by rfl) (hs:starEach [e2] X.env=(false,eval e2 X.env)::starEach [] X.env:=by rfl) (hK:X.K=b.C.K:=by rfl):
  NS X b G i (.Expr (.Call (.Attribute (.Subscript (.Name x p1) e1 spos) "append" apos) [e2] [] cpos) pos) (pQ i h1 h2):=λpins s σ H D I ⟨Ow,env,a,cs,yss,env',E,hf,kk⟩=>by
 obtain⟨px,hpx,z1⟩:=ao hf
 clear hf
 obtain⟨pk,hpk,z2⟩:=ao z1
 clear z1
 obtain⟨p,hp,z3⟩:=ao z2
 clear z2
 obtain⟨y,hy,z4⟩:=ao z3
 clear z3
 cases z4
 have hpx':=cJ hpx
 rw[E.val] at hpx'
 cases hpx'
 cases pk <;> simp only[apV] at hy <;> first | cases hy | skip
 rename_i k
 obtain⟨j,hj,z5⟩:=ao hy
 clear hy
 obtain⟨w,hw,z6⟩:=ao z5
 clear z5
 rw[List.getElem?_map] at hw
 obtain⟨ys,hys,rfl⟩:=Option.map_eq_some_iff.mp hw
 simp only at z6
 split at z6
 ·rename_i hlt
  cases z6
  obtain⟨c,us,hc,hHc,hr⟩:=E.inn.get hys
  have hcm:c∈cs:=List.mem_of_getElem? hc
  have hat:atI (cs.map V.ref) k=some (.ref c):=by
   unfold atI
   rw[List.length_map] at hj ⊢
   rw[E.inn.length,hj]
   simp[hc]
  refine lR (ql PySem.F.plainAttrs_list PySem.F.slot_list_append PySem.F.type_list_append jg (yo (r:=yp X.K) ix_list (dN hN hv hd hcd) ((he1 a cs H).bor) hpi) (bU (he2 a cs H) cT hs) hbase hfew hline hs rfl) rfl pins s σ H D I ?_
  refine⟨_,E.slot,Ow,env.set i none,.int k,E.er,hpk,λv H1 s1 r1=>?_⟩
  refine⟨a,_,k,_,rfl,RepB.int r1,SqL.of (s1 _ _ E.top),hat,.inl ⟨rfl,_,SqL.of (s1 _ _ hHc)⟩,Ow,env.set i none,p,E.er.up s1,hp,λv2 H2 s2 r2=>?_⟩
  have hHc2:=s2 _ _ (s1 _ _ hHc)
  refine⟨c,us,v2,rfl,rfl,hHc2,gG (by rw[hr.length];omega),?_⟩
  have E2:=E.up (s1.trans s2)
  have hac:a≠c:=λz=>(List.nodup_cons.mp E.nd).1 (z▸hcm)
  have ndc:=(List.nodup_cons.mp E.nd).2
  have xc:Ex (KN b Ow a cs) H2 (KN b Ow a cs) (upd H2 c (.lst (us++[v2]))):=λd o hd=>⟨λq=>⟨by rw[aH (λz:d=c=>q.2 (z▸List.mem_cons_of_mem _ hcm))];exact hd,q⟩,λmm=>by
   have hdc:d≠c:=λz=>by subst z;rw[hHc2] at hd;cases hd;cases mm
   rw[aH hdc];exact hd⟩
  have rr:Reps b.C (KN b Ow a cs) H2 (us++[v2]) (ys++[p]):=by
   have r2':Rep b.C (Bs (bn b i a cs H) Ow) H2 v2 p:=r2
   exact((hr.ex (.of_same (s1.trans s2)))).append (.cons (r2'.ex (bF λc o _ q=>(cQ E.live).mp q)) .nil)
  have inn':=Inn.set xc (rr.ex xc) ndc hc aP (λz hz hne=>aH hne) E2.inn
  obtain⟨E3,x3⟩:=E2.rebase (cs':=cs) (H':=upd H2 c (.lst (us++[v2]))) (λ_ z=>z) (λz o hz hn=>by rw[aH (λq:z=c=>hn (q▸List.mem_cons_of_mem _ hcm))];exact hz) (λz h1 h2=>absurd h1 h2) E.nd E.new (by rw[aH hac];exact E2.top) inn'
  rw[List.map_set] at E3
  exact kk Ow σ _ cs _ E3 (λ_ z=>z) ((Ex.of_same (s1.trans s2)).trans x3)
 ·cases z6
end
end MR
namespace MR
open PySem L2
def tEm:Nat->TA
 | 0=>Cj
 | n+1=>Ew (Jt Cj) (tEm n)
theorem xm:∀ (n:Nat){σ:St}{H:Hp}{Q:List V->Hp->Prop},(∀ (cs:List Addr) (H2:Hp),cs.length=n->cs.Nodup->(∀ c∈cs,H c=none/\H2 c=some (.lst []))->(∀ x,x∉cs->H2 x=H x)->Q (cs.map V.ref) H2)->tEm n σ H Q
 | 0,σ,H,Q,h=>h [] H rfl .nil (λc hc=>by cases hc) λ_ _=>rfl
 | n+1,σ,H,Q,h=>by
  refine⟨Nat.zero_le _,λp hp=>?_⟩
  refine xm n λcs H2 hl nd hc ho=>?_
  have np:p∉cs:=λz=>by
   have:=(hc p z).1
   rw[aP] at this;cases this
  refine h (p::cs) H2 (by rw[List.length_cons,hl]) (List.nodup_cons.mpr ⟨np,nd⟩) (λc hcm=>?_) λx hx=>?_
  ·rcases List.mem_cons.mp hcm with z | z
   ·subst z;exact⟨hp,by rw[ho c np,aP]⟩
   ·have hne:c≠p:=λq=>np (q▸z)
    refine⟨?_,(hc c z).2⟩
    have:=(hc c z).1
    rw[aH hne] at this
    exact this
  ·rw[List.mem_cons,not_or] at hx
   rw[ho x hx.2,aH hx.1]
def qI (i n:Nat) (env:Env):Option Out:=if i < env.length/\n<=1000 then some (.nx (env.set i (some (.lst (List.replicate n (.lst [])))))) else none
@[simp] theorem Dj (i n:Nat) (env:Env):qI i n env=if i < env.length/\n<=1000 then some (.nx (env.set i (some (.lst (List.replicate n (.lst [])))))) else none:=id rfl
section
variable {X:Cx}{b:BX}{G G' L:List Nat}{ro:Bool}{i n:Nat}{st:Stmt}{es:List Expr}{rest:List Stmt}{f g:Env->Option Out}{e e1 e2:Expr}{h h1 h2:Env->Option PV}{m m1 m2:Md}{pos:Pos}
theorem vC:PA X [] (tEm 0):=cT
theorem xn {p:Pos}(hr:PA X es (tEm n)) (hs:starEach (.List [] p::es) X.env=(false,eval (.List [] p) X.env)::starEach es X.env:=by rfl):PA X (.List [] p::es) (tEm (n+1)):=bU (uJ cT) hr hs
theorem Ft (i:Nat){x:Str}{p1 lpos apos cpos:Pos}(hN:X.N[i]?=some x:=by rfl) (hv:Vis X.env.scope x:=by first | exact Or.inl rfl | exact Or.inr (Or.inl rfl) | exact Or.inr (Or.inr rfl)) (hd:(x == ("__debug__" : Str))=false:=by decide)
  (hcd:(x == ("__classdict__" : Str))=false:=by decide) (hbase:attributeBase (.Name x p1) "append" X.env (eval (.Name x p1) X.env)=eval (.Name x p1) X.env:=by rfl)
  (hfew:((backTo cpos (starEach [.List [] lpos] X.env)).all (λx=>!x.1)&&(backToKw cpos (keywordEach [] X.env)).all (λx=>x.1.isSome)
   && decide ([Expr.List [] lpos].length+([]:List Keyword).length+(if ([]:List Keyword).isEmpty then 0 else 1) < 30))=true:=by rfl)
  (hline:(apos.endLine == cpos.line)=true:=by rfl) (hs:starEach [.List [] lpos] X.env=(false,eval (.List [] lpos) X.env)::starEach [] X.env:=by rfl):
  NS X b G i (.Expr (.Call (.Attribute (.Name x p1) "append" apos) [.List [] lpos] [] cpos) pos) (pR i):=λpins s σ H D I ⟨Ow,env,a,cs,yss,env',E,hf,kk⟩=>by
 obtain⟨px,hpx,z1⟩:=ao hf
 clear hf
 obtain⟨y,hy,z4⟩:=ao z1
 clear z1
 cases z4
 have hpx':=cJ hpx
 rw[E.val] at hpx'
 cases hpx'
 simp only[newV,List.length_map] at hy
 split at hy
 ·rename_i hlt
  cases hy
  refine lR (ql PySem.F.plainAttrs_list PySem.F.slot_list_append PySem.F.type_list_append jg (dN hN hv hd hcd) (xn vC hs) hbase hfew hline hs rfl) rfl pins s σ H D I ?_
  refine⟨_,E.slot,.inl ⟨rfl,_,SqL.of E.top⟩,Nat.zero_le _,λc hc=>?_⟩
  have hca:a≠c:=λz=>by have:=E.top;rw[z,hc] at this;cases this
  refine⟨a,_,_,rfl,rfl,by rw[aH hca];exact E.top,gG (by rw[List.length_map,E.inn.length];omega),?_⟩
  have hcn:c∉a::cs:=λz=>by obtain⟨o,q⟩:=E.live c z;rw[hc] at q;cases q
  have hcs:c∉cs:=λz=>hcn (List.mem_cons_of_mem _ z)
  have nd1:=List.nodup_cons.mp E.nd
  have hH:∀ z o,H z=some o->z≠a->(upd (upd H c (.lst [])) a (.lst (cs.map V.ref++[.ref c]))) z=some o:=λz o hz hza=>by
   rw[aH hza,aH (aV hz hc)];exact hz
  have hHc:(upd (upd H c (.lst [])) a (.lst (cs.map V.ref++[.ref c]))) c=some (.lst []):=by rw[aH (Ne.symm hca),aP]
  have xc:Ex (KN b Ow a cs) H (KN b Ow a (cs++[c])) (upd (upd H c (.lst [])) a (.lst (cs.map V.ref++[.ref c]))):=λd o hd=>⟨λq=>(by
   have hda:d≠a:=λz=>q.2 (z▸List.mem_cons_self)
   refine⟨hH d o hd hda,q.1,λz=>?_⟩
   rcases List.mem_cons.mp z with z | z
   ·exact hda z
   ·rcases List.mem_append.mp z with z | z
    ·exact q.2 (List.mem_cons_of_mem _ z)
    ·rw[List.mem_singleton] at z;rw[z,hc] at hd;cases hd),λmm=>hH d o hd λz=>by subst z;rw[E.top] at hd;cases hd;cases mm⟩
  have inn':Inn b.C (KN b Ow a (cs++[c])) (upd (upd H c (.lst [])) a (.lst (cs.map V.ref++[.ref c]))) (cs++[c]) (yss++[[]]):=
   Inn.snoc hHc .nil (E.inn.ex xc λd hdm=>by
    obtain⟨us,q⟩:=E.inn.live d hdm
    rw[q]
    exact hH d _ q λz=>nd1.1 (z▸hdm))
  have hb0:b.H0 c=none:=by
   have:=E.er.same.free hc
   have q:(if c∈a::cs then H c else b.H0 c)=none:=this
   rw[if_neg hcn] at q
   exact q
  obtain⟨E3,x3⟩:=E.rebase (cs':=cs++[c]) (H':=upd (upd H c (.lst [])) a (.lst (cs.map V.ref++[.ref c]))) (λz hz=>List.mem_append_left _ hz) (λz o hz hn=>hH z o hz λq=>hn (q▸List.mem_cons_self)) (λz hz hn=>by
   rcases List.mem_cons.mp hz with q | q
   ·exact absurd (q▸List.mem_cons_self) hn
   ·rcases List.mem_append.mp q with q | q
    ·exact absurd (List.mem_cons_of_mem _ q) hn
    ·rw[List.mem_singleton] at q;rw[q];exact hc) (by
   rw[List.nodup_cons,List.nodup_append]
   refine⟨λz=>?_,nd1.2,by simp,λd hd1 d' hd2 z=>?_⟩
   ·rcases List.mem_append.mp z with z | z
    ·exact nd1.1 z
    ·rw[List.mem_singleton] at z;exact hca z
   ·rw[List.mem_singleton] at hd2;subst hd2 z;exact hcs hd1) (λz hz=>by
   rcases List.mem_cons.mp hz with q | q
   ·rw[q];exact E.new a List.mem_cons_self
   ·rcases List.mem_append.mp q with q | q
    ·exact E.new z (List.mem_cons_of_mem _ q)
    ·rw[List.mem_singleton] at q;rw[q];exact hb0) (by rw[aP,List.map_append];rfl) inn'
  rw[List.map_append] at E3
  exact kk Ow σ _ _ _ E3 (λz hz=>List.mem_append_left _ hz) x3
 ·cases hy
def tNi (b:BX) (G:List Nat) (i:Nat) (f:Env->Option Out):TS:=λD σ H=>∃ Ow env env',ER b Ow G σ env H/\f env=some (.nx env') /\
 ∀ σ' H' a cs yss,EN b Ow G i σ' env' H' a cs yss->Ex (Bs b Ow) H (KN b Ow a cs) H'->D.nx σ' H'
theorem EN.start {Ow:Addr->Prop}{σ:St}{env:Env}{H H2:Hp}{a:Addr}{cs:List Addr}(E:ER b Ow G σ env H) (hl:i < env.length) (nd:cs.Nodup) (hc:∀ c∈cs,H c=none/\H2 c=some (.lst [])) (ho:∀ x,x∉cs->H2 x=H x) (ha:H2 a=none) (hG:i∉G) (hxi:b.fx i=none):
  EN b Ow G i (σ.set i (some (.ref a))) (env.set i (some (.lst (List.replicate cs.length (.lst []))))) (upd H2 a (.lst (cs.map V.ref))) a cs (List.replicate cs.length [])/\Ex (Bs b Ow) H (KN b Ow a cs) (upd H2 a (.lst (cs.map V.ref))):=by
 have nac:a∉cs:=λz=>by rw[(hc a z).2] at ha;cases ha
 have hHa:H a=none:=by rw[← ho a nac];exact ha
 have hnone:∀ x∈a::cs,H x=none:=λx hx=>by
  rcases List.mem_cons.mp hx with z | z
  ·rw[z];exact hHa
  ·exact(hc x z).1
 have st:∀ x o,H x=some o->(upd H2 a (.lst (cs.map V.ref))) x=some o:=λx o q=>by
  have z:x∉a::cs:=λy=>by rw[hnone x y] at q;cases q
  rw[List.mem_cons,not_or] at z
  rw[aH z.1,ho x z.2];exact q
 have lv':∀ x∈a::cs,∃ o,(upd H2 a (.lst (cs.map V.ref))) x=some o:=λx hx=>by
  rcases List.mem_cons.mp hx with z | z
  ·rw[z];exact⟨_,aP⟩
  ·rw[aH (λq:x=a=>nac (q▸z))];exact⟨_,(hc x z).2⟩
 have xk:Ex (Bs b Ow) H (KN b Ow a cs) (upd H2 a (.lst (cs.map V.ref))):=λc o q=>⟨λw=>⟨st c o q,w,λy=>by rw[hnone c y] at q;cases q⟩,λ_=>st c o q⟩
 have xb:Ex (Bs b Ow) H (Bs (bn b i a cs (upd H2 a (.lst (cs.map V.ref)))) Ow) (upd H2 a (.lst (cs.map V.ref))):=λc o q=>⟨λw=>⟨st c o q,(cQ lv').mpr ((xk c o q).1 w).2⟩,λ_=>st c o q⟩
 have nw:∀ x∈a::cs,b.H0 x=none:=λx hx=>E.same.free (hnone x hx)
 have now:∀ x∈a::cs,¬ Ow x:=λx hx w=>by obtain⟨o,q⟩:=E.live x w;rw[hnone x hx] at q;cases q
 have inn:∀ ds:List Addr,(∀ c∈ds,c∈cs)->Inn b.C (KN b Ow a cs) (upd H2 a (.lst (cs.map V.ref))) ds (List.replicate ds.length []):=λds=>by
  induction ds with
  | nil=>exact λ_=>.nil
  | cons d ds ih=>
   intro hd
   have hdc:=hd d List.mem_cons_self
   exact .cons (by rw[aH (λq:d=a=>nac (q▸hdc))];exact(hc d hdc).2) .nil (ih λc z=>hd c (List.mem_cons_of_mem _ z))
 have back:∀ {j:Nat}{q:PV},(env.set i none)[j]?=some (some q)->i≠j/\env[j]?=some (some q):=λ{j q} e=>by
  by_cases hj:i=j
  ·subst hj
   rw[List.getElem?_set_self hl] at e;cases e
  ·rw[List.getElem?_set_ne hj] at e;exact⟨hj,e⟩
 refine⟨⟨by rw[List.getElem?_set_self hl,List.map_replicate],aP,List.nodup_cons.mpr ⟨nac,nd⟩,nw,inn cs λ_ z=>z,?_⟩,xk⟩
 rw[List.set_set]
 refine⟨by rw[List.length_set,List.length_set];exact E.len,λc o q=>?_,λc w=>?_,λc w=>?_,λj q e n=>?_,λj q e n=>?_,λj k c q q' e1 n1 s1 e2 n2 s2=>?_,λk v hv=>?_⟩
 ·have q':(if c∈a::cs then (upd H2 a (.lst (cs.map V.ref))) c else b.H0 c)=some o:=q
  by_cases z:c∈a::cs
  ·rw[if_pos z] at q';exact q'
  ·rw[if_neg z] at q';exact st c o (E.same c o q')
 ·obtain⟨o,q⟩:=E.live c w
  exact⟨o,st c o q⟩
 ·show (if c∈a::cs then (upd H2 a (.lst (cs.map V.ref))) c else b.H0 c)=none
  rw[if_neg λz=>now c z w];exact E.new c w
 ·obtain⟨hj,e'⟩:=back e
  obtain⟨v,z1,z2⟩:=E.val j q e' n
  exact⟨v,by rw[List.getElem?_set_ne hj];exact z1,z2.ex xb⟩
 ·obtain⟨hj,e'⟩:=back e
  obtain⟨c,z1,z2,z3⟩:=E.own j q e' n
  exact⟨c,by rw[List.getElem?_set_ne hj];exact z1,z2,z3.ex xb λo y=>st c o y⟩
 ·obtain⟨hj,e1'⟩:=back e1
  obtain⟨hk,e2'⟩:=back e2
  rw[List.getElem?_set_ne hj] at s1
  rw[List.getElem?_set_ne hk] at s2
  exact E.sep j k c q q' e1' n1 s1 e2' n2 s2
 ·have hv':(if k=i then some (V.ref a) else b.fx k)=some v:=hv
  by_cases hk:k=i
  ·rw[if_pos hk] at hv'
   cases hv'
   rw[hk,List.getElem?_set_self (by rw[E.len];exact hl)]
  ·rw[if_neg hk] at hv'
   rw[List.getElem?_set_ne (Ne.symm hk)]
   exact E.fix k v hv'
theorem Ax (i:Nat){x:Str}{pos' lpos:Pos}(nd:X.N.Nodup) (he:PA X es (tEm n)) (hG:i∉G:=by decide) (hx:b.fx i=none:=by first | rfl | assumption) (hi:X.N[i]?=some x:=by rfl) (hl:Loc X.env.scope x:=by first | exact Or.inl rfl | exact Or.inr rfl)
  (hs:swapsWith (.List es lpos) (some (.Name x pos')) pos.line X.env=pure false:=by rfl) (hf:X.fn x=true\/X.env.scope.names.lookup x=some .local:=by first | exact .inl rfl | exact .inr rfl | assumption):PS X (.Assign [.Name x pos'] (.List es lpos) pos) (tNi b G i (qI i n)):=
 PS.imp (jF nd hi hl (uJ he) hs hf) λD σ H ⟨Ow,env,env',E,hz,k⟩=>by
  rw[Dj] at hz
  split at hz
  ·rename_i hle
   cases hz
   refine xm n λcs H2 hlen nd hc ho=>⟨fu (by rw[List.length_map];omega),λa ha=>?_⟩
   obtain⟨E1,x1⟩:=EN.start E hle.1 nd hc ho ha hG hx
   rw[hlen] at E1
   exact k _ _ a cs _ E1 x1
  ·cases hz
def PostK (b:BX) (A:Addr->Prop) (H:Hp) (G L:List Nat) (ro:Bool) (D:Ends):Out->Prop
 | .nx e=>∀ Ow' σ' H',ER b Ow' G σ' e H'->Ex A H (Bs b Ow') H'->D.nx σ' H'
 | .bk e=>∀ Ow' σ' H',ER b Ow' L σ' e H'->Ex A H (Bs b Ow') H'->D.bk σ' H'
 | .ct e=>∀ Ow' σ' H',ER b Ow' L σ' e H'->Ex A H (Bs b Ow') H'->D.ct σ' H'
 | .rt p=>∀ v H',Same b.H0 H'->Ret b.C b.A b.H0 ro H' v p->D.rt v H'
def tNX (b:BX) (G G' L:List Nat) (ro:Bool) (i:Nat) (f:Env->Option Out):TS:=λD σ H=>∃ Ow env a cs yss out,EN b Ow G i σ env H a cs yss/\f env=some out/\PostK b (KN b Ow a cs) H G' L ro D out
abbrev NXs (X:Cx) (b:BX) (G G' L:List Nat) (ro:Bool) (i:Nat) (st:List Stmt) (f:Env->Option Out):Prop:=PSs X st (tNX b G G' L ro i f)
theorem PostK.ex {A A':Addr->Prop}{H H':Hp}{D:Ends}{o:Out}(e:Ex A H A' H') (p:PostK b A H G L ro D o):PostK b A' H' G L ro D o:=by
 cases o with
 | nx e'=>exact λOw' σ' H2 E x=>p Ow' σ' H2 E (e.trans x)
 | bk e'=>exact λOw' σ' H2 E x=>p Ow' σ' H2 E (e.trans x)
 | ct e'=>exact λOw' σ' H2 E x=>p Ow' σ' H2 E (e.trans x)
 | rt p'=>exact p
theorem xq (c:SSs X b G G' L ro rest g) (hG:i∉G:=by decide) (hx:b.fx i=none:=by first | rfl | assumption):NXs X b G G' L ro i rest g:=PSs.imp c λD σ H ⟨Ow,env,a,cs,yss,out,E,hf,k⟩=>by
 refine⟨Ow,env,out,E.out hG hx,hf,?_⟩
 have w:Ex (KN b Ow a cs) H (Bs b Ow) H:=bF λc o _ q=>q.1
 have k':=PostK.ex w k
 cases out with
 | nx e'=>exact k'
 | bk e'=>exact k'
 | ct e'=>exact k'
 | rt p'=>exact k'
theorem mj (x:NS X b G i st f) (c:NXs X b G G' L ro i rest g):NXs X b G G' L ro i (st::rest) (aD (onx f) g):=PSs.imp (fK x c) λD σ H ⟨Ow,env,a,cs,yss,out,E,hf,k⟩=>by
 unfold aD at hf
 obtain⟨o,ho,hz⟩:=ao hf
 obtain⟨o',ho',hz'⟩:=ao ho
 cases o' with
 | nx e'=>
  cases hz'
  exact⟨Ow,env,a,cs,yss,e',E,ho',λOw1 σ1 H1 cs1 yss1 E1 s1 x1=>⟨Ow1,e',a,cs1,yss1,out,E1,hz,k.ex x1⟩⟩
 | bk e'=>cases hz'
 | ct e'=>cases hz'
 | rt p'=>cases hz'
theorem xr (x:PS X st (tNi b G i f)) (c:NXs X b G G' L ro i rest g):SSs X b G G' L ro (st::rest) (aD (onx f) g):=PSs.imp (fK x c) λD σ H ⟨Ow,env,out,E,hf,k⟩=>by
 unfold aD at hf
 obtain⟨o,ho,hz⟩:=ao hf
 obtain⟨o',ho',hz'⟩:=ao ho
 cases o' with
 | nx e'=>
  cases hz'
  refine⟨Ow,env,e',E,ho',fun σ1 H1 a cs yss E1 x1=>⟨Ow,e',a,cs,yss,out,E1,hz,?_⟩⟩
  cases out with
  | nx e''=>exact λOw' σ' H2 E2 x2=>k Ow' σ' H2 E2 (x1.trans x2)
  | bk e''=>exact λOw' σ' H2 E2 x2=>k Ow' σ' H2 E2 (x1.trans x2)
  | ct e''=>exact λOw' σ' H2 E2 x2=>k Ow' σ' H2 E2 (x1.trans x2)
  | rt p'=>exact k
 | bk e'=>cases hz'
 | ct e'=>cases hz'
 | rt p'=>cases hz'
end
end MR
namespace MR
open PySem L2
def gL (is:List Nat) (p:PV) (env:Env):Option Env:=match p with
 | .lst xs=>gNs is xs env
 | _=>none
@[simp] theorem RJ (is:List Nat) (p:PV) (env:Env):gL is p env=(match p with
 | .lst xs=>gNs is xs env
 | _=>none):=id rfl
section
variable {X:Cx}{b:BX}{G G' L:List Nat}{pos:Pos}
theorem Qa {es:List Expr}{k:Nat}{is:List Nat}(h:SGs X b G es is) (hc:X.calm=true:=by rfl) (hn:(assignEach es X.env).length=is.length:=by rfl) (hst:(assignEach es X.env).findIdx? (·.1)=none:=by rfl) (hK:X.K=b.C.K:=by rfl):SG X b G (.Tuple es k pos) (gL is):=
 PG.imp (J9 hc h hn hst) λv σ H Q ⟨Ow,env,p,env',E,r,e,k⟩=>by
  cases p <;> simp only[gL] at e <;> first | cases e | skip
  rename_i xs
  obtain⟨a,vs,rfl,ha,ra⟩:=RepB.lst (.inl r)
  rw[hK]
  exact⟨a,vs,rfl,SqL.of ha,by rw[ra.length];exact o8 e,Ow,env,xs,env',E,ra,e,k⟩
end
end MR
namespace MR
open PySem L2
def ba (b:BX) (G:List Nat) (i j:Nat) (a:Addr):BX:=⟨b.C,b.A,b.H0,λk=>if (k == i||(G.elem k&&k == j))=true then some (.ref a) else b.fx k⟩
theorem Dk {b:BX}{G:List Nat}{i j:Nat}{a:Addr}:(ba b G i j a).fx i=some (.ref a):=by
 show (if (i == i||(G.elem i&&i == j))=true then _ else _)=_
 rw[if_pos (by simp)]
theorem K7 {b:BX}{G:List Nat}{i j:Nat}{a:Addr}(h:j∈G):(ba b G i j a).fx j=some (.ref a):=by
 show (if (j == i||(G.elem j&&j == j))=true then _ else _)=_
 rw[if_pos (by simp[h])]
theorem K8 {b:BX}{G:List Nat}{i j k:Nat}{a:Addr}(h1:k≠i) (h2:k≠j):(ba b G i j a).fx k=b.fx k:=by
 show (if (k == i||(G.elem k&&k == j))=true then _ else _)=_
 rw[if_neg (by simp[h1,h2])]
structure EA (b:BX) (Ow:Addr->Prop) (G:List Nat) (i:Nat) (σ:St) (env:Env) (H:Hp) (j:Nat) (a:Addr):Prop where
 idx:env[i]?=some (some (.int (j:Nat)))
 mem:j∈G
 er:ER (ba b G i j a) Ow G σ (env.set i none) H
def Qc (i j:Nat) (env:Env):Option Out:=(bV j env).bind λ_=>if i < env.length then some (.nx (env.set i (some (.int (j:Nat))))) else none
@[simp] theorem QC (i j:Nat) (env:Env):Qc i j env=((bV j env).bind λ_=>if i < env.length then some (.nx (env.set i (some (.int (j:Nat))))) else none):=id rfl
def Qd (i:Nat) (h:Env->Option PV) (env:Env):Option Out:=(bV i env).bind λx=>match x with
 | .int j=>(bV j.toNat (env.set i none)).bind λy=>(h (env.set i none)).bind λp=>(fY y p).bind λz=>some (.nx (env.set j.toNat (some z)))
 | _=>none
@[simp] theorem QD (i:Nat) (h:Env->Option PV) (env:Env):Qd i h env=((bV i env).bind λx=>match x with
 | .int j=>(bV j.toNat (env.set i none)).bind λy=>(h (env.set i none)).bind λp=>(fY y p).bind λz=>some (.nx (env.set j.toNat (some z)))
 | _=>none):=id rfl
section
variable {X:Cx}{b:BX}{G G' L:List Nat}{ro:Bool}{i:Nat}{st:Stmt}{rest:List Stmt}{f g:Env->Option Out}{e e1 e2:Expr}{h h1 h2:Env->Option PV}{m m1 m2:Md}{pos:Pos}
variable {Ow Ow':Addr->Prop}{σ σ':St}{env env':Env}{H H':Hp}{j:Nat}{a:Addr}
theorem EA.len (E:EA b Ow G i σ env H j a):i < env.length:=by
 rcases Nat.lt_or_ge i env.length with z | z
 ·exact z
 ·have:=E.idx;rw[List.getElem?_eq_none z] at this;cases this
theorem EA.slot (E:EA b Ow G i σ env H j a):σ[i]?=some (some (.ref a))/\σ[j]?=some (some (.ref a)):=
 ⟨E.er.fix i _ Dk,E.er.fix j _ (K7 E.mem)⟩
theorem EA.of (E:EA b Ow G i σ env H j a) (E':ER (ba b G i j a) Ow' G σ' env' H'):EA b Ow' G i σ' (env'.set i (some (.int (j:Nat)))) H' j a:=by
 have hl:i < env'.length:=by
  have q:=E'.fix i (.ref a) Dk
  rw[← E'.len]
  rcases Nat.lt_or_ge i σ'.length with z | z
  ·exact z
  ·rw[List.getElem?_eq_none z] at q;cases q
 exact⟨by rw[List.getElem?_set_self hl],E.mem,by rw[List.set_set];exact E'.forget i⟩
theorem EA.up (E:EA b Ow G i σ env H j a) (s:Same H H'):EA b Ow G i σ env H' j a:=⟨E.idx,E.mem,E.er.up s⟩
theorem EA.clr {ds:List Nat}(E:EA b Ow G i σ env H j a) (hd:i∉ds):EA b Ow G i σ (clr ds env) H j a:=⟨by rw[rM hd];exact E.idx,E.mem,by rw[rN hd];exact E.er.clr⟩
theorem ER.fxs {b':BX}(E:ER b Ow G σ env H) (h1:b'.C=b.C) (h2:b'.A=b.A) (h3:b'.H0=b.H0) (hf:∀ k v,b'.fx k=some v->σ[k]?=some (some v)):ER b' Ow G σ env H:=by
 obtain⟨C',A',H0',fx'⟩:=b'
 obtain⟨C0,A0,H00,fx0⟩:=b
 simp only at h1 h2 h3
 subst h1 h2 h3
 exact⟨E.len,E.same,E.live,E.new,E.val,E.own,E.sep,hf⟩
theorem EA.out (E:EA b Ow G i σ env H j a) (hx:∀ k,k=i\/k∈G->b.fx k=none):ER b Ow G σ (env.set i none) H:=
 E.er.fxs rfl rfl rfl λk v hv=>E.er.fix k v (by
  have n1:k≠i:=λz=>by have q:=hx k (.inl z);rw[q] at hv;cases hv
  have n2:k≠j:=λz=>by have q:=hx k (.inr (z▸E.mem));rw[q] at hv;cases hv
  rw[K8 n1 n2]
  exact hv)
end
end MR
namespace MR
open PySem L2
section
variable {X:Cx}{b:BX}{G G' L:List Nat}{ro:Bool}{i:Nat}{st:Stmt}{rest:List Stmt}{f g:Env->Option Out}{e e1 e2:Expr}{h h1 h2:Env->Option PV}{m m1 m2:Md}{pos:Pos}
theorem EA.start {Ow:Addr->Prop}{σ:St}{env:Env}{H:Hp}{j:Nat}{p:PV}(E:ER b Ow G σ env H) (hl:i < env.length) (hj:j∈G) (hp:env[j]?=some (some p)) (hi:i∉G) (hx:∀ k v,b.fx k=some v->k≠i/\k∉G):
  ∃ a,σ[j]?=some (some (.ref a))/\EA b Ow G i (σ.set i (some (.ref a))) (env.set i (some (.int (j:Nat)))) H j a:=by
 obtain⟨a,e1,w,t⟩:=E.own j p hp hj
 have hij:i≠j:=λz=>hi (z▸hj)
 refine⟨a,e1,by rw[List.getElem?_set_self hl],hj,?_⟩
 rw[List.set_set]
 have hls:i < σ.length:=by rw[E.len];exact hl
 have back:∀ {k:Nat}{q:PV},(env.set i none)[k]?=some (some q)->i≠k/\env[k]?=some (some q):=λ{k q} e=>by
  by_cases hk:i=k
  ·subst hk;rw[List.getElem?_set_self hl] at e;cases e
  ·rw[List.getElem?_set_ne hk] at e;exact⟨hk,e⟩
 refine⟨by rw[List.length_set,List.length_set];exact E.len,E.same,E.live,E.new,λk q eq n=>?_,λk q eq n=>?_,λk k' c q q' e1 n1 s1 e2 n2 s2=>?_,λk v hv=>?_⟩
 ·obtain⟨hk,e'⟩:=back eq
  obtain⟨v,z1,z2⟩:=E.val k q e' n
  exact⟨v,by rw[List.getElem?_set_ne hk];exact z1,z2⟩
 ·obtain⟨hk,e'⟩:=back eq
  obtain⟨c,z1,z2,z3⟩:=E.own k q e' n
  exact⟨c,by rw[List.getElem?_set_ne hk];exact z1,z2,z3⟩
 ·obtain⟨hk,e1'⟩:=back e1
  obtain⟨hk',e2'⟩:=back e2
  rw[List.getElem?_set_ne hk] at s1
  rw[List.getElem?_set_ne hk'] at s2
  exact E.sep k k' c q q' e1' n1 s1 e2' n2 s2
 ·by_cases hk:k=i
  ·subst hk
   rw[Dk] at hv
   cases hv
   rw[List.getElem?_set_self hls]
  ·rw[List.getElem?_set_ne (Ne.symm hk)]
   by_cases hkj:k=j
   ·subst hkj
    rw[K7 hj] at hv
    cases hv
    exact e1
   ·rw[K8 hk hkj] at hv
    exact E.fix k v hv
def Qe (i:Nat) (g:Env->Option Out) (env:Env):Option Out:=g (env.set i none)
@[simp] theorem QF (i:Nat) (g:Env->Option Out) (env:Env):Qe i g env=g (env.set i none):=id rfl
end
end MR
namespace MR
open PySem L2
@[simp] def Rh:PV->PV->Option PV
 | .int i,.int j=>if 0<=i/\i<=j/\j<=1000000 then some (.lst ((List.range' i.toNat (j - i).toNat).map λk=>.int (k:Nat))) else none
 | _,_=>none
section
variable {X:Cx}{b:BX}{G:List Nat}{pos p p2 pos2:Pos}{m1 m2:Md}{e1 e2:Expr}{f1 f2:Env->Option PV}
end
end MR
namespace MR
open PySem L2
def hd3:List PV->Bool
 | []=>true
 | .tup xs::_=>decide (xs.length≠3)
 | .lst _::_=>true
 | .non::_=>true
 | .bl _::_=>true
 | .int _::_=>true
 | .str _::_=>true
 | _=>false
mutual
def okT:PV->Bool
 | .lst xs=>hd3 xs&&vD xs
 | .tup xs=>vD xs
 | .non=>true
 | .bl _=>true
 | .int _=>true
 | .str _=>true
 | _=>false
def vD:List PV->Bool
 | []=>true
 | x::xs=>okT x&&vD xs
end
def shp:PV->Bool
 | .lst (.tup [_,.lst (.tup [x,y,z]::r)]::q)=>decide (r.length < 1000)&&decide (q.length < 1000)
 | _=>false
def Nv (i:Nat) (ga:Env->Option (List PV)) (mi:List PV->Option PV) (c:Env->Option Bool) (f g:Env->Option Out) (env:Env):Option Out:=(ga env).bind λqs=>(mi qs).bind λp=>if (vD qs&&shp p&&decide (i < env.length))=true then (c (env.set i (some p))).bind λk=>if k=true then (f (env.set i (some p))).bind λo=>match o with
 | .rt v=>some (.rt v)
 | _=>none
 else g (env.set i none) else none
@[simp] theorem Qf (i:Nat) (ga:Env->Option (List PV)) (mi:List PV->Option PV) (c:Env->Option Bool) (f g:Env->Option Out) (env:Env):Nv i ga mi c f g env=((ga env).bind λqs=>(mi qs).bind λp=>if (vD qs&&shp p&&decide (i < env.length))=true then (c (env.set i (some p))).bind λk=>if k=true then (f (env.set i (some p))).bind λo=>match o with
 | .rt v=>some (.rt v)
 | _=>none
 else g (env.set i none) else none):=id rfl
section
variable {X:Cx}{b:BX}{G G' L:List Nat}{ro:Bool}{rest sa:List Stmt}{f g:Env->Option Out}
end
end MR
namespace MR
open PySem L2
@[simp] def o9:PV->PV->PV->Option PV
 | .dK kvs,y,z=>(keyOf y).map λk=>(cC kvs k).getD z
 | .dT kvs,.tup ys,z=>(keysB ys).map λk=>(cC kvs k).getD z
 | _,_,_=>none
section
variable {X:Cx}{b:BX}{G:List Nat}{apos cpos:Pos}{m1 m2:Md}{e1 e2 e3:Expr}{f1 f2 f3:Env->Option PV}
theorem Hc {j:Nat}(hr:Room j X.A) (h1:SE X b G m1 e1 f1) (h2:SE X b G m2 e2 f2) (h3:SE X b G .val e3 f3) (m:M2 X e1 "get" apos e2 e3 cpos:=by exact⟨rfl,rfl,rfl,rfl⟩):SE X b G .val (.Call (.Attribute e1 "get" apos) [e2,e3] [] cpos) (b3 o9 f1 f2 f3):=by
 refine PE.imp (Cp (mL hr) h1.bor h2.bor h3 m) fun σ H Q h=>?_
 obtain⟨Ow,env,p,E,hf,k⟩:=h
 obtain⟨p1,q1,z1⟩:=ao hf
 clear hf
 obtain⟨p2,q2,z2⟩:=ao z1
 clear z1
 obtain⟨p3,q3,hf⟩:=ao z2
 clear z2
 refine⟨Ow,env,p1,E,q1,λv1 H1 s1 r1=>?_⟩
 unfold o9 at hf
 split at hf
 ·rename_i kvs
  obtain⟨ky,hk,e⟩:=Option.map_eq_some_iff.mp hf
  obtain⟨a,kv,rfl,ha,ra⟩:=r1.dK
  refine⟨a,rfl,.inl ⟨kv,.inl ha⟩,Ow,env,p2,E.up s1,q2,λv2 H2 s2 r2=>⟨Ow,env,p3,(E.up s1).up s2,q3,λv3 H3 s3 r3=>?_⟩⟩
  have r2':RepB b.C (Bs b Ow) H2 v2 p2:=r2
  rw[r2'.key hk]
  have ha3:=s3 _ _ (s2 _ _ ha)
  refine⟨_,DGet.k ha3,k _ H3 ((s1.trans s2).trans s3) ?_⟩
  unfold cC at e
  rcases RepK.val (k:=ky) ra with ⟨v,p',g1,g2,rv⟩ | ⟨g1,g2⟩
  ·rw[g2] at e
   rw[g1,← e]
   exact rv.ex (.of_same (s2.trans s3))
  ·rw[g2] at e
   rw[g1,← e]
   exact r3
 ·rename_i kvs ys
  obtain⟨ky,hk,e⟩:=Option.map_eq_some_iff.mp hf
  obtain⟨a,kv,rfl,ha,ra⟩:=r1.dT
  refine⟨a,rfl,.inr ⟨kv,.inl ha⟩,Ow,env,_,E.up s1,q2,λv2 H2 s2 r2=>⟨Ow,env,p3,(E.up s1).up s2,q3,λv3 H3 s3 r3=>?_⟩⟩
  have r2':RepB b.C (Bs b Ow) H2 v2 (.tup ys):=r2
  obtain⟨c,vs,rfl,hc,rc⟩:=r2'.tup
  have ha3:=s3 _ _ (s2 _ _ ha)
  refine⟨_,DGet.t ha3 ⟨_,s3 _ _ hc,rc.keysB hk⟩,k _ H3 ((s1.trans s2).trans s3) ?_⟩
  unfold cC at e
  rcases RepT.val (k:=ky) ra with ⟨v,p',g1,g2,rv⟩ | ⟨g1,g2⟩
  ·rw[g2] at e
   rw[g1,← e]
   exact rv.ex (.of_same (s2.trans s3))
  ·rw[g2] at e
   rw[g1,← e]
   exact r3
 ·cases hf
end
end MR
namespace MR
open PySem L2
def numT:List (Str×Int):=[("0",0),("1",1),("2",2),("3",3),("4",4),("5",5),("6",6),("7",7),("8",8),("9",9),("10",10),("11",11),("12",12)]
def numOf (x:Str):Option Int:=(numT.find? λz=>decide (z.1=x)).map λz=>z.2
def Ny (i:Int):Option Str:=(numT.find? λz=>decide (z.2=i)).map λz=>z.1
@[simp] def RK:PV->Option PV
 | .int i=>some (.int i)
 | .bl k=>some (.int (if k then 1 else 0))
 | .str x=>(numOf x).map .int
 | _=>none
@[simp] def RZ:PV->Option PV
 | .int i=>(Ny i).map .str
 | .str x=>some (.str x)
 | _=>none
@[simp] def Ri:PV->Option PV
 | .str x=>if x = "abcdefghijklmnopqrstuvwxyz" then some (.str "ABCDEFGHIJKLMNOPQRSTUVWXYZ") else none
 | _=>none
def K9:PV->Option String
 | .ktp _=>some "tuple"
 | p=>tyN p
def Nz (tb:List (String×Bool)) (p:PV):Option PV:=(K9 p).bind λt=>(tb.lookup t).bind λk=>some (.bl k)
@[simp] theorem Qg (tb:List (String×Bool)) (p:PV):Nz tb p=((K9 p).bind λt=>(tb.lookup t).bind λk=>some (.bl k)):=id rfl
section
variable {X:Cx}{b:BX}{G:List Nat}{p pos:Pos}{m1:Md}{e:Expr}{f:Env->Option PV}
end
end MR
namespace L2
open PySem PySem.Spec PyProof PyProof.Rows
def Qh:List Int->Int
 | []=>0
 | a::l=>l.foldl (λm x=>if m < x then x else m) a
section
variable {X:Cx}
end
end L2
namespace MR
open PySem L2
section
variable {X:Cx}{b:BX}{G:List Nat}{pos p:Pos}{m1:Md}{e:Expr}{f:Env->Option PV}
@[simp] def RL:PV->Option PV
 | .lst (x::xs)=>(intsP (x::xs)).map λns=>.int (Qh ns)
 | _=>none
end
end MR
namespace MR
open PySem L2
@[simp] def o_:PV->PV->Option PV
 | .lst xs,.lst ys=>if ys.length=xs.length then some (.lst (List.zipWith (λa c=>.tup [a,c]) xs ys)) else none
 | _,_=>none
@[simp] def qJ:PV->PV->Option PV
 | .tup ys,v=>if cO v=true then (keysB ys).map λk=>.dT [(k,v)] else none
 | _,_=>none
def kP:Key->PV
 | .inl i=>.int i
 | .inr x=>.str x
@[simp] def qK:PV->Option (List PV)
 | .dT kvs=>if (kvs.all λkv=>kv.1.length != 2)=true then some (kvs.map λkv=>.tup (kv.1.map kP)) else none
 | _=>none
def iK (f:Env->Option PV) (env:Env):Option (List PV):=(f env).bind qK
@[simp] theorem RM (f:Env->Option PV) (env:Env):iK f env=((f env).bind qK):=id rfl
@[simp] def qL:PV->PV->PV->Option PV
 | .dT kvs,.ktp ys,z=>(keysB ys).map λk=>(cC kvs k).getD z
 | _,_,_=>none
section
variable {X:Cx}{b:BX}{G:List Nat}{apos cpos p p2 pos pos2:Pos}{m m1 m2:Md}{e e1 e2 e3:Expr}{f f1 f2 f3:Env->Option PV}
theorem Dl {C:MC}{A A':Addr->Prop}{H H':Hp}{ts:List Addr}{vs us:List V}{xs ys:List PV}(z:ZTs H' ts vs us) (ex:Ex A H A' H') (r1:Reps C A H vs xs) (r2:Reps C A H us ys):Reps C A' H' (ts.map V.ref) (List.zipWith (λa c=>.tup [a,c]) xs ys):=by
 induction z generalizing xs ys with
 | nil=>cases r1;exact .nil
 | cons h t ih=>
  cases r1 with
  | cons a1 b1=>cases r2 with
   | cons a2 b2=>exact .cons (.tup h (.cons (Rep.ex ex a1) (.cons (Rep.ex ex a2) .nil))) (ih b1 b2)
theorem Dm (hm:X.mg "list" = none) (hm2:X.mg "zip" = none) (h1:SE X b G m1 e1 f1) (h2:SE X b G m2 e2 f2) (hb:bootBuiltins "zip" = some (.type "zip"):=by decide +kernel) (hK:X.K=b.C.K:=by rfl) (hc:X.calm=true:=by rfl) (hg:Gl X "list" := by rfl) (hg2:Gl X "zip" := by rfl)
  (hs:starEach [e1,e2] X.env=(false,eval e1 X.env)::starEach [e2] X.env:=by rfl) (hs1:starEach [e2] X.env=(false,eval e2 X.env)::starEach [] X.env:=by rfl) (hp2:(backTo pos2 (starEach [e2] X.env)).any (·.1)=false:=by rfl)
  (hs2:starEach [.Call (.Name "zip" p2) [e1,e2] [] pos2] X.env=(false,eval (.Call (.Name "zip" p2) [e1,e2] [] pos2) X.env)::starEach [] X.env:=by rfl) (hpl:(backTo pos (starEach [] X.env)).any (·.1)=false:=by rfl):
  SE X b G .own (.Call (.Name "list" p) [.Call (.Name "zip" p2) [e1,e2] [] pos2] [] pos) (b2 o_ f1 f2):=by
 refine PE.imp (CP hg hm hg2 hm2 hb hc (bU h1.bor (bU h2.bor cT hs1) hs) hs hp2 hs2 hpl) fun σ H Q ⟨Ow,env,q,E,hf,k⟩=>?_
 rw[hK]
 obtain⟨x,hx,z1⟩:=ao hf
 clear hf
 obtain⟨y,hy,hf⟩:=ao z1
 clear z1
 unfold o_ at hf
 split at hf
 ·rename_i xs ys
  split at hf
  ·rename_i hl
   cases hf
   refine⟨Ow,env,_,E,hx,λv H1 s1 r1=>⟨Ow,env,_,E.up s1,hy,λu H2 s2 r2=>?_⟩⟩
   have r1':RepB b.C (Bs b Ow) H1 v (.lst xs):=r1
   have r1':RepB b.C (Bs b Ow) H2 v (.lst xs):=Res.up (m:=.bor) r1 s2
   have r2':RepB b.C (Bs b Ow) H2 u (.lst ys):=r2
   obtain⟨a,vs,rfl,ha,ra⟩:=r1'.lst
   obtain⟨c,us,rfl,hc,rc⟩:=r2'.lst
   have s:=s1.trans s2
   refine⟨a,c,vs,us,rfl,SqL.of ha,SqL.of hc,by rw[ra.length,rc.length];exact hl,λl ts H3 hl0 kp hl2 z=>?_⟩
   have hn:H l=none:=by
    cases q:H l with
    | none=>rfl
    | some o=>have:=s _ _ q;rw[hl0] at this;cases this
   have ex:Ex (Bs b Ow) H2 (λc=>Bs b Ow c/\c≠l) H3:=λc o e=>⟨λq=>⟨kp _ _ e,q,λw=>by rw[w,hl0] at e;cases e⟩,λ_=>kp _ _ e⟩
   exact k _ _ (s.trans kp) ⟨l,rfl,hn,_,hl2,Dl z ex ra rc⟩
  ·cases hf
 ·cases hf
theorem Dn {C:MC}{A A':Addr->Prop}{H H':Hp}{v:V}{q:PV}(r:Rep C A H v q) (h:cO q=true):Rep C A' H' v q:=by
 cases r with
 | non=>exact .non
 | bl b=>exact .bl b
 | int i=>exact .int i
 | str x=>exact .str x
 | _=>cases h
theorem NB {j:Nat}(hr:Room j X.A) (h1:SE X b G .val e1 f1) (h2:SE X b G .val e2 f2):SE X b G .own (.Dict [some e1] [e2] pos) (b2 qJ f1 f2):=by
 refine PE.imp (GJ (mL hr) h1 h2) fun σ H Q ⟨Ow,env,q,E,hf,k⟩ l hl=>?_
 obtain⟨x,hx,z1⟩:=ao hf
 clear hf
 obtain⟨y,hy,hf⟩:=ao z1
 clear z1
 unfold qJ at hf
 split at hf
 ·rename_i ys
  split at hf
  ·rename_i hfl
   obtain⟨ks,hk,e⟩:=Option.map_eq_some_iff.mp hf
   subst e
   have s0:=bh hl (.dT [])
   refine⟨Ow,env,_,E.up s0,hx,λv H1 s1 r1=>⟨Ow,env,_,(E.up s0).up s1,hy,λu H2 s2 r2=>⟨s2 _ _ (s1 _ _ aP),?_⟩⟩⟩
   have r1':RepB b.C (Bs b Ow) H1 v (.tup ys):=.inl r1
   obtain⟨c,vs,rfl,hc,rc⟩:=r1'.tup
   refine⟨c,ks,rfl,⟨vs,s2 _ _ hc,rc.keysB hk⟩,k _ _ (λa o e=>?_) ⟨l,rfl,hl,_,aP,.cons (Dn r2 hfl) .nil⟩⟩
   rw[aH (aV e hl)]
   exact s2 _ _ (s1 _ _ (s0 _ _ e))
  ·cases hf
 ·cases hf
theorem Hd {j:Nat}(hr:Room j X.A) (h1:SE X b G m1 e1 f1) (h2:SE X b G m2 e2 f2) (h3:SE X b G .val e3 f3) (m:M2 X e1 "get" apos e2 e3 cpos:=by exact⟨rfl,rfl,rfl,rfl⟩) (hK:X.K=b.C.K:=by rfl):SE X b G .val (.Call (.Attribute e1 "get" apos) [e2,e3] [] cpos) (b3 qL f1 f2 f3):=by
 refine PE.imp (CQ (mL hr) h1.bor h2.bor h3 m) fun σ H Q h=>?_
 obtain⟨Ow,env,p,E,hf,k⟩:=h
 obtain⟨p1,q1,z1⟩:=ao hf
 clear hf
 obtain⟨p2,q2,z2⟩:=ao z1
 clear z1
 obtain⟨p3,q3,hf⟩:=ao z2
 clear z2
 refine⟨Ow,env,p1,E,q1,λv1 H1 s1 r1=>?_⟩
 unfold qL at hf
 split at hf
 ·rename_i kvs ys
  obtain⟨ky,hk,e⟩:=Option.map_eq_some_iff.mp hf
  have r1':RepB b.C (Bs b Ow) H1 v1 (.dT kvs):=r1
  obtain⟨a,kv,rfl,ha,ra⟩:=r1'.dT
  refine⟨a,rfl,.inr ⟨kv,.inl ha⟩,Ow,env,_,E.up s1,q2,λv2 H2 s2 r2=>⟨Ow,env,p3,(E.up s1).up s2,q3,λv3 H3 s3 r3=>?_⟩⟩
  have r2':RepB b.C (Bs b Ow) H2 v2 (.ktp ys):=r2
  rcases r2' with r2' | ⟨_,_,t⟩
  ·cases r2' with
   | tupK w1 w3=>
    refine⟨kv,ky,_,_,.inl (s3 _ _ (s2 _ _ ha)),rfl,by rw[hK];exact pM w1,w3.keysB hk,k _ H3 ((s1.trans s2).trans s3) ?_⟩
    unfold cC at e
    rcases RepT.val (k:=ky) ra with ⟨v,p',g1,g2,rv⟩ | ⟨g1,g2⟩
    ·rw[g2] at e
     rw[g1,← e]
     exact rv.ex (.of_same (s2.trans s3))
    ·rw[g2] at e
     rw[g1,← e]
     exact r3
  ·exact t.elim
 ·cases hf
theorem rO {C:MC}{A:Addr->Prop}{H:Hp}:∀ ks:List Key,Reps C A H (ks.map kV) (ks.map kP)
 | []=>.nil
 | .inl i::ks=>.cons (.int i) (rO ks)
 | .inr x::ks=>.cons (.str x) (rO ks)
theorem xu {C:MC}{A:Addr->Prop}{H:Hp}:∀ {kv:List (List Key×V)}{kvs:List (List Key×PV)},RepT C A H kv kvs->kv.map (·.1)=kvs.map (·.1)
 | _,_,.nil=>rfl
 | _,_,.cons _ t=>by rw[List.map_cons,List.map_cons,xu t]
theorem NK {tg:Expr}(he:SE X b G m e f):SI X b G false tg e (iK f):=by
 refine PI.imp (M_ he) fun σ H R ⟨Ow,env,ps,E,hg,k⟩=>?_
 obtain⟨q,hq,hps⟩:=ao hg
 unfold qK at hps
 split at hps
 ·rename_i kvs
  split at hps
  ·rename_i hall
   cases hps
   refine⟨Ow,env,_,E,hq,λv H1 s r=>?_⟩
   have r1:RepB b.C (Bs b Ow) H1 v (.dT kvs):=r.bor
   obtain⟨a,kv,rfl,ha,ra⟩:=r1.dT
   have hks:=xu ra
   have hlen:kv.length=kvs.length:=ra.length
   refine⟨a,kv,rfl,.inl ha,k _ _ s λOw' H2 h0 h1 hn=>?_⟩
   have ha2:H2 a=some (.dT kv):=h0 rfl _ _ ha
   refine⟨λi p hp=>?_,⟨kv,.inl ha2,rfl,by rw[List.length_map,hlen];exact Nat.le_refl _⟩⟩
   have hi:i < kvs.length:=by have:=(List.getElem?_eq_some_iff.mp hp).1;rwa [List.length_map] at this
   refine⟨⟨kv,.inl ha2,rfl,by omega⟩,λx H' y=>?_⟩
   obtain⟨e',kv',c,ks,y,hr',hi',ex,dk⟩:=y
   subst e' ex
   have ekv:kv'=kv:=by
    rcases hr' with z | ⟨o,z⟩
    ·rw[ha2] at z;cases z;rfl
    ·rw[ha2] at z;cases z
   subst ekv
   have ek:(kvs.map (·.1))[i]?=some ks:=by rw[← hks,List.getElem?_map,hi'];rfl
   rw[List.getElem?_map] at ek hp
   cases qq:kvs[i]? with
   | none=>rw[qq] at ek;cases ek
   | some w=>
    rw[qq] at ek hp
    cases ek
    cases hp
    have nl:w.1.length≠2:=by
     have:=List.all_eq_true.mp hall w (List.mem_of_getElem? qq)
     simpa using this
    obtain⟨us,hu,kt⟩:=dk
    rcases kt with rfl | ⟨x,t,z,_⟩
    ·exact⟨Same.refl _,.tup hu (rO _)⟩
    ·have z:w.1=_:=z
     rw[z] at nl;exact absurd rfl nl
  ·cases hps
 ·cases hps
end
end MR
namespace MR
open PySem L2
def spW (C:MC) (mi:List PV->Option PV):Sp:=λvs H Q E=>∃ A ps yss,Reps C A H vs ps/\mi ps=some (.lst (yss.map PV.lst)) /\
 ∀ a cs H',Same H H'->(∀ x∈a::cs,H x=none)->(a::cs).Nodup->H' a=some (.lst (cs.map V.ref))->Inn C (λx=>(A x\/H x=none)/\x∉a::cs) H' cs yss->Q (.ref a) H'
def asL:List PV->Option (List (List PV))
 | []=>some []
 | .lst ys::r=>(asL r).map λl=>ys::l
 | _=>none
theorem vG:∀ {ws:List PV}{yss:List (List PV)},asL ws=some yss->ws=yss.map PV.lst
 | [],_,e=>by cases e;rfl
 | p::r,yss,e=>by
  unfold asL at e
  split at e
  ·rename_i q;cases q
  ·rename_i ys r' q
   cases q
   obtain⟨l,h,rfl⟩:=Option.map_eq_some_iff.mp e
   rw[List.map_cons,← vG h]
  ·cases e
theorem ph:∀ yss:List (List PV),asL (yss.map PV.lst)=some yss
 | []=>rfl
 | y::r=>by simp[asL,ph r]
section
variable {X:Cx}{b:BX}{G G' G1 L:List Nat}{ro:Bool}{i j n:Nat}{st s1 s2:Stmt}{es:List Expr}{rest:List Stmt}{f g f1 f2:Env->Option Out}{e e1 e2 e3:Expr}{h h1 h2 h3:Env->Option PV}{m m1 m2:Md}{pos:Pos}
theorem EN.ofG {Ow Ow':Addr->Prop}{σ σ':St}{env e:Env}{H H':Hp}{a:Addr}{cs:List Addr}{yss:List (List PV)}(E:EN b Ow G i σ env H a cs yss) (E':ER (bn b i a cs H) Ow' G1 σ' e H') (x:Ex (Bs (bn b i a cs H) Ow) H (Bs (bn b i a cs H) Ow') H'):
  EN b Ow' G1 i σ' (e.set i (some (.lst (yss.map PV.lst)))) H' a cs yss/\Ex (KN b Ow a cs) H (KN b Ow' a cs) H':=by
 have st:∀ y∈a::cs,H' y=H y:=λy hy=>by
  obtain⟨o,h⟩:=E.live y hy
  rw[h]
  exact E'.same y o (by show (if y∈a::cs then H y else b.H0 y)=some o;rw[if_pos hy];exact h)
 have lv':∀ y∈a::cs,∃ o,H' y=some o:=λy hy=>by rw[st y hy];exact E.live y hy
 have x':Ex (KN b Ow a cs) H (KN b Ow' a cs) H':=λc o hc=>⟨λq=>by
  obtain⟨h1,h2⟩:=(x c o hc).1 ((cQ E.live).mpr q)
  exact⟨h1,(cQ E.live).mp h2⟩,(x c o hc).2⟩
 have hl:i < e.length:=by
  have h:=E'.fix i (.ref a) (by show (if i=i then _ else _)=_;rw[if_pos rfl])
  rw[← E'.len]
  rcases Nat.lt_or_ge i σ'.length with z | z
  ·exact z
  ·rw[List.getElem?_eq_none z] at h;cases h
 refine⟨⟨by rw[List.getElem?_set_self hl],by rw[st a List.mem_cons_self];exact E.top,E.nd,E.new,E.inn.ex x' λc hc=>st c (List.mem_cons_of_mem _ hc),?_⟩,x'⟩
 rw[yP st,List.set_set]
 exact E'.forget i
theorem EN.give {Ow:Addr->Prop}{σ:St}{env:Env}{H:Hp}{a c:Addr}{cs:List Addr}{yss:List (List PV)}{us:List V}{ys:List PV}(E:EN b Ow G1 i σ env H a cs yss) (hij:i≠j) (hj:∀ k,k∈G->k∈G1/\k≠j) (hG:∀ k,k∈G1->k∈G\/k=j) (hjG:j∈G1)
  (ev:env[j]?=some (some (.lst ys))) (sj:σ[j]?=some (some (.ref c))) (oc:Ow c) (hc:H c=some (.lst us)) (rc:Reps b.C (Bs (bn b i a cs H) Ow) H us ys):
  EN b (λx=>Ow x/\x≠c) G i σ ((env.set j none).set i (some (.lst (yss.map PV.lst++[.lst ys])))) (upd H a (.lst (cs.map V.ref++[.ref c]))) a (cs++[c]) (yss++[ys])/\Ex (KN b Ow a cs) H (KN b (λx=>Ow x/\x≠c) a (cs++[c])) (upd H a (.lst (cs.map V.ref++[.ref c]))):=by
 have no:=E.not_ow
 have nc:c∉a::cs:=λz=>no c z oc
 have nca:c≠a:=λz=>nc (z▸List.mem_cons_self)
 have ncs:c∉cs:=λz=>nc (List.mem_cons_of_mem _ z)
 have nd1:=List.nodup_cons.mp E.nd
 have hx:∀ x o,H x=some o->x≠a->(upd H a (.lst (cs.map V.ref++[.ref c]))) x=some o:=λx o q z=>by rw[aH z];exact q
 have mem':∀ x,x∈a::(cs++[c])↔x∈a::cs\/x=c:=λx=>by simp[or_assoc]
 have hc':(upd H a (.lst (cs.map V.ref++[.ref c]))) c=some (.lst us):=hx c _ hc nca
 have xk:Ex (KN b Ow a cs) H (KN b (λx=>Ow x/\x≠c) a (cs++[c])) (upd H a (.lst (cs.map V.ref++[.ref c]))):=λd o hd=>⟨λq=>by
  have da:d≠a:=λz=>q.2 (z▸List.mem_cons_self)
  exact⟨hx d o hd da,⟨λz=>q.1.1 z.1,q.1.2⟩,λz=>((mem' d).mp z).elim q.2 λw=>q.1.1 (w▸oc)⟩,λmm=>hx d o hd λz=>by subst z;rw[E.top] at hd;cases hd;cases mm⟩
 have lv':∀ x∈a::(cs++[c]),∃ o,(upd H a (.lst (cs.map V.ref++[.ref c]))) x=some o:=λx hx'=>by
  by_cases z:x=a
  ·rw[z];exact⟨_,aP⟩
  ·rcases(mem' x).mp hx' with y | y
   ·obtain⟨o,q⟩:=E.live x y;exact⟨o,hx x o q z⟩
   ·rw[y];exact⟨_,hc'⟩
 have xb:Ex (Bs (bn b i a cs H) Ow) H (Bs (bn b i a (cs++[c]) (upd H a (.lst (cs.map V.ref++[.ref c])))) (λx=>Ow x/\x≠c)) (upd H a (.lst (cs.map V.ref++[.ref c]))):=λd o hd=>⟨λq=>by
  obtain⟨z1,z2⟩:=(xk d o hd).1 ((cQ E.live).mp q)
  exact⟨z1,(cQ lv').mpr z2⟩,(xk d o hd).2⟩
 have hl:i < env.length:=by
  rcases Nat.lt_or_ge i env.length with z | z
  ·exact z
  ·have:=E.val;rw[List.getElem?_eq_none z] at this;cases this
 have inn':Inn b.C (KN b (λx=>Ow x/\x≠c) a (cs++[c])) (upd H a (.lst (cs.map V.ref++[.ref c]))) (cs++[c]) (yss++[ys]):=
  Inn.snoc hc' ((rc.ex (bF λd o _ q=>(cQ E.live).mp q)).ex xk) (E.inn.ex xk λd hd=>aH λz=>nd1.1 (z▸hd))
 have hnew:∀ x∈a::(cs++[c]),b.H0 x=none:=λx hx'=>by
  rcases(mem' x).mp hx' with y | y
  ·exact E.new x y
  ·rw[y]
   have q:=E.er.new c oc
   have q':(if c∈a::cs then H c else b.H0 c)=none:=q
   rw[if_neg nc] at q'
   exact q'
 refine⟨⟨by rw[List.getElem?_set_self (by rw[List.length_set];exact hl),List.map_append];rfl,by rw[aP,List.map_append];rfl,?_,hnew,inn',?_⟩,xk⟩
 ·rw[List.nodup_cons,List.nodup_append]
  refine⟨λz=>?_,nd1.2,by simp,λx h1 y h2 z=>?_⟩
  ·rcases List.mem_append.mp z with z | z
   ·exact nd1.1 z
   ·rw[List.mem_singleton] at z;exact nca z.symm
  ·rw[List.mem_singleton] at h2;subst h2 z;exact ncs h1
 ·rw[List.set_set,List.set_comm _ _ (Ne.symm hij)]
  have back:∀ {k:Nat}{q:PV},((env.set i none).set j none)[k]?=some (some q)->k≠j/\(env.set i none)[k]?=some (some q):=λ{k q} eq=>by
   by_cases z:j=k
   ·subst z
    rcases Nat.lt_or_ge j (env.set i none).length with y | y
    ·rw[List.getElem?_set_self y] at eq;cases eq
    ·rw[List.getElem?_eq_none (by rw[List.length_set];exact y)] at eq;cases eq
   ·rw[List.getElem?_set_ne z] at eq;exact⟨λw=>z w.symm,eq⟩
  have evj:(env.set i none)[j]?=some (some (.lst ys)):=by rw[List.getElem?_set_ne hij];exact ev
  refine⟨by rw[List.length_set];exact E.er.len,λd o hd=>?_,λd w=>?_,λd w=>?_,λk q eq nn=>?_,λk q eq nn=>?_,λk k' d q q' e1 n1 s1 e2 n2 s2=>?_,λk v hv=>E.er.fix k v hv⟩
  ·have hd':(if d∈a::(cs++[c]) then (upd H a (.lst (cs.map V.ref++[.ref c]))) d else b.H0 d)=some o:=hd
   by_cases z:d∈a::(cs++[c])
   ·rw[if_pos z] at hd';exact hd'
   ·rw[if_neg z] at hd'
    have z2:d∉a::cs:=λy=>z ((mem' d).mpr (.inl y))
    refine hx d o (E.er.same d o ?_) λy=>z2 (y▸List.mem_cons_self)
    show (if d∈a::cs then H d else b.H0 d)=some o
    rw[if_neg z2];exact hd'
  ·obtain⟨o,q⟩:=E.er.live d w.1
   exact⟨o,hx d o q λz=>no d (z▸List.mem_cons_self) w.1⟩
  ·show (if d∈a::(cs++[c]) then (upd H a (.lst (cs.map V.ref++[.ref c]))) d else b.H0 d)=none
   have z:d∉a::cs:=λy=>no d y w.1
   rw[if_neg λy=>((mem' d).mp y).elim z w.2]
   have q:=E.er.new d w.1
   have q':(if d∈a::cs then H d else b.H0 d)=none:=q
   rw[if_neg z] at q'
   exact q'
  ·obtain⟨kj,eq'⟩:=back eq
   obtain⟨v,z1,z2⟩:=E.er.val k q eq' λy=>(hG k y).elim nn kj
   exact⟨v,z1,z2.ex xb⟩
  ·obtain⟨kj,eq'⟩:=back eq
   obtain⟨d,z1,z2,z3⟩:=E.er.own k q eq' (hj k nn).1
   have dc:d≠c:=λz=>kj (E.er.sep k j c q _ eq' (hj k nn).1 (z▸z1) evj hjG sj)
   exact⟨d,z1,⟨z2,dc⟩,z3.ex xb λo y=>hx d o y λz=>no d (z▸List.mem_cons_self) z2⟩
  ·obtain⟨_,e1'⟩:=back e1
   obtain⟨_,e2'⟩:=back e2
   exact E.er.sep k k' d q q' e1' (hj k n1).1 s1 e2' (hj k' n2).1 s2
def yS (i j:Nat) (f1 f2:Env->Option Out) (env:Env):Option Out:=(f1 (env.set i none)).bind λo1=>match o1 with
 | .nx e1=>(f2 e1).bind λo2=>match o2 with
  | .nx e2=>(bV j e2).bind λy=>(bV i env).bind λx=>match y,x with
   | .lst ys,.lst ws=>if ws.length < 1000000 then some (.nx ((e2.set j none).set i (some (.lst (ws++[.lst ys]))))) else none
   | _,_=>none
  | _=>none
 | _=>none
@[simp] theorem Do (i j:Nat) (f1 f2:Env->Option Out) (env:Env):yS i j f1 f2 env=((f1 (env.set i none)).bind λo1=>match o1 with
 | .nx e1=>(f2 e1).bind λo2=>match o2 with
  | .nx e2=>(bV j e2).bind λy=>(bV i env).bind λx=>match y,x with
   | .lst ys,.lst ws=>if ws.length < 1000000 then some (.nx ((e2.set j none).set i (some (.lst (ws++[.lst ys]))))) else none
   | _,_=>none
  | _=>none
 | _=>none):=id rfl
theorem K_ (i j:Nat){x y:Str}{p1 p2 apos cpos:Pos}(hs1:∀ a cs H,SS X (bn b i a cs H) G G1 [] false s1 f1) (hs2:∀ a cs H,SS X (bn b i a cs H) G1 G1 [] false s2 f2) (hij:i≠j:=by decide) (hj:∀ k,k∈G->k∈G1/\k≠j:=by decide) (hG:∀ k,k∈G1->k∈G\/k=j:=by decide) (hjG:j∈G1:=by decide)
  (hN:X.N[i]?=some x:=by rfl) (hv:Vis X.env.scope x:=by first | exact Or.inl rfl | exact Or.inr (Or.inl rfl) | exact Or.inr (Or.inr rfl)) (hd:(x == ("__debug__" : Str))=false:=by decide) (hcd:(x == ("__classdict__" : Str))=false:=by decide)
  (hN2:X.N[j]?=some y:=by rfl) (hv2:Vis X.env.scope y:=by first | exact Or.inl rfl | exact Or.inr (Or.inl rfl) | exact Or.inr (Or.inr rfl)) (hd2:(y == ("__debug__" : Str))=false:=by decide) (hcd2:(y == ("__classdict__" : Str))=false:=by decide)
  (hbase:attributeBase (.Name x p1) "append" X.env (eval (.Name x p1) X.env)=eval (.Name x p1) X.env:=by rfl)
  (hfew:((backTo cpos (starEach [.Name y p2] X.env)).all (λx=>!x.1)&&(backToKw cpos (keywordEach [] X.env)).all (λx=>x.1.isSome)
   && decide ([Expr.Name y p2].length+([]:List Keyword).length+(if ([]:List Keyword).isEmpty then 0 else 1) < 30))=true:=by rfl)
  (hline:(apos.endLine == cpos.line)=true:=by rfl) (hs:starEach [.Name y p2] X.env=(false,eval (.Name y p2) X.env)::starEach [] X.env:=by rfl):
  NSs X b G i [s1,s2,.Expr (.Call (.Attribute (.Name x p1) "append" apos) [.Name y p2] [] cpos) pos] (yS i j f1 f2):=λpins s σ H D I ⟨Ow,env,a,cs,yss,env',E,hf,kk⟩=>by
 rw[Do] at hf
 obtain⟨o1,ho1,hf⟩:=ao hf
 cases o1 with
 | nx e1=>
  obtain⟨o2,ho2,hf⟩:=ao hf
  cases o2 with
  | nx e2=>
   obtain⟨py,hpy,hf⟩:=ao hf
   obtain⟨px,hpx,hf⟩:=ao hf
   have hpx':=cJ hpx
   rw[E.val] at hpx'
   cases hpx'
   cases py with
   | lst ys=>
    have hf:(if (yss.map PV.lst).length < 1000000 then some (Out.nx ((e2.set j none).set i (some (.lst (yss.map PV.lst++[.lst ys]))))) else none)=some (.nx env'):=hf
    split at hf
    ·rename_i hlt
     cases hf
     refine fK (hs1 a cs H) (fK (hs2 a cs H) (lQ (lR (ql PySem.F.plainAttrs_list PySem.F.slot_list_append PySem.F.type_list_append jg (dN hN hv hd hcd) (bU (dN hN2 hv2 hd2 hcd2) cT hs) hbase hfew hline hs rfl) rfl))) pins s σ H D I ?_
     refine⟨Ow,env.set i none,_,E.er,ho1,λOw1 σ1 H1 E1 x1=>⟨Ow1,e1,_,E1,ho2,λOw2 σ2 H2 E2 x2=>?_⟩⟩
     have xx:=x1.trans x2
     obtain⟨E3,x3⟩:=E.ofG E2 xx
     have hej:e2[j]?=some (some (.lst ys)):=cJ hpy
     have hej2:(e2.set i (some (.lst (yss.map PV.lst))))[j]?=some (some (.lst ys)):=by rw[List.getElem?_set_ne hij];exact hej
     obtain⟨c,sc,oc,us,hc,rc⟩:=E2.own j _ hej hjG
     have rc3:Reps b.C (Bs (bn b i a cs H2) Ow2) H2 us ys:=rc.ex (bF λd o _ q=>(cQ E3.live).mpr ((cQ E.live).mp q))
     refine⟨_,E3.slot,.inl ⟨rfl,_,SqL.of E3.top⟩,.ref c,sc,a,_,_,rfl,rfl,E3.top,gG (by rw[List.length_map] at hlt ⊢;rw[E3.inn.length];omega),?_⟩
     obtain⟨E4,x4⟩:=E3.give (G:=G) (j:=j) hij hj hG hjG hej2 sc oc hc rc3
     rw[List.set_comm _ _ hij,List.set_set] at E4
     exact kk _ _ _ _ _ E4 (λz hz=>List.mem_append_left _ hz) (x3.trans x4)
    ·cases hf
   | _=>cases hf
  | _=>cases hf
 | _=>cases hf
def tW (b:BX) (G:List Nat) (i:Nat) (f:Env->Option Out):TS:=λD σ H=>∃ Ow env a cs yss p,EN b Ow G i σ env H a cs yss/\f env=some (.rt p) /\
 ∀ Ow' H' cs' yss',p=.lst (yss'.map PV.lst)->Same b.H0 H'->H' a=some (.lst (cs'.map V.ref))->(a::cs').Nodup->(∀ x∈a::cs',b.H0 x=none)->Inn b.C (KN b Ow' a cs') H' cs' yss'->D.rt (.ref a) H'
def tWi (b:BX) (G:List Nat) (f:Env->Option Out):TS:=λD σ H=>∃ Ow env p,ER b Ow G σ env H/\f env=some (.rt p) /\
 ∀ a Ow' H' cs' yss',p=.lst (yss'.map PV.lst)->Same b.H0 H'->H' a=some (.lst (cs'.map V.ref))->(a::cs').Nodup->(∀ x∈a::cs',b.H0 x=none)->Inn b.C (KN b Ow' a cs') H' cs' yss'->D.rt (.ref a) H'
theorem EN.same {Ow:Addr->Prop}{σ:St}{env:Env}{H:Hp}{a:Addr}{cs:List Addr}{yss:List (List PV)}(E:EN b Ow G i σ env H a cs yss):Same b.H0 H:=λc o q=>E.er.same c o (by
 show (if c∈a::cs then H c else b.H0 c)=some o
 rw[if_neg λz=>by rw[E.new c z] at q;cases q];exact q)
theorem NQ (i:Nat){x:Str}{p1:Pos}(hN:X.N[i]?=some x:=by rfl) (hv:Vis X.env.scope x:=by first | exact Or.inl rfl | exact Or.inr (Or.inl rfl) | exact Or.inr (Or.inr rfl)) (hd:(x == ("__debug__" : Str))=false:=by decide) (hcd:(x == ("__classdict__" : Str))=false:=by decide):
  PSs X [.Return (some (.Name x p1)) pos] (tW b G i (bD (bV i))):=PSs.imp (lQ (zr (dN hN hv hd hcd))) λD σ H ⟨Ow,env,a,cs,yss,p,E,hf,k⟩=>by
 have hp:bV i env=some (.lst (yss.map PV.lst)):=by unfold bV;rw[E.val]
 rw[G8,hp] at hf
 cases hf
 exact⟨_,E.slot,k Ow H cs yss rfl E.same E.top E.nd E.new E.inn⟩
theorem Ay (x:NS X b G i st f) (c:PSs X rest (tW b G i g)):PSs X (st::rest) (tW b G i (aD (onx f) g)):=PSs.imp (fK x c) λD σ H ⟨Ow,env,a,cs,yss,p,E,hf,k⟩=>by
 unfold aD at hf
 obtain⟨o,ho,hz⟩:=ao hf
 obtain⟨o',ho',hz'⟩:=ao ho
 cases o' with
 | nx e'=>
  cases hz'
  exact⟨Ow,env,a,cs,yss,e',E,ho',λOw1 σ1 H1 cs1 yss1 E1 _ _=>⟨Ow1,e',a,cs1,yss1,p,E1,hz,k⟩⟩
 | bk e'=>cases hz'
 | ct e'=>cases hz'
 | rt p'=>cases hz'
theorem Hf (x:PS X st (tNi b G i f)) (c:PSs X rest (tW b G i g)):PSs X (st::rest) (tWi b G (aD (onx f) g)):=PSs.imp (fK x c) λD σ H ⟨Ow,env,p,E,hf,k⟩=>by
 unfold aD at hf
 obtain⟨o,ho,hz⟩:=ao hf
 obtain⟨o',ho',hz'⟩:=ao ho
 cases o' with
 | nx e'=>
  cases hz'
  exact⟨Ow,env,e',E,ho',fun σ1 H1 a cs yss E1 _=>⟨Ow,e',a,cs,yss,p,E1,hz,k a⟩⟩
 | bk e'=>cases hz'
 | ct e'=>cases hz'
 | rt p'=>cases hz'
theorem Dp {C:MC}{N:List Str}{n k:Nat}{body:List Stmt}{f:Env->Option Out}(hN:N.length=n) (hk:k<=n) (hb:∀ A H,PSs X body (tWi ⟨C,A,H,λ_=>none⟩ [] f))
  {vs:List V}{H:Hp}{Q:VK}{E:XK}(h:spW C (bO n k false f) vs H Q E):∃ t,PSs X body t/\t { nx:=λ_ H'=>Q .non H',rt:=Q } (L2.start N vs) H:=by
 obtain⟨A,ps,yss,r,hm,kk⟩:=h
 refine⟨_,hb A H,?_⟩
 unfold bO at hm
 split at hm
 ·rename_i hl
  obtain⟨o,ho,hm⟩:=ao hm
  cases o with
  | rt p=>
   cases hm
   refine⟨_,_,_,vm (N:=N) (G:=[]) r (λi hi=>nomatch hi) (by omega),by rw[hN,hl];exact ho,λa Ow' H' cs' yss' ep sm top nd nw inn=>?_⟩
   have e:yss'=yss:=by
    have e1:yss.map PV.lst=yss'.map PV.lst:=PV.lst.inj ep
    have e2:=ph yss
    rw[e1,ph] at e2
    exact Option.some.inj e2
   subst e
   exact kk a cs' H' sm nw nd top (inn.ex (bF λc o _ q=>⟨q.1.2,q.2⟩) λ_ _=>rfl)
  | nx e'=>simp at hm
  | bk e'=>cases hm
  | ct e'=>cases hm
 ·cases hm
theorem Hg {C:MC}{n k:Nat}{f:Env->Option Out}{ps:List Str}(hk:ps.length=k){vs:List V}{H:Hp}{Q:VK}{E:XK}(h:spW C (bO n k false f) vs H Q E):vs.length=ps.length:=by
 obtain⟨A,qs,yss,r,hm,_⟩:=h
 unfold bO at hm
 split at hm
 ·rename_i hl;rw[r.length,hl,hk]
 ·cases hm
theorem EN.startW {Ow:Addr->Prop}{σ:St}{env:Env}{H H2:Hp}{a:Addr}{cs:List Addr}{yss:List (List PV)}(E:ER b Ow G σ env H) (hl:i < env.length) (nd:(a::cs).Nodup) (hnone:∀ x∈a::cs,H x=none) (st:Same H H2) (top:H2 a=some (.lst (cs.map V.ref)))
  (inn:Inn b.C (KN b Ow a cs) H2 cs yss) (hG:i∉G) (hxi:b.fx i=none):
  EN b Ow G i (σ.set i (some (.ref a))) (env.set i (some (.lst (yss.map PV.lst)))) H2 a cs yss/\Ex (Bs b Ow) H (KN b Ow a cs) H2:=by
 have lv':∀ x∈a::cs,∃ o,H2 x=some o:=λx hx=>by
  rcases List.mem_cons.mp hx with z | z
  ·rw[z];exact⟨_,top⟩
  ·obtain⟨us,q⟩:=inn.live x z;exact⟨_,q⟩
 have xk:Ex (Bs b Ow) H (KN b Ow a cs) H2:=λc o q=>⟨λw=>⟨st c o q,w,λy=>by rw[hnone c y] at q;cases q⟩,λ_=>st c o q⟩
 have xb:Ex (Bs b Ow) H (Bs (bn b i a cs H2) Ow) H2:=λc o q=>⟨λw=>⟨st c o q,(cQ lv').mpr ((xk c o q).1 w).2⟩,λ_=>st c o q⟩
 have nw:∀ x∈a::cs,b.H0 x=none:=λx hx=>E.same.free (hnone x hx)
 have now:∀ x∈a::cs,¬ Ow x:=λx hx w=>by obtain⟨o,q⟩:=E.live x w;rw[hnone x hx] at q;cases q
 have back:∀ {k:Nat}{q:PV},(env.set i none)[k]?=some (some q)->i≠k/\env[k]?=some (some q):=λ{k q} e=>by
  by_cases hk:i=k
  ·subst hk
   rw[List.getElem?_set_self hl] at e;cases e
  ·rw[List.getElem?_set_ne hk] at e;exact⟨hk,e⟩
 refine⟨⟨by rw[List.getElem?_set_self hl],top,nd,nw,inn,?_⟩,xk⟩
 rw[List.set_set]
 refine⟨by rw[List.length_set,List.length_set];exact E.len,λc o q=>?_,λc w=>?_,λc w=>?_,λk q e n=>?_,λk q e n=>?_,λk k' c q q' e1 n1 s1 e2 n2 s2=>?_,λk v hv=>?_⟩
 ·have q':(if c∈a::cs then H2 c else b.H0 c)=some o:=q
  by_cases z:c∈a::cs
  ·rw[if_pos z] at q';exact q'
  ·rw[if_neg z] at q';exact st c o (E.same c o q')
 ·obtain⟨o,q⟩:=E.live c w
  exact⟨o,st c o q⟩
 ·show (if c∈a::cs then H2 c else b.H0 c)=none
  rw[if_neg λz=>now c z w];exact E.new c w
 ·obtain⟨hk,e'⟩:=back e
  obtain⟨v,z1,z2⟩:=E.val k q e' n
  exact⟨v,by rw[List.getElem?_set_ne hk];exact z1,z2.ex xb⟩
 ·obtain⟨hk,e'⟩:=back e
  obtain⟨c,z1,z2,z3⟩:=E.own k q e' n
  exact⟨c,by rw[List.getElem?_set_ne hk];exact z1,z2,z3.ex xb λo y=>st c o y⟩
 ·obtain⟨hk,e1'⟩:=back e1
  obtain⟨hk',e2'⟩:=back e2
  rw[List.getElem?_set_ne hk] at s1
  rw[List.getElem?_set_ne hk'] at s2
  exact E.sep k k' c q q' e1' n1 s1 e2' n2 s2
 ·have hv':(if k=i then some (V.ref a) else b.fx k)=some v:=hv
  by_cases hk:k=i
  ·rw[if_pos hk] at hv'
   cases hv'
   rw[hk,List.getElem?_set_self (by rw[E.len];exact hl)]
  ·rw[if_neg hk] at hv'
   rw[List.getElem?_set_ne (Ne.symm hk)]
   exact E.fix k v hv'
def uz (i:Nat) (mi:List PV->Option PV) (ga:Env->Option (List PV)) (env:Env):Option Out:=(ga env).bind λqs=>(mi qs).bind λp=>match p with
 | .lst ws=>(asL ws).bind λ_=>if i < env.length then some (.nx (env.set i (some (.lst ws)))) else none
 | _=>none
@[simp] theorem Dq (i:Nat) (mi:List PV->Option PV) (ga:Env->Option (List PV)) (env:Env):uz i mi ga env=((ga env).bind λqs=>(mi qs).bind λp=>match p with
 | .lst ws=>(asL ws).bind λ_=>if i < env.length then some (.nx (env.set i (some (.lst ws)))) else none
 | _=>none):=id rfl
theorem La (i:Nat){x:Str}{pos' p cpos:Pos}{kd j0:Nat}{fn:Str}{ps:List Str}{mi:List PV->Option PV}{ga:Env->Option (List PV)}(nd:X.N.Nodup) (cc:Cal X.prog X.w X.K X.mg X.base kd fn ps (spW b.C mi)) (hr:Room j0 X.A) (ha:SA X b G false (e::es) ga) (hG:i∉G:=by decide) (hx:b.fx i=none:=by first | rfl | assumption)
  (hi:X.N[i]?=some x:=by rfl) (hl:Loc X.env.scope x:=by first | exact Or.inl rfl | exact Or.inr rfl) (hle:kd<=j0:=by decide) (hg:Gl X fn:=by rfl) (hdb:(fn == ("__debug__" : Str))=false:=by decide)
  (he:starEach (e::es) X.env=(false,eval e X.env)::starEach es X.env:=by rfl) (hpl:(backTo cpos (starEach es X.env)).any (·.1)=false:=by rfl)
  (hs:swapsWith (.Call (.Name fn p) (e::es) [] cpos) (some (.Name x pos')) pos.line X.env=pure false:=by rfl) (hf:X.fn x=true\/X.env.scope.names.lookup x=some .local:=by first | exact .inl rfl | exact .inr rfl | assumption):
  PS X (.Assign [.Name x pos'] (.Call (.Name fn p) (e::es) [] cpos) pos) (tNi b G i (uz i mi ga)):=
 PS.imp (jF nd hi hl (z_ cc hr ha hle hg hdb he hpl) hs hf) λD σ H ⟨Ow,env,env',E,hz,k⟩=>by
  rw[Dq] at hz
  obtain⟨qs,hga,hz⟩:=ao hz
  obtain⟨q,hmi,hz⟩:=ao hz
  cases q with
  | lst ws=>
   obtain⟨yss,hy,hz⟩:=ao hz
   have ew:=vG hy
   subst ew
   have hz:(if i < env.length then some (Out.nx (env.set i (some (.lst (yss.map PV.lst))))) else none)=some (.nx env'):=hz
   split at hz
   ·rename_i hle'
    cases hz
    refine⟨Ow,env,qs,E,hga,λvs H1 s1 rr=>⟨Bs b Ow,qs,yss,by rw[List.append_nil];exact uq rr,hmi,λa cs H2 s2 hnew nd top inn=>?_⟩⟩
    have E1:=E.up s1
    obtain⟨E2,x2⟩:=EN.startW (i:=i) E1 hle' nd hnew s2 top (inn.ex (bF λc o _ q=>⟨q.1.elim id λz=>E1.fresh z,q.2⟩) λ_ _=>rfl) hG hx
    exact k _ _ a cs yss E2 ((Ex.of_same s1).trans x2)
   ·cases hz
  | _=>cases hz
end
end MR
namespace MR
open PySem L2
section
variable {X:Cx}{b:BX}{G G' L:List Nat}{i j:Nat}{e1 e2 e3:Expr}{h1 h2 h3:Env->Option PV}{pos pos2:Pos}
theorem ER.blind {Ow:Addr->Prop}{σ:St}{env:Env}{H:Hp}(E:ER b Ow G σ env H){v:V}(hj:j∉G) (hx:b.fx j=none):ER b Ow G (σ.set j (some v)) (env.set j none) H:=by
 have back:∀ {k:Nat}{q:PV},(env.set j none)[k]?=some (some q)->j≠k/\env[k]?=some (some q):=λ{k q} eq=>by
  by_cases z:j=k
  ·subst z
   rcases Nat.lt_or_ge j env.length with y | y
   ·rw[List.getElem?_set_self y] at eq;cases eq
   ·rw[List.getElem?_eq_none (by rw[List.length_set];exact y)] at eq;cases eq
  ·rw[List.getElem?_set_ne z] at eq;exact⟨z,eq⟩
 refine⟨by rw[List.length_set,List.length_set];exact E.len,E.same,E.live,E.new,λk q e n=>?_,λk q e n=>?_,λk l a q q' e1 n1 s1 e2 n2 s2=>?_,λk w hw=>?_⟩
 ·obtain⟨z,e'⟩:=back e
  rw[List.getElem?_set_ne z]
  exact E.val k q e' n
 ·obtain⟨z,e'⟩:=back e
  rw[List.getElem?_set_ne z]
  exact E.own k q e' n
 ·obtain⟨z1,e1'⟩:=back e1
  obtain⟨z2,e2'⟩:=back e2
  rw[List.getElem?_set_ne z1] at s1
  rw[List.getElem?_set_ne z2] at s2
  exact E.sep k l a q q' e1' n1 s1 e2' n2 s2
 ·have z:j≠k:=λz=>by rw[← z,hx] at hw;cases hw
  rw[List.getElem?_set_ne z];exact E.fix k w hw
theorem EN.blind {Ow:Addr->Prop}{σ:St}{env:Env}{H:Hp}{a:Addr}{cs:List Addr}{yss:List (List PV)}(E:EN b Ow G i σ env H a cs yss){v:V}(hij:i≠j) (hj:j∉G) (hx:b.fx j=none):EN b Ow G i (σ.set j (some v)) (env.set j none) H a cs yss:=
 ⟨by rw[List.getElem?_set_ne (Ne.symm hij)];exact E.val,E.top,E.nd,E.new,E.inn,by
  rw[List.set_comm _ _ (Ne.symm hij)]
  exact E.er.blind hj (by show (if j=i then _ else _)=_;rw[if_neg (Ne.symm hij)];exact hx)⟩
@[simp] def atL:PV->PV->Option (Nat×List PV)
 | .lst ws,.int k=>(ixN ws.length k).bind λp=>(ws[p]?).bind λw=>match w with
  | .lst ys=>some (p,ys)
  | _=>none
 | _,_=>none
@[simp] def puL:PV->Nat×List PV->PV->PV->Option PV
 | .lst ws,(p,ys),.int n,q=>(ixN ys.length n).bind λm=>some (.lst (ws.set p (.lst (ys.set m q))))
 | _,_,_,_=>none
def yU (i j:Nat) (h1 h2 h3:Env->Option PV) (env:Env):Option Out:=(bV i env).bind λx=>(h1 env).bind λk=>(atL x k).bind λw=>(h3 ((env.set j none).set i none)).bind λq=>(h2 (env.set j (some (.lst w.2)))).bind λn=>(puL x w n q).bind λy=>if j < env.length then some (.nx ((env.set j none).set i (some y))) else none
@[simp] theorem Hh (i j:Nat) (h1 h2 h3:Env->Option PV) (env:Env):yU i j h1 h2 h3 env=((bV i env).bind λx=>(h1 env).bind λk=>(atL x k).bind λw=>(h3 ((env.set j none).set i none)).bind λq=>(h2 (env.set j (some (.lst w.2)))).bind λn=>(puL x w n q).bind λy=>if j < env.length then some (.nx ((env.set j none).set i (some y))) else none):=id rfl
theorem Dr {x k:PV}{w:Nat×List PV}(h:atL x k=some w):∃ ws n,x=.lst ws/\k=.int n/\ixN ws.length n=some w.1/\ws[w.1]?=some (.lst w.2):=by
 unfold atL at h
 split at h
 ·obtain⟨p,hp,h⟩:=ao h
  obtain⟨y,hy,h⟩:=ao h
  split at h
  ·cases h;exact⟨_,_,rfl,rfl,hp,hy⟩
  ·cases h
 ·cases h
theorem Ds {ws:List PV}{w:Nat×List PV}{n q y:PV}(h:puL (.lst ws) w n q=some y):∃ k m,n=.int k/\ixN w.2.length k=some m/\y=.lst (ws.set w.1 (.lst (w.2.set m q))):=by
 obtain⟨p,ys⟩:=w
 cases n <;> simp only[puL] at h <;> first | cases h | skip
 obtain⟨m,hm,h⟩:=ao h
 cases h
 exact⟨_,m,rfl,hm,rfl⟩
theorem Lb (i j:Nat){x y:Str}{p1 p2 p3 p4 p5:Pos}(nd:X.N.Nodup) (he1:SE X b G .val e1 h1) (he2:SE X b G .val e2 h2) (he3:∀ a cs H,SE X (bn b i a cs H) G .val e3 h3) (hij:i≠j:=by decide) (hiG:i∉G:=by decide) (hjG:j∉G:=by decide) (hxi:b.fx i=none:=by first | rfl | assumption) (hxj:b.fx j=none:=by first | rfl | assumption)
  (hN:X.N[i]?=some x:=by rfl) (hv:Vis X.env.scope x:=by first | exact Or.inl rfl | exact Or.inr (Or.inl rfl) | exact Or.inr (Or.inr rfl)) (hd:(x == ("__debug__" : Str))=false:=by decide) (hcd:(x == ("__classdict__" : Str))=false:=by decide)
  (hN2:X.N[j]?=some y:=by rfl) (hv2:Vis X.env.scope y:=by first | exact Or.inl rfl | exact Or.inr (Or.inl rfl) | exact Or.inr (Or.inr rfl)) (hd2:(y == ("__debug__" : Str))=false:=by decide) (hcd2:(y == ("__classdict__" : Str))=false:=by decide)
  (hl2:Loc X.env.scope y:=by first | exact Or.inl rfl | exact Or.inr rfl) (hpi:oY e1:=by intro _ _;rfl)
  (hs:swapsWith (.Subscript (.Name x p1) e1 p2) (some (.Name y p3)) pos.line X.env=pure false:=by rfl) (hf2:X.fn y=true\/X.env.scope.names.lookup y=some .local:=by first | exact .inl rfl | exact .inr rfl | assumption)
  (hs2:swapsWithSole [.Subscript (.Name y p4) e2 p5] e3 pos2.line X.env=pure false:=by rfl) (hw:swappedStores [.Subscript (.Name y p4) e2 p5] e3 X.env=pure none:=by rfl)
  (ha1:(assignEach [.Subscript (.Name y p4) e2 p5] X.env).map (·.2)=[assign (.Subscript (.Name y p4) e2 p5) X.env]:=by rfl)
  (ha:∀ v,assign (.Subscript (.Name y p4) e2 p5) X.env v=(do
   let ov ← holding [v] (eval (.Name y p4) X.env)
   let iv ← holding [v,ov] (eval e2 X.env)
   standAt p5
   holding [v,ov,iv] (setItem ov iv v)
   release [v,ov,iv] []):=by intro _;rfl) (hK:X.K=b.C.K:=by rfl):
  NSs X b G i [.Assign [.Name y p3] (.Subscript (.Name x p1) e1 p2) pos,.Assign [.Subscript (.Name y p4) e2 p5] e3 pos2] (yU i j h1 h2 h3):=λpins s σ H D I ⟨Ow,env,a,cs,yss,env',E,hf,kk⟩=>by
 rw[Hh] at hf
 obtain⟨px,hpx,hf⟩:=ao hf
 obtain⟨pk,hpk,hf⟩:=ao hf
 obtain⟨w,hw',hf⟩:=ao hf
 obtain⟨q,hq,hf⟩:=ao hf
 obtain⟨pn,hpn,hf⟩:=ao hf
 obtain⟨y',hy',hf⟩:=ao hf
 split at hf
 case isFalse=>cases hf
 rename_i hjl
 cases hf
 have hpx':=cJ hpx
 rw[E.val] at hpx'
 cases hpx'
 obtain⟨ws,k,ew,rfl,hk,hys⟩:=Dr hw'
 cases ew
 obtain⟨n,m,rfl,hm,rfl⟩:=Ds hy'
 obtain⟨p,ys⟩:=w
 simp only at hk hys hm hpn
 rw[List.getElem?_map] at hys
 obtain⟨ys',hys',eys⟩:=Option.map_eq_some_iff.mp hys
 cases eys
 obtain⟨c,us,hc,hHc,hr⟩:=E.inn.get hys'
 have hcm:c∈cs:=List.mem_of_getElem? hc
 have hat:atI (cs.map V.ref) k=some (.ref c):=by
  unfold atI
  rw[List.length_map] at hk ⊢
  rw[E.inn.length,hk]
  simp[hc]
 refine fK (jF nd hN2 hl2 (yo (r:=yp X.K) ix_list (dN hN hv hd hcd) (SE.bor he1) hpi) hs hf2) (lQ (uH (he3 a cs H) (zx (dN hN2 hv2 hd2 hcd2) he2 set_list ha) hs2 hw ha1)) pins s σ H D I ?_
 refine⟨_,E.slot,Ow,env,.int k,E.out hiG hxi,hpk,λv H1 s1 r1=>?_⟩
 refine⟨a,_,k,_,rfl,RepB.int r1,SqL.of (s1 _ _ E.top),hat,?_⟩
 have E1:=E.up s1
 have sj:(σ.set j (some (.ref c)))[j]?=some (some (.ref c)):=by
  rw[List.getElem?_set_self (by rw[E.er.len,List.length_set];exact hjl)]
 have E1b:=E1.blind (v:=.ref c) (j:=j) hij hjG hxj
 have st1:∀ x∈a::cs,H1 x=H x:=λx hx=>by obtain⟨o,z⟩:=E.live x hx;rw[z];exact s1 _ _ z
 have er1:=E1b.er
 rw[yP st1] at er1
 refine⟨Ow,_,q,er1,hq,λv2 H2 s2 r2=>⟨.ref c,sj,?_⟩⟩
 have E2:=E1.up s2
 have hHc2:=s2 _ _ (s1 _ _ hHc)
 have no:=E2.not_ow
 have rc:Rep b.C (Bs b Ow) H2 (.ref c) (.lst ys):=.lst hHc2 ⟨no c (List.mem_cons_of_mem _ hcm),.inr (E2.new c (List.mem_cons_of_mem _ hcm))⟩ ((hr.ex (.of_same (s1.trans s2))).ex (bF λc o _ q=>q.1))
 refine⟨Ow,env.set j (some (.lst ys)),.int n,(E2.out hiG hxi).set hjG rc hxj,hpn,λu H3 s3 r3=>?_⟩
 have hHc3:=s3 _ _ hHc2
 have eu:=RepB.int (.inl r3)
 subst eu
 refine⟨c,us,n,m,rfl,rfl,hHc3,by rw[hr.length];exact hm,?_⟩
 have s23:=s2.trans s3
 have E3:=E1b.up s23
 have hac:a≠c:=λz=>(List.nodup_cons.mp E.nd).1 (z▸hcm)
 have ndc:=(List.nodup_cons.mp E.nd).2
 have xc:Ex (KN b Ow a cs) H3 (KN b Ow a cs) (upd H3 c (.lst (us.set m v2))):=λd o hd=>⟨λq=>⟨by rw[aH (λz:d=c=>q.2 (z▸List.mem_cons_of_mem _ hcm))];exact hd,q⟩,λmm=>by
  have hdc:d≠c:=λz=>by subst z;rw[hHc3] at hd;cases hd;cases mm
  rw[aH hdc];exact hd⟩
 have rr:Reps b.C (KN b Ow a cs) H3 (us.set m v2) (ys.set m q):=by
  have r2':Rep b.C (Bs (bn b i a cs H) Ow) H2 v2 q:=r2
  exact Reps.set (Rep.ex (.of_same s3) (r2'.ex (bF λc o _ q=>(cQ E.live).mp q))) m (hr.ex (.of_same (s1.trans s23)))
 have inn':=Inn.set xc (rr.ex xc) ndc hc aP (λz hz hne=>aH hne) E3.inn
 obtain⟨E4,x4⟩:=E3.rebase (cs':=cs) (H':=upd H3 c (.lst (us.set m v2))) (λ_ z=>z) (λz o hz hn=>by rw[aH (λq:z=c=>hn (q▸List.mem_cons_of_mem _ hcm))];exact hz) (λz h1 h2=>absurd h1 h2) E.nd E.new (by rw[aH hac];exact E3.top) inn'
 rw[List.map_set] at E4
 exact kk Ow _ _ cs _ E4 (λ_ z=>z) ((Ex.of_same (s1.trans s23)).trans x4)
end
end MR
namespace My
open PySem L2 MR
@[simp] theorem QG (i j:Int):eqP (.int i) (.int j)=some (decide (i=j)):=rfl
@[simp] theorem QH (i j:Str):eqP (.str i) (.str j)=some (decide (i=j)):=rfl
@[simp] theorem Rj (i j:Bool):eqP (.bl i) (.bl j)=some (decide (i=j)):=rfl
theorem Hi {α β:Type}(f:α->β) (xs:List α) (i:Int):atI (xs.map f) i=(atI xs i).map f:=by
 unfold atI
 rw[List.length_map]
 cases ixN xs.length i with
 | none=>rfl
 | some j=>simp
theorem cj {α:Type}{xs:List α}{k:Nat}{x:α}(h:xs[k]?=some x):atI xs (k:Int)=some x:=Gw h
section
variable {α:Type}{env:MR.Env}{g:PV->MR.Env->Option MR.Env}{t:MR.Env->Option Bool}{f:MR.Env->Option PV}
theorem gY (c h:α->PV):∀ (ys:List α),(∀ y∈ys,∃ e,g (c y) env=some e/\f e=some (h y))->cY env g fM f (ys.map c)=some (ys.map h)
 | [],_=>rfl
 | y::ys,hh=>by
  obtain⟨e,h1,h2⟩:=hh y List.mem_cons_self
  have ih:=gY c h ys λz hz=>hh z (List.mem_cons_of_mem _ hz)
  simp[cY,h1,h2,ih]
theorem gn (c h:α->PV) (p:α->Bool):∀ (ys:List α),(∀ y∈ys,∃ e,g (c y) env=some e/\t e=some (p y)/\(p y=true->f e=some (h y)))->cY env g t f (ys.map c)=some ((ys.filter p).map h)
 | [],_=>rfl
 | y::ys,hh=>by
  obtain⟨e,h1,h2,h3⟩:=hh y List.mem_cons_self
  have ih:=gn c h p ys λz hz=>hh z (List.mem_cons_of_mem _ hz)
  cases hp:p y with
  | true=>simp[cY,h1,h2,h3 hp,ih,hp]
  | false=>simp[cY,h1,h2,ih,hp]
end
theorem kZ {α:Type}(c:α->PV):∀ (ys:List α) (n:Nat),eN n (ys.map c)=(ys.zipIdx n).map λy=>.tup [.int (y.2:Nat),c y.1]
 | [],_=>rfl
 | y::ys,n=>by simp[eN,kZ c ys]
end My
namespace My
open PySem L2 MR
section
variable {α:Type}(a b c d e f g h:α) (l:List α)
@[simp] theorem at0:atI (a::l) 0=some a:=cj (k:=0) rfl
@[simp] theorem at1:atI (a::b::l) 1=some b:=cj (k:=1) rfl
@[simp] theorem at2:atI (a::b::c::l) 2=some c:=cj (k:=2) rfl
@[simp] theorem at3:atI (a::b::c::d::l) 3=some d:=cj (k:=3) rfl
end
@[simp] def nxt (ds:List Nat):Option Out->Option MR.Env
 | some (.nx e)=>some (clr ds e)
 | some (.ct e)=>some (clr ds e)
 | _=>none
def turn (g:PV->MR.Env->Option MR.Env) (ds:List Nat) (body:MR.Env->Option Out) (x:PV) (env:MR.Env):Option MR.Env:=(g x env).bind λe=>nxt ds (body e)
theorem aR (g:PV->MR.Env->Option MR.Env) (ds:List Nat) (body:MR.Env->Option Out) (x:PV) (env:MR.Env):turn g ds body x env=(g x env).bind λe=>nxt ds (body e):=id rfl
theorem m5 {g:PV->MR.Env->Option MR.Env}{ds:List Nat}{body:MR.Env->Option Out}{x:PV}{xs:List PV}{env env':MR.Env}(h:turn g ds body x env=some env'):bK g ds body (x::xs) env=bK g ds body xs env':=by
 unfold turn at h
 obtain⟨e,h1,h2⟩:=ao h
 unfold nxt at h2
 split at h2
 ·rename_i q;cases h2;simp[bK,h1,q]
 ·rename_i q;cases h2;simp[bK,h1,q]
 ·cases h2
theorem fJ {α S:Type}{g:PV->MR.Env->Option MR.Env}{ds:List Nat}{body:MR.Env->Option Out}(c:α->PV) (E:S->MR.Env) (step:S->α->S) (I:List α->S->Prop):∀ (ys:List α) (s:S),I ys s->
  (∀ y ys s,I (y::ys) s->I ys (step s y)/\turn g ds body (c y) (E s)=some (E (step s y)))->
  bK g ds body (ys.map c) (E s)=some (.nx (E (ys.foldl step s)))
 | [],s,_,_=>rfl
 | y::ys,s,i,hh=>by
  obtain⟨hI,h1⟩:=hh y ys s i
  have ih:=fJ c E step I ys (step s y) hI hh
  rw[List.map_cons,m5 h1,ih,List.foldl_cons]
theorem aL {f g:MR.Env->Option Out}{env e:MR.Env}(h:f env=some (.nx e)):aD f g env=g e:=by simp[h]
theorem cD (n:Nat):cg 0 (n:Int)=(List.range n).map λk=>PV.int (k:Nat):=by
 unfold cg
 simp
def cell (ns:List Int) (k:Nat):Int:=ns.getD k 0
def mixed (c k:Int):Int:=(c*48271+k*k*69621+5) % 2147483647
theorem Du (c k:Int):0<=mixed c k:=Int.emod_nonneg _ (by decide)
def okP:Nat->PV->Prop
 | _,.non=>True
 | _,.bl _=>True
 | _,.int _=>True
 | _,.str x=>PyData.strOk x=true
 | n+1,.lst xs=>∀ x∈xs,okP n x
 | n+1,.tup xs=>∀ x∈xs,okP n x
 | _,_=>False
theorem vH {n:Nat}(ih:∀ p,okP n p->∃ d,toD p=some d/\d.canLay0=true/\d.depth<=n/\PyData.eqv d d=true):∀ xs:List PV,(∀ x∈xs,okP n x)->∃ ds,dF xs=some ds/\PyData.canLayAll0 ds=true/\PyData.depthAll ds<=n/\PyData.eqvAll ds ds=true
 | [],_=>⟨[],rfl,rfl,Nat.zero_le _,rfl⟩
 | x::xs,h=>by
  obtain⟨d,h1,h2,h3,h4⟩:=ih x (h x List.mem_cons_self)
  obtain⟨ds,g1,g2,g3,g4⟩:=vH ih xs λz hz=>h z (List.mem_cons_of_mem _ hz)
  refine⟨d::ds,by simp[dF,h1,g1],by simp[PyData.canLayAll0,h2,g2],?_,by simp[PyData.eqvAll,h4,g4]⟩
  simp only[PyData.depthAll]
  omega
theorem yV:∀ (n:Nat) (p:PV),okP n p->∃ d,toD p=some d/\d.canLay0=true/\d.depth<=n/\PyData.eqv d d=true
 | n,.non,_=>⟨.none,by simp[toD],by simp[PyData.canLay0],by simp[PyData.depth],by simp[PyData.eqv]⟩
 | n,.bl b,_=>⟨.bool b,by simp[toD],by simp[PyData.canLay0],by simp[PyData.depth],by simp[PyData.eqv]⟩
 | n,.int b,_=>⟨.int b,by simp[toD],by simp[PyData.canLay0],by simp[PyData.depth],by simp[PyData.eqv]⟩
 | n,.str b,h=>⟨.str b,by simp[toD],by simpa [PyData.canLay0,okP] using h,by simp[PyData.depth],by simp[PyData.eqv]⟩
 | n+1,.lst xs,h=>by
  obtain⟨ds,g1,g2,g3,g4⟩:=vH (yV n) xs (by simpa [okP] using h)
  exact⟨.list ds,by simp[toD,g1],by simp[PyData.canLay0,g2],by simp only[PyData.depth];omega,by simp[PyData.eqv,g4]⟩
 | n+1,.tup xs,h=>by
  obtain⟨ds,g1,g2,g3,g4⟩:=vH (yV n) xs (by simpa [okP] using h)
  exact⟨.tuple ds,by simp[toD,g1],by simp[PyData.canLay0,g2],by simp only[PyData.depth];omega,by simp[PyData.eqv,g4]⟩
 | 0,.lst _,h=>by simp[okP] at h
 | 0,.tup _,h=>by simp[okP] at h
 | _,.frz _,h=>by simp[okP] at h
 | _,.ktp _,h=>by simp[okP] at h
 | _,.dK _,h=>by simp[okP] at h
 | _,.dT _,h=>by simp[okP] at h
 | _,.obj _ _,h=>by simp[okP] at h
theorem Dv {n:Nat}{p:PV}(h:okP n p) (hn:n<=64):eqD p p=some true:=by
 obtain⟨d,h1,h2,h3,h4⟩:=yV n p h
 have hs:SeqAt.shaped d=true:=by
  unfold SeqAt.shaped
  rw[h2,Bool.true_and,decide_eq_true_eq]
  omega
 simp[eqD,h1,hs,h4]
theorem Dw {p:PV}{k:Bool}(h:eqS p p=some k):k=true:=by
 cases p <;> simp at h <;> first | exact h | exact h.symm | cases h
theorem vI {n:Nat}{p:PV}(h:okP n p) (hn:n<=64):eqP p p=some true:=by
 unfold eqP
 cases q:eqS p p with
 | none=>exact Dv h hn
 | some k=>rw[Dw q]
@[simp] theorem QJ:eqP (.lst []) (.lst [])=some true:=vI (n:=1) (by simp[okP]) (by decide)
end My
namespace MR
open PySem L2 PyProof.Rows PySem.Spec
theorem csc {osc scope:Scope}{ON N:List Str}{cap:List (Option Nat)}(h1:scope.kind=.function:=by rfl) (h2:∀ y∈scope.names,y.2≠.cell:=by decide +kernel) (h3:∀ y∈scope.names,y.2=.local->scope.names.lookup y.1=some .local:=by decide +kernel)
  (h4:∀ y∈scope.names,y.2=.free->osc.names.lookup y.1=some .cell\/osc.names.lookup y.1=some .free:=by decide +kernel) (h5:ul scope ON N cap=true:=by decide +kernel):CSc osc scope ON N cap:=⟨h1,h2,h3,h4,h5⟩
theorem fsc {N P:List Str}{sc:Scope}(h1:sc.kind=.function:=by rfl) (h2:sc.isCoroutine=false:=by rfl) (h3:sc.isGenerator=false:=by rfl) (h4:N.Nodup:=by decide +kernel) (h5:N.take P.length=P:=by rfl)
  (h6:∀ x∈P,sc.names.lookup x=some .local\/sc.names.lookup x=some .cell:=by decide +kernel) (h7:∀ y∈sc.names,y.2≠.free:=by decide +kernel):FnScope N P sc:=⟨h1,h2,h3,h4,h5,h6,h7⟩
theorem lD {X:Cx}{N:List Str}{scope:Scope} {C s H fp}{x:Str}{pos:Pos}(i:Nat) (hN:N.Nodup:=by decide +kernel) (hi:N[i]?=some x:=by rfl) (hx:Loc (X.comp N scope C s H fp).env.scope x:=by exact Or.inl rfl)
  (hf:(X.comp N scope C s H fp).fn x=true\/(X.comp N scope C s H fp).env.scope.names.lookup x=some .local:=by first | exact .inl rfl | exact .inr rfl | assumption):PG (X.comp N scope C s H fp) (.Name x pos) (oW i):=qW hN hi hx hf
section
variable {P:Program}{w:World}{K:PySem.W.Frag}{mg:Str->Option Value}{base:Heap}
theorem fok {x qual:Str}{st:Stmt}{f:Addr}{fd:FuncData}{N ps:List Str}{k n kk:Nat}{C:MC}{G G' L:List Nat}{ro:Bool}{g:Env->Option Out}(F:Fun K x qual st f fd) (S:FnScope N ps (aF st))
  (hb:∀ (cdv:Value) (A:Around) (outer:List PySem.Env) (s:Shared) (H:Hp) (E:XK),Room k (A.deeper (envOfC qual (aF st) s.heap.objs.size f cdv))->∀ B H',SSs (pJ CX0 P w K mg base N qual (aF st) f cdv A outer s H E).nox ⟨C,B,H',λ_=>none⟩ G G' L ro (dZ st) g)
  (hp:kk=ps.length:=by rfl) (hN:N.length=n:=by rfl) (hk:kk<=n:=by decide) (hG:(G.all λi=>decide (kk<=i))=true:=by decide):FnOk P w K mg base CX0 (k+1) f fd ps (spM C (bO n kk ro g) ro):=
 F.ok S (λvs H Q E h=>(G_ h).trans hp) λcdv A outer s H vs Q E hr h=>G9 hN hk hG (λB H'=>hb cdv A outer s H E hr B H') h
end
end MR
namespace L2
open PySem MR
section
variable {K:PySem.W.Frag}{x q:Str}{st:Stmt}{f:Addr}{fd:FuncData}{ps:List Str}(F:Fun K x q st f fd)
include F
theorem Fun.bd1 (hl:ps.length=1:=by rfl) (h:∀ k d p n c t a,bindArgs (PySem.W.fnOf x q (fX st) (dZ st) (aF st) .none k d p n c t) ⟨[a],[]⟩=pure (ps.zip [a]):=by intros;rfl):Binds K fd ps []:=F.binds λk d p n c t us e=>KR us (e.trans hl) (h k d p n c t)
theorem Fun.bd2 (hl:ps.length=2:=by rfl) (h:∀ k d p n c t a b,bindArgs (PySem.W.fnOf x q (fX st) (dZ st) (aF st) .none k d p n c t) ⟨[a,b],[]⟩=pure (ps.zip [a,b]):=by intros;rfl):Binds K fd ps []:=F.binds λk d p n c t us e=>KY us (e.trans hl) (h k d p n c t)
theorem Fun.bd3 (hl:ps.length=3:=by rfl) (h:∀ k d p n c t a b g,bindArgs (PySem.W.fnOf x q (fX st) (dZ st) (aF st) .none k d p n c t) ⟨[a,b,g],[]⟩=pure (ps.zip [a,b,g]):=by intros;rfl):Binds K fd ps []:=F.binds λk d p n c t us e=>KZ us (e.trans hl) (h k d p n c t)
theorem Fun.bd4 (hl:ps.length=4:=by rfl) (h:∀ k d p n c t a b g i,bindArgs (PySem.W.fnOf x q (fX st) (dZ st) (aF st) .none k d p n c t) ⟨[a,b,g,i],[]⟩=pure (ps.zip [a,b,g,i]):=by intros;rfl):Binds K fd ps []:=F.binds λk d p n c t us e=>K1 us (e.trans hl) (h k d p n c t)
theorem Fun.bd5 (hl:ps.length=5:=by rfl) (h:∀ k d p n c t a b g i j,bindArgs (PySem.W.fnOf x q (fX st) (dZ st) (aF st) .none k d p n c t) ⟨[a,b,g,i,j],[]⟩=pure (ps.zip [a,b,g,i,j]):=by intros;rfl):Binds K fd ps []:=F.binds λk d p n c t us e=>PQ us (e.trans hl) (h k d p n c t)
end
end L2
namespace My
open PySem L2 MR
noncomputable section
def mq:PV:=.ktp [.int 0,.int 0,.int 0]
def tb_bool:List (String×Bool):=[("bool",true),("int",false)]
def tb_int:List (String×Bool):=[("int",true)]
def nu:=(bD (b2 bW (b2 aY (b2 aY (b2 jM (bV 0) (bC (.int 48271))) (b2 jM (b2 jM (bV 1) (bV 1)) (bC (.int 69621)))) (bC (.int 5))) (bC (.int 2147483647))))
def bT:=bO 2 2 false nu
def cU:=(aJ 3 (b2 aY (bV 3) (b2 ixP (bC (.str "u-x")) (b2 bW (b2 cA (bV 0) (b2 aY (b2 aY (bC (.int 7)) (b2 jM (bC (.int 5)) (bV 2))) (b2 jM (bC (.int 11)) (bV 4)))) (bC (.int 3))))))
def cV:=(aD (aJ 3 (bC (.str ""))) (aD (bY (gN 4) (iR1 (b2 aY (bC (.int 1)) (b2 bW (b2 cA (bV 0) (b2 aY (bC (.int 4)) (b2 jM (bC (.int 3)) (bV 2)))) (bC (.int 4))))) [4] cU) (sIf (tV (b2 n_ (bV 3) (bV 1))) (cP fY 1 (bV 3)) sNx)))
def jR:=(aD (aJ 1 (aU az)) (aD (bY (gN 2) (iR1 (b2 aY (bC (.int 1)) (b2 bW (bV 0) (bC (.int 4))))) [2,3,4] cV) (bD (b1 qG (bV 1)))))
def cL:=bO 5 1 false jR
def h_:=(aD (aJ 4 (aQ bT (aa (bV 3) (aa (bV 2) az)))) (cP fY 1 (bG (aa (aQ cL (aa (b2 cA (bV 4) (bC (.int 2))) az)) (aa (b2 eqQ (b2 bW (bV 4) (bC (.int 2))) (bC (.int 1))) az)))))
def nA:=(aD (aJ 1 (aU az)) (aD (bY (gT [2,3]) (iE2 (bV 0)) [2,3,4] h_) (bD (b1 qG (bV 1)))))
def d8:=bO 5 1 false nA
def b7:=(cP fY 2 (bG (aa (b2 ixP (bV 6) (bV 7)) (aa (lw (bV 5) (b2 eqQ (b2 aY (bV 7) (bC (.int 1))) (b1 lenV (bV 6)))) az))))
def b8:=(aD (oH (gT [4,5]) (b2 ixP (bV 0) (bV 3))) (aD (aJ 6 (b2 ixP (bV 4) (b2 ixP (bV 1) (bV 3)))) (bY (gN 7) (iR1 (b1 lenV (bV 6))) [7] b7)))
def jn:=(aD (aJ 2 (aU az)) (aD (bY (gN 3) (iR1 (b1 lenV (bV 0))) [3,6,7,4,5] b8) (bD (bV 2))))
def di:=bO 8 2 false jn
def dz:=(b2 ixP (bV 1) (b2 bW (b2 aY (b2 cA (bV 2) (bC (.int 16))) (bV 0)) (bC (.int 4))))
def dB:=(tV (b2 eqQ (b2 bW (b2 cA (bV 2) (b2 ixP (aU (aa (bC (.int 1)) (aa (bC (.int 2)) (aa (bC (.int 4)) (aa (bC (.int 8)) az))))) (bV 0))) (bC (.int 2))) (bC (.int 1))))
def dC:=(bV 0)
def dD:=(tV (b2 jO (bV 0) (bC .non)))
def eQ:=(aD (aJ 2 (aU (aa (bG (aa (bC (.int 0)) (aa (bC (.str "u")) az))) (aa (bG (aa (bC (.int 0)) (aa (bC (.str "-")) az))) (aa (bG (aa (bC (.int 1)) (aa (bC (.str "-")) az))) (aa (bC .non) az)))))) (aD (aJ 3 (eO [none,some 2,some 0] (iR1 (bC (.int 4))) (gN 0) dB dz)) (aD (sIf (tN (tV (bV 1))) (aJ 3 (eO [none] (iV (bV 3)) (gN 0) dD dC)) sNx) (bD (bV 3)))))
def cZ:=bO 4 2 false eQ
def jT:=(aD (aJ 3 (aQ cZ (aa (bV 0) (aa (bV 1) az)))) (aD (sIf (tV (b2 inQ (bV 2) (bV 3))) (bD (bV 3)) sNx) (aD (aJ 4 (b2 bW (b2 cA (bV 0) (bC (.int 64))) (b2 aY (b1 lenV (bV 3)) (bC (.int 1))))) (bD (b2 pN (b2 pN (bSl (bV 3) oN (oS (bV 4))) (aU (aa (bV 2) az))) (bSl (bV 3) (oS (bV 4)) oN))))))
def bu:=bO 5 3 false jT
def b_:=(aD (hid 3 (aJ 7 (aQ bT (aa (bV 2) (aa (b2 aY (b2 jM (bC (.int 7)) (bV 6)) (bC (.int 3))) az))))) (aD (nIf 3 (tA (tV (b2 eqQ (b2 bW (bV 7) (bC (.int 7))) (bC (.int 1)))) (tV (b2 iI (b2 aY (b1 lenV (bV 4)) (b1 lenV (bV 5))) (b2 aY (bC (.int 58)) (bV 6))))) (aD (pQ 3 (b1 mW (bC (.int 1))) (aQ bu (aa (b2 cA (bV 7) (bC (.int 7))) (aa (bC (.bl true)) (aa (bC .non) az))))) (aD (hid 3 (cP fY 4 (bC .non))) (pR 3))) sNx) (aD (hid 3 (oH (gT [8,9]) (b2 ixP (bV 5) (bV 6)))) (aD (hid 3 (sIf (tV (b2 eqQ (bV 8) (bC (.str "x")))) (aJ 8 (b2 ixP (aU (aa (bC (.str "u")) (aa (bC (.str "-")) az))) (b2 bW (b2 cA (bV 7) (bC (.int 7))) (bC (.int 2))))) sNx)) (aD (hid 3 (aJ 10 (bG (aa (b1 vg (lw (b2 eqQ (bV 8) (bC (.str "-"))) (b2 eqQ (b2 bW (b2 cA (bV 7) (bC (.int 14))) (bC (.int 4))) (bC (.int 1))))) (aa (bV 8) az))))) (aD (hid 3 (aJ 11 (bOr (bV 9) (bOr (b2 eqQ (b2 aY (bV 6) (bC (.int 1))) (b1 lenV (bV 5))) (b2 eqQ (b2 bW (b2 cA (bV 7) (bC (.int 56))) (bC (.int 3))) (bC (.int 0))))))) (aD (pQ 3 (b1 mW (bC (.int 1))) (aQ bu (aa (b2 cA (bV 7) (bC (.int 168))) (aa (bV 11) (aa (bV 10) az))))) (aD (hid 3 (cP fY 4 (bV 10))) (nIf 3 (tA (tV (bV 11)) (tV (b2 iI (b2 aY (bV 6) (bC (.int 1))) (b1 lenV (bV 5))))) (pR 3) sNx)))))))))
def jb:=(aD (onx (qI 3 1)) (aD (onx (hid 3 (aJ 4 (aU az)))) (aD (onx (hid 3 (aJ 5 (aQ di (aa (bV 0) (aa (bV 1) az)))))) (aD (onx (vA 3 (gN 6) (iR1 (b1 lenV (bV 5))) [6,7,10,11,8,9] b_)) (bD (aU (aa (bV 3) (aa (bV 4) az))))))))
def fj:=bO 12 3 false jb
def ie:=(bV 0)
def ig:=(tV (b2 neQ (bV 0) (b2 ixP (bV 1) (bV 2))))
def ik:=(bV 0)
def fZ:=(tO (tV (b2 eqQ (bV 0) (b2 ixP (bV 2) (bV 3)))) (tV (b2 inQ (bV 0) (bV 1))))
def eU:=(aD (aJ 7 (bSl (eO [none,some 1,some 3] (iV (bV 6)) (gN 0) ig ie) oN (oS (b1 vg (b2 iI (bV 3) (bC (.int 8))))))) (aD (cP fY 5 (eO [none,some 7,some 1,some 3] (iV (bV 6)) (gN 0) fZ ik)) (aJ 3 (b2 aY (bV 3) (bC (.int 1))))))
def k_:=(bY (gN 6) (iV (bV 4)) [6,7] eU)
def f9:=(yS 2 5 (aJ 5 (aU az)) k_)
def nF:=(aD (onx (qI 2 0)) (aD (onx (hid 2 (aJ 3 (bC (.int 0))))) (aD (onx (vA 2 (gN 4) (iV (bV 0)) [4,5,6,7] f9)) (bD (bV 2)))))
def dj:=bO 8 2 false nF
def ir:=(aD (sIf (tV (b2 iI (bV 1) (b1 lenV (bV 0)))) (bD (b2 ixP (bV 0) (bV 1))) sNx) (bD (bC (.int 0))))
def aW:=bO 2 2 false ir
def dM:=(sIf (tV (b2 isN (bV 6) (bC .non))) (cP fY 4 (bV 5)) (cP fY 4 (b2 pN (bV 5) (aU (aa (bG (aa (b2 ixP (bV 6) (bC (.int 1))) (aa (b2 eqQ (b2 aY (bV 3) (bC (.int 1))) (b1 lenV (bV 2))) az))) az)))))
def fD:=(bY (gN 6) (iV (b2 ixP (bV 2) (bV 3))) [6] dM)
def gK:=(aD (aJ 4 (aU az)) (aD (bY (gN 5) (iV (bV 1)) [5,6] fD) (aJ 1 (bV 4))))
def gM:=(bY (gN 3) (iR1 (b1 lenV (bV 2))) [3,4,5,6] gK)
def oK:=(aD (aJ 1 (aU (aa (aU az) az))) (aD (bY (gN 2) (iV (bV 0)) [2,3,4,5,6] gM) (bD (bV 1))))
def cW:=bO 7 1 false oK
def iJ:=(bG (aa (bV 1) (aa (bV 2) (aa (bV 0) az))))
def fG:=(cP pO 1 (eO [none,some 2,some 4] (iR2 (bC (.int 1)) (b1 lenV (bV 5))) (gN 0) fM iJ))
def iM:=(aD (cP fY 1 (bG (aa (bV 2) (aa (bC (.int 0)) (aa (bC (.int 0)) az))))) (bY (gT [4,5]) (iE2 (b2 ixP (bV 3) (bC (.int 0)))) [4,5] fG))
def oM:=(aD (aJ 1 (aU az)) (aD (bY (gT [2,3]) (iE2 (bV 0)) [2,3,4,5] iM) (bD (bV 1))))
def gq:=bO 6 1 false oM
def jU:=(bD (bG (aa (b1 lenV (bV 0)) (aa (bC (.int 0)) (aa (bC (.int 0)) az)))))
def cF:=bO 1 1 false jU
def iu:=(aD (aJ 3 (b2 ixP (bV 1) (bC (.int 0)))) (aD (aJ 4 (b2 aY (b2 ixP (bV 1) (bC (.int 2))) (bC (.int 1)))) (aD (sIf (tV (b2 iI (bV 4) (b1 lenV (b2 ixP (b2 ixP (b2 ixP (bV 0) (bV 3)) (bC (.int 0))) (b2 ixP (bV 1) (bC (.int 1))))))) (bD (bG (aa (bV 3) (aa (b2 ixP (bV 1) (bC (.int 1))) (aa (bV 4) az))))) sNx) (aD (sIf (tA (tV (b2 ixP (b2 ixP (bV 0) (bV 3)) (bC (.int 1)))) (tN (tV (bV 2)))) (bD (bC .non)) sNx) (bD (bG (aa (b2 aY (bV 3) (bC (.int 1))) (aa (bC (.int 0)) (aa (bC (.int 0)) az)))))))))
def c7:=bO 5 3 false iu
def jo:=(bD (bOr (b2 eqQ (bV 0) (bV 1)) (b2 eqQ (bV 0) (bC (.str "x")))))
def d9:=bO 2 2 false jo
def dm:=(aD (aJ 10 (aQ c7 (aa (bV 0) (aa (bG (aa (bV 4) (aa (bV 9) (aa (bV 5) az)))) (aa (bV 3) az))))) (sIf (tA (tV (b2 jO (bV 10) (bC .non))) (tV (aQ d9 (aa (b2 ixP (b2 ixP (bV 6) (bV 9)) (bV 5)) (aa (bV 2) az))))) (cP fY 8 (bG (aa (bV 9) (aa (bV 10) az)))) sNx))
def jc:=(aD (sIf (tV (b2 eqQ (bV 1) (aQ cF (aa (bV 0) az)))) (bD (aU az)) sNx) (aD (aJ 4 (b2 ixP (bV 1) (bC (.int 0)))) (aD (aJ 5 (b2 ixP (bV 1) (bC (.int 2)))) (aD (aJ 6 (b2 ixP (b2 ixP (bV 0) (bV 4)) (bC (.int 0)))) (aD (aJ 7 (bIf (tV (b2 eqQ (bV 5) (bC (.int 0)))) (b1 ux (b1 lenV (bV 6))) (aU (aa (b2 ixP (bV 1) (bC (.int 1))) az)))) (aD (aJ 8 (aU az)) (aD (bY (gN 9) (iV (bV 7)) [9,10] dm) (bD (bV 8)))))))))
def dJ:=bO 11 4 false jc
def jq:=(bG (aa (bV 2) (aa (bV 1) az)))
def jr:=(cP pO 3 (eO [none,none,some 4] (iV (aQ dJ (aa (bV 0) (aa (bV 4) (aa (bV 1) (aa (bV 2) az)))))) (gT [0,1]) fM jq))
def pC:=(aD (aJ 3 (aU az)) (aD (bY (gN 4) (iV (aQ gq (aa (bV 0) az))) [4] jr) (bD (bV 3))))
def cR:=bO 5 3 false pC
def my:=(mX lC 1 (bG (aa (bV 2) (aa (bV 3) az))) (aQ cR (aa (bV 0) (aa (bV 2) (aa (bV 3) az)))))
def mz:=(bY (gN 3) (iV (bG (aa (bC (.bl false)) (aa (bC (.bl true)) az)))) [3] my)
def oO:=(aD (aJ 1 (bC (.dT []))) (aD (bY (gN 2) (iV (bG (aa (bC (.str "u")) (aa (bC (.str "-")) az)))) [2,3] mz) (bD (bV 1))))
def gr:=bO 4 1 false oO
def iQ:=(bG (aa (bV 0) (aa (bV 0) az)))
def gw:=(bD (bIf (tV (b2 isN (bV 1) (bC .non))) (eO [none] (iK (bV 3)) (gN 0) fM iQ) (b2 ixP (bV 0) (bG (aa (b2 ixP (bV 1) (bC (.int 1))) (aa (bV 2) az))))))
def cX:=bO 4 4 false gw
def cH:=(sIf (tV (b2 inQ (bV 7) (bV 3))) (mX lC 4 (bV 6) (b2 aY (b3 o9 (bV 4) (bV 6) (bC (.int 0))) (b2 ixP (bV 3) (bV 7)))) sNx)
def gQ:=(bY (gT [6,7]) (iV (aQ cX (aa (bV 0) (aa (bV 5) (aa (bV 2) (aa (bV 3) az)))))) [6,7] cH)
def lg:=(aD (aJ 4 (bC (.dT []))) (aD (bY (gN 5) (iV (bV 1)) [5,6,7] gQ) (bD (bV 4))))
def eV:=bO 8 4 false lg
def iy:=(cP pO 1 (bV 2))
def nH:=(aD (aJ 1 (aU az)) (aD (bY (gN 2) (iV (bV 0)) [2] iy) (bD (bV 1))))
def fU:=bO 3 1 false nH
def gA:=(cP pO 1 (b2 pN (b2 oG (aU (aa (bC (.bl false)) az)) (b2 subV (b1 lenV (bV 2)) (bC (.int 1)))) (aU (aa (bC (.bl true)) az))))
def jy:=(aD (aJ 1 (aU az)) (aD (bY (gN 2) (iV (bV 0)) [2] gA) (bD (bV 1))))
def iz:=bO 3 1 false jy
def dX:=(aD (aJ 3 (aQ eV (aa (bV 2) (aa (bV 5) (aa (bV 6) (aa (bV 3) az)))))) (cP fY 4 (bV 3)))
def gZ:=(aD (aJ 2 (aQ gr (aa (bV 1) az))) (aD (aJ 3 (b2 qJ (aQ cF (aa (bV 1) az)) (bC (.int 1)))) (aD (aJ 4 (aU (aa (bV 3) az))) (aD (bY (gT [5,6]) (Dh (b2 o_ (aQ fU (aa (bV 0) az)) (aQ iz (aa (bV 0) az)))) [5,6] dX) (bD (b1 uy (bV 4)))))))
def cu:=bO 7 2 false gZ
def jV:=(bD (b3 qL (b2 ixP (aQ cu (aa (bV 0) (aa (bV 1) az))) (bC (.int 0))) (bC mq) (bC (.int 0))))
def bw:=bO 2 2 false jV
def dR:=(sIf (tA (tV (b2 neQ (b2 ixP (bV 5) (bV 6)) (bC (.str "x")))) (tV (b2 neQ (b2 ixP (bV 5) (bV 6)) (b2 ixP (b2 ixP (bV 2) (b2 aY (bV 3) (bV 6))) (bC (.int 0)))))) (bD (bC (.bl false))) sNx)
def gO:=(aD (aJ 5 (b2 ixP (bV 0) (bV 4))) (aD (sIf (tV (b2 (mR λi j=>decide (j < i)) (b2 aY (bV 3) (b1 lenV (bV 5))) (b1 lenV (bV 2)))) (bD (bC (.bl false))) sNx) (aD (bY (gN 6) (iR1 (b1 lenV (bV 5))) [6] dR) (bD (bOr (yz (bV 1)) (b2 ixP (b2 ixP (bV 2) (b2 subV (b2 aY (bV 3) (b1 lenV (bV 5))) (bC (.int 1)))) (bC (.int 1))))))))
def cM:=bO 7 5 false gO
def dg:=(sIf (tA (tV (b2 (mR λi j=>decide (j < i)) (b2 ixP (bV 2) (bV 6)) (bC (.int 0)))) (tV (aQ cM (aa (bV 3) (aa (bV 4) (aa (bV 1) (aa (bV 6) (aa (bV 7) az)))))))) (aD (aJ 8 (b2 aY (bV 6) (b1 lenV (b2 ixP (bV 3) (bV 7))))) (mX lC 5 (bV 8) (b2 aY (b2 ixP (bV 5) (bV 8)) (b2 ixP (bV 2) (bV 6))))) sNx)
def eX:=(bY (gN 7) (iR1 (b1 lenV (bV 3))) [7,8] dg)
def gb:=(aD (aJ 5 (b2 oG (aU (aa (bC (.int 0)) az)) (b2 aY (b1 lenV (bV 1)) (bC (.int 1))))) (aD (bY (gN 6) (iR1 (b2 aY (b1 lenV (bV 1)) (bC (.int 1)))) [6,7,8] eX) (sMv 2 5)))
def jt:=(aD (aJ 2 (b2 oG (aU (aa (bC (.int 0)) az)) (b2 aY (b1 lenV (bV 1)) (bC (.int 1))))) (aD (mX lC 2 (bC (.int 0)) (bC (.int 1))) (aD (bY (gT [3,4]) (iV (bV 0)) [3,4,6,7,8] gb) (bD (b2 ixP (bV 2) (b1 mW (bC (.int 1))))))))
def dq:=bO 9 2 false jt
def jW:=(b2 bW (aQ bT (aa (aQ aW (aa (bV 1) (aa (bC (.int 0)) az))) (aa (bV 0) az))) (b1 lenV (b2 ixP (b2 ixP (bV 2) (bV 0)) (bC (.int 0)))))
def m6:=(b1 yJ (bV 0))
def iR:=(aJ 8 (b2 aY (bV 8) (aQ dq (aa (bV 1) (aa (bV 9) az)))))
def vJ:=(aD (aJ 1 (aQ d8 (aa (b2 aY (bSl (bV 0) (oS (bC (.int 2))) (oS (bC (.int 4)))) (bSl (aU (aa (bC (.int 0)) az)) (oS (b2 cA (b1 lenV (bV 0)) (bC (.int 3)))) oN)) az))) (aD (aJ 2 (eO [none,some 0,some 1] (iR1 (b1 lenV (bV 1))) (gN 0) fM jW)) (aD (oH (gL [3,4]) (aQ fj (aa (bV 1) (aa (bV 2) (aa (aQ aW (aa (bV 0) (aa (bC (.int 1)) az))) az))))) (aD (onx (uz 3 dj (aa (bV 3) (aa (bV 4) az)))) (aD (onx (hid 3 (aJ 5 (aQ aW (aa (bV 0) (aa (bC (.int 0)) az)))))) (aD (onx (nIf 3 (tV (b2 eqQ (b2 bW (bV 5) (bC (.int 4))) (bC (.int 1)))) (yU 3 6 (b2 bW (b2 cA (bV 5) (bC (.int 4))) (b1 lenV (bV 3))) (b2 bW (b2 cA (bV 5) (bC (.int 16))) (b1 lenV (bV 6))) (b2 ixP (aU (aa (aU (aa (bG (aa (bC (.int 0)) (aa (bC (.str "u")) az))) az)) (aa (aU (aa (bG (aa (bC (.int 0)) (aa (bC (.str "-")) az))) az)) (aa (aU (aa (bG (aa (bC (.int 1)) (aa (bC (.str "-")) az))) az)) az)))) (b2 bW (b2 cA (bV 5) (bC (.int 64))) (bC (.int 3))))) sNx)) (aD (aJ 7 (eO [none] (iV (bV 3)) (gN 0) fM m6)) (aD (aJ 8 (bC (.int 0))) (aD (bY (gN 9) (iV (aQ cW (aa (bV 3) az))) [9] iR) (aD (aJ 10 (aQ bw (aa (bV 3) (aa (bV 1) az)))) (aD (sIf (tO (tN (tV (b1 (rJ tb_int) (bV 10)))) (tO (tV (b1 (rJ tb_bool) (bV 10))) (tV (b2 neQ (bV 10) (bV 8))))) (bD (bC (.bl false))) sNx) (bD (lw (b2 eqQ (bV 3) (bV 7)) (lw (b2 eqQ (aQ bw (aa (aU az) (aa (bV 1) az))) (bC (.int 0))) (bOr (b2 eqQ (b2 bW (bV 5) (bC (.int 4))) (bC (.int 1))) (b2 (mR λi j=>decide (j < i)) (bV 10) (bC (.int 0))))))))))))))))))
def qM:=bO 11 1 false vJ
end
end My
namespace My
open PySem L2 MR
theorem bH {α S:Type}{g:PV->MR.Env->Option MR.Env}{ds:List Nat}{body:MR.Env->Option Out}(c:α->PV) (E:S->MR.Env) (I:List α->S->Prop) (hh:∀ y ys s,I (y::ys) s->∃ s',I ys s'/\turn g ds body (c y) (E s)=some (E s')):∀ (ys:List α) (s:S),I ys s->
  ∃ s',I [] s'/\bK g ds body (ys.map c) (E s)=some (.nx (E s'))
 | [],s,i=>⟨s,i,rfl⟩
 | y::ys,s,i=>by
  obtain⟨s1,i1,h1⟩:=hh y ys s i
  obtain⟨s2,i2,h2⟩:=bH c E I hh ys s1 i1
  exact⟨s2,i2,by rw[List.map_cons,m5 h1,h2]⟩
theorem pU (c k:Int) (h:smI k=true):bT [.int c,.int k]=some (.int (mixed c k)):=by
 have h1:smI 48271=true:=jh (by decide) (by decide)
 have h2:smI 69621=true:=jh (by decide) (by decide)
 simp[bT,nu,h,h1,h2,mixed]
theorem xF {k:Nat}(h:k < 1000):smI (k:Int)=true:=jh (by omega) (by omega)
theorem Dy (x:Str) (cs:List Str):inP (.str x) (.lst (cs.map .str))=some (decide (x∈cs)):=by
 have h1:(cs.map PV.str).all cO=true:=by rw[List.all_map,List.all_eq_true];exact λ_ _=>rfl
 have h2:((cs.map PV.str).any λy=>eqF y (.str x))=decide (x∈cs):=by
  rw[List.any_map]
  induction cs with
  | nil=>simp
  | cons c r ih=>
   rw[List.any_cons,ih (by rw[List.all_map,List.all_eq_true];exact λ_ _=>rfl)]
   by_cases e:x=c
   ·subst e;simp[eqF]
   ·have e':¬ c=x:=λz=>e z.symm
    simp[eqF,e,e']
 simp[inP,cO,h1,h2]
structure PatOk (p:Str):Prop where
 ge:1<=p.length
 le:p.length<=4
 cs:∀ c∈p.cps.toList,c=117\/c=45\/c=120
theorem PatOk.ok {p:Str}(h:PatOk p):PyData.strOk p=true:=by
 unfold PyData.strOk
 rw[← Array.all_toList,List.all_eq_true]
 intro c hc
 rcases h.cs c hc with e | e | e <;> subst e <;> decide
structure PatsOk (ps:List Str):Prop where
 ne:ps≠[]
 le:ps.length<=4
 ok:∀ p∈ps,PatOk p
 nd:ps.Nodup
theorem NT {i:Int}(h0:0<=i) (h1:i < 3):∃ c,(c=117\/c=45\/c=120)/\atI (("u-x" : Str).cps.toList) i=some c:=by
 have e:("u-x" : Str).cps.toList=[117,45,120]:=by decide +kernel
 obtain⟨k,rfl⟩:∃ k:Nat,i=k:=⟨i.toNat,by omega⟩
 rw[e]
 have hk:k=0\/k=1\/k=2:=by omega
 rcases hk with rfl | rfl | rfl
 ·exact⟨117,.inl rfl,rfl⟩
 ·exact⟨45,.inr (.inl rfl),rfl⟩
 ·exact⟨120,.inr (.inr rfl),rfl⟩
theorem Ld:("u-x" : Str).length<=1000000:=by decide +kernel
theorem Dz (a b:Str):(a++b).length=a.length+b.length:=by
 show (a.cps++b.cps).size=_
 rw[Array.size_append]
 rfl
theorem yW {n k:Int}(hn:0<=n) (hk0:0<=k) (hk:k < 4){L:PV}{j:Nat}(hj:j < 4){x:Str}(hx:x.length < 1000):
  ∃ c,(c=117\/c=45\/c=120)/\turn (gN 4) [4] cU (.int j) [some (.int n),some L,some (.int k),some (.str x),none]=some [some (.int n),some L,some (.int k),some (.str (x++⟨#[c]⟩)),none]:=by
 obtain⟨c,hc,h⟩:=NT (i:=n / (7+5*k+11*(j:Int)) % 3) (by omega) (by omega)
 have h5:smI 5=true:=jh (by decide) (by decide)
 have h11:smI 11=true:=jh (by decide) (by decide)
 have hd:0 < 7+5*k+11*(j:Int)/\7+5*k+11*(j:Int) < 1073741824:=by omega
 have hl:x.length+(⟨#[c]⟩:Str).length<=1000000:=by
  have:(⟨#[c]⟩:Str).length=1:=rfl
  omega
 refine⟨c,hc,?_⟩
 simp[aR,cU,h,h5,h11,hd,Ld,hl]
theorem Az {n k:Int}(hn:0<=n) (hk0:0<=k) (hk:k < 4){L:PV}{t:Nat}(ht:1<=t) (ht4:t<=4):
  ∃ x,PatOk x/\bK (gN 4) [4] cU (cg 0 (t:Int)) [some (.int n),some L,some (.int k),some (.str ("" : Str)),none]=some (.nx [some (.int n),some L,some (.int k),some (.str x),none]):=by
 have e0:("" : Str).length=0:=by decide +kernel
 have e1:("" : Str).cps.toList=[]:=by decide +kernel
 obtain⟨x,⟨i1,i2,_⟩,h⟩:=bH (g:=gN 4) (ds:=[4]) (body:=cU) (λj:Nat=>PV.int (j:Nat)) (λx:Str=>[some (.int n),some L,some (.int k),some (.str x),none])
  (λr x=>x.length+r.length=t/\(∀ c∈x.cps.toList,c=117\/c=45\/c=120)/\∀ j∈r,j < 4)
  (λj r x ⟨i1,i2,i3⟩=>by
   simp only[List.length_cons] at i1
   obtain⟨c,hc,h⟩:=yW (L:=L) hn hk0 hk (i3 j List.mem_cons_self) (x:=x) (by omega)
   refine⟨x++⟨#[c]⟩,⟨?_,?_,λz hz=>i3 z (List.mem_cons_of_mem _ hz)⟩,h⟩
   ·have:(⟨#[c]⟩:Str).length=1:=rfl
    rw[Dz]
    omega
   ·intro d hd
    have:(x++(⟨#[c]⟩:Str)).cps.toList=x.cps.toList++[c]:=by
     show (x.cps++#[c]).toList=_
     simp
    rw[this] at hd
    rcases List.mem_append.mp hd with z | z
    ·exact i2 d z
    ·rw[List.mem_singleton] at z;rw[z];exact hc)
  (List.range t) ("" : Str) ⟨by simp[e0],(by rw[e1];exact λc hc=>by cases hc),(λj hj=>by have:=List.mem_range.mp hj;omega)⟩
 simp only[List.length_nil,Nat.add_zero] at i1
 exact⟨x,⟨by omega,by omega,i2⟩,by rw[cD];exact h⟩
theorem A_ {n:Int}(hn:0<=n){L:List Str}(hL:L.length < 1000){k:Nat}(hk:k < 4):
  ∃ x,PatOk x/\turn (gN 2) [2,3,4] cV (.int k) [some (.int n),some (.lst (L.map .str)),none,none,none]=some [some (.int n),some (.lst ((if x∈L then L else L++[x]).map .str)),none,none,none]:=by
 obtain⟨t,ht,et⟩:∃ t:Nat,(1<=t/\t<=4)/\1+n / (4+3*(k:Int)) % 4=t:=⟨(1+n / (4+3*(k:Int)) % 4).toNat,by omega,by omega⟩
 obtain⟨x,hx,h⟩:=Az (n:=n) (k:=k) (L:=.lst (L.map .str)) hn (by omega) (by omega) ht.1 ht.2
 have h3:smI 3=true:=jh (by decide) (by decide)
 have hd:0 < 4+3*(k:Int)/\4+3*(k:Int) < 1073741824:=by omega
 have hr:rgI (t:Int)=true:=fC (by omega) (by omega)
 have hin:=Dy x L
 have hl:L.length < 1000000:=by omega
 refine⟨x,hx,?_⟩
 by_cases hm:x∈L
 ·simp[aR,cV,h3,hd,et,hr,h,hin,hm,hl]
 ·simp[aR,cV,h3,hd,et,hr,h,hin,hm,hl]
theorem lF {n:Int}(hn:0<=n):∃ ps,PatsOk ps/\cL [.int n]=some (.tup (ps.map .str)):=by
 obtain⟨t,ht,et⟩:∃ t:Nat,(1<=t/\t<=4)/\1+n % 4=t:=⟨(1+n % 4).toNat,by omega,by omega⟩
 obtain⟨L,⟨i1,i2,i3,i4,_⟩,h⟩:=bH (g:=gN 2) (ds:=[2,3,4]) (body:=cV) (λk:Nat=>PV.int (k:Nat)) (λL:List Str=>[some (.int n),some (.lst (L.map .str)),none,none,none])
  (λr L=>(∀ p∈L,PatOk p)/\L.Nodup/\L.length+r.length<=t/\(r.length=t\/L≠[])/\∀ k∈r,k < 4)
  (λk r L ⟨i1,i2,i3,i4,i5⟩=>by
   simp only[List.length_cons] at i3 i4
   obtain⟨x,hx,h⟩:=A_ hn (L:=L) (by omega) (i5 k List.mem_cons_self)
   refine⟨_,⟨?_,?_,?_,.inr ?_,λz hz=>i5 z (List.mem_cons_of_mem _ hz)⟩,h⟩
   ·intro p hp
    split at hp
    ·exact i1 p hp
    ·rcases List.mem_append.mp hp with z | z
     ·exact i1 p z
     ·rw[List.mem_singleton] at z;rw[z];exact hx
   ·split
    ·exact i2
    ·rename_i hm
     rw[List.nodup_append]
     exact⟨i2,by simp,λa ha b hb e=>by rw[List.mem_singleton] at hb;subst hb e;exact hm ha⟩
   ·split
    ·omega
    ·rw[List.length_append,List.length_singleton];omega
   ·split
    ·rename_i hm
     intro e
     rw[e] at hm
     cases hm
    ·simp)
  (List.range t) [] ⟨(λp hp=>by cases hp),by simp,by simp,.inl (by simp),(λk hk=>by have:=List.mem_range.mp hk;omega)⟩
 have hr:rgI (t:Int)=true:=fC (by omega) (by omega)
 have hn':(0:Int) < 4:=by decide
 rw[← cD] at h
 simp only[List.map_nil] at h
 refine⟨L,⟨?_,?_,i1,i2⟩,?_⟩
 ·rcases i4 with z | z
  ·simp at z;omega
  ·exact z
 ·simp at i3;omega
 ·simp[cL,jR,et,hr,h]
noncomputable def pats (n:Nat):List Str:=(lF (n:=(n:Int)) (by omega)).choose
theorem Hj (n:Nat):PatsOk (pats n):=(lF (n:=(n:Int)) (by omega)).choose_spec.1
theorem Hk (n:Nat):cL [.int n]=some (.tup ((pats n).map .str)):=(lF (n:=(n:Int)) (by omega)).choose_spec.2
abbrev Slot:=List Str×Bool
def slP (s:Slot):PV:=.tup [.tup (s.1.map .str),.bl s.2]
def mP (m:List Slot):PV:=.tup (m.map slP)
def cz (m:List Slot):Prop:=∀ s∈m,PatsOk s.1
theorem DG (cs:List Int) (hc:cs.length < 1000):∃ m,cz m/\m.length=cs.length/\d8 [.lst (cs.map .int)]=some (mP m):=by
 obtain⟨m,⟨i1,i2,_⟩,h⟩:=bH (g:=gT [2,3]) (ds:=[2,3,4]) (body:=h_) (λy:Int×Nat=>PV.tup [.int (y.2:Nat),.int y.1]) (λm:List Slot=>[some (.lst (cs.map .int)),some (.lst (m.map slP)),none,none,none])
  (λr m=>cz m/\m.length+r.length=cs.length/\∀ y∈r,y.2 < 1000)
  (λy r m ⟨i1,i2,i3⟩=>by
   simp only[List.length_cons] at i2
   have h1:=pU y.1 y.2 (xF (i3 y List.mem_cons_self))
   have h0:=Du y.1 y.2
   obtain⟨q,eq⟩:∃ q:Nat,mixed y.1 y.2 / 2=q:=⟨(mixed y.1 y.2 / 2).toNat,by omega⟩
   have h2:=Hk q
   have hl:m.length < 1000000:=by omega
   refine⟨m++[(pats q,decide (mixed y.1 y.2 % 2=1))],⟨?_,by simp;omega,λz hz=>i3 z (List.mem_cons_of_mem _ hz)⟩,?_⟩
   ·intro s hs
    rcases List.mem_append.mp hs with z | z
    ·exact i1 s z
    ·rw[List.mem_singleton] at z;rw[z];exact Hj q
   ·simp[aR,h_,h1,eq,h2,hl,slP])
  cs.zipIdx [] ⟨(λs hs=>by cases hs),by simp,(λy hy=>by
   have:=List.snd_lt_of_mem_zipIdx hy
   omega)⟩
 simp only[List.length_nil,Nat.add_zero] at i2
 refine⟨m,i1,i2,?_⟩
 have en:eN 0 (cs.map .int)=cs.zipIdx.map λy:Int×Nat=>PV.tup [.int (y.2:Nat),.int y.1]:=kZ _ _ _
 simp only[List.map_nil] at h
 simp[d8,nA,en,h,mP]
end My
namespace My
open PySem L2 MR
abbrev Sg:=Str×Bool
def sgP (e:Sg):PV:=.tup [.str e.1,.bl e.2]
def aO (r:List Sg):PV:=.lst (r.map sgP)
def stands (x mark:Str):Bool:=decide (x=mark)||decide (x=("x" : Str))
def pW (p:Str) (part:List Sg):Bool:=(p.cps.toList.zip part).all λz=>stands ⟨#[z.1]⟩ z.2.1
def pX (part:List Sg):Bool:=(part.getLast?.map (·.2)).getD false
def fit (p:Str) (cut:Bool) (part:List Sg):Bool:=decide (part.length=p.length)&&(pW p part&&(pX part||!cut))
theorem Ba {α:Type}{xs:List α}(h:xs≠[]):atI xs (-1)=xs.getLast?:=by
 unfold atI ixN
 have hl:0 < xs.length:=List.length_pos_iff.mpr h
 rw[if_neg (by decide),if_pos (by omega),List.getLast?_eq_getElem?]
 show xs[(-1+(xs.length:Int)).toNat]?=_
 congr 1
 omega
end My
namespace My
open PySem L2 MR
theorem Bb (x mark:Str):d9 [.str x,.str mark]=some (.bl (stands x mark)):=by
 unfold stands
 by_cases h:x=mark
 ·simp[d9,jo,h]
 ·simp[d9,jo,h]
end My
namespace My
open PySem L2 MR
def seg (row:List Sg) (a n:Nat):List Sg:=(row.drop a).take n
theorem fit_le {row:List Sg}{p:Str}{cut:Bool}{a:Nat}(hp:PatOk p) (h:fit p cut (seg row a p.length)=true):a+p.length<=row.length:=by
 unfold fit at h
 rw[Bool.and_eq_true] at h
 have h1:=of_decide_eq_true h.1
 have:=hp.ge
 unfold seg at h1
 rw[List.length_take,List.length_drop] at h1
 omega
end My
namespace My
open PySem L2 MR
def ways (row:List Sg):List Slot->Nat->Int
 | [],a=>if a=row.length then 1 else 0
 | s::m,a=>(s.1.map λp=>if fit p s.2 (seg row a p.length)=true then ways row m (a+p.length) else 0).sum
def vK (row:List Sg) (s:Slot) (m:List Slot) (a:Nat) (p:Str):Int:=if fit p s.2 (seg row a p.length)=true then ways row m (a+p.length) else 0
theorem Bc (row:List Sg) (s:Slot) (m:List Slot) (a:Nat):ways row (s::m) a=(s.1.map (vK row s m a)).sum:=rfl
end My
namespace My
open PySem L2 MR
theorem sZ {α:Type}{g:PV->MR.Env->Option MR.Env}{ds:List Nat}{body:MR.Env->Option Out}{env:MR.Env}{v:PV}(c:α->PV) (q:α->Bool):∀ (ys:List α),(∀ y∈ys,∃ e,g (c y) env=some e/\(q y=true->nxt ds (body e)=some env)/\(q y=false->body e=some (.rt v)))->
  bK g ds body (ys.map c) env=some (if ys.all q=true then .nx env else .rt v)
 | [],_=>rfl
 | y::ys,h=>by
  obtain⟨e,h1,h2,h3⟩:=h y List.mem_cons_self
  have ih:=sZ c q ys λz hz=>h z (List.mem_cons_of_mem _ hz)
  rw[List.map_cons,List.all_cons]
  cases hq:q y with
  | true=>
   have ht:turn g ds body (c y) env=some env:=by unfold turn;rw[h1];exact h2 hq
   rw[m5 ht,ih,Bool.true_and]
  | false=>simp[bK,h1,h3 hq]
def dH (p:Str) (j:Nat):Str:=⟨#[p.cps.toList.getD j 0]⟩
def a_ (row:List Sg) (k:Nat):Sg:=row.getD k (⟨#[]⟩,false)
theorem vL {p:Str}{j:Nat}(h:j < p.length):atI p.cps.toList (j:Int)=some (p.cps.toList.getD j 0):=by
 have h':j < p.cps.toList.length:=by simpa [Str.length] using h
 refine cj ?_
 rw[List.getD_eq_getElem?_getD,List.getElem?_eq_getElem h']
 rfl
theorem vM {row:List Sg}{k:Nat}(h:k < row.length):atI (row.map sgP) (k:Int)=some (sgP (a_ row k)):=by
 refine cj ?_
 rw[List.getElem?_map,List.getElem?_eq_getElem h]
 simp[a_,h]
theorem rP {row:List Sg}{a n:Nat}(h:a+n<=row.length):(seg row a n).length=n:=by
 unfold seg
 rw[List.length_take,List.length_drop]
 omega
theorem pD {row:List Sg}{p:Str}{a:Nat}(h:a+p.length<=row.length):pW p (seg row a p.length)=(List.range p.length).all λj=>stands (dH p j) (a_ row (a+j)).1:=by
 have hl:p.cps.toList.length=p.length:=Array.length_toList
 have hs:=rP h
 have e:p.cps.toList.zip (seg row a p.length)=(List.range p.length).map λj=>(p.cps.toList.getD j 0,a_ row (a+j)):=by
  refine List.ext_getElem? λj=>?_
  rcases Nat.lt_or_ge j p.length with hj | hj
  ·rw[List.getElem?_map,List.getElem?_range hj,List.getElem?_zip_eq_some.mpr ⟨?_,?_⟩]
   rotate_left
   ·exact(p.cps.toList.getD j 0,a_ row (a+j))
   ·rw[List.getD_eq_getElem?_getD,List.getElem?_eq_getElem (by omega)];rfl
   ·unfold seg a_
    rw[List.getElem?_take,if_pos hj,List.getElem?_drop,List.getElem?_eq_getElem (by omega)]
    simp[show a+j < row.length by omega]
   rfl
  ·rw[List.getElem?_eq_none (by rw[List.length_zip];omega),List.getElem?_eq_none (by simp;omega)]
 unfold pW
 rw[e,List.all_map]
 rfl
theorem vN {row:List Sg}{a n:Nat}(h:a+n<=row.length) (hn:1<=n):pX (seg row a n)=(a_ row (a+n - 1)).2:=by
 unfold pX
 rw[List.getLast?_eq_getElem?,rP h]
 unfold seg a_
 rw[List.getElem?_take,if_pos (by omega),List.getElem?_drop,List.getD_eq_getElem?_getD,show a+(n - 1)=a+n - 1 by omega,List.getElem?_eq_getElem (by omega)]
 rfl
end My
namespace My
open PySem L2 MR
def au:Nat->PV
 | 0=>.tup [.int 0,.str "u"]
 | 1=>.tup [.int 0,.str "-"]
 | 2=>.tup [.int 1,.str "-"]
 | _=>.non
theorem lt4 {i:Nat}(h:i < 4):i=0\/i=1\/i=2\/i=3:=by omega
theorem Hl {i:Int}(h0:0<=i) (h1:i < 4):atI [PV.tup [.int 0,.str "u"],.tup [.int 0,.str "-"],.tup [.int 1,.str "-"],.non] i=some (au i.toNat):=by
 obtain⟨k,rfl⟩:∃ k:Nat,i=k:=⟨i.toNat,by omega⟩
 have hk:k < 4:=by omega
 rcases lt4 hk with rfl | rfl | rfl | rfl <;> rfl
theorem Le {k:Nat}(h:k < 4):atI [PV.int 1,.int 2,.int 4,.int 8] (k:Int)=some (.int (2 ^ k)):=by
 rcases lt4 h with rfl | rfl | rfl | rfl <;> rfl
def jd:PV:=.lst [.tup [.int 0,.str "u"],.tup [.int 0,.str "-"],.tup [.int 1,.str "-"],.non]
def jz (n:Int) (k:Nat):Nat:=((n / 16+k) % 4).toNat
def gB (n:Int) (k:Nat):Bool:=decide (n / 2 ^ k % 2=1)
theorem ce1 (n:Int){k:Nat}(h:k < 4):dz [some (.int k),some jd,some (.int n)]=some (au (jz n k)):=by
 have h1:=Hl (i:=(n / 16+k) % 4) (by omega) (by omega)
 simp[dz,jd,h1,jz]
theorem cc2 (n:Int){k:Nat}(h:k < 4):dB [some (.int k),some jd,some (.int n)]=some (gB n k):=by
 have h1:=Le h
 have h2:(0:Int) < 2 ^ k/\(2:Int) ^ k < 1073741824:=by rcases lt4 h with rfl | rfl | rfl | rfl <;> decide
 simp[dB,h1,h2,gB]
def C4 (is:List Nat):Prop:=∀ i∈is,i < 4
def aC (is:List Nat):PV:=.lst (is.map au)
theorem DK {i:Nat}(h:i < 4):oh (au i)=decide (i=3):=by
 rcases lt4 h with rfl | rfl | rfl | rfl <;> simp[au]
theorem Hm (n:Int):(((List.range 4).filter (gB n)).map (jz n)).Nodup:=by
 refine List.pairwise_map.mpr ((List.nodup_range.filter (gB n)).imp_of_mem λ{a b} ha hb ne e=>?_)
 have h1:a < 4:=by simpa using (List.mem_filter.mp ha).1
 have h2:b < 4:=by simpa using (List.mem_filter.mp hb).1
 unfold jz at e
 omega
theorem Lf (is:List Nat){v:Int}(h0:0<=v) (h1:v<=is.length):fc (is.map au) none (some v)=(is.take v.toNat).map au/\fc (is.map au) (some v) none=(is.drop v.toNat).map au:=by
 have e:HT.sIx (is.map au).length (is.map au).length (some v)=v.toNat:=by
  simp only[HT.sIx,List.length_map];rw[if_neg (by omega)];omega
 have e':HT.sIx (is.map au).length 0 (some v)=v.toNat:=by
  simp only[HT.sIx,List.length_map];rw[if_neg (by omega)];omega
 have e0:HT.sIx (is.map au).length 0 none=0:=rfl
 have e1:HT.sIx (is.map au).length (is.map au).length none=(is.map au).length:=rfl
 unfold fc
 rw[e,e',e0,e1]
 refine⟨by simp[List.map_take],?_⟩
 rw[List.map_drop]
 exact List.take_of_length_le (by simp)
theorem yX (n:Int) (last:Bool):∃ is,C4 is/\(is.length<=4/\is.Nodup)/\cZ [.int n,.bl last]=some (aC is):=by
 have hmem:∀ {k},k∈(List.range 4).filter (gB n)->k < 4:=λ{k} h=>by simpa using (List.mem_filter.mp h).1
 have nd:=Hm n
 have l1:(((List.range 4).filter (gB n)).map (jz n)).length<=4:=by
  have:=List.length_filter_le (gB n) (List.range 4)
  simpa using this
 have o1:C4 (((List.range 4).filter (gB n)).map (jz n)):=λp hp=>by
  obtain⟨k,hk,rfl⟩:=List.mem_map.mp hp
  unfold jz;omega
 have c1:cY [none,some jd,some (.int n)] (gN 0) dB dz ((List.range 4).map λk=>PV.int (k:Nat))=some ((((List.range 4).filter (gB n)).map (jz n)).map au):=by
  rw[List.map_map]
  exact gn _ _ (gB n) (List.range 4) λk hk=>⟨_,rfl,cc2 n (by simpa using hk),λ_=>ce1 n (by simpa using hk)⟩
 generalize ((List.range 4).filter (gB n)).map (jz n)=is at *
 have c2:cY [none] (gN 0) dD dC (is.map au)=some ((is.filter λi=>!decide (i=3)).map au):=by
  exact gn (env:=[none]) (g:=gN 0) (t:=dD) (f:=dC) au au (λi=>!decide (i=3)) is λi hi=>⟨_,rfl,by rcases lt4 (o1 i hi) with rfl | rfl | rfl | rfl <;> simp[dD,au],λ_=>by simp[dC]⟩
 have r4:cg 0 4=(List.range 4).map λk=>PV.int (k:Nat):=cD 4
 have hs1:aJ 2 (aU (aa (bG (aa (bC (.int 0)) (aa (bC (.str "u")) az))) (aa (bG (aa (bC (.int 0)) (aa (bC (.str "-")) az))) (aa (bG (aa (bC (.int 1)) (aa (bC (.str "-")) az))) (aa (bC .non) az))))) [some (.int n),some (.bl last),none,none]=some (.nx [some (.int n),some (.bl last),some jd,none]):=by
  simp[jd]
 have hs2:aJ 3 (eO [none,some 2,some 0] (iR1 (bC (.int 4))) (gN 0) dB dz) [some (.int n),some (.bl last),some jd,none]=some (.nx [some (.int n),some (.bl last),some jd,some (aC is)]):=by
  have hr:rgI 4=true:=fC (by decide) (by decide)
  have hl:is.length<=1000000:=by omega
  simp[hr,r4,c1,hl,aC]
 have hlen:is.length<=1000000:=by omega
 cases last with
 | true=>
  refine⟨is,o1,⟨l1,nd⟩,?_⟩
  have hb:eQ [some (.int n),some (.bl true),none,none]=some (.rt (aC is)):=by
   unfold eQ
   rw[aL hs1,aL hs2]
   simp
  simp[cZ,hb]
 | false=>
  refine⟨is.filter λi=>!decide (i=3),λi hi=>o1 i (List.mem_filter.mp hi).1,⟨Nat.le_trans (List.length_filter_le _ _) l1,nd.filter _⟩,?_⟩
  have hs3:sIf (tN (tV (bV 1))) (aJ 3 (eO [none] (iV (bV 3)) (gN 0) dD dC)) sNx [some (.int n),some (.bl false),some jd,some (aC is)]=some (.nx [some (.int n),some (.bl false),some jd,some (aC (is.filter λi=>!decide (i=3)))]):=by
   unfold aC
   simp[itV,c2,hlen]
  have hb:eQ [some (.int n),some (.bl false),none,none]=some (.rt (aC (is.filter λi=>!decide (i=3)))):=by
   unfold eQ
   rw[aL hs1,aL hs2,aL hs3]
   simp
  simp[cZ,hb]
def ju:Nat->PyData
 | 0=>.tuple [.int 0,.str "u"]
 | 1=>.tuple [.int 0,.str "-"]
 | 2=>.tuple [.int 1,.str "-"]
 | _=>.none
theorem xG (i:Nat):toD (au i)=some (ju i):=by
 unfold au ju
 split <;> simp[toD,dF]
theorem yZ:¬ (("u" : Str) = "-"):=by decide
theorem Hn {i j:Nat}(hi:i < 4) (hj:j < 4):PyData.eqv (ju i) (ju j)=decide (i=j):=by
 have h1:=yZ
 have h2:¬ (("-" : Str) = "u"):=λe=>h1 e.symm
 rcases lt4 hi with rfl | rfl | rfl | rfl <;> rcases lt4 hj with rfl | rfl | rfl | rfl <;> simp[ju,PyData.eqv,PyData.eqvAll,h1,h2]
theorem vO (i:Nat):(ju i).canLay0=true/\(ju i).depth<=32:=by
 have h1:PyData.strOk ("u" : Str)=true:=by decide +kernel
 have h2:PyData.strOk ("-" : Str)=true:=by decide +kernel
 unfold ju
 split <;> simp[PyData.canLay0,PyData.canLayAll0,PyData.depth,PyData.depthAll,h1,h2]
theorem tu:∀ is:List Nat,dF (is.map au)=some (is.map ju)/\PyData.canLayAll0 (is.map ju)=true
 | []=>⟨rfl,rfl⟩
 | i::is=>by
  obtain⟨h1,h2⟩:=tu is
  exact⟨by simp[dF,xG,h1],by simp[PyData.canLayAll0,(vO i).1,h2]⟩
theorem xH {i:Nat}(hi:i < 4):∀ {is:List Nat},C4 is->((is.map ju).any λy=>PyData.eqv y (ju i))=decide (i∈is)
 | [],_=>by simp
 | j::is,h=>by
  have ih:=xH hi (is:=is) λk hk=>h k (List.mem_cons_of_mem _ hk)
  rw[List.map_cons,List.any_cons,ih,Hn (h j List.mem_cons_self) hi]
  by_cases e:i=j
  ·subst e;simp
  ·have e':¬ j=i:=λz=>e z.symm
   simp[e,e']
theorem xJ {i:Nat}(hi:i < 4){is:List Nat}(h:C4 is):inP (au i) (aC is)=some (decide (i∈is)):=by
 have hD:inD (au i) (is.map au)=some (decide (i∈is)):=by
  obtain⟨h1,h2⟩:=tu is
  have h3:=xH hi h
  have h4:=vO i
  unfold inD
  rw[xG,h1]
  simp only
  rw[if_pos ⟨h2,h4.1,h4.2⟩,h3]
 unfold aC
 show (if cO (au i)=true/\(is.map au).all cO=true then some ((is.map au).any λy=>eqF y (au i)) else inD (au i) (is.map au))=_
 split
 ·rename_i hf
  have hi3:i=3:=by
   have:=hf.1
   rcases lt4 hi with rfl | rfl | rfl | rfl <;> simp[au] at this ⊢
  subst hi3
  have hall:∀ j∈is,j=3:=λj hj=>by
   have:=List.all_eq_true.mp hf.2 (au j) (List.mem_map.mpr ⟨j,hj,rfl⟩)
   rcases lt4 (h j hj) with rfl | rfl | rfl | rfl <;> simp[au] at this ⊢
  cases is with
  | nil=>simp
  | cons j is=>
   have:=hall j List.mem_cons_self
   subst this
   simp[au,eqF]
 ·exact hD
theorem xK (n:Int) (last:Bool){i:Nat}(hi:i < 4):∃ is,C4 is/\(is.length<=9/\is.Nodup)/\i∈is/\bu [.int n,.bl last,au i]=some (aC is):=by
 obtain⟨is,h1,⟨h2,nd⟩,h3⟩:=yX n last
 have hin:=xJ hi h1
 by_cases hm:i∈is
 ·refine⟨is,h1,⟨by omega,nd⟩,hm,?_⟩
  rw[decide_eq_true hm] at hin
  generalize aC is=SP at *
  generalize au i=OP at *
  simp[bu,jT,h3,hin]
 ·rw[decide_eq_false hm] at hin
  have hv0:0<=n / 64 % ((is.length:Int)+1):=Int.emod_nonneg _ (by omega)
  have hv1:n / 64 % ((is.length:Int)+1)<=is.length:=by have:=Int.emod_lt_of_pos (n / 64) (show (0:Int) < (is.length:Int)+1 by omega);omega
  obtain⟨q3,q6⟩:=Lf is hv0 hv1
  have q1:(is.take (n / 64 % ((is.length:Int)+1)).toNat).length<=is.length:=List.length_take_le' _ _
  have q4:(is.drop (n / 64 % ((is.length:Int)+1)).toNat).length<=is.length:=by rw[List.length_drop];omega
  have hnd:(is.take (n / 64 % ((is.length:Int)+1)).toNat++i::is.drop (n / 64 % ((is.length:Int)+1)).toNat).Nodup:=by
   have p:(is.take (n / 64 % ((is.length:Int)+1)).toNat++i::is.drop (n / 64 % ((is.length:Int)+1)).toNat).Perm (i::is):=by
    refine List.perm_middle.trans (List.Perm.cons i ?_)
    rw[List.take_append_drop]
   exact p.nodup_iff.mpr (List.nodup_cons.mpr ⟨hm,nd⟩)
  have q2:∀ x∈is.take (n / 64 % ((is.length:Int)+1)).toNat,x∈is:=λx hx=>List.mem_of_mem_take hx
  have q5:∀ x∈is.drop (n / 64 % ((is.length:Int)+1)).toNat,x∈is:=λx hx=>List.mem_of_mem_drop hx
  generalize is.take (n / 64 % ((is.length:Int)+1)).toNat=d1 at *
  generalize is.drop (n / 64 % ((is.length:Int)+1)).toNat=d2 at *
  refine⟨d1++i::d2,λk hk=>?_,⟨by simp;omega,hnd⟩,by simp,?_⟩
  ·rcases List.mem_append.mp hk with z | z
   ·exact h1 k (q2 k z)
   ·rcases List.mem_cons.mp z with z | z
    ·rw[z];exact hi
    ·exact h1 k (q5 k z)
  ·have hpos:(0:Int) < (is.length:Int)+1:=by omega
   have l1:d1.length+1<=1000000:=by omega
   have l2:d1.length+1+d2.length<=1000000:=by omega
   have e:aC (d1++i::d2)=.lst (d1.map au++[au i]++d2.map au):=by simp[aC]
   rw[e]
   unfold aC at h3 hin
   have hl:(is.map au).length=is.length:=List.length_map ..
   have hl1:(d1.map au).length=d1.length:=List.length_map ..
   have hl2:(d2.map au).length=d2.length:=List.length_map ..
   generalize is.map au=SP at *
   generalize d1.map au=D1 at *
   generalize d2.map au=D2 at *
   generalize au i=OP at *
   simp[bu,jT,h3,hin,hl,hl1,hl2,hpos,q3,q6,l1,l2]
end My
namespace My
open PySem L2 MR
def FtV:List Slot->List Nat->Prop
 | [],fs=>fs=[]
 | s::m,fs=>∃ f p gs,fs=f::gs/\s.1[f]?=some p/\FtV m gs
theorem FtV.length:∀ {m:List Slot}{fs:List Nat},FtV m fs->fs.length=m.length
 | [],fs,h=>by rw[show fs=[] from h];rfl
 | s::m,fs,⟨f,p,gs,h1,h2,h3⟩=>by rw[h1,List.length_cons,FtV.length h3,List.length_cons]
def bA (s:Slot) (p:Str):List Sg:=(List.range p.length).map λj=>(dH p j,s.2&&decide (j+1=p.length))
def bz:List Slot->List Nat->List Sg
 | s::m,f::fs=>bA s (s.1.getD f ⟨#[]⟩)++bz m fs
 | _,_=>[]
def fP (fs:List Nat):PV:=.lst (fs.map λf=>.int (f:Nat))
def mkE (M F:PV) (R:List Sg) (k:Nat) (s:Slot) (p:Str):MR.Env:=[some M,some F,some (aO R),some (.int k),some (.tup (s.1.map .str)),some (.bl s.2),some (.str p),none]
theorem Ho {M F:PV}{R:List Sg}{k:Nat}{s:Slot}{p:Str}(hp:PatOk p){j:Nat}(hj:j < p.length) (hR:R.length < 1000):
  turn (gN 7) [7] b7 (.int j) (mkE M F R k s p)=some (mkE M F (R++[(dH p j,s.2&&decide (j+1=p.length))]) k s p):=by
 have h2:=vL hj
 have h3:p.length<=1000000:=by have:=hp.le;omega
 have h4:R.length < 1000000:=by omega
 have hji:((j:Int)+1=(p.length:Int))↔j+1=p.length:=by omega
 have hl:(R.map sgP).length=R.length:=List.length_map ..
 have e:aO (R++[(dH p j,s.2&&decide (j+1=p.length))])=.lst (R.map sgP++[.tup [.str ⟨#[p.cps.toList.getD j 0]⟩,.bl (s.2&&decide (j+1=p.length))]]):=by simp[aO,sgP,dH]
 unfold mkE
 rw[e]
 unfold aO
 generalize p.cps.toList.getD j 0=c at *
 generalize R.map sgP=RP at *
 by_cases hq:j+1=p.length
 ·cases hs:s.2 <;> simp[aR,b7,h2,h3,h4,hl,hji,hq]
 ·cases hs:s.2 <;> simp[aR,b7,h2,h3,h4,hl,hji,hq]
theorem Lg {M F:PV}{R:List Sg}{k:Nat}{s:Slot}{p:Str}(hp:PatOk p) (hR:R.length < 900):
  bK (gN 7) [7] b7 (cg 0 (p.length:Int)) (mkE M F R k s p)=some (.nx (mkE M F (R++bA s p) k s p)):=by
 obtain⟨R',⟨d,e1,e2⟩,lp⟩:=bH (g:=gN 7) (ds:=[7]) (body:=b7) (λj:Nat=>PV.int (j:Nat)) (λR':List Sg=>mkE M F R' k s p)
  (λr R'=>∃ d,List.range p.length=d++r/\R'=R++d.map λj=>(dH p j,s.2&&decide (j+1=p.length)))
  (λj r R' ⟨d,e1,e2⟩=>by
   have hlt:j < p.length:=List.mem_range.mp (by rw[e1];simp)
   have hd:d.length<=p.length:=by
    have:=congrArg List.length e1
    simp at this
    omega
   have hp4:=hp.le
   exact⟨R'++[(dH p j,s.2&&decide (j+1=p.length))],⟨d++[j],by rw[e1];simp,by rw[e2];simp⟩,Ho hp hlt (by rw[e2];simp;omega)⟩)
  (List.range p.length) R ⟨[],rfl,by simp⟩
 rw[List.append_nil] at e1
 rw[e2,← e1] at lp
 rw[cD]
 exact lp
def moE (m:List Slot) (F:PV) (R:List Sg):MR.Env:=[some (mP m),some F,some (aO R),none,none,none,none,none]
theorem Hq {m:List Slot}{fs:List Nat}{R:List Sg}{k f:Nat}{s:Slot}{p:Str}(hk:m[k]?=some s) (hf:fs[k]?=some f) (hp:s.1[f]?=some p) (ok:PatOk p) (hR:R.length < 900):
  turn (gN 3) [3,6,7,4,5] b8 (.int k) (moE m (fP fs) R)=some (moE m (fP fs) (R++bA s p)):=by
 have lp:=Lg (M:=mP m) (F:=fP fs) (R:=R) (k:=k) (s:=s) ok hR
 have a1:atI (m.map slP) (k:Int)=some (.tup [.tup (s.1.map .str),.bl s.2]):=by
  have:atI (m.map slP) (k:Int)=some (slP s):=cj (by simp[hk])
  exact this
 have a2:atI (fs.map λf=>PV.int (f:Nat)) (k:Int)=some (.int (f:Nat)):=cj (by simp[hf])
 have a3:atI (s.1.map PV.str) (f:Int)=some (.str p):=cj (by simp[hp])
 have h3:p.length<=1000000:=by have:=ok.le;omega
 have hrg:rgI (p.length:Int)=true:=fC (by omega) (by have:=ok.le;omega)
 have s1:oH (gT [4,5]) (b2 ixP (bV 0) (bV 3)) [some (mP m),some (fP fs),some (aO R),some (.int k),none,none,none,none]=some (.nx [some (mP m),some (fP fs),some (aO R),some (.int k),some (.tup (s.1.map .str)),some (.bl s.2),none,none]):=by
  unfold mP
  simp[a1]
 have s2:aJ 6 (b2 ixP (bV 4) (b2 ixP (bV 1) (bV 3))) [some (mP m),some (fP fs),some (aO R),some (.int k),some (.tup (s.1.map .str)),some (.bl s.2),none,none]=some (.nx (mkE (mP m) (fP fs) R k s p)):=by
  unfold mkE fP
  simp[a2,a3]
 have s3:bY (gN 7) (iR1 (b1 lenV (bV 6))) [7] b7 (mkE (mP m) (fP fs) R k s p)=some (.nx (mkE (mP m) (fP fs) (R++bA s p) k s p)):=by
  generalize b7=B at *
  unfold mkE at lp ⊢
  simp[hrg,h3,lp]
 have s4:b8 [some (mP m),some (fP fs),some (aO R),some (.int k),none,none,none,none]=some (.nx (mkE (mP m) (fP fs) (R++bA s p) k s p)):=by
  unfold b8
  rw[aL s1,aL s2]
  exact s3
 unfold moE
 unfold mkE at s4
 generalize b8=B at *
 rw[aR]
 simp[s4]
theorem tD {n y:Nat}{d r:List Nat}(e:List.range n=d++y::r):y=d.length/\y < n:=by
 have h1:y < n:=List.mem_range.mp (by rw[e];simp)
 have h2:(List.range n)[d.length]?=some y:=by rw[e];simp
 have h3:d.length < n:=by
  have:=congrArg List.length e
  simp at this
  omega
 rw[List.getElem?_range h3] at h2
 cases h2
 exact⟨rfl,h1⟩
theorem eY (s:Slot) (p:Str):(bA s p).length=p.length:=by simp[bA]
theorem DN {m:List Slot}{fs:List Nat}(hm:cz m) (hf:FtV m fs) (hl:m.length < 100):di [mP m,fP fs]=some (aO (bz m fs))/\(bz m fs).length<=4*m.length:=by
 obtain⟨R,⟨d,m',fs',e1,e2,e3,e4,e5,e6,e7⟩,lp⟩:=bH (g:=gN 3) (ds:=[3,6,7,4,5]) (body:=b8) (λk:Nat=>PV.int (k:Nat)) (λR:List Sg=>moE m (fP fs) R)
  (λr R=>∃ d m' fs',List.range m.length=d++r/\m.drop d.length=m'/\fs.drop d.length=fs'/\FtV m' fs'/\R++bz m' fs'=bz m fs/\r.length=m'.length/\R.length<=4*d.length)
  (λk r R ⟨d,m',fs',e1,e2,e3,e4,e5,e6,e7⟩=>by
   obtain⟨hk,hlt⟩:=tD e1
   cases m' with
   | nil=>simp at e6
   | cons s m'=>
    obtain⟨f,p,gs,h1,h2,h3⟩:=e4
    have hs?:m[d.length]?=some s:=by
     have:=congrArg (λl=>l[0]?) e2
     simpa using this
    have hf?:fs[d.length]?=some f:=by
     have:=congrArg (λl=>l[0]?) (e3.trans h1)
     simpa using this
    have ok:=(hm s (List.mem_of_getElem? hs?)).ok p (List.mem_of_getElem? h2)
    have hp4:=ok.le
    refine⟨R++bA s p,⟨d++[k],m',gs,by rw[e1];simp,?_,?_,h3,?_,by simp at e6;omega,by simp[eY];omega⟩,Hq (by rw[hk];exact hs?) (by rw[hk];exact hf?) h2 ok (by omega)⟩
    ·rw[List.length_append,List.length_singleton,← List.tail_drop,e2];rfl
    ·rw[List.length_append,List.length_singleton,← List.tail_drop,e3,h1];rfl
    ·rw[← e5,h1]
     show R++bA s p++bz m' gs=R++(bA s (s.1.getD f ⟨#[]⟩)++bz m' gs)
     rw[List.getD_eq_getElem?_getD,h2,List.append_assoc]
     rfl)
  (List.range m.length) [] ⟨[],m,fs,rfl,rfl,rfl,hf,rfl,by simp,Nat.le_refl _⟩
 have hm':m'=[]:=List.length_eq_zero_iff.mp (by simpa using e6.symm)
 subst hm'
 have hR:R=bz m fs:=by rw[← e5];simp[bz]
 subst hR
 rw[List.append_nil] at e1
 have hd:d.length=m.length:=by rw[← e1,List.length_range]
 refine⟨?_,by omega⟩
 rw[← cD] at lp
 have hrg:rgI (m.length:Int)=true:=fC (by omega) (by omega)
 have s1:aJ 2 (aU az) [some (mP m),some (fP fs),none,none,none,none,none,none]=some (.nx (moE m (fP fs) [])):=by
  unfold moE aO
  simp
 have s2:bY (gN 3) (iR1 (b1 lenV (bV 0))) [3,6,7,4,5] b8 (moE m (fP fs) [])=some (.nx (moE m (fP fs) (bz m fs))):=by
  generalize b8=B at *
  unfold moE at lp ⊢
  unfold mP at lp ⊢
  simp[hrg,lp]
 have hb:jn [some (mP m),some (fP fs),none,none,none,none,none,none]=some (.rt (aO (bz m fs))):=by
  unfold jn
  rw[aL s1,aL s2]
  simp[moE]
 simp[di,hb]
end My
namespace My
open PySem L2 MR
def wdP (w:List (List Nat)):PV:=.lst (w.map aC)
def grP (g:List (List (List Nat))):PV:=.lst (g.map wdP)
def bN (i:Nat):Str:=if i=0 then "u" else "-"
def cN:List (List Nat)->List Nat->Bool
 | [],[]=>true
 | is::O,i::S=>decide (i∈is)&&cN O S
 | _,_=>false
def rfB:List Sg->List Sg->Bool
 | [],[]=>true
 | a::A,b::B=>(stands a.1 b.1&&(!a.2||b.2))&&rfB A B
 | _,_=>false
def cG (S:List Nat) (es:List Bool):List Sg:=(S.zip es).flatMap λy=>if y.1=3 then [] else [(bN y.1,y.2)]
def eZ (n:Nat):List Bool:=(List.range n).map λi=>decide (i+1=n)
def aK (g:List (List (List Nat))):List Bool:=g.flatMap λw=>eZ w.length
theorem iT:∀ {O1 O2:List (List Nat)}{S1 S2:List Nat},cN O1 S1=true->cN O2 S2=true->cN (O1++O2) (S1++S2)=true
 | [],O2,[],S2,_,h=>h
 | is::O,O2,i::S,S2,h1,h2=>by
  simp only[cN,Bool.and_eq_true] at h1
  show (decide (i∈is)&&cN (O++O2) (S++S2))=true
  rw[h1.1,iT h1.2 h2]
  rfl
 | [],_,_::_,_,h,_=>by simp[cN] at h
 | _::_,_,[],_,h,_=>by simp[cN] at h
theorem fO:∀ {O:List (List Nat)}{S:List Nat},cN O S=true->S.length=O.length
 | [],[],_=>rfl
 | is::O,i::S,h=>by
  simp only[cN,Bool.and_eq_true] at h
  rw[List.length_cons,fO h.2,List.length_cons]
 | [],_::_,h=>by simp[cN] at h
 | _::_,[],h=>by simp[cN] at h
theorem mC:∀ {A1 A2 B1 B2:List Sg},rfB A1 B1=true->rfB A2 B2=true->rfB (A1++A2) (B1++B2)=true
 | [],_,[],_,_,h=>h
 | a::A,A2,b::B,B2,h1,h2=>by
  simp only[rfB,Bool.and_eq_true] at h1
  show ((stands a.1 b.1&&(!a.2||b.2))&&rfB (A++A2) (B++B2))=true
  rw[mC h1.2 h2]
  simp only[Bool.and_true,Bool.and_eq_true]
  exact h1.1
 | [],_,_::_,_,h,_=>by simp[rfB] at h
 | _::_,_,[],_,h,_=>by simp[rfB] at h
theorem lq (S T:List Nat) (es fs:List Bool) (h:S.length=es.length):cG (S++T) (es++fs)=cG S es++cG T fs:=by
 unfold cG
 rw[List.zip_append h,List.flatMap_append]
theorem pY (m:Nat):eZ (m+1)=List.replicate m false++[true]:=by
 unfold eZ
 rw[List.range_succ,List.map_append]
 congr 1
 ·rw[List.eq_replicate_iff]
  refine⟨by simp,λx hx=>?_⟩
  obtain⟨i,hi,rfl⟩:=List.mem_map.mp hx
  have:=List.mem_range.mp hi
  simp
  omega
 ·simp
theorem Be (n:Nat):(eZ n).length=n:=by simp[eZ]
theorem jl:∀ g:List (List (List Nat)),(aK g).length=g.flatten.length
 | []=>rfl
 | w::g=>by
  have:=jl g
  show (eZ w.length++aK g).length=(w++g.flatten).length
  rw[List.length_append,List.length_append,Be,this]
theorem qN (g:List (List (List Nat))) (w:List (List Nat)):aK (g++[w])=aK g++eZ w.length:=by simp[aK]
def opn (S:List Nat):List Sg:=S.map λi=>(bN i,false)
theorem oR:∀ (S:List Nat),(∀ i∈S,i≠3)->cG S (List.replicate S.length false)=opn S
 | [],_=>rfl
 | i::S,h=>by
  have ih:=oR S λj hj=>h j (List.mem_cons_of_mem _ hj)
  have hi:=h i List.mem_cons_self
  unfold cG opn at *
  rw[List.length_cons,List.replicate_succ,List.zip_cons_cons,List.flatMap_cons,ih]
  simp[hi]
theorem vP {S:List Nat}(h:∀ i∈S,i≠3):cG (S++[3]) (eZ (S.length+1))=opn S:=by
 rw[pY,lq _ _ _ _ (by simp),oR S h]
 simp[cG]
theorem wM {S:List Nat}{i:Nat}(h:∀ i∈S,i≠3) (hi:i≠3):cG (S++[i]) (eZ (S.length+1))=opn S++[(bN i,true)]:=by
 rw[pY,lq _ _ _ _ (by simp),oR S h]
 simp[cG,hi]
def C4g (g:List (List (List Nat))):Prop:=∀ w∈g,∀ is∈w,C4 is/\is.length<=9/\is.Nodup
structure Opn (g0:List (List (List Nat))) (w:List (List Nat)) (S:List Nat) (d:List Sg):Prop where
 ne:∀ v∈g0,v≠[]
 c4:C4g (g0++[w])
 s4:C4 S
 fit:∃ S0 Sw d0 dw,S=S0++Sw/\d=d0++dw/\cN g0.flatten S0=true/\rfB d0 (cG S0 (aK g0))=true/\cN w Sw=true/\(∀ i∈Sw,i≠3)/\rfB dw (opn Sw)=true
structure Fin (g:List (List (List Nat))) (S:List Nat) (d:List Sg):Prop where
 ne:∀ v∈g,v≠[]
 c4:C4g g
 s4:C4 S
 ins:cN g.flatten S=true
 rf:rfB d (cG S (aK g))=true
theorem rQ {g0:List (List (List Nat))}{w:List (List Nat)}{is:List Nat}(h:C4g (g0++[w])) (hi:C4 is) (hl:is.length<=9/\is.Nodup):C4g (g0++[w++[is]]):=λv hv js hj=>by
 rcases List.mem_append.mp hv with z | z
 ·exact h v (List.mem_append_left _ z) js hj
 ·rw[List.mem_singleton] at z
  subst z
  rcases List.mem_append.mp hj with y | y
  ·exact h w (by simp) js y
  ·rw[List.mem_singleton] at y;subst y;exact⟨hi,hl⟩
theorem xM {g:List (List (List Nat))}(h:C4g g):C4g (g++[[]]):=λv hv js hj=>by
 rcases List.mem_append.mp hv with z | z
 ·exact h v z js hj
 ·rw[List.mem_singleton] at z;subst z;cases hj
theorem rR {S:List Nat}{i:Nat}(h:C4 S) (hi:i < 4):C4 (S++[i]):=λj hj=>by
 rcases List.mem_append.mp hj with z | z
 ·exact h j z
 ·rw[List.mem_singleton] at z;rw[z];exact hi
theorem Opn.none {g0:List (List (List Nat))}{w:List (List Nat)}{S:List Nat}{d:List Sg}{is:List Nat}(h:Opn g0 w S d) (hi:C4 is) (hl:is.length<=9/\is.Nodup) (hm:3∈is):Opn (g0++[w++[is]]) [] (S++[3]) d:=by
 obtain⟨S0,Sw,d0,dw,e1,e2,e3,e4,e5,e6,e7⟩:=h.fit
 have hlw:=fO e5
 have hl0:=fO e3
 refine⟨λv hv=>?_,xM (rQ h.c4 hi hl),rR h.s4 (by decide),S0++Sw++[3],[],d,[],by rw[e1];simp,by simp,?_,?_,rfl,(λi hi=>by cases hi),rfl⟩
 ·rcases List.mem_append.mp hv with z | z
  ·exact h.ne v z
  ·rw[List.mem_singleton] at z;subst z;simp
 ·have hf:(g0++[w++[is]]).flatten=g0.flatten++(w++[is]):=by simp
  rw[hf,List.append_assoc]
  exact iT e3 (iT e5 (by simp[cN,hm]))
 ·rw[qN,List.append_assoc,lq _ _ _ _ (by rw[jl,hl0]),e2]
  refine mC e4 ?_
  rw[List.length_append,List.length_singleton,← hlw,vP e6]
  exact e7
theorem Opn.more {g0:List (List (List Nat))}{w:List (List Nat)}{S:List Nat}{d:List Sg}{is:List Nat}{i:Nat}{a:Sg}(h:Opn g0 w S d) (hi:C4 is) (hl:is.length<=9/\is.Nodup) (hm:i∈is) (h3:i≠3) (hs:stands a.1 (bN i)=true) (hc:a.2=false):Opn g0 (w++[is]) (S++[i]) (d++[a]):=by
 obtain⟨S0,Sw,d0,dw,e1,e2,e3,e4,e5,e6,e7⟩:=h.fit
 refine⟨h.ne,rQ h.c4 hi hl,rR h.s4 (hi i hm),S0,Sw++[i],d0,dw++[a],by rw[e1];simp,by rw[e2];simp,e3,e4,iT e5 (by simp[cN,hm]),λj hj=>?_,?_⟩
 ·rcases List.mem_append.mp hj with z | z
  ·exact e6 j z
  ·rw[List.mem_singleton] at z;rw[z];exact h3
 ·have:opn (Sw++[i])=opn Sw++[(bN i,false)]:=by simp[opn]
  rw[this]
  exact mC e7 (by simp[rfB,hs,hc])
theorem Opn.fin {g0:List (List (List Nat))}{w:List (List Nat)}{S:List Nat}{d:List Sg}{is:List Nat}{i:Nat}{a:Sg}(h:Opn g0 w S d) (hi:C4 is) (hl:is.length<=9/\is.Nodup) (hm:i∈is) (h3:i≠3) (hs:stands a.1 (bN i)=true):Fin (g0++[w++[is]]) (S++[i]) (d++[a]):=by
 obtain⟨S0,Sw,d0,dw,e1,e2,e3,e4,e5,e6,e7⟩:=h.fit
 have hlw:=fO e5
 have hl0:=fO e3
 refine⟨λv hv=>?_,rQ h.c4 hi hl,rR h.s4 (hi i hm),?_,?_⟩
 ·rcases List.mem_append.mp hv with z | z
  ·exact h.ne v z
  ·rw[List.mem_singleton] at z;subst z;simp
 ·have hf:(g0++[w++[is]]).flatten=g0.flatten++(w++[is]):=by simp
  rw[hf,e1,List.append_assoc]
  exact iT e3 (iT e5 (by simp[cN,hm]))
 ·rw[qN,e1,e2,List.append_assoc,List.append_assoc,lq _ _ _ _ (by rw[jl,hl0])]
  refine mC e4 ?_
  rw[List.length_append,List.length_singleton,← hlw,wM e6 h3]
  exact mC e7 (by simp[rfB,hs])
theorem Fin.opn {g:List (List (List Nat))}{S:List Nat}{d:List Sg}(h:Fin g S d):Opn g [] S d:=
 ⟨h.ne,xM h.c4,h.s4,S,[],d,[],by simp,by simp,h.ins,h.rf,rfl,(λi hi=>by cases hi),rfl⟩
theorem Hr (A ys:List PV) (p:PV) (h:ys.length < 1000000):apV (.lst (A++[.lst ys])) (.int (-1)) p=some (.lst (A++[.lst (ys++[p])])):=by
 have e1:ixN (A++[PV.lst ys]).length (-1)=some A.length:=by
  unfold ixN
  rw[if_neg (by decide),if_pos (by simp;omega)]
  congr 1
  simp
  omega
 have e2:(A++[PV.lst ys])[A.length]?=some (.lst ys):=by simp
 have e3:(A++[PV.lst ys]).set A.length (.lst (ys++[p]))=A++[.lst (ys++[p])]:=by simp
 simp only[apV]
 rw[e1]
 simp only[Option.bind_some]
 rw[e2]
 simp only[Option.bind_some]
 rw[if_pos h,e3]
theorem xN (g0:List (List (List Nat))) (w:List (List Nat)):grP (g0++[w])=.lst (g0.map wdP++[.lst (w.map aC)]):=by simp[grP,wdP]
theorem Fv {g0:List (List (List Nat))}{w:List (List Nat)}{is:List Nat}(h:w.length < 1000):apV (grP (g0++[w])) (.int (-1)) (aC is)=some (grP (g0++[w++[is]])):=by
 rw[xN,xN,Hr _ _ _ (by rw[List.length_map];omega)]
 simp
theorem Bf {g:List (List (List Nat))}(h:g.length < 1000):newV (grP g)=some (grP (g++[[]])):=by
 have:g.length < 1000000:=by omega
 unfold grP
 simp only[newV]
 rw[if_pos (by rw[List.length_map];exact this)]
 simp[wdP]
end My
namespace My
open PySem L2 MR
def ftE (M F:PV) (n:Int) (g:List (List (List Nat))) (S:List Nat) (mk:List Sg) (x6 x7 x8 x9 x10 x11:Option PV):MR.Env:=[some M,some F,some (.int n),some (grP g),some (aC S),some (aO mk),x6,x7,x8,x9,x10,x11]
section
variable {M F:PV}{n:Int}{mk:List Sg}{k:Nat}
theorem Hs {g:List (List (List Nat))}{S:List Nat}(hk:k < 100):
  hid 3 (aJ 7 (aQ bT (aa (bV 2) (aa (b2 aY (b2 jM (bC (.int 7)) (bV 6)) (bC (.int 3))) az)))) (ftE M F n g S mk (some (.int k)) none none none none none)=some (.nx (ftE M F n g S mk (some (.int k)) (some (.int (mixed n (7*(k:Int)+3)))) none none none none)):=by
 have h1:=pU n (7*(k:Int)+3) (jh (by omega) (by omega))
 have h7:smI 7=true:=jh (by decide) (by decide)
 unfold ftE
 generalize grP g=GP at *
 simp[h1,h7]
theorem Lh {g0:List (List (List Nat))}{w:List (List Nat)}{S:List Nat}{m:Int}{d:List Sg}(h:Opn g0 w S d) (hw:w.length < 900) (hg:g0.length < 900) (hS:S.length < 900):
  ∃ g0' w' S',Opn g0' w' S' d/\w'.length<=w.length/\g0'.length<=g0.length+1/\S'.length<=S.length+1 /\
  nIf 3 (tA (tV (b2 eqQ (b2 bW (bV 7) (bC (.int 7))) (bC (.int 1)))) (tV (b2 iI (b2 aY (b1 lenV (bV 4)) (b1 lenV (bV 5))) (b2 aY (bC (.int 58)) (bV 6))))) (aD (pQ 3 (b1 mW (bC (.int 1))) (aQ bu (aa (b2 cA (bV 7) (bC (.int 7))) (aa (bC (.bl true)) (aa (bC .non) az))))) (aD (hid 3 (cP fY 4 (bC .non))) (pR 3))) sNx (ftE M F n (g0++[w]) S mk (some (.int k)) (some (.int m)) none none none none)=
   some (.nx (ftE M F n (g0'++[w']) S' mk (some (.int k)) (some (.int m)) none none none none)):=by
 have l1:(S.map au).length=S.length:=List.length_map ..
 have l2:(mk.map sgP).length=mk.length:=List.length_map ..
 by_cases hc:m % 7=1/\(S.length:Int)+(mk.length:Int) < 58+(k:Int)
 ·obtain⟨is,i1,i2,i3,i4⟩:=xK (m / 7) true (i:=3) (by decide)
  have i4':bu [.int (m / 7),.bl true,.non]=some (aC is):=i4
  have a1:=Fv (g0:=g0) (is:=is) (by omega:w.length < 1000)
  have a2:=Bf (g:=g0++[w++[is]]) (by simp;omega)
  refine⟨g0++[w++[is]],[],S++[3],h.none i1 i2 i3,Nat.zero_le _,by simp,by simp,?_⟩
  have s1:pQ 3 (b1 mW (bC (.int 1))) (aQ bu (aa (b2 cA (bV 7) (bC (.int 7))) (aa (bC (.bl true)) (aa (bC .non) az)))) (ftE M F n (g0++[w]) S mk (some (.int k)) (some (.int m)) none none none none)=some (.nx (ftE M F n (g0++[w++[is]]) S mk (some (.int k)) (some (.int m)) none none none none)):=by
   unfold ftE
   generalize grP (g0++[w])=G1 at *
   generalize grP (g0++[w++[is]])=G2 at *
   generalize aC is=SP at *
   generalize bu=mw at *
   simp[i4',a1,-apV]
  have s2:hid 3 (cP fY 4 (bC .non)) (ftE M F n (g0++[w++[is]]) S mk (some (.int k)) (some (.int m)) none none none none)=some (.nx (ftE M F n (g0++[w++[is]]) (S++[3]) mk (some (.int k)) (some (.int m)) none none none none)):=by
   have hl:S.length < 1000000:=by omega
   have e:aC (S++[3])=.lst (S.map au++[.non]):=by simp[aC,au]
   unfold ftE
   rw[e]
   unfold aC
   generalize grP (g0++[w++[is]])=G2 at *
   simp[hl]
  have s3:pR 3 (ftE M F n (g0++[w++[is]]) (S++[3]) mk (some (.int k)) (some (.int m)) none none none none)=some (.nx (ftE M F n (g0++[w++[is]]++[[]]) (S++[3]) mk (some (.int k)) (some (.int m)) none none none none)):=by
   unfold ftE
   generalize grP (g0++[w++[is]]++[[]])=G3 at *
   generalize grP (g0++[w++[is]])=G2 at *
   simp[a2,-newV]
  rw[vz]
  have hcond:tA (tV (b2 eqQ (b2 bW (bV 7) (bC (.int 7))) (bC (.int 1)))) (tV (b2 iI (b2 aY (b1 lenV (bV 4)) (b1 lenV (bV 5))) (b2 aY (bC (.int 58)) (bV 6)))) ((ftE M F n (g0++[w]) S mk (some (.int k)) (some (.int m)) none none none none).set 3 none)=some true:=by
   unfold ftE aC aO
   simp[hc.1,hc.2,l1,l2]
  rw[hcond,Option.bind_some,if_pos rfl,aL s1,aL s2]
  exact s3
 ·refine⟨g0,w,S,h,Nat.le_refl _,by omega,by omega,?_⟩
  rw[vz]
  have hcond:tA (tV (b2 eqQ (b2 bW (bV 7) (bC (.int 7))) (bC (.int 1)))) (tV (b2 iI (b2 aY (b1 lenV (bV 4)) (b1 lenV (bV 5))) (b2 aY (bC (.int 58)) (bV 6)))) ((ftE M F n (g0++[w]) S mk (some (.int k)) (some (.int m)) none none none none).set 3 none)=some false:=by
   unfold ftE aC aO
   by_cases h1:m % 7=1
   ·have h2:¬ (S.length:Int)+(mk.length:Int) < 58+(k:Int):=λz=>hc ⟨h1,z⟩
    simp[h1,h2,l1,l2]
   ·simp[h1,l1,l2]
  rw[hcond,Option.bind_some,if_neg (by decide)]
  rfl
end
end My
namespace My
open PySem L2 MR
def DP (mk:List Sg):Prop:=∀ a∈mk,a.1=("u" : Str)\/a.1=("-" : Str)\/a.1=("x" : Str)
theorem u_x:¬ (("u" : Str) = "x"):=by decide
theorem d_x:¬ (("-" : Str) = "x"):=by decide
theorem Opn.lens {g0:List (List (List Nat))}{w:List (List Nat)}{S:List Nat}{d:List Sg}(h:Opn g0 w S d):w.length<=S.length/\g0.length<=S.length:=by
 obtain⟨S0,Sw,d0,dw,e1,e2,e3,e4,e5,e6,e7⟩:=h.fit
 have h1:=fO e5
 have h2:=fO e3
 have h3:∀ l:List (List (List Nat)),(∀ v∈l,v≠[])->l.length<=l.flatten.length:=λl=>by
  induction l with
  | nil=>exact λ_=>Nat.le_refl _
  | cons v l ih=>
   intro hl
   have:=ih λu hu=>hl u (List.mem_cons_of_mem _ hu)
   have hv:=List.length_pos_iff.mpr (hl v List.mem_cons_self)
   simp only[List.flatten_cons,List.length_append,List.length_cons]
   omega
 have h4:=h3 g0 h.ne
 rw[e1,List.length_append]
 omega
section
variable {M F:PV}{n m:Int}{mk:List Sg}{k:Nat}{g:List (List (List Nat))}{S:List Nat}
theorem NZ (hk:k < mk.length):hid 3 (oH (gT [8,9]) (b2 ixP (bV 5) (bV 6))) (ftE M F n g S mk (some (.int k)) (some (.int m)) none none none none)=some (.nx (ftE M F n g S mk (some (.int k)) (some (.int m)) (some (.str (a_ mk k).1)) (some (.bl (a_ mk k).2)) none none)):=by
 have h1:atI (mk.map sgP) (k:Int)=some (.tup [.str (a_ mk k).1,.bl (a_ mk k).2]):=vM hk
 unfold ftE aO
 generalize grP g=GP at *
 generalize mk.map sgP=RP at *
 generalize a_ mk k=a at *
 simp[h1]
theorem Li {x:Str}{c:Option PV}(hx:x=("u" : Str)\/x=("-" : Str)\/x=("x" : Str)):∃ y:Str,(y=("u" : Str)\/y=("-" : Str))/\stands x y=true /\
  hid 3 (sIf (tV (b2 eqQ (bV 8) (bC (.str "x")))) (aJ 8 (b2 ixP (aU (aa (bC (.str "u")) (aa (bC (.str "-")) az))) (b2 bW (b2 cA (bV 7) (bC (.int 7))) (bC (.int 2))))) sNx) (ftE M F n g S mk (some (.int k)) (some (.int m)) (some (.str x)) c none none)=some (.nx (ftE M F n g S mk (some (.int k)) (some (.int m)) (some (.str y)) c none none)):=by
 have h1:=u_x
 have h2:=d_x
 unfold ftE
 generalize grP g=GP at *
 rcases hx with rfl | rfl | rfl
 ·exact⟨"u",.inl rfl,by simp[stands],by simp[h1]⟩
 ·exact⟨"-",.inr rfl,by simp[stands],by simp[h2]⟩
 ·have:m / 7 % 2=0\/m / 7 % 2=1:=by omega
  rcases this with e | e
  ·exact⟨"u",.inl rfl,by simp[stands],by simp[e]⟩
  ·exact⟨"-",.inr rfl,by simp[stands],by simp[e]⟩
theorem N5 {y:Str}{c:Option PV}(hy:y=("u" : Str)\/y=("-" : Str)):∃ i,i < 3/\bN i=y /\
  hid 3 (aJ 10 (bG (aa (b1 vg (lw (b2 eqQ (bV 8) (bC (.str "-"))) (b2 eqQ (b2 bW (b2 cA (bV 7) (bC (.int 14))) (bC (.int 4))) (bC (.int 1))))) (aa (bV 8) az)))) (ftE M F n g S mk (some (.int k)) (some (.int m)) (some (.str y)) c none none)=some (.nx (ftE M F n g S mk (some (.int k)) (some (.int m)) (some (.str y)) c (some (au i)) none)):=by
 have h1:=yZ
 unfold ftE
 generalize grP g=GP at *
 rcases hy with rfl | rfl
 ·exact⟨0,by decide,rfl,by simp[h1,au]⟩
 ·by_cases hm:m / 14 % 4=1
  ·exact⟨2,by decide,rfl,by simp[hm,au]⟩
  ·exact⟨1,by decide,rfl,by simp[hm,au]⟩
theorem Lj {y:Str}{cut:Bool}{o:PV}(hk:k < mk.length):hid 3 (aJ 11 (bOr (bV 9) (bOr (b2 eqQ (b2 aY (bV 6) (bC (.int 1))) (b1 lenV (bV 5))) (b2 eqQ (b2 bW (b2 cA (bV 7) (bC (.int 56))) (bC (.int 3))) (bC (.int 0)))))) (ftE M F n g S mk (some (.int k)) (some (.int m)) (some (.str y)) (some (.bl cut)) (some o) none)=
  some (.nx (ftE M F n g S mk (some (.int k)) (some (.int m)) (some (.str y)) (some (.bl cut)) (some o) (some (.bl (cut||(decide (k+1=mk.length)||decide (m / 56 % 3=0))))))):=by
 have l2:(mk.map sgP).length=mk.length:=List.length_map ..
 have e:(((k:Int)+1)=(mk.length:Int))↔k+1=mk.length:=by omega
 unfold ftE aO
 generalize grP g=GP at *
 generalize mk.map sgP=RP at *
 cases cut with
 | true=>simp
 | false=>
  by_cases h1:k+1=mk.length
  ·have h1':=e.mpr h1
   simp[l2,h1,h1']
  ·have h1':¬ ((k:Int)+1)=(mk.length:Int):=λz=>h1 (e.mp z)
   by_cases h2:m / 56 % 3=0 <;> simp[l2,h1,h1',h2]
theorem N6 {g0:List (List (List Nat))}{w:List (List Nat)}{x8 x9:Option PV}{o:Nat}{last:Bool}{is:List Nat}(h1:bu [.int (m / 168),.bl last,au o]=some (aC is)) (hw:w.length < 900):
  pQ 3 (b1 mW (bC (.int 1))) (aQ bu (aa (b2 cA (bV 7) (bC (.int 168))) (aa (bV 11) (aa (bV 10) az)))) (ftE M F n (g0++[w]) S mk (some (.int k)) (some (.int m)) x8 x9 (some (au o)) (some (.bl last)))=some (.nx (ftE M F n (g0++[w++[is]]) S mk (some (.int k)) (some (.int m)) x8 x9 (some (au o)) (some (.bl last)))):=by
 have a1:=Fv (g0:=g0) (is:=is) (by omega:w.length < 1000)
 unfold ftE
 generalize grP (g0++[w])=G1 at *
 generalize grP (g0++[w++[is]])=G2 at *
 generalize aC is=SP at *
 generalize au o=OP at *
 generalize bu=mw at *
 simp[h1,a1,-apV]
theorem N7 {x8 x9:Option PV}{o:Nat}{last:PV}(hS:S.length < 900):
  hid 3 (cP fY 4 (bV 10)) (ftE M F n g S mk (some (.int k)) (some (.int m)) x8 x9 (some (au o)) (some last))=some (.nx (ftE M F n g (S++[o]) mk (some (.int k)) (some (.int m)) x8 x9 (some (au o)) (some last))):=by
 have hl:S.length < 1000000:=by omega
 have e:aC (S++[o])=.lst (S.map au++[au o]):=by simp[aC]
 unfold ftE
 rw[e]
 unfold aC
 generalize grP g=G2 at *
 generalize au o=OP at *
 simp[hl]
theorem N8 {x8 x9 x10:Option PV}{last:Bool}(hg:g.length < 1000):
  nIf 3 (tA (tV (bV 11)) (tV (b2 iI (b2 aY (bV 6) (bC (.int 1))) (b1 lenV (bV 5))))) (pR 3) sNx (ftE M F n g S mk (some (.int k)) (some (.int m)) x8 x9 x10 (some (.bl last)))=some (.nx (ftE M F n (if (last&&decide (k+1 < mk.length))=true then g++[[]] else g) S mk (some (.int k)) (some (.int m)) x8 x9 x10 (some (.bl last)))):=by
 have l2:(mk.map sgP).length=mk.length:=List.length_map ..
 have a2:=Bf hg
 have e:(((k:Int)+1) < (mk.length:Int))↔k+1 < mk.length:=by omega
 rw[vz]
 have hcond:tA (tV (bV 11)) (tV (b2 iI (b2 aY (bV 6) (bC (.int 1))) (b1 lenV (bV 5)))) ((ftE M F n g S mk (some (.int k)) (some (.int m)) x8 x9 x10 (some (.bl last))).set 3 none)=some (last&&decide (k+1 < mk.length)):=by
  unfold ftE aO
  cases last with
  | false=>simp
  | true=>
   by_cases h:k+1 < mk.length
   ·have h':=e.mpr h
    simp[l2,h,h']
   ·have h':¬ ((k:Int)+1) < (mk.length:Int):=λz=>h (e.mp z)
    simp[l2,h,h']
 rw[hcond,Option.bind_some]
 cases hb:(last&&decide (k+1 < mk.length)) with
 | true=>
  rw[if_pos rfl,if_pos rfl]
  unfold ftE
  generalize grP (g++[[]])=G3 at *
  generalize grP g=G2 at *
  simp[a2,-newV]
 | false=>
  rw[if_neg (by decide),if_neg (by decide)]
  rfl
end
theorem DQ {M F:PV}{n:Int}{mk:List Sg}{k:Nat}{g0:List (List (List Nat))}{w:List (List Nat)}{S:List Nat}(hmk:DP mk) (hk:k < mk.length) (hL:mk.length < 100) (hS:S.length<=2*k) (h:Opn g0 w S (mk.take k)):
  ∃ g' S',S'.length<=2*(k+1)/\(k+1 < mk.length->∃ g1 w1,g'=g1++[w1]/\Opn g1 w1 S' (mk.take (k+1)))/\(k+1=mk.length->Fin g' S' mk) /\
   turn (gH 3 (gN 6)) [6,7,10,11,8,9] (onx b_) (.int k) (ftE M F n (g0++[w]) S mk none none none none none none)=some (ftE M F n g' S' mk none none none none none none):=by
 have ha:a_ mk k∈mk:=by
  unfold a_
  rw[List.getD_eq_getElem?_getD,List.getElem?_eq_getElem hk]
  exact List.getElem_mem _
 have htk:mk.take (k+1)=mk.take k++[a_ mk k]:=by
  rw[List.take_add_one]
  unfold a_
  rw[List.getD_eq_getElem?_getD,List.getElem?_eq_getElem hk]
  rfl
 obtain⟨hl1,hl2⟩:=h.lens
 have s1:=Hs (M:=M) (F:=F) (n:=n) (mk:=mk) (k:=k) (g:=g0++[w]) (S:=S) (by omega)
 generalize mixed n (7*(k:Int)+3)=m at s1
 obtain⟨g1,w1,S1,o1,b1,b2',b3,s2⟩:=Lh (M:=M) (F:=F) (n:=n) (mk:=mk) (k:=k) (m:=m) h (by omega) (by omega) (by omega)
 obtain⟨hl3,hl4⟩:=o1.lens
 have s3:=NZ (M:=M) (F:=F) (n:=n) (m:=m) (g:=g1++[w1]) (S:=S1) hk
 obtain⟨y,hy,hst,s4⟩:=Li (M:=M) (F:=F) (n:=n) (m:=m) (mk:=mk) (k:=k) (g:=g1++[w1]) (S:=S1) (c:=some (.bl (a_ mk k).2)) (hmk _ ha)
 obtain⟨i,hi,him,s5⟩:=N5 (M:=M) (F:=F) (n:=n) (m:=m) (mk:=mk) (k:=k) (g:=g1++[w1]) (S:=S1) (c:=some (.bl (a_ mk k).2)) hy
 have s6:=Lj (M:=M) (F:=F) (n:=n) (m:=m) (g:=g1++[w1]) (S:=S1) (y:=y) (cut:=(a_ mk k).2) (o:=au i) hk
 obtain⟨is,i1,i2,i3,i4⟩:=xK (m / 168) ((a_ mk k).2||(decide (k+1=mk.length)||decide (m / 56 % 3=0))) (i:=i) (by omega)
 have s7:=N6 (M:=M) (F:=F) (n:=n) (mk:=mk) (k:=k) (S:=S1) (g0:=g1) (w:=w1) (x8:=some (.str y)) (x9:=some (.bl (a_ mk k).2)) i4 (by omega)
 have s8:=N7 (M:=M) (F:=F) (n:=n) (m:=m) (mk:=mk) (k:=k) (g:=g1++[w1++[is]]) (S:=S1) (x8:=some (.str y)) (x9:=some (.bl (a_ mk k).2)) (o:=i) (last:=.bl ((a_ mk k).2||(decide (k+1=mk.length)||decide (m / 56 % 3=0)))) (by omega)
 have s9:=N8 (M:=M) (F:=F) (n:=n) (m:=m) (mk:=mk) (k:=k) (g:=g1++[w1++[is]]) (S:=S1++[i]) (x8:=some (.str y)) (x9:=some (.bl (a_ mk k).2)) (x10:=some (au i)) (last:=(a_ mk k).2||(decide (k+1=mk.length)||decide (m / 56 % 3=0))) (by simp;omega)
 rw[← him] at hst
 have fin:=o1.fin i1 i2 i3 (by omega) hst
 have hb:b_ (ftE M F n (g0++[w]) S mk (some (.int k)) none none none none none)=some (.nx (ftE M F n (if (((a_ mk k).2||(decide (k+1=mk.length)||decide (m / 56 % 3=0)))&&decide (k+1 < mk.length))=true then g1++[w1++[is]]++[[]] else g1++[w1++[is]]) (S1++[i]) mk (some (.int k)) (some (.int m)) (some (.str y)) (some (.bl (a_ mk k).2)) (some (au i)) (some (.bl ((a_ mk k).2||(decide (k+1=mk.length)||decide (m / 56 % 3=0))))))):=by
  unfold b_
  rw[aL s1,aL s2,aL s3,aL s4,aL s5,aL s6,aL s7,aL s8]
  exact s9
 rw[← htk] at fin
 have tn:∀ g',b_ (ftE M F n (g0++[w]) S mk (some (.int k)) none none none none none)=some (.nx (ftE M F n g' (S1++[i]) mk (some (.int k)) (some (.int m)) (some (.str y)) (some (.bl (a_ mk k).2)) (some (au i)) (some (.bl ((a_ mk k).2||(decide (k+1=mk.length)||decide (m / 56 % 3=0)))))))->turn (gH 3 (gN 6)) [6,7,10,11,8,9] (onx b_) (.int k) (ftE M F n (g0++[w]) S mk none none none none none none)=some (ftE M F n g' (S1++[i]) mk none none none none none none):=λg' hh=>by
  generalize b_=B at *
  unfold ftE at hh ⊢
  generalize grP (g0++[w])=G1 at *
  generalize grP g'=G2 at *
  rw[aR]
  simp[hh]
 have hS1:(S1++[i]).length<=2*(k+1):=by simp;omega
 by_cases hlt:k+1 < mk.length
 ·cases hla:((a_ mk k).2||(decide (k+1=mk.length)||decide (m / 56 % 3=0))) with
  | true=>
   rw[hla] at hb
   rw[if_pos (by simp[hlt])] at hb
   rw[← hla] at hb
   exact⟨_,_,hS1,λ_=>⟨g1++[w1++[is]],[],rfl,fin.opn⟩,λz=>by omega,tn _ hb⟩
  | false=>
   rw[hla] at hb
   rw[if_neg (by simp)] at hb
   rw[← hla] at hb
   have hc:(a_ mk k).2=false:=by
    cases hq:(a_ mk k).2 with
    | false=>rfl
    | true=>rw[hq] at hla;simp at hla
   have mo:=o1.more i1 i2 i3 (by omega) hst hc
   rw[← htk] at mo
   exact⟨_,_,hS1,λ_=>⟨g1,w1++[is],rfl,mo⟩,λz=>by omega,tn _ hb⟩
 ·have heq:k+1=mk.length:=by omega
  rw[if_neg (by simp[hlt])] at hb
  refine⟨_,_,hS1,λz=>absurd z hlt,λ_=>?_,tn _ hb⟩
  rw[heq,List.take_length] at fin
  exact fin
theorem Lk {m:List Slot}{fs:List Nat}{n:Int}(hm:cz m) (hf:FtV m fs) (hl:m.length < 20) (hmk:DP (bz m fs)) (hne:bz m fs≠[]):∃ g S,Fin g S (bz m fs)/\S.length<=200/\fj [mP m,fP fs,.int n]=some (.lst [grP g,aC S]):=by
 obtain⟨h1,h2⟩:=DN hm hf (by omega)
 generalize bz m fs=mk at *
 have hpos:0 < mk.length:=List.length_pos_iff.mpr hne
 obtain⟨⟨g,S⟩,⟨d,e1,e2,e3,e4⟩,lp⟩:=bH (g:=gH 3 (gN 6)) (ds:=[6,7,10,11,8,9]) (body:=onx b_) (λk:Nat=>PV.int (k:Nat)) (λz:List (List (List Nat))×List Nat=>ftE (mP m) (fP fs) n z.1 z.2 mk none none none none none none)
  (λr z=>∃ d,List.range mk.length=d++r/\z.2.length<=2*d.length/\(d.length < mk.length->∃ g0 w,z.1=g0++[w]/\Opn g0 w z.2 (mk.take d.length))/\(d.length=mk.length->Fin z.1 z.2 mk))
  (λk r z ⟨d,e1,e2,e3,e4⟩=>by
   obtain⟨hk,hlt⟩:=tD e1
   obtain⟨g0,w,q1,q2⟩:=e3 (by omega)
   obtain⟨g,S⟩:=z
   simp only at q1 q2 e2
   subst q1 hk
   obtain⟨g',S',t1,t2,t3,t4⟩:=DQ (M:=mP m) (F:=fP fs) (n:=n) hmk hlt (by omega) e2 q2
   exact⟨(g',S'),⟨d++[d.length],by rw[e1];simp,by simpa using t1,by simpa using t2,by simpa using t3⟩,t4⟩)
  (List.range mk.length) ([[]],[]) ⟨[],rfl,Nat.le_refl _,λ_=>⟨[],[],rfl,⟨(λv hv=>by cases hv),(λv hv=>by simp at hv;subst hv;exact λis hi=>by cases hi),(λi hi=>by cases hi),[],[],[],[],rfl,by simp,rfl,rfl,rfl,(λi hi=>by cases hi),rfl⟩⟩,λz=>by simp at z;omega⟩
 rw[List.append_nil] at e1
 have hd:d.length=mk.length:=by rw[← e1,List.length_range]
 have hfin:=e4 hd
 simp only at hfin e2 lp
 refine⟨g,S,hfin,by omega,?_⟩
 have hrg:rgI (mk.length:Int)=true:=fC (by omega) (by omega)
 have s1:onx (qI 3 1) [some (mP m),some (fP fs),some (.int n),none,none,none,none,none,none,none,none,none]=some (.nx [some (mP m),some (fP fs),some (.int n),some (grP [[]]),none,none,none,none,none,none,none,none]):=by
  simp[grP,wdP]
 have s2:onx (hid 3 (aJ 4 (aU az))) [some (mP m),some (fP fs),some (.int n),some (grP [[]]),none,none,none,none,none,none,none,none]=some (.nx [some (mP m),some (fP fs),some (.int n),some (grP [[]]),some (aC []),none,none,none,none,none,none,none]):=by
  simp[aC]
 have s3:onx (hid 3 (aJ 5 (aQ di (aa (bV 0) (aa (bV 1) az))))) [some (mP m),some (fP fs),some (.int n),some (grP [[]]),some (aC []),none,none,none,none,none,none,none]=some (.nx (ftE (mP m) (fP fs) n [[]] [] mk none none none none none none)):=by
  unfold ftE
  generalize grP [[]]=G1
  generalize di=mm at *
  simp[h1]
 have s4:onx (vA 3 (gN 6) (iR1 (b1 lenV (bV 5))) [6,7,10,11,8,9] b_) (ftE (mP m) (fP fs) n [[]] [] mk none none none none none none)=some (.nx (ftE (mP m) (fP fs) n g S mk none none none none none none)):=by
  rw[← cD] at lp
  have hle:iR1 (b1 lenV (bV 5)) ((ftE (mP m) (fP fs) n [[]] [] mk none none none none none none).set 3 none)=some (cg 0 (mk.length:Int)):=by
   unfold ftE aO
   simp[hrg]
  have hcl:clr [6,7,10,11,8,9] (ftE (mP m) (fP fs) n [[]] [] mk none none none none none none)=ftE (mP m) (fP fs) n [[]] [] mk none none none none none none:=rfl
  rw[K6,Hb,hle,Option.bind_some,hcl,lp]
  rfl
 have hb:jb [some (mP m),some (fP fs),some (.int n),none,none,none,none,none,none,none,none,none]=some (.rt (.lst [grP g,aC S])):=by
  unfold jb
  rw[aL s1,aL s2,aL s3,aL s4]
  unfold ftE
  simp
 unfold fj
 generalize jb=B at *
 simp[hb]
end My
namespace My
open PySem L2 MR
theorem Ht {g:List (List (List Nat))}(hm:g.flatten.length < 1000):fU [grP g]=some (.lst (g.flatten.map aC)):=by
 obtain⟨L,⟨d,h1,h2⟩,h3⟩:=bH (g:=gN 2) (ds:=[2]) (body:=iy) wdP (λL:List (List Nat)=>[some (grP g),some (.lst (L.map aC)),none]) (λr L=>∃ d,g=d++r/\L=d.flatten)
  (λw r L ⟨d,h1,h2⟩=>by
   refine⟨L++w,⟨d++[w],by rw[h1];simp,by rw[h2];simp⟩,?_⟩
   have hs:L.length+w.length<=1000000:=by
    have e:g.flatten.length=L.length+(w.length+r.flatten.length):=by rw[h1,h2];simp
    omega
   simp[aR,iy,wdP,hs])
  g [] ⟨[],rfl,rfl⟩
 rw[List.append_nil] at h1
 subst h1 h2
 have e:grP g=.lst (g.map wdP):=rfl
 simp only[List.map_nil] at h3
 rw[e] at h3 ⊢
 simp[fU,nH,itV,h3]
theorem xO (x:PV):∀ n:Nat,(List.replicate n [x]).flatten=List.replicate n x
 | 0=>rfl
 | n+1=>by rw[List.replicate_succ,List.flatten_cons,xO x n,List.replicate_succ];rfl
theorem Bg {GP:PV}{L:List Bool}{w:List (List Nat)}(hw:w≠[]) (hl:w.length < 1000) (hL:L.length < 1000):turn (gN 2) [2] gA (wdP w) [some GP,some (.lst (L.map PV.bl)),none]=some [some GP,some (.lst ((L++eZ w.length).map PV.bl)),none]:=by
 obtain⟨m,hm1⟩:∃ m,w.length=m+1:=⟨w.length - 1,by cases w with | nil=>exact absurd rfl hw | cons a l=>simp⟩
 have q1:-1000000<=(m:Int)/\(m:Int)<=1000000/\m<=1000000:=by omega
 have q2:m+1<=1000000:=by omega
 have q3:L.length+(m+1)<=1000000:=by omega
 have q4:((m:Int)+1 - 1)=m:=by omega
 rw[hm1,pY]
 simp[aR,gA,wdP,hm1,q4,q1,q2,q3,xO]
theorem Hu {g:List (List (List Nat))}(hg:∀ w∈g,w≠[]) (hm:g.flatten.length < 1000):iz [grP g]=some (.lst ((aK g).map .bl)):=by
 obtain⟨L,⟨d,h1,h2⟩,h3⟩:=bH (g:=gN 2) (ds:=[2]) (body:=gA) wdP (λL:List Bool=>[some (grP g),some (.lst (L.map PV.bl)),none]) (λr L=>∃ d,g=d++r/\L=aK d)
  (λw r L ⟨d,h1,h2⟩=>by
   have hw:=hg w (by rw[h1];simp)
   have e:g.flatten.length=d.flatten.length+(w.length+r.flatten.length):=by rw[h1];simp
   have hL:L.length=d.flatten.length:=by rw[h2,jl]
   exact⟨L++eZ w.length,⟨d++[w],by rw[h1];simp,by rw[h2];simp[aK]⟩,Bg hw (by omega) (by omega)⟩)
  g [] ⟨[],rfl,rfl⟩
 rw[List.append_nil] at h1
 subst h1 h2
 have e:grP g=.lst (g.map wdP):=rfl
 simp only[List.map_nil] at h3
 generalize hlb:gA=B at h3
 have hb:jy [some (grP g),none,none]=some (.rt (.lst ((aK g).map .bl))):=by
  unfold jy
  rw[hlb]
  rw[e] at h3 ⊢
  simp[itV,h3]
 unfold iz
 generalize jy=B2 at *
 simp[hb]
end My
namespace My
open PySem L2 MR
theorem rT:∀ {A B:List Sg},rfB A B=true->A.length=B.length
 | [],[],_=>rfl
 | a::A,b::B,h=>by
  simp only[rfB,Bool.and_eq_true] at h
  rw[List.length_cons,rT h.2,List.length_cons]
 | [],_::_,h=>by simp[rfB] at h
 | _::_,[],h=>by simp[rfB] at h
theorem Ln {A B:List Sg}(h:A.length≠B.length):rfB A B=false:=by
 cases q:rfB A B with
 | false=>rfl
 | true=>exact absurd (rT q) h
theorem tE:∀ (A B T:List Sg),rfB (A++B) T=(rfB A (T.take A.length)&&rfB B (T.drop A.length))
 | [],B,T=>by simp[rfB]
 | a::A,B,[]=>by simp[rfB]
 | a::A,B,b::T=>by
  show ((stands a.1 b.1&&(!a.2||b.2))&&rfB (A++B) T)=(((stands a.1 b.1&&(!a.2||b.2))&&rfB A (T.take A.length))&&rfB B (T.drop A.length))
  rw[tE A B T,Bool.and_assoc,Bool.and_assoc,Bool.and_assoc]
def y_ (A B:List Sg) (k:Nat):Bool:=stands (a_ A k).1 (a_ B k).1&&(!(a_ A k).2||(a_ B k).2)
theorem tG:∀ {A B:List Sg},A.length=B.length->rfB A B=(List.range B.length).all (y_ A B)
 | [],[],_=>rfl
 | a::A,b::B,h=>by
  have ih:=tG (A:=A) (B:=B) (by simpa using h)
  rw[rfB,ih,List.length_cons,List.range_succ_eq_map,List.all_cons,List.all_map]
  rfl
 | [],_::_,h=>by simp at h
 | _::_,[],h=>by simp at h
theorem lG (s:Slot) (p:Str){k:Nat}(h:k < p.length):a_ (bA s p) k=(dH p k,s.2&&decide (k+1=p.length)):=by
 unfold a_ bA
 rw[List.getD_eq_getElem?_getD,List.getElem?_map,List.getElem?_range h]
 rfl
theorem Bh {s:Slot}{p:Str}(hp:PatOk p) (part:List Sg):fit p s.2 part=rfB (bA s p) part:=by
 by_cases hl:part.length=p.length
 ·have h1:=pD (row:=part) (p:=p) (a:=0) (by omega)
  have h2:seg part 0 p.length=part:=by unfold seg;rw[List.drop_zero,← hl,List.take_length]
  have h3:=vN (row:=part) (a:=0) (n:=p.length) (by omega) hp.ge
  rw[h2] at h1 h3
  rw[tG (by rw[eY,hl]),hl]
  unfold fit
  rw[decide_eq_true hl,Bool.true_and,h1,h3,Bool.eq_iff_iff,Bool.and_eq_true,List.all_eq_true,List.all_eq_true]
  have hge:=hp.ge
  constructor
  ·rintro ⟨q1,q2⟩ k hk
   have hk':=List.mem_range.mp hk
   unfold y_
   rw[lG s p hk']
   have:=q1 k hk
   rw[Nat.zero_add] at this
   simp only[this,Bool.true_and]
   by_cases hke:k+1=p.length
   ·have:0+p.length - 1=k:=by omega
    rw[this] at q2
    cases hc:s.2 <;> simp_all
   ·simp[hke]
  ·intro q
   refine⟨λk hk=>?_,?_⟩
   ·have:=q k hk
    unfold y_ at this
    rw[lG s p (List.mem_range.mp hk),Bool.and_eq_true] at this
    rw[Nat.zero_add]
    exact this.1
   ·have:=q (p.length - 1) (List.mem_range.mpr (by omega))
    unfold y_ at this
    rw[lG s p (by omega),Bool.and_eq_true] at this
    have h4:p.length - 1+1=p.length:=by omega
    have h5:0+p.length - 1=p.length - 1:=by omega
    rw[h5]
    cases hc:s.2 with
    | false=>simp
    | true=>
     have h6:=this.2
     simp only[hc,h4,decide_true,Bool.and_self,Bool.not_true,Bool.false_or] at h6
     rw[h6]
     rfl
 ·rw[Ln (by rw[eY];exact λz=>hl z.symm)]
  unfold fit
  rw[decide_eq_false hl,Bool.false_and]
end My
namespace My
open PySem L2 MR
theorem Lp (a b c d e f:Int):eqP (.tup [.int a,.int b,.int c]) (.tup [.int d,.int e,.int f])=some (decide (a=d/\b=e/\c=f)):=by
 have h1:∀ x y z:Int,SeqAt.shaped (.tuple [.int x,.int y,.int z])=true:=λx y z=>by
  simp[SeqAt.shaped,PyData.canLay0,PyData.canLayAll0,PyData.depth,PyData.depthAll]
 simp[eqP,eqS,eqD,toD,dF,h1,PyData.eqv,PyData.eqvAll,Bool.decide_and]
 rfl
def stP (a b c:Nat):PV:=.tup [.int a,.int b,.int c]
def bhS (s:Slot) (slot k i:Nat) (p:Str) (ends:Bool):PV:=if i+1 < p.length then stP slot k (i+1) else if (s.2&&!ends)=true then .non else stP (slot+1) 0 0
theorem xP {m:List Slot}{slot:Nat}{s:Slot}(h:m[slot]?=some s):atI (m.map slP) (slot:Int)=some (slP s):=cj (by simp[h])
theorem Bj {s:Slot}{k:Nat}{p:Str}(h:s.1[k]?=some p):atI (s.1.map PV.str) (k:Int)=some (.str p):=cj (by simp[h])
theorem Bk {m:List Slot}{slot k i:Nat}{s:Slot}{p:Str}{ends:Bool}(hs:m[slot]?=some s) (hp:s.1[k]?=some p) (ok:PatOk p):
  c7 [mP m,stP slot k i,.bl ends]=some (bhS s slot k i p ends):=by
 have h1:=xP hs
 have h2:=Bj hp
 have h3:p.length<=1000000:=by have:=ok.le;omega
 have h4:((i:Int)+1 < (p.length:Int))↔i+1 < p.length:=by omega
 unfold bhS
 by_cases h5:i+1 < p.length
 ·simp[c7,iu,mP,stP,h1,slP,h2,h3,h4,h5]
 ·have h6:(if i+1 < p.length then stP slot k (i+1) else if (s.2&&!ends)=true then PV.non else stP (slot+1) 0 0)=(if (s.2&&!ends)=true then PV.non else stP (slot+1) 0 0):=if_neg h5
  rw[h6]
  cases hc:s.2 <;> cases ends <;> simp[c7,iu,mP,stP,h1,slP,h2,h3,h4,h5,hc]
def mvK (s:Slot) (slot i:Nat) (mark:Str) (ends:Bool) (k:Nat):List PV:=
 if stands (dH (s.1.getD k ⟨#[]⟩) i) mark=true/\oh (bhS s slot k i (s.1.getD k ⟨#[]⟩) ends)=false then [.tup [.int k,bhS s slot k i (s.1.getD k ⟨#[]⟩) ends]] else []
theorem rW {s:Slot}{k:Nat}{p:Str}(h:s.1[k]?=some p):s.1.getD k ⟨#[]⟩=p:=by rw[List.getD_eq_getElem?_getD,h];rfl
theorem DR (s:Slot) (slot k i:Nat) (p:Str) (ends:Bool):(bhS s slot k i p ends=.non/\¬ i+1 < p.length/\s.2=true/\ends=false)\/(∃ a b c:Nat,bhS s slot k i p ends=stP a b c/\((i+1 < p.length/\a=slot/\b=k/\c=i+1)\/(¬ i+1 < p.length/\(s.2=false\/ends=true)/\a=slot+1/\b=0/\c=0))):=by
 unfold bhS
 by_cases h:i+1 < p.length
 ·exact .inr ⟨_,_,_,if_pos h,.inl ⟨h,rfl,rfl,rfl⟩⟩
 ·rw[if_neg h]
  by_cases h':(s.2&&!ends)=true
  ·rw[if_pos h']
   simp at h'
   exact .inl ⟨rfl,h,h'.1,h'.2⟩
  ·rw[if_neg h']
   refine .inr ⟨_,_,_,rfl,.inr ⟨h,?_,rfl,rfl,rfl⟩⟩
   cases hs:s.2 <;> cases ends <;> simp_all
theorem Hv {m:List Slot}{slot k i:Nat}{s:Slot}{p mark:Str}{ends:Bool}{S N:PV}{L:List PV}(hs:m[slot]?=some s) (hp:s.1[k]?=some p) (ok:PatOk p) (hi:i < p.length) (hL:L.length < 1000):
  turn (gN 9) [9,10] dm (.int k) [some (mP m),some S,some (.str mark),some (.bl ends),some (.int slot),some (.int i),some (.tup (s.1.map .str)),some N,some (.lst L),none,none]=
   some [some (mP m),some S,some (.str mark),some (.bl ends),some (.int slot),some (.int i),some (.tup (s.1.map .str)),some N,some (.lst (L++mvK s slot i mark ends k)),none,none]:=by
 have h1:=Bk (i:=i) (ends:=ends) hs hp ok
 have h2:=Bj hp
 have h3:p.length<=1000000:=by have:=ok.le;omega
 have h4:=vL hi
 have h5:=Bb (dH p i) mark
 have hl:L.length < 1000000:=by omega
 unfold dH at h5
 unfold mvK
 rw[rW hp]
 rcases DR s slot k i p ends with ⟨e,_⟩ | ⟨a,b,c,e,_⟩
 ·rw[e] at h1
  simp only[stP] at h1
  simp[aR,dm,h1,e]
 ·rw[e] at h1 ⊢
  simp only[stP] at h1
  unfold dH
  cases hq:stands ⟨#[p.cps.toList.getD i 0]⟩ mark with
  | true=>
   rw[hq] at h5
   simp[aR,dm,h1,h2,h3,h4,h5,hl,stP,-List.getD_eq_getElem?_getD]
  | false=>
   rw[hq] at h5
   simp[aR,dm,h1,h2,h3,h4,h5,hl,stP,-List.getD_eq_getElem?_getD]
theorem Hw (s:Slot) (slot i:Nat) (mark:Str) (ends:Bool) (k:Nat):(mvK s slot i mark ends k).length<=1:=by unfold mvK;split <;> simp
theorem xQ {m:List Slot}{slot i:Nat}{s:Slot}{mark:Str}{ends:Bool}{S N:PV}(hs:m[slot]?=some s) (ok:PatsOk s.1) (ks:List Nat) (hk:∀ k∈ks,∃ p,s.1[k]?=some p/\i < p.length) (hl:ks.length < 1000):
  bK (gN 9) [9,10] dm (ks.map λk=>PV.int (k:Nat)) [some (mP m),some S,some (.str mark),some (.bl ends),some (.int slot),some (.int i),some (.tup (s.1.map .str)),some N,some (.lst []),none,none]=
   some (.nx [some (mP m),some S,some (.str mark),some (.bl ends),some (.int slot),some (.int i),some (.tup (s.1.map .str)),some N,some (.lst (ks.flatMap (mvK s slot i mark ends))),none,none]):=by
 obtain⟨L,⟨d,e1,e2,_⟩,h⟩:=bH (g:=gN 9) (ds:=[9,10]) (body:=dm) (λk:Nat=>PV.int (k:Nat))
  (λL:List PV=>[some (mP m),some S,some (.str mark),some (.bl ends),some (.int slot),some (.int i),some (.tup (s.1.map .str)),some N,some (.lst L),none,none])
  (λr L=>∃ d,ks=d++r/\L=d.flatMap (mvK s slot i mark ends)/\L.length<=d.length)
  (λk r L ⟨d,e1,e2,e3⟩=>by
   obtain⟨p,hp,hi⟩:=hk k (by rw[e1];simp)
   have hd:d.length < 1000:=by have:=congrArg List.length e1;simp at this;omega
   have hm:p∈s.1:=List.mem_of_getElem? hp
   refine⟨L++mvK s slot i mark ends k,⟨d++[k],by rw[e1];simp,by rw[e2];simp,?_⟩,Hv hs hp (ok.ok p hm) hi (by omega)⟩
   have:=Hw s slot i mark ends k
   simp;omega)
  ks [] ⟨[],rfl,rfl,Nat.le_refl _⟩
 rw[List.append_nil] at e1
 subst e1 e2
 exact h
structure StOk (m:List Slot) (slot pat i:Nat):Prop where
 le:slot<=m.length
 fin:slot=m.length->pat=0/\i=0
 mid:∀ s,m[slot]?=some s->(i=0/\pat=0)\/∃ p,s.1[pat]?=some p/\0 < i/\i < p.length
def mvs (m:List Slot) (slot pat i:Nat) (mark:Str) (ends:Bool):List PV:=match m[slot]? with
 | none=>[]
 | some s=>if i=0 then (List.range s.1.length).flatMap (mvK s slot i mark ends) else mvK s slot i mark ends pat
theorem DW {m:List Slot}(hm:cz m) (hl:m.length < 1000){slot pat i:Nat}(st:StOk m slot pat i) (mark:Str) (ends:Bool):
  dJ [mP m,stP slot pat i,.str mark,.bl ends]=some (.lst (mvs m slot pat i mark ends)):=by
 have he:cF [mP m]=some (.tup [.int m.length,.int 0,.int 0]):=by simp[cF,jU,mP]
 have hq:=Lp slot pat i m.length 0 0
 unfold mvs
 by_cases hf:slot=m.length
 ·obtain⟨rfl,rfl⟩:=st.fin hf
  subst hf
  have:m[m.length]?=none:=by simp
  rw[this]
  simp at hq
  simp[dJ,jc,he,stP,hq]
 ·have hlt:slot < m.length:=by have:=st.le;omega
  obtain⟨s,hs⟩:∃ s,m[slot]?=some s:=⟨m[slot],List.getElem?_eq_getElem hlt⟩
  rw[hs]
  have hne:¬ ((slot:Int)=m.length/\(pat:Int)=0/\(i:Int)=0):=λz=>hf (by omega)
  rw[decide_eq_false hne] at hq
  have ok:=hm s (List.mem_of_getElem? hs)
  have h1:=xP hs
  by_cases hi:i=0
  ·subst hi
   have lp:=xQ (S:=stP slot pat 0) (N:=.lst ((List.range s.1.length).map λk=>PV.int (k:Nat))) (mark:=mark) (ends:=ends) (i:=0) hs ok (List.range s.1.length) (λk hk=>by
    have hk':=List.mem_range.mp hk
    have:=(ok.ok _ (List.getElem_mem hk')).ge
    exact⟨s.1[k],List.getElem?_eq_getElem hk',by omega⟩) (by have:=ok.le;simp;omega)
   have hr:=cD s.1.length
   have hb:0<=(s.1.length:Int)/\(s.1.length:Int)<=1000000:=by have:=ok.le;omega
   simp only[if_true]
   have e1:mP m=.tup (m.map slP):=rfl
   have e2:stP slot pat 0=.tup [.int slot,.int pat,.int 0]:=rfl
   rw[e1,e2] at lp ⊢
   rw[e1] at he
   simp at hq lp
   simp[dJ,jc,he,hq,h1,slP,hr,hb,itV,lp]
  ·rcases st.mid s hs with z | ⟨p,hp,hp1,hp2⟩
   ·exact absurd z.1 hi
   ·have lp:=xQ (S:=stP slot pat i) (N:=.lst [.int pat]) (mark:=mark) (ends:=ends) (i:=i) hs ok [pat] (λk hk=>by
     rw[List.mem_singleton] at hk
     subst hk
     exact⟨p,hp,hp2⟩) (by simp)
    simp only[if_neg hi]
    have e1:mP m=.tup (m.map slP):=rfl
    have e2:stP slot pat i=.tup [.int slot,.int pat,.int i]:=rfl
    rw[e1,e2] at lp ⊢
    rw[e1] at he
    have hi':¬ (i:Int)=0:=by omega
    simp at lp
    simp[dJ,jc,he,hq,h1,slP,itV,lp,hi,hi']
end My
namespace My
open PySem L2 MR
abbrev Sta:=Nat×Nat×Nat
def bhT (s:Slot) (slot k i:Nat) (p:Str) (ends:Bool):Option Sta:=if i+1 < p.length then some (slot,k,i+1) else if (s.2&&!ends)=true then none else some (slot+1,0,0)
def mvT (s:Slot) (slot i:Nat) (mark:Str) (ends:Bool) (k:Nat):List (Nat×Sta):=
 if stands (dH (s.1.getD k ⟨#[]⟩) i) mark=true then (bhT s slot k i (s.1.getD k ⟨#[]⟩) ends).toList.map λt=>(k,t) else []
def dY (m:List Slot) (t:Sta) (mark:Str) (ends:Bool):List (Nat×Sta):=match m[t.1]? with
 | none=>[]
 | some s=>if t.2.2=0 then (List.range s.1.length).flatMap (mvT s t.1 0 mark ends) else mvT s t.1 t.2.2 mark ends t.2.1
def mids (j k:Nat) (p:Str):List Sta:=(List.range (p.length - 1)).map λi=>(j,k,1+i)
def iU (j:Nat) (s:Slot):List Sta:=(j,0,0)::s.1.zipIdx.flatMap λy=>mids j y.2 y.1
def sts (m:List Slot):List Sta:=m.zipIdx.flatMap λy=>iU y.2 y.1
def stp (m:List Slot) (mark:Str) (e:Bool):List (Sta×Sta):=(sts m).flatMap λt=>(dY m t mark e).map λy=>(t,y.2)
def opM (m:List Slot) (o:Nat) (e:Bool) (f:Sta->Int) (t:Sta):Int:=if o=3 then f t else ((stp m (bN o) e).map λy=>if y.1=t then f y.2 else 0).sum
def opr (m:List Slot) (x:List Nat×Bool) (f:Sta->Int) (t:Sta):Int:=(x.1.map λo=>opM m o x.2 f t).sum
def fin (m:List Slot) (t:Sta):Int:=if t=(m.length,0,0) then 1 else 0
def cnt (m:List Slot) (O:List (List Nat×Bool)):Sta->Int:=O.foldr (opr m) (fin m)
theorem cnt_nil (m:List Slot):cnt m []=fin m:=rfl
theorem cnt_cons (m:List Slot) (x:List Nat×Bool) (O:List (List Nat×Bool)):cnt m (x::O)=opr m x (cnt m O):=rfl
theorem rY {α:Type}(f g:α->Int):∀ l:List α,(l.map λa=>f a+g a).sum=(l.map f).sum+(l.map g).sum
 | []=>rfl
 | a::l=>by simp only[List.map_cons,List.sum_cons,rY f g l];omega
theorem jX {α:Type}:∀ l:List α,(l.map λ_=>(0:Int)).sum=0
 | []=>rfl
 | _::l=>by simp[jX l]
theorem oU {α:Type}{f:α->Int}:∀ {l:List α},(∀ a∈l,0<=f a)->0<=(l.map f).sum
 | [],_=>Int.le_refl _
 | a::l,h=>by
  have h1:=h a List.mem_cons_self
  have h2:=oU (f:=f) (l:=l) λb hb=>h b (List.mem_cons_of_mem _ hb)
  simp only[List.map_cons,List.sum_cons];omega
theorem Bl {α:Type}{f g:α->Int}:∀ {l:List α},(∀ a∈l,f a<=g a)->(l.map f).sum<=(l.map g).sum
 | [],_=>Int.le_refl _
 | a::l,h=>by
  have h1:=h a List.mem_cons_self
  have h2:=Bl (f:=f) (g:=g) (l:=l) λb hb=>h b (List.mem_cons_of_mem _ hb)
  simp only[List.map_cons,List.sum_cons];omega
theorem vQ {α:Type}{f:α->Int}{a:α}:∀ {l:List α},(∀ a∈l,0<=f a)->a∈l->f a<=(l.map f).sum
 | b::l,h,ha=>by
  have h1:=h b List.mem_cons_self
  have h2:=oU (f:=f) (l:=l) λb hb=>h b (List.mem_cons_of_mem _ hb)
  simp only[List.map_cons,List.sum_cons]
  rcases List.mem_cons.mp ha with rfl | ha
  ·omega
  ·have:=vQ (f:=f) (l:=l) (λb hb=>h b (List.mem_cons_of_mem _ hb)) ha
   omega
theorem Hx (m:List Slot) (o:Nat) (e:Bool) (f g:Sta->Int) (t:Sta):opM m o e (λt=>f t+g t) t=opM m o e f t+opM m o e g t:=by
 unfold opM
 split
 ·rfl
 ·rw[← rY]
  congr 1
  refine List.map_congr_left λy _=>?_
  split <;> simp
theorem DX (m:List Slot) (o:Nat) (e:Bool) (t:Sta):opM m o e (λ_=>0) t=0:=by
 unfold opM
 split
 ·rfl
 ·have:(λy:Sta×Sta=>if y.1=t then (0:Int) else 0)=λ_=>0:=by funext y;split <;> rfl
  rw[this,jX]
theorem Hy (m:List Slot) (x:List Nat×Bool) (f g:Sta->Int) (t:Sta):opr m x (λt=>f t+g t) t=opr m x f t+opr m x g t:=by
 unfold opr
 rw[← rY]
 congr 1
 exact List.map_congr_left λo _=>Hx m o x.2 f g t
theorem DY (m:List Slot) (x:List Nat×Bool) (t:Sta):opr m x (λ_=>0) t=0:=by
 unfold opr
 have:(λo=>opM m o x.2 (λ_=>0) t)=λ_=>(0:Int):=by funext o;exact DX m o x.2 t
 rw[this,jX]
theorem xR (m:List Slot) (x:List Nat×Bool){α:Type}(F:α->Sta->Int) (t:Sta):∀ L:List α,opr m x (λt=>(L.map λo=>F o t).sum) t=(L.map λo=>opr m x (F o) t).sum
 | []=>DY m x t
 | a::L=>by
  have e:(λt=>((a::L).map λo=>F o t).sum)=λt=>F a t+(L.map λo=>F o t).sum:=by funext t;simp
  rw[e,Hy,xR m x F t L]
  simp
theorem Bm {m:List Slot}{o:Nat}{e:Bool}{f:Sta->Int}(h:∀ t,0<=f t) (t:Sta):0<=opM m o e f t:=by
 unfold opM
 split
 ·exact h t
 ·exact oU λy _=>by split;exact h _;exact Int.le_refl _
theorem Lq {m:List Slot}{o:Nat}{e:Bool}{f g:Sta->Int}(h:∀ t,f t<=g t) (t:Sta):opM m o e f t<=opM m o e g t:=by
 unfold opM
 split
 ·exact h t
 ·exact Bl λy _=>by split;exact h _;exact Int.le_refl _
theorem Bo (m:List Slot):∀ (O:List (List Nat×Bool)) (t:Sta),0<=cnt m O t
 | [],t=>by rw[cnt_nil];unfold fin;split <;> omega
 | x::O,t=>by rw[cnt_cons];exact oU λo _=>Bm (Bo m O) t
theorem xT {m:List Slot}:∀ {O:List (List Nat)}{S:List Nat}{es:List Bool},cN O S=true->∀ t,cnt m ((S.map λi=>[i]).zip es) t<=cnt m (O.zip es) t
 | [],[],es,_,t=>by simp
 | is::O,i::S,[],_,t=>by simp
 | is::O,i::S,e::es,h,t=>by
  simp only[cN,Bool.and_eq_true,decide_eq_true_eq] at h
  rw[List.map_cons,List.zip_cons_cons,List.zip_cons_cons,cnt_cons,cnt_cons]
  have h1:opr m ([i],e) (cnt m ((S.map λi=>[i]).zip es)) t=opM m i e (cnt m ((S.map λi=>[i]).zip es)) t:=by simp[opr]
  rw[h1]
  refine Int.le_trans (Lq (xT h.2) t) ?_
  exact vQ (f:=λo=>opM m o e (cnt m (O.zip es)) t) (λo _=>Bm (Bo m _) t) h.1
 | [],_::_,_,h,_=>by simp[cN] at h
 | _::_,[],_,h,_=>by simp[cN] at h
end My
namespace My
open PySem L2 MR
theorem mem_mids {j k:Nat}{p:Str}{t:Sta}:t∈mids j k p↔∃ i,1<=i/\i < p.length/\t=(j,k,i):=by
 unfold mids
 rw[List.mem_map]
 constructor
 ·rintro ⟨i,hi,rfl⟩
  rw[List.mem_range] at hi
  exact⟨1+i,by omega,by omega,rfl⟩
 ·rintro ⟨i,h1,h2,rfl⟩
  exact⟨i - 1,by rw[List.mem_range];omega,by rw[show 1+(i - 1)=i by omega]⟩
theorem mem_stsS {j:Nat}{s:Slot}{t:Sta}:t∈iU j s↔t=(j,0,0)\/∃ k p i,s.1[k]?=some p/\1<=i/\i < p.length/\t=(j,k,i):=by
 unfold iU
 rw[List.mem_cons,List.mem_flatMap]
 refine or_congr Iff.rfl ⟨?_,?_⟩
 ·rintro ⟨⟨p,k⟩,hy,ht⟩
  obtain⟨i,h1,h2,rfl⟩:=mem_mids.mp ht
  exact⟨k,p,i,by simpa using List.mem_zipIdx_iff_getElem?.mp hy,h1,h2,rfl⟩
 ·rintro ⟨k,p,i,hk,h1,h2,rfl⟩
  exact⟨(p,k),List.mem_zipIdx_iff_getElem?.mpr hk,mem_mids.mpr ⟨i,h1,h2,rfl⟩⟩
theorem mem_sts {m:List Slot}{t:Sta}:t∈sts m↔∃ s,m[t.1]?=some s/\(t.2=(0,0)\/∃ p,s.1[t.2.1]?=some p/\1<=t.2.2/\t.2.2 < p.length):=by
 unfold sts
 rw[List.mem_flatMap]
 constructor
 ·rintro ⟨⟨s,j⟩,hy,ht⟩
  have hj:m[j]?=some s:=by simpa using List.mem_zipIdx_iff_getElem?.mp hy
  rcases mem_stsS.mp ht with rfl | ⟨k,p,i,hk,h1,h2,rfl⟩
  ·exact⟨s,hj,.inl rfl⟩
  ·exact⟨s,hj,.inr ⟨p,hk,h1,h2⟩⟩
 ·rintro ⟨s,hs,h⟩
  obtain⟨j,k,i⟩:=t
  refine⟨(s,j),List.mem_zipIdx_iff_getElem?.mpr hs,mem_stsS.mpr ?_⟩
  rcases h with h | ⟨p,h1,h2,h3⟩
  ·cases h;exact .inl rfl
  ·exact .inr ⟨k,p,i,h1,h2,h3,rfl⟩
theorem Hz (j k:Nat) (p:Str):(mids j k p).Nodup:=by
 unfold mids
 rw[List.nodup_iff_pairwise_ne,List.pairwise_map]
 refine(List.nodup_iff_pairwise_ne.mp List.nodup_range).imp λh e=>h ?_
 have:=congrArg (λt:Sta=>t.2.2) e
 simp at this
 exact this
theorem rZ {α β:Type}(f:α->Nat->List β) (c:β->Nat):∀ (l:List α) (k:Nat),(∀ a n,(f a n).Nodup)->(∀ a n b,b∈f a n->c b=n)->((l.zipIdx k).flatMap λy=>f y.1 y.2).Nodup
 | [],k,_,_=>by simp
 | a::l,k,h1,h2=>by
  rw[List.zipIdx_cons,List.flatMap_cons,List.nodup_append]
  refine⟨h1 a k,rZ f c l (k+1) h1 h2,λx hx y hy e=>?_⟩
  subst e
  obtain⟨⟨a',n⟩,hz,hb⟩:=List.mem_flatMap.mp hy
  have h3:=h2 _ _ _ hx
  have h4:=h2 _ _ _ hb
  have h5:=List.mem_zipIdx hz
  dsimp only at h4 h5
  omega
theorem HB (j:Nat) (s:Slot):(iU j s).Nodup:=by
 unfold iU
 rw[List.nodup_cons]
 refine⟨λh=>?_,rZ (λp k=>mids j k p) (λt=>t.2.1) s.1 0 (λp k=>Hz j k p) λp k t ht=>by obtain⟨i,_,_,rfl⟩:=mem_mids.mp ht;rfl⟩
 obtain⟨y,_,ht⟩:=List.mem_flatMap.mp h
 obtain⟨i,h1,_,e⟩:=mem_mids.mp ht
 have:=congrArg (λt:Sta=>t.2.2) e
 simp at this
 omega
theorem Lr (m:List Slot):(sts m).Nodup:=rZ (λs j=>iU j s) (λt=>t.1) m 0 (λs j=>HB j s) λs j t ht=>by
 rcases mem_stsS.mp ht with rfl | ⟨k,p,i,_,_,_,rfl⟩ <;> rfl
theorem pZ {f:Sta->Int}{t:Sta}:∀ {l:List Sta},l.Nodup->(l.map λu=>if u=t then f u else 0).sum=if t∈l then f t else 0
 | [],_=>by simp
 | a::l,h=>by
  rw[List.nodup_cons] at h
  rw[List.map_cons,List.sum_cons,pZ h.2]
  by_cases e:a=t
  ·subst e;simp[h.1]
  ·have:¬ t=a:=λz=>e z.symm
   simp[e,this]
theorem m7 {α β:Type}(f:α->List β) (g:β->Int):∀ l:List α,((l.flatMap f).map g).sum=(l.map λa=>((f a).map g).sum).sum
 | []=>rfl
 | a::l=>by simp[List.flatMap_cons,m7 f g l]
theorem Bp {m:List Slot}{o:Nat}{e:Bool}{f:Sta->Int}{t:Sta}(h:o≠3):opM m o e f t=if t∈sts m then ((dY m t (bN o) e).map λy=>f y.2).sum else 0:=by
 unfold opM stp
 rw[if_neg h,m7]
 have e1:(λa:Sta=>(((dY m a (bN o) e).map λy=>(a,y.2)).map λy=>if y.1=t then f y.2 else 0).sum)=λa=>if a=t then ((dY m a (bN o) e).map λy=>f y.2).sum else 0:=by
  funext a
  rw[List.map_map]
  by_cases q:a=t
  ·subst q;simp[Function.comp_def]
  ·simp only[Function.comp_def,if_neg q];exact jX _
 rw[e1,pZ (f:=λa=>((dY m a (bN o) e).map λy=>f y.2).sum) (Lr m)]
def cs (m:List Slot):List Sg->Sta->Int
 | [],t=>fin m t
 | b::R,t=>if t∈sts m then ((dY m t b.1 b.2).map λy=>cs m R y.2).sum else 0
theorem Bq {m:List Slot}:∀ (S:List Nat) (es:List Bool) (t:Sta),cnt m ((S.map λi=>[i]).zip es) t=cs m (cG S es) t
 | [],es,t=>by simp[cG,cs,cnt_nil]
 | i::S,[],t=>by simp[cG,cs,cnt_nil]
 | i::S,e::es,t=>by
  rw[List.map_cons,List.zip_cons_cons,cnt_cons]
  have h1:opr m ([i],e) (cnt m ((S.map λi=>[i]).zip es)) t=opM m i e (cnt m ((S.map λi=>[i]).zip es)) t:=by simp[opr]
  have h2:cnt m ((S.map λi=>[i]).zip es)=cs m (cG S es):=by funext u;exact Bq S es u
  rw[h1,h2]
  by_cases h3:i=3
  ·subst h3
   have:cG (3::S) (e::es)=cG S es:=by simp[cG]
   rw[this];simp[opM]
  ·have:cG (i::S) (e::es)=(bN i,e)::cG S es:=by simp[cG,h3]
   rw[this,Bp h3]
   rfl
def pwA (m:List Slot) (j:Nat):List Sg->List Sg->Int
 | [],R=>cs m R (j+1,0,0)
 | _::_,[]=>0
 | a::A,b::R=>if (stands a.1 b.1&&(!a.2||b.2))=true then pwA m j A R else 0
theorem Br {m:List Slot}{j:Nat}:∀ (A R:List Sg),pwA m j A R=if rfB A (R.take A.length)=true then cs m (R.drop A.length) (j+1,0,0) else 0
 | [],R=>by simp[pwA,rfB]
 | a::A,[]=>by simp[pwA,rfB]
 | a::A,b::R=>by
  rw[pwA,Br A R]
  cases h:(stands a.1 b.1&&(!a.2||b.2)) <;> simp[rfB,h]
theorem lH (s:Slot) (p:Str){i:Nat}(h:i < p.length):(bA s p).drop i=(dH p i,s.2&&decide (i+1=p.length))::(bA s p).drop (i+1):=by
 have hl:i < (bA s p).length:=by rw[eY];exact h
 rw[List.drop_eq_getElem_cons hl]
 congr 1
 simp[bA]
theorem vR {m:List Slot}{j k i:Nat}{s:Slot}{p:Str}{b:Sg}{R:List Sg}(hk:s.1[k]?=some p) (hi:i < p.length) (ih:i+1 < p.length->cs m R (j,k,i+1)=pwA m j ((bA s p).drop (i+1)) R):
  ((mvT s j i b.1 b.2 k).map λy=>cs m R y.2).sum=pwA m j ((bA s p).drop i) (b::R):=by
 rw[lH s p hi,pwA]
 unfold mvT bhT
 rw[rW hk]
 cases hst:stands (dH p i) b.1 with
 | false=>simp
 | true=>
  by_cases hlt:i+1 < p.length
  ·have:¬ i+1=p.length:=by omega
   simp[hlt,this,ih hlt]
  ·have he:i+1=p.length:=by omega
   have hd:(bA s p).drop (i+1)=[]:=by rw[List.drop_eq_nil_iff,eY];omega
   rw[hd]
   cases hc:s.2 <;> cases hb:b.2 <;> simp[he,pwA]
theorem Bt {m:List Slot}{j k:Nat}{s:Slot}{p:Str}(hs:m[j]?=some s) (hk:s.1[k]?=some p):∀ (R:List Sg) (i:Nat),1<=i->i < p.length->cs m R (j,k,i)=pwA m j ((bA s p).drop i) R
 | [],i,h1,h2=>by
  rw[lH s p h2,pwA,cs,fin,if_neg]
  intro z
  have:=congrArg (λt:Sta=>t.2.2) z
  simp at this
  omega
 | b::R,i,h1,h2=>by
  rw[cs,if_pos (mem_sts.mpr ⟨s,hs,.inr ⟨p,hk,h1,h2⟩⟩)]
  unfold dY
  rw[hs]
  dsimp only
  rw[if_neg (by omega)]
  exact vR hk h2 λh3=>Bt hs hk R (i+1) (by omega) h3
theorem xU {m:List Slot}{j:Nat}{s:Slot}(hs:m[j]?=some s) (ok:PatsOk s.1) (R:List Sg):cs m R (j,0,0)=(s.1.map λp=>if fit p s.2 (R.take p.length)=true then cs m (R.drop p.length) (j+1,0,0) else 0).sum:=by
 have e0:∀ p∈s.1,(if fit p s.2 (R.take p.length)=true then cs m (R.drop p.length) (j+1,0,0) else 0)=pwA m j (bA s p) R:=λp hp=>by
  rw[Br,Bh (ok.ok p hp),eY]
 rw[List.map_congr_left e0]
 have hj:j < m.length:=(List.getElem?_eq_some_iff.mp hs).1
 cases R with
 | nil=>
  rw[cs,fin,if_neg (λz=>by have:=congrArg (λt:Sta=>t.1) z;simp at this;omega)]
  have e1:∀ p∈s.1,pwA m j (bA s p) []=0:=λp hp=>by
   have h:=(ok.ok p hp).ge
   have:=lH s p (i:=0) (by omega)
   rw[List.drop_zero] at this
   rw[this,pwA]
  rw[List.map_congr_left e1,jX]
 | cons b R=>
  rw[cs,if_pos (mem_sts.mpr ⟨s,hs,.inl rfl⟩)]
  unfold dY
  rw[hs]
  dsimp only
  rw[if_pos rfl,m7]
  have e2:s.1=(List.range s.1.length).map λk=>s.1.getD k ⟨#[]⟩:=by
   refine List.ext_getElem? λi=>?_
   by_cases h:i < s.1.length
   ·simp[h]
   ·simp[h]
  conv=>rhs;rw[e2]
  rw[List.map_map]
  congr 1
  refine List.map_congr_left λk hk=>?_
  rw[List.mem_range] at hk
  have hp:s.1[k]?=some (s.1.getD k ⟨#[]⟩):=by rw[List.getD_eq_getElem?_getD,List.getElem?_eq_getElem hk];rfl
  have okp:=ok.ok _ (List.mem_of_getElem? hp)
  have:=vR (m:=m) (j:=j) (b:=b) (R:=R) hp (i:=0) (by have:=okp.ge;omega) λh=>Bt hs hp R 1 (by omega) h
  rw[List.drop_zero] at this
  exact this
theorem Bu {m:List Slot}(R:List Sg):cs m R (m.length,0,0)=if R=[] then 1 else 0:=by
 cases R with
 | nil=>simp[cs,fin]
 | cons b R=>
  rw[cs,if_neg (λz=>by obtain⟨s,h,_⟩:=mem_sts.mp z;simp at h)]
  simp
theorem xV {m:List Slot}(hm:cz m){R:List Sg}:∀ (n j a:Nat),m.length - j=n->j<=m.length->a<=R.length->cs m (R.drop a) (j,0,0)=ways R (m.drop j) a
 | 0,j,a,h,hj,ha=>by
  have e:j=m.length:=by omega
  subst e
  rw[Bu,List.drop_length]
  unfold ways
  have:R.drop a=[]↔a=R.length:=by rw[List.drop_eq_nil_iff];omega
  simp[this]
 | n+1,j,a,h,hj,ha=>by
  have hlt:j < m.length:=by omega
  have hs:m[j]?=some m[j]:=List.getElem?_eq_getElem hlt
  have ok:=hm _ (List.getElem_mem hlt)
  rw[xU hs ok,List.drop_eq_getElem_cons hlt]
  unfold ways
  congr 1
  refine List.map_congr_left λp hp=>?_
  show (if fit p m[j].2 ((R.drop a).take p.length)=true then _ else _)=if fit p m[j].2 (seg R a p.length)=true then _ else _
  by_cases hf:fit p m[j].2 (seg R a p.length)=true
  ·have hle:=fit_le (ok.ok p hp) hf
   rw[if_pos hf,if_pos (show fit p m[j].2 ((R.drop a).take p.length)=true from hf),List.drop_drop]
   exact xV hm n (j+1) (a+p.length) (by omega) hlt hle
  ·rw[if_neg hf,if_neg (show ¬ fit p m[j].2 ((R.drop a).take p.length)=true from hf)]
theorem HD {m:List Slot}(hm:cz m) (R:List Sg):cs m R (0,0,0)=ways R m 0:=by
 have:=xV hm (R:=R) m.length 0 0 rfl (Nat.zero_le _) (Nat.zero_le _)
 simpa using this
end My
namespace My
open PySem L2 MR
def bj (t:Sta):PV:=stP t.1 t.2.1 t.2.2
def dI (y:Sta×Sta):PV:=.tup [bj y.1,bj y.2]
def mvP (y:Nat×Sta):PV:=.tup [.int (y.1:Nat),bj y.2]
theorem Fw (s:Slot) (slot i:Nat) (mark:Str) (ends:Bool) (k:Nat):mvK s slot i mark ends k=(mvT s slot i mark ends k).map mvP:=by
 unfold mvK mvT bhS bhT
 generalize s.1.getD k ⟨#[]⟩=p
 cases h1:stands (dH p i) mark <;> by_cases h2:i+1 < p.length <;> cases h3:(s.2&&!ends) <;> simp[h2,mvP,bj,stP]
theorem N_ (m:List Slot) (t:Sta) (mark:Str) (ends:Bool):mvs m t.1 t.2.1 t.2.2 mark ends=(dY m t mark ends).map mvP:=by
 unfold mvs dY
 split
 ·rename_i h;(try simp only[h]);rfl
 ·rename_i s h
  try simp only[h]
  split
  ·rename_i h0
   rw[h0,List.map_flatMap]
   congr 1
   funext k
   exact Fw s t.1 0 mark ends k
  ·exact Fw s t.1 t.2.2 mark ends t.2.1
theorem p6 (j k:Nat) (p:Str):(mids j k p).length=p.length - 1:=by simp[mids]
theorem D_ {M:PV}{j:Nat}{s:Slot}{y:Str×Nat}{L:List Sta}(ok:PatOk y.1) (hL:L.length < 9000):
  turn (gT [4,5]) [4,5] fG (.tup [.int (y.2:Nat),.str y.1]) [some M,some (.lst (L.map bj)),some (.int j),some (slP s),none,none]=some [some M,some (.lst ((L++mids j y.2 y.1).map bj)),some (.int j),some (slP s),none,none]:=by
 obtain⟨p,k⟩:=y
 have ok:PatOk p:=ok
 have h1:rgI ((p.length:Nat):Int)=true:=fC (by omega) (by have:=ok.le;omega)
 have h0:rgI 1=true:=fC (by omega) (by omega)
 have h2:cY [none,some (.int j),some (.int k)] (gN 0) fM iJ (cg 1 (p.length:Int))=some ((mids j k p).map bj):=by
  have e:cg 1 (p.length:Int)=(List.range (p.length - 1)).map λi=>PV.int (1+(i:Nat)):=by
   unfold cg
   have:((p.length:Int) - 1).toNat=p.length - 1:=by omega
   rw[this]
  rw[e]
  unfold mids
  rw[List.map_map]
  exact gY _ _ _ λi _=>⟨[some (.int (1+(i:Nat))),some (.int j),some (.int k)],rfl,by simp[iJ,bj,stP]⟩
 have h3:p.length<=1000000:=by have:=ok.le;omega
 have h4:(cg 1 (p.length:Int)).length<=1000000:=by
  unfold cg
  rw[List.length_map,List.length_range]
  have:=ok.le;omega
 have h5:L.length+(mids j k p).length<=1000000:=by rw[p6];have:=ok.le;omega
 simp[aR,fG,h0,h1,h2,h3,h4,h5,slP,gP]
theorem HF {M:PV}{j:Nat}{s:Slot}(ok:PatsOk s.1){L:List Sta}(hL:L.length < 8000):
  bK (gT [4,5]) [4,5] fG (eN 0 (s.1.map .str)) [some M,some (.lst (L.map bj)),some (.int j),some (slP s),none,none]=some (.nx [some M,some (.lst ((L++s.1.zipIdx.flatMap λy=>mids j y.2 y.1).map bj)),some (.int j),some (slP s),none,none]):=by
 have en:eN 0 (s.1.map .str)=s.1.zipIdx.map λy:Str×Nat=>PV.tup [.int (y.2:Nat),.str y.1]:=kZ _ _ _
 rw[en]
 obtain⟨L',⟨d,e1,e2,e3⟩,h⟩:=bH (g:=gT [4,5]) (ds:=[4,5]) (body:=fG) (λy:Str×Nat=>PV.tup [.int (y.2:Nat),.str y.1]) (λL:List Sta=>[some M,some (.lst (L.map bj)),some (.int j),some (slP s),none,none])
  (λr L'=>∃ d,s.1.zipIdx=d++r/\L'=(L++d.flatMap λy=>mids j y.2 y.1)/\L'.length<=L.length+4*d.length)
  (λy r L' ⟨d,e1,e2,e3⟩=>by
   have hm:y∈s.1.zipIdx:=by rw[e1];simp
   have okp:PatOk y.1:=ok.ok _ (List.fst_mem_of_mem_zipIdx hm)
   have hd:d.length+r.length+1=s.1.length:=by have:=congrArg List.length e1;simp at this;omega
   have h4:=ok.le
   refine⟨L'++mids j y.2 y.1,⟨d++[y],by rw[e1];simp,by rw[e2];simp,?_⟩,D_ okp (by omega)⟩
   have:=p6 j y.2 y.1
   have:=okp.le
   simp;omega)
  s.1.zipIdx L ⟨[],rfl,by simp,by simp⟩
 rw[List.append_nil] at e1
 rw[h,e2,← e1]
theorem Ea (j:Nat){s:Slot}(ok:PatsOk s.1):(iU j s).length<=17:=by
 unfold iU
 have:∀ (l:List (Str×Nat)),(∀ y∈l,PatOk y.1)->(l.flatMap λy=>mids j y.2 y.1).length<=4*l.length:=λl=>by
  induction l with
  | nil=>simp
  | cons y l ih=>
   intro h
   have h1:=ih λz hz=>h z (List.mem_cons_of_mem _ hz)
   have h2:=(h y List.mem_cons_self).le
   have h3:=p6 j y.2 y.1
   rw[List.flatMap_cons,List.length_append,List.length_cons]
   omega
 have h1:=this s.1.zipIdx λy hy=>ok.ok _ (List.fst_mem_of_mem_zipIdx hy)
 have h2:=ok.le
 rw[List.length_zipIdx] at h1
 rw[List.length_cons]
 omega
theorem tH {m:List Slot}(hm:cz m) (hl:m.length < 100):gq [mP m]=some (.lst ((sts m).map bj))/\(sts m).length<=17*m.length:=by
 have en:eN 0 (m.map slP)=m.zipIdx.map λy:Slot×Nat=>PV.tup [.int (y.2:Nat),slP y.1]:=kZ _ _ _
 obtain⟨L',⟨d,e1,e2,e3⟩,h⟩:=bH (g:=gT [2,3]) (ds:=[2,3,4,5]) (body:=iM) (λy:Slot×Nat=>PV.tup [.int (y.2:Nat),slP y.1]) (λL:List Sta=>[some (mP m),some (.lst (L.map bj)),none,none,none,none])
  (λr L'=>∃ d,m.zipIdx=d++r/\L'=(d.flatMap λy=>iU y.2 y.1)/\L'.length<=17*d.length)
  (λy r L' ⟨d,e1,e2,e3⟩=>by
   have hmm:y∈m.zipIdx:=by rw[e1];simp
   have ok:PatsOk y.1.1:=hm _ (List.fst_mem_of_mem_zipIdx hmm)
   have hd:d.length+r.length+1=m.length:=by have:=congrArg List.length e1;simp at this;omega
   have h4:=Ea y.2 ok
   refine⟨L'++iU y.2 y.1,⟨d++[y],by rw[e1];simp,by rw[e2];simp,by simp;omega⟩,?_⟩
   have h5:=HF (M:=mP m) (j:=y.2) ok (L:=L'++[(y.2,0,0)]) (by simp;omega)
   have e5:(L'++[(y.2,0,0)]).map bj=L'.map bj++[.tup [.int (y.2:Nat),.int 0,.int 0]]:=by simp[bj,stP]
   rw[e5] at h5
   have e6:L'++[(y.2,0,0)]++(y.1.1.zipIdx.flatMap λz=>mids y.2 z.2 z.1)=L'++iU y.2 y.1:=by simp[iU]
   rw[e6] at h5
   have hl':L'.length < 1000000:=by omega
   obtain⟨⟨ps,c⟩,j⟩:=y
   dsimp only at h5 ⊢
   simp only[slP] at h5
   generalize (L'++iU j (ps,c)).map bj=R at *
   simp[aR,iM,slP,hl',h5])
  m.zipIdx [] ⟨[],rfl,rfl,by simp⟩
 rw[List.append_nil] at e1
 have e7:L'=sts m:=by rw[e2,← e1];rfl
 subst e7
 refine⟨?_,by rw[← e1] at e3;simpa using e3⟩
 simp only[List.map_nil] at h
 simp[gq,oM,mP] at h ⊢
 simp[en,h]
theorem Eb (m:List Slot) (hm:cz m) (t:Sta) (mark:Str) (e:Bool):(dY m t mark e).length<=4:=by
 have h1:∀ (s:Slot) (slot i k:Nat),(mvT s slot i mark e k).length<=1:=λs slot i k=>by
  unfold mvT
  split
  ·cases bhT s slot k i (s.1.getD k ⟨#[]⟩) e <;> simp
  ·simp
 unfold dY
 split
 ·simp
 ·rename_i s h
  have ok:=hm s (List.mem_of_getElem? h)
  split
  ·have:∀ l:List Nat,(l.flatMap (mvT s t.1 0 mark e)).length<=l.length:=λl=>by
    induction l with
    | nil=>simp
    | cons k l ih=>have:=h1 s t.1 0 k;rw[List.flatMap_cons,List.length_append,List.length_cons];omega
   have h2:=this (List.range s.1.length)
   have h3:=ok.le
   rw[List.length_range] at h2
   omega
  ·have:=h1 s t.1 t.2.2 t.2.1;omega
theorem Ls {m:List Slot}{t:Sta}(h:t∈sts m):StOk m t.1 t.2.1 t.2.2:=by
 obtain⟨s,hs,h⟩:=mem_sts.mp h
 have hlt:=(List.getElem?_eq_some_iff.mp hs).1
 refine⟨by omega,λz=>by omega,λs' hs'=>?_⟩
 rw[hs] at hs'
 cases hs'
 rcases h with h | ⟨p,h1,h2,h3⟩
 ·rw[h];exact .inl ⟨rfl,rfl⟩
 ·exact .inr ⟨p,h1,by omega,h3⟩
theorem m8 {m:List Slot}(hm:cz m) (hl:m.length < 100) (mark:Str) (e:Bool):cR [mP m,.str mark,.bl e]=some (.lst ((stp m mark e).map dI))/\(stp m mark e).length<=68*m.length:=by
 obtain⟨h1,h2⟩:=tH hm hl
 obtain⟨L',⟨d,e1,e2,e3⟩,h⟩:=bH (g:=gN 4) (ds:=[4]) (body:=jr) bj (λL:List (Sta×Sta)=>[some (mP m),some (.str mark),some (.bl e),some (.lst (L.map dI)),none])
  (λr L'=>∃ d,sts m=d++r/\L'=(d.flatMap λt=>(dY m t mark e).map λy=>(t,y.2))/\L'.length<=4*d.length)
  (λt r L' ⟨d,e1,e2,e3⟩=>by
   have hmm:t∈sts m:=by rw[e1];simp
   have hd:d.length+r.length+1=(sts m).length:=by have:=congrArg List.length e1;simp at this;omega
   have h3:=DW hm (by omega) (Ls hmm) mark e
   rw[N_] at h3
   have h4:=Eb m hm t mark e
   refine⟨L'++(dY m t mark e).map λy=>(t,y.2),⟨d++[t],by rw[e1];simp,by rw[e2];simp,by simp;omega⟩,?_⟩
   have h5:cY [none,none,some (bj t)] (gT [0,1]) fM jq ((dY m t mark e).map mvP)=some (((dY m t mark e).map λy=>(t,y.2)).map dI):=by
    rw[List.map_map]
    exact gY _ _ _ λy _=>⟨[some (.int (y.1:Nat)),some (bj y.2),some (bj t)],rfl,by simp[jq,dI]⟩
   have h6:L'.length+((dY m t mark e).map λy=>(t,y.2)).length<=1000000:=by rw[List.length_map];omega
   have h7:((dY m t mark e).map mvP).length<=1000000:=by rw[List.length_map];omega
   have h3:dJ [mP m,bj t,.str mark,.bl e]=some (.lst ((dY m t mark e).map mvP)):=h3
   rw[List.map_append]
   have h8:(L'.map dI).length+(((dY m t mark e).map λy=>(t,y.2)).map dI).length<=1000000:=by simpa using h6
   generalize ((dY m t mark e).map λy=>(t,y.2)).map dI=R at *
   generalize (dY m t mark e).map mvP=V at *
   generalize L'.map dI=W at *
   generalize bj t=S at *
   generalize mP m=M at *
   simp[aR,jr,h3,h5,h7,h8,gP])
  (sts m) [] ⟨[],rfl,rfl,by simp⟩
 rw[List.append_nil] at e1
 have e7:L'=stp m mark e:=by rw[e2,← e1];rfl
 subst e7
 refine⟨?_,by rw[← e1] at e3;omega⟩
 simp only[List.map_nil] at h
 simp[cR,pC,h1,h]
end My
namespace My
open PySem L2 MR
def kS (t:Sta):List Key:=[.inl (t.1:Nat),.inl (t.2.1:Nat),.inl (t.2.2:Nat)]
theorem kS_inj {t u:Sta}:kS t=kS u↔t=u:=by
 obtain⟨a,b,c⟩:=t
 obtain⟨d,e,f⟩:=u
 simp[kS]
 omega
abbrev Dc:=List (Sta×Int)
def dE (y:Sta×Int):List Key×PV:=(kS y.1,.int y.2)
def dP (d:Dc):PV:=.dT (d.map dE)
def ks (d:Dc):List Sta:=d.map (·.1)
def look (d:Dc) (t:Sta):Option Int:=(d.find? λy=>decide (y.1=t)).map (·.2)
def val (d:Dc) (t:Sta):Int:=(look d t).getD 0
def jY (d:Dc) (t:Sta) (v:Int):Dc:=if t∈ks d then d.map λy=>if y.1=t then (t,v) else y else d++[(t,v)]
theorem mD (t:Sta):∀ d:Dc,cC (d.map dE) (kS t)=(look d t).map .int
 | []=>rfl
 | y::d=>by
  have ih:=mD t d
  unfold cC look at ih ⊢
  rw[List.map_cons,List.find?_cons,List.find?_cons]
  by_cases h:y.1=t
  ·subst h;simp[dE]
  ·have h':¬ (dE y).1=kS t:=λz=>h (kS_inj.mp z)
   simp only[decide_eq_false h,decide_eq_false h']
   exact ih
theorem fL {t:Sta}:∀ {d:Dc},(look d t).isSome=decide (t∈ks d)
 | []=>by simp[look,ks]
 | y::d=>by
  have ih:=fL (t:=t) (d:=d)
  unfold look ks at ih ⊢
  rw[List.find?_cons]
  by_cases h:y.1=t
  ·subst h;simp
  ·have h':¬ t=y.1:=λz=>h z.symm
   simp only[decide_eq_false h,List.map_cons,List.mem_cons,h',false_or]
   exact ih
theorem Bv {d:Dc}{t:Sta}(h:t∉ks d):val d t=0:=by
 have:=fL (d:=d) (t:=t)
 rw[decide_eq_false h] at this
 unfold val
 cases q:look d t with
 | none=>rfl
 | some v=>rw[q] at this;cases this
theorem Ec (d:Dc) (t:Sta) (v:Int) (u:Sta) (h:t∉ks d):look (d++[(t,v)]) u=if u=t then some v else look d u:=by
 unfold look
 rw[List.find?_append]
 by_cases e:u=t
 ·subst e
  have:d.find? (λy=>decide (y.1=u))=none:=by
   rw[List.find?_eq_none]
   intro y hy
   simp only[decide_eq_true_eq]
   exact λz=>h (z▸List.mem_map_of_mem hy)
  simp[this]
 ·have e':¬ t=u:=λz=>e z.symm
  simp[e,e']
theorem p7 (t:Sta) (v:Int) (u:Sta):∀ d:Dc,t∈ks d->look (d.map λy=>if y.1=t then (t,v) else y) u=if u=t then some v else look d u
 | [],h=>by simp[ks] at h
 | y::d,h=>by
  unfold look
  rw[List.map_cons,List.find?_cons,List.find?_cons]
  by_cases hy:y.1=t
  ·rw[if_pos hy]
   by_cases e:u=t
   ·subst e;simp
   ·have e1:¬ t=u:=λz=>e z.symm
    have e2:¬ y.1=u:=λz=>e1 (hy.symm.trans z)
    simp only[decide_eq_false e1,decide_eq_false e2,if_neg e]
    by_cases hm:t∈ks d
    ·have:=p7 t v u d hm
     unfold look at this
     rw[this,if_neg e]
    ·have:(d.map λy=>if y.1=t then (t,v) else y)=d:=by
      conv=>rhs;rw[← List.map_id d]
      refine List.map_congr_left λz hz=>?_
      have hz':¬ z.1=t:=λw=>hm (w▸List.mem_map_of_mem hz)
      rw[if_neg hz']
      rfl
     rw[this]
  ·rw[if_neg hy]
   have hm:t∈ks d:=by
    unfold ks at h ⊢
    rw[List.map_cons,List.mem_cons] at h
    exact h.resolve_left λz=>hy z.symm
   have ih:=p7 t v u d hm
   unfold look at ih
   by_cases e2:y.1=u
   ·have e:¬ u=t:=λz=>hy (e2.trans z)
    simp[e2,e]
   ·simp only[decide_eq_false e2]
    exact ih
theorem Ed (d:Dc) (t:Sta) (v:Int) (u:Sta):look (jY d t v) u=if u=t then some v else look d u:=by
 unfold jY
 split
 ·rename_i h;exact p7 t v u d h
 ·rename_i h;exact Ec d t v u h
theorem HH (d:Dc) (t:Sta) (v:Int) (u:Sta):val (jY d t v) u=if u=t then v else val d u:=by
 unfold val
 rw[Ed]
 split <;> rfl
theorem Bw (d:Dc) (t:Sta) (v:Int):ks (jY d t v)=if t∈ks d then ks d else ks d++[t]:=by
 unfold jY
 split
 ·unfold ks
  rw[List.map_map]
  refine List.map_congr_left λy _=>?_
  show (if y.1=t then (t,v) else y).1=y.1
  split
  ·rename_i h;exact h.symm
  ·rfl
 ·unfold ks;simp
theorem Lw (d:Dc) (t:Sta) (v:Int):lB (d.map dE) (kS t) (.int v)=(jY d t v).map dE:=by
 unfold lB jY
 have e:((d.map dE).any λkv=>decide (kv.1=kS t))=decide (t∈ks d):=by
  rw[List.any_map]
  have:(decide (t∈ks d))=d.any λy=>decide (y.1=t):=by
   rw[Bool.eq_iff_iff,decide_eq_true_eq,List.any_eq_true]
   unfold ks
   rw[List.mem_map]
   exact⟨λ⟨y,hy,e⟩=>⟨y,hy,decide_eq_true e⟩,λ⟨y,hy,e⟩=>⟨y,hy,of_decide_eq_true e⟩⟩
  rw[this]
  congr 1
  funext y
  simp only[Function.comp_apply,dE]
  exact decide_eq_decide.mpr kS_inj
 rw[e]
 by_cases h:t∈ks d
 ·rw[if_pos (decide_eq_true h),if_pos h,List.map_map,List.map_map]
  refine List.map_congr_left λy _=>?_
  simp only[Function.comp_apply]
  by_cases q:y.1=t
  ·rw[if_pos q];subst q;simp[dE]
  ·rw[if_neg q]
   have:¬ (dE y).1=kS t:=λz=>q (kS_inj.mp z)
   rw[if_neg this]
 ·rw[decide_eq_false h,if_neg h]
  simp[dE]
structure DOk (m:List Slot) (d:Dc):Prop where
 nd:(ks d).Nodup
 sub:∀ t∈ks d,t∈sts m\/t=(m.length,0,0)
theorem p8 {α:Type} [DecidableEq α]:∀ {l u:List α},l.Nodup->(∀ x∈l,x∈u)->l.length<=u.length
 | [],_,_,_=>Nat.zero_le _
 | a::l,u,h,s=>by
  rw[List.nodup_cons] at h
  have ha:a∈u:=s a List.mem_cons_self
  have:=p8 (l:=l) (u:=u.erase a) h.2 λx hx=>(List.mem_erase_of_ne (show x≠a from λz=>h.1 (z▸hx))).mpr (s x (List.mem_cons_of_mem _ hx))
  rw[List.length_erase_of_mem ha] at this
  have hp:=List.length_pos_of_mem ha
  rw[List.length_cons]
  omega
theorem DOk.len {m:List Slot}{d:Dc}(h:DOk m d) (hm:cz m) (hl:m.length < 100):d.length < 5000:=by
 have h1:(ks d).length<=(sts m++[(m.length,0,0)]).length:=p8 h.nd λt ht=>by
  rcases h.sub t ht with z | z
  ·exact List.mem_append_left _ z
  ·rw[z];simp
 have h2:=(tH hm hl).2
 unfold ks at h1
 simp at h1
 omega
theorem DOk.put {m:List Slot}{d:Dc}(h:DOk m d){t:Sta}(ht:t∈sts m\/t=(m.length,0,0)) (v:Int):DOk m (jY d t v):=by
 constructor
 ·rw[Bw]
  split
  ·exact h.nd
  ·rename_i hn
   rw[List.nodup_append]
   exact⟨h.nd,by simp,λx hx y hy e=>hn (by rw[List.mem_singleton] at hy;rw[← hy,← e];exact hx)⟩
 ·rw[Bw]
  split
  ·exact h.sub
  ·intro u hu
   rcases List.mem_append.mp hu with z | z
   ·exact h.sub u z
   ·rw[List.mem_singleton] at z;rw[z];exact ht
theorem lr (t:Sta):keysB [.int (t.1:Nat),.int (t.2.1:Nat),.int (t.2.2:Nat)]=some (kS t):=by simp[kS]
theorem Qi (d:Dc) (t:Sta):inP (bj t) (dP d)=some (decide (t∈ks d)):=by
 have h1:=lr t
 have h2:=mD t d
 have h3:=fL (d:=d) (t:=t)
 unfold bj stP dP
 show (keysB [.int (t.1:Nat),.int (t.2.1:Nat),.int (t.2.2:Nat)]).map (λk=>(cC (d.map dE) k).isSome)=_
 rw[h1,Option.map_some,h2,Option.isSome_map,h3]
theorem Oa (d:Dc) (t:Sta):o9 (dP d) (bj t) (.int 0)=some (.int (val d t)):=by
 have h1:=lr t
 have h2:=mD t d
 unfold bj stP dP
 show (keysB [.int (t.1:Nat),.int (t.2.1:Nat),.int (t.2.2:Nat)]).map (λk=>(cC (d.map dE) k).getD (.int 0))=_
 rw[h1,Option.map_some,h2]
 unfold val
 cases look d t <;> rfl
theorem Qj {d:Dc}{t:Sta}(h:t∈ks d):ixP (dP d) (bj t)=some (.int (val d t)):=by
 have h1:=lr t
 have h2:=mD t d
 have h3:=fL (d:=d) (t:=t)
 unfold bj stP dP
 show (keysB [.int (t.1:Nat),.int (t.2.1:Nat),.int (t.2.2:Nat)]).bind (λk=>cC (d.map dE) k)=_
 rw[h1,Option.bind_some,h2]
 unfold val
 rw[decide_eq_true h] at h3
 cases q:look d t with
 | none=>rw[q] at h3;cases h3
 | some v=>rfl
theorem Ob {d:Dc}(t:Sta) (v:Int) (h:d.length < 5000):lC (dP d) (bj t) (.int v)=some (dP (jY d t v)):=by
 have h1:=lr t
 have h2:=Lw d t v
 unfold bj stP dP
 show (keysB [.int (t.1:Nat),.int (t.2.1:Nat),.int (t.2.2:Nat)]).bind (λk=>if (d.map dE).length < 1000000 then some (PV.dT (lB (d.map dE) k (.int v))) else none)=_
 rw[h1,Option.bind_some,if_pos (by rw[List.length_map];omega),h2]
end My
namespace My
open PySem L2 MR
def stL (m:List Slot) (mark:Str) (e:Bool):PV:=.lst ((stp m mark e).map dI)
def e_ (m:List Slot):PV:=.dT [([.inr "u",.inl 0],stL m "u" false),([.inr "u",.inl 1],stL m "u" true),([.inr "-",.inl 0],stL m "-" false),([.inr "-",.inl 1],stL m "-" true)]
theorem Lx {m:List Slot}(hm:cz m) (hl:m.length < 100):gr [mP m]=some (e_ m):=by
 have a1:cR [mP m,.str "u",.bl false]=some (stL m "u" false):=(m8 hm hl _ _).1
 have a2:cR [mP m,.str "u",.bl true]=some (stL m "u" true):=(m8 hm hl _ _).1
 have a3:cR [mP m,.str "-",.bl false]=some (stL m "-" false):=(m8 hm hl _ _).1
 have a4:cR [mP m,.str "-",.bl true]=some (stL m "-" true):=(m8 hm hl _ _).1
 unfold e_
 generalize stL m "u" false=L1 at *
 generalize stL m "u" true=L2 at *
 generalize stL m "-" false=L3 at *
 generalize stL m "-" true=L4 at *
 generalize mP m=M at *
 have hne:¬ (("u" : Str) = "-"):=by decide
 simp[gr,oO,mz,my,bK,a1,a2,a3,a4,lB,hne,clr]
def wk (m:List Slot) (o:Nat) (e:Bool) (b:Dc):List (Sta×Sta):=if o=3 then (ks b).map λt=>(t,t) else stp m (bN o) e
theorem HJ (b:Dc):qK (dP b)=some ((ks b).map bj):=by
 have h:((b.map dE).all λkv=>kv.1.length != 2)=true:=by
  rw[List.all_map,List.all_eq_true]
  intro y _
  rfl
 unfold dP
 show (if ((b.map dE).all λkv=>kv.1.length != 2)=true then some ((b.map dE).map λkv=>PV.tup (kv.1.map kP)) else none)=_
 rw[if_pos h]
 unfold ks
 rw[List.map_map,List.map_map]
 rfl
theorem Bx {m:List Slot}{o:Nat}(ho:o < 4) (e:Bool){b:Dc}(hb:b.length < 5000):cX [e_ m,au o,.bl e,dP b]=some (.lst ((wk m o e b).map dI)):=by
 have hne:¬ (("u" : Str) = "-"):=by decide
 have hne':¬ (("-" : Str) = "u"):=by decide
 have h1:=HJ b
 have h2:cY [none] (gN 0) fM iQ ((ks b).map bj)=some (((ks b).map λt=>(t,t)).map dI):=by
  rw[List.map_map]
  exact gY _ _ _ λt _=>⟨[some (bj t)],rfl,by simp[iQ,dI]⟩
 have h3:((ks b).map bj).length<=1000000:=by unfold ks;simp;omega
 unfold wk
 rcases lt4 ho with rfl | rfl | rfl | rfl
 ·cases e <;> simp[cX,gw,au,e_,cC,bN,stL,hne]
 ·cases e <;> simp[cX,gw,au,e_,cC,bN,stL,hne,hne']
 ·cases e <;> simp[cX,gw,au,e_,cC,bN,stL,hne,hne']
 ·rw[if_pos rfl]
  generalize ((ks b).map λt=>(t,t)).map dI=R at *
  generalize (ks b).map bj=V at *
  generalize dP b=B at *
  simp[cX,gw,au,h1,h2,h3,gP,-qK]
def pq (b:Dc) (d:Dc) (y:Sta×Sta):Dc:=if y.2∈ks b then jY d y.1 (val d y.1+val b y.2) else d
theorem Ef {SP OP EP o:PV}{b d:Dc}{y:Sta×Sta}(hd:d.length < 5000):
  turn (gT [6,7]) [6,7] cH (dI y) [some SP,some OP,some EP,some (dP b),some (dP d),some o,none,none]=some [some SP,some OP,some EP,some (dP b),some (dP (pq b d y)),some o,none,none]:=by
 have h1:=Qi b y.2
 have h2:=Oa d y.1
 unfold pq
 by_cases h:y.2∈ks b
 ·have h3:=Qj h
  have h4:=Ob y.1 (val d y.1+val b y.2) hd
  rw[decide_eq_true h] at h1
  rw[if_pos h]
  unfold dI
  generalize dP (jY d y.1 (val d y.1+val b y.2))=R at *
  generalize dP b=B at *
  generalize dP d=D at *
  generalize bj y.1=S1 at *
  generalize bj y.2=S2 at *
  simp[aR,cH,h1,h2,h3,h4,-o9,-ixP,-lC]
 ·rw[decide_eq_false h] at h1
  rw[if_neg h]
  unfold dI
  generalize dP b=B at *
  generalize dP d=D at *
  generalize bj y.1=S1 at *
  generalize bj y.2=S2 at *
  simp[aR,cH,h1,-o9,-ixP,-lC]
theorem Eg (b d:Dc) (y:Sta×Sta) (t:Sta):val (pq b d y) t=val d t+if y.1=t then val b y.2 else 0:=by
 unfold pq
 by_cases h:y.2∈ks b
 ·rw[if_pos h,HH]
  by_cases e:t=y.1
  ·subst e;simp
  ·have e':¬ y.1=t:=λz=>e z.symm
   simp[e,e']
 ·rw[if_neg h,Bv h]
  simp
theorem HN {SP OP EP o:PV}{m:List Slot}(hm:cz m) (hl:m.length < 100){b d:Dc}(hd:DOk m d) (P:List (Sta×Sta)) (hP:∀ y∈P,y.1∈sts m\/y.1=(m.length,0,0)):
  ∃ d',DOk m d'/\(∀ t,val d' t=val d t+(P.map λy=>if y.1=t then val b y.2 else 0).sum) /\
   bK (gT [6,7]) [6,7] cH (P.map dI) [some SP,some OP,some EP,some (dP b),some (dP d),some o,none,none]=some (.nx [some SP,some OP,some EP,some (dP b),some (dP d'),some o,none,none]):=by
 obtain⟨d',⟨q,e1,e2,e3⟩,h⟩:=bH (g:=gT [6,7]) (ds:=[6,7]) (body:=cH) dI (λd:Dc=>[some SP,some OP,some EP,some (dP b),some (dP d),some o,none,none])
  (λr d'=>∃ q,P=q++r/\DOk m d'/\∀ t,val d' t=val d t+(q.map λy=>if y.1=t then val b y.2 else 0).sum)
  (λy r d' ⟨q,e1,e2,e3⟩=>by
   refine⟨pq b d' y,⟨q++[y],by rw[e1];simp,?_,λt=>?_⟩,Ef (e2.len hm hl)⟩
   ·unfold pq
    split
    ·exact e2.put (hP y (by rw[e1];simp)) _
    ·exact e2
   ·rw[Eg,e3 t,List.map_append,List.sum_append]
    simp
    omega)
  P d ⟨[],rfl,hd,λt=>by simp⟩
 rw[List.append_nil] at e1
 subst e1
 exact⟨d',e2,e3,h⟩
theorem HQ {b:Dc}(h:(ks b).Nodup) (t:Sta):(((ks b).map λt=>(t,t)).map λy=>if y.1=t then val b y.2 else 0).sum=val b t:=by
 rw[List.map_map]
 have e:((λy:Sta×Sta=>if y.1=t then val b y.2 else 0)∘λt=>(t,t))=λu=>if u=t then val b u else 0:=rfl
 rw[e,pZ h]
 split
 ·rfl
 ·rename_i hn;exact(Bv hn).symm
theorem Ly {m:List Slot}{b:Dc}(hb:DOk m b) (o:Nat) (e:Bool) (t:Sta):((wk m o e b).map λy=>if y.1=t then val b y.2 else 0).sum=opM m o e (val b) t:=by
 unfold wk opM
 split
 ·exact HQ hb.nd t
 ·rfl
theorem Oc {m:List Slot}{b:Dc}(hb:DOk m b) (o:Nat) (e:Bool):∀ y∈wk m o e b,y.1∈sts m\/y.1=(m.length,0,0):=λy hy=>by
 unfold wk at hy
 split at hy
 ·obtain⟨t,ht,rfl⟩:=List.mem_map.mp hy
  exact hb.sub t ht
 ·unfold stp at hy
  obtain⟨t,ht,hy⟩:=List.mem_flatMap.mp hy
  obtain⟨z,_,rfl⟩:=List.mem_map.mp hy
  exact .inl ht
theorem Eh {m:List Slot}(hm:cz m) (hl:m.length < 100){os:List Nat}(ho:C4 os) (e:Bool){b:Dc}(hb:DOk m b):
  ∃ d,DOk m d/\(∀ t,val d t=opr m (os,e) (val b) t)/\eV [e_ m,aC os,.bl e,dP b]=some (dP d):=by
 obtain⟨d,⟨q,e1,e2,e3⟩,h⟩:=bH (g:=gN 5) (ds:=[5,6,7]) (body:=gQ) au (λd:Dc=>[some (e_ m),some (aC os),some (.bl e),some (dP b),some (dP d),none,none,none])
  (λr d'=>∃ q,os=q++r/\DOk m d'/\∀ t,val d' t=(q.map λo=>opM m o e (val b) t).sum)
  (λo r d' ⟨q,e1,e2,e3⟩=>by
   have h1:=Bx (m:=m) (ho o (by rw[e1];simp)) e (b:=b) (hb.len hm hl)
   obtain⟨d2,f1,f2,f3⟩:=HN (SP:=e_ m) (OP:=aC os) (EP:=.bl e) (o:=au o) hm hl (b:=b) e2 (wk m o e b) (Oc hb o e)
   refine⟨d2,⟨q++[o],by rw[e1];simp,f1,λt=>?_⟩,?_⟩
   ·rw[f2 t,e3 t,Ly hb,List.map_append,List.sum_append]
    simp
   ·generalize (wk m o e b).map dI=W at *
    generalize e_ m=SP at *
    generalize aC os=OP at *
    generalize dP b=B at *
    generalize dP d'=D1 at *
    generalize dP d2=D2 at *
    generalize au o=OO at *
    simp[aR,gQ,h1,f3])
  os [] ⟨[],rfl,⟨by simp[ks],by simp[ks]⟩,λt=>by simp[val,look]⟩
 rw[List.append_nil] at e1
 subst e1
 refine⟨d,e2,e3,?_⟩
 have h0:dP []=.dT []:=rfl
 rw[h0] at h
 unfold aC at h ⊢
 generalize e_ m=SP at *
 generalize os.map au=OP at *
 generalize dP b=B at *
 generalize dP d=D1 at *
 simp[eV,lg,h]
def zP (x:List Nat×Bool):PV:=.tup [aC x.1,.bl x.2]
theorem Fx:∀ (xs:List (List Nat)) (es:List Bool),List.zipWith (λa c=>PV.tup [a,c]) (xs.map aC) (es.map PV.bl)=(xs.zip es).map zP
 | [],_=>by simp
 | _::_,[]=>by simp
 | x::xs,e::es=>by simp[Fx xs es,zP]
def CbS (m:List Slot) (s:Dc×List PV):Prop:=DOk m s.1/\s.2.length < 2000/\∃ l,s.2=l++[dP s.1]
theorem HR {m:List Slot}(hm:cz m) (hl:m.length < 100){g:List (List (List Nat))}(hg:∀ w∈g,w≠[]) (h4:∀ is∈g.flatten,C4 is) (hf:g.flatten.length < 1000):
  ∃ d l,(∀ t,val d t=cnt m (g.flatten.zip (aK g)) t)/\cu [grP g,mP m]=some (.lst (dP d::l)):=by
 have h1:=Lx hm hl
 have h2:=Ht hf
 have h3:=Hu hg hf
 have hend:cF [mP m]=some (bj (m.length,0,0)):=by simp[cF,jU,mP,bj,stP]
 have hd0:DOk m [((m.length,0,0),1)]:=⟨by simp[ks],λt ht=>.inr (by simpa [ks] using ht)⟩
 have hO:∀ x∈g.flatten.zip (aK g),C4 x.1:=λx hx=>h4 _ (List.of_mem_zip hx).1
 have hOl:(g.flatten.zip (aK g)).length < 1000:=by rw[List.length_zip];omega
 generalize hOO:g.flatten.zip (aK g)=O at *
 obtain⟨⟨d,L⟩,⟨q,e1,⟨e2,e3,l,e4⟩,e5,e6⟩,h⟩:=bH (g:=gT [5,6]) (ds:=[5,6]) (body:=dX) zP (λs:Dc×List PV=>[some (grP g),some (mP m),some (e_ m),some (dP s.1),some (.lst s.2),none,none])
  (λr s=>∃ q,O=r.reverse++q/\CbS m s/\s.2.length<=q.length+1/\∀ t,val s.1 t=cnt m q t)
  (λx r s ⟨q,e1,⟨e2,e3,l,e4⟩,e5,e6⟩=>by
   obtain⟨d,L⟩:=s
   have hq:r.length+1+q.length=O.length:=by have:=congrArg List.length e1;simp at this;omega
   obtain⟨d2,f1,f2,f3⟩:=Eh hm hl (hO x (by rw[e1];simp)) x.2 e2
   have hL:L.length < 1000000:=by dsimp only at e5;omega
   refine⟨(d2,L++[dP d2]),⟨x::q,by rw[e1];simp,⟨f1,by dsimp only at e5;simp;omega,L,rfl⟩,by dsimp only at e5;simp;omega,λt=>?_⟩,?_⟩
   ·rw[f2 t,cnt_cons]
    have:val d=cnt m q:=by funext u;exact e6 u
    rw[this]
   ·unfold zP
    generalize e_ m=SP at *
    generalize grP g=GP at *
    generalize mP m=MP at *
    generalize dP d2=D2 at *
    generalize dP d=D1 at *
    generalize aC x.1=OP at *
    simp[aR,dX,f3,hL])
  O.reverse ([((m.length,0,0),1)],[dP [((m.length,0,0),1)]]) ⟨[],by simp,⟨hd0,by simp,[],rfl⟩,by simp,λt=>by simp[val,look,cnt_nil,fin];by_cases q:t=(m.length,0,0) <;> simp[q];(have:¬ (m.length,0,0)=t:=λz=>q z.symm);simp[this]⟩
 simp only[List.reverse_nil,List.nil_append] at e1
 subst e1
 dsimp only at e4 e6 h
 refine⟨d,l.reverse,e6,?_⟩
 have hz:o_ (.lst (g.flatten.map aC)) (.lst ((aK g).map .bl))=some (.lst (O.map zP)):=by
  have:((aK g).map PV.bl).length=(g.flatten.map aC).length:=by rw[List.length_map,List.length_map,jl]
  simp only[o_,if_pos this,Fx,hOO]
 have hr:(O.map zP).reverse=O.reverse.map zP:=by rw[List.map_reverse]
 rw[← hr] at h
 have hdc:qJ (bj (m.length,0,0)) (.int 1)=some (dP [((m.length,0,0),1)]):=by simp[bj,stP,dP,dE,kS]
 rw[e4] at h
 generalize e_ m=SP at *
 generalize grP g=GP at *
 generalize mP m=MP at *
 generalize dP [((m.length,0,0),1)]=D0 at *
 generalize bj (m.length,0,0)=S0 at *
 generalize dP d=D1 at *
 generalize O.map zP=OP at *
 generalize g.flatten.map aC=Z1 at *
 generalize (aK g).map PV.bl=Z2 at *
 simp[cu,gZ,h1,h2,h3,hend,hdc,hz,h,-o_,-qJ]
theorem vU {m:List Slot}(hm:cz m) (hl:m.length < 100){g:List (List (List Nat))}(hg:∀ w∈g,w≠[]) (h4:∀ is∈g.flatten,C4 is) (hf:g.flatten.length < 1000):
  bw [grP g,mP m]=some (.int (cnt m (g.flatten.zip (aK g)) (0,0,0))):=by
 obtain⟨d,l,e,h⟩:=HR hm hl hg h4 hf
 have h2:qL (dP d) mq (.int 0)=some (.int (val d (0,0,0))):=by
  have:=mD (0,0,0) d
  unfold dP mq
  show (keysB [.int 0,.int 0,.int 0]).map (λk=>(cC (d.map dE) k).getD (.int 0))=_
  have hk:keysB [.int 0,.int 0,.int 0]=some (kS (0,0,0)):=by simp[kS]
  rw[hk,Option.map_some,this]
  unfold val
  cases look d (0,0,0) <;> rfl
 rw[← e]
 have h3:atI (dP d::l) 0=some (dP d):=cj (k:=0) rfl
 generalize dP d=D at *
 generalize grP g=GP at *
 generalize mP m=MP at *
 simp[bw,jV,h,h3,h2,-qL]
end My
namespace My
open PySem L2 MR
theorem xW (ns:List Int) (k:Nat):aW [.frz (ns.map PV.int),.int k]=some (.int (cell ns k)):=by
 by_cases h:k < ns.length
 ·have h1:atI (ns.map PV.int) (k:Int)=some (.int ns[k]):=cj (by simp[h])
  simp[aW,ir,h,h1,cell]
 ·simp[aW,ir,h,cell]
def jZ (c:Int) (m:List Slot) (k:Nat):Nat:=(mixed c k % (((m.getD k ([],false)).1.length:Nat):Int)).toNat
theorem xX {c:Int}{m:List Slot}(hm:cz m){k:Nat}{s:Slot}(hk:m[k]?=some s):jZ c m k < s.1.length/\((jZ c m k:Nat):Int)=mixed c k % (s.1.length:Int):=by
 have hg:m.getD k ([],false)=s:=by rw[List.getD_eq_getElem?_getD,hk];rfl
 have hpos:0 < s.1.length:=List.length_pos_iff.mpr (hm s (List.mem_of_getElem? hk)).ne
 unfold jZ
 rw[hg]
 have q1:=Int.emod_nonneg (mixed c k) (b:=(s.1.length:Int)) (by omega)
 have q2:=Int.emod_lt_of_pos (mixed c k) (b:=(s.1.length:Int)) (by omega)
 omega
theorem By:∀ {m:List Slot}{fs:List Nat},fs.length=m.length->(∀ (k:Nat) (s:Slot) (f:Nat),m[k]?=some s->fs[k]?=some f->f < s.1.length)->FtV m fs
 | [],[],_,_=>rfl
 | [],_::_,h,_=>by simp at h
 | _::_,[],h,_=>by simp at h
 | s::m,f::fs,h,hh=>by
  have hf:=hh 0 s f rfl rfl
  exact⟨f,s.1[f],fs,rfl,List.getElem?_eq_getElem hf,By (by simpa using h) λk t g h1 h2=>hh (k+1) t g (by simpa using h1) (by simpa using h2)⟩
theorem HS {c:Int}{m:List Slot}(hm:cz m):FtV m ((List.range m.length).map (jZ c m)):=By (by simp) λk s f h1 h2=>by
 have hlt:k < m.length:=by
  rcases Nat.lt_or_ge k m.length with z | z
  ·exact z
  ·rw[List.getElem?_eq_none z] at h1;cases h1
 rw[List.getElem?_map,List.getElem?_range hlt] at h2
 cases h2
 exact(xX hm h1).1
theorem BJ {P:PV}{m:List Slot}{c:Int}(hm:cz m) (hl:m.length < 100) (c0:aW [P,.int 0]=some (.int c)):
  cY [none,some P,some (mP m)] (gN 0) fM jW (cg 0 (m.length:Int))=some (((List.range m.length).map (jZ c m)).map λf=>PV.int (f:Nat)):=by
 rw[cD,List.map_map]
 refine gY _ _ _ λk hk=>⟨[some (.int (k:Nat)),some P,some (mP m)],rfl,?_⟩
 have hlt:=List.mem_range.mp hk
 have hks:m[k]?=some m[k]:=List.getElem?_eq_getElem hlt
 have hpos:0 < m[k].1.length:=List.length_pos_iff.mpr (hm _ (List.mem_of_getElem? hks)).ne
 have h1:=pU c k (xF (by omega))
 have a1:atI (m.map slP) (k:Int)=some (.tup [.tup (m[k].1.map .str),.bl m[k].2]):=by
  have:atI (m.map slP) (k:Int)=some (slP m[k]):=cj (by simp[hks])
  exact this
 have e:=(xX (c:=c) hm hks).2
 have hpos':(0:Int) < (m[k].1.length:Int):=by omega
 show jW _=some (.int ((jZ c m k:Nat):Int))
 rw[e]
 generalize m[k]=s at *
 unfold mP
 simp[jW,c0,h1,a1,hpos,hpos']
theorem str1 {c:Nat}(h:c=117\/c=45\/c=120):(⟨#[c]⟩:Str)=("u" : Str)\/(⟨#[c]⟩:Str)=("-" : Str)\/(⟨#[c]⟩:Str)=("x" : Str):=by
 rcases h with rfl | rfl | rfl
 ·exact .inl (by decide +kernel)
 ·exact .inr (.inl (by decide +kernel))
 ·exact .inr (.inr (by decide +kernel))
theorem vV:∀ {m:List Slot}{fs:List Nat},cz m->FtV m fs->DP (bz m fs)/\(m≠[]->bz m fs≠[])
 | [],fs,_,h=>by
  have e:fs=[]:=h
  subst e
  exact⟨λa ha=>by simp[bz] at ha,λz=>absurd rfl z⟩
 | s::m,fs,hm,⟨f,p,gs,h1,h2,h3⟩=>by
  subst h1
  have ih:=(vV (m:=m) (λt ht=>hm t (List.mem_cons_of_mem _ ht)) h3).1
  have hp:s.1.getD f ⟨#[]⟩=p:=by rw[List.getD_eq_getElem?_getD,h2];rfl
  have ok:=(hm s List.mem_cons_self).ok p (List.mem_of_getElem? h2)
  have e:bz (s::m) (f::gs)=bA s p++bz m gs:=by
   show bA s (s.1.getD f ⟨#[]⟩)++_=_
   rw[hp]
  rw[e]
  refine⟨λa ha=>?_,λ_ z=>?_⟩
  ·rcases List.mem_append.mp ha with y | y
   ·unfold bA at y
    obtain⟨j,hj,rfl⟩:=List.mem_map.mp y
    have hj':=List.mem_range.mp hj
    refine str1 (ok.cs _ ?_)
    have h':j < p.cps.toList.length:=by simpa [Str.length] using hj'
    rw[List.getD_eq_getElem?_getD,List.getElem?_eq_getElem h']
    exact List.getElem_mem _
   ·exact ih a y
  ·have:=congrArg List.length z
   rw[List.length_append,eY] at this
   have:=ok.ge
   simp at *
   omega
end My
namespace My
open PySem L2 MR
theorem vW {row:List Sg}{ps:List Str}{cut:Bool}{a k:Nat}{p:Str}(hk:ps[k]?=some p) (hp:PatOk p) (hr:row.length < 1000) (ha:a < 1000):
  cM [.tup (ps.map .str),.bl cut,aO row,.int a,.int k]=some (.bl (fit p cut (seg row a p.length))):=by
 have h1:atI (ps.map PV.str) (k:Int)=some (.str p):=cj (by simp[hk])
 have h2:p.length<=1000000:=by have:=hp.le;omega
 by_cases hlt:row.length < a+p.length
 ·have hf:fit p cut (seg row a p.length)=false:=by
   cases hq:fit p cut (seg row a p.length) with
   | false=>rfl
   | true=>have:=fit_le hp hq;omega
  have hlt':(row.length:Int) < (a:Int)+(p.length:Int):=by omega
  rw[hf]
  simp[cM,gO,aO,h1,h2,hlt']
 ·have hle:a+p.length<=row.length:=by omega
  have hlt':¬ (row.length:Int) < (a:Int)+(p.length:Int):=by omega
  have hrg:rgI (p.length:Int)=true:=fC (by omega) (by have:=hp.le;omega)
  have lp:=sZ (g:=gN 6) (ds:=[6]) (body:=dR) (env:=[some (.tup (ps.map .str)),some (.bl cut),some (.lst (row.map sgP)),some (.int a),some (.int k),some (.str p),none]) (v:=.bl false) (λj:Nat=>PV.int (j:Nat)) (λj=>stands (dH p j) (a_ row (a+j)).1) (List.range p.length) (λj hj=>by
   have hj':=List.mem_range.mp hj
   have q1:=vL hj'
   have q2:=vM (row:=row) (k:=a+j) (by omega)
   have e:((a+j:Nat):Int)=(a:Int)+(j:Int):=by omega
   rw[e] at q2
   replace q2:atI (row.map sgP) ((a:Int)+(j:Int))=some (.tup [.str (a_ row (a+j)).1,.bl (a_ row (a+j)).2]):=q2
   have hsg:dH p j=⟨#[p.cps.toList.getD j 0]⟩:=rfl
   rw[hsg]
   generalize p.cps.toList.getD j 0=c at *
   generalize a_ row (a+j)=w at *
   refine⟨_,rfl,λhq=>?_,λhq=>?_⟩
   ·unfold stands at hq
    by_cases hx:(⟨#[c]⟩:Str)=("x" : Str)
    ·simp[dR,q1,q2,h2,hx]
    ·by_cases hw:(⟨#[c]⟩:Str)=w.1
     ·have hx':¬ w.1=("x" : Str):=hw▸hx
      simp[dR,q1,q2,h2,hx,hx',hw]
     ·simp[hx,hw] at hq
   ·unfold stands at hq
    by_cases hx:(⟨#[c]⟩:Str)=("x" : Str)
    ·simp[hx] at hq
    ·by_cases hw:(⟨#[c]⟩:Str)=w.1
     ·simp[hw] at hq
     ·simp[dR,q1,q2,h2,hx,hw])
  have hm:=pD hle
  have q3:=vM (row:=row) (k:=a+p.length - 1) (by have:=hp.ge;omega)
  have e:((a+p.length - 1:Nat):Int)=(a:Int)+(p.length:Int) - 1:=by have:=hp.ge;omega
  rw[e] at q3
  replace q3:atI (row.map sgP) ((a:Int)+(p.length:Int) - 1)=some (.tup [.str (a_ row (a+p.length - 1)).1,.bl (a_ row (a+p.length - 1)).2]):=q3
  have hlast:=vN hle hp.ge
  unfold fit
  rw[decide_eq_true (rP hle),Bool.true_and,hm,hlast]
  rw[← cD] at lp
  generalize (List.range p.length).all (λj=>stands (dH p j) (a_ row (a+j)).1)=al at *
  generalize a_ row (a+p.length - 1)=w at *
  cases al with
  | false=>
   rw[if_neg (by decide)] at lp
   simp[cM,gO,aO,h1,h2,hlt',hrg,lp]
  | true=>
   rw[if_pos rfl] at lp
   cases cut <;> cases hw:w.2 <;> simp[cM,gO,aO,h1,h2,hlt',hrg,lp,q3,hw]
end My
namespace My
open PySem L2 MR
def dot (w:Nat->Int):List Int->Nat->Int
 | [],_=>0
 | c::cs,k=>c*w k+dot w cs (k+1)
theorem p_ (w:Nat->Int):∀ (n k:Nat),dot w (List.replicate n 0) k=0
 | 0,_=>rfl
 | n+1,k=>by simp[List.replicate_succ,dot,p_ w n]
theorem xY (w:Nat->Int) (x:Int):∀ (cs:List Int) (t k:Nat),t < cs.length->dot w (cs.set t (cs.getD t 0+x)) k=dot w cs k+x*w (k+t)
 | [],t,k,h=>by simp at h
 | c::cs,0,k,h=>by
  simp only[List.set_cons_zero,dot,List.getD_cons_zero,Nat.add_zero]
  rw[Int.add_mul]
  omega
 | c::cs,t+1,k,h=>by
  have ih:=xY w x cs t (k+1) (by simpa using h)
  simp only[List.set_cons_succ,dot,List.getD_cons_succ,ih]
  rw[show k+1+t=k+(t+1) by omega]
  omega
theorem vX {n:Nat}:∀ (cs:List Int) (k:Nat),k+cs.length=n+1->cs≠[]->dot (λa=>if a=n then 1 else 0) cs k=cs.getLast?.getD 0
 | [],k,_,h=>absurd rfl h
 | [c],k,h,_=>by
  have:k=n:=by simp at h;omega
  simp[dot,this]
 | c::d::cs,k,h,_=>by
  have ih:=vX (n:=n) (d::cs) (k+1) (by simp at h ⊢;omega) (by simp)
  have hk:¬ k=n:=by simp at h;omega
  have e:dot (λa=>if a=n then (1:Int) else 0) (c::d::cs) k=c*(if k=n then (1:Int) else 0)+dot (λa=>if a=n then (1:Int) else 0) (d::cs) (k+1):=rfl
  rw[e,ih,if_neg hk,Int.mul_zero,Int.zero_add,List.getLast?_cons_cons]
end My
namespace My
open PySem L2 MR
def iB (C:List Int):PV:=.lst (C.map .int)
theorem BK {C:List Int}{a:Nat}(h:a < C.length):atI (C.map PV.int) (a:Int)=some (.int (C.getD a 0)):=by
 refine cj ?_
 rw[List.getElem?_map,List.getElem?_eq_getElem h]
 simp[h]
theorem pG {C:List Int}(n:∀ c∈C,0<=c) (a:Nat):0<=C.getD a 0:=by
 rw[List.getD_eq_getElem?_getD]
 cases h:C[a]? with
 | none=>exact Int.le_refl _
 | some c=>exact n c (List.mem_of_getElem? h)
def ceE (M:PV) (row:List Sg) (C:List Int) (s:Slot) (Mr:List Int) (a:Nat):MR.Env:=[some M,some (aO row),some (iB C),some (.tup (s.1.map .str)),some (.bl s.2),some (iB Mr),some (.int a),none,none]
theorem Ei {M:PV}{row:List Sg}{s:Slot}{m:List Slot}{a k:Nat}{p:Str}{C Mr:List Int}(hk:s.1[k]?=some p) (hp:PatOk p) (hr:row.length < 1000) (ha:a<=row.length) (hC:C.length=row.length+1) (hM:Mr.length=row.length+1) (nC:∀ c∈C,0<=c) (nM:∀ c∈Mr,0<=c):
  ∃ Mr',Mr'.length=row.length+1/\(∀ c∈Mr',0<=c)/\dot (ways row m) Mr' 0=dot (ways row m) Mr 0+C.getD a 0*vK row s m a p/\turn (gN 7) [7,8] dg (.int k) (ceE M row C s Mr a)=some (ceE M row C s Mr' a):=by
 have h1:=BK (C:=C) (a:=a) (by omega)
 have h2:=vW (row:=row) (cut:=s.2) (a:=a) hk hp hr (by omega)
 have h3:atI (s.1.map PV.str) (k:Int)=some (.str p):=cj (by simp[hk])
 have h4:p.length<=1000000:=by have:=hp.le;omega
 have hc:=pG nC a
 unfold vK
 generalize C.getD a 0=c at *
 by_cases hpos:0 < c
 ·cases hf:fit p s.2 (seg row a p.length) with
  | false=>
   rw[hf] at h2
   refine⟨Mr,hM,nM,by simp,?_⟩
   simp[aR,ceE,iB,dg,h1,h2,hpos]
  | true=>
   rw[hf] at h2
   have hle:=fit_le hp hf
   have h5:=BK (C:=Mr) (a:=a+p.length) (by omega)
   have e:((a+p.length:Nat):Int)=(a:Int)+(p.length:Int):=by omega
   rw[e] at h5
   have h6:ixN Mr.length ((a:Int)+(p.length:Int))=some (a+p.length):=by
    unfold ixN
    rw[if_pos (by omega),if_pos (by omega),← e,Int.toNat_natCast]
   refine⟨Mr.set (a+p.length) (Mr.getD (a+p.length) 0+c),by simp[hM],λx hx=>?_,?_,?_⟩
   ·rcases List.mem_or_eq_of_mem_set hx with z | z
    ·exact nM x z
    ·have:=pG nM (a+p.length)
     omega
   ·rw[xY _ _ _ _ _ (by omega),if_pos rfl,Nat.zero_add]
   ·generalize Mr.getD (a+p.length) 0=q at *
    simp[aR,ceE,iB,dg,h1,h2,h3,h4,h5,h6,hpos,List.map_set]
 ·have hz:c=0:=by omega
  refine⟨Mr,hM,nM,by rw[hz];simp,?_⟩
  simp[aR,ceE,iB,dg,h1,hpos]
theorem sr {row:List Sg}{s:Slot}{m:List Slot}{a:Nat}:((List.range s.1.length).map λk=>vK row s m a (s.1.getD k ⟨#[]⟩)).sum=ways row (s::m) a:=by
 rw[Bc]
 congr 1
 refine List.ext_getElem? λj=>?_
 rcases Nat.lt_or_ge j s.1.length with h | h
 ·rw[List.getElem?_map,List.getElem?_range h,List.getElem?_map,List.getElem?_eq_getElem h]
  simp[h]
 ·rw[List.getElem?_eq_none (by simpa using h),List.getElem?_eq_none (by simpa using h)]
theorem Ej {M:PV}{row:List Sg}{s:Slot}{m:List Slot}{a:Nat}{C Mr:List Int}(hs:PatsOk s.1) (hr:row.length < 1000) (ha:a<=row.length) (hC:C.length=row.length+1) (hM:Mr.length=row.length+1) (nC:∀ c∈C,0<=c) (nM:∀ c∈Mr,0<=c):
  ∃ Mr',Mr'.length=row.length+1/\(∀ c∈Mr',0<=c)/\dot (ways row m) Mr' 0=dot (ways row m) Mr 0+C.getD a 0*ways row (s::m) a/\eX (ceE M row C s Mr a)=some (.nx (ceE M row C s Mr' a)):=by
 obtain⟨Mr',⟨d,e1,e2,e3,e4⟩,lp⟩:=bH (g:=gN 7) (ds:=[7,8]) (body:=dg) (λk:Nat=>PV.int (k:Nat)) (λMr:List Int=>ceE M row C s Mr a)
  (λr Mr'=>∃ d,List.range s.1.length=d++r/\Mr'.length=row.length+1/\(∀ c∈Mr',0<=c)/\dot (ways row m) Mr' 0=dot (ways row m) Mr 0+C.getD a 0*(d.map λk=>vK row s m a (s.1.getD k ⟨#[]⟩)).sum)
  (λk r Mr' ⟨d,e1,e2,e3,e4⟩=>by
   have hk:k < s.1.length:=List.mem_range.mp (by rw[e1];simp)
   have hk':s.1[k]?=some (s.1.getD k ⟨#[]⟩):=by rw[List.getElem?_eq_getElem hk];simp[hk]
   obtain⟨M2,q1,q2,q3,q4⟩:=Ei (M:=M) (m:=m) hk' (hs.ok _ (List.mem_of_getElem? hk')) hr ha hC e2 nC e3
   refine⟨M2,⟨d++[k],by rw[e1];simp,q1,q2,?_⟩,q4⟩
   rw[q3,e4,List.map_append,List.sum_append,Int.mul_add]
   simp
   omega)
  (List.range s.1.length) Mr ⟨[],rfl,hM,nM,by simp⟩
 rw[List.append_nil] at e1
 rw[← e1,sr] at e4
 refine⟨Mr',e2,e3,e4,?_⟩
 rw[← cD] at lp
 have hrg:rgI (s.1.length:Int)=true:=fC (by omega) (by have:=hs.le;omega)
 unfold ceE at lp ⊢
 simp[eX,hrg,lp]
end My
namespace My
open PySem L2 MR
theorem tK (w:Nat->Int):∀ (C:List Int) (k:Nat),dot w C k=((List.range C.length).map λa=>C.getD a 0*w (k+a)).sum
 | [],_=>rfl
 | c::C,k=>by
  rw[dot,tK w C (k+1),List.length_cons,List.range_succ_eq_map,List.map_cons,List.sum_cons,List.map_map]
  congr 1
  congr 1
  refine List.map_congr_left λa _=>?_
  show C.getD a 0*w (k+1+a)=(c::C).getD (a+1) 0*w (k+(a+1))
  rw[List.getD_cons_succ,show k+1+a=k+(a+1) by omega]
def coE (M:PV) (row:List Sg) (C:List Int) (s:Slot) (Mr:List Int):MR.Env:=[some M,some (aO row),some (iB C),some (.tup (s.1.map .str)),some (.bl s.2),some (iB Mr),none,none,none]
theorem za {M:PV}{row:List Sg}{s:Slot}{m:List Slot}{C:List Int}(hs:PatsOk s.1) (hr:row.length < 1000) (hC:C.length=row.length+1) (nC:∀ c∈C,0<=c):
  ∃ Mr',Mr'.length=row.length+1/\(∀ c∈Mr',0<=c)/\dot (ways row m) Mr' 0=dot (ways row (s::m)) C 0 /\
   bK (gN 6) [6,7,8] eX (cg 0 ((row.length+1:Nat):Int)) (coE M row C s (List.replicate (row.length+1) 0))=some (.nx (coE M row C s Mr')):=by
 obtain⟨Mr',⟨d,e1,e2,e3,e4⟩,lp⟩:=bH (g:=gN 6) (ds:=[6,7,8]) (body:=eX) (λk:Nat=>PV.int (k:Nat)) (λMr:List Int=>coE M row C s Mr)
  (λr Mr'=>∃ d,List.range (row.length+1)=d++r/\Mr'.length=row.length+1/\(∀ c∈Mr',0<=c)/\dot (ways row m) Mr' 0=(d.map λa=>C.getD a 0*ways row (s::m) a).sum)
  (λa r Mr' ⟨d,e1,e2,e3,e4⟩=>by
   have ha:a < row.length+1:=List.mem_range.mp (by rw[e1];simp)
   obtain⟨M2,q1,q2,q3,q4⟩:=Ej (M:=M) (m:=m) (a:=a) hs hr (by omega) hC e2 nC e3
   refine⟨M2,⟨d++[a],by rw[e1];simp,q1,q2,?_⟩,?_⟩
   ·rw[q3,e4,List.map_append,List.sum_append]
    simp
   ·unfold ceE at q4
    simp[aR,coE,q4])
  (List.range (row.length+1)) (List.replicate (row.length+1) 0) ⟨[],rfl,by simp,(λc hc=>by rw[List.eq_of_mem_replicate hc];exact Int.le_refl _),by rw[p_];rfl⟩
 rw[List.append_nil] at e1
 refine⟨Mr',e2,e3,?_,by rw[cD];exact lp⟩
 rw[e4,tK,← e1,hC]
 simp
end My
namespace My
open PySem L2 MR
theorem rep0 (n:Nat):(List.replicate n [PV.int 0]).flatten=(List.replicate n (0:Int)).map PV.int:=by
 induction n with
 | zero=>rfl
 | succ n ih=>rw[List.replicate_succ,List.flatten_cons,ih,List.replicate_succ];rfl
theorem Fy {n:Nat}(h:n < 1000):oG (.lst [.int 0]) (.int ((n:Int)+1))=some (iB (List.replicate (n+1) 0)):=by
 have e:((n:Int)+1).toNat=n+1:=by omega
 have h1:-1000000<=(n:Int)+1/\(n:Int)+1<=1000000/\[PV.int 0].length*((n:Int)+1).toNat<=1000000:=⟨by omega,by omega,by rw[e];simp;omega⟩
 have h2:=rep0 (n+1)
 unfold iB
 rw[← h2]
 rw[e] at h1
 simp only[oG,e]
 rw[if_pos h1]
def cnE (M:PV) (row:List Sg) (C:List Int):MR.Env:=[some M,some (aO row),some (iB C),none,none,none,none,none,none]
theorem vY {rv:PV->PV->Option PV}{R:PV}{i:Nat}{env env':MR.Env}{row:List Sg}(h:rv (.lst [.int 0]) (.int ((row.length:Int)+1))=some R) (he:env[1]?=some (some (aO row))) (hs:env.set i (some R)=env'):
  aJ i (b2 rv (aU (aa (bC (.int 0)) az)) (b2 aY (b1 lenV (bV 1)) (bC (.int 1)))) env=some (.nx env'):=by
 have hl:(row.map sgP).length=row.length:=List.length_map ..
 have hv:bV 1 env=some (aO row):=by simp[bV,he]
 have h5:b1 lenV (bV 1) env=some (.int (row.length:Int)):=by simp[he,aO]
 simp only[G7,Ff,h5]
 simp[h,hs]
theorem HW {body:MR.Env->Option Out}{row:List Sg}{env env':MR.Env}(hr:row.length < 1000) (he:env[1]?=some (some (aO row))) (hc:clr [6,7,8] env=env) (q:bK (gN 6) [6,7,8] body (cg 0 ((row.length+1:Nat):Int)) env=some (.nx env')):
  bY (gN 6) (iR1 (b2 aY (b1 lenV (bV 1)) (bC (.int 1)))) [6,7,8] body env=some (.nx env'):=by
 have hrg:rgI ((row.length+1:Nat):Int)=true:=fC (by omega) (by omega)
 have e:((row.length+1:Nat):Int)=(row.length:Int)+1:=by omega
 rw[e] at hrg q
 have h5:b1 lenV (bV 1) env=some (.int (row.length:Int)):=by simp[he,aO]
 have h6:b2 aY (b1 lenV (bV 1)) (bC (.int 1)) env=some (.int ((row.length:Int)+1)):=by rw[Ff,h5];simp
 have h7:iR1 (b2 aY (b1 lenV (bV 1)) (bC (.int 1))) env=some (cg 0 ((row.length:Int)+1)):=by
  simp only[KD,h6]
  simp[hrg]
 unfold bY
 rw[h7,hc]
 exact q
theorem Lz {f1 f2:MR.Env->Option Out}{M X X' Z Z':PV}{A:List PV}{c:PV}(s1:f1 [some M,some Z,some X,some (.tup A),some c,none,none,none,none]=some (.nx [some M,some Z,some X,some (.tup A),some c,some Z',none,none,none])) (s2:f2 [some M,some Z,some X,some (.tup A),some c,some Z',none,none,none]=some (.nx [some M,some Z,some X,some (.tup A),some c,some X',none,none,none])):
  turn (gT [3,4]) [3,4,6,7,8] (aD f1 (aD f2 (sMv 2 5))) (.tup [.tup A,c]) [some M,some Z,some X,none,none,none,none,none,none]=some [some M,some Z,some X',none,none,none,none,none,none]:=by
 have s3:aD f1 (aD f2 (sMv 2 5)) [some M,some Z,some X,some (.tup A),some c,none,none,none,none]=some (.nx [some M,some Z,some X',some (.tup A),some c,none,none,none,none]):=by
  rw[aL s1,aL s2]
  simp
 generalize aD f1 (aD f2 (sMv 2 5))=f at *
 rw[aR]
 simp[s3]
theorem BL {M:PV}{row:List Sg}{s:Slot}{m:List Slot}{C:List Int}(hs:PatsOk s.1) (hr:row.length < 1000) (hC:C.length=row.length+1) (nC:∀ c∈C,0<=c):
  ∃ C',C'.length=row.length+1/\(∀ c∈C',0<=c)/\dot (ways row m) C' 0=dot (ways row (s::m)) C 0 /\
   turn (gT [3,4]) [3,4,6,7,8] gb (slP s) (cnE M row C)=some (cnE M row C'):=by
 obtain⟨C',q1,q2,q3,q4⟩:=za (M:=M) (m:=m) hs hr hC nC
 refine⟨C',q1,q2,q3,?_⟩
 exact Lz (vY (Fy hr) rfl rfl) (HW hr rfl rfl q4)
theorem Ek {row:List Sg}{m:List Slot}(hm:cz m) (hr:row.length < 1000):dq [mP m,aO row]=some (.int (ways row m 0)):=by
 obtain⟨C,⟨e1,e2,e3⟩,lp⟩:=bH (g:=gT [3,4]) (ds:=[3,4,6,7,8]) (body:=gb) slP (λC:List Int=>cnE (mP m) row C)
  (λr C=>C.length=row.length+1/\(∀ c∈C,0<=c)/\(∀ s∈r,PatsOk s.1)/\dot (ways row r) C 0=ways row m 0)
  (λs r C ⟨e1,e2,e3,e4⟩=>by
   obtain⟨C',q1,q2,q3,q4⟩:=BL (M:=mP m) (m:=r) (e3 s List.mem_cons_self) hr e1 e2
   exact⟨C',⟨q1,q2,λz hz=>e3 z (List.mem_cons_of_mem _ hz),by rw[q3,e4]⟩,q4⟩)
  m (1::List.replicate row.length 0) ⟨by simp,(λc hc=>by
   rcases List.mem_cons.mp hc with z | z
   ·rw[z];decide
   ·rw[List.eq_of_mem_replicate z];exact Int.le_refl _),hm,by
   show 1*ways row m 0+dot (ways row m) (List.replicate row.length 0) 1=_
   rw[p_]
   omega⟩
 obtain⟨e3,e4⟩:=e3
 have hne:C≠[]:=λz=>by rw[z] at e1;simp at e1
 have e5:ways row m 0=C.getLast?.getD 0:=by
  rw[← e4]
  have:ways row []=λa=>if a=row.length then 1 else 0:=rfl
  rw[this]
  exact vX C 0 (by omega) hne
 have s1:=vY (i:=2) (env:=[some (mP m),some (aO row),none,none,none,none,none,none,none]) (env':=cnE (mP m) row (List.replicate (row.length+1) 0)) (Fy hr) rfl rfl
 have s2:mX lC 2 (bC (.int 0)) (bC (.int 1)) (cnE (mP m) row (List.replicate (row.length+1) 0))=some (.nx (cnE (mP m) row (1::List.replicate row.length 0))):=by
  have h6:ixN (row.length+1) 0=some 0:=by
   unfold ixN
   rw[if_pos (by decide),if_pos (by omega)]
   rfl
  unfold cnE
  simp[iB,List.replicate_succ,h6]
 have s3:bY (gT [3,4]) (iV (bV 0)) [3,4,6,7,8] gb (cnE (mP m) row (1::List.replicate row.length 0))=some (.nx (cnE (mP m) row C)):=by
  unfold cnE at lp ⊢
  generalize iB (1::List.replicate row.length 0)=R at *
  generalize iB C=B at *
  have hmP:mP m=.tup (m.map slP):=rfl
  rw[hmP] at lp ⊢
  simp[itV,lp]
 have s4:bD (b2 ixP (bV 2) (b1 mW (bC (.int 1)))) (cnE (mP m) row C)=some (.rt (.int (ways row m 0))):=by
  have ha:atI (C.map PV.int) (-1)=some (.int (ways row m 0)):=by
   rw[Hi,Ba hne,e5]
   cases hC:C.getLast? with
   | none=>exact absurd (List.getLast?_eq_none_iff.mp hC) hne
   | some c=>rfl
  unfold cnE
  simp[iB,ha]
 have hb:jt [some (mP m),some (aO row),none,none,none,none,none,none,none]=some (.rt (.int (ways row m 0))):=by
  unfold jt
  rw[aL s1,aL s2,aL s3]
  exact s4
 simp[dq,hb]
end My
namespace My
open PySem L2 MR
def ext (o:Nat) (e:Bool) (r:List Sg):List Sg:=if o=3 then r else (bN o,e)::r
def allR:List (List Nat×Bool)->List (List Sg)
 | []=>[[]]
 | x::O=>x.1.flatMap λo=>(allR O).map (ext o x.2)
theorem LC (m:List Slot) (o:Nat) (e:Bool) (r:List Sg) (t:Sta):cs m (ext o e r) t=opM m o e (cs m r) t:=by
 unfold ext
 split
 ·rename_i h;subst h;simp[opM]
 ·rename_i h;rw[Bp h];rfl
theorem vZ (m:List Slot):∀ (O:List (List Nat×Bool)) (t:Sta),((allR O).map λr=>cs m r t).sum=cnt m O t
 | [],t=>by simp[allR,cs,cnt_nil]
 | x::O,t=>by
  have ih:cnt m O=λt=>((allR O).map λr=>cs m r t).sum:=by funext u;exact(vZ m O u).symm
  rw[cnt_cons,allR,m7 (λo=>(allR O).map (ext o x.2)) (λr=>cs m r t)]
  unfold opr
  congr 1
  refine List.map_congr_left λo _=>?_
  rw[ih,List.map_map]
  have h:=xR m ([o],x.2) (cs m) t (allR O)
  have h1:∀ f,opr m ([o],x.2) f t=opM m o x.2 f t:=λf=>by simp[opr]
  rw[h1] at h
  rw[h]
  congr 1
  refine List.map_congr_left λr _=>?_
  rw[h1]
  exact LC m o x.2 r t
def lJ (o:Nat) (e:Bool) (r:List Sg):List Sg:=if o=3 then r else r++[(bN o,e)]
def grow (R:List (List Sg)) (x:List Nat×Bool):List (List Sg):=R.flatMap λr=>x.1.map λo=>lJ o x.2 r
theorem v4:∀ (O:List (List Nat×Bool)) (R:List (List Sg)),O.foldl grow R=R.flatMap λr=>(allR O).map λs=>r++s
 | [],R=>by simp[allR]
 | x::O,R=>by
  rw[List.foldl_cons,v4 O]
  unfold grow
  rw[List.flatMap_assoc]
  congr 1
  funext r
  rw[List.flatMap_map,allR,List.map_flatMap]
  congr 1
  funext o
  rw[List.map_map]
  refine List.map_congr_left λs _=>?_
  show lJ o x.2 r++s=r++ext o x.2 s
  unfold lJ ext
  split <;> simp
theorem qb (O:List (List Nat×Bool)):O.foldl grow [[]]=allR O:=by rw[v4];simp
def prod (O:List (List Nat×Bool)):Nat:=(O.map λx=>x.1.length).foldr (·*·) 1
theorem v6:∀ O:List (List Nat×Bool),(allR O).length=prod O
 | []=>rfl
 | x::O=>by
  have ih:=v6 O
  have:∀ l:List Nat,(l.flatMap λo=>(allR O).map (ext o x.2)).length=l.length*prod O:=λl=>by
   induction l with
   | nil=>simp
   | cons a l il=>rw[List.flatMap_cons,List.length_append,List.length_map,il,ih,List.length_cons,Nat.succ_mul];omega
  rw[allR,this]
  rfl
theorem qd:∀ {O:List (List Nat×Bool)}{r:List Sg},r∈allR O->r.length<=O.length
 | [],r,h=>by simp[allR] at h;subst h;simp
 | x::O,r,h=>by
  obtain⟨o,_,h⟩:=List.mem_flatMap.mp h
  obtain⟨s,hs,rfl⟩:=List.mem_map.mp h
  have:=qd hs
  unfold ext
  split <;> simp <;> omega
end My
namespace My
open PySem L2 MR
def rsP (R:List (List Sg)):PV:=.lst (R.map aO)
theorem HX {o:Nat}(h:o < 4) (h3:o≠3):ixP (au o) (.int 1)=some (.str (bN o)):=by
 rcases(show o=0\/o=1\/o=2 by omega) with rfl | rfl | rfl <;> simp[au,bN]
def rE (G RP W K M r o:Option PV):MR.Env:=[G,RP,W,K,M,r,o]
theorem HY {G RP:PV}{w:List (List Nat)}{k:Nat}{M:List (List Sg)}{r:List Sg}{o:Nat}(ho:o < 4) (hM:M.length < 1000) (hr:r.length < 1000) (hw:w.length < 1000) (hk:k < 1000):
  turn (gN 6) [6] dM (au o) (rE (some G) (some RP) (some (wdP w)) (some (.int (k:Nat))) (some (rsP M)) (some (aO r)) none)=
   some (rE (some G) (some RP) (some (wdP w)) (some (.int (k:Nat))) (some (rsP (M++[lJ o (decide (k+1=w.length)) r]))) (some (aO r)) none):=by
 have e1:(M.map aO).length < 1000000:=by rw[List.length_map];omega
 unfold lJ rE
 by_cases h3:o=3
 ·subst h3
  rw[if_pos rfl]
  have e2:rsP (M++[r])=.lst (M.map aO++[aO r]):=by simp[rsP]
  rw[e2]
  unfold rsP
  generalize M.map aO=MP at *
  generalize aO r=RR at *
  generalize wdP w=WP at *
  simp[aR,dM,au,e1]
 ·rw[if_neg h3]
  have hi:=HX ho h3
  have hn:oh (au o)=false:=by rw[DK ho];simp[h3]
  have e2:rsP (M++[r++[(bN o,decide (k+1=w.length))]])=.lst (M.map aO++[.lst (r.map sgP++[.tup [.str (bN o),.bl (decide (k+1=w.length))]])]):=by simp[rsP,aO,sgP]
  have e3:(r.map sgP).length+1<=1000000:=by rw[List.length_map];omega
  have hwl:w.length<=1000000:=by omega
  rw[e2]
  have ei:decide (((k:Int)+1)=(w.length:Int))=decide (k+1=w.length):=by
   by_cases q:k+1=w.length
   ·rw[decide_eq_true q,decide_eq_true (by omega)]
   ·rw[decide_eq_false q,decide_eq_false (by omega)]
  have hrp:aO r=.lst (r.map sgP):=rfl
  have hrs:rsP M=.lst (M.map aO):=rfl
  have hwp:wdP w=.lst (w.map aC):=rfl
  rw[hrp,hrs,hwp]
  have hlw:(w.map aC).length=w.length:=List.length_map ..
  generalize w.map aC=WP at *
  generalize M.map aO=MP at *
  generalize r.map sgP=RR at *
  clear hi hn e2 hrp hrs hwp
  rcases(show o=0\/o=1\/o=2 by omega) with rfl | rfl | rfl <;> simp[aR,dM,au,bN,e1,e3,hlw,hwl,ei]
end My
namespace My
open PySem L2 MR
theorem tL {α β:Type}(f:α->β):∀ (l:List α) (M:List β),l.foldl (λM a=>M++[f a]) M=M++l.map f
 | [],M=>by simp
 | a::l,M=>by rw[List.foldl_cons,tL f l];simp
theorem tQ {α β:Type}(f:α->List β):∀ (l:List α) (M:List β),l.foldl (λM a=>M++f a) M=M++l.flatMap f
 | [],M=>by simp
 | a::l,M=>by rw[List.foldl_cons,tQ f l];simp
theorem H_ {G RP:PV}{w:List (List Nat)}{k:Nat}{r:List Sg}{os:List Nat}(ho:C4 os) (hr:r.length < 1000) (hw:w.length < 1000) (hk:k < 1000){M:List (List Sg)}(hM:M.length+os.length < 1000):
  bK (gN 6) [6] dM (os.map au) (rE (some G) (some RP) (some (wdP w)) (some (.int (k:Nat))) (some (rsP M)) (some (aO r)) none)=
   some (.nx (rE (some G) (some RP) (some (wdP w)) (some (.int (k:Nat))) (some (rsP (M++os.map λo=>lJ o (decide (k+1=w.length)) r))) (some (aO r)) none)):=by
 have:=fJ (g:=gN 6) (ds:=[6]) (body:=dM) au (λM=>rE (some G) (some RP) (some (wdP w)) (some (.int (k:Nat))) (some (rsP M)) (some (aO r)) none)
  (λM o=>M++[lJ o (decide (k+1=w.length)) r]) (λys M=>(∀ o∈ys,o < 4)/\M.length+ys.length < 1000) os M ⟨ho,hM⟩
  λo ys M ⟨h1,h2⟩=>⟨⟨λy hy=>h1 y (List.mem_cons_of_mem _ hy),by simp at h2 ⊢;omega⟩,HY (h1 o List.mem_cons_self) (by omega) hr hw hk⟩
 rw[this,tL]
theorem LK {G RP:PV}{w:List (List Nat)}{k:Nat}{r:List Sg}{os:List Nat}(ho:C4 os) (hos:w[k]?=some os) (hr:r.length < 1000) (hw:w.length < 1000){M:List (List Sg)}(hM:M.length+os.length < 1000):
  turn (gN 5) [5,6] fD (aO r) (rE (some G) (some RP) (some (wdP w)) (some (.int (k:Nat))) (some (rsP M)) none none)=
   some (rE (some G) (some RP) (some (wdP w)) (some (.int (k:Nat))) (some (rsP (M++os.map λo=>lJ o (decide (k+1=w.length)) r))) none none):=by
 have hk:k < w.length:=by
  rcases Nat.lt_or_ge k w.length with z | z
  ·exact z
  ·rw[List.getElem?_eq_none z] at hos;cases hos
 have lp:=H_ (G:=G) (RP:=RP) (k:=k) ho hr hw (by omega) hM
 have ha:atI (w.map aC) (k:Int)=some (.lst (os.map au)):=cj (by rw[List.getElem?_map,hos];rfl)
 have hwp:wdP w=.lst (w.map aC):=rfl
 have hl:(os.map au).length<=1000000:=by rw[List.length_map];omega
 rw[hwp] at lp ⊢
 unfold rE at lp ⊢
 generalize w.map aC=WP at *
 generalize os.map au=OP at *
 generalize rsP (M++os.map λo=>lJ o (decide (k+1=w.length)) r)=M2 at *
 generalize rsP M=M1 at *
 generalize aO r=RR at *
 simp[aR,fD,ha,hl,lp]
theorem Ia {G RP:PV}{w:List (List Nat)}{k:Nat}{os:List Nat}(ho:C4 os) (hos:w[k]?=some os) (hw:w.length < 1000){R:List (List Sg)}(hR:∀ r∈R,r.length < 1000) (hl:R.length*os.length < 1000):
  bK (gN 5) [5,6] fD (R.map aO) (rE (some G) (some RP) (some (wdP w)) (some (.int (k:Nat))) (some (rsP [])) none none)=
   some (.nx (rE (some G) (some RP) (some (wdP w)) (some (.int (k:Nat))) (some (rsP (grow R (os,decide (k+1=w.length))))) none none)):=by
 have:=fJ (g:=gN 5) (ds:=[5,6]) (body:=fD) aO (λM=>rE (some G) (some RP) (some (wdP w)) (some (.int (k:Nat))) (some (rsP M)) none none)
  (λM r=>M++os.map λo=>lJ o (decide (k+1=w.length)) r) (λys M=>(∀ r∈ys,r.length < 1000)/\M.length+ys.length*os.length < 1000) R [] ⟨hR,by simpa using hl⟩
  λr ys M ⟨h1,h2⟩=>by
   rw[List.length_cons,Nat.succ_mul] at h2
   exact⟨⟨λy hy=>h1 y (List.mem_cons_of_mem _ hy),by rw[List.length_append,List.length_map];omega⟩,LK ho hos (h1 r List.mem_cons_self) hw (by omega)⟩
 rw[this,tQ]
 rfl
theorem El (R:List (List Sg)) (x:List Nat×Bool):(grow R x).length=R.length*x.1.length:=by
 unfold grow
 induction R with
 | nil=>simp
 | cons r R ih=>rw[List.flatMap_cons,List.length_append,ih,List.length_map,List.length_cons,Nat.succ_mul];omega
theorem Ib {G:PV}{w:List (List Nat)}{k:Nat}{os:List Nat}(ho:C4 os) (hos:w[k]?=some os) (hw:w.length < 1000){R:List (List Sg)}(hR:∀ r∈R,r.length < 1000) (hl:R.length < 1000) (hl2:(grow R (os,decide (k+1=w.length))).length < 1000):
  turn (gN 3) [3,4,5,6] gK (.int (k:Nat)) (rE (some G) (some (rsP R)) (some (wdP w)) none none none none)=
   some (rE (some G) (some (rsP (grow R (os,decide (k+1=w.length))))) (some (wdP w)) none none none none):=by
 rw[El] at hl2
 have lp:=Ia (G:=G) (RP:=rsP R) ho hos hw hR hl2
 have hrs:rsP R=.lst (R.map aO):=rfl
 have h0:rsP []=.lst []:=rfl
 have hl':(R.map aO).length<=1000000:=by rw[List.length_map];omega
 rw[h0,hrs] at lp
 rw[hrs]
 unfold rE at lp ⊢
 generalize R.map aO=RP at *
 generalize rsP (grow R (os,decide (k+1=w.length)))=M2 at *
 generalize wdP w=WP at *
 simp[aR,gK,hl',lp]
end My
namespace My
open PySem L2 MR
def Bd (O:List (List Nat×Bool)) (R:List (List Sg)):Prop:=∀ n,((O.take n).foldl grow R).length < 1000/\∀ r∈(O.take n).foldl grow R,r.length < 1000
theorem Bd.now {O:List (List Nat×Bool)}{R:List (List Sg)}(h:Bd O R):R.length < 1000/\∀ r∈R,r.length < 1000:=by simpa using h 0
theorem Bd.next {x:List Nat×Bool}{O:List (List Nat×Bool)}{R:List (List Sg)}(h:Bd (x::O) R):Bd O (grow R x):=λn=>by simpa using h (n+1)
theorem Bd.left {A B:List (List Nat×Bool)}{R:List (List Sg)}(h:Bd (A++B) R):Bd A R:=λn=>by
 by_cases q:n<=A.length
 ·have:=h n
  rwa [List.take_append_of_le_length q] at this
 ·have:=h A.length
  rw[List.take_append_of_le_length (Nat.le_refl _),List.take_length] at this
  rw[List.take_of_length_le (by omega)]
  exact this
theorem Bd.right:∀ {A B:List (List Nat×Bool)}{R:List (List Sg)},Bd (A++B) R->Bd B (A.foldl grow R)
 | [],B,R,h=>h
 | x::A,B,R,h=>by
  rw[List.foldl_cons]
  exact Bd.right (A:=A) (Bd.next h)
def wz (w:List (List Nat)):List (List Nat×Bool):=w.zip (eZ w.length)
theorem Fz {w:List (List Nat)}:wz w=(List.range w.length).map λk=>(w.getD k [],decide (k+1=w.length)):=by
 refine List.ext_getElem (by simp[wz,eZ]) λk h1 h2=>?_
 have hk:k < w.length:=by simpa using h2
 simp[wz,eZ,List.getElem_zip,hk]
theorem qe:∀ g:List (List (List Nat)),g.flatten.zip (aK g)=g.flatMap wz
 | []=>rfl
 | w::g=>by
  have e:aK (w::g)=eZ w.length++aK g:=by simp[aK]
  rw[List.flatten_cons,e,List.zip_append (by simp[eZ]),qe g,List.flatMap_cons]
  rfl
theorem qO {α β S:Type}(f:α->List β) (st:S->β->S):∀ (l:List α) (s:S),(l.flatMap f).foldl st s=l.foldl (λs a=>(f a).foldl st s) s
 | [],s=>rfl
 | a::l,s=>by rw[List.flatMap_cons,List.foldl_append,List.foldl_cons,qO f st l]
theorem Ie {G:PV}{w:List (List Nat)}(hw:w.length < 1000) (h4:∀ os∈w,C4 os){R:List (List Sg)}(hB:Bd (wz w) R):
  turn (gN 2) [2,3,4,5,6] gM (wdP w) (rE (some G) (some (rsP R)) none none none none none)=some (rE (some G) (some (rsP ((wz w).foldl grow R))) none none none none none):=by
 have lp:=fJ (g:=gN 3) (ds:=[3,4,5,6]) (body:=gK) (λk:Nat=>PV.int (k:Nat)) (λR=>rE (some G) (some (rsP R)) (some (wdP w)) none none none none)
  (λR k=>grow R (w.getD k [],decide (k+1=w.length))) (λys R=>(∀ k∈ys,k < w.length)/\Bd (ys.map λk=>(w.getD k [],decide (k+1=w.length))) R) (List.range w.length) R ⟨λk hk=>List.mem_range.mp hk,by rw[← Fz];exact hB⟩
  λk ys R ⟨h1,h2⟩=>by
   have hk:=h1 k List.mem_cons_self
   have hg:w[k]?=some (w.getD k []):=by rw[List.getD_eq_getElem?_getD,List.getElem?_eq_getElem hk];rfl
   refine⟨⟨λy hy=>h1 y (List.mem_cons_of_mem _ hy),h2.next⟩,Ib (h4 _ (List.mem_of_getElem? hg)) hg hw h2.now.2 h2.now.1 h2.next.now.1⟩
 have e:(List.range w.length).foldl (λR k=>grow R (w.getD k [],decide (k+1=w.length))) R=(wz w).foldl grow R:=by rw[Fz,List.foldl_map]
 rw[e] at lp
 have hwp:wdP w=.lst (w.map aC):=rfl
 have hlw:(w.map aC).length=w.length:=List.length_map ..
 have hrg:rgI (w.length:Int)=true:=fC (by omega) (by omega)
 have hwl:w.length<=1000000:=by omega
 have hrl:(cg 0 (w.length:Int)).length<=1000000:=by rw[cD];simp;omega
 rw[← cD] at lp
 rw[hwp] at lp ⊢
 unfold rE at lp ⊢
 generalize rsP ((wz w).foldl grow R)=R2 at *
 generalize rsP R=R1 at *
 generalize w.map aC=WP at *
 simp[aR,gM,hlw,hrg,hwl,hrl,lp]
theorem Ig {g:List (List (List Nat))}(hg:g.length < 1000) (hw:∀ w∈g,w.length < 1000/\∀ os∈w,C4 os) (hB:Bd (g.flatten.zip (aK g)) [[]]):cW [grP g]=some (rsP (allR (g.flatten.zip (aK g)))):=by
 have lp:=fJ (g:=gN 2) (ds:=[2,3,4,5,6]) (body:=gM) wdP (λR=>rE (some (grP g)) (some (rsP R)) none none none none none)
  (λR w=>(wz w).foldl grow R) (λys R=>(∀ w∈ys,w.length < 1000/\∀ os∈w,C4 os)/\Bd (ys.flatMap wz) R) g [[]] ⟨hw,by rw[← qe];exact hB⟩
  λw ys R ⟨h1,h2⟩=>by
   rw[List.flatMap_cons] at h2
   have hw:=h1 w List.mem_cons_self
   exact⟨⟨λy hy=>h1 y (List.mem_cons_of_mem _ hy),h2.right⟩,Ie hw.1 hw.2 h2.left⟩
 rw[← qO,← qe,qb] at lp
 have hgp:grP g=.lst (g.map wdP):=rfl
 have hl:(g.map wdP).length<=1000000:=by rw[List.length_map];omega
 have h0:rsP [[]]=.lst [.lst []]:=rfl
 rw[h0,hgp] at lp
 rw[hgp]
 unfold rE at lp
 generalize rsP (allR (g.flatten.zip (aK g)))=R2 at *
 generalize g.map wdP=GP at *
 simp[cW,oK,hl,lp]
end My
namespace My
open PySem L2 MR
theorem xZ {i j:Nat}(hi:i < 4) (hj:j < 4):eqP (au i) (au j)=some (decide (i=j)):=by
 have h1:PyData.strOk ("u" : Str)=true:=by decide +kernel
 have h2:PyData.strOk ("-" : Str)=true:=by decide +kernel
 have h3:=yZ
 have h4:¬ (("-" : Str) = "u"):=λe=>h3 e.symm
 have hu:∀ x:Int,SeqAt.shaped (.tuple [.int x,.str "u"])=true:=λx=>by simp[SeqAt.shaped,PyData.canLay0,PyData.canLayAll0,PyData.depth,PyData.depthAll,h1]
 have hd:∀ x:Int,SeqAt.shaped (.tuple [.int x,.str "-"])=true:=λx=>by simp[SeqAt.shaped,PyData.canLay0,PyData.canLayAll0,PyData.depth,PyData.depthAll,h2]
 have hn:SeqAt.shaped .none=true:=by simp[SeqAt.shaped,PyData.canLay0,PyData.depth]
 rcases lt4 hi with rfl | rfl | rfl | rfl <;> rcases lt4 hj with rfl | rfl | rfl | rfl <;> simp[au,eqP,eqS,eqD,toD,dF,hu,hd,hn,PyData.eqv,PyData.eqvAll,h3,h4]
theorem Em (is:List Nat) (n:Nat):fc (is.map au) none (some (n:Int))=(is.take n).map au:=by
 have e:HT.sIx (is.map au).length (is.map au).length (some (n:Int))=min n is.length:=by
  simp only[HT.sIx,List.length_map];rw[if_neg (by omega)];omega
 have e0:HT.sIx (is.map au).length 0 none=0:=rfl
 unfold fc
 rw[e,e0]
 simp[List.map_take]
def kep (os:List Nat) (s a:Nat):List Nat:=(os.filter λo=>!decide (o=s)).take (if a < 8 then 1 else 0)
def sh1 (os:List Nat) (s a:Nat):List Nat:=os.filter λo=>decide (o=s)||decide (o∈kep os s a)
theorem LQ {os:List Nat}(h:C4 os) (s a:Nat):C4 (sh1 os s a):=λi hi=>h i (List.mem_filter.mp hi).1
theorem LR {os:List Nat}(h:C4 os) (s a:Nat):C4 (kep os s a):=λi hi=>h i (List.mem_filter.mp (List.mem_of_mem_take hi)).1
theorem Ih {os:List Nat}{s:Nat}(h:s∈os) (a:Nat):s∈sh1 os s a:=List.mem_filter.mpr ⟨h,by simp⟩
theorem Ii {os:List Nat}(h:os.Nodup) (s a:Nat):(sh1 os s a).length<=if a < 8 then 2 else 1:=by
 have h1:(sh1 os s a).Nodup:=h.filter _
 have h2:∀ x∈sh1 os s a,x∈s::kep os s a:=λx hx=>by
  have:=(List.mem_filter.mp hx).2
  rw[Bool.or_eq_true,decide_eq_true_eq,decide_eq_true_eq] at this
  rcases this with z | z
  ·rw[z];exact List.mem_cons_self
  ·exact List.mem_cons_of_mem _ z
 have h3:=p8 h1 h2
 have h4:(kep os s a).length<=if a < 8 then 1 else 0:=by unfold kep;exact List.length_take_le _ _
 rw[List.length_cons] at h3
 split <;> rename_i q <;> simp only[q,if_true,if_false] at h4 <;> omega
theorem En {os S:List Nat}(ho:C4 os) (hS:C4 S){a:Nat}{s:Nat}(ha:S[a]?=some s):
  cY [none,some (aC S),some (.int (a:Nat))] (gN 0) ig ie (os.map au)=some ((os.filter λo=>!decide (o=s)).map au):=by
 have hs:s < 4:=hS s (List.mem_of_getElem? ha)
 have hat:atI (S.map au) (a:Int)=some (au s):=cj (by rw[List.getElem?_map,ha];rfl)
 refine gn _ _ (λo=>!decide (o=s)) os λo h=>⟨[some (au o),some (aC S),some (.int (a:Nat))],rfl,?_,λ_=>by simp[ie]⟩
 have he:=xZ (ho o h) hs
 have hsp:aC S=.lst (S.map au):=rfl
 rw[hsp]
 generalize S.map au=SP at *
 generalize au o=A at *
 generalize au s=B at *
 simp[ig,hat,he]
theorem Ij {os S:List Nat}(ho:C4 os) (hS:C4 S){a:Nat}{s:Nat}(ha:S[a]?=some s):
  cY [none,some (aC (kep os s a)),some (aC S),some (.int (a:Nat))] (gN 0) fZ ik (os.map au)=some ((sh1 os s a).map au):=by
 have hs:s < 4:=hS s (List.mem_of_getElem? ha)
 have hat:atI (S.map au) (a:Int)=some (au s):=cj (by rw[List.getElem?_map,ha];rfl)
 refine gn _ _ (λo=>decide (o=s)||decide (o∈kep os s a)) os λo h=>⟨[some (au o),some (aC (kep os s a)),some (aC S),some (.int (a:Nat))],rfl,?_,λ_=>by simp[ik]⟩
 have he:=xZ (ho o h) hs
 have hin:=xJ (ho o h) (LR ho s a)
 have hsp:aC S=.lst (S.map au):=rfl
 rw[hsp]
 generalize S.map au=SP at *
 generalize aC (kep os s a)=KP at *
 generalize au o=A at *
 generalize au s=B at *
 by_cases q:o=s
 ·rw[decide_eq_true q] at he
  simp[fZ,hat,he,q]
 ·rw[decide_eq_false q] at he
  simp[fZ,hat,he,hin,q]
end My
namespace My
open PySem L2 MR
def shW (S:List Nat):Nat->List (List Nat)->List (List Nat)
 | _,[]=>[]
 | a,os::w=>sh1 os (S.getD a 0) a::shW S (a+1) w
def shG (S:List Nat):Nat->List (List (List Nat))->List (List (List Nat))
 | _,[]=>[]
 | a,w::g=>shW S a w::shG S (a+w.length) g
theorem jD (S:List Nat):∀ (w:List (List Nat)) (a:Nat),(shW S a w).length=w.length
 | [],_=>rfl
 | os::w,a=>by simp[shW,jD S w]
theorem x_ (S:List Nat):∀ (w v:List (List Nat)) (a:Nat),shW S a (w++v)=shW S a w++shW S (a+w.length) v
 | [],v,a=>rfl
 | os::w,v,a=>by
  rw[List.cons_append,shW,x_ S w v,shW,List.cons_append,List.length_cons]
  congr 3;omega
theorem j4 (S:List Nat):∀ (g:List (List (List Nat))) (a:Nat),(shG S a g).flatten=shW S a g.flatten
 | [],_=>rfl
 | w::g,a=>by rw[shG,List.flatten_cons,List.flatten_cons,x_,j4 S g]
theorem v7 (S:List Nat):∀ (g:List (List (List Nat))) (a:Nat),aK (shG S a g)=aK g
 | [],_=>rfl
 | w::g,a=>by
  have e:∀ (v:List (List Nat)) (h:List (List (List Nat))),aK (v::h)=eZ v.length++aK h:=λv h=>by simp[aK]
  rw[shG,e,e,jD,v7 S g]
theorem BP (S:List Nat):∀ (g:List (List (List Nat))) (a:Nat),(∀ w∈g,w≠[])->∀ w∈shG S a g,w≠[]
 | [],_,_,w,hw=>by cases hw
 | v::g,a,h,w,hw=>by
  rw[shG,List.mem_cons] at hw
  rcases hw with rfl | hw
  ·intro z
   have:=jD S v a
   rw[z] at this
   exact h v List.mem_cons_self (List.length_eq_zero_iff.mp this.symm)
  ·exact BP S g _ (λu hu=>h u (List.mem_cons_of_mem _ hu)) w hw
theorem v8 (S:List Nat):∀ (w:List (List Nat)) (a k:Nat){os:List Nat},w[k]?=some os->(shW S a w)[k]?=some (sh1 os (S.getD (a+k) 0) (a+k))
 | [],_,_,_,h=>by simp at h
 | o::w,a,0,os,h=>by simp at h;subst h;rfl
 | o::w,a,k+1,os,h=>by
  have:=v8 S w (a+1) k (os:=os) (by simpa using h)
  rw[show a+(k+1)=a+1+k by omega]
  simpa [shW] using this
theorem yc:∀ {O:List (List Nat)}{S T:List Nat}{a:Nat},(∀ k,T[k]?=S[a+k]?)->cN O T=true->cN (shW S a O) T=true
 | [],S,[],a,_,_=>rfl
 | [],S,_::_,a,_,h=>by cases h
 | _::_,S,[],a,_,h=>by cases h
 | os::O,S,t::T,a,e,h=>by
  simp only[cN,Bool.and_eq_true,decide_eq_true_eq] at h
  have e0:S.getD a 0=t:=by
   have:=e 0
   simp at this
   rw[List.getD_eq_getElem?_getD,← this];rfl
  simp only[shW,cN,Bool.and_eq_true,decide_eq_true_eq]
  refine⟨by rw[e0];exact Ih h.1 a,yc (λk=>?_) h.2⟩
  have:=e (k+1)
  rw[show a+1+k=a+(k+1) by omega,← this]
  simp
def sE (G S F A W s o q:Option PV):MR.Env:=[G,S,F,A,W,s,o,q]
theorem Ik {G WP:PV}{S:List Nat}(hS:C4 S){os:List Nat}(ho:C4 os) (hol:os.length < 1000){W:List (List Nat)}(hW:W.length < 1000){a:Nat}(ha:a < S.length) (ha2:a < 1000):
  turn (gN 6) [6,7] eU (aC os) (sE (some G) (some (aC S)) none (some (.int (a:Nat))) (some WP) (some (wdP W)) none none)=
   some (sE (some G) (some (aC S)) none (some (.int ((a+1:Nat):Int))) (some WP) (some (wdP (W++[sh1 os (S.getD a 0) a]))) none none):=by
 have hsa:S[a]?=some (S.getD a 0):=by rw[List.getD_eq_getElem?_getD,List.getElem?_eq_getElem ha];rfl
 have c1:=En ho hS hsa
 have c2:=Ij ho hS hsa
 generalize S.getD a 0=s at *
 have hk:=Em (os.filter λo=>!decide (o=s)) (if a < 8 then 1 else 0)
 have hkk:((os.filter λo=>!decide (o=s)).take (if a < 8 then 1 else 0))=kep os s a:=rfl
 rw[hkk] at hk
 have hi:((if a < 8 then 1 else 0:Nat):Int)=if (a:Int) < 8 then 1 else 0:=by
  by_cases q:a < 8
  ·rw[if_pos q,if_pos (by omega)];rfl
  ·rw[if_neg q,if_neg (by omega)];rfl
 rw[hi] at hk
 have e2:wdP (W++[sh1 os s a])=.lst (W.map aC++[.lst ((sh1 os s a).map au)]):=by simp[wdP,aC]
 have e1:(W.map aC).length < 1000000:=by rw[List.length_map];omega
 have hol':(os.map au).length<=1000000:=by rw[List.length_map];omega
 have hfl:((os.filter λo=>!decide (o=s)).map au).length<=1000000:=by rw[List.length_map];have:=List.length_filter_le (λo=>!decide (o=s)) os;omega
 have hsl:((sh1 os s a).map au).length<=1000000:=by rw[List.length_map];have:=List.length_filter_le (λo=>decide (o=s)||decide (o∈kep os s a)) os;unfold sh1;omega
 have hkp:aC (kep os s a)=.lst ((kep os s a).map au):=rfl
 have hwp:wdP W=.lst (W.map aC):=rfl
 have hop:aC os=.lst (os.map au):=rfl
 rw[e2,hwp,hop]
 rw[hkp] at c2
 unfold sE
 generalize (kep os s a).map au=KP at *
 generalize (os.filter λo=>!decide (o=s)).map au=FP at *
 generalize (sh1 os s a).map au=NP at *
 generalize os.map au=OP at *
 generalize W.map aC=WW at *
 generalize aC S=SP at *
 simp[aR,eU,c1,c2,hk,e1,hol',hfl,hsl,gP]
end My
namespace My
open PySem L2 MR
theorem yd (S:List Nat):∀ (w W:List (List Nat)) (a:Nat),w.foldl (λ(z:List (List Nat)×Nat) os=>(z.1++[sh1 os (S.getD z.2 0) z.2],z.2+1)) (W,a)=(W++shW S a w,a+w.length)
 | [],W,a=>by simp[shW]
 | os::w,W,a=>by
  rw[List.foldl_cons,yd S w]
  simp[shW]
  omega
theorem Il {G WP:PV}{S:List Nat}(hS:C4 S) (hSl:S.length < 900){w:List (List Nat)}(h4:∀ os∈w,C4 os/\os.length < 1000){a:Nat}(ha:a+w.length<=S.length):
  bK (gN 6) [6,7] eU (w.map aC) (sE (some G) (some (aC S)) none (some (.int (a:Nat))) (some WP) (some (wdP [])) none none)=
   some (.nx (sE (some G) (some (aC S)) none (some (.int ((a+w.length:Nat):Int))) (some WP) (some (wdP (shW S a w))) none none)):=by
 have:=fJ (g:=gN 6) (ds:=[6,7]) (body:=eU) aC (λz:List (List Nat)×Nat=>sE (some G) (some (aC S)) none (some (.int (z.2:Nat))) (some WP) (some (wdP z.1)) none none)
  (λz os=>(z.1++[sh1 os (S.getD z.2 0) z.2],z.2+1)) (λys z=>(∀ os∈ys,C4 os/\os.length < 1000)/\z.1.length+ys.length < 1000/\z.2+ys.length<=S.length) w ([],a) ⟨h4,by simp;omega,ha⟩
  λos ys z ⟨h1,h2,h3⟩=>by
   rw[List.length_cons] at h2 h3
   have ho:=h1 os List.mem_cons_self
   exact⟨⟨λy hy=>h1 y (List.mem_cons_of_mem _ hy),by rw[List.length_append];simp;omega,by show z.2+1+ys.length<=_;omega⟩,Ik hS ho.1 ho.2 (by omega) (by omega) (by omega)⟩
 rw[this,yd]
 simp
theorem Im {G:PV}{S:List Nat}(hS:C4 S) (hSl:S.length < 900){w:List (List Nat)}(h4:∀ os∈w,C4 os/\os.length < 1000){a:Nat}(ha:a+w.length<=S.length){F:List (List (List Nat))}(hF:F.length < 1000):
  turn (gH 2 (gN 4)) [4,5,6,7] (onx f9) (wdP w) (sE (some G) (some (aC S)) (some (grP F)) (some (.int (a:Nat))) none none none none)=
   some (sE (some G) (some (aC S)) (some (grP (F++[shW S a w]))) (some (.int ((a+w.length:Nat):Int))) none none none none):=by
 have lp:=Il (G:=G) (WP:=wdP w) hS hSl h4 ha
 have e2:grP (F++[shW S a w])=.lst (F.map wdP++[.lst ((shW S a w).map aC)]):=by simp[grP,wdP]
 have hwp:wdP (shW S a w)=.lst ((shW S a w).map aC):=rfl
 have hww:wdP w=.lst (w.map aC):=rfl
 have h0:wdP []=.lst []:=rfl
 have hf:grP F=.lst (F.map wdP):=rfl
 have e1:(F.map wdP).length < 1000000:=by rw[List.length_map];omega
 have hl:(w.map aC).length<=1000000:=by rw[List.length_map];omega
 rw[hwp,h0,hww] at lp
 rw[e2,hf,hww]
 unfold sE at lp ⊢
 generalize (shW S a w).map aC=NP at *
 generalize w.map aC=WP at *
 generalize F.map wdP=FP at *
 generalize aC S=SP at *
 simp[aR,f9,k_,e1,hl,lp]
theorem v9 (S:List Nat):∀ (g F:List (List (List Nat))) (a:Nat),g.foldl (λ(z:List (List (List Nat))×Nat) w=>(z.1++[shW S z.2 w],z.2+w.length)) (F,a)=(F++shG S a g,a+g.flatten.length)
 | [],F,a=>by simp[shG]
 | w::g,F,a=>by
  rw[List.foldl_cons,v9 S g]
  simp[shG]
  omega
theorem Eo {g:List (List (List Nat))}{S:List Nat}(hS:C4 S) (hSl:S.length < 900) (h4:∀ w∈g,∀ os∈w,C4 os/\os.length < 1000) (hl:g.flatten.length=S.length) (hg:g.length < 1000):
  dj [grP g,aC S]=some (grP (shG S 0 g)):=by
 have lp:=fJ (g:=gH 2 (gN 4)) (ds:=[4,5,6,7]) (body:=onx f9) wdP (λz:List (List (List Nat))×Nat=>sE (some (grP g)) (some (aC S)) (some (grP z.1)) (some (.int (z.2:Nat))) none none none none)
  (λz w=>(z.1++[shW S z.2 w],z.2+w.length)) (λys z=>(∀ w∈ys,∀ os∈w,C4 os/\os.length < 1000)/\z.1.length+ys.length < 1000/\z.2+ys.flatten.length<=S.length) g ([],0) ⟨h4,by simpa using hg,by show 0+g.flatten.length<=S.length;omega⟩
  λw ys z ⟨h1,h2,h3⟩=>by
   rw[List.length_cons] at h2
   rw[List.flatten_cons,List.length_append] at h3
   exact⟨⟨λy hy=>h1 y (List.mem_cons_of_mem _ hy),by rw[List.length_append];simp;omega,by show z.2+w.length+ys.flatten.length<=_;omega⟩,Im hS hSl (h1 w List.mem_cons_self) (by omega) (by omega)⟩
 rw[v9,List.nil_append] at lp
 have hgp:grP g=.lst (g.map wdP):=rfl
 have h0:grP []=.lst []:=rfl
 have hgl:(g.map wdP).length<=1000000:=by rw[List.length_map];omega
 have hn:((0:Nat):Int)=0:=rfl
 rw[h0,hgp,hn] at lp
 rw[hgp]
 unfold sE at lp
 generalize grP (shG S 0 g)=R at *
 generalize g.map wdP=GP at *
 generalize aC S=SP at *
 generalize (0+g.flatten.length:Nat)=z at *
 simp[dj,nF,hgl,lp]
end My
namespace My
open PySem L2 MR
theorem BR (ns:List Int) (hn:ns.length<=63):∃ cs:List Int,1<=cs.length/\cs.length < 12/\aY (.lst (fc (ns.map PV.int) (some 2) (some 4))) (.lst (fc [PV.int 0] (some ((ns.length:Int) / 3)) none))=some (.lst (cs.map .int)):=by
 have e1:fc (ns.map PV.int) (some 2) (some 4)=((ns.drop (min 2 ns.length)).take (min 4 ns.length - min 2 ns.length)).map PV.int:=by
  unfold fc
  have e1:HT.sIx (ns.map PV.int).length 0 (some 2)=min 2 ns.length:=by rw[List.length_map];exact HT.sIx_nat _ _ 2
  have e2:HT.sIx (ns.map PV.int).length (ns.map PV.int).length (some 4)=min 4 ns.length:=by rw[List.length_map];exact HT.sIx_nat _ _ 4
  rw[e1,e2,List.map_take,List.map_drop]
 obtain⟨q,eq⟩:∃ q:Nat,(ns.length:Int) / 3=q:=⟨ns.length / 3,by omega⟩
 have e2:fc [PV.int 0] (some ((ns.length:Int) / 3)) none=(([0]:List Int).drop (min q 1)).map PV.int:=by
  rw[eq]
  unfold fc
  rw[HT.sIx_nat,HT.sIx_none]
  have hh:[PV.int 0].length=1:=rfl
  rw[hh]
  rcases(show min q 1=0\/min q 1=1 by omega) with z | z <;> rw[z] <;> rfl
 rw[e1,e2]
 have hl:((ns.drop (min 2 ns.length)).take (min 4 ns.length - min 2 ns.length)).length=min 4 ns.length - min 2 ns.length:=by
  rw[List.length_take,List.length_drop];omega
 have hl2:(([0]:List Int).drop (min q 1)).length=1 - min q 1:=by simp
 refine⟨(ns.drop (min 2 ns.length)).take (min 4 ns.length - min 2 ns.length)++([0]:List Int).drop (min q 1),by rw[List.length_append,hl,hl2];omega,by rw[List.length_append,hl,hl2];omega,?_⟩
 generalize (ns.drop (min 2 ns.length)).take (min 4 ns.length - min 2 ns.length)=A at *
 generalize ([0]:List Int).drop (min q 1)=B at *
 have:A.length+B.length<=1000000:=by omega
 simp[this]
theorem FJ (m:List Slot):∀ (R:List Sg) (t:Sta),0<=cs m R t
 | [],t=>by rw[cs,fin];split <;> omega
 | b::R,t=>by
  rw[cs]
  split
  ·exact oU λy _=>FJ m R y.2
  ·exact Int.le_refl _
theorem BV {m:List Slot}(hm:cz m):∀ (n j:Nat) (fs:List Nat) (R:List Sg),m.length - j=n->j<=m.length->FtV (m.drop j) fs->rfB (bz (m.drop j) fs) R=true->1<=cs m R (j,0,0)
 | 0,j,fs,R,h,hj,hf,hr=>by
  have e:j=m.length:=by omega
  subst e
  rw[List.drop_length] at hf hr
  rw[Bu]
  have:R=[]:=by
   cases R with
   | nil=>rfl
   | cons b R=>cases fs <;> simp[bz,rfB] at hr
  rw[if_pos this]
  omega
 | n+1,j,fs,R,h,hj,hf,hr=>by
  have hlt:j < m.length:=by omega
  rw[List.drop_eq_getElem_cons hlt] at hf hr
  obtain⟨f,p,gs,rfl,h2,h3⟩:=hf
  have hs:m[j]?=some m[j]:=List.getElem?_eq_getElem hlt
  have ok:=hm _ (List.getElem_mem hlt)
  have hp:p∈m[j].1:=List.mem_of_getElem? h2
  rw[xU hs ok]
  have e:bz (m[j]::m.drop (j+1)) (f::gs)=bA m[j] p++bz (m.drop (j+1)) gs:=by
   show bA m[j] (m[j].1.getD f ⟨#[]⟩)++_=_
   rw[rW h2]
  rw[e,tE,Bool.and_eq_true,eY] at hr
  have hfit:fit p m[j].2 (R.take p.length)=true:=by rw[Bh (ok.ok p hp)];exact hr.1
  have ih:=BV hm n (j+1) gs (R.drop p.length) (by omega) hlt h3 hr.2
  have:=vQ (f:=λp=>if fit p m[j].2 (R.take p.length)=true then cs m (R.drop p.length) (j+1,0,0) else 0) (λq _=>by split;exact FJ m _ _;exact Int.le_refl _) hp
  have this:(if fit p m[j].2 (R.take p.length)=true then cs m (R.drop p.length) (j+1,0,0) else 0)<=_:=this
  rw[if_pos hfit] at this
  omega
theorem ye:∀ (O:List (List Nat×Bool)) (k:Nat),(∀ (j:Nat) (x:List Nat×Bool),O[j]?=some x->x.1.length<=if j+k < 8 then 2 else 1)->prod O<=2 ^ (8 - k)
 | [],k,_=>by show 1<=_;exact Nat.one_le_two_pow
 | x::O,k,h=>by
  have ih:=ye O (k+1) λj y hj=>by
   have:=h (j+1) y (by simpa using hj)
   rwa [show j+1+k=j+(k+1) by omega] at this
  have h0:=h 0 x rfl
  have e:prod (x::O)=x.1.length*prod O:=rfl
  rw[e]
  by_cases q:k < 8
  ·rw[if_pos (by omega)] at h0
   have:2 ^ (8 - k)=2*2 ^ (8 - (k+1)):=by rw[show 8 - k=(8 - (k+1))+1 by omega,Nat.pow_succ];omega
   rw[this]
   exact Nat.mul_le_mul h0 ih
  ·rw[if_neg (by omega)] at h0
   rw[show 8 - (k+1)=0 by omega] at ih
   rw[show 8 - k=0 by omega]
   exact Nat.le_trans (Nat.mul_le_mul h0 ih) (Nat.le_refl _)
theorem FN {O:List (List Nat×Bool)}(h:∀ (j:Nat) (x:List Nat×Bool),O[j]?=some x->x.1.length<=if j < 8 then 2 else 1) (hl:O.length < 900):Bd O [[]]:=λn=>by
 rw[qb,v6]
 have h1:prod (O.take n)<=2 ^ (8 - 0):=ye _ 0 λj x hj=>by
  rw[List.getElem?_take] at hj
  split at hj
  ·exact h j x hj
  ·cases hj
 refine⟨by have:2 ^ (8 - 0)=256:=rfl;omega,λr hr=>?_⟩
 have:=qd hr
 have:=List.length_take_le n O
 have:(O.take n).length<=O.length:=by rw[List.length_take];omega
 omega
theorem v_:∀ (g:List (List (List Nat))) (p:Nat){w:List (List Nat)}(q:Nat) (x:List Nat),g[p]?=some w->q < w.length->∃ k,(g.set p (w.set q x)).flatten=g.flatten.set k x
 | [],p,w,q,x,h,_=>by simp at h
 | v::g,0,w,q,x,h,hq=>by
  simp at h
  subst h
  refine⟨q,?_⟩
  rw[List.set_cons_zero,List.flatten_cons,List.flatten_cons,List.set_append_left _ _ hq]
 | v::g,p+1,w,q,x,h,hq=>by
  obtain⟨k,hk⟩:=v_ g p q x (by simpa using h) hq
  refine⟨v.length+k,?_⟩
  rw[List.set_cons_succ,List.flatten_cons,List.flatten_cons,hk,List.set_append_right _ _ (by omega)]
  congr 2
  omega
theorem wg:∀ (g:List (List (List Nat))) (p:Nat){w v:List (List Nat)},g[p]?=some w->v.length=w.length->aK (g.set p v)=aK g
 | [],p,w,v,h,_=>by simp at h
 | u::g,0,w,v,h,hl=>by
  simp at h
  subst h
  simp[aK,hl]
 | u::g,p+1,w,v,h,hl=>by
  have:=wg g p (w:=w) (v:=v) (by simpa using h) hl
  simp only[aK,List.set_cons_succ,List.flatMap_cons] at this ⊢
  rw[this]
structure TSh (g:List (List (List Nat))):Prop where
 ne:∀ w∈g,w≠[]
 c4:∀ is∈g.flatten,C4 is
 le:g.flatten.length < 300
 sz:∀ (k:Nat) (os:List Nat),g.flatten[k]?=some os->os.length<=if k < 8 then 2 else 1
theorem mF:∀ {g:List (List (List Nat))},(∀ w∈g,w≠[])->g.length<=g.flatten.length
 | [],_=>by simp
 | w::g,h=>by
  have h1:=mF λv hv=>h v (List.mem_cons_of_mem _ hv)
  have h2:=List.length_pos_iff.mpr (h w List.mem_cons_self)
  rw[List.length_cons,List.flatten_cons,List.length_append]
  omega
theorem yf {g:List (List (List Nat))}{w:List (List Nat)}(h:w∈g):w.length<=g.flatten.length:=by
 obtain⟨a,b,rfl⟩:=List.append_of_mem h
 simp[List.flatten_append]
 omega
theorem TSh.set {g:List (List (List Nat))}(h:TSh g){p q:Nat}{w:List (List Nat)}(hw:g[p]?=some w) (hq:q < w.length){o:Nat}(ho:o < 4):TSh (g.set p (w.set q [o]))/\aK (g.set p (w.set q [o]))=aK g:=by
 obtain⟨k,hk⟩:=v_ g p q [o] hw hq
 refine⟨⟨λv hv=>?_,λis hi=>?_,by rw[hk,List.length_set];exact h.le,λj os hj=>?_⟩,wg g p hw (by simp)⟩
 ·rcases List.mem_or_eq_of_mem_set hv with z | z
  ·exact h.ne v z
  ·intro e
   have:(w.set q [o]).length=0:=by rw[← z,e];rfl
   rw[List.length_set] at this
   omega
 ·rw[hk] at hi
  rcases List.mem_or_eq_of_mem_set hi with z | z
  ·exact h.c4 is z
  ·rw[z];intro i hi;rw[List.mem_singleton] at hi;rw[hi];exact ho
 ·rw[hk,List.getElem?_set] at hj
  split at hj
  ·split at hj
   ·cases hj;simp;split <;> omega
   ·cases hj
  ·exact h.sz j os hj
theorem TSh.rows {g:List (List (List Nat))}(h:TSh g):cW [grP g]=some (rsP (allR (g.flatten.zip (aK g))))/\∀ r∈allR (g.flatten.zip (aK g)),r.length < 900:=by
 have hl:=h.le
 have hz:(g.flatten.zip (aK g)).length<=g.flatten.length:=by rw[List.length_zip];omega
 refine⟨Ig (by have:=mF h.ne;omega) (λw hw=>⟨by have:=yf hw;omega,λos ho=>h.c4 os (List.mem_flatten.mpr ⟨w,hw,ho⟩)⟩) (FN (λj x hj=>?_) (by omega)),λr hr=>by have:=qd hr;omega⟩
 have:g.flatten[j]?=some x.1:=by
  rw[List.getElem?_zip_eq_some] at hj
  exact hj.1
 exact h.sz j x.1 this
theorem wj {α:Type}(f:α->Int):∀ (l:List α) (d:Int),l.foldl (λd a=>d+f a) d=d+(l.map f).sum
 | [],d=>by simp
 | a::l,d=>by rw[List.foldl_cons,wj f l];simp;omega
theorem Ep {m:List Slot}(hm:cz m) (O:List (List Nat×Bool)):((allR O).map λr=>ways r m 0).sum=cnt m O (0,0,0):=by
 rw[← vZ]
 congr 1
 exact List.map_congr_left λr _=>(HD hm r).symm
theorem Od {g:List (List (List Nat))}:okP 6 (grP g):=by
 have h1:PyData.strOk ("u" : Str)=true:=by decide +kernel
 have h2:PyData.strOk ("-" : Str)=true:=by decide +kernel
 have ho:∀ i,okP 3 (au i):=λi=>by
  unfold au
  split <;> simp[okP,h1,h2]
 have hs:∀ is,okP 4 (aC is):=λis=>by
  unfold aC
  intro x hx
  obtain⟨i,_,rfl⟩:=List.mem_map.mp hx
  exact ho i
 have hw:∀ w,okP 5 (wdP w):=λw=>by
  unfold wdP
  intro x hx
  obtain⟨i,_,rfl⟩:=List.mem_map.mp hx
  exact hs i
 unfold grP
 intro x hx
 obtain⟨i,_,rfl⟩:=List.mem_map.mp hx
 exact hw i
theorem Oe (g:List (List (List Nat))):eqP (grP g) (grP g)=some true:=vI Od (by decide)
end My
namespace My
open PySem L2 MR
def lE (P M F G S C W K D R N:Option PV):MR.Env:=[P,M,F,G,S,C,W,K,D,R,N]
theorem L_ {P M F SP:PV}{g:List (List (List Nat))}(h:TSh g) (hne:g≠[]) (c:Int):∃ g2,TSh g2/\aK g2=aK g/\(¬ c % 4=1->g2=g) /\
  onx (nIf 3 (tV (b2 eqQ (b2 bW (bV 5) (bC (.int 4))) (bC (.int 1)))) (yU 3 6 (b2 bW (b2 cA (bV 5) (bC (.int 4))) (b1 lenV (bV 3))) (b2 bW (b2 cA (bV 5) (bC (.int 16))) (b1 lenV (bV 6))) (b2 ixP (aU (aa (aU (aa (bG (aa (bC (.int 0)) (aa (bC (.str "u")) az))) az)) (aa (aU (aa (bG (aa (bC (.int 0)) (aa (bC (.str "-")) az))) az)) (aa (aU (aa (bG (aa (bC (.int 1)) (aa (bC (.str "-")) az))) az)) az)))) (b2 bW (b2 cA (bV 5) (bC (.int 64))) (bC (.int 3))))) sNx) (lE (some P) (some M) (some F) (some (grP g)) (some SP) (some (.int c)) none none none none none)=some (.nx (lE (some P) (some M) (some F) (some (grP g2)) (some SP) (some (.int c)) none none none none none)):=by
 by_cases q:c % 4=1
 ·have hgl:0 < g.length:=List.length_pos_iff.mpr hne
  have hge:=mF h.ne
  have hle:=h.le
  obtain⟨p,hp⟩:∃ p:Nat,c / 4 % (g.length:Int)=p:=⟨(c / 4 % (g.length:Int)).toNat,by have:=Int.emod_nonneg (c / 4) (b:=(g.length:Int)) (by omega);omega⟩
  have hpl:p < g.length:=by have:=Int.emod_lt_of_pos (c / 4) (show (0:Int) < (g.length:Int) by omega);omega
  have hw:g[p]?=some g[p]:=List.getElem?_eq_getElem hpl
  have hwm:g[p]∈g:=List.getElem_mem hpl
  have hwl:=yf hwm
  have hw0:0 < g[p].length:=List.length_pos_iff.mpr (h.ne _ hwm)
  generalize g[p]=w at *
  obtain⟨n,hn⟩:∃ n:Nat,c / 16 % (w.length:Int)=n:=⟨(c / 16 % (w.length:Int)).toNat,by have:=Int.emod_nonneg (c / 16) (b:=(w.length:Int)) (by omega);omega⟩
  have hnl:n < w.length:=by have:=Int.emod_lt_of_pos (c / 16) (show (0:Int) < (w.length:Int) by omega);omega
  obtain⟨o,ho⟩:∃ o:Nat,c / 64 % 3=o:=⟨(c / 64 % 3).toNat,by omega⟩
  have ho3:o < 3:=by omega
  obtain⟨t1,t2⟩:=h.set hw hnl (o:=o) (by omega)
  refine⟨_,t1,t2,λz=>absurd q z,?_⟩
  have e3:b2 ixP (aU (aa (aU (aa (bG (aa (bC (.int 0)) (aa (bC (.str "u")) az))) az)) (aa (aU (aa (bG (aa (bC (.int 0)) (aa (bC (.str "-")) az))) az)) (aa (aU (aa (bG (aa (bC (.int 1)) (aa (bC (.str "-")) az))) az)) az)))) (b2 bW (b2 cA (bV 5) (bC (.int 64))) (bC (.int 3))) (lE (some P) (some M) (some F) none (some SP) (some (.int c)) none none none none none)=some (aC [o]):=by
   unfold lE
   rcases(show o=0\/o=1\/o=2 by omega) with rfl | rfl | rfl <;> simp[ho,atI,ixN,aC,au]
  have eg:grP (g.set p (w.set n [o]))=.lst ((g.map wdP).set p (.lst ((w.map aC).set n (aC [o])))):=by simp[grP,wdP,List.map_set]
  have hgp:grP g=.lst (g.map wdP):=rfl
  have hlg:(g.map wdP).length=g.length:=List.length_map ..
  have hlw:(w.map aC).length=w.length:=List.length_map ..
  have hat:(g.map wdP)[p]?=some (.lst (w.map aC)):=by rw[List.getElem?_map,hw];rfl
  have i1:ixN g.length (p:Int)=some p:=by unfold ixN;rw[if_pos (by omega),if_pos (by omega)];simp
  have i2:ixN w.length (n:Int)=some n:=by unfold ixN;rw[if_pos (by omega),if_pos (by omega)];simp
  have b1':(0:Int) < (g.length:Int):=by omega
  have b2':(0:Int) < (w.length:Int):=by omega
  have b3:g.length<=1000000:=by omega
  have b4:w.length<=1000000:=by omega
  have b5:g.length≠0:=by omega
  have b6:w.length≠0:=by omega
  rw[eg,hgp]
  generalize hH3:b2 ixP (aU (aa (aU (aa (bG (aa (bC (.int 0)) (aa (bC (.str "u")) az))) az)) (aa (aU (aa (bG (aa (bC (.int 0)) (aa (bC (.str "-")) az))) az)) (aa (aU (aa (bG (aa (bC (.int 1)) (aa (bC (.str "-")) az))) az)) az)))) (b2 bW (b2 cA (bV 5) (bC (.int 64))) (bC (.int 3)))=H3 at *
  unfold lE at e3 ⊢
  generalize g.map wdP=GP at *
  generalize w.map aC=WP at *
  generalize aC [o]=OP at *
  generalize g.length=gl at *
  generalize w.length=wl at *
  simp[q,e3,hlg,hlw,hgl,hw0,b1',b2',b3,b4,b5,b6,hp,hn,i1,i2,hat]
 ·refine⟨g,h,rfl,λ_=>rfl,?_⟩
  unfold lE
  generalize grP g=GP at *
  simp[q]
theorem Er {P M F G S C K R:PV}{d W:Int}(hc:dq [M,R]=some (.int W)):
  turn (gN 9) [9] iR R (lE (some P) (some M) (some F) (some G) (some S) (some C) none (some K) (some (.int d)) none none)=some (lE (some P) (some M) (some F) (some G) (some S) (some C) none (some K) (some (.int (d+W))) none none):=by
 unfold lE iR
 generalize dq=f at *
 simp[aR,hc]
theorem Io {P F G S C K:PV}{m:List Slot}(hm:cz m) (L:List (List Sg)) (d:Int) (hL:∀ r∈L,r.length < 900):
  bK (gN 9) [9] iR (L.map aO) (lE (some P) (some (mP m)) (some F) (some G) (some S) (some C) none (some K) (some (.int d)) none none)=some (.nx (lE (some P) (some (mP m)) (some F) (some G) (some S) (some C) none (some K) (some (.int (d+(L.map λr=>ways r m 0).sum))) none none)):=by
 have:=fJ (g:=gN 9) (ds:=[9]) (body:=iR) aO (λd:Int=>lE (some P) (some (mP m)) (some F) (some G) (some S) (some C) none (some K) (some (.int d)) none none)
  (λd r=>d+ways r m 0) (λys _=>∀ r∈ys,r.length < 900) L d hL
  λr ys d h=>⟨λy hy=>h y (List.mem_cons_of_mem _ hy),Er (Ek (row:=r) hm (Nat.lt_trans (h r List.mem_cons_self) (by decide)))⟩
 rw[this,wj]
theorem law_true (ns:List Int) (hn:ns.length<=63):qM [.frz (ns.map PV.int)]=some (.bl true):=by
 obtain⟨cs0,hc0,hc1,hc2⟩:=BR ns hn
 obtain⟨m,hm,hml,h1⟩:=DG cs0 (by omega)
 have hl:m.length < 12:=by omega
 have hne:m≠[]:=λz=>by rw[z] at hml;simp at hml;omega
 have c0:aW [.frz (ns.map PV.int),.int 0]=some (.int (cell ns 0)):=xW ns 0
 have c1:aW [.frz (ns.map PV.int),.int 1]=some (.int (cell ns 1)):=xW ns 1
 generalize hP:PV.frz (ns.map PV.int)=P at c0 c1
 have s1:aJ 1 (aQ d8 (aa (b2 aY (bSl (bV 0) (oS (bC (.int 2))) (oS (bC (.int 4)))) (bSl (aU (aa (bC (.int 0)) az)) (oS (b2 cA (b1 lenV (bV 0)) (bC (.int 3)))) oN)) az)) (lE (some P) none none none none none none none none none none)=some (.nx (lE (some P) (some (mP m)) none none none none none none none none none)):=by
  subst hP
  unfold lE
  simp at hc2
  simp[hc2,h1]
 have hfc:=BJ hm (by omega) c0
 have hrg:rgI (m.length:Int)=true:=fC (by omega) (by omega)
 have hfo:=HS (c:=cell ns 0) hm
 generalize (List.range m.length).map (jZ (cell ns 0) m)=fs at *
 have s2:aJ 2 (eO [none,some 0,some 1] (iR1 (b1 lenV (bV 1))) (gN 0) fM jW) (lE (some P) (some (mP m)) none none none none none none none none none)=some (.nx (lE (some P) (some (mP m)) (some (fP fs)) none none none none none none none none)):=by
  have hle:(cg 0 (m.length:Int)).length<=1000000:=by rw[cD];simp;omega
  unfold fP lE
  unfold mP at hfc ⊢
  simp[hrg,hle,hfc]
 obtain⟨mk1,mk2⟩:=vV hm hfo
 obtain⟨g,S,fin0,hSl,hfit⟩:=Lk (n:=cell ns 1) hm hfo (by omega) mk1 (mk2 hne)
 have s3:oH (gL [3,4]) (aQ fj (aa (bV 1) (aa (bV 2) (aa (aQ aW (aa (bV 0) (aa (bC (.int 1)) az))) az)))) (lE (some P) (some (mP m)) (some (fP fs)) none none none none none none none none)=some (.nx (lE (some P) (some (mP m)) (some (fP fs)) (some (grP g)) (some (aC S)) none none none none none none)):=by
  unfold lE
  generalize fj=mf at *
  simp[c1,hfit]
 have hSe:=fO fin0.ins
 have hgl:=mF fin0.ne
 have hSne:S≠[]:=λz=>by
  have hr:=rT fin0.rf
  rw[z] at hr
  have:(cG [] (aK g)).length=0:=rfl
  rw[this] at hr
  exact mk2 hne (List.length_eq_zero_iff.mp hr)
 have hpos:0 < S.length:=List.length_pos_iff.mpr hSne
 have hnd:∀ is∈g.flatten,C4 is/\is.length<=9/\is.Nodup:=λis hi=>by
  obtain⟨w,hw,hi⟩:=List.mem_flatten.mp hi
  exact fin0.c4 w hw is hi
 have hsh:=Eo (g:=g) fin0.s4 (by omega) (λw hw os ho=>⟨(fin0.c4 w hw os ho).1,by have:=(fin0.c4 w hw os ho).2.1;omega⟩) hSe.symm (by omega)
 have hT:TSh (shG S 0 g):=by
  refine⟨BP S g 0 fin0.ne,λis hi=>?_,by rw[j4,jD];omega,λk os hk=>?_⟩
  ·rw[j4] at hi
   obtain⟨k,hk⟩:=List.getElem?_of_mem hi
   have hkl:k < g.flatten.length:=by
    rcases Nat.lt_or_ge k g.flatten.length with z | z
    ·exact z
    ·rw[List.getElem?_eq_none (by rw[jD];exact z)] at hk;cases hk
   rw[v8 S g.flatten 0 k (List.getElem?_eq_getElem hkl)] at hk
   cases hk
   exact LQ (hnd _ (List.getElem_mem hkl)).1 _ _
  ·rw[j4] at hk
   have hkl:k < g.flatten.length:=by
    rcases Nat.lt_or_ge k g.flatten.length with z | z
    ·exact z
    ·rw[List.getElem?_eq_none (by rw[jD];exact z)] at hk;cases hk
   rw[v8 S g.flatten 0 k (List.getElem?_eq_getElem hkl)] at hk
   cases hk
   have:=Ii (hnd _ (List.getElem_mem hkl)).2.2 (S.getD (0+k) 0) (0+k)
   rw[Nat.zero_add] at this ⊢
   exact this
 have hins:cN (shG S 0 g).flatten S=true:=by rw[j4];exact yc (λk=>by rw[Nat.zero_add]) fin0.ins
 have hend:=v7 S g 0
 have hg1:shG S 0 g≠[]:=λz=>by
  have e:=fO hins
  rw[z] at e
  exact hSne (List.length_eq_zero_iff.mp e)
 have hbare:1<=cnt m ((S.map λi=>[i]).zip (aK g)) (0,0,0):=by
  rw[Bq]
  exact BV hm m.length 0 fs _ rfl (Nat.zero_le _) (by simpa using hfo) (by simpa using fin0.rf)
 have hN:1<=cnt m ((shG S 0 g).flatten.zip (aK (shG S 0 g))) (0,0,0):=by rw[hend];exact Int.le_trans hbare (xT hins _)
 generalize shG S 0 g=g1 at *
 have s4:onx (uz 3 dj (aa (bV 3) (aa (bV 4) az))) (lE (some P) (some (mP m)) (some (fP fs)) (some (grP g)) (some (aC S)) none none none none none none)=some (.nx (lE (some P) (some (mP m)) (some (fP fs)) (some (grP g1)) (some (aC S)) none none none none none none)):=by
  have e:asL (g1.map wdP)=some (g1.map λw=>w.map aC):=by
   have:=ph (g1.map λw=>w.map aC)
   rw[List.map_map] at this
   exact this
  have hgp:grP g1=.lst (g1.map wdP):=rfl
  rw[hgp] at hsh ⊢
  unfold lE
  generalize dj=f at *
  generalize g1.map wdP=GP at *
  generalize grP g=G0 at *
  simp[hsh,e]
 have s5:onx (hid 3 (aJ 5 (aQ aW (aa (bV 0) (aa (bC (.int 0)) az))))) (lE (some P) (some (mP m)) (some (fP fs)) (some (grP g1)) (some (aC S)) none none none none none none)=some (.nx (lE (some P) (some (mP m)) (some (fP fs)) (some (grP g1)) (some (aC S)) (some (.int (cell ns 0))) none none none none none)):=by
  unfold lE
  generalize grP g1=GP at *
  simp[c0]
 obtain⟨g2,t1,t2,t3,s6⟩:=L_ (P:=P) (M:=mP m) (F:=fP fs) (SP:=aC S) hT hg1 (cell ns 0)
 obtain⟨hrw,hrl⟩:=t1.rows
 have hg2:=mF t1.ne
 have hle2:=t1.le
 have r1:=vU hm (by omega) t1.ne t1.c4 (by omega)
 have r0:=vU hm (by omega) (g:=[]) (λw hw=>by cases hw) (λw hw=>by simp at hw) (by simp)
 have hfin:cnt m (([]:List (List (List Nat))).flatten.zip (aK [])) (0,0,0)=0:=by
  show fin m (0,0,0)=0
  unfold fin
  rw[if_neg]
  intro e
  have:=congrArg (λt:Sta=>t.1) e
  simp at this
  exact hne (List.length_eq_zero_iff.mp this.symm)
 rw[hfin] at r0
 have s7:aJ 7 (eO [none] (iV (bV 3)) (gN 0) fM m6) (lE (some P) (some (mP m)) (some (fP fs)) (some (grP g2)) (some (aC S)) (some (.int (cell ns 0))) none none none none none)=some (.nx (lE (some P) (some (mP m)) (some (fP fs)) (some (grP g2)) (some (aC S)) (some (.int (cell ns 0))) none (some (grP g2)) none none none)):=by
  have hcm:cY [none] (gN 0) fM m6 (g2.map wdP)=some (g2.map wdP):=gY _ _ g2 λw _=>⟨[some (wdP w)],rfl,by simp[m6,wdP]⟩
  have hl2:(g2.map wdP).length<=1000000:=by rw[List.length_map];omega
  have hgp:grP g2=.lst (g2.map wdP):=rfl
  rw[hgp]
  unfold lE
  generalize g2.map wdP=GP at *
  simp[hcm,hl2,gP]
 have s8:aJ 8 (bC (.int 0)) (lE (some P) (some (mP m)) (some (fP fs)) (some (grP g2)) (some (aC S)) (some (.int (cell ns 0))) none (some (grP g2)) none none none)=some (.nx (lE (some P) (some (mP m)) (some (fP fs)) (some (grP g2)) (some (aC S)) (some (.int (cell ns 0))) none (some (grP g2)) (some (.int 0)) none none)):=by
  unfold lE
  generalize grP g2=GP at *
  simp
 have lp:=Io (P:=P) (F:=fP fs) (G:=grP g2) (S:=aC S) (C:=.int (cell ns 0)) (K:=grP g2) hm (allR (g2.flatten.zip (aK g2))) 0 hrl
 rw[Ep hm,Int.zero_add] at lp
 have hlr:(allR (g2.flatten.zip (aK g2))).length<=1000000:=by
  have:=(FN (O:=g2.flatten.zip (aK g2)) (λj x hj=>by rw[List.getElem?_zip_eq_some] at hj;exact t1.sz j x.1 hj.1) (by rw[List.length_zip];omega)) (g2.flatten.zip (aK g2)).length
  rw[List.take_length,qb] at this
  omega
 have hpo:¬ cell ns 0 % 4=1->1<=cnt m (g2.flatten.zip (aK g2)) (0,0,0):=λz=>by rw[t3 z];exact hN
 have heq:=Oe g2
 generalize cnt m (g2.flatten.zip (aK g2)) (0,0,0)=N at *
 have s9:bY (gN 9) (iV (aQ cW (aa (bV 3) az))) [9] iR (lE (some P) (some (mP m)) (some (fP fs)) (some (grP g2)) (some (aC S)) (some (.int (cell ns 0))) none (some (grP g2)) (some (.int 0)) none none)=some (.nx (lE (some P) (some (mP m)) (some (fP fs)) (some (grP g2)) (some (aC S)) (some (.int (cell ns 0))) none (some (grP g2)) (some (.int N)) none none)):=by
  have hrp:rsP (allR (g2.flatten.zip (aK g2)))=.lst ((allR (g2.flatten.zip (aK g2))).map aO):=rfl
  rw[hrp] at hrw
  have hll:((allR (g2.flatten.zip (aK g2))).map aO).length<=1000000:=by rw[List.length_map];exact hlr
  unfold lE at lp ⊢
  generalize (allR (g2.flatten.zip (aK g2))).map aO=RP at *
  generalize cW=f at *
  generalize grP g2=GP at *
  simp[hrw,hll,lp]
 have s10:aJ 10 (aQ bw (aa (bV 3) (aa (bV 1) az))) (lE (some P) (some (mP m)) (some (fP fs)) (some (grP g2)) (some (aC S)) (some (.int (cell ns 0))) none (some (grP g2)) (some (.int N)) none none)=some (.nx (lE (some P) (some (mP m)) (some (fP fs)) (some (grP g2)) (some (aC S)) (some (.int (cell ns 0))) none (some (grP g2)) (some (.int N)) none (some (.int N)))):=by
  unfold lE
  generalize bw=f at *
  generalize grP g2=GP at *
  simp[r1]
 have s11:sIf (tO (tN (tV (b1 (rJ tb_int) (bV 10)))) (tO (tV (b1 (rJ tb_bool) (bV 10))) (tV (b2 neQ (bV 10) (bV 8))))) (bD (bC (.bl false))) sNx (lE (some P) (some (mP m)) (some (fP fs)) (some (grP g2)) (some (aC S)) (some (.int (cell ns 0))) none (some (grP g2)) (some (.int N)) none (some (.int N)))=some (.nx (lE (some P) (some (mP m)) (some (fP fs)) (some (grP g2)) (some (aC S)) (some (.int (cell ns 0))) none (some (grP g2)) (some (.int N)) none (some (.int N)))):=by
  unfold lE
  generalize grP g2=GP at *
  simp[tyN,tb_bool,tb_int,List.lookup]
 have s12:bD (lw (b2 eqQ (bV 3) (bV 7)) (lw (b2 eqQ (aQ bw (aa (aU az) (aa (bV 1) az))) (bC (.int 0))) (bOr (b2 eqQ (b2 bW (bV 5) (bC (.int 4))) (bC (.int 1))) (b2 (mR λi j=>decide (j < i)) (bV 10) (bC (.int 0)))))) (lE (some P) (some (mP m)) (some (fP fs)) (some (grP g2)) (some (aC S)) (some (.int (cell ns 0))) none (some (grP g2)) (some (.int N)) none (some (.int N)))=some (.rt (.bl true)):=by
  have hg0:grP []=.lst []:=rfl
  rw[hg0] at r0
  unfold lE
  generalize bw=f at *
  generalize grP g2=GP at *
  by_cases z:cell ns 0 % 4=1
  ·simp[heq,r0,z]
  ·have hp1:0 < N:=by have:=hpo z;omega
   simp[heq,r0,z,hp1]
 have hb:vJ (lE (some P) none none none none none none none none none none)=some (.rt (.bl true)):=by
  unfold vJ
  rw[aL s1,aL s2,aL s3,aL s4,aL s5,aL s6,aL s7,aL s8,aL s9,aL s10,aL s11]
  exact s12
 unfold lE at hb
 simp[qM,hb]
end My
namespace My
open PySem L2 MR
def top (i:Nat):Stmt:=PySem.Challenge.pw_lilt_k41_readings_counted.main.body.getD i (.Pass ⟨0,0,0,0⟩)
abbrev j5:Stmt:=top 19
abbrev iC:Stmt:=top 20
abbrev j6:Stmt:=top 21
abbrev j7:Stmt:=top 24
abbrev fH:Stmt:=top 22
abbrev lK:Stmt:=top 23
abbrev m9:Stmt:=top 25
abbrev gC:Stmt:=top 26
abbrev iW:Stmt:=top 18
abbrev lL:Stmt:=top 29
abbrev je:Stmt:=top 3
abbrev lM:Stmt:=top 2
abbrev iY:Stmt:=top 5
abbrev j8:Stmt:=top 4
abbrev m_:Stmt:=top 6
abbrev jA:Stmt:=top 11
abbrev lO:Stmt:=top 12
abbrev jf:Stmt:=top 13
abbrev i_:Stmt:=top 14
abbrev j9:Stmt:=top 8
abbrev oV:Stmt:=top 9
abbrev fQ:Stmt:=top 15
abbrev iD:Stmt:=top 16
abbrev jw:Stmt:=top 27
abbrev j_:Stmt:=top 28
abbrev lu:Stmt:=top 30
abbrev FQ:List Str:=["_law_grid", "_law_saying", "_law_found", "_law_at", "_law_word", "_law_some", "_law_options_here", "_law_kept"]
abbrev FT:List Str:=["_law_script", "_law_metre_here", "_law_feet", "_law_grid", "_law_saying", "_law_cell", "_law_word", "_law_kept", "_law_due", "_law_row", "_law_found"]
theorem t7:FnScope ["_law_cell", "_law_k"] ["_law_cell", "_law_k"] (aF j5):=fsc
theorem sc__law_patterns:FnScope ["_law_n", "_law_found", "_law_k", "_law_marks_here", "_law_j"] ["_law_n"] (aF iC):=fsc
theorem sc__law_metre:FnScope ["_law_cells", "_law_metre_here", "_law_k", "_law_cell", "_law_n"] ["_law_cells"] (aF j6):=fsc
theorem sc__law_marks:FnScope ["_law_metre_here", "_law_feet", "_law_marks_here", "_law_k", "_law_patterns_here", "_law_cut", "_law_pattern", "_law_j"] ["_law_metre_here", "_law_feet"] (aF j7):=fsc
theorem sc__law_options:FnScope ["_law_n", "_law_last", "_law_some", "_law_found"] ["_law_n", "_law_last"] (aF fH):=fsc
theorem sc__law_with:FnScope ["_law_n", "_law_last", "_law_option", "_law_some", "_law_at"] ["_law_n", "_law_last", "_law_option"] (aF lK):=fsc
theorem sc__law_fit:FnScope ["_law_metre_here", "_law_feet", "_law_n", "_law_grid", "_law_saying", "_law_marks_here", "_law_k", "_law_m", "_law_mark", "_law_cut", "_law_option", "_law_last"] ["_law_metre_here", "_law_feet", "_law_n"] (aF m9):=fsc
theorem sc__law_short:FnScope ["_law_grid", "_law_saying", "_law_found", "_law_at", "_law_word", "_law_some", "_law_options_here", "_law_kept"] ["_law_grid", "_law_saying"] (aF gC):=fsc
theorem qP:FnScope ["_law_script", "_law_k"] ["_law_script", "_law_k"] (aF iW):=fsc
theorem sc__law_rows:FnScope ["_law_grid", "_law_rows_here", "_law_word", "_law_k", "_law_more", "_law_row", "_law_option"] ["_law_grid"] (aF lL):=fsc
theorem sc_states_of:FnScope ["metre", "states", "slot", "told", "number", "pattern"] ["metre"] (aF je):=fsc
theorem wu:FnScope ["metre"] ["metre"] (aF lM):=fsc
theorem sc_state_behind:FnScope ["metre", "state", "ends", "slot", "behind"] ["metre", "state", "ends"] (aF iY):=fsc
theorem t8:FnScope ["sign", "mark"] ["sign", "mark"] (aF j8):=fsc
theorem sc_moves_of:FnScope ["metre", "state", "mark", "ends", "slot", "at", "patterns", "numbers", "moves", "number", "reached"] ["metre", "state", "mark", "ends"] (aF m_):=fsc
theorem sc_steps_by:FnScope ["metre", "mark", "ends", "steps", "state"] ["metre", "mark", "ends"] (aF jA):=fsc
theorem sc_all_steps:FnScope ["metre", "steps", "mark", "ends"] ["metre"] (aF lO):=fsc
theorem ww:FnScope ["steps", "option", "ends", "states"] ["steps", "option", "ends", "states"] (aF jf):=fsc
theorem sc_counts_ahead:FnScope ["steps", "options", "ends", "behind", "counts", "option", "state", "reached"] ["steps", "options", "ends", "behind"] (aF i_):=fsc
theorem sc_options_in:FnScope ["table", "listed", "word"] ["table"] (aF j9):=fsc
theorem sc_ends_in:FnScope ["table", "listed", "word"] ["table"] (aF oV):=fsc
theorem sc_counts_by_syllable:FnScope ["table", "metre", "steps", "behind", "backwards", "options", "ends"] ["table", "metre"] (aF fQ):=fsc
theorem qg:FnScope ["table", "metre"] ["table", "metre"] (aF iD):=fsc
theorem sc__law_stands:FnScope ["_law_patterns_here", "_law_cut", "_law_row", "_law_at", "_law_k", "_law_marks_here", "_law_j"] ["_law_patterns_here", "_law_cut", "_law_row", "_law_at", "_law_k"] (aF jw):=fsc
theorem sc__law_count:FnScope ["_law_metre_here", "_law_row", "_law_counts", "_law_patterns_here", "_law_cut", "_law_more", "_law_at", "_law_k", "_law_there"] ["_law_metre_here", "_law_row"] (aF j_):=fsc
theorem sc_law:FnScope ["_law_script", "_law_metre_here", "_law_feet", "_law_grid", "_law_saying", "_law_cell", "_law_word", "_law_kept", "_law_due", "_law_row", "_law_found"] ["_law_script"] (aF lu):=fsc
structure Adr where
 a0:Nat:=0
 a_START:Addr
structure Q7 (P:Program) (w:World) (K:W.Frag) (mg:Str->Option Value) (base:Heap) (cl:Nat->Addr) (A:Adr):Prop
section
variable (P:Program) (w:World) (K:W.Frag) (mg:Str->Option Value) (base:Heap) (cl:Nat->Addr) (A:Adr)
structure Tx__law_mixed:Prop where
 q:Q7 P w K mg base cl A
structure Tx__law_patterns:Prop where
 q:Q7 P w K mg base cl A
 z_range:mg "range" = none
 z_tuple:mg "tuple" = none
structure Tx__law_metre:Prop where
 q:Q7 P w K mg base cl A
 z_enumerate:mg "enumerate" = none
 z_tuple:mg "tuple" = none
 c__law_mixed:Cal P w K mg base 1 "_law_mixed" ["_law_cell", "_law_k"] (spM ⟨K,cl⟩ bT false)
 c__law_patterns:Cal P w K mg base 1 "_law_patterns" ["_law_n"] (spM ⟨K,cl⟩ cL false)
structure Tx__law_marks:Prop where
 q:Q7 P w K mg base cl A
 z_len:mg "len" = none
 z_range:mg "range" = none
structure Tx__law_options:Prop where
 q:Q7 P w K mg base cl A
 z_range:mg "range" = none
structure Tx__law_with:Prop where
 q:Q7 P w K mg base cl A
 z_len:mg "len" = none
 c__law_options:Cal P w K mg base 1 "_law_options" ["_law_n", "_law_last"] (spM ⟨K,cl⟩ cZ false)
structure Tx__law_fit:Prop where
 q:Q7 P w K mg base cl A
 z_int:mg "int" = none
 z_len:mg "len" = none
 z_range:mg "range" = none
 c__law_marks:Cal P w K mg base 1 "_law_marks" ["_law_metre_here", "_law_feet"] (spM ⟨K,cl⟩ di false)
 c__law_mixed:Cal P w K mg base 1 "_law_mixed" ["_law_cell", "_law_k"] (spM ⟨K,cl⟩ bT false)
 c__law_with:Cal P w K mg base 2 "_law_with" ["_law_n", "_law_last", "_law_option"] (spM ⟨K,cl⟩ bu false)
structure Tx__law_short:Prop where
 q:Q7 P w K mg base cl A
 z_int:mg "int" = none
structure Tx__law_cell_at:Prop where
 q:Q7 P w K mg base cl A
 z_len:mg "len" = none
structure Tx__law_rows:Prop where
 q:Q7 P w K mg base cl A
 z_len:mg "len" = none
 z_range:mg "range" = none
structure Tx_states_of:Prop where
 q:Q7 P w K mg base cl A
 z_enumerate:mg "enumerate" = none
 z_len:mg "len" = none
 z_range:mg "range" = none
structure Tx_end_state:Prop where
 q:Q7 P w K mg base cl A
 z_len:mg "len" = none
structure Tx_state_behind:Prop where
 q:Q7 P w K mg base cl A
 z_len:mg "len" = none
structure Tx_stands_for:Prop where
 q:Q7 P w K mg base cl A
structure Tx_moves_of:Prop where
 q:Q7 P w K mg base cl A
 z_len:mg "len" = none
 z_list:mg "list" = none
 z_range:mg "range" = none
 c_end_state:Cal P w K mg base 1 "end_state" ["metre"] (spM ⟨K,cl⟩ cF false)
 c_stands_for:Cal P w K mg base 1 "stands_for" ["sign", "mark"] (spM ⟨K,cl⟩ d9 false)
 c_state_behind:Cal P w K mg base 1 "state_behind" ["metre", "state", "ends"] (spM ⟨K,cl⟩ c7 false)
structure Tx_steps_by:Prop where
 q:Q7 P w K mg base cl A
 c_moves_of:Cal P w K mg base 2 "moves_of" ["metre", "state", "mark", "ends"] (spM ⟨K,cl⟩ dJ false)
 c_states_of:Cal P w K mg base 1 "states_of" ["metre"] (spM ⟨K,cl⟩ gq false)
structure Tx_all_steps:Prop where
 q:Q7 P w K mg base cl A
 c_steps_by:Cal P w K mg base 3 "steps_by" ["metre", "mark", "ends"] (spM ⟨K,cl⟩ cR false)
structure Tx_walked_by:Prop where
 q:Q7 P w K mg base cl A
structure Tx_counts_ahead:Prop where
 q:Q7 P w K mg base cl A
 c_walked_by:Cal P w K mg base 1 "walked_by" ["steps", "option", "ends", "states"] (spM ⟨K,cl⟩ cX false)
structure Tx_options_in:Prop where
 q:Q7 P w K mg base cl A
structure Tx_ends_in:Prop where
 q:Q7 P w K mg base cl A
 z_len:mg "len" = none
structure Tx_counts_by_syllable:Prop where
 q:Q7 P w K mg base cl A
 z_list:mg "list" = none
 z_reversed:mg "reversed" = none
 z_zip:mg "zip" = none
 c_all_steps:Cal P w K mg base 4 "all_steps" ["metre"] (spM ⟨K,cl⟩ gr false)
 c_counts_ahead:Cal P w K mg base 2 "counts_ahead" ["steps", "options", "ends", "behind"] (spM ⟨K,cl⟩ eV false)
 c_end_state:Cal P w K mg base 1 "end_state" ["metre"] (spM ⟨K,cl⟩ cF false)
 c_ends_in:Cal P w K mg base 1 "ends_in" ["table"] (spM ⟨K,cl⟩ iz false)
 c_options_in:Cal P w K mg base 1 "options_in" ["table"] (spM ⟨K,cl⟩ fU false)
structure Tx_many_readings:Prop where
 q:Q7 P w K mg base cl A
 g_START:mg "START" = some (.ref A.a_START)
 r_START:∀ (B:Addr->Prop) (H:Hp),Rep ⟨K,cl⟩ B H (.ref A.a_START) mq
 c_counts_by_syllable:Cal P w K mg base 5 "counts_by_syllable" ["table", "metre"] (spM ⟨K,cl⟩ cu false)
structure Tx__law_stands:Prop where
 q:Q7 P w K mg base cl A
 z_len:mg "len" = none
 z_range:mg "range" = none
structure Tx__law_count:Prop where
 q:Q7 P w K mg base cl A
 z_len:mg "len" = none
 z_range:mg "range" = none
 c__law_stands:Cal P w K mg base 1 "_law_stands" ["_law_patterns_here", "_law_cut", "_law_row", "_law_at", "_law_k"] (spM ⟨K,cl⟩ cM false)
structure Tx_law:Prop where
 q:Q7 P w K mg base cl A
 z_bool:mg "bool" = none
 z_int:mg "int" = none
 z_isinstance:mg "isinstance" = none
 z_len:mg "len" = none
 z_list:mg "list" = none
 z_range:mg "range" = none
 is_bool:∀ t k,(t,k)∈tb_bool->PySem.W.kitOne K (.type t) (.type "bool")=some k
 is_int:∀ t k,(t,k)∈tb_int->PySem.W.kitOne K (.type t) (.type "int")=some k
 c__law_cell_at:Cal P w K mg base 1 "_law_cell_at" ["_law_script", "_law_k"] (spM ⟨K,cl⟩ aW false)
 c__law_count:Cal P w K mg base 2 "_law_count" ["_law_metre_here", "_law_row"] (spM ⟨K,cl⟩ dq false)
 c__law_fit:Cal P w K mg base 3 "_law_fit" ["_law_metre_here", "_law_feet", "_law_n"] (spM ⟨K,cl⟩ fj false)
 c__law_metre:Cal P w K mg base 2 "_law_metre" ["_law_cells"] (spM ⟨K,cl⟩ d8 false)
 c__law_mixed:Cal P w K mg base 1 "_law_mixed" ["_law_cell", "_law_k"] (spM ⟨K,cl⟩ bT false)
 c__law_rows:Cal P w K mg base 1 "_law_rows" ["_law_grid"] (spM ⟨K,cl⟩ cW false)
 c__law_short:Cal P w K mg base 1 "_law_short" ["_law_grid", "_law_saying"] (spW ⟨K,cl⟩ dj)
 c_many_readings:Cal P w K mg base 6 "many_readings" ["table", "metre"] (spM ⟨K,cl⟩ bw false)
end
section
variable {P:Program}{w:World}{K:PySem.W.Frag}{mg:Str->Option Value}{base:Heap}{cl:Nat->Addr}{A:Adr}{f:Addr}{fd:FuncData}
theorem t_ (F:Fun K "_law_mixed" "_law_mixed" j5 f fd) (T:Tx__law_mixed P w K mg base cl A):FnOk P w K mg base CX0 1 f fd ["_law_cell", "_law_k"] (spM ⟨K,cl⟩ bT false):=by
 refine fok F t7 (G:=[]) (G':=[]) (L:=[]) λ_ _ _ _ _ _ hr _ _=>?_
 exact(aG (bB (cI (bc (bc (jN (aj 0) aq) (jN (jN (aj 1) (aj 1)) aq)) aq) aq)))
theorem qi (F:Fun K "_law_patterns" "_law_patterns" iC f fd) (T:Tx__law_patterns P w K mg base cl A):FnOk P w K mg base CX0 1 f fd ["_law_n"] (spM ⟨K,cl⟩ cL false):=by
 refine fok F sc__law_patterns (G:=[1]) (G':=[1]) (L:=[]) λ_ _ _ _ _ _ hr _ _=>?_
 exact(aB (eG 1 sc__law_patterns.nd (aZ aA)) (aB (bZ [2,3,4] (g_ T.z_range (bc aq (cI (aj 0) aq))) (dW 2 sc__law_patterns.nd) (aB (bx 3 sc__law_patterns.nd du) (aB (bZ [4] (g_ T.z_range (bc aq (cI (dO (aj 0) (bc aq (jN aq (aj 2)))) aq))) (dW 4 sc__law_patterns.nd) (aG (bx 3 sc__law_patterns.nd (bc (aj 3) (aN hr du (cI (dO (aj 0) (bc (bc aq (jN aq (aj 2))) (jN aq (aj 4)))) aq))))) PassesOwn.never) (aG (gW (bJ (De hr (aj 3) (lA 1))) (aG (g8 1 (aj 3))) eF)))) PassesOwn.never) (aG (bB (vp T.z_tuple (lA 1))))))
theorem uc (F:Fun K "_law_metre" "_law_metre" j6 f fd) (T:Tx__law_metre P w K mg base cl A):FnOk P w K mg base CX0 2 f fd ["_law_cells"] (spM ⟨K,cl⟩ d8 false):=by
 refine fok F sc__law_metre (G:=[1]) (G':=[1]) (L:=[]) λ_ _ _ _ _ _ hr _ _=>?_
 exact(aB (eG 1 sc__law_metre.nd (aZ aA)) (aB (bZ [2,3,4] (pP T.z_enumerate (aj 0) (λ_=>by intro z;cases z)) (oA (bM 2 sc__law_metre.nd (bM 3 sc__law_metre.nd gJ))) (aB (bx 4 sc__law_metre.nd (aM T.c__law_mixed hr (ak (aj 3) (ak (aj 2) aA)))) (aG (g8 1 (bQ (ak (aM T.c__law_patterns hr (ak (dO (aj 4) aq) aA)) (ak (eE (dG hr (cI (aj 4) aq) aq)) aA)))))) PassesOwn.never) (aG (bB (vp T.z_tuple (lA 1))))))
theorem ud (F:Fun K "_law_marks" "_law_marks" j7 f fd) (T:Tx__law_marks P w K mg base cl A):FnOk P w K mg base CX0 1 f fd ["_law_metre_here", "_law_feet"] (spM ⟨K,cl⟩ di false):=by
 refine fok F sc__law_marks (G:=[2]) (G':=[]) (L:=[]) λ_ _ _ _ _ _ hr _ _=>?_
 exact(aB (eG 2 sc__law_marks.nd (aZ aA)) (aB (bZ [3,6,7,4,5] (g_ T.z_range (bf T.z_len (aj 0))) (dW 3 sc__law_marks.nd) (aB (yM (aN hr (aj 0) (aj 3)) (oA (bM 4 sc__law_marks.nd (bM 5 sc__law_marks.nd gJ)))) (aB (bx 6 sc__law_marks.nd (aN hr (aj 4) (aN hr (aj 1) (aj 3)))) (aG (bZ [7] (g_ T.z_range (bf T.z_len (aj 6))) (dW 7 sc__law_marks.nd) (aG (g8 2 (bQ (ak (aN hr (aj 6) (aj 7)) (ak (qy (aj 5) (jP (eE (dG hr (bc (aj 7) aq) (bf T.z_len (aj 6)))))) aA))))) PassesOwn.never)))) PassesOwn.never) (gR (G1:=[]) (aG (bB (aj 2))))))
theorem qQ (F:Fun K "_law_options" "_law_options" fH f fd) (T:Tx__law_options P w K mg base cl A):FnOk P w K mg base CX0 1 f fd ["_law_n", "_law_last"] (spM ⟨K,cl⟩ cZ false):=by
 refine fok F sc__law_options (G:=[]) (G':=[]) (L:=[]) λ_ _ _ _ _ _ hr _ _=>?_
 exact(aB (bx 2 sc__law_options.nd (SE.val (aZ (ak (bQ (ak aq (ak du aA))) (ak (bQ (ak aq (ak du aA))) (ak (bQ (ak aq (ak du aA))) (ak ji aA))))))) (aB (qF 3 sc__law_options.nd (osc:=(aF fH)) (ON:=["_law_n", "_law_last", "_law_some", "_law_found"]) (N:=["_law_k", "_law_some", "_law_n"]) (cap:=[none,some 2,some 0]) csc (oF 0) (g_ T.z_range aq) (λ_ _ _ _=>lD 0) (λ_ _ _ _=>mQ (bJ (dG hr (cI (dO (aj 2) (aN hr (aZ (ak aq (ak aq (ak aq (ak aq aA))))) (aj 0))) aq) aq))) (λ_ _ _ _=>(aN hr (aj 1) (cI (bc (dO (aj 2) aq) (aj 0)) aq)))) (aB (gW (vf (jk (aj 1))) (aG (qF 3 sc__law_options.nd (osc:=(aF fH)) (ON:=["_law_n", "_law_last", "_law_some", "_law_found"]) (N:=["_law_option"]) (cap:=[none]) csc (oF 0) (fB (aj 3) (λz=>by cases z)) (λ_ _ _ _=>lD 0) (λ_ _ _ _=>mQ (bJ (u_ (aj 0) ji))) (λ_ _ _ _=>(aj 0)))) eF) (aG (bB (aj 3))))))
theorem wy (F:Fun K "_law_with" "_law_with" lK f fd) (T:Tx__law_with P w K mg base cl A):FnOk P w K mg base CX0 2 f fd ["_law_n", "_law_last", "_law_option"] (spM ⟨K,cl⟩ bu false):=by
 refine fok F sc__law_with (G:=[]) (G':=[]) (L:=[]) λ_ _ _ _ _ _ hr _ _=>?_
 exact(aB (bx 3 sc__law_with.nd (aM T.c__law_options hr (ak (aj 0) (ak (aj 1) aA)))) (aB (gW (bJ (yG hr (aj 2) (aj 3))) (aG (bB (aj 3))) eF) (aB (bx 4 sc__law_with.nd (cI (dO (aj 0) aq) (bc (bf T.z_len (aj 3)) aq))) (aG (bB (SE.val (qx (qx (qC (aj 3) o7 (jC (aj 4))) (aZ (ak (aj 2) aA))) (qC (aj 3) (jC (aj 4)) o7))))))))
theorem wN (F:Fun K "_law_fit" "_law_fit" m9 f fd) (T:Tx__law_fit P w K mg base cl A):FnOk P w K mg base CX0 3 f fd ["_law_metre_here", "_law_feet", "_law_n"] (spM ⟨K,cl⟩ fj false):=by
 refine fok F sc__law_fit (G:=[4]) (G':=[]) (L:=[]) λ_ _ _ _ _ _ hr _ _=>?_
 exact(xr (Ax 3 sc__law_fit.nd (xn vC)) (mj (gj λ_ _ _=>(eG 4 sc__law_fit.nd (aZ aA))) (mj (gj λ_ _ _=>(bx 5 sc__law_fit.nd (aM T.c__law_marks hr (ak (aj 0) (ak (aj 1) aA))))) (mj (Fp [6,7,10,11,8,9] (λ_ _ _=>(g_ T.z_range (bf T.z_len (aj 5)))) (λ_ _ _=>(dW 6 sc__law_fit.nd)) (gU (gj λ_ _ _=>(bx 7 sc__law_fit.nd (aM T.c__law_mixed hr (ak (aj 2) (ak (bc (jN aq (aj 6)) aq) aA))))) (gU (Di (λ_ _ _=>(SW.st (lY (bJ (dG hr (cI (aj 7) aq) aq)) (jB (bJ (oJ hr (bc (bf T.z_len (lA 4)) (bf T.z_len (aj 5))) (bc aq (aj 6)))))))) (gU (Fq 3 (λ_ _ _=>(vd aq)) (λ_ _ _=>(aM T.c__law_with hr (ak (dO (aj 7) aq) (ak kO (ak ji aA)))))) (gU (gj λ_ _ _=>(g8 4 ji)) (yR (Ft 3)))) yQ) (gU (gj λ_ _ _=>(yM (aN hr (aj 5) (aj 6)) (oA (bM 8 sc__law_fit.nd (bM 9 sc__law_fit.nd gJ))))) (gU (gj λ_ _ _=>(gW (bJ (dG hr (aj 8) du)) (aG (bx 8 sc__law_fit.nd (aN hr (aZ (ak du (ak du aA))) (cI (dO (aj 7) aq) aq)))) eF)) (gU (gj λ_ _ _=>(bx 10 sc__law_fit.nd (bQ (ak (xg T.z_int (qy (eE (dG hr (aj 8) du)) (jP (eE (dG hr (cI (dO (aj 7) aq) aq) aq))))) (ak (aj 8) aA))))) (gU (gj λ_ _ _=>(bx 11 sc__law_fit.nd (qz (aj 9) (qz (eE (dG hr (bc (aj 6) aq) (bf T.z_len (aj 5)))) (jP (eE (dG hr (cI (dO (aj 7) aq) aq) aq))))))) (gU (Fq 3 (λ_ _ _=>(vd aq)) (λ_ _ _=>(aM T.c__law_with hr (ak (dO (aj 7) aq) (ak (aj 11) (ak (aj 10) aA)))))) (gU (gj λ_ _ _=>(g8 4 (aj 10))) (yR (Di (λ_ _ _=>(SW.st (lY (jk (aj 11)) (jB (bJ (oJ hr (bc (aj 6) aq) (bf T.z_len (aj 5)))))))) (yR (Ft 3)) yQ)))))))))) PassesOwn.never) (xq (gR (G1:=[]) (aG (bB (SE.val (aZ (ak (aj 3) (ak (aj 4) aA))))))))))))
theorem ue {f:Addr}{fd:FuncData}(F:Fun K "_law_short" "_law_short" gC f fd) (T:Tx__law_short P w K mg base cl A):FnOk P w K mg base CX0 1 f fd ["_law_grid", "_law_saying"] (spW ⟨K,cl⟩ dj):=by
 refine F.ok sc__law_short (λvs H Q E h=>Hg rfl h) (λcdv A' outer s H vs Q E hr h=>Dp (N:=["_law_grid", "_law_saying", "_law_found", "_law_at", "_law_word", "_law_some", "_law_options_here", "_law_kept"]) rfl (by decide) (λB H'=>?_) h)
 exact(Hf (Ax 2 sc__law_short.nd vC) (Ay (gj λ_ _ _=>(bx 3 sc__law_short.nd aq)) (Ay (Fp [4,5,6,7] (λ_ _ _=>(fB (aj 0) (λ_=>by intro z;cases z))) (λ_ _ _=>(dW 4 sc__law_short.nd)) (K_ 2 5 (λ_ _ _=>(Aw 5 [5] sc__law_short.nd (aZ aA))) (λ_ _ _=>(bZ [6,7] (fB (aj 4) (λ_=>by intro z;cases z)) (dW 6 sc__law_short.nd) (aB (bx 7 sc__law_short.nd (qC (l_ (osc:=(aF gC)) (ON:=FQ) (N:=["_law_option", "_law_saying", "_law_at"]) (cap:=[none,some 1,some 3]) csc (oF 0) (fB (aj 6) (λz=>by cases z)) (λ_ _ _ _=>lD 0) (λ_ _ _ _=>mQ (bJ (uo hr (aj 0) (aN hr (aj 1) (aj 2))))) (λ_ _ _ _=>(aj 0))) o7 (jC (xg T.z_int (eE (oJ hr (aj 3) aq)))))) (aB (g8 5 (SE.val (l_ (osc:=(aF gC)) (ON:=FQ) (N:=["_law_option", "_law_kept", "_law_saying", "_law_at"]) (cap:=[none,some 7,some 1,some 3]) csc (oF 0) (fB (aj 6) (λz=>by cases z)) (λ_ _ _ _=>lD 0) (λ_ _ _ _=>mQ (SW.st (yH (bJ (dG hr (aj 0) (aN hr (aj 2) (aj 3)))) (Ak (bJ (yG hr (aj 0) (aj 1))))))) (λ_ _ _ _=>(aj 0))))) (aG (bx 3 sc__law_short.nd (bc (aj 3) aq))))) PassesOwn.never))) PassesOwn.never) (NQ 2))))
theorem qR (F:Fun K "_law_cell_at" "_law_cell_at" iW f fd) (T:Tx__law_cell_at P w K mg base cl A):FnOk P w K mg base CX0 1 f fd ["_law_script", "_law_k"] (spM ⟨K,cl⟩ aW false):=by
 refine fok F qP (G:=[]) (G':=[]) (L:=[]) λ_ _ _ _ _ _ hr _ _=>?_
 exact(aB (gW (bJ (oJ hr (aj 1) (bf T.z_len (aj 0)))) (aG (bB (aN hr (aj 0) (aj 1)))) eF) (aG (bB aq)))
theorem wA (F:Fun K "_law_rows" "_law_rows" lL f fd) (T:Tx__law_rows P w K mg base cl A):FnOk P w K mg base CX0 1 f fd ["_law_grid"] (spM ⟨K,cl⟩ cW false):=by
 refine fok F sc__law_rows (G:=[]) (G':=[]) (L:=[]) λ_ _ _ _ _ _ hr _ _=>?_
 exact(aB (bx 1 sc__law_rows.nd (SE.val (aZ (ak (SE.val (aZ aA)) aA)))) (aB (bZ [2,3,4,5,6] (fB (aj 0) (λ_=>by intro z;cases z)) (dW 2 sc__law_rows.nd) (aG (bZ [3,4,5,6] (g_ T.z_range (bf T.z_len (aj 2))) (dW 3 sc__law_rows.nd) (aB (Aw 4 [4] sc__law_rows.nd (aZ aA)) (aB (bZ [5,6] (fB (aj 1) (λ_=>by intro z;cases z)) (dW 5 sc__law_rows.nd) (aG (bZ [6] (fB (aN hr (aj 2) (aj 3)) (λ_=>by intro z;cases z)) (dW 6 sc__law_rows.nd) (aG (gW (bJ (Fg (aj 6) ji)) (aG (g8 4 (aj 5))) (aG (g8 4 (SE.val (qx (aj 5) (aZ (ak (bQ (ak (aN hr (aj 6) aq) (ak (eE (dG hr (bc (aj 3) aq) (bf T.z_len (aj 2)))) aA))) aA)))))))) PassesOwn.never)) PassesOwn.never) (gR (G1:=[]) (aG (bx 1 sc__law_rows.nd (aj 4)))))) PassesOwn.never)) PassesOwn.never) (aG (bB (aj 1)))))
theorem wB (F:Fun K "states_of" "states_of" je f fd) (T:Tx_states_of P w K mg base cl A):FnOk P w K mg base CX0 1 f fd ["metre"] (spM ⟨K,cl⟩ gq false):=by
 refine fok F sc_states_of (G:=[1]) (G':=[]) (L:=[]) λ_ _ _ _ _ _ hr _ _=>?_
 exact(aB (eG 1 sc_states_of.nd (aZ aA)) (aB (bZ [2,3,4,5] (pP T.z_enumerate (aj 0) (λ_=>by intro z;cases z)) (oA (bM 2 sc_states_of.nd (bM 3 sc_states_of.nd gJ))) (aB (g8 1 (bQ (ak (aj 2) (ak aq (ak aq aA))))) (aG (bZ [4,5] (pP T.z_enumerate (aN hr (aj 3) aq) (λ_=>by intro z;cases z)) (oA (bM 4 sc_states_of.nd (bM 5 sc_states_of.nd gJ))) (aG (uw 1 (SE.val (l_ (osc:=(aF je)) (ON:=["metre", "states", "slot", "told", "number", "pattern"]) (N:=["at", "slot", "number"]) (cap:=[none,some 2,some 4]) csc (oF 0) (Nq T.z_range aq (bf T.z_len (aj 5))) (λ_ _ _ _=>lD 0) (λ_ _ _ _=>jQ) (λ_ _ _ _=>(bQ (ak (aj 1) (ak (aj 2) (ak (aj 0) aA))))))))) PassesOwn.never))) PassesOwn.never) (gR (G1:=[]) (aG (bB (aj 1))))))
theorem wC (F:Fun K "end_state" "end_state" lM f fd) (T:Tx_end_state P w K mg base cl A):FnOk P w K mg base CX0 1 f fd ["metre"] (spM ⟨K,cl⟩ cF false):=by
 refine fok F wu (G:=[]) (G':=[]) (L:=[]) λ_ _ _ _ _ _ hr _ _=>?_
 exact(aG (bB (bQ (ak (bf T.z_len (aj 0)) (ak aq (ak aq aA))))))
theorem qT (F:Fun K "state_behind" "state_behind" iY f fd) (T:Tx_state_behind P w K mg base cl A):FnOk P w K mg base CX0 1 f fd ["metre", "state", "ends"] (spM ⟨K,cl⟩ c7 false):=by
 refine fok F sc_state_behind (G:=[]) (G':=[]) (L:=[]) λ_ _ _ _ _ _ hr _ _=>?_
 exact(aB (bx 3 sc_state_behind.nd (aN hr (aj 1) aq)) (aB (bx 4 sc_state_behind.nd (bc (aN hr (aj 1) aq) aq)) (aB (gW (bJ (oJ hr (aj 4) (bf T.z_len (aN hr (aN hr (aN hr (aj 0) (aj 3)) aq) (aN hr (aj 1) aq))))) (aG (bB (bQ (ak (aj 3) (ak (aN hr (aj 1) aq) (ak (aj 4) aA)))))) eF) (aB (gW (SW.st (lY (jk (aN hr (aN hr (aj 0) (aj 3)) aq)) (jB (vf (jk (aj 2)))))) (aG (bB ji)) eF) (aG (bB (bQ (ak (bc (aj 3) aq) (ak aq (ak aq aA))))))))))
theorem uf (F:Fun K "stands_for" "stands_for" j8 f fd) (T:Tx_stands_for P w K mg base cl A):FnOk P w K mg base CX0 1 f fd ["sign", "mark"] (spM ⟨K,cl⟩ d9 false):=by
 refine fok F t8 (G:=[]) (G':=[]) (L:=[]) λ_ _ _ _ _ _ hr _ _=>?_
 exact(aG (bB (qz (eE (dG hr (aj 0) (aj 1))) (jP (eE (dG hr (aj 0) du))))))
theorem wO (F:Fun K "moves_of" "moves_of" m_ f fd) (T:Tx_moves_of P w K mg base cl A):FnOk P w K mg base CX0 2 f fd ["metre", "state", "mark", "ends"] (spM ⟨K,cl⟩ dJ false):=by
 refine fok F sc_moves_of (G:=[8]) (G':=[]) (L:=[]) λ_ _ _ _ _ _ hr _ _=>?_
 exact(aB (gW (bJ (dG hr (aj 1) (aM T.c_end_state hr (ak (aj 0) aA)))) (aG (bB (SE.val (aZ aA)))) eF) (aB (bx 4 sc_moves_of.nd (aN hr (aj 1) aq)) (aB (bx 5 sc_moves_of.nd (aN hr (aj 1) aq)) (aB (bx 6 sc_moves_of.nd (aN hr (aN hr (aj 0) (aj 4)) aq)) (aB (bx 7 sc_moves_of.nd (Fi (bJ (dG hr (aj 5) aq)) (SE.val (Df T.z_list T.z_range (bf T.z_len (aj 6)))) (SE.val (aZ (ak (aN hr (aj 1) aq) aA))))) (aB (eG 8 sc_moves_of.nd (aZ aA)) (aB (bZ [9,10] (fB (aj 7) (λ_=>by intro z;cases z)) (dW 9 sc_moves_of.nd) (aB (bx 10 sc_moves_of.nd (aM T.c_state_behind hr (ak (aj 0) (ak (bQ (ak (aj 4) (ak (aj 9) (ak (aj 5) aA)))) (ak (aj 3) aA))))) (aG (gW (SW.st (lY (bJ (u_ (aj 10) ji)) (jB (jk (aM T.c_stands_for hr (ak (aN hr (aN hr (aj 6) (aj 9)) (aj 5)) (ak (aj 2) aA))))))) (aG (g8 8 (bQ (ak (aj 9) (ak (aj 10) aA))))) eF))) PassesOwn.never) (gR (G1:=[]) (aG (bB (aj 8)))))))))))
theorem wQ (F:Fun K "steps_by" "steps_by" jA f fd) (T:Tx_steps_by P w K mg base cl A):FnOk P w K mg base CX0 3 f fd ["metre", "mark", "ends"] (spM ⟨K,cl⟩ cR false):=by
 refine fok F sc_steps_by (G:=[3]) (G':=[]) (L:=[]) λ_ _ _ _ _ _ hr _ _=>?_
 exact(aB (eG 3 sc_steps_by.nd (aZ aA)) (aB (bZ [4] (fB (aM T.c_states_of hr (ak (aj 0) aA)) (λ_=>by intro z;cases z)) (dW 4 sc_steps_by.nd) (aG (uw 3 (SE.val (l_ (osc:=(aF jA)) (ON:=["metre", "mark", "ends", "steps", "state"]) (N:=["pattern", "reached", "state"]) (cap:=[none,none,some 4]) csc (PK [0,1]) (fB (aM T.c_moves_of hr (ak (aj 0) (ak (aj 4) (ak (aj 1) (ak (aj 2) aA))))) (λz=>by cases z)) (λ_ _ _ _=>zu rfl (pI (lD 0) (pI (lD 1) wW))) (λ_ _ _ _=>jQ) (λ_ _ _ _=>(bQ (ak (aj 2) (ak (aj 1) aA)))))))) PassesOwn.never) (gR (G1:=[]) (aG (bB (aj 3))))))
theorem wD (F:Fun K "all_steps" "all_steps" lO f fd) (T:Tx_all_steps P w K mg base cl A):FnOk P w K mg base CX0 4 f fd ["metre"] (spM ⟨K,cl⟩ gr false):=by
 refine fok F sc_all_steps (G:=[1]) (G':=[]) (L:=[]) λ_ _ _ _ _ _ hr _ _=>?_
 exact(aB (eG 1 sc_all_steps.nd Fj) (aB (bZ [2,3] (fB (bQ (ak du (ak du aA))) (λ_=>by intro z;cases z)) (dW 2 sc_all_steps.nd) (aG (bZ [3] (fB (bQ (ak kO (ak kO aA))) (λ_=>by intro z;cases z)) (dW 3 sc_all_steps.nd) (aG (ur 1 hr (bQ (ak (aj 2) (ak (aj 3) aA))) (aM T.c_steps_by hr (ak (aj 0) (ak (aj 2) (ak (aj 3) aA)))))) PassesOwn.never)) PassesOwn.never) (gR (G1:=[]) (aG (bB (aj 1))))))
theorem wF (F:Fun K "walked_by" "walked_by" jf f fd) (T:Tx_walked_by P w K mg base cl A):FnOk P w K mg base CX0 1 f fd ["steps", "option", "ends", "states"] (spM ⟨K,cl⟩ cX false):=by
 refine fok F ww (G:=[]) (G':=[]) (L:=[]) λ_ _ _ _ _ _ hr _ _=>?_
 exact(aG (bB (Fi (bJ (Fg (aj 1) ji)) (SE.val (l_ (osc:=(aF jf)) (ON:=["steps", "option", "ends", "states"]) (N:=["state"]) (cap:=[none]) csc (oF 0) (NK (aj 3)) (λ_ _ _ _=>lD 0) (λ_ _ _ _=>jQ) (λ_ _ _ _=>(bQ (ak (aj 0) (ak (aj 0) aA)))))) (aN hr (aj 0) (bQ (ak (aN hr (aj 1) aq) (ak (aj 2) aA)))))))
theorem qU (F:Fun K "counts_ahead" "counts_ahead" i_ f fd) (T:Tx_counts_ahead P w K mg base cl A):FnOk P w K mg base CX0 2 f fd ["steps", "options", "ends", "behind"] (spM ⟨K,cl⟩ eV false):=by
 refine fok F sc_counts_ahead (G:=[4]) (G':=[]) (L:=[]) λ_ _ _ _ _ _ hr _ _=>?_
 exact(aB (eG 4 sc_counts_ahead.nd Fj) (aB (bZ [5,6,7] (fB (aj 1) (λ_=>by intro z;cases z)) (dW 5 sc_counts_ahead.nd) (aG (bZ [6,7] (fB (aM T.c_walked_by hr (ak (aj 0) (ak (aj 5) (ak (aj 2) (ak (aj 3) aA))))) (λ_=>by intro z;cases z)) (oA (bM 6 sc_counts_ahead.nd (bM 7 sc_counts_ahead.nd gJ))) (aG (gW (bJ (yG hr (aj 7) (aj 3))) (aG (ur 4 hr (aj 6) (bc (Hc hr (lA 4) (aj 6) aq) (aN hr (aj 3) (aj 7))))) eF)) PassesOwn.never)) PassesOwn.never) (gR (G1:=[]) (aG (bB (aj 4))))))
theorem ug (F:Fun K "options_in" "options_in" j9 f fd) (T:Tx_options_in P w K mg base cl A):FnOk P w K mg base CX0 1 f fd ["table"] (spM ⟨K,cl⟩ fU false):=by
 refine fok F sc_options_in (G:=[1]) (G':=[]) (L:=[]) λ_ _ _ _ _ _ hr _ _=>?_
 exact(aB (eG 1 sc_options_in.nd (aZ aA)) (aB (bZ [2] (fB (aj 0) (λ_=>by intro z;cases z)) (dW 2 sc_options_in.nd) (aG (uw 1 (aj 2))) PassesOwn.never) (gR (G1:=[]) (aG (bB (aj 1))))))
theorem zb (F:Fun K "ends_in" "ends_in" oV f fd) (T:Tx_ends_in P w K mg base cl A):FnOk P w K mg base CX0 1 f fd ["table"] (spM ⟨K,cl⟩ iz false):=by
 refine fok F sc_ends_in (G:=[1]) (G':=[]) (L:=[]) λ_ _ _ _ _ _ hr _ _=>?_
 exact(aB (eG 1 sc_ends_in.nd (aZ aA)) (aB (bZ [2] (fB (aj 0) (λ_=>by intro z;cases z)) (dW 2 sc_ends_in.nd) (aG (uw 1 (SE.val (qx (vo (aZ (ak kO aA)) (Af (bf T.z_len (aj 2)) aq)) (aZ (ak kO aA)))))) PassesOwn.never) (gR (G1:=[]) (aG (bB (aj 1))))))
theorem mG (F:Fun K "counts_by_syllable" "counts_by_syllable" fQ f fd) (T:Tx_counts_by_syllable P w K mg base cl A):FnOk P w K mg base CX0 5 f fd ["table", "metre"] (spM ⟨K,cl⟩ cu false):=by
 refine fok F sc_counts_by_syllable (G:=[4]) (G':=[4]) (L:=[]) λ_ _ _ _ _ _ hr _ _=>?_
 exact(aB (bx 2 sc_counts_by_syllable.nd (aM T.c_all_steps hr (ak (aj 1) aA))) (aB (bx 3 sc_counts_by_syllable.nd (SE.val (NB hr (aM T.c_end_state hr (ak (aj 1) aA)) aq))) (aB (eG 4 sc_counts_by_syllable.nd (aZ (ak (aj 3) aA))) (aB (bZ [5,6] (Ha T.z_reversed (Dm T.z_list T.z_zip (aM T.c_options_in hr (ak (aj 0) aA)) (aM T.c_ends_in hr (ak (aj 0) aA))) (λ_=>by intro z;cases z)) (oA (bM 5 sc_counts_by_syllable.nd (bM 6 sc_counts_by_syllable.nd gJ))) (aB (bx 3 sc_counts_by_syllable.nd (aM T.c_counts_ahead hr (ak (aj 2) (ak (aj 5) (ak (aj 6) (ak (aj 3) aA)))))) (aG (g8 4 (aj 3)))) PassesOwn.never) (aG (bB (SE.val (Dg T.z_list T.z_reversed (lA 4)))))))))
theorem qj (F:Fun K "many_readings" "many_readings" iD f fd) (T:Tx_many_readings P w K mg base cl A):FnOk P w K mg base CX0 6 f fd ["table", "metre"] (spM ⟨K,cl⟩ bw false):=by
 refine fok F qg (G:=[]) (G':=[]) (L:=[]) λ_ _ _ _ _ _ hr _ _=>?_
 exact(aG (bB (Hd hr (aN hr (aM T.c_counts_by_syllable hr (ak (aj 0) (ak (aj 1) aA))) aq) (Nb T.g_START (T.r_START)) aq)))
theorem su (F:Fun K "_law_stands" "_law_stands" jw f fd) (T:Tx__law_stands P w K mg base cl A):FnOk P w K mg base CX0 1 f fd ["_law_patterns_here", "_law_cut", "_law_row", "_law_at", "_law_k"] (spM ⟨K,cl⟩ cM false):=by
 refine fok F sc__law_stands (G:=[]) (G':=[]) (L:=[]) λ_ _ _ _ _ _ hr _ _=>?_
 exact(aB (bx 5 sc__law_stands.nd (aN hr (aj 0) (aj 4))) (aB (gW (bJ (yF (bc (aj 3) (bf T.z_len (aj 5))) (bf T.z_len (aj 2)))) (aG (bB kO)) eF) (aB (bZ [6] (g_ T.z_range (bf T.z_len (aj 5))) (dW 6 sc__law_stands.nd) (aG (gW (SW.st (lY (bJ (uo hr (aN hr (aj 5) (aj 6)) du)) (jB (bJ (uo hr (aN hr (aj 5) (aj 6)) (aN hr (aN hr (aj 2) (bc (aj 3) (aj 6))) aq)))))) (aG (bB kO)) eF)) PassesOwn.never) (aG (bB (qz (Ku (aj 1)) (jP (aN hr (aN hr (aj 2) (Af (bc (aj 3) (bf T.z_len (aj 5))) aq)) aq))))))))
theorem uh (F:Fun K "_law_count" "_law_count" j_ f fd) (T:Tx__law_count P w K mg base cl A):FnOk P w K mg base CX0 2 f fd ["_law_metre_here", "_law_row"] (spM ⟨K,cl⟩ dq false):=by
 refine fok F sc__law_count (G:=[2,5]) (G':=[2,5]) (L:=[]) λ_ _ _ _ _ _ hr _ _=>?_
 exact(aB (eG 2 sc__law_count.nd (vo (aZ (ak aq aA)) (bc (bf T.z_len (aj 1)) aq))) (aB (ur 2 hr aq aq) (aB (bZ [3,4,6,7,8] (fB (aj 0) (λ_=>by intro z;cases z)) (oA (bM 3 sc__law_count.nd (bM 4 sc__law_count.nd gJ))) (aB (eG 5 sc__law_count.nd (vo (aZ (ak aq aA)) (bc (bf T.z_len (aj 1)) aq))) (aB (bZ [6,7,8] (g_ T.z_range (bc (bf T.z_len (aj 1)) aq)) (dW 6 sc__law_count.nd) (aG (bZ [7,8] (g_ T.z_range (bf T.z_len (aj 3))) (dW 7 sc__law_count.nd) (aG (gW (SW.st (lY (bJ (yF (aN hr (lA 2) (aj 6)) aq)) (jB (jk (aM T.c__law_stands hr (ak (aj 3) (ak (aj 4) (ak (aj 1) (ak (aj 6) (ak (aj 7) aA)))))))))) (aB (bx 8 sc__law_count.nd (bc (aj 6) (bf T.z_len (aN hr (aj 3) (aj 7))))) (aG (ur 5 hr (aj 8) (bc (aN hr (lA 5) (aj 8)) (aN hr (lA 2) (aj 6)))))) eF)) PassesOwn.never)) PassesOwn.never) (aG (PX 2 5 sc__law_count.nd)))) PassesOwn.never) (aG (bB (aN hr (lA 2) (vd aq)))))))
theorem Ma (F:Fun K "law" "law" lu f fd) (T:Tx_law P w K mg base cl A):FnOk P w K mg base CX0 7 f fd ["_law_script"] (spM ⟨K,cl⟩ qM false):=by
 refine fok F sc_law (G:=[]) (G':=[]) (L:=[]) λ_ _ _ _ _ _ hr _ _=>?_
 exact(aB (bx 1 sc_law.nd (aM T.c__law_metre hr (ak (bc (qC (aj 0) (jC aq) (jC aq)) (qC (aZ (ak aq aA)) (jC (dO (bf T.z_len (aj 0)) aq)) o7)) aA))) (aB (qF 2 sc_law.nd (osc:=(aF lu)) (ON:=FT) (N:=["_law_k", "_law_script", "_law_metre_here"]) (cap:=[none,some 0,some 1]) csc (oF 0) (g_ T.z_range (bf T.z_len (aj 1))) (λ_ _ _ _=>lD 0) (λ_ _ _ _=>jQ) (λ_ _ _ _=>(cI (aM T.c__law_mixed hr (ak (aM T.c__law_cell_at hr (ak (aj 1) (ak aq aA))) (ak (aj 0) aA))) (bf T.z_len (aN hr (aN hr (aj 2) (aj 0)) aq))))) (aB (yM (aM T.c__law_fit hr (ak (aj 1) (ak (aj 2) (ak (aM T.c__law_cell_at hr (ak (aj 0) (ak aq aA))) aA)))) (Qa (bM 3 sc_law.nd (bM 4 sc_law.nd gJ)))) (xr (La 3 sc_law.nd T.c__law_short hr (ak (aj 3) (ak (aj 4) aA))) (mj (gj λ_ _ _=>(bx 5 sc_law.nd (aM T.c__law_cell_at hr (ak (aj 0) (ak aq aA))))) (mj (Di (λ_ _ _=>(bJ (dG hr (cI (aj 5) aq) aq))) (Lb 3 6 sc_law.nd (cI (dO (aj 5) aq) (bf T.z_len (aj 3))) (cI (dO (aj 5) aq) (bf T.z_len (aj 6))) (λ_ _ _=>(aN hr (aZ (ak (SE.val (aZ (ak (bQ (ak aq (ak du aA))) aA))) (ak (SE.val (aZ (ak (bQ (ak aq (ak du aA))) aA))) (ak (SE.val (aZ (ak (bQ (ak aq (ak du aA))) aA))) aA)))) (cI (dO (aj 5) aq) aq)))) yQ) (xq (aB (qF 7 sc_law.nd (osc:=(aF lu)) (ON:=FT) (N:=["_law_word"]) (cap:=[none]) csc (oF 0) (fB (aj 3) (λz=>by cases z)) (λ_ _ _ _=>lD 0) (λ_ _ _ _=>jQ) (λ_ _ _ _=>(SE.val (G5 T.z_list (aj 0))))) (aB (bx 8 sc_law.nd aq) (aB (bZ [9] (fB (aM T.c__law_rows hr (ak (aj 3) aA)) (λ_=>by intro z;cases z)) (dW 9 sc_law.nd) (aG (bx 8 sc_law.nd (bc (aj 8) (aM T.c__law_count hr (ak (aj 1) (ak (aj 9) aA)))))) PassesOwn.never) (aB (bx 10 sc_law.nd (aM T.c_many_readings hr (ak (aj 3) (ak (aj 1) aA)))) (aB (gW (SW.st (yH (vf (jk (Aq tb_int T.is_int T.z_isinstance T.z_int PyProof.Rows.boot_int (aj 10)))) (yH (jk (Aq tb_bool T.is_bool T.z_isinstance T.z_bool PyProof.Rows.boot_bool (aj 10))) (Ak (bJ (uo hr (aj 10) (aj 8))))))) (aG (bB kO)) eF) (aG (bB (qy (eE (dG hr (aj 3) (aj 7))) (qy (eE (dG hr (aM T.c_many_readings hr (ak (SE.val (aZ aA)) (ak (aj 1) aA))) aq)) (jP (qz (eE (dG hr (cI (aj 5) aq) aq)) (jP (eE (yF (aj 10) aq)))))))))))))))))))))
end
end My
namespace My
open PySem L2 MR
def uA (K:W.Frag):Sp:=λvs H Q _=>∃ (a:Addr) (ns:List Int),vs=[V.ref a]/\Only H/\SqL K H a (ns.map V.int)/\ns.length<=63/\∀ J,Q (.bl true) J
theorem Mf {K:W.Frag}{cl:Nat->Addr}{vs:List V}{H:Hp}{Q:VK}{E:XK}(h:uA K vs H Q E):spM ⟨K,cl⟩ qM false vs H Q E:=by
 obtain⟨a,ns,rfl,ho,hs,hl,k⟩:=h
 have ri:Reps ⟨K,cl⟩ (λ_=>True) H (ns.map V.int) (ns.map PV.int):=rB _ _ (λi=>.int i) ns
 refine⟨λ_=>True,[.frz (ns.map PV.int)],.bl true,.cons ?_ .nil,law_true ns hl,λv H' s r=>?_⟩
 ·rcases hs with (hs | ⟨o,hs⟩) | hs
  ·rcases ho a with z | ⟨o,xs,z⟩
   ·rw[z] at hs;cases hs
   ·rw[z] at hs;cases hs
  ·exact .lstF hs ri
  ·exact .lstK (.inr hs) ri
 ·cases r
  exact k _
theorem all_mk {l:W.OpenLaw}{w:World}{K:W.Frag}{h:Heap}{mg:Str->Option Value}{fa:Addr}(X:K.In h) (G:h.Ns mainGlobals mg) (hfa:mg "law" = some (.ref fa))
  (a_0:W.nsIn K mainGlobals "_law_mixed" = some (some (.ref f_0)))
  (F_0:Fun K "_law_mixed" "_law_mixed" j5 f_0 d_0)
  (a_1:W.nsIn K mainGlobals "_law_patterns" = some (some (.ref f_1)))
  (F_1:Fun K "_law_patterns" "_law_patterns" iC f_1 d_1)
  (a_2:W.nsIn K mainGlobals "_law_metre" = some (some (.ref f_2)))
  (F_2:Fun K "_law_metre" "_law_metre" j6 f_2 d_2)
  (a_3:W.nsIn K mainGlobals "_law_marks" = some (some (.ref f_3)))
  (F_3:Fun K "_law_marks" "_law_marks" j7 f_3 d_3)
  (a_4:W.nsIn K mainGlobals "_law_options" = some (some (.ref f_4)))
  (F_4:Fun K "_law_options" "_law_options" fH f_4 d_4)
  (a_5:W.nsIn K mainGlobals "_law_with" = some (some (.ref f_5)))
  (F_5:Fun K "_law_with" "_law_with" lK f_5 d_5)
  (a_6:W.nsIn K mainGlobals "_law_fit" = some (some (.ref f_6)))
  (F_6:Fun K "_law_fit" "_law_fit" m9 f_6 d_6)
  (a_7:W.nsIn K mainGlobals "_law_short" = some (some (.ref f_7)))
  (F_7:Fun K "_law_short" "_law_short" gC f_7 d_7)
  (a_8:W.nsIn K mainGlobals "_law_cell_at" = some (some (.ref f_8)))
  (F_8:Fun K "_law_cell_at" "_law_cell_at" iW f_8 d_8)
  (a_9:W.nsIn K mainGlobals "_law_rows" = some (some (.ref f_9)))
  (F_9:Fun K "_law_rows" "_law_rows" lL f_9 d_9)
  (a_10:W.nsIn K mainGlobals "states_of" = some (some (.ref f_10)))
  (F_10:Fun K "states_of" "states_of" je f_10 d_10)
  (a_11:W.nsIn K mainGlobals "end_state" = some (some (.ref f_11)))
  (F_11:Fun K "end_state" "end_state" lM f_11 d_11)
  (a_12:W.nsIn K mainGlobals "state_behind" = some (some (.ref f_12)))
  (F_12:Fun K "state_behind" "state_behind" iY f_12 d_12)
  (a_13:W.nsIn K mainGlobals "stands_for" = some (some (.ref f_13)))
  (F_13:Fun K "stands_for" "stands_for" j8 f_13 d_13)
  (a_14:W.nsIn K mainGlobals "moves_of" = some (some (.ref f_14)))
  (F_14:Fun K "moves_of" "moves_of" m_ f_14 d_14)
  (a_15:W.nsIn K mainGlobals "steps_by" = some (some (.ref f_15)))
  (F_15:Fun K "steps_by" "steps_by" jA f_15 d_15)
  (a_16:W.nsIn K mainGlobals "all_steps" = some (some (.ref f_16)))
  (F_16:Fun K "all_steps" "all_steps" lO f_16 d_16)
  (a_17:W.nsIn K mainGlobals "walked_by" = some (some (.ref f_17)))
  (F_17:Fun K "walked_by" "walked_by" jf f_17 d_17)
  (a_18:W.nsIn K mainGlobals "counts_ahead" = some (some (.ref f_18)))
  (F_18:Fun K "counts_ahead" "counts_ahead" i_ f_18 d_18)
  (a_19:W.nsIn K mainGlobals "options_in" = some (some (.ref f_19)))
  (F_19:Fun K "options_in" "options_in" j9 f_19 d_19)
  (a_20:W.nsIn K mainGlobals "ends_in" = some (some (.ref f_20)))
  (F_20:Fun K "ends_in" "ends_in" oV f_20 d_20)
  (a_21:W.nsIn K mainGlobals "counts_by_syllable" = some (some (.ref f_21)))
  (F_21:Fun K "counts_by_syllable" "counts_by_syllable" fQ f_21 d_21)
  (a_22:W.nsIn K mainGlobals "many_readings" = some (some (.ref f_22)))
  (F_22:Fun K "many_readings" "many_readings" iD f_22 d_22)
  (a_23:W.nsIn K mainGlobals "_law_stands" = some (some (.ref f_23)))
  (F_23:Fun K "_law_stands" "_law_stands" jw f_23 d_23)
  (a_24:W.nsIn K mainGlobals "_law_count" = some (some (.ref f_24)))
  (F_24:Fun K "_law_count" "_law_count" j_ f_24 d_24)
  (a_25:W.nsIn K mainGlobals "law" = some (some (.ref f_25)))
  (F_25:Fun K "law" "law" lu f_25 d_25)
  (z_bool:W.nsIn K mainGlobals "bool" = some none)
  (z_enumerate:W.nsIn K mainGlobals "enumerate" = some none)
  (z_int:W.nsIn K mainGlobals "int" = some none)
  (z_isinstance:W.nsIn K mainGlobals "isinstance" = some none)
  (z_len:W.nsIn K mainGlobals "len" = some none)
  (z_list:W.nsIn K mainGlobals "list" = some none)
  (z_range:W.nsIn K mainGlobals "range" = some none)
  (z_reversed:W.nsIn K mainGlobals "reversed" = some none)
  (z_tuple:W.nsIn K mainGlobals "tuple" = some none)
  (z_zip:W.nsIn K mainGlobals "zip" = some none)
  (g_START:W.nsIn K mainGlobals "START" = some (some (.ref a_START)))
  (lk_START:K.lookup a_START=some ⟨.type "tuple",o_START,.seq #[.int 0 t_START_0,.int 0 t_START_1,.int 0 t_START_2] n_START,sl_START⟩)
  (is_bool:∀ t k,(t,k)∈tb_bool->W.kitOne K (.type t) (.type "bool")=some k)
  (is_int:∀ t k,(t,k)∈tb_int->W.kitOne K (.type t) (.type "int")=some k):
  ∃ fd:FuncData,(∀ (s:Shared) (v:Value),BindsTo s fd ⟨[v],[]⟩ [("_law_script",v)])/\∀ base:Heap,K.In base->base.Ns mainGlobals mg->FnOk l.prog w K mg base CX0 7 fa fd ["_law_script"] (uA K):=by
 have mo {x:Str}{v:Value}(h:W.nsIn K mainGlobals x=some (some v)):mg x=some v:=W.mg_of X G h
 have e:=hfa.symm.trans (mo a_25)
 cases e
 replace z_bool:=W.mg_none_of X G z_bool
 replace z_enumerate:=W.mg_none_of X G z_enumerate
 replace z_int:=W.mg_none_of X G z_int
 replace z_isinstance:=W.mg_none_of X G z_isinstance
 replace z_len:=W.mg_none_of X G z_len
 replace z_list:=W.mg_none_of X G z_list
 replace z_range:=W.mg_none_of X G z_range
 replace z_reversed:=W.mg_none_of X G z_reversed
 replace z_tuple:=W.mg_none_of X G z_tuple
 replace z_zip:=W.mg_none_of X G z_zip
 obtain⟨_,_,kV_25,dc_25,pm_25,an_25,cd_25,ct_25,_,rfl,_,_⟩:=F_25.ex
 refine⟨W.fnOf "law" "law" (fX lu) (dZ lu) (aF lu) .none kV_25 dc_25 pm_25 an_25 cd_25 ct_25,λs v=>.of_eq rfl,λbase _ _=>?_⟩
 let cl:Nat->Addr:=λn=>match n with  | _=>0
 let A:Adr:={ a_START:=a_START }
 have r_START:∀ (B:Addr->Prop) (H:Hp),Rep ⟨K,cl⟩ B H (.ref a_START) mq:=λB H=>.tupK (vs:=[V.int 0,V.int 0,V.int 0]) (.inr ⟨_,_,_,lk_START,rfl,rfl,(by show 3<=sizeLine;decide),(.cons ⟨_,rfl⟩ (.cons ⟨_,rfl⟩ (.cons ⟨_,rfl⟩ .nil)))⟩) (.cons (.int _) (.cons (.int _) (.cons (.int _) .nil)))
 have q7:Q7 l.prog w K mg base cl A:=⟨⟩
 have k__law_mixed:=bI F_0 (mo a_0) F_0.bd2 (t_ F_0 ⟨q7⟩)
 have k__law_patterns:=bI F_1 (mo a_1) F_1.bd1 (qi F_1 ⟨q7,z_range,z_tuple⟩)
 have k__law_metre:=bI F_2 (mo a_2) F_2.bd1 (uc F_2 ⟨q7,z_enumerate,z_tuple,k__law_mixed,k__law_patterns⟩)
 have k__law_marks:=bI F_3 (mo a_3) F_3.bd2 (ud F_3 ⟨q7,z_len,z_range⟩)
 have k__law_options:=bI F_4 (mo a_4) F_4.bd2 (qQ F_4 ⟨q7,z_range⟩)
 have k__law_with:=bI F_5 (mo a_5) F_5.bd3 (wy F_5 ⟨q7,z_len,k__law_options⟩)
 have k__law_fit:=bI F_6 (mo a_6) F_6.bd3 (wN F_6 ⟨q7,z_int,z_len,z_range,k__law_marks,k__law_mixed,k__law_with⟩)
 have k__law_short:=bI F_7 (mo a_7) F_7.bd2 (ue F_7 ⟨q7,z_int⟩)
 have k__law_cell_at:=bI F_8 (mo a_8) F_8.bd2 (qR F_8 ⟨q7,z_len⟩)
 have k__law_rows:=bI F_9 (mo a_9) F_9.bd1 (wA F_9 ⟨q7,z_len,z_range⟩)
 have k_states_of:=bI F_10 (mo a_10) F_10.bd1 (wB F_10 ⟨q7,z_enumerate,z_len,z_range⟩)
 have k_end_state:=bI F_11 (mo a_11) F_11.bd1 (wC F_11 ⟨q7,z_len⟩)
 have k_state_behind:=bI F_12 (mo a_12) F_12.bd3 (qT F_12 ⟨q7,z_len⟩)
 have k_stands_for:=bI F_13 (mo a_13) F_13.bd2 (uf F_13 ⟨q7⟩)
 have k_moves_of:=bI F_14 (mo a_14) F_14.bd4 (wO F_14 ⟨q7,z_len,z_list,z_range,k_end_state,k_stands_for,k_state_behind⟩)
 have k_steps_by:=bI F_15 (mo a_15) F_15.bd3 (wQ F_15 ⟨q7,k_moves_of,k_states_of⟩)
 have k_all_steps:=bI F_16 (mo a_16) F_16.bd1 (wD F_16 ⟨q7,k_steps_by⟩)
 have k_walked_by:=bI F_17 (mo a_17) F_17.bd4 (wF F_17 ⟨q7⟩)
 have k_counts_ahead:=bI F_18 (mo a_18) F_18.bd4 (qU F_18 ⟨q7,k_walked_by⟩)
 have k_options_in:=bI F_19 (mo a_19) F_19.bd1 (ug F_19 ⟨q7⟩)
 have k_ends_in:=bI F_20 (mo a_20) F_20.bd1 (zb F_20 ⟨q7,z_len⟩)
 have k_counts_by_syllable:=bI F_21 (mo a_21) F_21.bd2 (mG F_21 ⟨q7,z_list,z_reversed,z_zip,k_all_steps,k_counts_ahead,k_end_state,k_ends_in,k_options_in⟩)
 have k_many_readings:=bI F_22 (mo a_22) F_22.bd2 (qj F_22 ⟨q7,mo g_START,r_START,k_counts_by_syllable⟩)
 have k__law_stands:=bI F_23 (mo a_23) F_23.bd5 (su F_23 ⟨q7,z_len,z_range⟩)
 have k__law_count:=bI F_24 (mo a_24) F_24.bd2 (uh F_24 ⟨q7,z_len,z_range,k__law_stands⟩)
 have G_25:=Ma F_25 ⟨q7,z_bool,z_int,z_isinstance,z_len,z_list,z_range,is_bool,is_int,k__law_cell_at,k__law_count,k__law_fit,k__law_metre,k__law_mixed,k__law_rows,k__law_short,k_many_readings⟩
 exact G_25.imp λvs H Q E h=>Mf h
theorem walk {l:W.OpenLaw}{q:Program}{loose:List Str}{XP:(Str->Option Value)->Heap->Prop}{YP:World->Heap->Prop}{d:DefRec}{K:Params->W.Frag}(hn:l.most=some 63) (hdf:d.params.defaults=[])
  (hY:∀ (w:World) (h:Heap),YP w h->(K w.params).In h)
  (F:∀ (w:World) (mg:Str->Option Value) (fa:Addr) (h:Heap),(K w.params).In h->h.Ns mainGlobals mg->mg d.name=some (.ref fa)->
   ∃ fd:FuncData,(∀ (s:Shared) (u:Value),BindsTo s fd ⟨[u],[]⟩ [("_law_script",u)])/\∀ base:Heap,(K w.params).In base->base.Ns mainGlobals mg->FnOk l.prog w (K w.params) mg base CX0 7 fa fd ["_law_script"] (uA (K w.params))):
  W.WalkO q loose XP YP l.row.toRowW d [] (λf vs=>PySem.call f vs):=
 L2.walk_of (n:=63) (k:=7) (x := "_law_script") (CX:=λ_=>CX0) (sp:=λw=>uA (K w.params)) hn (by decide) hdf ⟨rfl,by decide,by decide⟩ hY F (λ_ _ a ns hl hO hS=>⟨a,ns,rfl,hO,hS,hl,λ_=>rfl⟩) λ_ _ _ _ _ z=>z
end My
open PySem PySem.W PyProof.Rows
def PySem.W.Fast.tw12570876853262321445:=()
def PySem.W.Fast.tw16703407388759006606:=()
def PySem.W.Fast.tw3891514534388939370:=()
def PySem.W.Fast.tw17792044402191838002:=()
def PySem.W.Fast.tw1364239992534344468:=()
def PySem.W.Fast.tw9030283892136932383:=()
def PySem.W.Fast.tw3309610260755804165:=()
def PySem.W.Fast.tw14863152345828859254:=()
def PySem.W.Fast.tw5838442145082848900:=()
def PySem.W.Fast.tw5458779889046407329:=()
def PySem.W.Fast.tw12128518631634815041:=()
def PySem.W.Fast.tw14283890680772960372:=()
def PySem.W.Fast.tw11720988885564341241:=()
def PySem.W.Fast.tw12492184420179414991:=()
def PySem.W.Fast.tw17948206163357419845:=()
def PySem.W.Fast.tw17956348629195985748:=()
def PySem.W.Fast.tw4908530439535239526:=()
def PySem.W.Fast.tw8685399143142494107:=()
def PySem.W.Fast.tw3719447100419464784:=()
def PySem.W.Fast.tw11741546927606133112:=()
def PySem.W.Fast.tw6200407772076764531:=()
def PySem.W.Fast.tw3619941483751017518:=()
def PySem.W.Fast.tw5388877710544311502:=()
def PySem.W.Fast.tw4515729728848340733:=()
def PySem.W.Fast.tw2928098176989715536:=()
def PySem.W.Fast.tw5794655493774880683:=()
def PySem.W.Fast.tw482105209952644107:=()
def PySem.W.Fast.tw3267744977533406832:=()
def PySem.W.Fast.tw8597398343458295731:=()
def PySem.W.Fast.tw16953448137202622203:=()
def PySem.W.Fast.tw8745499804883898217:=()
def PySem.W.Fast.tw17672326712322037505:=()
def PySem.W.Fast.tw2486300049765912009:=()
def PySem.W.Fast.tw12643370628748775055:=()
def PySem.W.Fast.tw6457306325710313745:=()
set_option maxRecDepth 100000 in
set_option maxHeartbeats 0 in
theorem PySem.Challenge.cw_lilt_k41_readings_counted_holds : PySem.Challenge.rw_lilt_k41_readings_counted.Holds := by
 w_on;o_law;k_head;(case hw=>w_witness2)
 k_fill
 refine My.walk (l:=PySem.Challenge.rw_lilt_k41_readings_counted) rfl rfl (λw h Y=>PySem.W.kIn_of Y) ?F
 case F=>
  intro w mg fa h KX G hmg
  refine' My.all_mk KX G hmg ?a_0 ?F_0 ?a_1 ?F_1 ?a_2 ?F_2 ?a_3 ?F_3 ?a_4 ?F_4 ?a_5 ?F_5 ?a_6 ?F_6 ?a_7 ?F_7 ?a_8 ?F_8 ?a_9 ?F_9 ?a_10 ?F_10 ?a_11 ?F_11 ?a_12 ?F_12 ?a_13 ?F_13 ?a_14 ?F_14 ?a_15 ?F_15 ?a_16 ?F_16 ?a_17 ?F_17 ?a_18 ?F_18 ?a_19 ?F_19 ?a_20 ?F_20 ?a_21 ?F_21 ?a_22 ?F_22 ?a_23 ?F_23 ?a_24 ?F_24 ?a_25 ?F_25 ?z_bool ?z_enumerate ?z_int ?z_isinstance ?z_len ?z_list ?z_range ?z_reversed ?z_tuple ?z_zip ?g_START ?lk_START ?is_bool ?is_int
  (case a_0 | a_1 | a_2 | a_3 | a_4 | a_5 | a_6 | a_7 | a_8 | a_9 | a_10 | a_11 | a_12 | a_13 | a_14 | a_15 | a_16 | a_17 | a_18 | a_19 | a_20 | a_21 | a_22 | a_23 | a_24 | a_25 | z_bool | z_enumerate | z_int | z_isinstance | z_len | z_list | z_range | z_reversed | z_tuple | z_zip | g_START | lk_START=>k_is)
  (case F_0 | F_1 | F_2 | F_3 | F_4 | F_5 | F_6 | F_7 | F_8 | F_9 | F_10 | F_11 | F_12 | F_13 | F_14 | F_15 | F_16 | F_17 | F_18 | F_19 | F_20 | F_21 | F_22 | F_23 | F_24 | F_25=>refine' L2.fun_mk ?l ?c ?k;(case l=>k_is);(case c=>k_is);(case k=>k_is))
  (case is_bool=>intro t k hm;simp only[My.tb_bool,List.mem_cons,List.not_mem_nil,or_false,Prod.mk.injEq] at hm;rcases hm with ⟨rfl,rfl⟩ | ⟨rfl,rfl⟩ <;> first | rfl | k_is)
  (case is_int=>intro t k hm;simp only[My.tb_int,List.mem_cons,List.not_mem_nil,or_false,Prod.mk.injEq] at hm;rcases hm with ⟨rfl,rfl⟩ <;> first | rfl | k_is)
