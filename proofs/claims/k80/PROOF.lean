import PyProof.Rows.All
import Wide.All
import OpenK.AllK
import Wide.FinOn
import Lean
import PyProof.EqAt
import PyProof.EqKinds
import PyProof.TupleCall
import KE.KRevIter
import PyProof.ListStr
import PyProof.Rows.Range3
import PyProof.Rows.SetFrom
import PyProof.ZipIter
import PyProof.DictWalks
import PyProof.Rows.TupDisplay
import PyProof.DictItems
import KE.KPairComp
import KE.KItemsList
import KE.KSortTup
import PyProof.ListMulRoad
import KE.KIntText
import PyProof.WalkInts
import PyProof.MinMaxWalk
import PyProof.WalksMore
import PyProof.AttrMissHeap
import KE.KDictOf
import PyProof.CollectIter
import PyProof.TupleOfGen
import PySem.Challenge.RW_lilt_k80_what_tells_metres_apart
set_option Elab.async false
set_option linter.all false
set_option maxRecDepth 100000
set_option maxHeartbeats 4000000
set_option compiler.extract_closed false
abbrev oT:=PySem.Value->PySem.Shared->Prop
abbrev qc:=List (PySem.Addr×PySem.Obj)
abbrev qf:=List Nat
abbrev qh:=List PySem.Value
abbrev qk:=List PySem.Stmt
abbrev qo:=List PySem.Expr
abbrev qq:=List PySem.Str
abbrev qr:=List Int
abbrev qv:=List PySem.Addr
abbrev qA:=Array PySem.Value
abbrev ab:=@PySem.wpAny_bind
abbrev ac:=@PySem.Heap.get?_push_of_some
abbrev ae:=@PySem.wpAny_pure
abbrev af:=@List.getElem?_eq_some_iff
abbrev ag:=@Option.bind_eq_some_iff
abbrev ai:=@List.getElem?_eq_getElem
abbrev al:=@PySem.Heap.get?_push_size
abbrev am:=@List.mem_cons_of_mem
abbrev ap:=@PySem.Heap.lt_size
abbrev ar:=@List.mem_cons_self
abbrev av:=@List.mem_singleton
abbrev aw:=@Nat.le_refl
abbrev ax:=@List.size_toArray
abbrev ay:=@if_neg
abbrev aE:=@Option.bind_some
abbrev aI:=@List.length_map
abbrev a0:=@List.map_cons
abbrev ba:=@Bool.false_ne_true
abbrev bb:=@if_pos
abbrev bd:=@Nat.ne_of_lt
abbrev be:=@List.mem_cons
abbrev bg:=@Option.some.inj
abbrev bi:=@Nat.lt_of_lt_of_le
abbrev bm:=@List.getElem?_set_ne
abbrev bn:=@List.mem_append_left
abbrev bo:=@List.mem_append
abbrev bp:=@List.mem_append_right
abbrev bq:=@List.length_append
abbrev br:=@List.getD_eq_getElem?_getD
abbrev bv:=@List.length_cons
abbrev bE:=@Bool.and_eq_true
abbrev bP:=@Option.map_eq_some_iff
abbrev bS:=@List.append_nil
abbrev bX:=@List.mem_range
abbrev b0:=@PySem.wpAny_newObj_type
abbrev b6:=@List.lookup_cons
abbrev b9:=@List.mem_map
abbrev cb:=@Nat.zero_le
abbrev ce:=@List.drop_eq_getElem_cons
abbrev cf:=@PyProof.Rows.callWith_type1
abbrev ci:=@PySem.wpAny_callSpecial?_slot
abbrev cm:=@List.getElem?_map
abbrev cp:=@PySem.wpAny_call_entry
abbrev cq:=@List.not_mem_nil
abbrev cw:=@PySem.wpAny_field
abbrev cx:=@PySem.F.slot_dict_itemiterator_next
abbrev cy:=@PySem.Heap.size_push
abbrev cE:=@PySem.Heap.get?_update_self
abbrev cK:=@List.getElem?_eq_none
abbrev cS:=@PySem.builtinLookup_eq_fast
abbrev c9:=@PySem.wpAny_typeNameOfWhole_itemiter
abbrev db:=@PySem.PassesOwn.never
abbrev dc:=@PySem.Heap.get?_update_other
abbrev de:=@List.mem_of_getElem?
abbrev df:=@List.getLast?_eq_some_getLast
abbrev dn:=@Nat.le_trans
abbrev dv:=@decide_eq_false
abbrev dy:=@PySem.wpAny_setField_rec
abbrev dE:=@Nat.ne_of_gt
abbrev dL:=@List.map_append
abbrev dP:=@PySem.wpAny_holding
abbrev dQ:=@List.map_congr_left
abbrev dS:=@PySem.wpAny_typeNameOf_itemiter
abbrev d0:=@List.length_set
abbrev d5:=@congrArg
abbrev d6:=@List.getElem?_set_self
abbrev ed:=@PyProof.Rows.slot_tuple_getitem
abbrev ef:=@List.mem_iff_getElem?
abbrev eg:=@PySem.Heap.SameBut.update
abbrev ei:=@PySem.F.plain_extend_loop
abbrev eB:=@decide_eq_true_eq
abbrev eC:=@List.getElem?_append_left
abbrev eD:=@Array.getElem?_eq_getElem
abbrev eI:=@Bool.false_eq_true
abbrev eJ:=@PySem.W.kia_one
abbrev eK:=@PySem.typeLookup_type
abbrev eM:=@Nat.lt_irrefl
abbrev eP:=@List.mem_flatMap
abbrev eR:=@beq_eq_false_iff_ne
abbrev eS:=@PySem.wpAny_pyIter_tuple
abbrev eT:=@List.drop_eq_nil_iff
abbrev eW:=@List.find?_eq_none
abbrev e8:=@PySem.wpAny_specialOf
abbrev e9:=@Or.inl
abbrev fb:=@Or.inr
abbrev fe:=@Ne.symm
abbrev ff:=@List.length_range
abbrev fg:=@List.append_assoc
abbrev fk:=@PySem.wpAny_of_eq
abbrev fm:=@PySem.wpAny_seqItems
abbrev fq:=@List.any_cons
abbrev fw:=@PySem.wpAny_mono
abbrev fz:=@True.intro
abbrev fA:=@PySem.wpAny_Call_Name_kw
abbrev fE:=@List.length_eq_zero_iff
abbrev fF:=@PySem.Around.under_plainId
abbrev fI:=@if_false
abbrev fN:=@PySem.wpAny_pyIter_list
abbrev fR:=@if_true
abbrev fT:=@Int.toNat_natCast
abbrev f7:=@PySem.wpAny_isOneOf_itemiter
abbrev f8:=@Array.length_toList
abbrev ga:=@List.length_pos_iff
abbrev gc:=@Bool.eq_iff_iff
abbrev gd:=@PySem.codeAny_builtin
abbrev gg:=@PySem.F.args_dict_itemiterator_next_1
abbrev gl:=@PySem.wpAny_isInstance
abbrev gp:=@Nat.lt_succ_self
abbrev gs:=@List.length_drop
abbrev gt:=@List.all_eq_true
abbrev gu:=@PySem.F.entry_dict_itemiterator_next
abbrev gv:=@Nat.le_of_lt
abbrev gx:=@Nat.lt_or_ge
abbrev gy:=@PySem.wpAny_attempt
abbrev gz:=@or_false
abbrev gE:=@List.find?_cons
abbrev gI:=@List.mem_zipIdx_iff_getElem?
abbrev gL:=@Option.map_eq_none_iff
abbrev gS:=@Nat.le_succ
abbrev gX:=@PySem.plainId_quiet
abbrev g9:=@List.length_take
abbrev hJ:=@PySem.wpAny_rule
abbrev hU:=@decide_eq_true
abbrev hV:=@PySem.Calls.spliced_cons
abbrev hW:=@PySem.boot_len
abbrev hX:=@PySem.isSubtype_type
abbrev hZ:=@PySem.F.slot_tuple_iterator_next
abbrev h9:=@PySem.Obj.data_mapFields
abbrev ia:=@List.mem_of_find?_eq_some
abbrev ib:=@PySem.wpAny_passesOwn
abbrev ic:=@Option.map_some
abbrev ii:=@PySem.wpAny_loadPart'
abbrev im:=@List.nodup_append
abbrev ip:=@PySem.wpAny_truthy_bool
abbrev iq:=@PySem.wpAny_typeOf
abbrev ix:=@List.map_map
abbrev iA:=@PySem.Paired.length
abbrev iE:=@beq_iff_eq
abbrev iF:=@List.cons_append
abbrev iL:=@PySem.F.plainAttrs_list
abbrev iN:=@PyProof.Rows.boot_tuple
abbrev iO:=@PySem.wpAny_setField
abbrev iP:=@List.any_eq_true
abbrev iS:=@PySem.sizeLine_eq
abbrev iX:=@List.map_nil
abbrev i6:=@PyProof.Rows.boot_list
abbrev i7:=@Array.getElem?_eq_none
abbrev i8:=@PySem.size_of_entries
abbrev i9:=@PySem.wpAny_updateSeq
abbrev ja:=@List.dropLast_concat_getLast
abbrev jp:=@List.length_singleton
abbrev js:=@PySem.Calls.spliced_nil
abbrev jv:=@Nat.le_succ_of_le
abbrev jI:=@PySem.wpAny_dictEntries
abbrev jS:=@List.flatMap_cons
abbrev j3:=@List.getElem?_append_right
abbrev kc:=@PySem.Value.type.inj
abbrev ke:=@List.fst_mem_of_mem_zipIdx
abbrev kf:=@List.exists_mem_of_ne_nil
abbrev kg:=@PySem.F.slot_tuple_getattribute
abbrev kl:=@List.all_cons
abbrev kq:=@PySem.F.args_tuple_add_2
abbrev kr:=@PySem.F.slot_list_append
abbrev kz:=@PySem.F.type_list_append
abbrev kA:=@List.mem_filter
abbrev kB:=@List.forIn_cons
abbrev kC:=@PySem.wpAny_dictEpoch
abbrev kD:=@Nat.lt_of_le_of_lt
abbrev kF:=@PySem.W.callWith_K
abbrev kG:=@List.getElem?_take
abbrev kH:=@List.getElem?_drop
abbrev kK:=@PySem.F.entry_tuple_add
abbrev kL:=@PySem.F.slot_tuple_hash
abbrev kM:=@List.any_eq_false
abbrev kN:=@PySem.F.slot_tuple_add
abbrev kP:=@List.reverse_cons
abbrev kR:=@List.getElem?_set
abbrev kT:=@List.forIn_nil
abbrev kU:=@PySem.wpAny_notOrdered_dict
abbrev kX:=@PySem.F.slot_dict_get
abbrev k6:=@PySem.Obj.isFreed_of_fields
abbrev k7:=@PySem.call_meets
abbrev k8:=@PySem.F.slot_tuple_mul
abbrev k9:=@List.getElem_mem
abbrev lf:=@List.eq_nil_of_length_eq_zero
abbrev lh:=@PySem.codeAny_extend_loopS
abbrev li:=@PySem.wpAny_updateSeq_pair
abbrev lx:=@PySem.F.args_object_init_2
abbrev ly:=@PySem.wpAny_execs_nil
abbrev lI:=@List.nodup_cons
abbrev lP:=@PySem.F.args_tuple_iterator_next_1
abbrev lS:=@PySem.F.slot_zip_next
abbrev lT:=@PySem.F.slot_int_rmul
abbrev l0:=@List.nil_append
abbrev l4:=@List.find?_some
abbrev l5:=@List.filterMap_cons
abbrev l6:=@PySem.W.plainGet_of
abbrev l7:=@List.length_reverse
abbrev l8:=@PySem.codeAny_mono
abbrev l9:=@Nat.lt_trans
abbrev md:=@PySem.F.entry_tuple_iterator_next
abbrev me:=@PySem.SeqAt.EqAt.int_str
abbrev mf:=@PySem.SeqAt.EqAt.str_int
abbrev mh:=@PySem.Calls.Name_function_global
abbrev ml:=@PySem.SeqAt.EqAt.int_int
abbrev mm:=@List.drop_zero
abbrev mr:=@PySem.wpAny_newTuple
abbrev mv:=@PySem.isSubtype_stop
abbrev mx:=@PySem.wpAny_fieldsOf
abbrev mB:=@List.drop_drop
abbrev mE:=@PySem.F.entry_extend_loop
abbrev mI:=@PySem.wpAny_binaryOp_repeat_ref
abbrev mM:=@PySem.wpAny_sequenceKey
abbrev mN:=@PySem.wpAny_letGo
abbrev mS:=@PySem.wpAny_pyIter_slot
abbrev mT:=@Option.isSome_iff_exists
abbrev ng:=@PySem.wpAny_comprehension_free
abbrev nh:=@PySem.wpAny_handled
abbrev nn:=@PySem.wpAny_onRaise
abbrev ny:=@PySem.wpAny_forIn_list
abbrev nE:=@PySem.wpAny_pyNext_tuple_item
abbrev nI:=@List.getElem?_replicate
abbrev nK:=@PySem.F.args_dict_get_3
abbrev nN:=@PySem.noFill_tuple_add
abbrev nS:=@List.take_length
abbrev nV:=@PySem.entryFor_of_tree
abbrev nX:=@PySem.F.plain_list_iadd
abbrev og:=@decide_eq_false_iff_not
abbrev oj:=@PySem.wpAny_load
abbrev om:=@PySem.W.cellsFrom_some
abbrev oq:=@PySem.F.entry_dict_get
abbrev ow:=@PySem.typeIs_int
abbrev ox:=@List.find?_cons_of_neg
abbrev oy:=@List.take_of_length_le
abbrev oz:=@List.of_mem_zip
abbrev oB:=@List.length_nil
abbrev oC:=@List.length_replicate
abbrev oI:=@Array.getElem?_toList
abbrev oP:=@Bool.beq_eq_decide_eq
abbrev oQ:=@List.singleton_append
abbrev pc:=@List.range_eq_range'
abbrev pd:=@PySem.callType_codes
abbrev pf:=@PySem.wpAny_throw
abbrev pi:=@PySem.F.called_tuple
abbrev pj:=@List.mem_of_mem_drop
abbrev pp:=@List.find?_map
abbrev pz:=@Option.map_map
abbrev pE:=@Nat.add_le_add_left
abbrev pS:=@List.getElem?_range
abbrev pT:=@Nat.add_assoc
abbrev pV:=@PySem.seq_tuple_add
abbrev p0:=@PySem.signature?_of
abbrev p4:=@Nat.mul_assoc
abbrev p5:=@Prod.mk.injEq
abbrev p9:=@Nat.mul_comm
noncomputable section
namespace Lake.L2
open PySem PySem.Spec PyProof.Rows
variable {h:Heap}{Q:Unit->Shared->Prop}
section
variable {prog:Program}{w:World}{κ:Type}[DecidableEq κ]{kd:HeapKind prog w κ}{A:Around}{E:oT}{s:Shared}{d a it:Addr}{xs:List (κ×Addr×Value)}{k:κ}{v:Value}
def AL (kd:HeapKind prog w κ)(h:Heap)(d:Addr)(xs:List (κ×Addr×Value)):Prop:=
 ∃o es,h.get? d=some o/\o.ExactDict/\o.data=.dict es xs.length/\es.toList=xs.map (entryOfKey kd)/\(∀x∈xs,kd.is h x.1 x.2.1)/\(xs.map (·.1)).Nodup
theorem AL.of (m:AL kd h d xs):h.DictOfH kd d xs:=let ⟨o,es,q⟩:=m;⟨o,es,_,q⟩
theorem rN (hu:kd.room A)(hk:kd.is s.heap k a)(m:AL kd s.heap d xs)(hz:xs.length<=sizeLine)
  (q:∀h',AL kd h' d (storedH xs k a v)->Heap.SameBut d s.heap h'->Q () { s with heap:=h',toks:=s.toks+kd.draws k }):wpAny (model prog w) A (dictSet d (.ref a) v) Q E s:=by
 obtain⟨o,es,o1,o2,o3,o4,o5,o6⟩:=m
 unfold dictSet
 try with_reducible refine dP ?_
 refine ab (kd.pyHash hu hk ?_)
 unfold dictSetHashed
 try with_reducible refine dP ?_
 refine ab (wpAny_dictFind_heap (s:={ s with toks:=s.toks+kd.draws k }) hu hk o1 o3 o4 o5 o6 (λno=>?_) λj p hj=>?_)
 ·have nk:k∉xs.map (·.1):=not_mem_keys_of_get no
  have e:=storedH_new (atKey_none_of_get no) a v
  rw[e] at q
  refine ab (hJ (wpAny_updateDictKeys (hz:=by have:=i8 o4;omega) (s:={ s with toks:=s.toks+kd.draws k }) o1 o3 (q _ ⟨_,_,cE _ o1 (Obj.isFreed_of_dict (Obj.data_mapDictKeys o3 _)),o2.mapDictKeys _,by rw[bq];exact Obj.data_mapDictKeys o3 _,?_,λx hx=>?_,?_⟩ (eg ..))))
  ·simp[o4,entryOfKey]
  ·rcases bo.mp hx with z | z
   ·exact kd.keeps (o5 x z) o1 o3 (eg ..)
   ·rw[av.mp z];exact kd.keeps hk o1 o3 (eg ..)
  ·rw[dL]
   exact im.mpr ⟨o6,by simp,λx hx y hy z=>nk (by rw[a0,iX,av] at hy;have hy:y=k:=hy;subst hy z;exact hx)⟩
 ·have e:=storedH_old (atKey_of_get o6 hj) a v
  rw[e] at q
  refine ab (hJ (ab (wpAny_updateDict (s:={ s with toks:=s.toks+kd.draws k }) o1 o3 (wpAny_point (q _ ⟨_,_,cE _ o1 (Obj.isFreed_of_dict (Obj.data_mapDict o3 _)),o2.mapDict _,by rw[aI];exact Obj.data_mapDict o3 _,?_,λx hx=>?_,?_⟩ (eg ..))))))
  ·have y:=modify_map_putAt (entryOfKey kd) (λe:DictEntry=>{ e with val:=v }) k v (λ_ _=>rfl) o6 hj
   rw[← o4] at y
   cases es
   simpa using y
  ·obtain⟨y,hy,rfl⟩:=b9.mp hx
   unfold putAt
   split <;> exact kd.keeps (o5 y hy) o1 o3 (eg ..)
  ·rw[keys_map_putAt];exact o6
theorem Hq (hu:kd.room A.in1)(hk:kd.is s.heap k a)(m:AL kd s.heap d xs)(hz:xs.length<=sizeLine)
  (q:∀h',AL kd h' d (storedH xs k a v)->Heap.SameBut d s.heap h'->Q () { s with heap:=h',toks:=s.toks+kd.draws k }):wpAny (model prog w) A (setItem (.ref d) (.ref a) v) Q E s:=by
 have ty:=m.of.typeIs
 unfold setItem
 try with_reducible refine dP ?_
 refine ab (mM ty (by decide) (ab (ci (name:=Str.ofString "__setitem__") ty slot_dict_setitem (cp slot_dict_setitem ty entry_dict_setitem ?_ (args_dict_setitem _ _ _)))))
 show wpAny _ _ (Builtin.Dict.notOrdered "__setitem__" ⟨[.ref d,.ref a,v],[]⟩ >>= _) _ _ s
 refine ab (kU ty ?_)
 show wpAny _ _ (dictSet d (.ref a) v >>= λ_=>_) _ _ s
 exact ab (rN hu hk m hz λh' m' C6=>ae ⟨.none,rfl,ae (q h' m' C6)⟩)
end
abbrev Key:=Sum Int Str
noncomputable def jN:Key->Value->Bool
 | .inl k,v=>Value.isInt k v
 | .inr x,v=>Value.isStrOf x v
noncomputable def Hr (w:World):Key->Int
 | .inl k=>hashInt k
 | .inr x=>hashStr w x
theorem bH:∀{k:Key}{v:Value},jN k v=true->(∃i t,k=Sum.inl i/\v=Value.int i t)\/(∃x t,k=Sum.inr x/\v=Value.str x t)
 | .inl i,v,h=>by
  obtain⟨t,e⟩:=Value.isInt_shape (k:=i) (v:=v) h
  exact .inl ⟨i,t,rfl,e⟩
 | .inr x,v,h=>by
  obtain⟨t,e⟩:=Value.isStrOf_shape (x:=x) (v:=v) h
  exact .inr ⟨x,t,rfl,e⟩
theorem pM (i:Int)(t:Tok):jN (.inl i) (.int i t)=true:=by simp[jN,Value.isInt]
theorem pN (x:Str)(t:Tok):jN (.inr x) (.str x t)=true:=by simp[jN,Value.isStrOf]
theorem pO (a b:Int):decide ((Sum.inl a:Key)=Sum.inl b)=(a == b):=by
 by_cases e:a=b
 ·subst e;simp
 ·have h:¬ (Sum.inl a:Key)=Sum.inl b:=λq=>e (Sum.inl.inj q)
  rw[dv h]
  exact(eR.mpr e).symm
theorem Ey (a b:Str):decide ((Sum.inr a:Key)=Sum.inr b)=decide (a=b):=by
 by_cases e:a=b
 ·subst e;simp
 ·have h:¬ (Sum.inr a:Key)=Sum.inr b:=λq=>e (Sum.inr.inj q)
  rw[dv h,dv e]
theorem ym (a:Int)(b:Str):decide ((Sum.inl a:Key)=Sum.inr b)=false:=dv (λq=>nomatch q)
theorem yo (a:Str)(b:Int):decide ((Sum.inr a:Key)=Sum.inl b)=false:=dv (λq=>nomatch q)
def cY (prog:Program)(w:World):PySem.KeyKind prog w Key where
 is:=jN
 hash:=Hr w
 inj:=λv a b ha hb=>by
  rcases bH ha with ⟨i,t,rfl,rfl⟩ | ⟨x,t,rfl,rfl⟩
  ·rcases bH hb with ⟨j,u,rfl,e⟩ | ⟨y,u,rfl,e⟩
   ·injection e with e1 _;rw[e1]
   ·exact nomatch e
  ·rcases bH hb with ⟨j,u,rfl,e⟩ | ⟨y,u,rfl,e⟩
   ·exact nomatch e
   ·injection e with e1 _;rw[e1]
 byValue:=λk v h=>by
  rcases bH h with ⟨i,t,rfl,rfl⟩ | ⟨x,t,rfl,rfl⟩ <;> rfl
 pyHash:=λhv h=>by
  rcases bH hv with ⟨i,t,rfl,rfl⟩ | ⟨x,t,rfl,rfl⟩
  ·exact wpAny_pyHash_int h
  ·exact wpAny_pyHash_str h
 eqBool:=λhu hv h=>by
  rcases bH hu with ⟨i,t,rfl,rfl⟩ | ⟨x,t,rfl,rfl⟩
  ·rcases bH hv with ⟨j,u,rfl,rfl⟩ | ⟨y,u,rfl,rfl⟩
   ·rw[pO] at h;exact wpAny_eqBool_int h
   ·rw[ym] at h;exact me i t y u _ _ _ _ h
  ·rcases bH hv with ⟨j,u,rfl,rfl⟩ | ⟨y,u,rfl,rfl⟩
   ·rw[yo] at h;exact mf x t j u _ _ _ _ h
   ·rw[Ey] at h;exact wpAny_eqBool_str h
 «strs»:=λk x t v h=>by
  rcases bH h with ⟨i,u,rfl,e⟩ | ⟨y,u,rfl,e⟩
  ·exact nomatch e
  ·injection e with e1 _
   subst e1
   cases v <;> rfl
noncomputable def cP:Key->Value->Bool
 | .inl k,.bool b=>decide (k=if b=true then 1 else 0)
 | k,v=>jN k v
variable {v:Value}
theorem bx {k:Key}(h:cP k v=true):(∃b,k=Sum.inl (if b=true then 1 else 0)/\v=Value.bool b)\/(∃i t,k=Sum.inl i/\v=Value.int i t)\/(∃x t,k=Sum.inr x/\v=Value.str x t):=by
 unfold cP at h
 split at h
 ·exact .inl ⟨_,d5 _ (of_decide_eq_true h),rfl⟩
 ·exact .inr (bH h)
theorem lH {k:Key}(h:jN k v=true):cP k v=true:=by
 rcases bH h with ⟨i,t,rfl,rfl⟩ | ⟨x,t,rfl,rfl⟩ <;> exact h
theorem A_ (b:Bool):cP (.inl (if b=true then 1 else 0)) (.bool b)=true:=hU rfl
theorem Nr (a b:Bool):decide ((Sum.inl (if a=true then 1 else 0):Key)=Sum.inl (if b=true then 1 else 0))=(a == b):=by
 rw[pO];cases a <;> cases b <;> rfl
variable {w:World}{A:Around}{E:oT}{s:Shared}
theorem Ez {prog:Program}(b:Bool){Q:Int->Shared->Prop}(h:Q (hashInt (if b=true then 1 else 0)) { s with toks:=s.toks+1 }):
  wpAny (model prog w) A (pyHash (.bool b)) Q E s:=by
 refine W.pyHash_slot (s:=s) (T := "bool") (by cases b <;> exact PySem.typeIs_bool s _) PySem.F.slot_bool_hash entry_int_hash (args_int_hash _) (by rw[beq_builtin_none]) (.inl rfl) ?_
 have e:reduceHash (rawHash (if b=true then 1 else 0))=hashInt (if b=true then 1 else 0):=by cases b <;> decide
 show wpAny _ _ (do ret (← mkInt (rawHash (if b=true then 1 else 0)))) _ _ s
 refine fw (wpAny_ret_mkInt (Q:=λv s'=>∃t,v=.int (rawHash (if b=true then 1 else 0)) t/\s'={ s with toks:=s.toks+1 }) ⟨_,rfl,rfl⟩) (λfin s' hq=>?_) λ_ _ x=>x
 obtain⟨v,rfl,t,rfl,rfl⟩:=hq
 exact⟨_,_,rfl,by rw[e];exact h⟩
def rO (prog:Program)(w:World):PySem.KeyKind prog w Key where
 is:=cP
 hash:=Hr w
 inj:=λv a b ha hb=>by
  rcases bx ha with ⟨c,rfl,rfl⟩ | ⟨i,t,rfl,rfl⟩ | ⟨x,t,rfl,rfl⟩ <;> rcases bx hb with ⟨d,rfl,e⟩ | ⟨j,u,rfl,e⟩ | ⟨y,u,rfl,e⟩ <;> cases e <;> rfl
 byValue:=λk v h=>by
  rcases bx h with ⟨c,rfl,rfl⟩ | ⟨i,t,rfl,rfl⟩ | ⟨x,t,rfl,rfl⟩ <;> rfl
 pyHash:=λhv h=>by
  rcases bx hv with ⟨c,rfl,rfl⟩ | ⟨i,t,rfl,rfl⟩ | ⟨x,t,rfl,rfl⟩
  ·exact Ez c h
  ·exact wpAny_pyHash_int h
  ·exact wpAny_pyHash_str h
 eqBool:=λhu hv h=>by
  rcases bx hu with ⟨c,rfl,rfl⟩ | ⟨i,t,rfl,rfl⟩ | ⟨x,t,rfl,rfl⟩
  ·rcases bx hv with ⟨d,rfl,rfl⟩ | ⟨j,u,rfl,rfl⟩ | ⟨y,u,rfl,rfl⟩
   ·rw[Nr] at h;exact SeqAt.EqAt.bool_bool _ _ _ _ _ _ h
   ·rw[pO] at h;exact SeqAt.EqAt.bool_int _ _ _ _ _ _ _ h
   ·rw[ym] at h;exact SeqAt.EqAt.bool_str _ _ _ _ _ _ _ h
  ·rcases bx hv with ⟨d,rfl,rfl⟩ | ⟨j,u,rfl,rfl⟩ | ⟨y,u,rfl,rfl⟩
   ·rw[pO] at h;exact SeqAt.EqAt.int_bool _ _ _ _ _ _ _ h
   ·rw[pO] at h;exact wpAny_eqBool_int h
   ·rw[ym] at h;exact me i t y u _ _ _ _ h
  ·rcases bx hv with ⟨d,rfl,rfl⟩ | ⟨j,u,rfl,rfl⟩ | ⟨y,u,rfl,rfl⟩
   ·rw[yo] at h;exact SeqAt.EqAt.str_bool _ _ _ _ _ _ _ h
   ·rw[yo] at h;exact mf x t j u _ _ _ _ h
   ·rw[Ey] at h;exact wpAny_eqBool_str h
 «strs»:=λk x t v h=>by
  rcases bx h with ⟨c,rfl,e⟩ | ⟨i,u,rfl,e⟩ | ⟨y,u,rfl,e⟩
  ·exact nomatch e
  ·exact nomatch e
  ·injection e with e1 _
   subst e1
   cases v <;> rfl
theorem Ba (prog:Program)(w:World)(i:Int)(t:Tok):(cY prog w).is (.inl i) (.int i t)=true:=pM i t
theorem Bb (prog:Program)(w:World)(x:Str)(t:Tok):(cY prog w).is (.inr x) (.str x t)=true:=pN x t
inductive zo where
 | k (x:Key) | nil | cons (a b:zo)
 deriving DecidableEq
noncomputable def zo.tp:List zo->zo
 | []=>.nil
 | a::l=>.cons a (tp l)
theorem zo.D7:∀{l m:List zo},zo.tp l=zo.tp m->l=m
 | [],[],_=>rfl
 | [],_::_,e=>nomatch e
 | _::_,[],e=>nomatch e
 | a::l,b::m,e=>by
  have e':zo.cons a (.tp l)=zo.cons b (.tp m):=e
  injection e' with e1 e2
  rw[e1,zo.D7 e2]
theorem zo.OO {l:List zo}{x:Key}(e:zo.tp l=.k x):False:=by
 cases l <;> exact nomatch e
def B4 (R:zo->Value->Prop)(h:Heap)(ks:List zo)(a:Addr):Prop:=∃o items n,h.get? a=some o/\o.cls=.type "tuple" /\ o.data=.seq items n/\Paired R ks items.toList
def B9:Nat->Heap->zo->Value->Prop
 | 0,_,n,v=>∃x,n=.k x/\cP x v=true
 | d+1,h,n,v=>(∃x,n=.k x/\cP x v=true)\/∃ns a,n=.tp ns/\v=.ref a/\B4 (B9 d h) h ns a
theorem B9.leaf {d:Nat}{x:Key}(e:cP x v=true):B9 d h (.k x) v:=by
 cases d with
 | zero=>exact⟨x,rfl,e⟩
 | succ d=>exact .inl ⟨x,rfl,e⟩
noncomputable def nH (w:World):zo->Int×List Int
 | .k x=>(Hr w x,[])
 | .nil=>(reduceHash (Builtin.Tuple.tupleHashOf []),[])
 | .cons a b=>(reduceHash (Builtin.Tuple.tupleHashOf ((nH w a).1::(nH w b).2)),(nH w a).1::(nH w b).2)
theorem EY (w:World):∀l:List zo,(nH w (.tp l)).2=l.map λx=>(nH w x).1
 | []=>rfl
 | a::l=>by
  show (nH w a).1::(nH w (.tp l)).2=_
  rw[EY w l];rfl
theorem QS (w:World)(l:List zo):(nH w (.tp l)).1=reduceHash (Builtin.Tuple.tupleHashOf (l.map λx=>(nH w x).1)):=by
 cases l with
 | nil=>simp[nH,zo.tp]
 | cons a l=>rw[← EY];rfl
noncomputable def nD:zo->Nat
 | .k _=>1
 | .nil=>1
 | .cons a b=>nD a+nD b
theorem J_:∀l:List zo,nD (.tp l)=(l.map nD).sum+1
 | []=>rfl
 | a::l=>by
  show nD a+nD (.tp l)=_
  rw[J_ l,a0,List.sum_cons];omega
variable {a b:Addr}{R:zo->Value->Prop}{ks:List zo}{u:Value}
section
variable {P:Program}{w:World}
theorem Paired.inj {α β:Type}{R:α->β->Prop}(hR:∀x y v,R x v->R y v->x=y):∀{l m:List α}{vs:List β},Paired R l vs->Paired R m vs->l=m
 | _,_,_,.nil,.nil=>rfl
 | _,_,_,.cons h t,.cons h' t'=>by rw[hR _ _ _ h h',Paired.inj hR t t']
theorem B4.inj {R:zo->Value->Prop}{h:Heap}{x y:List zo}{a:Addr}(hR:∀x y v,R x v->R y v->x=y)(hx:B4 R h x a)(hy:B4 R h y a):x=y:=by
 obtain⟨o,zw,n,e1,_,e3,r⟩:=hx
 obtain⟨o',its',n',Yf,_,Z3,r'⟩:=hy
 obtain rfl:o=o':=bg (e1.symm.trans Yf)
 rw[e3] at Z3
 injection Z3 with e _
 subst e
 exact Paired.inj hR r r'
theorem yp {x:Key}(h:cP x (.ref a)=true):False:=by
 rcases bx h with ⟨_,_,e⟩ | ⟨_,_,_,e⟩ | ⟨_,_,_,e⟩ <;> exact nomatch e
theorem yq {x y:Key}(hx:cP x v=true)(hy:cP y v=true):x=y:=by
 rcases bx hx with ⟨c,rfl,rfl⟩ | ⟨i,t,rfl,rfl⟩ | ⟨x,t,rfl,rfl⟩ <;> rcases bx hy with ⟨d,rfl,e⟩ | ⟨j,u,rfl,e⟩ | ⟨y,u,rfl,e⟩ <;> cases e <;> rfl
theorem B9.inj:∀{d:Nat}{h:Heap}(x y:zo) (v:Value),B9 d h x v->B9 d h y v->x=y
 | 0,h,x,y,v,⟨p,e,hp⟩,⟨q,f,hq⟩=>by rw[e,f,yq hp hq]
 | d+1,h,x,y,v,hx,hy=>by
  rcases hx with ⟨p,e,hp⟩ | ⟨ns,a,e,ev,t⟩
  ·rcases hy with ⟨q,f,hq⟩ | ⟨ms,b,f,fv,u⟩
   ·rw[e,f,yq hp hq]
   ·rw[fv] at hp;exact(yp hp).elim
  ·rcases hy with ⟨q,f,hq⟩ | ⟨ms,b,f,fv,u⟩
   ·rw[ev] at hq;exact(yp hq).elim
   ·rw[ev] at fv
    cases fv
    rw[e,f,B4.inj (λx y v=>B9.inj x y v) t u]
theorem dZ {α β:Type}{F G:α->β->Prop}:∀{l₁:List α}{l₂:List β},Paired F l₁ l₂->(∀a b,F a b->G a b)->Paired G l₁ l₂
 | _,_,.nil,_=>.nil
 | _,_,.cons h t,f=>.cons (f _ _ h) (dZ t f)
theorem B4.keeps {R':zo->Value->Prop}{h':Heap}{d:Addr}{o:Obj}{es ep}(x:B4 R h ks a)(hR:∀k v,R k v->R' k v)(ho:h.get? d=some o)(hd:o.data=.dict es ep)(hs:Heap.SameBut d h h'):B4 R' h' ks a:=by
 obtain⟨o',items,n,LJ,hc,SR,hi⟩:=x
 have AM:a≠d:=by
  rintro rfl
  obtain rfl:o'=o:=bg (LJ.symm.trans ho)
  rw[hd] at SR;exact nomatch SR
 exact⟨o',items,n,(hs.2 a AM).trans LJ,hc,SR,dZ hi hR⟩
theorem B9.keeps:∀{n:Nat}{h h':Heap}{d:Addr}{o:Obj} {es ep}(k:zo) (v:Value),B9 n h k v->h.get? d=some o->o.data=.dict es ep->Heap.SameBut d h h'->B9 n h' k v
 | 0,h,h',d,o,es,ep,k,v,x,_,_,_=>x
 | n+1,h,h',d,o,es,ep,k,v,x,ho,hd,hs=>x.imp id λ⟨ns,a,e,ev,t⟩=>⟨ns,a,e,ev,t.keeps (λk v q=>B9.keeps k v q ho hd hs) ho hd hs⟩
theorem B4.typeIs (x:B4 R s.heap ks a):s.TypeIs (.ref a) "tuple" := let ⟨o,_,_,ho,hc,_⟩:=x;⟨o,ho,hc⟩
theorem B4.F5 (x:B4 R h ks a):∃items,h.IsTuple a items/\Paired R ks items.toList:=let ⟨o,zw,n,ho,hc,hd,r⟩:=x;⟨zw,⟨o,ho,hc,n,hd⟩,r⟩
theorem Kv {Q:Int->Shared->Prop}(hu:A.units < cLine)(hk:B4 R s.heap ks a)
  (hR:∀k v (s':Shared) (Q':Int->Shared->Prop) (E':oT),R k v->s'.heap=s.heap->Q' (nH w k).1 { s' with toks:=s'.toks+nD k }->wpAny (model P w) A.in1 (pyHash v) Q' E' s')
  (h:Q (nH w (.tp ks)).1 { s with toks:=s.toks+nD (.tp ks) }):wpAny (model P w) A (pyHash (.ref a)) Q E s:=by
 have hT:=hk.typeIs
 obtain⟨o,items,n,ho,_,hd,hi⟩:=hk
 unfold pyHash
 first | unfold pyHashByItsType | skip
 first | refine ab (wpAny_cRoomFor_or (.inr hu) ?_) | skip
 refine ab (e8 hT kL.lookup ?_)
 show wpAny _ _ (if (some (Value.builtin "tuple.__hash__") == some Value.none)=true then _ else _) Q E s
 rw[ay (by rw[beq_builtin_none];exact ba)]
 refine ab (e8 hT kL.lookup ?_)
 show wpAny _ _ (callSpecialIfBoundUnlessNone? (.ref a) "__hash__" _ >>= _) Q E s
 refine ab (wpAny_callSpecialIfBoundUnlessNone?_slot hT kL (cp kL hT F.entry_tuple_hash ?_ (F.args_tuple_hash_1 _)))
 show wpAny _ _ (Builtin.Tuple.tupleItemsOf (.ref a) >>= _) _ _ s
 refine ab (wpAny_tupleItemsOf ho hd ?_)
 refine ab ?_
 rw[← Array.forIn_toList]
 refine ny _
  (λrest (b:Array Int) s'=>∃done left,ks=done++left/\Paired R left rest/\b.toList=done.map (λx=>(nH w x).1)/\s'={ s with toks:=s.toks+(done.map nD).sum })
  _ ?_ ?_ _ _ ⟨[],ks,rfl,hi,rfl,rfl⟩
 ·rintro x rest b s' ⟨done,left,rfl,hl,hb,rfl⟩
  cases hl with
  | @cons k _ ks' _ h1 OP=>
   refine ab (hR _ _ _ _ _ h1 rfl ?_)
   exact ae ⟨done++[k],ks',by simp,OP,by simp[hb],by simp[pT]⟩
 ·rintro b s' ⟨done,left,rfl,hl,hb,rfl⟩
  cases hl
  rw[bS,QS,J_,← pT] at h
  show wpAny _ _ (retInt (Builtin.Tuple.tupleHashOf b.toList)) _ _ _
  rw[hb]
  refine wpAny_ret_mkInt ?_
  generalize List.map (λx=>(nH w x).1) done=hs at h
  show wpAny _ _ (if (decide (-(2:Int) ^ 63<=Builtin.Tuple.tupleHashOf hs)&&decide (Builtin.Tuple.tupleHashOf hs < 2 ^ 63))=true then _ else _) Q E _
  unfold reduceHash at h
  by_cases hr:(decide (-(2:Int) ^ 63<=Builtin.Tuple.tupleHashOf hs)&&decide (Builtin.Tuple.tupleHashOf hs < 2 ^ 63))=true
  ·rw[bb hr]
   rw[bb hr] at h
   exact ae h
  ·rw[ay hr]
   rw[ay hr] at h
   exact ab (hJ (ae h))
theorem in1_units (A:Around):A.in1.units=A.units+1:=rfl
theorem wL {x:Key}{Q:Int->Shared->Prop}(hp:cP x v=true)(h:Q (nH w (.k x)).1 { s with toks:=s.toks+nD (.k x) }):wpAny (model P w) A (pyHash v) Q E s:=
 (rO P w).pyHash (k:=x) hp h
theorem B9.hash:∀{d:Nat}{A:Around}{E:oT}{s:Shared}{k:zo}{v:Value}{Q:Int->Shared->Prop},A.units+d < cLine->B9 d s.heap k v->Q (nH w k).1 { s with toks:=s.toks+nD k }->wpAny (model P w) A (pyHash v) Q E s
 | 0,A,E,s,k,v,Q,_,⟨x,e,hp⟩,h=>by subst e;exact wL hp h
 | d+1,A,E,s,k,v,Q,hu,x,h=>by
  rcases x with ⟨x,e,hp⟩ | ⟨ns,a,e,ev,t⟩
  ·subst e;exact wL hp h
  ·subst e ev
   exact Kv (by omega) t (λk v s' Q' E' r es h'=>B9.hash (d:=d) (by rw[in1_units];omega) (by rw[es];exact r) h') h
theorem tX {R:zo->Value->Prop}:∀{x y:List zo}{us vs:qh}(e:Nat->Bool),Paired R x us->Paired R y vs->(∀j p q,x[j]?=some p->y[j]?=some q->e j=decide (p=q))->
  ((List.range (min us.length vs.length)).all e&&us.length == vs.length)=decide (x=y)
 | _,_,_,_,e,.nil,.nil,_=>by simp
 | _,_,_,_,e,.nil,.cons _ _,_=>by simp
 | _,_,_,_,e,.cons _ _,.nil,_=>by simp
 | _,_,_,_,e,.cons (a:=p) (l₁:=x) (l₂:=us) h t,.cons (a:=q) (l₁:=y) (l₂:=vs) h' t',he=>by
  have ih:=tX (λj=>e (j+1)) t t' λj p q a b=>he (j+1) p q (by simpa using a) (by simpa using b)
  have h0:=he 0 p q rfl rfl
  rw[bv,bv,Nat.succ_min_succ,List.range_succ_eq_map,kl,List.all_map]
  have e1:((us.length+1) == (vs.length+1))=(us.length == vs.length):=by simp
  rw[e1,Bool.and_assoc,h0]
  have e2:((List.range (min us.length vs.length)).all (e∘Nat.succ)&&us.length == vs.length)=decide (x=y):=ih
  rw[e2]
  by_cases z:p=q
  ·subst z;simp
  ·simp[z]
theorem lJ {α β:Type}{F:α->β->Prop}:∀{l₁:List α}{l₂:List β}{i:Nat}{y:β},Paired F l₁ l₂->l₂[i]?=some y->∃x,l₁[i]?=some x/\F x y
 | _,_,_,_,.nil,e=>by simp at e
 | _,_,0,_,.cons r _,e=>by simp at e;subst e;exact⟨_,rfl,r⟩
 | _,_,i+1,y,.cons _ t,e=>by
  obtain⟨x,h1,h2⟩:=lJ (i:=i) (y:=y) t (by simpa using e)
  exact⟨x,by simpa using h1,h2⟩
theorem CQ {x y:List zo}(hi:∀x y v,R x v->R y v->x=y)(hu:A.units < cLine)(hx:B4 R s.heap x a)(hy:B4 R s.heap y b)
  (hR:∀p q u v,R p u->R q v->SeqAt.EqAt A.in1 s u v (decide (p=q))):SeqAt.EqAt A s (.ref a) (.ref b) (decide (x=y)):=by
 by_cases Z4:a=b
 ·subst Z4
  rw[B4.inj hi hx hy,hU rfl]
  exact SeqAt.EqAt.same _
 ·obtain⟨us,h1,r1⟩:=hx.F5
  obtain⟨vs,h2,r2⟩:=hy.F5
  have l1:=iA r1
  have l2:=iA r2
  have key:=SeqAt.RcAt.tuples (e:=λj=>match x[j]?,y[j]? with | some p,some q=>decide (p=q) | _,_=>false) h1 h2 hu λj j1 j2=>by
   have e1:us.toList[j]?=some us[j]:=by simp[j1]
   have e2:vs.toList[j]?=some vs[j]:=by simp[j2]
   obtain⟨p,ep,rp⟩:=lJ r1 e1
   obtain⟨q,eq,rq⟩:=lJ r2 e2
   simp only[ep,eq]
   exact hR p q _ _ rp rq
  refine SeqAt.EqAt.of_refs Z4 ?_
  have fin:=tX (R:=R) (λj=>match x[j]?,y[j]? with | some p,some q=>decide (p=q) | _,_=>false) r1 r2 λj p q a b=>by simp only[a,b]
  rw[← fin]
  simpa using key
theorem yr {x:Key}(hu:A.units < cLine)(hp:cP x u=true)(t:B4 R s.heap ks a):SeqAt.EqAt A s u (.ref a) false/\SeqAt.EqAt A s (.ref a) u false:=by
 obtain⟨us,h1,_⟩:=t.F5
 rcases bx hp with ⟨c,_,rfl⟩ | ⟨i,t,_,rfl⟩ | ⟨x,t,_,rfl⟩
 ·exact⟨.bool_tuple c h1 hu,.tuple_bool c h1 hu⟩
 ·exact⟨.int_tuple i t h1 hu,.tuple_int i t h1 hu⟩
 ·exact⟨.str_tuple x t h1 hu,.tuple_str x t h1 hu⟩
theorem Bo {x y:Key}(hx:cP x u=true)(hy:cP y v=true):SeqAt.EqAt A s u v (decide (zo.k x=zo.k y)):=λprog w E Q h=>by
 have e:decide (zo.k x=zo.k y)=decide (x=y):=by simp
 rw[e] at h
 exact(rO prog w).eqBool (a:=x) (b:=y) hx hy h
theorem B9.eq:∀{d:Nat}{A:Around}{s:Shared}(x y:zo) (u v:Value),A.units+d < cLine->B9 d s.heap x u->B9 d s.heap y v->SeqAt.EqAt A s u v (decide (x=y))
 | 0,A,s,x,y,u,v,_,⟨p,e,hp⟩,⟨q,f,hq⟩=>by subst e f;exact Bo hp hq
 | d+1,A,s,x,y,u,v,hu,hx,hy=>by
  rcases hx with ⟨p,e,hp⟩ | ⟨ns,a,e,ev,t⟩
  ·rcases hy with ⟨q,f,hq⟩ | ⟨ms,b,f,fv,r⟩
   ·subst e f;exact Bo hp hq
   ·subst e f fv
    rw[dv (λz=>zo.OO z.symm)]
    exact(yr (by omega) hp r).1
  ·rcases hy with ⟨q,f,hq⟩ | ⟨ms,b,f,fv,r⟩
   ·subst e f ev
    rw[dv (λz=>zo.OO z)]
    exact(yr (by omega) hq t).2
   ·subst e f ev fv
    have e:decide (zo.tp ns=zo.tp ms)=decide (ns=ms):=by
     by_cases z:ns=ms
     ·simp[z]
     ·rw[dv z,dv (λq=>z (zo.D7 q))]
    rw[e]
    exact CQ (λx y v=>B9.inj x y v) (by omega) t r λp q u v h1 h2=>B9.eq p q u v (by rw[in1_units];omega) h1 h2
theorem Hs {f:Nat}{Q:Bool->Shared->Prop}(hk:B4 R s.heap ks a)
  (hR:∀k v (Q':Bool->Shared->Prop),R k v->Q' true s->wpAny (model P w) A (eqIsQuiet f v) Q' E s) (h:Q true s):wpAny (model P w) A (eqIsQuiet (f+1) (.ref a)) Q E s:=by
 have hT:=hk.typeIs
 obtain⟨o,items,n,ho,_,hd,hi⟩:=hk
 unfold eqIsQuiet
 refine ab (e8 hT F.slot_tuple_eq.lookup ?_)
 show wpAny _ _ (isInstance (.ref a) (.type "tuple") >>= _) _ _ s
 refine ab (gl hT isSubtype_tuple_tuple ?_)
 simp only[Bool.not_true,eI,fI]
 refine ab (fm ho hd ?_)
 refine ab ?_
 show wpAny _ _ (forIn items _ _) _ _ s
 rw[← Array.forIn_toList]
 refine ny _ (λrest r s'=>r.1=none/\s'=s/\∃left,Paired R left rest) _ ?_ ?_ _ _ ⟨rfl,rfl,ks,hi⟩
 ·rintro v rest r s' ⟨hr,rfl,left,hl⟩
  cases hl with
  | cons h1 OP=>
   refine ab (hR _ _ _ h1 ?_)
   simp only[Bool.not_true,eI,fI]
   exact ae ⟨rfl,rfl,_,OP⟩
 ·rintro ⟨r1,r2⟩ s' ⟨hr,rfl,_⟩
  simp only at hr
  subst hr
  exact ae h
theorem tY {x:Key}{f:Nat}{Q:Bool->Shared->Prop}(hp:cP x v=true)(h:Q true s):wpAny (model P w) A (eqIsQuiet f v) Q E s:=by
 rw[eqIsQuiet_byValue _ ((rO P w).byValue _ _ hp)]
 exact ae h
theorem B9.quiet:∀{d f:Nat}{A:Around}{E:oT}{s:Shared}{k:zo}{v:Value}{Q:Bool->Shared->Prop},d < f->B9 d s.heap k v->Q true s->wpAny (model P w) A (eqIsQuiet f v) Q E s
 | 0,f,A,E,s,k,v,Q,_,⟨x,_,hp⟩,h=>tY hp h
 | d+1,0,A,E,s,k,v,Q,hf,x,h=>absurd hf (Nat.not_lt_zero _)
 | d+1,f+1,A,E,s,k,v,Q,hf,x,h=>by
  rcases x with ⟨x,_,hp⟩ | ⟨ns,a,_,ev,t⟩
  ·exact tY hp h
  ·subst ev
   exact Hs t (λk v Q' r h'=>B9.quiet (d:=d) (by omega) r h') h
def cR (P:Program)(w:World):HeapKind P w (List zo) where
 is:=λh ks a=>B4 (B9 2 h) h ks a
 hash:=λks=>(nH w (.tp ks)).1
 draws:=λks=>nD (.tp ks)
 room:=λA=>A.units+3 < cLine
 inj:=λhx hy=>B4.inj (λx y v=>B9.inj x y v) hx hy
 keeps:=λx ho hd hs=>x.keeps (λk v q=>B9.keeps k v q ho hd hs) ho hd hs
 pyHash:=λhu hk h=>B9.hash (d:=3) hu (.inr ⟨_,_,rfl,rfl,hk⟩) h
 eqBool:=λ{A E s x y a b Q} hu hx hy h=>CQ (λx y v=>B9.inj x y v) (show A.units < cLine from kD (Nat.le_add_right _ _) hu) hx hy (λp q u v h1 h2=>B9.eq p q u v (by rw[in1_units];have:A.units+3 < cLine:=hu;omega) h1 h2) P w E Q h
 quiet:=λhk h=>B9.quiet (d:=3) (f:=8) (by decide) (.inr ⟨_,_,rfl,rfl,hk⟩) h
theorem CY (hu:A.units+9 < cLine):(cR P w).room A.in1:=by
 show A.in1.units+3 < cLine
 rw[in1_units];omega
end
inductive V where
 | zD | bl (b:Bool) | int (i:Int) | str (x:Str) | LL (b:Array UInt8) | SU (b:UInt64) | ref (a:Addr) | ty (n:String)
 deriving DecidableEq
def RelV:V->Value->Prop
 | .zD,u=>u=Value.none
 | .bl b,u=>u=Value.bool b
 | .int i,u=>∃t,u=Value.int i t
 | .str x,u=>∃t,u=Value.str x t
 | .LL b,u=>∃t,u=Value.bytes b t
 | .SU b,u=>∃t,u=Value.float b t
 | .ref a,u=>u=Value.ref a
 | .ty n,u=>u=Value.type n
abbrev Vals:List V->List Value->Prop:=Paired RelV
theorem Vals.length {xs:List V}{us:qh}(r:Vals xs us):xs.length=us.length:=iA r
theorem Vals.get:∀{xs:List V}{us:qh}{i:Nat}{x:V},Vals xs us->xs[i]?=some x->∃u,us[i]?=some u/\RelV x u
 | _,_,_,_,.nil,e=>by simp at e
 | _,_,0,_,.cons r _,e=>by simp at e;subst e;exact⟨_,rfl,r⟩
 | _,_,i+1,x,.cons _ t,e=>by
  obtain⟨u,h1,h2⟩:=Vals.get (i:=i) (x:=x) t (by simpa using e)
  exact⟨u,by simpa using h1,h2⟩
theorem Vals.set {x:V}{u:Value}(r:RelV x u):∀{xs:List V}{us:qh}(i:Nat),Vals xs us->Vals (xs.set i x) (us.set i u)
 | _,_,_,.nil=>.nil
 | _,_,0,.cons _ t=>.cons r t
 | _,_,i+1,.cons q t=>.cons q (Vals.set r i t)
theorem Vals.append:∀{xs ys:List V}{us ws:qh},Vals xs us->Vals ys ws->Vals (xs++ys) (us++ws)
 | _,_,_,_,.nil,s=>s
 | _,_,_,_,.cons r t,s=>.cons r (Vals.append t s)
theorem Vals.take:∀{xs:List V}{us:qh}(n:Nat),Vals xs us->Vals (xs.take n) (us.take n)
 | _,_,0,_=>.nil
 | _,_,_+1,.nil=>.nil
 | _,_,n+1,.cons r t=>.cons r (Vals.take n t)
theorem Vals.drop:∀{xs:List V}{us:qh}(n:Nat),Vals xs us->Vals (xs.drop n) (us.drop n)
 | _,_,0,r=>r
 | _,_,_+1,.nil=>.nil
 | _,_,n+1,.cons _ t=>Vals.drop n t
def CF:Option V->Option Value->Prop
 | some v,some u=>RelV v u
 | none,none=>True
 | _,_=>False
def KV {κ:Type}:List (κ×V)->List (κ×Value)->Prop:=Paired λ(p:κ×V) (q:κ×Value)=>p.1=q.1/\RelV p.2 q.2
noncomputable def kV:Key->V
 | .inl i=>.int i
 | .inr x=>.str x
inductive HO where
 | lst (xs:List V)
 | tup (xs:List V)
 | dK (kvs:List (Key×V)) | dT (kvs:List (List zo×V))
 | set (S:Int->Bool) (n:Nat)
 | ins (C dx:Addr) (fs:List (Str×V))
 | own (x:Addr)
 | xd (fs:List (Str×V))
 | met (f x:Addr)
 | Yg (lo hi:Int)
 | frz (o:Obj) (u:HO)
 | SV (ps:qA)
 | ext (φ:Heap->Prop)
abbrev Hp:=Addr->Option HO
def upd (H:Hp)(a:Addr)(o:HO):Hp:=λb=>if b=a then some o else H b
variable {H:Hp}
theorem aA {o:HO}:upd H a o a=some o:=by unfold upd;rw[bb rfl]
theorem ao {o:HO}(h:b≠a):upd H a o b=H b:=by unfold upd;rw[ay h]
theorem bR {o u:HO}(h:H a=some o)(h':H b=some u)(d:o≠u):a≠b:=by
 intro e;subst e;rw[h] at h';exact d (bg h')
theorem aq {o:HO}(h:H a=some o)(h':H b=none):a≠b:=by
 intro e;subst e;rw[h] at h';cases h'
def EN (K:W.Frag)(a:Addr)(xs:List V):Prop:=∃(o:Obj) (zw:qA) (n:Nat),K.lookup a=some o/\o.cls=.type "tuple" /\ o.data=.seq zw n/\(zw.size<=sizeLine/\o.dict=none)/\Vals xs zw.toList
def KB (ns:List zo)(vs:List V):Prop:=∃x b,ns=[.k (.inr x),.k (.inl (if b=true then 1 else 0))]/\vs=[.str x,.bl b]
def NV (K:W.Frag)(H:Hp):Nat->zo->V->Prop
 | 0,n,v=>∃x,n=.k x/\v=kV x
 | d+1,n,v=>(∃x,n=.k x/\v=kV x)\/∃ns a vs,n=.tp ns/\v=.ref a/\(H a=some (.tup vs)\/EN K a vs)/\(Paired (NV K H d) ns vs\/KB ns vs)
def F6 (K:W.Frag)(H:Hp)(ks:List zo)(vs:List V):Prop:=Paired (NV K H 2) ks vs\/KB ks vs
abbrev Nt (K:PySem.W.Frag)(H:Hp)(b:Addr)(ks:List zo):Prop:=∃vs,H b=some (.tup vs)/\F6 K H ks vs
def B5 (K:W.Frag)(H:Hp)(b:Addr)(ks:List zo):Prop:=Nt K H b ks\/∃vs,EN K b vs/\F6 K H ks vs
theorem NV.keeps {K:W.Frag}{H H':Hp}(ht:∀b ys,H b=some (.tup ys)->H' b=some (.tup ys)):∀(d:Nat) (n:zo) (v:V),NV K H d n v->NV K H' d n v
 | 0,_,_,h=>h
 | d+1,n,v,h=>h.imp id λ⟨ns,a,vs,e,ev,t,q⟩=>⟨ns,a,vs,e,ev,t.imp (λz=>ht _ _ z) id,q.imp (λz=>dZ z λx y=>NV.keeps ht d x y) id⟩
theorem F6.keeps {K:W.Frag}{H H':Hp}{ks:List zo}{vs:List V}(h:F6 K H ks vs)(ht:∀b ys,H b=some (.tup ys)->H' b=some (.tup ys)):F6 K H' ks vs:=h.imp (λz=>dZ z λx y=>NV.keeps ht 2 x y) id
theorem B5.keeps {K:W.Frag}{H H':Hp}{b:Addr}{ks:List zo}(c:B5 K H b ks)(ht:∀b ys,H b=some (.tup ys)->H' b=some (.tup ys)):B5 K H' b ks:=c.imp (λ⟨vs,e,k⟩=>⟨vs,ht _ _ e,k.keeps ht⟩) λ⟨vs,e,k⟩=>⟨vs,e,k.keeps ht⟩
def SY (h:Heap)(a:Addr)(items:qA):Prop:=∃o,h.get? a=some o/\o.cls=.type "tuple" /\ ∃n,o.data=.seq items n/\o.dict=none
theorem SY.tup {h:Heap}{a:Addr}{items:qA}(x:SY h a items):IsTup h a items:=let ⟨o,h1,h2,n,h3,_⟩:=x;⟨o,h1,h2,n,h3⟩
section
variable (P:Program)(w:World)(K:W.Frag)
def Ap (H:Hp)(h:Heap)(a:Addr):HO->Prop
 | .lst xs=>xs.length<=sizeLine/\∃(zw:qh) (n:Nat),Vals xs zw/\h.get? a=some { cls:=.type "list",data:=.seq zw.toArray n }
 | .tup xs=>xs.length<=sizeLine/\∃zw:List Value,Vals xs zw/\SY h a zw.toArray
 | .dK kvs=>kvs.length<=sizeLine/\(a == sysModules)=false/\∃vs,KV kvs vs/\h.DictOf (cY P w) a vs
 | .dT kvs=>kvs.length<=sizeLine/\(a == sysModules)=false/\∃xs:List (List zo×Addr×Value),
   Paired (λ(p:List zo×V) (q:List zo×Addr×Value)=>p.1=q.1/\B5 K H q.2.1 p.1/\RelV p.2 q.2.2) kvs xs /\
   ∃o es ep,h.get? a=some o/\o.ExactDict/\o.data=.dict es ep/\es.toList=xs.map (entryOfKey (cR P w))/\(xs.map (·.1)).Nodup/\ep=xs.length
 | .set S n=>h.SetOf (intKind P w) a S n
 | .ins C dx fs=>H dx=some (.own a)/\fs.length<=1000/\dx≠a/\h.get? a=some (W.instObj C dx) /\
   ∃mA,h.Ns1 dx mA/\(∀f,CF (fs.lookup f) (mA f))/\PySem.Within mA (fs.map (·.1))
 | .own _=>∃o,h.get? a=some o
 | .xd fs=>∃mA,h.Ns1 a mA/\∀f,CF (fs.lookup f) (mA f)
 | .Yg lo hi=>∃t u v,h.get? a=some { cls:=.type "range",data:=.fields #[.int lo t,.int hi u,.int 1 v] }
 | .frz o u=>h.get? a=some o/\Ap H h a u
 | .SV ps=>h.get? a=some { cls:=.none,data:=.fields ps }
 | .met f x=>h.get? a=some (W.methodObj (.ref f) (.ref x))
 | .ext φ=>φ h/\(∃o,h.get? a=some o)/\∀h1 h2:Heap,φ h1->(∀o,h1.get? a=some o->h2.get? a=some o)->φ h2
def CI (H:Hp)(h:Heap):Prop:=∀a o,H a=some o->Ap P w K H h a o
end
section
variable {P:Program}{w:World}{K:W.Frag}{H H':Hp}{h h':Heap}{a:Addr}{o:HO}
theorem Ap.lt (x:Ap P w K H h a o):a < h.objs.size:=by
 cases o with
 | lst xs=>obtain⟨_,_,_,_,e⟩:=x;exact ap e
 | tup xs=>obtain⟨_,_,_,p⟩:=x;exact p.tup.lt
 | dK kvs=>obtain⟨_,_,_,_,o,_,_,e,_⟩:=x;exact ap e
 | dT kvs=>obtain⟨_,_,_,_,o,_,_,e,_⟩:=x;exact ap e
 | set S n=>obtain⟨o,_,_,_,e,_⟩:=x;exact ap e
 | ins C dx fs=>obtain⟨_,_,_,e,_⟩:=x;exact ap e
 | own y=>obtain⟨_,e⟩:=x;exact ap e
 | xd fs=>obtain⟨_,⟨_,_,_,e,_⟩,_⟩:=x;exact ap e
 | Yg lo hi=>obtain⟨_,_,_,e⟩:=x;exact ap e
 | frz ob u=>obtain⟨e,_⟩:=x;exact ap e
 | SV ps=>exact ap (show h.get? a=some _ from x)
 | met f y=>exact ap (show h.get? a=some _ from x)
 | ext φ=>obtain⟨_,⟨_,e⟩,_⟩:=x;exact ap e
theorem Paired.S0 {α β:Type}{F G:α->β->Prop}:∀{l₁:List α}{l₂:List β},Paired F l₁ l₂->(∀a b,F a b->G a b)->Paired G l₁ l₂
 | _,_,.nil,_=>.nil
 | _,_,.cons r t,f=>.cons (f _ _ r) (Paired.S0 t f)
theorem Ap.HK (x:Ap P w K H h a o)(k:∀b u,(b=a\/H b=some (.own a))->h.get? b=some u->h'.get? b=some u)
  (ho:∀b,H b=some (.own a)->H' b=some (.own a)) (ht:∀b xs,H b=some (.tup xs)->H' b=some (.tup xs)):Ap P w K H' h' a o:=by
 induction o with
 | lst xs=>obtain⟨z,zw,n,r,e⟩:=x;exact⟨z,zw,n,r,k _ _ (.inl rfl) e⟩
 | tup xs=>obtain⟨z,zw,r,ob,e,c⟩:=x;exact⟨z,zw,r,ob,k _ _ (.inl rfl) e,c⟩
 | dK kvs=>obtain⟨z,y,vs,r,ob,es,ep,e,c⟩:=x;exact⟨z,y,vs,r,ob,es,ep,k _ _ (.inl rfl) e,c⟩
 | dT kvs=>
  obtain⟨z,y,xs,r,ob,es,ep,e,c⟩:=x
  exact⟨z,y,xs,Paired.S0 r λp q z=>⟨z.1,z.2.1.keeps ht,z.2.2⟩,ob,es,ep,k _ _ (.inl rfl) e,c⟩
 | set S n=>obtain⟨ob,es,ep,t,e,c⟩:=x;exact⟨ob,es,ep,t,k _ _ (.inl rfl) e,c⟩
 | ins C dx fs=>
  obtain⟨d,z,ne,e,mA,⟨od,es,ep,e2,c⟩,r⟩:=x
  exact⟨ho _ d,z,ne,k _ _ (.inl rfl) e,mA,⟨od,es,ep,k _ _ (.inr d) e2,c⟩,r⟩
 | own y=>obtain⟨ob,e⟩:=x;exact⟨ob,k _ _ (.inl rfl) e⟩
 | xd fs=>obtain⟨mA,⟨od,es,ep,e,c⟩,r⟩:=x;exact⟨mA,⟨od,es,ep,k _ _ (.inl rfl) e,c⟩,r⟩
 | Yg lo hi=>obtain⟨t,u,v,e⟩:=x;exact⟨t,u,v,k _ _ (.inl rfl) e⟩
 | frz ob u ih=>obtain⟨e,q⟩:=x;exact⟨k _ _ (.inl rfl) e,ih q⟩
 | SV ps=>
  have e:h.get? a=some { cls:=.none,data:=.fields ps }:=x
  show h'.get? a=some { cls:=.none,data:=.fields ps }
  exact k a _ (.inl rfl) e
 | met f y=>
  have e:h.get? a=some (W.methodObj (.ref f) (.ref y)):=x
  show h'.get? a=some (W.methodObj (.ref f) (.ref y))
  exact k a _ (.inl rfl) e
 | ext φ=>obtain⟨p,⟨o,e⟩,st⟩:=x;exact⟨st _ _ p λo q=>k _ _ (.inl rfl) q,⟨o,k _ _ (.inl rfl) e⟩,st⟩
theorem CI.lt (x:CI P w K H h)(e:H a=some o):a < h.objs.size:=(x a o e).lt
theorem CI.fresh (x:CI P w K H h)(e:h.objs.size<=a):H a=none:=by
 cases q:H a with
 | none=>rfl
 | some u=>exact absurd (bi (x.lt q) e) (eM _)
theorem CI.kept (x:CI P w K H h)(k:∀b u,h.get? b=some u->h'.get? b=some u):CI P w K H h':=λa o e=>
 (x a o e).HK (λb u _ q=>k b u q) (λ_ q=>q) λ_ _ q=>q
theorem CI.laid (x:CI P w K H h)(k:∀b u,h.get? b=some u->h'.get? b=some u)(hp:h.objs.size<=a)(new:Ap P w K (upd H a o) h' a o):CI P w K (upd H a o) h':=λb u e=>by
 have hn:=x.fresh hp
 by_cases hb:b=a
 ·subst hb;rw[aA] at e;cases e;exact new
 ·rw[ao hb] at e
  exact(x b u e).HK (λc v _ q=>k c v q) (λc q=>by rw[ao (aq q hn)];exact q) λc xs q=>by rw[ao (aq q hn)];exact q
end
def Rd (H:Hp)(a:Addr)(u:HO):Prop:=H a=some u\/∃o,H a=some (.frz o u)
variable {P:Program}{K:W.Frag}
theorem Rd.ok {u:HO}(r:Rd H a u)(x:CI P w K H h):Ap P w K H h a u:=by
 rcases r with r | ⟨o,r⟩
 ·exact x a u r
 ·obtain⟨_,q⟩:=x a _ r
  exact q
def Vv:Option HO->Prop
 | some (.lst _)=>True
 | some (.dK _)=>True
 | some (.dT _)=>True
 | some (.set _ _)=>True
 | some (.ins _ _ _)=>True
 | some (.ext _)=>True
 | _=>False
section
variable {P:Program}{w:World}{K:W.Frag}{H:Hp}{h h':Heap}{x e:Addr}{o':HO}
theorem CI.write (ok:CI P w K H h)(mu:Vv (H x))(he:e=x\/H e=some (.own x))(k:∀b u,b≠e->h.get? b=some u->h'.get? b=some u)(QE:∃u,h'.get? e=some u)
  (new:Ap P w K (upd H x o') h' x o'):CI P w K (upd H x o') h':=λb u q=>by
 have Vw:∀c y,H c=some (.own y)->c≠x:=λc y r z=>by subst z;rw[r] at mu;exact mu
 have Yh:∀c xs,H c=some (.tup xs)->c≠x:=λc xs r z=>by subst z;rw[r] at mu;exact mu
 by_cases hb:b=x
 ·subst hb;rw[aA] at q;cases q;exact new
 ·rw[ao hb] at q
  by_cases S1:b=e
  ·have q':H b=some (.own x):=by
    rcases he with z | z
    ·exact absurd (S1.trans z) hb
    ·rw[S1];exact z
   rw[q] at q';cases q'
   obtain⟨v,hv⟩:=QE
   exact⟨v,by rw[S1];exact hv⟩
  ·refine(ok b u q).HK (λc v hc r=>k c v ?_ r) (λc r=>by rw[ao (Vw c b r)];exact r) λc xs r=>by rw[ao (Yh c xs r)];exact r
   rcases hc with rfl | hc
   ·exact S1
   ·rintro rfl
    rcases he with z | z
    ·exact Vw c b hc z
    ·rw[hc] at z;cases z;exact hb rfl
end
structure Un (fs ex:qv)(H H':Hp)(h h':Heap):Prop where
 keep:∀b o,h.get? b=some o->H b=none->b∉fs->b∉ex->h'.get? b=some o
 slot:∀b o,h.get? b=some o->H b=none->b∈fs->b∉ex->∃sl,h'.get? b=some { o with slots:=sl }
 free:∀b o,h.get? b=some o->H b=none->b∉ex->H' b=none
 there:∀b o,h.get? b=some o->b∉ex->∃o',h'.get? b=some o'
 HL:∀b xs,H b=some (.tup xs)->H' b=some (.tup xs)
 F7:∀b o u,H b=some (.frz o u)->H' b=some (.frz o u)
 HM:∀b ps,H b=some (.SV ps)->∃more,H' b=some (.SV (ps++more))
section
variable {fs fs' ex ex':qv}{H H1 H2:Hp}{h h1 h2 h':Heap}{a x e:Addr}{o:HO}
theorem Un.any (u:Un fs ex H H1 h h1){ob:Obj}(q:h.get? b=some ob)(n:H b=none)(hx:b∉ex):∃sl,h1.get? b=some { ob with slots:=sl }:=by
 by_cases hb:b∈fs
 ·exact u.slot b ob q n hb hx
 ·exact⟨ob.slots,u.keep b ob q n hb hx⟩
theorem Un.kept (k:∀b u,h.get? b=some u->h'.get? b=some u):Un fs ex H H h h':=
 ⟨λb ob q _ _ _=>k b ob q,λb ob q _ _ _=>⟨ob.slots,k b ob q⟩,λ_ _ _ n _=>n,λb ob q _=>⟨ob,k b ob q⟩,λ_ _ q=>q,λ_ _ _ q=>q,λ_ ps q=>⟨#[],by rw[q];simp⟩⟩
theorem Un.refl:Un fs ex H H h h:=Un.kept λ_ _ q=>q
theorem Un.laid (k:∀b u,h.get? b=some u->h'.get? b=some u)(hp:h.objs.size<=a)(hn:H a=none):Un fs ex H (upd H a o) h h' where
 keep:=λb u q _ _ _=>k b u q
 slot:=λb u q _ _ _=>⟨u.slots,k b u q⟩
 free:=λb u q n _=>by rw[ao (bd (bi (ap q) hp))];exact n
 there:=λb u q _=>⟨u,k b u q⟩
 HL:=λb xs q=>by rw[ao (aq q hn)];exact q
 F7:=λb u xs q=>by rw[ao (aq q hn)];exact q
 HM:=λb ps q=>⟨#[],by rw[ao (aq q hn),q];simp⟩
theorem Un.write (mu:Vv (H x))(he:e=x\/H e=some (.own x))(k:∀b u,b≠e->h.get? b=some u->h'.get? b=some u)(QE:∃u,h'.get? e=some u):Un fs ex H (upd H x o) h h':=by
 have hx:∀b,H b=none->b≠x:=λb n z=>by subst z;rw[n] at mu;exact mu
 have hb:∀b,H b=none->b≠e:=λb n z=>by
  subst z
  rcases he with r | r
  ·exact hx b n r
  ·rw[n] at r;cases r
 have hm:∀b u,H b=some u->¬ Vv (some u)->b≠x:=λb u q nm z=>by subst z;rw[q] at mu;exact nm mu
 refine⟨λb u q n _ _=>k b u (hb b n) q,λb u q n _ _=>⟨u.slots,k b u (hb b n) q⟩,λb u q n _=>by rw[ao (hx b n)];exact n,λb u q _=>?_,
  λb xs q=>by rw[ao (hm b _ q λz=>z)];exact q,λb u xs q=>by rw[ao (hm b _ q λz=>z)];exact q,λb ps q=>⟨#[],by rw[ao (hm b _ q λz=>z),q];simp⟩⟩
 by_cases S1:b=e
 ·subst S1;exact QE
 ·exact⟨u,k b u S1 q⟩
end
noncomputable def Xj (h:Heap)(H:Hp):List Addr:=(List.range h.objs.size).filter λa=>(H a).isSome
noncomputable def nU (h:Heap)(H:Hp):Heap:=W.hideAll h (Xj h H)
theorem E_ (h:Heap)(H:Hp):(nU h H).objs.size=h.objs.size:=W.hideAll_size _ _
theorem Ht {o:Obj}(e:h.get? b=some o)(n:H b=none):(nU h H).get? b=some o:=
 W.hideAll_get _ e λhm=>by
  have q:(H b).isSome=true:=(kA.mp hm).2
  rw[n] at q;simp at q
theorem Kw {o:Obj}(e:(nU h H).get? b=some o):h.get? b=some o/\H b=none:=by
 have e':h.get? b=some o:=W.of_hideAll (Xj h H) e
 refine⟨e',?_⟩
 cases q:H b with
 | none=>rfl
 | some x=>
  have hm:b∈Xj h H:=kA.mpr ⟨bX.mpr (ap e'),by simp[q]⟩
  have z:(nU h H).get? b=none:=W.hideAll_none (Xj h H) hm
  rw[z] at e;cases e
noncomputable def Ky (g h:Heap)(L:Addr):List (Addr×Obj):=(List.range h.objs.size).filterMap λa=>if a=L\/(g.get? a).isSome=true then none else (h.get? a).map λo=>(a,o)
noncomputable def rest (g h:Heap)(L d:Addr):List (Addr×Obj):=(Ky g h L).filter λp=>decide (p.1≠d)
structure Mod (K:W.Frag)(mg:Str->Option Value)(base:Heap):Prop where
 D8:K.In base
 glob:base.Ns mainGlobals mg
 blt:∃mb,base.Ns builtinsNs mb/\∀x:Str,x ≠ "__name__" -> mb x=bootBuiltins x
 nolimit:base.NoLimit
structure Cx where
 prog:Program
 w:World
 K:W.Frag
 mg:Str->Option Value
 base:Heap
 A:Around
 N:List Str
 s₀:Shared
 H₀:Hp
 env:Env
 outer:List Env
 stack:List Env
 ex:List Addr
 fn:Str->Bool
 calm:Bool
 pn:List (Addr×Obj)
 xe:Value->Shared->Prop
noncomputable def LV (l:List Env):List Addr:=l.filterMap (·.frame)
abbrev Cx.fs (X:Cx):List Addr:=LV X.outer
def LW (sc:Scope)(x:Str):Prop:=sc.names.lookup x=some .local\/sc.names.lookup x=some .cell\/sc.names.lookup x=some .free
def Loc (sc:Scope)(x:Str):Prop:=sc.names.lookup x=some .local\/sc.names.lookup x=some .cell
def Look (env:Env)(h:Heap)(m:Str->Option Value)(x:Str)(u:Value):Prop:=
 (env.kindOf x=some .local/\m x=some u)\/((env.kindOf x=some .cell\/env.kindOf x=some .free)/\∃c,env.cells.lookup x=some c/\h.IsCell c (some u))
structure Cx.Ok (X:Cx):Prop where
 mod:Mod X.K X.mg X.base
 kind:X.env.scope.kind=.function
 glob:X.env.globals=mainGlobals
 blt:X.env.builtins=builtinsNs
 above:X.s₀.heap.objs.size<=X.env.locals
 inj:∀x y c,X.env.cells.lookup x=some c->X.env.cells.lookup y=some c->x=y
 has:∀x,(X.env.kindOf x=some .cell\/X.env.kindOf x=some .free)->∃c,X.env.cells.lookup x=some c
 Vx:∀x c,X.fn x=true->X.env.cells.lookup x=some c->X.s₀.heap.objs.size<=c
 hd:X.calm=true->X.A.handled=none
 frames:X.A.frames=some X.stack
 Xk:X.stack=X.outer\/(X.stack=X.env::X.outer/\X.env.frame=some X.env.locals)
 Z5:∀b∈X.ex,b≠X.env.locals/\∀x c,X.env.cells.lookup x=some c->c≠b
 bs:∀b o,X.base.get? b=some o->X.s₀.heap.get? b=some o/\X.H₀ b=none
 LX:X.base.objs.size<=X.s₀.heap.objs.size
 KW:∀b o,X.base.get? b=some o->b∉X.ex
 OQ:∀b∈X.ex,b∉X.fs
 EO:X.s₀.heap.FunFrames X.base X.outer
 S2:∀b∈X.fs,X.H₀ b=none
structure Inv (X:Cx)(zl:qc)(σ:List (Option V))(H:Hp)(s:Shared):Prop where
 ok:X.Ok
 os:s.os=X.s₀.os
 bare:AllBare s.gens
 base:Un X.fs X.ex X.H₀ H X.s₀.heap s.heap
 loc:∃m,s.heap.Ns X.env.locals m/\∀(i:Nat) (x:Str) (v:V),X.N[i]?=some x->σ[i]?=some (some v)->LW X.env.scope x->∃u,RelV v u/\Look X.env s.heap m x u
 cell:∀x c,X.env.cells.lookup x=some c->∃v,s.heap.IsCell c v
 free:H X.env.locals=none
 CC:∀x c,X.env.cells.lookup x=some c->H c=none
 pin:∀p∈X.pn++zl,s.heap.get? p.1=some p.2/\H p.1=none/\p.1≠X.env.locals/\p.1∉X.fs/\∀v,p.2.data≠.cell v
 Au:CI X.prog X.w X.K H s.heap
 len:σ.length=X.N.length
variable {x:Str}
section
variable {X:Cx}{zl:qc}{σ:List (Option V)}{H H':Hp}{s:Shared}{h':Heap}
theorem Cx.Ok.Yi (ok:X.Ok){o:Obj}(e:X.base.get? b=some o):b∉X.fs:=λhb=>by
 have:=(ok.EO.mem hb).1
 rw[e] at this;cases this
theorem Inv.bs (I:Inv X zl σ H s):∀b o,X.base.get? b=some o->s.heap.get? b=some o/\H b=none:=λb o e=>
 ⟨I.base.keep b o (I.ok.bs b o e).1 (I.ok.bs b o e).2 (I.ok.Yi e) (I.ok.KW b o e),I.base.free b o (I.ok.bs b o e).1 (I.ok.bs b o e).2 (I.ok.KW b o e)⟩
theorem Inv.bk (I:Inv X zl σ H s):∀b o,X.base.get? b=some o->s.heap.get? b=some o:=λb o e=>(I.bs b o e).1
theorem Inv.mod (I:Inv X zl σ H s):Mod X.K X.mg X.base:=I.ok.mod
theorem Inv.B1 (I:Inv X zl σ H s):X.K.In s.heap:=I.ok.mod.D8.keeps I.bk
theorem Inv.nolimit (I:Inv X zl σ H s):s.heap.NoLimit:=I.ok.mod.nolimit.keeps I.bk
theorem Inv.lt (I:Inv X zl σ H s):X.env.locals < s.heap.objs.size:=let ⟨_,hn,_⟩:=I.loc;hn.lt
theorem Inv.sz (I:Inv X zl σ H s):X.s₀.heap.objs.size<=s.heap.objs.size:=dn I.ok.above (gv I.lt)
theorem Inv.Yj (I:Inv X zl σ H s)(h:s.heap.objs.size<=a):a∉X.fs:=λhb=>by
 obtain⟨_,o,ho,_⟩:=I.ok.EO.mem hb
 exact absurd (bi (ap ho) (dn I.sz h)) (eM _)
theorem Inv.S3 (I:Inv X zl σ H s):∀x c,X.env.cells.lookup x=some c->c≠X.env.locals:=λx c e z=>by
 obtain⟨v,o,ho,hd⟩:=I.cell x c e
 obtain⟨m,⟨o',es,ep,LJ,SR,_⟩,_⟩:=I.loc
 rw[z,LJ] at ho;cases ho;rw[SR] at hd;cases hd
theorem Inv.EO (I:Inv X zl σ H s):s.heap.FunFrames X.base X.outer:=by
 have all:∀(l:List Env),(∀b∈LV l,b∈X.fs)->X.s₀.heap.FunFrames X.base l->s.heap.FunFrames X.base l:=by
  intro l
  induction l with
  | nil=>intro _ _;trivial
  | cons env r ih=>
   intro hs hl
   obtain⟨hk,⟨L,o,hf,hn,ho,hd⟩,hr⟩:=hl
   have hL:L∈X.fs:=hs L (by unfold LV;rw[l5,hf];exact ar)
   obtain⟨sl,e⟩:=I.base.slot L o ho (I.ok.S2 L hL) hL λz=>I.ok.OQ L z hL
   exact⟨hk,⟨L,_,hf,hn,e,hd⟩,ih (λb hb=>hs b (by unfold LV;rw[l5,hf];exact am _ hb)) hr⟩
 exact all X.outer (λ_ hb=>hb) I.ok.EO
theorem Inv.stack (I:Inv X zl σ H s):s.heap.FunFrames X.base X.stack:=by
 rcases I.ok.Xk with e | ⟨e,hf⟩
 ·rw[e];exact I.EO
 ·rw[e]
  obtain⟨m,hn,_⟩:=I.loc
  refine .cons (by rw[I.ok.kind];decide) hf hn ?_ I.EO
  exact Heap.get?_none_of_le (dn I.ok.LX I.ok.above)
theorem Inv.D9 (I:Inv X zl σ H s):∀b∈LV X.stack,b∈X.env.locals::X.fs:=λb hb=>by
 rcases I.ok.Xk with e | ⟨e,hf⟩
 ·rw[e] at hb;exact am _ hb
 ·rw[e] at hb
  unfold LV at hb
  rw[l5,hf] at hb
  exact hb
theorem Inv.F8 (I:Inv X zl σ H s):∀b∈LV X.stack,H b=none:=λb hb=>by
 rcases be.mp (I.D9 b hb) with e | hb
 ·rw[e];exact I.free
 ·obtain⟨_,o,ho,_⟩:=I.ok.EO.mem hb
  exact I.base.free b o ho (I.ok.S2 b hb) λz=>I.ok.OQ b z hb
theorem Inv.step {g':Array GenState}{t':Nat}{d':Drawn}{ch:qv}(I:Inv X zl σ H s)
  (N4:∀b∈ch,(b∈X.ex\/X.s₀.heap.objs.size<=b)/\b≠X.env.locals/\(∀x c,X.env.cells.lookup x=some c->c≠b)/\∀p∈X.pn++zl,p.1≠b)
  (keep:∀b o,b≠X.env.locals->b∉X.fs->b∉ch->s.heap.get? b=some o->H b=none->h'.get? b=some o)
  (slot:∀b o,b≠X.env.locals->b∈X.fs->b∉ch->s.heap.get? b=some o->H b=none->∃sl,h'.get? b=some { o with slots:=sl }) (free:∀b o,b∉ch->s.heap.get? b=some o->H b=none->H' b=none)
  (there:∀b o,b∉ch->s.heap.get? b=some o->∃o',h'.get? b=some o')
  (HL:∀b xs,H b=some (.tup xs)->H' b=some (.tup xs)) (F7:∀b o u,H b=some (.frz o u)->H' b=some (.frz o u)) (HM:∀b ps,H b=some (.SV ps)->∃more,H' b=some (.SV (ps++more)))
  (ns:∀m,s.heap.Ns X.env.locals m->h'.Ns X.env.locals m) (Au:CI X.prog X.w X.K H' h') (hg:AllBare g'):
  Inv X zl σ H' { s with heap:=h',gens:=g',drawn:=d',toks:=t' }:=by
 have Z6:∀b o,X.s₀.heap.get? b=some o->b≠X.env.locals:=λb o e=>bd (bi (ap e) I.ok.above)
 have Xl:∀b o,X.s₀.heap.get? b=some o->b∉X.ex->b∉ch:=λb o e hx hb=>by
  rcases(N4 b hb).1 with z | z
  ·exact hx z
  ·exact absurd (bi (ap e) z) (eM _)
 have cellK:∀x c,X.env.cells.lookup x=some c->∀v,s.heap.IsCell c v->h'.IsCell c v:=by
  rintro x c e v ⟨o,ho,hd⟩
  have LY:c∉ch:=λz=>(N4 c z).2.2.1 x c e rfl
  by_cases hc:c∈X.fs
  ·obtain⟨sl,q⟩:=slot c o (I.S3 x c e) hc LY ho (I.CC x c e)
   exact⟨_,q,hd⟩
  ·exact⟨o,keep c o (I.S3 x c e) hc LY ho (I.CC x c e),hd⟩
 refine⟨I.ok,I.os,hg,⟨λb o e n hb hx=>?_,λb o e n hb hx=>?_,λb o e n hx=>?_,λb o e hx=>?_,λb xs e=>HL b xs (I.base.HL b xs e),λb o xs e=>F7 b o xs (I.base.F7 b o xs e),λb ps e=>?_⟩,?_,λx c e=>?_,?_,λx c e=>?_,λp hp=>?_,Au,I.len⟩
 ·exact keep b o (Z6 b o e) hb (Xl b o e hx) (I.base.keep b o e n hb hx) (I.base.free b o e n hx)
 ·obtain⟨sl,e1⟩:=I.base.slot b o e n hb hx
  obtain⟨sl',e2⟩:=slot b _ (Z6 b o e) hb (Xl b o e hx) e1 (I.base.free b o e n hx)
  exact⟨sl',e2⟩
 ·obtain⟨o',e1⟩:=I.base.there b o e hx
  exact free b o' (Xl b o e hx) e1 (I.base.free b o e n hx)
 ·obtain⟨o',e1⟩:=I.base.there b o e hx
  exact there b o' (Xl b o e hx) e1
 ·obtain⟨m1,e1⟩:=I.base.HM b ps e
  obtain⟨m2,e2⟩:=HM b _ e1
  exact⟨m1++m2,by rw[e2,Array.append_assoc]⟩
 ·obtain⟨m,hn,hl⟩:=I.loc
  refine⟨m,ns m hn,λi x v e1 e2 e3=>?_⟩
  obtain⟨u,r,l⟩:=hl i x v e1 e2 e3
  refine⟨u,r,?_⟩
  rcases l with l | ⟨k,c,e,z⟩
  ·exact .inl l
  ·exact .inr ⟨k,c,e,cellK x c e _ z⟩
 ·obtain⟨v,z⟩:=I.cell x c e
  exact⟨v,cellK x c e v z⟩
 ·obtain⟨m,⟨o,_,_,ho,_⟩,_⟩:=I.loc
  exact free _ o (λz=>(N4 _ z).2.1 rfl) ho I.free
 ·obtain⟨v,o,ho,hd⟩:=I.cell x c e
  exact free c o (λz=>(N4 c z).2.2.1 x c e rfl) ho (I.CC x c e)
 ·obtain⟨e,n,ne,nf,d⟩:=I.pin p hp
  have LY:p.1∉ch:=λz=>(N4 p.1 z).2.2.2 p hp rfl
  exact⟨keep p.1 p.2 ne nf LY e n,free p.1 p.2 LY e n,ne,nf,d⟩
theorem Inv.un {t':Nat}(I:Inv X zl σ H s)(u:Un X.fs [] H H' s.heap h')(Au:CI X.prog X.w X.K H' h'):Inv X zl σ H' { s with heap:=h',toks:=t' }:=by
 obtain⟨m,⟨o,es,ep,ho,r⟩,_⟩:=id I.loc
 obtain⟨sl,hL⟩:=u.any ho I.free (by simp)
 exact I.step (g':=s.gens) (d':=s.drawn) (ch:=[]) (λ_ z=>nomatch z) (λb o _ hb _ e n=>u.keep b o e n hb (by simp)) (λb o _ hb _ e n=>u.slot b o e n hb (by simp)) (λb o _ e n=>u.free b o e n (by simp)) (λb o _ e=>u.there b o e (by simp)) u.HL u.F7 u.HM (λm' hm=>by
  obtain⟨o',Yk,Yl,LJ,r'⟩:=hm
  rw[ho] at LJ;cases LJ
  exact⟨_,Yk,Yl,hL,r'⟩) Au I.bare
theorem Inv.call {g':Array GenState}{t':Nat}{d':Drawn}{ch:qv}(I:Inv X zl σ H s)(u:Un (LV X.stack) ch H H' s.heap h')(Au:CI X.prog X.w X.K H' h')(hg:AllBare g')
  (N4:∀b∈ch,(b∈X.ex\/X.s₀.heap.objs.size<=b)/\b≠X.env.locals/\(∀x c,X.env.cells.lookup x=some c->c≠b)/\∀p∈X.pn++zl,p.1≠b):
  Inv X zl σ H' { s with heap:=h',gens:=g',drawn:=d',toks:=t' }:=by
 obtain⟨m,⟨o,es,ep,ho,r⟩,_⟩:=id I.loc
 obtain⟨sl,hL⟩:=u.any ho I.free λz=>(N4 _ z).2.1 rfl
 exact I.step (ch:=ch) N4 (λb o hL hb hc e n=>u.keep b o e n (λz=>(be.mp (I.D9 b z)).elim hL hb) hc) (λb o _ _ hc e n=>u.any e n hc) (λb o hc e n=>u.free b o e n hc) (λb o hc e=>u.there b o e hc) u.HL u.F7 u.HM (λm' hm=>by
  obtain⟨o',Yk,Yl,LJ,r'⟩:=hm
  rw[ho] at LJ;cases LJ
  exact⟨_,Yk,Yl,hL,r'⟩) Au hg
theorem Inv.turned {t':Nat}{it:Addr}(I:Inv X zl σ H s)(k:∀b o,b≠it->s.heap.get? b=some o->h'.get? b=some o)(hn:H it=none)(hL:it≠X.env.locals)
  (h1:it∈X.ex\/X.s₀.heap.objs.size<=it) (h2:∀x c,X.env.cells.lookup x=some c->c≠it) (h3:∀p∈X.pn++zl,p.1≠it):Inv X zl σ H { s with heap:=h',toks:=t' }:=by
 have Z8:∀b u,H b=some u->b≠it:=λb u e z=>by rw[z,hn] at e;cases e
 refine I.step (g':=s.gens) (d':=s.drawn) (ch:=[it]) (λb hb=>?_) (λb o _ _ hc e _=>k b o (λz=>hc (by simp[z])) e) (λb o _ _ hc e _=>⟨o.slots,k b o (λz=>hc (by simp[z])) e⟩) (λ_ _ _ _ n=>n)
  (λb o hc e=>⟨o,k b o (λz=>hc (by simp[z])) e⟩) (λ_ _ e=>e) (λ_ _ _ e=>e) (λb ps e=>⟨#[],by rw[e];simp⟩) (λm hm=>?_) (λb u e=>?_) I.bare
 ·have e:b=it:=by simpa using hb
  subst e
  exact⟨h1,hL,h2,h3⟩
 ·obtain⟨o,es,ep,ho,r⟩:=hm
  exact⟨o,es,ep,k _ o (fe hL) ho,r⟩
 ·refine(I.Au b u e).HK (λc v hc q=>k c v ?_ q) (λ_ q=>q) λ_ _ q=>q
  rcases hc with z | z
  ·rw[z];exact Z8 b u e
  ·exact Z8 c _ z
theorem Inv.tok (I:Inv X zl σ H s)(t:Nat):Inv X zl σ H { s with toks:=t }:=I.un (h':=s.heap) (t':=t) Un.refl I.Au
theorem Inv.kept {t':Nat}(I:Inv X zl σ H s)(k:∀b u,s.heap.get? b=some u->h'.get? b=some u):Inv X zl σ H { s with heap:=h',toks:=t' }:=I.un (Un.kept k) (I.Au.kept k)
theorem Inv.laid {a:Addr}{o:HO}{t':Nat}(I:Inv X zl σ H s)(k:∀b u,s.heap.get? b=some u->h'.get? b=some u)(hp:s.heap.objs.size<=a)(new:Ap X.prog X.w X.K (upd H a o) h' a o):
  Inv X zl σ (upd H a o) { s with heap:=h',toks:=t' }:=I.un (Un.laid k hp (I.Au.fresh hp)) (I.Au.laid k hp new)
theorem Inv.write {x e:Addr}{o:HO}{t':Nat}(I:Inv X zl σ H s)(mu:Vv (H x))(he:e=x\/H e=some (.own x))(k:∀b u,b≠e->s.heap.get? b=some u->h'.get? b=some u)(QE:∃u,h'.get? e=some u)
  (new:Ap X.prog X.w X.K (upd H x o) h' x o):Inv X zl σ (upd H x o) { s with heap:=h',toks:=t' }:=I.un (Un.write mu he k QE) (I.Au.write mu he k QE new)
theorem Inv.weak {σ':List (Option V)}(I:Inv X zl σ H s)(hl:σ'.length=σ.length)(w:∀(i:Nat) v,σ'[i]?=some (some v)->σ[i]?=some (some v)):Inv X zl σ' H s:=
 ⟨I.ok,I.os,I.bare,I.base,let ⟨m,hn,OP⟩:=I.loc;⟨m,hn,λi x v e1 e2 e3=>OP i x v e1 (w i v e2) e3⟩,I.cell,I.free,I.CC,I.pin,I.Au,hl.trans I.len⟩
theorem Inv.Kb {QI:qc}(I:Inv X zl σ H s)(h:∀p∈QI,s.heap.get? p.1=some p.2/\H p.1=none/\p.1≠X.env.locals/\p.1∉X.fs/\∀v,p.2.data≠.cell v):Inv X QI σ H s:=
 ⟨I.ok,I.os,I.bare,I.base,I.loc,I.cell,I.free,I.CC,λp hp=>(bo.mp hp).elim (λz=>I.pin p (bn _ z)) (h p),I.Au,I.len⟩
theorem yt {N:qq}(hN:N.Nodup){i j:Nat}(a:N[i]?=some x)(b:N[j]?=some x):i=j:=by
 obtain⟨h1,e1⟩:=af.mp a
 obtain⟨h2,e2⟩:=af.mp b
 exact(List.getElem_inj hN).mp (e1.trans e2.symm)
theorem Fb {M:Model}{i:Nat}{v:V}(I:Inv X zl σ H s)(hN:X.N.Nodup)(hi:X.N[i]?=some x)(hx:Loc X.env.scope x)(r:RelV v u)
  (h:∀s',Inv X zl (σ.set i (some v)) H s'->(∃a,Heap.SameBut a s.heap s'.heap/\(a=X.env.locals\/X.env.cells.lookup x=some a))->Q () s') (hf:X.fn x=true\/X.env.scope.names.lookup x=some .local:=by first | exact .inl rfl | exact .inr rfl | assumption):wpAny M A (storeName X.env x u) Q E s:=by
 obtain⟨m,hn,hl⟩:=id I.loc
 have Ym:(X.env.scope.kind == .class||(X.env.scope.kind == .module&&X.env.locals != X.env.globals))=false:=by rw[I.ok.kind];rfl
 have Z9:i < σ.length:=by rw[I.len];exact(af.mp hi).1
 have S3:=I.S3
 have tracked:∀{a:Addr}{h':Heap},(∃o,s.heap.get? a=some o/\H a=none)->Heap.SameBut a s.heap h'->CI X.prog X.w X.K H h':=λ{a h'} ha hs b ob e=>by
  obtain⟨_,_,QN⟩:=ha
  refine(I.Au b ob e).HK (λc w' hc q=>(hs.2 c ?_).trans q) (λ_ q=>q) λ_ _ q=>q
  rintro rfl
  rcases hc with rfl | hc
  ·rw[QN] at e;cases e
  ·rw[QN] at hc;cases hc
 rcases hx with hk | hk
 ·refine wpAny_storeName_local hk hn (λh' K0 hs=>?_) Ym
  obtain⟨oL,_,_,hoL,_⟩:=id hn
  refine h _ ⟨I.ok,I.os,I.bare,⟨λb o e n hb hx=>?_,λb o e n hb hx=>?_,I.base.free,λb o e hx=>?_,I.base.HL,I.base.F7,I.base.HM⟩,⟨_,K0,λj y v' e1 e2 e3=>?_⟩,λy c e=>?_,I.free,I.CC,λp hp=>?_,tracked ⟨oL,hoL,I.free⟩ hs,by simpa using I.len⟩ ⟨_,hs,.inl rfl⟩
  ·exact(hs.2 b (bd (bi (ap e) I.ok.above))).trans (I.base.keep b o e n hb hx)
  ·obtain⟨sl,e1⟩:=I.base.slot b o e n hb hx
   exact⟨sl,(hs.2 b (bd (bi (ap e) I.ok.above))).trans e1⟩
  ·obtain⟨o',e1⟩:=I.base.there b o e hx
   exact⟨o',(hs.2 b (bd (bi (ap e) I.ok.above))).trans e1⟩
  ·by_cases hj:j=i
   ·subst hj
    rw[hi] at e1;cases e1
    rw[d6 Z9] at e2
    cases e2
    exact⟨u,r,.inl ⟨hk,by simp⟩⟩
   ·rw[bm (fe hj)] at e2
    obtain⟨u',r',q⟩:=hl j y v' e1 e2 e3
    refine⟨u',r',?_⟩
    rcases q with ⟨k,e⟩ | ⟨k,c,e,z⟩
    ·refine .inl ⟨k,?_⟩
     have:y≠x:=λe=>hj (yt hN e1 (e▸hi))
     simp[this,e]
    ·exact .inr ⟨k,c,e,z.sameBut hs (S3 y c e)⟩
  ·obtain⟨w',z⟩:=I.cell y c e
   exact⟨w',z.sameBut hs (S3 y c e)⟩
  ·obtain⟨e,n,ne,nf,d⟩:=I.pin p hp
   exact⟨(hs.2 p.1 ne).trans e,n,ne,nf,d⟩
 ·have Yn:X.fn x=true:=by
   rcases hf with z | z
   ·exact z
   ·rw[z] at hk;cases hk
  obtain⟨c,hc⟩:=I.ok.has x (.inl hk)
  obtain⟨w',z⟩:=I.cell x c hc
  refine wpAny_storeName_cell I.ok.kind hk hc z (λh' N9 hs=>?_)
  obtain⟨oc,hoc,Yo⟩:=id z
  refine h { s with heap:=h' } ⟨I.ok,I.os,I.bare,⟨λb o e n hb hx=>?_,λb o e n hb hx=>?_,I.base.free,λb o e hx=>?_,I.base.HL,I.base.F7,I.base.HM⟩,⟨m,hn.sameBut hs (fe (S3 x c hc)),λj y v' e1 e2 e3=>?_⟩,λy c' e=>?_,I.free,I.CC,λp hp=>?_,tracked ⟨oc,hoc,I.CC x c hc⟩ hs,by simpa using I.len⟩ ⟨c,hs,.inr hc⟩
  ·exact(hs.2 b (bd (bi (ap e) (I.ok.Vx x c Yn hc)))).trans (I.base.keep b o e n hb hx)
  ·obtain⟨sl,e1⟩:=I.base.slot b o e n hb hx
   exact⟨sl,(hs.2 b (bd (bi (ap e) (I.ok.Vx x c Yn hc)))).trans e1⟩
  ·obtain⟨o',e1⟩:=I.base.there b o e hx
   exact⟨o',(hs.2 b (bd (bi (ap e) (I.ok.Vx x c Yn hc)))).trans e1⟩
  ·by_cases hj:j=i
   ·subst hj
    rw[hi] at e1;cases e1
    rw[d6 Z9] at e2
    cases e2
    exact⟨u,r,.inr ⟨.inl hk,c,hc,N9⟩⟩
   ·rw[bm (fe hj)] at e2
    obtain⟨u',r',q⟩:=hl j y v' e1 e2 e3
    refine⟨u',r',?_⟩
    rcases q with q | ⟨k,c',e,z'⟩
    ·exact .inl q
    ·refine .inr ⟨k,c',e,z'.sameBut hs ?_⟩
     rintro rfl
     exact hj (yt hN e1 (I.ok.inj _ _ _ e hc▸hi))
  ·by_cases U2:c'=c
   ·subst U2;exact⟨_,N9⟩
   ·obtain⟨w2,z2⟩:=I.cell y c' e
    exact⟨w2,z2.sameBut hs U2⟩
  ·obtain⟨e,n,ne,nf,d⟩:=I.pin p hp
   refine⟨(hs.2 p.1 ?_).trans e,n,ne,nf,d⟩
   intro q
   rw[q,hoc] at e
   have q':oc=p.2:=bg e
   exact d w' (by rw[← q'];exact Yo)
theorem yu {M:Model}{i:Nat}{v:V}(I:Inv X zl σ H s)(hN:X.N.Nodup)(hi:X.N[i]?=some x)(hx:Loc X.env.scope x)(r:RelV v u)
  (h:∀s',Inv X zl (σ.set i (some v)) H s'->Q () s') (hf:X.fn x=true\/X.env.scope.names.lookup x=some .local:=by first | exact .inl rfl | exact .inr rfl | assumption):wpAny M A (storeName X.env x u) Q E s:=
 Fb I hN hi hx r (λs' I' _=>h s' I') hf
theorem Inv.QO {s':Shared}{ch:qv}(I:Inv X zl σ H s)(ho:s'.os=s.os)(u:Un (LV X.stack) ch H H' s.heap s'.heap)(Au:CI X.prog X.w X.K H' s'.heap)(hg:AllBare s'.gens)
  (N4:∀b∈ch,(b∈X.ex\/X.s₀.heap.objs.size<=b)/\b≠X.env.locals/\(∀x c,X.env.cells.lookup x=some c->c≠b)/\∀p∈X.pn++zl,p.1≠b):Inv X zl σ H' s':=by
 obtain⟨h',g',d',t',o'⟩:=s'
 have e:o'=s.os:=ho
 subst e
 exact I.call (g':=g') (t':=t') (d':=d') u Au hg N4
end
abbrev XK:=Value->Option Addr->Hp->Prop
abbrev St:=List (Option V)
abbrev VK:=V->Hp->Prop
abbrev TE:=St->Hp->VK->Prop
abbrev TT:=St->Hp->(Bool->Hp->Prop)->Prop
abbrev TA:=St->Hp->(List V->Hp->Prop)->Prop
structure Ends where
 nx:St->Hp->Prop
 rt:VK
 bk:St->Hp->Prop:=λ_ _=>False
 ct:St->Hp->Prop:=λ_ _=>False
abbrev TS:=Ends->St->Hp->Prop
def EP (X:Cx)(zl:qc)(σ:St)(Q:VK)(u:Value)(s':Shared):Prop:=∃v H',Inv X zl σ H' s'/\RelV v u/\Q v H'
def TP (X:Cx)(zl:qc)(σ:St)(Q:Bool->Hp->Prop)(b:Bool)(s':Shared):Prop:=∃H',Inv X zl σ H' s'/\Q b H'
def AP (X:Cx)(zl:qc)(σ:St)(Q:List V->Hp->Prop)(us:qh)(s':Shared):Prop:=∃vs H',Inv X zl σ H' s'/\Vals vs us/\Q vs H'
def SP (X:Cx)(zl:qc)(D:Ends)(f:Flow)(s':Shared):Prop:=
 match f with
 | .next=>∃ σ' H',Inv X zl σ' H' s'/\D.nx σ' H'
 | .brk=>∃ σ' H',Inv X zl σ' H' s'/\D.bk σ' H'
 | .cont=>∃ σ' H',Inv X zl σ' H' s'/\D.ct σ' H'
 | .ret u=>∃v σ' H',Inv X zl σ' H' s'/\RelV v u/\D.rt v H'
def PE (X:Cx)(e:Expr)(t:TE):Prop:=
 ∀(zl:qc) (s:Shared) (σ:St) (H:Hp) (Q:VK),Inv X zl σ H s->t σ H Q->wpAny (model X.prog X.w) X.A (eval e X.env) (EP X zl σ Q) X.xe s
def PT (X:Cx)(e:Expr)(t:TT):Prop:=
 ∀(zl:qc) (s:Shared) (σ:St) (H:Hp) (Q:Bool->Hp->Prop),Inv X zl σ H s->t σ H Q->wpAny (model X.prog X.w) X.A (isTrue e X.env (eval e X.env)) (TP X zl σ Q) X.xe s
def PW (X:Cx)(e:Expr)(t:TT):Prop:=
 ∀(whole:Sem Value) (zl:qc) (s:Shared) (σ:St) (H:Hp) (Q:Bool->Hp->Prop),Inv X zl σ H s->t σ H Q->wpAny (model X.prog X.w) X.A (isTrue e X.env whole) (TP X zl σ Q) X.xe s
variable {e:Expr}
theorem PW.pt {X:Cx}{t:TT}(h:PW X e t):PT X e t:=h _
def PA (X:Cx)(es:qo)(t:TA):Prop:=
 ∀(pos:Pos) (zl:qc) (s:Shared) (σ:St) (H:Hp) (Q:List V->Hp->Prop),Inv X zl σ H s->t σ H Q->wpAny (model X.prog X.w) X.A (spliced (backTo pos (starEach es X.env))) (AP X zl σ Q) X.xe s
def PS (X:Cx)(st:Stmt)(t:TS):Prop:=
 ∀(zl:qc) (s:Shared) (σ:St) (H:Hp) (D:Ends),Inv X zl σ H s->t D σ H->wpAny (model X.prog X.w) X.A (exec st X.env) (SP X zl D) X.xe s
def EX (X:Cx)(st:qk)(t:TS):Prop:=
 ∀(zl:qc) (s:Shared) (σ:St) (H:Hp) (D:Ends),Inv X zl σ H s->t D σ H->wpAny (model X.prog X.w) X.A (execs st X.env) (SP X zl D) X.xe s
theorem AE {α:Type}{t:Sem α}{Q Q':α->Shared->Prop}{M:Model}(h:wpAny M A t Q E s)(hQ:∀a s,Q a s->Q' a s):wpAny M A t Q' E s:=fw h hQ λ_ _ x=>x
variable {zl:qc}{σ:St}{pos:Pos}{op:CmpOp}
section
variable {X:Cx}
theorem bin {a b:Expr}{ta tb:TE}(ha:PE X a ta)(hb:PE X b tb){R:V->V->Hp->Prop}(I:Inv X zl σ H s)(h:ta σ H λx H1=>tb σ H1 λy H2=>R x y H2)
  {α:Type}{Q:α->Shared->Prop}{f:Value->Value->Sem α}
  (hf:∀v u s2 x y H2,Inv X zl σ H2 s2->RelV x v->RelV y u->R x y H2->wpAny (model X.prog X.w) X.A (f v u) Q X.xe s2):
  wpAny (model X.prog X.w) X.A (eval a X.env) (λv s₁=>wpAny (model X.prog X.w) X.A (eval b X.env) (λu s₂=>wpAny (model X.prog X.w) X.A (f v u) Q X.xe s₂) X.xe s₁) X.xe s:=by
 refine AE (ha zl s σ H _ I h) ?_
 rintro v s1 ⟨x,H1,I1,r1,q1⟩
 refine AE (hb zl s1 σ H1 _ I1 q1) ?_
 rintro u s2 ⟨y,H2,I2,r2,q2⟩
 exact hf v u s2 x y H2 I2 r1 r2 q2
def aG (i:Nat):TE:=fun σ H Q=>∃v,σ[i]?=some (some v)/\Q v H
def tC (v:V):TE:=λ_ H Q=>Q v H
theorem gU {i:Nat}(hN:X.N[i]?=some x)(hv:LW X.env.scope x)(hd:(x == ("__debug__" : Str))=false:=by decide)(D0:(x == ("__classdict__" : Str))=false:=by decide):PE X (.Name x pos) (aG i):=by
 intro zl s σ H Q I h
 obtain⟨v,e,h⟩:=h
 obtain⟨m,hn,hl⟩:=I.loc
 obtain⟨u,r,l⟩:=hl i x v hN e hv
 have fin:EP X zl σ Q u s:=⟨v,H,I,r,h⟩
 rcases l with ⟨hk,hm⟩ | ⟨hk,c,hc,FO⟩
 ·exact wpAny_Name (wpAny_loadName_local I.ok.kind hk hn hm fin) hd
 ·rcases hk with hk | hk
  ·exact wpAny_Name (wpAny_loadName_cell I.ok.kind hk hc FO fin) hd
  ·exact wpAny_Name (wpAny_loadName_free I.ok.kind hk hc FO fin D0) hd
theorem dB {i j pos}:PE X (.Constant (.int i) j pos) (tC (.int i)):=λ_ _ _ H _ I h=>wpAny_Constant_int ⟨.int i,H,I.tok _,⟨_,rfl⟩,h⟩
theorem QT {b j pos}:PE X (.Constant (.bool b) j pos) (tC (.bl b)):=λ_ _ _ H _ I h=>Constant_bool ⟨.bl b,H,I,rfl,h⟩
theorem yw {j pos}:PE X (.Constant .none j pos) (tC .zD):=λ_ _ _ H _ I h=>Constant_none ⟨.zD,H,I,rfl,h⟩
theorem Nu {x j pos}:PE X (.Constant (.str x) j pos) (tC (.str x)):=λ_ _ _ H _ I h=>Calls.Constant_str ⟨.str x,H,I.tok _,⟨_,rfl⟩,h⟩
def Gl (X:Cx)(x:Str):Prop:=X.env.kindOf x=some .globalImplicit
theorem vh {Q:oT}(I:Inv X zl σ H s)(hg:Gl X x)(hm:X.mg x=some u)(h:Q u s)
  (hd:(x == ("__debug__" : Str))=false:=by decide):wpAny (model X.prog X.w) X.A (eval (.Name x pos) X.env) Q E s:=
 mh I.ok.kind hg (Calls.loadGlobal_global (by rw[I.ok.glob];exact I.mod.glob.keeps I.bk) hm h) hd
theorem dN {Q:oT}(I:Inv X zl σ H s)(hg:Gl X x)(hm:X.mg x=none)(hv:bootBuiltins x=some u)(h:Q u s)
  (hn:x ≠ "__name__" := by decide) (hd:(x == ("__debug__" : Str))=false:=by decide):wpAny (model X.prog X.w) X.A (eval (.Name x pos) X.env) Q E s:=by
 obtain⟨mb,h1,h2⟩:=I.mod.blt
 exact mh I.ok.kind hg (Calls.loadGlobal_builtin (by rw[I.ok.glob];exact I.mod.glob.keeps I.bk) hm (by rw[I.ok.blt];exact h1.keeps I.bk) ((h2 x hn).trans hv) h) hd
theorem jY {v:V}(hg:Gl X x)(hm:X.mg x=some u)(r:RelV v u)(hd:(x == ("__debug__" : Str))=false:=by decide):PE X (.Name x pos) (tC v):=
 λ_ _ _ H _ I h=>vh I hg hm ⟨v,H,I,r,h⟩ hd
theorem Kz {v:V}(hg:Gl X x)(hm:X.mg x=none)(hv:bootBuiltins x=some u)(r:RelV v u)(hn:x ≠ "__name__" := by decide)(hd:(x == ("__debug__" : Str))=false:=by decide):PE X (.Name x pos) (tC v):=
 λ_ _ _ H _ I h=>dN I hg hm hv ⟨v,H,I,r,h⟩ hn hd
def t2I (ta tb:TE)(k:Int->Int->Hp->Prop):St->Hp->Prop:=fun σ H=>ta σ H λx H1=>tb σ H1 λy H2=>∃i j,x=.int i/\y=.int j/\k i j H2
def yx (ta tb:TE):TE:=fun σ H Q=>t2I ta tb (λi j H2=>Q (.int (i+j)) H2) σ H
variable {a b:Expr}{ta tb:TE}{pos:Pos}
theorem yz (ha:PE X a ta)(hb:PE X b tb):PE X (.BinOp a .Add b pos) (yx ta tb):=by
 intro zl s σ H Q I h
 refine wpAny_BinOp (bin ha hb I h λv u s2 x y H2 I2 rx ry q=>?_)
 obtain⟨i,j,rfl,rfl,q⟩:=q
 obtain⟨t,rfl⟩:=rx
 obtain⟨t',rfl⟩:=ry
 exact add_int ⟨.int _,H2,I2.tok _,⟨_,rfl⟩,q⟩
def PC (X:Cx)(op:CmpOp)(a b:Expr)(t:TE):Prop:=
 ∀(zl:qc) (s:Shared) (σ:St) (H:Hp) (Q:VK),Inv X zl σ H s->t σ H Q->
  wpAny (model X.prog X.w) X.A (eval a X.env) (λv s₁=>wpAny (model X.prog X.w) X.A (eval b X.env) (λu s₂=>wpAny (model X.prog X.w) X.A (compareOp op v u) (EP X zl σ Q) X.xe s₂) X.xe s₁) X.xe s
theorem Hu (b:Expr)(h:op≠.In)(h2:op≠.NotIn):behindInMarks op b=false:=by
 have e1:(op == CmpOp.In)=false:=by cases op <;> first | rfl | exact absurd rfl h
 have e2:(op == CmpOp.NotIn)=false:=by cases op <;> first | rfl | exact absurd rfl h2
 cases b <;> simp[behindInMarks,e1,e2]
def Nv (p:Int->Int->Bool)(ta tb:TE):TE:=fun σ H Q=>t2I ta tb (λi j H2=>Q (.bl (p i j)) H2) σ H
abbrev tGt:TE->TE->TE:=Nv λi j=>decide (j < i)
theorem Ny {p:Int->Int->Bool}(ha:PE X a ta)(hb:PE X b tb)
  (rule:∀(i j:Int) (t u:Tok) (Q:oT) (s:Shared),Q (.bool (p i j)) s->wpAny (model X.prog X.w) X.A (compareOp op (.int i t) (.int j u)) Q X.xe s):PC X op a b (Nv p ta tb):=by
 intro zl s σ H Q I h
 refine bin ha hb I h λv u s2 x y H2 I2 rx ry q=>?_
 obtain⟨i,j,rfl,rfl,q⟩:=q
 obtain⟨t,rfl⟩:=rx
 obtain⟨t',rfl⟩:=ry
 exact rule i j t t' _ s2 ⟨.bl _,H2,I2,rfl,q⟩
theorem QV (ha:PE X a ta)(hb:PE X b tb):PC X .Gt a b (tGt ta tb):=Ny ha hb λ_ _ _ _ _ _ h=>gt_int h
def tB (t:TE):TT:=fun σ H Q=>t σ H λx H1=>∃c,x=.bl c/\Q c H1
theorem tZ {t:TE}(h:PC X op a b t)(h1:behindInMarks op b=false:=by first | exact Hu _ (by decide) (by decide) | rfl):PT X (.Compare a [op] [b] pos) (tB t):=by
 intro zl s σ H Q I hw
 refine wpAny_isTrue_Compare1 (AE (h zl s σ H _ I hw) λv s1 h1=>AE h1 λu s2 h2=>AE h2 ?_) h1
 rintro c s3 ⟨x,H1,I1,r1,q1⟩
 obtain⟨d,rfl,q⟩:=q1
 cases r1
 exact ip ⟨H1,I1,q⟩
theorem t6 {t:TE}(h:PE X e t)(he:∀whole,isTrue e X.env whole=(do let v ← whole;standAt e.pos;holding [v] (truthy v)):=by intro _;rfl):PT X e (tB t):=by
 intro zl s σ H Q I hw
 refine isTrue_plain (AE (h zl s σ H _ I hw) ?_) (he _)
 rintro v s1 ⟨x,H1,I1,r1,q1⟩
 obtain⟨d,rfl,q⟩:=q1
 cases r1
 exact ip ⟨H1,I1,q⟩
variable {tA Xm:TT}{rest:qo}
def Hv (t u:TT):TT:=fun σ H Q=>t σ H λc H1=>if c=true then u σ H1 Q else Q false H1
def tOr (t u:TT):TT:=fun σ H Q=>t σ H λc H1=>if c=true then Q true H1 else u σ H1 Q
def Hw (t:TT):TT:=fun σ H Q=>t σ H λc H1=>Q (!c) H1
theorem Bp (ha:PT X a tA):PW X (.BoolOp .And [a] pos) tA:=by
 intro wh zl s σ H Q I h
 refine isTrue_and (AE (ha zl s σ H Q I h) λc s1 e=>?_)
 cases c with
 | true=>exact isTrue_and_nil e
 | false=>exact e
theorem Nz (ha:PT X a tA):PW X (.BoolOp .Or [a] pos) tA:=by
 intro wh zl s σ H Q I h
 refine isTrue_or (AE (ha zl s σ H Q I h) λc s1 e=>?_)
 cases c with
 | false=>exact isTrue_or_nil e
 | true=>exact e
theorem Fd (ha:PT X a tA)(hb:PW X (.BoolOp .And (b::rest) pos) Xm):PW X (.BoolOp .And (a::b::rest) pos) (Hv tA Xm):=by
 intro wh zl s σ H Q I h
 refine isTrue_and (AE (ha zl s σ H _ I h) ?_)
 rintro c s1 ⟨H1,I1,q1⟩
 cases c with
 | true=>exact hb wh zl s1 σ H1 Q I1 q1
 | false=>exact⟨H1,I1,q1⟩
theorem QW (ha:PT X a tA)(hb:PW X (.BoolOp .Or (b::rest) pos) Xm):PW X (.BoolOp .Or (a::b::rest) pos) (tOr tA Xm):=by
 intro wh zl s σ H Q I h
 refine isTrue_or (AE (ha zl s σ H _ I h) ?_)
 rintro c s1 ⟨H1,I1,q1⟩
 cases c with
 | true=>exact⟨H1,I1,q1⟩
 | false=>exact hb wh zl s1 σ H1 Q I1 q1
theorem Fe (ha:PT X a tA):PT X (.UnaryOp .Not a pos) (Hw tA):=by
 intro zl s σ H Q I h
 exact isTrue_not (ha zl s σ H (λc H1=>Q (!c) H1) I h)
def QX (ta tb:TE):TE:=fun σ H Q=>ta σ H λx H1=>∃c,x=.bl c/\if c=true then tb σ H1 Q else Q (.bl false) H1
def R5 (ta tb:TE):TE:=fun σ H Q=>ta σ H λx H1=>∃c,x=.bl c/\if c=true then Q (.bl true) H1 else tb σ H1 Q
def QZ (ta:TE):TE:=fun σ H Q=>ta σ H λx H1=>∃c,x=.bl c/\Q (.bl (!c)) H1
theorem NB {op}{t:TE}(h:PE X a t):PE X (.BoolOp op [a] pos) t:=λzl s σ H Q I hw=>BoolOp_one (h zl s σ H Q I hw)
theorem NK (ha:PE X a ta)(hb:PE X (.BoolOp .And (b::rest) pos) tb):PE X (.BoolOp .And (a::b::rest) pos) (QX ta tb):=by
 intro zl s σ H Q I h
 refine BoolOp_and (AE (ha zl s σ H _ I h) ?_)
 rintro v s1 ⟨x,H1,I1,r1,q1⟩
 obtain⟨c,rfl,q1⟩:=q1
 cases r1
 refine ip ?_
 cases c with
 | true=>exact hb zl s1 σ H1 Q I1 q1
 | false=>exact⟨.bl false,H1,I1,rfl,q1⟩
theorem Q0 (ha:PE X a ta)(hb:PE X (.BoolOp .Or (b::rest) pos) tb):PE X (.BoolOp .Or (a::b::rest) pos) (R5 ta tb):=by
 intro zl s σ H Q I h
 refine BoolOp_or (AE (ha zl s σ H _ I h) ?_)
 rintro v s1 ⟨x,H1,I1,r1,q1⟩
 obtain⟨c,rfl,q1⟩:=q1
 cases r1
 refine ip ?_
 cases c with
 | false=>exact hb zl s1 σ H1 Q I1 q1
 | true=>exact⟨.bl true,H1,I1,rfl,q1⟩
theorem NP (ha:PE X a ta):PE X (.UnaryOp .Not a pos) (QZ ta):=by
 intro zl s σ H Q I h
 refine UnaryOp_ (AE (ha zl s σ H _ I h) ?_)
 rintro v s1 ⟨x,H1,I1,r1,q1⟩
 obtain⟨c,rfl,q1⟩:=q1
 cases r1
 exact not_of (ip ⟨.bl (!c),H1,I1,rfl,q1⟩)
def tIf (t:TT)(ta tb:TE):TE:=fun σ H Q=>t σ H λc H1=>if c=true then ta σ H1 Q else tb σ H1 Q
theorem Hx {c:Expr}(hc:PT X c tA)(ha:PE X a ta)(hb:PE X b tb):PE X (.IfExp c a b pos) (tIf tA ta tb):=by
 intro zl s σ H Q I h
 refine wpAny_IfExp (AE (hc zl s σ H _ I h) ?_)
 rintro d s1 ⟨H1,I1,q1⟩
 cases d with
 | true=>exact ha zl s1 σ H1 Q I1 q1
 | false=>exact hb zl s1 σ H1 Q I1 q1
end
def AS (K:W.Frag)(H:Hp)(a:Addr)(xs:List V):Prop:=
 Rd H a (.lst xs) \/
  ∃(o:Obj) (zw:qA) (n:Nat),K.lookup a=some o/\o.cls=.type "list" /\ o.dict=none/\o.data=.seq zw n/\zw.size<=sizeLine/\Vals xs zw.toList
def BU (K:W.Frag)(H:Hp)(a:Addr)(xs:List V):Prop:=
 Rd H a (.tup xs) \/
  ∃(o:Obj) (zw:qA) (n:Nat),K.lookup a=some o/\o.cls=.type "tuple" /\ o.data=.seq zw n/\(zw.size<=sizeLine/\o.dict=none)/\Vals xs zw.toList
noncomputable def NQ:Value->Option V
 | .none=>some .zD
 | .bool b=>some (.bl b)
 | .int i _=>some (.int i)
 | .str x _=>some (.str x)
 | .bytes b _=>some (.LL b)
 | .float b _=>some (.SU b)
 | .ref a=>some (.ref a)
 | .type n=>some (.ty n)
 | _=>none
theorem RelV.abs {x:V}(r:RelV x u):NQ u=some x:=by
 cases x with
 | zD=>cases r;rfl
 | bl _=>cases r;rfl
 | int _=>obtain⟨t,rfl⟩:=r;rfl
 | str _=>obtain⟨t,rfl⟩:=r;rfl
 | LL _=>obtain⟨t,rfl⟩:=r;rfl
 | SU _=>obtain⟨t,rfl⟩:=r;rfl
 | ref _=>cases r;rfl
 | ty _=>cases r;rfl
theorem RelV.inj {x y:V}(r:RelV x u)(q:RelV y u):x=y:=bg (r.abs.symm.trans q.abs)
theorem Vals.inj:∀{xs ys:List V}{us:qh},Vals xs us->Vals ys us->xs=ys
 | _,_,_,.nil,.nil=>rfl
 | _,_,_,.cons r t,.cons r' t'=>by rw[r.inj r',Vals.inj t t']
section
variable {X:Cx}{zl:qc}{σ:St}{H:Hp}{s:Shared}{a:Addr}{xs ys:List V}
theorem AS.of (h:H a=some (.lst xs)):AS K H a xs:=.inl (.inl h)
theorem BU.of (h:H a=some (.tup xs)):BU K H a xs:=.inl (.inl h)
theorem Inv.list (I:Inv X zl σ H s)(h:AS X.K H a xs):∃zw:List Value,Vals xs zw/\PlainL s.heap a zw.toArray/\xs.length<=sizeLine:=by
 rcases h with h | ⟨o,zw,n,hk,hc,hd,hs,hz,r⟩
 ·obtain⟨z,zw,n,r,e⟩:=h.ok I.Au
  exact⟨zw,r,⟨_,n,e,rfl,rfl,rfl⟩,z⟩
 ·refine⟨zw.toList,r,⟨o,n,I.B1 a o hk,hc,hd,by simpa using hs⟩,?_⟩
  have e:=r.length
  simp only[f8] at e
  omega
theorem Inv.tuple (I:Inv X zl σ H s)(h:BU X.K H a xs):∃zw:List Value,Vals xs zw/\IsTup s.heap a zw.toArray/\xs.length<=sizeLine:=by
 rcases h with h | ⟨o,zw,n,hk,hc,hs,hz,r⟩
 ·obtain⟨z,zw,r,p⟩:=h.ok I.Au
  exact⟨zw,r,p.tup,z⟩
 ·refine⟨zw.toList,r,⟨o,I.B1 a o hk,hc,n,by simpa using hs⟩,?_⟩
  have e:=r.length
  simp only[f8] at e
  omega
theorem Inv.HP (I:Inv X zl σ H s)(h:AS X.K H a xs)(h':AS X.K H a ys):xs=ys:=by
 obtain⟨zw,r,⟨o,n,e,_,_,d⟩,_⟩:=I.list h
 obtain⟨its',r',⟨o',n',e',_,_,d'⟩,_⟩:=I.list h'
 rw[e] at e';cases e'
 rw[d] at d'
 injection d' with d1 _
 have:zw=its':=by simpa using d5 Array.toList d1
 subst this
 exact r.inj r'
theorem Inv.FU (I:Inv X zl σ H s)(h:BU X.K H a xs)(h':BU X.K H a ys):xs=ys:=by
 obtain⟨zw,r,⟨o,e,_,n,d⟩,_⟩:=I.tuple h
 obtain⟨its',r',⟨o',e',_,n',d'⟩,_⟩:=I.tuple h'
 rw[e] at e';cases e'
 rw[d] at d'
 injection d' with d1 _
 have:zw=its':=by simpa using d5 Array.toList d1
 subst this
 exact r.inj r'
end
abbrev Cx.FD (X:Cx)(E:oT):Cx:={ X with xe:=E }
abbrev Cx.K2 (X:Cx):Cx:=X.FD λ_ _=>False
theorem Cx.Ok.FD {X:Cx}(ok:X.Ok)(E:oT):(X.FD E).Ok:=
 ⟨ok.mod,ok.kind,ok.glob,ok.blt,ok.above,ok.inj,ok.has,ok.Vx,ok.hd,ok.frames,ok.Xk,ok.Z5,ok.bs,ok.LX,ok.KW,ok.OQ,ok.EO,ok.S2⟩
theorem Cx.Ok.unwish {X:Cx}(ok:(X.FD E).Ok):X.Ok:=
 ⟨ok.mod,ok.kind,ok.glob,ok.blt,ok.above,ok.inj,ok.has,ok.Vx,ok.hd,ok.frames,ok.Xk,ok.Z5,ok.bs,ok.LX,ok.KW,ok.OQ,ok.EO,ok.S2⟩
section
variable {X:Cx}{zl:qc}{σ:St}{H:Hp}{s:Shared}{E:oT}
theorem Inv.FD (I:Inv X zl σ H s)(E:oT):Inv (X.FD E) zl σ H s:=⟨I.ok.FD E,I.os,I.bare,I.base,I.loc,I.cell,I.free,I.CC,I.pin,I.Au,I.len⟩
theorem Inv.unwish (I:Inv (X.FD E) zl σ H s):Inv X zl σ H s:=⟨I.ok.unwish,I.os,I.bare,I.base,I.loc,I.cell,I.free,I.CC,I.pin,I.Au,I.len⟩
theorem SP.unwish {D:Ends}{f:Flow}{s':Shared}(h:SP (X.FD E) zl D f s'):SP X zl D f s':=by
 cases f with
 | next=>obtain⟨σ',H',I,q⟩:=h;exact⟨σ',H',I.unwish,q⟩
 | brk=>obtain⟨σ',H',I,q⟩:=h;exact⟨σ',H',I.unwish,q⟩
 | cont=>obtain⟨σ',H',I,q⟩:=h;exact⟨σ',H',I.unwish,q⟩
 | ret u=>obtain⟨v,σ',H',I,r,q⟩:=h;exact⟨v,σ',H',I.unwish,r,q⟩
theorem EX.K2 {st:qk}{t:TS}(h:EX X.K2 st t):EX X st t:=λzl s σ H D I hw=>
 fw (h zl s σ H D (I.FD _) hw) (λ_ _ q=>q.unwish) λ_ _ z=>False.elim z
end
section
variable {X:Cx}{st:Stmt}{rest:qk}{t u:TS}{e:Expr}{te:TE}{pos:Pos}
def jm:TS:=λD σ H=>D.nx σ H
def cz (t u:TS):TS:=λD σ H=>t { D with nx:=u D } σ H
theorem jZ:EX X [] jm:=λ_ _ σ H _ I h=>ly ⟨σ,H,I,h⟩
theorem aV (h1:PS X st t)(h2:EX X rest u):EX X (st::rest) (cz t u):=by
 intro zl s σ H D I h
 refine wpAny_execs_cons (AE (h1 zl s σ H { D with nx:=u D } I h) λf s1 q=>?_)
 cases f with
 | next=>
  obtain⟨σ',H',I',q⟩:=q
  exact h2 zl s1 σ' H' D I' q
 | ret v=>exact q
 | brk=>exact q
 | cont=>exact q
theorem bU (h1:PS X st t):EX X [st] t:=by
 intro zl s σ H D I h
 refine wpAny_execs_cons (AE (h1 zl s σ H D I h) λf s1 q=>?_)
 cases f with
 | next=>exact ly q
 | ret v=>exact q
 | brk=>exact q
 | cont=>exact q
theorem Inv.quiet (I:Inv X zl σ H s):interactive X.env=false:=by simp[interactive,I.ok.kind]
def t7 (te:TE):TS:=λD σ H=>te σ H λ_ H1=>D.nx σ H1
theorem qI (he:PE X e te)(hs:swapsWith e none pos.line X.env=pure false:=by rfl):PS X (.Expr e pos) (t7 te):=by
 intro zl s σ H D I h
 exact wpAny_Expr_any (AE (he zl s σ H _ I h) λv s1 ⟨x,H1,I1,r1,q1⟩=>⟨σ,H1,I1,q1⟩) I.quiet hs
def iK (te:TE):TS:=λD σ H=>te σ H D.rt
theorem gA (he:PE X e te):PS X (.Return (some e) pos) (iK te):=by
 intro zl s σ H D I h
 exact wpAny_Return_some (AE (he zl s σ H _ I h) λv s1 ⟨x,H1,I1,r1,q1⟩=>⟨x,σ,H1,I1,r1,q1⟩)
def lU (c:TT)(t u:TS):TS:=λD σ H=>c σ H λb H1=>if b=true then t D σ H1 else u D σ H1
theorem qJ {c:Expr}{a b:qk}{tc:TT}(hc:PT X c tc)(ha:EX X a t)(hb:EX X b u):PS X (.If c a b pos) (lU tc t u):=by
 intro zl s σ H D I h
 refine wpAny_If (AE (hc zl s σ H _ I h) ?_)
 rintro d s1 ⟨H1,I1,q1⟩
 cases d with
 | true=>exact ha zl s1 σ H1 D I1 q1
 | false=>exact hb zl s1 σ H1 D I1 q1
end
abbrev TG:=V->St->Hp->(St->Hp->Prop)->Prop
abbrev Of:=List V->St->Hp->(St->Hp->Prop)->Prop
def PG (X:Cx)(target:Expr)(t:TG):Prop:=
 ∀(zl:qc) (s:Shared) (σ:St) (H:Hp) (v:V) (u:Value) (Q:St->Hp->Prop),Inv X zl σ H s->RelV v u->t v σ H Q->
  wpAny (model X.prog X.w) X.A (assign target X.env u) (λ_ s'=>∃ σ' H',Inv X zl σ' H' s'/\Q σ' H') X.xe s
def Oy (X:Cx)(ts:qo)(t:Of):Prop:=
 ∀(zl:qc) (s:Shared) (σ:St) (H:Hp) (vs:List V) (us:qh) (Q:St->Hp->Prop),Inv X zl σ H s->Vals vs us->t vs σ H Q->
  wpAny (model X.prog X.w) X.A (assignInOrder ((assignEach ts X.env).map (·.2)) us) (λ_ s'=>∃ σ' H',Inv X zl σ' H' s'/\Q σ' H') X.xe s
abbrev Hy:=V->V->V->Hp->(Hp->Prop)->Prop
def NT (X:Cx)(t:Hy):Prop:=
 ∀(zl:qc) (s:Shared) (σ:St) (H:Hp) (o i v:V) (ov iv u:Value) (Q:Hp->Prop),Inv X zl σ H s->RelV o ov->RelV i iv->RelV v u->t o i v H Q->
  wpAny (model X.prog X.w) X.A (setItem ov iv u) (λ_ s'=>∃H',Inv X zl σ H' s'/\Q H') X.xe s
section
variable {X:Cx}{pos:Pos}
def aW (i:Nat):TG:=λv σ H Q=>Q (σ.set i (some v)) H
theorem cI {i:Nat}(hN:X.N.Nodup)(hi:X.N[i]?=some x)(hx:Loc X.env.scope x)(hf:X.fn x=true\/X.env.scope.names.lookup x=some .local:=by first | exact .inl rfl | exact .inr rfl | assumption):PG X (.Name x pos) (aW i):=by
 intro zl s σ H v u Q I r h
 exact wpAny_assign_Name (yu I hN hi hx r (λs' I'=>⟨_,H,I',h⟩) hf)
def vo:Of:=λvs σ H Q=>vs=[]/\Q σ H
def jn (t:TG)(u:Of):Of:=λvs σ H Q=>∃v r,vs=v::r/\t v σ H fun σ' H'=>u r σ' H' Q
theorem mJ:Oy X [] vo:=by
 intro zl s σ H vs us Q I r h
 obtain⟨e,h⟩:=h
 subst e
 cases r
 exact assignInOrder_nil ⟨σ,H,I,h⟩
theorem d7 {es:qo}{t:TG}{u:Of}(h1:PG X e t)(h2:Oy X es u)
  (hs:(assignEach (e::es) X.env).map (·.2)=assign e X.env::(assignEach es X.env).map (·.2):=by rfl):Oy X (e::es) (jn t u):=by
 intro zl s σ H vs us Q I r h
 obtain⟨v,vr,e1,h⟩:=h
 subst e1
 cases r with
 | cons r rr=>
  rw[hs]
  refine assignInOrder_cons (AE (h1 zl s σ H _ _ _ I r h) ?_)
  rintro _ s1 ⟨σ1,H1,I1,q1⟩
  exact h2 zl s1 σ1 H1 _ _ Q I1 rr q1
def vq (K:W.Frag)(n:Nat)(t:Of):TG:=λv σ H Q=>∃a xs,v=.ref a/\BU K H a xs/\xs.length=n/\t xs σ H Q
theorem pP {es:qo}{k:Nat}{t:Of}{n:Nat}(hc:X.calm=true)(h:Oy X es t)
  (hn:(assignEach es X.env).length=n:=by rfl) (D3:(assignEach es X.env).findIdx? (·.1)=none:=by rfl):PG X (.Tuple es k pos) (vq X.K n t):=by
 intro zl s σ H v u Q I r hw
 obtain⟨a,xs,e1,hq,hl,hw⟩:=hw
 subst e1
 cases r
 obtain⟨zw,rv,ht,hz⟩:=I.tuple hq
 refine assign_Tuple_tuple (I.ok.hd hc) ht (by simp[hn,← hl,rv.length]) D3 λh' hx=>?_
 have I1:Inv X zl σ H { s with heap:=h' }:=I.kept (t':=s.toks) λb o e=>hx b o (bd (ap e)) e
 exact h zl _ σ H xs _ Q I1 (by simpa using rv) hw
def R6 (to ti:TE)(t:Hy):TG:=λv σ H Q=>to σ H λo H1=>ti σ H1 λi H2=>t o i v H2 λH3=>Q σ H3
theorem NZ {o i:Expr}{to ti:TE}{t:Hy}(ho:PE X o to)(hi:PE X i ti)(hs:NT X t)
  (ha:∀v,assign (.Subscript o i pos) X.env v=(do
   let ov ← holding [v] (eval o X.env)
   let iv ← holding [v,ov] (eval i X.env)
   standAt pos
   holding [v,ov,iv] (setItem ov iv v)
   release [v,ov,iv] []):=by intro _;rfl):PG X (.Subscript o i pos) (R6 to ti t):=by
 intro zl s σ H v u Q I r h
 rw[ha]
 refine ab (dP (AE (ho zl s σ H _ I h) ?_))
 rintro ov s1 ⟨x,H1,I1,r1,q1⟩
 refine ab (dP (AE (hi zl s1 σ H1 _ I1 q1) ?_))
 rintro iv s2 ⟨y,H2,I2,r2,q2⟩
 refine ab (wpAny_standAt (ab (dP (AE (hs zl s2 σ H2 x y v ov iv u _ I2 r1 r2 r q2) ?_))))
 rintro _ s3 ⟨H3,I3,q3⟩
 exact wpAny_release ⟨σ,H3,I3,q3⟩
def gn (te:TE)(g:TG):TS:=λD σ H=>te σ H λx H1=>g x σ H1 D.nx
theorem Ff {tg:Expr}{te:TE}{g:TG}(he:PE X e te)(hg:PG X tg g)(hs:swapsWithSole [tg] e pos.line X.env=pure false:=by rfl)(hw:swappedStores [tg] e X.env=pure none:=by rfl)
  (h1:(assignEach [tg] X.env).map (·.2)=[assign tg X.env]:=by rfl):PS X (.Assign [tg] e pos) (gn te g):=by
 intro zl s σ H D I h
 refine wpAny_Assign_stores (AE (he zl s σ H _ I h) ?_) hs hw
 rintro v s1 ⟨x,H1,I1,r1,q1⟩
 rw[h1]
 exact AE (hg zl s1 σ H1 x v _ I1 r1 q1) λ_ s2 q=>q
theorem dO {i:Nat}{te:TE}{pos':Pos}(hN:X.N.Nodup)(hi:X.N[i]?=some x)(hx:Loc X.env.scope x)(he:PE X e te)(hs:swapsWith e (some (.Name x pos')) pos.line X.env=pure false:=by rfl)(hf:X.fn x=true\/X.env.scope.names.lookup x=some .local:=by first | exact .inl rfl | exact .inr rfl | assumption):
  PS X (.Assign [.Name x pos'] e pos) (gn te (aW i)):=by
 intro zl s σ H D I h
 refine wpAny_Assign_Name (AE (he zl s σ H _ I h) ?_) hs
 rintro v s1 ⟨y,H1,I1,r1,q1⟩
 exact yu I1 hN hi hx r1 (λs2 I2=>⟨_,H1,I2,q1⟩) hf
end
section
variable {X:Cx}{pos:Pos}
def Fg (c:TT)(tb:TS):TS:=λD σ H=>∃W:Nat->St->Hp->Prop,(∃m,W m σ H)/\∀m σ H,W m σ H->
 c σ H λb H1=>if b=true then ∃N:St->Hp->Prop,(∀ σ' H',N σ' H'->∃m',m' < m/\W m' σ' H')/\tb { D with nx:=N,ct:=N,bk:=D.nx } σ H1 else D.nx σ H1
theorem yC {c:Expr}{body:qk}{tc:TT}{tb:TS}(hp:PassesOwn (model X.prog X.w) X.A X.env X.xe)(hc:PT X c tc)(hb:EX X body tb):PS X (.While c body [] pos) (Fg tc tb):=by
 intro zl s σ H D I h
 obtain⟨W,⟨m0,w0⟩,turn⟩:=h
 refine wpAny_While (codeAny_whileLoop (λn s'=>∃ σ' H',Inv X zl σ' H' s'/\W n σ' H') ?_ m0 ⟨σ,H,I,w0⟩)
 rintro n s1 ⟨σ1,H1,I1,w1⟩
 refine ib hp (AE (hc zl s1 σ1 H1 _ I1 (turn n σ1 H1 w1)) ?_)
 rintro b s2 ⟨H2,I2,q2⟩
 cases b with
 | true=>
  obtain⟨N,hN,q2⟩:=q2
  rw[bb rfl]
  refine ib hp (AE (hb zl s2 σ1 H2 _ I2 q2) λf s3 q3=>?_)
  cases f with
  | next=>
   obtain⟨σ3,H3,I3,n3⟩:=q3
   obtain⟨m',hm,w3⟩:=hN σ3 H3 n3
   exact⟨m',hm,σ3,H3,I3,w3⟩
  | cont=>
   obtain⟨σ3,H3,I3,n3⟩:=q3
   obtain⟨m',hm,w3⟩:=hN σ3 H3 n3
   exact⟨m',hm,σ3,H3,I3,w3⟩
  | brk=>exact q3
  | ret v=>exact q3
 | false=>
  rw[ay ba]
  exact ly ⟨σ1,H2,I2,q2⟩
end
structure It where
 go:Nat->Hp->Prop
 LZ:Nat->Hp->V->Hp->Prop
 stop:Nat->Hp->Prop
def gq (X:Cx)(zl:qc)(H:Hp)(b:Addr):Prop:=
 H b=none/\b≠X.env.locals/\b∉X.fs/\(b∈X.ex\/X.s₀.heap.objs.size<=b)/\(∀x c,X.env.cells.lookup x=some c->c≠b)/\∀p∈X.pn++zl,p.1≠b
theorem Inv.F9 {X:Cx}{H':Hp}(I:Inv X zl σ H s)(hb:s.heap.objs.size<=b)(hn:H' b=none):gq X zl H' b:=by
 refine⟨hn,dE (bi I.lt hb),I.Yj hb,.inr (dn I.sz hb),λx c e z=>?_,λp hp z=>?_⟩
 ·obtain⟨v,q⟩:=I.cell x c e
  exact absurd (bi q.lt (by rw[z];exact hb)) (eM _)
 ·exact absurd (bi (ap (I.pin p hp).1) (by rw[z];exact hb)) (eM _)
structure Turn (P:Program)(w:World)(K:W.Frag)(tg:Expr)(J:It)(fp:qv)(it:Addr)(tn:Nat->Heap->Prop):Prop where
 mem:it∈fp
 obj:∀i h,tn i h->∀b∈fp,∃o,h.get? b=some o/\∀v,o.data≠.cell v
 keep:∀i h h',tn i h->(∀b∈fp,∀o,h.get? b=some o->h'.get? b=some o)->tn i h'
 item:∀(X:Cx),X.prog=P->X.w=w->X.K=K->X.calm=true->∀(i:Nat) (zl:qc) (s:Shared) (σ:St) (H:Hp) (E:oT),Inv X zl σ H s->(∀b∈fp,gq X zl H b)->tn i s.heap->J.go i H->
  wpAny (model P w) X.A (pyNext (.ref it)) (λr s1=>∃u,r=some u /\
   wpAny (model P w) X.A (letOwnedTupleGo tg (.ref it) u) (λ_ s2=>∃x H',Inv X zl σ H' s2/\RelV x u/\J.LZ i H x H'/\tn (i+1) s2.heap/\∀b∈fp,H' b=none) E s1) E s
 done:∀(X:Cx),X.prog=P->X.w=w->X.K=K->X.calm=true->∀(i:Nat) (zl:qc) (s:Shared) (σ:St) (H:Hp) (E:oT),Inv X zl σ H s->(∀b∈fp,gq X zl H b)->tn i s.heap->J.stop i H->
  wpAny (model P w) X.A (pyNext (.ref it)) (λr s1=>r=none/\Inv X zl σ H s1) E s
 self:∀(A:Around) (i:Nat) (s:Shared) (Q:oT) (E:oT),tn i s.heap->Q (.ref it) s->wpAny (model P w) A (pyIter (.ref it)) Q E s
abbrev TI:=St->Hp->(It->Hp->Prop)->Prop
def PIE (X:Cx)(zl:qc)(σ:St)(tg:Expr)(R:It->Hp->Prop)(QP:Value)(s2:Shared):Prop:=
 ∃(it:Addr) (fp:qv) (tn:Nat->Heap->Prop) (J:It) (H':Hp),QP=.ref it/\Inv X zl σ H' s2/\Turn X.prog X.w X.K tg J fp it tn/\tn 0 s2.heap/\(∀b∈fp,gq X zl H' b)/\R J H'
def PI (X:Cx)(tg iter:Expr)(wi:TI):Prop:=
 ∀(zl:qc) (s:Shared) (σ:St) (H:Hp) (R:It->Hp->Prop),Inv X zl σ H s->wi σ H R->
  wpAny (model X.prog X.w) X.A (eval iter X.env) (λv s1=>wpAny (model X.prog X.w) X.A (pyIter v) (PIE X zl σ tg R) X.xe s1) X.xe s
theorem t8 {M:Model}{tg:Expr}{it:Addr}{o:Obj}{n:String}{vs:qA}(ho:s.heap.get? it=some o)(hc:o.cls=.type n)(hd:o.data=.fields vs)
    (hn:["enumerate","zip","dict_itemiterator","dict_reverseitemiterator","odict_iterator","itertools.zip_longest","itertools.pairwise"].contains n=false) (hQ:Q () s):wpAny M A (letOwnedTupleGo tg (.ref it) u) Q E s:=by
  unfold letOwnedTupleGo
  cases tg <;> first
    | exact ae hQ
    | (cases u <;> first
        | exact ae hQ
        | (refine ab (oj ho ?_)
           rw[hc,hd]
           show wpAny M A (if (["enumerate","zip","dict_itemiterator","dict_reverseitemiterator","odict_iterator","itertools.zip_longest","itertools.pairwise"].contains n&&vs[0]? == some (rawInt _))=true then _ else _) Q E s
           rw[ay (by intro h;rw[hn,Bool.false_and] at h;cases h)]
           exact ae hQ))
def OR (K:W.Frag)(a:Addr):It:=
 ⟨λi H=>∃xs x,AS K H a xs/\xs[i]?=some x,λi H x H'=>H'=H/\∀xs,AS K H a xs->xs[i]?=some x,λi H=>∃xs,AS K H a xs/\xs.length<=i⟩
def OS (K:W.Frag)(a:Addr):It:=
 ⟨λi H=>∃xs x,BU K H a xs/\xs[i]?=some x,λi H x H'=>H'=H/\∀xs,BU K H a xs->xs[i]?=some x,λi H=>∃xs,BU K H a xs/\xs.length<=i⟩
def OT (lo:Int)(n:Nat):It:=⟨λi _=>i < n,λi H x H'=>H'=H/\x=.int (lo+i),λi _=>n<=i⟩
theorem Fl {tg:Expr}(a it:Addr):Turn P w K tg (OR K a) [it] it (λi h=>h.IsListIter it a i) where
 mem:=by simp
 obj:=λi h st b hb=>by
  have e:b=it:=by simpa using hb
  subst e
  obtain⟨o,e,c,d⟩:=st
  exact⟨o,e,λv z=>by rw[d] at z;cases z⟩
 keep:=λi h h' st k=>st.at λo e=>k it (by simp) o e
 item:=by
  intro X hP hw hK hc i zl s σ H E I hf st hg
  subst hP hw hK
  obtain⟨xs,x,hq,hx⟩:=hg
  obtain⟨zw,rv,p,hz⟩:=I.list hq
  obtain⟨u,hu,ru⟩:=rv.get hx
  obtain⟨f0,f1,f2,f3,f4,f5⟩:=hf it (by simp)
  refine wpAny_pyNext_list_item st p.isList (x:=u) (by simpa using hu) λh' A7 sb=>?_
  have I1:Inv X zl σ H { s with heap:=h' }:=I.turned (t':=s.toks) (λb o hb e=>(sb.2 b hb).trans e) f0 f1 f3 f4 f5
  obtain⟨o,e,c,d⟩:=id A7
  exact⟨u,rfl,t8 (s:={ s with heap:=h' }) e c d (by decide) ⟨x,H,I1,ru,⟨rfl,λys hy=>by rw[I.HP hy hq];exact hx⟩,A7,λb hb=>(hf b hb).1⟩⟩
 done:=by
  intro X hP hw hK hc i zl s σ H E I hf st hg
  subst hP hw hK
  obtain⟨xs,hq,hx⟩:=hg
  obtain⟨zw,rv,p,hz⟩:=I.list hq
  obtain⟨f0,f1,f2,f3,f4,f5⟩:=hf it (by simp)
  have hl:=rv.length
  exact wpAny_pyNext_list_end (I.ok.hd hc) st p.isList (by simp;omega) λh' eb=>⟨rfl,I.turned (t':=s.toks) (λb o hb e=>eb b o hb e) f0 f1 f3 f4 f5⟩
 self:=λ_ _ _ _ _ st h=>wpAny_pyIter_listiter st h
theorem CT {tg:Expr}(a it:Addr):Turn P w K tg (OS K a) [it] it (λi h=>h.IsTupleIter it a i) where
 mem:=by simp
 obj:=λi h st b hb=>by
  have e:b=it:=by simpa using hb
  subst e
  obtain⟨o,e,c,d⟩:=st
  exact⟨o,e,λv z=>by rw[d] at z;cases z⟩
 keep:=λi h h' st k=>st.at λo e=>k it (by simp) o e
 item:=by
  intro X hP hw hK hc i zl s σ H E I hf st hg
  subst hP hw hK
  obtain⟨xs,x,hq,hx⟩:=hg
  obtain⟨zw,rv,p,hz⟩:=I.tuple hq
  obtain⟨u,hu,ru⟩:=rv.get hx
  obtain⟨f0,f1,f2,f3,f4,f5⟩:=hf it (by simp)
  refine nE st (show s.heap.IsTuple a zw.toArray from p) (x:=u) (by simpa using hu) λh' A7 sb=>?_
  have I1:Inv X zl σ H { s with heap:=h' }:=I.turned (t':=s.toks) (λb o hb e=>(sb.2 b hb).trans e) f0 f1 f3 f4 f5
  obtain⟨o,e,c,d⟩:=id A7
  exact⟨u,rfl,t8 (s:={ s with heap:=h' }) e c d (by decide) ⟨x,H,I1,ru,⟨rfl,λys hy=>by rw[I.FU hy hq];exact hx⟩,A7,λb hb=>(hf b hb).1⟩⟩
 done:=by
  intro X hP hw hK hc i zl s σ H E I hf st hg
  subst hP hw hK
  obtain⟨xs,hq,hx⟩:=hg
  obtain⟨zw,rv,p,hz⟩:=I.tuple hq
  obtain⟨f0,f1,f2,f3,f4,f5⟩:=hf it (by simp)
  have hl:=rv.length
  exact wpAny_pyNext_tuple_end (I.ok.hd hc) st (show s.heap.IsTuple a zw.toArray from p) (by simp;omega) λh' eb=>⟨rfl,I.turned (t':=s.toks) (λb o hb e=>eb b o hb e) f0 f1 f3 f4 f5⟩
 self:=λ_ _ _ _ _ st h=>wpAny_pyIter_tupleiter st h
theorem CV {tg:Expr}(it:Addr)(lo:Int)(n:Nat):Turn P w K tg (OT lo n) [it] it (λi h=>IsRangeIter h it (lo+(i:Nat)*1) ((n:Int) - (i:Nat)) 1) where
 mem:=by simp
 obj:=λi h st b hb=>by
  have e:b=it:=by simpa using hb
  subst e
  exact⟨_,st,λv z=>by
   have z':Data.fields _=Data.cell v:=z
   cases z'⟩
 keep:=λi h h' st k=>k it (by simp) _ st
 item:=by
  intro X hP hw hK hc i zl s σ H E I hf st hg
  subst hP hw hK
  obtain⟨f0,f1,f2,f3,f4,f5⟩:=hf it (by simp)
  have W:=Walks.range (prog:=X.prog) (w:=X.w) (I.ok.hd hc) it lo 1 n
  refine W.item i s _ _ hg st λv h' tk hv A7 kk=>?_
  obtain⟨t,rfl⟩:=hv
  have I1:Inv X zl σ H { s with heap:=h',toks:=tk }:=I.turned (λb o hb e=>kk b o (by simpa using hb) e) f0 f1 f3 f4 f5
  refine⟨_,rfl,t8 (s:={ s with heap:=h',toks:=tk }) (n := "range_iterator") A7 rfl rfl (by decide) ⟨.int (lo+i),H,I1,⟨t,?_⟩,⟨rfl,rfl⟩,A7,λb hb=>(hf b hb).1⟩⟩
  rw[Int.mul_one]
 done:=by
  intro X hP hw hK hc i zl s σ H E I hf st hg
  subst hP hw hK
  obtain⟨f0,f1,f2,f3,f4,f5⟩:=hf it (by simp)
  exact wpAny_pyNext_range_end (I.ok.hd hc) st (by have:n<=i:=hg;omega) λh' eb=>⟨rfl,I.turned (t':=s.toks) (λb o hb e=>eb b o hb e) f0 f1 f3 f4 f5⟩
 self:=λ_ _ _ _ _ st h=>wpAny_pyIter_rangeiter st h
section
variable {X:Cx}{tg:Expr}
def xU (K:W.Frag)(tl:TE):TI:=fun σ H R=>tl σ H λx H1=>∃a,x=.ref a/\(∃xs,AS K H1 a xs)/\R (OR K a) H1
def yD (K:W.Frag)(tl:TE):TI:=fun σ H R=>tl σ H λx H1=>∃a,x=.ref a/\(∃xs,BU K H1 a xs)/\R (OS K a) H1
theorem vy {l:Expr}{tl:TE}(hl:PE X l tl):PI X tg l (xU X.K tl):=by
 intro zl s σ H R I h
 refine AE (hl zl s σ H _ I h) ?_
 rintro v s1 ⟨x,H1,I1,r1,q1⟩
 obtain⟨a,e,⟨xs,hq⟩,q⟩:=q1
 subst e
 cases r1
 obtain⟨zw,rv,p,hz⟩:=I1.list hq
 refine fN p.isList ?_
 refine⟨s1.heap.objs.size,[s1.heap.objs.size],_,_,H1,rfl,I1.kept (t':=s1.toks) λb o e=>ac _ e,Fl a _,⟨_,al _ rfl,rfl,rfl⟩,λb hb=>?_,q⟩
 have e:b=s1.heap.objs.size:=by simpa using hb
 subst e
 exact I1.F9 (aw _) (I1.Au.fresh (aw _))
theorem t_ {l:Expr}{tl:TE}(hl:PE X l tl):PI X tg l (yD X.K tl):=by
 intro zl s σ H R I h
 refine AE (hl zl s σ H _ I h) ?_
 rintro v s1 ⟨x,H1,I1,r1,q1⟩
 obtain⟨a,e,⟨xs,hq⟩,q⟩:=q1
 subst e
 cases r1
 obtain⟨zw,rv,p,hz⟩:=I1.tuple hq
 refine eS (show s1.heap.IsTuple a zw.toArray from p) ?_
 refine⟨s1.heap.objs.size,[s1.heap.objs.size],_,_,H1,rfl,I1.kept (t':=s1.toks) λb o e=>ac _ e,CT a _,⟨_,al _ rfl,rfl,rfl⟩,λb hb=>?_,q⟩
 have e:b=s1.heap.objs.size:=by simpa using hb
 subst e
 exact I1.F9 (aw _) (I1.Au.fresh (aw _))
theorem yE {R:It->Hp->Prop}{lo hi:Int}{t u v:Tok}{tk:Nat}(I:Inv X zl σ H s)(h1:-(2 ^ 62)<=lo)(h2:lo < 2 ^ 62)(h3:-(2 ^ 62)<=hi)(h4:hi < 2 ^ 62)
  (q:R (OT lo (hi - lo).toNat) H):wpAny (model X.prog X.w) X.A (pyIter (.ref s.heap.objs.size)) (PIE X zl σ tg R) E { s with heap:=s.heap.push { cls:=.type "range",data:=.fields #[.int lo t,.int hi u,.int 1 v] },toks:=tk }:=by
 refine wpAny_pyIter_range (IsRange.new ..) (small_one h1 h2 h3 h4) ?_
 have I1:Inv X zl σ H { s with heap:=s.heap.push { cls:=.type "range",data:=.fields #[.int lo t,.int hi u,.int 1 v] },toks:=tk }:=I.kept λb o e=>ac _ e
 refine⟨(s.heap.push { cls:=.type "range",data:=.fields #[.int lo t,.int hi u,.int 1 v] }).objs.size,[(s.heap.push { cls:=.type "range",data:=.fields #[.int lo t,.int hi u,.int 1 v] }).objs.size],_,_,H,rfl,
  I1.kept (t':=tk) λb o e=>ac _ e,CV _ lo (hi - lo).toNat,?_,λb hb=>?_,q⟩
 ·have e1:lo+((0:Nat):Int)*1=lo:=by simp
  have e2:(((hi - lo).toNat:Nat):Int) - ((0:Nat):Int)=Builtin.Range.rangeSize lo hi 1:=by rw[rangeSize_one];split <;> omega
  show IsRangeIter _ _ (lo+((0:Nat):Int)*1) ((((hi - lo).toNat:Nat):Int) - ((0:Nat):Int)) 1
  rw[e1,e2]
  exact al _ rfl
 ·have e:b=(s.heap.push { cls:=.type "range",data:=.fields #[.int lo t,.int hi u,.int 1 v] }).objs.size:=by simpa using hb
  subst e
  exact I1.F9 (aw _) (I1.Au.fresh (aw _))
def CW (ta:TA):TI:=fun σ H R=>ta σ H λvs H1=>∃j:Int,vs=[.int j]/\-(2 ^ 62)<=j/\j < 2 ^ 62/\R (OT 0 j.toNat) H1
def Q3 (ta:TA):TI:=fun σ H R=>ta σ H λvs H1=>∃i j:Int,vs=[.int i,.int j]/\(-(2 ^ 62)<=i/\i < 2 ^ 62/\-(2 ^ 62)<=j/\j < 2 ^ 62)/\R (OT i (j - i).toNat) H1
theorem wM {a:Expr}{ta:TA}{p:Pos}(hg:Gl X "range")(hm:X.mg "range" = none)(ha:PA X [a] ta)(hs:starEach [a] X.env=[(false,eval a X.env)]:=by rfl):PI X tg (.Call (.Name "range" p) [a] [] pos) (CW ta):=by
 intro zl s σ H R I h
 refine Call_ (dN I hg hm boot_range (cf (AE (ha pos zl s σ H _ I h) ?_) hs rfl))
 rintro us s1 ⟨vs,H1,I1,r1,q1⟩
 obtain⟨j,e,q1,q2,q⟩:=q1
 subst e
 cases r1 with
 | cons r rr=>
  cases rr
  obtain⟨t,rfl⟩:=r
  exact call_range_1 (yE I1 (by omega) (by omega) q1 q2 (by simpa using q))
theorem Fo {a b:Expr}{ta:TA}{p:Pos}(hg:Gl X "range")(hm:X.mg "range" = none)(ha:PA X [a,b] ta)(hs:starEach [a,b] X.env=[(false,eval a X.env),(false,eval b X.env)]:=by rfl)(DE:starEach [b] X.env=[(false,eval b X.env)]:=by rfl):
  PI X tg (.Call (.Name "range" p) [a,b] [] pos) (Q3 ta):=by
 intro zl s σ H R I h
 refine Call_ (dN I hg hm boot_range (cf (AE (ha pos zl s σ H _ I h) λus s1 ⟨vs,H1,I1,r1,q1⟩=>?_) (by rw[hs,DE]) (by rw[DE];rfl)))
 obtain⟨i,j,e,⟨q1,q2,q3,q4⟩,q⟩:=q1
 subst e
 cases r1 with
 | cons r rr=>
  cases rr with
  | cons r' rr=>
   cases rr
   obtain⟨t,rfl⟩:=r
   obtain⟨t',rfl⟩:=r'
   exact call_range_2 (yE I1 q1 q2 q3 q4 q)
def vz (wi:TI)(g:TG)(tb:TS):TS:=λD σ H=>wi σ H λJ H1=>∃W:Nat->Nat->St->Hp->Prop,(∃m,W 0 m σ H1)/\∀i m σ H,W i m σ H->
 (J.stop i H/\D.nx σ H)\/(J.go i H/\∃N:St->Hp->Prop,(∀ σ' H',N σ' H'->∃m',m' < m/\W (i+1) m' σ' H')/\∀x H',J.LZ i H x H'->g x σ H' fun σ2 H2=>tb { D with nx:=N,ct:=N,bk:=D.nx } σ2 H2)
noncomputable def mK (fp:qv)(h:Heap):List (Addr×Obj):=fp.filterMap λb=>(h.get? b).map λo=>(b,o)
theorem fU {fp:qv}{o:Obj}(hb:b∈fp)(e:h.get? b=some o):(b,o)∈mK fp h:=List.mem_filterMap.mpr ⟨b,hb,by rw[e];rfl⟩
theorem Fp {fp:qv}{p:Addr×Obj}(hp:p∈mK fp h):p.1∈fp/\h.get? p.1=some p.2:=by
 obtain⟨b,hb,e⟩:=List.mem_filterMap.mp hp
 cases q:h.get? b with
 | none=>rw[q] at e;cases e
 | some o=>
  rw[q] at e
  have e':(b,o)=p:=bg e
  subst e'
  exact⟨hb,q⟩
theorem Inv.pinned {fp:qv}(I:Inv X zl σ H s)(hf:∀b∈fp,gq X zl H b)(ho:∀b∈fp,∃o,s.heap.get? b=some o/\∀v,o.data≠.cell v):Inv X (zl++mK fp s.heap) σ H s:=
 I.Kb λp hp=>(bo.mp hp).elim (λz=>I.pin p (bp _ z)) λz=>by
  obtain⟨hb,e⟩:=Fp z
  obtain⟨f0,f1,f2,_⟩:=hf p.1 hb
  obtain⟨o,e',d⟩:=ho p.1 hb
  rw[e] at e';cases e'
  exact⟨e,f0,f1,f2,d⟩
theorem Inv.CL {pl:qc}(I:Inv X (zl++pl) σ H s):Inv X zl σ H s:=I.Kb λp hp=>I.pin p (bp _ (bn _ hp))
theorem mL {iter:Expr}{body:qk}{wi:TI}{g:TG}{tb:TS}(hp:PassesOwn (model X.prog X.w) X.A X.env X.xe)(hc:X.calm=true)(hi:PI X tg iter wi)(hg:PG X tg g)(hb:EX X body tb)
  (hs:∀x,foldedSetIterable iter X.env x=pure x:=by intro _;rfl):PS X (.For tg iter body [] pos) (vz wi g tb):=by
 intro zl s σ H D I h
 refine wpAny_For (AE (hi zl s σ H _ I h) λv s1 h1=>AE h1 λQP s2 h2=>?_) hs
 obtain⟨it,fp,tn,J,H2,e,I2,T,Ta,f2,W,⟨m0,w0⟩,turn⟩:=h2
 subst e
 have EZ:∀{H':Hp},(∀b∈fp,H' b=none)->∀b∈fp,gq X zl H' b:=λhn b hb=>⟨hn b hb,(f2 b hb).2⟩
 refine codeAny_forLoop_any (λn s'=>∃i σ' H',Inv X zl σ' H' s'/\tn i s'.heap/\(∀b∈fp,H' b=none)/\W i n σ' H') ?_ m0 ⟨0,σ,H2,I2,Ta,λb hb=>(f2 b hb).1,w0⟩
 rintro n s3 ⟨i,σ3,H3,I3,QU,QY,w3⟩
 rcases turn i n σ3 H3 w3 with ⟨stop,qn⟩ | ⟨go,N,hN,step⟩
 ·refine ib hp (AE (T.done X rfl rfl rfl hc i zl s3 σ3 H3 X.xe I3 (EZ QY) QU stop) ?_)
  rintro r s4 ⟨hr,I4⟩
  subst hr
  exact ly ⟨σ3,H3,I4,qn⟩
 ·refine ib hp (AE (T.item X rfl rfl rfl hc i zl s3 σ3 H3 X.xe I3 (EZ QY) QU go) ?_)
  rintro r s4 ⟨u,hr,h4⟩
  subst hr
  refine ib hp (AE h4 ?_)
  rintro _ s5 ⟨x,H5,I5,r5,y5,L1,Vy⟩
  have Vz:=I5.pinned (EZ Vy) (T.obj _ _ L1)
  refine ib hp (AE (hg _ s5 σ3 H5 x u _ Vz r5 (step x H5 y5)) ?_)
  rintro _ s6 ⟨σ6,H6,I6,q6⟩
  refine ib hp (AE (hb _ s6 σ6 H6 _ I6 q6) λf s7 q7=>?_)
  have again:∀{σ7:St}{H7:Hp},Inv X (zl++mK fp s5.heap) σ7 H7 s7->N σ7 H7->∃m,m < n/\∃i σ' H',Inv X zl σ' H' s7/\tn i s7.heap/\(∀b∈fp,H' b=none)/\W i m σ' H':=λ{σ7 H7} I7 n7=>by
   obtain⟨m',hm,w7⟩:=hN σ7 H7 n7
   refine⟨m',hm,i+1,σ7,H7,I7.CL,T.keep _ _ _ L1 λb hb o e=>(I7.pin (b,o) (bp _ (bp _ (fU hb e)))).1,λb hb=>?_,w7⟩
   obtain⟨o,e,d⟩:=T.obj _ _ L1 b hb
   exact(I7.pin (b,o) (bp _ (bp _ (fU hb e)))).2.1
  cases f with
  | next=>obtain⟨σ7,H7,I7,n7⟩:=q7;exact again I7 n7
  | cont=>obtain⟨σ7,H7,I7,n7⟩:=q7;exact again I7 n7
  | brk=>obtain⟨σ7,H7,I7,q7⟩:=q7;exact⟨σ7,H7,I7.CL,q7⟩
  | ret v=>obtain⟨x7,σ7,H7,I7,r7,q7⟩:=q7;exact⟨x7,σ7,H7,I7.CL,r7,q7⟩
end
theorem Hz {xs:List V}{g:TG}{tb:TS}{D:Ends}(Pv:Nat->St->Hp->Prop)(h0:Pv 0 σ H)(hl:∀i σ H,i<=xs.length->Pv i σ H->AS K H a xs)
  (hs:∀i x σ H,xs[i]?=some x->Pv i σ H->g x σ H fun σ2 H2=>tb { D with nx:=Pv (i+1),ct:=Pv (i+1),bk:=D.nx } σ2 H2) (hd:∀ σ H,Pv xs.length σ H->D.nx σ H):
  ∃W:Nat->Nat->St->Hp->Prop,(∃m,W 0 m σ H)/\∀i m σ H,W i m σ H->
   ((OR K a).stop i H/\D.nx σ H)\/((OR K a).go i H/\∃N:St->Hp->Prop,(∀ σ' H',N σ' H'->∃m',m' < m/\W (i+1) m' σ' H')/\∀x H',(OR K a).LZ i H x H'->g x σ H' fun σ2 H2=>tb { D with nx:=N,ct:=N,bk:=D.nx } σ2 H2):=by
 refine⟨λi m σ H=>m=xs.length - i/\i<=xs.length/\Pv i σ H,⟨xs.length,by simp,cb _,h0⟩,?_⟩
 rintro i m σ H ⟨rfl,hi,p⟩
 have q:=hl i σ H hi p
 by_cases A0:i < xs.length
 ·refine .inr ⟨⟨xs,xs[i],q,by simp[A0]⟩,Pv (i+1),fun σ' H' p'=>⟨xs.length - (i+1),by omega,rfl,A0,p'⟩,λx H' y=>?_⟩
  obtain⟨e,y⟩:=y
  subst e
  exact hs i x σ _ (y xs q) p
 ·have e:i=xs.length:=by omega
  subst e
  exact .inl ⟨⟨xs,q,aw _⟩,hd σ H p⟩
theorem Bq {xs:List V}{g:TG}{tb:TS}{D:Ends}(Pv:Nat->St->Hp->Prop)(h0:Pv 0 σ H)(hl:∀i σ H,i<=xs.length->Pv i σ H->BU K H a xs)
  (hs:∀i x σ H,xs[i]?=some x->Pv i σ H->g x σ H fun σ2 H2=>tb { D with nx:=Pv (i+1),ct:=Pv (i+1),bk:=D.nx } σ2 H2) (hd:∀ σ H,Pv xs.length σ H->D.nx σ H):
  ∃W:Nat->Nat->St->Hp->Prop,(∃m,W 0 m σ H)/\∀i m σ H,W i m σ H->
   ((OS K a).stop i H/\D.nx σ H)\/((OS K a).go i H/\∃N:St->Hp->Prop,(∀ σ' H',N σ' H'->∃m',m' < m/\W (i+1) m' σ' H')/\∀x H',(OS K a).LZ i H x H'->g x σ H' fun σ2 H2=>tb { D with nx:=N,ct:=N,bk:=D.nx } σ2 H2):=by
 refine⟨λi m σ H=>m=xs.length - i/\i<=xs.length/\Pv i σ H,⟨xs.length,by simp,cb _,h0⟩,?_⟩
 rintro i m σ H ⟨rfl,hi,p⟩
 have q:=hl i σ H hi p
 by_cases A0:i < xs.length
 ·refine .inr ⟨⟨xs,xs[i],q,by simp[A0]⟩,Pv (i+1),fun σ' H' p'=>⟨xs.length - (i+1),by omega,rfl,A0,p'⟩,λx H' y=>?_⟩
  obtain⟨e,y⟩:=y
  subst e
  exact hs i x σ _ (y xs q) p
 ·have e:i=xs.length:=by omega
  subst e
  exact .inl ⟨⟨xs,q,aw _⟩,hd σ H p⟩
abbrev R2:=V->V->Hp->VK->Prop
def B2 (X:Cx)(f:Value->Value->Sem Value)(r:R2):Prop:=
 ∀(zl:qc) (s:Shared) (σ:St) (H:Hp) (x y:V) (v u:Value) (Q:VK),Inv X zl σ H s->RelV x v->RelV y u->r x y H Q->
  wpAny (model X.prog X.w) X.A (f v u) (EP X zl σ Q) X.xe s
def Yp (X:Cx)(f:Value->Sem Value)(r:V->Hp->VK->Prop):Prop:=
 ∀(zl:qc) (s:Shared) (σ:St) (H:Hp) (x:V) (v:Value) (Q:VK),Inv X zl σ H s->RelV x v->r x H Q->
  wpAny (model X.prog X.w) X.A (f v) (EP X zl σ Q) X.xe s
def AW (X:Cx)(f:Value)(r:List V->Hp->VK->Prop):Prop:=
 ∀(zl:qc) (s:Shared) (σ:St) (H:Hp) (xs:List V) (us:qh) (Q:VK),Inv X zl σ H s->Vals xs us->r xs H Q->
  wpAny (model X.prog X.w) X.A (call f us) (EP X zl σ Q) X.xe s
def L3 (r:R2)(ta tb:TE):TE:=fun σ H Q=>ta σ H λx H1=>tb σ H1 λy H2=>r x y H2 Q
def tUn (r:V->Hp->VK->Prop)(ta:TE):TE:=fun σ H Q=>ta σ H λx H1=>r x H1 Q
def rI (C:Int->Int->Prop)(g:Int->Int->V):R2:=λx y H Q=>∃i j,x=.int i/\y=.int j/\C i j/\Q (g i j) H
def OA (g:Int->Int->V):R2:=λx y H Q=>∃i j,x=.int i/\y=.int j/\Q (g i j) H
def rU (g:Int->V):V->Hp->VK->Prop:=λx H Q=>∃i,x=.int i/\Q (g i) H
section
variable {X:Cx}{a b c:Expr}{ta tb tc:TE}{pos:Pos}
theorem HB (ha:PE X a ta)(hb:PE X b tb){R:V->V->Hp->Prop}(I:Inv X zl σ H s)
  (h:ta σ H λx H1=>tb σ H1 λy H2=>R x y H2){Q:oT}{f:Value->Value->Sem Value}
  (hf:∀v u s2 x y H2,Inv X zl σ H2 s2->RelV x v->RelV y u->R x y H2->wpAny (model X.prog X.w) X.A (f v u) Q X.xe s2):
  wpAny (model X.prog X.w) X.A (eval a X.env) (λv s₁=>wpAny (model X.prog X.w) X.A (eval b X.env) (λu s₂=>wpAny (model X.prog X.w) X.A (f v u) Q X.xe s₂) X.xe s₁) X.xe s:=by
 refine AE (ha zl s σ H _ I h) ?_
 rintro v s1 ⟨x,H1,I1,r1,q1⟩
 refine AE (hb zl s1 σ H1 _ I1 q1) ?_
 rintro u s2 ⟨y,H2,I2,r2,q2⟩
 exact hf v u s2 x y H2 I2 r1 r2 q2
theorem Ka {op:Operator}{r:R2}(ho:B2 X (binaryOp op) r)(ha:PE X a ta)(hb:PE X b tb):PE X (.BinOp a op b pos) (L3 r ta tb):=by
 intro zl s σ H Q I h
 exact wpAny_BinOp (HB ha hb I h λv u s2 x y H2 I2 rx ry q=>ho zl s2 σ H2 x y v u Q I2 rx ry q)
theorem Q4 {op:UnaryOp}{r:V->Hp->VK->Prop}(ho:Yp X (unaryOp op) r)(ha:PE X a ta):PE X (.UnaryOp op a pos) (tUn r ta):=by
 intro zl s σ H Q I h
 exact UnaryOp_ (AE (ha zl s σ H _ I h) λv s1 ⟨x,H1,I1,r1,q1⟩=>ho zl s1 σ H1 x v Q I1 r1 q1)
theorem Yq {f:Value->Value->Sem Value}{C:Int->Int->Prop}{g:Int->Int->Int}
  (rule:∀(i j:Int) (t u:Tok) (s:Shared) (Q:oT) (E:oT),C i j->Q (.int (g i j) s.toks) { s with toks:=s.toks+1 }->wpAny (model X.prog X.w) X.A (f (.int i t) (.int j u)) Q E s):
  B2 X f (rI C λi j=>.int (g i j)):=by
 intro zl s σ H x y v u Q I rx ry h
 obtain⟨i,j,rfl,rfl,hc,q⟩:=h
 obtain⟨t,rfl⟩:=rx
 obtain⟨t',rfl⟩:=ry
 exact rule i j t t' s _ _ hc ⟨.int (g i j),H,I.tok _,⟨_,rfl⟩,q⟩
theorem N5 {f:Value->Value->Sem Value}{g:Int->Int->Int}
  (rule:∀(i j:Int) (t u:Tok) (s:Shared) (Q:oT) (E:oT),Q (.int (g i j) s.toks) { s with toks:=s.toks+1 }->wpAny (model X.prog X.w) X.A (f (.int i t) (.int j u)) Q E s):
  B2 X f (OA λi j=>.int (g i j)):=by
 intro zl s σ H x y v u Q I rx ry h
 obtain⟨i,j,rfl,rfl,q⟩:=h
 obtain⟨t,rfl⟩:=rx
 obtain⟨t',rfl⟩:=ry
 exact rule i j t t' s _ _ ⟨.int (g i j),H,I.tok _,⟨_,rfl⟩,q⟩
theorem N6 {f:Value->Value->Sem Value}{g:Int->Int->Bool}
  (rule:∀(i j:Int) (t u:Tok) (s:Shared) (Q:oT) (E:oT),Q (.bool (g i j)) s->wpAny (model X.prog X.w) X.A (f (.int i t) (.int j u)) Q E s):
  B2 X f (OA λi j=>.bl (g i j)):=by
 intro zl s σ H x y v u Q I rx ry h
 obtain⟨i,j,rfl,rfl,q⟩:=h
 obtain⟨t,rfl⟩:=rx
 obtain⟨t',rfl⟩:=ry
 exact rule i j t t' s _ _ ⟨.bl (g i j),H,I,rfl,q⟩
def N7 (i j:Int):Prop:=0 < j/\j < 1073741824
def L4 (i j:Int):Prop:=(-(2 ^ 64) < i/\i < 2 ^ 64)\/(-(2 ^ 64) < j/\j < 2 ^ 64)
theorem L4.ok {i j:Int}(h:L4 i j):IntMulOk i j:=by
 rcases h with ⟨h1,h2⟩ | ⟨h1,h2⟩
 ·exact .of_left (intBits_le_64 h1 h2)
 ·exact .of_right (intBits_le_64 h1 h2)
theorem N8:B2 X (binaryOp .Add) (OA λi j=>.int (i+j)):=N5 λ_ _ _ _ _ _ _ q=>add_int q
theorem N_:B2 X (binaryOp .Sub) (OA λi j=>.int (i - j)):=N5 λ_ _ _ _ _ _ _ q=>sub_int q
theorem Fq:B2 X (binaryOp .Mult) (rI L4 λi j=>.int (i*j)):=Yq λ_ _ _ _ _ _ _ hc q=>mul_int q hc.ok
theorem KC:B2 X (binaryOp .FloorDiv) (rI N7 λi j=>.int (i / j)):=Yq λi j _ _ _ _ _ hc q=>by
 have h1:(0:Int) < j:=hc.1
 have h2:j < 1073741824:=hc.2
 exact floordiv_int (by omega) (by rw[Int.fdiv_eq_ediv_of_nonneg i (by omega)];exact q) (.inl (PyProof.noPylong_small (by omega)))
theorem Oa:B2 X (binaryOp .Mod) (rI (λ_ j=>0 < j) λi j=>.int (i % j)):=Yq λi j _ _ _ _ _ hc q=>by
 have h1:(0:Int) < j:=hc
 exact mod_int' (by omega) (by rw[Int.fmod_eq_emod_of_nonneg i (by omega)];exact q)
theorem Lc {f:Value->Sem Value}{g:Int->Int}
  (rule:∀(i:Int) (t:Tok) (s:Shared) (Q:oT) (E:oT),Q (.int (g i) s.toks) { s with toks:=s.toks+1 }->wpAny (model X.prog X.w) X.A (f (.int i t)) Q E s):
  Yp X f (rU λi=>.int (g i)):=by
 intro zl s σ H x v Q I rx h
 obtain⟨i,rfl,q⟩:=h
 obtain⟨t,rfl⟩:=rx
 exact rule i t s _ _ ⟨.int (g i),H,I.tok _,⟨_,rfl⟩,q⟩
theorem Ob:Yp X (unaryOp .USub) (rU λi=>.int (-i)):=Lc λ_ _ _ _ _ q=>neg_int q
end
noncomputable def HD:V->V->Bool
 | .zD,.zD=>true | .zD,.int _=>true | .int _,.zD=>true | .zD,.bl _=>true | .bl _,.zD=>true | .zD,.str _=>true | .str _,.zD=>true
 | .int _,.int _=>true | .bl _,.bl _=>true | .str _,.str _=>true | .LL _,.LL _=>true
 | .int _,.str _=>true | .str _,.int _=>true | .bl _,.str _=>true | .str _,.bl _=>true
 | _,_=>false
def rEq:R2:=λx y H Q=>HD x y=true/\Q (.bl (decide (x=y))) H
def rNe:R2:=λx y H Q=>HD x y=true/\Q (.bl (!decide (x=y))) H
theorem Br {i j:Int}:decide (V.int i=V.int j)=(i == j):=by
 rw[gc]
 simp
theorem Ft {i j:Bool}:decide (V.bl i=V.bl j)=(i == j):=by
 rw[gc]
 simp
theorem Bt {i j:Str}:decide (V.str i=V.str j)=(i == j):=by
 rw[gc]
 simp
theorem Bu {i j:Array UInt8}:decide (V.LL i=V.LL j)=(i.toList == j.toList):=by
 rw[gc]
 cases i
 cases j
 simp
variable {us:qh}
section
variable {X:Cx}{a b c:Expr}{ta tb tc:TE}{pos:Pos}
theorem aY {Q:VK}{k k':Bool}(I:Inv X zl σ H s)(q:Q (.bl k) H)(e:k=k'):EP X zl σ Q (.bool k') s:=by
 subst e
 exact⟨.bl k,H,I,rfl,q⟩
theorem Q5:B2 X (compareOp .Eq) rEq:=by
 intro zl s σ H x y v u Q I rx ry h
 obtain⟨hs,q⟩:=h
 cases x with
 | zD=>
  cases rx
  cases y with
  | zD=>cases ry;exact PySem.EqNone.eq_none_none (aY I q (by simp))
  | bl j=>cases ry;exact PySem.EqNone.eq_none_bool (aY I q (by simp))
  | int j=>obtain⟨t',rfl⟩:=ry;exact PySem.EqNone.eq_none_int (aY I q (by simp))
  | str j=>obtain⟨t',rfl⟩:=ry;exact PySem.EqNone.eq_none_str (aY I q (by simp))
  | _=>exact absurd (show false=true from hs) ba
 | bl i=>
  cases rx
  cases y with
  | zD=>cases ry;exact PySem.EqNone.eq_bool_none (aY I q (by simp))
  | bl j=>cases ry;exact eq_bool (aY I q Ft)
  | str j=>obtain⟨t',rfl⟩:=ry;exact PySem.EqMixed.eq_bool_str (aY I q (by simp))
  | _=>exact absurd (show false=true from hs) ba
 | int i=>
  obtain⟨t,rfl⟩:=rx
  cases y with
  | zD=>cases ry;exact PySem.EqNone.eq_int_none (aY I q (by simp))
  | int j=>obtain⟨t',rfl⟩:=ry;exact eq_int (aY I q Br)
  | str j=>obtain⟨t',rfl⟩:=ry;exact PySem.EqMixed.eq_int_str (aY I q (by simp))
  | _=>exact absurd (show false=true from hs) ba
 | str i=>
  obtain⟨t,rfl⟩:=rx
  cases y with
  | zD=>cases ry;exact PySem.EqNone.eq_str_none (aY I q (by simp))
  | bl j=>cases ry;exact PySem.EqMixed.eq_str_bool (aY I q (by simp))
  | int j=>obtain⟨t',rfl⟩:=ry;exact PySem.EqMixed.eq_str_int (aY I q (by simp))
  | str j=>obtain⟨t',rfl⟩:=ry;exact eq_str (aY I q Bt)
  | _=>exact absurd (show false=true from hs) ba
 | LL i=>
  obtain⟨t,rfl⟩:=rx
  cases y with
  | LL j=>obtain⟨t',rfl⟩:=ry;exact W.eq_bytes (aY I q Bu)
  | _=>exact absurd (show false=true from hs) ba
 | _=>cases y <;> exact absurd (show false=true from hs) ba
theorem Q6:B2 X (compareOp .NotEq) rNe:=by
 intro zl s σ H x y v u Q I rx ry h
 obtain⟨hs,q⟩:=h
 cases x with
 | zD=>
  cases rx
  cases y with
  | zD=>cases ry;exact PySem.EqNone.ne_none_none (aY I q (by simp))
  | bl j=>cases ry;exact PySem.EqNone.ne_none_bool (aY I q (by simp))
  | int j=>obtain⟨t',rfl⟩:=ry;exact PySem.EqNone.ne_none_int (aY I q (by simp))
  | str j=>obtain⟨t',rfl⟩:=ry;exact PySem.EqNone.ne_none_str (aY I q (by simp))
  | _=>exact absurd (show false=true from hs) ba
 | bl i=>
  cases rx
  cases y with
  | zD=>cases ry;exact PySem.EqNone.ne_bool_none (aY I q (by simp))
  | bl j=>cases ry;exact ne_bool (aY I q (d5 not Ft))
  | str j=>obtain⟨t',rfl⟩:=ry;exact PySem.EqMixed.ne_bool_str (aY I q (by simp))
  | _=>exact absurd (show false=true from hs) ba
 | int i=>
  obtain⟨t,rfl⟩:=rx
  cases y with
  | zD=>cases ry;exact PySem.EqNone.ne_int_none (aY I q (by simp))
  | int j=>obtain⟨t',rfl⟩:=ry;exact ne_int (aY I q (d5 not Br))
  | str j=>obtain⟨t',rfl⟩:=ry;exact PySem.EqMixed.ne_int_str (aY I q (by simp))
  | _=>exact absurd (show false=true from hs) ba
 | str i=>
  obtain⟨t,rfl⟩:=rx
  cases y with
  | zD=>cases ry;exact PySem.EqNone.ne_str_none (aY I q (by simp))
  | bl j=>cases ry;exact PySem.EqMixed.ne_str_bool (aY I q (by simp))
  | int j=>obtain⟨t',rfl⟩:=ry;exact PySem.EqMixed.ne_str_int (aY I q (by simp))
  | str j=>obtain⟨t',rfl⟩:=ry;exact ne_str (aY I q (d5 not Bt))
  | _=>exact absurd (show false=true from hs) ba
 | LL i=>
  obtain⟨t,rfl⟩:=rx
  cases y with
  | LL j=>obtain⟨t',rfl⟩:=ry;exact W.ne_bytes (aY I q (d5 not Bu))
  | _=>exact absurd (show false=true from hs) ba
 | _=>cases y <;> exact absurd (show false=true from hs) ba
theorem Q7:B2 X (compareOp .Lt) (OA λi j=>.bl (decide (i < j))):=N6 λ_ _ _ _ _ _ _ q=>lt_int q
theorem Q8:B2 X (compareOp .Gt) (OA λi j=>.bl (decide (j < i))):=N6 λ_ _ _ _ _ _ _ q=>gt_int q
theorem Oc:B2 X (compareOp .Is) (λx y H Q=>y=.zD/\Q (.bl (decide (x=.zD))) H):=by
 intro zl s σ H x y v u Q I rx ry h
 obtain⟨rfl,q⟩:=h
 cases ry
 refine is_none_gen (aY I q ?_)
 cases x <;> first
  | (cases rx;rfl)
  | (obtain⟨t,rfl⟩:=rx;rfl)
theorem Bv:B2 X (compareOp .IsNot) (λx y H Q=>y=.zD/\Q (.bl (!decide (x=.zD))) H):=by
 intro zl s σ H x y v u Q I rx ry h
 obtain⟨rfl,q⟩:=h
 cases ry
 refine isnot_none_gen (aY I q ?_)
 cases x <;> first
  | (cases rx;rfl)
  | (obtain⟨t,rfl⟩:=rx;rfl)
theorem B2.or {f:Value->Value->Sem Value}{r r':R2}(h:B2 X f r)(h':B2 X f r'):B2 X f (λx y H Q=>r x y H Q\/r' x y H Q):=by
 intro zl s σ H x y v u Q I rx ry q
 rcases q with q | q
 ·exact h zl s σ H x y v u Q I rx ry q
 ·exact h' zl s σ H x y v u Q I rx ry q
theorem j4 (b:Expr)(h:op≠.In:=by decide)(h2:op≠.NotIn:=by decide):behindInMarks op b=false:=by
 have e1:(op == CmpOp.In)=false:=by cases op <;> first | rfl | exact absurd rfl h
 have e2:(op == CmpOp.NotIn)=false:=by cases op <;> first | rfl | exact absurd rfl h2
 cases b <;> simp[behindInMarks,e1,e2]
theorem KD {r:R2}(ho:B2 X (compareOp op) r)(ha:PE X a ta)(hb:PE X b tb)(hm:behindInMarks op b=false):PE X (.Compare a [op] [b] pos) (L3 r ta tb):=by
 intro zl s σ H Q I h
 exact wpAny_Compare1 (HB ha hb I h λv u s2 x y H2 I2 rx ry q=>ho zl s2 σ H2 x y v u Q I2 rx ry q) hm
def Q9 (t:TE):TT:=fun σ H Q=>t σ H λx H'=>∃k,x=.bl k/\Q k H'
theorem KH {r:R2}(ho:B2 X (compareOp op) r)(ha:PE X a ta)(hb:PE X b tb)(hm:behindInMarks op b=false):PT X (.Compare a [op] [b] pos) (Q9 (L3 r ta tb)):=by
 intro zl s σ H Q I h
 refine wpAny_isTrue_Compare1 (AE (ha zl s σ H _ I h) λv s1 ⟨x,H1,I1,r1,q1⟩=>AE (hb zl s1 σ H1 _ I1 q1) λu s2 ⟨y,H2,I2,r2,q2⟩=>
  AE (ho zl s2 σ H2 x y v u _ I2 r1 r2 q2) λc s3 ⟨z,H3,I3,r3,k,e,q3⟩=>?_) hm
 subst e
 cases r3
 exact ip ⟨H3,I3,q3⟩
theorem mO:(sizeLine:Nat) < 2 ^ 63:=by rw[iS];decide
theorem CZ:B2 X (binaryOp .Add) (λx y H Q=>∃i j,x=.str i/\y=.str j/\i.length+j.length<=sizeLine/\Q (.str (i++j)) H):=by
 intro zl s σ H x y v u Q I rx ry h
 obtain⟨i,j,rfl,rfl,hz,q⟩:=h
 obtain⟨t,rfl⟩:=rx
 obtain⟨t',rfl⟩:=ry
 exact add_str (λt' tk=>⟨.str (i++j),H,I.tok _,⟨_,rfl⟩,q⟩) hz
theorem vals1 {x:V}(r:Vals [x] us):∃u,us=[u]/\RelV x u:=by
 cases r with
 | cons r1 r2=>cases r2;exact⟨_,rfl,r1⟩
theorem vals2 {x y:V}(r:Vals [x,y] us):∃u w',us=[u,w']/\RelV x u/\RelV y w':=by
 cases r with
 | cons r1 r2=>
  cases r2 with
  | cons r3 r4=>cases r4;exact⟨_,_,rfl,r1,r3⟩
theorem Fv (hc:X.calm=true):AW X (.builtin "min") (λxs H Q=>∃i j,xs=[.int i,.int j]/\Q (.int (if j < i then j else i)) H):=by
 intro zl s σ H xs us Q I r h
 obtain⟨i,j,rfl,q⟩:=h
 obtain⟨u,w',rfl,⟨t,rfl⟩,⟨t',rfl⟩⟩:=vals2 r
 refine min_two_ints (I.ok.hd hc) λh' tk k=>⟨_,H,I.kept k,?_,q⟩
 by_cases hj:j < i
 ·rw[bb hj,bb hj];exact⟨_,rfl⟩
 ·rw[ay hj,ay hj];exact⟨_,rfl⟩
end
structure IQ (h:Heap)(x dx C:Addr)(mA:Str->Option Value):Prop where
 obj:h.get? x=some (W.instObj C dx)
 ns:h.Ns1 dx mA
 ne:dx≠x
theorem Fw {dx:Addr}{mA:Str->Option Value}(n:h.Ns1 dx mA):∃od,h.get? dx=some od/\∀name,W.lookIn name od=some (mA name):=by
 obtain⟨o,es,ep,ho,hd,hk,_,hm⟩:=n
 refine⟨o,ho,λname=>?_⟩
 have e:=hm name
 unfold nsFind findBy at e
 rw[← Array.find?_toList] at e
 unfold W.lookIn
 rw[hd]
 dsimp only
 split
 ·rename_i y q
  rw[q] at e
  exact d5 some e
 ·rename_i q
  rw[q] at e
  have a:es.toList.any (·.refKey)=false:=by
   rw[kM]
   intro y hy
   obtain⟨z,t,Tb⟩:=hk y (Array.mem_toList_iff.mp hy)
   simp[DictEntry.refKey,Tb]
  have a':¬ es.toList.any (·.refKey)=true:=by rw[a];exact ba
  rw[ay a']
  exact d5 some e
theorem IQ.look {x dx C:Addr}{mA:Str->Option Value}(I:IQ h x dx C mA):∃od,W.InstAt h x (W.instObj C dx) C (some od)/\∀name,W.lookIn name od=some (mA name):=
 let ⟨od,ho,hl⟩:=Fw I.ns
 ⟨od,⟨I.obj,rfl,rfl,ho⟩,hl⟩
variable {kw:List (Str×Value)}
section
variable {prog:Program}{w:World}{A:Around}{E:oT}{s:Shared}{K:W.Frag}{x dx C f:Addr}{mA:Str->Option Value}{name:Str}{v:Value}
theorem KJ {expr:Bool}{Q:oT}(X:K.In s.heap)(I:IQ s.heap x dx C mA)(hg:W.plainGet K C name=true)(hh:W.hasDictIn K C=true)
  (ha:W.findIn K (.ref C) name=some none) (hv:mA name=some v) (OB:W.handedIn v=true) (h:Q v { s with toks:=s.toks+1 }):
  wpAny (model prog w) A (getAttr (.ref x) name expr) Q E s:=by
 obtain⟨od,J,hl⟩:=I.look
 exact W.get_value X J (l6 hg).1 (W.findObj_own hh ha rfl (by rw[hl,hv])) OB h
theorem HF {pl:Sem Bool}{Q:Value×List Value->Shared->Prop}(X:K.In s.heap)(I:IQ s.heap x dx C mA)(hg:W.plainGet K C name=true)
  (hf:W.findIn K (.ref C) name=some (some (.ref f))) (ht:W.isFn K (.ref f)=true) (hv:mA name=none) (h:Q (.ref f,[.ref x]) s):
  wpAny (model prog w) A (getMethod (.ref x) name pl) Q E s:=by
 obtain⟨od,J,hl⟩:=I.look
 exact W.method_fn X J (l6 hg).1 (l6 hg).2 hf (iE.mp ht) (by show (W.lookIn name od).map (·.isSome)=some false;rw[hl,hv];rfl) h
theorem KN {ns:qq}(X:K.In s.heap)(I:IQ s.heap x dx C mA)
  (hs:W.findIn K (.ref C) "__setattr__" = some (some (.builtin "object.__setattr__"))) (hp:W.plainOver K C=true) (ht:W.takerIn K C name=some none) (hh:W.hasDictIn K C=true)
  (hw:PySem.Within mA ns) (hsz:ns.length<=sizeLine)
  (h:∀h',IQ h' x dx C (λy=>if y=name then some v else mA y)->Heap.SameBut dx s.heap h'->Q () { s with heap:=h',toks:=s.toks+2 }):
  wpAny (model prog w) A (setAttr (.ref x) name v) Q E s:=by
 obtain⟨od,J,hl⟩:=I.look
 refine W.set_plain X J hs (W.osa_open (s:={ s with toks:=s.toks+1 }) (r:=none) X J hp ht λb=>?_)
 obtain⟨cd,hc,SR⟩:=W.any_some hh
 have hx:s.heap.get? x=some ⟨.ref C,some dx,.plain,#[]⟩:=I.obj
 refine ab (ae (ab (ab (wpAny_loadPart hx (ab (W.Looks.here (s:={ s with toks:=s.toks+1 }) (W.looks_clsIn X hc) ?_))))))
 rw[SR]
 refine ae (a:=some dx) (ab (ae (ab ?_)))
 refine wpAny_nsSet1 (s:={ s with toks:=s.toks+1 }) I.ns λh' Xn DE=>?_
 obtain⟨oD,esD,epD,hoD,hdD,hcD⟩:=Xn.count (PySem.Within.cons name v hw)
 refine ab (wpAny_lookBehind hoD (by rw[hdD];exact pastItsLine_dict (dn hcD (by rw[bv];omega))) ?_)
 exact ae (h _ ⟨(DE.2 _ (fe I.ne)).trans I.obj,Xn,I.ne⟩ DE)
theorem HH {R:Result->Shared->Prop}{vs:qh}(X:K.In s.heap)(hm:W.makesIn K C=true)
  (hi:W.findIn K (.ref C) "__init__" = some (some (.ref f))) (hf:W.typeIn K (.ref f)=some (.type "function"))
  (h:codeAny (model prog w) (A.under (.builtin "type.__call__" ⟨.ref C::vs,kw⟩)) (.call (.ref f) ⟨.ref (s.heap.objs.size+1)::vs,kw⟩) (W.InitBack (s.heap.objs.size+1) R)
   { s with heap:=(s.heap.push W.emptyDict).push (W.instObj C s.heap.objs.size) }):
  codeAny (model prog w) A (.call (.ref C) ⟨vs,kw⟩) R s:=by
 obtain⟨hh,g,d,t,os⟩:=s
 exact W.make_core (W.makes_of X hm) (W.looks_findIn X hi) (λself=>W.bind_fn X self hf) (.inl rfl) h
end
noncomputable def bW (f:Str)(v:V):List (Str×V)->List (Str×V)
 | []=>[(f,v)]
 | (g,x)::r=>if g=f then (g,v)::r else (g,x)::bW f v r
theorem rC (f g:Str)(v:V):∀fs:List (Str×V),(bW f v fs).lookup g=if g=f then some v else fs.lookup g
 | []=>by
  show List.lookup g [(f,v)]=_
  by_cases h:g=f
  ·have hb:(g == f)=true:=iE.mpr h
   simp only[List.lookup,hb,bb h]
  ·have hb:(g == f)=false:=eR.mpr h
   simp only[List.lookup,hb,ay h]
 | (k,x)::r=>by
  have ih:=rC f g v r
  rw[show bW f v ((k,x)::r)=(if k=f then (k,v)::r else (k,x)::bW f v r) from rfl]
  by_cases hk:k=f
  ·rw[bb hk]
   by_cases h:g=k
   ·have hb:(g == k)=true:=iE.mpr h
    simp only[List.lookup,hb,bb (h.trans hk)]
   ·have hb:(g == k)=false:=eR.mpr h
    simp only[List.lookup,hb,ay (λe:g=f=>h (e.trans hk.symm))]
  ·rw[ay hk]
   by_cases h:g=k
   ·have hb:(g == k)=true:=iE.mpr h
    simp only[List.lookup,hb,ay (λe:g=f=>hk (h.symm.trans e))]
   ·have hb:(g == k)=false:=eR.mpr h
    simp only[List.lookup,hb]
    exact ih
theorem pQ (f:Str)(v:V):∀fs:List (Str×V),f∈(bW f v fs).map (·.1)/\∀g,g∈fs.map (·.1)->g∈(bW f v fs).map (·.1)
 | []=>⟨by simp[bW],λg h=>by simp at h⟩
 | (k,x)::r=>by
  obtain⟨i1,i2⟩:=pQ f v r
  rw[show bW f v ((k,x)::r)=(if k=f then (k,v)::r else (k,x)::bW f v r) from rfl]
  by_cases hk:k=f
  ·rw[bb hk]
   subst hk
   exact⟨by simp,λg h=>by simpa using h⟩
  ·rw[ay hk]
   refine⟨?_,λg h=>?_⟩
   ·rw[a0]
    exact am _ i1
   ·rw[a0] at h ⊢
    rcases be.mp h with e | e
    ·exact be.mpr (.inl e)
    ·exact am _ (i2 g e)
theorem rE (f:Str)(v:V):∀fs:List (Str×V),(bW f v fs).length<=fs.length+1
 | []=>by simp[bW]
 | (k,x)::r=>by
  have ih:=rE f v r
  rw[show bW f v ((k,x)::r)=(if k=f then (k,v)::r else (k,x)::bW f v r) from rfl]
  by_cases hk:k=f
  ·rw[bb hk,bv,bv];omega
  ·rw[ay hk,bv,bv];omega
theorem CF.some_of {v:V}{o:Option Value}(r:CF (some v) o):∃u,o=some u/\RelV v u:=by
 cases o with
 | none=>exact(show False from r).elim
 | some u=>exact⟨u,rfl,r⟩
theorem CF.none_of {o:Option Value}(r:CF none o):o=none:=by
 cases o with
 | none=>rfl
 | some u=>exact(show False from r).elim
theorem Fx {v:V}(r:RelV v u):W.handedIn u=true:=by
 cases v with
 | zD=>cases (show u=Value.none from r);rfl
 | bl b=>cases (show u=Value.bool b from r);rfl
 | int i=>obtain⟨t,e⟩:=(show ∃t,u=Value.int i t from r);cases e;rfl
 | str x=>obtain⟨t,e⟩:=(show ∃t,u=Value.str x t from r);cases e;rfl
 | LL b=>obtain⟨t,e⟩:=(show ∃t,u=Value.bytes b t from r);cases e;rfl
 | SU b=>obtain⟨t,e⟩:=(show ∃t,u=Value.float b t from r);cases e;rfl
 | ref a=>cases (show u=Value.ref a from r);rfl
 | ty n=>cases (show u=Value.type n from r);rfl
section
variable {P:Program}{w:World}{H H':Hp}{h h':Heap}{a C dx:Addr}{fs fs':List (Str×V)}
theorem qK (Au:CI P w K H h)(e:H a=some (.ins C dx fs)):∃mA,IQ h a dx C mA/\(∀f,CF (fs.lookup f) (mA f))/\PySem.Within mA (fs.map (·.1))/\fs.length<=1000/\H dx=some (.own a):=by
 obtain⟨d,z,ne,ob,mA,n,r,q⟩:=(show Ap P w K H h a (.ins C dx fs) from Au a _ e)
 exact⟨mA,⟨ob,n,ne⟩,r,q,z,d⟩
end
structure II (K:W.Frag)(C:Addr):Prop where
 pg:W.plainGet K C Str.empty=true
 hd:W.hasDictIn K C=true
 po:W.plainOver K C=true
 sa:W.findIn K (.ref C) "__setattr__" = some (some (.builtin "object.__setattr__"))
theorem II.get {C:Addr}(c:II K C)(f:Str):W.plainGet K C f=true:=c.pg
def AO (K:W.Frag)(C:Addr)(f:Str):Prop:=W.findIn K (.ref C) f=some none
theorem AO.VA {C:Addr}{f:Str}(n:AO K C f):W.takerIn K C f=some none:=by
 unfold W.takerIn
 rw[show W.findIn K (.ref C) f=some none from n]
 rfl
structure Meth (K:W.Frag)(C:Addr)(m:Str)(f:Addr):Prop where
 at_:W.findIn K (.ref C) m=some (some (.ref f))
 fn:W.isFn K (.ref f)=true
 kp:W.keepIn K (.ref f)=true
section
variable {X:Cx}{zl:qc}{σ:St}{H:Hp}{s:Shared}{a C dx:Addr}{fs:List (Str×V)}{f:Str}{v:V}{A:Around}{E:oT}
theorem C_ {b:Bool}{Q:oT}(I:Inv X zl σ H s)(e:H a=some (.ins C dx fs))(c:II X.K C)(n:AO X.K C f)(l:fs.lookup f=some v)
  (h:∀u s',Inv X zl σ H s'->RelV v u->Q u s'):wpAny (model X.prog X.w) A (getAttr (.ref a) f b) Q E s:=by
 obtain⟨mA,O,r,_,_,_⟩:=qK I.Au e
 obtain⟨u,hu,ru⟩:=CF.some_of (v:=v) (o:=mA f) (by rw[← l];exact r f)
 exact KJ I.B1 O (c.get f) c.hd n hu (Fx ru) (h u _ (I.tok _) ru)
theorem Dc {m:Str}{g:Addr}{pl:Sem Bool}{Q:Value×List Value->Shared->Prop}(I:Inv X zl σ H s)(e:H a=some (.ins C dx fs))(c:II X.K C)(k:Meth X.K C m g)(l:fs.lookup m=none)
  (h:Q (.ref g,[.ref a]) s):wpAny (model X.prog X.w) A (getMethod (.ref a) m pl) Q E s:=by
 obtain⟨mA,O,r,_,_,_⟩:=qK I.Au e
 have hn:mA m=none:=CF.none_of (by rw[← l];exact r m)
 exact HF I.B1 O (c.get m) k.at_ k.fn hn h
theorem Dd {y:V}(I:Inv X zl σ H s)(e:H a=some (.ins C dx fs))(c:II X.K C)(n:AO X.K C f)(hl:fs.length < 1000)(ry:RelV y u)
  (h:∀s',Inv X zl σ (upd H a (.ins C dx (bW f y fs))) s'->Q () s'):wpAny (model X.prog X.w) A (setAttr (.ref a) f u) Q E s:=by
 obtain⟨mA,O,r,wi,_,ho⟩:=qK I.Au e
 have hz:(fs.map (·.1)).length<=sizeLine:=by rw[aI,iS];omega
 refine KN I.B1 O c.sa c.po n.VA c.hd wi hz λh' O' sb=>h _ ?_
 have hd:∃o,h'.get? dx=some o:=let ⟨o,_,_,e',_⟩:=O'.ns;⟨o,e'⟩
 refine I.write (x:=a) (e:=dx) (by rw[e];exact fz) (.inr ho) (λb q hb z=>(sb.2 b hb).trans z) hd ?_
 refine⟨by rw[ao O.ne];exact ho,?_,O.ne,O'.obj,_,O'.ns,λg=>?_,λg hg=>?_⟩
 ·have:=rE f y fs;omega
 ·show CF ((bW f y fs).lookup g) (if g=f then some u else mA g)
  rw[rC]
  by_cases q:g=f
  ·rw[bb q,bb q];exact ry
  ·rw[ay q,ay q];exact r g
 ·by_cases q:g=f
  ·rw[q];exact(pQ f y fs).1
  ·refine(pQ f y fs).2 g (wi g λz=>hg ?_)
   show (if g=f then some u else mA g)=none
   rw[ay q];exact z
theorem Inv.made (I:Inv X zl σ H s):Inv X zl σ (upd (upd H s.heap.objs.size (.own (s.heap.objs.size+1))) (s.heap.objs.size+1) (.ins C s.heap.objs.size []))
  { s with heap:=(s.heap.push W.emptyDict).push (W.instObj C s.heap.objs.size) }:=by
 have e1:(s.heap.push W.emptyDict).get? s.heap.objs.size=some W.emptyDict:=al s.heap rfl
 have e2:((s.heap.push W.emptyDict).push (W.instObj C s.heap.objs.size)).get? (s.heap.objs.size+1)=some (W.instObj C s.heap.objs.size):=by
  have:=al (s.heap.push W.emptyDict) (o:=W.instObj C s.heap.objs.size) rfl
  rwa [cy] at this
 have e3:(s.heap.push W.emptyDict).Ns s.heap.objs.size (λ_=>none):=⟨W.emptyDict,#[],_,e1,rfl,(λe he=>absurd he (by simp)),λ_=>rfl⟩
 have I1:=I.laid (a:=s.heap.objs.size) (o:=.own (s.heap.objs.size+1)) (h':=s.heap.push W.emptyDict) (t':=s.toks) (λb u q=>ac _ q) (aw _) ⟨_,e1⟩
 refine I1.laid (a:=s.heap.objs.size+1) (o:=.ins C s.heap.objs.size []) (t':=s.toks) (λb u q=>ac _ q) (Nat.le_of_eq (cy _ _)) ?_
 have ne:s.heap.objs.size≠s.heap.objs.size+1:=bd (gp _)
 refine⟨by rw[ao ne,aA],cb _,ne,e2,λ_=>none,(Heap.Ns1.of_empty e3).at λo q=>ac _ q,λ_=>fz,λy hy=>absurd rfl hy⟩
theorem KQ {prog:Program}{env:Env}{f:Str}{s:Shared}{Q:oT}(hb:attributeBase e f env (eval e env)=eval e env)
  (h:wpAny (model prog w) A (eval e env) (λo s₁=>wpAny (model prog w) A (getAttr o f true) Q E s₁) E s):wpAny (model prog w) A (eval (.Attribute e f pos) env) Q E s:=
 Attribute_any_ h (by rw[arm_eval_Attribute,hb])
end
def iM (K:W.Frag)(ta:TE)(f:Str):TE:=fun σ H Q=>ta σ H λx H1=>∃a C dx fs v,x=.ref a/\H1 a=some (.ins C dx fs)/\II K C/\AO K C f/\fs.lookup f=some v/\Q v H1
def pR (K:W.Frag)(ta tv:TE)(f:Str):TS:=λD σ H=>tv σ H λy H1=>ta σ H1 λx H2=>∃a C dx fs,x=.ref a/\H2 a=some (.ins C dx fs)/\II K C/\AO K C f/\fs.length < 1000 /\
 D.nx σ (upd H2 a (.ins C dx (bW f y fs)))
section
variable {X:Cx}{o e value:Expr}{f:Str}{pos pos' tpos:Pos}{ta tv:TE}
theorem Fy (he:PE X e ta)(hb:attributeBase e f X.env (eval e X.env)=eval e X.env):PE X (.Attribute e f pos) (iM X.K ta f):=by
 intro zl s σ H Q I h
 refine KQ hb (AE (he zl s σ H _ I h) ?_)
 rintro u s1 ⟨x,H1,I1,rx,a,C,dx,fs,v,ex,ea,c,n,l,q⟩
 subst ex
 obtain rfl:u=Value.ref a:=rx
 exact C_ I1 ea c n l λu' s2 I2 ru=>⟨v,H1,I2,ru,q⟩
theorem mQ (ha:PE X o ta)(hv:PE X value tv)(hs:swapsWith value (some (.Attribute o f pos')) pos.line X.env=pure false):PS X (.Assign [.Attribute o f pos'] value pos) (pR X.K ta tv f):=by
 intro zl s σ H D I h
 refine plainObj_wpAny_Assign_Attribute (AE (hv zl s σ H _ I h) λu s1 ⟨y,H1,I1,ry,q⟩=>AE (ha zl s1 σ H1 _ I1 q) ?_) hs
 rintro ov s2 ⟨x,H2,I2,rx,a,C,dx,fs,ex,ea,c,n,l,q2⟩
 subst ex
 obtain rfl:ov=Value.ref a:=rx
 exact Dd I2 ea c n l ry λs3 I3=>⟨σ,_,I3,q2⟩
end
section
variable {X:Cx}{zl:qc}{σ:St}{H:Hp}{s:Shared}{A:Around}{E:oT}{Q:oT}{c:Value}{b:Bool}
inductive Dx (K:W.Frag) (H:Hp):V->Value->Prop where
 | zD:Dx K H .zD (.type "NoneType")
 | bl (x:Bool):Dx K H (.bl x) (.type "bool")
 | int (i:Int):Dx K H (.int i) (.type "int")
 | str (x:Str):Dx K H (.str x) (.type "str")
 | SU (x:UInt64):Dx K H (.SU x) (.type "float")
 | lst {a:Addr}{xs:List V}(e:H a=some (.lst xs)):Dx K H (.ref a) (.type "list")
 | frz {a:Addr}{o:Obj}{xs:List V}(e:H a=some (.frz o (.lst xs))):Dx K H (.ref a) (.type "list")
 | tup {a:Addr}{xs:List V}(e:H a=some (.tup xs)):Dx K H (.ref a) (.type "tuple")
 | B6 {a:Addr}{xs:List V}(e:EN K a xs):Dx K H (.ref a) (.type "tuple")
 | dK {a:Addr}{kvs:List (Key×V)}(e:H a=some (.dK kvs)):Dx K H (.ref a) (.type "dict")
 | dT {a:Addr}{kvs:List (List zo×V)}(e:H a=some (.dT kvs)):Dx K H (.ref a) (.type "dict")
 | ins {a C dx:Addr}{fs:List (Str×V)}(e:H a=some (.ins C dx fs)) (cl:II K C) (ha:W.findIn K (.ref C) "__class__" = some (some (.builtin "object.__class__")))
   (hn:W.specialIn K (.builtin "object.__class__") "__get__" = some (some (.builtin "getset_descriptor.__get__"))) (VB:W.takesIn K (.builtin "object.__class__")=some true)
   (hm:W.mroIn K C (.type "object")=some true):Dx K H (.ref a) (.ref C)
theorem Fz {x:V}{t:Value}(I:Inv X zl σ H s)(rx:RelV x u)(ty:Dx X.K H x t)(e:W.kitOne X.K t c=some b)(h:∀tk,Q (.bool b) { s with toks:=tk }):
  wpAny (model X.prog X.w) A (call (.builtin "isinstance") [u,c]) Q E s:=by
 cases ty with
 | zD=>cases (show u=Value.none from rx);exact eJ W.kitx_none I.B1 fz e (λz=>nomatch z) h
 | bl y=>cases (show u=Value.bool y from rx);exact eJ W.kitx_bool I.B1 fz e (λz=>nomatch z) h
 | int i=>obtain⟨t,q⟩:=(show ∃t,u=Value.int i t from rx);cases q;exact eJ W.kitx_int I.B1 fz e (λz=>nomatch z) h
 | str y=>obtain⟨t,q⟩:=(show ∃t,u=Value.str y t from rx);cases q;exact eJ W.kitx_str I.B1 fz e (λz=>nomatch z) h
 | SU y=>obtain⟨t,q⟩:=(show ∃t,u=Value.float y t from rx);cases q;exact eJ W.kitx_float I.B1 fz e (λz=>nomatch z) h
 | @lst a xs ea=>
  cases (show u=Value.ref a from rx)
  obtain⟨_,_,n,_,h1⟩:=(show Ap X.prog X.w X.K H s.heap a (.lst xs) from I.Au a _ ea)
  exact eJ W.kitx_list I.B1 ⟨_,h1,rfl⟩ e (λz=>nomatch z) h
 | @frz a ob xs ea=>
  cases (show u=Value.ref a from rx)
  obtain⟨_,_,_,n,_,h1⟩:=(show Ap X.prog X.w X.K H s.heap a (.frz ob (.lst xs)) from I.Au a _ ea)
  exact eJ W.kitx_list I.B1 ⟨_,h1,rfl⟩ e (λz=>nomatch z) h
 | @tup a xs ea=>
  cases (show u=Value.ref a from rx)
  obtain⟨_,_,_,p⟩:=(show Ap X.prog X.w X.K H s.heap a (.tup xs) from I.Au a _ ea)
  obtain⟨o,h1,h2,_⟩:=p
  exact eJ W.kitx_tuple I.B1 ⟨o,h1,h2⟩ e (λz=>nomatch z) h
 | @B6 a xs e1=>
  cases (show u=Value.ref _ from rx)
  obtain⟨o,zw,n,g1,g2,g3,_⟩:=e1
  exact eJ W.kitx_tuple I.B1 ⟨o,I.B1 _ o g1,g2⟩ e (λz=>nomatch z) h
 | @dK a kvs ea=>
  cases (show u=Value.ref a from rx)
  obtain⟨_,_,vs,_,p⟩:=(show Ap X.prog X.w X.K H s.heap a (.dK kvs) from I.Au a _ ea)
  obtain⟨o,es,ep,h1,h2,_⟩:=p
  exact eJ W.kitx_dict I.B1 ⟨o,h1,h2.1⟩ e (λz=>nomatch z) h
 | @dT a kvs ea=>
  cases (show u=Value.ref a from rx)
  obtain⟨_,_,xs,_,o,es,ep,h1,h2,_⟩:=(show Ap X.prog X.w X.K H s.heap a (.dT kvs) from I.Au a _ ea)
  exact eJ W.kitx_dict I.B1 ⟨o,h1,h2.1⟩ e (λz=>nomatch z) h
 | @ins a C dx fs ea cl ha hn VB hm=>
  cases (show u=Value.ref a from rx)
  obtain⟨mA,O,_⟩:=qK I.Au ea
  obtain⟨od,J,_⟩:=O.look
  exact eJ (W.kitx_own (cl.get _) cl.hd ha hn VB hm) I.B1 J e (λz=>nomatch z) h
end
structure AN (k:Nat)(A:Around):Prop where
 hd:A.handled=none
 dp:A.depth+3*k+5 < recursionLimit
 un:A.units+16*k+200 < cLine
theorem AN.mono {j k:Nat}(r:AN k A)(h:j<=k):AN j A:=⟨r.hd,by have:=r.dp;omega,by have:=r.un;omega⟩
theorem AN.deeper {k:Nat}{A:Around}(r:AN (k+1) A)(env:Env):AN k (A.deeper env):=
 ⟨r.hd,by have:=r.dp;show A.depth+1+3*k+5 < _;omega,by have:=r.un;show A.units+3+16*k+200 < _;omega⟩
theorem De {C:Addr}:(A.under (.builtin "type.__call__" ⟨.ref C::us,kw⟩)).depth=A.depth+1:=by
 first | rfl | simp[Around.under,Code.weight,Code.isCreation,Code.isGuard,Code.isCaller,Code.frames,Code.isFrame,guardIds]
theorem Df {C:Addr}:(A.under (.builtin "type.__call__" ⟨.ref C::us,kw⟩)).units=A.units+1:=by
 first | rfl | simp[Around.under,Code.cUnits,Code.frames,Code.isFrame]
theorem AN.make {k:Nat}(r:AN (k+1) A)(C:Addr)(us:qh)(kw:List (Str×Value)):AN k (A.under (.builtin "type.__call__" ⟨.ref C::us,kw⟩)):=
 ⟨r.hd,by have:=r.dp;rw[De];omega,by have:=r.un;rw[Df];omega⟩
theorem AN.depth {k:Nat}{A:Around}(r:AN k A):A.depth < recursionLimit:=by have:=r.dp;omega
theorem AN.units {k:Nat}{A:Around}(r:AN k A):A.units+64 < cLine:=by have:=r.un;omega
def bh:TA:=λ_ H Q=>Q [] H
def aM (ta:TE)(tr:TA):TA:=fun σ H Q=>ta σ H λx H1=>tr σ H1 λxs H2=>Q (x::xs) H2
section
variable {X:Cx}{e:Expr}{es:qo}{te:TE}{t:TA}{pos:Pos}
theorem aL:PA X [] bh:=λ_ _ _ _ H Q I h=>js ⟨[],H,I,.nil,h⟩
theorem aB (ha:PE X e te)(hr:PA X es t)(hs:starEach (e::es) X.env=(false,eval e X.env)::starEach es X.env:=by rfl):PA X (e::es) (aM te t):=by
 intro pos zl s σ H Q I h
 rw[hs]
 show wpAny _ _ (spliced ((false,eval e X.env)::backTo pos (starEach es X.env))) _ _ s
 refine hV (AE (ha zl s σ H _ I h) ?_)
 rintro u s1 ⟨x,H1,I1,r1,q1⟩
 exact AE (hr pos zl s1 σ H1 _ I1 q1) λus s2 ⟨xs,H2,I2,r2,q2⟩=>⟨x::xs,H2,I2,.cons r1 r2,q2⟩
def yF (t:TA):TE:=fun σ H Q=>t σ H λxs H1=>xs.length<=sizeLine/\∀p,H1 p=none->Q (.ref p) (upd H1 p (.tup xs))
def vA (t:TA):TE:=fun σ H Q=>t σ H λxs H1=>xs.length<=sizeLine/\∀p,H1 p=none->Q (.ref p) (upd H1 p (.lst xs))
theorem pU {x1}(h:PA X es t):PE X (.Tuple es x1 pos) (yF t):=by
 intro zl s σ H Q I hq
 refine wpAny_Tuple_spliced (AE (h pos zl s σ H _ I hq) λus s1 ⟨xs,H1,I1,r,z,q⟩=>⟨by rw[← r.length];exact z,?_⟩)
 have hf:H1 s1.heap.objs.size=none:=I1.Au.fresh (aw _)
 refine⟨.ref s1.heap.objs.size,upd H1 s1.heap.objs.size (.tup xs),I1.laid (t':=s1.toks) (λb u e=>ac _ e) (aw _) ?_,rfl,q _ hf⟩
 exact⟨z,us,r,⟨_,al _ rfl,rfl,_,rfl,rfl⟩⟩
theorem pW (h:PA X es t):PE X (.List es pos) (vA t):=by
 intro zl s σ H Q I hq
 refine wpAny_List_spliced (AE (h pos zl s σ H _ I hq) λus s1 ⟨xs,H1,I1,r,z,q⟩=>⟨by rw[← r.length];exact z,?_⟩)
 have hf:H1 s1.heap.objs.size=none:=I1.Au.fresh (aw _)
 refine⟨.ref s1.heap.objs.size,upd H1 s1.heap.objs.size (.lst xs),I1.laid (t':=s1.toks) (λb u e=>ac _ e) (aw _) ?_,rfl,q _ hf⟩
 exact⟨z,us,0,r,al _ rfl⟩
end
abbrev Sp:=List V->Hp->VK->XK->Prop
abbrev L5:=List Env->Hp->Shared->XK->Value->Shared->Prop
structure IS (P:Program)(w:World)(K:W.Frag)(mg:Str->Option Value)(base:Heap)(A:Around)(outer:List Env)(s:Shared)(H:Hp):Prop where
 frames:A.frames=some outer
 mod:Mod K mg base
 bs:∀b o,base.get? b=some o->s.heap.get? b=some o/\H b=none
 LX:base.objs.size<=s.heap.objs.size
 EO:s.heap.FunFrames base outer
 S2:∀b∈LV outer,H b=none
 Au:CI P w K H s.heap
 bare:AllBare s.gens
def CE (outer:List Env)(P:Program)(w:World)(K:W.Frag)(H:Hp)(s:Shared)(Q:VK)(u:Value)(s':Shared):Prop:=
 ∃v H',s'.os=s.os/\AllBare s'.gens/\Un (LV outer) [] H H' s.heap s'.heap/\CI P w K H' s'.heap/\RelV v u/\Q v H'
def CR (CX:L5)(outer:List Env)(P:Program)(w:World)(K:W.Frag)(H:Hp)(s:Shared)(Q:VK)(E:XK)(r:Result)(s':Shared):Prop:=
 match r with
 | .ok (.ret u)=>CE outer P w K H s Q u s'
 | .ok _=>False
 | .error e=>CX outer H s E e s'
structure AX (P:Program)(w:World)(K:W.Frag)(mg:Str->Option Value)(base:Heap)(CX:L5)(k:Nat)(f:Addr)(fd:FuncData)(ps:qq)(sp:Sp):Prop where
 len:∀vs H Q E,sp vs H Q E->vs.length=ps.length
 run:∀(A:Around) (outer:List Env) (s:Shared) (H:Hp) (args:Args) (us:qh) (vs:List V) (Q:VK) (E:XK),AN k A->IS P w K mg base A outer s H->BindsTo s fd args (ps.zip us)->Vals vs us->sp vs H Q E->
  codeAny (model P w) A (.call (.ref f) args) (CR CX outer P w K H s Q E) s
variable {mg:Str->Option Value}
theorem AX.imp {base:Heap}{CX:L5}{k:Nat}{f:Addr}{fd:FuncData}{ps:qq}{sp sp':Sp}(F:AX P w K mg base CX k f fd ps sp)
  (h:∀vs H Q E,sp' vs H Q E->sp vs H Q E):AX P w K mg base CX k f fd ps sp':=
 ⟨λvs H Q E q=>F.len vs H Q E (h _ _ _ _ q),λA outer s H args us vs Q E hr he hb hv hs=>F.run A outer s H args us vs Q E hr he hb hv (h _ _ _ _ hs)⟩
theorem IS.make {base:Heap}{outer:List Env}(e:IS P w K mg base A outer s H)(C:Addr)(us:qh)(kw:List (Str×Value)):
  IS P w K mg base (A.under (.builtin "type.__call__" ⟨.ref C::us,kw⟩)) outer s H:=⟨by first | exact e.frames | (simpa [Around.under,Code.envs,Code.isFrame,pushEnvs] using e.frames),e.mod,e.bs,e.LX,e.EO,e.S2,e.Au,e.bare⟩
section
variable {X:Cx}{zl:qc}{σ:St}{H:Hp}{s s':Shared}
theorem Inv.VC (I:Inv X zl σ H s):IS X.prog X.w X.K X.mg X.base X.A X.stack s H:=
 ⟨I.ok.frames,I.ok.mod,I.bs,dn I.ok.LX I.sz,I.stack,I.F8,I.Au,I.bare⟩
theorem Inv.after {Q:VK}(I:Inv X zl σ H s)(h:CE X.stack X.prog X.w X.K H s Q u s'):EP X zl σ Q u s':=by
 obtain⟨v,H',os,bare,un,Au,r,q⟩:=h
 obtain⟨hh,g,d,t,os'⟩:=s'
 obtain rfl:os'=s.os:=os
 exact⟨v,H',I.call (h':=hh) (g':=g) (d':=d) (t':=t) (ch:=[]) un Au bare (λb z=>absurd z (by simp)),r,q⟩
end
def fB (sp:Sp)(GA:List V)(E:XK)(t:TA):TE:=fun σ H Q=>t σ H λvs H1=>sp (vs++GA) H1 Q E
def jO (C:Addr)(m:Str)(sp:Sp)(GA:List V)(E:XK)(ta:TE)(t:TA):TE:=fun σ H Q=>ta σ H λx H1=>∃a dx fs,x=.ref a/\H1 a=some (.ins C dx fs)/\fs.lookup m=none /\
 t σ H1 λvs H2=>sp (x::(vs++GA)) H2 Q E
def uc (C:Addr)(sp:Sp)(GA:List V)(E:XK)(t:TA):TE:=fun σ H Q=>t σ H λvs H1=>∀x dx,H1 x=none->H1 dx=none->dx≠x->
 sp (.ref x::(vs++GA)) (upd (upd H1 dx (.own x)) x (.ins C dx [])) (λv H2=>v=.zD/\Q (.ref x) H2) E
def Binds (K:W.Frag)(fd:FuncData)(ps:qq)(ds:qh):Prop:=
 ∀(s:Shared) (us:qh),K.In s.heap->(us++ds).length=ps.length->BindsTo s fd ⟨us,[]⟩ (ps.zip (us++ds))
theorem Binds.all {fd:FuncData}{ps:qq}(h:∀us:List Value,us.length=ps.length->bindArgs fd ⟨us,[]⟩=pure (ps.zip us)):Binds K fd ps []:=λs us _ hl=>by
 rw[bS] at hl ⊢
 exact .of_eq (h us hl)
def mR (CX:L5)(X:Cx)(E:XK):Prop:=∀(zl:qc) (σ:St) (H:Hp) (s:Shared) (e:Value) (s':Shared),Inv X zl σ H s->CX X.stack H s E e s'->X.xe e s'
section
variable {X:Cx}{CX:L5}{k:Nat}{f C:Addr}{fd:FuncData}{ps:qq}{sp:Sp}{GA:List V}{ds:qh}{E:XK}{x m:Str}{p pos apos:Pos}{e o:Expr}{es:qo}{ta:TE}{t:TA}
theorem yG {Q:VK}{vs:List V}(F:AX X.prog X.w X.K X.mg X.base CX k f fd ps sp)(hr:AN k X.A)(hb:Binds X.K fd ps ds)(hd:Vals GA ds)(hx:mR CX X E)
  (I:Inv X zl σ H s) (r:Vals vs us) (h:sp (vs++GA) H Q E):wpAny (model X.prog X.w) X.A (call (.ref f) us) (EP X zl σ Q) X.xe s:=by
 have r2:Vals (vs++GA) (us++ds):=r.append hd
 have hl:(us++ds).length=ps.length:=by rw[← r2.length];exact F.len _ _ _ _ h
 refine wpAny_call (l8 (F.run X.A X.stack s H ⟨us,[]⟩ (us++ds) (vs++GA) Q E hr I.VC (hb s us I.B1 hl) r2 h) λr s' hq=>?_)
 cases r with
 | error e=>exact hx zl σ H s e s' I hq
 | ok fl=>
  cases fl with
  | ret u=>exact I.after hq
  | next=>exact False.elim hq
  | brk=>exact False.elim hq
  | cont=>exact False.elim hq
theorem KR (F:AX X.prog X.w X.K X.mg X.base CX k f fd ps sp)(hr:AN k X.A)(hg:Gl X x)(hm:X.mg x=some (.ref f))(hk:W.keepIn X.K (.ref f)=true)(hb:Binds X.K fd ps ds)(hd:Vals GA ds)(hx:mR CX X E)
  (ha:PA X (e::es) t) (E5:(x == ("__debug__" : Str))=false:=by decide) (he:starEach (e::es) X.env=(false,eval e X.env)::starEach es X.env:=by rfl) (A2:(backTo pos (starEach es X.env)).any (·.1)=false:=by rfl):
  PE X (.Call (.Name x p) (e::es) [] pos) (fB sp GA E t):=by
 intro zl s σ H Q I h
 refine fA (vh I hg hm ?_ E5)
 refine kF (h₀:=X.base) I.ok.mod.D8 hk (AE (ha pos zl s σ H _ I h) λus s1 ⟨vs,H1,I1,r,q⟩=>⟨I1.B1,?_⟩) he A2
 exact yG F hr hb hd hx I1 r q
theorem Bw {pl:Sem Bool}(he:PE X o ta)(c:II X.K C)(hm:Meth X.K C m f)(F:AX X.prog X.w X.K X.mg X.base CX k f fd ps sp)(hr:AN k X.A)(hb:Binds X.K fd ps ds)(hd:Vals GA ds)(hx:mR CX X E)(ha:PA X (e::es) t)
  (D3:starEach (e::es) X.env=(false,eval e X.env)::starEach es X.env:=by rfl) (A2:(backTo pos (starEach es X.env)).any (·.1)=false:=by rfl)
  (ht:eval (.Call (.Attribute o m apos) (e::es) [] pos) X.env=(do
   let ov ← eval o X.env
   standAt apos.atName
   let (f,first) ← holding [ov] (getMethod ov m pl)
   callWith pos f first (backTo pos (starEach (e::es) X.env)) (backToKw pos (keywordEach [] X.env))):=by rfl):
  PE X (.Call (.Attribute o m apos) (e::es) [] pos) (jO C m sp GA E ta t):=by
 intro zl s σ H Q I h
 refine W.methodCall_KW (pl:=pl) (AE (he zl s σ H _ I h) ?_) ht
 rintro u s1 ⟨x,H1,I1,rx,a,dx,fs,ex,ea,l,q⟩
 subst ex
 obtain rfl:u=Value.ref a:=rx
 refine Dc I1 ea c hm l ?_
 refine kF (first:=[.ref a]) (h₀:=X.base) I.ok.mod.D8 hm.kp (AE (ha pos zl s1 σ H1 _ I1 q) λus s2 ⟨vs,H2,I2,r,q2⟩=>⟨I2.B1,?_⟩) D3 A2
 exact yG (us:=.ref a::us) (vs:=.ref a::vs) F hr hb hd hx I2 (.cons rfl r) q2
structure Mk (K:W.Frag)(C f:Addr):Prop where
 makes:W.makesIn K C=true
 init:W.findIn K (.ref C) "__init__" = some (some (.ref f))
 fn:W.isFn K (.ref f)=true
 kp:W.keepIn K (.ref C)=true
theorem HJ {Q:VK}{vs:List V}(M:Mk X.K C f)(F:AX X.prog X.w X.K X.mg X.base CX k f fd ps sp)(hr:AN (k+1) X.A)(hb:Binds X.K fd ps ds)(hd:Vals GA ds)
  (hx:mR CX X E) (I:Inv X zl σ H s) (r:Vals vs us)
  (h:∀x dx,H x=none->H dx=none->dx≠x->sp (.ref x::(vs++GA)) (upd (upd H dx (.own x)) x (.ins C dx [])) (λv H2=>v=.zD/\Q (.ref x) H2) E):
  wpAny (model X.prog X.w) X.A (call (.ref C) us) (EP X zl σ Q) X.xe s:=by
 have hq:=h (s.heap.objs.size+1) s.heap.objs.size (I.Au.fresh (gS _)) (I.Au.fresh (aw _)) (bd (gp _))
 have I2:=Inv.made (C:=C) I
 have r2:Vals (V.ref (s.heap.objs.size+1)::(vs++GA)) (Value.ref (s.heap.objs.size+1)::(us++ds)):=.cons rfl (r.append hd)
 have hl:(Value.ref (s.heap.objs.size+1)::us++ds).length=ps.length:=by
  have e:=r2.length
  rw[F.len _ _ _ _ hq] at e
  exact e.symm
 refine wpAny_call (HH (f:=f) I.B1 M.makes M.init (iE.mp M.fn) (l8 (F.run _ X.stack _ _ ⟨Value.ref (s.heap.objs.size+1)::us,[]⟩ (Value.ref (s.heap.objs.size+1)::(us++ds)) _ _ E (hr.make C us [])
  (I2.VC.make C us []) (hb _ (Value.ref (s.heap.objs.size+1)::us) I2.B1 hl) r2 hq) λr s' To=>?_))
 cases r with
 | error e=>exact hx zl σ _ _ e s' I2 To
 | ok fl=>
  cases fl with
  | ret u=>
   obtain⟨v,H',I3,rv,ev,q3⟩:=I2.after To
   subst ev
   exact⟨rv,⟨V.ref (s.heap.objs.size+1),H',I3,rfl,q3⟩⟩
  | next=>exact False.elim To
  | brk=>exact False.elim To
  | cont=>exact False.elim To
theorem KY (M:Mk X.K C f)(F:AX X.prog X.w X.K X.mg X.base CX k f fd ps sp)(hr:AN (k+1) X.A)(hg:Gl X x)(hm:X.mg x=some (.ref C))(hb:Binds X.K fd ps ds)(hd:Vals GA ds)(hx:mR CX X E)
  (ha:PA X (e::es) t) (E5:(x == ("__debug__" : Str))=false:=by decide) (he:starEach (e::es) X.env=(false,eval e X.env)::starEach es X.env:=by rfl) (A2:(backTo pos (starEach es X.env)).any (·.1)=false:=by rfl):
  PE X (.Call (.Name x p) (e::es) [] pos) (uc C sp GA E t):=by
 intro zl s σ H Q I h
 refine fA (vh I hg hm ?_ E5)
 refine kF (h₀:=X.base) I.ok.mod.D8 M.kp (AE (ha pos zl s σ H _ I h) λus s1 ⟨vs,H1,I1,r,q⟩=>⟨I1.B1,?_⟩) he A2
 exact HJ M F hr hb hd hx I1 r q
end
structure zI (N P:qq)(sc:Scope):Prop where
 kind:sc.kind=.function
 co:sc.isCoroutine=false
 gen:sc.isGenerator=false
 nd:N.Nodup
 pre:N.take P.length=P
 par:∀x∈P,sc.names.lookup x=some .local\/sc.names.lookup x=some .cell
 Ts:∀y∈sc.names,y.2≠.free
theorem wN {kindOf:Str->Option NameKind}{x:Str}:∀{binds:List (Str×Value)}{m:Str->Option Value},(∀v,(x,v)∉binds)->bindL kindOf binds m x=m x
 | [],_,_=>rfl
 | (n,v)::r,m,h=>by
  unfold bindL
  rw[wN λw hw=>h w (am _ hw)]
  split
  ·have:x≠n:=by rintro rfl;exact h v ar
   simp[this]
  ·rfl
theorem wO {kindOf:Str->Option NameKind}{x:Str}:∀{binds:List (Str×Value)}{m:Str->Option Value},(∀v,(x,v)∉binds)->bindC kindOf binds m x=m x
 | [],_,_=>rfl
 | (n,v)::r,m,h=>by
  unfold bindC
  rw[wO λw hw=>h w (am _ hw)]
  split
  ·rfl
  ·have:x≠n:=by rintro rfl;exact h v ar
   simp[this]
theorem wQ {kindOf:Str->Option NameKind}{x:Str}{v:Value}:∀{P:qq}{vs:qh}{i:Nat}{m:Str->Option Value},P.Nodup->P[i]?=some x->vs[i]?=some v->kindOf x=some .local->
  bindL kindOf (P.zip vs) m x=some v
 | [],_,_,_,_,h,_,_=>by simp at h
 | _::_,[],_,_,_,_,h,_=>by simp at h
 | p::P,w::vs,0,m,nd,h1,h2,hk=>by
  simp at h1 h2;subst h1;subst h2
  show bindL kindOf ((p,w)::P.zip vs) m p=_
  unfold bindL
  rw[wN λv hv=>(lI.mp nd).1 (oz hv).1,bb hk]
  simp
 | p::P,w::vs,i+1,m,nd,h1,h2,hk=>by
  show bindL kindOf ((p,w)::P.zip vs) m x=_
  unfold bindL
  exact wQ (i:=i) (lI.mp nd).2 (by simpa using h1) (by simpa using h2) hk
theorem wR {kindOf:Str->Option NameKind}{x:Str}{v:Value}:∀{P:qq}{vs:qh}{i:Nat}{m:Str->Option Value},P.Nodup->P[i]?=some x->vs[i]?=some v->kindOf x≠some .local->
  bindC kindOf (P.zip vs) m x=some v
 | [],_,_,_,_,h,_,_=>by simp at h
 | _::_,[],_,_,_,_,h,_=>by simp at h
 | p::P,w::vs,0,m,nd,h1,h2,hk=>by
  simp at h1 h2;subst h1;subst h2
  show bindC kindOf ((p,w)::P.zip vs) m p=_
  unfold bindC
  rw[wO λv hv=>(lI.mp nd).1 (oz hv).1,ay hk]
  simp
 | p::P,w::vs,i+1,m,nd,h1,h2,hk=>by
  show bindC kindOf ((p,w)::P.zip vs) m x=_
  unfold bindC
  exact wR (i:=i) (lI.mp nd).2 (by simpa using h1) (by simpa using h2) hk
def start (N:qq)(vs:List V):St:=vs.map some++List.replicate (N.length - vs.length) none
def rQ (CX:L5)(P:Program)(w:World)(K:W.Frag)(mg:Str->Option Value)(base:Heap)(N:qq)(qual:Str)(scope:Scope)(f:Addr)(cd:Value)(A:Around)(outer:List Env)(s:Shared)(H:Hp)(E:XK):Cx where
 prog:=P
 w:=w
 K:=K
 mg:=mg
 base:=base
 A:=A.deeper (envOfC qual scope s.heap.objs.size f cd)
 N:=N
 s₀:=s
 H₀:=H
 env:=envOfC qual scope s.heap.objs.size f cd
 outer:=outer
 stack:=envOfC qual scope s.heap.objs.size f cd::outer
 ex:=[]
 calm:=true
 fn:=λ_=>true
 pn:=[]
 xe:=λe s'=>wpAny (model P w) (A.deeper (envOfC qual scope s.heap.objs.size f cd)) (leaving (envOfC qual scope s.heap.objs.size f cd) e) (λ_ Yr=>CX outer H s E e Yr) (λe' Yr=>CX outer H s E e' Yr) s'
theorem yH {sc:Scope}{n:Nat}(h:sc.names.lookup x=some .cell):∃c,(cellsFrom n sc.names []).lookup x=some c:=by
 have q:=om sc.names n [] (.inl h)
 exact mT.mp q
theorem FJ {CX:L5}{base:Heap}{N ps:qq}{qual:Str}{scope:Scope}{f:Addr}{cd:Value}{outer:List Env}{s1:Shared}{E:XK}{vs:List V}
  (S:zI N ps scope) (hd:A.handled=none) (e0:IS P w K mg base A outer s H) (hl:vs.length=ps.length) (r:Vals vs us)
  (x:InCallC s s.heap.objs.size (bindL (envOfC qual scope s.heap.objs.size f cd).kindOf (ps.zip us) λ_=>none) (cellsFrom (s.heap.objs.size+1) scope.names []) (bindC (envOfC qual scope s.heap.objs.size f cd).kindOf (ps.zip us) λ_=>none) s1):
  Inv (rQ CX P w K mg base N qual scope f cd A outer s H E) [] (start N vs) H s1:=by
 have A2:ps.length<=N.length:=by have:=d5 List.length S.pre;rw[g9] at this;omega
 obtain⟨h1,tk,rfl,hk⟩:=x.done
 have VD:∀b:Addr,b∉(rQ CX P w K mg base N qual scope f cd A outer s H E).ex:=λb z=>absurd (show b∈([]:qv) from z) (by simp)
 refine⟨⟨e0.mod,S.kind,rfl,rfl,aw _,λy z c h1 h2=>?_,λy hy=>?_,λy c _ h=>?_,λ_=>hd,Around.frames_deeper e0.frames,.inr ⟨rfl,rfl⟩,λb z=>absurd z (VD b),e0.bs,e0.LX,λb _ _=>VD b,λb z=>absurd z (VD b),e0.EO,e0.S2⟩,
  rfl,e0.bare,Un.kept hk,⟨_,x.toInCall.ns,λi y v h1 h2 h3=>?_⟩,λy c h=>⟨_,x.cell y c h⟩,e0.Au.fresh (aw _),λy c h=>?_,λp hp=>absurd (show p∈([]:qc) from hp) (by simp),e0.Au.kept hk,?_⟩
 ·exact name_of_addr x.apart (PySem.mem_of_lookup h1) (PySem.mem_of_lookup h2)
 ·have hy:scope.names.lookup y=some .cell\/scope.names.lookup y=some .free:=hy
  rcases hy with hy | hy
  ·exact yH hy
  ·exact absurd rfl (S.Ts _ (PySem.mem_of_lookup hy))
 ·exact gv (x.above y c (PySem.mem_of_lookup h))
 ·have hi:i < vs.length:=by
   unfold start at h2
   by_cases hi:i < vs.length
   ·exact hi
   ·rw[j3 (by simpa using hi)] at h2
    rw[nI] at h2
    split at h2 <;> cases h2
  have ha:vs[i]?=some v:=by
   unfold start at h2
   rw[eC (by simpa using hi),cm] at h2
   cases e:vs[i]? with
   | none=>rw[e] at h2;cases h2
   | some a=>rw[e] at h2;cases h2;rfl
  obtain⟨u,hu,rv⟩:=r.get ha
  have hp:ps[i]?=some y:=by
   rw[← S.pre,List.getElem?_take_of_lt (by omega)];exact h1
  have BC:ps.Nodup:=by rw[← S.pre];exact S.nd.sublist (List.take_sublist _ _)
  refine⟨u,rv,?_⟩
  rcases S.par y (de hp) with k | k
  ·exact .inl ⟨k,wQ BC hp hu k⟩
  ·obtain⟨c,e⟩:=yH (n:=s.heap.objs.size+1) k
   refine .inr ⟨.inl k,c,e,?_⟩
   have q:=x.cell y c e
   rw[wR BC hp hu (by show scope.names.lookup y≠_;rw[k];decide)] at q
   exact q
 ·exact e0.Au.fresh (gv (x.above y c (PySem.mem_of_lookup h)))
 ·unfold start
  show _=N.length
  rw[bq,aI,oC]
  omega
theorem Q_ {CX:L5}{base:Heap}{k:Nat}{f:Addr}{name qual:Str}{params:Arguments}{body:qk}{scope:Scope}{dV kV doc pm CM ct oc:Value}{an od:Option Addr}
  {Q1:Array (Option Value)}{N ps:qq}{sp:Sp}(lk:K.lookup f=some ⟨oc,od,.func (W.fnOf name qual params body scope dV kV doc pm an CM ct),Q1⟩) (D0:W.codeIn K CM qual=true) (S:zI N ps scope)
  (len:∀vs H Q E,sp vs H Q E->vs.length=ps.length)
  (L6:∀(A:Around) (outer:List Env) (s:Shared) (H:Hp) (vs:List V) (Q:VK) (E:XK),AN k (A.deeper (envOfC qual scope s.heap.objs.size f CM))->sp vs H Q E->
   ∃t,EX (rQ CX P w K mg base N qual scope f CM A outer s H E) body t/\t { nx:=λ_ H'=>Q .zD H',rt:=Q } (start N vs) H):
  AX P w K mg base CX (k+1) f (W.fnOf name qual params body scope dV kV doc pm an CM ct) ps sp:=by
 refine⟨len,λA outer s H args us vs Q E hr e0 hb r Q2=>?_⟩
 have hl:=len _ _ _ _ Q2
 have KX:K.In s.heap:=e0.mod.D8.keeps λb o e=>(e0.bs b o e).1
 have lim:s.heap.NoLimit:=e0.mod.nolimit.keeps λb o e=>(e0.bs b o e).1
 have VE:∀y∈ps.zip us,scope.names.lookup y.1=some .local\/(scope.names.lookup y.1=some .cell/\((cellsFrom (s.heap.objs.size+1) scope.names []).lookup y.1).isSome=true):=by
  rintro ⟨n,v⟩ hy
  rcases S.par n (oz hy).1 with q | q
  ·exact .inl q
  ·exact .inr ⟨q,om _ _ _ (.inl q)⟩
 refine codeAny_call_function hr.depth (KX _ _ lk) rfl S.co S.gen rfl (W.codeRec_of KX D0) (hb _ _ _ _ ?_)
 refine wpAny_newFunctionEnv_cells S.kind VE λenv he s1 x=>?_
 subst he
 refine⟨lim.keeps x.toInCall.keep,codeAny_func ?_⟩
 obtain⟨t,ht,hq⟩:=L6 A outer s H vs Q E (hr.deeper _) Q2
 have I:Inv (rQ CX P w K mg base N qual scope f CM A outer s H E) [] (start N vs) H s1:=FJ S hr.hd e0 hl r x
 refine fw (ht [] s1 (start N vs) H _ I hq) (λfl s' hs=>?_) λe s' hs=>hs
 have fin:∀{σ':St}{H':Hp}{v:V}{u:Value},Inv (rQ CX P w K mg base N qual scope f CM A outer s H E) [] σ' H' s'->RelV v u->Q v H'->CE outer P w K H s Q u s':=
  λ{σ' H' v u} J rv q=>⟨v,H',J.os,J.bare,J.base,J.Au,rv,q⟩
 cases fl with
 | ret u=>
  obtain⟨v,σ',H',J,rv,q⟩:=hs
  exact fin J rv q
 | next=>
  obtain⟨σ',H',J,q⟩:=hs
  exact fin (v:=V.zD) (u:=Value.none) J rfl q
 | brk=>
  obtain⟨_,_,_,q⟩:=hs
  exact False.elim q
 | cont=>
  obtain⟨_,_,_,q⟩:=hs
  exact False.elim q
section
variable {X:Cx}{x:Str}{p pos:Pos}{e:Expr}{es:qo}{t:TA}{id T:String}{r:List V->Hp->VK->Prop}
def LM (r:List V->Hp->VK->Prop)(t:TA):TE:=fun σ H Q=>t σ H λvs H1=>r vs H1 Q
theorem dg (hc:AW X (.builtin id) r)(hg:Gl X x)(hm:X.mg x=none)(hv:bootBuiltins x=some (.builtin id))(ha:PA X (e::es) t)(hn:x ≠ "__name__" := by decide)(E5:(x == ("__debug__" : Str))=false:=by decide)
  (he:starEach (e::es) X.env=(false,eval e X.env)::starEach es X.env:=by rfl) (A2:(backTo pos (starEach es X.env)).any (·.1)=false:=by rfl):PE X (.Call (.Name x p) (e::es) [] pos) (LM r t):=by
 intro zl s σ H Q I h
 refine fA (dN I hg hm hv ?_ hn E5)
 exact PyProof.Rows.callWith_builtin1 (AE (ha pos zl s σ H _ I h) λus s1 ⟨vs,H1,I1,r1,q1⟩=>hc zl s1 σ H1 vs us Q I1 r1 q1) he A2
theorem wU (hc:AW X (.type T) r)(hg:Gl X x)(hm:X.mg x=none)(hv:bootBuiltins x=some (.type T))(ha:PA X (e::es) t)(hn:x ≠ "__name__" := by decide)(E5:(x == ("__debug__" : Str))=false:=by decide)
  (he:starEach (e::es) X.env=(false,eval e X.env)::starEach es X.env:=by rfl) (A2:(backTo pos (starEach es X.env)).any (·.1)=false:=by rfl):PE X (.Call (.Name x p) (e::es) [] pos) (LM r t):=by
 intro zl s σ H Q I h
 refine fA (dN I hg hm hv ?_ hn E5)
 exact cf (AE (ha pos zl s σ H _ I h) λus s1 ⟨vs,H1,I1,r1,q1⟩=>hc zl s1 σ H1 vs us Q I1 r1 q1) he A2
end
section
variable {κ:Type}[DecidableEq κ]
noncomputable def cA (kvs:List (κ×V))(k:κ):Option V:=(kvs.find? λkv=>decide (kv.1=k)).map (·.2)
noncomputable def putK (kvs:List (κ×V))(k:κ)(v:V):List (κ×V):=
 if (kvs.any λkv=>decide (kv.1=k))=true then kvs.map (λkv=>if kv.1=k then (kv.1,v) else kv) else kvs++[(k,v)]
theorem cJ {p:κ×V}{r:List (κ×V)}{k:κ}(e:p.1=k):cA (p::r) k=some p.2:=by simp[cA,gE,e]
theorem cL {p:κ×V}{r:List (κ×V)}{k:κ}(e:¬ p.1=k):cA (p::r) k=cA r k:=by simp[cA,gE,e]
theorem nY (k:κ):∀kvs:List (κ×V),(kvs.any λkv=>decide (kv.1=k))=(cA kvs k).isSome
 | []=>rfl
 | p::r=>by
  rw[fq]
  by_cases e:p.1=k
  ·simp only[cJ e,hU e,Bool.true_or,Option.isSome_some]
  ·rw[cL e,dv e,Bool.false_or];exact nY k r
theorem yI (k j:κ)(y:V):∀kvs:List (κ×V),cA (kvs.map λkv=>if kv.1=k then (kv.1,y) else kv) j=(cA kvs j).map λx=>if j=k then y else x
 | []=>rfl
 | p::r=>by
  have ih:=yI k j y r
  rw[a0]
  by_cases h:p.1=k
  ·rw[bb h]
   by_cases e:p.1=j
   ·rw[cJ (p:=(p.1,y)) e,cJ e,ic,bb (e.symm.trans h)]
   ·rw[cL (p:=(p.1,y)) e,cL e,ih]
  ·rw[ay h]
   by_cases e:p.1=j
   ·rw[cJ (p:=p) e,cJ e,ic,ay (λz=>h (e.trans z))]
   ·rw[cL (p:=p) e,cL e,ih]
theorem wV (k j:κ)(y:V):∀kvs:List (κ×V),cA kvs k=none->cA (kvs++[(k,y)]) j=if j=k then some y else cA kvs j
 | [],_=>by
  by_cases e:k=j
  ·rw[bb e.symm];exact cJ (p:=(k,y)) e
  ·rw[ay (λz=>e z.symm)];exact cL (p:=(k,y)) e
 | p::r,hn=>by
  rw[iF]
  have hk:¬ p.1=k:=λz=>by rw[cJ z] at hn;cases hn
  rw[cL hk] at hn
  have ih:=wV k j y r hn
  by_cases e:p.1=j
  ·rw[cJ e,cJ e,ay (λz=>hk (e.trans z))]
  ·rw[cL e,cL e,ih]
theorem yJ (kvs:List (κ×V))(k j:κ)(y:V):cA (putK kvs k y) j=if j=k then some y else cA kvs j:=by
 unfold putK
 by_cases a:(kvs.any λkv=>decide (kv.1=k))=true
 ·rw[bb a,yI]
  rw[nY] at a
  by_cases e:j=k
  ·obtain⟨x,hx⟩:=mT.mp a
   rw[bb e,e,hx,ic,bb rfl]
  ·rw[ay e]
   cases cA kvs j with
   | none=>rfl
   | some x=>rw[ic,ay e]
 ·rw[ay a]
  refine wV k j y kvs ?_
  rw[nY] at a
  cases q:cA kvs k with
  | none=>rfl
  | some x=>rw[q] at a;exact(a rfl).elim
theorem rF (kvs:List (κ×V))(k:κ)(v:V):(putK kvs k v).length<=kvs.length+1:=by
 unfold putK
 split
 ·rw[aI];omega
 ·rw[bq,bv,oB];omega
theorem CF.Ee {o:Option V}{u:Option Value}(r:CF o u):o.isSome=u.isSome:=by
 cases o with
 | none=>cases u with
  | none=>rfl
  | some _=>exact(show False from r).elim
 | some _=>cases u with
  | none=>exact(show False from r).elim
  | some _=>rfl
theorem CF.getD {o:Option V}{u:Option Value}{d:V}{d':Value}(r:CF o u)(rd:RelV d d'):RelV (o.getD d) (u.getD d'):=by
 cases o with
 | none=>cases u with
  | none=>exact rd
  | some _=>exact(show False from r).elim
 | some _=>cases u with
  | none=>exact(show False from r).elim
  | some _=>exact r
theorem KV.val {kvs:List (κ×V)}{vs:List (κ×Value)}(r:KV kvs vs)(k:κ):CF (cA kvs k) (valueAt vs k):=by
 unfold KV at r
 induction r with
 | nil=>exact fz
 | @cons p q ps qs h t ih=>
  obtain⟨h1,h2⟩:=h
  by_cases e:p.1=k
  ·have e':q.1=k:=h1.symm.trans e
   have b:valueAt (q::qs) k=some q.2:=by simp[valueAt,gE,e']
   rw[cJ e,b];exact h2
  ·have e':¬ q.1=k:=λz=>e (h1.trans z)
   have b:valueAt (q::qs) k=valueAt qs k:=by simp[valueAt,gE,e']
   rw[cL e,b];exact ih
theorem KV.any {kvs:List (κ×V)}{vs:List (κ×Value)}(r:KV kvs vs)(k:κ):(kvs.any λkv=>decide (kv.1=k))=vs.any λkv=>decide (kv.1=k):=by
 unfold KV at r
 induction r with
 | nil=>rfl
 | cons h t ih=>rw[fq,fq,ih,h.1]
theorem KV.Tx {kvs:List (κ×V)}{vs:List (κ×Value)}(r:KV kvs vs)(k:κ){y:V}(ry:RelV y u):
  KV (kvs.map λkv=>if kv.1=k then (kv.1,y) else kv) (vs.map λkv=>if kv.1=k then (kv.1,u) else kv):=by
 unfold KV at r ⊢
 induction r with
 | nil=>exact .nil
 | @cons p q ps qs h t ih=>
  rw[a0,a0]
  refine .cons ?_ ih
  obtain⟨h1,h2⟩:=h
  by_cases e:p.1=k
  ·rw[bb e,bb (h1.symm.trans e)];exact⟨h1,ry⟩
  ·rw[ay e,ay (λz=>e (h1.trans z))];exact⟨h1,h2⟩
theorem KV.put {kvs:List (κ×V)}{vs:List (κ×Value)}(r:KV kvs vs)(k:κ){y:V}(ry:RelV y u):KV (putK kvs k y) (stored vs k u):=by
 unfold putK stored
 rw[r.any k]
 by_cases e:(vs.any λkv=>decide (kv.1=k))=true
 ·rw[bb e,bb e];exact r.Tx k ry
 ·rw[ay e,ay e];exact Paired.snoc r ⟨rfl,ry⟩
theorem KV.length {kvs:List (κ×V)}{vs:List (κ×Value)}(r:KV kvs vs):kvs.length=vs.length:=iA r
end
theorem ue {k:Key}(r:RelV (kV k) u):(cY P w).is k u=true:=by
 cases k with
 | inl i=>obtain⟨t,e⟩:=(show ∃t,u=Value.int i t from r);subst e;exact Ba P w i t
 | inr x=>obtain⟨t,e⟩:=(show ∃t,u=Value.str x t from r);subst e;exact Bb P w x t
theorem yK {k:Key}(r:RelV (kV k) u):cP k u=true:=by
 cases k with
 | inl i=>obtain⟨t,e⟩:=(show ∃t,u=Value.int i t from r);subst e;exact lH (pM i t)
 | inr x=>obtain⟨t,e⟩:=(show ∃t,u=Value.str x t from r);subst e;exact lH (pN x t)
theorem lV {α β γ:Type}{F:α->β->Prop}{G:β->γ->Prop}{R:α->γ->Prop}(f:∀a b c,F a b->G b c->R a c):∀{l:List α}{m:List β}{n:List γ},Paired F l m->Paired G m n->Paired R l n
 | _,_,_,.nil,.nil=>.nil
 | _,_,_,.cons h t,.cons h' t'=>.cons (f _ _ _ h h') (lV f t t')
theorem Kc {d:Nat}{vs:List V}(kt:KB ks vs)(r:Vals vs us):Paired (B9 d h) ks us:=by
 obtain⟨x,b,rfl,rfl⟩:=kt
 cases r with
 | cons h1 t=>cases t with
  | cons h2 t=>
   cases t
   cases (show _=Value.bool b from h2)
   exact .cons (.leaf (yK (k:=.inr x) h1)) (.cons (.leaf (A_ b)) .nil)
theorem Kd {P:Program}{w:World}{K:W.Frag}{H:Hp}{h:Heap}(D8:K.In h)(ok:CI P w K H h):∀(d:Nat) (n:zo) (v:V) (u:Value),NV K H d n v->RelV v u->B9 d h n u
 | 0,n,v,u,⟨x,e,ev⟩,r=>by subst e ev;exact⟨x,rfl,yK r⟩
 | d+1,n,v,u,q,r=>by
  rcases q with ⟨x,e,ev⟩ | ⟨ns,a,vs,e,ev,ta,q⟩
  ·subst e ev;exact .inl ⟨x,rfl,yK r⟩
  ·subst e ev
   cases (show u=Value.ref a from r)
   refine .inr ⟨ns,a,rfl,rfl,?_⟩
   have fin:∀us:List Value,Vals vs us->Paired (B9 d h) ns us:=λus z=>q.elim (λp=>lV (λx y c h1 h2=>Kd D8 ok d x y c h1 h2) p z) λp=>Kc p z
   rcases ta with e | ⟨o,zw,n,e1,e2,e3,_,r⟩
   ·obtain⟨_,zw,r,o,h1,h2,n,h3,_⟩:=(show Ap P w K H h a (.tup vs) from ok a _ e)
    exact⟨o,zw.toArray,n,h1,h2,h3,by simpa using fin _ r⟩
   ·exact⟨o,zw,n,D8 a o e1,e2,e3,fin _ r⟩
theorem wW {vs:List V}(D8:K.In h)(ok:CI P w K H h)(kt:F6 K H ks vs)(r:Vals vs us):Paired (B9 2 h) ks us:=
 kt.elim (λp=>lV (λx y c h1 h2=>Kd D8 ok 2 x y c h1 h2) p r) λp=>Kc p r
abbrev KT (K:PySem.W.Frag)(H:Hp):List (List zo×V)->List (List zo×Addr×Value)->Prop:=Paired λp q=>p.1=q.1/\B5 K H q.2.1 p.1/\RelV p.2 q.2.2
variable {kvs:List (List zo×V)}{xs:List (List zo×Addr×Value)}
theorem KT.val (r:KT K H kvs xs)(k:List zo):CF (cA kvs k) ((atKey xs k).map (·.2)):=by
 induction r with
 | nil=>exact fz
 | @cons p q ps qs h t ih=>
  obtain⟨h1,_,h2⟩:=h
  by_cases e:p.1=k
  ·have e':q.1=k:=h1.symm.trans e
   have b:atKey (q::qs) k=some q.2:=by simp[atKey,gE,e']
   rw[cJ e,b];exact h2
  ·have e':¬ q.1=k:=λz=>e (h1.trans z)
   have b:atKey (q::qs) k=atKey qs k:=by simp[atKey,gE,e']
   rw[cL e,b];exact ih
theorem KT.Tx (r:KT K H kvs xs)(k:List zo){y:V}(ry:RelV y u):
  KT K H (kvs.map λkv=>if kv.1=k then (kv.1,y) else kv) (xs.map (putAt k u)):=by
 induction r with
 | nil=>exact .nil
 | @cons p q ps qs h t ih=>
  rw[a0,a0]
  refine .cons ?_ ih
  obtain⟨h1,h2,h3⟩:=h
  unfold putAt
  by_cases e:p.1=k
  ·rw[bb e,bb (h1.symm.trans e)];exact⟨h1,h2,ry⟩
  ·rw[ay e,ay (λz=>e (h1.trans z))];exact⟨h1,h2,h3⟩
theorem KT.put (r:KT K H kvs xs)(k:List zo){y:V}(hb:B5 K H b k)(ry:RelV y u):
  KT K H (putK kvs k y) (storedH xs k b u):=by
 have e:(kvs.any λkv=>decide (kv.1=k))=(atKey xs k).isSome:=by
  rw[nY,(r.val k).Ee,Option.isSome_map]
 unfold putK storedH
 rw[e]
 by_cases q:(atKey xs k).isSome=true
 ·rw[bb q,bb q];exact r.Tx k ry
 ·rw[ay q,ay q];exact Paired.snoc r ⟨rfl,hb,ry⟩
theorem KT.keeps {K:W.Frag}{H H':Hp}{kvs:List (List zo×V)}{xs:List (List zo×Addr×Value)}(r:KT K H kvs xs)(ht:∀b ys,H b=some (.tup ys)->H' b=some (.tup ys)):KT K H' kvs xs:=
 Paired.S0 r λ_ _ z=>⟨z.1,z.2.1.keeps ht,z.2.2⟩
section
variable {P:Program}{w:World}{K:W.Frag}{H:Hp}{h:Heap}{a:Addr}
theorem Ke {u:HO}(ok:CI P w K H h)(e:Rd H a u):Ap P w K H h a u:=e.ok ok
theorem nZ {kvs:List (Key×V)}(ok:CI P w K H h)(e:Rd H a (.dK kvs)):kvs.length<=sizeLine/\(a == sysModules)=false/\∃vs,KV kvs vs/\h.DictOf (cY P w) a vs:=
 show Ap P w K H h a (.dK kvs) from Ke ok e
theorem xV {kvs:List (Key×V)}(ok:CI P w K H h)(e:H a=some (.dK kvs)):kvs.length<=sizeLine/\(a == sysModules)=false/\∃vs,KV kvs vs/\h.DictOf (cY P w) a vs:=nZ ok (.inl e)
theorem Od (D8:K.In h)(ok:CI P w K H h)(e:Nt K H a ks):(cR P w).is h ks a:=by
 obtain⟨vs,e,kt⟩:=e
 obtain⟨_,zw,r,o,h1,h2,n,h3,_⟩:=(show Ap P w K H h a (.tup vs) from ok a _ e)
 exact⟨o,zw.toArray,n,h1,h2,h3,by simpa using wW D8 ok kt r⟩
theorem iQ (D8:K.In h)(ok:CI P w K H h)(e:B5 K H a ks):(cR P w).is h ks a:=by
 rcases e with e | ⟨vs,⟨o,zw,n,e1,e2,e3,_,r⟩,kt⟩
 ·exact Od D8 ok e
 ·exact⟨o,zw,n,D8 a o e1,e2,e3,wW D8 ok kt r⟩
theorem yL (D8:K.In h)(ok:CI P w K H h)(e:Rd H a (.dT kvs)):kvs.length<=sizeLine/\(a == sysModules)=false/\∃xs,KT K H kvs xs/\AL (cR P w) h a xs:=by
 obtain⟨z,y,xs,r,o,es,ep,h1,h2,h3,h4,h5,h6⟩:=(show Ap P w K H h a (.dT kvs) from Ke ok e)
 subst h6
 refine⟨z,y,xs,r,o,es,h1,h2,h3,h4,λx hx=>?_,h5⟩
 have all:∀{l:List (List zo×V)}{m:List (List zo×Addr×Value)},KT K H l m->∀x∈m,(cR P w).is h x.1 x.2.1:=by
  intro l m q
  induction q with
  | nil=>intro x hx;exact nomatch hx
  | cons hq t ih=>
   intro x hx
   rcases be.mp hx with e | hx
   ·rw[e];exact iQ D8 ok (by rw[← hq.1];exact hq.2.1)
   ·exact ih x hx
 exact all r x hx
theorem uf (D8:K.In h)(ok:CI P w K H h)(e:Rd H a (.dT kvs)):kvs.length<=sizeLine/\(a == sysModules)=false /\
  ∃xs,KT K H kvs xs/\h.DictOfH (cR P w) a xs:=let ⟨z,y,xs,r,q⟩:=yL D8 ok e;⟨z,y,xs,r,q.of⟩
end
def A8 (K:W.Frag)(H:Hp)(a:Addr)(y:V)(r:Option V):Prop:=
 (∃kvs k,Rd H a (.dK kvs)/\y=kV k/\r=cA kvs k)\/∃kvs k b,Rd H a (.dT kvs)/\y=.ref b/\B5 K H b k/\r=cA kvs k
def E6 (K:W.Frag)(H:Hp)(a:Addr)(y v:V)(H':Hp):Prop:=
 (∃kvs k,H a=some (.dK kvs)/\y=kV k/\kvs.length < sizeLine/\H'=upd H a (.dK (putK kvs k v))) \/
 ∃kvs k b,H a=some (.dT kvs)/\y=.ref b/\B5 K H b k/\kvs.length < sizeLine/\H'=upd H a (.dT (putK kvs k v))
theorem A8.k {K:W.Frag}{H:Hp}{a:Addr}{kvs:List (Key×V)}{k:Key}(e:H a=some (.dK kvs)):A8 K H a (kV k) (cA kvs k):=.inl ⟨kvs,k,.inl e,rfl,rfl⟩
theorem A8.t {k:List zo}(e:H a=some (.dT kvs))(eb:B5 K H b k):A8 K H a (.ref b) (cA kvs k):=.inr ⟨kvs,k,b,.inl e,rfl,eb,rfl⟩
theorem E6.k {K:W.Frag}{H:Hp}{a:Addr}{kvs:List (Key×V)}{k:Key}{v:V}(e:H a=some (.dK kvs))(hl:kvs.length < sizeLine):E6 K H a (kV k) v (upd H a (.dK (putK kvs k v))):=.inl ⟨kvs,k,e,rfl,hl,rfl⟩
theorem E6.t {k:List zo}{v:V}(e:H a=some (.dT kvs))(eb:B5 K H b k)(hl:kvs.length < sizeLine):
  E6 K H a (.ref b) v (upd H a (.dT (putK kvs k v))):=.inr ⟨kvs,k,b,e,rfl,eb,hl,rfl⟩
section
variable {X:Cx}{zl:qc}{σ:St}{H:Hp}{s:Shared}{a:Addr}{y v:V}{u r:Value}{o:Option V}{A:Around}{E:oT}
theorem Inv.big (I:Inv X zl σ H s):sysModules < s.heap.objs.size:=by
 have h:mainGlobals < s.heap.objs.size:=(I.mod.glob.keeps I.bk).lt
 exact l9 (by decide) h
theorem FN {Q:oT}(hu:A.units+9 < cLine)(I:Inv X zl σ H s)(g:A8 X.K H a y (some v))(ry:RelV y u)(h:∀w' s',Inv X zl σ H s'->RelV v w'->Q w' s'):
  wpAny (model X.prog X.w) A (getItem (.ref a) u) Q E s:=by
 rcases g with ⟨kvs,k,e,ey,l⟩ | ⟨kvs,k,b,e,ey,eb,l⟩
 ·subst ey
  obtain⟨z,hd,vs,rel,dd⟩:=nZ I.Au e
  obtain⟨w',hw,HU⟩:=CF.some_of (v:=v) (o:=valueAt vs k) (by rw[l];exact rel.val k)
  exact wpAny_getItem_of (ue ry) dd.mapOf hw (h w' _ (I.tok _) HU)
 ·subst ey
  cases (show u=Value.ref b from ry)
  obtain⟨z,hd,xs,rel,dd⟩:=uf I.B1 I.Au e
  obtain⟨w',hw,HU⟩:=CF.some_of (v:=v) (o:=(atKey xs k).map (·.2)) (by rw[l];exact rel.val k)
  obtain⟨p,hp,IT⟩:=bP.mp hw
  refine wpAny_getItem_heap (CY hu) (iQ I.B1 I.Au eb) dd hp ?_
  rw[IT]
  exact h w' _ (I.tok _) HU
theorem KZ {Q:oT}(hu:A.units+9 < cLine)(I:Inv X zl σ H s)(g:A8 X.K H a y o)(ry:RelV y u)(h:∀s',Inv X zl σ H s'->Q (.bool (!o.isSome)) s'):
  wpAny (model X.prog X.w) A (compareOp .NotIn u (.ref a)) Q E s:=by
 rcases g with ⟨kvs,k,e,ey,l⟩ | ⟨kvs,k,b,e,ey,eb,l⟩
 ·subst ey
  obtain⟨z,hd,vs,rel,dd⟩:=nZ I.Au e
  refine wpAny_notIn_of (ue ry) hd dd.mapOf ?_
  rw[← (rel.val k).Ee,← l]
  exact h _ (I.tok _)
 ·subst ey
  cases (show u=Value.ref b from ry)
  obtain⟨z,hd,xs,rel,dd⟩:=uf I.B1 I.Au e
  refine wpAny_notIn_heap (CY hu) (iQ I.B1 I.Au eb) hd dd ?_
  have q:=(rel.val k).Ee
  rw[Option.isSome_map] at q
  rw[← q,← l]
  exact h _ (I.tok _)
theorem mU {h':Heap}{t':Nat}{ob:HO}(I:Inv X zl σ H s)(mu:Vv (H a))(hs:Heap.SameBut a s.heap h')(he:∃q,h'.get? a=some q)(new:Ap X.prog X.w X.K (upd H a ob) h' a ob):
  Inv X zl σ (upd H a ob) { s with heap:=h',toks:=t' }:=
 I.write (x:=a) (e:=a) mu (.inl rfl) (λb q hb z=>(hs.2 b hb).trans z) he new
theorem FP {H':Hp}{h':Heap}{kvs:List (Key×V)}{vs:List (Key×Value)}(z:kvs.length<=sizeLine)(hd:(a == sysModules)=false)(rel:KV kvs vs)(dd:h'.DictOf (cY P w) a vs):
  Ap P w K H' h' a (.dK kvs):=⟨z,hd,vs,rel,dd⟩
theorem FQ {H':Hp}(hu:A.units+9 < cLine)(I:Inv X zl σ H s)(g:E6 X.K H a y v H')(ry:RelV y u)(rv:RelV v r)(h:∀s',Inv X zl σ H' s'->Q () s'):
  wpAny (model X.prog X.w) A (setItem (.ref a) u r) Q E s:=by
 rcases g with ⟨kvs,k,e,ey,l,eH⟩ | ⟨kvs,k,b,e,ey,eb,l,eH⟩
 ·subst ey eH
  obtain⟨z,hd,vs,rel,dd⟩:=xV I.Au e
  have hz:vs.length<=sizeLine:=by rw[← rel.length];exact z
  have hl:(putK kvs k v).length<=sizeLine:=by have:=rF kvs k v;omega
  refine wpAny_setItem_pairs (hsz:=hz) (ue ry) dd λh' OU hs=>h _ ?_
  have he:∃q,h'.get? a=some q:=let ⟨q,_,_,hq,_⟩:=OU;⟨q,hq⟩
  exact mU I (by rw[e];exact fz) hs he (FP hl hd (rel.put k rv) OU)
 ·subst ey eH
  cases (show u=Value.ref b from ry)
  obtain⟨z,hd,xs,rel,dd⟩:=yL I.B1 I.Au (.inl e)
  have hz:xs.length<=sizeLine:=by rw[← iA rel];exact z
  have hl:(putK kvs k v).length<=sizeLine:=by have:=rF kvs k v;omega
  refine Hq (CY hu) (iQ I.B1 I.Au eb) dd hz λh' OU hs=>h _ ?_
  obtain⟨q,es,hq,h2,h3,h4,_,h5⟩:=OU
  refine mU I (by rw[e];exact fz) hs ⟨q,hq⟩ ⟨hl,hd,_,(rel.put k eb rv).keeps λc ys ec=>?_,q,es,_,hq,h2,h3,h4,h5,rfl⟩
  rw[ao (bR ec e (λz=>nomatch z))]
  exact ec
end
section
variable {X:Cx}{zl:qc}{σ:St}{H:Hp}{s:Shared}{a:Addr}{kvs:List (Key×V)}{k:Key}{u:Value}{A:Around}{E:oT}
theorem Ra {Q:oT}(I:Inv X zl σ H s)(e:Rd H a (.dK kvs))(h:∀t s',Inv X zl σ H s'->Q (.int kvs.length t) s'):wpAny (model X.prog X.w) A (call (.builtin "len") [.ref a]) Q E s:=by
 obtain⟨z,hd,vs,rel,dd⟩:=nZ I.Au e
 refine call_len_dict hd dd (by rw[← rel.length];rw[iS] at z;omega) ?_
 rw[← rel.length]
 exact h _ _ (I.tok _)
end
def HN (i:Expr):Prop:=∀ov iv,subscripted i false ov iv=operate [ov,iv] (getItem ov iv)
theorem K1 {prog:Program}{env:Env}{value slice:Expr}{T id:String}{Q:oT}
  (hl:typeLookup (.type T) "__getitem__" = pure (some (.builtin id))) (hs:HN slice)
  (h:wpAny (model prog w) A (eval value env) (λo s₁=>wpAny (model prog w) A (eval slice env) (λi s₂=>s₂.TypeIs o T/\wpAny (model prog w) A (getItem o i) Q E s₂) E s₁) E s):
  wpAny (model prog w) A (eval (.Subscript value slice pos) env) Q E s:=by
 refine Subscript_ (fw h (λo s₁ h₁=>fw h₁ (λi s₂ h₂=>?_) λ_ _ x=>x) λ_ _ x=>x)
 obtain⟨hT,h₂⟩:=h₂
 unfold subscriptTail
 refine ab ?_
 rw[getitemInPython_of_ne hT.not_modules]
 refine ab (e8 hT hl ?_)
 have fin:wpAny (model prog w) A (subscripted slice false o i) (λr s₃=>wpAny (model prog w) A (letTemporaryGo value o r >>= λ_=>pure r) Q E s₃) E s₂:=by
  rw[hs o i]
  exact wpAny_operating (fw h₂ (λr s₃ h₃=>ab (wpAny_letTemporaryGo (ae h₃))) λ_ _ x=>x)
 first
  | exact ae (ab fin)
  | exact ab (ae (ab fin))
  | exact ab fin
theorem Bc {X:Cx}{y:V}{o:Option V}(I:Inv X zl σ H s)(g:A8 X.K H a y o):s.TypeIs (.ref a) "dict" := by
 rcases g with ⟨kvs,k,e,_,_⟩ | ⟨kvs,k,b,e,_,_,_⟩
 ·obtain⟨_,_,vs,_,dd⟩:=nZ I.Au e
  exact dd.typeIs
 ·obtain⟨_,_,xs,_,dd⟩:=uf I.B1 I.Au e
  exact dd.typeIs
def qL (K:W.Frag)(td ty:TE):TE:=fun σ H Q=>td σ H λx H1=>ty σ H1 λy H2=>∃a v,x=.ref a/\A8 K H2 a y (some v)/\Q v H2
def iR (K:W.Frag)(ty td:TE):TE:=fun σ H Q=>ty σ H λy H1=>td σ H1 λx H2=>∃a o,x=.ref a/\A8 K H2 a y o/\Q (.bl (!o.isSome)) H2
def jP (K:W.Frag)(td ty tv:TE):TS:=λD σ H=>tv σ H λv H1=>td σ H1 λx H2=>ty σ H2 λy H3=>∃a H4,x=.ref a/\E6 K H3 a y v H4/\D.nx σ H4
section
variable {X:Cx}{o i e value:Expr}{pos pos' tpos:Pos}{td ty tv:TE}
theorem qM (hu:X.A.units+9 < cLine)(ho:PE X o td)(hi:PE X i ty)(hs:HN i):PE X (.Subscript o i pos) (qL X.K td ty):=by
 intro zl s σ H Q I h
 refine K1 PySem.F.slot_dict_getitem.lookup hs (AE (ho zl s σ H _ I h) λu s1 ⟨x,H1,I1,rx,q1⟩=>AE (hi zl s1 σ H1 _ I1 q1) ?_)
 rintro iv s2 ⟨y,H2,I2,ry,a,v,ex,g,q2⟩
 subst ex
 obtain rfl:u=Value.ref a:=rx
 exact⟨Bc I2 g,FN hu I2 g ry λw' s3 I3 HU=>⟨v,H2,I3,HU,q2⟩⟩
theorem pX (hu:X.A.units+9 < cLine)(hi:PE X i ty)(ho:PE X o td):PC X .NotIn i o (iR X.K ty td):=by
 intro zl s σ H Q I h
 refine AE (hi zl s σ H _ I h) λiv s1 ⟨y,H1,I1,ry,q1⟩=>AE (ho zl s1 σ H1 _ I1 q1) ?_
 rintro u s2 ⟨x,H2,I2,rx,a,ov,ex,g,q2⟩
 subst ex
 obtain rfl:u=Value.ref a:=rx
 exact KZ hu I2 g ry λs3 I3=>⟨.bl (!ov.isSome),H2,I3,rfl,q2⟩
theorem mV (hu:X.A.units+9 < cLine)(ho:PE X o td)(hi:PE X i ty)(hv:PE X value tv)(hs:swapsWith value (some (.Subscript o i pos')) pos.line X.env=pure false):
  PS X (.Assign [.Subscript o i pos'] value pos) (jP X.K td ty tv):=by
 intro zl s σ H D I h
 refine wpAny_Assign_Subscript (AE (hv zl s σ H _ I h) λr s1 ⟨v,H1,I1,rv,q1⟩=>AE (ho zl s1 σ H1 _ I1 q1) λu s2 ⟨x,H2,I2,rx,q2⟩=>AE (hi zl s2 σ H2 _ I2 q2) ?_) hs
 rintro iv s3 ⟨y,H3,I3,ry,a,H4,ex,g,q3⟩
 subst ex
 obtain rfl:u=Value.ref a:=rx
 exact FQ hu I3 g ry rv λs4 I4=>⟨σ,H4,I4,q3⟩
end
theorem yM (h:Heap)(hb:sysModules < h.objs.size):Ap P w K H (h.push { cls:=.type "dict",data:=.dict #[] }) h.objs.size (.dK []):=
 ⟨cb _,eR.mpr (fe (bd hb)),[],.nil,Heap.DictOf.new h⟩
theorem yN (h:Heap)(hb:sysModules < h.objs.size):Ap P w K H (h.push { cls:=.type "dict",data:=.dict #[] }) h.objs.size (.dT []):=
 ⟨cb _,eR.mpr (fe (bd hb)),[],.nil,_,#[],0,al _ rfl,⟨rfl,rfl,rfl⟩,rfl,rfl,List.nodup_nil,rfl⟩
def yO:TE:=λ_ H Q=>∀p,H p=none->Q (.ref p) (upd H p (.dK []))
def Oe:TE:=λ_ H Q=>∀p,H p=none->Q (.ref p) (upd H p (.dT []))
section
variable {X:Cx}{pos:Pos}
theorem yP:PE X (.Dict [] [] pos) yO:=λzl s σ H Q I h=>
 wpAny_Dict_empty ⟨.ref s.heap.objs.size,_,I.laid (a:=s.heap.objs.size) (o:=.dK []) (t':=s.toks) (λ_ _ q=>ac _ q) (aw _) (yM s.heap I.big),rfl,h _ (I.Au.fresh (aw _))⟩
theorem HQ:PE X (.Dict [] [] pos) Oe:=λzl s σ H Q I h=>
 wpAny_Dict_empty ⟨.ref s.heap.objs.size,_,I.laid (a:=s.heap.objs.size) (o:=.dT []) (t':=s.toks) (λ_ _ q=>ac _ q) (aw _) (yN s.heap I.big),rfl,h _ (I.Au.fresh (aw _))⟩
end
structure M1 (X:Cx)(o:Expr)(m:Str)(apos:Pos)(e:Expr)(AA:Pos):Prop where
 base:attributeBase o m X.env (eval o X.env)=eval o X.env
 TB:((backTo AA (starEach [e] X.env)).all (λx=>!x.1)&&(backToKw AA (keywordEach [] X.env)).all (λx=>x.1.isSome)
  && decide (([e]:qo).length+([]:List Keyword).length+(if ([]:List Keyword).isEmpty then 0 else 1) < 30))=true
 line:(apos.endLine == AA.line)=true
 trees:backTo AA (starEach [e] X.env)=[(false,eval e X.env)]
structure M2 (X:Cx)(o:Expr)(m:Str)(apos:Pos)(e f:Expr)(AA:Pos):Prop where
 base:attributeBase o m X.env (eval o X.env)=eval o X.env
 TB:((backTo AA (starEach [e,f] X.env)).all (λx=>!x.1)&&(backToKw AA (keywordEach [] X.env)).all (λx=>x.1.isSome)
  && decide (([e,f]:qo).length+([]:List Keyword).length+(if ([]:List Keyword).isEmpty then 0 else 1) < 30))=true
 line:(apos.endLine == AA.line)=true
 trees:backTo AA (starEach [e,f] X.env)=[(false,eval e X.env),(false,eval f X.env)]
def IsD (H:Hp)(a:Addr):Prop:=(∃kvs,Rd H a (.dK kvs))\/∃kvs,Rd H a (.dT kvs)
theorem FT {X:Cx}(I:Inv X zl σ H s)(d:IsD H a):
  s.TypeIs (.ref a) "dict" /\ (∀b,Value.ref a=.ref b->∃ob,s.heap.get? b=some ob/\ob.dict=none)/\(a == sysModules)=false:=by
 rcases d with ⟨kvs,e⟩ | ⟨kvs,e⟩
 ·obtain⟨_,hd,vs,_,dd⟩:=nZ I.Au e
  refine⟨dd.typeIs,λb q=>?_,hd⟩
  cases q
  obtain⟨ob,_,_,h1,h2,_⟩:=dd
  exact⟨ob,h1,h2.2.1⟩
 ·obtain⟨_,hd,xs,_,dd⟩:=uf I.B1 I.Au e
  refine⟨dd.typeIs,λb q=>?_,hd⟩
  cases q
  obtain⟨ob,_,_,h1,h2,_⟩:=dd
  exact⟨ob,h1,h2.2.1⟩
section
variable {X:Cx}{zl:qc}{σ:St}{H:Hp}{s:Shared}{a:Addr}{y d:V}{u r:Value}{o:Option V}{A:Around}{E:oT}
theorem Og {Q:oT}(hu:A.units+9 < cLine)(I:Inv X zl σ H s)(g:A8 X.K H a y o)(ry:RelV y u)(rd:RelV d r)(h:∀w' s',Inv X zl σ H s'->RelV (o.getD d) w'->Q w' s'):
  wpAny (model X.prog X.w) A (call (.builtin "dict.get") [.ref a,u,r]) Q E s:=by
 rcases g with ⟨kvs,k,e,ey,l⟩ | ⟨kvs,k,b,e,ey,eb,l⟩
 ·subst ey
  obtain⟨z,hd,vs,rel,dd⟩:=nZ I.Au e
  refine call_meetsIn kX dd.typeIs oq (nK _ _ _) (meets_dict_get_default (cY X.prog X.w) a (ue ry) hd r) ⟨_,dd.mapOf,h _ _ (I.tok _) ?_⟩
  rw[l]
  exact(rel.val k).getD rd
 ·subst ey
  cases (show u=Value.ref b from ry)
  obtain⟨z,hd,xs,rel,dd⟩:=uf I.B1 I.Au e
  refine call_meetsIn kX dd.typeIs oq (nK _ _ _) (meetsH_dict_get_default (cR X.prog X.w) a b hd r) ⟨CY hu,k,xs,iQ I.B1 I.Au eb,dd,h _ _ (I.tok _) ?_⟩
  rw[l]
  exact(rel.val k).getD rd
end
def yQ (K:W.Frag)(td ty tx:TE):TE:=fun σ H Q=>td σ H λx H1=>∃a,x=.ref a/\IsD H1 a/\ty σ H1 λy H2=>tx σ H2 λz H3=>∃o,A8 K H3 a y o/\Q (o.getD z) H3
section
variable {X:Cx}{o e f:Expr}{apos AA:Pos}{td ty tx:TE}
theorem rR (hu:X.A.units+9 < cLine)(ho:PE X o td)(he:PE X e ty)(hf:PE X f tx)(m:M2 X o "get" apos e f AA):PE X (.Call (.Attribute o "get" apos) [e,f] [] AA) (yQ X.K td ty tx):=by
 intro zl s σ H Q I h
 refine wpAny_Call_method m.base m.TB m.line PySem.F.plainAttrs_dict kX PySem.F.type_dict_get (AE (ho zl s σ H _ I h) ?_)
 rintro u s1 ⟨x,H1,I1,rx,a,ex,d,q1⟩
 subst ex
 obtain rfl:u=Value.ref a:=rx
 obtain⟨t1,t2,_⟩:=FT I1 d
 refine⟨t1,t2,?_⟩
 rw[m.trees]
 refine Calls.callWith_builtin rfl (Calls.evalArgs_plain (hV (AE (he zl s1 σ H1 _ I1 q1) λiv s2 ⟨y,H2,I2,ry,q2⟩=>
  hV (AE (hf zl s2 σ H2 _ I2 q2) λfv s3 ⟨z,H3,I3,rz,ov,g,q3⟩=>js ?_))))
 exact Og hu I3 g ry rz λw' s4 I4 HU=>⟨_,H3,I4,HU,q3⟩
end
end Lake.L2
namespace Lake.HT
open PySem PyProof.Rows
section
variable {prog:Program}{w:World}{A:Around}{E:oT}{s:Shared}
theorem OV {t b:Addr}{vs ws:qh}{Q:oT}(ht:IsTup s.heap t vs.toArray)(hb:IsTup s.heap b ws.toArray)(hv:vs≠[])
  (h1:ws=[]->Q (.ref t) s) (h2:ws≠[]->Q (.ref s.heap.objs.size) { s with heap:=s.heap.push { cls:=.type "tuple",data:=.seq (vs++ws).toArray } })
  (hsz:vs.length+ws.length<=sizeLine):wpAny (model prog w) A (binaryOp .Add (.ref t) (.ref b)) Q E s:=by
 obtain⟨⟨cls,dd,data,sl⟩,ho,hc,n,hd⟩:=id ht
 obtain⟨⟨VF,Rl,data2,RA⟩,LN,Ki,n2,hd2⟩:=id hb
 simp only at hc hd Ki hd2
 subst hc hd Ki hd2
 have e:vs.toArray++ws.toArray=(vs++ws).toArray:=by simp
 by_cases hw:ws=[]
 ·exact concat_meets ⟨_,ho,rfl⟩ ⟨_,LN,rfl⟩ nN pV kN kK (kq _ _)
   (tuple_addW1 t b vs.toArray ws.toArray n n2 dd Rl sl RA (by simpa using hv) (by simp[hw])) ⟨ho,LN,h1 hw⟩
 ·refine concat_meets ⟨_,ho,rfl⟩ ⟨_,LN,rfl⟩ nN pV kN kK (kq _ _)
   (tuple_addW2 t b vs.toArray ws.toArray n n2 dd Rl sl RA (by simpa using hv) (by simpa using hw) (by rw[ax,ax];exact hsz)) ⟨ho,LN,?_⟩
  rw[e]
  exact h2 hw
noncomputable def AK (n d:Nat):Option Int->Nat
 | none=>d
 | some v=>if v < 0 then (v+(n:Int)).toNat else min v.toNat n
theorem L7 (n d:Nat)(hd:d<=n)(o:Option Int):AK n d o<=n:=by
 cases o with
 | none=>exact hd
 | some v=>
  show (if v < 0 then (v+(n:Int)).toNat else min v.toNat n)<=n
  by_cases hv:v < 0
  ·rw[bb hv];omega
  ·rw[ay hv];exact Nat.min_le_right _ _
theorem Bx (v:Int)(n d:Nat):(if v < 0 then max (v+(n:Int)) 0 else min v (n:Int))=((AK n d (some v):Nat):Int):=by
 show (if v < 0 then max (v+(n:Int)) 0 else min v (n:Int))=(((if v < 0 then (v+(n:Int)).toNat else min v.toNat n):Nat):Int)
 by_cases hv:v < 0
 ·simp only[bb hv];omega
 ·simp only[ay hv];omega
theorem Dg (lo hi:Option Int)(n:Nat):Builtin.Slice.sliceAdjust lo hi 1 (n:Int)=(((AK n 0 lo:Nat):Int),((AK n n hi:Nat):Int)):=by
 have h1:¬ ((1:Int) < 0):=by omega
 unfold Builtin.Slice.sliceAdjust
 simp only[h1,fI]
 refine Prod.ext ?_ ?_
 ·cases lo with
  | none=>rfl
  | some v=>exact Bx v n 0
 ·cases hi with
  | none=>rfl
  | some v=>exact Bx v n n
theorem Dh (i j:Nat):Builtin.Slice.slicePlaces (i:Int) (j:Int) 1=j - i:=by
 unfold Builtin.Slice.slicePlaces
 have h1:(1:Int) > 0:=by omega
 simp only[h1,fR,Int.ediv_one]
 split <;> omega
theorem ug {v:Value}{o:Option Int}{Q:Option Int->Shared->Prop}(p:IsPart v o)(h:Q o s):wpAny (model prog w) A (Builtin.Slice.slicePartIndex v) Q E s:=by
 cases p with
 | none=>exact slicePart_none h
 | int i t=>exact slicePart_int h
theorem j5 {sl:Addr}{vl vu:Value}{lo hi:Option Int}{n:Nat}{Q:Int×Int×Nat->Shared->Prop}(hs:s.heap.IsSliceOf sl vl vu .none)(pl:IsPart vl lo)(pu:IsPart vu hi)
  (h:Q (((AK n 0 lo:Nat):Int),1,AK n n hi - AK n 0 lo) s):wpAny (model prog w) A (Builtin.Slice.sliceApplied (.ref sl) (pure (n:Int))) Q E s:=by
 obtain⟨os,TC,Xo,VG⟩:=id hs
 unfold Builtin.Slice.sliceApplied Builtin.Slice.sliceFields
 refine ab (ab (cw TC VG (x:=vl) rfl (ab (cw TC VG (x:=vu) rfl (ab (cw TC VG (x:=.none) rfl (ae ?_)))))))
 refine ab (slicePart_none ?_)
 show wpAny _ _ (if ((1:Int) == 0)=true then _ else _) _ _ s
 rw[ay (by decide)]
 refine ab (ug pl (ab (ug pu (ab (ae ?_)))))
 show wpAny _ _ (match Builtin.Slice.sliceAdjust lo hi 1 (n:Int) with | (lo,hi)=>pure (lo,(1:Int),Builtin.Slice.slicePlaces lo hi 1)) _ _ s
 rw[Dg lo hi n]
 show wpAny _ _ (pure (((AK n 0 lo:Nat):Int),(1:Int),Builtin.Slice.slicePlaces ((AK n 0 lo:Nat):Int) ((AK n n hi:Nat):Int) 1)) _ _ s
 rw[Dh]
 exact ae h
theorem HR (xs:qA)(i k:Nat):((List.range k).filterMap λ(m:Nat)=>xs[((i:Int)+(m:Int)*1).toNat]?).toArray=((xs.toList.drop i).take k).toArray:=by
 have e:(λ(m:Nat)=>xs[((i:Int)+(m:Int)*1).toNat]?)=λm=>xs[i+m]?:=by
  funext m
  have:((i:Int)+(m:Int)*1).toNat=i+m:=by omega
  rw[this]
 rw[e]
 have:=pick_run xs i k
 rw[List.filterMap_map] at this
 have e2:((λx=>xs[x]?)∘λx=>i+x)=λm=>xs[i+m]?:=rfl
 rw[e2] at this
 rw[this]
theorem DI {t sl:Addr}{items:qA}{vl vu:Value}{lo hi:Option Int}{Q:oT}(ht:IsTup s.heap t items)(hs:s.heap.IsSliceOf sl vl vu .none)(pl:IsPart vl lo)(pu:IsPart vu hi)
  (hw:¬ (AK items.size 0 lo=0/\AK items.size items.size hi=items.size))
  (h:Q (.ref s.heap.objs.size) { s with heap:=s.heap.push { cls:=.type "tuple",data:=.seq ((items.toList.drop (AK items.size 0 lo)).take (AK items.size items.size hi - AK items.size 0 lo)).toArray } })
  (hsz:items.size<=sizeLine):wpAny (model prog w) A (getItem (.ref t) (.ref sl)) Q E s:=by
 have Kj:sizeOk (.seq ((items.toList.drop (AK items.size 0 lo)).take (AK items.size items.size hi - AK items.size 0 lo)).toArray):=by
  show ((items.toList.drop (AK items.size 0 lo)).take (AK items.size items.size hi - AK items.size 0 lo)).toArray.size<=sizeLine
  rw[ax,g9,gs,f8]
  omega
 have hj:AK items.size items.size hi<=items.size:=L7 _ _ (aw _) hi
 obtain⟨os,TC,Xo,VG⟩:=id hs
 have Ys:s.TypeIs (.ref sl) "slice" := ⟨os,TC,Xo⟩
 unfold getItem
 try with_reducible refine dP ?_
 first | refine ab (ae ?_) | skip
 refine ab (mM ht.typeIs (by decide) ?_)
 refine ab (ci (name:=Str.ofString "__getitem__") ht.typeIs ed
  (cp ed ht.typeIs entry_tuple_getitem ?_ (args_tuple_getitem _ _)))
 show wpAny _ _ (Builtin.Tuple.tupleItemsOf (.ref t) >>= _) _ _ s
 refine ab (tupleItemsOf_ ht ?_)
 refine ab (iq Ys ?_)
 rw[bb (by decide)]
 refine ab (j5 hs pl pu ?_)
 have OC:¬ ((((AK items.size 0 lo:Nat):Int) == 0&&(1:Int) == 1&&(AK items.size items.size hi - AK items.size 0 lo) == items.size)=true):=by
  intro q
  rw[bE,bE] at q
  have q1:((AK items.size 0 lo:Nat):Int)=0:=eq_of_beq q.1.1
  have q2:AK items.size items.size hi - AK items.size 0 lo=items.size:=eq_of_beq q.2
  exact hw ⟨by omega,by omega⟩
 show wpAny _ _ (if (((AK items.size 0 lo:Nat):Int) == 0&&(1:Int) == 1&&(AK items.size items.size hi - AK items.size 0 lo) == items.size)=true then _ else _) _ _ s
 rw[ay OC,HR]
 first
  | exact ab (m:=Builtin.Tuple.tupleExact _) (b0 (ae ⟨_,rfl,ae h⟩) Kj)
  | exact ab (m:=Builtin.Tuple.tupleExact _) (b0 (ab (ae (ae ⟨_,rfl,ae h⟩))) Kj)
  | exact ab (ab (m:=Builtin.Tuple.tupleExact _) (b0 (ae (ae ⟨_,rfl,ae h⟩)) Kj))
  | exact ab (ab (m:=Builtin.Tuple.tupleExact _) (b0 (ae ⟨_,rfl,ae h⟩) Kj))
end
end Lake.HT
namespace Lake.L2
open PySem PySem.Spec PyProof.Rows
abbrev TO:=St->Hp->(Option Int->Hp->Prop)->Prop
def PO (X:Cx)(e:Option Expr)(t:TO):Prop:=
 ∀(zl:qc) (s:Shared) (σ:St) (H:Hp) (Q:Option Int->Hp->Prop),Inv X zl σ H s->t σ H Q->
  wpAny (model X.prog X.w) X.A (evalPart e X.env) (λu s'=>∃o H',Inv X zl σ H' s'/\IsPart u o/\Q o H') X.xe s
def K3:TO:=λ_ H Q=>Q none H
def Rb (t:TE):TO:=fun σ H Q=>t σ H λx H1=>∃i,x=.int i/\Q (some i) H1
variable {r:V->Option Int->Option Int->Hp->VK->Prop}
section
variable {X:Cx}{e:Expr}{te:TE}{lo hi:Option Expr}{tl th:TO}{pos p2:Pos}
theorem K4:PO X none K3:=by
 intro zl s σ H Q I h
 rw[evalPart_none]
 exact ae ⟨none,H,I,.none,h⟩
theorem K5 (h:PE X e te):PO X (some e) (Rb te):=by
 intro zl s σ H Q I hw
 rw[evalPart_some]
 refine AE (h zl s σ H _ I hw) ?_
 rintro u s1 ⟨x,H1,I1,r1,q1⟩
 obtain⟨i,rfl,q⟩:=q1
 obtain⟨t,rfl⟩:=r1
 exact⟨some i,H1,I1,.int i t,q⟩
def L8 (X:Cx)(r:V->Option Int->Option Int->Hp->VK->Prop):Prop:=
 ∀(zl:qc) (s:Shared) (σ:St) (H:Hp) (x:V) (v vl vu:Value) (lo hi:Option Int) (sl:Addr) (Q:VK),Inv X zl σ H s->RelV x v->s.heap.IsSliceOf sl vl vu .none->IsPart vl lo->IsPart vu hi->r x lo hi H Q->
  ∃T id,typeLookup (.type T) "__getitem__" = pure (some (.builtin id))/\s.TypeIs v T/\wpAny (model X.prog X.w) X.A (getItem v (.ref sl)) (EP X zl σ Q) X.xe s
theorem L8.or {r':V->Option Int->Option Int->Hp->VK->Prop}(h:L8 X r)(h':L8 X r'):L8 X (λx lo hi H Q=>r x lo hi H Q\/r' x lo hi H Q):=by
 intro zl s σ H x v vl vu lo hi sl Q I rx hs pl pu q
 rcases q with q | q
 ·exact h zl s σ H x v vl vu lo hi sl Q I rx hs pl pu q
 ·exact h' zl s σ H x v vl vu lo hi sl Q I rx hs pl pu q
def tSl (r:V->Option Int->Option Int->Hp->VK->Prop)(te:TE)(tl th:TO):TE:=fun σ H Q=>te σ H λx H1=>tl σ H1 λl H2=>th σ H2 λu H3=>r x l u H3 Q
theorem yR (hr:L8 X r)(he:PE X e te)(hl:PO X lo tl)(hu:PO X hi th):PE X (.Subscript e (.Slice lo hi none p2) pos) (tSl r te tl th):=by
 intro zl s σ H Q I h
 refine Subscript_ (AE (he zl s σ H _ I h) ?_)
 rintro v s1 ⟨x,H1,I1,r1,q1⟩
 refine wpAny_Slice (AE (hl zl s1 σ H1 _ I1 q1) λvl s2 ⟨l,H2,I2,pl,q2⟩=>AE (hu zl s2 σ H2 _ I2 q2) ?_)
 rintro vu s3 ⟨u,H3,I3,pu,q3⟩
 rw[evalPart_none]
 refine ae ?_
 have I4:Inv X zl σ H3 { s3 with heap:=s3.heap.push { cls:=.type "slice",data:=.fields #[vl,vu,.none] } }:=I3.kept (t':=s3.toks) λb ob q=>ac _ q
 obtain⟨T,id,hT,ht,hg⟩:=hr zl { s3 with heap:=s3.heap.push { cls:=.type "slice",data:=.fields #[vl,vu,.none] } } σ H3 x v vl vu l u s3.heap.objs.size Q I4 r1 (Heap.IsSliceOf.new ..) pl pu q3
 show wpAny (model X.prog X.w) X.A (subscriptTail e (.Slice lo hi none p2) v (.ref s3.heap.objs.size)) (EP X zl σ Q) X.xe { s3 with heap:=s3.heap.push { cls:=.type "slice",data:=.fields #[vl,vu,.none] } }
 exact tail_any (ops:=[.ref s3.heap.objs.size,v]) ht hT hg (by with_unfolding_all rfl)
noncomputable def pY (xs:List V)(lo hi:Option Int):List V:=(xs.drop (HT.AK xs.length 0 lo)).take (HT.AK xs.length xs.length hi - HT.AK xs.length 0 lo)
theorem rG (xs:List V)(lo hi:Option Int):(pY xs lo hi).length<=xs.length:=by
 unfold pY
 rw[g9,gs]
 omega
def Oh (K:W.Frag):V->Option Int->Option Int->Hp->VK->Prop:=λx lo hi H Q=>∃a xs,x=.ref a/\BU K H a xs /\
 ¬ (HT.AK xs.length 0 lo=0/\HT.AK xs.length xs.length hi=xs.length)/\∀p,H p=none->Q (.ref p) (upd H p (.tup (pY xs lo hi)))
theorem Oi:L8 X (Oh X.K):=by
 intro zl s σ H x v vl vu lo hi sl Q I rx hs pl pu h
 obtain⟨a,xs,rfl,hx,hw,q⟩:=h
 cases rx
 obtain⟨zw,r,ht,hz⟩:=I.tuple hx
 have hlen:zw.toArray.size=xs.length:=by rw[ax];exact r.length.symm
 refine⟨"tuple",_,ed.lookup,ht.typeIs,?_⟩
 refine HT.DI ht hs pl pu (by rw[hlen];exact hw) ?_ (by rw[hlen];exact hz)
 rw[hlen]
 refine⟨.ref s.heap.objs.size,_,I.laid (t':=s.toks) (o:=.tup (pY xs lo hi)) (λb ob q=>ac _ q) (aw _) ?_,rfl,q _ (I.Au.fresh (aw _))⟩
 exact⟨dn (rG xs lo hi) hz,_,(r.drop (HT.AK xs.length 0 lo)).take (HT.AK xs.length xs.length hi - HT.AK xs.length 0 lo),⟨_,al _ rfl,rfl,0,rfl,rfl⟩⟩
def uh (K:W.Frag):R2:=λx y H Q=>∃a b xs ys,x=.ref a/\y=.ref b/\BU K H a xs/\BU K H b ys/\xs≠[]/\xs.length+ys.length<=sizeLine /\
 (ys=[]->Q (.ref a) H)/\(ys≠[]->∀p,H p=none->Q (.ref p) (upd H p (.tup (xs++ys))))
theorem Vals.GB {xs:List V}{us:qh}(r:Vals xs us):us=[]↔xs=[]:=by
 cases r with
 | nil=>simp
 | cons _ _=>simp
theorem K6:B2 X (binaryOp .Add) (uh X.K):=by
 intro zl s σ H x y v u Q I rx ry h
 obtain⟨a,b,xs,ys,rfl,rfl,ha,hb,hx,hz,q1,q2⟩:=h
 cases rx
 cases ry
 obtain⟨zw,r1,p1,_⟩:=I.tuple ha
 obtain⟨CH,r2,p2,_⟩:=I.tuple hb
 refine HT.OV p1 p2 (λz=>hx (r1.GB.mp z)) (λz=>⟨.ref a,H,I,rfl,q1 (r2.GB.mp z)⟩) (λz=>?_) (by rw[← r1.length,← r2.length];exact hz)
 refine⟨.ref s.heap.objs.size,_,I.laid (t':=s.toks) (o:=.tup (xs++ys)) (λb ob q=>ac _ q) (aw _) ?_,rfl,q2 (λw=>z (r2.GB.mpr w)) _ (I.Au.fresh (aw _))⟩
 exact⟨by rw[bq];exact hz,_,r1.append r2,⟨_,al _ rfl,rfl,0,rfl,rfl⟩⟩
end
noncomputable def IU (n:Nat)(i:Int):Option Nat:=if 0<=i then (if i < n then some i.toNat else none) else if -(n:Int)<=i then some (i+n).toNat else none
noncomputable def BY {α:Type}(xs:List α)(i:Int):Option α:=(IU xs.length i).bind λj=>xs[j]?
theorem vB {n:Nat}{i:Int}{j:Nat}(h:IU n i=some j):seqIndex? i n=some j/\j < n/\-(n:Int)<=i/\i < n:=by
 unfold IU at h
 by_cases h0:0<=i
 ·rw[bb h0] at h
  by_cases h1:i < n
  ·rw[bb h1] at h
   have e:i.toNat=j:=bg h
   exact⟨by rw[seqIndex_of h0 h1,e],by omega,by omega,h1⟩
  ·rw[ay h1] at h;cases h
 ·rw[ay h0] at h
  by_cases h1:-(n:Int)<=i
  ·rw[bb h1] at h
   have e:(i+n).toNat=j:=bg h
   exact⟨by rw[seqIndex_neg (by omega) h1,e],by omega,h1,by omega⟩
  ·rw[ay h1] at h;cases h
theorem vC {α:Type}{xs:List α}{i:Int}{v:α}(h:BY xs i=some v):∃j,seqIndex? i xs.length=some j/\xs[j]?=some v/\j < xs.length/\-(xs.length:Int)<=i/\i < xs.length:=by
 unfold BY at h
 cases e:IU xs.length i with
 | none=>rw[e] at h;cases h
 | some j=>
  rw[e] at h
  obtain⟨h1,h2,h3,h4⟩:=vB e
  exact⟨j,h1,h,h2,h3,h4⟩
theorem K7 {α:Type}{xs:List α}{j:Nat}{v:α}(h:xs[j]?=some v):BY xs (j:Int)=some v:=by
 have hj:j < xs.length:=(af.mp h).1
 have e:IU xs.length (j:Int)=some j:=by
  unfold IU
  rw[bb (by omega),bb (by omega)];simp
 unfold BY;rw[e];exact h
def By (b:Expr):Prop:=∀o i,subscripted b false o i=operate [o,i] (getItem o i)
def L9 (X:Cx)(r:R2):Prop:=
 ∀(value slice:Expr) (zl:qc) (s:Shared) (σ:St) (H:Hp) (x y:V) (v u:Value) (Q:VK),Inv X zl σ H s->RelV x v->RelV y u->r x y H Q->
  subscripted slice false v u=operate [v,u] (getItem v u)->wpAny (model X.prog X.w) X.A (subscriptTail value slice v u) (EP X zl σ Q) X.xe s
def Xp (X:Cx)(id:String)(r:V->List V->Hp->VK->Prop):Prop:=
 ∀(zl:qc) (s:Shared) (σ:St) (H:Hp) (x:V) (xs:List V) (v:Value) (us:qh) (Q:VK),Inv X zl σ H s->RelV x v->Vals xs us->r x xs H Q->
  wpAny (model X.prog X.w) X.A (call (.builtin id) (v::us)) (EP X zl σ Q) X.xe s
section
variable {X:Cx}{a b:Expr}{ta tb:TE}{pos:Pos}
theorem L9.or {r r':R2}(h:L9 X r)(h':L9 X r'):L9 X (λx y H Q=>r x y H Q\/r' x y H Q):=by
 intro value slice zl s σ H x y v u Q I rx ry q hs
 rcases q with q | q
 ·exact h value slice zl s σ H x y v u Q I rx ry q hs
 ·exact h' value slice zl s σ H x y v u Q I rx ry q hs
theorem ul {r:R2}(hr:L9 X r)(ha:PE X a ta)(hb:PE X b tb)(hs:By b):PE X (.Subscript a b pos) (L3 r ta tb):=by
 intro zl s σ H Q I h
 exact Subscript_ (HB ha hb I h λv u s2 x y H2 I2 rx ry q=>hr a b zl s2 σ H2 x y v u Q I2 rx ry q (hs _ _))
def vD (K:W.Frag):R2:=λx y H Q=>∃p xs i v,x=.ref p/\y=.int i/\AS K H p xs/\BY xs i=some v/\Q v H
def Di (K:W.Frag):R2:=λx y H Q=>∃p xs i v,x=.ref p/\y=.int i/\BU K H p xs/\BY xs i=some v/\Q v H
def Oj:R2:=λx y H Q=>∃z i c,x=.str z/\y=.int i/\z.length<=sizeLine/\BY z.cps.toList i=some c/\Q (.str ⟨#[c]⟩) H
theorem Kk:L9 X (vD X.K):=by
 intro value slice zl s σ H x y v u Q I rx ry h hs
 obtain⟨p,xs,i,z,rfl,rfl,hq,he,q⟩:=h
 cases rx
 obtain⟨t,rfl⟩:=ry
 obtain⟨zw,r,pl,hz⟩:=I.list hq
 obtain⟨j,h1,h2,h3,h4,h5⟩:=vC he
 obtain⟨w,ew,HU⟩:=r.get h2
 have hl:=r.length
 have hn:=mO
 have fin:EP X zl σ Q w s:=⟨z,H,I,HU,q⟩
 by_cases h0:0<=i
 ·have hj:i.toNat=j:=by
   rw[seqIndex_of h0 h5] at h1
   exact bg h1
  exact item_listR pl.isList h0 (by omega) (by rw[hj];simpa using ew) fin hs
 ·have hj:(i+(zw.toArray.size:Int)).toNat=j:=by
   rw[seqIndex_neg (by omega) h4] at h1
   rw[ax,← hl]
   exact bg h1
  exact subscriptTail_builtinR (x:=w) pl.isList.typeIs slot_list_getitem.lookup
   (wpAny_getItem_list_neg (Q:=λr s'=>r=w/\EP X zl σ Q r s') pl.isList (by omega) (by rw[ax] <;> omega) (by omega) (by rw[hj];simpa using ew) ⟨rfl,fin⟩) hs
theorem Mb:L9 X (Di X.K):=by
 intro value slice zl s σ H x y v u Q I rx ry h hs
 obtain⟨p,xs,i,z,rfl,rfl,hq,he,q⟩:=h
 cases rx
 obtain⟨t,rfl⟩:=ry
 obtain⟨zw,r,pl,hz⟩:=I.tuple hq
 obtain⟨j,h1,h2,h3,h4,h5⟩:=vC he
 obtain⟨w,ew,HU⟩:=r.get h2
 have hl:=r.length
 have hn:=mO
 have fin:EP X zl σ Q w s:=⟨z,H,I,HU,q⟩
 exact subscriptTail_builtinR (x:=w) pl.typeIs slot_tuple_getitem.lookup
  (getItem_tuple (j:=j) (Q:=λr s'=>r=w/\EP X zl σ Q r s') pl (by omega) (by omega) (by rw[ax,← hl];exact h1) (by simpa using ew) ⟨rfl,fin⟩) hs
theorem Ol:L9 X Oj:=by
 intro value slice zl s σ H x y v u Q I rx ry h hs
 obtain⟨z,i,c,rfl,rfl,hz,he,q⟩:=h
 obtain⟨t,rfl⟩:=rx
 obtain⟨t',rfl⟩:=ry
 obtain⟨j,h1,h2,h3,h4,h5⟩:=vC he
 have hl:z.cps.toList.length=z.length:=by simp[Str.length]
 rw[hl] at h1 h4 h5
 have hn:=mO
 exact tail_any (typeIs_str s z t) slot_str_getitem.lookup (getItem_str (c:=c) (by
  have e1:decide (i < -(2 ^ 63:Int))=false:=dv (by omega)
  have e2:decide (i ≥ 2 ^ 63)=false:=dv (by omega)
  rw[e1,e2,Bool.or_false]) (by rw[h1];simpa using h2) ⟨.str ⟨#[c]⟩,H,I.tok _,⟨_,rfl⟩,q⟩) hs
def rIx (K:W.Frag):R2:=λx y H Q=>vD K x y H Q\/Di K x y H Q\/Oj x y H Q
theorem Om:L9 X (rIx X.K):=Kk.or (Mb.or Ol)
theorem Dj (zw:qh)(n j:Nat)(u:Value):Obj.mapSeq (·.setIfInBounds j u) { cls:=.type "list",data:=.seq zw.toArray n }={ cls:=.type "list",data:=.seq (zw.set j u).toArray n }:=by
 simp[Obj.mapSeq]
theorem Inv.lst {zl:qc}{σ:St}{H:Hp}{s:Shared}{p:Addr}{xs:List V}(I:Inv X zl σ H s)(h:H p=some (.lst xs)):
  ∃(zw:qh) (n:Nat),Vals xs zw/\s.heap.get? p=some { cls:=.type "list",data:=.seq zw.toArray n }/\xs.length<=sizeLine:=by
 obtain⟨z,zw,n,r,e⟩:=I.Au p _ h
 exact⟨zw,n,r,e,z⟩
theorem Inv.TH {zl:qc}{σ:St}{H:Hp}{s:Shared}{p:Addr}{xs ys:List V}{zw its':qh}{n n':Nat}{f:Obj->Obj}(I:Inv X zl σ H s)(h:H p=some (.lst xs))
  (ho:s.heap.get? p=some { cls:=.type "list",data:=.seq zw.toArray n }) (hf:f { cls:=.type "list",data:=.seq zw.toArray n }={ cls:=.type "list",data:=.seq its'.toArray n' }) (r:Vals ys its') (hz:ys.length<=sizeLine) (t:Nat):
  Inv X zl σ (upd H p (.lst ys)) { s with heap:=s.heap.update p f,toks:=t }:=by
 have e:(s.heap.update p f).get? p=some { cls:=.type "list",data:=.seq its'.toArray n' }:=by
  rw[cE f ho (by rw[hf] <;> rfl),hf]
 refine I.write (x:=p) (e:=p) (by rw[h];trivial) (.inl rfl) (λb u hb q=>(dc _ _ (fe hb)).trans q) ⟨_,e⟩ ?_
 exact⟨hz,its',n',r,e⟩
def Rc:V->V->V->Hp->(Hp->Prop)->Prop:=λo i v H Q=>∃p xs k j,o=.ref p/\i=.int k/\H p=some (.lst xs)/\IU xs.length k=some j/\Q (upd H p (.lst (xs.set j v)))
theorem set_list:NT X Rc:=by
 intro zl s σ H o i v ov iv u Q I ro ri rv h
 obtain⟨p,xs,k,j,rfl,rfl,hp,hj,q⟩:=h
 cases ro
 obtain⟨t,rfl⟩:=ri
 obtain⟨zw,n,r,ho,hz⟩:=I.lst hp
 obtain⟨h1,h2,h3,h4⟩:=vB hj
 have hl:=r.length
 have hn:=mO
 have I':Inv X zl σ (upd H p (.lst (xs.set j v))) { s with heap:=s.heap.update p (Obj.mapSeq (·.setIfInBounds j u)) }:=
  I.TH hp ho (Dj zw n j u) (r.set rv j) (by rw[d0];exact hz) s.toks
 by_cases h0:0<=k
 ·have hk:k.toNat=j:=by
   rw[seqIndex_of h0 h4] at h1
   exact bg h1
  exact W.ki_setAt ho h0 (by omega) (by rw[ax,← hl];exact h4) (by rw[hk];exact⟨_,I',q⟩)
 ·have hk:(k+(zw.toArray.size:Int)).toNat=j:=by
   rw[seqIndex_neg (by omega) h3] at h1
   rw[ax,← hl]
   exact bg h1
  exact W.ki_setBack ho (by omega) (by rw[ax,← hl];exact h3) (by omega) (by rw[hk];exact⟨_,I',q⟩)
theorem yS (lo hi:Option Int)(n:Nat):(sliceBounds lo hi none n).1=((HT.AK n 0 lo:Nat):Int)/\(sliceBounds lo hi none n).2.1=((HT.AK n n hi:Nat):Int)/\(sliceBounds lo hi none n).2.2=1:=by
 refine⟨?_,?_,rfl⟩
 ·cases lo with
  | none=>simp[sliceBounds,HT.AK]
  | some i=>
   simp only[sliceBounds,HT.AK,Option.getD_none,show (1:Int) > 0 by decide,fR]
   by_cases h:i < 0
   ·simp only[h,fR] <;> omega
   ·simp only[h,fI] <;> omega
 ·cases hi with
  | none=>simp[sliceBounds,HT.AK]
  | some i=>
   simp only[sliceBounds,HT.AK,Option.getD_none,show (1:Int) > 0 by decide,fR]
   by_cases h:i < 0
   ·simp only[h,fR] <;> omega
   ·simp only[h,fI] <;> omega
theorem xK (zw:qh)(lo hi:Option Int):slicePick zw.toArray lo hi none=((zw.drop (HT.AK zw.length 0 lo)).take (HT.AK zw.length zw.length hi - HT.AK zw.length 0 lo)).toArray:=by
 obtain⟨h1,h2,h3⟩:=yS lo hi zw.toArray.size
 unfold slicePick
 rw[h1,h2,h3]
 simp only[sliceRange_one,pick_run,ax] <;> rfl
def Oo (K:W.Frag):V->Option Int->Option Int->Hp->VK->Prop:=λx lo hi H Q=>∃a xs,x=.ref a/\AS K H a xs/\∀p,H p=none->Q (.ref p) (upd H p (.lst (pY xs lo hi)))
theorem OW:L8 X (Oo X.K):=by
 intro zl s σ H x v vl vu lo hi sl Q I rx hs pl pu h
 obtain⟨a,xs,rfl,hx,q⟩:=h
 cases rx
 obtain⟨zw,r,ht,hz⟩:=I.list hx
 have hlen:=r.length
 refine⟨"list",_,slot_list_getitem.lookup,ht.isList.typeIs,?_⟩
 refine wpAny_getItem_list_slice ht.isList hs pl pu .none (by simp) ?_ (by rw[ax] <;> omega)
 rw[xK,← hlen]
 refine⟨.ref s.heap.objs.size,_,I.laid (t':=s.toks) (o:=.lst (pY xs lo hi)) (λb ob q=>ac _ q) (aw _) ?_,rfl,q _ (I.Au.fresh (aw _))⟩
 exact⟨dn (rG xs lo hi) hz,_,0,(r.drop (HT.AK xs.length 0 lo)).take (HT.AK xs.length xs.length hi - HT.AK xs.length 0 lo),al _ rfl⟩
noncomputable def gW:V->Bool
 | .zD=>true
 | .bl _=>true
 | .int _=>true
 | .str _=>true
 | _=>false
noncomputable def OX:V->V->Bool
 | .zD,.zD=>true
 | .bl a,.bl b=>a == b
 | .bl a,.int b=>(if a then 1 else 0) == b
 | .int a,.bl b=>a == (if b then 1 else 0)
 | .int a,.int b=>a == b
 | .str a,.str b=>a == b
 | _,_=>false
theorem Oq {A:Around}{s:Shared}{y x:V}{u v:Value}(ry:RelV y u)(rx:RelV x v)(fy:gW y=true)(fx:gW x=true):SeqAt.EqAt A s u v (OX y x):=by
 cases y with
 | zD=>
  cases ry
  cases x with
  | zD=>cases rx;exact SeqAt.EqAt.same _
  | bl b=>cases rx;exact SeqAt.EqAt.none_bool b
  | int b=>obtain⟨t,rfl⟩:=rx;exact SeqAt.EqAt.none_int b t
  | str b=>obtain⟨t,rfl⟩:=rx;exact SeqAt.EqAt.none_str b t
  | _=>exact absurd (show false=true from fx) ba
 | bl a=>
  cases ry
  cases x with
  | zD=>cases rx;exact SeqAt.EqAt.bool_none a
  | bl b=>cases rx;exact SeqAt.EqAt.bool_bool a b
  | int b=>obtain⟨t,rfl⟩:=rx;exact SeqAt.EqAt.bool_int a b t
  | str b=>obtain⟨t,rfl⟩:=rx;exact SeqAt.EqAt.bool_str a b t
  | _=>exact absurd (show false=true from fx) ba
 | int a=>
  obtain⟨t',rfl⟩:=ry
  cases x with
  | zD=>cases rx;exact SeqAt.EqAt.int_none a t'
  | bl b=>cases rx;exact SeqAt.EqAt.int_bool a t' b
  | int b=>obtain⟨t,rfl⟩:=rx;exact ml a t' b t
  | str b=>obtain⟨t,rfl⟩:=rx;exact me a t' b t
  | _=>exact absurd (show false=true from fx) ba
 | str a=>
  obtain⟨t',rfl⟩:=ry
  cases x with
  | zD=>cases rx;exact SeqAt.EqAt.str_none a t'
  | bl b=>cases rx;exact SeqAt.EqAt.str_bool a t' b
  | int b=>obtain⟨t,rfl⟩:=rx;exact mf a t' b t
  | str b=>obtain⟨t,rfl⟩:=rx;exact SeqAt.EqAt.str_str a t' b t
  | _=>exact absurd (show false=true from fx) ba
 | _=>exact absurd (show false=true from fy) ba
noncomputable def OY (x:V)(u:Value):Bool:=match u with
 | .none=>OX .zD x
 | .bool b=>OX (.bl b) x
 | .int i _=>OX (.int i) x
 | .str z _=>OX (.str z) x
 | _=>false
theorem FW {x y:V}{u:Value}(r:RelV y u)(f:gW y=true):OY x u=OX y x:=by
 cases y with
 | zD=>cases r;rfl
 | bl b=>cases r;rfl
 | int i=>obtain⟨t,rfl⟩:=r;rfl
 | str z=>obtain⟨t,rfl⟩:=r;rfl
 | _=>exact absurd (show false=true from f) ba
theorem vG {x:V}:∀{xs:List V}{us:qh},Vals xs us->xs.all gW=true->us.any (OY x)=xs.any λy=>OX y x
 | _,_,.nil,_=>rfl
 | y::xs,u::us,.cons r t,f=>by
  rw[kl,bE] at f
  rw[fq,fq,FW r f.1,vG t f.2]
theorem rT {A:Around}{s:Shared}{x:V}{v:Value}(rx:RelV x v)(fx:gW x=true):∀{xs:List V}{us:qh},Vals xs us->xs.all gW=true->∀u∈us,SeqAt.EqAt A s u v (OY x u)
 | _,_,.nil,_=>λu hu=>by cases hu
 | y::xs,u::us,.cons r t,f=>λu' hu=>by
  rw[kl,bE] at f
  rcases be.mp hu with rfl | hu
  ·rw[FW r f.1];exact Oq r rx f.1 fx
  ·exact rT rx fx t f.2 u' hu
noncomputable def Xq (x:V)(xs:List V):Bool:=xs.any λy=>OX y x
def Yt (K:W.Frag)(neg:Bool):R2:=λx y H Q=>∃p xs,y=.ref p/\(AS K H p xs\/BU K H p xs)/\gW x=true/\xs.all gW=true/\Q (.bl (if neg then !Xq x xs else Xq x xs)) H
theorem yU:B2 X (compareOp .NotIn) (Yt X.K true):=by
 intro zl s σ H x y v u Q I rx ry h
 obtain⟨p,xs,rfl,hq,fx,fs,q⟩:=h
 cases ry
 rcases hq with hq | hq
 ·obtain⟨zw,r,pl,hz⟩:=I.list hq
  refine SeqAt.notIn_listAt (OY x) pl.isList (λw hw=>rT rx fx r fs w (by simpa using hw)) ⟨.bl _,H,I,rfl,?_⟩
  rw[show zw.toArray.any (OY x)=zw.any (OY x) by simp,vG r fs]
  exact q
 ·obtain⟨zw,r,pl,hz⟩:=I.tuple hq
  refine SeqAt.notIn_tupleAt (OY x) pl (λw hw=>rT rx fx r fs w (by simpa using hw)) ⟨.bl _,H,I,rfl,?_⟩
  rw[show zw.toArray.any (OY x)=zw.any (OY x) by simp,vG r fs]
  exact q
theorem pZ:AW X (.builtin "len") (λxs H Q=>∃p ys,xs=[.ref p]/\(AS X.K H p ys\/BU X.K H p ys)/\Q (.int ys.length) H):=by
 intro zl s σ H xs us Q I r h
 obtain⟨p,ys,rfl,hq,q⟩:=h
 obtain⟨u,rfl,rx⟩:=vals1 r
 cases rx
 have hn:=mO
 rcases hq with hq | hq
 ·obtain⟨zw,r',pl,hz⟩:=I.list hq
  have hlen:=r'.length
  exact Calls.call_len_list pl.isList (by simp only[ax] <;> omega) ⟨.int ys.length,H,I.tok _,⟨s.toks+1,by rw[ax,hlen]⟩,q⟩
 ·obtain⟨zw,r',pl,hz⟩:=I.tuple hq
  have hlen:=r'.length
  exact len_tuple pl (by simp only[ax] <;> omega) ⟨.int ys.length,H,I.tok _,⟨s.toks+1,by rw[ax,hlen]⟩,q⟩
theorem j6:AW X (.builtin "len") (λxs H Q=>∃z,xs=[.str z]/\z.length<=sizeLine/\Q (.int z.length) H):=by
 intro zl s σ H xs us Q I r h
 obtain⟨z,rfl,hz,q⟩:=h
 obtain⟨u,rfl,t,rfl⟩:=vals1 r
 have hn:=mO
 exact len_str (by omega) ⟨.int z.length,H,I.tok _,⟨_,rfl⟩,q⟩
theorem AW.or {f:Value}{r r':List V->Hp->VK->Prop}(h:AW X f r)(h':AW X f r'):AW X f (λxs H Q=>r xs H Q\/r' xs H Q):=by
 intro zl s σ H xs us Q I rs q
 rcases q with q | q
 ·exact h zl s σ H xs us Q I rs q
 ·exact h' zl s σ H xs us Q I rs q
theorem yV:AW X (.type "list") (λxs H Q=>∃p ys,xs=[.ref p]/\(AS X.K H p ys\/BU X.K H p ys)/\∀l,H l=none->Q (.ref l) (upd H l (.lst ys))):=by
 intro zl s σ H xs us Q I r h
 obtain⟨p,ys,rfl,hq,q⟩:=h
 obtain⟨u,rfl,rx⟩:=vals1 r
 cases rx
 have fin:∀(zw:qh),Vals ys zw->ys.length<=sizeLine->∀(h':Heap) (c':Nat),(∀b o',s.heap.get? b=some o'->h'.get? b=some o')->
   h'.get? s.heap.objs.size=some { cls:=.type "list",dict:=none,data:=.seq zw.toArray c',slots:=#[] }->EP X zl σ Q (.ref s.heap.objs.size) { s with heap:=h' }:=λzw r' hz h' c' kp e=>
  ⟨.ref s.heap.objs.size,_,I.laid (t':=s.toks) kp (aw _) (show Ap X.prog X.w X.K _ h' _ (.lst ys) from ⟨hz,zw,c',r',e⟩),rfl,q _ (I.Au.fresh (aw _))⟩
 rcases hq with hq | hq
 ·obtain⟨zw,r',pl,hz⟩:=I.list hq
  have hlen:=r'.length
  obtain⟨o,ho,hc,n,hd⟩:=pl.isList
  exact call_list_seq p (.inl rfl) ho hc hd (λh' c' kp e=>fin zw r' hz h' c' kp e) (by simp only[ax] <;> omega)
 ·obtain⟨zw,r',pl,hz⟩:=I.tuple hq
  have hlen:=r'.length
  obtain⟨o,ho,hc,n,hd⟩:=pl
  exact call_list_seq p (.inr rfl) ho hc hd (λh' c' kp e=>fin zw r' hz h' c' kp e) (by simp only[ax] <;> omega)
theorem pG:AW X (.type "tuple") (λxs H Q=>∃p ys,xs=[.ref p]/\((AS X.K H p ys/\∀l,H l=none->Q (.ref l) (upd H l (.tup ys)))\/(BU X.K H p ys/\Q (.ref p) H))):=by
 intro zl s σ H xs us Q I r h
 obtain⟨p,ys,rfl,h⟩:=h
 obtain⟨u,rfl,rx⟩:=vals1 r
 cases rx
 rcases h with ⟨hq,q⟩ | ⟨hq,q⟩
 ·obtain⟨zw,r',pl,hz⟩:=I.list hq
  have hlen:=r'.length
  refine call_tuple_list pl.isList (λh' kp=>?_) (by simp only[ax] <;> omega)
  have I1:Inv X zl σ H { s with heap:=h' }:=I.kept (t':=s.toks) kp
  have I2:Inv X zl σ (upd H h'.objs.size (.tup ys)) { s with heap:=h'.push { cls:=.type "tuple",data:=.seq zw.toArray } }:=
   I1.laid (t':=s.toks) (λb o e=>ac _ e) (aw _) (show Ap X.prog X.w X.K _ _ _ (.tup ys) from ⟨hz,zw,r',⟨_,al _ rfl,rfl,0,rfl,rfl⟩⟩)
  exact⟨.ref h'.objs.size,_,I2,rfl,q _ (I1.Au.fresh (aw _))⟩
 ·obtain⟨zw,r',pl,hz⟩:=I.tuple hq
  exact call_tuple_same pl ⟨.ref p,H,I,rfl,q⟩
def tyV (K:W.Frag)(T:String)(x:V)(H:Hp):Prop:=match x with
 | .str _=>T = "str"
 | .int _=>T = "int"
 | .ref p=>(T = "list" /\ ∃xs,AS K H p xs)\/(T = "tuple" /\ ∃o,K.lookup p=some o/\o.cls=.type "tuple" /\ o.dict=none) \/
   (T = "dict" /\ ((∃kvs,H p=some (.dK kvs))\/∃kvs,H p=some (.dT kvs)))\/(T = "set" /\ ∃S n,H p=some (.set S n))
 | _=>False
theorem Ot {zl:qc}{σ:St}{H:Hp}{s:Shared}{T:String}{x:V}{v:Value}(I:Inv X zl σ H s)(r:RelV x v)(ty:tyV X.K T x H):
  s.TypeIs v T/\∀a,v=.ref a->∃ob,s.heap.get? a=some ob/\ob.dict=none:=by
 cases x with
 | str z=>
  obtain⟨t,rfl⟩:=r
  cases (show T = "str" from ty)
  exact⟨typeIs_str s z t,λ_ e=>nomatch e⟩
 | int i=>
  obtain⟨t,rfl⟩:=r
  cases (show T = "int" from ty)
  exact⟨ow s i t,λ_ e=>nomatch e⟩
 | ref p=>
  cases r
  rcases ty with ⟨rfl,xs,hq⟩ | ⟨rfl,o,hk,hc,hd⟩ | ⟨rfl,hk⟩ | ⟨rfl,S,n,hk⟩
  ·obtain⟨zw,_,pl,_⟩:=I.list hq
   refine⟨pl.isList.typeIs,λa e=>?_⟩
   cases e
   obtain⟨o,n,e,c,hd,_⟩:=pl
   exact⟨o,e,hd⟩
  ·refine⟨⟨o,I.B1 p o hk,hc⟩,λa e=>?_⟩
   cases e
   exact⟨o,I.B1 _ o hk,hd⟩
  ·have z:∃o,s.heap.get? p=some o/\o.ExactDict:=by
    rcases hk with ⟨kvs,hk⟩ | ⟨kvs,hk⟩
    ·obtain⟨_,_,_,_,o,_,_,e,ex,_⟩:=I.Au p _ hk
     exact⟨o,e,ex⟩
    ·obtain⟨_,_,_,_,o,_,_,e,ex,_⟩:=I.Au p _ hk
     exact⟨o,e,ex⟩
   obtain⟨o,e,ex⟩:=z
   refine⟨⟨o,e,ex.1⟩,λa e2=>?_⟩
   cases e2
   exact⟨o,e,ex.2.1⟩
  ·obtain⟨o,_,_,_,e,ex,_⟩:=I.Au p _ hk
   refine⟨⟨o,e,ex.1⟩,λa e2=>?_⟩
   cases e2
   exact⟨o,e,ex.2.1⟩
 | _=>exact False.elim ty
def U3 (K:W.Frag)(T:String)(r:V->List V->Hp->VK->Prop)(to:TE)(t:TA):TE:=fun σ H Q=>to σ H λx H1=>tyV K T x H1/\t σ H1 λxs H2=>r x xs H2 Q
variable {o e:Expr}{es:qo}{to:TE}{t:TA}{name:Str}{apos AA:Pos}{T id:String}{r:V->List V->Hp->VK->Prop}
theorem xW (pa:PlainAttrs T)(slot:Slot T name id)(TK:typeOf (.builtin id)=pure (.type "method_descriptor"))(hm:Xp X id r)(ho:PE X o to)(ha:PA X (e::es) t)
  (BD:attributeBase o name X.env (eval o X.env)=eval o X.env:=by rfl)
  (ES:((backTo AA (starEach (e::es) X.env)).all (λx=>!x.1)&&(backToKw AA (keywordEach [] X.env)).all (λx=>x.1.isSome)
   && decide ((e::es).length+([]:List Keyword).length+(if ([]:List Keyword).isEmpty then 0 else 1) < 30))=true:=by rfl)
  (BE:(apos.endLine == AA.line)=true:=by rfl) (hs:starEach (e::es) X.env=(false,eval e X.env)::starEach es X.env:=by rfl) (IX:(backTo AA (starEach es X.env)).any (·.1)=false:=by rfl):
  PE X (.Call (.Attribute o name apos) (e::es) [] AA) (U3 X.K T r to t):=by
 intro zl s σ H Q I h
 refine wpAny_Call_method_late BD ES BE rfl (AE (ho zl s σ H _ I h) ?_)
 rintro v s1 ⟨x,H1,I1,r1,ty,q1⟩
 obtain⟨h1,h2⟩:=Ot I1 r1 ty
 refine⟨T,id,pa,slot,TK,h1,h2,?_⟩
 have hA:=ha AA zl s1 σ H1 _ I1 q1
 rw[hs] at hA ⊢
 refine Calls.callWith_builtin (by show (false||(backTo AA (starEach es X.env)).any (·.1))=false;rw[IX] <;> rfl) (Calls.evalArgs_plain ?_)
 exact AE hA λus s2 ⟨vs,H2,I2,r2,q2⟩=>hm zl s2 σ H2 x vs v us Q I2 r1 r2 q2
end
def MtM (X:Cx)(id:String)(r:V->List V->Hp->VK->Prop):Prop:=
 ∀(zl:qc) (s:Shared) (σ:St) (H:Hp) (x:V) (xs:List V) (v:Value) (us:qh) (Q:VK),Inv X zl σ H s->RelV x v->Vals xs us->r x xs H Q->
  wpAny (model X.prog X.w) X.A (call (.builtin id) (v::us)) (EP X zl σ Q) X.xe s
theorem Vals.one {x:V}{us:qh}(h:Vals [x] us):∃u,us=[u]/\RelV x u:=by
 cases h with
 | cons r t=>cases t;exact⟨_,rfl,r⟩
theorem Vals.reverse {xs:List V}{us:qh}(h:Vals xs us):Vals xs.reverse us.reverse:=by
 induction h with
 | nil=>exact .nil
 | cons r t ih=>rw[kP,kP];exact Vals.append ih (.cons r .nil)
section
variable {X:Cx}{zl:qc}{σ:St}{H:Hp}{s:Shared}{l b:Addr}{xs ys zs:List V}
theorem Inv.VH {zw its':qh}{n:Nat}{f:Array Value->Array Value}{t':Nat}(I:Inv X zl σ H s)(hH:H l=some (.lst xs))
  (e:s.heap.get? l=some { cls:=.type "list",data:=.seq zw.toArray n }) (hf:f zw.toArray=its'.toArray) (hv:Vals ys its') (hz:ys.length<=sizeLine):
  Inv X zl σ (upd H l (.lst ys)) { s with heap:=s.heap.update l (Obj.mapSeq f),toks:=t' }:=by
 have q:=PySem.IsL.update e f
 rw[hf] at q
 refine I.write (x:=l) (e:=l) (by rw[hH];exact trivial) (.inl rfl) (λb' u hb hu=>(dc s.heap (Obj.mapSeq f) (fe hb)).trans hu) ⟨_,q⟩ ?_
 exact⟨hz,its',_,hv,q⟩
theorem Inv.Yu {zw:qh}{t':Nat}(I:Inv X zl σ H s)(hv:Vals ys zw)(hz:ys.length<=sizeLine):
  Inv X zl σ (upd H s.heap.objs.size (.lst ys)) { s with heap:=s.heap.push { cls:=.type "list",data:=.seq zw.toArray },toks:=t' }:=
 I.laid (λ_ _ q=>ac _ q) (aw _) ⟨hz,zw,0,hv,al _ rfl⟩
theorem Inv.fresh (I:Inv X zl σ H s):H s.heap.objs.size=none:=I.Au.fresh (aw _)
theorem Inv.Mc (I:Inv X zl σ H s)(hH:H l=some (.lst xs)):xs.length<=sizeLine/\∃(zw:qh) (n:Nat),Vals xs zw/\xs.length=zw.length/\s.heap.get? l=some { cls:=.type "list",data:=.seq zw.toArray n }:=by
 obtain⟨z,zw,n,r,e⟩:=I.Au l _ hH
 exact⟨z,zw,n,r,r.length,e⟩
theorem HS {n:Nat}(h:n<=sizeLine):Builtin.List.listTooLong n=false:=by
 unfold Builtin.List.listTooLong
 exact dv (by omega)
end
section
variable {X:Cx}
def vH:V->List V->Hp->VK->Prop:=λx vs H Q=>∃l xs y,x=.ref l/\vs=[y]/\H l=some (.lst xs)/\xs.length < sizeLine/\Q .zD (upd H l (.lst (xs++[y])))
theorem jy:MtM X "list.append" vH:=by
 intro zl s σ H x vs v us Q I rx rv h
 obtain⟨l,xs,y,rfl,rfl,hH,hz,q⟩:=h
 cases rx
 obtain⟨u,rfl,ru⟩:=rv.one
 obtain⟨z,zw,n,r,hl,e⟩:=I.Mc hH
 refine k7 F.slot_list_append ⟨_,e,rfl⟩ F.entry_list_append (F.args_list_append_2 _ _) (PySem.list_append l zw.toArray n u (by rw[ax];omega)) ⟨e,?_⟩
 refine⟨.zD,_,I.VH (its':=zw++[u]) hH e (by simp) (r.append (.cons ru .nil)) ?_,rfl,q⟩
 rw[bq,jp]
 omega
def K8:V->List V->Hp->VK->Prop:=λx vs H Q=>∃l b xs zs,x=.ref l/\vs=[.ref b]/\H l=some (.lst xs)/\H b=some (.lst zs)/\xs.length+zs.length<=sizeLine/\Q .zD (upd H l (.lst (xs++zs)))
theorem FZ:MtM X "list.extend" K8:=by
 intro zl s σ H x vs v us Q I rx rv h
 obtain⟨l,b,xs,zs,rfl,rfl,hH,hB,hz,q⟩:=h
 cases rx
 obtain⟨u,rfl,ru⟩:=rv.one
 cases ru
 obtain⟨z,zw,n,r,hl,e⟩:=I.Mc hH
 obtain⟨z2,CH,n2,r2,RE,e2⟩:=I.Mc hB
 have hsz:zw.toArray.size+CH.toArray.size<=sizeLine:=by rw[ax,ax];omega
 have VI:¬ (!zw.toArray.isEmpty&&Builtin.List.listTooLong (zw.toArray.size+CH.toArray.size))=true:=by
  rw[HS hsz,Bool.and_false]
  exact ba
 refine k7 F.slot_list_extend ⟨_,e,rfl⟩ F.entry_list_extend (F.args_list_extend_2 _ _)
  (AutoSeq1.list_extend_list_list_0 l zw.toArray n b CH.toArray n2 VI (by rw[ax];omega) (by omega)) ⟨e,e2,?_⟩
 refine⟨.zD,_,I.VH (its':=zw++CH) hH e (by simp) (r.append r2) ?_,rfl,q⟩
 rw[bq]
 omega
def Ou:R2:=λx y H Q=>∃l b xs zs,x=.ref l/\y=.ref b/\H l=some (.lst xs)/\H b=some (.lst zs)/\xs.length+zs.length<=sizeLine/\∀p,H p=none->Q (.ref p) (upd H p (.lst (xs++zs)))
theorem Ov:B2 X (binaryOp .Add) Ou:=by
 intro zl s σ H x y v u Q I rx ry h
 obtain⟨l,b,xs,zs,rfl,rfl,hH,hB,hz,q⟩:=h
 cases rx
 cases ry
 obtain⟨z,zw,n,r,hl,e⟩:=I.Mc hH
 obtain⟨z2,CH,n2,r2,RE,e2⟩:=I.Mc hB
 refine PySem.P.add_list e e2 ?_ (by rw[ax,ax];omega)
 have ea:zw.toArray++CH.toArray=(zw++CH).toArray:=by simp
 rw[ea]
 exact⟨.ref _,_,I.Yu (t':=s.toks) (r.append r2) (by rw[bq];omega),rfl,q _ I.fresh⟩
end
end Lake.L2
namespace Lake.Att
open PySem PySem.W PySem.Calls PyProof.Rows
theorem um {P:Params}{h:Heap}:∀(ns:qr) (vs:qh),WellAll P h vs (ns.map WData.int)->IntsAre vs ns:=by
 intro ns
 induction ns with
 | nil=>
  intro vs w
  rw[iX] at w
  cases w
  exact .nil
 | cons n ns ih=>
  intro vs w
  rw[a0] at w
  cases w with
  | cons a b=>
   cases a
   exact .cons _ _ (ih _ b)
theorem F_ {l:OpenLaw}{n:Nat}(hn:l.most=some n){P:Params}{h:Heap}{args:List WData}{vals:qh}
  (OZ:l.row.toRowW.claim.pre args=true) (D4:WellAll P h vals args):
  ∃a vs ns,vals=[Value.ref a]/\args=[WData.list (ns.map WData.int)]/\h.get? a=some { cls:=.type "list",data:=.seq vs.toArray }/\IntsAre vs ns/\ns.length<=n:=by
 have hsh:WShape.hasAll [] args [.list .int]=true:=(pre_splitW OZ).1
 have hc:l.pre.holds [] { args:=args }=true:=(pre_splitW OZ).2
 obtain⟨d,r,rfl,h1,h2⟩:=hasAllW_cons hsh
 obtain rfl:=hasAllW_nil h2
 obtain⟨xs,rfl,h3⟩:=hasW_list h1
 obtain⟨ns,rfl⟩:=items_int h3
 have hlen:ns.length<=n:=by
  unfold OpenLaw.pre at hc
  have h4:(WTm.not (.lt (.lit (.int (n:Int))) (.len (.arg 0)))).holds [] { args:=[.list (ns.map .int)] }=true:=by
   have h4:=(holds_andW hc).1
   rw[hn] at h4
   exact h4
  have h5:=condW_of h4 (w_not (w_lt w_lit (w_len_list (w_arg rfl))))
  rw[aI] at h5
  refine Nat.le_of_not_lt λq=>?_
  have q':(n:Int) < ((ns.length:Nat):Int):=by omega
  first
   | (rw[hU q'] at h5;exact absurd h5 (by decide))
   | (simp at h5;omega)
 cases D4 with
 | cons w1 w2=>
  cases w2
  cases w1 with
  | list ho Me=>exact⟨_,_,ns,rfl,rfl,ho,um ns _ Me,hlen⟩
theorem Ga (l:OpenLaw)(args:List WData):l.row.toRowW.claim.post args (.bool true) args=true:=
 postW_of (r:=l.row.toRowW) (X:=(true == true))
  (show WShape.has [] (.bool true) .bool=true by first | rfl | decide | simp[WShape.has,WShape.arms,WShape.armsAll])
  (show (WTm.eq .res (.lit (.bool true))).value [] { args:=args,res:=some (.bool true),after:=args }=some (.bool (true == true)) from w_eq_bool (w_res rfl) w_lit) rfl
theorem HV {l:OpenLaw}{n:Nat}{q:Program}{loose:qq}{XP:(Str->Option Value)->Heap->Prop}{YP:World->Heap->Prop}{d:DefRec}
  (hn:l.most=some n) (VJ:d.params.defaults=[])
  (call:∀(w:World) (s₀ s₁:Shared) (mg mb:Str->Option Value) (fa:Addr) (o:Obj) (pm cd doc:Value) (a:Addr) (vs:qh) (ns:qr),
   Ground q loose [] XP w s₀ mg mb s₁.heap->YP w s₁.heap->
   s₁.heap.get? fa=some o->o.data=.func (docDef d.name d.params d.body d.scope pm cd doc)->s₁.heap.CodeRec cd d.name->mg d.name=some (.ref fa)->
   s₁.heap.get? a=some { cls:=.type "list",data:=.seq vs.toArray }->IntsAre vs ns->ns.length<=n->s₁.gens=#[]->
   codeAny (model l.prog w) callerA (.call (.ref fa) ⟨[.ref a],[]⟩) (λr s'=>r=.ok (.ret (.bool true))/\OldK s₁.heap s'.heap/\s'.os=s₁.os/\AllBare s'.gens) s₁):
  WalkO q loose XP YP l.row.toRowW d [] (λf vs=>PySem.call f vs):=by
 intro w s₀ s₁ mg mb G Y fa o pm cd doc dV kV ho hd D0 hD VL hg args vals as OZ hlay hrd D4 TL
 obtain rfl:dV=.none:=Dflts.none hD VJ
 obtain rfl:kV=.none:=Dflts.noKw hD
 obtain⟨a,vs,ns,rfl,rfl,TM,hints,hlen⟩:=F_ hn OZ D4
 refine enter_call (l8 (call w s₀ s₁ mg mb fa o pm cd doc a vs ns G Y ho (fd_plain hd) D0 VL TM hints hlen hg) λr s' hq=>?_)
 obtain⟨rfl,h2,h3,h4⟩:=hq
 exact⟨.inl ⟨.bool true,.bool true,[],rfl,λ_=>rfl,.bool true,Ga l _,λ_=>⟨List.Pairwise.nil,λ_ hm=>(nomatch hm)⟩⟩,h2,h3,h4⟩
end Lake.Att
namespace Lake.L2
open PySem PySem.Spec PyProof.Rows
theorem wX:∀{vs:qh}{ns:qr},IntsAre vs ns->Vals (ns.map V.int) vs
 | _,_,.nil=>.nil
 | _,_,.cons n t h=>.cons ⟨t,rfl⟩ (wX h)
def O0 (H:Hp):Prop:=∀b,H b=none\/∃o xs,H b=some (.frz o (.lst xs))
variable {K:W.Frag}{fd:FuncData}{x:Str}
theorem HW {P:Program}{w:World}{mg mb:Str->Option Value}{CX:L5}{k:Nat}{fa a:Addr}{sp:Sp}{s₁:Shared}{vs:qh}{ns:qr}
  (KX:K.In s₁.heap) (Xr:s₁.heap.Ns mainGlobals mg) (hb:s₁.heap.Ns builtinsNs mb) (hbb:∀x:Str,x ≠ "__name__" -> mb x=bootBuiltins x) (Yv:s₁.heap.NoLimit) (hg:s₁.gens=#[])
  (ha:s₁.heap.get? a=some { cls:=.type "list",data:=.seq vs.toArray }) (hi:IntsAre vs ns) (hl:ns.length<=sizeLine) (hr:AN k callerA)
  (F:∀base:Heap,K.In base->base.Ns mainGlobals mg->AX P w K mg base CX k fa fd [x] sp) (VM:∀(s:Shared) (u:Value),BindsTo s fd ⟨[u],[]⟩ [(x,u)])
  (Q2:∀H:Hp,O0 H->AS K H a (ns.map V.int)->sp [.ref a] H (λv _=>v=.bl true) λ_ _ _=>False)
  (Yw:∀H e s',CX [] H s₁ (λ_ _ _=>False) e s'->False):
  codeAny (model P w) callerA (.call (.ref fa) ⟨[.ref a],[]⟩) (λr s'=>r=.ok (.ret (.bool true))/\OldK s₁.heap s'.heap/\s'.os=s₁.os/\AllBare s'.gens) s₁:=by
 have rv:=wX hi
 have B0:=hi.length
 have core:∀H:Hp,O0 H->AS K H a (ns.map V.int)->CI P w K H s₁.heap->(∀b,H b≠none->b=a)->(H a≠none->K.lookup a=none)->
   codeAny (model P w) callerA (.call (.ref fa) ⟨[.ref a],[]⟩) (λr s'=>r=.ok (.ret (.bool true))/\OldK s₁.heap s'.heap/\s'.os=s₁.os/\AllBare s'.gens) s₁:=by
  intro H hO hS Au hA hK
  have Kn:∀{b:Addr}{o:Obj},s₁.heap.get? b=some o->H b=none->(nU s₁.heap H).get? b=some o:=λe n=>Ht e n
  have VD:∀{b:Addr}{o:Obj}{es:Array DictEntry}{ep:Nat},s₁.heap.get? b=some o->o.data=.dict es ep->H b=none:=λ{b o es ep} e d=>by
   cases q:H b with
   | none=>rfl
   | some u=>
    have e':b=a:=hA b (by rw[q];simp)
    subst e'
    rw[ha] at e;cases e
    have d':Data.seq vs.toArray _=Data.dict es ep:=d
    cases d'
  have Xs:∀{b:Addr}{m:Str->Option Value},s₁.heap.Ns b m->(nU s₁.heap H).Ns b m:=λ{b m} ⟨o,es,ep,e,d,r⟩=>⟨o,es,ep,Kn e (VD e d),d,r⟩
  have hKb:K.In (nU s₁.heap H):=λb o e=>Kn (KX b o e) (by
   cases q:H b with
   | none=>rfl
   | some u=>
    have e':b=a:=hA b (by rw[q];simp)
    subst e'
    rw[hK (by rw[q];simp)] at e;cases e)
  have hM:Mod K mg (nU s₁.heap H):=⟨hKb,Xs Xr,⟨mb,Xs hb,hbb⟩,let ⟨mc,h1,h2⟩:=Yv;⟨mc,Xs h1,h2⟩⟩
  have e0:IS P w K mg (nU s₁.heap H) callerA [] s₁ H:=⟨rfl,hM,λb o e=>Kw e,Nat.le_of_eq (E_ _ _),trivial,λb hb=>absurd (show b∈([]:qv) from hb) (by simp),Au,.of_eq hg⟩
  refine l8 ((F _ hKb (Xs Xr)).run callerA [] s₁ H ⟨[.ref a],[]⟩ [.ref a] [.ref a] _ _ hr e0 (VM s₁ (.ref a)) (.cons rfl .nil) (Q2 H hO hS)) λr s' h=>?_
  cases r with
  | error e=>exact(Yw H e s' h).elim
  | ok fl=>
   cases fl with
   | next=>exact False.elim h
   | brk=>exact False.elim h
   | cont=>exact False.elim h
   | ret u=>
    obtain⟨v,H',os,bare,un,Yx,r',q⟩:=h
    have q':v=.bl true:=q
    subst q'
    obtain rfl:u=Value.bool true:=r'
    refine⟨rfl,OldK.of_keep λb o e=>?_,os,bare⟩
    cases q:H b with
    | none=>exact un.keep b o e q (by intro z;exact absurd (show b∈([]:qv) from z) (by simp)) (by simp)
    | some u=>
     rcases hO b with z | ⟨ob,xs,z⟩
     ·rw[q] at z;cases z
     ·have z2:=un.F7 b ob _ z
      obtain⟨e1,_⟩:=Au b _ z
      obtain⟨e2,_⟩:=Yx b _ z2
      rw[e] at e1;cases e1
      exact e2
 cases hk:K.lookup a with
 | some o=>
  have e:=KX a o hk
  rw[ha] at e
  cases e
  refine core (λ_=>none) (λ_=>.inl rfl) (.inr ⟨_,vs.toArray,_,hk,rfl,rfl,rfl,by rw[ax,B0];exact hl,by simpa using rv⟩) (λb u z=>by have z':(none:Option HO)=some u:=z;cases z') (λb z=>absurd rfl z) λz=>absurd rfl z
 | none=>
  refine core (λb=>if b=a then some (.frz { cls:=.type "list",data:=.seq vs.toArray } (.lst (ns.map V.int))) else none) (λb=>?_) (.inl (.inr ⟨{ cls:=.type "list",data:=.seq vs.toArray },bb rfl⟩)) (λb u z=>?_) (λb z=>?_) λ_=>hk
  ·by_cases hb:b=a
   ·exact .inr ⟨_,_,bb hb⟩
   ·exact .inl (ay hb)
  ·by_cases hb:b=a
   ·have z':=(bb hb).symm.trans z
    cases z'
    subst hb
    exact⟨ha,by rw[aI];exact hl,vs,_,rv,ha⟩
   ·have z':=(ay hb).symm.trans z
    cases z'
  ·by_cases hb:b=a
   ·exact hb
   ·exact absurd (ay hb) z
theorem Pc {l:W.OpenLaw}{n k:Nat}{q:Program}{loose:qq}{XP:(Str->Option Value)->Heap->Prop}{YP:World->Heap->Prop}{d:DefRec}{K:Params->W.Frag}{CX:World->L5}{sp:World->Sp}
  (hn:l.most=some n) (Xn:n<=sizeLine) (VJ:d.params.defaults=[]) (hr:AN k callerA)
  (hY:∀(w:World) (h:Heap),YP w h->(K w.params).In h)
  (F:∀(w:World) (mg:Str->Option Value) (fa:Addr) (h:Heap),(K w.params).In h->h.Ns mainGlobals mg->mg d.name=some (.ref fa)->
   ∃fd:FuncData,(∀(s:Shared) (u:Value),BindsTo s fd ⟨[u],[]⟩ [(x,u)]) /\
    ∀base:Heap,(K w.params).In base->base.Ns mainGlobals mg->AX l.prog w (K w.params) mg base (CX w) k fa fd [x] (sp w))
  (Q2:∀(w:World) (H:Hp) (a:Addr) (ns:qr),ns.length<=n->O0 H->AS (K w.params) H a (ns.map V.int)->sp w [.ref a] H (λv _=>v=.bl true) λ_ _ _=>False)
  (Yw:∀(w:World) (H:Hp) (s:Shared) (e:Value) (s':Shared),CX w [] H s (λ_ _ _=>False) e s'->False):
  W.WalkO q loose XP YP l.row.toRowW d [] (λf vs=>PySem.call f vs):=by
 refine Att.HV hn VJ λw s₀ s₁ mg mb fa o pm cd doc a vs ns G Y ho hd D0 VL TM hints hlen hg=>?_
 have KX:=hY w _ Y
 obtain⟨fd,hb,hF⟩:=F w mg fa _ KX G.T.g VL
 exact HW KX G.T.g G.T.b G.T.builtins G.T.nolimit hg TM hints (dn hlen Xn) hr hF hb (λH hO hS=>Q2 w H a ns hlen hO hS) λH e s'=>Yw w H s₁ e s'
noncomputable def inClass (s:Stmt)(j:Nat):Stmt:=match s with
 | .ClassDef _ _ _ body _ _ _ _ _ _ _=>body.getD j (.Pass ⟨0,0,0,0⟩)
 | _=>.Pass ⟨0,0,0,0⟩
def fW (s:Stmt):Arguments:=match s with
 | .FunctionDef _ a _ _ _ _ _ _ _ _=>a
 | _=>{ posonlyargs:=[],args:=[],vararg:=none,kwonlyargs:=[],kw_defaults:=[],kwarg:=none,defaults:=[] }
noncomputable def dR (s:Stmt):List Stmt:=match s with
 | .FunctionDef _ _ b _ _ _ _ _ _ _=>b
 | _=>[]
def aC (s:Stmt):Scope:=match s with
 | .FunctionDef _ _ _ _ _ _ sc _ _ _=>sc
 | _=>{ kind:=.function,names:=[],isGenerator:=false,isCoroutine:=false }
abbrev ED:L5:=λ_ _ _ _ _ _=>False
abbrev E0:XK:=λ_ _ _=>False
theorem uo {X:Cx}:mR ED X E0:=λ_ _ _ _ _ _ _ h=>h.elim
structure DA (K:W.Frag)(x qual:Str)(st:Stmt)(f:Addr)(fd:FuncData):Prop where
 ex:∃(oc:Value) (od:Option Addr) (kV doc pm:Value) (an:Option Addr) (CM ct:Value) (Q1:Array (Option Value)),
  fd=W.fnOf x qual (fW st) (dR st) (aC st) .none kV doc pm an CM ct/\K.lookup f=some ⟨oc,od,.func fd,Q1⟩/\W.codeIn K CM qual=true
 kp:W.keepIn K (.ref f)=true
section
variable {P:Program}{w:World}{K:W.Frag}{mg:Str->Option Value}{base:Heap}
theorem DA.ok {qual:Str}{st:Stmt}{f:Addr}{N ps:qq}{k:Nat}{sp:Sp}(F:DA K x qual st f fd)(S:zI N ps (aC st))(len:∀vs H Q E,sp vs H Q E->vs.length=ps.length)
  (L6:∀(CM:Value) (A:Around) (outer:List Env) (s:Shared) (H:Hp) (vs:List V) (Q:VK) (E:XK),AN k (A.deeper (envOfC qual (aC st) s.heap.objs.size f CM))->sp vs H Q E->
   ∃t,EX (rQ ED P w K mg base N qual (aC st) f CM A outer s H E).K2 (dR st) t/\t { nx:=λ_ H'=>Q .zD H',rt:=Q } (start N vs) H):AX P w K mg base ED (k+1) f fd ps sp:=by
 obtain⟨oc,od,kV,doc,pm,an,CM,ct,Q1,rfl,lk,D0⟩:=F.ex
 refine Q_ lk D0 S len λA outer s H vs Q E hr Q2=>?_
 obtain⟨t,h,q⟩:=L6 CM A outer s H vs Q E hr Q2
 exact⟨t,h.K2,q⟩
theorem DA.binds {qual:Str}{st:Stmt}{f:Addr}{ps:qq}(F:DA K x qual st f fd)
  (h:∀(kV doc pm:Value) (an:Option Addr) (CM ct:Value) (us:qh),us.length=ps.length->bindArgs (W.fnOf x qual (fW st) (dR st) (aC st) .none kV doc pm an CM ct) ⟨us,[]⟩=pure (ps.zip us)):Binds K fd ps []:=by
 obtain⟨oc,od,kV,doc,pm,an,CM,ct,Q1,rfl,lk,D0⟩:=F.ex
 exact .all (h kV doc pm an CM ct)
theorem Mn {qual:Str}{st:Stmt}{f:Addr}{oc:Value}{od an:Option Addr}{Q1:Array (Option Value)}{kV doc pm CM ct:Value}(l:K.lookup f=some ⟨oc,od,.func (W.fnOf x qual (fW st) (dR st) (aC st) .none kV doc pm an CM ct),Q1⟩)
  (c:W.codeIn K CM qual=true) (k:W.keepIn K (.ref f)=true):DA K x qual st f (W.fnOf x qual (fW st) (dR st) (aC st) .none kV doc pm an CM ct):=⟨⟨oc,od,kV,doc,pm,an,CM,ct,Q1,rfl,l,c⟩,k⟩
end
theorem dq {A:Around}{k:Nat}(hr:AN k A):A.units+9 < cLine:=kD (pE (by decide:9<=64) _) hr.units
section
variable {X:Cx}
theorem pv (i:Nat){pos:Pos}(hN:X.N[i]?=some x:=by rfl)(hv:LW X.env.scope x:=by first | exact e9 rfl | exact fb (e9 rfl) | exact fb (fb rfl))(hd:(x == ("__debug__" : Str))=false:=by decide)
  (D0:(x == ("__classdict__" : Str))=false:=by decide):PE X (.Name x pos) (aG i):=gU hN hv hd D0
end
theorem lW {A B:Prop}(h:B):if false=true then A else B:=by
 rw[ay ba]
 exact h
theorem iT {A B:Prop}(h:A):if true=true then A else B:=by
 rw[bb rfl]
 exact h
def zv (H H':Hp):Prop:=∀b o,H b=some o->H' b=some o
theorem zv.refl (H:Hp):zv H H:=λ_ _ h=>h
theorem zv.trans {H H1 H2:Hp}(a:zv H H1)(b:zv H1 H2):zv H H2:=λc o h=>b c o (a c o h)
theorem zv.free {H H':Hp}(e:zv H H'){l:Addr}(h:H' l=Option.none):H l=Option.none:=by
 cases q:H l with
 | none=>rfl
 | some o=>
  rw[e l o q] at h
  cases h
section
variable {X:Cx}
theorem Gb:AW X (.builtin "len") (λxs H Q=>∃a kvs,xs=[V.ref a]/\H a=some (.dK kvs)/\Q (.int kvs.length) H):=by
 intro zl s σ H xs us Q I r h
 obtain⟨a,kvs,rfl,ha,q⟩:=h
 obtain⟨u,rfl,ru⟩:=vals1 r
 cases ru
 exact Ra I (.inl ha) λt s' I'=>⟨.int kvs.length,H,I',⟨t,rfl⟩,q⟩
end
theorem rW {α β:Type}{l:List α}{f:α->β->Sem (ForInStep β)}(g:α->β->β):∀(c:β),(∀x∈l,∀c,f x c=pure (.yield (g x c)))->
  forIn l c f=pure (l.foldl (λc x=>g x c) c):=by
 induction l with
 | nil=>intro c _;rfl
 | cons x l ih=>
  intro c h
  rw[kB,h x ar,pure_bind]
  exact ih _ λy hy=>h y (am _ hy)
noncomputable def fL (env:Env)(x:Str×NameKind)(c:List (Str×Addr)):List (Str×Addr):=if x.2=.free then (x.1,(env.cells.lookup x.1).getD 0)::c else c
noncomputable def jE (env:Env)(names:List (Str×NameKind)):List (Str×Addr):=names.foldl (λc x=>fL env x c) []
theorem pH {scope:Scope}{env:Env}(h:∀x∈scope.names,x.2=.free->∃c,env.cells.lookup x.1=some c):closureFor scope env=pure (jE env scope.names):=by
 simp only[closureFor]
 rw[rW (fL env) [] (λx hx c=>by
  obtain⟨n,kind⟩:=x
  by_cases e:kind=.free
  ·subst e
   obtain⟨a,ha⟩:=h _ hx rfl
   have Xt:env.cells.lookup n=some a:=ha
   simp[fL,cellOf,Xt]
  ·have:(kind == NameKind.free)=false:=by simpa using e
   simp[fL,e,this])]
 rfl
theorem uq {env:Env}:∀(l:List (Str×NameKind)) (cs:List (Str×Addr)),(∀x∈l,x.2=.free->∃c,env.cells.lookup x.1=some c)->(∀y c,cs.lookup y=some c->env.cells.lookup y=some c)->
  ∀y c,(l.foldl (λc x=>fL env x c) cs).lookup y=some c->env.cells.lookup y=some c
 | [],cs,_,h2,y,c,e=>h2 y c e
 | x::r,cs,h1,h2,y,c,e=>by
  refine uq r (fL env x cs) (λz hz=>h1 z (am _ hz)) (λz d q=>?_) y c e
  unfold fL at q
  by_cases k:x.2=.free
  ·rw[bb k] at q
   obtain⟨a,ha⟩:=h1 x ar k
   rw[b6] at q
   cases hb:z == x.1 with
   | true=>
    rw[hb] at q
    have ez:z=x.1:=by simpa using hb
    rw[ha] at q
    have q':a=d:=by simpa using q
    rw[ez,ha,q']
   | false=>
    rw[hb] at q
    exact h2 z d q
  ·rw[ay k] at q
   exact h2 z d q
variable {names:List (Str×NameKind)}
theorem dh {env:Env}(h:∀x∈names,x.2=.free->∃c,env.cells.lookup x.1=some c){y:Str}{c:Addr}(e:(jE env names).lookup y=some c):env.cells.lookup y=some c:=
 uq names [] h (λy c q=>by simp at q) y c e
theorem ur {env:Env}{y:Str}:∀(l:List (Str×NameKind)) (cs:List (Str×Addr)),((y,.free)∈l\/∃c,cs.lookup y=some c)->∃c,(l.foldl (λc x=>fL env x c) cs).lookup y=some c
 | [],cs,h=>by
  rcases h with h | h
  ·simp at h
  ·exact h
 | x::r,cs,h=>by
  refine ur r (fL env x cs) ?_
  rcases h with h | ⟨c,h⟩
  ·rcases be.mp h with e | e
   ·refine .inr ⟨(env.cells.lookup y).getD 0,?_⟩
    rw[← e]
    simp[fL]
   ·exact .inl e
  ·refine .inr ?_
   unfold fL
   split
   ·rw[b6]
    split
    ·exact⟨_,rfl⟩
    ·exact⟨c,h⟩
   ·exact⟨c,h⟩
theorem ut {env:Env}{y:Str}(h:(y,.free)∈names):∃c,(jE env names).lookup y=some c:=ur names [] (.inl h)
theorem mem_of_lookup {x:Str}{k:NameKind}:∀{l:List (Str×NameKind)},l.lookup x=some k->(x,k)∈l
 | [],h=>by simp at h
 | (n,j)::r,h=>by
  rw[b6] at h
  cases hb:x == n with
  | true=>
   rw[hb] at h
   have e:x=n:=by simpa using hb
   have e2:j=k:=by simpa using h
   rw[e,e2]
   exact ar
  | false=>
   rw[hb] at h
   exact am _ (mem_of_lookup h)
theorem j7 {env:Env}:∀{names:List (Str×NameKind)}{x:Str},names.lookup x=some .free->
  (names.map λ(n,k)=>if (k == NameKind.free&&env.scope.kind == .function&&env.kindOf n == some .cell) then (n,NameKind.cell) else (n,k)).lookup x=some .cell \/
  (names.map λ(n,k)=>if (k == NameKind.free&&env.scope.kind == .function&&env.kindOf n == some .cell) then (n,NameKind.cell) else (n,k)).lookup x=some .free
 | [],_,h=>by simp at h
 | (n,k)::r,x,h=>by
  have ih:=@j7 env r x
  cases hx:x == n with
  | true=>
   simp only[b6,hx] at h
   cases h
   by_cases hc:(NameKind.free == NameKind.free&&env.scope.kind == .function&&env.kindOf n == some .cell)=true
   ·refine .inl ?_
    simp only[a0,bb hc,b6,hx]
   ·refine .inr ?_
    simp only[a0,ay hc,b6,hx]
  | false=>
   simp only[b6,hx] at h
   have ih:=ih h
   by_cases hc:(k == NameKind.free&&env.scope.kind == .function&&env.kindOf n == some .cell)=true
   ·simp only[a0,bb hc,b6,hx]
    exact ih
   ·simp only[a0,ay hc,b6,hx]
    exact ih
theorem n6 {env:Env}:∀{names:List (Str×NameKind)}{x:Str}{j:NameKind},(∀y∈names,y.2≠.cell)->(j=.cell\/j=.free)->
  (names.map λ(n,k)=>if (k == NameKind.free&&env.scope.kind == .function&&env.kindOf n == some .cell) then (n,NameKind.cell) else (n,k)).lookup x=some j->(x,.free)∈names
 | [],_,_,_,_,h=>by simp at h
 | (n,k)::r,x,j,hn,hj,h=>by
  have ih:=@n6 env r x j (λy hy=>hn y (am _ hy)) hj
  cases hx:x == n with
  | true=>
   have e:x=n:=by simpa using hx
   subst e
   by_cases hc:(k == NameKind.free&&env.scope.kind == .function&&env.kindOf x == some .cell)=true
   ·have hk:k=.free:=by
     simp only[bE,iE] at hc
     exact hc.1.1
    subst hk
    exact ar
   ·simp only[a0,ay hc,b6,hx] at h
    have hk:k=j:=by simpa using h
    rcases hj with z | z
    ·exact absurd (hk.trans z) (hn (x,k) ar)
    ·rw[hk,z]
     exact ar
  | false=>
   by_cases hc:(k == NameKind.free&&env.scope.kind == .function&&env.kindOf n == some .cell)=true
   ·simp only[a0,bb hc,b6,hx] at h
    exact am _ (ih h)
   ·simp only[a0,ay hc,b6,hx] at h
    exact am _ (ih h)
abbrev Cx.comp (X:Cx)(N:qq)(scope:Scope)(C:Addr)(s:Shared)(H:Hp)(fp:qv):Cx where
 prog:=X.prog
 w:=X.w
 K:=X.K
 mg:=X.mg
 base:=X.base
 A:=X.A
 N:=N
 s₀:=s
 H₀:=H
 env:=compEnvC scope (jE X.env scope.names) C X.env
 outer:=X.stack
 stack:=X.stack
 ex:=fp
 fn:=λ_=>false
 calm:=X.calm
 pn:=[]
 xe:=λ_ _=>False
noncomputable def n_ (scope:Scope)(ON N:qq)(zS:List (Option Nat)):Bool:=
 zS.length == N.length&&(List.range N.length).all λj=>match zS[j]? with
  | some (some i)=>(match N[j]?,ON[i]? with
   | some x,some y=>x == y&&(scope.names.lookup x == some NameKind.free)
   | _,_=>false)
  | _=>true
structure OE (Bz scope:Scope)(ON N:qq)(zS:List (Option Nat)):Prop where
 kind:scope.kind=.function
 Yy:∀y∈scope.names,y.2≠.cell
 loc:∀y∈scope.names,y.2=.local->scope.names.lookup y.1=some .local
 fr:∀y∈scope.names,y.2=.free->Bz.names.lookup y.1=some .cell\/Bz.names.lookup y.1=some .free
 zS:n_ scope ON N zS=true
theorem OE.at {Bz scope:Scope}{ON N:qq}{zS:List (Option Nat)}(S:OE Bz scope ON N zS){j i:Nat}{x:Str}(h:zS[j]?=some (some i))(hx:N[j]?=some x):ON[i]?=some x/\scope.names.lookup x=some .free:=by
 have h0:=S.zS
 unfold n_ at h0
 rw[bE] at h0
 have hj:j < N.length:=(af.mp hx).1
 have h1:=gt.mp h0.2 j (bX.mpr hj)
 rw[h] at h1
 dsimp only at h1
 rw[hx] at h1
 cases hy:ON[i]? with
 | none=>rw[hy] at h1;simp at h1
 | some y=>
  rw[hy] at h1
  simp only[bE,iE] at h1
  exact⟨by rw[h1.1],h1.2⟩
theorem OE.len {Bz scope:Scope}{ON N:qq}{zS:List (Option Nat)}(S:OE Bz scope ON N zS):zS.length=N.length:=by
 have h0:=S.zS
 unfold n_ at h0
 rw[bE,iE] at h0
 exact h0.1
noncomputable def p6 (σ:St):Option Nat->Option V
 | some i=>(σ[i]?).getD none
 | none=>none
def bT (zS:List (Option Nat))(σ:St):St:=zS.map (p6 σ)
def p_ (X:Cx)(ifs:qo)(t:TT):Prop:=
 ∀(zl:qc) (s:Shared) (σ:St) (H:Hp) (Q:Bool->Hp->Prop),Inv X zl σ H s->t σ H Q->
  wpAny (model X.prog X.w) X.A (forIn ifs true λc r=>if r=true then do let ok ← isTrue c X.env (eval c X.env);pure (ForInStep.yield ok) else pure (ForInStep.yield r)) (TP X zl σ Q) X.xe s
def oh:TT:=λ_ H Q=>Q true H
theorem j8 {X:Cx}:p_ X [] oh:=λ_ _ _ H _ I h=>wpAny_tests_nil ⟨H,I,h⟩
theorem HX {X:Cx}{c:Expr}{t:TT}(h:PT X c t):p_ X [c] t:=λzl s σ H Q I q=>wpAny_tests_one (h zl s σ H Q I q)
theorem gk {prog:Program}{w:World}{A:Around}{R:Result->Shared->Prop}{s:Shared}{elt target iter:Expr}{ifs:qo}{scope:Scope}{pos:Pos}{it acc:Value}{env:Env}(I:Nat->Shared->Prop)
  (turn:∀n s,I n s->wpAny (model prog w) A (pyNext it) (λr s₁=>match r with
   | none=>R (.ok .next) s₁
   | some v=>wpAny (model prog w) A (letOwnedTupleGo target it v) (λ_ s₁'=>wpAny (model prog w) A (assign target env v) (λ_ s₂=>
     wpAny (model prog w) A (forIn ifs true λc r=>if r=true then do let ok ← isTrue c env (eval c env);pure (ForInStep.yield ok) else pure (ForInStep.yield r)) (λok s₃=>
      if ok=true then wpAny (model prog w) A (eval elt env) (λx s₄=>
       wpAny (model prog w) A (call (.builtin "list.append") [acc,x]) (λ_ s₅=>∃m,m < n/\I m s₅) (λ_ _=>False) s₄) (λ_ _=>False) s₃
      else ∃m,m < n/\I m s₃) (λ_ _=>False) s₂) (λ_ _=>False) s₁') (λ_ _=>False) s₁) (λ_ _=>False) s)
  (n:Nat) (h:I n s):
  codeAny (model prog w) A (.compLoop (.ListComp elt [⟨target,iter,ifs,0⟩] scope pos) 0 it acc env) R s:=by
 refine codeAny_loop rfl I (λn s hI=>?_) n h
 show wpAny _ A ((compTurn (.ListComp elt [⟨target,iter,ifs,0⟩] scope pos) 0 it acc env).onRaise (λx=>do noteFrame x env;theTreesLotGoes x)) _ _ s
 refine wpAny_noted ?_
 rw[compTurn_list]
 refine ab (wpAny_standAt (ab (fw (turn n s hI) (λr s₁ h₁=>?_) λ_ _ h'=>h'.elim)))
 cases r with
 | none=>exact ae h₁
 | some v=>
  refine ab (fw h₁ (λ_ s₁' h₁'=>?_) λ_ _ h'=>h'.elim)
  refine ab (fw h₁' (λ_ s₂ h₂=>ab (fw h₂ (λok s₃ h₃=>?_) λ_ _ h'=>h'.elim)) λ_ _ h'=>h'.elim)
  cases ok with
  | false=>exact ae ⟨rfl,h₃⟩
  | true=>
   exact ab (ab (fw h₃ (λx s₄ h₄=>ab (fw h₄ (λ_ s₅ h₅=>ae (ae ⟨rfl,h₅⟩)) λ_ _ h'=>h'.elim)) λ_ _ h'=>h'.elim))
def Kp (σ σ2:St):Prop:=σ.length=σ2.length/\∀(i:Nat) (v:V),σ[i]?=some (some v)->σ2[i]?=some (some v)
theorem vI {rest:St}{x:V}:Kp (none::rest) (some x::rest):=⟨rfl,λi v e=>by
 cases i with
 | zero=>cases e
 | succ i=>exact e⟩
structure VN (wi:TI)(zS:List (Option Nat))(g:TG)(tt:TT)(te:TE)(σ:St)(H:Hp)(Q:VK):Prop where
 ex:wi σ H λJ H1=>∀D,H1 D=none->∃W:Nat->Nat->List V->Hp->Prop,
 (∃m,W 0 m [] (upd H1 D (.lst [])))/\∀i m ys H,W i m ys H->H D=some (.lst ys)/\((J.stop i H/\Q (.ref D) H) \/
  (J.go i H/\∃N:List V->Hp->Prop,(∀EE H',N EE H'->∃m',m' < m/\W (i+1) m' EE H')/\∀x H',J.LZ i H x H'->g x (bT zS σ) H' fun σ2 H2=>Kp (bT zS σ) σ2/\tt σ2 H2 λb H3=>
   if b=true then te σ2 H3 λy H4=>H4 D=some (.lst ys)/\ys.length < sizeLine/\N (ys++[y]) (upd H4 D (.lst (ys++[y]))) else N ys H3))
def fX (wi:TI)(zS:List (Option Nat))(g:TG)(tt:TT)(te:TE):TE:=fun σ H Q=>VN wi zS g tt te σ H Q
section
variable {X:Cx}{tg iter elt:Expr}{ifs:qo}{scope Bz:Scope}{ON N:qq}{zS:List (Option Nat)}{wi:TI}{g:TG}{tt:TT}{te:TE}{pos:Pos}
theorem K9 {zl:qc}{σ:St}{H2:Hp}{s2:Shared}{fp:qv}{C:Addr}(I2:Inv X zl σ H2 s2)(S:OE Bz scope ON N zS)(DB:X.env.scope=Bz)(f2:∀b∈fp,gq X zl H2 b)
  (Ll:∀b∈fp,b < s2.heap.objs.size) (hC:s2.heap.objs.size<=C):(X.comp N scope C s2 H2 fp).Ok:=by
 have He:∀x∈scope.names,x.2=.free->∃c,X.env.cells.lookup x.1=some c:=λx hx e=>I2.ok.has x.1 (by
  rcases S.fr x hx e with z | z
  ·exact .inl (by rw[Env.kindOf,DB];exact z)
  ·exact .inr (by rw[Env.kindOf,DB];exact z))
 refine⟨I2.mod,S.kind,I2.ok.glob,I2.ok.blt,hC,λx y c h1 h2=>I2.ok.inj x y c (dh He h1) (dh He h2),λx h=>?_,λx c h=>by simp at h,I2.ok.hd,I2.ok.frames,.inl rfl,λb hb=>⟨?_,λx c e=>?_⟩,λb o e=>I2.bs b o e,?_,λb o e hb=>?_,λb hb hz=>?_,I2.stack,I2.F8⟩
 ·have hm:(x,NameKind.free)∈scope.names:=by
   rcases h with h | h
   ·exact n6 (env:=X.env) S.Yy (.inl rfl) h
   ·exact n6 (env:=X.env) S.Yy (.inr rfl) h
  exact ut hm
 ·exact bd (bi (Ll b hb) hC)
 ·exact(f2 b hb).2.2.2.2.1 x c (dh He e)
 ·exact dn I2.ok.LX I2.sz
 ·rcases(f2 b hb).2.2.2.1 with z | z
  ·exact I2.ok.KW b o e z
  ·exact absurd (bi (ap e) (dn I2.ok.LX z)) (eM _)
 ·obtain⟨_,f1,f3,_⟩:=f2 b hb
  rcases be.mp (I2.D9 b hz) with z | z
  ·exact f1 z
  ·exact f3 z
theorem Gd {zl:qc}{s:Shared}{σ:St}{H:Hp}{Q:VK}{RR:Value->Addr->Result->Shared->Prop}{Mo:Str}(hc:X.calm=true)(S:OE Bz scope ON N zS)(DB:X.env.scope=Bz)(hN:X.N=ON)
  (hi:PI X tg iter wi) (hg:∀C s H fp,PG (X.comp N scope C s H fp) tg g) (ht:∀C s H fp,p_ (X.comp N scope C s H fp) ifs tt) (he:∀C s H fp,PE (X.comp N scope C s H fp) elt te)
  (I:Inv X zl σ H s) (h:fX wi zS g tt te σ H Q)
  (fin:∀D C H' s',Inv X zl σ H' s'->gq X zl H' C->(∃m,s'.heap.Ns C m)->Q (.ref D) H'->RR (.ref D) C (.ok .next) s'):
  wpAny (model X.prog X.w) X.A (eval iter X.env) (λx s₁=>wpAny (model X.prog X.w) X.A (pyIter x) (λQP s₂=>wpAny (model X.prog X.w) X.A (newList []) (λacc s₃=>
   wpAny (model X.prog X.w) X.A (newFunctionEnv scope X.env.globals (jE X.env scope.names) [] X.env.qual none .none (some X.env)) (λMA s₄=>
    codeAny (model X.prog X.w) X.A (.compStart (.ListComp elt [⟨tg,iter,ifs,0⟩] scope pos) 0 QP acc { MA with scope:=relabel scope X.env }) (RR acc MA.locals) s₄) X.xe s₃) X.xe s₂) X.xe s₁) X.xe s:=by
 refine AE (hi zl s σ H _ I h.ex) λv s1 h1=>AE h1 λQP s2 h2=>?_
 obtain⟨it,fp,tn,J,H2,e,I2,T,Ta,f2,q2⟩:=h2
 subst e
 refine b0 (wpAny_newFunctionEnv S.Yy (by intro y hy;simp at hy) (λh₁ Pd MB=>?_) S.kind)
 dsimp only at Pd MB ⊢
 generalize TN:s2.heap.push { cls:=.type "list",dict:=none,data:=.seq ([]:qh).toArray }=P2 at Pd MB ⊢
 generalize hD:s2.heap.objs.size=D
 generalize VO:P2.objs.size=C at Pd MB ⊢
 have VP:C=D+1:=by rw[← VO,← TN,cy,hD]
 have FE:s2.heap.objs.size<=C:=by rw[VP,hD];exact gS _
 have Ll:∀b∈fp,b < s2.heap.objs.size:=λb hb=>by
  obtain⟨o,e,_⟩:=T.obj 0 _ Ta b hb
  exact ap e
 have below:∀b,b < s2.heap.objs.size->b≠C:=λb hb=>bd (bi hb FE)
 have k1:∀b o,s2.heap.get? b=some o->h₁.get? b=some o:=λb o e=>MB.extBut b o (below b (ap e)) (ac _ (TN▸ac _ e))
 have Xu:D≠C:=by rw[VP];exact bd (gp _)
 have gD:h₁.get? D=some { cls:=.type "list",dict:=none,data:=.seq ([]:qh).toArray }:=by
  refine MB.extBut D _ Xu (ac _ ?_)
  rw[← TN,← hD]
  exact al _ rfl
 have nD:H2 D=none:=I2.Au.fresh (by rw[hD];exact aw _)
 have nC:H2 C=none:=I2.Au.fresh FE
 have He:∀x∈scope.names,x.2=.free->∃c,X.env.cells.lookup x.1=some c:=λx hx e=>I2.ok.has x.1 (by
  rcases S.fr x hx e with z | z
  ·exact .inl (by rw[Env.kindOf,DB];exact z)
  ·exact .inr (by rw[Env.kindOf,DB];exact z))
 obtain⟨W,⟨m0,w0⟩,turn⟩:=q2 D nD
 have IY:Inv (X.comp N scope C s2 H2 fp) [] (bT zS σ) (upd H2 D (.lst [])) { s2 with heap:=h₁,toks:=s2.toks+([]:List (Str×Value)).length }:=by
  have hp:s2.heap.objs.size<=D:=by rw[hD];exact aw _
  refine⟨K9 I2 S DB f2 Ll FE,rfl,I2.bare,Un.laid k1 hp nD,⟨_,Pd,λj x v e1 e2 e3=>?_⟩,λx c e=>?_,?_,λx c e=>?_,λp hp=>by simp at hp,I2.Au.laid k1 hp ⟨cb _,[],_,.nil,gD⟩,?_⟩
  ·have Lm:(zS.map (p6 σ))[j]?=some (some v):=e2
   rw[cm] at Lm
   cases q:zS[j]? with
   | none=>rw[q] at Lm;cases Lm
   | some o=>
    rw[q] at Lm
    have e4:p6 σ o=some v:=bg Lm
    cases o with
    | none=>cases e4
    | some i=>
     have hσ:σ[i]?=some (some v):=by
      have e5:(σ[i]?).getD none=some v:=e4
      cases z:σ[i]? with
      | none=>rw[z] at e5;cases e5
      | some w=>rw[z] at e5;exact d5 some e5
     obtain⟨TR,IJ⟩:=S.at q e1
     have hk:X.env.kindOf x=some .cell\/X.env.kindOf x=some .free:=by
      rcases S.fr _ (mem_of_lookup IJ) rfl with z | z
      ·exact .inl (by rw[Env.kindOf,DB];exact z)
      ·exact .inr (by rw[Env.kindOf,DB];exact z)
     obtain⟨m,hn,hl⟩:=I2.loc
     obtain⟨u,r,l⟩:=hl i x v (by rw[hN];exact TR) hσ (by
      rcases hk with z | z
      ·exact .inr (.inl z)
      ·exact .inr (.inr z))
     refine⟨u,r,?_⟩
     rcases l with ⟨z,_⟩ | ⟨_,c,N9,FO⟩
     ·rcases hk with y | y
      ·rw[y] at z;cases z
      ·rw[y] at z;cases z
     ·obtain⟨c',Ki⟩:=ut (env:=X.env) (mem_of_lookup IJ)
      have e6:=dh He Ki
      rw[N9] at e6
      have e7:c=c':=bg e6
      subst e7
      obtain⟨oc,ho,hd⟩:=FO
      exact .inr ⟨j7 (env:=X.env) IJ,c,Ki,⟨oc,k1 c oc ho,hd⟩⟩
  ·obtain⟨v,oc,ho,hd⟩:=I2.cell x c (dh He e)
   exact⟨v,oc,k1 c oc ho,hd⟩
  ·show upd H2 D (.lst []) C=none
   rw[ao (fe Xu)]
   exact nC
  ·have e':=dh He e
   obtain⟨v,oc,ho,hd⟩:=I2.cell x c e'
   show upd H2 D (.lst []) c=none
   rw[ao (λz=>absurd (ap ho) (by rw[z,hD];exact eM _))]
   exact I2.CC x c e'
  ·show (zS.map (p6 σ)).length=N.length
   rw[aI]
   exact S.len
 have EZ:∀{H':Hp},(∀b∈fp,H' b=none)->∀b∈fp,gq (X.comp N scope C s2 H2 fp) [] H' b:=λhn b hb=>by
  obtain⟨_,f1,f3,f4,f5,f6⟩:=f2 b hb
  refine⟨hn b hb,below b (Ll b hb),λhz=>?_,.inl hb,λx c e=>f5 x c (dh He e),λp hp=>by simp at hp⟩
  rcases be.mp (I2.D9 b hz) with z | z
  ·exact f1 z
  ·exact f3 z
 have back:∀{σ':St}{H':Hp}{s':Shared},Inv (X.comp N scope C s2 H2 fp) [] σ' H' s'->Inv X zl σ H' s':=λ{σ' H' s'} I'=>
  I2.QO (ch:=fp) I'.os I'.base I'.Au I'.bare λb hb=>let ⟨_,f1,_,f4,f5,f6⟩:=f2 b hb;⟨f4,f1,f5,f6⟩
 have VQ:tn 0 h₁:=T.keep 0 _ _ Ta λb _ o e=>k1 b o e
 have Yz:∀b∈fp,upd H2 D (.lst []) b=none:=λb hb=>by
  rw[ao (λz=>absurd (Ll b hb) (by rw[z,hD];exact eM _))]
  exact(f2 b hb).1
 have loop:codeAny (model X.prog X.w) X.A (.compLoop (.ListComp elt [⟨tg,iter,ifs,0⟩] scope pos) 0 (.ref it) (.ref D) (compEnvC scope (jE X.env scope.names) C X.env)) (RR (.ref D) C) { s2 with heap:=h₁,toks:=s2.toks+([]:List (Str×Value)).length }:=by
  refine gk (λn s'=>∃i ys H',Inv (X.comp N scope C s2 H2 fp) [] (bT zS σ) H' s'/\tn i s'.heap/\(∀b∈fp,H' b=none)/\W i n ys H') ?_ m0 ⟨0,[],_,IY,VQ,Yz,w0⟩
  rintro n s3 ⟨i,ys,H3,I3,QU,QY,w3⟩
  obtain⟨hDy,MD⟩:=turn i n ys H3 w3
  rcases MD with ⟨stop,qn⟩ | ⟨go,Nx,YA,step⟩
  ·refine AE (T.done (X.comp N scope C s2 H2 fp) rfl rfl rfl hc i [] s3 (bT zS σ) H3 _ I3 (EZ QY) QU stop) ?_
   rintro r s4 ⟨hr,I4⟩
   subst hr
   obtain⟨m,hm,_⟩:=I4.loc
   exact fin D C H3 s4 (back I4) (I2.F9 FE I4.free) ⟨m,hm⟩ qn
  ·refine AE (T.item (X.comp N scope C s2 H2 fp) rfl rfl rfl hc i [] s3 (bT zS σ) H3 _ I3 (EZ QY) QU go) ?_
   rintro r s4 ⟨u,hr,h4⟩
   subst hr
   refine AE h4 ?_
   rintro _ s5 ⟨x,H5,I5,r5,y5,L1,Vy⟩
   have Vz:=I5.pinned (EZ Vy) (T.obj _ _ L1)
   refine AE (hg C s2 H2 fp _ s5 (bT zS σ) H5 x u _ Vz r5 (step x H5 y5)) ?_
   rintro _ s6 ⟨σ6,H6,I6,VR,q6⟩
   refine AE (ht C s2 H2 fp _ s6 σ6 H6 _ I6 q6) ?_
   rintro b s7 ⟨H7,I7,q7⟩
   have again:∀{EE:List V}{H7:Hp}{s7:Shared},Inv (X.comp N scope C s2 H2 fp) ([]++mK fp s5.heap) σ6 H7 s7->Nx EE H7->∃m,m < n/\∃i ys H',Inv (X.comp N scope C s2 H2 fp) [] (bT zS σ) H' s7/\tn i s7.heap/\(∀b∈fp,H' b=none)/\W i m ys H':=λ{EE H7 s7} I7 n7=>by
    obtain⟨m',hm,w7⟩:=YA EE H7 n7
    refine⟨m',hm,i+1,EE,H7,I7.CL.weak VR.1 VR.2,T.keep _ _ _ L1 λb hb o e=>(I7.pin (b,o) (bp _ (bp _ (fU hb e)))).1,λb hb=>?_,w7⟩
    obtain⟨o,e,d⟩:=T.obj _ _ L1 b hb
    exact(I7.pin (b,o) (bp _ (bp _ (fU hb e)))).2.1
   cases b with
   | false=>
    rw[ay ba] at q7 ⊢
    exact again I7 q7
   | true=>
    rw[bb rfl] at q7 ⊢
    refine AE (he C s2 H2 fp _ s7 σ6 H7 _ I7 q7) ?_
    rintro xv s8 ⟨y,H8,I8,r8,YB,YC,n8⟩
    refine AE (jy (X:=X.comp N scope C s2 H2 fp) _ s8 σ6 H8 (.ref D) [y] (.ref D) [xv] (λ_ H9=>Nx (ys++[y]) H9) I8 rfl (.cons r8 .nil) ⟨D,ys,y,rfl,rfl,YB,YC,n8⟩) ?_
    rintro _ s9 ⟨_,H9,I9,_,n9⟩
    exact again I9 n9
 subst hD VO
 exact codeAny_compStart_list loop (T.self _ 0 _ _ _ VQ loop)
theorem HY {zl:qc}{s:Shared}{σ:St}{H:Hp}(S:OE Bz scope ON N zS)(DB:X.env.scope=Bz)(I:Inv X zl σ H s):closureFor scope X.env=pure (jE X.env scope.names):=
 pH λx hx e=>I.ok.has x.1 (by
  rcases S.fr x hx e with z | z
  ·exact .inl (by rw[Env.kindOf,DB];exact z)
  ·exact .inr (by rw[Env.kindOf,DB];exact z))
theorem Inv.RF {zl:qc}{s':Shared}{σ:St}{H':Hp}{C:Addr}{h':Heap}(I:Inv X zl σ H' s')(f:gq X zl H' C)(hs:Heap.SameBut C s'.heap h'):Inv X zl σ H' { s' with heap:=h' }:=
 I.turned (t':=s'.toks) (it:=C) (λb o hb e=>(hs.2 b hb).trans e) f.1 f.2.1 f.2.2.2.1 f.2.2.2.2.1 f.2.2.2.2.2
theorem qN (S:OE Bz scope ON N zS)(hi:PI X tg iter wi)(hg:∀C s H fp,PG (X.comp N scope C s H fp) tg g)(ht:∀C s H fp,p_ (X.comp N scope C s H fp) ifs tt)(he:∀C s H fp,PE (X.comp N scope C s H fp) elt te)
  (hc:X.calm=true:=by rfl) (DB:X.env.scope=Bz:=by rfl) (hN:X.N=ON:=by rfl) (hs:∀x,foldedSetIterable iter X.env x=pure x:=by intro _;rfl):PE X (.ListComp elt [⟨tg,iter,ifs,0⟩] scope pos) (fX wi zS g tt te):=by
 intro zl s σ H Q I h
 rw[eval_ListComp]
 refine ng (use:=none) rfl hs (HY S DB I) S.kind S.loc ?_
 refine Gd (RR:=λacc C=>compPost (model X.prog X.w) X.A X.xe none (EP X zl σ Q) acc C) (Mo := "") hc S DB hN hi hg ht he I h λD C H' s' I' f hm q=>?_
 obtain⟨m,hm⟩:=hm
 exact⟨m,hm,λh' C6=>⟨.ref D,H',I'.RF f C6,rfl,q⟩⟩
end
section
variable {tt:TT}{te:TE}{Q:VK}{σ0 rest:St}{H:Hp}{D:Addr}
theorem Ge {a:Addr}{xs:List V}(hσ:σ0=none::rest)(Pv:Nat->List V->Hp->Prop)(h0:Pv 0 [] (upd H D (.lst [])))
  (hl:∀i ys H,i<=xs.length->Pv i ys H->AS K H a xs/\H D=some (.lst ys))
  (hs:∀i x ys H,xs[i]?=some x->Pv i ys H->tt (some x::rest) H λb H3=>if b=true then te (some x::rest) H3 λy H4=>H4 D=some (.lst ys)/\ys.length < sizeLine/\Pv (i+1) (ys++[y]) (upd H4 D (.lst (ys++[y]))) else Pv (i+1) ys H3)
  (hd:∀ys H,Pv xs.length ys H->Q (.ref D) H):
  ∃W:Nat->Nat->List V->Hp->Prop,(∃m,W 0 m [] (upd H D (.lst [])))/\∀i m ys H,W i m ys H->H D=some (.lst ys)/\(((OR K a).stop i H/\Q (.ref D) H) \/
   ((OR K a).go i H/\∃N:List V->Hp->Prop,(∀EE H',N EE H'->∃m',m' < m/\W (i+1) m' EE H')/\∀x H',(OR K a).LZ i H x H'->aW 0 x σ0 H' fun σ2 H2=>Kp σ0 σ2/\tt σ2 H2 λb H3=>
    if b=true then te σ2 H3 λy H4=>H4 D=some (.lst ys)/\ys.length < sizeLine/\N (ys++[y]) (upd H4 D (.lst (ys++[y]))) else N ys H3)):=by
 subst hσ
 refine⟨λi m ys H=>m=xs.length - i/\i<=xs.length/\Pv i ys H,⟨xs.length,by simp,cb _,h0⟩,?_⟩
 rintro i m ys H ⟨rfl,hi,p⟩
 obtain⟨q,qD⟩:=hl i ys H hi p
 refine⟨qD,?_⟩
 by_cases A0:i < xs.length
 ·refine .inr ⟨⟨xs,xs[i],q,by simp[A0]⟩,Pv (i+1),λEE H' p'=>⟨xs.length - (i+1),by omega,rfl,A0,p'⟩,λx H' y=>?_⟩
  obtain⟨e,y⟩:=y
  subst e
  exact⟨vI,hs i x ys _ (y xs q) p⟩
 ·have e:i=xs.length:=by omega
  subst e
  exact .inl ⟨⟨xs,q,aw _⟩,hd ys H p⟩
theorem H_ {a:Addr}{xs:List V}(hσ:σ0=none::rest)(Pv:Nat->List V->Hp->Prop)(h0:Pv 0 [] (upd H D (.lst [])))
  (hl:∀i ys H,i<=xs.length->Pv i ys H->BU K H a xs/\H D=some (.lst ys))
  (hs:∀i x ys H,xs[i]?=some x->Pv i ys H->tt (some x::rest) H λb H3=>if b=true then te (some x::rest) H3 λy H4=>H4 D=some (.lst ys)/\ys.length < sizeLine/\Pv (i+1) (ys++[y]) (upd H4 D (.lst (ys++[y]))) else Pv (i+1) ys H3)
  (hd:∀ys H,Pv xs.length ys H->Q (.ref D) H):
  ∃W:Nat->Nat->List V->Hp->Prop,(∃m,W 0 m [] (upd H D (.lst [])))/\∀i m ys H,W i m ys H->H D=some (.lst ys)/\(((OS K a).stop i H/\Q (.ref D) H) \/
   ((OS K a).go i H/\∃N:List V->Hp->Prop,(∀EE H',N EE H'->∃m',m' < m/\W (i+1) m' EE H')/\∀x H',(OS K a).LZ i H x H'->aW 0 x σ0 H' fun σ2 H2=>Kp σ0 σ2/\tt σ2 H2 λb H3=>
    if b=true then te σ2 H3 λy H4=>H4 D=some (.lst ys)/\ys.length < sizeLine/\N (ys++[y]) (upd H4 D (.lst (ys++[y]))) else N ys H3)):=by
 subst hσ
 refine⟨λi m ys H=>m=xs.length - i/\i<=xs.length/\Pv i ys H,⟨xs.length,by simp,cb _,h0⟩,?_⟩
 rintro i m ys H ⟨rfl,hi,p⟩
 obtain⟨q,qD⟩:=hl i ys H hi p
 refine⟨qD,?_⟩
 by_cases A0:i < xs.length
 ·refine .inr ⟨⟨xs,xs[i],q,by simp[A0]⟩,Pv (i+1),λEE H' p'=>⟨xs.length - (i+1),by omega,rfl,A0,p'⟩,λx H' y=>?_⟩
  obtain⟨e,y⟩:=y
  subst e
  exact⟨vI,hs i x ys _ (y xs q) p⟩
 ·have e:i=xs.length:=by omega
  subst e
  exact .inl ⟨⟨xs,q,aw _⟩,hd ys H p⟩
theorem Dk {lo:Int}{n:Nat}(hσ:σ0=none::rest)(Pv:Nat->List V->Hp->Prop)(h0:Pv 0 [] (upd H D (.lst [])))
  (hl:∀i ys H,i<=n->Pv i ys H->H D=some (.lst ys))
  (hs:∀i ys H,i < n->Pv i ys H->tt (some (.int (lo+i))::rest) H λb H3=>if b=true then te (some (.int (lo+i))::rest) H3 λy H4=>H4 D=some (.lst ys)/\ys.length < sizeLine/\Pv (i+1) (ys++[y]) (upd H4 D (.lst (ys++[y]))) else Pv (i+1) ys H3)
  (hd:∀ys H,Pv n ys H->Q (.ref D) H):
  ∃W:Nat->Nat->List V->Hp->Prop,(∃m,W 0 m [] (upd H D (.lst [])))/\∀i m ys H,W i m ys H->H D=some (.lst ys)/\(((OT lo n).stop i H/\Q (.ref D) H) \/
   ((OT lo n).go i H/\∃N:List V->Hp->Prop,(∀EE H',N EE H'->∃m',m' < m/\W (i+1) m' EE H')/\∀x H',(OT lo n).LZ i H x H'->aW 0 x σ0 H' fun σ2 H2=>Kp σ0 σ2/\tt σ2 H2 λb H3=>
    if b=true then te σ2 H3 λy H4=>H4 D=some (.lst ys)/\ys.length < sizeLine/\N (ys++[y]) (upd H4 D (.lst (ys++[y]))) else N ys H3)):=by
 subst hσ
 refine⟨λi m ys H=>m=n - i/\i<=n/\Pv i ys H,⟨n,by simp,cb _,h0⟩,?_⟩
 rintro i m ys H ⟨rfl,hi,p⟩
 refine⟨hl i ys H hi p,?_⟩
 by_cases A0:i < n
 ·refine .inr ⟨A0,Pv (i+1),λEE H' p'=>⟨n - (i+1),by omega,rfl,A0,p'⟩,λx H' y=>?_⟩
  obtain⟨e,y⟩:=y
  subst e y
  exact⟨vI,hs i ys _ A0 p⟩
 ·have e:i=n:=by omega
  subst e
  exact .inl ⟨aw _,hd ys H p⟩
end
section
variable {X:Cx}{zl:qc}{σ:St}{H H':Hp}{s:Shared}{h':Heap}
theorem Inv.Kt {t':Nat}{ch:qv}{a:Addr}{o:HO}(I:Inv X zl σ H s)(k:∀b u,b∉ch->s.heap.get? b=some u->h'.get? b=some u)(ht:∀b u,s.heap.get? b=some u->∃u',h'.get? b=some u')(hf:∀b∈ch,gq X zl H b)
  (hp:s.heap.objs.size<=a) (new:Ap X.prog X.w X.K (upd H a o) h' a o):Inv X zl σ (upd H a o) { s with heap:=h',toks:=t' }:=by
 have hn:H a=none:=I.Au.fresh hp
 have LY:∀b u,H b=some u->b∉ch:=λb u e hb=>by
  rw[(hf b hb).1] at e;cases e
 have na:∀b u,s.heap.get? b=some u->b≠a:=λb u e=>bd (bi (ap e) hp)
 have YD:CI X.prog X.w X.K (upd H a o) h':=λb u e=>by
  by_cases hb:b=a
  ·subst hb;rw[aA] at e;cases e;exact new
  ·rw[ao hb] at e
   refine(I.Au b u e).HK (λc v hc q=>k c v ?_ q) (λc q=>by rw[ao (aq q hn)];exact q) λc xs q=>by rw[ao (aq q hn)];exact q
   rcases hc with rfl | hc
   ·exact LY c u e
   ·exact LY c _ hc
 refine I.step (g':=s.gens) (d':=s.drawn) (ch:=ch) (λb hb=>let ⟨_,f1,_,f4,f5,f6⟩:=hf b hb;⟨f4,f1,f5,f6⟩) (λb o _ _ hc e _=>k b o hc e) (λb o _ _ hc e _=>⟨o.slots,k b o hc e⟩)
  (λb o _ e n=>by rw[ao (na b o e)];exact n) (λb o _ e=>ht b o e) (λb xs q=>by rw[ao (aq q hn)];exact q) (λb u xs q=>by rw[ao (aq q hn)];exact q)
  (λb ps q=>⟨#[],by rw[ao (aq q hn),q];simp⟩) (λm hm=>?_) YD I.bare
 obtain⟨oL,es,ep,ho,r⟩:=hm
 have nL:X.env.locals∉ch:=λhb=>(hf _ hb).2.1 rfl
 exact⟨oL,es,ep,k _ oL nL ho,r⟩
end
def YE (x:Str):It:=⟨λi _=>i < x.cps.size,λi H v H'=>H'=H/\∃c,x.cps[i]?=some c/\v=.str ⟨#[c]⟩,λi _=>i=x.cps.size⟩
theorem yW {P:Program}{w:World}{tg:Expr}(it:Addr)(x:Str)(t:Tok)(ty:String)(TK:["enumerate","zip","dict_itemiterator","dict_reverseitemiterator","odict_iterator","itertools.zip_longest","itertools.pairwise"].contains ty=false)
  (W:∀A:Around,A.handled=none->Walks P w A it [it] [it] x.cps.size (SignAt x) (λi h=>h.IsStrIter it ty x t i))
  (slf:∀(A:Around) (i:Nat) (s:Shared) (Q:oT) (E:oT),s.heap.IsStrIter it ty x t i->Q (.ref it) s->wpAny (model P w) A (pyIter (.ref it)) Q E s):
  Turn P w K tg (YE x) [it] it (λi h=>h.IsStrIter it ty x t i) where
 mem:=by simp
 obj:=λi h st b hb=>by
  have e:b=it:=by simpa using hb
  subst e
  obtain⟨o,e,c,d⟩:=st
  exact⟨o,e,λv z=>by rw[d] at z;cases z⟩
 keep:=λi h h' st k=>by
  obtain⟨o,e,r⟩:=st
  exact⟨o,k it (by simp) o e,r⟩
 item:=by
  intro X hP hw hK hc i zl s σ H E I hf st hg
  subst hP hw hK
  obtain⟨f0,f1,f2,f3,f4,f5⟩:=hf it (by simp)
  refine(W X.A (I.ok.hd hc)).item i s _ _ hg st λv h' tk hv A7 kk=>?_
  obtain⟨c,u,hx,rfl⟩:=hv
  have I1:Inv X zl σ H { s with heap:=h',toks:=tk }:=I.turned (λb o hb e=>kk b o (by simpa using hb) e) f0 f1 f3 f4 f5
  obtain⟨o,e,cc,d⟩:=id A7
  exact⟨_,rfl,t8 (s:={ s with heap:=h',toks:=tk }) e cc d TK ⟨.str ⟨#[c]⟩,H,I1,⟨u,rfl⟩,⟨rfl,c,hx,rfl⟩,A7,λb hb=>(hf b hb).1⟩⟩
 done:=by
  intro X hP hw hK hc i zl s σ H E I hf st hg
  subst hP hw hK
  obtain⟨f0,f1,f2,f3,f4,f5⟩:=hf it (by simp)
  have hg':i=x.cps.size:=hg
  subst hg'
  exact(W X.A (I.ok.hd hc)).done s _ _ st λh' tk kk=>⟨rfl,I.turned (λb o hb e=>kk b o (by simpa using hb) e) f0 f1 f3 f4 f5⟩
 self:=slf
section
variable {X:Cx}{tg:Expr}
def R7 (tl:TE):TI:=fun σ H R=>tl σ H λx H1=>∃z,x=.str z/\R (YE z) H1
theorem Ox {l:Expr}{tl:TE}(hl:PE X l tl):PI X tg l (R7 tl):=by
 intro zl s σ H R I h
 refine AE (hl zl s σ H _ I h) ?_
 rintro v s1 ⟨x,H1,I1,r1,q1⟩
 obtain⟨z,e,q⟩:=q1
 subst e
 obtain⟨t,rfl⟩:=r1
 have fp:∀b∈[s1.heap.objs.size],gq X zl H1 b:=λb hb=>by
  have e:b=s1.heap.objs.size:=by simpa using hb
  subst e
  exact I1.F9 (aw _) (I1.Au.fresh (aw _))
 cases ha:z.cps.all (· < 128)
 ·exact wpAny_pyIter_wide ha ⟨s1.heap.objs.size,[s1.heap.objs.size],_,_,H1,rfl,I1.kept (t':=s1.toks) λb o e=>ac _ e,yW _ z t "str_iterator" (by decide) (λA hA=>Walks.strWide hA _ z t) (λA i s Q E st h=>wpAny_pyIter_striter_wide st h),⟨_,al _ rfl,rfl,rfl⟩,fp,q⟩
 ·exact wpAny_pyIter_ascii ha ⟨s1.heap.objs.size,[s1.heap.objs.size],_,_,H1,rfl,I1.kept (t':=s1.toks) λb o e=>ac _ e,yW _ z t "str_ascii_iterator" (by decide) (λA hA=>Walks.strAscii hA _ z t) (λA i s Q E st h=>wpAny_pyIter_striter_ascii st h),⟨_,al _ rfl,rfl,rfl⟩,fp,q⟩
end
section
variable {X:Cx}
theorem qb:∀{zs:qq}{us:qh},Vals (zs.map V.str) us->∃l:List (Str×Tok),us=strValues l/\l.map (·.1)=zs
 | [],_,r=>by cases r;exact⟨[],rfl,rfl⟩
 | z::zs,_,r=>by
  cases r with
  | cons r1 r2=>
   obtain⟨t,rfl⟩:=r1
   obtain⟨l,rfl,e⟩:=qb r2
   exact⟨(z,t)::l,rfl,by rw[a0,e]⟩
def rJoin (K:W.Frag):V->List V->Hp->VK->Prop:=λx vs H Q=>∃z l zs,x=.str z/\vs=[.ref l]/\AS K H l (zs.map V.str)/\JoinOk z zs=true/\Q (.str (Str.join z zs)) H
theorem K_:Xp X "str.join" (rJoin X.K):=by
 intro zl s σ H x vs v us Q I rx rv h
 obtain⟨z,l,zs,rfl,rfl,hl,ok,q⟩:=h
 obtain⟨t,rfl⟩:=rx
 obtain⟨u,rfl,ru⟩:=rv.one
 cases ru
 obtain⟨zw,r,p,_⟩:=I.list hl
 obtain⟨l',e,e2⟩:=qb r
 subst e
 refine SC.join p.isList e2 ok λt' k=>⟨.str (Str.join z zs),H,I.tok _,⟨t',?_⟩,q⟩
 unfold Txt.join
 rw[StrLaws.glued_eq_join]
theorem vJ (hc:X.calm=true:=by rfl):AW X (.type "list") (λxs H Q=>∃p kvs,xs=[.ref p]/\H p=some (.dK kvs)/\∀l,H l=none->Q (.ref l) (upd H l (.lst (kvs.map λkv=>kV kv.1)))):=by
 intro zl s σ H xs us Q I r h
 obtain⟨p,kvs,rfl,hp,q⟩:=h
 obtain⟨u,rfl,rx⟩:=vals1 r
 cases rx
 obtain⟨hz,lo,vs,rel,hD⟩:=xV I.Au hp
 obtain⟨o,es,ep,ho,hx,hd,hk,hpr,hn⟩:=hD
 have hlen:=rel.length
 refine W.kdl_call (W.kdl_dict (knd:=cY X.prog X.w) (kvs:=vs) (ep:=ep) lo) (I.ok.hd hc) ⟨o,es,ho,hx,hd,hk,hpr,hn⟩ (by omega) λh' tk E7 c' kk hS BA=>?_
 have hv:Vals (kvs.map λkv=>kV kv.1) E7.toList:=by
  have gen:∀(l:List (Key×V)) (l2:List (Key×Value)) (us:qh),KV l l2->us.length=l2.length->(∀(j:Nat) (v:Value),us[j]?=some v->∃k x,l2[j]?=some (k,x)/\(cY X.prog X.w).is k v=true)->Vals (l.map λkv=>kV kv.1) us:=by
   intro l
   induction l with
   | nil=>
    intro l2 us hr hl hu
    cases hr
    have:us=[]:=fE.mp hl
    subst this
    exact .nil
   | cons a r ih=>
    intro l2 us hr hl hu
    cases hr with
    | @cons _ b _ r2 h1 h2=>
     cases us with
     | nil=>simp at hl
     | cons v us=>
      obtain⟨k,x,e,hk⟩:=hu 0 v rfl
      have e':b=(k,x):=by simpa using e
      have ek:a.1=k:=by rw[h1.1,e']
      refine .cons ?_ (ih r2 us h2 (by simpa using hl) λj w e=>by simpa using hu (j+1) w (by simpa using e))
      show RelV (kV a.1) v
      rw[ek]
      rcases bH hk with ⟨i,t,rfl,rfl⟩ | ⟨x,t,rfl,rfl⟩
      ·exact⟨t,rfl⟩
      ·exact⟨t,rfl⟩
  refine gen kvs vs E7.toList rel (by rw[f8];exact BA.1) λj v e=>BA.2 j v (by rw[← oI];exact e)
 refine⟨.ref s.heap.objs.size,_,I.laid kk (aw _) (show Ap X.prog X.w X.K _ h' _ (.lst _) from ⟨?_,E7.toList,c',hv,?_⟩),rfl,q _ I.fresh⟩
 ·rw[aI];omega
 ·simpa using hS
mutual
inductive Dt (K:W.Frag) (H:Hp):V->PyData->Prop
 | zD:Dt K H .zD .none
 | bl (b:Bool):Dt K H (.bl b) (.bool b)
 | int (i:Int):Dt K H (.int i) (.int i)
 | str (x:Str):Dt K H (.str x) (.str x)
 | lst {a:Addr}{xs:List V}{ds:List PyData}:AS K H a xs->Kx K H xs ds->Dt K H (.ref a) (.list ds)
 | tup {a:Addr}{xs:List V}{ds:List PyData}:BU K H a xs->Kx K H xs ds->Dt K H (.ref a) (.tuple ds)
inductive Kx (K:W.Frag) (H:Hp):List V->List PyData->Prop
 | nil:Kx K H [] []
 | cons {x:V}{xs:List V}{d:PyData}{ds:List PyData}:Dt K H x d->Kx K H xs ds->Kx K H (x::xs) (d::ds)
end
mutual
theorem Dt.reads {zl:qc}{σ:St}{H:Hp}{s:Shared}(I:Inv X zl σ H s):∀{x:V}{d:PyData}{u:Value},Dt X.K H x d->RelV x u->∃as,Reads s.heap u d as
 | _,_,_,.zD,r=>by cases r;exact⟨[],.none⟩
 | _,_,_,.bl b,r=>by cases r;exact⟨[],.bool b⟩
 | _,_,_,.int i,r=>by obtain⟨t,rfl⟩:=r;exact⟨[],.int i t⟩
 | _,_,_,.str x,r=>by obtain⟨t,rfl⟩:=r;exact⟨[],.str x t⟩
 | _,_,_,.lst hq hs,r=>by
  cases r
  obtain⟨zw,rv,pl,_⟩:=I.list hq
  obtain⟨o,e,c,n,d⟩:=pl.isList
  obtain⟨as,ra⟩:=Kx.reads I hs rv
  exact⟨_,.list e c d (by simpa using ra)⟩
 | _,_,_,.tup hq hs,r=>by
  cases r
  obtain⟨zw,rv,pl,_⟩:=I.tuple hq
  obtain⟨o,e,c,n,d⟩:=pl
  obtain⟨as,ra⟩:=Kx.reads I hs rv
  exact⟨_,.tuple e c d (by simpa using ra)⟩
theorem Kx.reads {zl:qc}{σ:St}{H:Hp}{s:Shared}(I:Inv X zl σ H s):∀{xs:List V}{ds:List PyData}{us:qh},Kx X.K H xs ds->Vals xs us->∃as,ReadsAll s.heap us ds as
 | _,_,_,.nil,r=>by cases r;exact⟨[],.nil⟩
 | _,_,_,.cons h hs,r=>by
  cases r with
  | cons r1 r2=>
   obtain⟨as,ra⟩:=Dt.reads I h r1
   obtain⟨bs,rb⟩:=Kx.reads I hs r2
   exact⟨_,.cons ra rb⟩
end
theorem Oz (hu:X.A.units+64 < cLine):B2 X (compareOp .Eq) (λx y H Q=>∃d e,Dt X.K H x d/\Dt X.K H y e/\SeqAt.shaped d=true/\SeqAt.shaped e=true/\Q (.bl (PyData.eqv d e)) H):=by
 intro zl s σ H x y v u Q I rx ry h
 obtain⟨d,e,h1,h2,s1,s2,q⟩:=h
 obtain⟨as,ra⟩:=h1.reads I rx
 obtain⟨bs,rb⟩:=h2.reads I ry
 exact eq_dataH ra rb s1 s2 hu ⟨.bl _,H,I,rfl,q⟩
theorem OD (hu:X.A.units+64 < cLine):B2 X (compareOp .NotEq) (λx y H Q=>∃d e,Dt X.K H x d/\Dt X.K H y e/\SeqAt.shaped d=true/\SeqAt.shaped e=true/\Q (.bl (!PyData.eqv d e)) H):=by
 intro zl s σ H x y v u Q I rx ry h
 obtain⟨d,e,h1,h2,s1,s2,q⟩:=h
 obtain⟨as,ra⟩:=h1.reads I rx
 obtain⟨bs,rb⟩:=h2.reads I ry
 exact ne_dataH ra rb s1 s2 hu ⟨.bl _,H,I,rfl,q⟩
theorem Bd:AW X (.builtin "isinstance") (λxs H Q=>∃x n t b,xs=[x,.ty n]/\Dx X.K H x t/\W.kitOne X.K t (.type n)=some b/\Q (.bl b) H):=by
 intro zl s σ H xs us Q I r h
 obtain⟨x,n,t,b,rfl,ty,e,q⟩:=h
 obtain⟨u,w',rfl,r1,r2⟩:=vals2 r
 cases r2
 exact Fz I r1 ty e λtk=>⟨.bl b,H,I.tok _,rfl,q⟩
end
structure IL (P:Program)(w:World)(K:W.Frag)(mg:Str->Option Value)(base:Heap)(k:Nat)(x:Str)(ps:qq)(sp:Sp):Prop where
 ex:∃f fd,AX P w K mg base ED k f fd ps sp/\Binds K fd ps []/\W.keepIn K (.ref f)=true/\mg x=some (.ref f)
theorem OJ {P:Program}{w:World}{mg:Str->Option Value}{base:Heap}{k:Nat}{ps:qq}{sp:Sp}{st:Stmt}{f:Addr}(F:DA K x x st f fd)
  (hm:mg x=some (.ref f)) (hb:Binds K fd ps []) (G:AX P w K mg base ED k f fd ps sp):IL P w K mg base k x ps sp:=⟨f,fd,G,hb,F.kp,hm⟩
theorem eO {X:Cx}{k j:Nat}{ps:qq}{sp:Sp}{p pos:Pos}{e:Expr}{es:qo}{t:TA}(c:IL X.prog X.w X.K X.mg X.base k x ps sp)(hr:AN j X.A)(ha:PA X (e::es) t)(hle:k<=j:=by decide)(hg:Gl X x:=by rfl)
  (E5:(x == ("__debug__" : Str))=false:=by decide) (he:starEach (e::es) X.env=(false,eval e X.env)::starEach es X.env:=by rfl) (A2:(backTo pos (starEach es X.env)).any (·.1)=false:=by rfl):
  PE X (.Call (.Name x p) (e::es) [] pos) (fB sp [] E0 t):=by
 obtain⟨f,fd,G,hb,kp,hm⟩:=c.ex
 exact KR G (hr.mono hle) hg hm kp hb .nil uo ha E5 he A2
theorem aD {H:Hp}{p:Addr}(h:H p=none)(o:HO):zv H (upd H p o):=λb u q=>by rw[ao (aq q h)];exact q
theorem zv.new {H H':Hp}{p:Addr}(s:zv H H')(h:H' p=none)(o:HO):zv H (upd H' p o):=s.trans (aD h o)
theorem zv.over {H H':Hp}{p:Addr}(s:zv H H')(h:H p=none)(o:HO):zv H (upd H' p o):=λb u q=>by rw[ao (aq q h)];exact s b u q
theorem bY {n:Nat}(h:n<=1000000):n < sizeLine:=kD h (by decide)
section
variable (K:W.Frag){X:Cx}
theorem rY (h:X.K=K:=by rfl):L9 X (vD K):=by subst h;exact Kk
theorem La (h:X.K=K:=by rfl):L9 X (Di K):=by subst h;exact Mb
theorem jz (h:X.K=K:=by rfl):AW X (.builtin "len") (λxs H Q=>∃p ys,xs=[.ref p]/\(AS K H p ys\/BU K H p ys)/\Q (.int ys.length) H):=by subst h;exact pZ
theorem fY {e:Expr}{f:Str}{pos:Pos}{ta:TE}(he:PE X e ta)(hb:attributeBase e f X.env (eval e X.env)=eval e X.env:=by rfl)(h:X.K=K:=by rfl):PE X (.Attribute e f pos) (iM K ta f):=by subst h;exact Fy he hb
theorem Gg {o e:Expr}{es:qo}{to:TE}{t:TA}{name:Str}{apos AA:Pos}{T id:String}{r:V->List V->Hp->VK->Prop}(pa:PlainAttrs T)(slot:Slot T name id)(TK:typeOf (.builtin id)=pure (.type "method_descriptor"))(hm:Xp X id r)(ho:PE X o to)(ha:PA X (e::es) t)
  (BD:attributeBase o name X.env (eval o X.env)=eval o X.env:=by rfl)
  (ES:((backTo AA (starEach (e::es) X.env)).all (λx=>!x.1)&&(backToKw AA (keywordEach [] X.env)).all (λx=>x.1.isSome)
   && decide ((e::es).length+([]:List Keyword).length+(if ([]:List Keyword).isEmpty then 0 else 1) < 30))=true:=by rfl)
  (BE:(apos.endLine == AA.line)=true:=by rfl) (hs:starEach (e::es) X.env=(false,eval e X.env)::starEach es X.env:=by rfl) (IX:(backTo AA (starEach es X.env)).any (·.1)=false:=by rfl) (h:X.K=K:=by rfl):
  PE X (.Call (.Attribute o name apos) (e::es) [] AA) (U3 K T r to t):=by subst h;exact xW pa slot TK hm ho ha BD ES BE hs IX
end
noncomputable def lX (x:Str)(lo hi:Option Int):Str:=⟨((x.cps.toList.drop (HT.AK x.length 0 lo)).take (HT.AK x.length x.length hi - HT.AK x.length 0 lo)).toArray⟩
theorem Lb (lo hi:Option Int)(n:Nat):Builtin.Str.strSliceIndices lo hi 1 n=(List.range (HT.AK n n hi - HT.AK n 0 lo)).map (HT.AK n 0 lo+·):=by
 rw[← sliceRange_one]
 unfold Builtin.Str.strSliceIndices
 have cl:∀(o:Option Int) (d:Nat),d<=n->(match o with | none=>(d:Int) | some i=>let i:=if i < 0 then i+(n:Int) else i;if (1:Int) > 0 then max 0 (min i (n:Int)) else max (-1) (min i ((n:Int) - 1)))=((HT.AK n d o:Nat):Int):=λo d hd=>by
  cases o with
  | none=>rfl
  | some i=>
   simp only[HT.AK,show (1:Int) > 0 by decide,fR]
   by_cases h:i < 0
   ·simp only[h,fR] <;> omega
   ·simp only[h,fI] <;> omega
 have c1:=cl lo 0 (cb _)
 have c2:=cl hi n (aw _)
 simp only[show (1:Int) > 0 by decide,fR] at c1 c2 ⊢
 exact congr (d5 sliceRange c1) c2▸rfl
theorem Ia (x:Str)(t:Tok)(l u:Option (Int×Tok)){Q:oT}{s:Shared}(hl:x.length<=sizeLine)
  (h:∀t' s',(s'=s\/s'={ s with toks:=s.toks+1 })->Q (.str (lX x (l.map (·.1)) (u.map (·.1))) t') s'):(sliceMade x t l u none).post Q s:=by
 unfold sliceMade slicePicked
 have e:Builtin.Str.strSliceIndices (l.map (·.1)) (u.map (·.1)) ((((none:Option (Int×Tok)).map (·.1)).getD 1)) x.length=_:=Lb (l.map (·.1)) (u.map (·.1)) x.length
 rw[e]
 have hp:=pick_run x.cps (HT.AK x.length 0 (l.map (·.1))) (HT.AK x.length x.length (u.map (·.1)) - HT.AK x.length 0 (l.map (·.1)))
 have hs:HT.AK x.length x.length (u.map (·.1))<=x.length:=HT.L7 _ _ (aw _) _
 have hc:x.length=x.cps.toList.length:=by simp[Str.length]
 by_cases hw:((((none:Option (Int×Tok)).map (·.1)).getD 1 == 1&&((List.range (HT.AK x.length x.length (u.map (·.1)) - HT.AK x.length 0 (l.map (·.1)))).map (HT.AK x.length 0 (l.map (·.1))+·)).length == x.length)=true)
 ·rw[bb hw]
  show Q (.str x t) s
  have hn:HT.AK x.length x.length (u.map (·.1)) - HT.AK x.length 0 (l.map (·.1))=x.length:=by
   have:=(bE _ _▸hw).2
   simpa using this
  have e2:lX x (l.map (·.1)) (u.map (·.1))=x:=by
   unfold lX
   rw[hn]
   by_cases h0:x.length=0
   ·have:x.cps.toList=[]:=lf (by omega)
    cases x with | mk c=>simp at this;subst this;simp
   ·have h1:HT.AK x.length 0 (l.map (·.1))=0:=by omega
    rw[h1,mm,hc,nS]
  have:=h t s (.inl rfl)
  rw[e2] at this
  exact this
 ·rw[ay hw,hp]
  refine⟨?_,h _ _ (.inr rfl)⟩
  show ((x.cps.toList.drop _).take _).toArray.size<=sizeLine
  rw[ax,g9,gs,← hc]
  omega
section
variable {X:Cx}
def O1:V->Option Int->Option Int->Hp->VK->Prop:=λx lo hi H Q=>∃z,x=.str z/\z.length<=sizeLine/\Q (.str (lX z lo hi)) H
theorem O2:L8 X O1:=by
 intro zl s σ H x v vl vu lo hi sl Q I rx hs pl pu h
 obtain⟨z,rfl,hz,q⟩:=h
 obtain⟨t,rfl⟩:=rx
 refine⟨"str",_,slot_str_getitem.lookup,typeIs_str s z t,?_⟩
 have part:∀{v:Value}{o:Option Int},IsPart v o->∃p:Option (Int×Tok),v=partValue p/\p.map (·.1)=o:=λp=>by
  cases p with
  | none=>exact⟨none,rfl,rfl⟩
  | int i t=>exact⟨some (i,t),rfl,rfl⟩
 obtain⟨l,rfl,rfl⟩:=part pl
 obtain⟨u,rfl,rfl⟩:=part pu
 refine wpAny_getItem_str_slice (l:=l) (u:=u) (st:=none) hs rfl (Ia z t l u hz λt' s' C6=>?_)
 rcases C6 with rfl | rfl
 ·exact⟨.str (lX z (l.map (·.1)) (u.map (·.1))),H,I,⟨t',rfl⟩,q⟩
 ·exact⟨.str (lX z (l.map (·.1)) (u.map (·.1))),H,I.tok _,⟨t',rfl⟩,q⟩
def O3 (K:W.Frag):V->Option Int->Option Int->Hp->VK->Prop:=λx lo hi H Q=>Oo K x lo hi H Q\/O1 x lo hi H Q
theorem O4:L8 X (O3 X.K):=OW.or O2
end
end Lake.L2
namespace Lake.MR
open PySem L2
inductive PV where
 | zD | bl (b:Bool) | int (i:Int) | str (x:Str)
 | lst (xs:List PV) | frz (xs:List PV) | tup (xs:List PV) | ktp (xs:List PV)
 | dK (kvs:List (Key×PV)) | dT (kvs:List (List zo×PV))
 | obj (c:Nat) (fs:List (Str×PV))
structure MC where
 K:W.Frag
 cl:Nat->Addr
mutual
inductive Rep (C:MC) (A:Addr->Prop) (H:Hp):V->PV->Prop
 | zD:Rep C A H .zD .zD
 | bl (b:Bool):Rep C A H (.bl b) (.bl b)
 | int (i:Int):Rep C A H (.int i) (.int i)
 | str (x:Str):Rep C A H (.str x) (.str x)
 | lst {a:Addr}{vs:List V}{xs:List PV}:H a=some (.lst vs)->A a->zt C A H vs xs->Rep C A H (.ref a) (.lst xs)
 | Lo {a:Addr}{o:Obj}{vs:List V}{xs:List PV}:H a=some (.frz o (.lst vs))->zt C A H vs xs->Rep C A H (.ref a) (.frz xs)
 | lstK {a:Addr}{vs:List V}{xs:List PV}:AS C.K (λ_=>none) a vs->zt C A H vs xs->Rep C A H (.ref a) (.frz xs)
 | tup {a:Addr}{vs:List V}{xs:List PV}:H a=some (.tup vs)->zt C A H vs xs->Rep C A H (.ref a) (.tup xs)
 | B6 {a:Addr}{vs:List V}{xs:List PV}:EN C.K a vs->zt C A H vs xs->Rep C A H (.ref a) (.tup xs)
 | tupK {a:Addr}{vs:List V}{xs:List PV}:BU C.K (λ_=>none) a vs->zt C A H vs xs->Rep C A H (.ref a) (.ktp xs)
 | dK {a:Addr}{kv:List (Key×V)}{kvs:List (Key×PV)}:H a=some (.dK kv)->A a->As C A H kv kvs->Rep C A H (.ref a) (.dK kvs)
 | dT {a:Addr}{kv:List (List zo×V)}{kvs:List (List zo×PV)}:H a=some (.dT kv)->A a->AF C A H kv kvs->Rep C A H (.ref a) (.dT kvs)
 | obj {a dx:Addr}{c:Nat}{f:List (Str×V)}{fs:List (Str×PV)}:H a=some (.ins (C.cl c) dx f)->A a->BF C A H f fs->Rep C A H (.ref a) (.obj c fs)
inductive zt (C:MC) (A:Addr->Prop) (H:Hp):List V->List PV->Prop
 | nil:zt C A H [] []
 | cons {v:V}{p:PV}{vs:List V}{ps:List PV}:Rep C A H v p->zt C A H vs ps->zt C A H (v::vs) (p::ps)
inductive As (C:MC) (A:Addr->Prop) (H:Hp):List (Key×V)->List (Key×PV)->Prop
 | nil:As C A H [] []
 | cons {k:Key}{v:V}{p:PV}{vs:List (Key×V)}{ps:List (Key×PV)}:Rep C A H v p->As C A H vs ps->As C A H ((k,v)::vs) ((k,p)::ps)
inductive AF (C:MC) (A:Addr->Prop) (H:Hp):List (List zo×V)->List (List zo×PV)->Prop
 | nil:AF C A H [] []
 | cons {k:List zo}{v:V}{p:PV}{vs:List (List zo×V)}{ps:List (List zo×PV)}:Rep C A H v p->AF C A H vs ps->AF C A H ((k,v)::vs) ((k,p)::ps)
inductive BF (C:MC) (A:Addr->Prop) (H:Hp):List (Str×V)->List (Str×PV)->Prop
 | nil:BF C A H [] []
 | cons {k:Str}{v:V}{p:PV}{vs:List (Str×V)}{ps:List (Str×PV)}:Rep C A H v p->BF C A H vs ps->BF C A H ((k,v)::vs) ((k,p)::ps)
end
noncomputable def gF:HO->Bool
 | .lst _=>true
 | .dK _=>true
 | .dT _=>true
 | .ins _ _ _=>true
 | _=>false
def Ex (A:Addr->Prop)(H:Hp)(A':Addr->Prop)(H':Hp):Prop:=∀a o,H a=some o->(A a->H' a=some o/\A' a)/\(gF o=false->H' a=some o)
theorem Ex.refl (A:Addr->Prop)(H:Hp):Ex A H A H:=λa o h=>⟨λq=>⟨h,q⟩,λ_=>h⟩
variable {A:Addr->Prop}{H:Hp}
theorem Ex.trans {B C:Addr->Prop}{I J:Hp}(e:Ex A H B I)(f:Ex B I C J):Ex A H C J:=λa o h=>⟨λq=>by
 obtain⟨h1,q1⟩:=(e a o h).1 q
 exact(f a o h1).1 q1,λm=>(f a o ((e a o h).2 m)).2 m⟩
variable {H':Hp}
theorem Ex.of_same (s:zv H H'):Ex A H A H':=λa o h=>⟨λq=>⟨s a o h,q⟩,λ_=>s a o h⟩
variable {C:MC}{M4:List (List zo×V)->List (List zo×PV)->Prop}
theorem Rep.nd {M1:V->PV->Prop}{M2:List V->List PV->Prop}{M3:List (Key×V)->List (Key×PV)->Prop}{M5:List (Str×V)->List (Str×PV)->Prop}(a1:M1 .zD .zD)(a2:∀b,M1 (.bl b) (.bl b))(a3:∀i,M1 (.int i) (.int i))(a4:∀x,M1 (.str x) (.str x))
  (a5:∀{a vs xs},H a=some (.lst vs)->A a->zt C A H vs xs->M2 vs xs->M1 (.ref a) (.lst xs))(a6:∀{a o vs xs},H a=some (.frz o (.lst vs))->zt C A H vs xs->M2 vs xs->M1 (.ref a) (.frz xs))(a7:∀{a vs xs},AS C.K (λ_=>none) a vs->zt C A H vs xs->M2 vs xs->M1 (.ref a) (.frz xs))
  (a8:∀{a vs xs},H a=some (.tup vs)->zt C A H vs xs->M2 vs xs->M1 (.ref a) (.tup xs))(a9:∀{a vs xs},EN C.K a vs->zt C A H vs xs->M2 vs xs->M1 (.ref a) (.tup xs))(b1:∀{a vs xs},BU C.K (λ_=>none) a vs->zt C A H vs xs->M2 vs xs->M1 (.ref a) (.ktp xs))
  (b2:∀{a kv kvs},H a=some (.dK kv)->A a->As C A H kv kvs->M3 kv kvs->M1 (.ref a) (.dK kvs))(b3:∀{a kv kvs},H a=some (.dT kv)->A a->AF C A H kv kvs->M4 kv kvs->M1 (.ref a) (.dT kvs))(b4:∀{a dx c f fs},H a=some (.ins (C.cl c) dx f)->A a->BF C A H f fs->M5 f fs->M1 (.ref a) (.obj c fs))
  (c1:M2 [] [])(c2:∀{v p vs ps},Rep C A H v p->zt C A H vs ps->M1 v p->M2 vs ps->M2 (v::vs) (p::ps))(c3:M3 [] [])(c4:∀{k v p vs ps},Rep C A H v p->As C A H vs ps->M1 v p->M3 vs ps->M3 ((k,v)::vs) ((k,p)::ps))
  (c5:M4 [] [])(c6:∀{k v p vs ps},Rep C A H v p->AF C A H vs ps->M1 v p->M4 vs ps->M4 ((k,v)::vs) ((k,p)::ps))(c7:M5 [] [])(c8:∀{k v p vs ps},Rep C A H v p->BF C A H vs ps->M1 v p->M5 vs ps->M5 ((k,v)::vs) ((k,p)::ps)):
  (∀{v p},Rep C A H v p->M1 v p)/\(∀{v p},zt C A H v p->M2 v p)/\(∀{v p},As C A H v p->M3 v p)/\(∀{v p},AF C A H v p->M4 v p)/\(∀{v p},BF C A H v p->M5 v p):=
 ⟨λ{v p} h=>@Rep.rec C A H (λv p _=>M1 v p) (λv p _=>M2 v p) (λv p _=>M3 v p) (λv p _=>M4 v p) (λv p _=>M5 v p) a1 a2 a3 a4 @a5 @a6 @a7 @a8 @a9 @b1 @b2 @b3 @b4 c1 @c2 c3 @c4 c5 @c6 c7 @c8 v p h,
  λ{v p} h=>@zt.rec C A H (λv p _=>M1 v p) (λv p _=>M2 v p) (λv p _=>M3 v p) (λv p _=>M4 v p) (λv p _=>M5 v p) a1 a2 a3 a4 @a5 @a6 @a7 @a8 @a9 @b1 @b2 @b3 @b4 c1 @c2 c3 @c4 c5 @c6 c7 @c8 v p h,
  λ{v p} h=>@As.rec C A H (λv p _=>M1 v p) (λv p _=>M2 v p) (λv p _=>M3 v p) (λv p _=>M4 v p) (λv p _=>M5 v p) a1 a2 a3 a4 @a5 @a6 @a7 @a8 @a9 @b1 @b2 @b3 @b4 c1 @c2 c3 @c4 c5 @c6 c7 @c8 v p h,
  λ{v p} h=>@AF.rec C A H (λv p _=>M1 v p) (λv p _=>M2 v p) (λv p _=>M3 v p) (λv p _=>M4 v p) (λv p _=>M5 v p) a1 a2 a3 a4 @a5 @a6 @a7 @a8 @a9 @b1 @b2 @b3 @b4 c1 @c2 c3 @c4 c5 @c6 c7 @c8 v p h,
  λ{v p} h=>@BF.rec C A H (λv p _=>M1 v p) (λv p _=>M2 v p) (λv p _=>M3 v p) (λv p _=>M4 v p) (λv p _=>M5 v p) a1 a2 a3 a4 @a5 @a6 @a7 @a8 @a9 @b1 @b2 @b3 @b4 c1 @c2 c3 @c4 c5 @c6 c7 @c8 v p h⟩
variable {A':Addr->Prop}
theorem Rep.VS (e:Ex A H A' H'):(∀{v p},Rep C A H v p->Rep C A' H' v p)/\(∀{v p},zt C A H v p->zt C A' H' v p)/\(∀{v p},As C A H v p->As C A' H' v p)/\(∀{v p},AF C A H v p->AF C A' H' v p)/\(∀{v p},BF C A H v p->BF C A' H' v p):=
 Rep.nd .zD .bl .int .str (λh q _ r=>.lst ((e _ _ h).1 q).1 ((e _ _ h).1 q).2 r) (λh _ r=>.Lo ((e _ _ h).2 rfl) r) (λh _ r=>.lstK h r) (λh _ r=>.tup ((e _ _ h).2 rfl) r) (λh _ r=>.B6 h r) (λh _ r=>.tupK h r)
  (λh q _ r=>.dK ((e _ _ h).1 q).1 ((e _ _ h).1 q).2 r) (λh q _ r=>.dT ((e _ _ h).1 q).1 ((e _ _ h).1 q).2 r) (λh q _ r=>.obj ((e _ _ h).1 q).1 ((e _ _ h).1 q).2 r) .nil (λ_ _ h t=>.cons h t) .nil (λ_ _ h t=>.cons h t) .nil (λ_ _ h t=>.cons h t) .nil (λ_ _ h t=>.cons h t)
variable {v:V}
theorem Rep.ex (e:Ex A H A' H'){p:PV}:Rep C A H v p->Rep C A' H' v p:=(Rep.VS e).1
theorem zt.ex (e:Ex A H A' H'){v:List V}{p:List PV}:zt C A H v p->zt C A' H' v p:=(Rep.VS e).2.1
theorem As.ex (e:Ex A H A' H'){v:List (Key×V)}{p:List (Key×PV)}:As C A H v p->As C A' H' v p:=(Rep.VS e).2.2.1
theorem AF.ex (e:Ex A H A' H'){v:List (List zo×V)}{p:List (List zo×PV)}:AF C A H v p->AF C A' H' v p:=(Rep.VS e).2.2.2.1
theorem BF.ex (e:Ex A H A' H'){v:List (Str×V)}{p:List (Str×PV)}:BF C A H v p->BF C A' H' v p:=(Rep.VS e).2.2.2.2
theorem aU (h:∀a o,H a=some o->A a->A' a):Ex A H A' H:=λa o e=>⟨λq=>⟨e,h a o e q⟩,λ_=>e⟩
theorem zt.length {C:MC}{A:Addr->Prop}{H:Hp}:∀{vs:List V}{ps:List PV},zt C A H vs ps->vs.length=ps.length
 | _,_,.nil=>rfl
 | _,_,.cons _ t=>by simp[zt.length t]
theorem zt.append {C:MC}{A:Addr->Prop}{H:Hp}:∀{vs us:List V}{ps qs:List PV},zt C A H vs ps->zt C A H us qs->zt C A H (vs++us) (ps++qs)
 | _,_,_,_,.nil,h=>h
 | _,_,_,_,.cons h t,r=>.cons h (zt.append t r)
theorem zt.get {C:MC}{A:Addr->Prop}{H:Hp}:∀{vs:List V}{ps:List PV}{i:Nat}{p:PV},zt C A H vs ps->ps[i]?=some p->∃v,vs[i]?=some v/\Rep C A H v p
 | _,_,_,_,.nil,e=>by simp at e
 | _,_,0,_,.cons h t,e=>by simp at e;subst e;exact⟨_,rfl,h⟩
 | _,_,i+1,p,.cons h t,e=>by
  obtain⟨v,e1,r⟩:=zt.get (i:=i) (p:=p) t (by simpa using e)
  exact⟨v,by simpa using e1,r⟩
theorem zt.get' {C:MC}{A:Addr->Prop}{H:Hp}:∀{vs:List V}{ps:List PV}{i:Nat}{v:V},zt C A H vs ps->vs[i]?=some v->∃p,ps[i]?=some p/\Rep C A H v p
 | _,_,_,_,.nil,e=>by simp at e
 | _,_,0,_,.cons h t,e=>by simp at e;subst e;exact⟨_,rfl,h⟩
 | _,_,i+1,v,.cons h t,e=>by
  obtain⟨p,e1,r⟩:=zt.get' (i:=i) (v:=v) t (by simpa using e)
  exact⟨p,by simpa using e1,r⟩
theorem zt.drop {C:MC}{A:Addr->Prop}{H:Hp}:∀{vs:List V}{ps:List PV}(n:Nat),zt C A H vs ps->zt C A H (vs.drop n) (ps.drop n)
 | _,_,0,h=>by simpa using h
 | _,_,n+1,.nil=>by simpa using zt.nil
 | _,_,n+1,.cons _ t=>by simpa using zt.drop n t
theorem zt.take {C:MC}{A:Addr->Prop}{H:Hp}:∀{vs:List V}{ps:List PV}(n:Nat),zt C A H vs ps->zt C A H (vs.take n) (ps.take n)
 | _,_,0,h=>by simpa using zt.nil
 | _,_,n+1,.nil=>by simpa using zt.nil
 | _,_,n+1,.cons h t=>by simpa using zt.cons h (zt.take n t)
theorem zt.set {C:MC}{A:Addr->Prop}{H:Hp}{v:V}{p:PV}(r:Rep C A H v p):∀{vs:List V}{ps:List PV}(n:Nat),zt C A H vs ps->zt C A H (vs.set n v) (ps.set n p)
 | _,_,_,.nil=>.nil
 | _,_,0,.cons _ t=>.cons r t
 | _,_,n+1,.cons h t=>.cons h (zt.set r n t)
theorem zt.reverse {C:MC}{A:Addr->Prop}{H:Hp}:∀{vs:List V}{ps:List PV},zt C A H vs ps->zt C A H vs.reverse ps.reverse
 | _,_,.nil=>.nil
 | _,_,.cons h t=>by
  rw[kP,kP]
  exact(zt.reverse t).append (.cons h .nil)
theorem j0 {C:MC}{A:Addr->Prop}{H:Hp}{α:Type}(f:α->V)(g:α->PV)(h:∀x,Rep C A H (f x) (g x)):∀l:List α,zt C A H (l.map f) (l.map g)
 | []=>.nil
 | x::l=>.cons (h x) (j0 f g h l)
theorem As.val {C:MC}{A:Addr->Prop}{H:Hp}{k:Key}:∀{kv:List (Key×V)}{kvs:List (Key×PV)},As C A H kv kvs->(∃v p,cA kv k=some v/\(kvs.find? λx=>decide (x.1=k)).map (·.2)=some p/\Rep C A H v p)\/(cA kv k=none/\(kvs.find? λx=>decide (x.1=k)).map (·.2)=none)
 | _,_,.nil=>.inr ⟨rfl,rfl⟩
 | _,_,.cons (k:=k') (v:=v) (p:=p) h t=>by
  by_cases e:k'=k
  ·subst e
   exact .inl ⟨v,p,cJ rfl,by simp,h⟩
  ·rw[cL e,ox (by simpa using e)]
   exact As.val t
theorem AF.val {C:MC}{A:Addr->Prop}{H:Hp}{k:List zo}:∀{kv:List (List zo×V)}{kvs:List (List zo×PV)},AF C A H kv kvs->(∃v p,cA kv k=some v/\(kvs.find? λx=>decide (x.1=k)).map (·.2)=some p/\Rep C A H v p)\/(cA kv k=none/\(kvs.find? λx=>decide (x.1=k)).map (·.2)=none)
 | _,_,.nil=>.inr ⟨rfl,rfl⟩
 | _,_,.cons (k:=k') (v:=v) (p:=p) h t=>by
  by_cases e:k'=k
  ·subst e
   exact .inl ⟨v,p,cJ rfl,by simp,h⟩
  ·rw[cL e,ox (by simpa using e)]
   exact AF.val t
theorem BF.look {C:MC}{A:Addr->Prop}{H:Hp}{k:Str}{p:PV}:∀{f:List (Str×V)}{fs:List (Str×PV)},BF C A H f fs->fs.lookup k=some p->∃v,f.lookup k=some v/\Rep C A H v p
 | _,_,.nil,e=>by cases e
 | _,_,.cons (k:=k') (v:=v) (p:=p') h t,e=>by
  rw[b6] at e ⊢
  cases q:k == k' with
  | true=>rw[q] at e;cases e;exact⟨v,rfl,h⟩
  | false=>rw[q] at e;exact BF.look t e
theorem BF.RH {C:MC}{A:Addr->Prop}{H:Hp}{k:Str}:∀{f:List (Str×V)}{fs:List (Str×PV)},BF C A H f fs->fs.lookup k=none->f.lookup k=none
 | _,_,.nil,e=>rfl
 | _,_,.cons (k:=k') (v:=v) (p:=p') h t,e=>by
  rw[b6] at e ⊢
  cases q:k == k' with
  | true=>rw[q] at e;cases e
  | false=>rw[q] at e;exact BF.RH t e
def Top (C:MC)(A:Addr->Prop)(H:Hp)(a:Addr):PV->Prop
 | .lst xs=>∃vs,H a=some (.lst vs)/\zt C A H vs xs
 | .dK kvs=>∃kv,H a=some (.dK kv)/\As C A H kv kvs
 | .dT kvs=>∃kv,H a=some (.dT kv)/\AF C A H kv kvs
 | .obj c fs=>∃dx f,H a=some (.ins (C.cl c) dx f)/\BF C A H f fs
 | _=>False
theorem Top.ex {C:MC}{A A':Addr->Prop}{H H':Hp}{a:Addr}{p:PV}(e:Ex A H A' H')(h:∀o,H a=some o->H' a=some o)(t:Top C A H a p):Top C A' H' a p:=by
 cases p with
 | lst xs=>obtain⟨vs,q,r⟩:=t;exact⟨vs,h _ q,r.ex e⟩
 | dK kvs=>obtain⟨vs,q,r⟩:=t;exact⟨vs,h _ q,r.ex e⟩
 | dT kvs=>obtain⟨vs,q,r⟩:=t;exact⟨vs,h _ q,r.ex e⟩
 | obj c fs=>obtain⟨dx,f,q,r⟩:=t;exact⟨dx,f,h _ q,r.ex e⟩
 | _=>exact t
variable {a:Addr}
theorem Top.live {p:PV}(t:Top C A H a p):∃o,H a=some o/\gF o=true:=by
 cases p with
 | lst xs=>obtain⟨vs,q,r⟩:=t;exact⟨_,q,rfl⟩
 | dK kvs=>obtain⟨vs,q,r⟩:=t;exact⟨_,q,rfl⟩
 | dT kvs=>obtain⟨vs,q,r⟩:=t;exact⟨_,q,rfl⟩
 | obj c fs=>obtain⟨dx,f,q,r⟩:=t;exact⟨_,q,rfl⟩
 | _=>exact t.elim
theorem Top.rep {p:PV}(t:Top C A H a p)(h:A a):Rep C A H (.ref a) p:=by
 cases p with
 | lst xs=>obtain⟨vs,q,r⟩:=t;exact .lst q h r
 | dK kvs=>obtain⟨vs,q,r⟩:=t;exact .dK q h r
 | dT kvs=>obtain⟨vs,q,r⟩:=t;exact .dT q h r
 | obj c fs=>obtain⟨dx,f,q,r⟩:=t;exact .obj q h r
 | _=>exact t.elim
def zC (C:MC)(A:Addr->Prop)(H:Hp)(v:V)(p:PV):Prop:=Rep C A H v p\/∃a,v=.ref a/\Top C A H a p
theorem zC.ex {C:MC}{A A':Addr->Prop}{H H':Hp}{v:V}{p:PV}(e:Ex A H A' H')(s:zv H H')(h:zC C A H v p):zC C A' H' v p:=by
 rcases h with h | ⟨a,q,t⟩
 ·exact .inl (h.ex e)
 ·exact .inr ⟨a,q,t.ex e λo z=>s _ _ z⟩
variable {K:W.Frag}{vs:List V}
section
variable {C:MC}{A:Addr->Prop}{H:Hp}{v:V}
theorem U4 (h:AS K (λ_=>none) a vs):AS K H a vs:=by
 rcases h with (h | ⟨o,h⟩) | h
 ·cases h
 ·cases h
 ·exact .inr h
theorem j9 (h:BU K (λ_=>none) a vs):BU K H a vs:=by
 rcases h with (h | ⟨o,h⟩) | h
 ·cases h
 ·cases h
 ·exact .inr h
theorem zC.lst {xs:List PV}(h:zC C A H v (.lst xs)):∃a vs,v=.ref a/\H a=some (.lst vs)/\zt C A H vs xs:=by
 rcases h with h | ⟨a,rfl,vs,q,r⟩
 ·cases h with
  | lst q _ r=>exact⟨_,_,rfl,q,r⟩
 ·exact⟨a,vs,rfl,q,r⟩
theorem zC.frz {xs:List PV}(h:zC C A H v (.frz xs)):∃a vs,v=.ref a/\AS C.K H a vs/\zt C A H vs xs:=by
 rcases h with h | ⟨a,rfl,t⟩
 ·cases h with
  | Lo q r=>exact⟨_,_,rfl,.inl (.inr ⟨_,q⟩),r⟩
  | lstK q r=>exact⟨_,_,rfl,U4 q,r⟩
 ·exact t.elim
def DC (K:W.Frag)(H:Hp)(a:Addr)(vs:List V):Prop:=H a=some (.tup vs)\/EN K a vs
theorem DC.sq {H:Hp}(h:DC K H a vs):BU K H a vs:=h.elim (λq=>BU.of q) fb
theorem DC.rep {C:MC}{A:Addr->Prop}{H:Hp}{xs:List PV}(h:DC C.K H a vs)(r:zt C A H vs xs):Rep C A H (.ref a) (.tup xs):=h.elim (λq=>.tup q r) λq=>.B6 q r
theorem DC.ex {A:Addr->Prop}{H:Hp}(h:DC K H a vs)(e:Ex A H A' H'):DC K H' a vs:=h.imp (λq=>(e _ _ q).2 rfl) id
theorem DC.up {H:Hp}(h:DC K H a vs)(s:zv H H'):DC K H' a vs:=h.imp (λq=>s _ _ q) id
theorem DC.key {H:Hp}{ks:List zo}(h:DC K H a vs)(k:F6 K H ks vs):B5 K H a ks:=h.imp (λq=>⟨vs,q,k⟩) λq=>⟨vs,q,k⟩
theorem zC.tup {xs:List PV}(h:zC C A H v (.tup xs)):∃a vs,v=.ref a/\DC C.K H a vs/\zt C A H vs xs:=by
 rcases h with h | ⟨a,rfl,t⟩
 ·cases h with
  | tup q r=>exact⟨_,_,rfl,.inl q,r⟩
  | B6 q r=>exact⟨_,_,rfl,.inr q,r⟩
 ·exact t.elim
theorem zC.ktp {xs:List PV}(h:zC C A H v (.ktp xs)):∃a vs,v=.ref a/\BU C.K H a vs/\zt C A H vs xs:=by
 rcases h with h | ⟨a,rfl,t⟩
 ·cases h with
  | tupK q r=>exact⟨_,_,rfl,j9 q,r⟩
 ·exact t.elim
theorem zC.dK {kvs:List (Key×PV)}(h:zC C A H v (.dK kvs)):∃a kv,v=.ref a/\H a=some (.dK kv)/\As C A H kv kvs:=by
 rcases h with h | ⟨a,rfl,vs,q,r⟩
 ·cases h with
  | dK q _ r=>exact⟨_,_,rfl,q,r⟩
 ·exact⟨a,vs,rfl,q,r⟩
theorem zC.dT {kvs:List (List zo×PV)}(h:zC C A H v (.dT kvs)):∃a kv,v=.ref a/\H a=some (.dT kv)/\AF C A H kv kvs:=by
 rcases h with h | ⟨a,rfl,vs,q,r⟩
 ·cases h with
  | dT q _ r=>exact⟨_,_,rfl,q,r⟩
 ·exact⟨a,vs,rfl,q,r⟩
theorem zC.obj {c:Nat}{fs:List (Str×PV)}(h:zC C A H v (.obj c fs)):∃a dx f,v=.ref a/\H a=some (.ins (C.cl c) dx f)/\BF C A H f fs:=by
 rcases h with h | ⟨a,rfl,dx,vs,q,r⟩
 ·cases h with
  | obj q _ r=>exact⟨_,_,_,rfl,q,r⟩
 ·exact⟨a,dx,vs,rfl,q,r⟩
theorem zC.int {i:Int}(h:zC C A H v (.int i)):v=.int i:=by
 rcases h with h | ⟨a,rfl,t⟩
 ·cases h;rfl
 ·exact t.elim
theorem zC.str {x:Str}(h:zC C A H v (.str x)):v=.str x:=by
 rcases h with h | ⟨a,rfl,t⟩
 ·cases h;rfl
 ·exact t.elim
theorem zC.bl {x:Bool}(h:zC C A H v (.bl x)):v=.bl x:=by
 rcases h with h | ⟨a,rfl,t⟩
 ·cases h;rfl
 ·exact t.elim
theorem zC.zD (h:zC C A H v .zD):v=.zD:=by
 rcases h with h | ⟨a,rfl,t⟩
 ·cases h;rfl
 ·exact t.elim
end
structure BX where
 C:MC
 A:Addr->Prop
 H0:Hp
 fx:Nat->Option V
abbrev Env:=List (Option PV)
abbrev qE:=Env->Option PV
def Bs (b:BX)(Ow:Addr->Prop)(a:Addr):Prop:=¬ Ow a/\(b.A a\/b.H0 a=none)
structure ER (b:BX)(Ow:Addr->Prop)(G:qf)(σ:St)(env:Env)(H:Hp):Prop where
 len:σ.length=env.length
 same:zv b.H0 H
 live:∀a,Ow a->∃o,H a=some o
 new:∀a,Ow a->b.H0 a=none
 val:∀i p,env[i]?=some (some p)->i∉G->∃v,σ[i]?=some (some v)/\Rep b.C (Bs b Ow) H v p
 own:∀i p,env[i]?=some (some p)->i∈G->∃a,σ[i]?=some (some (.ref a))/\Ow a/\Top b.C (Bs b Ow) H a p
 sep:∀i j a p q,env[i]?=some (some p)->i∈G->σ[i]?=some (some (.ref a))->env[j]?=some (some q)->j∈G->σ[j]?=some (some (.ref a))->i=j
 fix:∀i v,b.fx i=some v->σ[i]?=some (some v)
inductive Md where | val | own | bor
def Res (b:BX)(Ow:Addr->Prop)(H H':Hp)(m:Md)(v:V)(p:PV):Prop:=match m with
 | .val=>Rep b.C (Bs b Ow) H' v p
 | .own=>∃a,v=.ref a/\H a=none/\Top b.C (λc=>Bs b Ow c/\c≠a) H' a p
 | .bor=>zC b.C (Bs b Ow) H' v p
def tM (b:BX)(G:qf)(m:Md)(f:qE):TE:=fun σ H Q=>∃Ow env p,ER b Ow G σ env H/\f env=some p/\∀v H',zv H H'->Res b Ow H H' m v p->Q v H'
def VT (b:BX)(G:qf)(f:Env->Option Bool):TT:=fun σ H Q=>∃Ow env k,ER b Ow G σ env H/\f env=some k/\∀H',zv H H'->Q k H'
section
variable {b:BX}{Ow:Addr->Prop}{G:qf}{σ:St}{env:Env}{H H':Hp}
theorem ER.up (E:ER b Ow G σ env H)(s:zv H H'):ER b Ow G σ env H':=
 ⟨E.len,E.same.trans s,λa h=>let ⟨o,e⟩:=E.live a h;⟨o,s _ _ e⟩,E.new,λi p h n=>let ⟨v,e,r⟩:=E.val i p h n;⟨v,e,r.ex (.of_same s)⟩,
  λi p h n=>let ⟨a,e,w,t⟩:=E.own i p h n;⟨a,e,w,t.ex (.of_same s) λo z=>s _ _ z⟩,E.sep,E.fix⟩
theorem ER.fresh (E:ER b Ow G σ env H)(h:H a=none):Bs b Ow a:=
 ⟨λw=>(by obtain⟨o,e⟩:=E.live a w;rw[h] at e;cases e),.inr (E.same.free h)⟩
theorem Res.val {m:Md}{v:V}{p:PV}(E:ER b Ow G σ env H)(hm:m≠.bor)(r:Res b Ow H H' m v p):Res b Ow H H' .val v p:=by
 cases m with
 | val=>exact r
 | bor=>exact absurd rfl hm
 | own=>
  obtain⟨a,rfl,h,t⟩:=r
  have hw:Ex (λc=>Bs b Ow c/\c≠a) H' (Bs b Ow) H':=aU λ_ _ _ z=>z.1
  exact(t.ex hw λo z=>z).rep (E.fresh h)
theorem Res.bor {m:Md}{v:V}{p:PV}(r:Res b Ow H H' m v p):Res b Ow H H' .bor v p:=by
 cases m with
 | val=>exact .inl r
 | bor=>exact r
 | own=>
  obtain⟨a,rfl,h,t⟩:=r
  have hw:Ex (λc=>Bs b Ow c/\c≠a) H' (Bs b Ow) H':=aU λ_ _ _ z=>z.1
  exact .inr ⟨a,rfl,t.ex hw λo z=>z⟩
theorem Res.up {m:Md}{p:PV}{Lu:Hp}(r:Res b Ow H H' m v p)(s:zv H' Lu):Res b Ow H Lu m v p:=by
 cases m with
 | val=>exact Rep.ex (.of_same s) r
 | bor=>exact zC.ex (.of_same s) s r
 | own=>
  obtain⟨a,e,h,t⟩:=r
  exact⟨a,e,h,t.ex (.of_same s) λo z=>s _ _ z⟩
theorem Res.down {m:Md}{p:PV}{Lu:Hp}(s:zv H H')(r:Res b Ow H' Lu m v p):Res b Ow H Lu m v p:=by
 cases m with
 | val=>exact r
 | bor=>exact r
 | own=>
  obtain⟨a,e,h,t⟩:=r
  exact⟨a,e,s.free h,t⟩
end
variable {X:Cx}
theorem PE.imp {e:Expr}{t u:TE}(h:PE X e t)(i:∀ σ H Q,u σ H Q->t σ H Q):PE X e u:=λzl s σ H Q I q=>h zl s σ H Q I (i σ H Q q)
theorem PT.imp {e:Expr}{t u:TT}(h:PT X e t)(i:∀ σ H Q,u σ H Q->t σ H Q):PT X e u:=λzl s σ H Q I q=>h zl s σ H Q I (i σ H Q q)
theorem PS.imp {e:Stmt}{t u:TS}(h:PS X e t)(i:∀D σ H,u D σ H->t D σ H):PS X e u:=λzl s σ H D I q=>h zl s σ H D I (i D σ H q)
theorem PE.or {e:Expr}{t u:TE}(h:PE X e t)(h':PE X e u):PE X e (fun σ H Q=>t σ H Q\/u σ H Q):=λzl s σ H Q I q=>q.elim (h zl s σ H Q I) (h' zl s σ H Q I)
theorem B2.or {op:Value->Value->Sem Value}{r r':R2}(h:B2 X op r)(h':B2 X op r'):B2 X op (λx y H Q=>r x y H Q\/r' x y H Q):=λzl s σ H x y v u Q I rx ry q=>q.elim (h zl s σ H x y v u Q I rx ry) (h' zl s σ H x y v u Q I rx ry)
abbrev SE (X:Cx)(b:BX)(G:qf)(m:Md)(e:Expr)(f:qE):Prop:=PE X e (tM b G m f)
abbrev ST (X:Cx)(b:BX)(G:qf)(e:Expr)(f:Env->Option Bool):Prop:=PT X e (VT b G f)
theorem SE.bor {X:Cx}{b:BX}{G:qf}{m:Md}{e:Expr}{f:qE}(h:SE X b G m e f):SE X b G .bor e f:=
 PE.imp h fun σ H Q ⟨Ow,env,p,E,hf,k⟩=>⟨Ow,env,p,E,hf,λv H' s r=>k v H' s r.bor⟩
theorem SE.val {X:Cx}{b:BX}{G:qf}{e:Expr}{f:qE}(h:SE X b G .own e f):SE X b G .val e f:=
 PE.imp h fun σ H Q ⟨Ow,env,p,E,hf,k⟩=>⟨Ow,env,p,E,hf,λv H' s r=>k v H' s (r.val E (by intro z;cases z))⟩
noncomputable def bC (p:PV)(env:Env):Option PV:=some p
@[simp] theorem T5 (p:PV)(env:Env):bC p env=(some p):=id rfl
noncomputable def bV (i:Nat)(env:Env):Option PV:=match env[i]? with | some o=>o | none=>none
@[simp] theorem T6 (i:Nat)(env:Env):bV i env=(match env[i]? with | some o=>o | none=>none):=id rfl
noncomputable def b1 (g:PV->Option PV)(f:qE)(env:Env):Option PV:=(f env).bind g
@[simp] theorem T7 (g:PV->Option PV)(f:qE)(env:Env):b1 g f env=((f env).bind g):=id rfl
noncomputable def b2 (g:PV->PV->Option PV)(f h:qE)(env:Env):Option PV:=(f env).bind λx=>(h env).bind λy=>g x y
@[simp] theorem T8 (g:PV->PV->Option PV)(f h:qE)(env:Env):b2 g f h env=((f env).bind λx=>(h env).bind λy=>g x y):=id rfl
noncomputable def b3 (g:PV->PV->PV->Option PV)(f h k:qE)(env:Env):Option PV:=(f env).bind λx=>(h env).bind λy=>(k env).bind λz=>g x y z
@[simp] theorem T9 (g:PV->PV->PV->Option PV)(f h k:qE)(env:Env):b3 g f h k env=((f env).bind λx=>(h env).bind λy=>(k env).bind λz=>g x y z):=id rfl
noncomputable def Dl (f g:qE)(env:Env):Option PV:=(f env).bind λx=>match x with | .bl true=>g env | .bl false=>some (.bl false) | _=>none
@[simp] theorem S7 (f g:qE)(env:Env):Dl f g env=((f env).bind λx=>match x with | .bl true=>g env | .bl false=>some (.bl false) | _=>none):=id rfl
noncomputable def Xv (f g:qE)(env:Env):Option PV:=(f env).bind λx=>match x with | .bl true=>some (.bl true) | .bl false=>g env | _=>none
@[simp] theorem Tt (f g:qE)(env:Env):Xv f g env=((f env).bind λx=>match x with | .bl true=>some (.bl true) | .bl false=>g env | _=>none):=id rfl
noncomputable def Dm (f:qE)(env:Env):Option PV:=(f env).bind λx=>match x with | .bl c=>some (.bl (!c)) | _=>none
@[simp] theorem S8 (f:qE)(env:Env):Dm f env=((f env).bind λx=>match x with | .bl c=>some (.bl (!c)) | _=>none):=id rfl
noncomputable def VU (c:Env->Option Bool)(f g:qE)(env:Env):Option PV:=(c env).bind λx=>if x=true then f env else g env
@[simp] theorem Tu (c:Env->Option Bool)(f g:qE)(env:Env):VU c f g env=((c env).bind λx=>if x=true then f env else g env):=id rfl
noncomputable def tV (f:qE)(env:Env):Option Bool:=(f env).bind λx=>match x with | .bl c=>some c | _=>none
@[simp] theorem T_ (f:qE)(env:Env):tV f env=((f env).bind λx=>match x with | .bl c=>some c | _=>none):=id rfl
noncomputable def tA (f g:Env->Option Bool)(env:Env):Option Bool:=(f env).bind λx=>if x=true then g env else some false
@[simp] theorem Ua (f g:Env->Option Bool)(env:Env):tA f g env=((f env).bind λx=>if x=true then g env else some false):=id rfl
noncomputable def tO (f g:Env->Option Bool)(env:Env):Option Bool:=(f env).bind λx=>if x=true then some true else g env
@[simp] theorem Ub (f g:Env->Option Bool)(env:Env):tO f g env=((f env).bind λx=>if x=true then some true else g env):=id rfl
noncomputable def tN (f:Env->Option Bool)(env:Env):Option Bool:=(f env).bind λx=>some (!x)
@[simp] theorem Uc (f:Env->Option Bool)(env:Env):tN f env=((f env).bind λx=>some (!x)):=id rfl
noncomputable def aP (env:Env):Option (List PV):=some []
@[simp] theorem S9 (env:Env):aP env=(some []):=id rfl
noncomputable def au (f:qE)(g:Env->Option (List PV))(env:Env):Option (List PV):=(f env).bind λx=>(g env).bind λxs=>some (x::xs)
abbrev zi (n:Int):=bC (.int n)
abbrev zk (i:Nat):=au (bV i)
@[simp] theorem R8 (f:qE)(g:Env->Option (List PV))(env:Env):au f g env=((f env).bind λx=>(g env).bind λxs=>some (x::xs)):=id rfl
noncomputable def gY (g:Env->Option (List PV))(env:Env):Option PV:=(g env).bind λxs=>if xs.length<=1000000 then some (.lst xs) else none
@[simp] theorem S_ (g:Env->Option (List PV))(env:Env):gY g env=((g env).bind λxs=>if xs.length<=1000000 then some (.lst xs) else none):=id rfl
noncomputable def cN (g:Env->Option (List PV))(env:Env):Option PV:=(g env).bind λxs=>if xs.length<=1000000 then some (.tup xs) else none
@[simp] theorem Tc (g:Env->Option (List PV))(env:Env):cN g env=((g env).bind λxs=>if xs.length<=1000000 then some (.tup xs) else none):=id rfl
noncomputable def bM (m:List PV->Option PV)(g:Env->Option (List PV))(env:Env):Option PV:=(g env).bind m
variable {g:PV->PV->Option PV}
@[simp] theorem R9 (m:List PV->Option PV)(g:Env->Option (List PV))(env:Env):bM m g env=((g env).bind m):=id rfl
section
variable {b:BX}{G:qf}{m:Md}{σ:St}{H:Hp}{Q:VK}
def FG (b:BX)(m:Md)(r:R2)(g:PV->PV->Option PV):Prop:=∀(Ow:Addr->Prop) (H:Hp) (v1 v2:V) (p1 p2 p:PV) (Q:VK),(∀a,H a=none->Bs b Ow a)->zC b.C (Bs b Ow) H v1 p1->zC b.C (Bs b Ow) H v2 p2->g p1 p2=some p->
 (∀v H',zv H H'->Res b Ow H H' m v p->Q v H')->r v1 v2 H Q
theorem Dn {r:R2}{f1 f2:qE}(hr:FG b m r g)(h:tM b G m (b2 g f1 f2) σ H Q):L3 r (tM b G .bor f1) (tM b G .bor f2) σ H Q:=by
 obtain⟨Ow,env,p,E,hf,k⟩:=h
 unfold b2 at hf
 cases h1:f1 env with
 | none=>rw[h1] at hf;cases hf
 | some p1=>
  rw[h1] at hf
  cases h2:f2 env with
  | none=>rw[h2] at hf;cases hf
  | some p2=>
   rw[h2] at hf
   exact⟨Ow,env,p1,E,h1,λv1 H1 s1 r1=>⟨Ow,env,p2,E.up s1,h2,λv2 H2 s2 r2=>hr Ow H2 v1 v2 p1 p2 p Q (λa=>(E.up (s1.trans s2)).fresh) (r1.up s2) r2 hf λv H' s r=>k v H' (s1.trans (s2.trans s)) (r.down (s1.trans s2))⟩⟩
def YF (b:BX)(m:Md)(r:V->Hp->VK->Prop)(g:PV->Option PV):Prop:=∀(Ow:Addr->Prop) (H:Hp) (v1:V) (p1 p:PV) (Q:VK),(∀a,H a=none->Bs b Ow a)->zC b.C (Bs b Ow) H v1 p1->g p1=some p->
 (∀v H',zv H H'->Res b Ow H H' m v p->Q v H')->r v1 H Q
theorem Do {r:V->Hp->VK->Prop}{g:PV->Option PV}{f1:qE}(hr:YF b m r g)(h:tM b G m (b1 g f1) σ H Q):tM b G .bor f1 σ H λx H1=>r x H1 Q:=by
 obtain⟨Ow,env,p,E,hf,k⟩:=h
 unfold b1 at hf
 cases h1:f1 env with
 | none=>rw[h1] at hf;cases hf
 | some p1=>
  rw[h1] at hf
  exact⟨Ow,env,p1,E,h1,λv1 H1 s1 r1=>hr Ow H1 v1 p1 p Q (λa=>(E.up s1).fresh) r1 hf λv H' s r=>k v H' (s1.trans s) (r.down s1)⟩
end
@[simp] noncomputable def gw:PV->PV->Option PV
 | .int i,.int j=>some (.int (i+j))
 | .str x,.str y=>if x.length+y.length<=1000000 then some (.str (x++y)) else none
 | .lst xs,.lst ys=>if xs.length+ys.length<=1000000 then some (.lst (xs++ys)) else none
 | _,_=>none
noncomputable def O5:PV->PV->Option PV
 | .tup xs,.tup ys=>if xs≠[]/\xs.length+ys.length<=1000000 then some (.tup (xs++ys)) else none
 | _,_=>none
@[simp] noncomputable def Pe:PV->PV->Option PV
 | .int i,.int j=>some (.int (i - j))
 | _,_=>none
noncomputable def ME (i:Int):Bool:=@decide (-18446744073709551616 < i/\i < 18446744073709551616) (Classical.propDecidable _)
@[simp] noncomputable def rZ:PV->PV->Option PV
 | .int i,.int j=>if (ME i||ME j)=true then some (.int (i*j)) else none
 | _,_=>none
@[simp] noncomputable def jF:PV->PV->Option PV
 | .int i,.int j=>if 0 < j/\j < 1073741824 then some (.int (i / j)) else none
 | _,_=>none
@[simp] noncomputable def dU:PV->PV->Option PV
 | .int i,.int j=>if 0 < j then some (.int (i % j)) else none
 | _,_=>none
@[simp] noncomputable def jG (g:Int->Int->Bool):PV->PV->Option PV
 | .int i,.int j=>some (.bl (g i j))
 | _,_=>none
theorem fZ {n:Nat}(h:n<=1000000):n<=sizeLine:=gv (bY h)
section
variable {b:BX}
theorem Ld {g:Int->Int->Int}{f:PV->PV->Option PV}(hf:∀x y p,f x y=some p->∃i j,x=.int i/\y=.int j/\p=.int (g i j)):FG b .val (OA λi j=>.int (g i j)) f:=by
 intro Ow H v1 v2 p1 p2 p Q hn r1 r2 e k
 obtain⟨i,j,rfl,rfl,rfl⟩:=hf _ _ _ e
 rw[r1.int,r2.int]
 exact⟨i,j,rfl,rfl,k _ H (zv.refl _) (.int _)⟩
theorem Gh {g:Int->Int->Bool}:FG b .val (OA λi j=>.bl (g i j)) (jG g):=by
 intro Ow H v1 v2 p1 p2 p Q hn r1 r2 e k
 unfold jG at e
 split at e
 ·cases e
  rw[r1.int,r2.int]
  exact⟨_,_,rfl,rfl,k _ H (zv.refl _) (.bl _)⟩
 ·cases e
theorem O6:FG b .val (OA λi j=>.int (i - j)) Pe:=Ld λx y p e=>by
 unfold Pe at e
 split at e
 ·cases e;exact⟨_,_,rfl,rfl,rfl⟩
 ·cases e
theorem Gi:FG b .val (rI L4 λi j=>.int (i*j)) rZ:=by
 intro Ow H v1 v2 p1 p2 p Q hn r1 r2 e k
 unfold rZ at e
 split at e
 ·split at e
  ·rename_i h
   cases e
   rw[r1.int,r2.int]
   refine⟨_,_,rfl,rfl,?_,k _ H (zv.refl _) (.int _)⟩
   simp only[ME,Bool.or_eq_true,eB] at h
   exact h
  ·cases e
 ·cases e
theorem uv {i:Int}(h:-18446744073709551616 < i)(h':i < 18446744073709551616):ME i=true:=@hU _ (Classical.propDecidable _) ⟨h,h'⟩
theorem O7:FG b .val (rI N7 λi j=>.int (i / j)) jF:=by
 intro Ow H v1 v2 p1 p2 p Q hn r1 r2 e k
 unfold jF at e
 split at e
 ·split at e
  ·rename_i h
   cases e
   rw[r1.int,r2.int]
   exact⟨_,_,rfl,rfl,h,k _ H (zv.refl _) (.int _)⟩
  ·cases e
 ·cases e
theorem O8:FG b .val (rI (λ_ j=>0 < j) λi j=>.int (i % j)) dU:=by
 intro Ow H v1 v2 p1 p2 p Q hn r1 r2 e k
 unfold dU at e
 split at e
 ·split at e
  ·rename_i h
   cases e
   rw[r1.int,r2.int]
   exact⟨_,_,rfl,rfl,h,k _ H (zv.refl _) (.int _)⟩
  ·cases e
 ·cases e
end
variable {Ow:Addr->Prop}
theorem eV {b:BX}{xs:List PV}(h:H a=none)(r:zt b.C (Bs b Ow) H vs xs):Res b Ow H (upd H a (.lst vs)) .own (.ref a) (.lst xs):=by
 refine⟨a,rfl,h,vs,aA,r.ex λc o e=>?_⟩
 have hc:c≠a:=aq e h
 exact⟨λq=>⟨by rw[ao hc];exact e,q,hc⟩,λ_=>by rw[ao hc];exact e⟩
theorem mW {b:BX}{H0:Hp}{xs:List PV}(h:H a=none)(r:zt b.C (Bs b Ow) H vs xs):Res b Ow H0 (upd H a (.tup vs)) .val (.ref a) (.tup xs):=
 Rep.tup aA (r.ex (.of_same (aD h _)))
section
variable {b:BX}
theorem O9:FG b .val (λx y H Q=>(OA (λi j=>.int (i+j)) x y H Q\/∃i j,x=.str i/\y=.str j/\i.length+j.length<=sizeLine/\Q (.str (i++j)) H)\/Ou x y H Q) gw:=by
 intro Ow H v1 v2 p1 p2 p Q hn r1 r2 e k
 unfold gw at e
 split at e
 ·cases e
  rw[r1.int,r2.int]
  exact .inl (.inl ⟨_,_,rfl,rfl,k _ H (zv.refl _) (.int _)⟩)
 ·split at e
  ·rename_i h
   cases e
   rw[r1.str,r2.str]
   exact .inl (.inr ⟨_,_,rfl,rfl,fZ h,k _ H (zv.refl _) (.str _)⟩)
  ·cases e
 ·split at e
  ·rename_i h
   cases e
   obtain⟨a,vs,rfl,ha,ra⟩:=r1.lst
   obtain⟨c,us,rfl,hc,rc⟩:=r2.lst
   exact .inr ⟨a,c,vs,us,rfl,rfl,ha,hc,fZ (by rw[ra.length,rc.length];exact h),λq hq=>k _ _ (aD hq _) (.lst aA (hn q hq) ((ra.append rc).ex (.of_same (aD hq _))))⟩
  ·cases e
 ·cases e
theorem Le:FG b .val (uh b.C.K) O5:=by
 intro Ow H v1 v2 p1 p2 p Q hn r1 r2 e k
 unfold O5 at e
 split at e
 ·split at e
  ·rename_i h
   cases e
   obtain⟨a,vs,rfl,ha,ra⟩:=r1.tup
   obtain⟨c,us,rfl,hc,rc⟩:=r2.tup
   refine⟨a,c,vs,us,rfl,rfl,ha.sq,hc.sq,?_,fZ (by rw[ra.length,rc.length];exact h.2),λhu=>?_,λ_ q hq=>k _ _ (aD hq _) (mW hq (ra.append rc))⟩
   rotate_left
   ·subst hu
    cases rc
    rw[bS] at k
    exact k _ H (zv.refl _) (ha.rep ra)
   intro z
   have:=ra.length
   rw[z] at this
   exact h.1 (fE.mp this.symm)
  ·cases e
 ·cases e
end
variable {x:Str}
section
variable {X:Cx}{b:BX}{G:qf}{m:Md}{e e1 e2:Expr}{f f1 f2:qE}{pos:Pos}
theorem ak {i j pos}:SE X b G .val (.Constant (.int i) j pos) (zi i):=PE.imp dB<|by rintro σ H Q ⟨Ow,env,p,E,hf,k⟩;cases hf;exact k _ H (zv.refl _) (.int i)
theorem jQ {i j pos}:SE X b G .val (.Constant (.bool i) j pos) (bC (.bl i)):=PE.imp QT<|by rintro σ H Q ⟨Ow,env,p,E,hf,k⟩;cases hf;exact k _ H (zv.refl _) (.bl i)
theorem gZ {i j pos}:SE X b G .val (.Constant (.str i) j pos) (bC (.str i)):=PE.imp Nu<|by rintro σ H Q ⟨Ow,env,p,E,hf,k⟩;cases hf;exact k _ H (zv.refl _) (.str i)
theorem mX {j pos}:SE X b G .val (.Constant .none j pos) (bC .zD):=PE.imp yw<|by rintro σ H Q ⟨Ow,env,p,E,hf,k⟩;cases hf;exact k _ H (zv.refl _) .zD
theorem eX {i:Nat}{env:Env}{p:PV}(h:bV i env=some p):env[i]?=some (some p):=by
 unfold bV at h
 split at h
 ·rename_i o e;rw[e,h]
 ·cases h
theorem aa (i:Nat){pos:Pos}(hN:X.N[i]?=some x:=by rfl)(hv:LW X.env.scope x:=by first | exact e9 rfl | exact fb (e9 rfl) | exact fb (fb rfl))(hG:i∉G:=by decide)(hd:(x == ("__debug__" : Str))=false:=by decide)
  (D0:(x == ("__classdict__" : Str))=false:=by decide):SE X b G .val (.Name x pos) (bV i):=PE.imp (gU hN hv hd D0)<|by
 rintro σ H Q ⟨Ow,env,p,E,hf,k⟩
 obtain⟨v,e,r⟩:=E.val i p (eX hf) hG
 exact⟨v,e,k v H (zv.refl _) r⟩
theorem lY (i:Nat){pos:Pos}(hN:X.N[i]?=some x:=by rfl)(hv:LW X.env.scope x:=by first | exact e9 rfl | exact fb (e9 rfl) | exact fb (fb rfl))(hd:(x == ("__debug__" : Str))=false:=by decide)
  (D0:(x == ("__classdict__" : Str))=false:=by decide):SE X b G .bor (.Name x pos) (bV i):=PE.imp (gU hN hv hd D0)<|by
 rintro σ H Q ⟨Ow,env,p,E,hf,k⟩
 by_cases hG:i∈G
 ·obtain⟨a,e,_,t⟩:=E.own i p (eX hf) hG
  exact⟨_,e,k _ H (zv.refl _) (.inr ⟨a,rfl,t⟩)⟩
 ·obtain⟨v,e,r⟩:=E.val i p (eX hf) hG
  exact⟨v,e,k v H (zv.refl _) (.inl r)⟩
theorem Rf {q:PV}{pos:Pos}(hm:X.mg x=some (.ref a))(hr:∀A H,Rep b.C A H (.ref a) q)(hg:Gl X x:=by rfl)(hd:(x == ("__debug__" : Str))=false:=by decide):SE X b G .val (.Name x pos) (bC q):=
 PE.imp (jY hg hm (v:=.ref a) rfl hd)<|by rintro σ H Q ⟨Ow,env,p,E,hf,k⟩;cases hf;exact k _ H (zv.refl _) (hr _ _)
theorem ou {op:Operator}{r:R2}(ho:B2 X (binaryOp op) r)(hr:FG b m r g){m1 m2:Md}(h1:SE X b G m1 e1 f1)(h2:SE X b G m2 e2 f2):SE X b G m (.BinOp e1 op e2 pos) (b2 g f1 f2):=
 PE.imp (Ka ho h1.bor h2.bor) fun σ H Q h=>Dn hr h
theorem eQ {m1 m2:Md}(h1:SE X b G m1 e1 f1)(h2:SE X b G m2 e2 f2):SE X b G .val (.BinOp e1 .Add e2 pos) (b2 gw f1 f2):=ou (B2.or (B2.or N8 CZ) Ov) O9 h1 h2
theorem O_ {m1 m2:Md}(h1:SE X b G m1 e1 f1)(h2:SE X b G m2 e2 f2):SE X b G .val (.BinOp e1 .Sub e2 pos) (b2 Pe f1 f2):=ou N_ O6 h1 h2
theorem uw {m1 m2:Md}(h1:SE X b G m1 e1 f1)(h2:SE X b G m2 e2 f2):SE X b G .val (.BinOp e1 .Mult e2 pos) (b2 rZ f1 f2):=ou Fq Gi h1 h2
theorem j_ {m1 m2:Md}(h1:SE X b G m1 e1 f1)(h2:SE X b G m2 e2 f2):SE X b G .val (.BinOp e1 .FloorDiv e2 pos) (b2 jF f1 f2):=ou KC O7 h1 h2
theorem cV {m1 m2:Md}(h1:SE X b G m1 e1 f1)(h2:SE X b G m2 e2 f2):SE X b G .val (.BinOp e1 .Mod e2 pos) (b2 dU f1 f2):=ou Oa O8 h1 h2
end
@[simp] noncomputable def Pf:PV->PV->Option Bool
 | .zD,.zD=>some true
 | .zD,.int _=>some false | .int _,.zD=>some false | .zD,.bl _=>some false | .bl _,.zD=>some false | .zD,.str _=>some false | .str _,.zD=>some false
 | .int i,.int j=>some (decide (i=j))
 | .bl i,.bl j=>some (decide (i=j))
 | .str i,.str j=>some (decide (i=j))
 | .int _,.str _=>some false | .str _,.int _=>some false | .bl _,.str _=>some false | .str _,.bl _=>some false
 | _,_=>none
mutual
noncomputable def toD:PV->Option PyData
 | .zD=>some .none
 | .bl b=>some (.bool b)
 | .int i=>some (.int i)
 | .str x=>some (.str x)
 | .lst xs=>(eZ xs).map .list
 | .frz xs=>(eZ xs).map .list
 | .tup xs=>(eZ xs).map .tuple
 | .ktp xs=>(eZ xs).map .tuple
 | _=>none
noncomputable def eZ:List PV->Option (List PyData)
 | []=>some []
 | x::xs=>match toD x,eZ xs with
  | some d,some ds=>some (d::ds)
  | _,_=>none
end
noncomputable def TU (x y:PV):Option Bool:=match toD x,toD y with
 | some d,some e=>if SeqAt.shaped d=true/\SeqAt.shaped e=true then some (PyData.eqv d e) else none
 | _,_=>none
noncomputable def HA (x y:PV):Option Bool:=match Pf x y with
 | some k=>some k
 | none=>TU x y
noncomputable def eqQ (x y:PV):Option PV:=(HA x y).map .bl
@[simp] theorem Tv (x y:PV):eqQ x y=((HA x y).map .bl):=id rfl
noncomputable def VV (x y:PV):Option PV:=(HA x y).map λk=>.bl (!k)
@[simp] theorem Tw (x y:PV):VV x y=((HA x y).map λk=>.bl (!k)):=id rfl
theorem Rep.dt2:(∀{v p},Rep C A H v p->∀d,toD p=some d->Dt C.K H v d)/\(∀{v p},zt C A H v p->∀d,eZ p=some d->Kx C.K H v d):=by
 have l:∀{a vs xs},AS C.K H a vs->(∀d,eZ xs=some d->Kx C.K H vs d)->∀d,(eZ xs).map .list=some d->Dt C.K H (.ref a) d:=by
  intro a vs xs h r d e
  obtain⟨x,hx,rfl⟩:=bP.mp e
  exact .lst h (r x hx)
 have t:∀{a vs xs},BU C.K H a vs->(∀d,eZ xs=some d->Kx C.K H vs d)->∀d,(eZ xs).map .tuple=some d->Dt C.K H (.ref a) d:=by
  intro a vs xs h r d e
  obtain⟨x,hx,rfl⟩:=bP.mp e
  exact .tup h (r x hx)
 have nd:=Rep.nd (C:=C) (A:=A) (H:=H) (M1:=λv p=>∀d,toD p=some d->Dt C.K H v d) (M2:=λv p=>∀d,eZ p=some d->Kx C.K H v d) (M3:=λ_ _=>True) (M4:=λ_ _=>True) (M5:=λ_ _=>True)
  ?_ ?_ ?_ ?_ ?_ ?_ ?_ ?_ ?_ ?_ ?_ ?_ ?_ ?_ ?_ trivial (λ_ _ _ _=>trivial) trivial (λ_ _ _ _=>trivial) trivial (λ_ _ _ _=>trivial)
 ·exact⟨nd.1,nd.2.1⟩
 ·intro d e;simp only[toD] at e;cases e;exact .zD
 ·intro b d e;simp only[toD] at e;cases e;exact .bl b
 ·intro b d e;simp only[toD] at e;cases e;exact .int b
 ·intro b d e;simp only[toD] at e;cases e;exact .str b
 ·intro a vs xs h _ _ r d e;simp only[toD] at e;exact l (AS.of h) r d e
 ·intro a o vs xs h _ r d e;simp only[toD] at e;exact l (.inl (.inr ⟨_,h⟩)) r d e
 ·intro a vs xs h _ r d e;simp only[toD] at e;exact l (U4 h) r d e
 ·intro a vs xs h _ r d e;simp only[toD] at e;exact t (BU.of h) r d e
 ·intro a vs xs h _ r d e;simp only[toD] at e;exact t (.inr h) r d e
 ·intro a vs xs h _ r d e;simp only[toD] at e;exact t (j9 h) r d e
 ·intro a vs xs h _ _ _ d e;simp only[toD] at e;cases e
 ·intro a vs xs h _ _ _ d e;simp only[toD] at e;cases e
 ·intro a dx c f fs h _ _ _ d e;simp only[toD] at e;cases e
 ·intro d e;simp only[eZ] at e;cases e;exact .nil
 ·intro v p vs ps _ _ h t d e
  simp only[eZ] at e
  cases q:toD p with
  | none=>rw[q] at e;cases e
  | some d=>
   cases q2:eZ ps with
   | none=>rw[q,q2] at e;cases e
   | some ds=>rw[q,q2] at e;cases e;exact .cons (h _ q) (t _ q2)
theorem Rep.dt {p:PV}{d:PyData}(h:Rep C A H v p)(e:toD p=some d):Dt C.K H v d:=Rep.dt2.1 h d e
theorem zC.dt {C:MC}{A:Addr->Prop}{H:Hp}{v:V}{p:PV}{d:PyData}(h:zC C A H v p)(e:toD p=some d):Dt C.K H v d:=by
 rcases h with h | ⟨a,rfl,t⟩
 ·exact h.dt e
 ·cases p with
  | lst xs=>
   obtain⟨vs,q,r⟩:=t
   exact(Rep.lst (A:=λ_=>True) q fz (r.ex (aU λ_ _ _ _=>fz))).dt e
  | dK kvs=>simp only[toD] at e;cases e
  | dT kvs=>simp only[toD] at e;cases e
  | obj c fs=>simp only[toD] at e;cases e
  | _=>exact t.elim
theorem yX {u:V}{p q:PV}{k:Bool}(h:zC C A H v p)(h':zC C A H u q)(e:Pf p q=some k):HD v u=true/\decide (v=u)=k:=by
 unfold Pf at e
 split at e <;> first | cases e | skip
 ·rw[h.zD,h'.zD];exact⟨rfl,rfl⟩
 ·rw[h.zD,h'.int];exact⟨rfl,rfl⟩
 ·rw[h.int,h'.zD];exact⟨rfl,rfl⟩
 ·rw[h.zD,h'.bl];exact⟨rfl,rfl⟩
 ·rw[h.bl,h'.zD];exact⟨rfl,rfl⟩
 ·rw[h.zD,h'.str];exact⟨rfl,rfl⟩
 ·rw[h.str,h'.zD];exact⟨rfl,rfl⟩
 ·rw[h.int,h'.int];exact⟨rfl,by simp⟩
 ·rw[h.bl,h'.bl];exact⟨rfl,by simp⟩
 ·rw[h.str,h'.str];exact⟨rfl,by simp⟩
 ·rw[h.int,h'.str];exact⟨rfl,rfl⟩
 ·rw[h.str,h'.int];exact⟨rfl,rfl⟩
 ·rw[h.bl,h'.str];exact⟨rfl,rfl⟩
 ·rw[h.str,h'.bl];exact⟨rfl,rfl⟩
def Pa (K:W.Frag):R2:=λx y H Q=>rEq x y H Q\/∃d e,Dt K H x d/\Dt K H y e/\SeqAt.shaped d=true/\SeqAt.shaped e=true/\Q (.bl (PyData.eqv d e)) H
def Pb (K:W.Frag):R2:=λx y H Q=>rNe x y H Q\/∃d e,Dt K H x d/\Dt K H y e/\SeqAt.shaped d=true/\SeqAt.shaped e=true/\Q (.bl (!PyData.eqv d e)) H
section
variable {b:BX}
theorem Rg:FG b .val (Pa b.C.K) eqQ:=by
 intro Ow H v1 v2 p1 p2 p Q hn r1 r2 e k
 unfold eqQ HA at e
 cases q:Pf p1 p2 with
 | some c=>
  rw[q] at e
  cases e
  obtain⟨h1,h2⟩:=yX r1 r2 q
  exact .inl ⟨h1,by rw[h2];exact k _ H (zv.refl _) (.bl c)⟩
 | none=>
  rw[q] at e
  simp only[TU] at e
  cases q1:toD p1 with
  | none=>rw[q1] at e;cases e
  | some d=>
   cases q2:toD p2 with
   | none=>rw[q1,q2] at e;cases e
   | some d'=>
    rw[q1,q2] at e
    simp only at e
    split at e
    ·rename_i hs
     cases e
     exact .inr ⟨d,d',r1.dt q1,r2.dt q2,hs.1,hs.2,k _ H (zv.refl _) (.bl _)⟩
    ·cases e
theorem Rh:FG b .val (Pb b.C.K) VV:=by
 intro Ow H v1 v2 p1 p2 p Q hn r1 r2 e k
 unfold VV HA at e
 cases q:Pf p1 p2 with
 | some c=>
  rw[q] at e
  cases e
  obtain⟨h1,h2⟩:=yX r1 r2 q
  exact .inl ⟨h1,by rw[h2];exact k _ H (zv.refl _) (.bl _)⟩
 | none=>
  rw[q] at e
  simp only[TU] at e
  cases q1:toD p1 with
  | none=>rw[q1] at e;cases e
  | some d=>
   cases q2:toD p2 with
   | none=>rw[q1,q2] at e;cases e
   | some d'=>
    rw[q1,q2] at e
    simp only at e
    split at e
    ·rename_i hs
     cases e
     exact .inr ⟨d,d',r1.dt q1,r2.dt q2,hs.1,hs.2,k _ H (zv.refl _) (.bl _)⟩
    ·cases e
end
@[simp] noncomputable def keyOf:PV->Option Key
 | .int i=>some (.inl i)
 | .str x=>some (.inr x)
 | _=>none
@[simp] noncomputable def Dp:PV->Option zo
 | .int i=>some (.k (.inl i))
 | .str x=>some (.k (.inr x))
 | _=>none
@[simp] noncomputable def qd (f:PV->Option zo):List PV->Option (List zo)
 | []=>some []
 | x::xs=>(f x).bind λk=>(qd f xs).bind λks=>some (k::ks)
@[simp] noncomputable def gK (f:PV->Option zo):List PV->Option (List zo)
 | [.str x,.bl b]=>some [.k (.inr x),.k (.inl (if b=true then 1 else 0))]
 | xs=>qd f xs
@[simp] noncomputable def Dq (f:PV->Option zo):PV->Option zo
 | .tup xs=>(gK f xs).map .tp
 | .ktp xs=>(gK f xs).map .tp
 | x=>Dp x
@[simp] noncomputable def AB (xs:List PV):Option (List zo):=gK (Dq (Dq Dp)) xs
@[simp] noncomputable def fC:PV->Bool
 | .zD=>true
 | .bl _=>true
 | .int _=>true
 | .str _=>true
 | _=>false
noncomputable def TZ:PV->PV->Bool
 | .zD,.zD=>true
 | .bl a,.bl b=>a == b
 | .bl a,.int b=>(if a then 1 else 0) == b
 | .int a,.bl b=>a == (if b then 1 else 0)
 | .int a,.int b=>a == b
 | .str a,.str b=>a == b
 | _,_=>false
noncomputable def aK {κ:Type}[DecidableEq κ](kvs:List (κ×PV))(k:κ):Option PV:=(kvs.find? λx=>decide (x.1=k)).map (·.2)
theorem vK {p:PV}{k:zo}(r:Rep C A H v p)(e:Dp p=some k):∃x,k=.k x/\v=kV x:=by
 cases r with
 | int i=>cases e;exact⟨_,rfl,rfl⟩
 | str x=>cases e;exact⟨_,rfl,rfl⟩
 | _=>cases e
theorem BJ {C:MC}{A:Addr->Prop}{H:Hp}{f:PV->Option zo}{R:zo->V->Prop}(hf:∀v p k,Rep C A H v p->f p=some k->R k v):∀{vs:List V}{ps:List PV}{ks:List zo},zt C A H vs ps->qd f ps=some ks->Paired R ks vs
 | _,_,_,.nil,e=>by cases e;exact .nil
 | _,_,_,.cons (p:=p) (ps:=ps) h t,e=>by
  unfold qd at e
  obtain⟨k,hk,e⟩:=ag.mp e
  obtain⟨ks,YG,e⟩:=ag.mp e
  cases e
  exact .cons (hf _ _ _ h hk) (BJ hf t YG)
variable {ps:List PV}
theorem qO {f:PV->Option zo}{R:zo->V->Prop}(hf:∀v p k,Rep C A H v p->f p=some k->R k v){ks:List zo}(r:zt C A H vs ps)(e:gK f ps=some ks):Paired R ks vs\/KB ks vs:=by
 unfold gK at e
 split at e
 ·cases e
  cases r with
  | cons h1 t=>cases t with
   | cons h2 t=>cases t;cases h1;cases h2;exact .inr ⟨_,_,rfl,rfl⟩
 ·exact .inl (BJ hf r e)
theorem BK {f:PV->Option zo}{d:Nat}(hf:∀v p k,Rep C A H v p->f p=some k->NV C.K H d k v)(v:V)(p:PV)(k:zo)(r:Rep C A H v p)(e:Dq f p=some k):NV C.K H (d+1) k v:=by
 cases r with
 | tup h q=>
  obtain⟨ks,hk,e⟩:=bP.mp (show (gK f _).map zo.tp=some k from e)
  exact .inr ⟨ks,_,_,e.symm,rfl,.inl h,qO hf q hk⟩
 | B6 h q=>
  obtain⟨ks,hk,e⟩:=bP.mp (show (gK f _).map zo.tp=some k from e)
  exact .inr ⟨ks,_,_,e.symm,rfl,.inr h,qO hf q hk⟩
 | tupK h q=>
  obtain⟨ks,hk,e⟩:=bP.mp (show (gK f _).map zo.tp=some k from e)
  refine .inr ⟨ks,_,_,e.symm,rfl,.inr ?_,qO hf q hk⟩
  rcases h with (h | ⟨o,h⟩) | h
  ·cases h
  ·cases h
  ·exact h
 | int i=>exact .inl (vK (Rep.int (C:=C) (A:=A) (H:=H) i) e)
 | str x=>exact .inl (vK (Rep.str (C:=C) (A:=A) (H:=H) x) e)
 | _=>cases e
theorem zt.AB {C:MC}{A:Addr->Prop}{H:Hp}{vs:List V}{ps:List PV}{ks:List zo}(r:zt C A H vs ps)(e:AB ps=some ks):F6 C.K H ks vs:=
 qO (BK (d:=1) (BK (d:=0) λv p k r e=>show ∃x,k=.k x/\v=kV x from vK r e)) r e
theorem zC.key {p:PV}{k:Key}(h:zC C A H v p)(e:keyOf p=some k):v=kV k:=by
 unfold keyOf at e
 split at e
 ·cases e;exact h.int
 ·cases e;exact h.str
 ·cases e
theorem zC.flat {p:PV}(h:zC C A H v p)(e:fC p=true):gW v=true:=by
 unfold fC at e
 split at e
 ·rw[h.zD];rfl
 ·rw[h.bl];rfl
 ·rw[h.int];rfl
 ·rw[h.str];rfl
 ·cases e
noncomputable def fV:PV->V
 | .bl b=>.bl b
 | .int i=>.int i
 | .str x=>.str x
 | _=>.zD
theorem zC.fV {C:MC}{A:Addr->Prop}{H:Hp}{v:V}{p:PV}(h:zC C A H v p)(e:fC p=true):v=fV p:=by
 cases p with
 | zD=>exact h.zD
 | bl b=>exact h.bl
 | int i=>exact h.int
 | str x=>exact h.str
 | _=>cases e
theorem Ri (p q:PV)(hp:fC p=true)(hq:fC q=true):L2.OX (fV p) (fV q)=TZ p q:=by
 cases p <;> cases q <;> first | rfl | (cases hp;done) | (cases hq;done)
theorem zt.flat {C:MC}{A:Addr->Prop}{H:Hp}{v:V}{p:PV}(h:zC C A H v p)(e:fC p=true):∀{vs:List V}{ps:List PV},zt C A H vs ps->ps.all fC=true->vs.all gW=true/\Xq v vs=ps.any λy=>TZ y p
 | _,_,.nil,_=>⟨rfl,rfl⟩
 | _,_,.cons (v:=v') (p:=p') (vs:=vs) (ps:=ps) q t,e'=>by
  rw[kl,bE] at e'
  obtain⟨h1,h2⟩:=zt.flat h e t e'.2
  have hf:gW v'=true:=zC.flat (.inl q) e'.1
  refine⟨by rw[kl,hf,h1];rfl,?_⟩
  unfold Xq at h2 ⊢
  rw[fq,fq,h2]
  have q1:=h.fV e
  have q2:=zC.fV (.inl q) e'.1
  rw[q1,q2,Ri _ _ e'.1 e]
@[simp] noncomputable def sr:PV->Bool
 | .zD=>true
 | _=>false
noncomputable def OF (x y:PV):Option PV:=match y with
 | .zD=>some (.bl (sr x))
 | _=>none
@[simp] theorem Tz (x y:PV):OF x y=(match y with
 | .zD=>some (.bl (sr x))
 | _=>none):=id rfl
noncomputable def g_ (x y:PV):Option PV:=match y with
 | .zD=>some (.bl (!sr x))
 | _=>none
@[simp] theorem RV (x y:PV):g_ x y=(match y with
 | .zD=>some (.bl (!sr x))
 | _=>none):=id rfl
theorem zC.OF {p:PV}(h:zC C A H v p):decide (v=.zD)=sr p:=by
 cases p with
 | zD=>rw[h.zD];rfl
 | bl b=>rw[h.bl];rfl
 | int b=>rw[h.int];rfl
 | str b=>rw[h.str];rfl
 | lst b=>obtain⟨a,_,rfl,_⟩:=h.lst;rfl
 | frz b=>obtain⟨a,_,rfl,_⟩:=h.frz;rfl
 | tup b=>obtain⟨a,_,rfl,_⟩:=h.tup;rfl
 | ktp b=>obtain⟨a,_,rfl,_⟩:=h.ktp;rfl
 | dK b=>obtain⟨a,_,rfl,_⟩:=h.dK;rfl
 | dT b=>obtain⟨a,_,rfl,_⟩:=h.dT;rfl
 | obj c b=>obtain⟨a,_,_,rfl,_⟩:=h.obj;rfl
section
variable {b:BX}
theorem Pg:FG b .val (λx y H Q=>y=.zD/\Q (.bl (decide (x=.zD))) H) OF:=by
 intro Ow H v1 v2 p1 p2 p Q hn r1 r2 e k
 cases p2 with
 | zD=>
  simp only[OF] at e
  cases e
  exact⟨r2.zD,by rw[r1.OF];exact k _ H (zv.refl _) (.bl _)⟩
 | _=>simp only[OF] at e;cases e
theorem Gj:FG b .val (λx y H Q=>y=.zD/\Q (.bl (!decide (x=.zD))) H) g_:=by
 intro Ow H v1 v2 p1 p2 p Q hn r1 r2 e k
 cases p2 with
 | zD=>
  simp only[g_] at e
  cases e
  exact⟨r2.zD,by rw[r1.OF];exact k _ H (zv.refl _) (.bl _)⟩
 | _=>simp only[g_] at e;cases e
end
section
variable {X:Cx}{b:BX}{G:qf}{m:Md}{e e1 e2 e3:Expr}{f f1 f2 f3:qE}{pos:Pos}{m1 m2 m3:Md}
structure SC (X:Cx)(b:BX)(G:qf)(op:CmpOp)(e1 e2:Expr)(f:qE):Prop where
 pe:∀pos,SE X b G .val (.Compare e1 [op] [e2] pos) f
 pt:∀pos,ST X b G (.Compare e1 [op] [e2] pos) (tV f)
theorem lK {op:CmpOp}{r:R2}(ho:B2 X (compareOp op) r)(hr:FG b .val r g)(h1:SE X b G m1 e1 f1)(h2:SE X b G m2 e2 f2)(hm:behindInMarks op e2=false):SC X b G op e1 e2 (b2 g f1 f2):=by
 refine⟨λpos=>PE.imp (KD ho h1.bor h2.bor hm) fun σ H Q h=>Dn hr h,λpos=>PT.imp (KH ho h1.bor h2.bor hm) fun σ H Q h=>?_⟩
 obtain⟨Ow,env,c,E,hf,k⟩:=h
 unfold tV at hf
 cases q:b2 g f1 f2 env with
 | none=>rw[q] at hf;cases hf
 | some p=>
  rw[q] at hf
  refine Dn (Q:=λx H'=>∃k,x=.bl k/\_) hr ⟨Ow,env,p,E,q,λv H' s r=>?_⟩
  cases p with
  | bl d=>
   cases hf
   cases r
   exact⟨_,rfl,k H' s⟩
  | _=>cases hf
theorem dC {j:Nat}(hr:AN j X.A)(h1:SE X b G m1 e1 f1)(h2:SE X b G m2 e2 f2)(hK:X.K=b.C.K:=by rfl):SC X b G .Eq e1 e2 (b2 eqQ f1 f2):=lK (r:=Pa b.C.K) (by rw[← hK];exact B2.or Q5 (Oz hr.units)) Rg h1 h2 (j4 _)
theorem Rj {j:Nat}(hr:AN j X.A)(h1:SE X b G m1 e1 f1)(h2:SE X b G m2 e2 f2)(hK:X.K=b.C.K:=by rfl):SC X b G .NotEq e1 e2 (b2 VV f1 f2):=lK (r:=Pb b.C.K) (by rw[← hK];exact B2.or Q6 (OD hr.units)) Rh h1 h2 (j4 _)
theorem Dr (h1:SE X b G m1 e1 f1)(h2:SE X b G m2 e2 f2):SC X b G .Lt e1 e2 (b2 (jG λi j=>decide (i < j)) f1 f2):=lK Q7 Gh h1 h2 (j4 _)
theorem ux (h1:SE X b G m1 e1 f1)(h2:SE X b G m2 e2 f2):SC X b G .Gt e1 e2 (b2 (jG λi j=>decide (j < i)) f1 f2):=lK Q8 Gh h1 h2 (j4 _)
theorem Rk (h1:SE X b G m1 e1 f1)(h2:SE X b G m2 e2 f2):SC X b G .Is e1 e2 (b2 OF f1 f2):=lK Oc Pg h1 h2 (j4 _)
theorem oA (h1:SE X b G m1 e1 f1)(h2:SE X b G m2 e2 f2):SC X b G .IsNot e1 e2 (b2 g_ f1 f2):=lK Bv Gj h1 h2 (j4 _)
theorem h_ {op:CmpOp}(h:SC X b G op e1 e2 f):SE X b G .val (.Compare e1 [op] [e2] pos) f:=h.pe pos
theorem bz {op:CmpOp}(h:SC X b G op e1 e2 f):ST X b G (.Compare e1 [op] [e2] pos) (tV f):=h.pt pos
theorem Gk {op}(h:SE X b G m e f):SE X b G m (.BoolOp op [e] pos) f:=NB h
theorem Ph {rest:qo}(h1:SE X b G .val e1 f1)(h2:SE X b G .val (.BoolOp .And (e2::rest) pos) f2):SE X b G .val (.BoolOp .And (e1::e2::rest) pos) (Dl f1 f2):=
 PE.imp (NK h1 h2)<|by
  rintro σ H Q ⟨Ow,env,p,E,hf,k⟩
  unfold Dl at hf
  cases q1:f1 env with
  | none=>rw[q1] at hf;cases hf
  | some p1=>
   rw[q1] at hf
   refine⟨Ow,env,p1,E,q1,λv1 H1 s1 r1=>?_⟩
   cases p1 with
   | bl c=>
    cases r1
    refine⟨c,rfl,?_⟩
    cases c with
    | true=>exact⟨Ow,env,p,E.up s1,hf,λv H' s r=>k v H' (s1.trans s) r⟩
    | false=>cases hf;exact k _ H1 s1 (.bl false)
   | _=>cases hf
theorem Rm {rest:qo}(h1:SE X b G .val e1 f1)(h2:SE X b G .val (.BoolOp .Or (e2::rest) pos) f2):SE X b G .val (.BoolOp .Or (e1::e2::rest) pos) (Xv f1 f2):=
 PE.imp (Q0 h1 h2)<|by
  rintro σ H Q ⟨Ow,env,p,E,hf,k⟩
  unfold Xv at hf
  cases q1:f1 env with
  | none=>rw[q1] at hf;cases hf
  | some p1=>
   rw[q1] at hf
   refine⟨Ow,env,p1,E,q1,λv1 H1 s1 r1=>?_⟩
   cases p1 with
   | bl c=>
    cases r1
    refine⟨c,rfl,?_⟩
    cases c with
    | false=>exact⟨Ow,env,p,E.up s1,hf,λv H' s r=>k v H' (s1.trans s) r⟩
    | true=>cases hf;exact k _ H1 s1 (.bl true)
   | _=>cases hf
theorem Pj (h1:SE X b G .val e1 f1):SE X b G .val (.UnaryOp .Not e1 pos) (Dm f1):=
 PE.imp (NP h1)<|by
  rintro σ H Q ⟨Ow,env,p,E,hf,k⟩
  unfold Dm at hf
  cases q1:f1 env with
  | none=>rw[q1] at hf;cases hf
  | some p1=>
   rw[q1] at hf
   refine⟨Ow,env,p1,E,q1,λv1 H1 s1 r1=>?_⟩
   cases p1 with
   | bl c=>cases r1;cases hf;exact⟨c,rfl,k _ H1 s1 (.bl _)⟩
   | _=>cases hf
@[simp] noncomputable def yZ:PV->Option PV
 | .int i=>some (.int (-i))
 | _=>none
theorem y_ (h1:SE X b G m e1 f1):SE X b G .val (.UnaryOp .USub e1 pos) (b1 yZ f1):=
 PE.imp (Q4 Ob h1.bor) fun σ H Q h=>Do (r:=rU λi=>.int (-i)) (λOw H v1 p1 p Q hn r1 e k=>by
  cases p1 <;> simp only[yZ] at e <;> cases e
  exact⟨_,r1.int,k _ H (zv.refl _) (.int _)⟩) h
theorem ie (h:SE X b G .val e f)(he:∀whole,isTrue e X.env whole=(do let v ← whole;standAt e.pos;holding [v] (truthy v)):=by intro _;rfl):ST X b G e (tV f):=
 PT.imp (t6 h he)<|by
  rintro σ H Q ⟨Ow,env,c,E,hf,k⟩
  unfold tV at hf
  cases q1:f env with
  | none=>rw[q1] at hf;cases hf
  | some p1=>
   rw[q1] at hf
   refine⟨Ow,env,p1,E,q1,λv1 H1 s1 r1=>?_⟩
   cases p1 with
   | bl d=>cases r1;cases hf;exact⟨_,rfl,k H1 s1⟩
   | _=>cases hf
theorem mY {g:Env->Option Bool}(h:ST X b G e g):ST X b G (.UnaryOp .Not e pos) (tN g):=
 PT.imp (Fe h)<|by
  rintro σ H Q ⟨Ow,env,c,E,hf,k⟩
  unfold tN at hf
  cases q1:g env with
  | none=>rw[q1] at hf;cases hf
  | some p1=>rw[q1] at hf;cases hf;exact⟨Ow,env,p1,E,q1,λH' s=>k H' s⟩
abbrev SW (X:Cx)(b:BX)(G:qf)(e:Expr)(g:Env->Option Bool):Prop:=PW X e (VT b G g)
theorem PW.imp {t u:TT}(h:PW X e t)(i:∀ σ H Q,u σ H Q->t σ H Q):PW X e u:=λwh zl s σ H Q I q=>h wh zl s σ H Q I (i σ H Q q)
variable {g1 g2:Env->Option Bool}
theorem mZ (h:ST X b G e g1):SW X b G (.BoolOp .And [e] pos) g1:=Bp h
theorem uy (h:ST X b G e g1):SW X b G (.BoolOp .Or [e] pos) g1:=Nz h
theorem m6 {rest:qo}(h1:ST X b G e1 g1)(h2:SW X b G (.BoolOp .And (e2::rest) pos) g2):SW X b G (.BoolOp .And (e1::e2::rest) pos) (tA g1 g2):=
 PW.imp (Fd h1 h2)<|by
  rintro σ H Q ⟨Ow,env,c,E,hf,k⟩
  unfold tA at hf
  cases q1:g1 env with
  | none=>rw[q1] at hf;cases hf
  | some p1=>
   rw[q1] at hf
   refine⟨Ow,env,p1,E,q1,λH1 s1=>?_⟩
   cases p1 with
   | true=>exact⟨Ow,env,c,E.up s1,hf,λH' s=>k H' (s1.trans s)⟩
   | false=>cases hf;exact k H1 s1
theorem lL {rest:qo}(h1:ST X b G e1 g1)(h2:SW X b G (.BoolOp .Or (e2::rest) pos) g2):SW X b G (.BoolOp .Or (e1::e2::rest) pos) (tO g1 g2):=
 PW.imp (QW h1 h2)<|by
  rintro σ H Q ⟨Ow,env,c,E,hf,k⟩
  unfold tO at hf
  cases q1:g1 env with
  | none=>rw[q1] at hf;cases hf
  | some p1=>
   rw[q1] at hf
   refine⟨Ow,env,p1,E,q1,λH1 s1=>?_⟩
   cases p1 with
   | false=>exact⟨Ow,env,c,E.up s1,hf,λH' s=>k H' (s1.trans s)⟩
   | true=>cases hf;exact k H1 s1
theorem SW.st (h:SW X b G e g1):ST X b G e g1:=h _
theorem Kf {c:Expr}(hc:ST X b G c g1)(h1:SE X b G m e1 f1)(h2:SE X b G m e2 f2):SE X b G m (.IfExp c e1 e2 pos) (VU g1 f1 f2):=
 PE.imp (Hx hc h1 h2)<|by
  rintro σ H Q ⟨Ow,env,p,E,hf,k⟩
  unfold VU at hf
  cases q1:g1 env with
  | none=>rw[q1] at hf;cases hf
  | some c=>
   rw[q1] at hf
   refine⟨Ow,env,c,E,q1,λH1 s1=>?_⟩
   cases c with
   | true=>exact⟨Ow,env,p,E.up s1,hf,λv H' s r=>k v H' (s1.trans s) (r.down s1)⟩
   | false=>exact⟨Ow,env,p,E.up s1,hf,λv H' s r=>k v H' (s1.trans s) (r.down s1)⟩
end
def Xw (b:BX)(Ow:Addr->Prop)(L:Bool)(H:Hp)(a:Addr):Prop:=Bs b Ow a\/(L=true/\∃vs,H a=some (.lst vs))
def tMA (b:BX)(G:qf)(L:Bool)(g:Env->Option (List PV)):TA:=fun σ H Q=>∃Ow env ps,ER b Ow G σ env H/\g env=some ps/\∀vs H',zv H H'->zt b.C (Xw b Ow L H') H' vs ps->Q vs H'
abbrev SA (X:Cx)(b:BX)(G:qf)(L:Bool)(es:qo)(g:Env->Option (List PV)):Prop:=PA X es (tMA b G L g)
theorem PA.imp {es:qo}{t u:TA}(h:PA X es t)(i:∀ σ H Q,u σ H Q->t σ H Q):PA X es u:=λpos zl s σ H Q I q=>h pos zl s σ H Q I (i σ H Q q)
variable {r:List V->Hp->VK->Prop}{σ:St}{ro:Bool}{mi:List PV->Option PV}
section
variable {X:Cx}{b:BX}{G:qf}{m m1 m2:Md}{L:Bool}{e e1 e2:Expr}{es:qo}{f f1 f2:qE}{g:Env->Option (List PV)}{pos p:Pos}
theorem aJ:SA X b G L [] aP:=PA.imp aL<|by rintro σ H Q ⟨Ow,env,ps,E,hg,k⟩;cases hg;exact k [] H (zv.refl _) .nil
theorem aj (h1:SE X b G .val e f)(h2:SA X b G L es g)(hs:starEach (e::es) X.env=(false,eval e X.env)::starEach es X.env:=by rfl):SA X b G L (e::es) (au f g):=
 PA.imp (aB h1 h2 hs)<|by
  rintro σ H Q ⟨Ow,env,ps,E,hg,k⟩
  unfold au at hg
  cases q1:f env with
  | none=>rw[q1] at hg;cases hg
  | some p1=>
   rw[q1] at hg
   cases q2:g env with
   | none=>rw[q2] at hg;cases hg
   | some VW=>
    rw[q2] at hg
    cases hg
    exact⟨Ow,env,p1,E,q1,λv H1 s1 r1=>⟨Ow,env,VW,E.up s1,q2,λvs H2 s2 r2=>k (v::vs) H2 (s1.trans s2) (.cons (Rep.ex (λa o h=>⟨λq=>⟨s2 _ _ h,.inl q⟩,λ_=>s2 _ _ h⟩) r1) r2)⟩⟩
noncomputable def bL (f:qE)(env:Env):Option PV:=(f env).bind λp=>match p with | .lst xs=>some (.lst xs) | _=>none
@[simp] theorem Ud (f:qE)(env:Env):bL f env=((f env).bind λp=>match p with | .lst xs=>some (.lst xs) | _=>none):=id rfl
theorem su (h1:SE X b G m e f)(h2:SA X b G true es g)(hs:starEach (e::es) X.env=(false,eval e X.env)::starEach es X.env:=by rfl):SA X b G true (e::es) (au (bL f) g):=
 PA.imp (aB h1.bor h2 hs)<|by
  rintro σ H Q ⟨Ow,env,ps,E,hg,k⟩
  unfold au bL at hg
  cases q1:f env with
  | none=>rw[q1] at hg;cases hg
  | some p1=>
   rw[q1] at hg
   cases p1 with
   | lst xs=>
    simp only[aE] at hg
    cases q2:g env with
    | none=>rw[q2] at hg;cases hg
    | some VW=>
     rw[q2] at hg
     cases hg
     refine⟨Ow,env,_,E,q1,λv H1 s1 r1=>⟨Ow,env,VW,E.up s1,q2,λvs H2 s2 r2=>k (v::vs) H2 (s1.trans s2) (.cons ?_ r2)⟩⟩
     have FV:zC b.C (Bs b Ow) H1 v (.lst xs):=r1
     obtain⟨a,us,rfl,ha,ra⟩:=FV.lst
     exact .lst (s2 _ _ ha) (.inr ⟨rfl,us,s2 _ _ ha⟩) (ra.ex λa o h=>⟨λq=>⟨s2 _ _ h,.inl q⟩,λ_=>s2 _ _ h⟩)
   | _=>cases hg
theorem uz {b:BX}(h:zt b.C (Xw b Ow false H) H vs ps):zt b.C (Bs b Ow) H vs ps:=h.ex (aU λa o _ q=>q.elim id λz=>by cases z.1)
theorem fM (h:SA X b G false es g):SE X b G .own (.List es pos) (gY g):=PE.imp (pW h)<|by
 rintro σ H Q ⟨Ow,env,p,E,hf,k⟩
 unfold gY at hf
 cases q1:g env with
 | none=>rw[q1] at hf;cases hf
 | some ps=>
  rw[q1] at hf
  simp only[aE] at hf
  split at hf
  ·rename_i hl
   cases hf
   refine⟨Ow,env,ps,E,q1,λvs H1 s1 r=>⟨fZ (by rw[r.length];exact hl),λq hq=>k _ _ (s1.trans (aD hq _)) (Res.down s1 (eV hq (uz r)))⟩⟩
  ·cases hf
theorem cg {x1}(h:SA X b G false es g):SE X b G .val (.Tuple es x1 pos) (cN g):=PE.imp (pU h)<|by
 rintro σ H Q ⟨Ow,env,p,E,hf,k⟩
 unfold cN at hf
 cases q1:g env with
 | none=>rw[q1] at hf;cases hf
 | some ps=>
  rw[q1] at hf
  simp only[aE] at hf
  split at hf
  ·rename_i hl
   cases hf
   refine⟨Ow,env,ps,E,q1,λvs H1 s1 r=>⟨fZ (by rw[r.length];exact hl),λq hq=>k _ _ (s1.trans (aD hq _)) (mW hq (uz r))⟩⟩
  ·cases hf
theorem Kg:SE X b G .own (.Dict [] [] pos) (bC (.dT [])):=PE.imp HQ<|by
 rintro σ H Q ⟨Ow,env,p,E,hf,k⟩ q hq
 cases hf
 exact k _ _ (aD hq _) ⟨q,rfl,hq,[],aA,.nil⟩
@[simp] noncomputable def AZ:PV->PV->Option PV
 | .lst xs,.int i=>BY xs i
 | .frz xs,.int i=>BY xs i
 | .tup xs,.int i=>BY xs i
 | .ktp xs,.int i=>BY xs i
 | .str x,.int i=>if x.length<=1000000 then (BY x.cps.toList i).map λc=>.str ⟨#[c]⟩ else none
 | .dK kvs,y=>(keyOf y).bind λk=>aK kvs k
 | .dT kvs,.tup ys=>(AB ys).bind λk=>aK kvs k
 | _,_=>none
theorem zt.BY {C:MC}{A:Addr->Prop}{H:Hp}{vs:List V}{ps:List PV}{i:Int}{p:PV}(h:zt C A H vs ps)(e:BY ps i=some p):∃v,L2.BY vs i=some v/\Rep C A H v p:=by
 unfold L2.BY at e ⊢
 rw[h.length]
 cases q:IU ps.length i with
 | none=>rw[q] at e;cases e
 | some j=>rw[q] at e;exact h.get e
theorem aO {j:Nat}(hr:AN j X.A)(h1:SE X b G m1 e1 f1)(h2:SE X b G m2 e2 f2)(hs:By e2:=by intro _ _;rfl)(C6:HN e2:=by intro _ _;rfl)(hK:X.K=b.C.K:=by rfl):SE X b G .val (.Subscript e1 e2 pos) (b2 AZ f1 f2):=by
 refine PE.imp (PE.or (ul (r:=rIx b.C.K) (by rw[← hK];exact Om) h1.bor h2.bor hs) (qM (dq hr) h1.bor h2.bor C6)) fun σ H Q h=>?_
 obtain⟨Ow,env,p,E,hf,k⟩:=h
 unfold b2 at hf
 cases q1:f1 env with
 | none=>rw[q1] at hf;cases hf
 | some p1=>
  rw[q1] at hf
  cases q2:f2 env with
  | none=>rw[q2] at hf;cases hf
  | some p2=>
   rw[q2] at hf
   simp only[aE] at hf
   have step:∀(R:V->V->Hp->VK->Prop),(∀H2 v1 v2,zC b.C (Bs b Ow) H2 v1 p1->zC b.C (Bs b Ow) H2 v2 p2->zv H H2->R v1 v2 H2 Q)->tM b G .bor f1 σ H λx H1=>tM b G .bor f2 σ H1 λy H2=>R x y H2 Q:=λR hR=>
    ⟨Ow,env,p1,E,q1,λv1 H1 s1 r1=>⟨Ow,env,p2,E.up s1,q2,λv2 H2 s2 r2=>hR H2 v1 v2 (Res.up (m:=.bor) r1 s2) r2 (s1.trans s2)⟩⟩
   unfold AZ at hf
   split at hf
   ·refine .inl (step _ λH2 v1 v2 r1 r2 s=>?_)
    obtain⟨a,vs,rfl,ha,ra⟩:=r1.lst
    obtain⟨v,hv,rv⟩:=ra.BY hf
    rw[r2.int]
    exact .inl ⟨a,vs,_,v,rfl,rfl,AS.of ha,hv,k v H2 s rv⟩
   ·refine .inl (step _ λH2 v1 v2 r1 r2 s=>?_)
    obtain⟨a,vs,rfl,ha,ra⟩:=r1.frz
    obtain⟨v,hv,rv⟩:=ra.BY hf
    rw[r2.int]
    exact .inl ⟨a,vs,_,v,rfl,rfl,ha,hv,k v H2 s rv⟩
   ·refine .inl (step _ λH2 v1 v2 r1 r2 s=>?_)
    obtain⟨a,vs,rfl,ha,ra⟩:=r1.tup
    obtain⟨v,hv,rv⟩:=ra.BY hf
    rw[r2.int]
    exact .inr (.inl ⟨a,vs,_,v,rfl,rfl,ha.sq,hv,k v H2 s rv⟩)
   ·refine .inl (step _ λH2 v1 v2 r1 r2 s=>?_)
    obtain⟨a,vs,rfl,ha,ra⟩:=r1.ktp
    obtain⟨v,hv,rv⟩:=ra.BY hf
    rw[r2.int]
    exact .inr (.inl ⟨a,vs,_,v,rfl,rfl,ha,hv,k v H2 s rv⟩)
   ·split at hf
    ·rename_i x i hx
     cases q3:BY x.cps.toList i with
     | none=>rw[q3] at hf;cases hf
     | some c=>
      rw[q3] at hf
      cases hf
      refine .inl (step _ λH2 v1 v2 r1 r2 s=>?_)
      rw[r1.str,r2.int]
      exact .inr (.inr ⟨x,i,c,rfl,rfl,fZ hx,q3,k _ H2 s (.str _)⟩)
    ·cases hf
   ·rename_i kvs
    cases q3:keyOf p2 with
    | none=>rw[q3] at hf;cases hf
    | some ky=>
     rw[q3] at hf
     simp only[aE] at hf
     refine .inr (step (λx y H2 Q=>∃a v,x=.ref a/\A8 X.K H2 a y (some v)/\Q v H2) λH2 v1 v2 r1 r2 s=>?_)
     obtain⟨a,kv,rfl,ha,ra⟩:=r1.dK
     rw[r2.key q3]
     unfold aK at hf
     rcases As.val (k:=ky) ra with ⟨v,p',h1,h2,rv⟩ | ⟨h1,h2⟩
     ·rw[h2] at hf
      cases hf
      exact⟨a,v,rfl,by rw[← h1];exact A8.k ha,k v H2 s rv⟩
     ·rw[h2] at hf;cases hf
   ·rename_i kvs ys
    cases q3:AB ys with
    | none=>rw[q3] at hf;cases hf
    | some ky=>
     rw[q3] at hf
     simp only[aE] at hf
     refine .inr (step (λx y H2 Q=>∃a v,x=.ref a/\A8 X.K H2 a y (some v)/\Q v H2) λH2 v1 v2 r1 r2 s=>?_)
     obtain⟨a,kv,rfl,ha,ra⟩:=r1.dT
     obtain⟨c,vs,rfl,hc,rc⟩:=r2.tup
     unfold aK at hf
     rcases AF.val (k:=ky) ra with ⟨v,p',h1,h2,rv⟩ | ⟨h1,h2⟩
     ·rw[h2] at hf
      cases hf
      exact⟨a,v,rfl,by rw[← h1,hK];exact A8.t ha (hc.key (rc.AB q3)),k v H2 s rv⟩
     ·rw[h2] at hf;cases hf
   ·cases hf
noncomputable def dI (xs:List PV)(lo hi:Option Int):List PV:=(xs.drop (HT.AK xs.length 0 lo)).take (HT.AK xs.length xs.length hi - HT.AK xs.length 0 lo)
theorem zt.cut (h:zt C A H vs ps)(lo hi:Option Int):zt C A H (pY vs lo hi) (dI ps lo hi):=by
 unfold pY dI
 rw[h.length]
 exact(h.drop _).take _
noncomputable def oN (env:Env):Option (Option Int):=some none
@[simp] theorem Ue (env:Env):oN env=(some none):=id rfl
noncomputable def oS (f:qE)(env:Env):Option (Option Int):=(f env).bind λp=>match p with | .int i=>some (some i) | _=>none
@[simp] theorem Ug (f:qE)(env:Env):oS f env=((f env).bind λp=>match p with | .int i=>some (some i) | _=>none):=id rfl
def tMO (b:BX)(G:qf)(f:Env->Option (Option Int)):TO:=fun σ H Q=>∃Ow env o,ER b Ow G σ env H/\f env=some o/\∀H',zv H H'->Q o H'
theorem PO.imp {x:Option Expr}{t u:TO}(h:PO X x t)(i:∀ σ H Q,u σ H Q->t σ H Q):PO X x u:=by
 intro zl s σ H Q I q
 exact h zl s σ H Q I (i σ H Q q)
abbrev SO (X:Cx)(b:BX)(G:qf)(e:Option Expr)(f:Env->Option (Option Int)):Prop:=PO X e (tMO b G f)
theorem m7:SO X b G none oN:=PO.imp K4<|by rintro σ H Q ⟨Ow,env,o,E,hf,k⟩;cases hf;exact k H (zv.refl _)
theorem iU (h:SE X b G m e f):SO X b G (some e) (oS f):=PO.imp (K5 h.bor)<|by
 rintro σ H Q ⟨Ow,env,o,E,hf,k⟩
 unfold oS at hf
 cases q1:f env with
 | none=>rw[q1] at hf;cases hf
 | some p1=>
  rw[q1] at hf
  refine⟨Ow,env,p1,E,q1,λv H1 s1 r1=>?_⟩
  have FV:zC b.C (Bs b Ow) H1 v p1:=r1
  cases p1 <;> simp only[aE] at hf <;> cases hf
  exact⟨_,FV.int,k H1 s1⟩
noncomputable def VX (f:qE)(lo hi:Env->Option (Option Int))(env:Env):Option PV:=(f env).bind λx=>(lo env).bind λl=>(hi env).bind λh=>match x with
 | .lst xs=>some (.lst (dI xs l h))
 | .frz xs=>some (.lst (dI xs l h))
 | .str x=>if x.length<=1000000 then some (.str (lX x l h)) else none
 | _=>none
@[simp] theorem TF (f:qE)(lo hi:Env->Option (Option Int))(env:Env):VX f lo hi env=((f env).bind λx=>(lo env).bind λl=>(hi env).bind λh=>match x with
 | .lst xs=>some (.lst (dI xs l h))
 | .frz xs=>some (.lst (dI xs l h))
 | .str x=>if x.length<=1000000 then some (.str (lX x l h)) else none
 | _=>none):=id rfl
theorem Kh {lo hi:Option Expr}{p2:Pos}{fl fh:Env->Option (Option Int)}(h1:SE X b G m e f)(hl:SO X b G lo fl)(hh:SO X b G hi fh)(hK:X.K=b.C.K:=by rfl):SE X b G .val (.Subscript e (.Slice lo hi none p2) pos) (VX f fl fh):=by
 refine PE.imp (yR (r:=O3 b.C.K) (by rw[← hK];exact O4) h1.bor hl hh) fun σ H Q ⟨Ow,env,p,E,hf,k⟩=>?_
 unfold VX at hf
 cases q1:f env with
 | none=>rw[q1] at hf;cases hf
 | some p1=>
  rw[q1] at hf
  cases q2:fl env with
  | none=>rw[q2] at hf;cases hf
  | some l=>
   rw[q2] at hf
   cases q3:fh env with
   | none=>rw[q3] at hf;cases hf
   | some h=>
    rw[q3] at hf
    refine⟨Ow,env,p1,E,q1,λv H1 s1 r1=>⟨Ow,env,l,E.up s1,q2,λH2 s2=>⟨Ow,env,h,E.up (s1.trans s2),q3,λH3 s3=>?_⟩⟩⟩
    have FV:zC b.C (Bs b Ow) H3 v p1:=Res.up (m:=.bor) r1 (s2.trans s3)
    cases p1 <;> simp only[aE] at hf
    case lst xs=>
     cases hf
     obtain⟨a,vs,rfl,ha,ra⟩:=FV.lst
     exact .inl ⟨a,vs,rfl,AS.of ha,λq hq=>k _ _ (s1.trans (s2.trans (s3.trans (aD hq _)))) (Res.val (m:=.own) E (λz=>nomatch z) (Res.down (s1.trans (s2.trans s3)) (eV hq (ra.cut l h))))⟩
    case frz xs=>
     cases hf
     obtain⟨a,vs,rfl,ha,ra⟩:=FV.frz
     exact .inl ⟨a,vs,rfl,ha,λq hq=>k _ _ (s1.trans (s2.trans (s3.trans (aD hq _)))) (Res.val (m:=.own) E (λz=>nomatch z) (Res.down (s1.trans (s2.trans s3)) (eV hq (ra.cut l h))))⟩
    case str x=>
     split at hf
     ·rename_i hx
      cases hf
      exact .inr ⟨x,FV.str,fZ hx,k _ _ (s1.trans (s2.trans s3)) (.str _)⟩
     ·cases hf
    all_goals cases hf
theorem Pk {id:String}{g:PV->Option PV}(hc:AW X (.builtin id) r)(hr:YF b m (λv H Q=>r [v] H Q) g)(hm:X.mg x=none)(hv:bootBuiltins x=some (.builtin id))(h:SE X b G m1 e f)
  (hg:Gl X x:=by rfl) (hn:x ≠ "__name__" := by decide) (E5:(x == ("__debug__" : Str))=false:=by decide) (he:starEach [e] X.env=(false,eval e X.env)::starEach [] X.env:=by rfl):
  SE X b G m (.Call (.Name x p) [e] [] pos) (b1 g f):=
 PE.imp (dg hc hg hm hv (aB h.bor aL he) hn E5 he rfl) fun σ H Q h=>Do hr h
theorem vL {id:String}{g:PV->Option PV}(hc:AW X (.type id) r)(hr:YF b m (λv H Q=>r [v] H Q) g)(hm:X.mg x=none)(hv:bootBuiltins x=some (.type id))(h:SE X b G m1 e f)
  (hg:Gl X x:=by rfl) (hn:x ≠ "__name__" := by decide) (E5:(x == ("__debug__" : Str))=false:=by decide) (he:starEach [e] X.env=(false,eval e X.env)::starEach [] X.env:=by rfl):
  SE X b G m (.Call (.Name x p) [e] [] pos) (b1 g f):=
 PE.imp (wU hc hg hm hv (aB h.bor aL he) hn E5 he rfl) fun σ H Q h=>Do hr h
@[simp] noncomputable def B0:PV->Option PV
 | .lst xs=>some (.int xs.length)
 | .frz xs=>some (.int xs.length)
 | .tup xs=>some (.int xs.length)
 | .ktp xs=>some (.int xs.length)
 | .str x=>if x.length<=1000000 then some (.int x.length) else none
 | .dK kvs=>some (.int kvs.length)
 | _=>none
theorem As.length {C:MC}{A:Addr->Prop}{H:Hp}:∀{vs:List (Key×V)}{ps:List (Key×PV)},As C A H vs ps->vs.length=ps.length
 | _,_,.nil=>rfl
 | _,_,.cons _ t=>by simp[As.length t]
theorem cW (hm:X.mg "len" = none)(h:SE X b G m1 e f)(hK:X.K=b.C.K:=by rfl)(hg:Gl X "len" := by rfl)(he:starEach [e] X.env=(false,eval e X.env)::starEach [] X.env:=by rfl):SE X b G .val (.Call (.Name "len" p) [e] [] pos) (b1 B0 f):=by
 refine Pk (AW.or (AW.or pZ j6) Gb) (λOw H v1 p1 p Q hn r1 e k=>?_) hm hW h hg (by decide) (by decide) he
 rw[hK]
 cases p1 <;> simp only[B0] at e
 case lst xs=>cases e;obtain⟨a,vs,rfl,ha,ra⟩:=r1.lst;exact .inl (.inl ⟨a,vs,rfl,.inl (AS.of ha),by rw[ra.length];exact k _ H (zv.refl _) (.int _)⟩)
 case frz xs=>cases e;obtain⟨a,vs,rfl,ha,ra⟩:=r1.frz;exact .inl (.inl ⟨a,vs,rfl,.inl ha,by rw[ra.length];exact k _ H (zv.refl _) (.int _)⟩)
 case tup xs=>cases e;obtain⟨a,vs,rfl,ha,ra⟩:=r1.tup;exact .inl (.inl ⟨a,vs,rfl,.inr ha.sq,by rw[ra.length];exact k _ H (zv.refl _) (.int _)⟩)
 case ktp xs=>cases e;obtain⟨a,vs,rfl,ha,ra⟩:=r1.ktp;exact .inl (.inl ⟨a,vs,rfl,.inr ha,by rw[ra.length];exact k _ H (zv.refl _) (.int _)⟩)
 case str x=>
  split at e
  ·rename_i hx
   cases e
   rw[r1.str]
   exact .inl (.inr ⟨x,rfl,fZ hx,k _ H (zv.refl _) (.int _)⟩)
  ·cases e
 case dK kvs=>cases e;obtain⟨a,vs,rfl,ha,ra⟩:=r1.dK;exact .inr ⟨a,vs,rfl,ha,by rw[ra.length];exact k _ H (zv.refl _) (.int _)⟩
 all_goals cases e
noncomputable def Ds:Key->PV
 | .inl i=>.int i
 | .inr x=>.str x
@[simp] noncomputable def Du:PV->Option PV
 | .lst xs=>some (.lst xs)
 | .frz xs=>some (.lst xs)
 | .tup xs=>some (.lst xs)
 | .ktp xs=>some (.lst xs)
 | .dK kvs=>some (.lst (kvs.map λkv=>Ds kv.1))
 | _=>none
theorem Lf (k:Key):Rep C A H (kV k) (Ds k):=by cases k with | inl i=>exact .int i | inr x=>exact .str x
theorem As.keys {C:MC}{A:Addr->Prop}{H:Hp}:∀{vs:List (Key×V)}{ps:List (Key×PV)},As C A H vs ps->zt C A H (vs.map λkv=>kV kv.1) (ps.map λkv=>Ds kv.1)
 | _,_,.nil=>.nil
 | _,_,.cons (k:=k) _ t=>.cons (Lf k) (As.keys t)
theorem Lg (hm:X.mg "list" = none)(h:SE X b G m1 e f)(VY:X.calm=true:=by rfl)(hK:X.K=b.C.K:=by rfl)(hg:Gl X "list" := by rfl)(he:starEach [e] X.env=(false,eval e X.env)::starEach [] X.env:=by rfl):SE X b G .own (.Call (.Name "list" p) [e] [] pos) (b1 Du f):=by
 refine vL (AW.or yV (vJ VY)) (λOw H v1 p1 p Q hn r1 e k=>?_) hm i6 h hg (by decide) (by decide) he
 rw[hK]
 cases p1 <;> simp only[Du] at e <;> cases e
 case lst xs=>obtain⟨a,vs,rfl,ha,ra⟩:=r1.lst;exact .inl ⟨a,vs,rfl,.inl (AS.of ha),λl hl=>k _ _ (aD hl _) (eV hl ra)⟩
 case frz xs=>obtain⟨a,vs,rfl,ha,ra⟩:=r1.frz;exact .inl ⟨a,vs,rfl,.inl ha,λl hl=>k _ _ (aD hl _) (eV hl ra)⟩
 case tup xs=>obtain⟨a,vs,rfl,ha,ra⟩:=r1.tup;exact .inl ⟨a,vs,rfl,.inr ha.sq,λl hl=>k _ _ (aD hl _) (eV hl ra)⟩
 case ktp xs=>obtain⟨a,vs,rfl,ha,ra⟩:=r1.ktp;exact .inl ⟨a,vs,rfl,.inr ha,λl hl=>k _ _ (aD hl _) (eV hl ra)⟩
 case dK kvs=>obtain⟨a,vs,rfl,ha,ra⟩:=r1.dK;exact .inr ⟨a,vs,rfl,ha,λl hl=>k _ _ (aD hl _) (eV hl ra.keys)⟩
@[simp] noncomputable def CD:List PV->Option (List Str)
 | []=>some []
 | .str c::r=>(CD r).map (c::·)
 | _::_=>none
theorem zt.CD {C:MC}{A:Addr->Prop}{H:Hp}:∀{vs:List V}{ps:List PV}{bs:qq},zt C A H vs ps->CD ps=some bs->vs=bs.map V.str
 | _,_,_,.nil,e=>by cases e;rfl
 | _,_,_,.cons (p:=p) (ps:=ps) h t,e=>by
  cases p <;> simp only[MR.CD] at e <;> first | cases e | skip
  rename_i c
  cases q:MR.CD ps with
  | none=>rw[q] at e;cases e
  | some bs=>rw[q] at e;cases e;cases h;rw[zt.CD t q];rfl
@[simp] noncomputable def uA:PV->PV->Option PV
 | .str z,.lst xs=>(CD xs).bind λzs=>if JoinOk z zs=true then some (.str (Str.join z zs)) else none
 | _,_=>none
theorem Rn {id:String}{name:Str}{apos AA:Pos}{o:Expr}{fo:qE}{r:V->List V->Hp->VK->Prop}{g:PV->PV->Option PV}(slot:Slot "str" name id)(TK:typeOf (.builtin id)=pure (.type "method_descriptor"))(pa:PlainAttrs "str")(hm:Xp X id r)
  (hr:FG b m (λx y H Q=>(∃z,x=.str z)->r x [y] H Q) g) (hgs:∀x y p,g x y=some p->∃z,x=.str z) (ho:SE X b G m1 o fo) (h:SE X b G m2 e f)
  (BD:attributeBase o name X.env (eval o X.env)=eval o X.env:=by rfl)
  (ES:((backTo AA (starEach [e] X.env)).all (λx=>!x.1)&&(backToKw AA (keywordEach [] X.env)).all (λx=>x.1.isSome)
   && decide ([e].length+([]:List Keyword).length+(if ([]:List Keyword).isEmpty then 0 else 1) < 30))=true:=by rfl)
  (BE:(apos.endLine == AA.line)=true:=by rfl) (hs:starEach [e] X.env=(false,eval e X.env)::starEach [] X.env:=by rfl):
  SE X b G m (.Call (.Attribute o name apos) [e] [] AA) (b2 g fo f):=by
 refine PE.imp (xW pa slot TK hm ho.bor (aB h.bor aL hs) BD ES BE hs rfl) fun σ H Q h=>?_
 obtain⟨Ow,env,p,E,hf,k⟩:=h
 unfold b2 at hf
 cases q1:fo env with
 | none=>rw[q1] at hf;cases hf
 | some p1=>
  rw[q1] at hf
  cases q2:f env with
  | none=>rw[q2] at hf;cases hf
  | some p2=>
   rw[q2] at hf
   simp only[aE] at hf
   obtain⟨z,rfl⟩:=hgs _ _ _ hf
   refine⟨Ow,env,_,E,q1,λv1 H1 s1 r1=>?_⟩
   have FV:zC b.C (Bs b Ow) H1 v1 (.str z):=r1
   have ev:=FV.str
   subst ev
   refine⟨rfl,Ow,env,p2,E.up s1,q2,λv2 H2 s2 r2=>?_⟩
   exact hr Ow H2 _ v2 _ p2 p Q (λa=>(E.up (s1.trans s2)).fresh) (zC.ex (.of_same s2) s2 FV) r2 hf (λv H' s r=>k v H' (s1.trans (s2.trans s)) (r.down (s1.trans s2))) ⟨z,rfl⟩
theorem Lh:FG b .val (λx y H Q=>(∃z,x=.str z)->rJoin b.C.K x [y] H Q) uA:=by
 intro Ow H v1 v2 p1 p2 p Q hn r1 r2 e k _
 unfold uA at e
 split at e
 ·rename_i z xs
  cases q:CD xs with
  | none=>rw[q] at e;cases e
  | some zs=>
   rw[q] at e
   simp only[aE] at e
   split at e
   ·rename_i hj
    cases e
    obtain⟨a,vs,rfl,ha,ra⟩:=r2.lst
    have hv:=ra.CD q
    subst hv
    exact⟨z,a,zs,r1.str,rfl,AS.of ha,hj,k _ H (zv.refl _) (.str _)⟩
   ·cases e
 ·cases e
theorem Li {apos AA:Pos}{o:Expr}{fo:qE}(ho:SE X b G m1 o fo)(h:SE X b G m2 e f)(hK:X.K=b.C.K:=by rfl)(BD:attributeBase o "join" X.env (eval o X.env)=eval o X.env:=by rfl)
  (ES:((backTo AA (starEach [e] X.env)).all (λx=>!x.1)&&(backToKw AA (keywordEach [] X.env)).all (λx=>x.1.isSome)
   && decide ([e].length+([]:List Keyword).length+(if ([]:List Keyword).isEmpty then 0 else 1) < 30))=true:=by rfl)
  (BE:(apos.endLine == AA.line)=true:=by rfl) (hs:starEach [e] X.env=(false,eval e X.env)::starEach [] X.env:=by rfl):
  SE X b G .val (.Call (.Attribute o "join" apos) [e] [] AA) (b2 uA fo f):=
 Rn PySem.F.slot_str_join PySem.F.type_str_join PySem.F.plainAttrs_str (r:=rJoin b.C.K) (by rw[← hK];exact K_) Lh (λx y p e=>by
  unfold uA at e
  split at e
  ·exact⟨_,rfl⟩
  ·cases e) ho h BD ES BE hs
def RI (C:MC)(A:Addr->Prop)(H:Hp)(ro:Bool)(H':Hp)(v:V)(p:PV):Prop:=match ro with
 | true=>∃a,v=.ref a/\H a=none/\Top C (λc=>(A c\/H c=none)/\c≠a) H' a p
 | false=>Rep C (λc=>A c\/H c=none) H' v p
def CO (C:MC)(m:List PV->Option PV)(ro:Bool):Sp:=λvs H Q _=>∃A ps p,zt C A H vs ps/\m ps=some p/\∀v H',zv H H'->RI C A H ro H' v p->Q v H'
def Ib:Bool->Md
 | true=>.own
 | false=>.val
theorem RI.res {env:Env}{H1:Hp}{q:PV}(E:ER b Ow G σ env H)(s:zv H H1)(r:RI b.C (Bs b Ow) H1 ro H' v q):Res b Ow H H' (Ib ro) v q:=by
 cases ro with
 | true=>
  obtain⟨a,rfl,h,t⟩:=r
  exact⟨a,rfl,s.free h,t.ex (aU λc o _ z=>⟨z.1.elim id λw=>(E.up s).fresh w,z.2⟩) λo z=>z⟩
 | false=>exact Rep.ex (aU λc o _ z=>z.elim id λw=>(E.up s).fresh w) r
theorem Lj {k j:Nat}{ps:qq}(c:IL X.prog X.w X.K X.mg X.base k x ps (CO b.C mi ro))(hr:AN j X.A)(ha:SA X b G false (e::es) g)(hle:k<=j:=by decide)(hg:Gl X x:=by rfl)
  (E5:(x == ("__debug__" : Str))=false:=by decide) (he:starEach (e::es) X.env=(false,eval e X.env)::starEach es X.env:=by rfl) (A2:(backTo pos (starEach es X.env)).any (·.1)=false:=by rfl):
  SE X b G (Ib ro) (.Call (.Name x p) (e::es) [] pos) (bM mi g):=by
 refine PE.imp (eO c hr ha hle hg E5 he A2) ?_
 rintro σ H Q ⟨Ow,env,q,E,hf,kk⟩
 unfold bM at hf
 cases q1:g env with
 | none=>rw[q1] at hf;cases hf
 | some qs=>
  rw[q1] at hf
  refine⟨Ow,env,qs,E,q1,λvs H1 s1 r=>?_⟩
  dsimp only
  rw[bS]
  exact⟨Bs b Ow,qs,q,uz r,hf,λv H' s' rr=>kk v H' (s1.trans s') (RI.res E s1 rr)⟩
mutual
noncomputable def HC:PV->Bool
 | .lst _=>false
 | .tup xs=>vM xs
 | .ktp xs=>vM xs
 | .frz xs=>vM xs
 | .dK kvs=>Dv kvs
 | .dT kvs=>Dw kvs
 | .obj _ fs=>Dy fs
 | _=>true
noncomputable def vM:List PV->Bool
 | []=>true
 | x::xs=>HC x&&vM xs
noncomputable def Dv:List (Key×PV)->Bool
 | []=>true
 | x::xs=>HC x.2&&Dv xs
noncomputable def Dw:List (List zo×PV)->Bool
 | []=>true
 | x::xs=>HC x.2&&Dw xs
noncomputable def Dy:List (Str×PV)->Bool
 | []=>true
 | x::xs=>HC x.2&&Dy xs
end
def NL (A A':Addr->Prop)(H:Hp):Prop:=∀a o,H a=some o->A a->A' a\/∃vs,o=.lst vs
theorem Rep.nl5 (e:NL A A' H):(∀{v p},Rep C A H v p->HC p=true->Rep C A' H v p)/\(∀{v p},zt C A H v p->vM p=true->zt C A' H v p)/\(∀{v p},As C A H v p->Dv p=true->As C A' H v p)/\(∀{v p},AF C A H v p->Dw p=true->AF C A' H v p)/\(∀{v p},BF C A H v p->Dy p=true->BF C A' H v p):=by
 refine Rep.nd (λ_=>.zD) (λb _=>.bl b) (λb _=>.int b) (λb _=>.str b) ?_ ?_ ?_ ?_ ?_ ?_ ?_ ?_ ?_ (λ_=>.nil) ?_ (λ_=>.nil) ?_ (λ_=>.nil) ?_ (λ_=>.nil) ?_
 ·intro a vs xs h q _ _ n;simp only[HC] at n;cases n
 ·intro a o vs xs h _ r n;simp only[HC] at n;exact .Lo h (r n)
 ·intro a vs xs h _ r n;simp only[HC] at n;exact .lstK h (r n)
 ·intro a vs xs h _ r n;simp only[HC] at n;exact .tup h (r n)
 ·intro a vs xs h _ r n;simp only[HC] at n;exact .B6 h (r n)
 ·intro a vs xs h _ r n;simp only[HC] at n;exact .tupK h (r n)
 ·intro a vs xs h q _ r n;simp only[HC] at n;exact .dK h ((e _ _ h q).elim id λz=>nomatch z.choose_spec) (r n)
 ·intro a vs xs h q _ r n;simp only[HC] at n;exact .dT h ((e _ _ h q).elim id λz=>nomatch z.choose_spec) (r n)
 ·intro a dx c f fs h q _ r n;simp only[HC] at n;exact .obj h ((e _ _ h q).elim id λz=>nomatch z.choose_spec) (r n)
 ·intro v p vs ps _ _ h t n;simp only[vM,bE] at n;exact .cons (h n.1) (t n.2)
 ·intro k v p vs ps _ _ h t n;simp only[Dv,bE] at n;exact .cons (h n.1) (t n.2)
 ·intro k v p vs ps _ _ h t n;simp only[Dw,bE] at n;exact .cons (h n.1) (t n.2)
 ·intro k v p vs ps _ _ h t n;simp only[Dy,bE] at n;exact .cons (h n.1) (t n.2)
theorem Rep.nl (e:NL A A' H){p:PV}:Rep C A H v p->HC p=true->Rep C A' H v p:=(Rep.nl5 e).1
noncomputable def m8 (mi:List PV->Option PV)(g:Env->Option (List PV))(env:Env):Option PV:=((g env).bind mi).bind λp=>if HC p=true then some p else none
@[simp] theorem RW (mi:List PV->Option PV)(g:Env->Option (List PV))(env:Env):m8 mi g env=(((g env).bind mi).bind λp=>if HC p=true then some p else none):=id rfl
theorem sE {k j:Nat}{ps:qq}(c:IL X.prog X.w X.K X.mg X.base k x ps (CO b.C mi false))(hr:AN j X.A)(ha:SA X b G true (e::es) g)(hle:k<=j:=by decide)(hg:Gl X x:=by rfl)
  (E5:(x == ("__debug__" : Str))=false:=by decide) (he:starEach (e::es) X.env=(false,eval e X.env)::starEach es X.env:=by rfl) (A2:(backTo pos (starEach es X.env)).any (·.1)=false:=by rfl):
  SE X b G .val (.Call (.Name x p) (e::es) [] pos) (m8 mi g):=by
 refine PE.imp (eO c hr ha hle hg E5 he A2) ?_
 rintro σ H Q ⟨Ow,env,q,E,hf,kk⟩
 unfold m8 at hf
 cases q1:g env with
 | none=>rw[q1] at hf;cases hf
 | some qs=>
  rw[q1] at hf
  simp only[aE] at hf
  cases q2:mi qs with
  | none=>rw[q2] at hf;cases hf
  | some q'=>
   rw[q2] at hf
   simp only[aE] at hf
   split at hf
   ·rename_i hl
    cases hf
    refine⟨Ow,env,qs,E,q1,λvs H1 s1 r=>?_⟩
    dsimp only
    rw[bS]
    refine⟨Xw b Ow true H1,qs,q,r,q2,λv H' s' rr=>kk v H' (s1.trans s') ?_⟩
    have Xx:Rep b.C (λc=>Xw b Ow true H1 c\/H1 c=none) H' v q:=rr
    refine Xx.nl (λa o ha z=>?_) hl
    rcases z with (z | ⟨_,us,z⟩) | z
    ·exact .inl z
    ·have:=s' _ _ z
     rw[this] at ha
     exact .inr ⟨us,(bg ha).symm⟩
    ·exact .inl ((E.up s1).fresh z)
   ·cases hf
noncomputable def iW (c:Nat)(x:Str)(f:qE)(env:Env):Option PV:=(f env).bind λp=>match p with
 | .obj c' fs=>if c'=c then fs.lookup x else none
 | _=>none
@[simp] theorem f9 (c:Nat)(x:Str)(f:qE)(env:Env):iW c x f env=((f env).bind λp=>match p with
 | .obj c' fs=>if c'=c then fs.lookup x else none
 | _=>none):=id rfl
theorem m9 {c:Nat}(hc:II b.C.K (b.C.cl c))(hn:AO b.C.K (b.C.cl c) x)(h:SE X b G m e f)(hb:attributeBase e x X.env (eval e X.env)=eval e X.env:=by rfl)(hK:X.K=b.C.K:=by rfl):SE X b G .val (.Attribute e x pos) (iW c x f):=
 PE.imp (Fy h.bor hb)<|by
  rintro σ H Q ⟨Ow,env,p,E,hf,k⟩
  unfold iW at hf
  cases q1:f env with
  | none=>rw[q1] at hf;cases hf
  | some p1=>
   rw[q1] at hf
   refine⟨Ow,env,p1,E,q1,λv H1 s1 r1=>?_⟩
   have FV:zC b.C (Bs b Ow) H1 v p1:=r1
   cases p1 <;> simp only[aE] at hf <;> first | cases hf | skip
   rename_i c' fs
   split at hf
   ·rename_i U2
    subst U2
    obtain⟨a,dx,fv,rfl,ha,ra⟩:=FV.obj
    obtain⟨v',hv,rv⟩:=ra.look hf
    rw[hK]
    exact⟨a,_,dx,fv,v',rfl,ha,hc,hn,hv,k v' H1 s1 rv⟩
   ·cases hf
structure EA (P:Program)(w:World)(K:W.Frag)(mg:Str->Option Value)(base:Heap)(C:Addr)(k:Nat)(x:Str)(ps:qq)(sp:Sp):Prop where
 ex:∃f fd,AX P w K mg base ED k f fd ps sp/\Binds K fd ps []/\Meth K C x f
noncomputable def qP (c:Nat)(x:Str)(mi:List PV->Option PV)(f:qE)(g:Env->Option (List PV))(env:Env):Option PV:=(f env).bind λp=>match p with
 | .obj c' fs=>if c'=c/\fs.lookup x=none then (g env).bind λps=>mi (p::ps) else none
 | _=>none
@[simp] theorem R_ (c:Nat)(x:Str)(mi:List PV->Option PV)(f:qE)(g:Env->Option (List PV))(env:Env):qP c x mi f g env=((f env).bind λp=>match p with
 | .obj c' fs=>if c'=c/\fs.lookup x=none then (g env).bind λps=>mi (p::ps) else none
 | _=>none):=id rfl
theorem Lk {c k j:Nat}{o:Expr}{fo:qE}{ps:qq}{apos:Pos}(cM:EA X.prog X.w X.K X.mg X.base (b.C.cl c) k x ps (CO b.C mi ro))(hc:II X.K (b.C.cl c))(hr:AN j X.A)(ho:SE X b G .val o fo)(ha:SA X b G false (e::es) g)(hle:k<=j:=by decide)
  (D3:starEach (e::es) X.env=(false,eval e X.env)::starEach es X.env:=by rfl) (A2:(backTo pos (starEach es X.env)).any (·.1)=false:=by rfl){pl:Sem Bool}
  (ht:eval (.Call (.Attribute o x apos) (e::es) [] pos) X.env=(do
   let ov ← eval o X.env
   standAt apos.atName
   let (f,first) ← holding [ov] (getMethod ov x pl)
   callWith pos f first (backTo pos (starEach (e::es) X.env)) (backToKw pos (keywordEach [] X.env))):=by rfl):
  SE X b G (Ib ro) (.Call (.Attribute o x apos) (e::es) [] pos) (qP c x mi fo g):=by
 obtain⟨f,fd,F,hb,hM⟩:=cM.ex
 refine PE.imp (Bw (pl:=pl) ho hc hM F (hr.mono hle) hb .nil uo ha D3 A2 ht) ?_
 rintro σ H Q ⟨Ow,env,q,E,hf,kk⟩
 unfold qP at hf
 cases q1:fo env with
 | none=>rw[q1] at hf;cases hf
 | some p1=>
  rw[q1] at hf
  refine⟨Ow,env,p1,E,q1,λv H1 s1 r1=>?_⟩
  have r1v:Rep b.C (Bs b Ow) H1 v p1:=r1
  cases p1 <;> simp only[aE] at hf <;> first | cases hf | skip
  rename_i c' fs
  split at hf
  ·rename_i U2
   obtain⟨rfl,OC⟩:=U2
   cases q2:g env with
   | none=>rw[q2] at hf;cases hf
   | some qs=>
    rw[q2] at hf
    obtain⟨a,dx,fv,rfl,hha,ra⟩:=zC.obj (.inl r1v)
    refine⟨a,dx,fv,rfl,hha,ra.RH OC,Ow,env,qs,E.up s1,q2,λvs H2 s2 r2=>?_⟩
    dsimp only
    rw[bS]
    exact⟨Bs b Ow,_::qs,q,.cons (r1v.ex (.of_same s2)) (uz r2),hf,λv' H' s' rr=>kk v' H' (s1.trans (s2.trans s')) (RI.res E (s1.trans s2) rr)⟩
  ·cases hf
theorem bw {k j:Nat}{ps:qq}(c:IL X.prog X.w X.K X.mg X.base k x ps (CO b.C mi false))(hr:AN j X.A)(ha:SA X b G false (e::es) g)(hle:k<=j:=by decide)(hg:Gl X x:=by rfl)
  (E5:(x == ("__debug__" : Str))=false:=by decide) (he:starEach (e::es) X.env=(false,eval e X.env)::starEach es X.env:=by rfl) (A2:(backTo pos (starEach es X.env)).any (·.1)=false:=by rfl):
  SE X b G .val (.Call (.Name x p) (e::es) [] pos) (bM mi g):=Lj c hr ha hle hg E5 he A2
theorem za {c k j:Nat}{o:Expr}{fo:qE}{ps:qq}{apos:Pos}(cM:EA X.prog X.w X.K X.mg X.base (b.C.cl c) k x ps (CO b.C mi false))(hc:II X.K (b.C.cl c))(hr:AN j X.A)(ho:SE X b G .val o fo)(ha:SA X b G false (e::es) g)(hle:k<=j:=by decide)
  (D3:starEach (e::es) X.env=(false,eval e X.env)::starEach es X.env:=by rfl) (A2:(backTo pos (starEach es X.env)).any (·.1)=false:=by rfl){pl:Sem Bool}
  (ht:eval (.Call (.Attribute o x apos) (e::es) [] pos) X.env=(do
   let ov ← eval o X.env
   standAt apos.atName
   let (f,first) ← holding [ov] (getMethod ov x pl)
   callWith pos f first (backTo pos (starEach (e::es) X.env)) (backToKw pos (keywordEach [] X.env))):=by rfl):
  SE X b G .val (.Call (.Attribute o x apos) (e::es) [] pos) (qP c x mi fo g):=Lk (pl:=pl) cM hc hr ho ha hle D3 A2 ht
end
section
variable {b:BX}{Ow:Addr->Prop}{G:qf}{σ:St}{env:Env}{H H':Hp}
theorem ER.set (E:ER b Ow G σ env H){i:Nat}{v:V}{p:PV}(hi:i∉G)(r:Rep b.C (Bs b Ow) H v p)(hx:b.fx i=none):ER b Ow G (σ.set i (some v)) (env.set i (some p)) H:=by
 refine⟨by rw[d0,d0];exact E.len,E.same,E.live,E.new,λj q e n=>?_,λj q e n=>?_,λj k a q q' e1 n1 s1 e2 n2 s2=>?_,λk w hw=>?_⟩
 ·by_cases hj:i=j
  ·subst hj
   rw[kR] at e
   split at e
   ·split at e
    ·rename_i hl
     have:=bg (bg e)
     subst this
     exact⟨v,by rw[d6 (by rw[E.len];exact hl)],r⟩
    ·cases e
   ·exact absurd rfl ‹_›
  ·rw[bm hj] at e ⊢
   exact E.val j q e n
 ·have hj:i≠j:=λz=>hi (z▸n)
  rw[bm hj] at e ⊢
  exact E.own j q e n
 ·have hj:i≠j:=λz=>hi (z▸n1)
  have hk:i≠k:=λz=>hi (z▸n2)
  rw[bm hj] at e1 s1
  rw[bm hk] at e2 s2
  exact E.sep j k a q q' e1 n1 s1 e2 n2 s2
 ·by_cases hk:i=k
  ·subst hk;rw[hx] at hw;cases hw
  ·rw[bm hk];exact E.fix k w hw
theorem ER.VZ (E:ER b Ow G σ env H){i:Nat}{p:PV}{H0:Hp}{G':qf}(hG:∀j,j∈G'↔(j∈G\/j=i))(s0:zv H0 H)(hn:H0 a=none)(Xy:ER b Ow G σ env H0)(t:Top b.C (λc=>Bs b Ow c/\c≠a) H a p)(hx:b.fx i=none):
  ER b (λc=>Ow c\/c=a) G' (σ.set i (some (.ref a))) (env.set i (some p)) H/\Ex (Bs b Ow) H0 (Bs b λc=>Ow c\/c=a) H:=by
 have YH:Ex (Bs b Ow) H0 (Bs b λc=>Ow c\/c=a) H:=λc o h=>⟨λq=>⟨s0 _ _ h,λz=>z.elim q.1 (aq h hn),q.2⟩,λ_=>s0 _ _ h⟩
 have ht:Top b.C (Bs b λc=>Ow c\/c=a) H a p:=t.ex (aU λc o _ q=>⟨λz=>z.elim q.1.1 q.2,q.1.2⟩) λo z=>z
 refine⟨⟨by rw[d0,d0];exact E.len,E.same,λc w=>w.elim (E.live c) λz=>by subst z;obtain⟨o,h,_⟩:=t.live;exact⟨o,h⟩,λc w=>w.elim (E.new c) λz=>by subst z;exact Xy.same.free hn,λj q e n=>?_,λj q e n=>?_,λj k c q q' e1 n1 s1 e2 n2 s2=>?_,λk w hw=>?_⟩,YH⟩
 ·have hj:i≠j:=λz=>n ((hG j).mpr (.inr z.symm))
  rw[bm hj] at e ⊢
  obtain⟨v,h1,h2⟩:=Xy.val j q e λz=>n ((hG j).mpr (.inl z))
  exact⟨v,h1,h2.ex YH⟩
 ·by_cases hj:i=j
  ·subst hj
   rw[kR] at e
   split at e
   ·split at e
    ·rename_i hl
     have:=bg (bg e)
     subst this
     exact⟨a,by rw[d6 (by rw[E.len];exact hl)],.inr rfl,ht⟩
    ·cases e
   ·exact absurd rfl ‹_›
  ·rw[bm hj] at e ⊢
   have nG:j∈G:=((hG j).mp n).elim id λz=>absurd z.symm hj
   obtain⟨c,h1,h2,h3⟩:=Xy.own j q e nG
   exact⟨c,h1,.inl h2,h3.ex YH λo z=>s0 _ _ z⟩
 ·have old:∀{j:Nat}{q:PV},i≠j->j∈G'->env[j]?=some (some q)->σ[j]?=some (some (.ref c))->c≠a:=λ{j q} hj n e s=>by
   have nG:j∈G:=((hG j).mp n).elim id λz=>absurd z.symm hj
   obtain⟨c',h1,h2,h3⟩:=Xy.own j q e nG
   rw[s] at h1
   cases h1
   obtain⟨o,h4,_⟩:=h3.live
   exact aq h4 hn
  by_cases hj:i=j
  ·by_cases hk:i=k
   ·exact hj.symm.trans hk
   ·subst hj
    rw[bm hk] at e2 s2
    have hl:i < σ.length:=by
     by_cases hl:i < σ.length
     ·exact hl
     ·rw[cK (by rw[d0];omega)] at s1;cases s1
    rw[d6 hl] at s1
    cases s1
    exact absurd rfl (old hk n2 e2 s2)
  ·by_cases hk:i=k
   ·subst hk
    rw[bm hj] at e1 s1
    have hl:i < σ.length:=by
     by_cases hl:i < σ.length
     ·exact hl
     ·rw[cK (by rw[d0];omega)] at s2;cases s2
    rw[d6 hl] at s2
    cases s2
    exact absurd rfl (old hj n1 e1 s1)
   ·rw[bm hj] at e1 s1
    rw[bm hk] at e2 s2
    have g1:j∈G:=((hG j).mp n1).elim id λz=>absurd z.symm hj
    have g2:k∈G:=((hG k).mp n2).elim id λz=>absurd z.symm hk
    exact E.sep j k c q q' e1 g1 s1 e2 g2 s2
 ·by_cases hk:i=k
  ·subst hk;rw[hx] at hw;cases hw
  ·rw[bm hk];exact E.fix k w hw
theorem ER.write (E:ER b Ow G σ env H){i:Nat}{p p':PV}{o':HO}(hi:i∈G)(hσ:σ[i]?=some (some (.ref a)))(he:env[i]?=some (some p))(hw:Ow a)(t:Top b.C (Bs b Ow) H a p)(t':Top b.C (Bs b Ow) (upd H a o') a p'):
  ER b Ow G σ (env.set i (some p')) (upd H a o')/\Ex (Bs b Ow) H (Bs b Ow) (upd H a o'):=by
 obtain⟨o,ho,hm⟩:=t.live
 have hx:Ex (Bs b Ow) H (Bs b Ow) (upd H a o'):=λc u h=>⟨λq=>⟨by rw[ao (λz:c=a=>q.1 (z▸hw))];exact h,q⟩,λm=>by
  have hc:c≠a:=λz=>by subst z;rw[ho] at h;cases h;rw[hm] at m;cases m
  rw[ao hc];exact h⟩
 refine⟨⟨by rw[d0];exact E.len,λc u h=>?_,λc w=>?_,E.new,λj q e n=>?_,λj q e n=>?_,λj k c q q' e1 n1 s1 e2 n2 s2=>?_,E.fix⟩,hx⟩
 ·have hc:c≠a:=aq h (E.new a hw)
  rw[ao hc];exact E.same c u h
 ·by_cases hc:c=a
  ·subst hc;exact⟨o',aA⟩
  ·obtain⟨u,h⟩:=E.live c w
   exact⟨u,by rw[ao hc];exact h⟩
 ·have hj:i≠j:=λz=>n (z▸hi)
  rw[bm hj] at e
  obtain⟨v,h1,h2⟩:=E.val j q e n
  exact⟨v,h1,h2.ex hx⟩
 ·by_cases hj:i=j
  ·subst hj
   rw[kR] at e
   split at e
   ·split at e
    ·have:=bg (bg e)
     subst this
     exact⟨a,hσ,hw,t'⟩
    ·cases e
   ·exact absurd rfl ‹_›
  ·rw[bm hj] at e
   obtain⟨c,h1,h2,h3⟩:=E.own j q e n
   have hc:c≠a:=λz=>by subst z;exact hj (E.sep i j c p q he hi hσ e n h1)
   exact⟨c,h1,h2,h3.ex hx λu z=>by rw[ao hc];exact z⟩
 ·have back:∀{j:Nat}{q:PV},(env.set i (some p'))[j]?=some (some q)->∃q,env[j]?=some (some q):=λ{j q} e=>by
   by_cases hj:i=j
   ·subst hj;exact⟨p,he⟩
   ·rw[bm hj] at e;exact⟨q,e⟩
  obtain⟨r1,Yf⟩:=back e1
  obtain⟨r2,Lm⟩:=back e2
  exact E.sep j k c r1 r2 Yf n1 s1 Lm n2 s2
theorem ER.weak {G':qf}(E:ER b Ow G σ env H)(h:∀j,j∈G'->j∈G):∃AV,ER b AV G' σ env H/\Ex (Bs b Ow) H (Bs b AV) H:=by
 refine⟨λa=>Ow a/\∃j q,j∈G'/\env[j]?=some (some q)/\σ[j]?=some (some (.ref a)),?_⟩
 have hx:Ex (Bs b Ow) H (Bs b λa=>Ow a/\∃j q,j∈G'/\env[j]?=some (some q)/\σ[j]?=some (some (.ref a))) H:=aU λc o _ q=>⟨λz=>q.1 z.1,q.2⟩
 refine⟨⟨E.len,E.same,λa w=>E.live a w.1,λa w=>E.new a w.1,λi p e n=>?_,λi p e n=>?_,λi j a p q e1 n1 s1 e2 n2 s2=>E.sep i j a p q e1 (h i n1) s1 e2 (h j n2) s2,E.fix⟩,hx⟩
 ·by_cases hi:i∈G
  ·obtain⟨a,h1,h2,h3⟩:=E.own i p e hi
   refine⟨_,h1,(h3.ex hx λo z=>z).rep ⟨λz=>?_,.inr (E.new a h2)⟩⟩
   obtain⟨_,j,q,hj,e',s'⟩:=z
   have:=E.sep i j a p q e hi h1 e' (h j hj) s'
   subst this
   exact n hj
  ·obtain⟨v,h1,h2⟩:=E.val i p e hi
   exact⟨v,h1,h2.ex hx⟩
 ·obtain⟨a,h1,h2,h3⟩:=E.own i p e (h i n)
  exact⟨a,h1,⟨h2,i,p,n,e,h1⟩,h3.ex hx λo z=>z⟩
theorem ER.forget (E:ER b Ow G σ env H)(i:Nat):ER b Ow G σ (env.set i none) H:=by
 have back:∀{j:Nat}{q:PV},(env.set i none)[j]?=some (some q)->env[j]?=some (some q):=λ{j q} e=>by
  by_cases hj:i=j
  ·subst hj
   rw[kR] at e
   split at e
   ·split at e <;> cases e
   ·exact absurd rfl ‹_›
  ·rw[bm hj] at e;exact e
 exact⟨by rw[d0];exact E.len,E.same,E.live,E.new,λj q e n=>E.val j q (back e) n,λj q e n=>E.own j q (back e) n,λj k a q q' e1 n1 s1 e2 n2 s2=>E.sep j k a q q' (back e1) n1 s1 (back e2) n2 s2,E.fix⟩
@[simp] noncomputable def EF:List Nat->Env->Env
 | [],env=>env
 | i::r,env=>EF r (env.set i none)
theorem ER.EF:∀{ds:qf}{env:Env},ER b Ow G σ env H->ER b Ow G σ (EF ds env) H
 | [],_,E=>E
 | i::r,env,E=>ER.EF (ds:=r) (E.forget i)
end
inductive Out where
 | nx (e:Env) | bk (e:Env) | ct (e:Env) | rt (p:PV)
def Pm (b:BX)(Ow:Addr->Prop)(H:Hp)(G L:qf)(ro:Bool)(D:Ends):Out->Prop
 | .nx e=>∀AV σ' H',ER b AV G σ' e H'->Ex (Bs b Ow) H (Bs b AV) H'->D.nx σ' H'
 | .bk e=>∀AV σ' H',ER b AV L σ' e H'->Ex (Bs b Ow) H (Bs b AV) H'->D.bk σ' H'
 | .ct e=>∀AV σ' H',ER b AV L σ' e H'->Ex (Bs b Ow) H (Bs b AV) H'->D.ct σ' H'
 | .rt p=>∀v H',zv b.H0 H'->RI b.C b.A b.H0 ro H' v p->D.rt v H'
def tS (b:BX)(G G' L:qf)(ro:Bool)(f:Env->Option Out):TS:=λD σ H=>∃Ow env out,ER b Ow G σ env H/\f env=some out/\Pm b Ow H G' L ro D out
abbrev SS (X:Cx)(b:BX)(G G' L:qf)(ro:Bool)(st:Stmt)(f:Env->Option Out):Prop:=PS X st (tS b G G' L ro f)
abbrev IM (X:Cx)(b:BX)(G G' L:qf)(ro:Bool)(st:qk)(f:Env->Option Out):Prop:=EX X st (tS b G G' L ro f)
theorem EX.imp {e:qk}{t u:TS}(h:EX X e t)(i:∀D σ H,u D σ H->t D σ H):EX X e u:=λzl s σ H D I q=>h zl s σ H D I (i D σ H q)
theorem PS.or {e:Stmt}{t u:TS}(h:PS X e t)(h':PS X e u):PS X e (λD σ H=>t D σ H\/u D σ H):=λzl s σ H D I q=>q.elim (h zl s σ H D I) (h' zl s σ H D I)
theorem Pm.ex {b:BX}{Ow1:Addr->Prop}{H1:Hp}{G L:qf}{D:Ends}{o:Out}(e:Ex (Bs b Ow) H (Bs b Ow1) H1)(h:Pm b Ow H G L ro D o):Pm b Ow1 H1 G L ro D o:=by
 cases o with
 | nx e'=>exact λAV σ' H' E x=>h AV σ' H' E (e.trans x)
 | bk e'=>exact λAV σ' H' E x=>h AV σ' H' E (e.trans x)
 | ct e'=>exact λAV σ' H' E x=>h AV σ' H' E (e.trans x)
 | rt p=>exact h
noncomputable def FX (env:Env):Option Out:=some (.nx env)
@[simp] theorem TJ (env:Env):FX env=(some (.nx env)):=id rfl
noncomputable def Xz (env:Env):Option Out:=none
@[simp] theorem TQ (env:Env):Xz env=(none):=id rfl
noncomputable def aQ (f g:Env->Option Out)(env:Env):Option Out:=(f env).bind λo=>match o with | .nx e=>g e | o=>some o
@[simp] theorem Td (f g:Env->Option Out)(env:Env):aQ f g env=((f env).bind λo=>match o with | .nx e=>g e | o=>some o):=id rfl
noncomputable def bA (i:Nat)(f:qE)(env:Env):Option Out:=(f env).bind λp=>some (.nx (env.set i (some p)))
@[simp] theorem Te (i:Nat)(f:qE)(env:Env):bA i f env=((f env).bind λp=>some (.nx (env.set i (some p)))):=id rfl
noncomputable def bQ (f:qE)(env:Env):Option Out:=(f env).bind λp=>some (.rt p)
@[simp] theorem Tf (f:qE)(env:Env):bQ f env=((f env).bind λp=>some (.rt p)):=id rfl
noncomputable def FY (c:Env->Option Bool)(f g:Env->Option Out)(env:Env):Option Out:=(c env).bind λk=>if k=true then f env else g env
@[simp] theorem TV (c:Env->Option Bool)(f g:Env->Option Out)(env:Env):FY c f g env=((c env).bind λk=>if k=true then f env else g env):=id rfl
noncomputable def jR (g:PV->PV->Option PV)(i:Nat)(f:qE)(env:Env):Option Out:=(bV i env).bind λx=>(f env).bind λp=>(g x p).bind λy=>some (.nx (env.set i (some y)))
@[simp] theorem Sg (g:PV->PV->Option PV)(i:Nat)(f:qE)(env:Env):jR g i f env=((bV i env).bind λx=>(f env).bind λp=>(g x p).bind λy=>some (.nx (env.set i (some y)))):=id rfl
noncomputable def xX (g:PV->PV->PV->Option PV)(i:Nat)(f h:qE)(env:Env):Option Out:=(bV i env).bind λx=>(f env).bind λp=>(h env).bind λq=>(g x p q).bind λy=>some (.nx (env.set i (some y)))
@[simp] theorem Sh (g:PV->PV->PV->Option PV)(i:Nat)(f h:qE)(env:Env):xX g i f h env=((bV i env).bind λx=>(f env).bind λp=>(h env).bind λq=>(g x p q).bind λy=>some (.nx (env.set i (some y)))):=id rfl
@[simp] noncomputable def sG:PV->PV->Option PV
 | .lst xs,p=>if xs.length < 1000000 then some (.lst (xs++[p])) else none
 | _,_=>none
noncomputable def bB {κ:Type}[DecidableEq κ](kvs:List (κ×PV))(k:κ)(v:PV):List (κ×PV):=
 if (kvs.any λkv=>decide (kv.1=k))=true then kvs.map (λkv=>if kv.1=k then (kv.1,v) else kv) else kvs++[(k,v)]
@[simp] noncomputable def Dz:PV->PV->PV->Option PV
 | .dK kvs,k,v=>(keyOf k).bind λk=>if kvs.length < 1000000 then some (.dK (bB kvs k v)) else none
 | .dT kvs,.tup ks,v=>(AB ks).bind λk=>if kvs.length < 1000000 then some (.dT (bB kvs k v)) else none
 | .lst xs,.int i,v=>(IU xs.length i).map λj=>.lst (xs.set j v)
 | _,_,_=>none
variable {tg:Expr}{fr:Bool}
section
variable {X:Cx}{b:BX}{G G' G1 L:qf}{ro:Bool}{st:Stmt}{rest:qk}{f g:Env->Option Out}{e e1 e2:Expr}{h h1 h2:qE}{m m1 m2:Md}{pos:Pos}
theorem cH:IM X b G G L ro [] FX:=EX.imp jZ<|by rintro D σ H ⟨Ow,env,o,E,hf,k⟩;cases hf;exact k Ow σ H E (Ex.refl _ _)
theorem aH (a:SS X b G G1 L ro st f)(c:IM X b G1 G' L ro rest g):IM X b G G' L ro (st::rest) (aQ f g):=EX.imp (aV a c)<|by
 rintro D σ H ⟨Ow,env,o,E,hf,k⟩
 unfold aQ at hf
 cases q:f env with
 | none=>rw[q] at hf;cases hf
 | some o1=>
  rw[q] at hf
  refine⟨Ow,env,o1,E,q,?_⟩
  cases o1 with
  | nx e'=>exact λAV σ' H' E' x=>⟨AV,e',o,E',hf,k.ex x⟩
  | bk e'=>cases hf;exact k
  | ct e'=>cases hf;exact k
  | rt p=>cases hf;exact k
theorem aN (a:SS X b G G' L ro st f):IM X b G G' L ro [st] f:=bU a
theorem Gm (c:IM X b G1 G' L ro rest g)(hs:∀j,j∈G1->j∈G:=by decide):IM X b G G' L ro rest g:=EX.imp c<|by
 rintro D σ H ⟨Ow,env,o,E,hf,k⟩
 obtain⟨AV,E',x⟩:=E.weak hs
 exact⟨AV,env,o,E',hf,k.ex x⟩
theorem az {α β:Type}{x:Option α}{k:α->Option β}{y:β}(h:x.bind k=some y):∃a,x=some a/\k a=some y:=by
 cases x with
 | none=>cases h
 | some a=>exact⟨a,rfl,h⟩
theorem Sq {i:Nat}{D:Ends}(hi:i∉G)(hx:b.fx i=none)(q:tS b G G L ro (bA i h) D σ H):tM b G .val h σ H λv H1=>D.nx (σ.set i (some v)) H1:=by
 obtain⟨Ow,env,o,E,hf,k⟩:=q
 obtain⟨p,hp,e⟩:=az hf
 cases e
 exact⟨Ow,env,p,E,hp,λv H' s r=>k Ow _ H' ((E.up s).set hi r hx) (.of_same s)⟩
theorem Ro {i:Nat}{D:Ends}(hG:∀j,j∈G'↔(j∈G\/j=i))(hx:b.fx i=none)(q:tS b G G' L ro (bA i h) D σ H):tM b G .own h σ H λv H1=>D.nx (σ.set i (some v)) H1:=by
 obtain⟨Ow,env,o,E,hf,k⟩:=q
 obtain⟨p,hp,e⟩:=az hf
 cases e
 refine⟨Ow,env,p,E,hp,?_⟩
 rintro v H' s ⟨a,ev,hn,t⟩
 subst ev
 obtain⟨E',x⟩:=(E.up s).VZ hG s hn E t hx
 exact k _ _ H' E' x
theorem bZ (i:Nat){pos':Pos}(nd:X.N.Nodup)(he:SE X b G .val e h)(hG:i∉G:=by decide)(hx:b.fx i=none:=by first | rfl | assumption)(hi:X.N[i]?=some x:=by rfl)(hl:Loc X.env.scope x:=by first | exact e9 rfl | exact fb rfl)
  (hs:swapsWith e (some (.Name x pos')) pos.line X.env=pure false:=by rfl) (hf:X.fn x=true\/X.env.scope.names.lookup x=some .local:=by first | exact .inl rfl | exact .inr rfl | assumption):SS X b G G L ro (.Assign [.Name x pos'] e pos) (bA i h):=
 PS.imp (dO nd hi hl he hs hf) λD σ H q=>Sq hG hx q
theorem m_ (i:Nat){pos':Pos}(nd:X.N.Nodup)(he:SE X b G .own e h)(hG:i∈G:=by decide)(hx:b.fx i=none:=by first | rfl | assumption)(hi:X.N[i]?=some x:=by rfl)(hl:Loc X.env.scope x:=by first | exact e9 rfl | exact fb rfl)
  (hs:swapsWith e (some (.Name x pos')) pos.line X.env=pure false:=by rfl) (hf:X.fn x=true\/X.env.scope.names.lookup x=some .local:=by first | exact .inl rfl | exact .inr rfl | assumption):SS X b G G L ro (.Assign [.Name x pos'] e pos) (bA i h):=
 PS.imp (dO nd hi hl he hs hf) λD σ H q=>Ro (λj=>⟨.inl,λz=>z.elim id λy=>y▸hG⟩) hx q
theorem bN (he:SE X b G .val e h):SS X b G G' L false (.Return (some e) pos) (bQ h):=PS.imp (gA he)<|by
 rintro D σ H ⟨Ow,env,o,E,hf,k⟩
 obtain⟨p,hp,z1⟩:=az hf
 clear hf
 cases z1
 exact⟨Ow,env,p,E,hp,λv H' s r=>k v H' (E.same.trans s) (Rep.ex (aU λc o _ q=>q.2) r)⟩
theorem Pn (he:SE X b G .own e h):SS X b G G' L true (.Return (some e) pos) (bQ h):=PS.imp (gA he)<|by
 rintro D σ H ⟨Ow,env,o,E,hf,k⟩
 obtain⟨p,hp,z1⟩:=az hf
 clear hf
 cases z1
 exact⟨Ow,env,p,E,hp,λv H' s ⟨a,ev,hn,t⟩=>k v H' (E.same.trans s) ⟨a,ev,E.same.free hn,t.ex (aU λc o _ q=>⟨q.1.2,q.2⟩) λo z=>z⟩⟩
theorem Pq (i:Nat){p1:Pos}(hi:i∈G:=by decide)(hN:X.N[i]?=some x:=by rfl)(hv:LW X.env.scope x:=by first | exact e9 rfl | exact fb (e9 rfl) | exact fb (fb rfl))(hd:(x == ("__debug__" : Str))=false:=by decide)
  (D0:(x == ("__classdict__" : Str))=false:=by decide):SS X b G G' L true (.Return (some (.Name x p1)) pos) (bQ (bV i)):=PS.imp (gA (gU hN hv hd D0))<|by
 rintro D σ H ⟨Ow,env,o,E,hf,k⟩
 obtain⟨p,hp,z1⟩:=az hf
 clear hf
 cases z1
 obtain⟨a,e,w,t⟩:=E.own i p (eX hp) hi
 exact⟨_,e,k _ H E.same ⟨a,rfl,E.new a w,t.ex (aU λc o _ q=>⟨q.2,λz=>q.1 (z▸w)⟩) λo z=>z⟩⟩
theorem e_ {c:Expr}{k:Env->Option Bool}{sa sb:qk}(hc:ST X b G c k)(ha:IM X b G G' L ro sa f)(hb:IM X b G G' L ro sb g):SS X b G G' L ro (.If c sa sb pos) (FY k f g):=PS.imp (qJ hc ha hb)<|by
 rintro D σ H ⟨Ow,env,o,E,hf,kk⟩
 obtain⟨p,hp,z1⟩:=az hf
 clear hf
 refine⟨Ow,env,p,E,hp,λH' s=>?_⟩
 cases p with
 | true=>exact iT ⟨Ow,env,o,E.up s,z1,kk.ex (.of_same s)⟩
 | false=>exact lW ⟨Ow,env,o,E.up s,z1,kk.ex (.of_same s)⟩
theorem uB (i:Nat){p1 apos AA:Pos}(he:SE X b G .val e h)(hi:i∈G:=by decide)(hN:X.N[i]?=some x:=by rfl)(hv:LW X.env.scope x:=by first | exact e9 rfl | exact fb (e9 rfl) | exact fb (fb rfl))(hd:(x == ("__debug__" : Str))=false:=by decide)
  (D0:(x == ("__classdict__" : Str))=false:=by decide) (BD:attributeBase (.Name x p1) "append" X.env (eval (.Name x p1) X.env)=eval (.Name x p1) X.env:=by rfl)
  (ES:((backTo AA (starEach [e] X.env)).all (λx=>!x.1)&&(backToKw AA (keywordEach [] X.env)).all (λx=>x.1.isSome)
   && decide ([e].length+([]:List Keyword).length+(if ([]:List Keyword).isEmpty then 0 else 1) < 30))=true:=by rfl)
  (BE:(apos.endLine == AA.line)=true:=by rfl) (hs:starEach [e] X.env=(false,eval e X.env)::starEach [] X.env:=by rfl):
  SS X b G G L ro (.Expr (.Call (.Attribute (.Name x p1) "append" apos) [e] [] AA) pos) (jR sG i h):=
 PS.imp (qI (xW iL kr kz jy (gU hN hv hd D0) (aB he aL hs) BD ES BE hs rfl))<|by
  rintro D σ H ⟨Ow,env,o,E,hf,k⟩
  obtain⟨px,RO,z1⟩:=az hf
  clear hf
  obtain⟨p,hp,z2⟩:=az z1
  clear z1
  obtain⟨y,hy,z3⟩:=az z2
  clear z2
  cases z3
  obtain⟨a,ea,w,t⟩:=E.own i px (eX RO) hi
  cases px <;> simp only[sG] at hy <;> first | cases hy | skip
  rename_i xs
  split at hy
  ·rename_i hl
   cases hy
   obtain⟨vs,ha,ra⟩:=id t
   refine⟨_,ea,.inl ⟨rfl,_,AS.of ha⟩,Ow,env,p,E,hp,λv H' s r=>?_⟩
   refine⟨a,vs,v,rfl,rfl,s _ _ ha,bY (by rw[ra.length];omega),?_⟩
   have RS:zt b.C (Bs b Ow) (upd H' a (.lst (vs++[v]))) (vs++[v]) (xs++[p]):=by
    refine(ra.ex (.of_same s)).append (.cons r .nil) |>.ex λc o h=>⟨λq=>⟨by rw[ao (λz:c=a=>q.1 (z▸w))];exact h,q⟩,λm=>?_⟩
    have hc:c≠a:=λz=>by subst z;rw[s _ _ ha] at h;cases h;cases m
    rw[ao hc];exact h
   obtain⟨E',x⟩:=(E.up s).write hi ea (eX RO) w (t.ex (.of_same s) λo z=>s _ _ z) (o':=.lst (vs++[v])) (p':=.lst (xs++[p])) ⟨_,aA,RS⟩
   exact k Ow σ _ E' ((Ex.of_same s).trans x)
  ·cases hy
theorem As.put {k:Key}{p:PV}(r:Rep C A H v p){kv:List (Key×V)}{kvs:List (Key×PV)}(t:As C A H kv kvs):As C A H (putK kv k v) (bB kvs k p):=by
 have T1:∀{kv:List (Key×V)}{kvs:List (Key×PV)},As C A H kv kvs->(kv.any λx=>decide (x.1=k))=(kvs.any λx=>decide (x.1=k)):=by
  intro kv kvs t
  induction kv generalizing kvs with
  | nil=>cases t;rfl
  | cons x l ih=>cases t with | cons h t=>rw[fq,fq,ih t]
 have T2:∀{kv:List (Key×V)}{kvs:List (Key×PV)},As C A H kv kvs->As C A H (kv.map λx=>if x.1=k then (x.1,v) else x) (kvs.map λx=>if x.1=k then (x.1,p) else x):=by
  intro kv kvs t
  induction kv generalizing kvs with
  | nil=>cases t;exact .nil
  | cons x l ih=>
   cases t with
   | cons h t=>
    rw[a0,a0]
    rename_i k' v' p' VW
    by_cases e:k'=k
    ·simp only[e,fR];exact .cons r (ih t)
    ·simp only[e,fI];exact .cons h (ih t)
 have Uk:∀{kv:List (Key×V)}{kvs:List (Key×PV)},As C A H kv kvs->As C A H (kv++[(k,v)]) (kvs++[(k,p)]):=by
  intro kv kvs t
  induction kv generalizing kvs with
  | nil=>cases t;exact .cons r .nil
  | cons x l ih=>cases t with | cons h t=>exact .cons h (ih t)
 unfold putK bB
 rw[T1 t]
 split
 ·exact T2 t
 ·exact Uk t
theorem AF.put {k:List zo}{p:PV}(r:Rep C A H v p){kv:List (List zo×V)}{kvs:List (List zo×PV)}(t:AF C A H kv kvs):AF C A H (putK kv k v) (bB kvs k p):=by
 have T1:∀{kv:List (List zo×V)}{kvs:List (List zo×PV)},AF C A H kv kvs->(kv.any λx=>decide (x.1=k))=(kvs.any λx=>decide (x.1=k)):=by
  intro kv kvs t
  induction kv generalizing kvs with
  | nil=>cases t;rfl
  | cons x l ih=>cases t with | cons h t=>rw[fq,fq,ih t]
 have T2:∀{kv:List (List zo×V)}{kvs:List (List zo×PV)},AF C A H kv kvs->AF C A H (kv.map λx=>if x.1=k then (x.1,v) else x) (kvs.map λx=>if x.1=k then (x.1,p) else x):=by
  intro kv kvs t
  induction kv generalizing kvs with
  | nil=>cases t;exact .nil
  | cons x l ih=>
   cases t with
   | cons h t=>
    rw[a0,a0]
    rename_i k' v' p' VW
    by_cases e:k'=k
    ·simp only[e,fR];exact .cons r (ih t)
    ·simp only[e,fI];exact .cons h (ih t)
 have Uk:∀{kv:List (List zo×V)}{kvs:List (List zo×PV)},AF C A H kv kvs->AF C A H (kv++[(k,v)]) (kvs++[(k,p)]):=by
  intro kv kvs t
  induction kv generalizing kvs with
  | nil=>cases t;exact .cons r .nil
  | cons x l ih=>cases t with | cons h t=>exact .cons h (ih t)
 unfold putK bB
 rw[T1 t]
 split
 ·exact T2 t
 ·exact Uk t
theorem AF.length {C:MC}{A:Addr->Prop}{H:Hp}:∀{vs:List (List zo×V)}{ps:List (List zo×PV)},AF C A H vs ps->vs.length=ps.length
 | _,_,.nil=>rfl
 | _,_,.cons _ t=>by simp[AF.length t]
theorem oE {o o':HO}(w:Ow a)(ha:H a=some o)(hm:gF o=true):Ex (Bs b Ow) H (Bs b Ow) (upd H a o'):=λc u h=>⟨λq=>⟨by rw[ao (λz:c=a=>q.1 (z▸w))];exact h,q⟩,λm=>by
 have hc:c≠a:=λz=>by subst z;rw[ha] at h;cases h;rw[hm] at m;cases m
 rw[ao hc];exact h⟩
theorem Kl (i:Nat){p1 p2:Pos}{j:Nat}(hr:AN j X.A)(hk:SE X b G .val e1 h1)(OB:SE X b G .val e2 h2)(hi:i∈G:=by decide)(hN:X.N[i]?=some x:=by rfl)(hv:LW X.env.scope x:=by first | exact e9 rfl | exact fb (e9 rfl) | exact fb (fb rfl))(hd:(x == ("__debug__" : Str))=false:=by decide)
  (D0:(x == ("__classdict__" : Str))=false:=by decide) (hs:swapsWith e2 (some (.Subscript (.Name x p1) e1 p2)) pos.line X.env=pure false:=by rfl) (DE:swapsWithSole [.Subscript (.Name x p1) e1 p2] e2 pos.line X.env=pure false:=by rfl) (hw:swappedStores [.Subscript (.Name x p1) e1 p2] e2 X.env=pure none:=by rfl)
  (YI:(assignEach [.Subscript (.Name x p1) e1 p2] X.env).map (·.2)=[assign (.Subscript (.Name x p1) e1 p2) X.env]:=by rfl)
  (ha:∀v,assign (.Subscript (.Name x p1) e1 p2) X.env v=(do
   let ov ← holding [v] (eval (.Name x p1) X.env)
   let iv ← holding [v,ov] (eval e1 X.env)
   standAt p2
   holding [v,ov,iv] (setItem ov iv v)
   release [v,ov,iv] []):=by intro _;rfl) (hK:X.K=b.C.K:=by rfl):SS X b G G L ro (.Assign [.Subscript (.Name x p1) e1 p2] e2 pos) (xX Dz i h1 h2):=by
 refine PS.imp (PS.or (mV (dq hr) (gU hN hv hd D0) hk OB hs) (Ff OB (NZ (gU hN hv hd D0) hk set_list ha) DE hw YI)) ?_
 rintro D σ H ⟨Ow,env,o,E,hf,k⟩
 obtain⟨px,RO,z1⟩:=az hf
 clear hf
 obtain⟨pk,YJ,z2⟩:=az z1
 clear z1
 obtain⟨pv,YK,z3⟩:=az z2
 clear z2
 obtain⟨y,hy,z4⟩:=az z3
 clear z3
 cases z4
 obtain⟨a,ea,w,t⟩:=E.own i px (eX RO) hi
 have fin:∀{H2:Hp}{o':HO},zv H H2->Top b.C (Bs b Ow) (upd H2 a o') a y->D.nx σ (upd H2 a o'):=λ{H2 o'} s t'=>by
  obtain⟨E',x⟩:=(E.up s).write hi ea (eX RO) w (t.ex (.of_same s) λo z=>s _ _ z) t'
  exact k Ow σ _ E' ((Ex.of_same s).trans x)
 unfold Dz at hy
 split at hy
 ·obtain⟨ky,YL,hy⟩:=az hy
  split at hy
  ·rename_i hl
   cases hy
   obtain⟨kv,ha,ra⟩:=id t
   refine .inl ⟨Ow,env,pv,E,YK,λv H1 s1 r1=>⟨_,ea,Ow,env,pk,E.up s1,YJ,λu H2 s2 r2=>?_⟩⟩
   have s:=s1.trans s2
   have eu:=zC.key (.inl r2) YL
   subst eu
   refine⟨a,_,rfl,E6.k (s _ _ ha) (bY (by rw[ra.length];omega)),fin s ⟨_,aA,?_⟩⟩
   exact(As.put (k:=ky) (Rep.ex (.of_same s2) r1) (ra.ex (.of_same s))).ex (oE w (s _ _ ha) rfl)
  ·cases hy
 ·obtain⟨ky,YL,hy⟩:=az hy
  split at hy
  ·rename_i hl
   cases hy
   obtain⟨kv,ha,ra⟩:=id t
   refine .inl ⟨Ow,env,pv,E,YK,λv H1 s1 r1=>⟨_,ea,Ow,env,_,E.up s1,YJ,λu H2 s2 r2=>?_⟩⟩
   have s:=s1.trans s2
   obtain⟨c,us,rfl,hc,rc⟩:=zC.tup (.inl r2)
   refine⟨a,_,rfl,E6.t (s _ _ ha) (by rw[hK];exact hc.key (rc.AB YL)) (bY (by rw[ra.length];omega)),fin s ⟨_,aA,?_⟩⟩
   exact(AF.put (k:=ky) (Rep.ex (.of_same s2) r1) (ra.ex (.of_same s))).ex (oE w (s _ _ ha) rfl)
  ·cases hy
 ·rename_i xs n
  cases q:IU xs.length n with
  | none=>rw[q] at hy;cases hy
  | some jj=>
   rw[q] at hy
   cases hy
   obtain⟨vs,ha,ra⟩:=id t
   refine .inr ⟨Ow,env,pv,E,YK,λv H1 s1 r1=>⟨_,ea,Ow,env,_,E.up s1,YJ,λu H2 s2 r2=>?_⟩⟩
   have s:=s1.trans s2
   have eu:=zC.int (.inl r2)
   subst eu
   refine⟨a,vs,n,jj,rfl,rfl,s _ _ ha,by rw[ra.length];exact q,fin s ⟨_,aA,?_⟩⟩
   exact(zt.set (Rep.ex (.of_same s2) r1) jj (ra.ex (.of_same s))).ex (oE w (s _ _ ha) rfl)
 ·cases hy
def IW (b:BX)(Ow:Addr->Prop)(fr:Bool)(H1:Hp)(J:It)(ps:List PV):Prop:=∀AV H,(fr=false->zv H1 H)->Ex (Bs b Ow) H1 (Bs b AV) H->(∀a,H a=none->Bs b AV a)->
 (∀i p,ps[i]?=some p->J.go i H/\∀x H',J.LZ i H x H'->zv H H'/\Rep b.C (Bs b AV) H' x p)/\J.stop ps.length H
def tMI (b:BX)(G:qf)(fr:Bool)(g:Env->Option (List PV)):TI:=fun σ H R=>∃Ow env ps,ER b Ow G σ env H/\g env=some ps/\∀J H1,zv H H1->IW b Ow fr H1 J ps->R J H1
abbrev SI (X:Cx)(b:BX)(G:qf)(fr:Bool)(tg it:Expr)(g:Env->Option (List PV)):Prop:=PI X tg it (tMI b G fr g)
theorem PI.imp {it:Expr}{t u:TI}(h:PI X tg it t)(i:∀ σ H R,u σ H R->t σ H R):PI X tg it u:=λzl s σ H R I q=>h zl s σ H R I (i σ H R q)
theorem PI.or {it:Expr}{t u:TI}(h:PI X tg it t)(h':PI X tg it u):PI X tg it (fun σ H R=>t σ H R\/u σ H R):=λzl s σ H R I q=>q.elim (h zl s σ H R I) (h' zl s σ H R I)
noncomputable def V0 (x:Str):List PV:=x.cps.toList.map λc=>.str ⟨#[c]⟩
@[simp] noncomputable def Po:PV->Option (List PV)
 | .lst xs=>some xs
 | .frz xs=>some xs
 | .tup xs=>some xs
 | .ktp xs=>some xs
 | .str x=>some (V0 x)
 | _=>none
noncomputable def iV (f:qE)(env:Env):Option (List PV):=(f env).bind Po
@[simp] theorem Uh (f:qE)(env:Env):iV f env=((f env).bind Po):=id rfl
theorem vN {H1:Hp}{xs:List PV}(hq:∀AV H,(fr=false->zv H1 H)->Ex (Bs b Ow) H1 (Bs b AV) H->AS b.C.K H a vs/\zt b.C (Bs b AV) H vs xs):IW b Ow fr H1 (OR b.C.K a) xs:=by
 intro AV H h0 h1 hn
 obtain⟨q,r⟩:=hq AV H h0 h1
 refine⟨λi p hp=>?_,⟨vs,q,by rw[r.length];exact aw _⟩⟩
 obtain⟨v,hv,rv⟩:=r.get hp
 refine⟨⟨vs,v,q,hv⟩,λx H' y=>?_⟩
 obtain⟨e,y⟩:=y
 subst e
 have e2:=y vs q
 rw[hv] at e2
 cases e2
 exact⟨zv.refl _,rv⟩
theorem Gn {H1:Hp}{xs:List PV}(hq:∀AV H,(fr=false->zv H1 H)->Ex (Bs b Ow) H1 (Bs b AV) H->BU b.C.K H a vs/\zt b.C (Bs b AV) H vs xs):IW b Ow fr H1 (OS b.C.K a) xs:=by
 intro AV H h0 h1 hn
 obtain⟨q,r⟩:=hq AV H h0 h1
 refine⟨λi p hp=>?_,⟨vs,q,by rw[r.length];exact aw _⟩⟩
 obtain⟨v,hv,rv⟩:=r.get hp
 refine⟨⟨vs,v,q,hv⟩,λx H' y=>?_⟩
 obtain⟨e,y⟩:=y
 subst e
 have e2:=y vs q
 rw[hv] at e2
 cases e2
 exact⟨zv.refl _,rv⟩
theorem Pr {H1:Hp}:IW b Ow fr H1 (YE x) (V0 x):=by
 intro AV H h0 h1 hn
 refine⟨λi p hp=>?_,by show (V0 x).length=x.cps.size;unfold V0;rw[aI,f8]⟩
 unfold V0 at hp
 rw[cm] at hp
 cases q:x.cps.toList[i]? with
 | none=>rw[q] at hp;cases hp
 | some c=>
  rw[q] at hp
  cases hp
  have hc:x.cps[i]?=some c:=by rw[← oI];exact q
  refine⟨(Array.getElem?_eq_some_iff.mp hc).1,λv H' y=>?_⟩
  obtain⟨e,c',h',ev⟩:=y
  subst e
  rw[hc] at h'
  cases h'
  subst ev
  exact⟨zv.refl _,.str _⟩
theorem lZ (he:SE X b G m e h)(hm:fr=true->m≠.bor:=by simp)(hK:X.K=b.C.K:=by rfl):SI X b G fr tg e (iV h):=by
 have hPI:=PI.or (tg:=tg) (PI.or (vy he) (t_ he)) (Ox he)
 refine PI.imp hPI ?_
 rintro σ H R ⟨Ow,env,ps,E,hg,k⟩
 rw[hK]
 obtain⟨p,hp,EV⟩:=az hg
 have keep:∀{H1 AV H2}{v:V},zv H H1->Res b Ow H H1 m v p->(fr=false->zv H1 H2)->Ex (Bs b Ow) H1 (Bs b AV) H2->zC b.C (Bs b AV) H2 v p:=λ{H1 AV H2 v} s r h0 h1=>by
  cases fr with
  | false=>exact zC.ex h1 (h0 rfl) r.bor
  | true=>exact .inl (Rep.ex h1 (r.val E (hm rfl)))
 unfold Po at EV
 split at EV
 ·cases EV
  refine .inl (.inl ⟨Ow,env,_,E,hp,λv H1 s r=>?_⟩)
  have r1:zC b.C (Bs b Ow) H1 v (.lst _):=r.bor
  obtain⟨a,vs,rfl,ha,ra⟩:=r1.lst
  refine⟨a,rfl,⟨vs,AS.of ha⟩,k _ _ s (vN (vs:=vs) λAV H2 h0 h1=>?_)⟩
  obtain⟨a',HZ,e',Xt,RS⟩:=(keep s r h0 h1).lst
  cases e'
  have:H2 a=some (.lst vs):=by
   cases fr with
   | false=>exact h0 rfl _ _ ha
   | true=>
    have rv:Rep b.C (Bs b Ow) H1 (.ref a) (.lst _):=r.val E (hm rfl)
    cases rv with
    | lst q1 q2 q3=>rw[ha] at q1;cases q1;exact((h1 _ _ ha).1 q2).1
  rw[Xt] at this
  cases this
  exact⟨AS.of Xt,RS⟩
 ·cases EV
  refine .inl (.inl ⟨Ow,env,_,E,hp,λv H1 s r=>?_⟩)
  have r1:Rep b.C (Bs b Ow) H1 v (.frz _):=(by rcases r.bor with z | ⟨_,_,z⟩;exact z;exact z.elim)
  cases r1 with
  | Lo q1 q3=>exact⟨_,rfl,⟨_,.inl (.inr ⟨_,q1⟩)⟩,k _ _ s (vN λAV H2 h0 h1=>⟨.inl (.inr ⟨_,(h1 _ _ q1).2 rfl⟩),q3.ex h1⟩)⟩
  | lstK q1 q3=>exact⟨_,rfl,⟨_,U4 q1⟩,k _ _ s (vN λAV H2 h0 h1=>⟨U4 q1,q3.ex h1⟩)⟩
 ·cases EV
  refine .inl (.inr ⟨Ow,env,_,E,hp,λv H1 s r=>?_⟩)
  have r1:zC b.C (Bs b Ow) H1 v (.tup _):=r.bor
  obtain⟨a,vs,rfl,ha,ra⟩:=r1.tup
  exact⟨a,rfl,⟨vs,ha.sq⟩,k _ _ s (Gn (vs:=vs) λAV H2 h0 h1=>⟨(ha.ex h1).sq,ra.ex h1⟩)⟩
 ·cases EV
  refine .inl (.inr ⟨Ow,env,_,E,hp,λv H1 s r=>?_⟩)
  have r1:zC b.C (Bs b Ow) H1 v (.ktp _):=r.bor
  rcases r1 with r1 | ⟨_,_,t⟩
  ·cases r1 with
   | tupK q1 q3=>exact⟨_,rfl,⟨_,j9 q1⟩,k _ _ s (Gn λAV H2 h0 h1=>⟨j9 q1,q3.ex h1⟩)⟩
  ·exact t.elim
 ·cases EV
  refine .inr ⟨Ow,env,_,E,hp,λv H1 s r=>?_⟩
  have r1:zC b.C (Bs b Ow) H1 v (.str _):=r.bor
  exact⟨_,r1.str,k _ _ s Pr⟩
 ·cases EV
noncomputable def HE (i:Int):Bool:=@decide (-4611686018427387904<=i/\i < 4611686018427387904) (Classical.propDecidable _)
theorem nj {i:Int}(h:-4611686018427387904<=i)(h':i < 4611686018427387904):HE i=true:=@hU _ (Classical.propDecidable _) ⟨h,h'⟩
theorem nq {i:Int}(h:HE i=true):-(2 ^ 62)<=i/\i < 2 ^ 62:=by
 simp only[HE,eB] at h
 exact h
noncomputable def cT (lo hi:Int):List PV:=(List.range (hi - lo).toNat).map λi=>.int (lo+(i:Nat))
noncomputable def U5 (f:qE)(env:Env):Option (List PV):=(f env).bind λp=>match p with
 | .int j=>if HE j=true then some (cT 0 j) else none
 | _=>none
@[simp] theorem TX (f:qE)(env:Env):U5 f env=((f env).bind λp=>match p with
 | .int j=>if HE j=true then some (cT 0 j) else none
 | _=>none):=id rfl
noncomputable def YM (f g:qE)(env:Env):Option (List PV):=(f env).bind λp=>(g env).bind λq=>match p,q with
 | .int i,.int j=>if (HE i&&HE j)=true then some (cT i j) else none
 | _,_=>none
@[simp] theorem TY (f g:qE)(env:Env):YM f g env=((f env).bind λp=>(g env).bind λq=>match p,q with
 | .int i,.int j=>if (HE i&&HE j)=true then some (cT i j) else none
 | _,_=>none):=id rfl
theorem Gp {H1:Hp}{lo hi:Int}:IW b Ow fr H1 (OT lo (hi - lo).toNat) (cT lo hi):=by
 intro AV H h0 h1 hn
 have hl:(cT lo hi).length=(hi - lo).toNat:=by unfold cT;rw[aI,ff]
 refine⟨λi p hp=>?_,by show (hi - lo).toNat<=(cT lo hi).length;rw[hl];exact aw _⟩
 have LO:i < (hi - lo).toNat:=by rw[← hl];exact(af.mp hp).1
 refine⟨LO,λx H' y=>?_⟩
 obtain⟨e,ex⟩:=y
 subst e ex
 unfold cT at hp
 rw[cm,pS LO] at hp
 cases hp
 exact⟨zv.refl _,.int _⟩
theorem xY {p pos:Pos}(hm:X.mg "range" = none)(he:SE X b G m e h)(hg:Gl X "range" := by rfl)(hs:starEach [e] X.env=[(false,eval e X.env)]:=by rfl)(C6:starEach [e] X.env=(false,eval e X.env)::starEach [] X.env:=by rfl):SI X b G fr tg (.Call (.Name "range" p) [e] [] pos) (U5 h):=by
 refine PI.imp (wM hg hm (aB he.bor aL C6) hs) ?_
 rintro σ H R ⟨Ow,env,ps,E,hf,k⟩
 obtain⟨p1,hp,EV⟩:=az hf
 refine⟨Ow,env,p1,E,hp,λv H1 s r=>?_⟩
 have r1:zC b.C (Bs b Ow) H1 v p1:=r
 cases p1 <;> simp only at EV <;> first | cases EV | skip
 rename_i j
 split at EV
 ·rename_i hj
  cases EV
  have hw:IW b Ow fr H1 (OT 0 (j - 0).toNat) (cT 0 j):=Gp
  rw[Int.sub_zero] at hw
  exact⟨j,by rw[r1.int],(nq hj).1,(nq hj).2,k _ _ s hw⟩
 ·cases EV
theorem Rp {p pos:Pos}(hm:X.mg "range" = none)(he:SE X b G m1 e1 h1)(OG:SE X b G m2 e2 h2)(hg:Gl X "range" := by rfl)(hs:starEach [e1,e2] X.env=[(false,eval e1 X.env),(false,eval e2 X.env)]:=by rfl)(DE:starEach [e2] X.env=[(false,eval e2 X.env)]:=by rfl)
  (C6:starEach [e1,e2] X.env=(false,eval e1 X.env)::starEach [e2] X.env:=by rfl) (YN:starEach [e2] X.env=(false,eval e2 X.env)::starEach [] X.env:=by rfl):SI X b G fr tg (.Call (.Name "range" p) [e1,e2] [] pos) (YM h1 h2):=by
 refine PI.imp (Fo hg hm (aB he.bor (aB OG.bor aL YN) C6) hs DE) ?_
 rintro σ H R ⟨Ow,env,ps,E,hf,k⟩
 obtain⟨p1,hp,V3⟩:=az hf
 clear hf
 obtain⟨p2,IT,EV⟩:=az V3
 clear V3
 refine⟨Ow,env,p1,E,hp,λv H1 s r=>⟨Ow,env,p2,E.up s,IT,λv2 H2 s2 r2=>?_⟩⟩
 have r1:zC b.C (Bs b Ow) H1 v p1:=r
 have Ul:zC b.C (Bs b Ow) H2 v2 p2:=r2
 cases p1 <;> cases p2 <;> simp only at EV <;> first | cases EV | skip
 rename_i i j
 split at EV
 ·rename_i hj
  cases EV
  exact⟨i,j,by rw[r1.int,Ul.int],(by rw[bE] at hj;exact⟨(nq hj.1).1,(nq hj.1).2,(nq hj.2).1,(nq hj.2).2⟩),k _ _ (s.trans s2) Gp⟩
 ·cases EV
noncomputable def fG (n:Nat):List PV->List PV
 | []=>[]
 | x::xs=>.tup [.int (n:Nat),x]::fG (n+1) xs
theorem wY {p:PV}:∀{xs:List PV}{n i:Nat},(fG n xs)[i]?=some p->∃x,xs[i]?=some x/\p=.tup [.int ((n+i:Nat):Int),x]
 | [],n,i,e=>by simp[fG] at e
 | x::xs,n,0,e=>by
  simp[fG] at e
  exact⟨x,rfl,by rw[← e];rfl⟩
 | x::xs,n,i+1,e=>by
  simp only[fG,List.getElem?_cons_succ] at e
  obtain⟨y,h1,h2⟩:=wY e
  exact⟨y,by simpa using h1,by rw[h2,Nat.add_right_comm,pT]⟩
theorem qe:∀{xs:List PV}{n:Nat},(fG n xs).length=xs.length
 | [],_=>rfl
 | x::xs,n=>by simp[fG,qe (xs:=xs)]
end
noncomputable def gN (i:Nat)(p:PV)(env:Env):Option Env:=some (env.set i (some p))
@[simp] theorem Ui (i:Nat)(p:PV)(env:Env):gN i p env=(some (env.set i (some p))):=id rfl
@[simp] noncomputable def U6:List Nat->List PV->Env->Option Env
 | [],[],env=>some env
 | i::is,p::ps,env=>U6 is ps (env.set i (some p))
 | _,_,_=>none
noncomputable def gT (is:qf)(p:PV)(env:Env):Option Env:=match p with
 | .tup xs=>U6 is xs env
 | _=>none
@[simp] theorem Uj (is:qf)(p:PV)(env:Env):gT is p env=(match p with
 | .tup xs=>U6 is xs env
 | _=>none):=id rfl
def tMG (b:BX)(G:qf)(g:PV->Env->Option Env):TG:=λv σ H Q=>∃Ow env p Co,ER b Ow G σ env H/\Rep b.C (Bs b Ow) H v p/\g p env=some Co/\∀ σ',ER b Ow G σ' Co H->Q σ' H
def Ss (b:BX)(G:qf)(is:qf):Of:=λvs σ H Q=>∃Ow env ps Co,ER b Ow G σ env H/\zt b.C (Bs b Ow) H vs ps/\U6 is ps env=some Co/\∀ σ',ER b Ow G σ' Co H->Q σ' H
abbrev SG (X:Cx)(b:BX)(G:qf)(tg:Expr)(g:PV->Env->Option Env):Prop:=PG X tg (tMG b G g)
abbrev XA (X:Cx)(b:BX)(G:qf)(tgs:qo)(is:qf):Prop:=Oy X tgs (Ss b G is)
theorem PG.imp {t u:TG}(h:PG X tg t)(i:∀v σ H Q,u v σ H Q->t v σ H Q):PG X tg u:=λzl s σ H v w Q I r q=>h zl s σ H v w Q I r (i v σ H Q q)
theorem Oy.imp {tg:qo}{t u:Of}(h:Oy X tg t)(i:∀v σ H Q,u v σ H Q->t v σ H Q):Oy X tg u:=λzl s σ H v w Q I r q=>h zl s σ H v w Q I r (i v σ H Q q)
variable {f:Env->Option Out}
section
variable {X:Cx}{b:BX}{G G' L:qf}{ro:Bool}{pos:Pos}
theorem sH (i:Nat)(nd:X.N.Nodup)(hG:i∉G:=by decide)(hx:b.fx i=none:=by first | rfl | assumption)(hi:X.N[i]?=some x:=by rfl)(hl:Loc X.env.scope x:=by first | exact e9 rfl | exact fb rfl)
  (hf:X.fn x=true\/X.env.scope.names.lookup x=some .local:=by first | exact .inl rfl | exact .inr rfl | assumption):SG X b G (.Name x pos) (gN i):=
 PG.imp (cI nd hi hl hf)<|by rintro v σ H Q ⟨Ow,env,p,Co,E,r,e,k⟩;cases e;exact k _ (E.set hG r hx)
theorem qQ:XA X b G [] []:=Oy.imp mJ<|by
 rintro vs σ H Q ⟨Ow,env,ps,Co,E,r,e,k⟩
 cases ps with
 | nil=>cases r;cases e;exact⟨rfl,k σ E⟩
 | cons p ps=>cases e
theorem fO (i:Nat){es:qo}{is:qf}{p1:Pos}(nd:X.N.Nodup)(h2:XA X b G es is)(hG:i∉G:=by decide)(hx:b.fx i=none:=by first | rfl | assumption)(hi:X.N[i]?=some x:=by rfl)(hl:Loc X.env.scope x:=by first | exact e9 rfl | exact fb rfl)
  (hf:X.fn x=true\/X.env.scope.names.lookup x=some .local:=by first | exact .inl rfl | exact .inr rfl | assumption) (hs:(assignEach (.Name x p1::es) X.env).map (·.2)=assign (.Name x p1) X.env::(assignEach es X.env).map (·.2):=by rfl):XA X b G (.Name x p1::es) (i::is):=
 Oy.imp (d7 (cI nd hi hl hf) h2 hs)<|by
  rintro vs σ H Q ⟨Ow,env,ps,Co,E,r,e,k⟩
  cases ps with
  | nil=>cases e
  | cons p ps=>
   cases r with
   | cons r1 r2=>exact⟨_,_,rfl,Ow,env.set i (some p),ps,Co,E.set hG r1 hx,r2,e,k⟩
theorem vO:∀{is:qf}{ps:List PV}{env Co:Env},U6 is ps env=some Co->ps.length=is.length
 | [],[],_,_,_=>rfl
 | i::is,p::ps,env,Co,e=>by simp[vO (is:=is) (ps:=ps) e]
 | [],_::_,_,_,e=>by cases e
 | _::_,[],_,_,e=>by cases e
theorem DG {es:qo}{k:Nat}{is:qf}(h:XA X b G es is)(hc:X.calm=true:=by rfl)(hn:(assignEach es X.env).length=is.length:=by rfl)(D3:(assignEach es X.env).findIdx? (·.1)=none:=by rfl)(hK:X.K=b.C.K:=by rfl):SG X b G (.Tuple es k pos) (gT is):=
 PG.imp (pP hc h hn D3)<|by
  rintro v σ H Q ⟨Ow,env,p,Co,E,r,e,k⟩
  cases p <;> simp only[gT] at e <;> first | cases e | skip
  rename_i xs
  obtain⟨a,vs,rfl,ha,ra⟩:=zC.tup (.inl r)
  rw[hK]
  exact⟨a,vs,rfl,ha.sq,by rw[ra.length];exact vO e,Ow,env,xs,Co,E,ra,e,k⟩
noncomputable def d8 (g:PV->Env->Option Env)(ds:qf)(body:Env->Option Out):List PV->Env->Option Out
 | [],env=>some (.nx env)
 | x::xs,env=>(g x env).bind λe1=>(body e1).bind λo=>match o with
  | .nx e=>d8 g ds body xs (EF ds e)
  | .ct e=>d8 g ds body xs (EF ds e)
  | .bk e=>some (.nx (EF ds e))
  | .rt p=>some (.rt p)
noncomputable def jH (g:PV->Env->Option Env)(src:Env->Option (List PV))(ds:qf)(body:Env->Option Out)(env:Env):Option Out:=(src env).bind λxs=>d8 g ds body xs (EF ds env)
@[simp] theorem Tg (g:PV->Env->Option Env)(src:Env->Option (List PV))(ds:qf)(body:Env->Option Out)(env:Env):jH g src ds body env=((src env).bind λxs=>d8 g ds body xs (EF ds env)):=id rfl
theorem jo {it:Expr}{body:qk}{g:PV->Env->Option Env}{src:Env->Option (List PV)}(ds:qf)(hi:SI X b G true tg it src)(hg:SG X b G tg g)(hb:IM X b G G G ro body f)(hp:PassesOwn (model X.prog X.w) X.A X.env X.xe)(hc:X.calm=true:=by rfl)
  (hs:∀x,foldedSetIterable it X.env x=pure x:=by intro _;rfl):SS X b G G L ro (.For tg it body [] pos) (jH g src ds f):=by
 refine PS.imp (mL hp hc hi hg hb hs) ?_
 rintro D σ H ⟨Ow,env,out,E,hf,k⟩
 obtain⟨ps,EV,hl⟩:=az hf
 refine⟨Ow,env,ps,E,EV,λJ H1 s1 iw=>?_⟩
 refine⟨λi m σ2 H2=>m=ps.length - i/\i<=ps.length/\∃FH C7,ER b FH G σ2 C7 H2/\Ex (Bs b Ow) H1 (Bs b FH) H2/\d8 g ds f (ps.drop i) C7=some out,⟨ps.length,by simp,cb _,Ow,EF ds env,(E.up s1).EF,Ex.refl _ _,by simpa using hl⟩,?_⟩
 rintro i m σ2 H2 ⟨rfl,hi,FH,C7,E2,x2,l2⟩
 obtain⟨w1,w2⟩:=iw FH H2 (λz=>by cases z) x2 λa=>E2.fresh
 have xk:Ex (Bs b Ow) H (Bs b FH) H2:=(Ex.of_same s1).trans x2
 by_cases A0:i < ps.length
 ·rw[ce A0] at l2
  obtain⟨e1,RU,l2⟩:=az l2
  obtain⟨o,ho,l2⟩:=az l2
  obtain⟨g1,g2⟩:=w1 i ps[i] (ai A0)
  refine .inr ⟨g1,fun σ' H'=>i+1<=ps.length/\∃FH C7,ER b FH G σ' C7 H'/\Ex (Bs b Ow) H1 (Bs b FH) H'/\d8 g ds f (ps.drop (i+1)) C7=some out,fun σ' H' q=>⟨ps.length - (i+1),by omega,rfl,q⟩,λx H' y=>?_⟩
  obtain⟨s3,r3⟩:=g2 x H' y
  refine⟨FH,C7,_,e1,E2.up s3,r3,RU,fun σ3 E3=>⟨FH,e1,o,E3,ho,?_⟩⟩
  cases o with
  | nx e'=>exact λAV σ' Lu E' x'=>⟨A0,AV,_,E'.EF,x2.trans ((Ex.of_same s3).trans x'),l2⟩
  | ct e'=>exact λAV σ' Lu E' x'=>⟨A0,AV,_,E'.EF,x2.trans ((Ex.of_same s3).trans x'),l2⟩
  | bk e'=>cases l2;exact λAV σ' Lu E' x'=>k AV σ' Lu E'.EF (xk.trans ((Ex.of_same s3).trans x'))
  | rt p=>cases l2;exact k
 ·have e:i=ps.length:=by omega
  subst e
  rw[List.drop_length] at l2
  cases l2
  exact .inl ⟨w2,k FH σ2 H2 E2 xk⟩
noncomputable def jT (c:Env->Option Bool)(ds:qf)(body:Env->Option Out):Nat->Env->Option Out
 | 0,_=>none
 | n+1,env=>(c env).bind λk=>if k=true then (body env).bind λo=>match o with
   | .nx e=>jT c ds body n (EF ds e)
   | .ct e=>jT c ds body n (EF ds e)
   | .bk e=>some (.nx (EF ds e))
   | .rt p=>some (.rt p)
  else some (.nx env)
noncomputable def zb (n:Nat)(c:Env->Option Bool)(ds:qf)(body:Env->Option Out)(env:Env):Option Out:=jT c ds body n (EF ds env)
@[simp] theorem RX (n:Nat)(c:Env->Option Bool)(ds:qf)(body:Env->Option Out)(env:Env):zb n c ds body env=(jT c ds body n (EF ds env)):=id rfl
theorem Ln {c:Expr}{body:qk}{t:Env->Option Bool}(n:Nat)(ds:qf)(hc:ST X b G c t)(hb:IM X b G G G ro body f)(hp:PassesOwn (model X.prog X.w) X.A X.env X.xe):SS X b G G L ro (.While c body [] pos) (zb n t ds f):=by
 refine PS.imp (yC hp hc hb) ?_
 rintro D σ H ⟨Ow,env,out,E,hf,k⟩
 refine⟨λm σ2 H2=>∃FH C7,ER b FH G σ2 C7 H2/\Ex (Bs b Ow) H (Bs b FH) H2/\jT t ds f m C7=some out,⟨n,Ow,EF ds env,E.EF,Ex.refl _ _,hf⟩,?_⟩
 rintro m σ2 H2 ⟨FH,C7,E2,x2,l2⟩
 cases m with
 | zero=>cases l2
 | succ m=>
  obtain⟨kk,hk,l2⟩:=az l2
  refine⟨FH,C7,kk,E2,hk,λH3 s3=>?_⟩
  cases kk with
  | false=>cases l2;exact lW (k FH σ2 H3 (E2.up s3) (x2.trans (.of_same s3)))
  | true=>
   refine iT ⟨fun σ' H'=>∃FH C7,ER b FH G σ' C7 H'/\Ex (Bs b Ow) H (Bs b FH) H'/\jT t ds f m C7=some out,fun σ' H' q=>⟨m,gp m,q⟩,?_⟩
   obtain⟨o,ho,l2⟩:=az l2
   refine⟨FH,C7,o,E2.up s3,ho,?_⟩
   cases o with
   | nx e'=>exact λAV σ' Lu E' x'=>⟨AV,_,E'.EF,x2.trans ((Ex.of_same s3).trans x'),l2⟩
   | ct e'=>exact λAV σ' Lu E' x'=>⟨AV,_,E'.EF,x2.trans ((Ex.of_same s3).trans x'),l2⟩
   | bk e'=>cases l2;exact λAV σ' Lu E' x'=>k AV σ' Lu E'.EF (x2.trans ((Ex.of_same s3).trans x'))
   | rt p=>cases l2;exact k
end
noncomputable def iY (zS:List (Option Nat))(env:Env):Env:=zS.map λo=>match o with | some i=>(env[i]?).getD none | none=>none
@[simp] theorem Th (zS:List (Option Nat))(env:Env):iY zS env=(zS.map λo=>match o with | some i=>(env[i]?).getD none | none=>none):=id rfl
noncomputable def kh (zS:List (Option Nat))(G:qf):List Nat:=(List.range zS.length).filter λj=>match zS[j]? with | some (some i)=>decide (i∈G) | _=>false
def BX.in (b:BX):BX:={ b with fx:=λ_=>none }
noncomputable def cO (env:Env)(g:PV->Env->Option Env)(t:Env->Option Bool)(f:qE):List PV->Option (List PV)
 | []=>some []
 | x::xs=>(g x env).bind λe=>(t e).bind λk=>if k=true then (f e).bind λy=>(cO env g t f xs).bind λys=>some (y::ys) else cO env g t f xs
noncomputable def jq (zS:List (Option Nat))(src:Env->Option (List PV))(g:PV->Env->Option Env)(t:Env->Option Bool)(f:qE)(env:Env):Option PV:=(src env).bind λxs=>if xs.length<=1000000 then (cO (iY zS env) g t f xs).bind λys=>some (.lst ys) else none
@[simp] theorem Su (zS:List (Option Nat))(src:Env->Option (List PV))(g:PV->Env->Option Env)(t:Env->Option Bool)(f:qE)(env:Env):jq zS src g t f env=((src env).bind λxs=>if xs.length<=1000000 then (cO (iY zS env) g t f xs).bind λys=>some (.lst ys) else none):=id rfl
noncomputable def fH (env:Env):Option Bool:=some true
@[simp] theorem Sv (env:Env):fH env=(some true):=id rfl
theorem CS {zS:List (Option Nat)}{G:qf}{j:Nat}:j∈kh zS G↔∃i,zS[j]?=some (some i)/\i∈G:=by
 unfold kh
 rw[kA,bX]
 constructor
 ·rintro ⟨h1,h2⟩
  split at h2
  ·rename_i i e;exact⟨i,e,by simpa using h2⟩
  ·cases h2
 ·rintro ⟨i,e,h⟩
  refine⟨(af.mp e).1,?_⟩
  rw[e];simpa using h
theorem oF {zS:List (Option Nat)}{env:Env}{j:Nat}{p:PV}(h:(iY zS env)[j]?=some (some p)):∃i,zS[j]?=some (some i)/\env[i]?=some (some p):=by
 unfold iY at h
 rw[cm] at h
 cases q:zS[j]? with
 | none=>rw[q] at h;cases h
 | some o=>
  rw[q] at h
  cases o with
  | none=>cases h
  | some i=>
   refine⟨i,rfl,?_⟩
   have h':(env[i]?).getD none=some p:=by simpa using h
   cases q2:env[i]? with
   | none=>rw[q2] at h';cases h'
   | some o=>rw[q2] at h';simp at h';rw[h']
theorem lM {zS:List (Option Nat)}{j i:Nat}(h:zS[j]?=some (some i))(e:σ[i]?=some (some v)):(bT zS σ)[j]?=some (some v):=by
 unfold bT
 rw[cm,h]
 simp[p6,e]
noncomputable def uC (zS:List (Option Nat)):Bool:=(List.range zS.length).all λj=>(List.range zS.length).all λk=>match zS[j]?,zS[k]? with
 | some (some i),some (some i')=>decide (i=i'->j=k)
 | _,_=>true
theorem Gq {zS:List (Option Nat)}(h:uC zS=true){j k i:Nat}(h1:zS[j]?=some (some i))(h2:zS[k]?=some (some i)):j=k:=by
 have a:=gt.mp h j (bX.mpr (af.mp h1).1)
 have c:=gt.mp a k (bX.mpr (af.mp h2).1)
 rw[h1,h2] at c
 simpa using c
theorem ER.zS {b:BX}{Ow:Addr->Prop}{G:qf}{σ:St}{env:Env}{H:Hp}{zS:List (Option Nat)}(E:ER b Ow G σ env H)(hc:uC zS=true):ER b.in Ow (kh zS G) (bT zS σ) (iY zS env) H:=by
 refine⟨by unfold bT iY;rw[aI,aI],E.same,E.live,E.new,λj p e n=>?_,λj p e n=>?_,λj k a p q e1 n1 s1 e2 n2 s2=>?_,λk v z=>by cases z⟩
 ·obtain⟨i,h1,h2⟩:=oF e
  obtain⟨v,h3,h4⟩:=E.val i p h2 λz=>n (CS.mpr ⟨i,h1,z⟩)
  exact⟨v,lM h1 h3,h4⟩
 ·obtain⟨i,h1,h2⟩:=oF e
  obtain⟨i',Um,hG⟩:=CS.mp n
  rw[h1] at Um;cases Um
  obtain⟨a,h3,h4,h5⟩:=E.own i p h2 hG
  exact⟨a,lM h1 h3,h4,h5⟩
 ·obtain⟨i,h1,h2⟩:=oF e1
  obtain⟨i',Um,hG⟩:=CS.mp n1
  rw[h1] at Um;cases Um
  obtain⟨k',h3,h4⟩:=oF e2
  obtain⟨k'',XB,hG2⟩:=CS.mp n2
  rw[h3] at XB;cases XB
  obtain⟨c,g1,_,_⟩:=E.own i p h2 hG
  obtain⟨c2,g2,_,_⟩:=E.own k' q h4 hG2
  have t1:=lM (zS:=zS) h1 g1
  have t2:=lM (zS:=zS) h3 g2
  rw[s1] at t1;cases t1
  rw[s2] at t2;cases t2
  have:=E.sep i k' _ p q h2 hG g1 h4 hG2 g2
  subst this
  exact Gq hc h1 h3
theorem ER.more {b:BX}{G:qf}{env:Env}{D:Addr}(E:ER b Ow G σ env H)(hD:H D=none)(s:zv H H')(hl:∃o,H' D=some o):ER b (λc=>Ow c\/c=D) G σ env H'/\Ex (Bs b Ow) H (Bs b λc=>Ow c\/c=D) H':=by
 have hx:Ex (Bs b Ow) H (Bs b λc=>Ow c\/c=D) H':=λc o h=>⟨λq=>⟨s _ _ h,λz=>z.elim q.1 (aq h hD),q.2⟩,λ_=>s _ _ h⟩
 exact⟨⟨E.len,E.same.trans s,λc w=>w.elim (λz=>let ⟨o,h⟩:=E.live c z;⟨o,s _ _ h⟩) λz=>by subst z;exact hl,λc w=>w.elim (E.new c) λz=>by subst z;exact E.same.free hD,λi p e n=>let ⟨v,h1,h2⟩:=E.val i p e n;⟨v,h1,h2.ex hx⟩,
  λi p e n=>let ⟨a,h1,h2,h3⟩:=E.own i p e n;⟨a,h1,.inl h2,h3.ex hx λo z=>s _ _ z⟩,E.sep,E.fix⟩,hx⟩
structure Pp (K:W.Frag)(zS:List (Option Nat))(g:TG)(gm:PV->Env->Option Env):Prop where
 go:∀(b:BX) (Ow:Addr->Prop) (G:qf) (σ:St) (env e:Env) (H:Hp) (v:V) (p:PV) (Q:St->Hp->Prop),b.C.K=K->(∀i,b.fx i=none)->ER b Ow (kh zS G) (bT zS σ) (iY zS env) H->Rep b.C (Bs b Ow) H v p->gm p (iY zS env)=some e->
  (∀ σ',Kp (bT zS σ) σ'->ER b Ow (kh zS G) σ' e H->Q σ' H)->g v (bT zS σ) H Q
theorem Gr {σ':St}{i:Nat}(h:Kp σ σ')(hn:∀w,σ[i]?≠some (some w)):Kp σ (σ'.set i (some v)):=by
 refine⟨by rw[d0];exact h.1,λj w e=>?_⟩
 by_cases hj:i=j
 ·subst hj;exact absurd e (hn w)
 ·rw[bm hj];exact h.2 j w e
theorem BL (σ:St):Kp σ σ:=⟨rfl,λ_ _ e=>e⟩
theorem uD {zS:List (Option Nat)}{i:Nat}(h:zS[i]?=some none)(w:V):(bT zS σ)[i]?≠some (some w):=by
 unfold bT
 rw[cm,h]
 intro z;cases z
theorem wZ {zS:List (Option Nat)}{G:qf}{i:Nat}(h:zS[i]?=some none):i∉kh zS G:=λz=>by
 obtain⟨k,e,_⟩:=CS.mp z
 rw[h] at e;cases e
theorem vP {zS:List (Option Nat)}(i:Nat)(h:zS[i]?=some none:=by rfl):Pp K zS (aW i) (gN i):=
 ⟨λb Ow G σ env e H v p Q hK hx E r he k=>by
  cases he
  exact k _ (Gr (BL _) (uD h)) (E.set (wZ h) r (hx _))⟩
def zf:List Nat->Of
 | []=>vo
 | i::is=>jn (aW i) (zf is)
theorem Sw {zS:List (Option Nat)}(is:qf)(h:(is.all λi=>decide (zS[i]?=some none))=true:=by rfl):Pp K zS (vq K is.length (zf is)) (gT is):=
 ⟨λb Ow G σ env e H v p Q hK hx E r he k=>by
  subst hK
  cases p <;> simp only[gT] at he <;> first | cases he | skip
  rename_i xs
  obtain⟨a,vs,rfl,ha,ra⟩:=zC.tup (.inl r)
  refine⟨a,vs,rfl,ha.sq,by rw[ra.length];exact vO he,?_⟩
  have gen:∀(is:qf) (vs:List V) (xs:List PV) (σ1:St) (Pt:Env),(is.all λi=>decide (zS[i]?=some none))=true->Kp (bT zS σ) σ1->ER b Ow (kh zS G) σ1 Pt H->zt b.C (Bs b Ow) H vs xs->U6 is xs Pt=some e->zf is vs σ1 H Q:=by
   intro is
   induction is with
   | nil=>
    intro vs xs σ1 Pt _ kp E1 r1 e1
    cases xs with
    | nil=>cases r1;cases e1;exact⟨rfl,k σ1 kp E1⟩
    | cons x xs=>cases e1
   | cons i is ih=>
    intro vs xs σ1 Pt Me kp E1 r1 e1
    cases xs with
    | nil=>cases e1
    | cons x xs=>
     cases r1 with
     | cons r2 r3=>
      rw[kl,bE] at Me
      have hi:zS[i]?=some none:=by simpa using Me.1
      exact⟨_,_,rfl,ih _ xs _ _ Me.2 (Gr kp (uD hi)) (E1.set (wZ hi) r2 (hx _)) r3 e1⟩
  exact gen is vs xs _ _ h (BL _) E ra he⟩
section
variable {X:Cx}{b:BX}{G L:qf}{ro:Bool}{pos:Pos}{tg iter elt:Expr}{ifs:qo}{scope Bz:Scope}{ON N:qq}{zS:List (Option Nat)}{src:Env->Option (List PV)}{g:TG}{gm:PV->Env->Option Env}{t:Env->Option Bool}{f:qE}
theorem Rq {Q:VK}(YO:Pp b.C.K zS g gm)(hc:uC zS=true)(h:tM b G .own (jq zS src gm t f) σ H Q):
  fX (tMI b G false src) zS g (VT b.in (kh zS G) t) (tM b.in (kh zS G) .val f) σ H Q:=by
 obtain⟨Ow,env,p,E,hf,k⟩:=h
 obtain⟨xs,YQ,hf⟩:=az hf
 split at hf
 ·rename_i hlen
  obtain⟨ys,hys,hf⟩:=az hf
  cases hf
  refine⟨Ow,env,xs,E,YQ,λJ H1 s1 iw D hD=>?_⟩
  have E1:=E.up s1
  have nD:H D=none:=s1.free hD
  refine⟨λi m vs H2=>m=xs.length - i/\i<=xs.length/\zv H1 H2/\H2 D=some (.lst vs)/\vs.length<=i/\∃done rest,zt b.C (Bs b λc=>Ow c\/c=D) H2 vs done/\cO (iY zS env) gm t f (xs.drop i)=some rest/\done++rest=ys,
   ⟨xs.length,by simp,cb _,aD hD _,aA,aw _,[],ys,.nil,by simpa using hys,rfl⟩,?_⟩
  rintro i m vs H2 ⟨rfl,hi,s2,d2,hv,done,rest,rd,cl,KG⟩
  refine⟨d2,?_⟩
  obtain⟨E2,x2⟩:=E1.more hD s2 ⟨_,d2⟩
  obtain⟨w1,w2⟩:=iw _ H2 (λ_=>s2) x2 λa=>E2.fresh
  by_cases A0:i < xs.length
  ·rw[ce A0] at cl
   obtain⟨e1,RU,cl⟩:=az cl
   obtain⟨kk,hk,cl⟩:=az cl
   obtain⟨g1,g2⟩:=w1 i xs[i] (ai A0)
   refine .inr ⟨g1,λHZ H'=>i+1<=xs.length/\zv H1 H'/\H' D=some (.lst HZ)/\HZ.length<=i+1/\∃done rest,zt b.C (Bs b λc=>Ow c\/c=D) H' HZ done/\cO (iY zS env) gm t f (xs.drop (i+1))=some rest/\done++rest=ys,λHZ H' q=>⟨xs.length - (i+1),by omega,rfl,q⟩,λx H' y=>?_⟩
   obtain⟨s3,r3⟩:=g2 x H' y
   have E3:=(E2.up s3).zS hc
   refine YO.go b.in _ G σ env e1 H' x _ _ rfl (λ_=>rfl) E3 r3 RU fun σ3 kp E4=>⟨kp,_,e1,kk,E4,hk,λH4 s4=>?_⟩
   have d4:H4 D=some (.lst vs):=s4 _ _ (s3 _ _ d2)
   have XC:zv H2 H4:=s3.trans s4
   cases kk with
   | false=>
    refine lW ⟨A0,s2.trans XC,d4,jv hv,done,rest,rd.ex (.of_same XC),?_,KG⟩
    simpa using cl
   | true=>
    simp only[fR] at cl
    obtain⟨y1,hy1,cl⟩:=az cl
    obtain⟨ys1,YR,cl⟩:=az cl
    cases cl
    refine iT ⟨_,e1,y1,E4.up s4,hy1,λv5 H5 s5 r5=>⟨s5 _ _ d4,bY (by omega),A0,?_,aA,by rw[bq];show vs.length+1<=i+1;omega,done++[y1],ys1,?_,YR,by rw[fg];exact KG⟩⟩
    ·exact λc o h=>by rw[ao (aq h hD)];exact s5 _ _ (XC _ _ (s2 _ _ h))
    ·have YS:Rep b.C (Bs b λc=>Ow c\/c=D) H5 v5 y1:=r5
     refine((rd.ex (.of_same (XC.trans s5))).append (.cons YS .nil)).ex ?_
     exact oE (b:=b) (Ow:=λc=>Ow c\/c=D) (.inr rfl) (s5 _ _ d4) rfl
  ·have e:i=xs.length:=by omega
   subst e
   rw[List.drop_length] at cl
   cases cl
   rw[bS] at KG
   subst KG
   refine .inl ⟨w2,k _ H2 (s1.trans s2) ⟨D,rfl,nD,vs,d2,rd.ex (aU λc o _ q=>⟨⟨λz=>q.1 (.inl z),q.2⟩,λz=>q.1 (.inr z)⟩)⟩⟩
 ·cases hf
theorem iZ {X:Cx}:p_ X [] (VT b G fH):=by rintro zl s σ H Q I ⟨Ow,env,k,E,hf,kk⟩;cases hf;exact j8 zl s σ H Q I (kk H (zv.refl _))
theorem i_ (S:OE Bz scope ON N zS)(YO:Pp b.C.K zS g gm)(hi:SI X b G false tg iter src)(hg:∀C s H fp,PG (X.comp N scope C s H fp) tg g)(ht:∀C s H fp,p_ (X.comp N scope C s H fp) ifs (VT b.in (kh zS G) t))(he:∀C s H fp,SE (X.comp N scope C s H fp) b.in (kh zS G) .val elt f)
  (Uo:uC zS=true:=by rfl) (hc:X.calm=true:=by rfl) (DB:X.env.scope=Bz:=by rfl) (hN:X.N=ON:=by rfl) (hs:∀x,foldedSetIterable iter X.env x=pure x:=by intro _;rfl):SE X b G .own (.ListComp elt [⟨tg,iter,ifs,0⟩] scope pos) (jq zS src gm t f):=
 PE.imp (qN S hi hg ht he hc DB hN hs) fun σ H Q h=>Rq YO Uo h
end
noncomputable def cC (n k:Nat)(ro:Bool)(f:Env->Option Out)(ps:List PV):Option PV:=if ps.length=k then (f (ps.map some++List.replicate (n - k) none)).bind λo=>match o with
 | .nx _=>if ro=true then none else some .zD
 | .rt p=>some p
 | _=>none
 else none
@[simp] theorem Ti (n k:Nat)(ro:Bool)(f:Env->Option Out)(ps:List PV):cC n k ro f ps=(if ps.length=k then (f (ps.map some++List.replicate (n - k) none)).bind λo=>match o with
 | .nx _=>if ro=true then none else some .zD
 | .rt p=>some p
 | _=>none
 else none):=id rfl
theorem Ie {N:qq}{G:qf}(r:zt C A H vs ps)(hG:∀i,i∈G->ps.length<=i)(hn:ps.length<=N.length):ER ⟨C,A,H,λ_=>none⟩ (λ_=>False) G (L2.start N vs) (ps.map some++List.replicate (N.length - ps.length) none) H:=by
 have hl:=r.length
 have old:∀i p,(ps.map some++List.replicate (N.length - ps.length) none)[i]?=some (some p)->ps[i]?=some p:=λi p e=>by
  by_cases hi:i < ps.length
  ·rw[eC (by rw[aI];exact hi),cm] at e
   cases q:ps[i]? with
   | none=>rw[q] at e;cases e
   | some p'=>rw[q] at e;cases e;rfl
  ·rw[j3 (by rw[aI];omega),nI] at e
   split at e <;> cases e
 refine⟨?_,zv.refl _,λa w=>w.elim,λa w=>w.elim,λi p e n=>?_,λi p e n=>?_,λi j a p q e1 n1 s1 e2 n2 s2=>?_,λk v z=>by cases z⟩
 ·unfold L2.start
  simp only[bq,aI,oC]
  omega
 ·obtain⟨v,hv,rv⟩:=r.get (old i p e)
  refine⟨v,?_,rv.ex (aU λa o _ q=>⟨λz=>z,.inl q⟩)⟩
  unfold L2.start
  have hi:i < vs.length:=(af.mp hv).1
  rw[eC (by rw[aI];exact hi),cm,hv]
  rfl
 ·have h1:=(af.mp (old i p e)).1
  have h2:=hG i n
  omega
 ·have h1:=(af.mp (old i p e1)).1
  have h2:=hG i n1
  omega
theorem Lp {N:qq}{n k:Nat}{G G' L:qf}{body:qk}(hN:N.length=n)(hk:k<=n)(hG:(G.all λi=>decide (k<=i))=true)(hb:∀A H,IM X ⟨C,A,H,λ_=>none⟩ G G' L ro body f)
  {vs:List V}{H:Hp}{Q:VK}{E:XK}(h:CO C (cC n k ro f) ro vs H Q E):∃t,EX X body t/\t { nx:=λ_ H'=>Q .zD H',rt:=Q } (L2.start N vs) H:=by
 obtain⟨A,ps,p,r,hm,kk⟩:=h
 refine⟨_,hb A H,?_⟩
 unfold cC at hm
 split at hm
 ·rename_i hl
  obtain⟨o,ho,hm⟩:=az hm
  refine⟨_,_,o,Ie (N:=N) (G:=G) r (λi hi=>by rw[hl];simpa using gt.mp hG i hi) (by omega),by rw[hN,hl];exact ho,?_⟩
  cases o with
  | nx e=>
   cases ro with
   | true=>cases hm
   | false=>cases hm;exact λAV σ' H' E' _=>kk .zD H' E'.same .zD
  | rt q=>cases hm;exact λv H' s rr=>kk v H' s rr
  | bk e=>cases hm
  | ct e=>cases hm
 ·cases hm
theorem Lq {n k:Nat}{ro':Bool}{Q:VK}{E:XK}(h:CO C (cC n k ro' f) ro vs H Q E):vs.length=k:=by
 obtain⟨A,ps,p,r,hm,kk⟩:=h
 unfold cC at hm
 split at hm
 ·rename_i hl;rw[r.length];exact hl
 ·cases hm
structure Up (P:Program)(w:World)(K:W.Frag)(mg:Str->Option Value)(base:Heap)(C:Addr)(k:Nat)(x:Str)(ps:qq)(sp:Sp):Prop where
 ex:∃f fd,AX P w K mg base ED k f fd ps sp/\Binds K fd ps []/\Mk K C f/\mg x=some (.ref C)
section
variable {X:Cx}{b:BX}{G:qf}{pos p:Pos}{e:Expr}{es:qo}{g:Env->Option (List PV)}
@[simp] noncomputable def XD:PV->Option String
 | .zD=>some "NoneType"
 | .bl _=>some "bool"
 | .int _=>some "int"
 | .str _=>some "str"
 | .lst _=>some "list"
 | .tup _=>some "tuple"
 | .dK _=>some "dict"
 | .dT _=>some "dict"
 | _=>none
noncomputable def sI (tb:List (String×Bool))(p:PV):Option PV:=(XD p).bind λt=>(tb.lookup t).bind λk=>some (.bl k)
@[simp] theorem Tj (tb:List (String×Bool))(p:PV):sI tb p=((XD p).bind λt=>(tb.lookup t).bind λk=>some (.bl k)):=id rfl
theorem zC.ty {p:PV}{t:String}(r:zC C A H v p)(h:XD p=some t):Dx C.K H v (.type t):=by
 cases p <;> simp only[XD] at h <;> cases h
 ·rw[r.zD];exact .zD
 ·rw[r.bl];exact .bl _
 ·rw[r.int];exact .int _
 ·rw[r.str];exact .str _
 ·obtain⟨a,vs,rfl,ha,_⟩:=r.lst;exact .lst ha
 ·obtain⟨a,vs,rfl,ha,_⟩:=r.tup;exact ha.elim (λq=>.tup q) λq=>.B6 q
 ·obtain⟨a,vs,rfl,ha,_⟩:=r.dK;exact .dK ha
 ·obtain⟨a,vs,rfl,ha,_⟩:=r.dT;exact .dT ha
theorem zg {α β:Type}[BEq α][LawfulBEq α]{x:α}{y:β}:∀{l:List (α×β)},l.lookup x=some y->(x,y)∈l
 | [],h=>by cases h
 | (a,c)::r,h=>by
  rw[b6] at h
  cases q:x == a with
  | true=>rw[q] at h;cases h;have:=eq_of_beq q;subst this;exact ar
  | false=>rw[q] at h;exact am _ (zg h)
theorem zj {m:Md}{f:qE}{n:Str}{n':String}{p1:Pos}(tb:List (String×Bool))(hk:∀t k,(t,k)∈tb->W.kitOne X.K (.type t) (.type n')=some k)(hm:X.mg "isinstance" = none)(hmn:X.mg n=none)(hbn:bootBuiltins n=some (.type n'))(h:SE X b G m e f)(hK:X.K=b.C.K:=by rfl)(hg:Gl X "isinstance" := by rfl)(hgn:Gl X n:=by rfl)
  (YT:bootBuiltins "isinstance" = some (.builtin "isinstance"):=by decide +kernel) (hn1:n ≠ "__name__" := by decide) (hd:(n == ("__debug__" : Str))=false:=by decide)
  (he:starEach [e,.Name n p1] X.env=(false,eval e X.env)::starEach [.Name n p1] X.env:=by rfl) (OG:starEach [.Name n p1] X.env=(false,eval (.Name n p1) X.env)::starEach [] X.env:=by rfl) (A2:(backTo pos (starEach [.Name n p1] X.env)).any (·.1)=false:=by rfl):
  SE X b G .val (.Call (.Name "isinstance" p) [e,.Name n p1] [] pos) (b1 (sI tb) f):=by
 refine PE.imp (dg Bd hg hm YT (aB h.bor (aB (Kz (v:=.ty n') hgn hmn hbn rfl hn1 hd) aL OG) he) (by decide) (by decide) he A2) ?_
 rintro σ H Q ⟨Ow,env,q,E,hf,kk⟩
 obtain⟨p1,RY,hf⟩:=az hf
 obtain⟨t,ht,hf⟩:=az hf
 obtain⟨k,F0,hf⟩:=az hf
 cases hf
 refine⟨Ow,env,p1,E,RY,λv H1 s r=>?_⟩
 have r1:zC b.C (Bs b Ow) H1 v p1:=r
 exact⟨v,n',.type t,k,rfl,by rw[hK];exact r1.ty ht,hk t k (zg F0),kk _ H1 s (.bl k)⟩
end
end Lake.MR
namespace Lake.L2
open PySem PySem.Spec PyProof.Rows
section
variable {X:Cx}{zl:qc}{σ:St}{H H':Hp}{s:Shared}{h':Heap}
theorem Inv.Pw {t':Nat}{ch:qv}(I:Inv X zl σ H s)(k:∀b u,b∉ch->s.heap.get? b=some u->h'.get? b=some u)(hf:∀b∈ch,gq X zl H b):Inv X zl σ H { s with heap:=h',toks:=t' }:=by
 have LY:∀b u,H b=some u->b∉ch:=λb u e hb=>by
  rw[(hf b hb).1] at e;cases e
 refine I.step (g':=s.gens) (d':=s.drawn) (ch:=ch) (λb hb=>let ⟨_,f1,_,f4,f5,f6⟩:=hf b hb;⟨f4,f1,f5,f6⟩) (λb o _ _ hc e _=>k b o hc e) (λb o _ _ hc e _=>⟨o.slots,k b o hc e⟩)
  (λ_ _ _ _ n=>n) (λb o hc e=>⟨o,k b o hc e⟩) (λ_ _ e=>e) (λ_ _ _ e=>e) (λb ps e=>⟨#[],by rw[e];simp⟩) (λm hm=>?_) (λb u e=>?_) I.bare
 ·obtain⟨oL,es,ep,ho,r⟩:=hm
  have nL:X.env.locals∉ch:=λhb=>(hf _ hb).2.1 rfl
  exact⟨oL,es,ep,k _ oL nL ho,r⟩
 ·refine(I.Au b u e).HK (λc v hc q=>k c v ?_ q) (λ_ q=>q) λ_ _ q=>q
  rcases hc with z | z
  ·rw[z];exact LY b u e
  ·exact LY c _ z
end
end Lake.L2
namespace Lake.MR
open PySem L2
section
variable {X:Cx}{b:BX}{G G' L:qf}{ro:Bool}{pos p:Pos}{m m1 m2:Md}{e e1 e2:Expr}{f f1 f2:qE}
@[simp] noncomputable def Ig:PV->PV->Option PV
 | .int i,.int j=>some (.int (if j < i then j else i))
 | _,_=>none
theorem Pu (hm:X.mg "min" = none)(h1:SE X b G m1 e1 f1)(h2:SE X b G m2 e2 f2)(hc:X.calm=true:=by rfl)(hg:Gl X "min" := by rfl)(YT:bootBuiltins "min" = some (.builtin "min"):=by decide +kernel)
  (he:starEach [e1,e2] X.env=(false,eval e1 X.env)::starEach [e2] X.env:=by rfl) (OG:starEach [e2] X.env=(false,eval e2 X.env)::starEach [] X.env:=by rfl) (A2:(backTo pos (starEach [e2] X.env)).any (·.1)=false:=by rfl):
  SE X b G .val (.Call (.Name "min" p) [e1,e2] [] pos) (b2 Ig f1 f2):=by
 refine PE.imp (dg (Fv hc) hg hm YT (aB h1.bor (aB h2.bor aL OG) he) (by decide) (by decide) he A2) ?_
 rintro σ H Q ⟨Ow,env,q,E,hf,kk⟩
 obtain⟨p1,RY,hf⟩:=az hf
 obtain⟨p2,IT,hf⟩:=az hf
 refine⟨Ow,env,p1,E,RY,λv H1 s r=>⟨Ow,env,p2,E.up s,IT,λv2 H2 s2 r2=>?_⟩⟩
 have r1:zC b.C (Bs b Ow) H1 v p1:=r
 have Ul:zC b.C (Bs b Ow) H2 v2 p2:=r2
 cases p1 <;> cases p2 <;> simp only[Ig] at hf <;> cases hf
 exact⟨_,_,by rw[r1.int,Ul.int],kk _ H2 (s.trans s2) (.int _)⟩
end
section
variable {X:Cx}{b:BX}{G G' L:qf}{ro:Bool}{pos p:Pos}{m m1 m2:Md}{e e1 e2:Expr}{f f1 f2 h:qE}
@[simp] noncomputable def DK:PV->PV->Option PV
 | .lst xs,.lst ys=>if xs.length+ys.length<=1000000 then some (.lst (xs++ys)) else none
 | _,_=>none
theorem Gs {x y z:PV}(e:DK x y=some z):∃xs ys,x=.lst xs/\y=.lst ys/\xs.length+ys.length<=1000000/\z=.lst (xs++ys):=by
 unfold DK at e
 split at e
 ·split at e
  ·cases e;exact⟨_,_,rfl,rfl,‹_›,rfl⟩
  ·cases e
 ·cases e
theorem Rr (i:Nat){x:Str}{p1 apos AA:Pos}(he:SE X b G .val e h)(hi:i∈G:=by decide)(hN:X.N[i]?=some x:=by rfl)(hv:LW X.env.scope x:=by first | exact e9 rfl | exact fb (e9 rfl) | exact fb (fb rfl))(hd:(x == ("__debug__" : Str))=false:=by decide)
  (D0:(x == ("__classdict__" : Str))=false:=by decide) (BD:attributeBase (.Name x p1) "extend" X.env (eval (.Name x p1) X.env)=eval (.Name x p1) X.env:=by rfl)
  (ES:((backTo AA (starEach [e] X.env)).all (λx=>!x.1)&&(backToKw AA (keywordEach [] X.env)).all (λx=>x.1.isSome)
   && decide ([e].length+([]:List Keyword).length+(if ([]:List Keyword).isEmpty then 0 else 1) < 30))=true:=by rfl)
  (BE:(apos.endLine == AA.line)=true:=by rfl) (hs:starEach [e] X.env=(false,eval e X.env)::starEach [] X.env:=by rfl):
  SS X b G G L ro (.Expr (.Call (.Attribute (.Name x p1) "extend" apos) [e] [] AA) pos) (jR DK i h):=
 PS.imp (qI (xW iL PySem.F.slot_list_extend PySem.F.type_list_extend FZ (gU hN hv hd D0) (aB he aL hs) BD ES BE hs rfl))<|by
  rintro D σ H ⟨Ow,env,o,E,hf,k⟩
  obtain⟨px,RO,z1⟩:=az hf
  clear hf
  obtain⟨p,hp,z2⟩:=az z1
  clear z1
  obtain⟨y,hy,z3⟩:=az z2
  clear z2
  cases z3
  obtain⟨xs,ys,rfl,rfl,hl,rfl⟩:=Gs hy
  obtain⟨a,ea,w,t⟩:=E.own i _ (eX RO) hi
  obtain⟨vs,ha,ra⟩:=id t
  refine⟨_,ea,.inl ⟨rfl,_,AS.of ha⟩,Ow,env,_,E,hp,λv H' s r=>?_⟩
  cases r with
  | @lst c us _ q1 q2 q3=>
   refine⟨a,c,vs,us,rfl,rfl,s _ _ ha,q1,fZ (by rw[ra.length,q3.length];exact hl),?_⟩
   have RS:zt b.C (Bs b Ow) (upd H' a (.lst (vs++us))) (vs++us) (xs++ys):=by
    refine(ra.ex (.of_same s)).append q3 |>.ex λc o h=>⟨λq=>⟨by rw[ao (λz:c=a=>q.1 (z▸w))];exact h,q⟩,λm=>?_⟩
    have hc:c≠a:=λz=>by subst z;rw[s _ _ ha] at h;cases h;cases m
    rw[ao hc];exact h
   obtain⟨E',x⟩:=(E.up s).write hi ea (eX RO) w (t.ex (.of_same s) λo z=>s _ _ z) (o':=.lst (vs++us)) (p':=.lst (xs++ys)) ⟨_,aA,RS⟩
   exact k Ow σ _ E' ((Ex.of_same s).trans x)
@[simp] noncomputable def kJ:PV->Option PV
 | .lst xs=>some (.tup xs)
 | .frz xs=>some (.tup xs)
 | .tup xs=>some (.tup xs)
 | _=>none
theorem kO (hm:X.mg "tuple" = none)(h:SE X b G m1 e f)(hK:X.K=b.C.K:=by rfl)(hg:Gl X "tuple" := by rfl)(he:starEach [e] X.env=(false,eval e X.env)::starEach [] X.env:=by rfl):SE X b G .val (.Call (.Name "tuple" p) [e] [] pos) (b1 kJ f):=by
 refine vL pG (λOw H v1 p1 p Q hn r1 e k=>?_) hm iN h hg (by decide) (by decide) he
 rw[hK]
 cases p1 <;> simp only[kJ] at e <;> cases e
 case lst xs=>obtain⟨a,vs,rfl,ha,ra⟩:=r1.lst;exact⟨a,vs,rfl,.inl ⟨AS.of ha,λl hl=>k _ _ (aD hl _) (mW hl ra)⟩⟩
 case frz xs=>obtain⟨a,vs,rfl,ha,ra⟩:=r1.frz;exact⟨a,vs,rfl,.inl ⟨ha,λl hl=>k _ _ (aD hl _) (mW hl ra)⟩⟩
 case tup xs=>obtain⟨a,vs,rfl,ha,ra⟩:=r1.tup;exact⟨a,vs,rfl,.inr ⟨ha.sq,k _ _ (zv.refl _) (ha.rep ra)⟩⟩
@[simp] noncomputable def xZ:PV->Option PV
 | .int j=>if 0<=j/\j<=1000000 then some (.lst (cT 0 j)) else none
 | _=>none
@[simp] noncomputable def x_:PV->Option PV
 | .lst xs=>some (.lst xs.reverse)
 | _=>none
noncomputable def DP (g:PV->Env->Option Env)(f:qE)(env:Env):Option Out:=(f env).bind λp=>(g p env).bind λe=>some (.nx e)
@[simp] theorem Tn (g:PV->Env->Option Env)(f:qE)(env:Env):DP g f env=((f env).bind λp=>(g p env).bind λe=>some (.nx e)):=id rfl
theorem Rt {tg:Expr}{g:PV->Env->Option Env}(he:SE X b G .val e h)(hg:SG X b G tg g)(hs:swapsWithSole [tg] e pos.line X.env=pure false:=by rfl)(hw:swappedStores [tg] e X.env=pure none:=by rfl)
  (h1:(assignEach [tg] X.env).map (·.2)=[assign tg X.env]:=by rfl):SS X b G G L ro (.Assign [tg] e pos) (DP g h):=
 PS.imp (Ff he hg hs hw h1)<|by
  rintro D σ H ⟨Ow,env,o,E,hf,k⟩
  obtain⟨p,hp,z1⟩:=az hf
  clear hf
  obtain⟨Co,he',z2⟩:=az z1
  clear z1
  cases z2
  exact⟨Ow,env,p,E,hp,λv H' s r=>⟨Ow,env,p,Co,E.up s,r,he',fun σ' E'=>k Ow σ' H' E' (.of_same s)⟩⟩
end
end Lake.MR
namespace Lake.L2
open PySem PySem.Spec PyProof.Rows
section
variable {X:Cx}
noncomputable def vQ (n:Nat):List V:=(List.range n).map λi=>.int (i:Nat)
theorem zm:∀(n k:Nat) (l:qh),l.length=n->(∀(j:Nat) v,l[j]?=some v->∃t,v=.int ((k+j:Nat):Int) t)->Vals ((List.range' k n).map λi=>V.int (i:Nat)) l
 | 0,k,l,h,_=>by
  have:=lf h
  subst this
  exact .nil
 | n+1,k,l,h,hv=>by
  cases l with
  | nil=>cases h
  | cons v l=>
   rw[List.range'_succ,a0]
   refine .cons ?_ (zm n (k+1) l (by simpa using h) λj u hu=>?_)
   ·obtain⟨t,e⟩:=hv 0 v rfl
    exact⟨t,e⟩
   ·obtain⟨t,e⟩:=hv (j+1) u (by simpa using hu)
    exact⟨t,by rw[e];congr 1;omega⟩
def Px (ta:TA):TE:=fun σ H Q=>ta σ H λvs H1=>∃n:Nat,vs=[.int (n:Nat)]/\n<=1000000/\∀l,H1 l=none->Q (.ref l) (upd H1 l (.lst (vQ n)))
theorem Ih {a:Expr}{ta:TA}{p p2 pos AY:Pos}(hg:Gl X "list")(hm:X.mg "list" = none)(MG:Gl X "range")(MH:X.mg "range" = none)(hc:X.calm=true)(ha:PA X [a] ta)(hs:starEach [a] X.env=[(false,eval a X.env)]:=by rfl)
  (DE:starEach [.Call (.Name "range" p2) [a] [] AY] X.env=(false,eval (.Call (.Name "range" p2) [a] [] AY) X.env)::starEach [] X.env:=by rfl) (A2:(backTo pos (starEach [] X.env)).any (·.1)=false:=by rfl):
  PE X (.Call (.Name "list" p) [.Call (.Name "range" p2) [a] [] AY] [] pos) (Px ta):=by
 intro zl s σ H Q I h
 refine fA (dN I hg hm i6 ?_ (by decide) (by decide))
 refine cf ?_ DE A2
 rw[DE]
 show wpAny _ _ (spliced ((false,eval (.Call (.Name "range" p2) [a] [] AY) X.env)::backTo pos (starEach [] X.env))) _ _ s
 refine hV ?_
 refine Call_ (dN I MG MH PyProof.Rows.boot_range (cf (AE (ha AY zl s σ H _ I h) ?_) hs rfl))
 rintro us s1 ⟨vs,H1,I1,r1,q1⟩
 obtain⟨n,e,hn,q⟩:=q1
 subst e
 cases r1 with
 | cons r rr=>
  cases rr
  obtain⟨t,rfl⟩:=r
  refine call_range_1 (js ?_)
  have U7:(2 ^ 62:Int)=4611686018427387904:=by decide
  refine call_list_range (n:=n) (I1.ok.hd hc) (IsRange.new ..) (small_one (by omega) (by omega) (by omega) (by omega)) (by rw[rangeSize_one];split <;> omega) (by omega) λh' tk E7 c' kp e it=>?_
  obtain⟨i1,i2⟩:=it
  have hv:Vals (vQ n) E7.toList:=by
   have:=zm n 0 E7.toList (by simpa using i1) λj v hj=>by
    obtain⟨t,e⟩:=i2 j v (by simpa using hj)
    exact⟨t,by rw[e];congr 1;omega⟩
   unfold vQ
   rw[pc]
   exact this
  have I2:=I1.laid (a:=s1.heap.objs.size+1) (o:=.lst (vQ n)) (h':=h') (t':=tk) (λb o eb=>kp b o (ac _ eb)) (by omega)
   (show Ap X.prog X.w X.K _ h' _ (.lst (vQ n)) from ⟨(by unfold vQ;rw[aI,ff];exact gv (bY hn)),E7.toList,c',hv,by
    have:=e
    rw[cy] at this
    simpa using this⟩)
  refine⟨.ref (s1.heap.objs.size+1),_,I2,?_,q _ (I1.Au.fresh (by omega))⟩
  show Value.ref _=Value.ref _
  rw[cy]
end
theorem Gu:typeLookup (.type "list_reverseiterator") "__len__" = pure none:=by rw[eK,cS];kernel_rfl
theorem Ii:typeLookup (.type "list_reverseiterator") "__length_hint__" = pure (some (.builtin "list_reverseiterator.__length_hint__")):=by rw[eK,cS];kernel_rfl
section
variable {prog:Program}{w:World}{A:Around}{E:oT}{s:Shared}
theorem DQ {J l N:Addr}{items:qA}{c₀:Nat}{R:Result->Shared->Prop}(hh:A.handled=none)(hit:s.heap.IsRevIter J l ((items.size:Int) - 1))(hl:s.heap.IsList l items)(YU:l≠J)(hNJ:N≠J)(hNl:N≠l)(hn:items.size<=sizeLine)
  (hN:s.heap.get? N=some { cls:=.type "list",data:=.seq #[] c₀ })
  (hR:∀h' tk acc c,(∀b o,b≠J->b≠N->s.heap.get? b=some o->h'.get? b=some o)->h'.get? N=some { cls:=.type "list",dict:=none,data:=.seq acc c,slots:=#[] }->ItemsOf (λi v=>items[items.size - 1 - i]?=some v) acc items.size->R (.ok (.ret .none)) { s with heap:=h',toks:=tk }):
  wpAny (model prog w) A.in1 (Builtin.List.listExtendWith (.ref N) (.ref J) .none)
   (λfin s'=>match fin with | .done f=>R (.ok f) s' | .again c'=>c'.quiet=true/\codeAny (model prog w) A c' R s') (λe s'=>R (.error e) s') s:=by
 have W:=(Walks.listRev (prog:=prog) (w:=w) (A:=A.in1) hh J l YU items).toS
 have st0:(0:Nat)<=items.size/\s.heap.IsRevIter J l ((items.size:Int) - 1 - ((0:Nat):Int))/\s.heap.IsList l items:=⟨cb _,by simpa using hit,hl⟩
 unfold Builtin.List.listExtendWith
 have hr:Builtin.List.listSameRef (.ref N) (.ref J)=false:=by simp[Builtin.List.listSameRef,hNJ]
 refine ab (iq hit.typeIs ?_);rw[ay (by rw[hr];decide)]
 refine ab (wpAny_pyIter_revIter hit (ab (dP ?_)))
 unfold Builtin.List.listLengthHint
 refine ab (e8 hit.typeIs Gu ?_)
 show wpAny _ A.in1 (specialOf (Value.ref J) (Str.ofString "__length_hint__") >>= _) _ _ _
 refine ab (e8 hit.typeIs Ii ?_)
 (generalize Sa:("list_reverseiterator.__length_hint__" : String)=nm;(fail_if_success (clear Sa nm));wp_delta;rw[show splitId nm=some ("list_reverseiterator","__length_hint__") from by subst Sa;decide +kernel];subst Sa)
 refine ab (gl (b:=true) hit.typeIs (by rw[hX];kernel_rfl) (ae ?_))
 rw[ay (by decide)]
 have hNf:N∉[J,l]:=by simp[hNJ,hNl]
 refine ae ⟨gX ei _,lh W hn N hNf .none items.size 0 _ _ _ rfl (cb _) st0 hN (ItemsOf.nil _) λs' acc c hm hN' it=>?_⟩
 rw[Moved.eq_with hm]
 exact hR s'.heap s'.toks acc c (λb o h1 h2 e=>hm.heap b o (by simp[h1,h2]) e) hN' it
theorem xM {J l:Addr}{items:qA}{Q:oT}(hh:A.handled=none)(hit:s.heap.IsRevIter J l ((items.size:Int) - 1))(hl:s.heap.IsList l items)(YU:l≠J)(hn:items.size<=sizeLine)
  (hQ:∀h' tk acc c,(∀b o,b≠J->s.heap.get? b=some o->h'.get? b=some o)->h'.get? s.heap.objs.size=some { cls:=.type "list",dict:=none,data:=.seq acc c,slots:=#[] }->ItemsOf (λi v=>items[items.size - 1 - i]?=some v) acc items.size->Q (.ref s.heap.objs.size) { s with heap:=h',toks:=tk }):
  wpAny (model prog w) A (call (.type "list") [.ref J]) Q E s:=by
 have lt:∀{b:Addr}{o:Obj},s.heap.get? b=some o->b≠s.heap.objs.size:=λe=>bd (ap e)
 have nJ:J≠s.heap.objs.size:=let ⟨_,e,_⟩:=hit;lt e
 have nl:l≠s.heap.objs.size:=let ⟨_,e,_⟩:=hl;lt e
 refine pd (Q₁:=λx t=>x=.ref s.heap.objs.size/\t={ s with heap:=s.heap.push { cls:=.type "list",data:=.seq #[] } }) F.called_list (F.typeCall_list_1 _) F.entry_list_init (code_list_new _ ⟨rfl,rfl⟩) λx t ht=>?_
 obtain⟨rfl,rfl⟩:=ht
 have hN:(s.heap.push { cls:=.type "list",data:=.seq #[] }).get? s.heap.objs.size=some { cls:=.type "list",data:=.seq #[] }:=al _ rfl
 refine⟨⟨_,hN,rfl⟩,F.args_list_init_2 _ _,?_⟩
 generalize hS:s.heap.objs.size=N at *
 have up:∀b o,b≠N->s.heap.get? b=some o->((s.heap.push { cls:=.type "list",data:=.seq #[] }).update N (Obj.mapSeq (λ_=>(#[]:qA)))).get? b=some o:=λb o hb e=>(dc _ _ (fe hb)).trans (ac _ e)
 show wpAny _ A.in1.in1 (do let old ← Builtin.List.listItems (.ref N);Builtin.List.listUpdate (.ref N) (λ_=>#[]);letGo old.toList.reverse;Builtin.List.listExtendWith (.ref N) (.ref J) .none) _ _ _
 refine ab ?_;unfold Builtin.List.listItems
 refine ab (fm hN rfl (ae ?_))
 show wpAny _ A.in1.in1 (updateSeq N (λ_=>#[]) >>= λ_=>letGo (#[]:qA).toList.reverse >>= λ_=>Builtin.List.listExtendWith (.ref N) (.ref J) .none) _ _ _
 refine ab (i9 hN rfl (ab (mN ?_)))
 have hN2:=cE (Obj.mapSeq (λ_=>(#[]:qA))) hN rfl
 refine DQ (A:=A.in1) hh (hit.at λo e=>up J o nJ e) (hl.at λo e=>up l o nl e) YU (fe nJ) (fe nl) hn hN2 λh' tk acc c k e it=>⟨rfl,hQ h' tk acc c (λb o hb eb=>k b o hb (hS▸lt eb) (up b o (hS▸lt eb) eb)) e it⟩
end
section
variable {X:Cx}{tg:Expr}
theorem w5 {xs:List V}{zw:qh}(r:Vals xs zw)(acc:qh)(hl:acc.length=zw.length)(h:∀(i:Nat) v,acc[i]?=some v->zw[zw.length - 1 - i]?=some v):Vals xs.reverse acc:=by
 have e:acc=zw.reverse:=by
  refine List.ext_getElem? λi=>?_
  rcases gx i acc.length with hi | hi
  ·have:=h i acc[i] (ai hi)
   rw[ai hi,List.getElem?_reverse (by omega),this]
  ·rw[cK hi,cK (by rw[l7];omega)]
 rw[e]
 exact r.reverse
def Py (K:W.Frag)(ta:TA):TE:=fun σ H Q=>ta σ H λvs H1=>∃a xs,vs=[.ref a]/\AS K H1 a xs/\∀l,H1 l=none->Q (.ref l) (upd H1 l (.lst xs.reverse))
theorem Ik {a:Expr}{ta:TA}{p p2 pos AY:Pos}(hg:Gl X "list")(hm:X.mg "list" = none)(MG:Gl X "reversed")(MH:X.mg "reversed" = none)(hb:bootBuiltins "reversed" = some (.type "reversed"))(hc:X.calm=true)(ha:PA X [a] ta)(hs:starEach [a] X.env=(false,eval a X.env)::starEach [] X.env:=by rfl)(IT:(backTo AY (starEach [] X.env)).any (·.1)=false:=by rfl)
  (DE:starEach [.Call (.Name "reversed" p2) [a] [] AY] X.env=(false,eval (.Call (.Name "reversed" p2) [a] [] AY) X.env)::starEach [] X.env:=by rfl) (A2:(backTo pos (starEach [] X.env)).any (·.1)=false:=by rfl):
  PE X (.Call (.Name "list" p) [.Call (.Name "reversed" p2) [a] [] AY] [] pos) (Py X.K ta):=by
 intro zl s σ H Q I h
 refine fA (dN I hg hm i6 (cf ?_ DE A2) (by decide) (by decide))
 rw[DE]
 show wpAny _ _ (spliced ((false,eval (.Call (.Name "reversed" p2) [a] [] AY) X.env)::backTo pos (starEach [] X.env))) _ _ s
 refine hV (Call_ (dN I MG MH hb (cf (AE (ha AY zl s σ H _ I h) ?_) hs IT)))
 rintro us s1 ⟨vs,H1,I1,r1,q1⟩
 obtain⟨a,xs,e,hq,q⟩:=q1
 subst e
 obtain⟨u,rfl,ru⟩:=vals1 r1
 cases ru
 obtain⟨zw,rv,pl,hz⟩:=I1.list hq
 have hlen:=rv.length
 have A0:a≠s1.heap.objs.size:=let ⟨_,e,_⟩:=pl.isList;bd (ap e)
 refine call_reversed_list pl.isList (js ?_)
 refine xM (I1.ok.hd hc) ⟨_,al _ rfl,rfl,rfl⟩ (pl.isList.at λo e=>ac _ e) A0 (by rw[ax];omega) λh' tk acc c k e it=>?_
 obtain⟨i1,i2⟩:=it
 rw[ax] at i1
 have hv:Vals xs.reverse acc.toList:=w5 rv acc.toList (by simpa using i1) λi v hi=>by
  have:=i2 i v (by simpa using hi)
  simpa using this
 have I2:=I1.laid (a:=s1.heap.objs.size+1) (o:=.lst xs.reverse) (h':=h') (t':=tk) (λb o eb=>k b o (bd (ap eb)) (ac _ eb)) (by omega)
  (show Ap X.prog X.w X.K _ h' _ (.lst xs.reverse) from ⟨(by rw[l7];exact hz),acc.toList,c,hv,by
   have:=e
   rw[cy] at this
   simpa using this⟩)
 refine⟨.ref (s1.heap.objs.size+1),_,I2,?_,q _ (I1.Au.fresh (by omega))⟩
 show Value.ref _=Value.ref _
 rw[cy]
end
end Lake.L2
namespace Lake.MR
open PySem L2
section
variable {X:Cx}{b:BX}{G G' L:qf}{ro:Bool}{pos p p2 AY:Pos}{m m1 m2:Md}{e e1 e2:Expr}{f f1 f2 h:qE}
theorem DR {x q:PV}(e:xZ x=some q):∃n:Nat,x=.int (n:Nat)/\n<=1000000/\q=.lst (cT 0 (n:Nat)):=by
 unfold xZ at e
 split at e
 ·split at e
  ·rename_i j hj
   cases e
   have ej:j=((j.toNat:Nat):Int):=by omega
   exact⟨j.toNat,by rw[← ej],by omega,by rw[← ej]⟩
  ·cases e
 ·cases e
theorem Il (hm:X.mg "list" = none)(MH:X.mg "range" = none)(h:SE X b G m1 e f)(hc:X.calm=true:=by rfl)(hg:Gl X "list" := by rfl)(MG:Gl X "range" := by rfl)(hs:starEach [e] X.env=[(false,eval e X.env)]:=by rfl)(C6:starEach [e] X.env=(false,eval e X.env)::starEach [] X.env:=by rfl)
  (DE:starEach [.Call (.Name "range" p2) [e] [] AY] X.env=(false,eval (.Call (.Name "range" p2) [e] [] AY) X.env)::starEach [] X.env:=by rfl) (A2:(backTo pos (starEach [] X.env)).any (·.1)=false:=by rfl):
  SE X b G .own (.Call (.Name "list" p) [.Call (.Name "range" p2) [e] [] AY] [] pos) (b1 xZ f):=by
 refine PE.imp (Ih hg hm MG MH hc (aB h.bor aL C6) hs DE A2) ?_
 rintro σ H Q ⟨Ow,env,q,E,hf,k⟩
 obtain⟨x,hx,hf⟩:=az hf
 obtain⟨n,rfl,hn,rfl⟩:=DR hf
 refine⟨Ow,env,_,E,hx,λv H1 s r=>?_⟩
 have r1:zC b.C (Bs b Ow) H1 v (.int (n:Nat)):=r
 refine⟨n,by rw[r1.int],hn,λl hl=>k _ _ (s.new hl _) (Res.down s (eV hl ?_))⟩
 have rr:zt b.C (Bs b Ow) H1 ((List.range n).map λi=>V.int (i:Nat)) ((List.range n).map λi=>PV.int (i:Nat)):=j0 _ _ (λi=>.int _) _
 have e1:cT 0 (n:Nat)=(List.range n).map λi=>PV.int (i:Nat):=by unfold cT;simp
 rw[e1]
 exact rr
theorem DW {x q:PV}(e:x_ x=some q):∃xs,x=.lst xs/\q=.lst xs.reverse:=by
 unfold x_ at e
 split at e
 ·cases e;exact⟨_,rfl,rfl⟩
 ·cases e
theorem Im (hm:X.mg "list" = none)(MH:X.mg "reversed" = none)(h:SE X b G m1 e f)(hb:bootBuiltins "reversed" = some (.type "reversed"):=by decide +kernel)(hK:X.K=b.C.K:=by rfl)(hc:X.calm=true:=by rfl)(hg:Gl X "list" := by rfl)(MG:Gl X "reversed" := by rfl)(C6:starEach [e] X.env=(false,eval e X.env)::starEach [] X.env:=by rfl)(IT:(backTo AY (starEach [] X.env)).any (·.1)=false:=by rfl)
  (DE:starEach [.Call (.Name "reversed" p2) [e] [] AY] X.env=(false,eval (.Call (.Name "reversed" p2) [e] [] AY) X.env)::starEach [] X.env:=by rfl) (A2:(backTo pos (starEach [] X.env)).any (·.1)=false:=by rfl):
  SE X b G .own (.Call (.Name "list" p) [.Call (.Name "reversed" p2) [e] [] AY] [] pos) (b1 x_ f):=by
 refine PE.imp (Ik hg hm MG MH hb hc (aB h.bor aL C6) C6 IT DE A2) ?_
 rintro σ H Q ⟨Ow,env,q,E,hf,k⟩
 rw[hK]
 obtain⟨x,hx,hf⟩:=az hf
 obtain⟨xs,rfl,rfl⟩:=DW hf
 refine⟨Ow,env,_,E,hx,λv H1 s r=>?_⟩
 have r1:zC b.C (Bs b Ow) H1 v (.lst xs):=r
 obtain⟨a,vs,rfl,ha,ra⟩:=r1.lst
 exact⟨a,vs,rfl,AS.of ha,λl hl=>k _ _ (s.new hl _) (Res.down s (eV hl ra.reverse))⟩
end
theorem oG {α:Type}{n:Nat}{us:List α}(hl:us.length=n+1):∃a r,us=a::r/\r.length=n:=by
 cases us with
 | nil=>cases hl
 | cons a r=>exact⟨a,r,rfl,Nat.succ.inj hl⟩
@[elab_as_elim] theorem len0 {α:Type}{P:List α->Prop}(us:List α)(hl:us.length=0)(h:P []):P us:=by
 cases us with
 | nil=>exact h
 | cons a r=>cases hl
@[elab_as_elim] theorem Pz {α:Type}{P:List α->Prop}(us:List α)(hl:us.length=1)(h:∀a,P [a]):P us:=by
 obtain⟨a,r,rfl,hr⟩:=oG hl
 exact len0 (P:=λr=>P (a::r)) r hr (h a)
@[elab_as_elim] theorem PB {α:Type}{P:List α->Prop}(us:List α)(hl:us.length=2)(h:∀a b,P [a,b]):P us:=by
 obtain⟨a,r,rfl,hr⟩:=oG hl
 exact Pz (P:=λr=>P (a::r)) r hr (h a)
@[elab_as_elim] theorem PJ {α:Type}{P:List α->Prop}(us:List α)(hl:us.length=3)(h:∀a b c,P [a,b,c]):P us:=by
 obtain⟨a,r,rfl,hr⟩:=oG hl
 exact PB (P:=λr=>P (a::r)) r hr (h a)
@[elab_as_elim] theorem Sx {α:Type}{P:List α->Prop}(us:List α)(hl:us.length=4)(h:∀a b c d,P [a,b,c,d]):P us:=by
 obtain⟨a,r,rfl,hr⟩:=oG hl
 exact PJ (P:=λr=>P (a::r)) r hr (h a)
end Lake.MR
namespace Lake.L2
open PySem PySem.Spec PyProof.Rows
section
variable {prog:Program}{w:World}{A:Around}{E:oT}{s:Shared}
theorem nextT {it t:Addr}{i:Nat}{items:qA}{x:Value}{Q:oT}(hit:s.heap.IsTupleIter it t i)(ht:s.heap.IsTuple t items)(hx:items[i]?=some x)
  (hQ:∀h',h'.IsTupleIter it t (i+1)->Heap.SameBut it s.heap h'->Q x { s with heap:=h' }):wpAny (model prog w) A (Builtin.SmallTypes.nextOf (.ref it)) Q E s:=by
 obtain⟨o,eo,co,fo⟩:=id hit
 obtain⟨p,ep,_,np,dp⟩:=ht
 unfold Builtin.SmallTypes.nextOf
 refine ab (ci (name:=Str.ofString "__next__") hit.typeIs hZ (cp hZ hit.typeIs md ?_ (lP _)))
 show wpAny _ _ (field (.ref it) 0 >>= _) _ _ _
 refine ab (cw eo fo (x:=.ref t) rfl ?_)
 show wpAny _ _ (if (Value.ref t == Value.none)=true then _ else _) _ _ _
 rw[ay (λz:(Value.ref t == Value.none)=true=>ba z)]
 show wpAny _ _ (field (.ref it) 1 >>= _) _ _ _
 refine ab (cw eo fo (x:=.int i 0) rfl ?_)
 show wpAny _ _ (seqItems? (.ref t) >>= _) _ _ _
 refine ab (fm ep dp ?_);simp only[fT,hx]
 refine ab (iO eo fo (by simp) (ae ⟨x,rfl,ae (hQ _ ⟨_,cE _ eo (k6 (h9 fo _)),(Obj.cls_mapFields ..).trans co,?_⟩ (eg ..))⟩))
 rw[h9 fo]
 simp[rawInt]
theorem Gv {it t:Addr}{i:Nat}{items:qA}{Q:oT}(hh:A.handled=none)(hit:s.heap.IsTupleIter it t i)(ht:s.heap.IsTuple t items)(hx:items[i]?=none)
  (hE:∀h' e,Heap.ExtBut it s.heap h'->(∃o,h'.get? e=some o/\o.cls=.type "StopIteration")->E (.ref e) { s with heap:=h' }):wpAny (model prog w) A (Builtin.SmallTypes.nextOf (.ref it)) Q E s:=by
 obtain⟨o,eo,co,fo⟩:=id hit
 obtain⟨p,ep,_,np,dp⟩:=ht
 unfold Builtin.SmallTypes.nextOf
 refine ab (ci (name:=Str.ofString "__next__") hit.typeIs hZ (cp hZ hit.typeIs md ?_ (lP _)))
 show wpAny _ _ (field (.ref it) 0 >>= _) _ _ _
 refine ab (cw eo fo (x:=.ref t) rfl ?_)
 show wpAny _ _ (if (Value.ref t == Value.none)=true then _ else _) _ _ _
 rw[ay (λz:(Value.ref t == Value.none)=true=>ba z)]
 show wpAny _ _ (field (.ref it) 1 >>= _) _ _ _
 refine ab (cw eo fo (x:=.int i 0) rfl ?_)
 show wpAny _ _ (seqItems? (.ref t) >>= _) _ _ _
 refine ab (fm ep dp ?_);simp only[fT,hx]
 refine ab (hJ (ab (iO eo fo (by simp) ?_)))
 show wpAny _ _ (newExc (.type "StopIteration") [] >>= _) _ _ _
 refine ab ?_;simp only[newExc,newTuple]
 refine ab (b0 (ab (m:=firstArgMember _ _) (fk (a:=Value.none) (by first | rfl | (simp only[firstArgMember];rfl)) (b0 ?_ (by size_fits)))) (by size_fits))
 simp only[raiseNew]
 refine ab (nh ?_);rw[hh]
 refine ab (ae (pf ?_))
 exact hE _ _ (((eg ..).extBut.push _).push _) ⟨_,al _ rfl,rfl⟩
theorem PK (hh:A.handled=none)(it t:Addr)(AM:t≠it)(items:qA):Draws prog w A it [it,t] items.size (λi v=>items[i]?=some v) (λi h=>h.IsTupleIter it t i/\h.IsTuple t items) where
 live:=λi h st=>let ⟨o,e,_⟩:=st.1;⟨o,e⟩
 frame:=λi h h' st k=>⟨st.1.at λo e=>k it (by simp) o e,let ⟨o,e,c⟩:=st.2;⟨o,k t (by simp) o e,c⟩⟩
 item:=λi s Q E hi st hQ=>nextT st.1 st.2 (eD hi) λh' a b=>hQ _ h' s.toks (eD hi) ⟨a,let ⟨o,e,c⟩:=st.2;⟨o,(b.2 t AM).trans e,c⟩⟩ b
 done:=λs Q E st hE=>Gv hh st.1 st.2 (i7 (aw _)) hE
structure ZA (z TI TO i1 i2:Addr)(Lv LA:qv):Prop where
 TIz:TI≠z
 TOz:TO≠z
 TIO:TI≠TO
 m1:i1∈Lv
 m2:i2∈LA
 z1:z∉Lv
 z2:z∉LA
 o1:TO∉Lv
 o2:TO∉LA
 YV:i1∉LA
 x21:i2∉Lv
variable {z TI TO i1 i2:Addr}{Lv LA:qv}{n1 n2:Nat}{P1 P2:Nat->Value->Prop}{Uq Sb:Nat->Heap->Prop}
theorem ZA.i1z (D:ZA z TI TO i1 i2 Lv LA):i1≠z:=λe=>D.z1 (e▸D.m1)
theorem ZA.i2z (D:ZA z TI TO i1 i2 Lv LA):i2≠z:=λe=>D.z2 (e▸D.m2)
theorem ZA.i1o (D:ZA z TI TO i1 i2 Lv LA):i1≠TO:=λe=>D.o1 (e▸D.m1)
theorem ZA.i2o (D:ZA z TI TO i1 i2 Lv LA):i2≠TO:=λe=>D.o2 (e▸D.m2)
theorem dw {b:Addr}{h h':Heap}{fp:qv}(hs:Heap.SameBut b h h')(hb:b∉fp):∀c∈fp,∀o,h.get? c=some o->h'.get? c=some o:=λc hc o e=>(hs.2 c (λq=>hb (q▸hc))).trans e
theorem Gw {k:Nat}{a b:Value}{Q:oT}(D:ZA z TI TO i1 i2 Lv LA)(D1:Draws prog w A i1 Lv n1 P1 Uq)(D2:Draws prog w A i2 LA n2 P2 Sb)(hz:IsZip s.heap z TI TO .none)(Ic:IsPair s.heap TI (.ref i1) (.ref i2))(KI:IsPair s.heap TO a b)
  (t1:Uq k s.heap) (t2:Sb k s.heap) (k1:k < n1) (k2:k < n2)
  (hQ:∀h' tk x y,P1 k x->P2 k y->IsZip h' z TI TO (rawInt s.heap.objs.size)->IsPair h' TO x y->Uq (k+1) h'->Sb (k+1) h'->IsPair h' s.heap.objs.size x y->h'.objs.size=s.heap.objs.size+1->
   (∀c o,c≠z->c≠TO->c≠i1->c≠i2->s.heap.get? c=some o->h'.get? c=some o)->Q (.ref s.heap.objs.size) { s with heap:=h',toks:=tk }):
  wpAny (model prog w) A (Builtin.«zip.__next__» ⟨[.ref z],[]⟩) (λfin s'=>∃v,fin=.done (.ret v)/\Q v s') E s:=by
 show wpAny _ _ (field (.ref z) 2 >>= _) _ _ _
 refine ab (cw hz rfl (x:=.bool false) rfl ?_)
 show wpAny _ _ (field (.ref z) 3 >>= _) _ _ _
 refine ab (cw hz rfl (x:=.ref TI) rfl (ab (fm Ic rfl ?_)))
 show wpAny _ _ (Builtin.SmallTypes.ownedTupleIsFree (.ref z) >>= _) _ _ _
 refine ab ?_;unfold Builtin.SmallTypes.ownedTupleIsFree
 refine ab (cw hz rfl (x:=.none) rfl (ae ?_));simp only[fR]
 refine ab (hJ (ab (cw hz rfl (x:=.ref TO) rfl (ab (dy hz (by simp) λg1 z1 s1=>?_)))))
 replace z1:IsZip g1 z TI TO .ellipsis:=z1
 refine ab ?_;simp only[List.zipIdx_cons,List.zipIdx_nil,kB,kT]
 refine ab (ab (nn ?_))
 show wpAny _ _ (Builtin.SmallTypes.nextOf (.ref i1) >>= _) _ _ _
 refine ab (D1.item k _ _ _ k1 (D1.frame k _ _ t1 (dw s1 D.z1)) λx g2 tk2 px u2 s2=>ae ?_)
 have o2:IsPair g2 TO a b:=s2.extBut _ _ D.i1o.symm (s1.extBut _ _ D.TOz KI)
 refine ab (fm o2 rfl (ab (li o2 λg3 o3 s3=>ab (mN (ae ?_)))))
 replace o3:IsPair g3 TO x b:=o3
 refine ab (ab (nn ?_))
 show wpAny _ _ (Builtin.SmallTypes.nextOf (.ref i2) >>= _) _ _ _
 have v3:Sb k g3:=D2.frame k _ _ (D2.frame k _ _ (D2.frame k _ _ t2 (dw s1 D.z2)) (dw s2 D.YV)) (dw s3 D.o2)
 refine ab (D2.item k _ _ _ k2 v3 λy g4 tk4 py u4 s4=>ae ?_)
 have o4:IsPair g4 TO x b:=s4.extBut _ _ D.i2o.symm o3
 refine ab (fm o4 rfl (ab (li o4 λg5 o5 s5=>ab (mN (ae (ae ?_))))))
 replace o5:IsPair g5 TO x y:=o5
 refine ab (fm o5 rfl (ab (mr ?_)))
 have sz:g5.objs.size=s.heap.objs.size:=by rw[s5.1,s4.1,s3.1,s2.1,s1.1]
 have z5:IsZip g5 z TI TO .ellipsis:=s5.extBut _ _ D.TOz.symm (s4.extBut _ _ D.i2z.symm (s3.extBut _ _ D.TOz.symm (s2.extBut _ _ D.i1z.symm z1)))
 have k5:∀c o,c≠z->c≠TO->c≠i1->c≠i2->s.heap.get? c=some o->g5.get? c=some o:=λc o c1 c2 c3 c4 e=>s5.extBut _ _ c2 (s4.extBut _ _ c4 (s3.extBut _ _ c2 (s2.extBut _ _ c3 (s1.extBut _ _ c1 e))))
 have w1:Uq (k+1) g5:=D1.frame _ _ _ (D1.frame _ _ _ (D1.frame _ _ _ u2 (dw s3 D.o1)) (dw s4 D.x21)) (dw s5 D.o1)
 have w2:Sb (k+1) g5:=D2.frame _ _ _ u4 (dw s5 D.o2)
 have lz:z < g5.objs.size:=ap z5
 show wpAny _ _ (Builtin.SmallTypes.ownedTupleHandOut (.ref z) (.ref g5.objs.size) >>= _) _ _ _
 refine ab ?_;unfold Builtin.SmallTypes.ownedTupleHandOut
 have z6:IsZip (g5.push { cls:=.type "tuple",data:=.seq #[x,y] }) z TI TO .ellipsis:=ac _ z5
 refine ab (dy z6 (by simp) λg7 z7 s7=>?_)
 replace z7:IsZip g7 z TI TO (rawInt g5.objs.size):=z7
 refine dy z7 (by simp) λg8 z8 s8=>?_
 replace z8:IsZip g8 z TI TO (rawInt g5.objs.size):=z8
 have up:∀c o,c≠z->g5.get? c=some o->g8.get? c=some o:=λc o c1 e=>s8.extBut _ _ c1 (s7.extBut _ _ c1 (ac _ e))
 have p8:IsPair g8 g5.objs.size x y:=s8.extBut _ _ (dE lz) (s7.extBut _ _ (dE lz) (al _ rfl))
 have y8:g8.objs.size=g5.objs.size+1:=by rw[s8.1,s7.1,cy]
 have fr:∀{fp:qv},z∉fp->∀c∈fp,∀o,g5.get? c=some o->g8.get? c=some o:=λXE c hc o e=>up c o (λq=>XE (q▸hc)) e
 rw[sz] at z8 p8 y8
 refine ae ⟨_,rfl,?_⟩
 show Q (.ref g5.objs.size) _
 rw[sz]
 exact hQ g8 _ x y px py z8 (up _ _ D.TOz o5) (D1.frame _ _ _ w1 (fr D.z1)) (D2.frame _ _ _ w2 (fr D.z2)) p8 y8 λc o c1 c2 c3 c4 e=>up c o c1 (k5 c o c1 c2 c3 c4 e)
theorem Io {k:Nat}{a b:Value}{Q:Fin->Shared->Prop}(D:ZA z TI TO i1 i2 Lv LA)(D1:Draws prog w A i1 Lv n1 P1 Uq)(D2:Draws prog w A i2 LA n2 P2 Sb)(hz:IsZip s.heap z TI TO .none)(Ic:IsPair s.heap TI (.ref i1) (.ref i2))(KI:IsPair s.heap TO a b)
  (t1:Uq k s.heap) (t2:Sb k s.heap) (hk:k=n1\/(k < n1/\k=n2))
  (hE:∀h' tk e,(∀c o,c≠z->c≠TO->c≠i1->c≠i2->s.heap.get? c=some o->h'.get? c=some o)->(∃o,h'.get? e=some o/\o.cls=.type "StopIteration")->E (.ref e) { s with heap:=h',toks:=tk }):
  wpAny (model prog w) A (Builtin.«zip.__next__» ⟨[.ref z],[]⟩) Q E s:=by
 show wpAny _ _ (field (.ref z) 2 >>= _) _ _ _
 refine ab (cw hz rfl (x:=.bool false) rfl ?_)
 show wpAny _ _ (field (.ref z) 3 >>= _) _ _ _
 refine ab (cw hz rfl (x:=.ref TI) rfl (ab (fm Ic rfl ?_)))
 show wpAny _ _ (Builtin.SmallTypes.ownedTupleIsFree (.ref z) >>= _) _ _ _
 refine ab ?_;unfold Builtin.SmallTypes.ownedTupleIsFree
 refine ab (cw hz rfl (x:=.none) rfl (ae ?_));simp only[fR]
 refine ab (hJ (ab (cw hz rfl (x:=.ref TO) rfl (ab (dy hz (by simp) λg1 z1 s1=>?_)))))
 replace z1:IsZip g1 z TI TO .ellipsis:=z1
 refine ab ?_;simp only[List.zipIdx_cons,List.zipIdx_nil,kB,kT]
 refine ab (ab (nn ?_))
 show wpAny _ _ (Builtin.SmallTypes.nextOf (.ref i1) >>= _) _ _ _
 have v1:Uq k g1:=D1.frame k _ _ t1 (dw s1 D.z1)
 rcases hk with rfl | ⟨YW,rfl⟩
 ·refine ab (D1.done _ _ _ v1 λg2 e s2 he=>?_)
  obtain⟨oe,Ur,V4⟩:=he
  have z2:IsZip g2 z TI TO .ellipsis:=s2 _ _ D.i1z.symm z1
  have YX:e≠z:=λq=>by subst q;rw[z2] at Ur;cases Ur;simp at V4
  exact dy z2 (by simp) λg3 _ s3=>hE g3 _ e (λc o c1 _ c3 _ q=>s3.extBut _ _ c1 (s2 _ _ c3 (s1.extBut _ _ c1 q))) ⟨oe,s3.extBut _ _ YX Ur,V4⟩
 ·refine ab (D1.item k _ _ _ YW v1 λx g2 tk2 px u2 s2=>ae ?_)
  have o2:IsPair g2 TO a b:=s2.extBut _ _ D.i1o.symm (s1.extBut _ _ D.TOz KI)
  refine ab (fm o2 rfl (ab (li o2 λg3 o3 s3=>ab (mN (ae ?_)))))
  refine ab (ab (nn ?_))
  show wpAny _ _ (Builtin.SmallTypes.nextOf (.ref i2) >>= _) _ _ _
  have v3:Sb k g3:=D2.frame k _ _ (D2.frame k _ _ (D2.frame k _ _ t2 (dw s1 D.z2)) (dw s2 D.YV)) (dw s3 D.o2)
  refine ab (D2.done _ _ _ v3 λg4 e s4 he=>?_)
  obtain⟨oe,Ur,V4⟩:=he
  have z4:IsZip g4 z TI TO .ellipsis:=s4 _ _ D.i2z.symm (s3.extBut _ _ D.TOz.symm (s2.extBut _ _ D.i1z.symm z1))
  have YX:e≠z:=λq=>by subst q;rw[z4] at Ur;cases Ur;simp at V4
  exact dy z4 (by simp) λg5 _ s5=>hE g5 _ e (λc o c1 c2 c3 c4 q=>s5.extBut _ _ c1 (s4 _ _ c4 (s3.extBut _ _ c2 (s2.extBut _ _ c3 (s1.extBut _ _ c1 q))))) ⟨oe,s5.extBut _ _ YX Ur,V4⟩
end
inductive SK where | L | T
def SK.ty:SK->String
 | .L => "list_iterator"
 | .T => "tuple_iterator"
def SK.is (k:SK)(h:Heap)(a:Addr)(items:qA):Prop:=match k with
 | .L=>h.IsList a items
 | .T=>h.IsTuple a items
def SK.at (k:SK)(h:Heap)(it a:Addr)(i:Nat):Prop:=match k with
 | .L=>h.IsListIter it a i
 | .T=>h.IsTupleIter it a i
theorem SK.at_of {k:SK}{h:Heap}{it a:Addr}(e:h.get? it=some { cls:=.type k.ty,data:=.fields #[.ref a,.int 0 0] }):k.at h it a 0:=by
 cases k with
 | L=>exact⟨_,e,rfl,rfl⟩
 | T=>exact⟨_,e,rfl,rfl⟩
theorem SK.Cs {k:SK}{h:Heap}{it a:Addr}{i:Nat}(st:k.at h it a i):∃o,h.get? it=some o/\∀v,o.data≠.cell v:=by
 cases k with
 | L=>obtain⟨o,e,c,d⟩:=st;exact⟨o,e,λv y=>by rw[d] at y;cases y⟩
 | T=>obtain⟨o,e,c,d⟩:=st;exact⟨o,e,λv y=>by rw[d] at y;cases y⟩
theorem SK.C0 {k:SK}{h h':Heap}{it a:Addr}{i:Nat}(st:k.at h it a i)(q:∀o,h.get? it=some o->h'.get? it=some o):k.at h' it a i:=by
 cases k with
 | L=>exact Heap.IsListIter.at st q
 | T=>exact Heap.IsTupleIter.at st q
theorem SK.is_lt {k:SK}{h:Heap}{a:Addr}{items:qA}(p:k.is h a items):a < h.objs.size:=by
 cases k with
 | L=>obtain⟨o,e,_⟩:=p;exact ap e
 | T=>obtain⟨o,e,_⟩:=p;exact ap e
theorem SK.draws {prog:Program}{w:World}{A:Around}(k:SK)(hh:A.handled=none)(it a:Addr)(AM:a≠it)(items:qA):Draws prog w A it [it,a] items.size (λi v=>items[i]?=some v) (λi h=>k.at h it a i/\k.is h a items):=by
 cases k with
 | L=>exact Draws.list hh it a AM items
 | T=>exact PK hh it a AM items
noncomputable def V5 (k1:SK)(h:Heap)(l1:Addr):Heap:=h.push { cls:=.type k1.ty,data:=.fields #[.ref l1,.int 0 0] }
noncomputable def V6 (k1 k2:SK)(h:Heap)(l1 l2:Addr):Heap:=(V5 k1 h l1).push { cls:=.type k2.ty,data:=.fields #[.ref l2,.int 0 0] }
noncomputable def V7 (k1 k2:SK)(h:Heap)(l1 l2:Addr):Heap:=(V6 k1 k2 h l1 l2).push { cls:=.type "tuple",data:=.seq #[.ref h.objs.size,.ref (V5 k1 h l1).objs.size] }
noncomputable def XF (k1 k2:SK)(h:Heap)(l1 l2:Addr):Heap:=(V7 k1 k2 h l1 l2).push { cls:=.type "tuple",data:=.seq #[.none,.none] }
noncomputable def Us (k1 k2:SK)(h:Heap)(l1 l2:Addr):Heap:=(XF k1 k2 h l1 l2).push { cls:=.type "zip",data:=.fields #[.none,.bool false,.bool false,.ref (V6 k1 k2 h l1 l2).objs.size,.ref (V7 k1 k2 h l1 l2).objs.size] }
theorem PL (k1 k2:SK)(l1 l2:Addr)(xs ys:qA):Meets (Builtin.«zip.__new__» ⟨[.type "zip",.ref l1,.ref l2],[]⟩) (λ_ R s=>k1.is s.heap l1 xs/\k2.is s.heap l2 ys /\
   R (.ok (.ret (.ref (XF k1 k2 s.heap l1 l2).objs.size))) { s with heap:=Us k1 k2 s.heap l1 l2 }):=
 .of_wp λprog w A R s h=>by
  obtain⟨hp,g,d,tk,os⟩:=s
  obtain⟨q1,q2,h⟩:=h
  have LB:=sub_zip
  cases k1 with
  | L=>
   have e1:Heap.IsList (Shared.heap ⟨hp,g,d,tk,os⟩) l1 xs:=q1
   cases k2 with
   | L=>
    have e2:Heap.IsList (Shared.heap ⟨hp.push { cls:=.type "list_iterator",data:=.fields #[.ref l1,.int 0 0] },g,d,tk,os⟩) l2 ys:=Heap.IsList.push q2 _
    wp_walk using fN e1,fN e2
    exact⟨_,rfl,h⟩
   | T=>
    have e2:Heap.IsTuple (Shared.heap ⟨hp.push { cls:=.type "list_iterator",data:=.fields #[.ref l1,.int 0 0] },g,d,tk,os⟩) l2 ys:=let ⟨o,e,c⟩:=q2;⟨o,ac _ e,c⟩
    wp_walk using fN e1,eS e2
    exact⟨_,rfl,h⟩
  | T=>
   have e1:Heap.IsTuple (Shared.heap ⟨hp,g,d,tk,os⟩) l1 xs:=q1
   cases k2 with
   | L=>
    have e2:Heap.IsList (Shared.heap ⟨hp.push { cls:=.type "tuple_iterator",data:=.fields #[.ref l1,.int 0 0] },g,d,tk,os⟩) l2 ys:=Heap.IsList.push q2 _
    wp_walk using eS e1,fN e2
    exact⟨_,rfl,h⟩
   | T=>
    have e2:Heap.IsTuple (Shared.heap ⟨hp.push { cls:=.type "tuple_iterator",data:=.fields #[.ref l1,.int 0 0] },g,d,tk,os⟩) l2 ys:=let ⟨o,e,c⟩:=q2;⟨o,ac _ e,c⟩
    wp_walk using eS e1,eS e2
    exact⟨_,rfl,h⟩
section
variable {prog:Program}{w:World}{A:Around}{E:oT}{s:Shared}
theorem Gx {k1 k2:SK}{l1 l2:Addr}{xs ys:qA}{Q:oT}(q1:k1.is s.heap l1 xs)(q2:k2.is s.heap l2 ys)
  (h:∀h',IsZip h' (s.heap.objs.size+4) (s.heap.objs.size+2) (s.heap.objs.size+3) .none->IsPair h' (s.heap.objs.size+2) (.ref s.heap.objs.size) (.ref (s.heap.objs.size+1))->
   IsPair h' (s.heap.objs.size+3) .none .none->k1.at h' s.heap.objs.size l1 0->k2.at h' (s.heap.objs.size+1) l2 0->h'.objs.size=s.heap.objs.size+5->
   (∀c o,s.heap.get? c=some o->h'.get? c=some o)->Q (.ref (s.heap.objs.size+4)) { s with heap:=h' }):
  wpAny (model prog w) A (call (.type "zip") [.ref l1,.ref l2]) Q E s:=by
 refine callType_new F.called_zip (by decide) (F.typeCall_zip_2 _ _) (F.newCall_zip_2 _ _) (λobj=>F.args_object_init_3 obj _ _) F.entry_zip_new (PL k1 k2 l1 l2 xs ys) ⟨q1,q2,?_⟩
 have a1:(V5 k1 s.heap l1).objs.size=s.heap.objs.size+1:=cy ..
 have a2:(V6 k1 k2 s.heap l1 l2).objs.size=s.heap.objs.size+2:=(cy ..).trans (by rw[a1])
 have a3:(V7 k1 k2 s.heap l1 l2).objs.size=s.heap.objs.size+3:=(cy ..).trans (by rw[a2])
 have a4:(XF k1 k2 s.heap l1 l2).objs.size=s.heap.objs.size+4:=(cy ..).trans (by rw[a3])
 have a5:(Us k1 k2 s.heap l1 l2).objs.size=s.heap.objs.size+5:=(cy ..).trans (by rw[a4])
 have b5:(Us k1 k2 s.heap l1 l2).get? (XF k1 k2 s.heap l1 l2).objs.size=some { cls:=.type "zip",data:=.fields #[.none,.bool false,.bool false,.ref (V6 k1 k2 s.heap l1 l2).objs.size,.ref (V7 k1 k2 s.heap l1 l2).objs.size] }:=al _ rfl
 have b4:(Us k1 k2 s.heap l1 l2).get? (V7 k1 k2 s.heap l1 l2).objs.size=some { cls:=.type "tuple",data:=.seq #[.none,.none] }:=ac _ (al _ rfl)
 have b3:(Us k1 k2 s.heap l1 l2).get? (V6 k1 k2 s.heap l1 l2).objs.size=some { cls:=.type "tuple",data:=.seq #[.ref s.heap.objs.size,.ref (V5 k1 s.heap l1).objs.size] }:=ac _ (ac _ (al _ rfl))
 have b2:(Us k1 k2 s.heap l1 l2).get? (V5 k1 s.heap l1).objs.size=some { cls:=.type k2.ty,data:=.fields #[.ref l2,.int 0 0] }:=ac _ (ac _ (ac _ (al _ rfl)))
 have b1:(Us k1 k2 s.heap l1 l2).get? s.heap.objs.size=some { cls:=.type k1.ty,data:=.fields #[.ref l1,.int 0 0] }:=ac _ (ac _ (ac _ (ac _ (al _ rfl))))
 rw[a2,a3,a4] at b5
 rw[a3] at b4
 rw[a1,a2] at b3
 rw[a1] at b2
 show _/\_
 rw[a4]
 exact⟨⟨_,b5,rfl⟩,h _ b5 b3 b4 (SK.at_of b1) (SK.at_of b2) a5 λc o x=>ac _ (ac _ (ac _ (ac _ (ac _ x))))⟩
end
def SK.sq (k:SK)(K:W.Frag)(H:Hp)(a:Addr)(xs:List V):Prop:=match k with
 | .L=>AS K H a xs
 | .T=>BU K H a xs
section
variable {X:Cx}{zl:qc}{σ:St}{H:Hp}{s:Shared}
theorem Inv.sk (I:Inv X zl σ H s){k:SK}{a:Addr}{xs:List V}(h:k.sq X.K H a xs):∃zw:List Value,Vals xs zw/\k.is s.heap a zw.toArray:=by
 cases k with
 | L=>obtain⟨zw,r,p,_⟩:=I.list h;exact⟨zw,r,p.isList⟩
 | T=>obtain⟨zw,r,p,_⟩:=I.tuple h;exact⟨zw,r,p⟩
theorem Inv.IZ (I:Inv X zl σ H s){k:SK}{a:Addr}{xs ys:List V}(h:k.sq X.K H a xs)(h':k.sq X.K H a ys):xs=ys:=by
 cases k with
 | L=>exact I.HP h h'
 | T=>exact I.FU h h'
end
def V8 (K:W.Frag)(k1 k2:SK)(a b:Addr):It:=
  ⟨λi H=>∃xs x ys y,k1.sq K H a xs/\xs[i]?=some x/\k2.sq K H b ys/\ys[i]?=some y,
   λi H v H'=>∃t x y,H t=none/\v=.ref t/\H'=upd H t (.tup [x,y])/\(∀xs,k1.sq K H a xs->xs[i]?=some x)/\∀ys,k2.sq K H b ys->ys[i]?=some y,
   λi H=>∃xs ys,k1.sq K H a xs/\k2.sq K H b ys/\(xs.length=i\/(i < xs.length/\ys.length=i))⟩
def ZAt (k1 k2:SK)(z TI TO i1 i2 l1 l2:Addr)(i:Nat)(h:Heap):Prop:=IsZip h z TI TO .none/\IsPair h TI (.ref i1) (.ref i2)/\(∃a b,IsPair h TO a b)/\k1.at h i1 l1 i/\k2.at h i2 l2 i
theorem Km {z TI TO i1 i2 l1 l2:Addr}(D:ZipApart z TI TO i1 i2 l1 l2):ZA z TI TO i1 i2 [i1,l1] [i2,l2] where
 TIz:=D.TIz
 TOz:=D.TOz
 TIO:=D.TITO
 m1:=by simp
 m2:=by simp
 z1:=by simp[D.i1z.symm,D.l1z.symm]
 z2:=by simp[D.i2z.symm,D.l2z.symm]
 o1:=by simp[D.TOi1,D.l1TO.symm]
 o2:=by simp[D.TOi2,D.l2TO.symm]
 YV:=by simp[D.i12,D.l2i1.symm]
 x21:=by simp[D.i12.symm,D.l1i2.symm]
theorem w6 {P:Program}{w:World}{K:W.Frag}{es:qo}{x1:Nat}{tpos:Pos}{k1 k2:SK}{z TI TO i1 i2 l1 l2:Addr}(D:ZipApart z TI TO i1 i2 l1 l2):Turn P w K (.Tuple es x1 tpos) (V8 K k1 k2 l1 l2) [z,TI,TO,i1,i2] z (ZAt k1 k2 z TI TO i1 i2 l1 l2) where
 mem:=by simp
 obj:=λi h st b hb=>by
  obtain⟨hz,Ic,⟨a,c,KI⟩,s1,s2⟩:=st
  simp only[be,cq,gz] at hb
  rcases hb with rfl | rfl | rfl | rfl | rfl
  ·exact⟨_,hz,λv y=>by have y':Data.fields _=Data.cell v:=y;cases y'⟩
  ·exact⟨_,Ic,λv y=>by have y':Data.seq _ _=Data.cell v:=y;cases y'⟩
  ·exact⟨_,KI,λv y=>by have y':Data.seq _ _=Data.cell v:=y;cases y'⟩
  ·exact(SK.Cs s1)
  ·exact(SK.Cs s2)
 keep:=λi h h' st k=>by
  obtain⟨hz,Ic,⟨a,c,KI⟩,s1,s2⟩:=st
  exact⟨k z (by simp) _ hz,k TI (by simp) _ Ic,⟨a,c,k TO (by simp) _ KI⟩,SK.C0 s1 λo q=>k i1 (by simp) o q,SK.C0 s2 λo q=>k i2 (by simp) o q⟩
 item:=by
  intro X hP hw hK hc i zl s σ H E I hf st hg
  subst hP hw hK
  obtain⟨xs,x,ys,y,U8,hx,U9,hy⟩:=hg
  obtain⟨hz,Ic,⟨a,b,KI⟩,s1,s2⟩:=st
  obtain⟨Iq,XG,p1⟩:=I.sk U8
  obtain⟨CH,XH,p2⟩:=I.sk U9
  obtain⟨u,hu,ru⟩:=XG.get hx
  obtain⟨v,hv,rv⟩:=XH.get hy
  have hh:=I.ok.hd hc
  have hT:s.TypeIs (.ref z) "zip" := ⟨_,hz,rfl⟩
  have V9:i < Iq.toArray.size:=by
   rcases gx i Iq.length with q | q
   ·simpa using q
   ·rw[cK q] at hu;cases hu
  have YY:i < CH.toArray.size:=by
   rcases gx i CH.length with q | q
   ·simpa using q
   ·rw[cK q] at hv;cases hv
  unfold pyNext
  refine ab (gy (ci (name:=Str.ofString "__next__") hT lS (cp lS hT F.entry_zip_next
   (Gw (Km D) (SK.draws (prog:=X.prog) (w:=X.w) (A:=X.A.in1) k1 hh i1 l1 D.l1i1 Iq.toArray) (SK.draws (prog:=X.prog) (w:=X.w) (A:=X.A.in1) k2 hh i2 l2 D.l2i2 CH.toArray) hz Ic KI ⟨s1,p1⟩ ⟨s2,p2⟩ V9 YY λh' tk x' y' ex ey z1 t1 j1 j2 tp hsz hk=>ae ⟨_,rfl,?_⟩) (F.args_zip_next_1 _))))
  have eu:x'=u:=bg (by rw[← ex,← hu];simp)
  have ev:y'=v:=bg (by rw[← ey,← hv];simp)
  subst eu ev
  refine wpAny_letOwnedTupleGo_zip (s:={ s with heap:=h',toks:=tk }) z1 λh2 z2 sb=>?_
  have lz:z < s.heap.objs.size:=ap hz
  have g2:h2.get? s.heap.objs.size=some { cls:=.type "tuple",data:=.seq #[x',y'] }:=(sb.2 _ (dE lz)).trans tp
  have kp:∀c o,c∉[z,TO,i1,i2]->s.heap.get? c=some o->h2.get? c=some o:=λc o hb q=>by
   simp only[be,cq,gz,not_or] at hb
   exact(sb.2 c hb.1).trans (hk c o hb.1 hb.2.1 hb.2.2.1 hb.2.2.2 q)
  have gTO:IsPair h2 TO x' y':=(sb.2 _ D.TOz).trans t1
  have g1:k1.at h2 i1 l1 (i+1):=SK.C0 j1.1 λo e=>(sb.2 i1 D.i1z).trans e
  have g2':k2.at h2 i2 l2 (i+1):=SK.C0 j2.1 λo e=>(sb.2 i2 D.i2z).trans e
  have Ut:∀c o,s.heap.get? c=some o->∃o',h2.get? c=some o':=λc o q=>by
   by_cases n1:c=z
   ·subst n1;exact⟨_,z2⟩
   ·by_cases n2:c=TO
    ·subst n2;exact⟨_,gTO⟩
    ·by_cases n3:c=i1
     ·subst n3;obtain⟨o',e',_⟩:=(SK.Cs g1);exact⟨o',e'⟩
     ·by_cases n4:c=i2
      ·subst n4;obtain⟨o',e',_⟩:=(SK.Cs g2');exact⟨o',e'⟩
      ·exact⟨o,kp c o (by simp[n1,n2,n3,n4]) q⟩
  have I2:Inv X zl σ (upd H s.heap.objs.size (.tup [x,y])) { s with heap:=h2,toks:=tk }:=
   I.Kt (ch:=[z,TO,i1,i2]) kp Ut (λb hb=>hf b (by simp only[be,cq,gz] at hb ⊢;rcases hb with e | e | e | e <;> simp[e])) (aw _)
    ⟨by show 2<=sizeLine;decide,[x',y'],.cons ru (.cons rv .nil),⟨_,g2,rfl,_,rfl,rfl⟩⟩
  refine⟨.ref s.heap.objs.size,_,I2,rfl,⟨s.heap.objs.size,x,y,I.fresh,rfl,rfl,λzs hy=>by rw[I.IZ hy U8];exact hx,λzs YZ=>by rw[I.IZ YZ U9];exact hy⟩,⟨z2,?_,⟨x',y',gTO⟩,g1,g2'⟩,λb hb=>?_⟩
  ·exact kp TI _ (by simp[D.TIz,D.TITO,D.TIi1,D.TIi2]) Ic
  ·have Y0:=(hf b hb).1
   rw[ao ?_]
   ·exact Y0
   ·have A0:b < s.heap.objs.size:=by
     simp only[be,cq,gz] at hb
     rcases hb with rfl | rfl | rfl | rfl | rfl
     ·exact lz
     ·exact ap Ic
     ·exact ap KI
     ·obtain⟨o,e1,_⟩:=(SK.Cs s1);exact ap e1
     ·obtain⟨o,e1,_⟩:=(SK.Cs s2);exact ap e1
    exact bd A0
 done:=by
  intro X hP hw hK hc i zl s σ H E I hf st hg
  subst hP hw hK
  obtain⟨xs,ys,U8,U9,hl⟩:=hg
  obtain⟨hz,Ic,⟨a,b,KI⟩,s1,s2⟩:=st
  obtain⟨Iq,XG,p1⟩:=I.sk U8
  obtain⟨CH,XH,p2⟩:=I.sk U9
  have l1':=XG.length
  have l2':=XH.length
  have hh:=I.ok.hd hc
  have hT:s.TypeIs (.ref z) "zip" := ⟨_,hz,rfl⟩
  have hk:i=Iq.toArray.size\/(i < Iq.toArray.size/\i=CH.toArray.size):=by
   rw[ax,ax]
   omega
  unfold pyNext
  refine ab (gy (ci (name:=Str.ofString "__next__") hT lS (cp lS hT F.entry_zip_next
   (Io (Km D) (SK.draws (prog:=X.prog) (w:=X.w) (A:=X.A.in1) k1 hh i1 l1 D.l1i1 Iq.toArray) (SK.draws (prog:=X.prog) (w:=X.w) (A:=X.A.in1) k2 hh i2 l2 D.l2i2 CH.toArray) hz Ic KI ⟨s1,p1⟩ ⟨s2,p2⟩ hk λh' tk e kp he=>?_) (F.args_zip_next_1 _))))
  obtain⟨o,ho,LJ⟩:=he
  refine ab (gl (T := "StopIteration") (b:=true) ⟨o,ho,LJ⟩ mv (ae ⟨rfl,?_⟩))
  refine I.Pw (ch:=[z,TO,i1,i2]) (λc o hb q=>?_) (λb hb=>hf b (by simp only[be,cq,gz] at hb ⊢;rcases hb with e | e | e | e <;> simp[e]))
  simp only[be,cq,gz,not_or] at hb
  exact kp c o hb.1 hb.2.1 hb.2.2.1 hb.2.2.2 q
 self:=λA i s Q E st h=>wpAny_pyIter_zip st.1 h
section
variable {X:Cx}
def yc (K:W.Frag)(k1 k2:SK)(ta:TA):TI:=fun σ H R=>ta σ H λvs H1=>∃a b,vs=[.ref a,.ref b]/\(∃xs,k1.sq K H1 a xs)/\(∃ys,k2.sq K H1 b ys)/\R (V8 K k1 k2 a b) H1
theorem BP {k1 k2:SK}{l r:Expr}{ta:TA}{es:qo}{x1:Nat}{tpos p pos:Pos}(hg:Gl X "zip")(hm:X.mg "zip" = none)(ha:PA X [l,r] ta)(hs:starEach [l,r] X.env=(false,eval l X.env)::starEach [r] X.env:=by rfl)(hp:(backTo pos (starEach [r] X.env)).any (·.1)=false:=by rfl):
  PI X (.Tuple es x1 tpos) (.Call (.Name "zip" p) [l,r] [] pos) (yc X.K k1 k2 ta):=by
 intro zl s σ H R I h
 refine Call_ (dN I hg hm PyProof.Rows.boot_zip (cf (AE (ha pos zl s σ H _ I h) ?_) hs hp))
 rintro us s1 ⟨vs,H1,I1,r1,q1⟩
 obtain⟨a,b,e,⟨xs,U8⟩,⟨ys,U9⟩,q⟩:=q1
 subst e
 obtain⟨u,v,rfl,ru,rv⟩:=vals2 r1
 cases ru
 cases rv
 obtain⟨Iq,XG,p1⟩:=I1.sk U8
 obtain⟨CH,XH,p2⟩:=I1.sk U9
 refine Gx p1 p2 λh' hz Ic KI V9 YY hsz hk=>?_
 have I2:Inv X zl σ H1 { s1 with heap:=h' }:=I1.kept (t':=s1.toks) hk
 have D:=zipApart_new (SK.is_lt p1) (SK.is_lt p2)
 have st:ZAt k1 k2 (s1.heap.objs.size+4) (s1.heap.objs.size+2) (s1.heap.objs.size+3) s1.heap.objs.size (s1.heap.objs.size+1) a b 0 h':=⟨hz,Ic,⟨_,_,KI⟩,V9,YY⟩
 refine(w6 (P:=X.prog) (w:=X.w) (K:=X.K) (es:=es) (x1:=x1) (tpos:=tpos) D).self X.A 0 { s1 with heap:=h' } _ _ st ?_
 refine⟨s1.heap.objs.size+4,_,_,_,H1,rfl,I2,w6 D,st,λc hb=>?_,q⟩
 have PD:s1.heap.objs.size<=c:=by
  simp only[be,cq,gz] at hb
  rcases hb with e | e | e | e | e <;> rw[e] <;> omega
 exact I1.F9 PD (I1.Au.fresh PD)
end
end Lake.L2
namespace Lake.MR
open PySem L2
@[simp] noncomputable def DX:PV->Option (List PV)
 | .lst xs=>some xs
 | .frz xs=>some xs
 | .tup xs=>some xs
 | .ktp xs=>some xs
 | _=>none
def kd:PV->SK
 | .tup _=>.T
 | .ktp _=>.T
 | _=>.L
section
variable {X:Cx}{b:BX}{G G' L:qf}{ro:Bool}{pos p:Pos}{m m1 m2:Md}{e e1 e2:Expr}
theorem Ip {Ow:Addr->Prop}{σ:St}{env:Env}{H H2:Hp}{fr:Bool}{v:V}{p:PV}{xs:List PV}(E:ER b Ow G σ env H)(r:Res b Ow H H2 m v p)(Y1:fr=true->m≠.bor)(hs:DX p=some xs):
  ∃a vs,v=.ref a/\SK.sq (kd p) b.C.K H2 a vs/\zt b.C (Bs b Ow) H2 vs xs/\∀AV H3,(fr=false->zv H2 H3)->Ex (Bs b Ow) H2 (Bs b AV) H3->SK.sq (kd p) b.C.K H3 a vs/\zt b.C (Bs b AV) H3 vs xs:=by
 have b1:zC b.C (Bs b Ow) H2 v p:=r.bor
 unfold DX at hs
 split at hs
 ·cases hs
  obtain⟨a,vs,rfl,ha,ra⟩:=b1.lst
  refine⟨a,vs,rfl,AS.of ha,ra,λAV H3 h0 hx=>?_⟩
  have hq:H3 a=some (.lst vs):=by
   cases fr with
   | false=>exact h0 rfl _ _ ha
   | true=>
    have rv:Rep b.C (Bs b Ow) H2 (.ref a) (.lst _):=r.val E (Y1 rfl)
    cases rv with
    | lst q1 q2 q3=>rw[ha] at q1;cases q1;exact((hx _ _ ha).1 q2).1
  exact⟨AS.of hq,ra.ex hx⟩
 ·cases hs
  have r1:Rep b.C (Bs b Ow) H2 v (.frz _):=(by rcases b1 with z | ⟨_,_,z⟩;exact z;exact z.elim)
  cases r1 with
  | Lo q1 q3=>exact⟨_,_,rfl,.inl (.inr ⟨_,q1⟩),q3,λAV H3 h0 hx=>⟨.inl (.inr ⟨_,(hx _ _ q1).2 rfl⟩),q3.ex hx⟩⟩
  | lstK q1 q3=>exact⟨_,_,rfl,U4 q1,q3,λAV H3 h0 hx=>⟨U4 q1,q3.ex hx⟩⟩
 ·cases hs
  obtain⟨a,vs,rfl,ha,ra⟩:=b1.tup
  exact⟨a,vs,rfl,ha.sq,ra,λAV H3 h0 hx=>⟨(ha.ex hx).sq,ra.ex hx⟩⟩
 ·cases hs
  have r1:Rep b.C (Bs b Ow) H2 v (.ktp _):=(by rcases b1 with z | ⟨_,_,z⟩;exact z;exact z.elim)
  cases r1 with
  | tupK q1 q3=>exact⟨_,_,rfl,j9 q1,q3,λAV H3 h0 hx=>⟨j9 q1,q3.ex hx⟩⟩
 ·cases hs
theorem PI.all {α:Type}{tg iter:Expr}{wi:α->TI}(h:∀a,PI X tg iter (wi a)):PI X tg iter (fun σ H R=>∃a,wi a σ H R):=λzl s σ H R I ⟨a,q⟩=>h a zl s σ H R I q
end
end Lake.MR
namespace Lake.L2
open PySem PySem.Spec PyProof.Rows
theorem xN:Slot "reversed" "__init__" "object.__init__" :=
 .of (owner := "object") (n := "__init__") (by rw[eK,cS];kernel_rfl) (by decide +kernel) (by decide +kernel) (by decide +kernel)
  (by first | exact .inl (by decide +kernel) | exact .inr (by decide +kernel)) (by rw[hX];kernel_rfl)
theorem uE:TypeCalled "reversed" "reversed.__new__" "object.__init__" :=
 ⟨by decide +kernel,by decide +kernel,⟨_,_,F.mro_reversed⟩,madeBy_type F.mro_reversed F.lookup_reversed_new (by decide +kernel),by decide +kernel,by rw[hX];kernel_rfl,xN⟩
theorem qg:Manifest.owners.lookup (String.ofList ['d','e','s','r','e','v','e','r'].reverse)=some Manifest.sig_reversed:=by kernel_rfl
theorem slot_rvd_next:Slot "reversed" "__next__" "reversed.__next__" :=
 .of (owner := "reversed") (n := "__next__") (by rw[eK,cS];kernel_rfl) (by decide +kernel) (by decide +kernel) (by decide +kernel)
  (by first | exact .inl (by decide +kernel) | exact .inr (by decide +kernel)) (by rw[hX];kernel_rfl)
theorem nM:entryFor table "reversed.__next__" = some Builtin.«reversed.__next__»:=nV (by kernel_rfl)
theorem lN (a:Value):argsOk "reversed.__next__" ⟨[a],[]⟩:=by
 unfold argsOk;rw[p0 (id := "reversed.__next__") (n:=['_','_','t','x','e','n','_','_']) (o:=['d','e','s','r','e','v','e','r']) (by kernel_rfl) qg];kernel_rfl
theorem pI:Slot "reversed" "__iter__" "reversed.__iter__" :=
 .of (owner := "reversed") (n := "__iter__") (by rw[eK,cS];kernel_rfl) (by decide +kernel) (by decide +kernel) (by decide +kernel)
  (by first | exact .inl (by decide +kernel) | exact .inr (by decide +kernel)) (by rw[hX];kernel_rfl)
theorem uF (a:Value):argsOk "reversed.__iter__" ⟨[a],[]⟩:=by
 unfold argsOk;rw[p0 (id := "reversed.__iter__") (n:=['_','_','r','e','t','i','_','_']) (o:=['d','e','s','r','e','v','e','r']) (by kernel_rfl) qg];kernel_rfl
theorem vR:entryFor table "reversed.__iter__" = some Builtin.«dict_keyiterator.__iter__»:=
 entryFor_alias (id' := "dict_keyiterator.__iter__") (by kernel_rfl) (by first | rfl | decide +kernel | (unfold String.splitOn;simp +decide [String.splitOnAux])) (by decide +kernel) (by kernel_rfl)
theorem Gy:typeLookup (.type "tuple") "__reversed__" = pure none:=by rw[eK,cS];kernel_rfl
theorem DY:isSubtype (.type "tuple") (.type "dict")=pure false:=by rw[hX];kernel_rfl
def BI (h:Heap)(a t:Addr)(i:Int):Prop:=∃o,h.get? a=some o/\o.cls=.type "reversed" /\ o.data=.fields #[.ref t,rawInt i]
theorem BI.typeIs {s:Shared}{a l:Addr}{i:Int}(x:BI s.heap a l i):s.TypeIs (.ref a) "reversed" := let ⟨o,ho,hc,_⟩:=x;⟨o,ho,hc⟩
theorem BI.at {h h':Heap}{a l:Addr}{i:Int}(x:BI h a l i)(e:∀o,h.get? a=some o->h'.get? a=some o):BI h' a l i:=let ⟨o,ho,r⟩:=x;⟨o,e _ ho,r⟩
theorem ye {n:Nat}(h:n<=sizeLine):(n:Int) < 2 ^ 63:=by
 have:sizeLine < 2 ^ 62:=by decide
 omega
variable {Q:Option Value->Shared->Prop}
section
variable {prog:Program}{w:World}{A:Around}{E:oT}{s:Shared}
theorem PN (t:Addr)(items:qA)(hz:(items.size:Int) < 2 ^ 63):Meets (Builtin.«reversed.__new__» ⟨[.type "reversed",.ref t],[]⟩) (λ_ R s=>IsTup s.heap t items /\
   R (.ok (.ret (.ref s.heap.objs.size))) { s with heap:=s.heap.push { cls:=.type "reversed",data:=.fields #[.ref t,rawInt ((items.size:Int) - 1)] },toks:=s.toks+1+1 }):=
 .of_wp λprog w A R s h=>by
  obtain⟨q1,h⟩:=h
  unfold Builtin.«reversed.__new__»
  refine ab (fk (newClass_reversed _) ?_)
  try dsimp only
  refine ab (fk (a:=()) (by first | rfl | kernel_rfl) ?_)
  refine ab (fk (a:=()) (by first | rfl | kernel_rfl) ?_)
  try dsimp only
  refine ab (e8 q1.typeIs Gy ?_)
  try dsimp only
  refine ab ?_
  show wpAny _ _ (isInstance (.ref t) (.type "dict") >>= _) _ _ _
  refine ab (gl q1.typeIs DY ?_)
  rw[ay (by decide)]
  refine ab (e8 q1.typeIs F.slot_tuple_getitem.lookup ?_)
  dsimp only
  rw[bb (by decide +kernel)]
  refine ae ?_
  rw[ay (by decide)]
  refine ab (len_tuple q1 hz ?_)
  refine ab (fk (a:=some (items.size:Int)) rfl ?_)
  dsimp only
  refine ab ?_
  unfold Builtin.SmallTypes.newRecord
  exact b0 (ae ⟨_,rfl,h⟩) (by size_fits)
theorem Ir {t:Addr}{items:qA}{Q:oT}(ht:IsTup s.heap t items)(hz:(items.size:Int) < 2 ^ 63)
  (h:Q (.ref s.heap.objs.size) { s with heap:=s.heap.push { cls:=.type "reversed",data:=.fields #[.ref t,rawInt ((items.size:Int) - 1)] },toks:=s.toks+1+1 }):wpAny (model prog w) A (call (.type "reversed") [.ref t]) Q E s:=
 callType_new uE (by decide) (F.typeCall_reversed_1 _) (F.newCall_reversed_1 _) (λobj=>lx obj _) F.entry_reversed_new (PN t items hz) ⟨ht,⟨_,al _ rfl,rfl⟩,h⟩
theorem Iu {it t:Addr}{i:Nat}{items:qA}{x:Value}(hit:BI s.heap it t (i:Int))(ht:IsTup s.heap t items)(hz:(items.size:Int) < 2 ^ 63)(hx:items[i]?=some x)
  (hQ:∀h' tk,BI h' it t ((i:Int) - 1)->Heap.SameBut it s.heap h'->Q (some x) { s with heap:=h',toks:=tk }):wpAny (model prog w) A (pyNext (.ref it)) Q E s:=by
 obtain⟨o,ho,hc,hd⟩:=id hit
 have A0:i < items.size:=by
  rcases gx i items.size with z | z
  ·exact z
  ·rw[i7 z] at hx;cases hx
 unfold pyNext
 refine ab (gy (ci (name:=Str.ofString "__next__") hit.typeIs slot_rvd_next
  (cp slot_rvd_next hit.typeIs nM ?_ (lN _))))
 unfold Builtin.«reversed.__next__»
 refine ab (fk (a:=(Value.ref it,[])) rfl ?_)
 try dsimp only
 refine ab (cw ho hd (x:=.ref t) rfl ?_)
 refine ab (cw ho hd (x:=rawInt (i:Int)) rfl ?_)
 show wpAny _ _ (if (i:Int) < 0 then _ else _) _ _ s
 rw[ay (by omega)]
 refine ab (e8 ht.typeIs F.slot_tuple_getitem.lookup ?_)
 rw[ay (by simp)]
 refine ab (wpAny_mkInt ?_)
 refine ab (gy (getItem_tuple (s:={ s with toks:=s.toks+1 }) ht (by omega) (by omega) (j:=i) ?_ hx ?_))
 ·exact(vB (n:=items.size) (i:=(i:Int)) (j:=i) (by unfold IU;rw[bb (by omega),bb (by omega),fT])).1
 show wpAny _ _ (field (.ref it) 1 >>= _) _ _ _
 refine ab (cw ho hd (x:=rawInt (i:Int)) rfl ?_)
 show wpAny _ _ (setField (.ref it) 1 (rawInt ((i:Int) - 1)) >>= _) _ _ _
 refine ab (iO ho hd (by simp) ?_)
 refine ae ⟨x,rfl,ae (hQ _ _ ?_ (eg ..))⟩
 exact⟨_,cE _ ho (k6 (h9 hd _)),(Obj.cls_mapFields ..).trans hc,by
  rw[h9 hd];simp⟩
theorem Lr {it t:Addr}(hh:A.handled=none)(hit:BI s.heap it t (-1))
  (hQ:∀h',Heap.ExtBut it s.heap h'->Q none { s with heap:=h' }):wpAny (model prog w) A (pyNext (.ref it)) Q E s:=by
 obtain⟨o,ho,hc,hd⟩:=id hit
 unfold pyNext
 refine ab (gy (ci (name:=Str.ofString "__next__") hit.typeIs slot_rvd_next
  (cp slot_rvd_next hit.typeIs nM ?_ (lN _))))
 unfold Builtin.«reversed.__next__»
 refine ab (fk (a:=(Value.ref it,[])) rfl ?_)
 try dsimp only
 refine ab (cw ho hd (x:=.ref t) rfl ?_)
 refine ab (cw ho hd (x:=rawInt (-1)) rfl ?_)
 show wpAny _ _ (if (-1:Int) < 0 then _ else _) _ _ s
 rw[bb (by decide)]
 refine ab (hJ ?_)
 refine ab ?_
 show wpAny _ _ (setField (.ref it) 1 (rawInt (-1)) >>= λ_=>setField (.ref it) 0 .none) _ _ _
 refine ab (iO ho hd (by simp) ?_)
 have LN:=cE (λo=>o.mapFields λvs=>vs.setIfInBounds 1 (rawInt (-1))) ho (k6 (h9 hd _))
 refine iO LN (h9 hd _) (by simp) ?_
 refine ab ?_
 show wpAny _ _ (newExc (.type "StopIteration") [] >>= _) _ _ _
 refine ab ?_
 simp only[newExc,newTuple]
 refine ab (b0 ?_ (by size_fits))
 refine ab (m:=firstArgMember _ _) (fk (a:=Value.none) (by first | rfl | (simp only[firstArgMember];rfl)) ?_)
 refine b0 ?_ (by size_fits)
 simp only[raiseNew]
 refine ab (nh ?_)
 first | rw[show A.in1.handled=none from hh] | rw[hh]
 refine ab (ae (pf ?_))
 refine ab (gl (T := "StopIteration") (b:=true) ⟨_,al _ rfl,rfl⟩ mv ?_)
 exact ae (hQ _ λb o hb e=>ac _ (ac _ ((dc _ _ (fe hb)).trans ((dc _ _ (fe hb)).trans e))))
theorem zp {it l:Addr}{i:Int}{Q:oT}(hit:BI s.heap it l i)(h:Q (.ref it) s):wpAny (model prog w) A (pyIter (.ref it)) Q E s:=by
 refine mS hit.typeIs pI (cp pI hit.typeIs vR ?_ (uF _))
 show wpAny _ _ (ret (.ref it)) _ _ s
 exact ae ⟨_,rfl, "reversed",_,hit.typeIs,slot_rvd_next.lookup,h⟩
end
noncomputable def XI (k:SK)(h:Heap)(l:Addr):Heap:=h.push { cls:=.type k.ty,data:=.fields #[.ref l,.int 0 0] }
noncomputable def en2 (k:SK)(h:Heap)(l:Addr):Heap:=(XI k h l).push { cls:=.type "enumerate",data:=.fields #[.none,.bool false,.ref h.objs.size,rawInt 0,.none,.none] }
theorem Lw (k:SK)(l:Addr)(xs:qA):Meets (Builtin.«enumerate.__new__» ⟨[.type "enumerate",.ref l],[]⟩) (λ_ R s=>k.is s.heap l xs/\R (.ok (.ret (.ref (XI k s.heap l).objs.size))) { s with heap:=en2 k s.heap l }):=
 .of_wp λprog w A R s h=>by
  obtain⟨hp,g,d,tk,os⟩:=s
  obtain⟨q1,h⟩:=h
  have LB:=sub_enumerate
  cases k with
  | L=>
   have e1:Heap.IsList (Shared.heap ⟨hp,g,d,tk,os⟩) l xs:=q1
   wp_walk using fN e1
   refine wpAny_stack_any λst=>ae ?_
   split
   ·rename_i c _ _ _ _ _
    cases (c == Value.type "enumerate") <;> (wp_walk using fN e1;exact⟨_,rfl,h⟩)
   ·wp_walk using fN e1
    exact⟨_,rfl,h⟩
  | T=>
   have e1:Heap.IsTuple (Shared.heap ⟨hp,g,d,tk,os⟩) l xs:=q1
   wp_walk using eS e1
   refine wpAny_stack_any λst=>ae ?_
   split
   ·rename_i c _ _ _ _ _
    cases (c == Value.type "enumerate") <;> (wp_walk using eS e1;exact⟨_,rfl,h⟩)
   ·wp_walk using eS e1
    exact⟨_,rfl,h⟩
theorem D_ {prog:Program}{w:World}{A:Around}{E:oT}{s:Shared}{k:SK}{l:Addr}{xs:qA}{Q:oT}(q1:k.is s.heap l xs)
  (h:∀h',IsEnum h' (s.heap.objs.size+1) s.heap.objs.size 0 .none->k.at h' s.heap.objs.size l 0->(∀b o,s.heap.get? b=some o->h'.get? b=some o)->Q (.ref (s.heap.objs.size+1)) { s with heap:=h' }):
  wpAny (model prog w) A (call (.type "enumerate") [.ref l]) Q E s:=by
 refine callType_new F.called_enumerate (by decide) (F.typeCall_enumerate_1 _) (F.newCall_enumerate_1 _) (λobj=>lx obj _) F.entry_enumerate_new (Lw k l xs) ⟨q1,?_⟩
 have hz:(XI k s.heap l).objs.size=s.heap.objs.size+1:=cy ..
 show _/\_
 rw[hz]
 have he:IsEnum (en2 k s.heap l) (s.heap.objs.size+1) s.heap.objs.size 0 .none:=by
  have z:=al (XI k s.heap l) (o:={ cls:=.type "enumerate",data:=.fields #[.none,.bool false,.ref s.heap.objs.size,rawInt 0,.none,.none] }) rfl
  rw[hz] at z
  exact z
 exact⟨⟨_,he,rfl⟩,h _ he (SK.at_of (ac _ (al _ rfl))) λb o x=>ac _ (ac _ x)⟩
def PP (K:W.Frag)(k:SK)(a:Addr):It:=
 ⟨λi H=>∃xs x,k.sq K H a xs/\xs[i]?=some x,λi H v H'=>∃t x,H t=none/\v=.ref t/\H'=upd H t (.tup [.int (i:Nat),x])/\∀xs,k.sq K H a xs->xs[i]?=some x,λi H=>∃xs,k.sq K H a xs/\xs.length=i⟩
def EAt (k:SK)(e it a:Addr)(i:Nat)(h:Heap):Prop:=(∃old,IsEnum h e it (i:Nat) old)/\k.at h it a i
theorem Ea {P:Program}{w:World}{K:W.Frag}{es:qo}{x1:Nat}{tpos:Pos}(k:SK)(a e it:Addr)(AM:e≠it)(hae:a≠e)(hai:a≠it):Turn P w K (.Tuple es x1 tpos) (PP K k a) [it,e] e (EAt k e it a) where
 mem:=by simp
 obj:=λi h st b hb=>by
  obtain⟨⟨old,he⟩,s1⟩:=st
  simp only[be,cq,gz] at hb
  rcases hb with rfl | rfl
  ·exact SK.Cs s1
  ·exact⟨_,he,λv y=>by have y':Data.fields _=Data.cell v:=y;cases y'⟩
 keep:=λi h h' st kk=>by
  obtain⟨⟨old,he⟩,s1⟩:=st
  exact⟨⟨old,kk e (by simp) _ he⟩,SK.C0 s1 λo q=>kk it (by simp) o q⟩
 item:=by
  intro X hP hw hK hc i zl s σ H E I hf st hg
  subst hP hw hK
  obtain⟨xs,x,hq,hx⟩:=hg
  obtain⟨⟨old,he⟩,s1⟩:=st
  obtain⟨zw,rv,p1⟩:=I.sk hq
  obtain⟨u,hu,ru⟩:=rv.get hx
  have hh:=I.ok.hd hc
  have V9:i < zw.toArray.size:=by
   rcases gx i zw.length with q | q
   ·simpa using q
   ·rw[cK q] at hu;cases hu
  refine wpAny_pyNext_enum_itemD (SK.draws (prog:=X.prog) (w:=X.w) (A:=X.A.in1) k hh it a hai zw.toArray) he ⟨s1,p1⟩ V9 AM (by simp[AM,hae.symm]) λx' h' tk ex QE j1 Uu hsz hk=>⟨_,rfl,?_⟩
  have eu:x'=u:=bg (by rw[← ex,← hu];simp)
  subst eu
  refine wpAny_letOwnedTupleGo_enum (s:={ s with heap:=h',toks:=tk+1 }) QE λh2 OG DE=>?_
  have hel:e < s.heap.objs.size:=ap he
  have g2:h2.get? s.heap.objs.size=some { cls:=.type "tuple",data:=.seq #[.int i tk,x'] }:=(DE.2 _ (dE hel)).trans Uu
  have k2:∀b o,b∉[it,e]->s.heap.get? b=some o->h2.get? b=some o:=λb o hb q=>by
   simp only[be,cq,gz,not_or] at hb
   exact(DE.2 b hb.2).trans (hk b o hb.2 hb.1 q)
  have g1:k.at h2 it a (i+1):=SK.C0 j1.1 λo q=>(DE.2 it (fe AM)).trans q
  have Ut:∀b o,s.heap.get? b=some o->∃o',h2.get? b=some o':=λb o q=>by
   by_cases n1:b=it
   ·subst n1;obtain⟨o',e',_⟩:=SK.Cs g1;exact⟨o',e'⟩
   ·by_cases n2:b=e
    ·subst n2;exact⟨_,OG⟩
    ·exact⟨o,k2 b o (by simp[n1,n2]) q⟩
  have I2:Inv X zl σ (upd H s.heap.objs.size (.tup [.int (i:Nat),x])) { s with heap:=h2,toks:=tk+1 }:=
   I.Kt (ch:=[it,e]) k2 Ut hf (aw _) ⟨by show 2<=sizeLine;decide,[.int i tk,x'],.cons ⟨_,rfl⟩ (.cons ru .nil),⟨_,g2,rfl,_,rfl,rfl⟩⟩
  refine⟨.ref s.heap.objs.size,_,I2,rfl,⟨s.heap.objs.size,x,I.fresh,rfl,rfl,λys hy=>by rw[I.IZ hy hq];exact hx⟩,⟨⟨x',OG⟩,g1⟩,λb hb=>?_⟩
  have Y0:=(hf b hb).1
  rw[ao ?_]
  ·exact Y0
  ·simp only[be,cq,gz] at hb
   rcases hb with rfl | rfl
   ·obtain⟨o,e1,_⟩:=SK.Cs s1;exact bd (ap e1)
   ·exact bd hel
 done:=by
  intro X hP hw hK hc i zl s σ H E I hf st hg
  subst hP hw hK
  obtain⟨xs,hq,hx⟩:=hg
  obtain⟨⟨old,he⟩,s1⟩:=st
  obtain⟨zw,rv,p1⟩:=I.sk hq
  obtain⟨f0,f1,f2,f3,f4,f5⟩:=hf it (by simp)
  have hl:=rv.length
  have hi:i=zw.toArray.size:=by rw[ax];omega
  rw[hi] at s1
  exact wpAny_pyNext_enum_endD (SK.draws (prog:=X.prog) (w:=X.w) (A:=X.A.in1) k (I.ok.hd hc) it a hai zw.toArray) he ⟨s1,p1⟩ λh' eb=>⟨rfl,I.turned (t':=s.toks) (λb o hb q=>eb b o hb q) f0 f1 f3 f4 f5⟩
 self:=λA i s Q E st h=>by
  obtain⟨⟨old,he⟩,s1⟩:=st
  have hT:s.TypeIs (.ref e) "enumerate" := ⟨_,he,rfl⟩
  refine mS hT F.slot_enumerate_iter (cp F.slot_enumerate_iter hT F.entry_enumerate_iter ?_ (F.args_enumerate_iter_1 _))
  show wpAny _ _ (ret (.ref e)) _ _ s
  exact ae ⟨_,rfl, "enumerate",_,hT,F.slot_enumerate_next.lookup,h⟩
section
variable {X:Cx}
def PQ (K:W.Frag)(k:SK)(ta:TA):TI:=fun σ H R=>ta σ H λvs H1=>∃a,vs=[.ref a]/\(∃xs,k.sq K H1 a xs)/\R (PP K k a) H1
theorem Iv {k:SK}{l:Expr}{ta:TA}{es:qo}{x1:Nat}{tpos p pos:Pos}(hg:Gl X "enumerate")(hm:X.mg "enumerate" = none)(ha:PA X [l] ta)(hs:starEach [l] X.env=[(false,eval l X.env)]:=by rfl):
  PI X (.Tuple es x1 tpos) (.Call (.Name "enumerate" p) [l] [] pos) (PQ X.K k ta):=by
 intro zl s σ H R I h
 refine Call_ (dN I hg hm PyProof.Rows.boot_enumerate (cf (AE (ha pos zl s σ H _ I h) ?_) hs rfl))
 rintro us s1 ⟨vs,H1,I1,r1,q1⟩
 obtain⟨a,e,⟨xs,hq⟩,q⟩:=q1
 subst e
 obtain⟨u,rfl,ru⟩:=vals1 r1
 cases ru
 obtain⟨zw,rv,p1⟩:=I1.sk hq
 refine D_ p1 λh' he hit hk=>?_
 have I2:Inv X zl σ H1 { s1 with heap:=h' }:=I1.kept (t':=s1.toks) hk
 have la:=SK.is_lt p1
 have st:EAt k (s1.heap.objs.size+1) s1.heap.objs.size a 0 h':=⟨⟨.none,he⟩,hit⟩
 have T:=Ea (P:=X.prog) (w:=X.w) (K:=X.K) (es:=es) (x1:=x1) (tpos:=tpos) k a (s1.heap.objs.size+1) s1.heap.objs.size (Nat.succ_ne_self _) (bd (Nat.lt_succ_of_lt la)) (bd la)
 refine T.self X.A 0 { s1 with heap:=h' } _ _ st ?_
 refine⟨s1.heap.objs.size+1,[s1.heap.objs.size,s1.heap.objs.size+1],_,_,H1,rfl,I2,T,st,λb hb=>?_,q⟩
 have PD:s1.heap.objs.size<=b:=by
  simp only[be,cq,gz] at hb
  rcases hb with z | z
  ·rw[z];exact aw _
  ·rw[z];exact gS _
 exact I1.F9 PD (I1.Au.fresh PD)
end
end Lake.L2
namespace Lake.MR
open PySem L2
noncomputable def XJ (f:qE)(env:Env):Option (List PV):=(f env).bind λp=>(DX p).bind λxs=>some (fG 0 xs)
@[simp] theorem T3 (f:qE)(env:Env):XJ f env=((f env).bind λp=>(DX p).bind λxs=>some (fG 0 xs)):=id rfl
section
variable {X:Cx}{b:BX}{G G' L:qf}{ro:Bool}{pos p:Pos}{m m1 m2:Md}{e e1 e2:Expr}
theorem zq {fr:Bool}{h:qE}{es:qo}{x1:Nat}{tpos:Pos}(hm:X.mg "enumerate" = none)(he:SE X b G m e h)(Y1:fr=true->m≠.bor:=by simp)(hK:X.K=b.C.K:=by rfl)(hg:Gl X "enumerate" := by rfl)(hs:starEach [e] X.env=[(false,eval e X.env)]:=by rfl)(C6:starEach [e] X.env=(false,eval e X.env)::starEach [] X.env:=by rfl):
  SI X b G fr (.Tuple es x1 tpos) (.Call (.Name "enumerate" p) [e] [] pos) (XJ h):=by
 refine PI.imp (PI.all λk:SK=>Iv (k:=k) hg hm (aB he aL C6) hs) ?_
 rintro σ H R ⟨Ow,env,ps,E,hf,k⟩
 rw[hK]
 obtain⟨p1,RY,z1⟩:=az hf
 clear hf
 obtain⟨xs,YQ,z4⟩:=az z1
 clear z1
 cases z4
 refine⟨kd p1,Ow,env,p1,E,RY,λv H1 s r=>?_⟩
 obtain⟨a,vs,rfl,qa,ra,ka⟩:=Ip (fr:=fr) E r Y1 YQ
 refine⟨a,rfl,⟨vs,qa⟩,k _ _ s λAV H3 h0 hx hn=>?_⟩
 obtain⟨Y2,RS⟩:=ka AV H3 h0 hx
 refine⟨λi p Uv=>?_,⟨vs,Y2,by rw[qe,RS.length]⟩⟩
 obtain⟨x,ML,rfl⟩:=wY Uv
 obtain⟨v,hv,rv⟩:=RS.get ML
 refine⟨⟨vs,v,Y2,hv⟩,λy H' yl=>?_⟩
 obtain⟨t,x',ht,e1,e2,yl⟩:=yl
 subst e1 e2
 have e3:=yl vs Y2
 rw[hv] at e3
 cases e3
 refine⟨aD ht _,.tup aA (.cons ?_ (.cons (rv.ex (.of_same (aD ht _))) .nil))⟩
 rw[Nat.zero_add]
 exact .int _
end
inductive Y3 (C:MC) (A:Addr->Prop) (H:Hp):List Addr->List (List PV)->Prop
 | nil:Y3 C A H [] []
 | cons {c:Addr}{cs:qv}{us:List V}{ys:List PV}{yss:List (List PV)}:H c=some (.lst us)->zt C A H us ys->Y3 C A H cs yss->Y3 C A H (c::cs) (ys::yss)
noncomputable def Sa (i:Nat)(f:Env->Option Out)(env:Env):Option Out:=(f (env.set i none)).bind λo=>match o with
 | .nx e=>some (.nx (e.set i (env.getD i none)))
 | _=>none
@[simp] noncomputable def uG:PV->PV->PV->Option PV
 | .dK kvs,y,z=>(keyOf y).map λk=>(aK kvs k).getD z
 | .dT kvs,.tup ys,z=>(AB ys).map λk=>(aK kvs k).getD z
 | _,_,_=>none
section
variable {X:Cx}{b:BX}{G:qf}{apos AA:Pos}{m1 m2:Md}{e1 e2 e3:Expr}{f1 f2 f3:qE}
theorem vU {j:Nat}(hr:AN j X.A)(h1:SE X b G m1 e1 f1)(h2:SE X b G m2 e2 f2)(h3:SE X b G .val e3 f3)(m:M2 X e1 "get" apos e2 e3 AA:=by exact⟨rfl,rfl,rfl,rfl⟩)(hK:X.K=b.C.K:=by rfl):SE X b G .val (.Call (.Attribute e1 "get" apos) [e2,e3] [] AA) (b3 uG f1 f2 f3):=by
 refine PE.imp (rR (dq hr) h1.bor h2.bor h3 m) fun σ H Q h=>?_
 obtain⟨Ow,env,p,E,hf,k⟩:=h
 obtain⟨p1,q1,z1⟩:=az hf
 clear hf
 obtain⟨p2,q2,z2⟩:=az z1
 clear z1
 obtain⟨p3,q3,hf⟩:=az z2
 clear z2
 refine⟨Ow,env,p1,E,q1,λv1 H1 s1 r1=>?_⟩
 unfold uG at hf
 split at hf
 ·rename_i kvs
  obtain⟨ky,hk,e⟩:=bP.mp hf
  obtain⟨a,kv,rfl,ha,ra⟩:=r1.dK
  refine⟨a,rfl,.inl ⟨kv,.inl ha⟩,Ow,env,p2,E.up s1,q2,λv2 H2 s2 r2=>⟨Ow,env,p3,(E.up s1).up s2,q3,λv3 H3 s3 r3=>?_⟩⟩
  have Ul:zC b.C (Bs b Ow) H2 v2 p2:=r2
  rw[Ul.key hk]
  have Y4:=s3 _ _ (s2 _ _ ha)
  refine⟨_,A8.k Y4,k _ H3 ((s1.trans s2).trans s3) ?_⟩
  unfold aK at e
  rcases As.val (k:=ky) ra with ⟨v,p',g1,g2,rv⟩ | ⟨g1,g2⟩
  ·rw[g2] at e
   rw[g1,← e]
   exact rv.ex (.of_same (s2.trans s3))
  ·rw[g2] at e
   rw[g1,← e]
   exact r3
 ·rename_i kvs ys
  obtain⟨ky,hk,e⟩:=bP.mp hf
  obtain⟨a,kv,rfl,ha,ra⟩:=r1.dT
  refine⟨a,rfl,.inr ⟨kv,.inl ha⟩,Ow,env,_,E.up s1,q2,λv2 H2 s2 r2=>⟨Ow,env,p3,(E.up s1).up s2,q3,λv3 H3 s3 r3=>?_⟩⟩
  have Ul:zC b.C (Bs b Ow) H2 v2 (.tup ys):=r2
  obtain⟨c,vs,rfl,hc,rc⟩:=Ul.tup
  have Y4:=s3 _ _ (s2 _ _ ha)
  refine⟨_,A8.t Y4 (by rw[hK];exact(hc.up s3).key ((rc.ex (.of_same s3)).AB hk)),k _ H3 ((s1.trans s2).trans s3) ?_⟩
  unfold aK at e
  rcases AF.val (k:=ky) ra with ⟨v,p',g1,g2,rv⟩ | ⟨g1,g2⟩
  ·rw[g2] at e
   rw[g1,← e]
   exact rv.ex (.of_same (s2.trans s3))
  ·rw[g2] at e
   rw[g1,← e]
   exact r3
 ·cases hf
end
noncomputable def oH:PV->PV->Option Bool
 | x,.lst ys=>if fC x=true/\ys.all fC=true then some (ys.any λy=>TZ y x) else none
 | x,.tup ys=>if fC x=true/\ys.all fC=true then some (ys.any λy=>TZ y x) else none
 | _,_=>none
noncomputable def jA (x y:PV):Option PV:=(oH x y).map λk=>.bl (!k)
@[simp] theorem RZ (x y:PV):jA x y=((oH x y).map λk=>.bl (!k)):=id rfl
theorem Gz {b:BX}:FG b .val (Yt b.C.K true) jA:=by
 intro Ow H v1 v2 p1 p2 p Q hn r1 r2 e k
 unfold jA at e
 obtain⟨c,q,rfl⟩:=bP.mp e
 have fin:=k (.bl (!c)) H (zv.refl _) (.bl _)
 unfold oH at q
 split at q
 ·split at q
  ·rename_i h
   cases q
   obtain⟨a,vs,rfl,ha,ra⟩:=r2.lst
   obtain⟨h1,h2⟩:=zt.flat r1 h.1 ra h.2
   rw[← h2] at fin
   exact⟨a,vs,rfl,.inl (AS.of ha),r1.flat h.1,h1,fin⟩
  ·cases q
 ·split at q
  ·rename_i h
   cases q
   obtain⟨a,vs,rfl,ha,ra⟩:=r2.tup
   obtain⟨h1,h2⟩:=zt.flat r1 h.1 ra h.2
   rw[← h2] at fin
   exact⟨a,vs,rfl,.inr ha.sq,r1.flat h.1,h1,fin⟩
  ·cases q
 ·cases q
theorem lO {X:Cx}{b:BX}{G:qf}{m1 m2:Md}{e1 e2:Expr}{f1 f2:qE}(h1:SE X b G m1 e1 f1)(h2:SE X b G m2 e2 f2)(hm:behindInMarks .NotIn e2=false:=by rfl)(hK:X.K=b.C.K:=by rfl):SC X b G .NotIn e1 e2 (b2 jA f1 f2):=
 lK (r:=Yt b.C.K true) (by rw[← hK];exact yU) Gz h1 h2 hm
end Lake.MR
namespace Lake.L2
open PySem PySem.Spec PyProof.Rows
section
variable {X:Cx}{tg:Expr}{zl:qc}{σ:St}{H:Hp}{s:Shared}{apos AA pos:Pos}{td ty tx tv:TE}{o e f:Expr}
def Eb (K:W.Frag)(tk tv:TE):TE:=fun σ H Q=>∀p,H p=none->tk σ (upd H p (.dT [])) λy H1=>tv σ H1 λz H2=>H2 p=some (.dT [])/\∃b ks,y=.ref b/\B5 K H2 b ks/\Q (.ref p) (upd H2 p (.dT [(ks,z)]))
theorem BR (hu:X.A.units+9 < cLine)(hk:PE X e ty)(hv:PE X f tv):PE X (.Dict [some e] [f] pos) (Eb X.K ty tv):=by
 intro zl s σ H Q I q
 have hn:=I.Au.fresh (aw s.heap.objs.size)
 have I1:=I.laid (a:=s.heap.objs.size) (o:=.dT []) (h':=s.heap.push { cls:=.type "dict",data:=.dict #[] }) (t':=s.toks) (λ_ _ q=>ac _ q) (aw _) (yN s.heap I.big)
 refine wpAny_Dict_any rfl rfl (λz=>nomatch z) (show (1:Nat)<=15 by decide) ?_
 refine pairTrees_cons_walk (AE (hk zl _ σ _ _ I1 (q _ hn)) λu s1 ⟨y,H1,I2,ry,q1⟩=>AE (hv zl s1 σ H1 _ I2 q1) λw2 s2 ⟨z,H2,I3,rz,e1,b,ks,e2,dk,q2⟩=>pairTrees_nil_walk ?_)
 subst e2
 cases (show u=Value.ref b from ry)
 obtain⟨_,hd,xs,rel,dd⟩:=yL I3.B1 I3.Au (.inl e1)
 cases rel
 unfold storeAll
 rw[kB]
 refine ab (ab (rN (show X.A.units+3 < cLine from by omega) (iQ I3.B1 I3.Au dk) dd (cb _) λh' OU hs=>ae ?_))
 show wpAny _ _ (forIn [] _ _) _ _ _
 rw[kT]
 refine ae ?_
 obtain⟨o,es,hq,h2,h3,h4,_,h5⟩:=OU
 have new:Ap X.prog X.w X.K (upd H2 s.heap.objs.size (.dT [(ks,z)])) h' s.heap.objs.size (.dT [(ks,z)]):=⟨by show (1:Nat)<=sizeLine;decide,hd,_,((KT.put (H:=H2) (kvs:=[]) .nil ks dk rz)).keeps λc ys ec=>by rw[ao (bR ec e1 (λz=>nomatch z))];exact ec,o,es,_,hq,h2,h3,h4,h5,rfl⟩
 exact⟨.ref s.heap.objs.size,_,mU (t':=s2.toks+(cR X.prog X.w).draws ks) I3 (by rw[e1];exact fz) hs ⟨o,hq⟩ new,rfl,q2⟩
end
variable {i:Nat}{Q:Option Value->Shared->Prop}
section
variable {prog:Program}{w:World}{κ:Type}[DecidableEq κ]{kd:HeapKind prog w κ}{A:Around}{E:oT}{s:Shared}{d a it vw:Addr}{xs:List (κ×Addr×Value)}{k:κ}{v ok ov:Value}
theorem zr (kd:HeapKind prog w κ)(d:Addr)(hd:(d == sysModules)=false):
  MeetsIn prog w (Builtin.«dict.items» ⟨[.ref d],[]⟩) (λ_ R s=>(∃xs,AL kd s.heap d xs) /\
   R (.ok (.ret (.ref s.heap.objs.size))) { s with heap:=s.heap.push { cls:=.type "dict_items",data:=.fields #[.ref d] } }):=
 .of_wp<|by
  rintro A R s ⟨⟨xs,m⟩,h⟩
  unfold Builtin.«dict.items»
  refine ab ?_
  unfold Builtin.Dict.noArgs
  refine ab (kU m.of.typeIs ?_)
  show wpAny _ _ (pure d) _ _ s
  refine ae ?_
  show wpAny _ _ (Builtin.Dict.showsAll d >>= _) _ _ s
  unfold Builtin.Dict.showsAll
  rw[ay (by rw[hd];decide)]
  exact ab (ae (ab (b0 (ae ⟨_,rfl,h⟩))))
theorem PX {Q:oT}(hv:s.heap.IsItemsView vw d)(m:AL kd s.heap d xs)
  (q:∀h',h'=s.heap.push { cls:=.type "dict_itemiterator",data:=.fields #[.none,.bool false,.ref d,.int 0 0,.int xs.length 0,.int xs.length 0,.none,.none] }->Q (.ref s.heap.objs.size) { s with heap:=h' }):wpAny (model prog w) A (pyIter (.ref vw)) Q E s:=by
 obtain⟨u,u1,u2,u3⟩:=id hv
 obtain⟨o,es,o1,o2,o3,o4,o5,o6⟩:=id m
 have sz:=i8 o4
 refine mS hv.typeIs F.slot_dict_items_iter (cp F.slot_dict_items_iter hv.typeIs F.entry_dict_items_iter ?_ (F.args_dict_items_iter_1 _))
 unfold Builtin.«dict_items.__iter__»
 refine ab (ae (ab ?_))
 unfold Builtin.Dict_items.dictOf
 refine ab (cw u1 u3 (x:=.ref d) rfl (ae (ab ?_)))
 unfold Builtin.Dict_items.newIterator
 refine ab (jI o1 o3 (ab (kC o1 o3 ?_)))
 have own:Builtin.Dict_items.ownsTuple "dict_itemiterator" = true:=by decide
 simp only[own,fR]
 refine b0 (ae ⟨_,rfl, "dict_itemiterator",_,⟨_,al _ rfl,rfl⟩,cx.lookup,?_⟩)
  (by simp only[sizeOk,Builtin.Dict_items.ownedTupleFields,ax,bq,bv,oB,iS];omega)
 simpa [rawInt,sz,Builtin.Dict_items.ownedTupleFields] using q _ rfl
theorem P0 {b:Addr}(hi:IsItemIter s.heap it d i xs.length xs.length ok ov)(m:AL kd s.heap d xs)(hx:xs[i]?=some (k,b,v))
  (q:∀h',IsItemIterOut h' it d (i+1) xs.length xs.length (.ref b) v s.heap.objs.size->h'.get? s.heap.objs.size=some { cls:=.type "tuple",data:=.seq #[.ref b,v] }->h'.objs.size=s.heap.objs.size+1->
   (∀c o,c≠it->s.heap.get? c=some o->h'.get? c=some o)->Q (some (.ref s.heap.objs.size)) { s with heap:=h' }):wpAny (model prog w) A (pyNext (.ref it)) Q E s:=by
 obtain⟨hp,g,dr,tk,os⟩:=s
 obtain⟨o,es,o1,o2,o3,o4,o5,o6⟩:=id m
 have ty:Shared.TypeIs ⟨hp,g,dr,tk,os⟩ (.ref it) "dict_itemiterator" := ⟨_,hi,rfl⟩
 have sz:=i8 o4
 unfold pyNext
 refine ab (gy (ci (name:=Str.ofString "__next__") ty cx (cp cx ty gu ?_ (gg _))))
 refine ab (ae (ab (ab ?_)))
 first | refine ab (c9 ty (ae ?_)) | refine ab (dS ty (ae ?_))
 refine ab (mx hi rfl ?_)
 have own:Builtin.Dict_items.ownsTuple "dict_itemiterator" = true:=by decide
 simp only[own,fR]
 show wpAny _ _ (if (Value.ref d == Value.none)=true then _ else _) _ _ _
 rw[ay (by intro z;cases z)]
 refine ab (ae (ab (jI o1 o3 ?_)))
 rw[ay (by rw[sz];simp)]
 refine ab (ae (ab (kC o1 o3 ?_)))
 rw[ay (by simp)]
 refine ae ?_
 have lt:i < es.size:=by rw[sz];exact(af.mp hx).1
 have ee:es[i]=entryOfKey kd (k,b,v):=by
  have z:=entry_at o4 i
  rw[hx,eD lt] at z
  exact bg z
 have ek:es[i].key=.ref b:=by rw[ee];rfl
 have ev:es[i].val=v:=by rw[ee];rfl
 simp only[show ¬ ((i:Int) < 0) by omega,fI,fT,eD lt]
 refine ab ?_
 first | refine ab (c9 ty (ae ?_)) | refine ab (dS ty (ae ?_))
 refine ab (f7 ty ?_)
 show wpAny _ _ (setField (.ref it) 3 (rawInt ((i:Int)+1)) >>= _) _ _ ⟨hp,g,dr,tk,os⟩
 refine ab (dy hi (by simp) λh1 e1 s1=>?_)
 have s1:Heap.SameBut it hp h1:=s1
 have e1:IsItemIter h1 it d (i+1) xs.length xs.length ok ov:=by
  have e:((i+1:Nat):Int)=(i:Int)+1:=by omega
  unfold IsItemIter;rw[e];simpa [rawInt] using e1
 have t1:Shared.TypeIs ⟨h1,g,dr,tk,os⟩ (.ref it) "dict_itemiterator" := ⟨_,e1,rfl⟩
 refine ab (dP (ab (f7 t1 (ab (f7 t1 ?_)))))
 show wpAny _ _ (Builtin.Dict_items.pairFromOwner (.ref it) 6 es[i].key es[i].val) _ _ ⟨h1,g,dr,tk,os⟩
 rw[ek,ev]
 unfold Builtin.Dict_items.pairFromOwner
 refine ab (mr ?_)
 have z1:h1.objs.size=hp.objs.size:=s1.1
 have il:it < hp.objs.size:=ap hi
 have e2:IsItemIter (h1.push { cls:=.type "tuple",data:=.seq #[.ref b,v] }) it d (i+1) xs.length xs.length ok ov:=ac _ e1
 have t2:(h1.push { cls:=.type "tuple",data:=.seq #[.ref b,v] }).get? hp.objs.size=some { cls:=.type "tuple",data:=.seq #[.ref b,v] }:=by rw[← z1];exact al _ rfl
 have z2:(h1.push { cls:=.type "tuple",data:=.seq #[.ref b,v] }).objs.size=hp.objs.size+1:=by rw[cy,z1]
 have k2:∀c o,c≠it->hp.get? c=some o->(h1.push { cls:=.type "tuple",data:=.seq #[.ref b,v] }).get? c=some o:=λc o hc e=>ac _ (s1.extBut c o hc e)
 generalize h1.push { cls:=.type "tuple",data:=.seq #[.ref b,v] }=h2 at e2 t2 z2 k2 ⊢
 show wpAny _ _ (Builtin.Dict_items.ownedTupleIsFree (.ref it) >>= _) _ _ ⟨h2,g,dr,tk,os⟩
 rw[z1]
 refine ab ?_
 unfold Builtin.Dict_items.ownedTupleIsFree
 refine ab (cw e2 rfl (x:=.none) rfl (ae ?_))
 simp only[fR]
 refine ab (cw e2 rfl (x:=ok) rfl (ab (cw e2 rfl (x:=ov) rfl ?_)))
 refine ab (dy e2 (by simp) λh3 e3 s3=>?_)
 have s3:Heap.SameBut it h2 h3:=s3
 have e3:IsItemIter h3 it d (i+1) xs.length xs.length (.ref b) ov:=e3
 refine ab (dy e3 (by simp) λh4 e4 s4=>?_)
 have s4:Heap.SameBut it h3 h4:=s4
 have e4:IsItemIter h4 it d (i+1) xs.length xs.length (.ref b) v:=e4
 refine ab (dy e4 (by simp) λh5 e5 s5=>?_)
 have s5:Heap.SameBut it h4 h5:=s5
 have e5:IsItemIterOut h5 it d (i+1) xs.length xs.length (.ref b) v hp.objs.size:=e5
 refine ab (dy e5 (by simp) λh6 e6 s6=>?_)
 have s6:Heap.SameBut it h5 h6:=s6
 have e6:IsItemIterOut h6 it d (i+1) xs.length xs.length (.ref b) v hp.objs.size:=e6
 have kk:∀c o,c≠it->h2.get? c=some o->h6.get? c=some o:=λc o hc e=>s6.extBut c o hc (s5.extBut c o hc (s4.extBut c o hc (s3.extBut c o hc e)))
 refine ab (mN (ae (ae ⟨_,rfl,ae (q h6 e6 (kk _ _ (dE il) t2) ?_ λc o hc e=>kk c o hc (k2 c o hc e))⟩)))
 show h6.objs.size=hp.objs.size+1
 rw[s6.1,s5.1,s4.1,s3.1,z2]
theorem Ru (hh:A.handled=none)(hi:IsItemIter s.heap it d i xs.length xs.length ok ov)(m:AL kd s.heap d xs)(hx:xs.length<=i)
  (q:∀h',Heap.ExtBut it s.heap h'->Q none { s with heap:=h' }):wpAny (model prog w) A (pyNext (.ref it)) Q E s:=by
 obtain⟨o,es,o1,o2,o3,o4,o5,o6⟩:=id m
 have ty:s.TypeIs (.ref it) "dict_itemiterator" := ⟨_,hi,rfl⟩
 have sz:=i8 o4
 unfold pyNext
 refine ab (gy (ci (name:=Str.ofString "__next__") ty cx (cp cx ty gu ?_ (gg _))))
 refine ab (ae (ab (ab ?_)))
 first | refine ab (c9 ty (ae ?_)) | refine ab (dS ty (ae ?_))
 refine ab (mx hi rfl ?_)
 have own:Builtin.Dict_items.ownsTuple "dict_itemiterator" = true:=by decide
 simp only[own,fR]
 show wpAny _ _ (if (Value.ref d == Value.none)=true then _ else _) (λ_ _=>_) _ s
 rw[ay (by intro z;cases z)]
 refine ab (ae (ab (jI o1 o3 ?_)))
 rw[ay (by rw[sz];simp)]
 refine ab (ae (ab (kC o1 o3 ?_)))
 rw[ay (by simp)]
 refine ae ?_
 simp only[show ¬ ((i:Int) < 0) by omega,fI,fT,i7 (show es.size<=i by omega)]
 refine ab ?_
 first | refine ab (c9 ty (ae ?_)) | refine ab (dS ty (ae ?_))
 show wpAny _ _ (setField (.ref it) 2 .none >>= λ_=>_) _ _ s
 refine ab (iO hi rfl (by simp) ?_)
 show wpAny _ _ (newExc (.type "StopIteration") [] >>= λ_=>_) _ _ _
 refine ab ?_
 simp only[newExc,newTuple]
 refine ab (b0 (ab (m:=firstArgMember _ _) (fk (a:=Value.none) (by first | rfl | (simp only[firstArgMember];rfl)) (b0 ?_ (by size_fits)))) (by size_fits))
 simp only[raiseNew]
 refine ab (nh ?_)
 rw[show A.in1.handled=none by exact hh]
 refine ab (ae (pf ?_))
 refine ab (gl (b:=true) (T := "StopIteration") ⟨_,al _ rfl,rfl⟩ mv ?_)
 exact ae (q _ (((eg ..).extBut.push _).push _))
end
open PySem.W (KdxIt kdx_alive kdx_hint)
section
variable {prog:Program}{w:World}{κ:Type}[DecidableEq κ]{kd:HeapKind prog w κ}{A:Around}{E:oT}{s:Shared}{d a it vw S:Addr}{xs:List (κ×Addr×Value)}{k:κ}{v ok ov:Value}{fl:Bool}
theorem P_ {b:Addr}{oa:Obj}(hi:KdxIt s.heap it d i xs.length xs.length ok ov a fl)(ha:s.heap.get? a=some oa)(ne:a≠it)(m:AL kd s.heap d xs)(hx:xs[i]?=some (k,b,v))
  (q:∀h',KdxIt h' it d (i+1) xs.length xs.length ok ov a true->h'.get? s.heap.objs.size=some { cls:=.type "tuple",data:=.seq #[.ref b,v] }->h'.objs.size=s.heap.objs.size+1->
   (∀c o,c≠it->s.heap.get? c=some o->h'.get? c=some o)->Q (some (.ref s.heap.objs.size)) { s with heap:=h' }):wpAny (model prog w) A (pyNext (.ref it)) Q E s:=by
 obtain⟨hp,g,dr,tk,os⟩:=s
 obtain⟨o,es,o1,o2,o3,o4,o5,o6⟩:=id m
 have ty:Shared.TypeIs ⟨hp,g,dr,tk,os⟩ (.ref it) "dict_itemiterator" := ⟨_,hi,rfl⟩
 have sz:=i8 o4
 unfold pyNext
 refine ab (gy (ci (name:=Str.ofString "__next__") ty cx (cp cx ty gu ?_ (gg _))))
 refine ab (ae (ab (ab ?_)))
 first | refine ab (c9 ty (ae ?_)) | refine ab (dS ty (ae ?_))
 refine ab (mx hi rfl ?_)
 have own:Builtin.Dict_items.ownsTuple "dict_itemiterator" = true:=by decide
 simp only[own,fR]
 show wpAny _ _ (if (Value.ref d == Value.none)=true then _ else _) _ _ _
 rw[ay (by intro z;cases z)]
 refine ab (ae (ab (jI o1 o3 ?_)))
 rw[ay (by rw[sz];simp)]
 refine ab (ae (ab (kC o1 o3 ?_)))
 rw[ay (by simp)]
 refine ae ?_
 have lt:i < es.size:=by rw[sz];exact(af.mp hx).1
 have ee:es[i]=entryOfKey kd (k,b,v):=by
  have z:=entry_at o4 i
  rw[hx,eD lt] at z
  exact bg z
 have ek:es[i].key=.ref b:=by rw[ee];rfl
 have ev:es[i].val=v:=by rw[ee];rfl
 simp only[show ¬ ((i:Int) < 0) by omega,fI,fT,eD lt]
 refine ab ?_
 first | refine ab (c9 ty (ae ?_)) | refine ab (dS ty (ae ?_))
 refine ab (f7 ty ?_)
 show wpAny _ _ (setField (.ref it) 3 (rawInt ((i:Int)+1)) >>= _) _ _ ⟨hp,g,dr,tk,os⟩
 refine ab (dy hi (by simp) λh1 e1 s1=>?_)
 have s1:Heap.SameBut it hp h1:=s1
 have e1:KdxIt h1 it d (i+1) xs.length xs.length ok ov a fl:=by
  have e:((i+1:Nat):Int)=(i:Int)+1:=by omega
  unfold KdxIt;rw[e];simpa [rawInt] using e1
 have t1:Shared.TypeIs ⟨h1,g,dr,tk,os⟩ (.ref it) "dict_itemiterator" := ⟨_,e1,rfl⟩
 refine ab (dP (ab (f7 t1 (ab (f7 t1 ?_)))))
 show wpAny _ _ (Builtin.Dict_items.pairFromOwner (.ref it) 6 es[i].key es[i].val) _ _ ⟨h1,g,dr,tk,os⟩
 rw[ek,ev]
 unfold Builtin.Dict_items.pairFromOwner
 refine ab (mr ?_)
 have z1:h1.objs.size=hp.objs.size:=s1.1
 have il:it < hp.objs.size:=ap hi
 have e2:KdxIt (h1.push { cls:=.type "tuple",data:=.seq #[.ref b,v] }) it d (i+1) xs.length xs.length ok ov a fl:=ac _ e1
 have t2:(h1.push { cls:=.type "tuple",data:=.seq #[.ref b,v] }).get? hp.objs.size=some { cls:=.type "tuple",data:=.seq #[.ref b,v] }:=by rw[← z1];exact al _ rfl
 have z2:(h1.push { cls:=.type "tuple",data:=.seq #[.ref b,v] }).objs.size=hp.objs.size+1:=by rw[cy,z1]
 have k2:∀c o,c≠it->hp.get? c=some o->(h1.push { cls:=.type "tuple",data:=.seq #[.ref b,v] }).get? c=some o:=λc o hc e=>ac _ (s1.extBut c o hc e)
 generalize h1.push { cls:=.type "tuple",data:=.seq #[.ref b,v] }=h2 at e2 t2 z2 k2 ⊢
 show wpAny _ _ (Builtin.Dict_items.ownedTupleIsFree (.ref it) >>= _) _ _ ⟨h2,g,dr,tk,os⟩
 rw[z1]
 have a2:h2.get? a=some oa:=k2 a oa ne ha
 refine ab ?_
 unfold Builtin.Dict_items.ownedTupleIsFree
 refine ab (cw e2 rfl (x:=rawInt a) rfl ?_)
 show wpAny _ _ (loadIfAlive ((a:Int).toNat) >>= _) _ _ _
 rw[fT]
 refine ab (kdx_alive a2 ?_)
 simp only[Option.isNone_some,eI,fI]
 refine ab (cw e2 rfl (x:=.bool fl) rfl ?_)
 have fin:∀h3:Heap,KdxIt h3 it d (i+1) xs.length xs.length ok ov a true->Heap.SameBut it h2 h3->Q (some (.ref hp.objs.size)) ⟨h3,g,dr,tk,os⟩:=λh3 e3 s3=>
  q h3 e3 (s3.extBut _ _ (dE il) t2) (by show h3.objs.size=hp.objs.size+1;rw[s3.1,z2]) λc o hc e=>s3.extBut c o hc (k2 c o hc e)
 cases fl with
 | true=>
  rw[ay (show ¬ ((Value.bool true != Value.bool true)=true) from ba)]
  refine ae ?_
  simp only[eI,fI]
  exact ae (ae ⟨_,rfl,ae (fin h2 e2 (Heap.SameBut.refl _ _))⟩)
 | false=>
  rw[bb (show (Value.bool false != Value.bool true)=true from rfl)]
  refine ab (dy e2 (by simp) λh3 e3 s3=>?_)
  have s3:Heap.SameBut it h2 h3:=s3
  have e3:KdxIt h3 it d (i+1) xs.length xs.length ok ov a true:=e3
  refine ae ?_
  simp only[eI,fI]
  exact ae (ae ⟨_,rfl,ae (fin h3 e3 s3)⟩)
theorem Rv (hh:A.handled=none)(hi:KdxIt s.heap it d i xs.length xs.length ok ov a fl)(m:AL kd s.heap d xs)(hx:xs.length<=i)
  (q:∀h',Heap.ExtBut it s.heap h'->Q none { s with heap:=h' }):wpAny (model prog w) A (pyNext (.ref it)) Q E s:=by
 obtain⟨o,es,o1,o2,o3,o4,o5,o6⟩:=id m
 have ty:s.TypeIs (.ref it) "dict_itemiterator" := ⟨_,hi,rfl⟩
 have sz:=i8 o4
 unfold pyNext
 refine ab (gy (ci (name:=Str.ofString "__next__") ty cx (cp cx ty gu ?_ (gg _))))
 refine ab (ae (ab (ab ?_)))
 first | refine ab (c9 ty (ae ?_)) | refine ab (dS ty (ae ?_))
 refine ab (mx hi rfl ?_)
 have own:Builtin.Dict_items.ownsTuple "dict_itemiterator" = true:=by decide
 simp only[own,fR]
 show wpAny _ _ (if (Value.ref d == Value.none)=true then _ else _) (λ_ _=>_) _ s
 rw[ay (by intro z;cases z)]
 refine ab (ae (ab (jI o1 o3 ?_)))
 rw[ay (by rw[sz];simp)]
 refine ab (ae (ab (kC o1 o3 ?_)))
 rw[ay (by simp)]
 refine ae ?_
 simp only[show ¬ ((i:Int) < 0) by omega,fI,fT,i7 (show es.size<=i by omega)]
 refine ab ?_
 first | refine ab (c9 ty (ae ?_)) | refine ab (dS ty (ae ?_))
 show wpAny _ _ (setField (.ref it) 2 .none >>= λ_=>_) _ _ s
 refine ab (iO hi rfl (by simp) ?_)
 show wpAny _ _ (newExc (.type "StopIteration") [] >>= λ_=>_) _ _ _
 refine ab ?_
 simp only[newExc,newTuple]
 refine ab (b0 (ab (m:=firstArgMember _ _) (fk (a:=Value.none) (by first | rfl | (simp only[firstArgMember];rfl)) (b0 ?_ (by size_fits)))) (by size_fits))
 simp only[raiseNew]
 refine ab (nh ?_)
 rw[show A.in1.handled=none by exact hh]
 refine ab (ae (pf ?_))
 refine ab (gl (b:=true) (T := "StopIteration") ⟨_,al _ rfl,rfl⟩ mv ?_)
 exact ae (q _ (((eg ..).extBut.push _).push _))
def Uw (h:Heap)(it d S:Addr)(i n:Nat):Prop:=(i=0/\∃ok ov,IsItemIter h it d 0 n n ok ov)\/∃ok ov a fl oa,KdxIt h it d i n n ok ov a fl/\h.get? a=some oa/\a≠it/\a≠S
theorem Uw.keep {h h':Heap}{n:Nat}(x:Uw h it d S i n)(hk:∀b o,b≠S->h.get? b=some o->h'.get? b=some o)(hI:it≠S):Uw h' it d S i n:=by
 rcases x with ⟨e,ok,ov,q⟩ | ⟨ok,ov,a,fl,oa,q,ha,n1,n2⟩
 ·exact .inl ⟨e,ok,ov,hk _ _ hI q⟩
 ·exact .inr ⟨ok,ov,a,fl,oa,hk _ _ hI q,hk _ _ n2 ha,n1,n2⟩
theorem Rx {b:Addr}(st:Uw s.heap it d S i xs.length)(hS:S < s.heap.objs.size)(m:AL kd s.heap d xs)(hx:xs[i]?=some (k,b,v))
  (q:∀h',Uw h' it d S (i+1) xs.length->h'.get? s.heap.objs.size=some { cls:=.type "tuple",data:=.seq #[.ref b,v] }->h'.objs.size=s.heap.objs.size+1->
   (∀c o,c≠it->s.heap.get? c=some o->h'.get? c=some o)->Q (some (.ref s.heap.objs.size)) { s with heap:=h' }):wpAny (model prog w) A (pyNext (.ref it)) Q E s:=by
 rcases st with ⟨rfl,ok,ov,hi⟩ | ⟨ok,ov,a,fl,oa,hi,ha,n1,n2⟩
 ·exact P0 hi m hx λh' e1 e2 e3 e4=>q h' (.inr ⟨_,_,_,false,_,e1,e2,dE (ap hi),dE hS⟩) e2 e3 e4
 ·exact P_ hi ha n1 m hx λh' e1 e2 e3 e4=>q h' (.inr ⟨ok,ov,a,true,oa,e1,e4 a oa n1 ha,n1,n2⟩) e2 e3 e4
theorem Ry (hh:A.handled=none)(st:Uw s.heap it d S i xs.length)(m:AL kd s.heap d xs)(hx:xs.length<=i)
  (q:∀h',Heap.ExtBut it s.heap h'->Q none { s with heap:=h' }):wpAny (model prog w) A (pyNext (.ref it)) Q E s:=by
 rcases st with ⟨rfl,ok,ov,hi⟩ | ⟨ok,ov,a,fl,oa,hi,ha,n1,n2⟩
 ·exact Ru hh hi m hx q
 ·exact Rv hh hi m hx q
def Va (h:Heap)(lo:Addr)(xs:List (κ×Addr×Value))(as:qv):Prop:=∀(j:Nat) (c:Addr),as[j]?=some c->lo < c/\∃k b v,xs[j]?=some (k,b,v)/\h.get? c=some { cls:=.type "tuple",data:=.seq #[.ref b,v] }
theorem sJ {h h':Heap}(m:AL kd h d xs)(kp:∀(x:κ) (b:Addr),kd.is h x b->kd.is h' x b)(hd:∀o,h.get? d=some o->h'.get? d=some o):AL kd h' d xs:=by
 obtain⟨o,es,o1,o2,o3,o4,o5,o6⟩:=m
 exact⟨o,es,hd o o1,o2,o3,o4,λx hx=>kp _ _ (o5 x hx),o6⟩
theorem Rz {R:Result->Shared->Prop}{I:Addr}(hh:A.handled=none)(Se:S < I)(XM:d≠S)(hId:d≠I)(hn:xs.length<=sizeLine)(res:Value){h₁:Heap}
  (kp:∀h h':Heap,(∀b o,h.get? b=some o->o.cls=.type "tuple" -> h'.get? b=some o)->∀(x:κ) (b:Addr),kd.is h x b->kd.is h' x b)
  (hR:∀h' tk acc c as,(∀b o,b≠S->b≠I->h₁.get? b=some o->h'.get? b=some o)->h'.get? S=some { cls:=.type "list",dict:=none,data:=.seq acc c,slots:=#[] }->as.length=xs.length->Va h' I xs as->
   acc.toList=as.map Value.ref->R (.ok (.ret res)) { s with heap:=h',toks:=tk }):
  ∀(j i:Nat) (h:Heap) (tk c:Nat) (acc:qA) (as:qv),xs.length - i=j->i<=xs.length->Uw h I d S i xs.length->AL kd h d xs->(∀b o,b≠S->b≠I->h₁.get? b=some o->h.get? b=some o)->
   h.get? S=some { cls:=.type "list",dict:=none,data:=.seq acc c,slots:=#[] }->acc.toList=as.map Value.ref->as.length=i->Va h I xs as->I < h.objs.size->
   codeAny (model prog w) A (.builtin "list.extend.loop" ⟨[.ref S,.ref I,res],[]⟩) R { s with heap:=h,toks:=tk }:=by
 have AM:S≠I:=bd Se
 intro j
 induction j with
 | zero=>
  intro i h tk c acc as hk hi D3 hD keep hS BA Sf hG Wa
  refine gd mE ?_
  rw[fF ei _]
  show wpAny _ A.in1 (pyNext (.ref I) >>= _) _ _ _
  refine ab (Ry (s:={ s with heap:=h,toks:=tk }) (A:=A.in1) hh D3 hD (by omega) λh' he=>?_)
  refine ae (hR h' tk acc c as (λb o n1 n2 e=>he b o n2 (keep b o n1 n2 e)) (he S _ AM hS) (by omega) (λj c hj=>?_) BA)
  obtain⟨e0,k,b,v,e1,e2⟩:=hG j c hj
  exact⟨e0,k,b,v,e1,he c _ (dE e0) e2⟩
 | succ j ih=>
  intro i h tk c acc as hk hi D3 hD keep hS BA Sf hG Wa
  have A0:i < xs.length:=by omega
  obtain⟨⟨kk,b,x⟩,hx⟩:∃p,xs[i]?=some p:=⟨xs[i],ai A0⟩
  have hsz:acc.size=i:=by rw[← f8,BA,aI,Sf]
  refine gd mE ?_
  rw[fF ei _]
  show wpAny _ A.in1 (pyNext (.ref I) >>= _) _ _ _
  refine ab (Rx (s:={ s with heap:=h,toks:=tk }) (S:=S) D3 (ap hS) hD hx λh' A7 ht hz Vb=>?_)
  dsimp only at ht hz Vb ⊢
  have HG:=Vb S _ AM hS
  have up:∀b o,b≠S->h'.get? b=some o->(h'.update S (Obj.mapSeq (·.push (Value.ref h.objs.size)))).get? b=some o:=λb o hb e=>(dc _ _ (fe hb)).trans e
  have hSl:S < h.objs.size:=ap hS
  have tS:∀b o,h.get? b=some o->o.cls=.type "tuple" -> b≠S:=λb o e q z=>by rw[z,hS] at e;cases e;exact absurd (kc q) (by decide)
  have tI:∀b o,h.get? b=some o->o.cls=.type "tuple" -> b≠I:=λb o e q z=>by
   rcases D3 with ⟨_,ok,ov,y⟩ | ⟨ok,ov,a,fl,oa,y,_⟩ <;> (rw[z,y] at e;cases e;exact absurd (kc q) (by decide))
  show wpAny _ A.in1 (updateSeq S (·.push (Value.ref h.objs.size)) >>= _) _ _ _
  refine ab ?_
  refine i9 HG rfl (ae ⟨gX ei _,ih (i+1) _ tk _ (acc.push (Value.ref h.objs.size)) (as++[h.objs.size]) (by omega) A0 (A7.keep up (fe AM))
   (sJ hD (kp _ _ λb o e q=>up b o (tS b o e q) (Vb b o (tI b o e q) e)) λo e=>up d o XM (Vb d o hId e))
   (λb o n1 n2 e=>up b o n1 (Vb b o n2 (keep b o n1 n2 e))) (cE _ HG rfl) (by rw[Array.toList_push,BA,dL];rfl) (by rw[bq,Sf];rfl) ?_ ?_⟩) (by rw[hsz];omega) (by rw[Array.size_push,hsz];omega)
  ·intro j c hj
   rcases Nat.lt_trichotomy j as.length with h1 | h1 | h1
   ·rw[eC h1] at hj
    obtain⟨e0,k',b',v',e1,e2⟩:=hG j c hj
    exact⟨e0,k',b',v',e1,up c _ (dE (l9 Se e0)) (Vb c _ (dE e0) e2)⟩
   ·subst h1
    have hb:h.objs.size=c:=by simpa using hj
    subst hb
    exact⟨Wa,kk,b,x,by rw[Sf];exact hx,up _ _ (dE hSl) ht⟩
   ·rw[cK (by rw[bq,jp];omega)] at hj;cases hj
  ·have e:(h'.update S (Obj.mapSeq (·.push (Value.ref h.objs.size)))).get? h.objs.size=_:=up _ _ (dE hSl) ht
   exact l9 Wa (ap e)
end
end Lake.L2
namespace Lake.HT
open PySem PyProof.Rows
def Qa (A:Around)(s:Shared)(x y:Value)(r:Bool):Prop:=∀(prog:Program) (w:World) (E Q:oT),Q (.bool r) s->wpAny (model prog w) A (richCompare .Lt x y) Q E s
section
open PySem.SeqAt
open PySem.AutoSeq1 (wpAny_loadPart')
open PySem.MeetsSeq PySem.MeetsSeq2 PySem.MeetsSeq3
theorem GG (l b:Addr)(x1 x2 y1 y2:Value)(n n2:Nat)(dd Rl:Option Addr)(sl RA:Array (Option Value))(e1 e2 r1 r2:Bool):
  Meets (Builtin.«tuple.__lt__» ⟨[.ref l,.ref b],[]⟩)
   (λA R s=>s.heap.get? l=some { cls:=.type "tuple",dict:=dd,data:=.seq #[x1,x2] n,slots:=sl }/\s.heap.get? b=some { cls:=.type "tuple",dict:=Rl,data:=.seq #[y1,y2] n2,slots:=RA } /\
    EqAt A.in1 s x1 y1 e1/\(e1=true->EqAt A.in1 s x2 y2 e2)/\(e1=false->Qa A.in1 s x1 y1 r1)/\(e1=true->e2=false->Qa A.in1 s x2 y2 r2) /\
    R (.ok (.ret (.bool (if e1=true then (if e2=true then false else r2) else r1)))) s):=
 .of_wp λprog w A R s h=>by
  obtain⟨hp,g,d,tk,os⟩:=s;obtain⟨hl,hb,q1,q2,q3,q4,h⟩:=h
  have f2:=AutoSeq1.sub_tuple_tuple
  wp_walk using ii hl,ii hb,ny _ (λrest b s'=>b.1=none/\s'=⟨hp,g,d,tk,os⟩/\(rest=[(x1,y1),(x2,y2)]\/(rest=[(x2,y2)]/\e1=true)\/(rest=[]/\e1=true/\e2=true))) _
  case turn=>
   rintro ⟨y,x⟩ rest b s' ⟨PD,rfl,hz⟩
   rcases hz with hz | ⟨hz,RU⟩ | ⟨hz,_⟩
   ·injection hz with Y5 MM
    injection Y5 with hy hx
    subst hy hx
    refine ab (q1 prog w _ _ ?_)
    cases e1 with
    | true=>
     wp_walk
     exact⟨rfl,rfl,.inr (.inl ⟨MM,rfl⟩)⟩
    | false=>
     have Y6:=q3 rfl prog w
     wp_walk using Y6
     exact⟨_,rfl,by simpa using h⟩
   ·injection hz with Y5 MM
    injection Y5 with hy hx
    subst hy hx RU
    refine ab (q2 rfl prog w _ _ ?_)
    cases e2 with
    | true=>
     wp_walk
     exact⟨rfl,rfl,.inr (.inr ⟨MM,rfl,rfl⟩)⟩
    | false=>
     have Y6:=q4 rfl rfl prog w
     wp_walk using Y6
     exact⟨_,rfl,by simpa using h⟩
   ·cases hz
  case fin=>
   rintro ⟨b1,b2⟩ s' ⟨PD,rfl,hz⟩
   simp only at PD
   subst PD
   rcases hz with hz | ⟨hz,RU⟩ | ⟨_,RU,OG⟩
   ·cases hz
   ·cases hz
   ·subst RU OG
    wp_walk
    exact⟨_,rfl,by simpa [Builtin.Tuple.tupleCompareSizes] using h⟩
  case h=>
   exact⟨rfl,rfl,.inl rfl⟩
end
end Lake.HT
namespace Lake.L2
open PySem PySem.Spec PyProof.Rows
open PySem.W (KasT kas_asc kas_desc kas_tail3 kas_descPart kas_count kas_place kas_bin kas_sort kas_rev)
def vV {α:Type}(lt:Nat->Nat->Bool):KasT α->α
 | .ret a=>a
 | .ask i j k=>vV lt (k (lt i j))
def EB {α:Type}(n:Nat)(P:α->Prop):KasT α->Prop
 | .ret a=>P a
 | .ask i j k=>i < n/\j < n/\∀b,EB n P (k b)
variable {p:Array Nat}
section
variable {α β:Type}{n:Nat}
theorem EB.bind {P:α->Prop}{R:β->Prop}{f:α->KasT β}(hf:∀a,P a->EB n R (f a)):∀t:KasT α,EB n P t->EB n R (t.bind f)
 | .ret a,h=>hf a h
 | .ask i j k,h=>⟨h.1,h.2.1,λb=>EB.bind hf (k b) (h.2.2 b)⟩
theorem EB.run {P:α->Prop}(lt:Nat->Nat->Bool):∀t:KasT α,EB n P t->P (vV lt t)
 | .ret _,h=>h
 | .ask _ _ k,h=>EB.run lt (k _) (h.2.2 _)
theorem EB.wp {P:α->Prop}{lt:Nat->Nat->Bool}{s:Shared}{cmp:Nat->Nat->(Bool->Shared->Prop)->Shared->Prop}(hc:∀i j (C:Bool->Shared->Prop),i < n->j < n->C (lt i j) s->cmp i j C s){Q:α->Shared->Prop}:∀t:KasT α,EB n P t->Q (vV lt t) s->t.kasWp cmp Q s
 | .ret _,_,q=>q
 | .ask i j k,h,q=>hc i j _ h.1 h.2.1 (EB.wp hc (k _) (h.2.2 _) q)
def Rw (n:Nat)(p:Array Nat):Prop:=p.Perm (List.range n).toArray
theorem Rw.at (h:Rw n p)(hn:0 < n)(i:Nat):p.getD i 0 < n:=by
 by_cases hi:i < p.size
 ·have e:p.getD i 0=p[i]:=by simp[Array.getD,hi]
  rw[e]
  have m:p[i]∈(List.range n).toArray:=(Array.Perm.mem_iff h).mp (Array.getElem_mem hi)
  simpa using m
 ·have e:p.getD i 0=0:=by simp[Array.getD,hi]
  rw[e];exact hn
theorem Rw.rev (h:Rw n p)(i j:Nat):Rw n (kas_rev p i j):=(mirror_perm _ _ _ _).trans h
theorem Rw.bub (h:Rw n p)(i j:Nat):Rw n (bubble p i j):=(bubble_perm _ _ _).trans h
theorem zu {p:Array Nat}(h:Rw n p)(hn:0 < n):∀f m,EB n (λ_=>True) (kas_asc p f m)
 | 0,_=>trivial
 | f+1,m=>⟨h.at hn _,h.at hn _,λc=>by
  cases c with
  | true=>exact trivial
  | false=>exact zu h hn f (m+1)⟩
theorem qR (hn:0 < n):∀f (p:Array Nat) m q,Rw n p->EB n (λr=>Rw n r.1) (kas_desc f p m q)
 | 0,p,_,_,h=>h
 | f+1,p,m,q,h=>⟨h.at hn _,h.at hn _,λc=>by
  cases c with
  | true=>
   show EB n _ (if q > 0 then kas_desc f (kas_rev p (m - (q+1)) m) (m+1) 0 else kas_desc f p (m+1) 0)
   split
   ·exact qR hn f _ _ _ (h.rev _ _)
   ·exact qR hn f _ _ _ h
  | false=>
   refine⟨h.at hn _,h.at hn _,λd=>?_⟩
   cases d with
   | true=>exact h
   | false=>exact qR hn f _ _ _ h⟩
theorem zx (h:Rw n p)(hn:0 < n)(m r:Nat):EB n (λr=>Rw n r.2) (kas_tail3 m r p):=by
 unfold kas_tail3
 refine EB.bind (P:=λ_=>True) (λ_ _=>?_) _ (zu (h.rev 0 m) hn _ _)
 exact h.rev 0 m
theorem rH (h:Rw n p)(hn:0 < n)(m r:Nat):EB n (λr=>Rw n r.2) (kas_descPart m r p):=EB.bind (λa ha=>by
 split
 ·exact zx (ha.rev _ _) hn _ _
 ·exact zx ha hn _ _) _ (qR hn _ _ _ _ h)
theorem Iw (h:Rw n p)(hn:0 < n)(r:Nat):EB n (λr=>Rw n r.2) (kas_count r p):=EB.bind (λa _=>by
 split
 ·exact h
 ·split
  ·refine⟨h.at hn _,h.at hn _,λc=>?_⟩
   cases c with
   | true=>exact h
   | false=>exact rH (h.rev _ _) hn _ _
  ·exact rH h hn _ _) _ (zu h hn _ _)
theorem sO {p:Array Nat}(h:Rw n p)(hn:0 < n)(k:Nat):∀f l r,EB n (λ_=>True) (kas_place p k f l r)
 | 0,_,_=>trivial
 | f+1,l,r=>by
  unfold kas_place
  split
  ·exact trivial
  ·refine⟨h.at hn _,h.at hn _,λc=>?_⟩
   cases c with
   | true=>exact sO h hn k f _ _
   | false=>exact sO h hn k f _ _
theorem GC (hn:0 < n):∀f (p:Array Nat) k,Rw n p->EB n (Rw n) (kas_bin f p k)
 | 0,_,_,h=>h
 | f+1,p,k,h=>EB.bind (λ_ _=>GC hn f _ _ (h.bub _ _)) _ (sO h hn k _ _ _)
theorem BV (hn:0 < n):EB n (Rw n) (kas_sort n):=EB.bind (λr h=>by
 split
 ·exact GC hn _ _ _ h
 ·exact h) _ (Iw (Array.Perm.refl _) hn n)
end
noncomputable def l_ (lt:Nat->Nat->Bool)(n:Nat):List Nat:=if n < 2 then List.range n else (vV lt (kas_sort n)).toList
theorem kW (lt:Nat->Nat->Bool)(n:Nat):(l_ lt n).Perm (List.range n):=by
 unfold l_
 split
 ·exact List.Perm.refl _
 ·have:=(BV (n:=n) (by omega)).run lt
  have h:((vV lt (kas_sort n)).toList).Perm ((List.range n).toArray.toList):=Array.perm_iff_toList_perm.mp this
  simpa using h
noncomputable def XN (p q:Int×Str):Bool:=if decide (p.1=q.1)=true then (if decide (p.2=q.2)=true then false else decide (p.2.cps.toList < q.2.cps.toList)) else decide (p.1 < q.1)
noncomputable def ltI (p q:(Int×Str)×Int):Bool:=if decide (p.1=q.1)=true then (if decide (p.2=q.2)=true then false else decide (p.2 < q.2)) else XN p.1 q.1
def MO (h:Heap)(p:Int×Str)(b:Addr):Prop:=∃t u,IsTup h b #[.int p.1 t,.str p.2 u]
def XO (h:Heap)(p:(Int×Str)×Int)(c:Addr):Prop:=∃b t,IsTup h c #[.ref b,.int p.2 t]/\MO h p.1 b
section
variable {prog:Program}{w:World}{A:Around}{E:oT}{s:Shared}
theorem GD {p:Int×Str}{b:Addr}(h:MO s.heap p b):B4 (B9 0 s.heap) s.heap [.k (.inl p.1),.k (.inr p.2)] b:=by
 obtain⟨t,u,o,h1,h2,n,h3⟩:=h
 exact⟨o,_,n,h1,h2,h3,.cons ⟨_,rfl,lH (pM _ _)⟩ (.cons ⟨_,rfl,lH (pN _ _)⟩ .nil)⟩
theorem Qc {p q:Int×Str}{b d:Addr}(hu:A.units+1 < cLine)(hx:MO s.heap p b)(hy:MO s.heap q d):SeqAt.EqAt A s (.ref b) (.ref d) (decide (p=q)):=by
 have h:=CQ (A:=A) (R:=B9 0 s.heap) (λx y v=>B9.inj x y v) (by omega) (GD hx) (GD hy) λp q u v h1 h2=>B9.eq p q u v (by rw[in1_units];omega) h1 h2
 have e:decide (([.k (.inl p.1),.k (.inr p.2)]:List zo)=[.k (.inl q.1),.k (.inr q.2)])=decide (p=q):=by
  obtain⟨p1,p2⟩:=p
  obtain⟨q1,q2⟩:=q
  by_cases z:p1=q1 <;> by_cases z2:p2=q2 <;> simp[z,z2]
 rw[← e];exact h
theorem Qd {p q:Int×Str}{b d:Addr}(hu:A.units+1 < cLine)(hx:MO s.heap p b)(hy:MO s.heap q d){Q:oT}(h:Q (.bool (XN p q)) s):wpAny (model prog w) A (compareOp .Lt (.ref b) (.ref d)) Q E s:=by
 obtain⟨t,u,⟨cls,dd,data,sl⟩,ho,hc,n,hd⟩:=hx
 obtain⟨t',u',⟨VF,Rl,data2,RA⟩,LN,Ki,n2,hd2⟩:=hy
 simp only at hc hd Ki hd2
 subst hc hd Ki hd2
 refine richCompare_meets_room (op:=.Lt) ⟨_,ho,rfl⟩ ⟨_,LN,rfl⟩ PySem.F.slot_tuple_lt PySem.F.entry_tuple_lt (PySem.F.args_tuple_lt_2 _ _) (HT.GG b d _ _ _ _ n n2 dd Rl sl RA (decide (p.1=q.1)) (decide (p.2=q.2)) (decide (p.1 < q.1)) (decide (p.2.cps.toList < q.2.cps.toList)))
  ⟨ho,LN,?_,λ_=>?_,λ_ prog w E Q q=>?_,λ_ _ prog w E Q q=>?_,?_⟩ (by omega)
 ·have:=ml (A:=A.in1) (s:=s) p.1 t q.1 t'
  rw[oP] at this
  exact this
 ·have:=SeqAt.EqAt.str_str (A:=A.in1) (s:=s) p.2 u q.2 u'
  rw[show (p.2 == q.2)=decide (p.2=q.2) by by_cases z:p.2=q.2 <;> simp[z]] at this
  exact this
 ·exact lt_int q
 ·exact lt_str q
 ·exact(show Value.bool (XN p q)≠Value.notImplemented/\Q (.bool (XN p q)) s from ⟨(λx=>nomatch x),h⟩)
theorem Qe {p q:(Int×Str)×Int}{c d:Addr}(hu:A.units+1 < cLine)(hx:XO s.heap p c)(hy:XO s.heap q d){Q:Bool->Shared->Prop}(h:Q (ltI p q) s):wpAny (model prog w) A (keyLt' (tuples' false) (.ref c) (.ref d)) Q E s:=by
 obtain⟨b,t,⟨o,h1,h2,n,h3⟩,kb⟩:=hx
 obtain⟨b',t',⟨o',Um,Wb,n',XB⟩,kb'⟩:=hy
 refine W.kat_lt h1 h3 Um XB ?_
 refine W.kat_cons ((Qc hu kb kb') _ _ _ _ ?_)
 unfold ltI at h
 refine W.kat_go (λe=>W.kat_yes ?_) λe=>W.kat_no ?_
 ·rw[e] at h
  simp only[fR] at h
  refine W.kat_cons ?_
  have key:=ml (A:=A) (s:=s) p.2 t q.2 t'
  rw[oP] at key
  refine key _ _ _ _ ?_
  refine W.kat_go (λe2=>W.kat_yes (W.kat_nil ?_)) λe2=>W.kat_no ?_
  ·rw[e2] at h
   simpa using h
  ·rw[e2] at h
   simp only[eI,fI] at h
   exact W.kat_one _ _ (lt_int h)
 ·rw[e] at h
  simp only[eI,fI] at h
  exact W.kat_one _ _ (Qd hu kb kb' h)
variable {κ:Type}[DecidableEq κ]{kd:HeapKind prog w κ}{d r S:Addr}{xs:List (κ×Addr×Value)}
theorem Lx {R:Result->Shared->Prop}(hh:A.handled=none)(hv:s.heap.IsItemsView r d)(m:AL kd s.heap d xs)
  (kp:∀h h':Heap,(∀b o,h.get? b=some o->o.cls=.type "tuple" -> h'.get? b=some o)->∀(x:κ) (b:Addr),kd.is h x b->kd.is h' x b)
  (hSr:S≠r) (XM:d≠S) (res:Value) (c₀:Nat) (hS:s.heap.get? S=some { cls:=.type "list",data:=.seq #[] c₀ })
  (hR:∀h' tk acc c as,(∀b o,b≠S->s.heap.get? b=some o->h'.get? b=some o)->h'.get? S=some { cls:=.type "list",dict:=none,data:=.seq acc c,slots:=#[] }->as.length=xs.length->Va h' s.heap.objs.size xs as->
   acc.toList=as.map Value.ref->R (.ok (.ret res)) { s with heap:=h',toks:=tk }) (hn:xs.length<=sizeLine):
  wpAny (model prog w) A.in1 (Builtin.List.listExtendWith (.ref S) (.ref r) res)
   (λfin s'=>match fin with | .done f=>R (.ok f) s' | .again c'=>c'.quiet=true/\codeAny (model prog w) A c' R s') (λe s'=>R (.error e) s') s:=by
 have Se:S < s.heap.objs.size:=ap hS
 have hdI:d < s.heap.objs.size:=by obtain⟨o,es,o1,_⟩:=m;exact ap o1
 have key:∀(h:Heap) (c₁ tk:Nat),(∀b o,b≠S->(s.heap.push { cls:=.type "dict_itemiterator",data:=.fields #[.none,.bool false,.ref d,.int 0 0,.int xs.length 0,.int xs.length 0,.none,.none] }).get? b=some o->h.get? b=some o)->
   h.get? S=some { cls:=.type "list",data:=.seq #[] c₁ }->codeAny (model prog w) A (.builtin "list.extend.loop" ⟨[.ref S,.ref s.heap.objs.size,res],[]⟩) R { s with heap:=h,toks:=tk }:=by
  intro h c₁ tk hk MQ
  have hI:=hk s.heap.objs.size _ (dE Se) (al _ rfl)
  have tS:∀b o,s.heap.get? b=some o->o.cls=.type "tuple" -> b≠S:=λb o e q z=>by rw[z,hS] at e;cases e;exact absurd (kc q) (by decide)
  refine Rz (kd:=kd) (xs:=xs) (s:=s) (h₁:=s.heap) hh Se XM (bd hdI) hn res kp (λh' XQ acc c as F0 HG hl hG BA=>hR h' XQ acc c as (λb o hb e=>F0 b o hb (bd (ap e)) e) HG hl hG BA)
   xs.length 0 h tk c₁ #[] [] (Nat.sub_zero _) (cb _) (.inl ⟨rfl,.none,.none,hI⟩) (sJ m (kp _ _ λb o e q=>hk b o (tS b o e q) (ac _ e)) λo e=>hk d o XM (ac _ e)) (λb o hb _ e=>hk b o hb (ac _ e)) MQ rfl rfl
   (λj a hj=>by simp at hj) (ap hI)
 unfold Builtin.List.listExtendWith
 refine ab (iq (T := "dict_items") hv.typeIs ?_)
 have g1:Builtin.List.listSameRef (.ref S) (.ref r)=false:=by simp[Builtin.List.listSameRef,hSr]
 have g2:(Value.type "dict_items" == Value.type "list")=false:=by decide
 have g3:(Value.type "dict_items" == Value.type "tuple")=false:=by decide
 simp only[g1,g2,g3,Bool.or_false,eI,fI]
 refine ab (PX hv m λh' eh=>?_)
 subst eh
 have MQ:=ac { cls:=.type "dict_itemiterator",data:=.fields #[.none,.bool false,.ref d,.int 0 0,.int xs.length 0,.int xs.length 0,.none,.none] } hS
 refine ab (dP (W.kdx_hint (let ⟨o,ho,hc,_⟩:=hv;⟨o,ac _ ho,hc⟩) ?_))
 refine wpAny_ite_split (λ_=>?_) (λ_=>ae ⟨gX ei _,key _ c₀ _ (λb o _ e=>e) MQ⟩)
 refine ab (hJ ?_)
 refine ab ?_
 show wpAny _ _ (updateSeq S (·.push .none) >>= λ_=>updateSeq S (·.pop)) _ _ _
 refine ab (i9 MQ rfl ?_)
 have We:=cE (Obj.mapSeq (·.push Value.none)) MQ rfl
 refine i9 (hz:=by seq_fits) We rfl ?_
 have Y7:=cE (Obj.mapSeq (·.pop)) We rfl
 refine ae ⟨gX ei _,key _ _ _ (λb o hb e=>?_) Y7⟩
 exact(dc _ _ (fe hb)).trans ((dc _ _ (fe hb)).trans e)
theorem Iz {R:List Value->Shared->Prop}(hh:A.handled=none)(hv:s.heap.IsItemsView r d)(m:AL kd s.heap d xs)
  (kp:∀h h':Heap,(∀b o,h.get? b=some o->o.cls=.type "tuple" -> h'.get? b=some o)->∀(x:κ) (b:Addr),kd.is h x b->kd.is h' x b) (hn:xs.length<=sizeLine)
  (q:∀h' tk as,(∀b o,s.heap.get? b=some o->h'.get? b=some o)->s.heap.objs.size < h'.objs.size->as.length=xs.length->Va h' s.heap.objs.size xs as->R (as.map Value.ref) { s with heap:=h',toks:=tk }):wpAny (model prog w) A (collect (.ref r)) R E s:=by
 have lr:r < s.heap.objs.size:=by obtain⟨o,ho,_⟩:=hv;exact ap ho
 have ld:d < s.heap.objs.size:=by obtain⟨o,es,o1,_⟩:=m;exact ap o1
 unfold collect
 refine ab (wpAny_runValue (gd entry_proto_collect' ?_))
 rw[fF PySem.F.plain_proto_collect _]
 show wpAny _ A.in1 (newList [] >>= λl=>again (.builtin "list.__iadd__" ⟨[l,.ref r],[]⟩)) _ _ s
 refine ab (b0 ?_)
 refine ae ⟨gX nX _,gd entry_list_iadd' ?_⟩
 rw[fF nX _]
 have MQ:(s.heap.push { cls:=.type "list",data:=.seq ([]:qh).toArray }).get? s.heap.objs.size=some { cls:=.type "list",data:=.seq #[] }:=al _ rfl
 show wpAny _ A.in1 (Builtin.List.listExtendWith (.ref s.heap.objs.size) (.ref r) (.ref s.heap.objs.size)) _ _ _
 have hv1:(s.heap.push { cls:=.type "list",data:=.seq ([]:qh).toArray }).IsItemsView r d:=by obtain⟨o,ho,e⟩:=hv;exact⟨o,ac _ ho,e⟩
 have m1:AL kd (s.heap.push { cls:=.type "list",data:=.seq ([]:qh).toArray }) d xs:=sJ m (kp _ _ λb o e _=>ac _ e) λo e=>ac _ e
 have key:=Lx (A:=A) (s:={ s with heap:=s.heap.push { cls:=.type "list",data:=.seq ([]:qh).toArray } }) (S:=s.heap.objs.size)
  (R:=λ(z:Result) (s':Shared)=>∃(h':Heap) (tk:Nat) (acc:qA) (c:Nat) (as:qv),z=.ok (.ret (.ref s.heap.objs.size))/\s'={ s with heap:=h',toks:=tk } /\
   (∀b o,s.heap.get? b=some o->h'.get? b=some o)/\h'.get? s.heap.objs.size=some { cls:=.type "list",dict:=none,data:=.seq acc c,slots:=#[] }/\as.length=xs.length/\Va h' s.heap.objs.size xs as/\acc.toList=as.map Value.ref)
  hh hv1 m1 kp (dE lr) (bd ld) (.ref s.heap.objs.size) 0 MQ
  (λh' tk acc c as hk HG hl hG BA=>⟨h',tk,acc,c,as,rfl,rfl,λb o e=>hk b o (bd (ap e)) (ac _ e),HG,hl,λj c hj=>by
   obtain⟨e0,e1⟩:=hG j c hj
   have e0:(s.heap.push { cls:=.type "list",data:=.seq ([]:qh).toArray }).objs.size < c:=e0
   rw[size_push'] at e0
   exact⟨l9 (gp _) e0,e1⟩,BA⟩) hn
 refine fw key (λfin s' x=>?_) λe s' x=>?_
 ·cases fin with
  | done f=>
   obtain⟨h',tk,acc,c,as,e,rfl,hk,HG,hl,hG,BA⟩:=x
   cases e
   show wpAny _ A (load s.heap.objs.size >>= _) _ _ _
   refine ab (oj HG (ae ?_))
   show R acc.toList _
   rw[BA]
   exact q h' tk as hk (ap HG) hl hG
  | again c₁=>
   refine⟨x.1,l8 x.2 λz s₂ y=>?_⟩
   obtain⟨h',tk,acc,c,as,rfl,rfl,hk,HG,hl,hG,BA⟩:=y
   show wpAny _ A (load s.heap.objs.size >>= _) _ _ _
   refine ab (oj HG (ae ?_))
   show R acc.toList _
   rw[BA]
   exact q h' tk as hk (ap HG) hl hG
 ·obtain⟨_,_,_,_,_,e',_⟩:=x
  cases e'
end
open PySem.W (kas_sort kas_ask kat_run kat_snds kat_kind KatTups)
section
variable {prog:Program}{w:World}{A:Around}{E:oT}{s:Shared}
noncomputable def jJ (lt:Nat->Nat->Bool)(vs:qh):List Value:=(l_ lt vs.length).map λi=>vs.getD i Value.none
theorem IK (lt:Nat->Nat->Bool)(vs:qh):(jJ lt vs).length=vs.length:=by
 unfold jJ
 rw[aI,(kW lt vs.length).length_eq,ff]
theorem Ec {lt:Nat->Nat->Bool}{vs:qh}(h:vs.length < 2):jJ lt vs=vs:=by
 unfold jJ l_
 rw[bb h]
 match vs,h with
 | [],_=>rfl
 | [v],_=>rfl
 | _::_::_,h=>exact absurd h (by simp only[bv];omega)
theorem Ly (vs:qh):(vs.toArray.zip vs.toArray).map (·.2)=vs.toArray:=by
 apply Array.toList_inj.mp
 simp[List.map_snd_zip]
noncomputable def ig (h:Heap)(a:Addr)(vs:qh):Heap:=((h.update a (Obj.mapSeq λ_=>(#[]:qA))).push (seqObj "tuple" vs.toArray 0)).push (seqObj "list" #[] 0)
theorem IV {h:Heap}{a b:Addr}{vs:qh}{o:Obj}(hb:b≠a)(e:h.get? b=some o):(ig h a vs).get? b=some o:=
 ac _ (ac _ ((dc _ _ (fe hb)).trans e))
theorem Qf {a:Addr}{vs:qh}{n:Nat}{P:PySem.Fin->Shared->Prop}(lt:Nat->Nat->Bool)(ho:s.heap.get? a=some (seqObj "list" vs.toArray n))(U7:vs.length < 64)
  (hk:2<=vs.length->∀Q:SortKind->Shared->Prop,Q (tuples' false) { s with heap:=ig s.heap a vs }->wpAny (model prog w) A (keyKind' vs.toArray) Q (λ_ _=>False) { s with heap:=ig s.heap a vs })
  (hc:∀i j (C:Bool->Shared->Prop),i < vs.length->j < vs.length->C (lt i j) { s with heap:=ig s.heap a vs }->kas_ask prog w A (tuples' false) vs i j C { s with heap:=ig s.heap a vs })
  (h:P (.done (.ret .none)) { s with heap:=sortedHeap s.heap a vs (jJ lt vs).toArray }):
  wpAny (model prog w) A (Builtin.«list.sort» ⟨[.ref a],[]⟩) P E s:=by
 rw[list_sort_plain]
 have ha:a < s.heap.objs.size:=ap ho
 have hz:vs.length<=sizeLine:=by rw[iS];omega
 refine ab (listItems_at ho rfl ?_)
 refine ab (listUpdate_at ho rfl ?_ (by rw[ax,iS];omega) (cb _))
 obtain⟨e1,Vc⟩:∃e1,(s.heap.update a (Obj.mapSeq λ_=>#[])).get? a=some (seqObj "list" #[] e1):=⟨_,get?_update_seq ho (λ_=>#[])⟩
 refine ab (seqEpoch_at Vc rfl ?_)
 refine ab (mr ?_ (by show vs.length<=_;exact hz))
 refine ab (wpAny_newList ?_ (cb _))
 refine dP ?_
 have XR:(ig s.heap a vs).get? a=some (seqObj "list" #[] e1):=by
  unfold ig
  rw[Heap.get?_push_ne _ _ _ (by rw[size_push',Heap.size_update];exact bd (Nat.lt_succ_of_lt ha)),Heap.get?_push_ne _ _ _ (by rw[Heap.size_update];exact bd ha)]
  exact Vc
 show wpAny (model prog w) A _ P E { s with heap:=ig s.heap a vs }
 dsimp only
 by_cases h2:vs.toArray.size < 2
 ·rw[bb h2,bb h2]
  have Wb:vs.length < 2:=by rwa [ax] at h2
  refine ab (ae ?_)
  rw[StateT.run_pure]
  refine ab (ae ?_)
  dsimp only
  refine ab (seqEpoch_at XR rfl ?_)
  have eo:(arrOf (SortSt.mk' general' (vs.toArray.zip vs.toArray) #[] 7 none)).map (·.2)=vs.toArray:=by
   exact Ly vs
  rw[eo]
  refine ab (listUpdate_at XR rfl ?_ (cb _) (by show vs.toArray.size<=_;rw[ax];exact jv hz))
  simp only[bne_self_eq_false,eI,fI]
  rw[Ec Wb] at h
  exact ae h
 ·rw[ay h2,ay h2]
  have Wb:2<=vs.length:=by rw[ax] at h2;omega
  refine ab (fw (hk Wb (fun κ s'=>κ=tuples' false/\s'={ s with heap:=ig s.heap a vs }) ⟨rfl,rfl⟩) (fun κ s0 hκ=>?_) λ_ _ x=>x.elim)
  obtain⟨rfl,rfl⟩:=hκ
  refine ab (fw (kat_run (A:=A) (κ:=tuples' false) (ks:=vs) (vs:=vs) (Q:=λA7 s'=>s'={ s with heap:=ig s.heap a vs }/\(arrOf A7).map (·.2)=(jJ lt vs).toArray/\failedOf A7=none)
   (G:=λp s'=>s'={ s with heap:=ig s.heap a vs }/\p=vV lt (kas_sort vs.length)) rfl Wb U7 (λp A7 s' a1 a2 a3 a4=>⟨a4.1,?_,a3⟩) (EB.wp (s:={ s with heap:=ig s.heap a vs }) hc _ (BV (by omega)) ⟨rfl,rfl⟩)) ?_ λ_ _ e=>e)
  ·rw[kat_snds rfl a2,a4.2]
   unfold jJ l_
   rw[ay (by omega)]
  ·rintro ⟨⟨⟩,A7⟩ s' ⟨rfl,Y8,hf⟩
   dsimp only
   rw[Y8]
   refine ab (seqEpoch_at XR rfl ?_)
   refine ab (listUpdate_at XR rfl ?_ (cb _) (by show (jJ lt vs).toArray.size<=_;rw[ax,IK];exact jv hz))
   rw[hf]
   simp only[bne_self_eq_false,eI,fI]
   exact ae h
variable {κ:Type}[DecidableEq κ]{kd:HeapKind prog w κ}{d r:Addr}{xs:List (κ×Addr×Value)}
noncomputable def ltAt (L:List ((Int×Str)×Int))(i j:Nat):Bool:=match L[i]?,L[j]? with
 | some p,some q=>ltI p q
 | _,_=>false
theorem I_ {h h':Heap}{p:Int×Str}{b:Addr}(x:MO h p b)(k:∀o,h.get? b=some o->h'.get? b=some o):MO h' p b:=by
 obtain⟨t,u,o,h1,h2⟩:=x
 exact⟨t,u,o,k o h1,h2⟩
theorem BW {h:Heap}:∀as:List Addr,(∀c∈as,∃p,XO h p c)->∃fs:List Value,fs.length=as.length/\KatTups h (as.map Value.ref) fs/\∀f∈fs,∃b o,f=.ref b/\h.get? b=some o/\o.cls=.type "tuple"
 | [],_=>⟨[],rfl,.nil,λf hf=>nomatch hf⟩
 | c::as,hp=>by
  obtain⟨fs,h1,h2,h3⟩:=BW as λc hc=>hp c (am _ hc)
  obtain⟨p,b,t,⟨o,e1,e2,n,e3⟩,t1,t2,ob,b1,b2,_⟩:=hp c ar
  refine⟨.ref b::fs,by simp[h1],.cons e1 e2 e3 rfl h2,λf hf=>?_⟩
  rcases be.mp hf with rfl | hf
  ·exact⟨b,ob,rfl,b1,b2⟩
  ·exact h3 f hf
theorem Lz {Q:oT}(L:List ((Int×Str)×Int))(hh:A.handled=none)(hu:A.units+9 < cLine)(hv:s.heap.IsItemsView r d)(m:AL kd s.heap d xs)
  (kp:∀h h':Heap,(∀b o,h.get? b=some o->o.cls=.type "tuple" -> h'.get? b=some o)->∀(x:κ) (b:Addr),kd.is h x b->kd.is h' x b) (hlen:L.length=xs.length) (U7:xs.length < 64)
  (hL:∀(j:Nat) (k:κ) (b:Addr) (v:Value),xs[j]?=some (k,b,v)->∃p:(Int×Str)×Int,L[j]?=some p/\MO s.heap p.1 b/\∃t,v=Value.int p.2 t)
  (q:∀h' tk D e as,s.heap.objs.size<=D->(∀b o,s.heap.get? b=some o->h'.get? b=some o)->as.length=xs.length->(∀c∈as,s.heap.objs.size<=c/\c≠D)->Va h' s.heap.objs.size xs as->
   h'.get? D=some (seqObj "list" ((l_ (ltAt L) L.length).map λi=>Value.ref (as.getD i 0)).toArray e)->Q (.ref D) { s with heap:=h',toks:=tk }):
  wpAny (model prog w) A (call (.builtin "sorted") [.ref r]) Q E s:=by
 refine Calls.call_function_entry kind_sorted plain_sorted entry_sorted (args_sorted1 _) ?_
 unfold Builtin.«sorted»
 refine ab (m:=checkCount "sorted" 1 1 _) (ae ?_)
 refine ab (Iz (A:=A.in1) (kd:=kd) hh hv m kp (by rw[iS];omega) λh1 tk as k1 sz1 Sf hG=>?_)
 have hvl:(as.map Value.ref).length=xs.length:=by rw[aI,Sf]
 refine ab (wpAny_newList ?_ (by rw[hvl,iS];omega))
 have hD:(h1.push (seqObj "list" (as.map Value.ref).toArray 0)).get? h1.objs.size=some (seqObj "list" (as.map Value.ref).toArray 0):=al _ rfl
 have szl:(as.map Value.ref).length < 64:=by omega
 have pr:∀(j:Nat) (c:Addr),as[j]?=some c->c < h1.objs.size/\s.heap.objs.size < c/\∃p,L[j]?=some p/\∀h2:Heap,(∀b o,b < h1.objs.size->h1.get? b=some o->h2.get? b=some o)->XO h2 p c:=λj c hj=>by
  obtain⟨e0,k,b,v,e1,e2⟩:=hG j c hj
  obtain⟨p,hp,pk,t,rfl⟩:=hL j k b v e1
  refine⟨ap e2,e0,p,hp,λh2 k2=>⟨b,t,⟨_,k2 c _ (ap e2) e2,rfl,0,rfl⟩,I_ pk λo e=>?_⟩⟩
  have e':=k1 b o e
  exact k2 b o (ap e') e'
 have kS:∀b o,b < h1.objs.size->h1.get? b=some o->(ig (h1.push (seqObj "list" (as.map Value.ref).toArray 0)) h1.objs.size (as.map Value.ref)).get? b=some o:=λb o hb e=>IV (bd hb) (ac _ e)
 refine ab (dP (cp slot_list_sort ⟨_,hD,rfl⟩ entry_list_sort ?body (args_list_sort _)))
 case body=>
  refine Qf (A:=A.in1.in1) (s:={ s with heap:=h1.push (seqObj "list" (as.map Value.ref).toArray 0),toks:=tk }) (ltAt L) hD szl (λh2 Q hq=>?_) (λi j C hi hj hq=>?_) ?_
  ·obtain⟨fs,f1,f2,f3⟩:=BW (h:=ig (h1.push (seqObj "list" (as.map Value.ref).toArray 0)) h1.objs.size (as.map Value.ref)) as λc hc=>by
    obtain⟨j,hj⟩:=ef.mp hc
    obtain⟨_,_,p,_,e⟩:=pr j c hj
    exact⟨p,e _ kS⟩
   refine kat_kind (T:=.type "tuple") f2 (by rw[f1];simp at h2;omega) (λv hv=>?_) (by decide) hq
   obtain⟨b,o,rfl,e1,e2⟩:=f3 v hv
   rw[← e2]
   exact(W.Looks.ld e1).andThen .now
  ·rw[aI] at hi hj
   obtain⟨_,_,p,hp,e1⟩:=pr i as[i] (ai hi)
   obtain⟨_,_,q',To,e2⟩:=pr j as[j] (ai hj)
   have g1:(as.map Value.ref).getD i Value.none=.ref as[i]:=by simp[hi]
   have g2:(as.map Value.ref).getD j Value.none=.ref as[j]:=by simp[hj]
   unfold kas_ask
   rw[g1,g2]
   unfold ltAt at hq
   rw[hp,To] at hq
   exact Qe (by rw[in1_units,in1_units];omega) (e1 _ kS) (e2 _ kS) hq
  ·refine⟨_,rfl,ae ⟨_,rfl,?_⟩⟩
   have old:∀b o,b < h1.objs.size->h1.get? b=some o->(sortedHeap (h1.push (seqObj "list" (as.map Value.ref).toArray 0)) h1.objs.size (as.map Value.ref) (jJ (ltAt L) (as.map Value.ref)).toArray).get? b=some o:=λb o hb e=>by
    rw[sortedHeap_old (bd hb) (bi hb (by rw[size_push'];exact gS _))]
    exact ac _ e
   obtain⟨e,he⟩:=sortedHeap_at (out:=(jJ (ltAt L) (as.map Value.ref)).toArray) hD
   refine q _ tk h1.objs.size e as (gv sz1) (λb o eb=>old b o (ap (k1 b o eb)) (k1 b o eb)) Sf (λc hc=>?_) (λj c hj=>?_) ?_
   ·obtain⟨j,hj⟩:=ef.mp hc
    obtain⟨a1,a2,_⟩:=pr j c hj
    exact⟨gv a2,bd a1⟩
   ·obtain⟨e0,k,b,v,e1,e2⟩:=hG j c hj
    exact⟨e0,k,b,v,e1,old c _ (ap e2) e2⟩
   ·rw[he]
    have eo:jJ (ltAt L) (as.map Value.ref)=(l_ (ltAt L) L.length).map λi=>Value.ref (as.getD i 0):=by
     unfold jJ
     rw[hvl,hlen]
     refine dQ λi hi=>?_
     have LO:i < as.length:=by
      have:=(kW _ _).mem_iff.mp hi
      rw[bX] at this
      omega
     simp[LO]
    rw[eo]
end
noncomputable def sS (L:List ((Int×Str)×Int)):List ((Int×Str)×Int):=(l_ (ltAt L) L.length).map λi=>L.getD i ((0, ""),0)
theorem GF (L:List ((Int×Str)×Int)):(sS L).Perm L:=by
 unfold sS
 have h:=(kW (ltAt L) L.length).map λi=>L.getD i ((0, ""),0)
 have e:(List.range L.length).map (λi=>L.getD i ((0, ""),0))=L:=by
  apply List.ext_getElem
  ·simp
  ·intro i h1 h2
   simp[h2]
 rw[e] at h
 exact h
def DD (p a:Addr)(h:Heap):Prop:=h.get? p=some { cls:=.type "dict_items",data:=.fields #[.ref a] }
noncomputable def kI (p:(Int×Str)×Int):List zo×V:=([.k (.inl p.1.1),.k (.inr p.1.2)],.int p.2)
def vW (K:W.Frag)(H:Hp)(p:(Int×Str)×Int)(v:V):Prop:=∃c b,v=.ref c/\H c=some (.tup [.ref b,.int p.2])/\(H b=some (.tup [.int p.1.1,.str p.1.2])\/EN K b [.int p.1.1,.str p.1.2])
section
variable {X:Cx}{zl:qc}{σ:St}{H:Hp}{s:Shared}{apos AA:Pos}{td:TE}{o:Expr}
def Qg (td:TE):TE:=fun σ H Q=>td σ H λx H1=>∃a kvs,x=.ref a/\Rd H1 a (.dT kvs)/\∀p,H1 p=none->Q (.ref p) (upd H1 p (.ext (DD p a)))
theorem Ja (ho:PE X o td)(BD:attributeBase o "items" X.env (eval o X.env)=eval o X.env:=by rfl)(BE:(apos.endLine == AA.line)=true:=by rfl):
  PE X (.Call (.Attribute o "items" apos) [] [] AA) (Qg td):=by
 intro zl s σ H Q I h
 refine wpAny_Call_method (T := "dict") (id := "dict.items") BD rfl BE F.plainAttrs_dict F.slot_dict_items F.type_dict_items (AE (ho zl s σ H _ I h) ?_)
 rintro u s1 ⟨x,H1,I1,rx,a,kvs,ex,hq,q⟩
 subst ex
 cases (show u=Value.ref a from rx)
 obtain⟨t1,t2,_⟩:=FT I1 (.inr ⟨kvs,hq⟩)
 refine⟨t1,t2,?_⟩
 obtain⟨_,hd,xs,rel,dd⟩:=yL I1.B1 I1.Au hq
 have at':DD s1.heap.objs.size a (s1.heap.push { cls:=.type "dict_items",data:=.fields #[.ref a] }):=al _ rfl
 have I2:Inv X zl σ (upd H1 s1.heap.objs.size (.ext (DD s1.heap.objs.size a))) { s1 with heap:=s1.heap.push { cls:=.type "dict_items",data:=.fields #[.ref a] },toks:=s1.toks }:=
  I1.laid (λb o e=>ac _ e) (aw _) ⟨at',⟨_,at'⟩,λh1 h2 e k=>k _ e⟩
 refine method_meetsIn F.slot_dict_items F.entry_dict_items rfl (PySem.evalArgs_none ⟨rfl,t1,F.args_dict_items_1 _,_,zr (cR X.prog X.w) a hd,⟨xs,dd⟩,?_⟩)
 exact⟨.ref s1.heap.objs.size,_,I2,rfl,q _ (I1.Au.fresh (aw _))⟩
theorem Qh {K:W.Frag}{h:Heap}{b:Addr}{p:Int×Str}{P:Program}{w:World}(D8:K.In h)(ok:CI P w K H h)(c:B5 K H b [.k (.inl p.1),.k (.inr p.2)]):(H b=some (.tup [.int p.1,.str p.2])\/EN K b [.int p.1,.str p.2])/\MO h p b:=by
 have kt:∀vs,F6 K H [.k (.inl p.1),.k (.inr p.2)] vs->vs=[.int p.1,.str p.2]:=λvs k=>by
  rcases k with k | ⟨x,b,e,_⟩
  ·cases k with
   | cons a k=>cases k with
    | cons b k=>
     cases k
     rcases a with ⟨x,e,rfl⟩ | ⟨ns,_,_,e,_⟩
     ·cases e
      rcases b with ⟨y,e,rfl⟩ | ⟨ns,_,_,e,_⟩
      ·cases e;rfl
      ·exact(zo.OO e.symm).elim
     ·exact(zo.OO e.symm).elim
  ·cases e
 have v2:∀us:List Value,Vals [.int p.1,.str p.2] us->∃t u,us=[.int p.1 t,.str p.2 u]:=λus r=>by
  cases r with
  | cons a r=>cases r with
   | cons b r=>
    cases r
    obtain⟨t,rfl⟩:=a
    obtain⟨u,rfl⟩:=b
    exact⟨t,u,rfl⟩
 rcases c with ⟨vs,e,k⟩ | ⟨vs,e,k⟩
 ·cases kt vs k
  refine⟨.inl e,?_⟩
  obtain⟨_,zw,r,it⟩:=(show Ap P w K H h b (.tup [.int p.1,.str p.2]) from ok b _ e)
  have it:=it.tup
  obtain⟨t,u,rfl⟩:=v2 _ r
  exact⟨t,u,it⟩
 ·cases kt vs k
  refine⟨.inr e,?_⟩
  obtain⟨o,zw,n,e1,e2,e3,_,r⟩:=e
  obtain⟨t,u,eu⟩:=v2 _ r
  refine⟨t,u,o,D8 b o e1,e2,n,?_⟩
  rw[e3]
  congr 1
  exact Array.toList_inj.mp eu
noncomputable def Po (o:Obj):List V:=match o.data with
 | .seq zw _=>zw.toList.filterMap NQ
 | _=>[]
theorem Ed (hc:X.calm=true)(hu:X.A.units+9 < cLine):AW X (.builtin "sorted") (λxs H Q=>∃p a L,xs=[.ref p]/\H p=some (.ext (DD p a))/\Rd H a (.dT (L.map kI))/\L.length < 64 /\
  ∀H2 l vs,zv H H2->H l=none->H2 l=none->Paired (vW X.K H2) (sS L) vs->Q (.ref l) (upd H2 l (.lst vs))):=by
 intro zl s σ H xs us Q I r h
 obtain⟨p,a,L,rfl,hp,ha,U7,q⟩:=h
 obtain⟨u,rfl,ru⟩:=Vals.one r
 cases (show u=Value.ref p from ru)
 have vw:DD p a s.heap:=(show Ap X.prog X.w X.K H s.heap p (.ext (DD p a)) from I.Au p _ hp).1
 obtain⟨_,hd,ys,rel,dd⟩:=yL I.B1 I.Au ha
 have hlen:L.length=ys.length:=by rw[← iA rel,aI]
 have at':∀(j:Nat) (k:List zo) (b:Addr) (v:Value),ys[j]?=some (k,b,v)->∃p:(Int×Str)×Int,L[j]?=some p/\(H b=some (.tup [.int p.1.1,.str p.1.2])\/EN X.K b [.int p.1.1,.str p.1.2])/\MO s.heap p.1 b/\∃t,v=Value.int p.2 t:=λj k b v e=>by
  obtain⟨⟨k',v'⟩,e1,e2,e3,e4⟩:=lJ rel e
  rw[cm] at e1
  obtain⟨p,hp,ep⟩:=bP.mp e1
  cases ep
  obtain⟨g1,g2⟩:=Qh I.B1 I.Au e3
  exact⟨p,hp,g1,g2,e4⟩
 refine Lz (kd:=cR X.prog X.w) L (I.ok.hd hc) hu ⟨_,vw,rfl,rfl⟩ dd (λh h' k x b e=>?_) hlen (by omega) (λj k b v e=>let ⟨p,h1,_,h3⟩:=at' j k b v e;⟨p,h1,h3⟩) λh' tk D e as hD kp Sf has lie hL=>?_
 ·obtain⟨o,zw,n,h1,h2,h3,r⟩:=e
  have go:∀(n:Nat) (x:zo) (v:Value),B9 n h x v->B9 n h' x v:=by
   intro n
   induction n with
   | zero=>exact λ_ _ z=>z
   | succ n ih=>exact λx v z=>z.imp id λ⟨ns,a,e,ev,o,zw,m,h1,h2,h3,p⟩=>⟨ns,a,e,ev,o,zw,m,k a o h1 h2,h2,h3,dZ p ih⟩
  exact⟨o,zw,n,k b o h1 h2,h2,h3,dZ r (go 2)⟩
 ·have new:∀c,s.heap.objs.size<=c->H c=none:=λc hc=>I.Au.fresh hc
  have old:∀b o,s.heap.get? b=some o->b≠D/\b∉as:=λb o e=>⟨bd (bi (ap e) hD),λhb=>absurd (ap e) (Nat.not_lt.mpr (has b hb).1)⟩
  have tp:∀(j:Nat) (c:Addr),as[j]?=some c->∃(p:(Int×Str)×Int) (b:Addr) (t:Tok),L[j]?=some p/\(H b=some (.tup [.int p.1.1,.str p.1.2])\/EN X.K b [.int p.1.1,.str p.1.2])/\h'.get? c=some { cls:=.type "tuple",data:=.seq #[.ref b,.int p.2 t] }:=λj c hj=>by
   obtain⟨_,k,b,v,e1,e2⟩:=lie j c hj
   obtain⟨p,h1,h2,_,t,rfl⟩:=at' j k b v e1
   exact⟨p,b,t,h1,h2,e2⟩
  have HTd:∃HT:Hp,(∀c,c∉as->HT c=H c)/\∀(j:Nat) (c:Addr),as[j]?=some c->∀(p:(Int×Str)×Int) (b:Addr) (t:Tok),h'.get? c=some { cls:=.type "tuple",data:=.seq #[.ref b,.int p.2 t] }->HT c=some (.tup [.ref b,.int p.2]):=by
   refine⟨λc=>if c∈as then some (.tup (Po ((h'.get? c).getD { cls:=.none,data:=.fields #[] }))) else H c,λc hc=>ay hc,λj c hj p b t e=>?_⟩
   show (if c∈as then _ else _)=_
   rw[bb (de hj),e]
   rfl
  obtain⟨HT,t1,t2⟩:=HTd
  have sm:zv H HT:=λb o e=>by rw[t1 b λhb=>by rw[new b (has b hb).1] at e;cases e];exact e
  have fD:HT D=none:=by rw[t1 D λhb=>(has D hb).2 rfl];exact new D hD
  have out:∃vs:List V,Paired (vW X.K HT) (sS L) vs/\Vals vs ((l_ (ltAt L) L.length).map λi=>Value.ref (as.getD i 0))/\vs.length=L.length:=by
   refine⟨(l_ (ltAt L) L.length).map λi=>V.ref (as.getD i 0),?_,?_,?_⟩
   ·unfold sS
    have go:∀l:List Nat,(∀i∈l,i < L.length)->Paired (vW X.K HT) (l.map λi=>L.getD i ((0, ""),0)) (l.map λi=>V.ref (as.getD i 0)):=by
     intro l
     induction l with
     | nil=>exact λ_=>.nil
     | cons i l ih=>
      intro hl
      refine .cons ?_ (ih λj hj=>hl j (am _ hj))
      have hi:i < L.length:=hl i ar
      have LO:i < as.length:=by omega
      obtain⟨p,b,t,h1,h2,h3⟩:=tp i as[i] (ai LO)
      have eL:L.getD i ((0, ""),0)=p:=by rw[br,h1];rfl
      have eA:as.getD i 0=as[i]:=by simp[LO]
      show vW X.K HT (L.getD i ((0, ""),0)) (V.ref (as.getD i 0))
      rw[eL,eA]
      exact⟨as[i],b,rfl,t2 i _ (ai LO) p b t h3,h2.imp (λz=>sm _ _ z) id⟩
    exact go _ λi hi=>by
     have:=(kW _ _).mem_iff.mp hi
     exact bX.mp this
   ·have go:∀l:List Nat,Vals (l.map λi=>V.ref (as.getD i 0)) (l.map λi=>Value.ref (as.getD i 0)):=by
     intro l
     induction l with
     | nil=>exact .nil
     | cons i l ih=>exact .cons rfl ih
    exact go _
   ·rw[aI,(kW _ _).length_eq,ff]
  obtain⟨vs,p1,p2,p3⟩:=out
  refine⟨.ref D,upd HT D (.lst vs),I.step (g':=s.gens) (d':=s.drawn) (ch:=[]) (λ_ z=>nomatch z) (λb o _ _ _ e _=>kp b o e) (λb o _ _ _ e _=>⟨o.slots,kp b o e⟩)
   (λb o _ e z=>?_) (λb o _ e=>⟨o,kp b o e⟩) (λb xs z=>?_) (λb o u z=>?_) (λb ps z=>⟨#[],?_⟩) (λm ⟨o,es,ep,ho,r⟩=>⟨o,es,ep,kp _ _ ho,r⟩) (λb u z=>?_) I.bare,rfl,q HT D vs sm (new D hD) fD p1⟩
  ·rw[ao (old b o e).1,t1 b (old b o e).2];exact z
  ·rw[ao (aq z (new D hD))];exact sm _ _ z
  ·rw[ao (aq z (new D hD))];exact sm _ _ z
  ·rw[ao (aq z (new D hD)),sm _ _ z];simp
  ·by_cases hb:b=D
   ·rw[hb,aA] at z
    cases z
    rw[hb]
    exact⟨by rw[p3,iS];omega,_,e,p2,hL⟩
   ·rw[ao hb] at z
    by_cases hb2:b∈as
    ·obtain⟨j,hj⟩:=ef.mp hb2
     obtain⟨p,c,t,_,_,h3⟩:=tp j b hj
     rw[t2 j b hj p c t h3] at z
     cases z
     exact⟨by show (2:Nat)<=sizeLine;decide,[.ref c,.int p.2 t],.cons rfl (.cons ⟨t,rfl⟩ .nil),_,h3,rfl,0,rfl,rfl⟩
    ·rw[t1 b hb2] at z
     exact(I.Au b u z).HK (λa v _ w=>kp a v w) (λa w=>by rw[ao (aq w (new D hD))];exact sm _ _ w) λa xs w=>by rw[ao (aq w (new D hD))];exact sm _ _ w
end
end Lake.L2
namespace Lake.MR
open PySem L2
noncomputable def vX:List (List zo×PV)->Option (List ((Int×Str)×Int))
 | []=>some []
 | ([.k (.inl i),.k (.inr x)],.int n)::r=>(vX r).bind λl=>some (((i,x),n)::l)
 | _=>none
noncomputable def Jn (p:(Int×Str)×Int):PV:=.tup [.tup [.int p.1.1,.str p.1.2],.int p.2]
@[simp] noncomputable def zy:PV->Option PV
 | .dT kvs=>(vX kvs).bind λL=>if L.length < 64 then some (.lst ((sS L).map Jn)) else none
 | _=>none
theorem zz {C:MC}{A:Addr->Prop}{H:Hp}:∀{kv:List (List zo×V)}{kvs:List (List zo×PV)}{L:List ((Int×Str)×Int)},AF C A H kv kvs->vX kvs=some L->kv=L.map kI
 | _,_,_,.nil,e=>by cases e;rfl
 | _,_,_,.cons (k:=k) (v:=v) (p:=p) r t,e=>by
  unfold vX at e
  split at e
  ·rename_i h;cases h
  ·rename_i h
   cases h
   obtain⟨l,hl,e⟩:=ag.mp e
   cases e
   cases r
   rw[zz t hl]
   rfl
  ·cases e
variable {C:MC}{H:Hp}
section
variable {X:Cx}{b:BX}{G:qf}{apos AA p pos:Pos}{m:Md}{e:Expr}{f:qE}
theorem Jb {A:Addr->Prop}{p:(Int×Str)×Int}{v:V}(h:vW C.K H p v):Rep C A H v (Jn p):=by
 obtain⟨c,b,rfl,h1,h2⟩:=h
 refine .tup h1 (.cons ?_ (.cons (.int _) .nil))
 have r:zt C A H [.int p.1.1,.str p.1.2] [.int p.1.1,.str p.1.2]:=.cons (.int _) (.cons (.str _) .nil)
 rcases h2 with h2 | h2
 ·exact .tup h2 r
 ·exact .B6 h2 r
theorem xf {C:MC}{A:Addr->Prop}{H:Hp}:∀{L:List ((Int×Str)×Int)}{vs:List V},Paired (vW C.K H) L vs->zt C A H vs (L.map Jn)
 | _,_,.nil=>.nil
 | _,_,.cons h t=>.cons (Jb h) (xf t)
theorem Jc {k:Nat}(hr:AN k X.A)(hm:X.mg "sorted" = none)(h:SE X b G m e f)(VY:X.calm=true:=by rfl)(hK:X.K=b.C.K:=by rfl)(hg:Gl X "sorted" := by rfl)(BD:attributeBase e "items" X.env (eval e X.env)=eval e X.env:=by rfl)(BE:(apos.endLine == AA.line)=true:=by rfl)
  (hs:starEach [.Call (.Attribute e "items" apos) [] [] AA] X.env=(false,eval (.Call (.Attribute e "items" apos) [] [] AA) X.env)::starEach [] X.env:=by rfl) (A2:(backTo pos (starEach [] X.env)).any (·.1)=false:=by rfl):
  SE X b G .own (.Call (.Name "sorted" p) [.Call (.Attribute e "items" apos) [] [] AA] [] pos) (b1 zy f):=by
 refine PE.imp (dg (Ed VY (dq hr)) hg hm PyProof.Rows.boot_sorted (aB (Ja h.bor BD BE) aL hs) (by decide) (by decide) hs A2) ?_
 rintro σ H Q ⟨Ow,env,q,E,hf,k⟩
 obtain⟨x,hx,hf⟩:=az hf
 unfold zy at hf
 split at hf
 ·rename_i kvs
  obtain⟨L,hL,hf⟩:=ag.mp hf
  split at hf
  ·rename_i U7
   cases hf
   refine⟨Ow,env,_,E,hx,λv H1 s r=>?_⟩
   have r1:zC b.C (Bs b Ow) H1 v (.dT kvs):=r
   obtain⟨a,kv,rfl,ha,ra⟩:=r1.dT
   have ek:=zz ra hL
   subst ek
   refine⟨a,_,rfl,.inl ha,λp hp=>?_⟩
   have nap:a≠p:=aq ha hp
   have s1:=aD hp (.ext (DD p a))
   refine⟨p,a,L,rfl,aA,.inl (s1 _ _ ha),U7,λH2 l vs s2 hl RE pr=>?_⟩
   have LP:H1 l=none:=s1.free hl
   refine k _ _ (((s.trans s1).trans s2).over (s.free LP) _) ⟨l,rfl,s.free LP,vs,aA,?_⟩
   rw[hK] at pr
   exact(xf (A:=λ_=>False) pr).ex λc o e=>⟨λz=>z.elim,λ_=>by rw[ao (aq e RE)];exact e⟩
  ·cases hf
 ·cases hf
end
structure WS where
 Bn:List (List zo×PV)
 most:Int
 fin:PV
 Cn:List PV
 nums:List (List zo×PV)
 DZ:List (Key×PV)
structure WC where
 n:Nat
 a:Addr
 dx:Addr
 ah:Addr
 lp:Addr
 ln:Addr
 lo:Addr
 fin:V
noncomputable def WC.fs (c:WC)(m:Int):List (Str×V):=[("ahead",.ref c.ah),("most",.int m),("end",c.fin),("places",.ref c.lp),("numbers",.ref c.ln),("onward",.ref c.lo)]
structure WR (C:MC)(F:Addr->Prop)(H:Hp)(c:WC)(w:WS):Prop where
 ob:H c.a=some (.ins (C.cl c.n) c.dx (c.fs w.most))
 ah:∃kv,H c.ah=some (.dT kv)/\AF C F H kv w.Bn
 fn:Rep C F H c.fin w.fin
 lp:∃vs,H c.lp=some (.lst vs)/\zt C F H vs w.Cn
 ln:∃kv,H c.ln=some (.dT kv)/\AF C F H kv w.nums
 lo:∃kv,H c.lo=some (.dK kv)/\As C F H kv w.DZ
 ne:c.ah≠c.ln
 dm:∀b,F b->∃o,H b=some o
 nF:¬ F c.a/\¬ F c.ah/\¬ F c.lp/\¬ F c.ln/\¬ F c.lo
structure WT (K:W.Frag)(Cl:Addr):Prop where
 cl:II K Cl
 PF:AO K Cl "ahead"
 Ux:AO K Cl "most"
 Wf:AO K Cl "end"
 DJ:AO K Cl "places"
 Cb:AO K Cl "numbers"
 Iy:AO K Cl "onward"
section
variable {C:MC}{F F':Addr->Prop}{H H':Hp}{c:WC}{w:WS}
theorem WR.ex (W:WR C F H c w)(e:Ex F H F' H')(k:∀b o,(b=c.a\/b=c.ah\/b=c.lp\/b=c.ln\/b=c.lo)->H b=some o->H' b=some o)(dm:∀b,F' b->∃o,H' b=some o)(n:¬ F' c.a/\¬ F' c.ah/\¬ F' c.lp/\¬ F' c.ln/\¬ F' c.lo):WR C F' H' c w where
 ob:=k _ _ (.inl rfl) W.ob
 ah:=let ⟨kv,h,r⟩:=W.ah;⟨kv,k _ _ (.inr (.inl rfl)) h,r.ex e⟩
 fn:=W.fn.ex e
 lp:=let ⟨kv,h,r⟩:=W.lp;⟨kv,k _ _ (.inr (.inr (.inl rfl))) h,r.ex e⟩
 ln:=let ⟨kv,h,r⟩:=W.ln;⟨kv,k _ _ (.inr (.inr (.inr (.inl rfl)))) h,r.ex e⟩
 lo:=let ⟨kv,h,r⟩:=W.lo;⟨kv,k _ _ (.inr (.inr (.inr (.inr rfl)))) h,r.ex e⟩
 ne:=W.ne
 dm:=dm
 nF:=n
theorem WR.same (W:WR C F H c w)(s:zv H H'):WR C F H' c w:=W.ex (.of_same s) (λb o _ e=>s b o e) (λb f=>let ⟨o,e⟩:=W.dm b f;⟨o,s b o e⟩) W.nF
noncomputable def WS.pv (w:WS)(n:Nat):PV:=.obj n [("ahead",.dT w.Bn),("most",.int w.most),("end",w.fin),("places",.lst w.Cn),("numbers",.dT w.nums),("onward",.dK w.DZ)]
theorem WR.rep (W:WR C F H c w):Rep C (λb=>F b\/b=c.a\/b=c.ah\/b=c.lp\/b=c.ln\/b=c.lo) H (.ref c.a) (w.pv c.n):=by
 have e:Ex F H (λb=>F b\/b=c.a\/b=c.ah\/b=c.lp\/b=c.ln\/b=c.lo) H:=aU λ_ _ _ z=>.inl z
 obtain⟨k1,h1,r1⟩:=W.ah
 obtain⟨k2,h2,r2⟩:=W.lp
 obtain⟨k3,h3,r3⟩:=W.ln
 obtain⟨k4,h4,r4⟩:=W.lo
 exact .obj W.ob (.inr (.inl rfl)) (.cons (.dT h1 (.inr (.inr (.inl rfl))) (r1.ex e)) (.cons (.int _) (.cons (W.fn.ex e) (.cons (.lst h2 (.inr (.inr (.inr (.inl rfl)))) (r2.ex e)) (.cons (.dT h3 (.inr (.inr (.inr (.inr (.inl rfl))))) (r3.ex e)) (.cons (.dK h4 (.inr (.inr (.inr (.inr (.inr rfl))))) (r4.ex e)) .nil))))))
end
noncomputable def sU (w:WS)(p:PV):Option (Int×WS):=match p with
 | .tup xs=>(AB xs).bind λk=>match aK w.nums k with
  | some (.int n)=>some (n,w)
  | none=>if w.Cn.length < 1000000/\w.nums.length < 1000000 then some ((w.Cn.length:Nat),{ w with nums:=bB w.nums k (.int (w.Cn.length:Nat)),Cn:=w.Cn++[.tup xs] }) else none
  | _=>none
 | _=>none
def Kept (c:WC)(F:Addr->Prop)(H H':Hp):Prop:=∀b o,H b=some o->b≠c.lp->b≠c.ln->b≠c.lo->H' b=some o
def qT (C:MC):Sp:=λvs H Q _=>∃F c w v p n w',vs=[.ref c.a,v]/\WT C.K (C.cl c.n)/\WR C F H c w/\Rep C F H v p/\sU w p=some (n,w')/\∀H',Kept c F H H'->WR C F H' c w'->Q (.int n) H'
variable {vs:List V}{Q:VK}
theorem GJ {E:XK}(h:qT C vs H Q E):vs.length=2:=by
 obtain⟨F,c,w,v,p,n,w',e,_⟩:=h
 rw[e];rfl
abbrev zA (K:PySem.W.Frag):List V->Hp->VK->Prop:=λxs H Q=>∃p ys,xs=[.ref p]/\(AS K H p ys\/BU K H p ys)/\Q (.int ys.length) H
def Jd (K:W.Frag):TS:=
 cz (lU (tB (iR K (aG 1) (iM K (aG 0) "numbers")))
   (cz (jP K (iM K (aG 0) "numbers") (aG 1) (LM (zA K) (aM (iM K (aG 0) "places") bh)))
    (t7 (U3 K "list" vH (iM K (aG 0) "places") (aM (aG 1) bh))))
   jm)
  (iK (qL K (iM K (aG 0) "numbers") (aG 1)))
theorem LC {E:XK}(h:qT C vs H Q E):Jd C.K { nx:=λ_ H'=>Q .zD H',rt:=Q } (L2.start ["self","place"] vs) H:=by
 obtain⟨F,c,w,v,p,n,w',rfl,T,W,rp,hn,q⟩:=h
 obtain⟨kn,JA,rn⟩:=W.ln
 obtain⟨pl,KL,rl⟩:=W.lp
 cases p <;> first | (cases hn;done) | skip
 rename_i xs
 obtain⟨k,hk,hn⟩:=ag.mp (show ((AB xs).bind _)=_ from hn)
 obtain⟨b,us,rfl,hb,rb⟩:=zC.tup (.inl rp)
 have ck:B5 C.K H b k:=hb.key (rb.AB hk)
 have e0:(L2.start ["self","place"] [V.ref c.a,V.ref b])[0]?=some (some (.ref c.a)):=rfl
 have e1:(L2.start ["self","place"] [V.ref c.a,V.ref b])[1]?=some (some (.ref b)):=rfl
 have fld:∀(f:Str) (x:V) (H1:Hp),AO C.K (C.cl c.n) f->(c.fs w.most).lookup f=some x->H1 c.a=some (.ins (C.cl c.n) c.dx (c.fs w.most))->∀R:VK,R x H1->iM C.K (aG 0) f (L2.start ["self","place"] [V.ref c.a,V.ref b]) H1 R:=λf x H1 na lk ho R r=>⟨_,e0,c.a,_,_,_,x,rfl,ho,T.cl,na,lk,r⟩
 unfold Jd
 dsimp only [cz,lU,tB,iR,jP,LM,t7,U3,iK,qL,jm,aM,bh]
 refine⟨_,e1,fld "numbers" _ _ T.Cb rfl W.ob _ ⟨c.ln,_,rfl,A8.t JA ck,_,rfl,?_⟩⟩
 rcases AF.val (k:=k) rn with ⟨y,py,g1,g2,ry⟩ | ⟨g1,g2⟩
 ·have K0:(match aK w.nums k with | some (.int n)=>some (n,w) | none=>if w.Cn.length < 1000000/\w.nums.length < 1000000 then some (((w.Cn.length:Nat):Int),{ w with nums:=bB w.nums k (.int (w.Cn.length:Nat)),Cn:=w.Cn++[.tup xs] }) else none | _=>none)=some (n,w'):=hn
  have eL:aK w.nums k=some py:=g2
  rw[eL] at K0
  cases py <;> first | (cases K0;done) | skip
  cases K0
  cases ry
  rw[g1]
  refine lW ?_
  refine fld "numbers" _ _ T.Cb rfl W.ob _ ?_
  refine⟨_,e1,c.ln,_,rfl,by rw[← g1];exact A8.t JA ck,?_⟩
  exact q H (λb o e _ _ _=>e) W
 ·have K0:(match aK w.nums k with | some (.int n)=>some (n,w) | none=>if w.Cn.length < 1000000/\w.nums.length < 1000000 then some (((w.Cn.length:Nat):Int),{ w with nums:=bB w.nums k (.int (w.Cn.length:Nat)),Cn:=w.Cn++[.tup xs] }) else none | _=>none)=some (n,w'):=hn
  have eL:aK w.nums k=none:=g2
  rw[eL] at K0
  dsimp only at K0
  split at K0
  ·rename_i hz
   cases K0
   rw[g1]
   refine iT ?_
   have lpl:pl.length=w.Cn.length:=rl.length
   have nlp:c.lp≠c.ln:=bR KL JA (λz=>nomatch z)
   have Y9:c.a≠c.ln:=bR W.ob JA (λz=>nomatch z)
   have nap:c.a≠c.lp:=bR W.ob KL (λz=>nomatch z)
   refine fld "places" _ _ T.DJ rfl W.ob _ ?_
   refine⟨c.lp,pl,rfl,.inl (AS.of KL),?_⟩
   refine fld "numbers" _ _ T.Cb rfl W.ob _ ?_
   refine⟨_,e1,c.ln,_,rfl,E6.t JA ck (bY (by rw[rn.length];omega)),?_⟩
   have W1:upd H c.ln (.dT (putK kn k (.int (pl.length:Nat)))) c.a=some (.ins (C.cl c.n) c.dx (c.fs w.most)):=by rw[ao Y9];exact W.ob
   have P1:upd H c.ln (.dT (putK kn k (.int (pl.length:Nat)))) c.lp=some (.lst pl):=by rw[ao nlp];exact KL
   refine fld "places" _ _ T.DJ rfl W1 _ ?_
   refine⟨.inl ⟨rfl,pl,AS.of P1⟩,_,e1,c.lp,pl,.ref b,rfl,rfl,P1,bY (by omega),?_⟩
   have W2:upd (upd H c.ln (.dT (putK kn k (.int (pl.length:Nat))))) c.lp (.lst (pl++[.ref b])) c.a=some (.ins (C.cl c.n) c.dx (c.fs w.most)):=by rw[ao nap];exact W1
   refine fld "numbers" _ _ T.Cb rfl W2 _ ?_
   have L2:upd (upd H c.ln (.dT (putK kn k (.int (pl.length:Nat))))) c.lp (.lst (pl++[.ref b])) c.ln=some (.dT (putK kn k (.int (pl.length:Nat)))):=by rw[ao nlp.symm,aA]
   have kp:∀x o,H x=some o->x≠c.lp->x≠c.ln->upd (upd H c.ln (.dT (putK kn k (.int (pl.length:Nat))))) c.lp (.lst (pl++[.ref b])) x=some o:=λx o e n1 n2=>by rw[ao n1,ao n2];exact e
   have ex:Ex F H F (upd (upd H c.ln (.dT (putK kn k (.int (pl.length:Nat))))) c.lp (.lst (pl++[.ref b]))):=λx o e=>⟨λf=>⟨kp x o e (λz=>W.nF.2.2.1 (z▸f)) (λz=>W.nF.2.2.2.1 (z▸f)),f⟩,λm=>kp x o e (λz=>by rw[z,KL] at e;cases e;cases m) λz=>by rw[z,JA] at e;cases e;cases m⟩
   have Za:B5 C.K _ b k:=ck.keeps (H':=upd (upd H c.ln (.dT (putK kn k (.int (pl.length:Nat))))) c.lp (.lst (pl++[.ref b]))) λx ys e=>(ex x _ e).2 rfl
   have g3:cA (putK kn k (.int (pl.length:Nat))) k=some (.int (pl.length:Nat)):=by rw[yJ,bb rfl]
   refine⟨_,e1,c.ln,_,rfl,by rw[← g3];exact A8.t L2 Za,?_⟩
   rw[lpl] at *
   obtain⟨ka,ha,ra⟩:=W.ah
   obtain⟨ko,ho,ro⟩:=W.lo
   refine q _ (λx o e n1 n2 _=>kp x o e n1 n2) ⟨W2,⟨ka,kp _ _ ha (bR ha KL (λz=>nomatch z)) W.ne,ra.ex ex⟩,W.fn.ex ex,⟨_,aA,(rl.ex ex).append (.cons (rp.ex ex) .nil)⟩,⟨_,L2,AF.put (.int _) (rn.ex ex)⟩,⟨ko,kp _ _ ho (bR ho KL (λz=>nomatch z)) (bR ho JA (λz=>nomatch z)),ro.ex ex⟩,W.ne,λx f=>(let ⟨o,e⟩:=W.dm x f;⟨o,((ex x o e).1 f).1⟩),W.nF⟩
  ·cases K0
section
variable {C:MC}{A F:Addr->Prop}{H:Hp}
theorem zB {f:PV->Option zo}(hf:∀v p k,Rep C A H v p->f p=some k->Rep C F H v p):∀{vs:List V}{ps:List PV}{ks:List zo},zt C A H vs ps->qd f ps=some ks->zt C F H vs ps
 | _,_,_,.nil,_=>.nil
 | _,_,_,.cons (p:=p) (ps:=ps) h t,e=>by
  unfold qd at e
  obtain⟨k,hk,e⟩:=ag.mp e
  obtain⟨ks,YG,e⟩:=ag.mp e
  exact .cons (hf _ _ _ h hk) (zB hf t YG)
theorem kY {f:PV->Option zo}(hf:∀v p k,Rep C A H v p->f p=some k->Rep C F H v p){ps:List PV}{ks:List zo}(r:zt C A H vs ps)(e:gK f ps=some ks):zt C F H vs ps:=by
 unfold gK at e
 split at e
 ·cases r with
  | cons h1 t=>cases t with
   | cons h2 t=>cases t;cases h1;cases h2;exact .cons (.str _) (.cons (.bl _) .nil)
 ·exact zB hf r e
theorem zE (v:V)(p:PV)(k:zo)(r:Rep C A H v p)(e:Dp p=some k):Rep C F H v p:=by
 cases r with
 | int i=>exact .int i
 | str x=>exact .str x
 | _=>cases e
theorem oJ {f:PV->Option zo}(hf:∀v p k,Rep C A H v p->f p=some k->Rep C F H v p)(v:V)(p:PV)(k:zo)(r:Rep C A H v p)(e:Dq f p=some k):Rep C F H v p:=by
 cases r with
 | tup h q=>
  obtain⟨ks,hk,e⟩:=bP.mp (show (gK f _).map zo.tp=some k from e)
  exact .tup h (kY hf q hk)
 | B6 h q=>
  obtain⟨ks,hk,e⟩:=bP.mp (show (gK f _).map zo.tp=some k from e)
  exact .B6 h (kY hf q hk)
 | tupK h q=>
  obtain⟨ks,hk,e⟩:=bP.mp (show (gK f _).map zo.tp=some k from e)
  exact .tupK h (kY hf q hk)
 | int i=>exact .int i
 | str x=>exact .str x
 | _=>cases e
theorem BZ {v:V}{xs:List PV}{ks:List zo}(r:Rep C A H v (.tup xs))(e:AB xs=some ks):Rep C F H v (.tup xs):=by
 cases r with
 | tup h q=>exact .tup h (kY (oJ (oJ zE)) q e)
 | B6 h q=>exact .B6 h (kY (oJ (oJ zE)) q e)
end
noncomputable def GH (pb:List PV->Option PV)(cn:Nat)(num:Int):List PV->WS->Option (List PV×WS)
 | [],w=>some ([],w)
 | s::S,w=>(pb [w.pv cn,.int num,s]).bind λp=>(sU w p).bind λr=>(GH pb cn num S r.2).bind λq=>some (.int r.1::q.1,q.2)
noncomputable def sV (pb:List PV->Option PV)(cn:Nat)(S:List PV)(w:WS)(num:Int):Option (PV×WS):=match aK w.DZ (.inl num) with
 | some l=>some (l,w)
 | none=>(GH pb cn num S w).bind λr=>if r.2.DZ.length < 1000000/\r.1.length < 1000000 then some (.lst r.1,{ r.2 with DZ:=bB r.2.DZ (.inl num) (.lst r.1) }) else none
def FK (F F':Addr->Prop)(H:Hp):Prop:=(∀b,F b->F' b)/\∀b,F' b->F b\/H b=none
def uH (C:MC)(cn:Nat)(pb:List PV->Option PV)(S:List PV):Sp:=λvs H Q _=>∃F c w n l w',vs=[.ref c.a,.int n]/\c.n=cn/\WT C.K (C.cl c.n)/\WR C F H c w/\sV pb c.n S w n=some (l,w') /\
 ∀H' F' v,Kept c F H H'->FK F F' H->WR C F' H' c w'->Rep C F' H' v l->Q v H'
def qi (C:MC)(aS:Addr)(S:List PV):Prop:=∃us,BU C.K (λ_=>none) aS us/\∀B H,zt C B H us S
def Je (C:MC)(cn:Nat)(pb:List PV->Option PV)(aS:Addr):TS:=
 cz (lU (tB (iR C.K (aG 1) (iM C.K (aG 0) "onward")))
   (jP C.K (iM C.K (aG 0) "onward") (aG 1) (fX (yD C.K (tC (.ref aS))) [none,some 0,some 1] (aW 0) oh
    (jO (C.cl cn) "number_of_place" (qT C) [] E0 (aG 1) (aM (jO (C.cl cn) "place_behind" (CO C pb false) [] E0 (aG 1) (aM (aG 2) (aM (aG 0) bh))) bh))))
   jm)
  (iK (qL C.K (iM C.K (aG 0) "onward") (aG 1)))
theorem GK {w w':WS}{p:PV}{n:Int}(h:sU w p=some (n,w')):∃xs ks,p=.tup xs/\AB xs=some ks/\w'.most=w.most:=by
 cases p <;> first | (cases h;done) | skip
 rename_i xs
 obtain⟨k,hk,h⟩:=ag.mp (show ((AB xs).bind _)=_ from h)
 refine⟨xs,k,rfl,hk,?_⟩
 split at h
 ·cases h;rfl
 ·split at h
  ·cases h;rfl
  ·cases h
 ·cases h
variable {F:Addr->Prop}{pb:List PV->Option PV}
theorem Jf {c:WC}{w w1:WS}{num k:Int}{s p:PV}{x:V}{D:Addr}{ys:List V}{R:VK}(T:WT C.K (C.cl c.n))(W:WR C F H c w)(rs:∀B H,Rep C B H x s)(hp:pb [w.pv c.n,.int num,s]=some p)(hn:sU w p=some (k,w1))
  (q:∀H',Kept c F H H'->WR C F H' c w1->R (.int k) H'):
  jO (C.cl c.n) "number_of_place" (qT C) [] E0 (aG 1) (aM (jO (C.cl c.n) "place_behind" (CO C pb false) [] E0 (aG 1) (aM (aG 2) (aM (aG 0) bh))) bh) [some x,some (.ref c.a),some (.int num)] H R:=by
 obtain⟨xs,ks,rfl,hk,_⟩:=GK hn
 refine⟨_,rfl,c.a,c.dx,_,rfl,W.ob,rfl,?_⟩
 refine⟨_,rfl,c.a,c.dx,_,rfl,W.ob,rfl,?_⟩
 refine⟨_,rfl,_,rfl,?_⟩
 refine⟨_,[w.pv c.n,.int num,s],_,.cons W.rep (.cons (.int _) (.cons (rs _ _) .nil)),hp,λv H1 s1 r1=>?_⟩
 have FV:Rep C F H1 v (.tup xs):=BZ (show Rep C _ H1 v (.tup xs) from r1) hk
 exact⟨F,c,w,v,.tup xs,k,w1,rfl,T,W.same s1,FV,hn,λH' kp W'=>q H' (λb o e n1 n2 n3=>kp b o (s1 _ _ e) n1 n2 n3) W'⟩
variable {cn:Nat}
theorem GP {S:List PV}{E:XK}(h:uH C cn pb S vs H Q E):vs.length=2:=by
 obtain⟨F,c,w,n,l,w',e,_⟩:=h
 rw[e];rfl
theorem Ef {K:W.Frag}{aS:Addr}{us:List V}{zS:List (Option Nat)}{tt:TT}{te:TE}{σ rest:St}(hσ:bT zS σ=none::rest)(ha:BU K H aS us)
  (k:∀D,H D=none->∃Pv:Nat->List V->Hp->Prop,Pv 0 [] (upd H D (.lst []))/\(∀i ys H,i<=us.length->Pv i ys H->BU K H aS us/\H D=some (.lst ys)) /\
   (∀i x ys H,us[i]?=some x->Pv i ys H->tt (some x::rest) H λb H3=>if b=true then te (some x::rest) H3 λy H4=>H4 D=some (.lst ys)/\ys.length < sizeLine/\Pv (i+1) (ys++[y]) (upd H4 D (.lst (ys++[y]))) else Pv (i+1) ys H3) /\
   ∀ys H,Pv us.length ys H->Q (.ref D) H):fX (yD K (tC (.ref aS))) zS (aW 0) tt te σ H Q:=
 ⟨⟨aS,rfl,⟨us,ha⟩,λD hD=>let ⟨Pv,h0,h1,h2,h3⟩:=k D hD;H_ hσ Pv h0 h1 h2 h3⟩⟩
theorem LK {S:List PV}{aS:Addr}{E:XK}(hS:qi C aS S)(h:uH C cn pb S vs H Q E):Je C cn pb aS { nx:=λ_ H'=>Q .zD H',rt:=Q } (L2.start ["self","number"] vs) H:=by
 obtain⟨F,c,w,num,l,w',rfl,rfl,T,W,hl,q⟩:=h
 obtain⟨us,PH,Uy⟩:=hS
 obtain⟨ko,TL,ro⟩:=W.lo
 have e0:(L2.start ["self","number"] [V.ref c.a,V.int num])[0]?=some (some (.ref c.a)):=rfl
 have e1:(L2.start ["self","number"] [V.ref c.a,V.int num])[1]?=some (some (.int num)):=rfl
 have fld:∀(x:V) (H1:Hp) (m:Int),(c.fs m).lookup ("onward" : Str)=some x->H1 c.a=some (.ins (C.cl c.n) c.dx (c.fs m))->∀R:VK,R x H1->iM C.K (aG 0) "onward" (L2.start ["self","number"] [V.ref c.a,V.int num]) H1 R:=λx H1 m lk ho R r=>⟨_,e0,c.a,_,_,_,x,rfl,ho,T.cl,T.Iy,lk,r⟩
 unfold Je
 dsimp only [cz,lU,tB,iR,jP,iK,qL,jm]
 refine⟨_,e1,fld _ _ _ rfl W.ob _ ⟨c.lo,_,rfl,A8.k (k:=.inl num) TL,_,rfl,?_⟩⟩
 unfold sV at hl
 rcases As.val (k:=(.inl num:Key)) ro with ⟨y,py,g1,g2,ry⟩ | ⟨g1,g2⟩
 ·have eL:aK w.DZ (.inl num)=some py:=g2
  rw[eL] at hl
  cases hl
  rw[g1]
  refine lW ?_
  refine fld _ _ _ rfl W.ob _ ?_
  refine⟨_,e1,c.lo,_,rfl,by rw[← g1];exact A8.k (k:=.inl num) TL,?_⟩
  exact q H F _ (λb o e _ _ _=>e) ⟨λ_ z=>z,λ_ z=>.inl z⟩ W ry
 ·have eL:aK w.DZ (.inl num)=none:=g2
  rw[eL] at hl
  obtain⟨⟨ls,w1⟩,hF,hl⟩:=ag.mp hl
  split at hl
  ·rename_i hz
   cases hl
   rw[g1]
   refine iT ?_
   refine Ef (us:=us) (rest:=[some (.ref c.a),some (.int num)]) rfl (j9 PH) λD hD=>?_
   have cells:∀b,b=c.a\/b=c.ah\/b=c.lp\/b=c.ln\/b=c.lo->b≠D:=λb hb z=>by
    subst z
    obtain⟨_,h1,_⟩:=W.ah
    obtain⟨_,h2,_⟩:=W.lp
    obtain⟨_,h3,_⟩:=W.ln
    rcases hb with rfl | rfl | rfl | rfl | rfl
    ·rw[W.ob] at hD;cases hD
    ·rw[h1] at hD;cases hD
    ·rw[h2] at hD;cases hD
    ·rw[h3] at hD;cases hD
    ·rw[TL] at hD;cases hD
   have nFD:¬ F D:=λz=>by obtain⟨o,e⟩:=W.dm D z;rw[hD] at e;cases e
   have oG:us.length=S.length:=(Uy F H).length
   refine⟨λi ys Hi=>∃wi rest ns,GH pb c.n num (S.drop i) wi=some (rest,w1)/\ls=ns.map PV.int++rest/\ys=ns.map V.int/\ns.length=i/\WR C F Hi c wi/\Hi D=some (.lst ys)/\∀b o,H b=some o->b≠c.lp->b≠c.ln->b≠c.lo->Hi b=some o,
    ⟨w,ls,[],hF,rfl,rfl,rfl,W.same (aD hD _),aA,λb o e _ _ _=>aD hD _ b o e⟩,λi ys Hi _ ⟨wi,rest,ns,_,_,_,_,_,d,_⟩=>⟨j9 PH,d⟩,λi x ys Hi hx ⟨wi,rest,ns,h1,h2,h3,h4,Wi,d,kp⟩=>?_,λys Hi ⟨wi,rest,ns,h1,h2,h3,h4,Wi,d,kp⟩=>?_⟩
   ·dsimp only [oh]
    refine iT ?_
    have hi:i < us.length:=(af.mp hx).1
    have hs:S[i]?=some (S[i]'(by omega)):=ai (by omega)
    generalize S[i]'(by omega)=s at hs
    have rs:∀B H,Rep C B H x s:=λB H=>by
     obtain⟨p,e,r⟩:=(Uy B H).get' hx
     rw[hs] at e
     cases e
     exact r
    have D5:S.drop i=s::S.drop (i+1):=by
     rw[ce (by omega)]
     congr 1
     exact(af.mp hs).2
    rw[D5] at h1
    obtain⟨p,hp,h1⟩:=ag.mp (show ((pb [wi.pv c.n,.int num,s]).bind _)=_ from h1)
    obtain⟨⟨k,w2⟩,hn,h1⟩:=ag.mp h1
    obtain⟨⟨r2,w3⟩,h5,he⟩:=ag.mp h1
    cases he
    refine Jf (D:=D) (ys:=ys) T Wi rs hp hn λH4 k4 W4=>?_
    have d4:H4 D=some (.lst ys):=k4 D _ d (cells c.lp (.inr (.inr (.inl rfl)))).symm (cells c.ln (.inr (.inr (.inr (.inl rfl))))).symm (cells c.lo (.inr (.inr (.inr (.inr rfl))))).symm
    refine⟨d4,bY (by rw[h3,aI,h4];have:=hz.2;rw[h2] at this;simp at this;omega),w2,r2,ns++[k],h5,by rw[h2];simp,by rw[h3];simp,by simp[h4],?_,aA,λb o e n1 n2 n3=>?_⟩
    ·have nD:∀b,F b->b≠D:=λb f z=>nFD (z▸f)
     refine W4.ex (λb o e=>⟨λf=>⟨by rw[ao (nD b f)];exact e,f⟩,λm=>?_⟩) (λb o hb e=>by rw[ao (cells b hb)];exact e) (λb f=>?_) W4.nF
     ·rw[ao ?_]
      ·exact e
      ·intro z;rw[z,d4] at e;cases e;cases m
     ·obtain⟨o,e⟩:=W4.dm b f
      exact⟨o,by rw[ao (nD b f)];exact e⟩
    ·have nb:b≠D:=aq e hD
     rw[ao nb]
     exact k4 b o (kp b o e n1 n2 n3) n1 n2 n3
   ·have D5:S.drop us.length=[]:=by rw[oG];simp
    rw[D5] at h1
    cases h1
    rw[bS] at h2
    obtain⟨k2,LD,ro2⟩:=Wi.lo
    refine fld _ _ _ rfl Wi.ob _ ?_
    refine⟨_,e1,c.lo,_,rfl,E6.k (k:=.inl num) LD (bY (by rw[ro2.length];exact gv hz.1)),?_⟩
    have Y9:c.a≠c.lo:=bR Wi.ob LD (λz=>nomatch z)
    have nDl:D≠c.lo:=(cells c.lo (.inr (.inr (.inr (.inr rfl))))).symm
    have ob4:upd Hi c.lo (.dK (putK k2 (.inl num) (.ref D))) c.a=some (.ins (C.cl c.n) c.dx (c.fs w1.most)):=by rw[ao Y9];exact Wi.ob
    refine fld _ _ _ rfl ob4 _ ?_
    have g3:cA (putK k2 (.inl num) (.ref D)) (.inl num)=some (.ref D):=by rw[yJ,bb rfl]
    refine⟨_,e1,c.lo,_,rfl,by rw[← g3];exact A8.k (k:=.inl num) aA,?_⟩
    have Si:∀b o,Hi b=some o->b≠c.lo->upd Hi c.lo (.dK (putK k2 (.inl num) (.ref D))) b=some o:=λb o e n=>by rw[ao n];exact e
    have ex:Ex F Hi (λb=>F b\/b=D) (upd Hi c.lo (.dK (putK k2 (.inl num) (.ref D)))):=λb o e=>⟨λf=>⟨Si b o e (λz=>Wi.nF.2.2.2.2 (z▸f)),.inl f⟩,λm=>Si b o e λz=>by rw[z,LD] at e;cases e;cases m⟩
    have rD:Rep C (λb=>F b\/b=D) (upd Hi c.lo (.dK (putK k2 (.inl num) (.ref D)))) (.ref D) (.lst ls):=by
     refine .lst (Si D _ d nDl) (.inr rfl) ?_
     rw[h2,h3]
     exact j0 _ _ (λi=>.int i) ns
    refine q _ (λb=>F b\/b=D) _ (λb o e n1 n2 n3=>Si b o (kp b o e n1 n2 n3) n3) ⟨λb z=>.inl z,λb z=>z.imp id λz=>by rw[z];exact hD⟩ ⟨ob4,?_,Wi.fn.ex ex,?_,?_,⟨_,aA,As.put rD (ro2.ex ex)⟩,Wi.ne,λb f=>?_,?_⟩ rD
    ·obtain⟨kv,e,r⟩:=Wi.ah
     exact⟨kv,Si _ _ e (bR e LD (λz=>nomatch z)),r.ex ex⟩
    ·obtain⟨kv,e,r⟩:=Wi.lp
     exact⟨kv,Si _ _ e (bR e LD (λz=>nomatch z)),r.ex ex⟩
    ·obtain⟨kv,e,r⟩:=Wi.ln
     exact⟨kv,Si _ _ e (bR e LD (λz=>nomatch z)),r.ex ex⟩
    ·rcases f with f | f
     ·obtain⟨o,e⟩:=Wi.dm b f
      exact⟨o,((ex b o e).1 f).1⟩
     ·exact⟨_,by rw[f];exact Si D _ d nDl⟩
    ·obtain⟨n1,n2,n3,n4,n5⟩:=Wi.nF
     exact⟨λz=>z.elim n1 (cells _ (.inl rfl)),λz=>z.elim n2 (cells _ (.inr (.inl rfl))),λz=>z.elim n3 (cells _ (.inr (.inr (.inl rfl)))),λz=>z.elim n4 (cells _ (.inr (.inr (.inr (.inl rfl))))),λz=>z.elim n5 (cells _ (.inr (.inr (.inr (.inr rfl)))))⟩
  ·cases hl
theorem Qi {rest:St}{x y:V}:Kp (none::none::rest) (some x::some y::rest):=⟨rfl,λi v e=>by
 cases i with
 | zero=>cases e
 | succ i=>cases i with
  | zero=>cases e
  | succ i=>exact e⟩
theorem Eg {K:W.Frag}{k1 k2:SK}{a b:Addr}{xs ys:List V}{ta:TA}{zS:List (Option Nat)}{tt:TT}{te:TE}{σ rest:St}(hw:∀R:List V->Hp->Prop,R [.ref a,.ref b] H->ta σ H R)(hσ:bT zS σ=none::none::rest)(hlen:ys.length=xs.length)(ha:k1.sq K H a xs)(hb:k2.sq K H b ys)
  (k:∀D,H D=none->∃Pv:Nat->List V->Hp->Prop,Pv 0 [] (upd H D (.lst []))/\(∀i zs Hi,i<=xs.length->Pv i zs Hi->k1.sq K Hi a xs/\k2.sq K Hi b ys/\Hi D=some (.lst zs)) /\
   (∀i x y zs Hi,xs[i]?=some x->ys[i]?=some y->Pv i zs Hi->∀t,Hi t=none->tt (some x::some y::rest) (upd Hi t (.tup [x,y])) λb H3=>if b=true then te (some x::some y::rest) H3 λz H4=>H4 D=some (.lst zs)/\zs.length < sizeLine/\Pv (i+1) (zs++[z]) (upd H4 D (.lst (zs++[z]))) else Pv (i+1) zs H3) /\
   ∀zs Hi,Pv xs.length zs Hi->Q (.ref D) Hi):fX (yc K k1 k2 ta) zS (vq K 2 (jn (aW 0) (jn (aW 1) vo))) tt te σ H Q:=by
 refine⟨hw _ ⟨a,b,rfl,⟨xs,ha⟩,⟨ys,hb⟩,λD hD=>?_⟩⟩
 obtain⟨Pv,h0,h1,h2,h3⟩:=k D hD
 refine⟨λi m zs Hi=>m=xs.length - i/\i<=xs.length/\Pv i zs Hi,⟨xs.length,by simp,cb _,h0⟩,?_⟩
 rintro i m zs Hi ⟨rfl,hi,p⟩
 obtain⟨q1,q2,qD⟩:=h1 i zs Hi hi p
 refine⟨qD,?_⟩
 by_cases A0:i < xs.length
 ·refine .inr ⟨⟨xs,xs[i],ys,ys[i]'(by omega),q1,by simp[A0],q2,ai (by omega)⟩,Pv (i+1),λEE H' p'=>⟨xs.length - (i+1),by omega,rfl,A0,p'⟩,λv H' yd=>?_⟩
  obtain⟨t,x,y,ht,rfl,rfl,e1,e2⟩:=yd
  rw[hσ]
  refine⟨t,[x,y],rfl,BU.of aA,rfl,x,[y],rfl,?_⟩
  refine⟨y,[],rfl,rfl,Qi,?_⟩
  exact h2 i x y zs Hi (e1 xs q1) (e2 ys q2) p t ht
 ·have e:i=xs.length:=by omega
  subst e
  exact .inl ⟨⟨xs,ys,q1,q2,.inl rfl⟩,h3 zs Hi p⟩
theorem Jg {K:W.Frag}{k1 k2:SK}{a b:Addr}{xs ys:List V}{g:TG}{tb:TS}{D:Ends}{σ:St}(hlen:ys.length=xs.length)(Pv:Nat->St->Hp->Prop)(h0:Pv 0 σ H)(hl:∀i σ H,i<=xs.length->Pv i σ H->k1.sq K H a xs/\k2.sq K H b ys)
  (hs:∀i x y σ H,xs[i]?=some x->ys[i]?=some y->Pv i σ H->∀t,H t=none->g (.ref t) σ (upd H t (.tup [x,y])) fun σ2 H2=>tb { D with nx:=Pv (i+1),ct:=Pv (i+1),bk:=D.nx } σ2 H2) (hd:∀ σ H,Pv xs.length σ H->D.nx σ H):
  ∃W:Nat->Nat->St->Hp->Prop,(∃m,W 0 m σ H)/\∀i m σ H,W i m σ H->
   ((V8 K k1 k2 a b).stop i H/\D.nx σ H)\/((V8 K k1 k2 a b).go i H/\∃N:St->Hp->Prop,(∀ σ' H',N σ' H'->∃m',m' < m/\W (i+1) m' σ' H')/\∀x H',(V8 K k1 k2 a b).LZ i H x H'->g x σ H' fun σ2 H2=>tb { D with nx:=N,ct:=N,bk:=D.nx } σ2 H2):=by
 refine⟨λi m σ H=>m=xs.length - i/\i<=xs.length/\Pv i σ H,⟨xs.length,by simp,cb _,h0⟩,?_⟩
 rintro i m σ H ⟨rfl,hi,p⟩
 obtain⟨q1,q2⟩:=hl i σ H hi p
 by_cases A0:i < xs.length
 ·refine .inr ⟨⟨xs,xs[i],ys,ys[i]'(by omega),q1,by simp[A0],q2,ai (by omega)⟩,Pv (i+1),λEE H' p'=>⟨xs.length - (i+1),by omega,rfl,A0,p'⟩,λv H' yd=>?_⟩
  obtain⟨t,x,y,ht,rfl,rfl,e1,e2⟩:=yd
  exact hs i x y σ H (e1 xs q1) (e2 ys q2) p t ht
 ·have e:i=xs.length:=by omega
  subst e
  exact .inl ⟨⟨xs,ys,q1,q2,.inl rfl⟩,hd σ H p⟩
structure EG (C:MC)(cn:Nat)(F:Addr->Prop)(H:Hp)(cs:List WC)(ws:List WS):Prop where
 len:cs.length=ws.length
 all:∀(i:Nat) (c:WC) (w:WS),cs[i]?=some c->ws[i]?=some w->c.n=cn/\WR C F H c w
 sep:∀(i j:Nat) (c d:WC),cs[i]?=some c->cs[j]?=some d->i≠j->d.lp≠c.lp/\d.ln≠c.ln/\d.lo≠c.lo/\d.ah≠c.ln
def AR (cs:List WC)(H H':Hp):Prop:=∀b o,H b=some o->(∀c∈cs,b≠c.lp/\b≠c.ln/\b≠c.lo)->H' b=some o
variable {cs:List WC}
theorem AR.trans {H1 H2:Hp}(a:AR cs H H1)(b:AR cs H1 H2):AR cs H H2:=λx o e n=>b x o (a x o e n) n
theorem FK.trans {F1 F2:Addr->Prop}{H1:Hp}(a:FK F F1 H)(b:FK F1 F2 H1)(s:∀x,H1 x=none->H x=none):FK F F2 H:=⟨λx z=>b.1 x (a.1 x z),λx z=>(b.2 x z).elim (a.2 x) λn=>.inr (s x n)⟩
theorem EG.same {C:MC}{cn:Nat}{F:Addr->Prop}{H H':Hp}{cs:List WC}{ws:List WS}(W:EG C cn F H cs ws)(s:zv H H'):EG C cn F H' cs ws:=⟨W.len,λi c w e1 e2=>⟨(W.all i c w e1 e2).1,(W.all i c w e1 e2).2.same s⟩,W.sep⟩
theorem EG.set {C:MC}{cn:Nat}{F F':Addr->Prop}{H H':Hp}{cs:List WC}{ws:List WS}{i:Nat}{c:WC}{w':WS}(W:EG C cn F H cs ws)(hi:cs[i]?=some c)(kp:Kept c F H H')(gr:FK F F' H)(Wi:WR C F' H' c w')(hcn:c.n=cn):EG C cn F' H' cs (ws.set i w'):=by
 have LF:i < ws.length:=by rw[← W.len];exact(af.mp hi).1
 obtain⟨_,KL,_⟩:=id Wi.lp
 refine⟨by rw[d0];exact W.len,λj d v e1 e2=>?_,W.sep⟩
 by_cases Zb:i=j
 ·subst Zb
  rw[hi] at e1
  cases e1
  rw[d6 LF] at e2
  cases e2
  exact⟨hcn,Wi⟩
 ·rw[bm Zb] at e2
  obtain⟨n0,Wj⟩:=W.all j d v e1 e2
  have Vd:∃w,WR C F H c w:=⟨_,(W.all i c _ hi (ai LF)).2⟩
  obtain⟨w0,Vd⟩:=Vd
  obtain⟨s1,s2,s3,s4⟩:=W.sep i j c d hi e1 Zb
  obtain⟨_,a1,_⟩:=Vd.lp
  obtain⟨_,a2,_⟩:=Vd.ln
  obtain⟨_,a3,_⟩:=Vd.lo
  obtain⟨_,b1,_⟩:=Wj.ah
  obtain⟨_,b2,_⟩:=Wj.lp
  obtain⟨_,b3,_⟩:=Wj.ln
  obtain⟨_,b4,_⟩:=Wj.lo
  have Uz:∀b,(b=d.a\/b=d.ah\/b=d.lp\/b=d.ln\/b=d.lo)->∃o,H b=some o:=λb hb=>by
   rcases hb with rfl | rfl | rfl | rfl | rfl
   ·exact⟨_,Wj.ob⟩
   ·exact⟨_,b1⟩
   ·exact⟨_,b2⟩
   ·exact⟨_,b3⟩
   ·exact⟨_,b4⟩
  have keep:∀b o,(b=d.a\/b=d.ah\/b=d.lp\/b=d.ln\/b=d.lo)->H b=some o->H' b=some o:=λb o hb e=>by
   refine kp b o e ?_ ?_ ?_
   ·rcases hb with rfl | rfl | rfl | rfl | rfl
    ·exact bR Wj.ob a1 (λz=>nomatch z)
    ·exact bR b1 a1 (λz=>nomatch z)
    ·exact s1
    ·exact bR b3 a1 (λz=>nomatch z)
    ·exact bR b4 a1 (λz=>nomatch z)
   ·rcases hb with rfl | rfl | rfl | rfl | rfl
    ·exact bR Wj.ob a2 (λz=>nomatch z)
    ·exact s4
    ·exact bR b2 a2 (λz=>nomatch z)
    ·exact s2
    ·exact bR b4 a2 (λz=>nomatch z)
   ·rcases hb with rfl | rfl | rfl | rfl | rfl
    ·exact bR Wj.ob a3 (λz=>nomatch z)
    ·exact bR b1 a3 (λz=>nomatch z)
    ·exact bR b2 a3 (λz=>nomatch z)
    ·exact bR b3 a3 (λz=>nomatch z)
    ·exact s3
  have PM:∀b,(b=d.a\/b=d.ah\/b=d.lp\/b=d.ln\/b=d.lo)->¬ F b->¬ F' b:=λb hb n z=>(gr.2 b z).elim n λe=>by obtain⟨o,e'⟩:=Uz b hb;rw[e] at e';cases e'
  obtain⟨n1,n2,n3,n4,n5⟩:=Vd.nF
  have ex:Ex F H F' H':=λb o e=>⟨λf=>⟨kp b o e (λz=>n3 (z▸f)) (λz=>n4 (z▸f)) (λz=>n5 (z▸f)),gr.1 b f⟩,λm=>kp b o e (λz=>by rw[z,a1] at e;cases e;cases m) (λz=>by rw[z,a2] at e;cases e;cases m) λz=>by rw[z,a3] at e;cases e;cases m⟩
  obtain⟨m1,m2,m3,m4,m5⟩:=Wj.nF
  exact⟨n0,Wj.ex ex keep Wi.dm ⟨PM _ (.inl rfl) m1,PM _ (.inr (.inl rfl)) m2,PM _ (.inr (.inr (.inl rfl))) m3,PM _ (.inr (.inr (.inr (.inl rfl)))) m4,PM _ (.inr (.inr (.inr (.inr rfl)))) m5⟩⟩
theorem EG.own {ws:List WS}{D:Addr}{u o:HO}(W:EG C cn F H cs ws)(hD:H D=some u)(m:gF u=true)(nF:¬ F D)(nc:∀c∈cs,D≠c.a/\D≠c.ah/\D≠c.lp/\D≠c.ln/\D≠c.lo):EG C cn F (upd H D o) cs ws:=by
 have nD:∀b,F b->b≠D:=λb f z=>nF (z▸f)
 refine⟨W.len,λi c w e1 e2=>?_,W.sep⟩
 obtain⟨n0,Wi⟩:=W.all i c w e1 e2
 obtain⟨n1,n2,n3,n4,n5⟩:=nc c (de e1)
 refine⟨n0,Wi.ex (λb o e=>⟨λf=>⟨by rw[ao (nD b f)];exact e,f⟩,λq=>?_⟩) (λb o hb e=>?_) (λb f=>?_) Wi.nF⟩
 ·rw[ao ?_]
  ·exact e
  ·intro z;rw[z,hD] at e;cases e;rw[m] at q;cases q
 ·rw[ao ?_]
  ·exact e
  ·rcases hb with rfl | rfl | rfl | rfl | rfl
   ·exact n1.symm
   ·exact n2.symm
   ·exact n3.symm
   ·exact n4.symm
   ·exact n5.symm
 ·obtain⟨o,e⟩:=Wi.dm b f
  exact⟨o,by rw[ao (nD b f)];exact e⟩
theorem EG.nc {ws:List WS}{D:Addr}(W:EG C cn F H cs ws)(hD:H D=none):∀c∈cs,D≠c.a/\D≠c.ah/\D≠c.lp/\D≠c.ln/\D≠c.lo:=λc hc=>by
 obtain⟨i,hi⟩:=ef.mp hc
 have LF:i < ws.length:=by rw[← W.len];exact(af.mp hi).1
 obtain⟨_,Wi⟩:=W.all i c _ hi (ai LF)
 obtain⟨_,b1,_⟩:=Wi.ah
 obtain⟨_,b2,_⟩:=Wi.lp
 obtain⟨_,b3,_⟩:=Wi.ln
 obtain⟨_,b4,_⟩:=Wi.lo
 exact⟨(aq Wi.ob hD).symm,(aq b1 hD).symm,(aq b2 hD).symm,(aq b3 hD).symm,(aq b4 hD).symm⟩
noncomputable def Ve (pb:List PV->Option PV)(cn:Nat)(S:List PV):List WS->List Int->Option (List PV×List WS)
 | [],[]=>some ([],[])
 | w::ws,n::ns=>(sV pb cn S w n).bind λr=>(Ve pb cn S ws ns).bind λq=>some (r.1::q.1,r.2::q.2)
 | _,_=>none
noncomputable def oK:List PV->Option (List Int)
 | []=>some []
 | .int i::r=>(oK r).bind λl=>some (i::l)
 | _=>none
noncomputable def uI (m:Nat):List PV->Option (List (List Int))
 | []=>some []
 | .lst l::r=>(oK l).bind λk=>(uI m r).bind λq=>if k.length=m then some (k::q) else none
 | _=>none
noncomputable def Vf (pb:List PV->Option PV)(cn:Nat)(S:List PV)(ws:List WS)(ns:qr):Option (List (List Int)×List WS):=
 (Ve pb cn S ws ns).bind λr=>(uI S.length r.1).bind λrows=>some ((List.range S.length).map λi=>rows.map λk=>k.getD i 0,r.2)
noncomputable def BC (n:qr):PV:=.tup (n.map PV.int)
def zF (C:MC)(cn:Nat)(pb:List PV->Option PV)(S:List PV):Sp:=λvs H Q _=>∃F cs ws ns nodes EH wl vn,vs=[.ref wl,vn]/\cs≠[]/\WT C.K (C.cl cn)/\EG C cn F H cs ws/\H wl=some (.lst (cs.map λc=>V.ref c.a))/\¬ F wl/\(∀c∈cs,wl≠c.lp)/\cs.length<=1000/\Rep C F H vn (BC ns)/\Vf pb cn S ws ns=some (nodes,EH) /\
 ∀H' F' l HZ,AR cs H H'->FK F F' H->EG C cn F' H' cs EH->H l=none->¬ F' l->H' l=some (.lst HZ)->zt C F' H' HZ (nodes.map BC)->Q (.ref l) H'
theorem Jh {S:List PV}{E:XK}(h:zF C cn pb S vs H Q E):vs.length=2:=by
 obtain⟨F,cs,ws,ns,nodes,EH,wl,vn,e,_⟩:=h
 rw[e];rfl
def Qj (C:MC)(cn:Nat)(pb:List PV->Option PV)(S:List PV):TE:=fX (yc C.K .L .T (aM (aG 0) (aM (aG 1) bh))) [none,none] (vq C.K 2 (jn (aW 0) (jn (aW 1) vo))) oh (jO (C.cl cn) "later" (uH C cn pb S) [] E0 (aG 0) (aM (aG 1) bh))
theorem qj {C:MC}{A:Addr->Prop}{H:Hp}:∀{ns:qr}{vs:List V},zt C A H vs (ns.map PV.int)->vs=ns.map V.int
 | [],_,r=>by cases r;rfl
 | n::ns,_,r=>by
  cases r with
  | cons h t=>
   cases h
   rw[qj t]
   rfl
theorem vY {pb:List PV->Option PV}{cn:Nat}{S:List PV}:∀{ws EH:List WS}{ns:qr}{ls:List PV},Ve pb cn S ws ns=some (ls,EH)->ws.length=ns.length/\ls.length=ws.length/\EH.length=ws.length
 | [],_,[],_,h=>by cases h;exact⟨rfl,rfl,rfl⟩
 | [],_,_::_,_,h=>by cases h
 | _::_,_,[],_,h=>by cases h
 | w::ws,EH,n::ns,ls,h=>by
  obtain⟨r,_,h2⟩:=ag.mp (show ((sV pb cn S w n).bind _)=_ from h)
  obtain⟨⟨q1,q2⟩,h3,h4⟩:=ag.mp h2
  cases h4
  obtain⟨a1,a2,a3⟩:=vY h3
  exact⟨by simp[a1],by simp[a2],by simp[a3]⟩
theorem AR.tup {C:MC}{cn:Nat}{F:Addr->Prop}{H H':Hp}{cs:List WC}{ws:List WS}(W:EG C cn F H cs ws)(kp:AR cs H H'){b:Addr}{o:HO}(e:H b=some o)(m:gF o=false):H' b=some o:=by
 refine kp b o e λc hc=>?_
 obtain⟨i,hi⟩:=ef.mp hc
 have LF:i < ws.length:=by rw[← W.len];exact(af.mp hi).1
 obtain⟨_,Wi⟩:=W.all i c _ hi (ai LF)
 obtain⟨_,b2,_⟩:=Wi.lp
 obtain⟨_,b3,_⟩:=Wi.ln
 obtain⟨_,b4,_⟩:=Wi.lo
 exact⟨λz=>(by rw[z,b2] at e;cases e;cases m),λz=>(by rw[z,b3] at e;cases e;cases m),λz=>(by rw[z,b4] at e;cases e;cases m)⟩
theorem AR.lst {C:MC}{cn:Nat}{F:Addr->Prop}{H H':Hp}{cs:List WC}{ws:List WS}(W:EG C cn F H cs ws)(kp:AR cs H H'){b:Addr}{xs:List V}(e:H b=some (.lst xs))(n:∀c∈cs,b≠c.lp):H' b=some (.lst xs):=by
 refine kp b _ e λc hc=>?_
 obtain⟨i,hi⟩:=ef.mp hc
 have LF:i < ws.length:=by rw[← W.len];exact(af.mp hi).1
 obtain⟨_,Wi⟩:=W.all i c _ hi (ai LF)
 obtain⟨_,b3,_⟩:=Wi.ln
 obtain⟨_,b4,_⟩:=Wi.lo
 exact⟨n c hc,bR e b3 (λz=>nomatch z),bR e b4 (λz=>nomatch z)⟩
theorem AR.Uz {H':Hp}{ws:List WS}(kp:AR cs H H')(W:EG C cn F H' cs ws){x:Addr}(e:H' x=none):H x=none:=by
 cases q:H x with
 | none=>rfl
 | some o=>
  have nc:=W.nc e
  rw[kp x o q λc hc=>⟨(nc c hc).2.2.1,(nc c hc).2.2.2.1,(nc c hc).2.2.2.2⟩] at e
  cases e
theorem Kept.S {c:WC}{H':Hp}(k:Kept c F H H')(hc:c∈cs):AR cs H H':=λb o e n=>k b o e (n c hc).1 (n c hc).2.1 (n c hc).2.2
theorem nb1 {S:List PV}{ws EH:List WS}{ns:qr}{ls:List PV}{wl b:Addr}{rest:St}{R:VK}(T:WT C.K (C.cl cn))(W:EG C cn F H cs ws)(D4:H wl=some (.lst (cs.map λc=>V.ref c.a)))(F3:∀c∈cs,wl≠c.lp)(hz:cs.length<=1000)
  (hb:DC C.K H b (ns.map V.int)) (hn:Ve pb cn S ws ns=some (ls,EH)) (dF:∀D,H D=none->¬ F D)
  (q:∀H' F' D zs,AR cs H H'->FK F F' H->EG C cn F' H' cs EH->H D=none->¬ F' D->H' D=some (.lst zs)->zt C F' H' zs ls->R (.ref D) H'):
  Qj C cn pb S (some (.ref wl)::some (.ref b)::rest) H R:=by
 obtain⟨l1,l2,l3⟩:=vY hn
 have lc:=W.len
 refine Eg (a:=wl) (b:=b) (xs:=cs.map λc=>V.ref c.a) (ys:=ns.map V.int) (rest:=[]) (λR r=>⟨_,rfl,_,rfl,r⟩) rfl (by simp;omega) (AS.of D4) hb.sq λD hD=>?_
 have wD:wl≠D:=aq D4 hD
 refine⟨λi zs Hi=>∃Fi Wg Wh Sj OH,Ve pb cn S (ws.drop i) (ns.drop i)=some (Wg,Wh)/\ls=Sj++Wg/\EH=OH++Wh/\Sj.length=i/\OH.length=i/\EG C cn Fi Hi cs (OH++ws.drop i)/\zt C Fi Hi zs Sj/\FK F Fi H/\AR cs H Hi/\Hi D=some (.lst zs)/\¬ Fi D,
  ⟨F,ls,EH,[],[],hn,rfl,rfl,rfl,rfl,W.same (aD hD _),.nil,⟨λ_ z=>z,λ_ z=>.inl z⟩,λx o e _=>aD hD _ x o e,aA,dF D hD⟩,
  λi zs Hi _ ⟨Fi,Wg,Wh,Sj,OH,h1,h2,h3,h4,h5,Wi,ri,gi,ki,di,ni⟩=>⟨AS.of (ki.lst W D4 F3),DC.sq (hb.imp (λz=>ki.tup W z rfl) id),di⟩,λi x y zs Hi hx hy ⟨Fi,Wg,Wh,Sj,OH,h1,h2,h3,h4,h5,Wi,ri,gi,ki,di,ni⟩ t ht=>?_,
  λzs Hi ⟨Fi,Wg,Wh,Sj,OH,h1,h2,h3,h4,h5,Wi,ri,gi,ki,di,ni⟩=>?_⟩
 ·dsimp only [oh]
  refine iT ?_
  rw[cm] at hx hy
  obtain⟨c,hc,rfl⟩:=bP.mp hx
  obtain⟨n,K0,rfl⟩:=bP.mp hy
  have hi:i < cs.length:=(af.mp hc).1
  have hw:ws.drop i=ws[i]'(by omega)::ws.drop (i+1):=ce (by omega)
  have Xr:ns.drop i=n::ns.drop (i+1):=by
   rw[ce (by omega)]
   congr 1
   exact(af.mp K0).2
  generalize ws[i]'(by omega)=w at hw
  rw[hw,Xr] at h1
  obtain⟨⟨l,w1⟩,hl,h1⟩:=ag.mp (show ((sV pb cn S w n).bind _)=_ from h1)
  obtain⟨⟨q1,q2⟩,hr,he⟩:=ag.mp h1
  cases he
  have cur:(OH++ws.drop i)[i]?=some w:=by rw[hw,j3 (by omega),h5];simp
  have s1:=aD ht (.tup [V.ref c.a,V.int n])
  have Wt:=Wi.same s1
  obtain⟨Sk,Wc⟩:=Wt.all i c w hc cur
  have dt:upd Hi t (.tup [V.ref c.a,V.int n]) D=some (.lst zs):=s1 _ _ di
  refine⟨_,rfl,c.a,c.dx,_,rfl,by rw[← Sk];exact Wc.ob,rfl,_,rfl,?_⟩
  refine⟨Fi,c,w,n,l,w1,rfl,Sk,by rw[Sk];exact T,Wc,by rw[Sk];exact hl,λH' F' v kp gr W' rv=>?_⟩
  have mc:=de hc
  have Zc:=W.nc hD c mc
  have dD:H' D=some (.lst zs):=kp D _ dt Zc.2.2.1 Zc.2.2.2.1 Zc.2.2.2.2
  have PM:¬ F' D:=λz=>(gr.2 D z).elim ni λe=>by rw[dt] at e;cases e
  have Ws:=Wt.set hc kp gr W' Sk
  have es:(OH++ws.drop i).set i w1=(OH++[w1])++ws.drop (i+1):=by
   rw[hw,List.set_append_right _ _ (by omega),h5]
   simp
  rw[es] at Ws
  have kS:AR cs Hi H':=AR.trans (λx o e _=>s1 x o e) (kp.S mc)
  have exz:Ex Fi Hi F' H':=λx o e=>by
   have e':=s1 x o e
   obtain⟨m1,m2,m3,m4,m5⟩:=Wc.nF
   obtain⟨_,a1,_⟩:=Wc.lp
   obtain⟨_,a2,_⟩:=Wc.ln
   obtain⟨_,a3,_⟩:=Wc.lo
   exact⟨λf=>⟨kp x o e' (λz=>m3 (z▸f)) (λz=>m4 (z▸f)) (λz=>m5 (z▸f)),gr.1 x f⟩,λm=>kp x o e' (λz=>by rw[z,a1] at e';cases e';cases m) (λz=>by rw[z,a2] at e';cases e';cases m) λz=>by rw[z,a3] at e';cases e';cases m⟩
  have exD:Ex F' H' F' (upd H' D (.lst (zs++[v]))):=λx o e=>⟨λf=>⟨by rw[ao (show x≠D from λz=>PM (z▸f))];exact e,f⟩,λm=>by
   rw[ao (show x≠D from λz=>by rw[z,dD] at e;cases e;cases m)]
   exact e⟩
  have lz:zs.length=Sj.length:=ri.length
  refine⟨dD,bY (by omega),F',q1,q2,Sj++[l],OH++[w1],hr,by rw[h2];simp,by rw[h3];simp,by simp[h4],by simp[h5],Ws.own dD rfl PM (λd hd=>W.nc hD d hd),((ri.ex exz).ex exD).append (.cons (rv.ex exD) .nil),gi.trans gr (λx e=>ki.Uz Wi (s1.free e)),λx o e n=>?_,aA,PM⟩
  rw[ao (aq e hD)]
  exact(ki.trans kS) x o e n
 ·have hdw:ws.drop (cs.map λc=>V.ref c.a).length=[]:=by rw[aI,lc];simp
  have hdn:ns.drop (cs.map λc=>V.ref c.a).length=[]:=by rw[aI,lc,l1];simp
  rw[hdw,hdn] at h1
  cases h1
  rw[bS] at h2 h3
  rw[hdw,bS] at Wi
  subst h2 h3
  exact q Hi Fi D zs ki gi Wi hD ni di ri
theorem Be {K:W.Frag}{a:Addr}{us:List V}{tl:TE}{zS:List (Option Nat)}{tt:TT}{te:TE}{σ rest:St}(hw:∀R:VK,R (.ref a) H->tl σ H R)(hσ:bT zS σ=none::rest)(ha:AS K H a us)
  (k:∀D,H D=none->∃Pv:Nat->List V->Hp->Prop,Pv 0 [] (upd H D (.lst []))/\(∀i ys H,i<=us.length->Pv i ys H->AS K H a us/\H D=some (.lst ys)) /\
   (∀i x ys H,us[i]?=some x->Pv i ys H->tt (some x::rest) H λb H3=>if b=true then te (some x::rest) H3 λy H4=>H4 D=some (.lst ys)/\ys.length < sizeLine/\Pv (i+1) (ys++[y]) (upd H4 D (.lst (ys++[y]))) else Pv (i+1) ys H3) /\
   ∀ys H,Pv us.length ys H->Q (.ref D) H):fX (xU K tl) zS (aW 0) tt te σ H Q:=
 ⟨hw _ ⟨a,rfl,⟨us,ha⟩,λD hD=>let ⟨Pv,h0,h1,h2,h3⟩:=k D hD;Ge hσ Pv h0 h1 h2 h3⟩⟩
theorem Eh {n:Nat}{ta:TA}{zS:List (Option Nat)}{tt:TT}{te:TE}{σ rest:St}(hw:∀R:List V->Hp->Prop,R [.int (n:Nat)] H->ta σ H R)(hn:n<=1000000)(hσ:bT zS σ=none::rest)
  (k:∀D,H D=none->∃Pv:Nat->List V->Hp->Prop,Pv 0 [] (upd H D (.lst []))/\(∀i ys H,i<=n->Pv i ys H->H D=some (.lst ys)) /\
   (∀i ys H,i < n->Pv i ys H->tt (some (.int (0+(i:Nat)))::rest) H λb H3=>if b=true then te (some (.int (0+(i:Nat)))::rest) H3 λy H4=>H4 D=some (.lst ys)/\ys.length < sizeLine/\Pv (i+1) (ys++[y]) (upd H4 D (.lst (ys++[y]))) else Pv (i+1) ys H3) /\
   ∀ys H,Pv n ys H->Q (.ref D) H):fX (CW ta) zS (aW 0) tt te σ H Q:=by
 refine⟨hw _ ⟨(n:Nat),rfl,by omega,by omega,λD hD=>?_⟩⟩
 obtain⟨Pv,h0,h1,h2,h3⟩:=k D hD
 have e:((n:Nat):Int).toNat=n:=rfl
 rw[e]
 exact Dk hσ Pv h0 h1 h2 h3
abbrev Sy (K:PySem.W.Frag):List V->Hp->VK->Prop:=λxs H Q=>∃p ys,xs=[.ref p]/\((AS K H p ys/\∀l,H l=none->Q (.ref l) (upd H l (.tup ys)))\/(BU K H p ys/\Q (.ref p) H))
def Qk (K:W.Frag)(aS:Addr):TE:=fX (CW (aM (LM (zA K) (aM (tC (.ref aS)) bh)) bh)) [none,some 2] (aW 0) oh
 (LM (Sy K) (aM (fX (xU K (aG 1)) [none,some 0] (aW 0) oh (L3 (vD K) (aG 0) (aG 1))) bh))
theorem xg {C:MC}{A:Addr->Prop}{H:Hp}:∀{l:List PV}{k:qr}{vs:List V},zt C A H vs l->oK l=some k->vs=k.map V.int
 | [],_,_,r,e=>by cases e;cases r;rfl
 | p::l,k,_,r,e=>by
  cases p <;> first | (cases e;done) | skip
  obtain⟨k2,h2,e⟩:=ag.mp (show ((oK l).bind _)=_ from e)
  cases e
  cases r with
  | cons h t=>cases h;rw[xg t h2];rfl
theorem xj {C:MC}{A:Addr->Prop}{H:Hp}{m:Nat}:∀{ls:List PV}{rows:List (List Int)}{zs:List V},zt C A H zs ls->uI m ls=some rows->zs.length=rows.length/\∀(j:Nat) (z:V),zs[j]?=some z->∃a row,z=.ref a/\H a=some (.lst (row.map V.int))/\rows[j]?=some row/\row.length=m
 | [],_,_,r,e=>by cases e;cases r;exact⟨rfl,λj z h=>by simp at h⟩
 | p::ls,rows,_,r,e=>by
  cases p <;> first | (cases e;done) | skip
  rename_i l
  obtain⟨k,h1,e⟩:=ag.mp (show ((oK l).bind _)=_ from e)
  obtain⟨q,h2,e⟩:=ag.mp e
  split at e
  ·rename_i hk
   cases e
   cases r with
   | cons h t=>
    obtain⟨l1,l2⟩:=xj t h2
    refine⟨by simp[l1],λj z hz=>?_⟩
    cases j with
    | zero=>
     simp at hz
     subst hz
     cases h with
     | lst e _ r=>exact⟨_,k,rfl,by rw[← xg r h1];exact e,rfl,hk⟩
    | succ j=>exact l2 j z (by simpa using hz)
  ·cases e
theorem nb2 {m:Nat}{aS lv:Addr}{us zs:List V}{ls:List PV}{rows:List (List Int)}{v0 v1:Option V}{R:VK}(hS:BU C.K (λ_=>none) aS us)(hu:us.length=m)(hm:m<=1000)(hlv:H lv=some (.lst zs))(hz:zs.length<=1000)(rz:zt C F H zs ls)(hr:uI m ls=some rows)
  (q:∀H' D HZ,zv H H'->H D=none->H' D=some (.lst HZ)->zt C F H' HZ (((List.range m).map λi=>rows.map λk=>k.getD i 0).map BC)->R (.ref D) H'):Qk C.K aS [v0,v1,some (.ref lv)] H R:=by
 obtain⟨lz,rowAt⟩:=xj rz hr
 refine Eh (n:=m) (rest:=[some (.ref lv)]) (λR r=>?_) (by omega) rfl λD hD=>?_
 ·exact⟨aS,us,rfl,.inr (j9 hS),by rw[hu];exact r⟩
 ·refine⟨λi ys Hi=>zv H Hi/\Hi D=some (.lst ys)/\ys.length=i/\zt C (λ_=>False) Hi ys (((List.range i).map λi=>rows.map λk=>k.getD i 0).map BC),⟨aD hD _,aA,rfl,.nil⟩,λi ys Hi _ h=>h.2.1,?_,λys Hi ⟨s,d,l,r⟩=>q Hi D ys s hD d (r.ex (aU λ_ _ _ z=>z.elim))⟩
  rintro i ys Hi hi ⟨s,d,l,r⟩
  dsimp only [oh]
  refine iT ?_
  have Wk:=s _ _ hlv
  refine Be (a:=lv) (us:=zs) (rest:=[some (.int (0+(i:Nat)))]) (λR r=>⟨_,rfl,r⟩) rfl (AS.of Wk) λD2 Wl=>?_
  refine⟨λj PR Hj=>zv Hi Hj/\Hj D2=some (.lst PR)/\PR=(rows.take j).map λk=>V.int (k.getD i 0),⟨aD Wl _,aA,by simp⟩,λj PR Hj _ h=>⟨AS.of (h.1 _ _ Wk),h.2.1⟩,λj z PR Hj hz2 ⟨s2,d2,l2⟩=>?_,λPR Hj ⟨s2,d2,l2⟩=>?_⟩
  ·dsimp only [oh]
   refine iT ?_
   obtain⟨a,row,rfl,ha,Wm,hlen⟩:=rowAt j z hz2
   have hj:j < rows.length:=(af.mp Wm).1
   refine⟨_,rfl,_,rfl,a,row.map V.int,_,.int (row.getD i 0),rfl,rfl,AS.of (s2 _ _ (s _ _ ha)),?_,d2,bY ?_,s2.over Wl _,aA,?_⟩
   ·unfold BY IU
    have LF:i < row.length:=by omega
    have e1:(0:Int)<=0+(i:Nat):=by omega
    simp[LF]
   ·rw[l2,aI,g9];omega
   ·rw[l2,List.take_add_one,Wm];simp
  ·refine⟨D2,PR,rfl,.inl ⟨AS.of d2,λt ht=>?_⟩⟩
   rw[lz,nS] at l2
   have dj:Hj D=some (.lst ys):=s2 _ _ d
   have st:=aD ht (.tup PR)
   have nDt:D≠t:=aq dj ht
   refine⟨st _ _ dj,bY (by omega),((s.trans s2).trans st).over hD _,aA,by simp[l],?_⟩
   have ex:Ex (λ_=>False) Hi (λ_=>False) (upd (upd Hj t (.tup PR)) D (.lst (ys++[.ref t]))):=λx o e=>⟨λz=>z.elim,λm=>by
    rw[ao (show x≠D from λz=>by rw[z,d] at e;cases e;cases m)]
    exact st x o (s2 x o e)⟩
   have er:(List.range (i+1)).map (λi=>rows.map λk=>k.getD i 0)=(List.range i).map (λi=>rows.map λk=>k.getD i 0)++[rows.map λk=>k.getD i 0]:=by rw[List.range_succ,dL];rfl
   rw[er,dL]
   refine(r.ex ex).append (.cons (.tup (vs:=PR) (by rw[ao nDt.symm,aA]) ?_) .nil)
   rw[l2,ix]
   exact j0 _ _ (λk=>.int _) rows
def Zd (C:MC)(cn:Nat)(pb:List PV->Option PV)(S:List PV)(aS:Addr):TS:=cz (gn (Qj C cn pb S) (aW 2)) (iK (Qk C.K aS))
theorem Ql {S:List PV}{aS:Addr}{E:XK}(hS:qi C aS S)(hm:S.length<=1000)(h:zF C cn pb S vs H Q E):Zd C cn pb S aS { nx:=λ_ H'=>Q .zD H',rt:=Q } (L2.start ["walks","node","later"] vs) H:=by
 obtain⟨F,cs,ws,ns,nodes,EH,wl,vn,rfl,ne,T,W,D4,nwF,F3,hz,rn,hn,q⟩:=h
 obtain⟨us,PH,Uy⟩:=hS
 have oG:us.length=S.length:=(Uy F H).length
 obtain⟨⟨ls,w2⟩,hF,hn⟩:=ag.mp hn
 obtain⟨rows,hr,hn⟩:=ag.mp hn
 cases hn
 obtain⟨b,vs,rfl,hb,rb⟩:=zC.tup (.inl rn)
 have ev:=qj rb
 subst ev
 unfold Zd
 dsimp only [cz,gn,iK,aW]
 obtain⟨c,hc⟩:=kf _ ne
 obtain⟨i,hi⟩:=ef.mp hc
 have LF:i < ws.length:=by rw[← W.len];exact(af.mp hi).1
 have dm:=(W.all i c _ hi (ai LF)).2.dm
 refine nb1 (rest:=[none]) T W D4 F3 hz hb hF (λD e z=>by obtain⟨o,e'⟩:=dm D z;rw[e] at e';cases e') λH1 F1 D zs k1 g1 W1 hD nD d1 r1=>?_
 obtain⟨l1,l2,l3⟩:=vY hF
 have lz:zs.length=ls.length:=r1.length
 have lc:=W.len
 refine nb2 (C:=C) (F:=F1) (us:=us) (zs:=zs) (ls:=ls) PH oG hm d1 (by omega) r1 hr λH' D2 HZ s Wl d2 r2=>?_
 have Ze:∀b,F1 b->∃o,H1 b=some o:=(W1.all i c _ hi (ai (by have:=W1.len;omega))).2.dm
 exact q H' F1 D2 HZ (λx o e n=>s x o (k1 x o e n)) g1 (W1.same s) (k1.Uz W1 Wl) (λz=>by obtain⟨o,e⟩:=Ze D2 z;rw[Wl] at e;cases e) d2 r2
end Lake.MR
namespace Lake.L2
open PySem PySem.Spec PyProof.Rows
theorem nO:fillsNumberSlot (.type "tuple") "mul" = pure false:=
 PySem.fillsNumberSlot_seq (id := "tuple.__mul__") (r:=some (.builtin "tuple.__rmul__")) k8.lookup (by decide +kernel) (by rw[eK,cS];kernel_rfl) (by decide +kernel)
theorem Bf:typeLookup (.type "tuple") "__rmul__" = pure (some (.builtin "tuple.__rmul__")):=by rw[eK,cS];kernel_rfl
theorem uJ:seqRepeat? (.type "tuple")=pure (some (.builtin "tuple.__mul__")):=by
 unfold seqRepeat?
 rw[PySem.seqSlot_of (T := "tuple") (name := "__mul__") (id := "tuple.__mul__") k8.lookup (by decide +kernel),PySem.seqSlot_of (T := "tuple") (name := "__rmul__") (id := "tuple.__rmul__") Bf (by decide +kernel)]
 rfl
theorem zG (a:Int)(t:Tok)(l:Addr)(items:qA)(n:Nat)(sl:Array (Option Value)):Meets (Builtin.«int.__rmul__» ⟨[.int a t,.ref l],[]⟩) (λ_ R s=>s.heap.get? l=some { cls:=.type "tuple",dict:=none,data:=.seq items n,slots:=sl }/\R (.ok (.ret Value.notImplemented)) s):=
 .of_wp λprog w A R s h=>by
  obtain⟨hp,g,d,tk,os⟩:=s
  obtain⟨h1,h⟩:=h
  wp_walk
  exact⟨_,rfl,h⟩
theorem Bg (l:Addr)(t:Tok)(items:qA)(n:Nat)(sl:Array (Option Value)):Meets (Builtin.«tuple.__mul__» ⟨[.ref l,.int 1 t],[]⟩) (λ_ R s=>s.heap.get? l=some { cls:=.type "tuple",dict:=none,data:=.seq items n,slots:=sl }/\R (.ok (.ret (.ref l))) s):=
 .of_wp λprog w A R s h=>by
  obtain⟨hp,g,d,tk,os⟩:=s
  obtain⟨h1,h⟩:=h
  unfold Builtin.«tuple.__mul__»
  wp_walk
  exact⟨_,rfl,h⟩
theorem Bh (l:Addr)(t:Tok)(u:Value)(n:Nat)(sl:Array (Option Value)):Meets (Builtin.«tuple.__mul__» ⟨[.ref l,.int 2 t],[]⟩) (λ_ R s=>s.heap.get? l=some { cls:=.type "tuple",dict:=none,data:=.seq #[u] n,slots:=sl }/\R (.ok (.ret (.ref s.heap.objs.size))) { s with heap:=s.heap.push { cls:=.type "tuple",data:=.seq #[u,u] } }):=
 .of_wp λprog w A R s h=>by
  obtain⟨hp,g,d,tk,os⟩:=s
  obtain⟨h1,h⟩:=h
  unfold Builtin.«tuple.__mul__»
  wp_walk
  exact⟨_,rfl,h⟩
section
variable {X:Cx}
def Ko:R2:=λx y H Q=>∃t u,x=.ref t/\H t=some (.tup [u])/\((y=.int 1/\Q (.ref t) H)\/(y=.int 2/\∀l,H l=none->Q (.ref l) (upd H l (.tup [u,u]))))
theorem LQ:B2 X (binaryOp .Mult) Ko:=by
 intro zl s σ H x y v u Q I rx ry h
 obtain⟨t,a,rfl,ht,h⟩:=h
 cases rx
 obtain⟨_,zw,r,⟨c,dd,da,sl⟩,e1,e2,n,e3,e4⟩:=(show Ap X.prog X.w X.K H s.heap t (.tup [a]) from I.Au t _ ht)
 simp only at e2 e3 e4
 subst e2 e3 e4
 obtain⟨w,rfl,rw1⟩:=Vals.one r
 have T:s.TypeIs (.ref t) "tuple" := ⟨_,e1,rfl⟩
 rcases h with ⟨rfl,q⟩ | ⟨rfl,q⟩
 ·obtain⟨tk,rfl⟩:=ry
  exact mI (T := "tuple") (U := "int") (by decide) T (λs'=>ow s' 1 tk) nO F.fills_int_mul lT uJ F.slot_int_index.lookup
   (k7 lT (ow s 1 tk) F.entry_int_rmul (F.args_int_rmul_2 _ _) (zG 1 tk t _ n sl) ⟨e1,rfl,T,k7 k8 T F.entry_tuple_mul (F.args_tuple_mul_2 _ _) (Bg t tk _ n sl) ⟨e1,.ref t,H,I,rfl,q⟩⟩)
 ·obtain⟨tk,rfl⟩:=ry
  refine mI (T := "tuple") (U := "int") (by decide) T (λs'=>ow s' 2 tk) nO F.fills_int_mul lT uJ F.slot_int_index.lookup
   (k7 lT (ow s 2 tk) F.entry_int_rmul (F.args_int_rmul_2 _ _) (zG 2 tk t _ n sl) ⟨e1,rfl,T,k7 k8 T F.entry_tuple_mul (F.args_tuple_mul_2 _ _) (Bh t tk w n sl) ⟨e1,?_⟩⟩)
  exact⟨.ref s.heap.objs.size,_,I.laid (t':=s.toks) (λb o e=>ac _ e) (aw _) (show Ap X.prog X.w X.K _ _ _ (.tup [a,a]) from ⟨by show (2:Nat)<=sizeLine;decide,[w,w],.cons rw1 (.cons rw1 .nil),⟨_,al _ rfl,rfl,0,rfl,rfl⟩⟩),rfl,q _ I.fresh⟩
def uK (i:Nat)(f:Addr)(sp:Sp)(t:TA):TE:=fun σ H Q=>σ[i]?=some (some (.ref f))/\t σ H λvs H1=>sp vs H1 Q E0
theorem Ji {k i:Nat}{f:Addr}{fd:FuncData}{ps:qq}{sp:Sp}{x:Str}{p pos:Pos}{e:Expr}{es:qo}{t:TA}(F:AX X.prog X.w X.K X.mg X.base ED k f fd ps sp)(hr:AN k X.A)(hk:W.keepIn X.K (.ref f)=true)(hb:Binds X.K fd ps [])(ha:PA X (e::es) t)
  (hN:X.N[i]?=some x:=by rfl) (hv:LW X.env.scope x:=by first | exact e9 rfl | exact fb (e9 rfl) | exact fb (fb rfl)) (hd:(x == ("__debug__" : Str))=false:=by decide) (D0:(x == ("__classdict__" : Str))=false:=by decide)
  (he:starEach (e::es) X.env=(false,eval e X.env)::starEach es X.env:=by rfl) (A2:(backTo pos (starEach es X.env)).any (·.1)=false:=by rfl):PE X (.Call (.Name x p) (e::es) [] pos) (uK i f sp t):=by
 intro zl s σ H Q I ⟨hσ,h⟩
 refine fA (AE ((gU hN hv hd D0) zl s σ H (λv H1=>v=.ref f/\t σ H1 λvs H2=>sp vs H2 Q E0) I ⟨_,hσ,rfl,h⟩) ?_)
 rintro u s1 ⟨v,H1,I1,r1,e1,h1⟩
 subst e1
 cases (show u=Value.ref f from r1)
 refine kF (h₀:=X.base) I.ok.mod.D8 hk (AE (ha pos zl s1 σ H1 _ I1 h1) λus s2 ⟨vs,H2,I2,r,q⟩=>⟨I2.B1,?_⟩) he A2
 exact yG F hr hb .nil uo I2 r (by rw[bS];exact q)
end
end Lake.L2
namespace Lake.My
open PySem L2 MR
@[simp] theorem Tp (i j:Int):HA (.int i) (.int j)=some (decide (i=j)):=rfl
@[simp] theorem Tq (i j:Str):HA (.str i) (.str j)=some (decide (i=j)):=rfl
@[simp] theorem T4 (i j:Bool):HA (.bl i) (.bl j)=some (decide (i=j)):=rfl
theorem dG {α:Type}{xs:List α}{k:Nat}{x:α}(h:xs[k]?=some x):BY xs (k:Int)=some x:=K7 h
section
variable {α:Type}{env:MR.Env}{g:PV->MR.Env->Option MR.Env}{t:MR.Env->Option Bool}{f:MR.Env->Option PV}
theorem jB (c h:α->PV):∀(ys:List α),(∀y∈ys,∃e,g (c y) env=some e/\f e=some (h y))->cO env g fH f (ys.map c)=some (ys.map h)
 | [],_=>rfl
 | y::ys,hh=>by
  obtain⟨e,h1,h2⟩:=hh y ar
  have ih:=jB c h ys λz hz=>hh z (am _ hz)
  simp[cO,h1,h2,ih]
theorem ql (c h:α->PV)(p:α->Bool):∀(ys:List α),(∀y∈ys,∃e,g (c y) env=some e/\t e=some (p y)/\(p y=true->f e=some (h y)))->cO env g t f (ys.map c)=some ((ys.filter p).map h)
 | [],_=>rfl
 | y::ys,hh=>by
  obtain⟨e,h1,h2,h3⟩:=hh y ar
  have ih:=ql c h p ys λz hz=>hh z (am _ hz)
  cases hp:p y with
  | true=>simp[cO,h1,h2,h3 hp,ih,hp]
  | false=>simp[cO,h1,h2,ih,hp]
end
theorem qm {α:Type}(c:α->PV):∀(ys:List α) (n:Nat),fG n (ys.map c)=(ys.zipIdx n).map λy=>.tup [.int (y.2:Nat),c y.1]
 | [],_=>rfl
 | y::ys,n=>by simp[fG,qm c ys]
end Lake.My
namespace Lake.MR
open PySem L2 PyProof.Rows PySem.Spec
theorem UA {Bz scope:Scope}{ON N:qq}{zS:List (Option Nat)}(h1:scope.kind=.function:=by rfl)(h2:∀y∈scope.names,y.2≠.cell:=by decide +kernel)(h3:∀y∈scope.names,y.2=.local->scope.names.lookup y.1=some .local:=by decide +kernel)
  (h4:∀y∈scope.names,y.2=.free->Bz.names.lookup y.1=some .cell\/Bz.names.lookup y.1=some .free:=by decide +kernel) (h5:n_ scope ON N zS=true:=by decide +kernel):OE Bz scope ON N zS:=⟨h1,h2,h3,h4,h5⟩
theorem DL {N P:qq}{sc:Scope}(h1:sc.kind=.function:=by rfl)(h2:sc.isCoroutine=false:=by rfl)(h3:sc.isGenerator=false:=by rfl)(h4:N.Nodup:=by decide +kernel)(h5:N.take P.length=P:=by rfl)
  (h6:∀x∈P,sc.names.lookup x=some .local\/sc.names.lookup x=some .cell:=by decide +kernel) (h7:∀y∈sc.names,y.2≠.free:=by decide +kernel):zI N P sc:=⟨h1,h2,h3,h4,h5,h6,h7⟩
theorem qp {X:Cx}{N:qq}{scope:Scope}{C s H fp}{x:Str}{pos:Pos}(i:Nat)(hN:N.Nodup:=by decide +kernel)(hi:N[i]?=some x:=by rfl)(hx:Loc (X.comp N scope C s H fp).env.scope x:=by exact e9 rfl)
  (hf:(X.comp N scope C s H fp).fn x=true\/(X.comp N scope C s H fp).env.scope.names.lookup x=some .local:=by first | exact .inl rfl | exact .inr rfl | assumption):PG (X.comp N scope C s H fp) (.Name x pos) (aW i):=cI hN hi hx hf
section
variable {P:Program}{w:World}{K:W.Frag}{mg:Str->Option Value}{base:Heap}
theorem FA {x qual:Str}{st:Stmt}{f:Addr}{fd:FuncData}{N ps:qq}{k n kk:Nat}{C:MC}{ro:Bool}{g:Env->Option Out}(F:DA K x qual st f fd)(S:zI N ps (aC st))(G G' L:qf)
  (hb:∀{CM:Value}{A:Around}{outer:List PySem.Env}{s:Shared}{H:Hp}{E:XK},AN k (A.deeper (envOfC qual (aC st) s.heap.objs.size f CM))->∀{B H'},IM (rQ ED P w K mg base N qual (aC st) f CM A outer s H E).K2 ⟨C,B,H',λ_=>none⟩ G G' L ro (dR st) g)
  (hp:kk=ps.length:=by rfl) (hN:N.length=n:=by rfl) (hk:kk<=n:=by decide) (hG:(G.all λi=>decide (kk<=i))=true:=by decide):AX P w K mg base ED (k+1) f fd ps (CO C (cC n kk ro g) ro):=
 F.ok S (λvs H Q E h=>(Lq h).trans hp) λCM A outer s H vs Q E hr h=>Lp hN hk hG (λB H'=>hb hr) h
end
end Lake.MR
namespace Lake.L2
open PySem MR
section
variable {K:W.Frag}{x q:Str}{st:Stmt}{f:Addr}{fd:FuncData}{ps:qq}(F:DA K x q st f fd)
include F
theorem DA.UB (hl:ps.length=1:=by rfl)(h:∀k d p n c t a,bindArgs (W.fnOf x q (fW st) (dR st) (aC st) .none k d p n c t) ⟨[a],[]⟩=pure (ps.zip [a]):=by intros;rfl):Binds K fd ps []:=F.binds λk d p n c t us e=>Pz us (e.trans hl) (h k d p n c t)
theorem DA.IP (hl:ps.length=2:=by rfl)(h:∀k d p n c t a b,bindArgs (W.fnOf x q (fW st) (dR st) (aC st) .none k d p n c t) ⟨[a,b],[]⟩=pure (ps.zip [a,b]):=by intros;rfl):Binds K fd ps []:=F.binds λk d p n c t us e=>PB us (e.trans hl) (h k d p n c t)
theorem DA.Zf (hl:ps.length=3:=by rfl)(h:∀k d p n c t a b g,bindArgs (W.fnOf x q (fW st) (dR st) (aC st) .none k d p n c t) ⟨[a,b,g],[]⟩=pure (ps.zip [a,b,g]):=by intros;rfl):Binds K fd ps []:=F.binds λk d p n c t us e=>PJ us (e.trans hl) (h k d p n c t)
theorem DA.bd4 (hl:ps.length=4:=by rfl)(h:∀k d p n c t a b g i,bindArgs (W.fnOf x q (fW st) (dR st) (aC st) .none k d p n c t) ⟨[a,b,g,i],[]⟩=pure (ps.zip [a,b,g,i]):=by intros;rfl):Binds K fd ps []:=F.binds λk d p n c t us e=>Sx us (e.trans hl) (h k d p n c t)
end
open PySem PySem.Spec PyProof.Rows
section
variable {X:Cx}
def yf (K:W.Frag):R2:=λx y H Q=>∃a b ys,x=.ref a/\y=.ref b/\BU K H a []/\BU K H b ys/\Q (.ref b) H
theorem LR:B2 X (binaryOp .Add) (yf X.K):=by
 intro zl s σ H x y v u Q I rx ry h
 obtain⟨a,b,ys,rfl,rfl,ha,hb,q⟩:=h
 cases rx
 cases ry
 obtain⟨zw,r1,p1,_⟩:=I.tuple ha
 obtain⟨CH,r2,p2,_⟩:=I.tuple hb
 cases r1
 obtain⟨⟨cls,dd,data,sl⟩,ho,hc,n,hd⟩:=id p1
 obtain⟨⟨VF,Rl,data2,RA⟩,LN,Ki,n2,hd2⟩:=id p2
 simp only at hc hd Ki hd2
 subst hc hd Ki hd2
 exact concat_meets ⟨_,ho,rfl⟩ ⟨_,LN,rfl⟩ nN pV kN kK (kq _ _)
  (tuple_addW0 a b _ CH.toArray n n2 dd Rl sl RA (by simp)) ⟨ho,LN,⟨.ref b,H,I,rfl,q⟩⟩
end
end Lake.L2
namespace Lake.MR
open PySem L2 PyProof.Rows PySem.Spec
noncomputable def gG:PV->PV->Option PV
 | .tup [],.tup ys=>some (.tup ys)
 | .tup xs,.tup ys=>if xs.length+ys.length<=1000000 then some (.tup (xs++ys)) else none
 | _,_=>none
@[simp] theorem R1 (ys:List PV):gG (.tup []) (.tup ys)=some (.tup ys):=id rfl
@[simp] theorem Ei (x:PV)(xs ys:List PV):gG (.tup (x::xs)) (.tup ys)=if (x::xs).length+ys.length<=1000000 then some (.tup ((x::xs)++ys)) else none:=id rfl
section
variable {X:Cx}{b:BX}{G L:qf}{ro:Bool}{pos apos AA:Pos}{m1 m2:Md}{e1 e2:Expr}{f1 f2:qE}
theorem Jj:FG b .val (λx y H Q=>uh b.C.K x y H Q\/yf b.C.K x y H Q) gG:=by
 intro Ow H v1 v2 p1 p2 p Q hn r1 r2 e k
 unfold gG at e
 split at e
 ·cases e
  obtain⟨a,vs,rfl,ha,ra⟩:=r1.tup
  obtain⟨c,us,rfl,hc,rc⟩:=r2.tup
  cases ra
  exact .inr ⟨a,c,us,rfl,rfl,ha.sq,hc.sq,k _ H (zv.refl _) (hc.rep rc)⟩
 ·rename_i xs ys AM
  split at e
  ·rename_i h
   cases e
   refine .inl (Le Ow H v1 v2 (.tup xs) (.tup ys) (.tup (xs++ys)) Q hn r1 r2 ?_ k)
   show (if xs≠[]/\xs.length+ys.length<=1000000 then some (PV.tup (xs++ys)) else none)=_
   rw[bb ⟨λz=>AM z,h⟩]
  ·cases e
 ·cases e
theorem L_:B2 X (binaryOp .Add) (λx y H Q=>uh X.K x y H Q\/yf X.K x y H Q):=λzl s σ H x y v u Q I rx ry h=>h.elim (K6 zl s σ H x y v u Q I rx ry) (LR zl s σ H x y v u Q I rx ry)
theorem oM (h1:SE X b G m1 e1 f1)(h2:SE X b G m2 e2 f2)(hK:X.K=b.C.K:=by rfl):SE X b G .val (.BinOp e1 .Add e2 pos) (b2 gG f1 f2):=ou (r:=λx y H Q=>uh b.C.K x y H Q\/yf b.C.K x y H Q) (by rw[← hK];exact L_) Jj h1 h2
end
end Lake.MR
namespace Lake.L2
open PySem PySem.Spec PyProof.Rows
section
variable {prog:Program}{w:World}{A:Around}{E:oT}{s:Shared}{a:Addr}
theorem xm:entryFor table "dict.update.loop" = some Builtin.«dict.update.loop»:=nV (by kernel_rfl)
abbrev LG (prog:Program)(w:World):=cR prog w
theorem zH {h h':Heap}(k:∀b o,h.get? b=some o->o.cls=.type "tuple" -> h'.get? b=some o):∀(n:Nat) (x:zo) (v:Value),B9 n h x v->B9 n h' x v
 | 0,_,_,q=>q
 | n+1,x,v,q=>q.imp id λ⟨ns,a,e,ev,o,zw,m,h1,h2,h3,p⟩=>⟨ns,a,e,ev,o,zw,m,k a o h1 h2,h2,h3,dZ p λx y=>zH k n x y⟩
theorem qU {h h':Heap}{ks:List zo}{b:Addr}(e:(LG prog w).is h ks b)(k:∀b o,h.get? b=some o->o.cls=.type "tuple" -> h'.get? b=some o):(LG prog w).is h' ks b:=by
 obtain⟨o,zw,n,h1,h2,h3,r⟩:=e
 exact⟨o,zw,n,k b o h1 h2,h2,h3,dZ r λx y=>zH k 2 x y⟩
theorem zJ {h:Heap}{ks:List zo}{b:Addr}(e:(LG prog w).is h ks b):∃o,h.get? b=some o/\o.cls=.type "tuple" := by
 obtain⟨o,zw,n,h1,h2,r⟩:=e
 exact⟨o,h1,h2⟩
theorem oO {h h':Heap}{d:Addr}{xs:List (List zo×Addr×Value)}(m:AL (LG prog w) h d xs)(k:∀b o,h.get? b=some o->(b=d\/o.cls=.type "tuple")->h'.get? b=some o):AL (LG prog w) h' d xs:=by
 obtain⟨o,es,o1,o2,o3,o4,o5,o6⟩:=m
 refine⟨o,es,k d o o1 (.inl rfl),o2,o3,o4,λx hx=>?_,o6⟩
 obtain⟨ob,h1,h2⟩:=zJ (o5 x hx)
 exact qU (o5 x hx) λb o' e q=>k _ _ e (.inr q)
def oR (prog:Program)(w:World)(h:Heap)(p:List zo×Addr×Value)(u:Value):Prop:=∃t,u=.ref t/\IsTup h t #[.ref p.2.1,p.2.2]/\(LG prog w).is h p.1 p.2.1
theorem GQ (h:Heap):AL (LG prog w) (h.push { cls:=.type "dict",data:=.dict #[] }) h.objs.size []:=⟨_,#[],al _ rfl,⟨rfl,rfl,rfl⟩,rfl,rfl,(λx hx=>absurd hx cq),List.nodup_nil⟩
end
inductive EC (K:W.Frag) (H:Hp):List V->List (List zo×V)->Prop where
 | nil:EC K H [] []
 | cons {t b:Addr}{ks:List zo}{v:V}{ts:List V}{kvs:List (List zo×V)}(h:H t=some (.tup [.ref b,v])\/EN K t [.ref b,v]) (k:B5 K H b ks) (r:EC K H ts kvs):EC K H (.ref t::ts) ((ks,v)::kvs)
noncomputable def gB (kvs more:List (List zo×V)):List (List zo×V):=more.foldl (λacc kv=>putK acc kv.1 kv.2) kvs
theorem pJ:∀(more kvs:List (List zo×V)),(gB kvs more).length<=kvs.length+more.length
 | [],kvs=>aw _
 | p::more,kvs=>by
  have h:=pJ more (putK kvs p.1 p.2)
  have h2:(putK kvs p.1 p.2).length<=kvs.length+1:=by unfold putK;split <;> simp
  show (gB (putK kvs p.1 p.2) more).length<=_
  simp only[bv]
  omega
theorem xn {P:Program}{w:World}{K:W.Frag}{H:Hp}{h:Heap}(D8:K.In h)(ok:CI P w K H h):∀{ts:List V}{kvs:List (List zo×V)}{zw:qh},EC K H ts kvs->Vals ts zw->∃rs:List (List zo×Addr×Value),KT K H kvs rs/\Paired (oR P w h) rs zw
 | _,_,_,.nil,r=>by cases r;exact⟨[],.nil,.nil⟩
 | _,_,_,.cons (t:=t) (b:=b) (ks:=ks) (v:=v) e ck q,r=>by
  cases r with
  | cons r1 r2=>
   cases r1
   obtain⟨rs,h1,h2⟩:=xn D8 ok q r2
   obtain⟨us,hv,ht⟩:∃us,Vals [.ref b,v] us/\IsTup h t us.toArray:=by
    rcases e with e | ⟨o,zw,n,e1,e2,e3,_,r⟩
    ·obtain⟨_,us,hv,ht⟩:=(show Ap P w K H h t (.tup [.ref b,v]) from ok t _ e)
     have ht:=ht.tup
     exact⟨us,hv,ht⟩
    ·exact⟨zw.toList,r,o,D8 t o e1,e2,n,by simpa using e3⟩
   obtain⟨ku,vu,rfl,rk,rv⟩:=vals2 hv
   cases rk
   exact⟨(ks,b,vu)::rs,.cons ⟨rfl,ck,rv⟩ h1,.cons ⟨t,rfl,ht,iQ D8 ok ck⟩ h2⟩
theorem KT.merge {K:W.Frag}{H:Hp}:∀{more:List (List zo×V)}{rs:List (List zo×Addr×Value)}{kvs:List (List zo×V)}{xs:List (List zo×Addr×Value)},KT K H more rs->KT K H kvs xs->KT K H (gB kvs more) (rs.foldl (λacc kv=>storedH acc kv.1 kv.2.1 kv.2.2) xs):=by
 intro more rs kvs xs r
 unfold KT at r
 induction r generalizing kvs xs with
 | nil=>intro q;exact q
 | @cons p q ps qs h t ih=>
  intro r0
  obtain⟨e,ck,rv⟩:=h
  refine ih ?_
  obtain⟨q1,q2,q3⟩:=q
  cases e
  exact KT.put r0 p.1 ck rv
end Lake.L2
namespace Lake.MR
open PySem L2 PyProof.Rows PySem.Spec
noncomputable def oU:List PV->Option (List (List zo×PV))
 | []=>some []
 | .tup [.tup k,v]::r=>(AB k).bind λk=>(oU r).bind λl=>some ((k,v)::l)
 | _::_=>none
@[simp] theorem SJ:oU []=some []:=id rfl
@[simp] theorem R3 (k:List PV)(v:PV)(r:List PV):oU (.tup [.tup k,v]::r)=((AB k).bind λk=>(oU r).bind λl=>some ((k,v)::l)):=id rfl
noncomputable def ik (l acc:List (List zo×PV)):List (List zo×PV):=l.foldl (λacc kv=>bB acc kv.1 kv.2) acc
theorem xq {C:MC}{A:Addr->Prop}{H:Hp}:∀{vs:List V}{xs:List PV}{l:List (List zo×PV)},zt C A H vs xs->oU xs=some l->∃kvs,EC C.K H vs kvs/\AF C A H kvs l
 | _,_,_,.nil,h=>by cases h;exact⟨[],.nil,.nil⟩
 | _,x::xs,l,.cons r1 r2,h=>by
  unfold oU at h
  split at h
  ·rename_i e;cases e
  ·rename_i k v r e
   obtain⟨e1,e2⟩:=List.cons.inj e
   subst e1 e2
   obtain⟨k',hk,h⟩:=az h
   obtain⟨l',OP,h⟩:=az h
   cases h
   obtain⟨kvs,h1,h2⟩:=xq r2 OP
   have q0:zC C A H _ (.tup [.tup k,v]):=.inl r1
   obtain⟨a,us,rfl,ha,ra⟩:=q0.tup
   cases ra with
   | cons rk rv=>
    cases rv with
    | cons rv rn=>
     cases rn
     have q1:zC C A H _ (.tup k):=.inl rk
     obtain⟨b,ks,rfl,hb,rb⟩:=q1.tup
     exact⟨_,.cons ha (hb.key (rb.AB hk)) h1,.cons rv h2⟩
  ·cases h
theorem uL {C:MC}{A:Addr->Prop}{H:Hp}:∀{kvs:List (List zo×V)}{l:List (List zo×PV)}{a:List (List zo×V)}{b:List (List zo×PV)},AF C A H kvs l->AF C A H a b->AF C A H (gB a kvs) (ik l b)
 | _,_,_,_,.nil,r=>r
 | (k,v)::kvs,(_,p)::l,a,b,.cons h t,r=>by
  show AF C A H (gB (putK a k v) kvs) (ik l (bB b k p))
  exact uL t (AF.put h r)
end Lake.MR
namespace Lake.L2
open PySem PySem.Spec PyProof.Rows
theorem zK:typeLookup (.type "tuple") "keys" = pure none:=by rw[eK,cS];kernel_rfl
variable {sl:Array (Option Value)}
section
variable {prog:Program}{w:World}{A:Around}{E:oT}{s:Shared}{a:Addr}
theorem Ma {xs:qA}{k:Nat}{Q:Option Value->Shared->Prop}(hx:s.heap.get? a=some { cls:=.type "tuple",data:=.seq xs k,slots:=sl })(hA:A.handled=none)
  (hq:∀h' tk,(∀b o,s.heap.get? b=some o->h'.get? b=some o)->Q none { s with heap:=h',toks:=tk }):wpAny (model prog w) A (getAttr? (.ref a) "keys") Q E s:=by
 obtain⟨hp,g,d,tk,os⟩:=s
 have hT:∀XQ,(⟨hp,g,d,XQ,os⟩:Shared).TypeIs (.ref a) "tuple" := λ_=>⟨_,hx,rfl⟩
 have f1:=sub_AttributeError
 have f3:=kg.lookup
 have f4:=kg.bind (.ref a)
 have f5:=am_tuple_getattr_none
 unfold getAttr? getAttrBy? getAttrBy
 repeat (any_goals (first | assumption | exact hT _ | ((with_reducible show wpAny _ _ (call (Value.builtin "tuple.__getattribute__") _ _) _ _ _);refine k7 kg (hT _) am_entry_tuple_getattribute (F.args_tuple_getattribute_2 _ _) (meets_getattribute_miss_tuple a xs k sl "keys" _ zK (by decide)) ⟨hx,hA,λh' XQ e ML=>?_⟩) | wp_step))
 obtain⟨t',u',he⟩:=ML.there
 show wpAny _ _ (getattributeRaised _ _ _ _ _ _ _) _ _ _
 unfold getattributeRaised
 repeat (any_goals (first | assumption | wp_step))
 exact hq _ _ ML.keeps
theorem Kq {R:Result->Shared->Prop}{dd it l:Addr}{items:qA}(hA:A.handled=none)(hu:(A.in1).units+3 < cLine)(nd:it≠dd)(nl:l≠dd)(Wn:l≠it):∀(L:List (List zo×Addr×Value)) (rest:qh) (i:Nat) (kvs:List (List zo×Addr×Value)) (s:Shared),
  items.toList.drop i=rest->Paired (oR prog w s.heap) L rest->s.heap.IsTupleIter it l i->s.heap.IsTuple l items->AL (LG prog w) s.heap dd kvs->kvs.length+L.length<=sizeLine->
  (∀h' tk,AL (LG prog w) h' dd (L.foldl (λacc kv=>storedH acc kv.1 kv.2.1 kv.2.2) kvs)->(∀b o,b≠dd->b≠it->s.heap.get? b=some o->h'.get? b=some o)->R (.ok (.ret .none)) { s with heap:=h',toks:=tk })->
  codeAny (model prog w) A (.builtin "dict.update.loop" ⟨[.ref dd,.ref it,rawInt i,.none],[]⟩) R s
 | [],rest,i,kvs,s,hr,hp,hit,hl,hd,hz,hR=>by
  cases hp
  refine gd xm ?_
  unfold Builtin.«dict.update.loop»
  have hx:items[i]?=none:=by
   rw[Array.getElem?_eq_none_iff]
   have:=eT.mp hr
   simpa using this
  show wpAny _ _ (pyNext (.ref it) >>= _) _ _ _
  refine ab (wpAny_pyNext_tuple_end (A:=A.under _) hA hit hl hx λh1 x1=>?_)
  show wpAny _ _ (Builtin.Dict.addKeywords dd [] >>= _) _ _ _
  refine ab (ae (ae ?_))
  obtain⟨oi,Wo,Uo,_⟩:=hit
  refine hR h1 s.toks (oO hd λb o e q=>x1 b o (λz=>?_) e) λb o' _ n2 e=>x1 b o' n2 e
  rcases q with q | q
  ·exact nd (z.symm.trans q)
  ·rw[z,Wo] at e;cases e;rw[Uo] at q;exact absurd (kc q) (by decide)
 | p::L,rest,i,kvs,s,hr,hp,hit,hl,hd,hz,hR=>by
  cases hp with
  | @cons _ u _ us hpu hp=>
   obtain⟨t,rfl,Uu,hk⟩:=hpu
   have hx:items[i]?=some (.ref t):=by
    have e:items.toList[i]?=some (.ref t):=by rw[← List.head?_drop,hr];rfl
    rw[← e];simp
   obtain⟨oi,Wo,Uo,hdi⟩:=id hit
   refine gd xm ?_
   unfold Builtin.«dict.update.loop»
   show wpAny _ _ (pyNext (.ref it) >>= _) _ _ _
   refine ab (nE hit hl hx λh1 JE XS=>?_)
   have IA:∀{b:Addr}{o:Obj},s.heap.get? b=some o->o.cls=.type "tuple" -> b≠it:=λ{b o} e q z=>by rw[z,Wo] at e;cases e;rw[Uo] at q;exact absurd (kc q) (by decide)
   have Sl:∀{b:Addr}{o:Obj},s.heap.get? b=some o->o.cls=.type "tuple" -> b≠dd:=λ{b o} e q z=>by
    obtain⟨od,es,hod,hex,_⟩:=hd
    rw[z,hod] at e;cases e;rw[hex.1] at q;exact absurd (kc q) (by decide)
   obtain⟨ot,hot,hct,nt,hdt⟩:=id Uu
   have Wq:h1.get? t=some ot:=(XS.2 t (IA hot hct)).trans hot
   have hT:({ s with heap:=h1 }:Shared).TypeIs (.ref t) "tuple" := ⟨_,Wq,hct⟩
   show wpAny _ _ (holding [.ref t] _ >>= _) _ _ _
   refine ab (dP ?_)
   refine ab (wpAny_tryCatch ?_)
   unfold Builtin.Dict.pairItems
   refine ab (iq hT ?_)
   rw[bb (by decide)]
   refine ab (fm Wq hdt (ae ?_))
   show wpAny _ _ (holding [.ref p.2.1,p.2.2] (dictSet dd (.ref p.2.1) p.2.2)) _ _ _
   have Zg:AL (LG prog w) h1 dd kvs:=oO hd λb o e q=>(XS.2 b (q.elim (λz=>z▸nd.symm) λz=>IA e z)).trans e
   obtain⟨ok,Au,hck⟩:=zJ hk
   have YW:(LG prog w).is h1 p.1 p.2.1:=qU hk λb o e q=>(XS.2 _ (IA e q)).trans e
   have Zh:kvs.length<=sizeLine:=by simp only[bv] at hz;omega
   refine dP (rN (kd:=LG prog w) ?_ YW Zg Zh λh2 hd2 sb2=>?_)
   ·exact hu
   refine ae ⟨Code.quiet_builtin _ (by decide +kernel),?_⟩
   have keep:∀b o,b≠dd->b≠it->s.heap.get? b=some o->h2.get? b=some o:=λb o n1 n2 e=>(sb2.2 b n1).trans ((XS.2 b n2).trans e)
   have Zi:(storedH kvs p.1 p.2.1 p.2.2).length<=kvs.length+1:=by
    unfold storedH
    split <;> simp
   refine Kq (items:=items) hA hu nd nl Wn L us (i+1) (storedH kvs p.1 p.2.1 p.2.2) _ ?_ ?_ ?_ ?_ hd2 ?_ λh3 tk hd3 k3=>?_
   ·rw[← mB,hr];rfl
   ·have go:∀{L:List (List zo×Addr×Value)}{us:qh},Paired (oR prog w s.heap) L us->Paired (oR prog w h2) L us:=by
     intro L us hp
     induction hp with
     | nil=>exact .nil
     | cons a _ ih=>
      obtain⟨t1,e1,⟨o1,q1,q2,q4⟩,q3⟩:=a
      obtain⟨o2,g1,g2⟩:=zJ q3
      exact .cons ⟨t1,e1,⟨o1,keep t1 o1 (Sl q1 q2) (IA q1 q2) q1,q2,q4⟩,qU q3 λb o e q=>keep _ o (Sl e q) (IA e q) e⟩ ih
    exact go hp
   ·obtain⟨oi,Wo,Uo,hdi⟩:=JE
    exact⟨oi,(sb2.2 it nd).trans Wo,Uo,hdi⟩
   ·obtain⟨ol,XT,hcl,nl',hdl⟩:=hl
    exact⟨ol,keep l ol nl Wn XT,hcl,nl',hdl⟩
   ·simp only[bv] at hz;omega
   ·exact hR h3 tk hd3 λb o n1 n2 e=>k3 b o n1 n2 (keep b o n1 n2 e)
theorem Ej {l:Addr}{zw:qh}{n:Nat}{L:List (List zo×Addr×Value)}{Q:oT}(hA:A.handled=none)(hu:A.units+9 < cLine)(hl:s.heap.get? l=some { cls:=.type "tuple",data:=.seq zw.toArray n,slots:=sl })(hp:Paired (oR prog w s.heap) L zw)(hz:L.length<=sizeLine)
  (hq:∀h' tk,AL (LG prog w) h' s.heap.objs.size (L.foldl (λacc kv=>storedH acc kv.1 kv.2.1 kv.2.2) [])->(∀b o,s.heap.get? b=some o->h'.get? b=some o)->Q (.ref s.heap.objs.size) { s with heap:=h',toks:=tk }):
  wpAny (model prog w) A (call (.type "dict") [.ref l]) Q E s:=by
 refine pd (Q₁:=λobj s₁=>obj=.ref s.heap.objs.size/\s₁={ s with heap:=s.heap.push { cls:=.type "dict",data:=.dict #[] } }) F.kt_called_dict (F.kt_typeCall_dict_1 _) F.entry_dict_init (kt_code_dict_new _ ⟨rfl,rfl⟩) ?_
 rintro obj s₁ ⟨rfl,rfl⟩
 have UC:=GQ (prog:=prog) (w:=w) s.heap
 have ty:({ s with heap:=s.heap.push { cls:=.type "dict",data:=.dict #[] } }:Shared).TypeIs (.ref s.heap.objs.size) "dict" := UC.of.typeIs
 refine⟨ty,F.args_dict_init_2 _ _,?_⟩
 have LP:(s.heap.push { cls:=.type "dict",data:=.dict #[] }).get? l=some { cls:=.type "tuple",data:=.seq zw.toArray n,slots:=sl }:=ac _ hl
 unfold Builtin.«dict.__init__»
 refine ab ?_
 unfold Builtin.Dict.selfAndRest
 refine ab (kU ty ?_)
 show wpAny _ _ (pure (s.heap.objs.size,[Value.ref l])) _ _ _
 refine ae ?_
 show wpAny _ _ (Builtin.Dict.updateFrom "dict.__init__" s.heap.objs.size (.ref l) [] .none) _ _ _
 unfold Builtin.Dict.updateFrom
 refine ab (iq (T := "tuple") ⟨_,LP,rfl⟩ ?_)
 rw[bb (by decide)]
 refine ab (Ma LP hA λh2 tk2 k2=>?_)
 rw[bb (show (none:Option Value).isNone=true from rfl)]
 refine ab (hJ ?_)
 have RE:h2.IsTuple l zw.toArray:=⟨_,k2 _ _ LP,rfl,n,rfl⟩
 refine ab (eS RE ?_)
 refine ae ⟨Code.quiet_builtin _ (by decide +kernel),?_⟩
 have lt1:s.heap.objs.size < h2.objs.size:=by
  obtain⟨o,es,ho,_⟩:=UC
  exact ap (k2 _ _ ho)
 have k3:∀b o,h2.get? b=some o->(h2.push { cls:=.type "tuple_iterator",data:=.fields #[.ref l,.int 0 0] }).get? b=some o:=λb o e=>ac _ e
 have k0:∀b o,s.heap.get? b=some o->(h2.push { cls:=.type "tuple_iterator",data:=.fields #[.ref l,.int 0 0] }).get? b=some o:=λb o e=>k3 b o (k2 b o (ac _ e))
 have old:∀b o,s.heap.get? b=some o->b≠s.heap.objs.size/\b≠h2.objs.size:=λb o e=>by
  have:=ap e
  exact⟨bd this,bd (l9 this lt1)⟩
 refine Kq (A:=A.in1) (items:=zw.toArray) (show A.in1.handled=none from hA) (by rw[in1_units,in1_units];omega) (dE lt1) (old l _ hl).1 (old l _ hl).2 L zw 0 [] _ (by simp) ?_ ?_ ?_ ?_ (by simpa using hz) λh4 tk hd4 k4=>?_
 ·have go:∀{L:List (List zo×Addr×Value)}{us:qh},Paired (oR prog w s.heap) L us->Paired (oR prog w (h2.push { cls:=.type "tuple_iterator",data:=.fields #[.ref l,.int 0 0] })) L us:=by
   intro L us hp
   induction hp with
   | nil=>exact .nil
   | cons a _ ih=>
    obtain⟨t1,e1,⟨o1,q1,q2⟩,q3⟩:=a
    exact .cons ⟨t1,e1,⟨o1,k0 t1 o1 q1,q2⟩,qU q3 λb o e q=>k0 _ o e⟩ ih
  exact go hp
 ·exact⟨_,al _ rfl,rfl,rfl⟩
 ·obtain⟨ol,XT,r⟩:=RE
  exact⟨ol,k3 _ _ XT,r⟩
 ·exact oO UC λb o e _=>k3 b o (k2 b o e)
 ·exact⟨rfl,hq h4 tk hd4 λb o e=>k4 b o (old b o e).1 (old b o e).2 (k0 b o e)⟩
end
theorem xO {X:Cx}(hc:X.calm=true)(hu:X.A.units+9 < cLine):AW X (.type "dict") (λxs H Q=>∃p ts kvs,xs=[.ref p]/\(H p=some (.tup ts)\/EN X.K p ts)/\EC X.K H ts kvs/\kvs.length<=1000000/\∀l,H l=none->Q (.ref l) (upd H l (.dT (gB [] kvs)))):=by
 intro zl s σ H xs us Q I r h
 obtain⟨p,ts,kvs,rfl,hp,EV,hz,q⟩:=h
 obtain⟨u,rfl,rx⟩:=vals1 r
 cases rx
 obtain⟨zw,n,sl,hv,ho⟩:∃(zw:qh) (n:Nat) (sl:Array (Option Value)),Vals ts zw/\s.heap.get? p=some { cls:=.type "tuple",dict:=none,data:=.seq zw.toArray n,slots:=sl }:=by
  rcases hp with hp | ⟨⟨c,dd,da,sl⟩,zw,n,h1,h2,h3,⟨_,h4⟩,hv⟩
  ·obtain⟨_,zw,hv,⟨c,dd,da,sl⟩,h1,h2,n,h3,h4⟩:=(show Ap X.prog X.w X.K H s.heap p (.tup ts) from I.Au p _ hp)
   simp only at h2 h3 h4
   subst h2 h3 h4
   exact⟨zw,n,sl,hv,h1⟩
  ·simp only at h2 h3 h4
   subst h2 h3 h4
   exact⟨zw.toList,n,sl,hv,by simpa using I.B1 _ _ h1⟩
 obtain⟨rs,h1,h2⟩:=xn I.B1 I.Au EV hv
 have hl:rs.length<=sizeLine:=by rw[← iA h1];exact gv (bY hz)
 refine Ej (I.ok.hd hc) hu ho h2 hl λh' tk hd hk=>?_
 have low:(s.heap.objs.size == sysModules)=false:=by
  have:=modules_low I.nolimit
  rw[eR]
  exact dE this
 have kt:KT X.K H (gB [] kvs) _:=KT.merge h1 .nil
 have lm:=pJ kvs []
 have hn:=I.Au.fresh (aw s.heap.objs.size)
 have kt':=kt.keeps (H':=upd H s.heap.objs.size (.dT (gB [] kvs))) λb ys e=>by rw[ao (aq e hn)];exact e
 obtain⟨o,es,o1,o2,o3,o4,o5,o6⟩:=hd
 refine⟨.ref s.heap.objs.size,_,I.laid (t':=tk) hk (aw _) (show Ap X.prog X.w X.K _ h' _ (.dT (gB [] kvs)) from ⟨?_,low,_,kt',o,es,_,o1,o2,o3,o4,o6,rfl⟩),rfl,q _ hn⟩
 have:(1000000:Nat)<=sizeLine:=by decide
 simp only[oB] at lm
 omega
end Lake.L2
namespace Lake.MR
open PySem L2 PyProof.Rows PySem.Spec
noncomputable def dctP:PV->Option PV
 | .tup xs=>(oU xs).bind λl=>if l.length<=1000000 then some (.dT (ik l [])) else none
 | _=>none
@[simp] theorem Tr (xs:List PV):dctP (.tup xs)=((oU xs).bind λl=>if l.length<=1000000 then some (.dT (ik l [])) else none):=id rfl
section
variable {X:Cx}{b:BX}{G:qf}{m1:Md}{e e1 e2:Expr}{f f1 f2:qE}{p pos:Pos}
theorem Jk {k:Nat}(hr:AN k X.A)(hm:X.mg "dict" = none)(h:SE X b G m1 e f)(VY:X.calm=true:=by rfl)(hK:X.K=b.C.K:=by rfl)(hg:Gl X "dict" := by rfl)(hb:bootBuiltins "dict" = some (.type "dict"):=by decide +kernel)(he:starEach [e] X.env=(false,eval e X.env)::starEach [] X.env:=by rfl):SE X b G .own (.Call (.Name "dict" p) [e] [] pos) (b1 dctP f):=by
 have hu:X.A.units+9 < cLine:=kD (pE (by decide:9<=64) _) hr.units
 refine vL (xO VY hu) (λOw H v1 p1 p Q hn r1 e k=>?_) hm hb h hg (by decide) (by decide) he
 cases p1 with
 | tup xs=>
  unfold dctP at e
  obtain⟨l,hl,e⟩:=az e
  split at e
  ·rename_i hz
   cases e
   obtain⟨a,vs,rfl,ha,ra⟩:=r1.tup
   obtain⟨kvs,h1,h2⟩:=xq ra hl
   rw[hK]
   refine⟨a,vs,kvs,rfl,ha,h1,by rw[h2.length];exact hz,λd hd=>k _ _ (aD hd _) ⟨d,rfl,hd,gB [] kvs,aA,(uL h2 .nil).ex λc o e=>?_⟩⟩
   have hc:c≠d:=aq e hd
   exact⟨λq=>⟨by rw[ao hc];exact e,q,hc⟩,λ_=>by rw[ao hc];exact e⟩
  ·cases e
 | _=>cases e
end
noncomputable def yg:PV->Option PV
 | .tup xs=>some (.tup xs.reverse)
 | _=>none
@[simp] theorem R4 (xs:List PV):yg (.tup xs)=some (.tup xs.reverse):=id rfl
end Lake.MR
namespace Lake.L2
open PySem PySem.Spec PyProof.Rows
open AutoSeq1 (wpAny_loadPart')
theorem GR:typeLookup (.type "reversed") "__len__" = pure none:=by rw[eK,cS];kernel_rfl
theorem Jl:typeLookup (.type "reversed") "__length_hint__" = pure (some (.builtin "reversed.__length_hint__")):=by rw[eK,cS];kernel_rfl
section
variable {prog:Program}{w:World}{A:Around}{E:oT}{s:Shared}
theorem GX (hh:A.handled=none)(I l:Addr)(AM:l≠I)(items:qA)(hz:(items.size:Int) < 2 ^ 63):
  Walks prog w A I [I,l] [I] items.size (λi v=>items[items.size - 1 - i]?=some v) (λi h=>i<=items.size/\BI h I l ((items.size:Int) - 1 - (i:Int))/\IsTup h l items) where
 sub:=λb hb=>by simp at hb;simp[hb]
 frame:=λ_ _ _ x hk=>⟨x.1,x.2.1.at λo e=>hk I (by simp) o e,(let ⟨o,e,r⟩:=x.2.2;⟨o,hk l (by simp) o e,r⟩)⟩
 item:=λi s Q E hi x hQ=>by
  have e:(items.size:Int) - 1 - (i:Int)=((items.size - 1 - i:Nat):Int):=by omega
  have hit:=x.2.1
  rw[e] at hit
  have hx:items[items.size - 1 - i]?=some (items[items.size - 1 - i]'(by omega)):=eD (by omega)
  refine Iu hit x.2.2 hz hx λh' tk Wr C6=>?_
  have e2:((items.size - 1 - i:Nat):Int) - 1=(items.size:Int) - 1 - ((i+1:Nat):Int):=by omega
  rw[e2] at Wr
  exact hQ _ h' tk hx ⟨hi,Wr,(let ⟨o,eo,r⟩:=x.2.2;⟨o,(C6.2 l AM).trans eo,r⟩)⟩ λb o hb eo=>C6.extBut b o (λh=>hb (by simp[h])) eo
 done:=λs Q E x hQ=>by
  have e:(items.size:Int) - 1 - (items.size:Int)=-1:=by omega
  have hit:=x.2.1
  rw[e] at hit
  exact Lr hh hit λh' eb=>hQ h' s.toks λb o hb eo=>eb b o (λh=>hb (by simp[h])) eo
 self:=λi s Q E x hQ=>zp x.2.1 hQ
theorem C8:Slot "reversed" "__length_hint__" "reversed.__length_hint__" :=
 .of (owner := "reversed") (n := "__length_hint__") (by rw[eK,cS];kernel_rfl) (by decide +kernel) (by decide +kernel) (by decide +kernel)
  (by first | exact .inl (by decide +kernel) | exact .inr (by decide +kernel)) (by rw[hX];kernel_rfl)
theorem vZ:entryFor table "reversed.__length_hint__" = some Builtin.«reversed.__length_hint__»:=nV (by kernel_rfl)
theorem uM (a:Value):argsOk "reversed.__length_hint__" ⟨[a],[]⟩:=by
 unfold argsOk;rw[p0 (id := "reversed.__length_hint__") (n:=['_','_','t','n','i','h','_','h','t','g','n','e','l','_','_']) (o:=['d','e','s','r','e','v','e','r']) (by kernel_rfl) qg];kernel_rfl
theorem Jm {it t:Addr}{items:qA}{Q:Bool->Shared->Prop}(hit:BI s.heap it t ((items.size:Int) - 1))(ht:IsTup s.heap t items)(hz:items.size<=sizeLine)(hQ:∀tk,s.toks<=tk->Q (((items.size:Int) != 0)) { s with toks:=tk }):wpAny (model prog w) A (Builtin.List.listLengthHint (.ref it)) Q E s:=by
 obtain⟨o,ho,hc,hd⟩:=id hit
 unfold Builtin.List.listLengthHint
 refine ab (e8 hit.typeIs GR ?_)
 show wpAny _ A (specialOf (Value.ref it) (Str.ofString "__length_hint__") >>= _) _ _ _
 refine ab (e8 hit.typeIs Jl ?_)
 (generalize Sa:("reversed.__length_hint__" : String)=id0;(fail_if_success (clear Sa id0));wp_delta;rw[show splitId id0=some ("reversed","__length_hint__") from by subst Sa;decide +kernel];subst Sa)
 refine ab (gl (b:=true) hit.typeIs (by rw[hX];kernel_rfl) ?_)
 rw[ay (by decide)]
 dsimp only
 rw[ay (by decide +kernel)]
 refine ab (hJ ?_)
 refine ab (fk (C8.bind (.ref it)) ?_)
 dsimp only
 refine ab (gy (cp C8 hit.typeIs vZ ?_ (uM _)))
 unfold Builtin.«reversed.__length_hint__»
 refine ab (fk (a:=Value.ref it) rfl ?_)
 try dsimp only
 refine ab (cw ho hd (x:=.ref t) rfl ?_)
 rw[ay (show ¬ ((Value.ref t == Value.none)=true) from ba)]
 refine ab (len_tuple ht (ye hz) ?_)
 refine ab (fk (a:=some (items.size:Int)) rfl ?_)
 dsimp only
 refine ab (cw ho hd (x:=rawInt ((items.size:Int) - 1)) rfl ?_)
 show wpAny _ _ (if (items.size:Int) < (items.size:Int) - 1+1 then _ else _) _ _ _
 rw[ay (by omega)]
 refine ab (wpAny_mkInt ?_)
 refine ae ⟨_,rfl,?_⟩
 show wpAny _ _ (asInt? (.int ((items.size:Int) - 1+1) _) >>= _) _ _ _
 refine ab (fk (a:=some ((items.size:Int) - 1+1)) rfl ?_)
 have en:(items.size:Int) - 1+1=(items.size:Int):=by omega
 dsimp only
 rw[en]
 have hz2:=ye hz
 rw[ay (by unfold Builtin.List.listFitsIndex;simp;omega),ay (by omega),ay (by unfold Builtin.List.listTooLong;simp;exact hz)]
 exact ae (hQ _ (by first | omega | exact Nat.le_add_right _ _ | exact jv (jv (gS _))))
theorem Bj {I l:Addr}{items:qA}{Q:List Value->Shared->Prop}(hh:A.handled=none)(AM:l≠I)(hz:items.size<=sizeLine)(hit:BI s.heap I l ((items.size:Int) - 1))(ht:IsTup s.heap l items)
  (hQ:∀s' acc,Moved [I] (λa b=>b=a) s s'->ItemsOf (λi v=>items[items.size - 1 - i]?=some v) acc items.size->s.heap.objs.size < s'.heap.objs.size->Q acc.toList s'):wpAny (model prog w) A (collect (.ref I)) Q E s:=by
 have W:=(GX (prog:=prog) (w:=w) (A:=A.in1) hh I l AM items (ye hz)).toS
 have Wa:I < s.heap.objs.size:=let ⟨_,e,_⟩:=hit;ap e
 have Zi:l < s.heap.objs.size:=let ⟨_,e,_⟩:=ht;ap e
 have Zj:s.heap.objs.size∉[I,l]:=λhm=>by
  simp only[be,cq,gz] at hm
  rcases hm with e | e
  ·exact eM _ (e▸Wa)
  ·exact eM _ (e▸Zi)
 have Se:s.heap.objs.size≠I:=λe=>Zj (e▸ar)
 unfold collect
 refine ab (wpAny_runValue (gd F.entry_proto_collect ?_))
 rw[fF F.plain_proto_collect _]
 show wpAny _ A.in1 (newList [] >>= λl=>again (.builtin "list.__iadd__" ⟨[l,.ref I],[]⟩)) _ _ s
 refine ab (b0 ?_)
 refine ae ⟨gX F.plain_list_iadd _,gd F.entry_list_iadd ?_⟩
 rw[fF F.plain_list_iadd _]
 have up:∀b o,s.heap.get? b=some o->(s.heap.push { cls:=.type "list",data:=.seq ([]:qh).toArray }).get? b=some o:=λb o e=>ac _ e
 have JE:BI (s.heap.push { cls:=.type "list",data:=.seq ([]:qh).toArray }) I l ((items.size:Int) - 1):=hit.at λo e=>up _ _ e
 have Vg:IsTup (s.heap.push { cls:=.type "list",data:=.seq ([]:qh).toArray }) l items:=let ⟨o,e,r⟩:=ht;⟨o,up _ _ e,r⟩
 have MQ:(s.heap.push { cls:=.type "list",data:=.seq ([]:qh).toArray }).get? s.heap.objs.size=some { cls:=.type "list",data:=.seq ([]:qh).toArray }:=al _ rfl
 have h1:Builtin.List.listSameRef (.ref s.heap.objs.size) (.ref I)=false:=by simp[Builtin.List.listSameRef,Se]
 show wpAny _ A.in1 (Builtin.List.listExtendWith (.ref s.heap.objs.size) (.ref I) (.ref s.heap.objs.size)) _ _ _
 unfold Builtin.List.listExtendWith
 refine ab (iq (s:={ s with heap:=s.heap.push { cls:=.type "list",data:=.seq ([]:qh).toArray } }) JE.typeIs ?_)
 rw[ay (by rw[h1];decide)]
 refine ab (zp (s:={ s with heap:=s.heap.push { cls:=.type "list",data:=.seq ([]:qh).toArray } }) JE ?_)
 refine ab (dP (Jm JE Vg hz λtk VB=>?_))
 have nin:∀b o,b∉[I]->s.heap.get? b=some o->b∉[s.heap.objs.size,I]:=λb o hb e hm=>by
  rcases be.mp hm with e1 | hm
  ·exact absurd (e1▸ap e) (eM _)
  ·exact hb hm
 by_cases h0:items.size=0
 ·rw[ay (by rw[h0];decide +kernel)]
  refine ae ⟨gX ei _,lh W hz _ Zj _ items.size 0 _ _ _ rfl (cb _) ⟨cb _,by simpa using JE,Vg⟩ MQ (ItemsOf.nil _) λs' E7 c' hm HG BA=>?_⟩
  show wpAny _ A (load s.heap.objs.size >>= _) _ _ s'
  refine ab (oj HG ?_)
  exact ae (hQ s' E7 ⟨λb o hb e=>hm.heap b o (nin b o hb e) (up b o e),hm.gens,hm.drawn,hm.os,dn VB hm.toks⟩ BA (ap HG))
 ·rw[bb (by simp[h0])]
  refine ab (hJ ?_)
  refine ab ?_
  show wpAny _ A.in1 (updateSeq s.heap.objs.size (·.push .none) >>= λ_=>updateSeq s.heap.objs.size (·.pop)) _ _ _
  refine ab (i9 MQ rfl ?_)
  have We:=cE (Obj.mapSeq (·.push Value.none)) MQ rfl
  refine i9 We rfl ?_
  have Y7:=cE (Obj.mapSeq (·.pop)) We rfl
  have Zk:∀b o,b≠s.heap.objs.size->(s.heap.push { cls:=.type "list",data:=.seq ([]:qh).toArray }).get? b=some o->
    (((s.heap.push { cls:=.type "list",data:=.seq ([]:qh).toArray }).update s.heap.objs.size (Obj.mapSeq (·.push Value.none))).update s.heap.objs.size (Obj.mapSeq (·.pop))).get? b=some o:=
   λb o hb e=>(dc _ _ (fe hb)).trans ((dc _ _ (fe hb)).trans e)
  refine ae ⟨gX ei _,lh W hz _ Zj _ items.size 0 _ _ _ rfl (cb _)
   ⟨cb _,by simpa using JE.at λo e=>Zk _ _ (fe Se) e,(let ⟨o,e,r⟩:=Vg;⟨o,Zk _ _ (bd Zi) e,r⟩)⟩ Y7 (ItemsOf.nil _) λs' E7 c' hm HG BA=>?_⟩
  show wpAny _ A (load s.heap.objs.size >>= _) _ _ s'
  refine ab (oj HG ?_)
  exact ae (hQ s' E7 ⟨λb o hb e=>hm.heap b o (nin b o hb e) (Zk b o (bd (ap e)) (up b o e)),hm.gens,hm.drawn,hm.os,dn VB hm.toks⟩ BA (ap HG))
theorem qt {I l:Addr}{items:qA}{Q₁:oT}(hh:A.handled=none)(AM:l≠I)(hz:items.size<=sizeLine)(hit:BI s.heap I l ((items.size:Int) - 1))(ht:IsTup s.heap l items)
  (h:∀s' (acc:qA),Moved [I] (λa b=>b=a) s s'->ItemsOf (λi v=>items[items.size - 1 - i]?=some v) acc items.size->s.heap.objs.size < s'.heap.objs.size->Q₁ (.ref s'.heap.objs.size) { s' with heap:=s'.heap.push { cls:=.type "tuple",data:=.seq acc } }):
  codeAny (model prog w) A (.call (.builtin "tuple.__new__") ⟨[.type "tuple",.ref I],[]⟩) (wants Q₁ E) s:=by
 refine codeAny_of_tree ?_
 show wpAny _ A.in1 (do checkBuiltinCall "tuple.__new__" ⟨[.type "tuple",.ref I],[]⟩;again (.builtin "tuple.__new__" ⟨[.type "tuple",.ref I],[]⟩)) _ _ s
 refine ab (fk (F.newCall_tuple_1 _) (ae ⟨gX F.plain_tuple_new _,gd F.entry_tuple_new ?_⟩))
 rw[fF F.plain_tuple_new _]
 have LB:=sub_tuple_self
 have hinit:=init_tuple_lookup
 have hmh:=madeHere_tuple
 have Ic:=hit.typeIs
 wp_walk using iq Ic,Bj (A:=A.in1) hh AM hz hit ht
 intro s' acc hm BA A0
 show wpAny _ _ (Builtin.Tuple.tupleExact acc.toList.toArray >>= λv=>ret v) _ _ _
 unfold Builtin.Tuple.tupleExact
 refine ab (b0 ?_ (by show acc.toList.toArray.size<=sizeLine;simp only[Array.toArray_toList];rw[BA.1];exact hz))
 refine ae ?_
 have e:acc.toList.toArray=acc:=by simp
 rw[e]
 exact h s' acc hm BA A0
theorem v4 {I l:Addr}{items:qA}{Q:oT}(hh:A.handled=none)(AM:l≠I)(hz:items.size<=sizeLine)(hit:BI s.heap I l ((items.size:Int) - 1))(ht:IsTup s.heap l items)
  (hQ:∀s' (acc:qA),Moved [I] (λa b=>b=a) s s'->ItemsOf (λi v=>items[items.size - 1 - i]?=some v) acc items.size->s.heap.objs.size < s'.heap.objs.size->Q (.ref s'.heap.objs.size) { s' with heap:=s'.heap.push { cls:=.type "tuple",data:=.seq acc } }):
  wpAny (model prog w) A (call (.type "tuple") [.ref I]) Q E s:=by
 refine pd (Q₁:=λobj s₁=>s₁.TypeIs obj "tuple" /\ Q obj s₁) pi (F.typeCall_tuple_1 _) F.entry_object_init
  (qt hh AM hz hit ht λs' acc hm BA A0=>⟨⟨_,al _ rfl,rfl⟩,hQ s' acc hm BA A0⟩) λobj s₁ h₁=>?_
 exact⟨h₁.1,lx obj _,object_init_meets pi.init.lookup pi.made (by decide) prog w A.in1 _ s₁ ⟨h₁.1,rfl,h₁.2⟩⟩
end
section
variable {X:Cx}
def RB (K:W.Frag)(ta:TA):TE:=fun σ H Q=>ta σ H λvs H1=>∃a xs,vs=[.ref a]/\BU K H1 a xs/\∀l,H1 l=none->Q (.ref l) (upd H1 l (.tup xs.reverse))
theorem Mf {a:Expr}{ta:TA}{p p2 pos AY:Pos}(hg:Gl X "tuple")(hm:X.mg "tuple" = none)(MG:Gl X "reversed")(MH:X.mg "reversed" = none)(hb:bootBuiltins "reversed" = some (.type "reversed"))(hc:X.calm=true)(ha:PA X [a] ta)(hs:starEach [a] X.env=(false,eval a X.env)::starEach [] X.env:=by rfl)(IT:(backTo AY (starEach [] X.env)).any (·.1)=false:=by rfl)
  (DE:starEach [.Call (.Name "reversed" p2) [a] [] AY] X.env=(false,eval (.Call (.Name "reversed" p2) [a] [] AY) X.env)::starEach [] X.env:=by rfl) (A2:(backTo pos (starEach [] X.env)).any (·.1)=false:=by rfl):
  PE X (.Call (.Name "tuple" p) [.Call (.Name "reversed" p2) [a] [] AY] [] pos) (RB X.K ta):=by
 intro zl s σ H Q I h
 refine fA (dN I hg hm iN (cf ?_ DE A2) (by decide) (by decide))
 rw[DE]
 show wpAny _ _ (spliced ((false,eval (.Call (.Name "reversed" p2) [a] [] AY) X.env)::backTo pos (starEach [] X.env))) _ _ s
 refine hV (Call_ (dN I MG MH hb (cf (AE (ha AY zl s σ H _ I h) ?_) hs IT)))
 rintro us s1 ⟨vs,H1,I1,r1,q1⟩
 obtain⟨a,xs,e,hq,q⟩:=q1
 subst e
 obtain⟨u,rfl,ru⟩:=vals1 r1
 cases ru
 obtain⟨zw,rv,pl,hz⟩:=I1.tuple hq
 have hlen:=rv.length
 have XE:zw.toArray.size<=sizeLine:=by rw[ax];omega
 have A0:a < s1.heap.objs.size:=let ⟨_,e,_⟩:=pl;ap e
 refine Ir pl (ye XE) (js ?_)
 refine v4 (I1.ok.hd hc) (bd A0) XE ⟨_,al _ rfl,rfl,by simp⟩ (let ⟨o,e,r⟩:=pl;⟨o,ac _ e,r⟩) λs' acc hm it hsz=>?_
 obtain⟨i1,i2⟩:=it
 rw[ax] at i1
 have hv:Vals xs.reverse acc.toList:=w5 rv acc.toList (by simpa using i1) λi v hi=>by
  have:=i2 i v (by simpa using hi)
  simpa using this
 rw[Moved.eq_with hm]
 have keep:∀b o,s1.heap.get? b=some o->s'.heap.get? b=some o:=λb o eb=>hm.heap b o (by simp only[be,cq,gz];exact bd (ap eb)) (ac _ eb)
 have big:s1.heap.objs.size<=s'.heap.objs.size:=by
  have Zl:=hsz
  rw[cy] at Zl
  omega
 have I2:=I1.laid (a:=s'.heap.objs.size) (o:=.tup xs.reverse) (h':=s'.heap.push { cls:=.type "tuple",data:=.seq acc }) (t':=s'.toks) (λb o eb=>ac _ (keep b o eb)) big
  (show Ap X.prog X.w X.K _ _ _ (.tup xs.reverse) from ⟨(by rw[l7];omega),acc.toList,hv,⟨_,al _ rfl,rfl,0,by simp,rfl⟩⟩)
 exact⟨.ref s'.heap.objs.size,_,I2,rfl,q _ (I1.Au.fresh big)⟩
end
end Lake.L2
namespace Lake.MR
open PySem L2
section
variable {X:Cx}{b:BX}{G:qf}{m1:Md}{e:Expr}{f:qE}{p p2 pos AY:Pos}
theorem B_ (hm:X.mg "tuple" = none)(MH:X.mg "reversed" = none)(h:SE X b G m1 e f)(hb:bootBuiltins "reversed" = some (.type "reversed"):=by decide +kernel)(hK:X.K=b.C.K:=by rfl)(hc:X.calm=true:=by rfl)(hg:Gl X "tuple" := by rfl)(MG:Gl X "reversed" := by rfl)(C6:starEach [e] X.env=(false,eval e X.env)::starEach [] X.env:=by rfl)(IT:(backTo AY (starEach [] X.env)).any (·.1)=false:=by rfl)
  (DE:starEach [.Call (.Name "reversed" p2) [e] [] AY] X.env=(false,eval (.Call (.Name "reversed" p2) [e] [] AY) X.env)::starEach [] X.env:=by rfl) (A2:(backTo pos (starEach [] X.env)).any (·.1)=false:=by rfl):
  SE X b G .val (.Call (.Name "tuple" p) [.Call (.Name "reversed" p2) [e] [] AY] [] pos) (b1 yg f):=by
 refine PE.imp (Mf hg hm MG MH hb hc (aB h.bor aL C6) C6 IT DE A2) ?_
 rintro σ H Q ⟨Ow,env,q,E,hf,k⟩
 rw[hK]
 obtain⟨x,hx,hf⟩:=az hf
 cases x <;> first | (cases hf;done) | skip
 cases hf
 refine⟨Ow,env,_,E,hx,λv H1 s r=>?_⟩
 have r1:zC b.C (Bs b Ow) H1 v (.tup _):=r
 obtain⟨a,vs,rfl,ha,ra⟩:=r1.tup
 refine⟨a,vs,rfl,ha.sq,λl hl=>k _ _ (s.new hl _) ?_⟩
 exact Rep.tup aA (ra.reverse.ex (.of_same (aD hl _)))
end
end Lake.MR
namespace Lake.L2
open PySem PySem.Spec PyProof.Rows
section
variable {X:Cx}{e f:Expr}{pos:Pos}{ty tv:TE}
def GZ (tk tv:TE):TE:=fun σ H Q=>∀p,H p=none->tk σ (upd H p (.dK [])) λy H1=>tv σ H1 λz H2=>H2 p=some (.dK [])/\∃k,y=kV k/\Q (.ref p) (upd H2 p (.dK [(k,z)]))
theorem Jo (hk:PE X e ty)(hv:PE X f tv):PE X (.Dict [some e] [f] pos) (GZ ty tv):=by
 intro zl s σ H Q I q
 have hn:=I.Au.fresh (aw s.heap.objs.size)
 have I1:=I.laid (a:=s.heap.objs.size) (o:=.dK []) (h':=s.heap.push { cls:=.type "dict",data:=.dict #[] }) (t':=s.toks) (λ_ _ q=>ac _ q) (aw _) (yM s.heap I.big)
 refine wpAny_Dict_any rfl rfl (λz=>nomatch z) (show (1:Nat)<=15 by decide) ?_
 refine pairTrees_cons_walk (AE (hk zl _ σ _ _ I1 (q _ hn)) λu s1 ⟨y,H1,I2,ry,q1⟩=>AE (hv zl s1 σ H1 _ I2 q1) λw2 s2 ⟨z,H2,I3,rz,e1,k,e2,q2⟩=>pairTrees_nil_walk ?_)
 subst e2
 obtain⟨_,hd,vs,rel,dd⟩:=xV I3.Au e1
 cases rel
 unfold storeAll
 rw[kB]
 refine ab (ab (wpAny_dictSet_pairs (hsz:=cb _) (ue ry) dd λh' OU hs=>ae ?_))
 show wpAny _ _ (forIn [] _ _) _ _ _
 rw[kT]
 refine ae ?_
 have he:∃q,h'.get? s.heap.objs.size=some q:=let ⟨q,_,_,hq,_⟩:=OU;⟨q,hq⟩
 exact⟨.ref s.heap.objs.size,_,mU I3 (by rw[e1];exact fz) hs he (FP (kvs:=[(k,z)]) (by show (1:Nat)<=sizeLine;decide) hd (.cons ⟨rfl,rz⟩ .nil) OU),rfl,q2⟩
end
def Wu (a:Addr)(o:Obj)(kvs:List (Key×V)):It:=
 ⟨λi H=>H a=some (.frz o (.dK kvs))/\i < kvs.length,λi H x H'=>H'=H/\∃k y,kvs[i]?=some (k,y)/\x=kV k,λi H=>H a=some (.frz o (.dK kvs))/\kvs.length<=i⟩
theorem KV.get {κ:Type}{kvs:List (κ×V)}{vs:List (κ×Value)}(r:KV kvs vs):∀{i:Nat}{p:κ×V},kvs[i]?=some p->∃u,vs[i]?=some (p.1,u):=by
 unfold KV at r
 induction r with
 | nil=>intro i p h;simp at h
 | @cons p q ps qs h t ih=>
  intro i p' e
  cases i with
  | zero=>
   cases e
   obtain⟨k,u⟩:=q
   exact⟨u,by rw[h.1];rfl⟩
  | succ i=>exact ih (i:=i) e
theorem RC {P:Program}{w:World}{k:Key}{u:Value}(h:(cY P w).is k u=true):RelV (kV k) u:=by
 rcases bH (show jN k u=true from h) with ⟨i,t,rfl,rfl⟩ | ⟨x,t,rfl,rfl⟩
 ·exact⟨t,rfl⟩
 ·exact⟨t,rfl⟩
theorem Jp {P:Program}{w:World}{K:W.Frag}{tg:Expr}(a it:Addr)(o:Obj)(kvs:List (Key×V))(vs:List (Key×Value))(ep:Nat)(UD:KV kvs vs)(Sm:∀h:Heap,h.get? a=some o->h.DictAt (cY P w) a vs ep):Turn P w K tg (Wu a o kvs) [it] it (λi h=>h.IsKeyIter it a i vs.length ep) where
 mem:=ar
 obj:=λi h st b hb=>by
  obtain⟨o,e,c,d⟩:=st
  exact⟨o,by rw[av.mp hb];exact e,λv z=>by rw[d] at z;cases z⟩
 keep:=λi h h' st k=>let ⟨o,e,c⟩:=st;⟨o,k it ar o e,c⟩
 item:=by
  intro X hP hw hK hc i zl s σ H E I hf st hg
  subst hP hw hK
  obtain⟨hq,A0⟩:=hg
  obtain⟨f0,f1,f2,f3,f4,f5⟩:=hf it ar
  have ho:s.heap.get? a=some o:=(show Ap X.prog X.w X.K H s.heap a (.frz o (.dK kvs)) from I.Au a _ hq).1
  obtain⟨p,hp⟩:∃p,kvs[i]?=some p:=⟨_,ai A0⟩
  obtain⟨u,hu⟩:=UD.get hp
  refine wpAny_pyNext_dict_item st (Sm _ ho) hu λkey h' Tb A7 sb=>?_
  obtain⟨o',e,c,d⟩:=id A7
  obtain⟨k,y⟩:=p
  exact⟨key,rfl,t8 (s:={ s with heap:=h' }) e c d (by decide) ⟨kV k,H,I.turned (t':=s.toks) (λb o hb q=>(sb.2 b hb).trans q) f0 f1 f3 f4 f5,RC Tb,⟨rfl,k,y,hp,rfl⟩,A7,λb hb=>(hf b hb).1⟩⟩
 done:=by
  intro X hP hw hK hc i zl s σ H E I hf st hg
  subst hP hw hK
  obtain⟨hq,Zm⟩:=hg
  obtain⟨f0,f1,f2,f3,f4,f5⟩:=hf it ar
  have ho:s.heap.get? a=some o:=(show Ap X.prog X.w X.K H s.heap a (.frz o (.dK kvs)) from I.Au a _ hq).1
  have hl:vs.length=kvs.length:=(iA UD).symm
  exact wpAny_pyNext_dict_end (I.ok.hd hc) st (Sm _ ho) (cK (by rw[hl];exact Zm)) λh' eb=>⟨rfl,I.turned (t':=s.toks) (λb o hb q=>eb b o hb q) f0 f1 f3 f4 f5⟩
 self:=λA i s Q E st h=>wpAny_pyIter_keyiter st h
section
variable {X:Cx}{tg:Expr}
def Qm (tl:TE):TI:=fun σ H R=>tl σ H λx H1=>∃a kvs,x=.ref a/\H1 a=some (.dK kvs)/\∀o,R (Wu a o kvs) (upd H1 a (.frz o (.dK kvs)))
theorem Qn {l:Expr}{tl:TE}(hl:PE X l tl):PI X tg l (Qm tl):=by
 intro zl s σ H R I h
 refine AE (hl zl s σ H _ I h) ?_
 rintro v s1 ⟨x,H1,I1,r1,q1⟩
 obtain⟨a,kvs,e,hq,q⟩:=q1
 subst e
 cases r1
 obtain⟨z,hd,vs,rel,dd⟩:=xV I1.Au hq
 obtain⟨ep,dat⟩:=dd.dictAt
 obtain⟨o,es,ho,hr⟩:=id dat
 have Sm:∀h:Heap,h.get? a=some o->h.DictAt (cY X.prog X.w) a vs ep:=λh e=>⟨o,es,e,hr⟩
 have I2:=mU (t':=s1.toks) (ob:=.frz o (.dK kvs)) I1 (by rw[hq];exact fz) (Heap.SameBut.refl _ _) ⟨o,ho⟩ ⟨ho,z,hd,vs,rel,dd⟩
 refine wpAny_pyIter_dict hd dat ?_
 refine⟨s1.heap.objs.size,[s1.heap.objs.size],_,_,_,rfl,I2.kept (t':=s1.toks) λb o e=>ac _ e,Jp a _ o kvs vs ep rel Sm,⟨_,al _ rfl,rfl,rfl⟩,λb hb=>?_,q o⟩
 rw[av.mp hb]
 exact I2.F9 (aw _) (I2.Au.fresh (aw _))
end
theorem Mg {a:Addr}{o:Obj}{kvs:List (Key×V)}{g:TG}{tb:TS}{D:Ends}{σ:St}{H:Hp}(Pv:Nat->St->Hp->Prop)(h0:Pv 0 σ H)(hl:∀i σ H,i<=kvs.length->Pv i σ H->H a=some (.frz o (.dK kvs)))
  (step:∀i k y σ H,kvs[i]?=some (k,y)->Pv i σ H->g (kV k) σ H fun σ2 H2=>tb { D with nx:=Pv (i+1),ct:=Pv (i+1),bk:=D.nx } σ2 H2) (fin:∀ σ H,Pv kvs.length σ H->D.nx σ H):
  ∃W:Nat->Nat->St->Hp->Prop,(∃m,W 0 m σ H)/\∀i m σ H,W i m σ H->
   ((Wu a o kvs).stop i H/\D.nx σ H)\/((Wu a o kvs).go i H/\∃N:St->Hp->Prop,(∀ σ' H',N σ' H'->∃m',m' < m/\W (i+1) m' σ' H')/\∀x H',(Wu a o kvs).LZ i H x H'->g x σ H' fun σ2 H2=>tb { D with nx:=N,ct:=N,bk:=D.nx } σ2 H2):=by
 refine⟨λi m σ H=>i+m=kvs.length/\Pv i σ H,⟨kvs.length,Nat.zero_add _,h0⟩,?_⟩
 rintro i m σ H ⟨e,p⟩
 have hq:=hl i σ H (by omega) p
 cases m with
 | zero=>
  have hi:i=kvs.length:=by omega
  subst hi
  exact .inl ⟨⟨hq,aw _⟩,fin σ H p⟩
 | succ m=>
  refine .inr ⟨⟨hq,by omega⟩,Pv (i+1),fun σ' H' p'=>⟨m,gp _,by omega,p'⟩,?_⟩
  rintro x H' ⟨rfl,k,y,hk,rfl⟩
  exact step i k y σ _ hk p
end Lake.L2
namespace Lake.MR
open PySem L2
abbrev Ek:List V->Hp->VK->Prop:=λxs H Q=>∃z,xs=[.str z]/\z.length<=sizeLine/\Q (.int z.length) H
def Jq (C:MC)(ft:List PV->Option PV):TS:=
 lU (tB (fB (CO C ft false) [] E0 (aM (aG 1) (aM (aG 6) (aM (aG 7) (aM (aG 4) bh))))))
  (jP C.K (aG 5) (yx (aG 6) (LM Ek (aM (aG 7) bh))) (yx (yQ C.K (aG 5) (yx (aG 6) (LM Ek (aM (aG 7) bh))) (tC (.int 0))) (qL C.K (aG 2) (aG 6))))
  jm
noncomputable def oV (ft:List PV->Option PV)(row cut:PV)(i m:Int)(pat:PV)(later:List (Key×PV)):Option (List (Key×PV)):=
 (ft [row,.int i,pat,cut]).bind λb=>match b with
  | .bl false=>some later
  | .bl true=>match pat with
   | .str z=>match (aK later (.inl (i+z.length))).getD (.int 0) with
    | .int u=>if z.length<=1000000/\later.length < 1000000 then some (bB later (.inl (i+z.length)) (.int (u+m))) else none
    | _=>none
   | _=>none
  | _=>none
variable {C:MC}{ft:List PV->Option PV}{A:Addr->Prop}{la:Addr}{FC:List (Key×V)}{H:Hp}{D:Ends}
theorem Mh {row cut pat:PV}{i m:Int}{later BM:List (Key×PV)}{vm vr vp vc vt:V}{wa:Addr}{o:Obj}{JI:List (Key×V)}
  (rr:Rep C A H vr row) (rc:Rep C A H vc cut) (rp:Rep C A H vt pat) (HI:H wa=some (.frz o (.dK FC))) (hm:cA FC (.inl i)=some (.int m)) (EU:H la=some (.dK JI)) (rl:As C (λ_=>False) H JI later)
  (h:oV ft row cut i m pat later=some BM)
  (q:∀H' DM,H' la=some (.dK DM)->As C (λ_=>False) H' DM BM->(∀x o,x≠la->H x=some o->H' x=some o)->D.nx [some vm,some vr,some (.ref wa),some vp,some vc,some (.ref la),some (.int i),some vt] H'):
  Jq C ft D [some vm,some vr,some (.ref wa),some vp,some vc,some (.ref la),some (.int i),some vt] H:=by
 obtain⟨b,hb,h2⟩:=ag.mp h
 clear h
 have h:=h2
 clear h2
 unfold Jq
 dsimp only [lU,tB,fB,jm,jP]
 refine⟨_,rfl,_,rfl,_,rfl,_,rfl,A,[row,.int i,pat,cut],b,.cons rr (.cons (.int i) (.cons rp (.cons rc .nil))),hb,λv1 H1 s1 r1=>?_⟩
 have FV:zC C _ H1 v1 b:=.inl r1
 cases b <;> first | (cases h;done) | skip
 rename_i ob
 refine⟨ob,FV.bl,?_⟩
 have E8:=s1 _ _ EU
 have XU:As C (λ_=>False) H1 JI later:=rl.ex (.of_same s1)
 cases ob with
 | false=>
  cases h
  exact lW (q H1 JI E8 XU λx o _ e=>s1 x o e)
 | true=>
  refine iT ?_
  cases pat <;> first | (cases h;done) | skip
  rename_i z
  cases rp
  dsimp only at h
  cases hg:(aK later (.inl (i+z.length))).getD (.int 0) <;> rw[hg] at h <;> first | (cases h;done) | skip
  rename_i u
  dsimp only at h
  split at h
  ·rename_i hz
   cases h
   have Zh:z.length<=sizeLine:=gv (bY (by omega))
   have key:∀{R:VK},R (.int (i+z.length)) H1->yx (aG 6) (LM Ek (aM (aG 7) bh)) [some vm,some vr,some (.ref wa),some vp,some vc,some (.ref la),some (.int i),some (.str z)] H1 R:=λr=>⟨_,rfl,_,rfl,z,rfl,Zh,i,_,rfl,rfl,r⟩
   have PU:=s1 _ _ HI
   have hlen:=XU.length
   refine⟨_,rfl,la,rfl,.inl ⟨_,.inl E8⟩,key ⟨_,A8.k (k:=.inl (i+z.length)) E8,?_⟩⟩
   have hv:(cA JI (.inl (i+z.length))).getD (.int 0)=.int u:=by
    rcases As.val (k:=.inl (i+z.length)) XU with ⟨y,py,g1,g2,ry⟩ | ⟨g1,g2⟩
    ·have eL:aK later (.inl (i+z.length))=some py:=g2
     rw[eL] at hg
     cases (show py=.int u from hg)
     cases ry
     rw[g1];rfl
    ·have eL:aK later (.inl (i+z.length))=none:=g2
     rw[eL] at hg
     cases hg
     rw[g1];rfl
   rw[hv]
   refine⟨_,rfl,_,rfl,wa,.int m,rfl,.inl ⟨FC,.inl i,.inr ⟨o,PU⟩,rfl,hm.symm⟩,u,m,rfl,rfl,?_⟩
   refine⟨_,rfl,key ⟨la,_,rfl,.inl ⟨JI,.inl (i+z.length),E8,rfl,bY (by omega),rfl⟩,?_⟩⟩
   refine q _ _ aA ?_ λx o n e=>by rw[ao n];exact s1 x o e
   exact As.put (.int _) (XU.ex λx o e=>⟨λf=>f.elim,λmu=>by rw[ao (λz=>by rw[z,E8] at e;cases e;cases mu)];exact e⟩)
  ·cases h
noncomputable def jC (ft:List PV->Option PV)(row cut:PV)(i m:Int):List PV->List (Key×PV)->Option (List (Key×PV))
 | [],l=>some l
 | p::ps,l=>(oV ft row cut i m p l).bind (jC ft row cut i m ps)
def Jr (C:MC)(ft:List PV->Option PV):TS:=vz (yD C.K (aG 3)) (aW 7) (Jq C ft)
def OI (la:Addr)(H H':Hp):Prop:=∀x o,x≠la->H x=some o->H' x=some o
theorem OI.trans {H1 H2:Hp}(a:OI la H H1)(b:OI la H1 H2):OI la H H2:=λx o n e=>b x o n (a x o n e)
theorem uN {H':Hp}{kv:List (Key×V)}(EU:H la=some (.dK kv))(nA:¬ A la)(bt:OI la H H'):Ex A H A H':=λx o e=>
 ⟨λq=>⟨bt x o (λz=>nA (z▸q)) e,q⟩,λmu=>bt x o (λz=>by rw[z,EU] at e;cases e;cases mu) e⟩
variable {x7:Option V}
theorem Mi {row cut:PV}{pats:List PV}{i m:Int}{later BM:List (Key×PV)}{vm vr vp vc:V}{wa:Addr}{o:Obj}{JI:List (Key×V)}
  (nA:¬ A la) (rr:Rep C A H vr row) (rc:Rep C A H vc cut) (rp:Rep C A H vp (.tup pats)) (HI:H wa=some (.frz o (.dK FC))) (F3:wa≠la) (hm:cA FC (.inl i)=some (.int m)) (EU:H la=some (.dK JI)) (rl:As C (λ_=>False) H JI later)
  (h:jC ft row cut i m pats later=some BM)
  (q:∀H' DM y7,H' la=some (.dK DM)->As C (λ_=>False) H' DM BM->OI la H H'->D.nx [some vm,some vr,some (.ref wa),some vp,some vc,some (.ref la),some (.int i),y7] H'):
  Jr C ft D [some vm,some vr,some (.ref wa),some vp,some vc,some (.ref la),some (.int i),x7] H:=by
 obtain⟨pa,us,rfl,hpa,ru⟩:=zC.tup (.inl rp)
 have ln:=ru.length
 unfold Jr
 refine⟨_,rfl,pa,rfl,⟨us,hpa.sq⟩,?_⟩
 have sq:∀{Hj:Hp},OI la H Hj->BU C.K Hj pa us:=λ{Hj} bt=>by
  rcases hpa with z | z
  ·exact .inl (.inl (bt _ _ (λe=>by rw[e,EU] at z;cases z) z))
  ·exact .inr z
 refine Bq (K:=C.K) (a:=pa) (xs:=us) (λj σ Hj=>∃y7 E9 lj,σ=[some vm,some vr,some (.ref wa),some (.ref pa),some vc,some (.ref la),some (.int i),y7]/\Hj la=some (.dK E9)/\As C (λ_=>False) Hj E9 lj/\jC ft row cut i m (pats.drop j) lj=some BM/\OI la H Hj)
  ⟨x7,JI,later,rfl,EU,rl,h,λ_ _ _ e=>e⟩ (λj σ Hj _ ⟨_,_,_,_,_,_,_,bt⟩=>sq bt) (λj x σ Hj hx ⟨y7,E9,lj,e,JJ,UE,hj,bt⟩=>?_) (fun σ Hj ⟨y7,E9,lj,e,JJ,UE,hj,bt⟩=>?_)
 ·subst e
  have XW:j < us.length:=(af.mp hx).1
  have D5:pats.drop j=pats[j]'(by omega)::pats.drop (j+1):=ce (by omega)
  have hn:pats[j]?=some (pats[j]'(by omega)):=ai (by omega)
  generalize pats[j]'(by omega)=pt at hn D5
  rw[D5] at hj
  obtain⟨l2,h1,h2⟩:=ag.mp (show ((oV ft row cut i m pt lj).bind _)=_ from hj)
  have ex:Ex A H A Hj:=uN EU nA bt
  have rx:Rep C A Hj x pt:=by
   obtain⟨p,e,r⟩:=ru.get' hx
   rw[hn] at e
   cases e
   exact r.ex ex
  exact Mh (rr.ex ex) (rc.ex ex) rx (bt _ _ F3 HI) hm JJ UE h1 λH' DM e1 e2 e3=>⟨_,DM,l2,rfl,e1,e2,h2,bt.trans e3⟩
 ·subst e
  have D5:pats.drop us.length=[]:=by rw[eT];omega
  rw[D5] at hj
  cases hj
  exact q Hj E9 y7 JJ UE bt
noncomputable def jD (ft:List PV->Option PV)(row cut:PV)(pats:List PV)(all:List (Key×PV)):List (Key×PV)->List (Key×PV)->Option (List (Key×PV))
 | [],l=>some l
 | (.inl i,_)::ws,l=>match aK all (.inl i) with
  | some (.int m)=>(jC ft row cut i m pats l).bind (jD ft row cut pats all ws)
  | _=>none
 | (.inr _,_)::_,_=>none
def Js (C:MC)(ft:List PV->Option PV):TS:=vz (Qm (aG 2)) (aW 6) (Jr C ft)
theorem As.Sn {C:MC}{A:Addr->Prop}{H:Hp}:∀{kv:List (Key×V)}{kvs:List (Key×PV)}{i:Nat}{k:Key}{y:V},As C A H kv kvs->kv[i]?=some (k,y)->∃p,kvs[i]?=some (k,p)
 | _,_,_,_,_,.nil,e=>by simp at e
 | _,_,0,_,_,.cons _ _,e=>by simp at e;exact⟨_,by rw[e.1];rfl⟩
 | _,_,i+1,k,y,.cons _ t,e=>by
  obtain⟨p,h⟩:=As.Sn (i:=i) (k:=k) (y:=y) t (by simpa using e)
  exact⟨p,by simpa using h⟩
theorem Mj {row cut:PV}{pats:List PV}{AJ later BM:List (Key×PV)}{vm vr vp vc:V}{x6:Option V}{wa:Addr}{JI:List (Key×V)}
  (nA:¬ A la) (nW:¬ A wa) (rr:Rep C A H vr row) (rc:Rep C A H vc cut) (rp:Rep C A H vp (.tup pats)) (HI:H wa=some (.dK FC)) (HU:As C (λ_=>False) H FC AJ) (F3:wa≠la) (EU:H la=some (.dK JI)) (rl:As C (λ_=>False) H JI later)
  (h:jD ft row cut pats AJ AJ later=some BM)
  (q:∀H' DM y6 y7,H' la=some (.dK DM)->As C (λ_=>False) H' DM BM->(∀x o,x≠la->x≠wa->H x=some o->H' x=some o)->D.nx [some vm,some vr,some (.ref wa),some vp,some vc,some (.ref la),y6,y7] H'):
  Js C ft D [some vm,some vr,some (.ref wa),some vp,some vc,some (.ref la),x6,x7] H:=by
 unfold Js
 refine⟨_,rfl,wa,FC,rfl,HI,λo=>?_⟩
 have b1:OI wa H (upd H wa (.frz o (.dK FC))):=λx o n e=>by rw[ao n];exact e
 have e1:Ex A H A (upd H wa (.frz o (.dK FC))):=uN HI nW b1
 have f1:Ex (λ_=>False) H (λ_=>False) (upd H wa (.frz o (.dK FC))):=uN HI (λz=>z) b1
 have E8:upd H wa (.frz o (.dK FC)) la=some (.dK JI):=b1 _ _ F3.symm EU
 have lw:FC.length=AJ.length:=HU.length
 have PU:upd H wa (.frz o (.dK FC)) wa=some (.frz o (.dK FC)):=aA
 refine Mg (a:=wa) (o:=o) (kvs:=FC) (λj σ Hj=>∃y6 y7 E9 lj,σ=[some vm,some vr,some (.ref wa),some vp,some vc,some (.ref la),y6,y7]/\Hj la=some (.dK E9)/\As C (λ_=>False) Hj E9 lj/\jD ft row cut pats AJ (AJ.drop j) lj=some BM/\OI la (upd H wa (.frz o (.dK FC))) Hj)
  ⟨x6,x7,JI,later,rfl,E8,rl.ex f1,h,λ_ _ _ e=>e⟩ (λj σ Hj _ ⟨_,_,_,_,_,_,_,_,bt⟩=>bt _ _ F3 PU) (λj k y σ Hj hx ⟨y6,y7,E9,lj,e,JJ,UE,hj,bt⟩=>?_) (fun σ Hj ⟨y6,y7,E9,lj,e,JJ,UE,hj,bt⟩=>?_)
 ·subst e
  have XW:j < FC.length:=(af.mp hx).1
  obtain⟨pw,hpw⟩:=As.Sn HU hx
  have D5:AJ.drop j=(k,pw)::AJ.drop (j+1):=by
   rw[ce (by omega)]
   rw[(af.mp hpw).2]
  rw[D5] at hj
  cases k with
  | inr z=>cases hj
  | inl i=>
   have UG:(match aK AJ (.inl i) with | some (.int m)=>(jC ft row cut i m pats lj).bind (jD ft row cut pats AJ (AJ.drop (j+1))) | _=>none)=some BM:=hj
   rcases As.val (k:=.inl i) HU with ⟨v,pv',g1,g2,ry⟩ | ⟨g1,g2⟩
   ·have eL:aK AJ (.inl i)=some pv':=g2
    rw[eL] at UG
    cases pv' <;> first | (cases UG;done) | skip
    rename_i m
    cases ry
    obtain⟨l2,h1,h2⟩:=ag.mp UG
    have ex:Ex A H A Hj:=e1.trans (uN E8 nA bt)
    exact Mi nA (rr.ex ex) (rc.ex ex) (rp.ex ex) (bt _ _ F3 PU) F3 g1 JJ UE h1 λH' DM z7 q1 q2 q3=>⟨_,z7,DM,l2,rfl,q1,q2,h2,bt.trans q3⟩
   ·have eL:aK AJ (.inl i)=none:=g2
    rw[eL] at UG
    cases UG
 ·subst e
  have D5:AJ.drop FC.length=[]:=by rw[eT];omega
  rw[D5] at hj
  cases hj
  exact q Hj E9 y6 y7 JJ UE λx o n1 n2 e=>bt x o n1 (b1 x o n2 e)
noncomputable def gQ (ft:List PV->Option PV)(row:PV):List PV->List (Key×PV)->Option (List (Key×PV))
 | [],w=>some w
 | .tup [.tup pats,cut]::ss,w=>(jD ft row cut pats w w []).bind (gQ ft row ss)
 | _::_,_=>none
noncomputable def zL (ft:List PV->Option PV):List PV->Option PV
 | [.tup slots,.lst r]=>(gQ ft (.lst r) slots [(.inl 0,.int 1)]).bind λw=>some ((aK w (.inl (r.length:Nat))).getD (.int 0))
 | _=>none
def Jt (C:MC)(ft:List PV->Option PV):TS:=vz (yD C.K (aG 0)) (vq C.K 2 (jn (aW 3) (jn (aW 4) vo))) (cz (gn yO (aW 5)) (cz (Js C ft) (gn (aG 5) (aW 2))))
theorem Ml {row:PV}{slots:List PV}{AJ MS:List (Key×PV)}{vm vr:V}{x3 x4 x5 x6:Option V}{wa:Addr}{H0:Hp}
  (dA:∀a,A a->∃o,H0 a=some o) (rm:Rep C A H0 vm (.tup slots)) (rr:Rep C A H0 vr row) (s0:zv H0 H) (nwa:H0 wa=none) (HI:H wa=some (.dK FC)) (HU:As C (λ_=>False) H FC AJ)
  (h:gQ ft row slots AJ=some MS)
  (q:∀H' XX UH y3 y4 y5 y6 y7,H' XX=some (.dK UH)->As C (λ_=>False) H' UH MS->zv H0 H'->D.nx [some vm,some vr,some (.ref XX),y3,y4,y5,y6,y7] H'):
  Jt C ft D [some vm,some vr,some (.ref wa),x3,x4,x5,x6,x7] H:=by
 obtain⟨ma,us,rfl,hma,ru⟩:=zC.tup (.inl rm)
 have ln:=ru.length
 unfold Jt
 refine⟨_,rfl,ma,rfl,⟨us,(hma.up s0).sq⟩,?_⟩
 refine Bq (K:=C.K) (a:=ma) (xs:=us) (λj σ Hj=>∃Vh MU wj y3 y4 y5 y6 y7,σ=[some (.ref ma),some vr,some (.ref Vh),y3,y4,y5,y6,y7]/\zv H0 Hj/\H0 Vh=none/\Hj Vh=some (.dK MU)/\As C (λ_=>False) Hj MU wj/\gQ ft row (slots.drop j) wj=some MS)
  ⟨wa,FC,AJ,x3,x4,x5,x6,x7,rfl,s0,nwa,HI,HU,h⟩ (λj σ Hj _ ⟨_,_,_,_,_,_,_,_,_,s,_⟩=>(hma.up s).sq) (λj x σ Hj hx ⟨Vh,MU,wj,y3,y4,y5,y6,y7,e,s,nw,hw,Zn,hj⟩=>?_) (fun σ Hj ⟨Vh,MU,wj,y3,y4,y5,y6,y7,e,s,nw,hw,Zn,hj⟩=>?_)
 ·subst e
  have XW:j < us.length:=(af.mp hx).1
  have D5:slots.drop j=slots[j]'(by omega)::slots.drop (j+1):=ce (by omega)
  have hn:slots[j]?=some (slots[j]'(by omega)):=ai (by omega)
  generalize slots[j]'(by omega)=sl at hn D5
  rw[D5] at hj
  have rx:Rep C A Hj x sl:=by
   obtain⟨p,e,r⟩:=ru.get' hx
   rw[hn] at e
   cases e
   exact r.ex (.of_same s)
  unfold gQ at hj
  split at hj
  ·rename_i e;cases e
  ·rename_i pats cut ss e
   obtain⟨e1,e2⟩:=List.cons.inj e
   subst e1 e2
   obtain⟨l2,h1,h2⟩:=ag.mp hj
   obtain⟨xa,xs,rfl,hxa,rxa⟩:=zC.tup (.inl rx)
   cases rxa with
   | cons rp rc=>cases rc with
    | cons rc rn=>
     cases rn
     refine⟨xa,_,rfl,hxa.sq,rfl,_,_,rfl,_,_,rfl,rfl,λla EU=>?_⟩
     have sn:=aD EU (.dK [])
     have UI:H0 la=none:=s.free EU
     have no:∀{l:Addr},H0 l=none->¬ A l:=λz f=>by obtain⟨o,e⟩:=dA _ f;rw[z] at e;cases e
     refine Mj (A:=A) (no UI) (no nw) (rr.ex (.of_same (s.trans sn))) (rc.ex (.of_same sn)) (rp.ex (.of_same sn)) (sn _ _ hw) (Zn.ex (.of_same sn)) (aq hw EU) aA .nil h1 λH' DM z6 z7 e1 e2 e3=>?_
     exact⟨_,rfl,la,DM,l2,_,_,_,z6,z7,rfl,λx o e=>e3 x o (aq e UI) (aq e nw) (sn _ _ (s _ _ e)),UI,e1,e2,h2⟩
  ·cases hj
 ·subst e
  have D5:slots.drop us.length=[]:=by rw[eT];omega
  rw[D5] at hj
  cases hj
  exact q Hj Vh MU y3 y4 y5 y6 y7 hw Zn s
def Zo (C:MC)(ft:List PV->Option PV):TS:=
 cz (gn (GZ (tC (.int 0)) (tC (.int 1))) (aW 2)) (cz (Jt C ft) (iK (yQ C.K (aG 2) (LM (zA C.K) (aM (aG 1) bh)) (tC (.int 0)))))
theorem Qo {vs:List V}{Q:VK}{E:XK}(h:CO C (zL ft) false vs H Q E):
  Zo C ft { nx:=λ_ H'=>Q .zD H',rt:=Q } (L2.start ["_law_metre_here","_law_row","_law_ways","_law_patterns","_law_cut","_law_later","_law_at","_law_pattern_here"] vs) H:=by
 obtain⟨A,ps,out,r,hm,q⟩:=h
 unfold zL at hm
 split at hm
 ·rename_i slots rw
  obtain⟨w,h1,hm⟩:=ag.mp hm
  cases hm
  cases r with
  | @cons vm _ _ _ rm r=>cases r with
   | @cons vr _ _ _ rr r=>
    cases r
    have rm':Rep C (λa=>A a/\∃o,H a=some o) H vm (.tup slots):=rm.ex (aU λa o e z=>⟨z,o,e⟩)
    have Xx:Rep C (λa=>A a/\∃o,H a=some o) H vr (.lst rw):=rr.ex (aU λa o e z=>⟨z,o,e⟩)
    unfold Zo
    dsimp only [cz,gn,aW]
    intro wa HI
    have s1:=(aD HI (.dK [])).over HI (.dK [(.inl 0,.int 1)])
    refine⟨aA,.inl 0,rfl,?_⟩
    refine Ml (A:=λa=>A a/\∃o,H a=some o) (λa z=>z.2) rm' Xx s1 HI aA (.cons (.int 1) .nil) h1 λH' XX UH y3 y4 y5 y6 y7 e1 e2 s=>?_
    obtain⟨ra,us,ev,hra,ru⟩:=zC.lst (.inl (Xx.ex (.of_same s)))
    cases ev
    refine⟨_,rfl,XX,rfl,.inl ⟨_,.inl e1⟩,⟨_,rfl,ra,us,rfl,.inl (AS.of hra),⟨_,A8.k (k:=.inl (us.length:Nat)) e1,?_⟩⟩⟩
    have hl:us.length=rw.length:=ru.length
    rcases As.val (k:=.inl (us.length:Nat)) e2 with ⟨y,py,g1,g2,ry⟩ | ⟨g1,g2⟩
    ·have eL:aK w (.inl (us.length:Nat))=some py:=g2
     rw[hl] at eL g1
     rw[eL] at q
     rw[hl,g1]
     exact q _ _ s (ry.ex (aU λ_ _ _ f=>f.elim))
    ·have eL:aK w (.inl (us.length:Nat))=none:=g2
     rw[hl] at eL g1
     rw[eL] at q
     rw[hl,g1]
     exact q _ _ s (.int 0)
 ·cases hm
noncomputable def bc (n:qr):List zo:=n.map λi=>.k (.inl i)
theorem xr (f:PV->Option zo)(hf:∀i,f (.int i)=some (.k (.inl i))):∀n:List Int,qd f (n.map PV.int)=some (bc n)
 | []=>rfl
 | i::n=>by
  show (f (.int i)).bind _=_
  rw[hf,aE,xr f hf n]
  rfl
theorem ir (n:qr):AB (n.map PV.int)=some (bc n):=by
 unfold AB gK
 split
 ·rename_i e
  match n,e with
  | [],e=>cases e
  | [_],e=>cases e
  | _::_::_,e=>injection e with e1 _;cases e1
 ·exact xr _ (λi=>rfl) n
structure FS where
 ws:List WS
 AJ:List (List zo×PV)
 later:List (List Int)
noncomputable def mq (cn:Nat)(io so ro:List PV->Option PV)(node:qr)(x:PV×List Int)(st:FS):Option (FS ⊕ PV):=match aK st.AJ (bc x.2) with
 | some _=>some (.inl st)
 | none=>match st.ws,x.2 with
  | w0::_,k::_=>(io [w0.pv cn,.int k]).bind λo=>match o with
   | .bl true=>some (.inl st)
   | .bl false=>if st.AJ.length < 1000000/\st.later.length < 1000000 then
     (so [.lst (st.ws.map λw=>w.pv cn),BC x.2]).bind λs=>match s with
      | .bl true=>(ro [.dT (bB st.AJ (bc x.2) (.tup [BC node,x.1])),BC x.2]).bind λv=>some (.inr v)
      | .bl false=>some (.inl { st with AJ:=bB st.AJ (bc x.2) (.tup [BC node,x.1]),later:=st.later++[x.2] })
      | _=>none
    else none
   | _=>none
  | _,_=>none
structure FI (C:MC)(cn:Nat)(cs:List WC)(wl da lb:Addr)(H0:Hp)(F:Addr->Prop)(H:Hp)(st:FS):Prop where
 W:EG C cn F H cs st.ws
 D4:H wl=some (.lst (cs.map λc=>V.ref c.a))
 DF:∃kv,H da=some (.dT kv)/\AF C (λ_=>False) H kv st.AJ
 GI:∃vs,H lb=some (.lst vs)/\zt C (λ_=>False) H vs (st.later.map BC)
 dm:∀b,F b->∃o,H b=some o
 nF:¬ F wl/\¬ F da/\¬ F lb
 F3:∀c∈cs,wl≠c.lp
 PY:∀c∈cs,da≠c.a/\da≠c.ah/\da≠c.lp/\da≠c.ln/\da≠c.lo
 LH:∀c∈cs,lb≠c.a/\lb≠c.ah/\lb≠c.lp/\lb≠c.ln/\lb≠c.lo
 Wv:wl≠lb
 new:H0 da=none/\H0 lb=none
 kp:AR cs H0 H
variable {F:Addr->Prop}
theorem jU {H':Hp}(h:∀x o,H x=some o->gF o=false->H' x=some o):Ex (λ_=>False) H F H':=λx o e=>⟨λz=>z.elim,λm=>h x o e m⟩
theorem FI.same {C:MC}{cn:Nat}{cs:List WC}{wl da lb:Addr}{H0 H H':Hp}{F:Addr->Prop}{st:FS}(I:FI C cn cs wl da lb H0 F H st)(s:zv H H'):FI C cn cs wl da lb H0 F H' st where
 W:=I.W.same s
 D4:=s _ _ I.D4
 DF:=let ⟨kv,e,r⟩:=I.DF;⟨kv,s _ _ e,r.ex (.of_same s)⟩
 GI:=let ⟨kv,e,r⟩:=I.GI;⟨kv,s _ _ e,r.ex (.of_same s)⟩
 dm:=λb f=>let ⟨o,e⟩:=I.dm b f;⟨o,s b o e⟩
 nF:=I.nF
 F3:=I.F3
 PY:=I.PY
 LH:=I.LH
 Wv:=I.Wv
 new:=I.new
 kp:=λx o e n=>s x o (I.kp x o e n)
theorem EG.rep {C:MC}{cn:Nat}{F:Addr->Prop}{H:Hp}{cs:List WC}{ws:List WS}(W:EG C cn F H cs ws):zt C (λ_=>True) H (cs.map λc=>V.ref c.a) (ws.map λw=>w.pv cn):=by
 have h:∀(cs:List WC) (ws:List WS),cs.length=ws.length->(∀(i:Nat) (c:WC) (w:WS),cs[i]?=some c->ws[i]?=some w->c.n=cn/\WR C F H c w)->zt C (λ_=>True) H (cs.map λc=>V.ref c.a) (ws.map λw=>w.pv cn):=by
  intro cs
  induction cs with
  | nil=>
   intro ws l _
   cases ws with
   | nil=>exact .nil
   | cons w ws=>cases l
  | cons c cs ih=>
   intro ws l a
   cases ws with
   | nil=>cases l
   | cons w ws=>
    obtain⟨e,Wc⟩:=a 0 c w rfl rfl
    refine .cons ?_ (ih ws (by simpa using l) λi c w h1 h2=>a (i+1) c w (by simpa using h1) (by simpa using h2))
    have:=Wc.rep
    rw[e] at this
    exact this.ex (aU λ_ _ _ _=>trivial)
 exact h cs ws W.len W.all
def Kr (C:MC)(cn:Nat)(io:List PV->Option PV):TE:=jO (C.cl cn) "is_over" (CO C io false) [] E0 (L3 (vD C.K) (aG 0) (tC (.int 0))) (aM (L3 (Di C.K) (aG 8) (tC (.int 0))) bh)
def zM (C:MC)(H0 H':Hp)(v:V)(p:PV):Prop:=∃a,v=.ref a/\H0 a=none/\Top C (λc=>H0 c=none/\c≠a) H' a p
def El (C:MC)(cn:Nat)(io so ro:List PV->Option PV)(fS:Addr):TS:=
 lU (Hv (tB (iR C.K (aG 8) (aG 3))) (Hw (tB (Kr C cn io))))
  (cz (jP C.K (aG 3) (aG 8) (yF (aM (aG 6) (aM (aG 7) bh))))
   (cz (t7 (U3 C.K "list" vH (aG 5) (aM (aG 8) bh)))
    (lU (tB (uK 1 fS (CO C so false) (aM (aG 0) (aM (aG 8) bh)))) (iK (fB (CO C ro true) [] E0 (aM (aG 3) (aM (aG 8) bh)))) jm)))
  jm
variable {cn:Nat}{cs:List WC}
theorem FI.grow {wl da lb p b:Addr}{H0:Hp}{st:FS}{kd:List (List zo×V)}{lv:List V}{node rc:qr}{sd:PV}{vn vd:V}(I:FI C cn cs wl da lb H0 F H st)(DF:H da=some (.dT kd))(PZ:AF C (λ_=>False) H kd st.AJ)(GI:H lb=some (.lst lv))(Vi:zt C (λ_=>False) H lv (st.later.map BC))(hp:H p=none)
  (rn:Rep C (λ_=>False) H vn (BC node)) (rd:Rep C (λ_=>False) H vd sd) (rr:Rep C (λ_=>False) H (.ref b) (BC rc)):
  FI C cn cs wl da lb H0 F (upd (upd (upd H p (.tup [vn,vd])) da (.dT (putK kd (bc rc) (.ref p)))) lb (.lst (lv++[.ref b]))) { st with AJ:=bB st.AJ (bc rc) (.tup [BC node,sd]),later:=st.later++[rc] } /\
  (∀x o,H x=some o->gF o=false->upd (upd (upd H p (.tup [vn,vd])) da (.dT (putK kd (bc rc) (.ref p)))) lb (.lst (lv++[.ref b])) x=some o) /\
  (∀x o,H x=some o->x≠da->x≠lb->upd (upd (upd H p (.tup [vn,vd])) da (.dT (putK kd (bc rc) (.ref p)))) lb (.lst (lv++[.ref b])) x=some o):=by
 have s1:=aD hp (.tup [vn,vd])
 have npd:p≠da:=(aq DF hp).symm
 have npl:p≠lb:=(aq GI hp).symm
 have Ww:da≠lb:=bR DF GI (λz=>nomatch z)
 have I1:=I.same s1
 have P4:=s1 _ _ DF
 have W2:EG C cn F (upd (upd H p (.tup [vn,vd])) da (.dT (putK kd (bc rc) (.ref p)))) cs st.ws:=I1.W.own P4 rfl I.nF.2.1 I.PY
 have Zp:upd (upd H p (.tup [vn,vd])) da (.dT (putK kd (bc rc) (.ref p))) lb=some (.lst lv):=by rw[ao Ww.symm];exact s1 _ _ GI
 have W3:=W2.own (o:=.lst (lv++[.ref b])) Zp rfl I.nF.2.2 I.LH
 have k3:∀x o,H x=some o->x≠da->x≠lb->upd (upd (upd H p (.tup [vn,vd])) da (.dT (putK kd (bc rc) (.ref p)))) lb (.lst (lv++[.ref b])) x=some o:=λx o e n1 n2=>by rw[ao n2,ao n1];exact s1 x o e
 have km:∀x o,H x=some o->gF o=false->upd (upd (upd H p (.tup [vn,vd])) da (.dT (putK kd (bc rc) (.ref p)))) lb (.lst (lv++[.ref b])) x=some o:=λx o e m=>k3 x o e (λz=>by rw[z,DF] at e;cases e;cases m) λz=>by rw[z,GI] at e;cases e;cases m
 have ex:=jU (F:=λ_=>False) km
 have hp3:upd (upd (upd H p (.tup [vn,vd])) da (.dT (putK kd (bc rc) (.ref p)))) lb (.lst (lv++[.ref b])) p=some (.tup [vn,vd]):=by rw[ao npl,ao npd,aA]
 refine⟨⟨W3,k3 _ _ I.D4 (bR I.D4 DF (λz=>nomatch z)) I.Wv,⟨_,by rw[ao Ww,aA],AF.put (.tup hp3 (.cons (rn.ex ex) (.cons (rd.ex ex) .nil))) (PZ.ex ex)⟩,⟨_,aA,?_⟩,λx f=>?_,I.nF,I.F3,I.PY,I.LH,I.Wv,I.new,λx o e n=>?_⟩,km,k3⟩
 ·rw[dL]
  exact(Vi.ex ex).append (.cons (rr.ex ex) .nil)
 ·obtain⟨o,e⟩:=I.dm x f
  exact⟨o,k3 x o e (λz=>I.nF.2.1 (z▸f)) (λz=>I.nF.2.2 (z▸f))⟩
 ·exact k3 x o (I.kp x o e n) (λz=>by rw[z,I.new.1] at e;cases e) λz=>by rw[z,I.new.2] at e;cases e
variable {io so ro:List PV->Option PV}{out:FS ⊕ PV}
theorem Ju {fS wl da lb:Addr}{H0:Hp}{st:FS}{node rc:qr}{sd:PV}{vs vn vd vr:V}(I:FI C cn cs wl da lb H0 F H st)(rn:Rep C (λ_=>False) H vn (BC node))(rd:Rep C (λ_=>False) H vd sd)(rr:Rep C (λ_=>False) H vr (BC rc))
  (h:mq cn io so ro node (sd,rc) st=some out)
  (q1:∀H' A7,out=.inl A7->FI C cn cs wl da lb H0 F H' A7->(∀x o,H x=some o->gF o=false->H' x=some o)->(∀x o,H x=some o->x≠da->x≠lb->H' x=some o)->D.nx [some (.ref wl),some (.ref fS),some vs,some (.ref da),some (.ref la),some (.ref lb),some vn,some vd,some vr] H')
  (q2:∀H' v p,out=.inr p->AR cs H0 H'->zM C H0 H' v p->D.rt v H'):
  El C cn io so ro fS D [some (.ref wl),some (.ref fS),some vs,some (.ref da),some (.ref la),some (.ref lb),some vn,some vd,some vr] H:=by
 obtain⟨kd,DF,PZ⟩:=I.DF
 obtain⟨lv,GI,Vi⟩:=I.GI
 obtain⟨b,us,rfl,hb,rb⟩:=zC.tup (.inl rr)
 have ck:B5 C.K H b (bc rc):=hb.key (rb.AB (ir rc))
 have eus:=qj rb
 unfold El
 dsimp only [lU,Hv,tB,iR,Hw,cz,jP,t7,U3,jm,iK,fB,uK]
 refine⟨_,rfl,_,rfl,da,_,rfl,A8.t DF ck,_,rfl,?_⟩
 unfold mq at h
 dsimp only at h
 rcases AF.val (k:=bc rc) PZ with ⟨y,py,g1,g2,ry⟩ | ⟨g1,g2⟩
 ·have eL:aK st.AJ (bc rc)=some py:=g2
  rw[eL] at h
  cases h
  rw[g1]
  exact lW (lW (q1 H st rfl I (λ_ _ e _=>e) λ_ _ e _ _=>e))
 ·have eL:aK st.AJ (bc rc)=none:=g2
  rw[eL] at h
  rw[g1]
  refine iT ?_
  cases UJ:st.ws with
  | nil=>rw[UJ] at h;cases h
  | cons w0 wr=>
   cases rc with
   | nil=>rw[UJ] at h;cases h
   | cons k rc'=>
    rw[UJ] at h
    obtain⟨o,ho,h⟩:=ag.mp h
    obtain⟨c0,cr,ecs⟩:∃c0 cr,cs=c0::cr:=by
     have:=I.W.len
     rw[UJ] at this
     cases cs with
     | nil=>cases this
     | cons c0 cr=>exact⟨c0,cr,rfl⟩
    obtain⟨Sk,W0⟩:=I.W.all 0 c0 w0 (by rw[ecs];rfl) (by rw[UJ];rfl)
    have PH:us=V.int k::rc'.map V.int:=eus
    have i0:BY (cs.map λc=>V.ref c.a) 0=some (.ref c0.a):=by rw[ecs];simp[BY,IU]
    have i1:BY us 0=some (.int k):=by rw[PH];simp[BY,IU]
    unfold Kr
    dsimp only [jO,L3,tC,aM,bh]
    refine⟨_,rfl,wl,_,0,_,rfl,rfl,AS.of I.D4,i0,c0.a,c0.dx,_,rfl,by rw[← Sk];exact W0.ob,rfl,?_⟩
    refine⟨_,rfl,b,us,0,_,rfl,rfl,hb.sq,i1,?_⟩
    have r0:Rep C (λ_=>True) H (.ref c0.a) (w0.pv cn):=by
     have:=W0.rep
     rw[Sk] at this
     exact this.ex (aU λ_ _ _ _=>trivial)
    refine⟨λ_=>True,[w0.pv cn,.int k],o,.cons r0 (.cons (.int _) .nil),ho,λv1 H1 s1 r1=>?_⟩
    have FV:zC C _ H1 v1 o:=.inl r1
    cases o <;> first | (cases h;done) | skip
    rename_i ob
    refine⟨ob,FV.bl,?_⟩
    have I1:=I.same s1
    cases ob with
    | true=>
     cases h
     exact lW (q1 H1 st rfl I1 (λx o e _=>s1 x o e) λx o e _ _=>s1 x o e)
    | false=>
     refine iT ?_
     dsimp only at h
     split at h
     ·rename_i hz
      obtain⟨s,hs,h⟩:=ag.mp h
      have P4:=s1 _ _ DF
      have Wx:=s1 _ _ GI
      have UK:Ex (λ_=>False) H (λ_=>False) H1:=.of_same s1
      refine⟨_,rfl,_,rfl,by show (2:Nat)<=sizeLine;decide,λp hp=>?_⟩
      have ck1:B5 C.K H1 b (bc (k::rc')):=ck.keeps λx ys e=>s1 _ _ e
      have sp:=aD hp (.tup [vn,vd])
      have Za:B5 C.K (upd H1 p (.tup [vn,vd])) b (bc (k::rc')):=ck1.keeps λx ys e=>sp _ _ e
      refine⟨_,rfl,_,rfl,da,_,rfl,E6.t (sp _ _ P4) Za (bY (by rw[PZ.length];omega)),?_⟩
      obtain⟨I4,km,k4⟩:=I1.grow P4 (PZ.ex UK) Wx (Vi.ex UK) hp (rn.ex UK) (rd.ex UK) (rr.ex UK)
      have Ww:da≠lb:=bR DF GI (λz=>nomatch z)
      have hl3:upd (upd H1 p (.tup [vn,vd])) da (.dT (putK kd (bc (k::rc')) (.ref p))) lb=some (.lst lv):=by rw[ao Ww.symm];exact sp _ _ Wx
      refine⟨_,rfl,.inl ⟨rfl,lv,AS.of hl3⟩,_,rfl,lb,lv,.ref b,rfl,rfl,hl3,bY (by have:=Vi.length;rw[aI] at this;omega),?_⟩
      refine⟨rfl,_,rfl,_,rfl,?_⟩
      have rr4:=(rr.ex UK).ex (jU (F:=λ_=>True) km)
      refine⟨λ_=>True,[.lst (st.ws.map λw=>w.pv cn),BC (k::rc')],s,.cons (.lst I4.D4 trivial I4.W.rep) (.cons rr4 .nil),by rw[UJ];exact hs,λv5 H5 s5 r5=>?_⟩
      have YS:zC C _ H5 v5 s:=.inl r5
      cases s <;> first | (cases h;done) | skip
      rename_i sb
      refine⟨sb,YS.bl,?_⟩
      have I5:=I4.same s5
      cases sb with
      | true=>
       refine iT ?_
       obtain⟨pv,Zr,h⟩:=ag.mp h
       cases h
       obtain⟨kd5,hd5,rd5⟩:=I5.DF
       refine⟨_,rfl,_,rfl,?_⟩
       refine⟨λc=>c=da,[.dT (bB st.AJ (bc (k::rc')) (.tup [BC node,sd])),BC (k::rc')],pv,.cons (.dT hd5 rfl (rd5.ex (aU λ_ _ _ z=>z.elim))) (.cons (((rr.ex UK).ex (jU (F:=λ_=>False) km)).ex (jU λx o e m=>s5 x o e)) .nil),Zr,λv H6 s6 r6=>?_⟩
       refine q2 H6 v pv rfl (λx o e n=>s6 x o (I5.kp x o e n)) ?_
       obtain⟨a,ev,hn,tp⟩:=r6
       exact⟨a,ev,I5.kp.Uz I5.W hn,tp.ex (aU λx o _ z=>⟨z.1.elim (λe=>by rw[e];exact I.new.1) λe=>I5.kp.Uz I5.W e,z.2⟩) λo z=>z⟩
      | false=>
       cases h
       exact lW (q1 H5 _ (by rw[UJ]) I5 (λx o e m=>s5 x o (km x o (s1 x o e) m)) λx o e n1 n2=>s5 x o (k4 x o (s1 x o e) n1 n2))
     ·cases h
noncomputable def my (cn:Nat)(io so ro:List PV->Option PV)(node:qr):List (PV×List Int)->FS->Option (FS ⊕ PV)
 | [],st=>some (.inl st)
 | x::xs,st=>(mq cn io so ro node x st).bind λo=>match o with
  | .inl A7=>my cn io so ro node xs A7
  | .inr v=>some (.inr v)
noncomputable def qu (pb:List PV->Option PV)(cn:Nat)(S:List PV)(io so ro:List PV->Option PV):List (List Int)->FS->Option (FS ⊕ PV)
 | [],st=>some (.inl st)
 | n::ns,st=>(Vf pb cn S st.ws n).bind λr=>(my cn io so ro n (S.zip r.1) { st with ws:=r.2 }).bind λo=>match o with
  | .inl A7=>qu pb cn S io so ro ns A7
  | .inr v=>some (.inr v)
noncomputable def sW (pb:List PV->Option PV)(cn:Nat)(S:List PV)(io so ro:List PV->Option PV):Nat->List (List Int)->FS->Option PV
 | 0,_,_=>none
 | _+1,[],_=>some .zD
 | f+1,n::ns,st=>(qu pb cn S io so ro (n::ns) { st with later:=[] }).bind λo=>match o with
  | .inl A7=>sW pb cn S io so ro f A7.later A7
  | .inr v=>some v
noncomputable def Vj (pb:List PV->Option PV)(cn:Nat)(S:List PV)(io so ro:List PV->Option PV)(ws:List WS):Option PV:=
 sW pb cn S io so ro 1000 [List.replicate ws.length 0] { ws:=ws,AJ:=[(bc (List.replicate ws.length 0),.zD)],later:=[List.replicate ws.length 0] }
section
variable {C:MC}{cn:Nat}{cs:List WC}{wl da lb:Addr}{H0 H H1:Hp}{F F1:Addr->Prop}{st:FS}{EH:List WS}
theorem FI.walk (I:FI C cn cs wl da lb H0 F H st)(kp:AR cs H H1)(gr:FK F F1 H)(W:EG C cn F1 H1 cs EH)(dm:∀b,F1 b->∃o,H1 b=some o):FI C cn cs wl da lb H0 F1 H1 { st with ws:=EH }:=by
 have ex:=jU (H:=H) (H':=H1) (F:=λ_=>False) λx o e m=>kp.tup I.W e m
 obtain⟨kd,DF,PZ⟩:=I.DF
 obtain⟨lv,GI,Vi⟩:=I.GI
 have no:∀x o,H x=some o->¬ F x->¬ F1 x:=λx o e n z=>(gr.2 x z).elim n λq=>by rw[q] at e;cases e
 exact⟨W,kp.lst I.W I.D4 I.F3,⟨kd,kp da _ DF λc hc=>⟨(I.PY c hc).2.2.1,(I.PY c hc).2.2.2.1,(I.PY c hc).2.2.2.2⟩,PZ.ex ex⟩,⟨lv,kp lb _ GI λc hc=>⟨(I.LH c hc).2.2.1,(I.LH c hc).2.2.2.1,(I.LH c hc).2.2.2.2⟩,Vi.ex ex⟩,dm,
  ⟨no _ _ I.D4 I.nF.1,no _ _ DF I.nF.2.1,no _ _ GI I.nF.2.2⟩,I.F3,I.PY,I.LH,I.Wv,I.new,I.kp.trans kp⟩
end
def zN (C:MC)(cn:Nat)(pb:List PV->Option PV)(S:List PV)(io so ro:List PV->Option PV)(fS aS:Addr):TS:=
 vz (yc C.K .T .L (aM (tC (.ref aS)) (aM (fB (zF C cn pb S) [] E0 (aM (aG 0) (aM (aG 6) bh))) bh))) (vq C.K 2 (jn (aW 7) (jn (aW 8) vo))) (El C cn io so ro fS)
theorem RD {v:V}{n:qr}(r:Rep C A H v (BC n)):Rep C (λ_=>False) H v (BC n):=BZ r (ir n)
variable {pb:List PV->Option PV}{nodes:List (List Int)}
theorem G3 {S:List PV}{fS aS wl da lb:Addr}{H0:Hp}{st:FS}{node:qr}{vs vn:V}{x8:Option V}{EH:List WS}(hS:qi C aS S)(ne:cs≠[])(hz:cs.length<=1000)(T:WT C.K (C.cl cn))(I:FI C cn cs wl da lb H0 F H st)(rn:Rep C (λ_=>False) H vn (BC node))
  (XY:Vf pb cn S st.ws node=some (nodes,EH)) (h:my cn io so ro node (S.zip nodes) { st with ws:=EH }=some out)
  (q1:∀H' F' A7 y7 y8,out=.inl A7->FI C cn cs wl da lb H0 F' H' A7->(∀x o,H x=some o->gF o=false->H' x=some o)->(∀x xs,H x=some (.lst xs)->(∀c∈cs,x≠c.lp)->x≠lb->H' x=some (.lst xs))->D.nx [some (.ref wl),some (.ref fS),some vs,some (.ref da),some (.ref la),some (.ref lb),some vn,y7,y8] H')
  (q2:∀H' v p,out=.inr p->AR cs H0 H'->zM C H0 H' v p->D.rt v H'):
  zN C cn pb S io so ro fS aS D [some (.ref wl),some (.ref fS),some vs,some (.ref da),some (.ref la),some (.ref lb),some vn,x7,x8] H:=by
 obtain⟨us,PH,Uy⟩:=hS
 have oG:us.length=S.length:=(Uy F H).length
 have nl:nodes.length=S.length:=by
  obtain⟨r,_,h2⟩:=ag.mp XY
  obtain⟨rows,_,h3⟩:=ag.mp h2
  cases h3
  simp
 unfold zN
 refine⟨_,rfl,_,rfl,?_⟩
 refine⟨F,cs,st.ws,node,nodes,EH,wl,vn,rfl,ne,T,I.W,I.D4,I.nF.1,I.F3,hz,rn.ex (aU λ_ _ _ z=>z.elim),XY,λH1 F1 l HZ k1 g1 W1 hl nl1 LP r1=>?_⟩
 refine⟨aS,l,rfl,⟨us,j9 PH⟩,⟨HZ,AS.of LP⟩,?_⟩
 obtain⟨c0,So⟩:=kf _ ne
 obtain⟨i0,UL⟩:=ef.mp So
 have Ze:∀b,F1 b->∃o,H1 b=some o:=(W1.all i0 c0 _ UL (ai (by rw[← W1.len];exact(af.mp UL).1))).2.dm
 have I1:=I.walk k1 g1 W1 Ze
 obtain⟨kd,DF,_⟩:=I.DF
 obtain⟨lv,GI,_⟩:=I.GI
 have nld:l≠da:=(aq DF hl).symm
 have LH:l≠lb:=(aq GI hl).symm
 have lv':HZ.length=nodes.length:=by have:=r1.length;simpa using this
 refine Jg (K:=C.K) (k1:=.T) (k2:=.L) (a:=aS) (b:=l) (xs:=us) (ys:=HZ) (by omega) (λj σ Hj=>∃y7 y8 KO,σ=[some (.ref wl),some (.ref fS),some vs,some (.ref da),some (.ref la),some (.ref lb),some vn,y7,y8]/\FI C cn cs wl da lb H0 F1 Hj KO/\my cn io so ro node ((S.zip nodes).drop j) KO=some out/\(∀x o,H1 x=some o->gF o=false->Hj x=some o)/\∀x o,H1 x=some o->x≠da->x≠lb->Hj x=some o)
  ⟨x7,x8,_,rfl,I1,h,λ_ _ e _=>e,λ_ _ e _ _=>e⟩ (λj σ Hj _ ⟨y7,y8,KO,_,Ij,_,_,kj⟩=>⟨j9 PH,AS.of (kj _ _ LP nld LH)⟩) (λj x y σ Hj hx hy ⟨y7,y8,KO,e,Ij,hj,mj,kj⟩ t ht=>?_) (fun σ Hj ⟨y7,y8,KO,e,Ij,hj,mj,kj⟩=>?_)
 ·subst e
  have XW:j < us.length:=(af.mp hx).1
  have hs:S[j]?=some (S[j]'(by omega)):=ai (by omega)
  have hn:nodes[j]?=some (nodes[j]'(by omega)):=ai (by omega)
  have D5:(S.zip nodes).drop j=(S[j]'(by omega),nodes[j]'(by omega))::(S.zip nodes).drop (j+1):=by
   rw[ce (by simp;omega)]
   simp
  generalize S[j]'(by omega)=sd at hs D5
  generalize nodes[j]'(by omega)=rc at hn D5
  rw[D5] at hj
  obtain⟨o,ho,hj⟩:=ag.mp (show ((mq cn io so ro node (sd,rc) KO).bind _)=_ from hj)
  have s1:=aD ht (.tup [x,y])
  refine⟨t,[x,y],rfl,BU.of aA,rfl,x,[y],rfl,?_⟩
  refine⟨y,[],rfl,rfl,?_⟩
  have rd:Rep C (λ_=>False) (upd Hj t (.tup [x,y])) x sd:=by
   obtain⟨p,e,r⟩:=(Uy (λ_=>False) (upd Hj t (.tup [x,y]))).get' hx
   rw[hs] at e
   cases e
   exact r
  have rr:Rep C (λ_=>False) (upd Hj t (.tup [x,y])) y (BC rc):=by
   obtain⟨p,e,r⟩:=r1.get' hy
   rw[cm,hn] at e
   cases e
   exact((RD r).ex (jU (F:=λ_=>False) mj)).ex (.of_same s1)
  have rn':Rep C (λ_=>False) (upd Hj t (.tup [x,y])) vn (BC node):=((rn.ex (jU (F:=λ_=>False) λx o e m=>k1.tup I.W e m)).ex (jU (F:=λ_=>False) mj)).ex (.of_same s1)
  refine Ju (Ij.same s1) rn' rd rr ho (λH' A7 e I' m' k'=>?_) (λH' v p e kp rp=>?_)
  ·subst e
   exact⟨some x,some y,A7,rfl,I',hj,λz o e m=>m' z o (s1 z o (mj z o e m)) m,λz o e n1 n2=>k' z o (s1 z o (kj z o e n1 n2)) n1 n2⟩
  ·subst e
   cases hj
   exact q2 H' v p rfl kp rp
 ·subst e
  have D5:(S.zip nodes).drop us.length=[]:=by rw[eT];simp;omega
  rw[D5] at hj
  cases hj
  refine q1 Hj F1 KO y7 y8 rfl Ij (λx o e m=>mj x o (k1.tup I.W e m) m) λx xs e n1 n2=>?_
  exact kj x _ (k1.lst I.W e n1) (λz=>by rw[z,DF] at e;cases e) n2
def Qp (C:MC)(cn:Nat)(pb:List PV->Option PV)(S:List PV)(io so ro:List PV->Option PV)(fS aS:Addr):TS:=vz (xU C.K (aG 4)) (aW 6) (zN C cn pb S io so ro fS aS)
theorem Mm {S:List PV}{fS aS wl da lb:Addr}{H0:Hp}{st:FS}{nv:List V}{vs:V}{x6 x8:Option V}(hS:qi C aS S)(ne:cs≠[])(hz:cs.length<=1000)(T:WT C.K (C.cl cn))(I:FI C cn cs wl da lb H0 F H st)
  (EU:H la=some (.lst nv)) (Wy:zt C (λ_=>False) H nv (nodes.map BC)) (nla:∀c∈cs,la≠c.lp) (LH:la≠lb) (h:qu pb cn S io so ro nodes st=some out)
  (q1:∀H' F' A7 y6 y7 y8,out=.inl A7->FI C cn cs wl da lb H0 F' H' A7->D.nx [some (.ref wl),some (.ref fS),some vs,some (.ref da),some (.ref la),some (.ref lb),y6,y7,y8] H')
  (q2:∀H' v p,out=.inr p->AR cs H0 H'->zM C H0 H' v p->D.rt v H'):
  Qp C cn pb S io so ro fS aS D [some (.ref wl),some (.ref fS),some vs,some (.ref da),some (.ref la),some (.ref lb),x6,x7,x8] H:=by
 refine⟨_,rfl,la,rfl,⟨nv,AS.of EU⟩,?_⟩
 have ln:nv.length=nodes.length:=by have:=Wy.length;simpa using this
 refine Hz (K:=C.K) (a:=la) (xs:=nv) (λj σ Hj=>∃y6 y7 y8 KO Fj,σ=[some (.ref wl),some (.ref fS),some vs,some (.ref da),some (.ref la),some (.ref lb),y6,y7,y8]/\FI C cn cs wl da lb H0 Fj Hj KO/\qu pb cn S io so ro (nodes.drop j) KO=some out/\(∀x o,H x=some o->gF o=false->Hj x=some o)/\Hj la=some (.lst nv))
  ⟨x6,x7,x8,st,F,rfl,I,h,λ_ _ e _=>e,EU⟩ (λj σ Hj _ ⟨_,_,_,_,_,_,_,_,_,e⟩=>AS.of e) (λj x σ Hj hx ⟨y6,y7,y8,KO,Fj,e,Ij,hj,mj,laj⟩=>?_) (fun σ Hj ⟨y6,y7,y8,KO,Fj,e,Ij,hj,mj,laj⟩=>?_)
 ·subst e
  have XW:j < nv.length:=(af.mp hx).1
  have hn:nodes[j]?=some (nodes[j]'(by omega)):=ai (by omega)
  have D5:nodes.drop j=nodes[j]'(by omega)::nodes.drop (j+1):=ce (by omega)
  generalize nodes[j]'(by omega)=n at hn D5
  rw[D5] at hj
  obtain⟨⟨nds,ws2⟩,XY,hj⟩:=ag.mp (show ((Vf pb cn S KO.ws n).bind _)=_ from hj)
  obtain⟨o,ho,hj⟩:=ag.mp hj
  have rn:Rep C (λ_=>False) Hj x (BC n):=by
   obtain⟨p,e,r⟩:=Wy.get' hx
   rw[cm,hn] at e
   cases e
   exact r.ex (jU mj)
  refine G3 hS ne hz T Ij rn XY ho (λH' F' A7 z7 z8 e I' m' k'=>?_) (λH' v p e kp rp=>?_)
  ·subst e
   exact⟨some x,z7,z8,A7,F',rfl,I',hj,λy o e m=>m' y o (mj y o e m) m,k' la nv laj nla LH⟩
  ·subst e
   cases hj
   exact q2 H' v p rfl kp rp
 ·subst e
  have D5:nodes.drop nv.length=[]:=by rw[eT];omega
  rw[D5] at hj
  cases hj
  exact q1 Hj Fj KO y6 y7 y8 rfl Ij
theorem FI.fresh {wl da lb:Addr}{H0:Hp}{st:FS}(I:FI C cn cs wl da la H0 F H st)(hb:H lb=none):FI C cn cs wl da lb H0 F (upd H lb (.lst [])) { st with later:=[] }:=by
 have s:=aD hb (.lst [])
 obtain⟨kd,DF,PZ⟩:=I.DF
 exact⟨I.W.same s,s _ _ I.D4,⟨kd,s _ _ DF,PZ.ex (.of_same s)⟩,⟨[],aA,.nil⟩,λb f=>(let ⟨o,e⟩:=I.dm b f;⟨o,s b o e⟩),⟨I.nF.1,I.nF.2.1,λf=>by obtain⟨o,e⟩:=I.dm lb f;rw[hb] at e;cases e⟩,I.F3,I.PY,I.W.nc hb,aq I.D4 hb,⟨I.new.1,I.kp.Uz I.W hb⟩,λx o e n=>s x o (I.kp x o e n)⟩
def tWh (C:MC)(cn:Nat)(pb:List PV->Option PV)(S:List PV)(io so ro:List PV->Option PV)(fS aS:Addr):TS:=
 Fg (tB (tGt (LM (zA C.K) (aM (aG 4) bh)) (tC (.int 0)))) (cz (gn (vA bh) (aW 5)) (cz (Qp C cn pb S io so ro fS aS) (gn (aG 5) (aW 4))))
theorem Qq {S:List PV}{fS aS wl da:Addr}{H0:Hp}{st:FS}{vs:V}{x5 x6 x8:Option V}{out:PV}{fuel:Nat}(hS:qi C aS S)(ne:cs≠[])(hz:cs.length<=1000)(T:WT C.K (C.cl cn))(I:FI C cn cs wl da la H0 F H st)(h:sW pb cn S io so ro fuel st.later st=some out)
  (q1:∀ σ H',out=.zD->AR cs H0 H'->D.nx σ H')
  (q2:∀H' v,AR cs H0 H'->zM C H0 H' v out->D.rt v H'):
  tWh C cn pb S io so ro fS aS D [some (.ref wl),some (.ref fS),some vs,some (.ref da),some (.ref la),x5,x6,x7,x8] H:=by
 refine⟨λm σ H=>∃la x5 x6 x7 x8 F st,σ=[some (.ref wl),some (.ref fS),some vs,some (.ref da),some (.ref la),x5,x6,x7,x8]/\FI C cn cs wl da la H0 F H st/\sW pb cn S io so ro m st.later st=some out,⟨fuel,la,x5,x6,x7,x8,F,st,rfl,I,h⟩,?_⟩
 rintro m σ H ⟨la,x5,x6,x7,x8,F,st,rfl,I,h⟩
 obtain⟨nv,EU,Wy⟩:=I.GI
 have ln:nv.length=st.later.length:=by have:=Wy.length;simpa using this
 cases m with
 | zero=>cases h
 | succ f=>
  refine⟨_,rfl,la,nv,rfl,.inl (AS.of EU),_,_,rfl,rfl,_,rfl,?_⟩
  cases hl:st.later with
  | nil=>
   rw[hl] at h ln
   cases h
   have e:decide ((0:Int) < (nv.length:Nat))=false:=by rw[ln];rfl
   exact(ay (λx=>ba (e.symm.trans x))).mpr (q1 _ H rfl I.kp)
  | cons n ns=>
   rw[hl] at h ln
   have e:decide ((0:Int) < (nv.length:Nat))=true:=by
    have:nv.length=ns.length+1:=ln
    exact hU (by omega)
   refine(bb e).mpr ?_
   obtain⟨o,ho,h⟩:=ag.mp (show ((qu pb cn S io so ro (n::ns) { st with later:=[] }).bind _)=_ from h)
   refine⟨fun σ H=>∃la x5 x6 x7 x8 F st,σ=[some (.ref wl),some (.ref fS),some vs,some (.ref da),some (.ref la),x5,x6,x7,x8]/\FI C cn cs wl da la H0 F H st/\sW pb cn S io so ro f st.later st=some out,fun σ' H' p=>⟨f,gp _,p⟩,?_⟩
   refine⟨cb _,λlb hb=>?_⟩
   have s:=aD hb (.lst [])
   have I2:=I.fresh hb
   refine Mm hS ne hz T I2 (s _ _ EU) ((show zt C (λ_=>False) H nv ((n::ns).map BC) from by rw[← hl];exact Wy).ex (.of_same s)) (λc hc=>(I.LH c hc).2.2.1) (aq EU hb) ho (λH' F' A7 y6 y7 y8 e I'=>?_) (λH' v p e kp rp=>?_)
   ·subst e
    exact⟨_,rfl,lb,some (.ref lb),y6,y7,y8,F',A7,rfl,I',h⟩
   ·subst e
    cases h
    exact q2 H' v kp rp
def zO (K:W.Frag):TE:=L3 Ko (yF (aM (tC (.int 0)) bh)) (LM (zA K) (aM (aG 0) bh))
theorem G4 {K:W.Frag}{wl:Addr}{ls:List V}{rest:List (Option V)}{Q:VK}(D4:H wl=some (.lst ls))(Vk:ls.length=1\/ls.length=2)(q:∀H1 a,zv H H1->H1 a=some (.tup (List.replicate ls.length (V.int 0)))->Q (.ref a) H1):zO K (some (.ref wl)::rest) H Q:=by
 unfold zO
 refine⟨by show (1:Nat)<=sizeLine;decide,λp hp=>?_⟩
 have s:=aD hp (.tup [V.int 0])
 refine⟨_,rfl,wl,ls,rfl,.inl (AS.of (s _ _ D4)),p,_,rfl,aA,?_⟩
 rcases Vk with e | e
 ·rw[e] at q
  exact .inl ⟨by rw[e];rfl,q _ p s aA⟩
 ·rw[e] at q
  exact .inr ⟨by rw[e];rfl,λl hl=>q _ l (s.trans (aD hl _)) aA⟩
def Zs (C:MC)(cn:Nat)(pb:List PV->Option PV)(S:List PV)(io so ro:List PV->Option PV)(fS aS:Addr):TS:=
 cz (gn (zO C.K) (aW 2)) (cz (gn (Eb C.K (aG 2) (tC .zD)) (aW 3)) (cz (gn (vA (aM (aG 2) bh)) (aW 4)) (cz (tWh C cn pb S io so ro fS aS) (iK (tC .zD)))))
def Qs (C:MC)(cn:Nat)(pb:List PV->Option PV)(S:List PV)(io so ro:List PV->Option PV)(fS:Addr):Sp:=λvs H Q _=>∃F cs ws out wl,vs=[.ref wl,.ref fS]/\(cs.length=1\/cs.length=2)/\WT C.K (C.cl cn)/\EG C cn F H cs ws/\H wl=some (.lst (cs.map λc=>V.ref c.a))/\¬ F wl/\(∀c∈cs,wl≠c.lp)/\Vj pb cn S io so ro ws=some out /\
 ∀H' v,AR cs H H'->(out=.zD/\v=.zD\/zM C H H' v out)->Q v H'
theorem Qt {S:List PV}{fS aS:Addr}{vs:List V}{Q:VK}{E:XK}(hS:qi C aS S)(h:Qs C cn pb S io so ro fS vs H Q E):Zs C cn pb S io so ro fS aS { nx:=λ_ H'=>Q .zD H',rt:=Q } (L2.start ["walks","is_sought","start","ways","nodes","later","node","said","reached"] vs) H:=by
 obtain⟨F,cs,ws,out,wl,rfl,Vk,T,W,D4,nwF,F3,hf,q⟩:=h
 have ne:cs≠[]:=by rintro rfl;rcases Vk with e | e <;> cases e
 have hz:cs.length<=1000:=by rcases Vk with e | e <;> omega
 have lw:=W.len
 obtain⟨c0,So⟩:=kf _ ne
 obtain⟨i0,UL⟩:=ef.mp So
 have dm:∀b,F b->∃o,H b=some o:=(W.all i0 c0 _ UL (ai (by rw[← W.len];exact(af.mp UL).1))).2.dm
 unfold Zs
 dsimp only [cz,gn,aW]
 refine G4 D4 (by simpa using Vk) λH1 a s1 ha=>?_
 rw[aI,lw] at ha
 have rz:Rep C (λ_=>False) H1 (.ref a) (BC (List.replicate ws.length 0)):=.tup ha (by
  rw[show List.replicate ws.length (V.int 0)=(List.replicate ws.length (0:Int)).map V.int by simp]
  exact j0 _ _ (λi=>.int i) _)
 obtain⟨b,us,e,hb,rb⟩:=zC.tup (.inl rz)
 cases e
 have ck:B5 C.K H1 a (bc (List.replicate ws.length 0)):=hb.key (rb.AB (ir _))
 intro da DF
 have sd:=aD DF (.dT [])
 refine⟨_,rfl,aA,a,_,rfl,ck.keeps λx ys e=>sd _ _ e,?_⟩
 have s3:=sd.over DF (.dT [(bc (List.replicate ws.length 0),V.zD)])
 refine⟨_,rfl,by show (1:Nat)<=sizeLine;decide,λla EU=>?_⟩
 have s4:=aD EU (.lst [.ref a])
 have s14:=s3.trans s4
 have P5:=s1.trans s14
 have UM:H da=none:=by
  cases e:H da with
  | none=>rfl
  | some o=>rw[s1 _ _ e] at DF;cases DF
 have E8:H1 la=none:=by
  cases e:H1 la with
  | none=>rfl
  | some o=>rw[s3 _ _ e] at EU;cases EU
 have P6:H la=none:=by
  cases e:H la with
  | none=>rfl
  | some o=>rw[s1 _ _ e] at E8;cases E8
 have Ww:da≠la:=aq aA EU
 have nf:∀x,H x=none->¬ F x:=λx e f=>by obtain⟨o,z⟩:=dm x f;rw[e] at z;cases z
 refine Qq (H0:=H) (F:=F) (st:={ ws:=ws,AJ:=[(bc (List.replicate ws.length 0),.zD)],later:=[List.replicate ws.length 0] }) (fuel:=1000) (out:=out) hS ne hz T
  ⟨W.same P5,P5 _ _ D4,⟨_,s4 _ _ aA,.cons .zD .nil⟩,⟨_,aA,.cons (rz.ex (.of_same s14)) .nil⟩,λb f=>(let ⟨o,e⟩:=dm b f;⟨o,P5 b o e⟩),⟨nwF,nf _ UM,nf _ P6⟩,F3,W.nc UM,W.nc P6,aq D4 P6,⟨UM,P6⟩,λx o e _=>P5 x o e⟩ hf
  (fun σ H' e kp=>?_) (λH' v kp r=>q H' v kp (.inr r))
 subst e
 exact q H' .zD kp (.inl ⟨rfl,rfl⟩)
def Jv (mg:Str->Option Value)(x:Str)(C:MC)(cn:Nat)(pb:List PV->Option PV)(S:List PV)(io so ro:List PV->Option PV):Sp:=λvs H Q E=>∃fS,mg x=some (.ref fS)/\Qs C cn pb S io so ro fS vs H Q E
end Lake.MR
namespace Lake.L2
open PySem PySem.Spec PyProof.Rows
structure IB (Bz scope:Scope)(z:Str)(ON N:qq)(zS:List (Option Nat)):Prop where
 kind:scope.kind=.function
 loc:∀y∈scope.names,y.2=.local->scope.names.lookup y.1=some .local
 fr:∀y∈scope.names,y.2=.free->Bz.names.lookup y.1=some .cell\/Bz.names.lookup y.1=some .free
 zS:n_ scope ON N zS=true
 one:∀n cl,cellsFrom n scope.names cl=(z,n)::cl
 push:∀h,pushCells h scope.names=h.push { cls:=.type "cell",data:=.cell none }
 zc:∀y∈scope.names,y.2=.cell->y.1=z
 nz:∀y∈scope.names,y.2=.free->y.1≠z
theorem IB.at {Bz scope:Scope}{z:Str}{ON N:qq}{zS:List (Option Nat)}(S:IB Bz scope z ON N zS){j i:Nat}{x:Str}(h:zS[j]?=some (some i))(hx:N[j]?=some x):ON[i]?=some x/\scope.names.lookup x=some .free:=by
 have h0:=S.zS
 unfold n_ at h0
 rw[bE] at h0
 have hj:j < N.length:=(af.mp hx).1
 have h1:=gt.mp h0.2 j (bX.mpr hj)
 rw[h] at h1
 dsimp only at h1
 rw[hx] at h1
 cases hy:ON[i]? with
 | none=>rw[hy] at h1;simp at h1
 | some y=>
  rw[hy] at h1
  simp only[bE,iE] at h1
  exact⟨by rw[h1.1],h1.2⟩
theorem IB.len {Bz scope:Scope}{z:Str}{ON N:qq}{zS:List (Option Nat)}(S:IB Bz scope z ON N zS):zS.length=N.length:=by
 have h0:=S.zS
 unfold n_ at h0
 rw[bE,iE] at h0
 exact h0.1
abbrev Cx.Bi (X:Cx)(z:Str)(N:qq)(scope:Scope)(C:Addr)(s:Shared)(H:Hp)(fp:qv):Cx where
 prog:=X.prog
 w:=X.w
 K:=X.K
 mg:=X.mg
 base:=X.base
 A:=X.A
 N:=N
 s₀:=s
 H₀:=H
 env:=compEnvC scope ((z,C+1)::jE X.env scope.names) C X.env
 outer:=X.stack
 stack:=X.stack
 ex:=fp
 fn:=λx=>x == z
 calm:=X.calm
 pn:=[]
 xe:=λ_ _=>False
theorem mz {env:Env}:∀{names:List (Str×NameKind)}{x:Str}{j:NameKind},(j=.cell\/j=.free)->
  (names.map λ(n,k)=>if (k == NameKind.free&&env.scope.kind == .function&&env.kindOf n == some .cell) then (n,NameKind.cell) else (n,k)).lookup x=some j->(x,.free)∈names\/(x,.cell)∈names
 | [],_,_,_,h=>by simp at h
 | (n,k)::r,x,j,hj,h=>by
  have ih:=@mz env r x j hj
  cases hx:x == n with
  | true=>
   have e:x=n:=by simpa using hx
   subst e
   by_cases hc:(k == NameKind.free&&env.scope.kind == .function&&env.kindOf x == some .cell)=true
   ·have hk:k=.free:=by
     simp only[bE,iE] at hc
     exact hc.1.1
    subst hk
    exact .inl ar
   ·simp only[a0,ay hc,b6,hx] at h
    have hk:k=j:=by simpa using h
    rcases hj with z | z
    ·rw[hk,z]
     exact .inr ar
    ·rw[hk,z]
     exact .inl ar
  | false=>
   by_cases hc:(k == NameKind.free&&env.scope.kind == .function&&env.kindOf n == some .cell)=true
   ·simp only[a0,bb hc,b6,hx] at h
    exact(ih h).imp (am _) (am _)
   ·simp only[a0,ay hc,b6,hx] at h
    exact(ih h).imp (am _) (am _)
variable {cl:List (Str×Addr)}
theorem Mp {M:Model}{A:Around}{E:oT}{s:Shared}{scope:Scope}{z:Str}{globals:Addr}{qual:Str}{around:Env}{builtins:Addr}{Q:Env->Shared->Prop}(one:∀n cl,cellsFrom n scope.names cl=(z,n)::cl)(push:∀h,pushCells h scope.names=h.push { cls:=.type "cell",data:=.cell none })
  (h:Q (newEnv scope s.heap.objs.size globals ((z,s.heap.objs.size+1)::cl) qual none .none (some around) builtins) { s with heap:=(s.heap.push { cls:=.type "dict",data:=.dict #[] }).push { cls:=.type "cell",data:=.cell none } }):
  wpAny M A (newFunctionEnv scope globals cl [] qual none .none (some around) builtins) Q E s:=by
 simp only[newFunctionEnv,Option.isSome_some,fR]
 refine ab (wpAny_alloc ?_)
 refine ab (wpAny_layCells _ (λname kind cells=>by cases hkc:kind == NameKind.cell <;> simp[hkc]) _ _ _ _ ?_)
 rw[one,push]
 refine ab ?_
 rw[kT]
 refine ae (ae ?_)
 rw[show ({ s with heap:=s.heap.push { cls:=.type "dict",data:=.dict #[] } }:Shared).heap.objs.size=s.heap.objs.size+1 from cy ..]
 exact h
section
variable {X:Cx}{tg iter elt:Expr}{ifs:qo}{scope Bz:Scope}{z:Str}{ON N:qq}{zS:List (Option Nat)}{wi:TI}{g:TG}{tt:TT}{te:TE}{pos:Pos}
theorem oW {C c:Addr}{x:Str}(e:((z,C+1)::cl).lookup x=some c):(x=z/\c=C+1)\/(x≠z/\cl.lookup x=some c):=by
 rw[b6] at e
 cases hx:x == z with
 | true=>
  rw[hx] at e
  exact .inl ⟨by simpa using hx,(bg e).symm⟩
 | false=>
  rw[hx] at e
  exact .inr ⟨by simpa using hx,e⟩
theorem G5 {C c:Addr}{x:Str}(n:x≠z)(e:cl.lookup x=some c):((z,C+1)::cl).lookup x=some c:=by
 rw[b6,show (x == z)=false by simpa using n]
 exact e
theorem Qu {C:Addr}:((z,C+1)::cl).lookup z=some (C+1):=by
 rw[b6,show (z == z)=true by simp]
theorem Jw {zl:qc}{σ:St}{H2:Hp}{s2:Shared}{fp:qv}{C:Addr}(I2:Inv X zl σ H2 s2)(S:IB Bz scope z ON N zS)(DB:X.env.scope=Bz)(f2:∀b∈fp,gq X zl H2 b)
  (Ll:∀b∈fp,b < s2.heap.objs.size) (hC:s2.heap.objs.size<=C):(X.Bi z N scope C s2 H2 fp).Ok:=by
 have He:∀x∈scope.names,x.2=.free->∃c,X.env.cells.lookup x.1=some c:=λx hx e=>I2.ok.has x.1 (by
  rcases S.fr x hx e with z | z
  ·exact .inl (by rw[Env.kindOf,DB];exact z)
  ·exact .inr (by rw[Env.kindOf,DB];exact z))
 have low:∀{x:Str}{c:Addr},(jE X.env scope.names).lookup x=some c->c < s2.heap.objs.size:=λ{x c} e=>by
  obtain⟨v,q⟩:=I2.cell x c (dh He e)
  exact q.lt
 refine⟨I2.mod,S.kind,I2.ok.glob,I2.ok.blt,hC,λx y c h1 h2=>?_,λx h=>?_,λx c h e=>?_,I2.ok.hd,I2.ok.frames,.inl rfl,λb hb=>⟨?_,λx c e=>?_⟩,λb o e=>I2.bs b o e,?_,λb o e hb=>?_,λb hb hz=>?_,I2.stack,I2.F8⟩
 ·rcases oW h1 with ⟨e1,e2⟩ | ⟨e1,e2⟩ <;> rcases oW h2 with ⟨e3,e4⟩ | ⟨e3,e4⟩
  ·rw[e1,e3]
  ·have q:=low e4;rw[e2] at q;exact absurd q (Nat.not_lt.mpr (dn hC (gS _)))
  ·have q:=low e2;rw[e4] at q;exact absurd q (Nat.not_lt.mpr (dn hC (gS _)))
  ·exact I2.ok.inj x y c (dh He e2) (dh He e4)
 ·have hm:(x,NameKind.free)∈scope.names\/(x,NameKind.cell)∈scope.names:=by
   rcases h with h | h
   ·exact mz (env:=X.env) (.inl rfl) h
   ·exact mz (env:=X.env) (.inr rfl) h
  rcases hm with hm | hm
  ·obtain⟨c,hc⟩:=ut (env:=X.env) hm
   exact⟨c,G5 (S.nz _ hm rfl) hc⟩
  ·have e:x=z:=S.zc _ hm rfl
   rw[e]
   exact⟨C+1,Qu⟩
 ·rcases oW e with ⟨_,e2⟩ | ⟨e1,_⟩
  ·rw[e2];exact dn hC (gS _)
  ·exact absurd (by simpa using h) e1
 ·exact bd (bi (Ll b hb) hC)
 ·rcases oW e with ⟨_,e2⟩ | ⟨_,e2⟩
  ·rw[e2];exact dE (bi (Ll b hb) (dn hC (gS _)))
  ·exact(f2 b hb).2.2.2.2.1 x c (dh He e2)
 ·exact dn I2.ok.LX I2.sz
 ·rcases(f2 b hb).2.2.2.1 with z | z
  ·exact I2.ok.KW b o e z
  ·exact absurd (bi (ap e) (dn I2.ok.LX z)) (eM _)
 ·obtain⟨_,f1,f3,_⟩:=f2 b hb
  rcases be.mp (I2.D9 b hz) with z | z
  ·exact f1 z
  ·exact f3 z
theorem Em {zl:qc}{s:Shared}{σ:St}{H:Hp}{Q:VK}{RR:Value->Addr->Result->Shared->Prop}{Mo:Str}(hc:X.calm=true)(S:IB Bz scope z ON N zS)(DB:X.env.scope=Bz)(hN:X.N=ON)
  (hi:PI X tg iter wi) (hg:∀C s H fp,PG (X.Bi z N scope C s H fp) tg g) (ht:∀C s H fp,p_ (X.Bi z N scope C s H fp) ifs tt) (he:∀C s H fp,PE (X.Bi z N scope C s H fp) elt te)
  (I:Inv X zl σ H s) (h:fX wi zS g tt te σ H Q)
  (fin:∀D C H' s',Inv X zl σ H' s'->gq X zl H' C->(∃m,s'.heap.Ns C m)->Q (.ref D) H'->RR (.ref D) C (.ok .next) s'):
  wpAny (model X.prog X.w) X.A (eval iter X.env) (λx s₁=>wpAny (model X.prog X.w) X.A (pyIter x) (λQP s₂=>wpAny (model X.prog X.w) X.A (newList []) (λacc s₃=>
   wpAny (model X.prog X.w) X.A (newFunctionEnv scope X.env.globals (jE X.env scope.names) [] X.env.qual none .none (some X.env)) (λMA s₄=>
    codeAny (model X.prog X.w) X.A (.compStart (.ListComp elt [⟨tg,iter,ifs,0⟩] scope pos) 0 QP acc { MA with scope:=relabel scope X.env }) (RR acc MA.locals) s₄) X.xe s₃) X.xe s₂) X.xe s₁) X.xe s:=by
 refine AE (hi zl s σ H _ I h.ex) λv s1 h1=>AE h1 λQP s2 h2=>?_
 obtain⟨it,fp,tn,J,H2,e,I2,T,Ta,f2,q2⟩:=h2
 subst e
 refine b0 (Mp S.one S.push ?_)
 dsimp only
 generalize TN:s2.heap.push { cls:=.type "list",dict:=none,data:=.seq ([]:qh).toArray }=P2
 generalize hD:s2.heap.objs.size=D
 have UN:((P2.push { cls:=.type "dict",data:=.dict #[] }).push { cls:=.type "cell",data:=.cell none }).Ns P2.objs.size (λ_=>none):=(Heap.Ns.new P2 (.type "dict")).keeps λb o e=>ac _ e
 have UO:((P2.push { cls:=.type "dict",data:=.dict #[] }).push { cls:=.type "cell",data:=.cell none }).IsCell (P2.objs.size+1) none:=⟨{ cls:=.type "cell",data:=.cell none },by
  have:((P2.push { cls:=.type "dict",data:=.dict #[] }).push { cls:=.type "cell",data:=.cell none }).get? (P2.push { cls:=.type "dict",data:=.dict #[] }).objs.size=some { cls:=.type "cell",data:=.cell none }:=al _ rfl
  rw[cy] at this
  exact this,rfl⟩
 have UP:∀b o,P2.get? b=some o->((P2.push { cls:=.type "dict",data:=.dict #[] }).push { cls:=.type "cell",data:=.cell none }).get? b=some o:=λb o e=>ac _ (ac _ e)
 generalize hh₁:(P2.push { cls:=.type "dict",data:=.dict #[] }).push { cls:=.type "cell",data:=.cell none }=h₁ at UN UO UP ⊢
 generalize VO:P2.objs.size=C at UN UO ⊢
 have VP:C=D+1:=by rw[← VO,← TN,cy,hD]
 have FE:s2.heap.objs.size<=C:=by rw[VP,hD];exact gS _
 have Ll:∀b∈fp,b < s2.heap.objs.size:=λb hb=>by
  obtain⟨o,e,_⟩:=T.obj 0 _ Ta b hb
  exact ap e
 have below:∀b,b < s2.heap.objs.size->b≠C:=λb hb=>bd (bi hb FE)
 have k1:∀b o,s2.heap.get? b=some o->h₁.get? b=some o:=λb o e=>UP b o (TN▸ac _ e)
 have Xu:D≠C:=by rw[VP];exact bd (gp _)
 have gD:h₁.get? D=some { cls:=.type "list",dict:=none,data:=.seq ([]:qh).toArray }:=by
  refine UP D _ ?_
  rw[← TN,← hD]
  exact al _ rfl
 have nD:H2 D=none:=I2.Au.fresh (by rw[hD];exact aw _)
 have nC:H2 C=none:=I2.Au.fresh FE
 have He:∀x∈scope.names,x.2=.free->∃c,X.env.cells.lookup x.1=some c:=λx hx e=>I2.ok.has x.1 (by
  rcases S.fr x hx e with z | z
  ·exact .inl (by rw[Env.kindOf,DB];exact z)
  ·exact .inr (by rw[Env.kindOf,DB];exact z))
 obtain⟨W,⟨m0,w0⟩,turn⟩:=q2 D nD
 have IY:Inv (X.Bi z N scope C s2 H2 fp) [] (bT zS σ) (upd H2 D (.lst [])) { s2 with heap:=h₁ }:=by
  have hp:s2.heap.objs.size<=D:=by rw[hD];exact aw _
  refine⟨Jw I2 S DB f2 Ll FE,rfl,I2.bare,Un.laid k1 hp nD,⟨_,UN,λj x v e1 e2 e3=>?_⟩,λx c e=>?_,?_,λx c e=>?_,λp hp=>by simp at hp,I2.Au.laid k1 hp ⟨cb _,[],_,.nil,gD⟩,?_⟩
  ·have Lm:(zS.map (p6 σ))[j]?=some (some v):=e2
   rw[cm] at Lm
   cases q:zS[j]? with
   | none=>rw[q] at Lm;cases Lm
   | some o=>
    rw[q] at Lm
    have e4:p6 σ o=some v:=bg Lm
    cases o with
    | none=>cases e4
    | some i=>
     have hσ:σ[i]?=some (some v):=by
      have e5:(σ[i]?).getD none=some v:=e4
      cases z:σ[i]? with
      | none=>rw[z] at e5;cases e5
      | some w=>rw[z] at e5;exact d5 some e5
     obtain⟨TR,IJ⟩:=S.at q e1
     have hk:X.env.kindOf x=some .cell\/X.env.kindOf x=some .free:=by
      rcases S.fr _ (mem_of_lookup IJ) rfl with z | z
      ·exact .inl (by rw[Env.kindOf,DB];exact z)
      ·exact .inr (by rw[Env.kindOf,DB];exact z)
     obtain⟨m,hn,hl⟩:=I2.loc
     obtain⟨u,r,l⟩:=hl i x v (by rw[hN];exact TR) hσ (by
      rcases hk with z | z
      ·exact .inr (.inl z)
      ·exact .inr (.inr z))
     refine⟨u,r,?_⟩
     rcases l with ⟨z,_⟩ | ⟨_,c,N9,FO⟩
     ·rcases hk with y | y
      ·rw[y] at z;cases z
      ·rw[y] at z;cases z
     ·obtain⟨c',Ki⟩:=ut (env:=X.env) (mem_of_lookup IJ)
      have e6:=dh He Ki
      rw[N9] at e6
      have e7:c=c':=bg e6
      subst e7
      obtain⟨oc,ho,hd⟩:=FO
      exact .inr ⟨j7 (env:=X.env) IJ,c,G5 (S.nz _ (mem_of_lookup IJ) rfl) Ki,⟨oc,k1 c oc ho,hd⟩⟩
  ·rcases oW e with ⟨_,e2⟩ | ⟨_,e2⟩
   ·rw[e2];exact⟨none,UO⟩
   ·obtain⟨v,oc,ho,hd⟩:=I2.cell x c (dh He e2)
    exact⟨v,oc,k1 c oc ho,hd⟩
  ·show upd H2 D (.lst []) C=none
   rw[ao (fe Xu)]
   exact nC
  ·rcases oW e with ⟨_,e2⟩ | ⟨_,e2⟩
   ·show upd H2 D (.lst []) c=none
    rw[e2,ao (show C+1≠D by omega)]
    exact I2.Au.fresh (by omega)
   ·have e':=dh He e2
    obtain⟨v,oc,ho,hd⟩:=I2.cell x c e'
    show upd H2 D (.lst []) c=none
    rw[ao (λz=>absurd (ap ho) (by rw[z,hD];exact eM _))]
    exact I2.CC x c e'
  ·show (zS.map (p6 σ)).length=N.length
   rw[aI]
   exact S.len
 have EZ:∀{H':Hp},(∀b∈fp,H' b=none)->∀b∈fp,gq (X.Bi z N scope C s2 H2 fp) [] H' b:=λhn b hb=>by
  obtain⟨_,f1,f3,f4,f5,f6⟩:=f2 b hb
  refine⟨hn b hb,below b (Ll b hb),λhz=>?_,.inl hb,λx c e=>(oW e).elim (λq=>by rw[q.2];exact dE (bi (Ll b hb) (dn FE (gS _)))) λq=>f5 x c (dh He q.2),λp hp=>by simp at hp⟩
  rcases be.mp (I2.D9 b hz) with z | z
  ·exact f1 z
  ·exact f3 z
 have back:∀{σ':St}{H':Hp}{s':Shared},Inv (X.Bi z N scope C s2 H2 fp) [] σ' H' s'->Inv X zl σ H' s':=λ{σ' H' s'} I'=>
  I2.QO (ch:=fp) I'.os I'.base I'.Au I'.bare λb hb=>let ⟨_,f1,_,f4,f5,f6⟩:=f2 b hb;⟨f4,f1,f5,f6⟩
 have VQ:tn 0 h₁:=T.keep 0 _ _ Ta λb _ o e=>k1 b o e
 have Yz:∀b∈fp,upd H2 D (.lst []) b=none:=λb hb=>by
  rw[ao (λz=>absurd (Ll b hb) (by rw[z,hD];exact eM _))]
  exact(f2 b hb).1
 have loop:codeAny (model X.prog X.w) X.A (.compLoop (.ListComp elt [⟨tg,iter,ifs,0⟩] scope pos) 0 (.ref it) (.ref D) (compEnvC scope ((z,C+1)::jE X.env scope.names) C X.env)) (RR (.ref D) C) { s2 with heap:=h₁ }:=by
  refine gk (λn s'=>∃i ys H',Inv (X.Bi z N scope C s2 H2 fp) [] (bT zS σ) H' s'/\tn i s'.heap/\(∀b∈fp,H' b=none)/\W i n ys H') ?_ m0 ⟨0,[],_,IY,VQ,Yz,w0⟩
  rintro n s3 ⟨i,ys,H3,I3,QU,QY,w3⟩
  obtain⟨hDy,MD⟩:=turn i n ys H3 w3
  rcases MD with ⟨stop,qn⟩ | ⟨go,Nx,YA,step⟩
  ·refine AE (T.done (X.Bi z N scope C s2 H2 fp) rfl rfl rfl hc i [] s3 (bT zS σ) H3 _ I3 (EZ QY) QU stop) ?_
   rintro r s4 ⟨hr,I4⟩
   subst hr
   obtain⟨m,hm,_⟩:=I4.loc
   exact fin D C H3 s4 (back I4) (I2.F9 FE I4.free) ⟨m,hm⟩ qn
  ·refine AE (T.item (X.Bi z N scope C s2 H2 fp) rfl rfl rfl hc i [] s3 (bT zS σ) H3 _ I3 (EZ QY) QU go) ?_
   rintro r s4 ⟨u,hr,h4⟩
   subst hr
   refine AE h4 ?_
   rintro _ s5 ⟨x,H5,I5,r5,y5,L1,Vy⟩
   have Vz:=I5.pinned (EZ Vy) (T.obj _ _ L1)
   refine AE (hg C s2 H2 fp _ s5 (bT zS σ) H5 x u _ Vz r5 (step x H5 y5)) ?_
   rintro _ s6 ⟨σ6,H6,I6,VR,q6⟩
   refine AE (ht C s2 H2 fp _ s6 σ6 H6 _ I6 q6) ?_
   rintro b s7 ⟨H7,I7,q7⟩
   have again:∀{EE:List V}{H7:Hp}{s7:Shared},Inv (X.Bi z N scope C s2 H2 fp) ([]++mK fp s5.heap) σ6 H7 s7->Nx EE H7->∃m,m < n/\∃i ys H',Inv (X.Bi z N scope C s2 H2 fp) [] (bT zS σ) H' s7/\tn i s7.heap/\(∀b∈fp,H' b=none)/\W i m ys H':=λ{EE H7 s7} I7 n7=>by
    obtain⟨m',hm,w7⟩:=YA EE H7 n7
    refine⟨m',hm,i+1,EE,H7,I7.CL.weak VR.1 VR.2,T.keep _ _ _ L1 λb hb o e=>(I7.pin (b,o) (bp _ (bp _ (fU hb e)))).1,λb hb=>?_,w7⟩
    obtain⟨o,e,d⟩:=T.obj _ _ L1 b hb
    exact(I7.pin (b,o) (bp _ (bp _ (fU hb e)))).2.1
   cases b with
   | false=>
    rw[ay ba] at q7 ⊢
    exact again I7 q7
   | true=>
    rw[bb rfl] at q7 ⊢
    refine AE (he C s2 H2 fp _ s7 σ6 H7 _ I7 q7) ?_
    rintro xv s8 ⟨y,H8,I8,r8,YB,YC,n8⟩
    refine AE (jy (X:=X.Bi z N scope C s2 H2 fp) _ s8 σ6 H8 (.ref D) [y] (.ref D) [xv] (λ_ H9=>Nx (ys++[y]) H9) I8 rfl (.cons r8 .nil) ⟨D,ys,y,rfl,rfl,YB,YC,n8⟩) ?_
    rintro _ s9 ⟨_,H9,I9,_,n9⟩
    exact again I9 n9
 subst hD VO
 exact codeAny_compStart_list loop (T.self _ 0 _ _ _ VQ loop)
theorem G6 {zl:qc}{s:Shared}{σ:St}{H:Hp}(S:IB Bz scope z ON N zS)(DB:X.env.scope=Bz)(I:Inv X zl σ H s):closureFor scope X.env=pure (jE X.env scope.names):=
 pH λx hx e=>I.ok.has x.1 (by
  rcases S.fr x hx e with z | z
  ·exact .inl (by rw[Env.kindOf,DB];exact z)
  ·exact .inr (by rw[Env.kindOf,DB];exact z))
theorem Jx (S:IB Bz scope z ON N zS)(hi:PI X tg iter wi)(hg:∀C s H fp,PG (X.Bi z N scope C s H fp) tg g)(ht:∀C s H fp,p_ (X.Bi z N scope C s H fp) ifs tt)(he:∀C s H fp,PE (X.Bi z N scope C s H fp) elt te)
  (hc:X.calm=true:=by rfl) (DB:X.env.scope=Bz:=by rfl) (hN:X.N=ON:=by rfl) (hs:∀x,foldedSetIterable iter X.env x=pure x:=by intro _;rfl):PE X (.ListComp elt [⟨tg,iter,ifs,0⟩] scope pos) (fX wi zS g tt te):=by
 intro zl s σ H Q I h
 rw[eval_ListComp]
 refine ng (use:=none) rfl hs (G6 S DB I) S.kind S.loc ?_
 refine Em (RR:=λacc C=>compPost (model X.prog X.w) X.A X.xe none (EP X zl σ Q) acc C) (Mo := "") hc S DB hN hi hg ht he I h λD C H' s' I' f hm q=>?_
 obtain⟨m,hm⟩:=hm
 exact⟨m,hm,λh' C6=>⟨.ref D,H',I'.RF f C6,rfl,q⟩⟩
end
end Lake.L2
namespace Lake.MR
open PySem L2
variable {x:Str}
section
variable {X:Cx}
theorem qW {Cl:Addr}{k j:Nat}{o e:Expr}{es:qo}{ta:TE}{t:TA}{ps:qq}{sp:Sp}{apos pos:Pos}(cM:EA X.prog X.w X.K X.mg X.base Cl k x ps sp)(hc:II X.K Cl)(hr:AN j X.A)(ho:PE X o ta)(ha:PA X (e::es) t)(hle:k<=j:=by decide)
  (D3:starEach (e::es) X.env=(false,eval e X.env)::starEach es X.env:=by rfl) (A2:(backTo pos (starEach es X.env)).any (·.1)=false:=by rfl){pl:Sem Bool}
  (ht:eval (.Call (.Attribute o x apos) (e::es) [] pos) X.env=(do
   let ov ← eval o X.env
   standAt apos.atName
   let (f,first) ← holding [ov] (getMethod ov x pl)
   callWith pos f first (backTo pos (starEach (e::es) X.env)) (backToKw pos (keywordEach [] X.env))):=by rfl):
  PE X (.Call (.Attribute o x apos) (e::es) [] pos) (jO Cl x sp [] E0 ta t):=by
 obtain⟨f,fd,F,hb,hM⟩:=cM.ex
 exact Bw (pl:=pl) ho hc hM F (hr.mono hle) hb .nil uo ha D3 A2 ht
theorem Mq {k j i:Nat}{fS:Addr}{y:Str}{ps:qq}{sp:Sp}{p pos:Pos}{e:Expr}{es:qo}{t:TA}(c:IL X.prog X.w X.K X.mg X.base k y ps sp)(hm:X.mg y=some (.ref fS))(hr:AN j X.A)(ha:PA X (e::es) t)(hle:k<=j:=by decide)
  (hN:X.N[i]?=some x:=by rfl) (hv:LW X.env.scope x:=by first | exact e9 rfl | exact fb (e9 rfl) | exact fb (fb rfl)) (hd:(x == ("__debug__" : Str))=false:=by decide) (D0:(x == ("__classdict__" : Str))=false:=by decide)
  (he:starEach (e::es) X.env=(false,eval e X.env)::starEach es X.env:=by rfl) (A2:(backTo pos (starEach es X.env)).any (·.1)=false:=by rfl):PE X (.Call (.Name x p) (e::es) [] pos) (uK i fS sp t):=by
 obtain⟨f,fd,F,hb,kp,hm'⟩:=c.ex
 rw[hm] at hm'
 cases hm'
 exact Ji F (hr.mono hle) kp hb ha hN hv hd D0 he A2
end
noncomputable def UQ (wl ra ro es:List PV->Option PV)(st p:PV)(most:Int):Option WS:=
 (wl [p]).bind λc=>(ra [c]).bind λa=>match a with
  | .dT Bn=>(es [c]).bind λs=>(ro [c,s]).bind λe=>(ro [c,st]).bind λr0=>(AB [.tup [r0,.int 1]]).bind λk=>
    some { Bn:=Bn,most:=most,fin:=e,Cn:=[.tup [.tup [r0,.int 1]]],nums:=[(k,.int 0)],DZ:=[] }
  | _=>none
def v6 (C:MC)(cn:Nat)(wl ra ro es:List PV->Option PV)(st:PV):Sp:=λvs H Q _=>∃A p most w x dx vm,vs=[.ref x,vm,.int most]/\WT C.K (C.cl cn)/\H x=some (.ins (C.cl cn) dx [])/\¬ A x/\Rep C A H vm p/\UQ wl ra ro es st p most=some w /\
 ∀H' F c,(∀a o,a≠x->H a=some o->H' a=some o)->c.n=cn->c.a=x->(H c.ah=none/\H c.lp=none/\H c.ln=none/\H c.lo=none)->(∀b,F b->(A b\/H b=none)/\b≠x)->WR C F H' c w->Q .zD H'
def Zt (C:MC)(wl ra ro es:List PV->Option PV)(aT:Addr):TS:=
 cz (gn (fB (CO C wl false) [] E0 (aM (aG 1) bh)) (aW 3))
  (cz (pR C.K (aG 0) (fB (CO C ra true) [] E0 (aM (aG 3) bh)) "ahead")
  (cz (pR C.K (aG 0) (aG 2) "most")
  (cz (pR C.K (aG 0) (fB (CO C ro false) [] E0 (aM (aG 3) (aM (fB (CO C es false) [] E0 (aM (aG 3) bh)) bh))) "end")
  (cz (pR C.K (aG 0) (vA (aM (yF (aM (yF (aM (fB (CO C ro false) [] E0 (aM (aG 3) (aM (tC (.ref aT)) bh))) (aM (tC (.int 1)) bh))) bh)) bh)) "places")
  (cz (pR C.K (aG 0) (Eb C.K (L3 (vD C.K) (iM C.K (aG 0) "places") (tC (.int 0))) (tC (.int 0))) "numbers")
  (pR C.K (aG 0) yO "onward"))))))
variable {H:Hp}
theorem uO {A A':Addr->Prop}{H':Hp}{x Cl dx:Addr}{fs:List (Str×V)}(hx:H x=some (.ins Cl dx fs))(nA:¬ A x)(off:∀a o,a≠x->H a=some o->H' a=some o)(sub:∀a o,H a=some o->A a->A' a):Ex A H A' H':=λa o e=>
 ⟨λq=>⟨off a o (λz=>nA (z▸q)) e,sub a o e q⟩,λm=>off a o (λz=>by rw[z,hx] at e;cases e;cases m) e⟩
theorem Qv {C:MC}{cn:Nat}{wl ra ro es:List PV->Option PV}{st:PV}{aT:Addr}{vs:List V}{Q:VK}{E:XK}(hT:∀B H,Rep C B H (.ref aT) st)(h:v6 C cn wl ra ro es st vs H Q E):Zt C wl ra ro es aT { nx:=λ_ H'=>Q .zD H',rt:=Q } (L2.start ["self","metre","most","closed"] vs) H:=by
 obtain⟨A,p,most,w,x,dx,vm,rfl,T,hx,nA,rm,hw,q⟩:=h
 obtain⟨c,hc,hw⟩:=ag.mp hw
 obtain⟨a,ha,hw⟩:=ag.mp hw
 cases a <;> first | (cases hw;done) | skip
 rename_i Bn
 obtain⟨s,hs,hw⟩:=ag.mp hw
 obtain⟨e,he,hw⟩:=ag.mp hw
 obtain⟨r0,hr0,hw⟩:=ag.mp hw
 obtain⟨k,hk,hw⟩:=ag.mp hw
 cases hw
 unfold Zt
 dsimp only [cz,gn,aW,pR]
 refine⟨_,rfl,A,[p],c,.cons rm .nil,hc,λvc H1 s1 rc=>?_⟩
 have rc:Rep C (λa=>(A a\/H a=none)/\∃o,H1 a=some o) H1 vc c:=Rep.ex (aU λa o e q=>⟨q,o,e⟩) rc
 generalize hA1:(λa=>(A a\/H a=none)/\∃o,H1 a=some o)=A1 at rc
 have Wz:¬ A1 x:=by rw[← hA1];rintro ⟨z | z,_⟩;exact nA z;rw[hx] at z;cases z
 have TR:=s1 _ _ hx
 refine⟨_,rfl,A1,[c],.dT Bn,.cons rc .nil,ha,?_⟩
 rintro _ H2 s2 ⟨ah,rfl,hah,kv,UD,rkv⟩
 have IJ:=s2 _ _ TR
 refine⟨_,rfl,x,_,dx,_,rfl,IJ,T.cl,T.PF,by decide,?_⟩
 have Zu:upd H2 x (.ins (C.cl cn) dx (bW "ahead" (.ref ah) [])) x=some (.ins (C.cl cn) dx [("ahead",.ref ah)]):=aA
 have MV:∀a o,a≠x->H2 a=some o->upd H2 x (.ins (C.cl cn) dx (bW "ahead" (.ref ah) [])) a=some o:=λa o n e=>by rw[ao n];exact e
 generalize upd H2 x (.ins (C.cl cn) dx (bW "ahead" (.ref ah) []))=H3 at Zu MV ⊢
 refine⟨_,rfl,_,rfl,x,_,dx,_,rfl,Zu,T.cl,T.Ux,by show (1:Nat) < 1000;decide,?_⟩
 have OK:upd H3 x (.ins (C.cl cn) dx (bW "most" (.int most) [("ahead",.ref ah)])) x=some (.ins (C.cl cn) dx [("ahead",.ref ah),("most",.int most)]):=aA
 have MW:∀a o,a≠x->H3 a=some o->upd H3 x (.ins (C.cl cn) dx (bW "most" (.int most) [("ahead",.ref ah)])) a=some o:=λa o n e=>by rw[ao n];exact e
 generalize upd H3 x (.ins (C.cl cn) dx (bW "most" (.int most) [("ahead",.ref ah)]))=H4 at OK MW ⊢
 have WA:∀a o,a≠x->H1 a=some o->H4 a=some o:=λa o n e=>MW a o n (MV a o n (s2 a o e))
 have Zv:Rep C A1 H4 vc c:=rc.ex (uO TR Wz WA λa o _ z=>z)
 refine⟨_,rfl,_,rfl,A1,[c],s,.cons Zv .nil,hs,λv5 H5 s5 r5=>?_⟩
 have r5:Rep C (λa=>A1 a\/H4 a=none) H5 v5 s:=r5
 refine⟨λa=>A1 a\/H4 a=none,[c,s],e,.cons (Zv.ex ((Ex.of_same s5).trans (aU λa o _ z=>.inl z))) (.cons r5 .nil),he,λve H6 s6 r6=>?_⟩
 have r6:Rep C (λa=>(A1 a\/H4 a=none)\/H5 a=none) H6 ve e:=r6
 have hx6:=s6 _ _ (s5 _ _ OK)
 refine⟨_,rfl,x,_,dx,_,rfl,hx6,T.cl,T.Wf,by show (2:Nat) < 1000;decide,?_⟩
 have WB:upd H6 x (.ins (C.cl cn) dx (bW "end" ve [("ahead",.ref ah),("most",.int most)])) x=some (.ins (C.cl cn) dx [("ahead",.ref ah),("most",.int most),("end",ve)]):=aA
 have P7:∀a o,a≠x->H6 a=some o->upd H6 x (.ins (C.cl cn) dx (bW "end" ve [("ahead",.ref ah),("most",.int most)])) a=some o:=λa o n e=>by rw[ao n];exact e
 generalize upd H6 x (.ins (C.cl cn) dx (bW "end" ve [("ahead",.ref ah),("most",.int most)]))=H7 at WB P7 ⊢
 have KP:∀a o,a≠x->H4 a=some o->H7 a=some o:=λa o n e=>P7 a o n (s6 a o (s5 a o e))
 have rc7:Rep C A1 H7 vc c:=Zv.ex (uO OK Wz KP λa o _ z=>z)
 refine⟨_,rfl,A1,[c,st],r0,.cons rc7 (.cons (hT _ _) .nil),hr0,λv0 H8 s8 r8=>?_⟩
 have r8:Rep C (λa=>A1 a\/H7 a=none) H8 v0 r0:=r8
 refine⟨by show (2:Nat)<=sizeLine;decide,λt1 Vg=>⟨by show (1:Nat)<=sizeLine;decide,λt2 Ut=>⟨by show (1:Nat)<=sizeLine;decide,λlp KL=>?_⟩⟩⟩
 have s9:=aD Vg (.tup [v0,.int 1])
 have XZ:=aD Ut (.tup [.ref t1])
 have X0:=aD KL (.lst [.ref t2])
 have IC:=X0 _ _ (XZ _ _ (s9 _ _ (s8 _ _ WB)))
 refine⟨_,rfl,x,_,dx,_,rfl,IC,T.cl,T.DJ,by show (3:Nat) < 1000;decide,?_⟩
 have Vk:t1≠t2:=aq aA Ut
 have MX:upd (upd (upd H8 t1 (.tup [v0,.int 1])) t2 (.tup [.ref t1])) lp (.lst [.ref t2]) lp=some (.lst [.ref t2]):=aA
 have ID:upd (upd (upd H8 t1 (.tup [v0,.int 1])) t2 (.tup [.ref t1])) lp (.lst [.ref t2]) t2=some (.tup [.ref t1]):=X0 _ _ aA
 have IE:upd (upd (upd H8 t1 (.tup [v0,.int 1])) t2 (.tup [.ref t1])) lp (.lst [.ref t2]) t1=some (.tup [v0,.int 1]):=X0 _ _ (XZ _ _ aA)
 have WD:zv H8 (upd (upd (upd H8 t1 (.tup [v0,.int 1])) t2 (.tup [.ref t1])) lp (.lst [.ref t2])):=(s9.trans XZ).trans X0
 have Zw:H8 lp=none:=(s9.trans XZ).free KL
 have ht18:=Vg
 have ht28:H8 t2=none:=s9.free Ut
 generalize upd (upd (upd H8 t1 (.tup [v0,.int 1])) t2 (.tup [.ref t1])) lp (.lst [.ref t2])=X1 at MX ID IE WD IC ⊢
 have UR:upd X1 x (.ins (C.cl cn) dx (bW "places" (.ref lp) [("ahead",.ref ah),("most",.int most),("end",ve)])) x=some (.ins (C.cl cn) dx [("ahead",.ref ah),("most",.int most),("end",ve),("places",.ref lp)]):=aA
 have EI:∀a o,a≠x->X1 a=some o->upd X1 x (.ins (C.cl cn) dx (bW "places" (.ref lp) [("ahead",.ref ah),("most",.int most),("end",ve)])) a=some o:=λa o n e=>by rw[ao n];exact e
 generalize upd X1 x (.ins (C.cl cn) dx (bW "places" (.ref lp) [("ahead",.ref ah),("most",.int most),("end",ve)]))=Sr at UR EI ⊢
 have Sz:lp≠x:=λz=>by rw[z] at MX;rw[MX] at IC;cases IC
 have Zx:t1≠x:=λz=>by rw[z] at IE;rw[IE] at IC;cases IC
 have Zy:t2≠x:=λz=>by rw[z] at ID;rw[ID] at IC;cases IC
 have Fc:∀a o,a≠x->H8 a=some o->Sr a=some o:=λa o n e=>EI a o n (WD a o e)
 have hx8:=s8 _ _ WB
 have nB8:¬ (A1 x\/H7 x=none):=λz=>z.elim Wz λz=>by rw[WB] at z;cases z
 have r12:Rep C (λa=>A1 a\/H7 a=none) Sr v0 r0:=r8.ex (uO hx8 nB8 Fc λa o _ z=>z)
 have Zz:Rep C (λa=>A1 a\/H7 a=none) Sr (.ref t2) (.tup [.tup [r0,.int 1]]):=.tup (EI _ _ Zy ID) (.cons (.tup (EI _ _ Zx IE) (.cons r12 (.cons (.int 1) .nil))) .nil)
 intro ln JA
 have sn:=aD JA (.dT [])
 refine⟨_,rfl,x,_,dx,_,.ref lp,rfl,sn _ _ UR,T.cl,T.DJ,rfl,lp,[.ref t2],0,.ref t2,rfl,rfl,AS.of (sn _ _ (EI _ _ Sz MX)),rfl,?_⟩
 obtain⟨b,us,eb,hb,rb⟩:=zC.tup (.inl (Zz.ex (.of_same sn)))
 cases eb
 refine⟨aA,t2,k,rfl,hb.key (rb.AB hk),?_⟩
 have SD:zv Sr (upd (upd Sr ln (.dT [])) ln (.dT [(k,.int 0)])):=sn.over JA _
 have P8:upd (upd Sr ln (.dT [])) ln (.dT [(k,.int 0)]) ln=some (.dT [(k,.int 0)]):=aA
 generalize upd (upd Sr ln (.dT [])) ln (.dT [(k,.int 0)])=X2 at SD P8 ⊢
 have US:=SD _ _ UR
 refine⟨_,rfl,x,_,dx,_,rfl,US,T.cl,T.Cb,by show (4:Nat) < 1000;decide,?_⟩
 have WE:upd X2 x (.ins (C.cl cn) dx (bW "numbers" (.ref ln) [("ahead",.ref ah),("most",.int most),("end",ve),("places",.ref lp)])) x=some (.ins (C.cl cn) dx [("ahead",.ref ah),("most",.int most),("end",ve),("places",.ref lp),("numbers",.ref ln)]):=aA
 have GL:∀a o,a≠x->X2 a=some o->upd X2 x (.ins (C.cl cn) dx (bW "numbers" (.ref ln) [("ahead",.ref ah),("most",.int most),("end",ve),("places",.ref lp)])) a=some o:=λa o n e=>by rw[ao n];exact e
 generalize upd X2 x (.ins (C.cl cn) dx (bW "numbers" (.ref ln) [("ahead",.ref ah),("most",.int most),("end",ve),("places",.ref lp)]))=X3 at WE GL ⊢
 intro lo TL
 have ZC:=aD TL (.dK [])
 have P9:upd X3 lo (.dK []) lo=some (.dK []):=aA
 generalize upd X3 lo (.dK [])=X4 at ZC P9 ⊢
 have UT:=ZC _ _ WE
 refine⟨_,rfl,x,_,dx,_,rfl,UT,T.cl,T.Iy,by show (5:Nat) < 1000;decide,?_⟩
 have WG:upd X4 x (.ins (C.cl cn) dx (bW "onward" (.ref lo) [("ahead",.ref ah),("most",.int most),("end",ve),("places",.ref lp),("numbers",.ref ln)])) x=some (.ins (C.cl cn) dx [("ahead",.ref ah),("most",.int most),("end",ve),("places",.ref lp),("numbers",.ref ln),("onward",.ref lo)]):=aA
 have MY:∀a o,a≠x->X4 a=some o->upd X4 x (.ins (C.cl cn) dx (bW "onward" (.ref lo) [("ahead",.ref ah),("most",.int most),("end",ve),("places",.ref lp),("numbers",.ref ln)])) a=some o:=λa o n e=>by rw[ao n];exact e
 generalize upd X4 x (.ins (C.cl cn) dx (bW "onward" (.ref lo) [("ahead",.ref ah),("most",.int most),("end",ve),("places",.ref lp),("numbers",.ref ln)]))=KS at WG MY ⊢
 have SF:ln≠x:=λz=>by rw[z] at P8;rw[P8] at US;cases US
 have K2:lo≠x:=λz=>by rw[z] at P9;rw[P9] at UT;cases UT
 have WH:ah≠x:=λz=>by rw[z] at UD;rw[UD] at IJ;cases IJ
 have u14:∀a o,a≠x->X3 a=some o->KS a=some o:=λa o n e=>MY a o n (ZC a o e)
 have X5:∀a o,a≠x->Sr a=some o->KS a=some o:=λa o n e=>u14 a o n (GL a o n (SD a o e))
 have u8:∀a o,a≠x->H8 a=some o->KS a=some o:=λa o n e=>X5 a o n (Fc a o n e)
 have u7:∀a o,a≠x->H7 a=some o->KS a=some o:=λa o n e=>u8 a o n (s8 a o e)
 have u6:∀a o,a≠x->H6 a=some o->KS a=some o:=λa o n e=>u7 a o n (P7 a o n e)
 have u4:∀a o,a≠x->H4 a=some o->KS a=some o:=λa o n e=>u7 a o n (KP a o n e)
 have u2:∀a o,a≠x->H2 a=some o->KS a=some o:=λa o n e=>u4 a o n (MW a o n (MV a o n e))
 have u1:∀a o,a≠x->H1 a=some o->KS a=some o:=λa o n e=>u2 a o n (s2 a o e)
 have u0:∀a o,a≠x->H a=some o->KS a=some o:=λa o n e=>u1 a o n (s1 a o e)
 have back:∀{G G':Hp}{l:Addr},l≠x->(∀a o,a≠x->G a=some o->G' a=some o)->G' l=none->G l=none:=λ{G G' l} n u e=>by
  cases z:G l with
  | none=>rfl
  | some o=>rw[u l o n z] at e;cases e
 have p8:H8 lp=none:=Zw
 have n8:H8 ln=none:=back SF Fc JA
 have o14:X3 lo=none:=TL
 have o8:H8 lo=none:=back K2 (λa o n e=>GL a o n (SD a o (Fc a o n e))) o14
 have b8:∀{l:Addr},l≠x->H8 l=none->H7 l=none:=λn e=>back n (λa o _ e=>s8 a o e) e
 have b7:∀{l:Addr},l≠x->H7 l=none->H6 l=none/\H4 l=none:=λn e=>⟨back n P7 e,back n KP e⟩
 have b4:∀{l:Addr},l≠x->H4 l=none->H2 l=none:=λn e=>back n (λa o n e=>MW a o n (MV a o n e)) e
 have b1:∀{l:Addr},H1 l=none->H l=none:=λe=>s1.free e
 have a1:∀{l:Addr},A1 l->(A l\/H l=none)/\∃o,H1 l=some o:=λz=>by rw[← hA1] at z;exact z
 have nah:∀{l:Addr},A1 l->l≠ah:=λz e=>by obtain⟨_,o,q⟩:=a1 z;rw[e,hah] at q;cases q
 have WJ:H4 ah=some (.dT kv):=MW _ _ WH (MV _ _ WH UD)
 have ZD:H7 ah=some (.dT kv):=KP _ _ WH WJ
 have MZ:∀{l:Addr},H4 l=none->(A l\/H l=none)/\l≠ah:=λ{l} z=>by
  have n:l≠x:=λe=>by rw[e,OK] at z;cases z
  exact⟨.inr (b1 (s2.free (b4 n z))),λe=>by rw[e,WJ] at z;cases z⟩
 have WK:∀{l:Addr},H7 l=none->(A l\/H l=none)/\l≠ah:=λ{l} z=>by
  have n:l≠x:=λe=>by rw[e,WB] at z;cases z
  exact MZ (b7 n z).2
 obtain⟨F,hF⟩:∃F:Addr->Prop,F=λb=>(A b\/H b=none)/\b≠x/\b≠ah/\b≠lp/\b≠ln/\b≠lo/\∃o,KS b=some o:=⟨_,rfl⟩
 have ZE:∀{B:Addr->Prop}{G:Hp}{fs:List (Str×V)},G x=some (.ins (C.cl cn) dx fs)->¬ B x->(∀a o,a≠x->G a=some o->KS a=some o)->G lp=none->G ln=none->G lo=none->(∀a,B a->(A a\/H a=none)/\a≠ah)->Ex B G F KS:=λ{B G fs} hg nB u g1 g2 g3 cond=>uO hg nB u λa o e z=>by
  rw[hF]
  have n:a≠x:=λq=>nB (q▸z)
  exact⟨(cond a z).1,n,(cond a z).2,(λq=>by rw[q,g1] at e;cases e),(λq=>by rw[q,g2] at e;cases e),(λq=>by rw[q,g3] at e;cases e),o,u a o n e⟩
 have p7:=b8 Sz p8
 have n7:=b8 SF n8
 have o7:=b8 K2 o8
 have x2:=ZE (B:=λc=>(A1 c\/H1 c=none)/\c≠ah) IJ (λz=>z.1.elim Wz λq=>by rw[TR] at q;cases q) u2 (b4 Sz (b7 Sz p7).2) (b4 SF (b7 SF n7).2) (b4 K2 (b7 K2 o7).2) λa z=>⟨z.1.elim (λq=>(a1 q).1) λq=>.inr (b1 q),z.2⟩
 have x6:=ZE (B:=λa=>(A1 a\/H4 a=none)\/H5 a=none) hx6 (λz=>z.elim (λz=>z.elim Wz λq=>by rw[OK] at q;cases q) λq=>by rw[s5 _ _ OK] at q;cases q) u6 (b7 Sz p7).1 (b7 SF n7).1 (b7 K2 o7).1 λa z=>z.elim (λz=>z.elim (λq=>⟨(a1 q).1,nah q⟩) MZ) λq=>MZ (s5.free q)
 have x8:=ZE (B:=λa=>A1 a\/H7 a=none) hx8 nB8 u8 p8 n8 o8 λa z=>z.elim (λq=>⟨(a1 q).1,nah q⟩) WK
 have r16:Rep C F KS v0 r0:=r8.ex x8
 have z0:∀{l:Addr},l≠x->H7 l=none->H l=none:=λn z=>b1 (s2.free (b4 n (b7 n z).2))
 refine q KS F ⟨cn,x,dx,ah,lp,ln,lo,ve⟩ u0 rfl rfl ⟨b1 hah,z0 Sz p7,z0 SF n7,z0 K2 o7⟩ (λb f=>by rw[hF] at f;exact⟨f.1,f.2.1⟩) ⟨WG,⟨kv,u2 _ _ WH UD,rkv.ex x2⟩,r6.ex x6,⟨_,X5 _ _ Sz (EI _ _ Sz MX),.cons (.tup (X5 _ _ Zy (EI _ _ Zy ID)) (.cons (.tup (X5 _ _ Zx (EI _ _ Zx IE)) (.cons r16 (.cons (.int 1) .nil))) .nil)) .nil⟩,⟨_,u14 _ _ SF (GL _ _ SF P8),.cons (.int 0) .nil⟩,⟨_,MY _ _ K2 P9,.nil⟩,?_,λb f=>by rw[hF] at f;exact f.2.2.2.2.2.2,?_⟩
 ·exact aq (Fc _ _ WH (s8 _ _ ZD)) JA
 ·rw[hF]
  exact⟨λf=>f.2.1 rfl,λf=>f.2.2.1 rfl,λf=>f.2.2.2.1 rfl,λf=>f.2.2.2.2.1 rfl,λf=>f.2.2.2.2.2.1 rfl⟩
theorem Ca {X:Cx}{Cl:Addr}{k j:Nat}{ps:qq}{sp:Sp}{p pos:Pos}{e:Expr}{es:qo}{t:TA}(c:Up X.prog X.w X.K X.mg X.base Cl k x ps sp)(hr:AN j X.A)(ha:PA X (e::es) t)(hle:k+1<=j:=by decide)(hg:Gl X x:=by rfl)
  (E5:(x == ("__debug__" : Str))=false:=by decide) (he:starEach (e::es) X.env=(false,eval e X.env)::starEach es X.env:=by rfl) (A2:(backTo pos (starEach es X.env)).any (·.1)=false:=by rfl):
  PE X (.Call (.Name x p) (e::es) [] pos) (uc Cl sp [] E0 t):=by
 obtain⟨f,fd,F,hb,M,hm⟩:=c.ex
 exact KY M F (hr.mono hle) hg hm hb .nil uo ha E5 he A2
theorem G7 {C:MC}{cn:Nat}{wl ra ro es:List PV->Option PV}{st p:PV}{most:Int}{w:WS}{A:Addr->Prop}{v:V}{R:Addr->Hp->Prop}{E:XK}(T:WT C.K (C.cl cn))(dA:∀a,A a->∃o,H a=some o)(r:Rep C A H v p)(hw:UQ wl ra ro es st p most=some w)
  (q:∀H' F c,zv H H'->c.n=cn->(H c.a=none/\H c.ah=none/\H c.lp=none/\H c.ln=none/\H c.lo=none)->(∀b,F b->A b\/H b=none)->WR C F H' c w->R c.a H'):
  ∀x dx,H x=none->H dx=none->dx≠x->v6 C cn wl ra ro es st (.ref x::([v,.int most]++[])) (upd (upd H dx (.own x)) x (.ins (C.cl cn) dx [])) (λu H2=>u=.zD/\R x H2) E:=by
 intro x dx hx hdx ne
 have s:zv H (upd (upd H dx (.own x)) x (.ins (C.cl cn) dx [])):=λa o h=>by rw[ao (aq h hx),ao (aq h hdx)];exact h
 refine⟨A,p,most,w,x,dx,v,rfl,T,aA,(λz=>by obtain⟨o,e⟩:=dA x z;rw[hx] at e;cases e),r.ex (.of_same s),hw,λH' F c off en ea hn hF W=>⟨rfl,?_⟩⟩
 rw[← ea]
 refine q H' F c (λa o e=>off a o (aq e hx) (s a o e)) en ⟨by rw[ea];exact hx,s.free hn.1,s.free hn.2.1,s.free hn.2.2.1,s.free hn.2.2.2⟩ (λb f=>(hF b f).1.imp id λz=>s.free z) W
def New (H:Hp)(c:WC):Prop:=H c.a=none/\H c.ah=none/\H c.lp=none/\H c.ln=none/\H c.lo=none
def RG (H:Hp)(c:WC):Prop:=(∃o,H c.a=some o)/\(∃o,H c.ah=some o)/\(∃o,H c.lp=some o)/\(∃o,H c.ln=some o)/\∃o,H c.lo=some o
theorem WR.there {C:MC}{F:Addr->Prop}{c:WC}{w:WS}(W:WR C F H c w):RG H c:=⟨⟨_,W.ob⟩,(let ⟨_,h,_⟩:=W.ah;⟨_,h⟩),(let ⟨_,h,_⟩:=W.lp;⟨_,h⟩),(let ⟨_,h,_⟩:=W.ln;⟨_,h⟩),(let ⟨_,h,_⟩:=W.lo;⟨_,h⟩)⟩
theorem jr {a b:Addr}(h1:H a=none)(h2:∃o,H b=some o):a≠b:=λz=>by obtain⟨o,e⟩:=h2;rw[← z,h1] at e;cases e
theorem SM {C:MC}{cn:Nat}{A F1 F2:Addr->Prop}{H0 H2 H3:Hp}{c1 c2:WC}{w1 w2:WS}(dA:∀a,A a->∃o,H0 a=some o)(W1:WR C F1 H2 c1 w1)(W2:WR C F2 H3 c2 w2)(s02:zv H0 H2)(s23:zv H2 H3)(e1:c1.n=cn)(e2:c2.n=cn)(n1:New H0 c1)(n2:New H2 c2)(f2:∀b,F2 b->A b\/H2 b=none):
  EG C cn (λb=>F1 b\/F2 b) H3 [c1,c2] [w1,w2]:=by
 have t1:=W1.there
 have UU:=W1.same s23
 have WL:∀{l:Addr},H0 l=none->(∃o,H2 l=some o)->¬ F2 l:=λ{l} h0 h2 f=>(f2 l f).elim (λz=>by obtain⟨o,e⟩:=dA l z;rw[h0] at e;cases e) λz=>by obtain⟨o,e⟩:=h2;rw[z] at e;cases e
 have WM:∀{l:Addr},H2 l=none->¬ F1 l:=λ{l} h f=>by obtain⟨o,e⟩:=W1.dm l f;rw[h] at e;cases e
 have dm:∀b,(F1 b\/F2 b)->∃o,H3 b=some o:=λb f=>f.elim (λz=>UU.dm b z) λz=>W2.dm b z
 have V1:WR C (λb=>F1 b\/F2 b) H3 c1 w1:=UU.ex (aU λ_ _ _ z=>.inl z) (λ_ _ _ e=>e) dm ⟨λf=>f.elim UU.nF.1 (WL n1.1 t1.1),λf=>f.elim UU.nF.2.1 (WL n1.2.1 t1.2.1),λf=>f.elim UU.nF.2.2.1 (WL n1.2.2.1 t1.2.2.1),λf=>f.elim UU.nF.2.2.2.1 (WL n1.2.2.2.1 t1.2.2.2.1),λf=>f.elim UU.nF.2.2.2.2 (WL n1.2.2.2.2 t1.2.2.2.2)⟩
 have V2:WR C (λb=>F1 b\/F2 b) H3 c2 w2:=W2.ex (aU λ_ _ _ z=>.inr z) (λ_ _ _ e=>e) dm ⟨λf=>f.elim (WM n2.1) W2.nF.1,λf=>f.elim (WM n2.2.1) W2.nF.2.1,λf=>f.elim (WM n2.2.2.1) W2.nF.2.2.1,λf=>f.elim (WM n2.2.2.2.1) W2.nF.2.2.2.1,λf=>f.elim (WM n2.2.2.2.2) W2.nF.2.2.2.2⟩
 refine⟨rfl,λi c w h1 h2=>?_,λi j c d h1 h2 ne=>?_⟩
 ·match i,h1,h2 with
  | 0,h1,h2=>cases h1;cases h2;exact⟨e1,V1⟩
  | 1,h1,h2=>cases h1;cases h2;exact⟨e2,V2⟩
  | i+2,h1,_=>simp at h1
 ·match i,j,h1,h2,ne with
  | 0,0,_,_,ne=>exact absurd rfl ne
  | 1,1,_,_,ne=>exact absurd rfl ne
  | 0,1,h1,h2,_=>cases h1;cases h2;exact⟨jr n2.2.2.1 t1.2.2.1,jr n2.2.2.2.1 t1.2.2.2.1,jr n2.2.2.2.2 t1.2.2.2.2,jr n2.2.1 t1.2.2.2.1⟩
  | 1,0,h1,h2,_=>cases h1;cases h2;exact⟨(jr n2.2.2.1 t1.2.2.1).symm,(jr n2.2.2.2.1 t1.2.2.2.1).symm,(jr n2.2.2.2.2 t1.2.2.2.2).symm,(jr n2.2.2.2.1 t1.2.1).symm⟩
  | i+2,_,h1,_,_=>simp at h1
  | 0,j+2,_,h2,_=>simp at h2
  | 1,j+2,_,h2,_=>simp at h2
def Vl (C:MC)(m:List PV->Option PV):Sp:=λvs H Q _=>∃A ps p,zt C A H vs ps/\m ps=some p/\∀v H',zv H H'->(p=.zD/\v=.zD\/RI C A H true H' v p)->Q v H'
theorem Mr {C:MC}{m:List PV->Option PV}{vs:List V}{Q:VK}{E:XK}(h:CO C m false vs H Q E):Vl C m vs H Q E:=by
 obtain⟨A,ps,p,r,hm,q⟩:=h
 refine⟨A,ps,p,r,hm,λv H' s z=>q v H' s ?_⟩
 rcases z with ⟨e1,e2⟩ | ⟨a,e,hn,t⟩
 ·rw[e1,e2];exact .zD
 ·rw[e]
  exact Top.rep (t.ex (aU λc o _ z=>z.1) λo z=>z) (.inr hn)
noncomputable def Jy (cn:Nat)(wl ra rf es pb io so ro:List PV->Option PV)(S:List PV)(st:PV):List PV->Option PV
 | [p,q]=>(UQ wl ra rf es st p 1).bind λw1=>(UQ wl ra rf es st q 1).bind λw2=>Vj pb cn S io so ro [w1,w2]
 | _=>none
def ZF (mg:Str->Option Value)(x:Str)(C:MC)(cn:Nat)(wl ra rf es pb io so ro:List PV->Option PV)(S:List PV)(st:PV)(fS:Addr):TS:=
 iK (fB (Jv mg x C cn pb S io so ro) [] E0 (aM (vA (aM (uc (C.cl cn) (v6 C cn wl ra rf es st) [] E0 (aM (aG 0) (aM (tC (.int 1)) bh))) (aM (uc (C.cl cn) (v6 C cn wl ra rf es st) [] E0 (aM (aG 1) (aM (tC (.int 1)) bh))) bh))) (aM (tC (.ref fS)) bh)))
theorem Qw {mg:Str->Option Value}{C:MC}{cn:Nat}{wl ra rf es pb io so ro:List PV->Option PV}{S:List PV}{st:PV}{fS:Addr}{vs:List V}{Q:VK}{E:XK}(T:WT C.K (C.cl cn))(ZG:mg x=some (.ref fS))(h:Vl C (Jy cn wl ra rf es pb io so ro S st) vs H Q E):
  ZF mg x C cn wl ra rf es pb io so ro S st fS { nx:=λ_ H'=>Q .zD H',rt:=Q } (L2.start ["one","other"] vs) H:=by
 obtain⟨A,ps,out,r,hm,q⟩:=h
 cases r with
 | nil=>cases hm
 | @cons v1 p ps _ r1 r=>cases r with
  | nil=>cases hm
  | @cons v2 q2 ps _ r2 r=>cases r with
   | cons _ _=>cases hm
   | nil=>
    obtain⟨w1,h1,hm⟩:=ag.mp (show ((UQ wl ra rf es st p 1).bind _)=_ from hm)
    obtain⟨w2,h2,hm⟩:=ag.mp hm
    have dA:∀a,(A a/\∃o,H a=some o)->∃o,H a=some o:=λa z=>z.2
    have x1:Rep C (λa=>A a/\∃o,H a=some o) H v1 p:=r1.ex (aU λa o e z=>⟨z,o,e⟩)
    have x2:Rep C (λa=>A a/\∃o,H a=some o) H v2 q2:=r2.ex (aU λa o e z=>⟨z,o,e⟩)
    unfold ZF
    dsimp only [iK,fB,aM,bh,vA,uc,aG,tC]
    refine⟨_,rfl,G7 T dA x1 h1 λH2 F1 c1 s1 e1 n1 f1 W1=>?_⟩
    refine⟨_,rfl,G7 T (λa z=>(let ⟨o,e⟩:=z.2;⟨o,s1 a o e⟩)) (x2.ex (.of_same s1)) h2 λH3 F2 c2 s2 e2 n2 f2 W2=>?_⟩
    refine⟨by show (2:Nat)<=sizeLine;decide,λwa HI=>?_⟩
    have s3:=aD HI (.lst [.ref c1.a,.ref c2.a])
    have WS2:=(SM dA W1 W2 s1 s2 e1 e2 n1 n2 f2)
    have t1:=(W1.same s2).there
    have t2:=W2.there
    refine⟨fS,ZG,λb=>F1 b\/F2 b,[c1,c2],[w1,w2],out,wa,rfl,.inr rfl,T,WS2.same s3,aA,λf=>?_,λc hc=>?_,hm,λH5 v kp rv=>?_⟩
    ·obtain⟨o,e⟩:=f.elim (λz=>(W1.same s2).dm wa z) λz=>W2.dm wa z
     rw[HI] at e;cases e
    ·simp only[be,cq,gz] at hc
     rcases hc with rfl | rfl
     ·exact jr HI t1.2.2.1
     ·exact jr HI t2.2.2.1
    ·have SD:=(s1.trans s2).trans s3
     refine q v H5 (λa o e=>kp a o (SD a o e) λc hc=>?_) (rv.imp id λ⟨a,ev,hn,tp⟩=>⟨a,ev,SD.free hn,tp.ex (aU λc o _ z=>⟨.inr (SD.free z.1),z.2⟩) λo z=>z⟩)
     simp only[be,cq,gz] at hc
     rcases hc with rfl | rfl
     ·exact⟨(aq e n1.2.2.1),(aq e n1.2.2.2.1),(aq e n1.2.2.2.2)⟩
     ·exact⟨(aq e (s1.free n2.2.2.1)),(aq e (s1.free n2.2.2.2.1)),(aq e (s1.free n2.2.2.2.2))⟩
variable {mi:List PV->Option PV}
theorem Cd {P:Program}{w:World}{K:W.Frag}{mg:Str->Option Value}{base:Heap}{k:Nat}{ps:qq}{C:MC}(c:IL P w K mg base k x ps (Vl C mi)):IL P w K mg base k x ps (CO C mi false):=by
 obtain⟨f,fd,G,hb,kp,hm⟩:=c.ex
 exact⟨f,fd,G.imp λvs H Q E h=>Mr h,hb,kp,hm⟩
section
variable {X:Cx}{b:BX}{G G' L:qf}{ro:Bool}{e:Expr}{es:qo}{rest:qk}{h:qE}{g0 g1:Env->Option Out}{g:Env->Option (List PV)}{p pos:Pos}
def tMP (b:BX)(G:qf)(f:qE):TE:=fun σ H Q=>∃Ow env p,ER b Ow G σ env H/\f env=some p/\∀v H',zv H H'->(p=.zD/\v=.zD\/Res b Ow H H' .own v p)->Q v H'
theorem Jz {k j:Nat}{ps:qq}(c:IL X.prog X.w X.K X.mg X.base k x ps (Vl b.C mi))(hr:AN j X.A)(ha:SA X b G false (e::es) g)(hle:k<=j:=by decide)(hg:Gl X x:=by rfl)
  (E5:(x == ("__debug__" : Str))=false:=by decide) (he:starEach (e::es) X.env=(false,eval e X.env)::starEach es X.env:=by rfl) (A2:(backTo pos (starEach es X.env)).any (·.1)=false:=by rfl):
  PE X (.Call (.Name x p) (e::es) [] pos) (tMP b G (bM mi g)):=by
 refine PE.imp (eO c hr ha hle hg E5 he A2) ?_
 rintro σ H Q ⟨Ow,env,q,E,hf,kk⟩
 unfold bM at hf
 cases q1:g env with
 | none=>rw[q1] at hf;cases hf
 | some qs=>
  rw[q1] at hf
  refine⟨Ow,env,qs,E,q1,λvs H1 s1 r=>?_⟩
  dsimp only
  rw[bS]
  exact⟨Bs b Ow,qs,q,uz r,hf,λv H' s' rr=>kk v H' (s1.trans s') (rr.imp id λrr=>RI.res (ro:=true) E s1 rr)⟩
noncomputable def v7 (i:Nat)(h:qE)(g0 g1:Env->Option Out)(env:Env):Option Out:=(h env).bind λp=>match p with
 | .zD=>g0 (env.set i (some .zD))
 | q=>g1 (env.set i (some q))
theorem JB {i:Nat}{env:Env}(e:h env=some .zD):v7 i h g0 g1 env=g0 (env.set i (some .zD)):=by unfold v7;rw[e];rfl
theorem JC {i:Nat}{env:Env}{xs:List PV}(e:h env=some (.lst xs)):v7 i h g0 g1 env=g1 (env.set i (some (.lst xs))):=by unfold v7;rw[e];rfl
theorem ER.drop {Ow:Addr->Prop}{σ:St}{env:Env}(E:ER b Ow G σ env H){i:Nat}(hx:b.fx i=none):ER b Ow (G.filter λj=>j != i) (σ.set i (some .zD)) (env.set i (some .zD)) H:=by
 have hm:∀{j},i≠j->(j∈(G.filter λj=>j != i)↔j∈G):=λ{j} n=>by simp[kA,fe n]
 have hi:i∉(G.filter λj=>j != i):=by simp[kA]
 have get:∀{α:Type}{l:List α}{j:Nat}{v:α},i≠j->(l.set i v)[j]?=l[j]?:=λn=>bm n
 refine⟨by rw[d0,d0];exact E.len,E.same,E.live,E.new,λj q e n=>?_,λj q e n=>?_,λj k a q q' e1 n1 s1 e2 n2 s2=>?_,λk w hw=>?_⟩
 ·by_cases hj:i=j
  ·subst hj
   have hl:i < env.length:=by
    have:=(af.mp e).1
    rwa [d0] at this
   rw[d6 hl] at e
   cases e
   exact⟨.zD,by rw[d6 (by rw[E.len];exact hl)],.zD⟩
  ·rw[get hj] at e ⊢
   exact E.val j q e λz=>n ((hm hj).mpr z)
 ·by_cases hj:i=j
  ·subst hj;exact absurd n hi
  ·rw[get hj] at e ⊢
   exact E.own j q e ((hm hj).mp n)
 ·have h1:i≠j:=λz=>by subst z;exact hi n1
  have h2:i≠k:=λz=>by subst z;exact hi n2
  rw[get h1] at e1 s1
  rw[get h2] at e2 s2
  exact E.sep j k a q q' e1 ((hm h1).mp n1) s1 e2 ((hm h2).mp n2) s2
 ·have:i≠k:=λz=>by subst z;rw[hx] at hw;cases hw
  rw[get this]
  exact E.fix k w hw
theorem Qx (i:Nat){pos':Pos}(nd:X.N.Nodup)(he:PE X e (tMP b G h))(h0:IM X b (G.filter λj=>j != i) G' L ro rest g0)(h1:IM X b G G' L ro rest g1)(hG:i∈G:=by decide)(hx:b.fx i=none:=by first | rfl | assumption)(hi:X.N[i]?=some x:=by rfl)(hl:Loc X.env.scope x:=by first | exact e9 rfl | exact fb rfl)
  (hs:swapsWith e (some (.Name x pos')) pos.line X.env=pure false:=by rfl) (hf:X.fn x=true\/X.env.scope.names.lookup x=some .local:=by first | exact .inl rfl | exact .inr rfl | assumption):IM X b G G' L ro (.Assign [.Name x pos'] e pos::rest) (v7 i h g0 g1):=by
 have orr:EX X rest (λD σ H=>tS b (G.filter λj=>j != i) G' L ro g0 D σ H\/tS b G G' L ro g1 D σ H):=λzl s σ H D I q=>q.elim (h0 zl s σ H D I) (h1 zl s σ H D I)
 refine EX.imp (aV (dO nd hi hl he hs hf) orr) ?_
 rintro D σ H ⟨Ow,env,o,E,hq,k⟩
 obtain⟨q,hp,z⟩:=az hq
 clear hq
 refine⟨Ow,env,q,E,hp,λv H' s r=>?_⟩
 rcases r with ⟨e1,e2⟩ | ⟨a,ev,hn,t⟩
 ·subst e1 e2
  exact .inl ⟨Ow,_,o,(E.up s).drop hx,z,k.ex (.of_same s)⟩
 ·subst ev
  obtain⟨E',x'⟩:=(E.up s).VZ (G':=G) (λj=>⟨.inl,λz=>z.elim id λy=>y▸hG⟩) s hn E t hx
  refine .inr ⟨_,_,o,E',?_,k.ex x'⟩
  cases q <;> first | exact z | exact t.elim
theorem Ce {st:qk}:IM X b G G L ro st Xz:=by rintro zl s σ H D I ⟨Ow,env,o,E,hf,k⟩;cases hf
end
end Lake.MR
namespace Lake.L2
open PySem PySem.Spec PyProof.Rows
noncomputable def mC (x:Str)(n:Nat):Str:=⟨(List.replicate n x.cps).foldl (·++·) #[]⟩
theorem Ms {X:Cx}:B2 X (binaryOp .Mult) (λx y H Q=>∃i n,x=.str i/\y=.int n/\((n=1/\Q (.str i) H)\/(2<=n/\n<=1000/\1<=i.length/\(mC i n.toNat).length<=1000000/\i.length<=1000/\Q (.str (mC i n.toNat)) H))):=by
 intro zl s σ H x y v u Q I rx ry h
 obtain⟨i,n,rfl,rfl,h⟩:=h
 obtain⟨t,rfl⟩:=rx
 obtain⟨t',rfl⟩:=ry
 rcases h with ⟨rfl,q⟩ | ⟨n2,n3,l1,l3,l2,q⟩
 ·refine P.mul_str (by decide) (λ_ z=>by simp at z) (λ_ z=>by simp at z) ?_
  exact⟨.str i,H,I,⟨t,rfl⟩,q⟩
 ·have e1:¬ n < 1:=by omega
  have e2:(n == 1||i.length == 0)=false:=by
   have a:(n == 1)=false:=by rw[eR];omega
   have c:(i.length == 0)=false:=by rw[eR];omega
   rw[a,c];rfl
  refine P.mul_str (by rw[dv (by omega),dv (by omega)];rfl) (λ_ _=>?_) (λ_ _=>?_) ?_
  ·have:(1000:Int)<=(2 ^ 63 - 1) / n:=by
    refine Int.le_ediv_of_mul_le (by omega) ?_
    have:1000*n<=1000*1000:=by omega
    omega
   omega
  ·have h3:i.length*n.toNat<=1000*1000:=Nat.mul_le_mul l2 (by omega)
   have:(1000*1000:Nat)<=sizeLine:=by decide
   unfold Builtin.Str.tooLong
   simp only[og]
   omega
  ·rw[ay e1,ay (by rw[e2];exact ba)]
   exact⟨gv (bY l3),.str _,H,I.tok _,⟨_,rfl⟩,q⟩
theorem Mt {X:Cx}:B2 X (compareOp .IsNot) (λx y H Q=>∃c d,x=.bl c/\y=.bl d/\Q (.bl (c != d)) H):=by
 intro zl s σ H x y v u Q I rx ry h
 obtain⟨c,d,rfl,rfl,q⟩:=h
 cases rx
 cases ry
 exact isnot_bool ⟨.bl _,H,I,rfl,q⟩
end Lake.L2
namespace Lake.MR
open PySem L2
@[simp] noncomputable def jV:PV->PV->Option PV
 | .int i,.int j=>if (ME i||ME j)=true then some (.int (i*j)) else none
 | .str x,.int n=>if n=1 then some (.str x) else if 2<=n/\n<=1000/\1<=x.length/\(mC x n.toNat).length<=1000000/\x.length<=1000 then some (.str (mC x n.toNat)) else none
 | _,_=>none
@[simp] noncomputable def qX:PV->PV->Option PV
 | x,.zD=>some (.bl (!sr x))
 | .bl c,.bl d=>some (.bl (c != d))
 | _,_=>none
section
variable {X:Cx}{b:BX}{G:qf}{m m1 m2:Md}{e e1 e2:Expr}{f f1 f2:qE}{pos:Pos}
theorem Mu:FG b .val (λx y H Q=>rI L4 (λi j=>.int (i*j)) x y H Q\/∃i n,x=.str i/\y=.int n/\((n=1/\Q (.str i) H)\/(2<=n/\n<=1000/\1<=i.length/\(mC i n.toNat).length<=1000000/\i.length<=1000/\Q (.str (mC i n.toNat)) H))) jV:=by
 intro Ow H v1 v2 p1 p2 p Q hn r1 r2 e k
 unfold jV at e
 split at e
 ·rename_i i j
  exact .inl (Gi Ow H v1 v2 (.int i) (.int j) p Q hn r1 r2 e k)
 ·rename_i x n
  refine .inr ⟨x,n,r1.str,r2.int,?_⟩
  split at e
  ·rename_i h1;cases e;exact .inl ⟨h1,k _ H (zv.refl _) (.str _)⟩
  ·split at e
   ·rename_i h2;cases e;exact .inr ⟨h2.1,h2.2.1,h2.2.2.1,h2.2.2.2.1,h2.2.2.2.2,k _ H (zv.refl _) (.str _)⟩
   ·cases e
 ·cases e
theorem Mv (h1:SE X b G m1 e1 f1)(h2:SE X b G m2 e2 f2):SE X b G .val (.BinOp e1 .Mult e2 pos) (b2 jV f1 f2):=ou (B2.or Fq Ms) Mu h1 h2
theorem G8:FG b .val (λx y H Q=>(y=.zD/\Q (.bl (!decide (x=.zD))) H)\/∃c d,x=.bl c/\y=.bl d/\Q (.bl (c != d)) H) qX:=by
 intro Ow H v1 v2 p1 p2 p Q hn r1 r2 e k
 unfold qX at e
 split at e
 ·cases e;exact .inl ⟨r2.zD,by rw[r1.OF];exact k _ H (zv.refl _) (.bl _)⟩
 ·cases e;exact .inr ⟨_,_,r1.bl,r2.bl,k _ H (zv.refl _) (.bl _)⟩
 ·cases e
theorem G9 (h1:SE X b G m1 e1 f1)(h2:SE X b G m2 e2 f2):SC X b G .IsNot e1 e2 (b2 qX f1 f2):=lK (B2.or Bv Mt) G8 h1 h2 (j4 _)
end
end Lake.MR
namespace Lake.L2
open PySem PySem.Spec PyProof.Rows
section
open HT
variable {prog:Program}{w:World}{A:Around}{E:oT}{s:Shared}
theorem pL {t sl:Addr}{items:qA}{vl vu:Value}{lo hi:Option Int}{Q:oT}(ht:IsTup s.heap t items)(hs:s.heap.IsSliceOf sl vl vu .none)(pl:IsPart vl lo)(pu:IsPart vu hi)
  (WN:AK items.size 0 lo=0) (ZH:AK items.size items.size hi=items.size) (h:Q (.ref t) s):wpAny (model prog w) A (getItem (.ref t) (.ref sl)) Q E s:=by
 obtain⟨os,TC,Xo,VG⟩:=id hs
 have Ys:s.TypeIs (.ref sl) "slice" := ⟨os,TC,Xo⟩
 unfold getItem
 try with_reducible refine dP ?_
 first | refine ab (ae ?_) | skip
 refine ab (mM ht.typeIs (by decide) ?_)
 refine ab (ci (name:=Str.ofString "__getitem__") ht.typeIs ed
  (cp ed ht.typeIs entry_tuple_getitem ?_ (args_tuple_getitem _ _)))
 show wpAny _ _ (Builtin.Tuple.tupleItemsOf (.ref t) >>= _) _ _ s
 refine ab (tupleItemsOf_ ht ?_)
 refine ab (iq Ys ?_)
 rw[bb (by decide)]
 refine ab (j5 hs pl pu ?_)
 have hy:(((AK items.size 0 lo:Nat):Int) == 0&&(1:Int) == 1&&(AK items.size items.size hi - AK items.size 0 lo) == items.size)=true:=by rw[WN,ZH];simp
 show wpAny _ _ (if (((AK items.size 0 lo:Nat):Int) == 0&&(1:Int) == 1&&(AK items.size items.size hi - AK items.size 0 lo) == items.size)=true then _ else _) _ _ s
 rw[bb hy]
 refine ab ?_
 unfold Builtin.Tuple.tupleIsExact
 refine ab (iq ht.typeIs (ae ?_))
 rw[bb (by decide)]
 refine ab (hJ ?_)
 exact ae ⟨_,rfl,ae h⟩
end
variable {X:Cx}
def Qy (K:W.Frag):V->Option Int->Option Int->Hp->VK->Prop:=λx lo hi H Q=>∃a xs,x=.ref a/\BU K H a xs/\HT.AK xs.length 0 lo=0/\HT.AK xs.length xs.length hi=xs.length/\Q x H
theorem Mw:L8 X (Qy X.K):=by
 intro zl s σ H x v vl vu lo hi sl Q I rx hs pl pu h
 obtain⟨a,xs,rfl,hx,WN,ZH,q⟩:=h
 cases rx
 obtain⟨zw,r,ht,hz⟩:=I.tuple hx
 have hlen:zw.toArray.size=xs.length:=by rw[ax];exact r.length.symm
 refine⟨"tuple",_,ed.lookup,ht.typeIs,?_⟩
 exact pL ht hs pl pu (by rw[hlen];exact WN) (by rw[hlen];exact ZH) ⟨.ref a,H,I,rfl,q⟩
end Lake.L2
namespace Lake.MR
open PySem PySem.Spec PyProof.Rows L2
noncomputable def En (x:PV)(l h:Option Int):Option PV:=match x with
 | .tup xs=>some (.tup (dI xs l h))
 | _=>none
@[simp] theorem SN (xs:List PV)(l h:Option Int):En (.tup xs) l h=some (.tup (dI xs l h)):=id rfl
noncomputable def jW (f:qE)(lo hi:Env->Option (Option Int))(env:Env):Option PV:=(f env).bind λx=>(lo env).bind λl=>(hi env).bind λh=>En x l h
@[simp] theorem SQ (f:qE)(lo hi:Env->Option (Option Int))(env:Env):jW f lo hi env=((f env).bind λx=>(lo env).bind λl=>(hi env).bind λh=>En x l h):=id rfl
section
variable {X:Cx}{b:BX}{G:qf}{m:Md}{e:Expr}{f:qE}{pos:Pos}
theorem qY {lo hi:Option Expr}{p2:Pos}{fl fh:Env->Option (Option Int)}(h1:SE X b G m e f)(hl:SO X b G lo fl)(hh:SO X b G hi fh)(hK:X.K=b.C.K:=by rfl):SE X b G .val (.Subscript e (.Slice lo hi none p2) pos) (jW f fl fh):=by
 refine PE.imp (yR (r:=λx lo hi H Q=>Oh b.C.K x lo hi H Q\/Qy b.C.K x lo hi H Q) (by rw[← hK];exact L8.or Oi Mw) h1.bor hl hh) fun σ H Q ⟨Ow,env,p,E,hf,k⟩=>?_
 unfold jW at hf
 cases q1:f env with
 | none=>rw[q1] at hf;cases hf
 | some p1=>
  rw[q1] at hf
  cases q2:fl env with
  | none=>rw[q2] at hf;cases hf
  | some l=>
   rw[q2] at hf
   cases q3:fh env with
   | none=>rw[q3] at hf;cases hf
   | some h=>
    rw[q3] at hf
    refine⟨Ow,env,p1,E,q1,λv H1 s1 r1=>⟨Ow,env,l,E.up s1,q2,λH2 s2=>⟨Ow,env,h,E.up (s1.trans s2),q3,λH3 s3=>?_⟩⟩⟩
    have FV:zC b.C (Bs b Ow) H3 v p1:=Res.up (m:=.bor) r1 (s2.trans s3)
    simp only[aE] at hf
    unfold En at hf
    split at hf
    ·rename_i xs
     cases hf
     obtain⟨a,vs,rfl,ha,ra⟩:=FV.tup
     have JA:=ra.length
     by_cases hw:HT.AK vs.length 0 l=0/\HT.AK vs.length vs.length h=vs.length
     ·refine .inr ⟨a,vs,rfl,ha.sq,hw.1,hw.2,?_⟩
      have e:dI xs l h=xs:=by
       unfold dI
       rw[← JA,hw.1,hw.2,mm,Nat.sub_zero,JA,nS]
      rw[e] at k
      exact k _ _ (s1.trans (s2.trans s3)) (Res.down (s1.trans (s2.trans s3)) (ha.rep ra))
     ·exact .inl ⟨a,vs,rfl,ha.sq,hw,λq hq=>k _ _ (s1.trans (s2.trans (s3.trans (aD hq _)))) (Res.down (s1.trans (s2.trans s3)) (mW hq (ra.cut l h)))⟩
    ·cases hf
end
end Lake.MR
namespace Lake.My
open PySem L2 MR
noncomputable def uP:PV:=.ktp [.tup [.str "u",.bl false],.tup [.str "u",.bl true],.tup [.str "-",.bl false],.tup [.str "-",.bl true]]
noncomputable def fP:List PV:=[.tup [.str "u",.bl false],.tup [.str "u",.bl true],.tup [.str "-",.bl false],.tup [.str "-",.bl true]]
noncomputable def gb:PV:=.ktp [.int 0,.int 0,.int 0]
noncomputable def C1:List (String×Bool):=[("bool",true)]
noncomputable def C2:List (String×Bool):=[("list",true)]
noncomputable def Cc:List (String×Bool):=[("tuple",true)]
def bJ:=(b2 AZ (bC (.str "u-x")) (b2 dU (b2 jF (bV 1) (b2 AZ (gY (au (zi 4) (au (zi 12) (au (zi 36) (au (zi 108) aP))))) (bV 0))) (zi 3)))
def fJ:=(bQ (b2 uA (bC (.str "")) (jq [none,some 0] (U5 (b2 gw (zi 1) (b2 dU (b2 dU (bV 0) (zi 4)) (zi 3)))) (gN 0) fH bJ)))
def cj:=cC 1 1 false fJ
def rJ:=(bQ (b2 dU (b2 gw (b2 rZ (b2 dU (bV 0) (zi 1000003)) (b2 gw (zi 48271) (b2 rZ (b2 rZ (zi 15838) (bV 1)) (bV 1)))) (b2 rZ (zi 69621) (bV 1))) (zi 2147483647)))
def gC:=cC 2 2 false rJ
def dW:=(aQ (bA 3 (bM cj (au (bM gC (au (b2 jF (bV 0) (zi 3)) (zk 2 aP))) aP))) (FY (tV (b2 jA (bV 3) (bV 1))) (jR sG 1 (bV 3)) FX))
def qw:=(aQ (bA 1 (gY aP)) (aQ (jH (gN 2) (U5 (b2 gw (zi 1) (b2 dU (bV 0) (zi 3)))) [2,3] dW) (bQ (cN (au (b1 kJ (bV 1)) (au (b2 eqQ (b2 dU (b2 jF (bV 0) (zi 3)) (zi 5)) (zi 4)) aP))))))
def iu:=cC 4 1 false qw
def iy:=(bM iu (au (bM gC (au (b2 jF (bV 1) (bV 2)) (zk 0 aP))) aP))
def pK:=(bQ (b1 kJ (jq [none,some 0,some 1] (U5 (b2 gw (zi 1) (b2 dU (bV 0) (bV 1)))) (gN 0) fH iy)))
def dz:=cC 2 2 false pK
def cD:=(xX Dz 3 (bV 6) (b2 Ig (iW 10 "most" (bV 0)) (b2 gw (b3 uG (bV 3) (bV 6) (zi 0)) (bV 5))))
def cF:=(jH (gN 6) (iV (b3 uG (iW 10 "ahead" (bV 0)) (cN (zk 4 (zk 2 aP))) (gY aP))) [6] cD)
def gR:=(aQ (bA 3 (bC (.dT []))) (aQ (jH (gT [4,5]) (iV (b2 AZ (iW 10 "places" (bV 0)) (bV 1))) [4,5,6] cF) (bQ (b1 kJ (b1 zy (bV 3))))))
def aF:=cC 7 3 false gR
def iz:=(bQ (b3 uG (b1 dctP (b2 AZ (iW 10 "places" (bV 0)) (bV 1))) (iW 10 "end" (bV 0)) (zi 0)))
def bj:=cC 2 2 false iz
def d9:=(bQ (Dl (b2 (jG λi j=>decide (j < i)) (qP 10 "ways_to_end" bj (b2 AZ (bV 0) (zi 0)) (au (b2 AZ (bV 1) (zi 0)) aP)) (zi 0)) (b2 eqQ (qP 10 "ways_to_end" bj (b2 AZ (bV 0) (zi 1)) (au (b2 AZ (bV 1) (zi 1)) aP)) (zi 0))))
def aR:=cC 2 2 false d9
def kZ:=(bQ (b2 eqQ (b1 B0 (b2 AZ (iW 10 "places" (bV 0)) (bV 1))) (zi 0)))
def aZ:=cC 2 2 false kZ
def jt:=(aQ (jR sG 2 (b2 AZ (b2 AZ (bV 0) (bV 3)) (zi 1))) (bA 3 (b2 AZ (b2 AZ (bV 0) (bV 3)) (zi 0))))
def eY:=(tV (b2 g_ (b2 AZ (bV 0) (bV 3)) (bC .zD)))
def xu:=(aQ (bA 2 (gY aP)) (aQ (bA 3 (bV 1)) (aQ (zb 1000000 eY [] jt) (bQ (b1 x_ (bV 2))))))
def cQ:=cC 4 2 true xu
def k_:=(bQ (b2 gG (jW (bV 0) oN (oS (b1 yZ (zi 1)))) (cN (au (cN (au (b2 AZ (b2 AZ (bV 0) (b1 yZ (zi 1))) (zi 0)) (au (bC (.bl true)) aP))) aP))))
def bF:=cC 1 1 false k_
def jb:=(cN (zk 1 (zk 2 (zk 0 aP))))
def dX:=(jR DK 1 (jq [none,some 2,some 4] (YM (zi 1) (b1 B0 (bV 5))) (gN 0) fH jb))
def jc:=(aQ (jR sG 1 (cN (zk 2 (au (zi 0) (au (zi 0) aP))))) (jH (gT [4,5]) (XJ (b2 AZ (bV 3) (zi 0))) [4,5] dX))
def qx:=(aQ (bA 1 (gY aP)) (aQ (jH (gT [2,3]) (XJ (bV 0)) [2,3,4,5] jc) (bQ (bV 1))))
def iB:=cC 6 1 false qx
def lg:=(bQ (cN (au (b1 B0 (bV 0)) (au (zi 0) (au (zi 0) aP)))))
def bG:=cC 1 1 false lg
def iC:=(aQ (bA 3 (b2 AZ (bV 1) (zi 0))) (aQ (bA 4 (b2 gw (b2 AZ (bV 1) (zi 2)) (zi 1))) (aQ (FY (tV (b2 (jG λi j=>decide (i < j)) (bV 4) (b1 B0 (b2 AZ (b2 AZ (b2 AZ (bV 0) (bV 3)) (zi 0)) (b2 AZ (bV 1) (zi 1)))))) (bQ (cN (zk 3 (au (b2 AZ (bV 1) (zi 1)) (zk 4 aP))))) FX) (aQ (FY (tA (tV (b2 AZ (b2 AZ (bV 0) (bV 3)) (zi 1))) (tN (tV (bV 2)))) (bQ (bC .zD)) FX) (bQ (cN (au (b2 gw (bV 3) (zi 1)) (au (zi 0) (au (zi 0) aP)))))))))
def dH:=cC 5 3 false iC
def jK:=(bQ (Xv (b2 eqQ (bV 0) (bV 1)) (b2 eqQ (bV 0) (bC (.str "x")))))
def eU:=cC 2 2 false jK
def cU:=(aQ (bA 10 (bM dH (zk 0 (au (cN (zk 4 (zk 9 (zk 5 aP)))) (zk 3 aP))))) (FY (tA (tV (b2 g_ (bV 10) (bC .zD))) (tV (bM eU (au (b2 AZ (b2 AZ (bV 6) (bV 9)) (bV 5)) (zk 2 aP))))) (jR sG 8 (cN (zk 9 (zk 10 aP)))) FX))
def ju:=(aQ (FY (tV (b2 eqQ (bV 1) (bM bG (zk 0 aP)))) (bQ (gY aP)) FX) (aQ (bA 4 (b2 AZ (bV 1) (zi 0))) (aQ (bA 5 (b2 AZ (bV 1) (zi 2))) (aQ (bA 6 (b2 AZ (b2 AZ (bV 0) (bV 4)) (zi 0))) (aQ (bA 7 (VU (tV (b2 eqQ (bV 5) (zi 0))) (b1 xZ (b1 B0 (bV 6))) (gY (au (b2 AZ (bV 1) (zi 1)) aP)))) (aQ (bA 8 (gY aP)) (aQ (jH (gN 9) (iV (bV 7)) [9,10] cU) (bQ (bV 8)))))))))
def dJ:=cC 11 4 false ju
def jX:=(bQ (cN (au (b2 AZ (bV 1) (zi 0)) (au (VU (tV (b2 (jG λi j=>decide (j < i)) (b2 AZ (bV 1) (zi 2)) (zi 0))) (VX (b2 AZ (b2 AZ (b2 AZ (bV 0) (b2 AZ (bV 1) (zi 0))) (zi 0)) (b2 AZ (bV 1) (zi 1))) (oS (b2 AZ (bV 1) (zi 2))) oN) (bC (.str ""))) aP))))
def bO:=cC 2 2 false jX
def gM:=(bM bO (zk 2 (zk 1 aP)))
def d_:=(aQ (bA 4 (bM dJ (zk 0 (zk 2 (au (b2 AZ (bV 3) (zi 0)) (au (b2 AZ (bV 3) (zi 1)) aP)))))) (xX Dz 1 (cN (au (bM bO (zk 0 (zk 2 aP))) (zk 3 aP))) (jq [none,none,some 0] (iV (bV 4)) (gT [0,1]) fH gM)))
def eE:=(jH (gN 3) (iV (bC uP)) [3,4] d_)
def nP:=(aQ (bA 1 (bC (.dT []))) (aQ (jH (gN 2) (iV (bM iB (zk 0 aP))) [2,3,4] eE) (bQ (bV 1))))
def bI:=cC 5 1 true nP
def bD:=Jy 10 bF bI bO bG aF aZ aR cQ fP gb
def iD:=(aQ (FY (tV (b2 (jG λi j=>decide (i < j)) (bV 1) (b1 B0 (bV 0)))) (bQ (b2 AZ (bV 0) (bV 1))) FX) (bQ (zi 0)))
def bu:=cC 2 2 false iD
def iG:=(aQ (bA 2 (b2 dU (bV 1) (b1 B0 (bV 0)))) (aQ (DP (gT [3,4]) (b2 AZ (bV 0) (bV 2))) (aQ (bA 5 (b2 jF (bV 1) (b1 B0 (bV 0)))) (aQ (bA 6 (bM cj (au (b2 jF (bV 5) (zi 5)) aP))) (aQ (FY (tA (tV (b2 eqQ (b2 dU (bV 5) (zi 5)) (zi 0))) (tA (tV (b2 jA (bV 6) (bV 3))) (tV (b2 (jG λi j=>decide (i < j)) (b1 B0 (bV 3)) (zi 4))))) (bA 3 (b2 gG (bV 3) (cN (zk 6 aP)))) FX) (aQ (FY (tA (tV (b2 eqQ (b2 dU (bV 5) (zi 5)) (zi 1))) (tV (b2 (jG λi j=>decide (j < i)) (b1 B0 (bV 3)) (zi 1)))) (bA 3 (jW (bV 3) (oS (zi 1)) oN)) FX) (aQ (FY (tV (b2 eqQ (b2 dU (bV 5) (zi 5)) (zi 2))) (bA 4 (Dm (bV 4))) FX) (aQ (FY (tV (b2 eqQ (b2 dU (bV 5) (zi 5)) (zi 3))) (bA 3 (cN (au (b2 jV (bC (.str "x")) (b1 B0 (b2 AZ (bV 3) (zi 0)))) aP))) FX) (aQ (FY (tV (b2 eqQ (b2 dU (bV 5) (zi 5)) (zi 4))) (bA 3 (b1 yg (bV 3))) FX) (bQ (b2 gG (b2 gG (jW (bV 0) oN (oS (bV 2))) (cN (au (cN (zk 3 (zk 4 aP))) aP))) (jW (bV 0) (oS (b2 gw (bV 2) (zi 1))) oN))))))))))))
def fK:=cC 7 2 false iG
def eF:=(FY (tO (tN (tV (b1 (sI Cc) (bV 1)))) (tO (tV (b2 VV (b1 B0 (bV 1)) (zi 2))) (tO (tV (b2 jA (b2 AZ (bV 1) (zi 0)) (cN (au (bC (.str "u")) (au (bC (.str "-")) aP))))) (tN (tV (b1 (sI C1) (b2 AZ (bV 1) (zi 1)))))))) (bQ (bC (.bl false))) FX)
def nQ:=(aQ (FY (tO (tN (tV (b1 (sI C2) (bV 0)))) (tO (tV (b2 eqQ (bV 0) (gY aP))) (tV (b2 qX (b2 AZ (b2 AZ (bV 0) (b1 yZ (zi 1))) (zi 1)) (bC (.bl true)))))) (bQ (bC (.bl false))) FX) (aQ (jH (gN 1) (iV (bV 0)) [1] eF) (bQ (bC (.bl true)))))
def gf:=cC 2 1 false nQ
def jd:=(bV 0)
def je:=(tV (b2 jA (b2 AZ (bV 1) (bV 0)) (cN (au (bC (.str "x")) (au (b2 AZ (b2 AZ (bV 2) (b2 gw (bV 3) (bV 0))) (zi 0)) aP)))))
def lq:=(aQ (FY (tO (tV (b2 (jG λi j=>decide (j < i)) (b2 gw (bV 1) (b1 B0 (bV 2))) (b1 B0 (bV 0)))) (tA (tV (bV 3)) (tN (tV (b2 AZ (b2 AZ (bV 0) (b2 Pe (b2 gw (bV 1) (b1 B0 (bV 2))) (zi 1))) (zi 1)))))) (bQ (bC (.bl false))) FX) (bQ (b2 eqQ (jq [none,some 2,some 0,some 1] (U5 (b1 B0 (bV 2))) (gN 0) je jd) (gY aP))))
def a_:=cC 4 4 false lq
def cX:=zL a_
def sX:=(bA 2 (bM fK (zk 2 (zk 3 aP))))
def sY:=(cN (au (b1 yg (b2 AZ (bV 0) (zi 0))) (au (b2 AZ (bV 0) (zi 1)) aP)))
def sZ:=(cN (au (b2 AZ (bV 0) (zi 0)) (au (bC (.bl false)) aP)))
def zP:=(aQ (bA 1 (bM dz (au (bM bu (zk 0 (au (zi 0) aP))) (au (zi 3) aP)))) (aQ (bA 2 (bV 1)) (aQ (FY (tV (b2 eqQ (b2 dU (bM bu (zk 0 (au (zi 1) aP))) (zi 4)) (zi 0))) (bA 2 (bM dz (au (b2 jF (bM bu (zk 0 (au (zi 1) aP))) (zi 4)) (au (zi 3) aP)))) FX) (aQ (jH (gN 3) (iV (VX (bV 0) (oS (zi 2)) (oS (zi 8)))) [3] sX) (v7 4 (bM bD (zk 1 (zk 2 aP))) (aQ (FY (tV (b2 g_ (bV 4) (bC .zD))) Xz FX) (aQ (bA 6 (b1 kJ (jq [none] (iV (bV 1)) (gN 0) fH sY))) (aQ (bA 7 (b1 kJ (jq [none] (iV (bV 1)) (gN 0) fH sZ))) (aQ (bA 8 (b2 AZ (gY (zk 1 (zk 6 (zk 7 aP)))) (b2 dU (bM bu (zk 0 (au (zi 8) aP))) (zi 3)))) (bQ (b2 OF (bM bD (zk 1 (zk 8 aP))) (bC .zD))))))) (aQ (FY (tV (b2 g_ (bV 4) (bC .zD))) (aQ (FY (tO (tN (tV (m8 gf (au (bL (bV 4)) aP)))) (tO (tV (b2 eqQ (m8 cX (zk 1 (au (bL (bV 4)) aP))) (zi 0))) (tV (b2 (jG λi j=>decide (j < i)) (m8 cX (zk 2 (au (bL (bV 4)) aP))) (zi 0))))) (bQ (bC (.bl false))) FX) (aQ (bA 5 (b1 Du (bV 4))) (aQ (jR sG 4 (cN (au (bC (.str "u")) (au (bC (.bl true)) aP)))) (bQ (b2 eqQ (bM bD (zk 1 (zk 2 aP))) (bV 5)))))) FX) Xz))))))
def uQ:=cC 9 1 false zP
section
variable {α:Type}(a b c d e f g h:α)(l:List α)
@[simp] theorem at0:BY (a::l) 0=some a:=dG (k:=0) rfl
@[simp] theorem at1:BY (a::b::l) 1=some b:=dG (k:=1) rfl
@[simp] theorem at2:BY (a::b::c::l) 2=some c:=dG (k:=2) rfl
@[simp] theorem at3:BY (a::b::c::d::l) 3=some d:=dG (k:=3) rfl
end
@[simp] noncomputable def ZI (ds:qf):Option Out->Option MR.Env
 | some (.nx e)=>some (EF ds e)
 | some (.ct e)=>some (EF ds e)
 | _=>none
noncomputable def turn (g:PV->MR.Env->Option MR.Env)(ds:qf)(body:MR.Env->Option Out)(x:PV)(env:MR.Env):Option MR.Env:=(g x env).bind λe=>ZI ds (body e)
theorem cZ (g:PV->MR.Env->Option MR.Env)(ds:qf)(body:MR.Env->Option Out)(x:PV)(env:MR.Env):turn g ds body x env=(g x env).bind λe=>ZI ds (body e):=id rfl
theorem oX {g:PV->MR.Env->Option MR.Env}{ds:qf}{body:MR.Env->Option Out}{x:PV}{xs:List PV}{env Co:MR.Env}(h:turn g ds body x env=some Co):d8 g ds body (x::xs) env=d8 g ds body xs Co:=by
 unfold turn at h
 obtain⟨e,h1,h2⟩:=az h
 unfold ZI at h2
 split at h2
 ·rename_i q;cases h2;simp[d8,h1,q]
 ·rename_i q;cases h2;simp[d8,h1,q]
 ·cases h2
theorem qy {α S:Type}{g:PV->MR.Env->Option MR.Env}{ds:qf}{body:MR.Env->Option Out}(c:α->PV)(E:S->MR.Env)(step:S->α->S)(I:List α->S->Prop):∀(ys:List α) (s:S),I ys s->
  (∀y ys s,I (y::ys) s->I ys (step s y)/\turn g ds body (c y) (E s)=some (E (step s y)))->
  d8 g ds body (ys.map c) (E s)=some (.nx (E (ys.foldl step s)))
 | [],s,_,_=>rfl
 | y::ys,s,i,hh=>by
  obtain⟨hI,h1⟩:=hh y ys s i
  have ih:=qy c E step I ys (step s y) hI hh
  rw[a0,oX h1,ih,List.foldl_cons]
theorem rK {α:Type}{g:PV->MR.Env->Option MR.Env}{ds:qf}{body:MR.Env->Option Out}{env:MR.Env}(c:α->PV):∀(ys:List α),(∀y∈ys,turn g ds body (c y) env=some env)->d8 g ds body (ys.map c) env=some (.nx env)
 | [],_=>rfl
 | y::ys,h=>by
  rw[a0,oX (h y ar)]
  exact rK c ys λz hz=>h z (am _ hz)
theorem cu {f g:MR.Env->Option Out}{env e:MR.Env}(h:f env=some (.nx e)):aQ f g env=g e:=by simp[h]
theorem Mx {f g:MR.Env->Option Out}{env:MR.Env}{p:PV}(h:f env=some (.rt p)):aQ f g env=some (.rt p):=by simp[h]
theorem lu (n:Nat):cT 0 (n:Int)=(List.range n).map λk=>PV.int (k:Nat):=by
 unfold cT
 simp
noncomputable def cell (ns:qr)(k:Nat):Int:=ns.getD k 0
def DO:Nat->PV->Prop
 | _,.zD=>True
 | _,.bl _=>True
 | _,.int _=>True
 | _,.str x=>PyData.strOk x=true
 | n+1,.lst xs=>∀x∈xs,DO n x
 | n+1,.tup xs=>∀x∈xs,DO n x
 | _,_=>False
theorem uR {n:Nat}(ih:∀p,DO n p->∃d,toD p=some d/\d.canLay0=true/\d.depth<=n/\PyData.eqv d d=true):∀xs:List PV,(∀x∈xs,DO n x)->∃ds,eZ xs=some ds/\PyData.canLayAll0 ds=true/\PyData.depthAll ds<=n/\PyData.eqvAll ds ds=true
 | [],_=>⟨[],rfl,rfl,cb _,rfl⟩
 | x::xs,h=>by
  obtain⟨d,h1,h2,h3,h4⟩:=ih x (h x ar)
  obtain⟨ds,g1,g2,g3,g4⟩:=uR ih xs λz hz=>h z (am _ hz)
  refine⟨d::ds,by simp[eZ,h1,g1],by simp[PyData.canLayAll0,h2,g2],?_,by simp[PyData.eqvAll,h4,g4]⟩
  simp only[PyData.depthAll]
  omega
theorem uT:∀(n:Nat) (p:PV),DO n p->∃d,toD p=some d/\d.canLay0=true/\d.depth<=n/\PyData.eqv d d=true
 | n,.zD,_=>⟨.none,by simp[toD],by simp[PyData.canLay0],by simp[PyData.depth],by simp[PyData.eqv]⟩
 | n,.bl b,_=>⟨.bool b,by simp[toD],by simp[PyData.canLay0],by simp[PyData.depth],by simp[PyData.eqv]⟩
 | n,.int b,_=>⟨.int b,by simp[toD],by simp[PyData.canLay0],by simp[PyData.depth],by simp[PyData.eqv]⟩
 | n,.str b,h=>⟨.str b,by simp[toD],by simpa [PyData.canLay0,DO] using h,by simp[PyData.depth],by simp[PyData.eqv]⟩
 | n+1,.lst xs,h=>by
  obtain⟨ds,g1,g2,g3,g4⟩:=uR (uT n) xs (by simpa [DO] using h)
  exact⟨.list ds,by simp[toD,g1],by simp[PyData.canLay0,g2],by simp only[PyData.depth];omega,by simp[PyData.eqv,g4]⟩
 | n+1,.tup xs,h=>by
  obtain⟨ds,g1,g2,g3,g4⟩:=uR (uT n) xs (by simpa [DO] using h)
  exact⟨.tuple ds,by simp[toD,g1],by simp[PyData.canLay0,g2],by simp only[PyData.depth];omega,by simp[PyData.eqv,g4]⟩
 | 0,.lst _,h=>by simp[DO] at h
 | 0,.tup _,h=>by simp[DO] at h
 | _,.frz _,h=>by simp[DO] at h
 | _,.ktp _,h=>by simp[DO] at h
 | _,.dK _,h=>by simp[DO] at h
 | _,.dT _,h=>by simp[DO] at h
 | _,.obj _ _,h=>by simp[DO] at h
variable {n:Nat}
theorem JD {p:PV}(h:DO n p)(hn:n<=64):TU p p=some true:=by
 obtain⟨d,h1,h2,h3,h4⟩:=uT n p h
 have hs:SeqAt.shaped d=true:=by
  unfold SeqAt.shaped
  rw[h2,Bool.true_and,eB]
  omega
 simp[TU,h1,hs,h4]
theorem JF {p:PV}{k:Bool}(h:Pf p p=some k):k=true:=by
 cases p <;> simp at h <;> first | exact h | exact h.symm | cases h
theorem zQ {p:PV}(h:DO n p)(hn:n<=64):HA p p=some true:=by
 unfold HA
 cases q:Pf p p with
 | none=>exact JD h hn
 | some k=>rw[JF q]
theorem rM {x:PV}{xs:List PV}(h:DO (n+1) (.lst (x::xs)))(hn:n<=60):HA (.lst (x::xs)) (.lst [])=some false:=by
 have h':∀y∈x::xs,DO n y:=by simpa [DO] using h
 obtain⟨d,a1,a2,a3,a4⟩:=uT n x (h' x ar)
 obtain⟨ds,g1,g2,g3,g4⟩:=uR (uT n) xs λz hz=>h' z (am _ hz)
 have hs:SeqAt.shaped (.list (d::ds))=true:=by
  have h1:(PyData.list (d::ds)).canLay0=true:=by simp[PyData.canLay0,PyData.canLayAll0,a2,g2]
  have h2:(PyData.list (d::ds)).depth<=64:=by simp only[PyData.depth,PyData.depthAll];omega
  simp[SeqAt.shaped,h1,h2]
 have DE:SeqAt.shaped (.list [])=true:=by decide
 simp[HA,Pf,TU,toD,eZ,a1,g1,hs,DE,PyData.eqv,PyData.eqvAll]
@[simp] theorem Mz:HA (.lst []) (.lst [])=some true:=zQ (n:=1) (by simp[DO]) (by decide)
theorem fQ {α S:Type}{g:PV->MR.Env->Option MR.Env}{ds:qf}{body:MR.Env->Option Out}(c:α->PV)(E:S->MR.Env)(I:List α->S->Prop)(hh:∀y ys s,I (y::ys) s->∃s',I ys s'/\turn g ds body (c y) (E s)=some (E s')):∀(ys:List α) (s:S),I ys s->
  ∃s',I [] s'/\d8 g ds body (ys.map c) (E s)=some (.nx (E s'))
 | [],s,i=>⟨s,i,rfl⟩
 | y::ys,s,i=>by
  obtain⟨s1,i1,h1⟩:=hh y ys s i
  obtain⟨s2,i2,h2⟩:=fQ c E I hh ys s1 i1
  exact⟨s2,i2,by rw[a0,oX h1,h2]⟩
theorem Cg {k:Nat}(h:k < 1000):ME (k:Int)=true:=uv (by omega) (by omega)
theorem oY (x:Str)(cs:qq):(cs.map PV.str).all fC=true/\((cs.map PV.str).any λy=>TZ y (.str x))=decide (x∈cs):=by
 refine⟨by rw[List.all_map,gt];exact λ_ _=>rfl,?_⟩
 rw[List.any_map]
 induction cs with
 | nil=>simp
 | cons c r ih=>
  rw[fq,ih]
  by_cases e:x=c
  ·subst e;simp[TZ]
  ·have e':¬ c=x:=λz=>e z.symm
   simp[TZ,e,e']
theorem JG (x:Str)(cs:qq):oH (.str x) (.lst (cs.map .str))=some (decide (x∈cs)):=by
 simp[oH,fC,(oY x cs).1,(oY x cs).2]
theorem qz (x:Str)(cs:qq):oH (.str x) (.tup (cs.map .str))=some (decide (x∈cs)):=by
 simp[oH,fC,(oY x cs).1,(oY x cs).2]
structure A3 (p:Str):Prop where
 ge:1<=p.length
 le:p.length<=3
 cs:∀c∈p.cps.toList,c=117\/c=45\/c=120
structure A5 (ps:qq):Prop where
 ne:ps≠[]
 le:ps.length<=4
 ok:∀p∈ps,A3 p
theorem Eo {i:Int}(h0:0<=i)(h1:i < 3):∃c,(c=117\/c=45\/c=120)/\BY (("u-x" : Str).cps.toList) i=some c:=by
 have e:("u-x" : Str).cps.toList=[117,45,120]:=by decide +kernel
 obtain⟨k,rfl⟩:∃k:Nat,i=k:=⟨i.toNat,by omega⟩
 rw[e]
 have hk:k=0\/k=1\/k=2:=by omega
 rcases hk with rfl | rfl | rfl
 ·exact⟨117,.inl rfl,rfl⟩
 ·exact⟨45,.inr (.inl rfl),rfl⟩
 ·exact⟨120,.inr (.inr rfl),rfl⟩
theorem Qz:("u-x" : Str).length<=1000000:=by decide +kernel
noncomputable def Ep (c k:Int):Int:=(c % 1000003*(48271+15838*k*k)+69621*k) % 2147483647
theorem G_ (c k:Int)(h:ME k=true):gC [.int c,.int k]=some (.int (Ep c k)):=by
 have h1:ME (c % 1000003)=true:=uv (by omega) (by omega)
 have h2:ME 69621=true:=uv (by decide) (by decide)
 have h3:ME 15838=true:=uv (by decide) (by decide)
 simp[gC,rJ,h,h1,h2,h3,Ep]
theorem tu (n:Int){k:Nat}(hk:k < 3):∃c,(c=117\/c=45\/c=120)/\bJ [some (.int k),some (.int n)]=some (.str ⟨#[c]⟩):=by
 have hl:=Qz
 have hk:k=0\/k=1\/k=2:=by omega
 rcases hk with rfl | rfl | rfl
 ·obtain⟨c,hc,h⟩:=Eo (i:=n / 4 % 3) (by omega) (by omega)
  exact⟨c,hc,by simp[bJ,h,hl]⟩
 ·obtain⟨c,hc,h⟩:=Eo (i:=n / 12 % 3) (by omega) (by omega)
  exact⟨c,hc,by simp[bJ,h,hl]⟩
 ·obtain⟨c,hc,h⟩:=Eo (i:=n / 36 % 3) (by omega) (by omega)
  exact⟨c,hc,by simp[bJ,h,hl]⟩
theorem uU (n:Int):∃x,A3 x/\cj [.int n]=some (.str x):=by
 obtain⟨t,ht,et⟩:∃t:Nat,(t=1\/t=2\/t=3)/\1+n % 4 % 3=t:=⟨(1+n % 4 % 3).toNat,by omega,by omega⟩
 have hr:HE (t:Int)=true:=nj (by omega) (by omega)
 obtain⟨a,ha,ea⟩:=tu n (k:=0) (by decide)
 obtain⟨b,hb,eb⟩:=tu n (k:=1) (by decide)
 obtain⟨c,hc,ec⟩:=tu n (k:=2) (by decide)
 have el:("" : Str).length=0:=by decide +kernel
 have ea:bJ [some (.int 0),some (.int n)]=some (.str ⟨#[a]⟩):=ea
 have eb:bJ [some (.int 1),some (.int n)]=some (.str ⟨#[b]⟩):=eb
 have ec:bJ [some (.int 2),some (.int n)]=some (.str ⟨#[c]⟩):=ec
 rcases ht with rfl | rfl | rfl
 ·refine⟨⟨#[a]⟩,⟨by show 1<=1;decide,by show 1<=3;decide,λd hd=>?_⟩,?_⟩
  ·simp at hd;rw[hd];exact ha
  ·have e:cT 0 1=[.int 0]:=rfl
   have hj:JoinOk ("" : Str) [⟨#[a]⟩]=true:=rfl
   have WO:Str.join ("" : Str) [⟨#[a]⟩]=⟨#[a]⟩:=rfl
   have hr:HE 1=true:=hr
   have et:1+n % 4 % 3=1:=et
   simp[cj,fJ,et,hr,e,cO,ea,CD,hj,WO]
 ·refine⟨⟨#[a,b]⟩,⟨by show 1<=2;decide,by show 2<=3;decide,λd hd=>?_⟩,?_⟩
  ·simp at hd;rcases hd with hd | hd <;> rw[hd] <;> assumption
  ·have e:cT 0 2=[.int 0,.int 1]:=rfl
   have hj:JoinOk ("" : Str) [⟨#[a]⟩,⟨#[b]⟩]=true:=rfl
   have WO:Str.join ("" : Str) [⟨#[a]⟩,⟨#[b]⟩]=⟨#[a,b]⟩:=rfl
   have hr:HE 2=true:=hr
   have et:1+n % 4 % 3=2:=et
   simp[cj,fJ,et,hr,e,cO,ea,eb,CD,hj,WO]
 ·refine⟨⟨#[a,b,c]⟩,⟨by show 1<=3;decide,by show 3<=3;decide,λd hd=>?_⟩,?_⟩
  ·simp at hd;rcases hd with hd | hd | hd <;> rw[hd] <;> assumption
  ·have e:cT 0 3=[.int 0,.int 1,.int 2]:=rfl
   have hj:JoinOk ("" : Str) [⟨#[a]⟩,⟨#[b]⟩,⟨#[c]⟩]=true:=rfl
   have WO:Str.join ("" : Str) [⟨#[a]⟩,⟨#[b]⟩,⟨#[c]⟩]=⟨#[a,b,c]⟩:=rfl
   have hr:HE 3=true:=hr
   have et:1+n % 4 % 3=3:=et
   simp[cj,fJ,et,hr,e,cO,ea,eb,ec,CD,hj,WO]
abbrev Slot:=List Str×Bool
abbrev qB:=List Slot
noncomputable def A4 (s:Slot):PV:=.tup [.tup (s.1.map .str),.bl s.2]
noncomputable def mP (m:qB):PV:=.tup (m.map A4)
def aX (m:qB):Prop:=∀s∈m,A5 s.1
theorem Ha {n:Int}{L:qq}(hL:L.length < 1000){k:Nat}(hk:k < 4):
  ∃x,A3 x/\turn (gN 2) [2,3] dW (.int k) [some (.int n),some (.lst (L.map .str)),none,none]=some [some (.int n),some (.lst ((if x∈L then L else L++[x]).map .str)),none,none]:=by
 have h1:=G_ (n / 3) k (Cg (by omega))
 obtain⟨x,hx,h2⟩:=uU (Ep (n / 3) k)
 have Vm:=JG x L
 have hl:L.length < 1000000:=by omega
 refine⟨x,hx,?_⟩
 by_cases hm:x∈L
 ·simp[cZ,dW,h1,h2,Vm,hm,hl]
 ·simp[cZ,dW,h1,h2,Vm,hm,hl]
theorem MF (n:Int):∃s:Slot,A5 s.1/\iu [.int n]=some (A4 s):=by
 obtain⟨t,ht,et⟩:∃t:Nat,(1<=t/\t<=3)/\1+n % 3=t:=⟨(1+n % 3).toNat,by omega,by omega⟩
 obtain⟨L,⟨i1,i3,i4,_⟩,h⟩:=fQ (g:=gN 2) (ds:=[2,3]) (body:=dW) (λk:Nat=>PV.int (k:Nat)) (λL:List Str=>[some (.int n),some (.lst (L.map .str)),none,none])
  (λr L=>(∀p∈L,A3 p)/\L.length+r.length<=t/\(r.length=t\/L≠[])/\∀k∈r,k < 4)
  (by
   rintro k r L ⟨i1,i3,i4,i5⟩
   simp only[bv] at i3 i4
   obtain⟨x,hx,h⟩:=Ha (n:=n) (L:=L) (by omega) (i5 k ar)
   refine⟨_,⟨?_,?_,.inr ?_,λz hz=>i5 z (am _ hz)⟩,h⟩
   ·intro p hp
    split at hp
    ·exact i1 p hp
    ·rcases bo.mp hp with z | z
     ·exact i1 p z
     ·rw[av] at z;rw[z];exact hx
   ·split
    ·omega
    ·rw[bq,jp];omega
   ·split
    ·rename_i hm
     intro e
     rw[e] at hm
     cases hm
    ·simp)
  (List.range t) [] ⟨(λp hp=>by cases hp),by simp,.inl (by simp),(λk hk=>by have:=bX.mp hk;omega)⟩
 have hr:HE (t:Int)=true:=nj (by omega) (by omega)
 rw[← lu] at h
 simp only[iX] at h
 refine⟨(L,decide (n / 3 % 5=4)),⟨?_,?_,i1⟩,?_⟩
 ·rcases i4 with z | z
  ·simp at z;omega
  ·exact z
 ·simp at i3;show L.length<=4;omega
 ·simp[iu,qw,et,hr,h,A4]
theorem zR (c:Int):∃m,aX m/\m≠[]/\m.length<=3/\dz [.int c,.int 3]=some (mP m):=by
 obtain⟨t,ht,et⟩:∃t:Nat,(1<=t/\t<=3)/\1+c % 3=t:=⟨(1+c % 3).toNat,by omega,by omega⟩
 have hr:HE (t:Int)=true:=nj (by omega) (by omega)
 have key:∀ks:List Nat,(∀k∈ks,k < 1000)->∃m,aX m/\m.length=ks.length/\cO [none,some (.int c),some (.int 3)] (gN 0) fH iy (ks.map λk=>PV.int (k:Nat))=some (m.map A4):=by
  intro ks
  induction ks with
  | nil=>intro _;exact⟨[],(λs hs=>by cases hs),rfl,rfl⟩
  | cons k ks ih=>
   intro h
   obtain⟨m,h1,h2,h3⟩:=ih λj hj=>h j (am _ hj)
   obtain⟨s,g1,g2⟩:=MF (Ep (c / 3) k)
   have g3:=G_ (c / 3) k (Cg (h k ar))
   refine⟨s::m,λx hx=>?_,by simp[h2],?_⟩
   ·rcases be.mp hx with rfl | hx
    ·exact g1
    ·exact h1 x hx
   ·rw[a0,cO,h3]
    simp[iy,g2,g3]
 obtain⟨m,h1,h2,h3⟩:=key (List.range t) (λk hk=>by have:=bX.mp hk;omega)
 rw[ff] at h2
 rw[← lu] at h3
 refine⟨m,h1,λe=>by subst e;simp at h2;omega,by omega,?_⟩
 have hl:(cT 0 (t:Int)).length<=1000000:=by rw[lu];simp;omega
 simp[dz,pK,et,hr,h3,hl,mP]
theorem MJ (xs:List PV)(n:Nat)(h:n<=xs.length):dI xs none (some (n:Int))=xs.take n:=by
 unfold dI HT.AK
 simp
 congr 1
 rw[ay (by omega)];omega
theorem xx (xs:List PV)(n:Nat)(h:n<=xs.length):dI xs (some (n:Int)) none=xs.drop n:=by
 unfold dI HT.AK
 simp
 rw[oy]
 ·congr 1
  rw[ay (by omega)];omega
 ·rw[gs]
  try omega
theorem lQ (xs ys:List PV)(h:xs.length+ys.length<=1000000):gG (.tup xs) (.tup ys)=some (.tup (xs++ys)):=by
 cases xs with
 | nil=>rfl
 | cons x xs=>rw[Ei,bb h]
theorem RJ:A3 ("x" : Str):=⟨by decide +kernel,by decide +kernel,by decide +kernel⟩
theorem M0:A3 (mC ("x" : Str) 2):=⟨by decide +kernel,by decide +kernel,by decide +kernel⟩
theorem KU:A3 (mC ("x" : Str) 3):=⟨by decide +kernel,by decide +kernel,by decide +kernel⟩
theorem RK:("x" : Str).length=1:=by decide +kernel
theorem RL (h1:1<=n)(h3:n<=3):∃x,A3 x/\jV (.str ("x" : Str)) (.int n)=some (.str x):=by
 have hl:=RK
 have:n=1\/n=2\/n=3:=by omega
 rcases this with rfl | rfl | rfl
 ·exact⟨_,RJ,by simp[jV]⟩
 ·have h2:(mC ("x" : Str) 2).length<=1000000:=by have:=M0.le;omega
  exact⟨_,M0,by simp[jV,h2,hl]⟩
 ·have h2:(mC ("x" : Str) 3).length<=1000000:=by have:=KU.le;omega
  exact⟨_,KU,by simp[jV,h2,hl]⟩
theorem LS {f g:MR.Env->Option Out}{env:MR.Env}(h:f env=some (.nx env)):aQ f g env=g env:=cu h
def ev (M:PV)(c:Int)(k:Nat)(ps:qq)(cut:Bool)(n:Int)(more:Str):MR.Env:=[some M,some (.int c),some (.int k),some (.tup (ps.map .str)),some (.bl cut),some (.int n),some (.str more)]
variable {m:qB}
theorem Er (hm:aX m)(AM:m≠[])(hl:m.length<=3)(c:Int):∃m',aX m'/\m'≠[]/\m'.length=m.length/\fK [mP m,.int c]=some (mP m'):=by
 have Qb:0 < m.length:=ga.mpr AM
 have h0:=Int.emod_nonneg c (show (m.length:Int)≠0 by omega)
 have h1:=Int.emod_lt_of_pos c (show 0 < (m.length:Int) by omega)
 obtain⟨k,ek⟩:∃k:Nat,c % (m.length:Int)=k:=⟨(c % (m.length:Int)).toNat,by omega⟩
 have hk:k < m.length:=by omega
 obtain⟨⟨ps,cut⟩,hs⟩:∃s,m[k]?=some s:=⟨m[k],ai hk⟩
 have ok:A5 ps:=hm _ (de hs)
 have Sm:BY (m.map A4) (k:Int)=some (A4 (ps,cut)):=dG (by simp[hs])
 have hlen:(0:Int) < m.length/\(m.length:Int) < 1073741824:=by omega
 generalize hn:c / (m.length:Int)=n
 obtain⟨more,okm,WQ⟩:=uU (n / 5)
 have Vm:=qz more ps
 have Zg:dI (m.map A4) none (some (k:Int))=(m.map A4).take k:=MJ _ _ (by simp;omega)
 have hd2:dI (m.map A4) (some ((k:Int)+1)) none=(m.map A4).drop (k+1):=xx (m.map A4) (k+1) (by simp;omega)
 have c1:=lQ (ps.map .str) [.str more] (by have:=ok.le;simp;omega)
 have hle:=ok.le
 have Vn:0 < ps.length:=ga.mpr ok.ne
 have Vo:=ok.ok ps[0] (k9 Vn)
 have A2:ps[0].length<=1000000:=by have:=Vo.le;omega
 have ZJ:BY (ps.map PV.str) 0=some (.str ps[0]):=dG (k:=0) (by simp[Vn])
 obtain⟨x,okx,hx⟩:=RL Vo.ge Vo.le
 have c2:∀h:1<=ps.length,dI (ps.map PV.str) (some 1) none=(ps.map .str).drop 1:=λh=>xx _ 1 (by simpa using h)
 have ZK:∃qs JO,A5 qs/\iG [some (mP m),some (.int c),none,none,none,none,none]=bQ (b2 gG (b2 gG (jW (bV 0) oN (oS (bV 2))) (cN (au (cN (zk 3 (zk 4 aP))) aP))) (jW (bV 0) (oS (b2 gw (bV 2) (zi 1))) oN)) (ev (mP m) c k qs JO n more):=by
  unfold iG
  have h5:n % 5=0\/n % 5=1\/n % 5=2\/n % 5=3\/n % 5=4:=by omega
  have go:∀{rest:MR.Env->Option Out}{v:Option Out},rest (ev (mP m) c k ps cut n more)=v->aQ (bA 2 (b2 dU (bV 1) (b1 B0 (bV 0)))) (aQ (DP (gT [3,4]) (b2 AZ (bV 0) (bV 2))) (aQ (bA 5 (b2 jF (bV 1) (b1 B0 (bV 0)))) (aQ (bA 6 (bM cj (au (b2 jF (bV 5) (zi 5)) aP))) rest))) [some (mP m),some (.int c),none,none,none,none,none]=v:=by
   intro rest v h
   refine(cu (e:=[some (mP m),some (.int c),some (.int k),none,none,none,none]) (by simp[mP,Qb,ek])).trans ?_
   refine(cu (e:=[some (mP m),some (.int c),some (.int k),some (.tup (ps.map .str)),some (.bl cut),none,none]) (by simp[mP,Sm,A4])).trans ?_
   refine(cu (e:=[some (mP m),some (.int c),some (.int k),some (.tup (ps.map .str)),some (.bl cut),some (.int n),none]) (by simp[mP,hlen,Qb,hn])).trans ?_
   exact(cu (by simp[WQ,ev])).trans h
  rcases h5 with h | h | h | h | h
  ·by_cases hc:more∉ps/\ps.length < 4
   ·have ZL:(ps.length:Int) < 4:=by omega
    refine⟨ps++[more],cut,⟨by simp,by simp;omega,λp hp=>(bo.mp hp).elim (ok.ok p) λhp=>by rw[av] at hp;rw[hp];exact okm⟩,go ?_⟩
    refine(cu (e:=ev (mP m) c k (ps++[more]) cut n more) (by simp[ev,h,Vm,hc.1,ZL,c1])).trans ?_
    iterate 4 refine(LS (by simp[ev,h])).trans ?_
    rfl
   ·refine⟨ps,cut,ok,go ?_⟩
    refine(LS (by
     by_cases h1:more∈ps
     ·simp[ev,h,Vm,h1]
     ·have h2:¬ (ps.length:Int) < 4:=λz=>hc ⟨h1,by omega⟩
      simp[ev,h,Vm,h1,h2])).trans ?_
    iterate 4 refine(LS (by simp[ev,h])).trans ?_
    rfl
  ·by_cases hc:1 < ps.length
   ·have N9:(1:Int) < ps.length:=by omega
    refine⟨ps.drop 1,cut,⟨by intro z;have:=d5 List.length z;simp at this;omega,by simp;omega,λp hp=>ok.ok p (pj hp)⟩,go ?_⟩
    refine(LS (by simp[ev,h])).trans ?_
    refine(cu (e:=ev (mP m) c k (ps.drop 1) cut n more) (by simp[ev,h,N9,c2 Vn])).trans ?_
    iterate 3 refine(LS (by simp[ev,h])).trans ?_
    rfl
   ·have N9:¬ (1:Int) < ps.length:=by omega
    refine⟨ps,cut,ok,go ?_⟩
    iterate 5 refine(LS (by simp[ev,h,N9])).trans ?_
    rfl
  ·refine⟨ps,!cut,ok,go ?_⟩
   iterate 2 refine(LS (by simp[ev,h])).trans ?_
   refine(cu (e:=ev (mP m) c k ps (!cut) n more) (by simp[ev,h])).trans ?_
   iterate 2 refine(LS (by simp[ev,h])).trans ?_
   rfl
  ·refine⟨[x],cut,⟨by simp,by simp,λp hp=>by rw[av] at hp;rw[hp];exact okx⟩,go ?_⟩
   iterate 3 refine(LS (by simp[ev,h])).trans ?_
   refine(cu (e:=ev (mP m) c k [x] cut n more) (by simp[ev,h,ZJ,A2,-jV,hx])).trans ?_
   refine(LS (by simp[ev,h])).trans ?_
   rfl
  ·refine⟨ps.reverse,cut,⟨by simpa using ok.ne,by simpa using ok.le,λp hp=>ok.ok p (by simpa using hp)⟩,go ?_⟩
   iterate 4 refine(LS (by simp[ev,h])).trans ?_
   refine(cu (e:=ev (mP m) c k ps.reverse cut n more) (by simp[ev,h])).trans ?_
   rfl
 obtain⟨qs,JO,okq,e⟩:=ZK
 refine⟨m.take k++(qs,JO)::m.drop (k+1),λs hs=>?_,by simp,by simp;omega,?_⟩
 ·rcases bo.mp hs with hs | hs
  ·exact hm s (List.mem_of_mem_take hs)
  ·rcases be.mp hs with rfl | hs
   ·exact okq
   ·exact hm s (pj hs)
 ·have c3:=lQ ((m.map A4).take k) [A4 (qs,JO)] (by simp;omega)
  have c4:=lQ ((m.map A4).take k++[A4 (qs,JO)]) ((m.map A4).drop (k+1)) (by simp;omega)
  have es:A4 (qs,JO)=.tup [.tup (qs.map .str),.bl JO]:=rfl
  rw[es] at c3 c4
  unfold ev at e
  simp only[mP] at e ⊢
  simp[Zg,hd2,c3,c4] at e
  simp[fK,e,es]
noncomputable def AG (x mark:Str):Bool:=decide (x=mark)||decide (x=("x" : Str))
theorem Hb (x mark:Str):eU [.str x,.str mark]=some (.bl (AG x mark)):=by
 unfold AG
 by_cases h:x=mark
 ·simp[eU,jK,h]
 ·simp[eU,jK,h]
noncomputable def cG (p:Str)(j:Nat):Str:=⟨#[p.cps.toList.getD j 0]⟩
variable {p:Str}
theorem Hc {j:Nat}(h:j < p.length):BY p.cps.toList (j:Int)=some (p.cps.toList.getD j 0):=by
 have h':j < p.cps.toList.length:=by simpa [Str.length] using h
 refine dG ?_
 rw[br,ai h']
 rfl
theorem QB (a b c d e f:Int):HA (.tup [.int a,.int b,.int c]) (.tup [.int d,.int e,.int f])=some (decide (a=d/\b=e/\c=f)):=by
 have h1:∀x y z:Int,SeqAt.shaped (.tuple [.int x,.int y,.int z])=true:=λx y z=>by
  simp[SeqAt.shaped,PyData.canLay0,PyData.canLayAll0,PyData.depth,PyData.depthAll]
 simp[HA,Pf,TU,toD,eZ,h1,PyData.eqv,PyData.eqvAll,Bool.decide_and]
 rfl
noncomputable def EJ (a b c:Nat):PV:=.tup [.int a,.int b,.int c]
noncomputable def SH (s:Slot)(slot k i:Nat)(p:Str)(ends:Bool):PV:=if i+1 < p.length then EJ slot k (i+1) else if (s.2&&!ends)=true then .zD else EJ (slot+1) 0 0
variable {slot:Nat}{s:Slot}
theorem v8 (h:m[slot]?=some s):BY (m.map A4) (slot:Int)=some (A4 s):=dG (by simp[h])
theorem zT {k:Nat}(h:s.1[k]?=some p):BY (s.1.map PV.str) (k:Int)=some (.str p):=dG (by simp[h])
variable {ends:Bool}
theorem Hd {k i:Nat}(hs:m[slot]?=some s)(hp:s.1[k]?=some p)(ok:A3 p):
  dH [mP m,EJ slot k i,.bl ends]=some (SH s slot k i p ends):=by
 have h1:=v8 hs
 have h2:=zT hp
 have h3:p.length<=1000000:=by have:=ok.le;omega
 have h4:((i:Int)+1 < (p.length:Int))↔i+1 < p.length:=by omega
 unfold SH
 by_cases h5:i+1 < p.length
 ·simp[dH,iC,mP,EJ,h1,A4,h2,h3,h4,h5]
 ·have h6:(if i+1 < p.length then EJ slot k (i+1) else if (s.2&&!ends)=true then PV.zD else EJ (slot+1) 0 0)=(if (s.2&&!ends)=true then PV.zD else EJ (slot+1) 0 0):=ay h5
  rw[h6]
  cases hc:s.2 <;> cases ends <;> simp[dH,iC,mP,EJ,h1,A4,h2,h3,h4,h5,hc]
noncomputable def Na (s:Slot)(slot i:Nat)(mark:Str)(ends:Bool)(k:Nat):List PV:=
 if AG (cG (s.1.getD k ⟨#[]⟩) i) mark=true/\sr (SH s slot k i (s.1.getD k ⟨#[]⟩) ends)=false then [.tup [.int k,SH s slot k i (s.1.getD k ⟨#[]⟩) ends]] else []
theorem qZ {k:Nat}(h:s.1[k]?=some p):s.1.getD k ⟨#[]⟩=p:=by rw[br,h];rfl
theorem JH (s:Slot)(slot k i:Nat)(p:Str)(ends:Bool):(SH s slot k i p ends=.zD/\¬ i+1 < p.length/\s.2=true/\ends=false)\/(∃a b c:Nat,SH s slot k i p ends=EJ a b c/\((i+1 < p.length/\a=slot/\b=k/\c=i+1)\/(¬ i+1 < p.length/\(s.2=false\/ends=true)/\a=slot+1/\b=0/\c=0))):=by
 unfold SH
 by_cases h:i+1 < p.length
 ·exact .inr ⟨_,_,_,bb h,.inl ⟨h,rfl,rfl,rfl⟩⟩
 ·rw[ay h]
  by_cases h':(s.2&&!ends)=true
  ·rw[bb h']
   simp at h'
   exact .inl ⟨rfl,h,h'.1,h'.2⟩
  ·rw[ay h']
   refine .inr ⟨_,_,_,rfl,.inr ⟨h,?_,rfl,rfl,rfl⟩⟩
   cases hs:s.2 <;> cases ends <;> simp_all
variable {mark:Str}
theorem MK {k i:Nat}{S N:PV}{L:List PV}(hs:m[slot]?=some s)(hp:s.1[k]?=some p)(ok:A3 p)(hi:i < p.length)(hL:L.length < 1000):
  turn (gN 9) [9,10] cU (.int k) [some (mP m),some S,some (.str mark),some (.bl ends),some (.int slot),some (.int i),some (.tup (s.1.map .str)),some N,some (.lst L),none,none]=
   some [some (mP m),some S,some (.str mark),some (.bl ends),some (.int slot),some (.int i),some (.tup (s.1.map .str)),some N,some (.lst (L++Na s slot i mark ends k)),none,none]:=by
 have h1:=Hd (i:=i) (ends:=ends) hs hp ok
 have h2:=zT hp
 have h3:p.length<=1000000:=by have:=ok.le;omega
 have h4:=Hc hi
 have h5:=Hb (cG p i) mark
 have hl:L.length < 1000000:=by omega
 unfold cG at h5
 unfold Na
 rw[qZ hp]
 rcases JH s slot k i p ends with ⟨e,_⟩ | ⟨a,b,c,e,_⟩
 ·rw[e] at h1
  simp only[EJ] at h1
  simp[cZ,cU,h1,e]
 ·rw[e] at h1 ⊢
  simp only[EJ] at h1
  unfold cG
  cases hq:AG ⟨#[p.cps.toList.getD i 0]⟩ mark with
  | true=>
   rw[hq] at h5
   simp[cZ,cU,h1,h2,h3,h4,h5,hl,EJ,-List.getD_eq_getElem?_getD]
  | false=>
   rw[hq] at h5
   simp[cZ,cU,h1,h2,h3,h4,h5,hl,EJ,-List.getD_eq_getElem?_getD]
theorem MN (s:Slot)(slot i:Nat)(mark:Str)(ends:Bool)(k:Nat):(Na s slot i mark ends k).length<=1:=by unfold Na;split <;> simp
theorem Ci {i:Nat}{S N:PV}(hs:m[slot]?=some s)(ok:A5 s.1)(ks:qf)(hk:∀k∈ks,∃p,s.1[k]?=some p/\i < p.length)(hl:ks.length < 1000):
  d8 (gN 9) [9,10] cU (ks.map λk=>PV.int (k:Nat)) [some (mP m),some S,some (.str mark),some (.bl ends),some (.int slot),some (.int i),some (.tup (s.1.map .str)),some N,some (.lst []),none,none]=
   some (.nx [some (mP m),some S,some (.str mark),some (.bl ends),some (.int slot),some (.int i),some (.tup (s.1.map .str)),some N,some (.lst (ks.flatMap (Na s slot i mark ends))),none,none]):=by
 obtain⟨L,⟨d,e1,e2,_⟩,h⟩:=fQ (g:=gN 9) (ds:=[9,10]) (body:=cU) (λk:Nat=>PV.int (k:Nat))
  (λL:List PV=>[some (mP m),some S,some (.str mark),some (.bl ends),some (.int slot),some (.int i),some (.tup (s.1.map .str)),some N,some (.lst L),none,none])
  (λr L=>∃d,ks=d++r/\L=d.flatMap (Na s slot i mark ends)/\L.length<=d.length)
  (by
   rintro k r L ⟨d,e1,e2,e3⟩
   obtain⟨p,hp,hi⟩:=hk k (by rw[e1];simp)
   have hd:d.length < 1000:=by have:=d5 List.length e1;simp at this;omega
   have hm:p∈s.1:=de hp
   refine⟨L++Na s slot i mark ends k,⟨d++[k],by rw[e1];simp,by rw[e2];simp,?_⟩,MK hs hp (ok.ok p hm) hi (by omega)⟩
   have:=MN s slot i mark ends k
   simp;omega)
  ks [] ⟨[],rfl,rfl,aw _⟩
 rw[bS] at e1
 subst e1 e2
 exact h
structure Nc (m:qB)(slot pat i:Nat):Prop where
 le:slot<=m.length
 fin:slot=m.length->pat=0/\i=0
 mid:∀s,m[slot]?=some s->(i=0/\pat=0)\/∃p,s.1[pat]?=some p/\0 < i/\i < p.length
noncomputable def X6 (m:qB)(slot pat i:Nat)(mark:Str)(ends:Bool):List PV:=match m[slot]? with
 | none=>[]
 | some s=>if i=0 then (List.range s.1.length).flatMap (Na s slot i mark ends) else Na s slot i mark ends pat
theorem JK (hm:aX m)(hl:m.length < 1000){pat i:Nat}(st:Nc m slot pat i)(mark:Str)(ends:Bool):
  dJ [mP m,EJ slot pat i,.str mark,.bl ends]=some (.lst (X6 m slot pat i mark ends)):=by
 have he:bG [mP m]=some (.tup [.int m.length,.int 0,.int 0]):=by simp[bG,lg,mP]
 have hq:=QB slot pat i m.length 0 0
 unfold X6
 by_cases hf:slot=m.length
 ·obtain⟨rfl,rfl⟩:=st.fin hf
  subst hf
  have:m[m.length]?=none:=by simp
  rw[this]
  simp at hq
  simp[dJ,ju,he,EJ,hq]
 ·have A0:slot < m.length:=by have:=st.le;omega
  obtain⟨s,hs⟩:∃s,m[slot]?=some s:=⟨m[slot],ai A0⟩
  rw[hs]
  have AM:¬ ((slot:Int)=m.length/\(pat:Int)=0/\(i:Int)=0):=λz=>hf (by omega)
  rw[dv AM] at hq
  have ok:=hm s (de hs)
  have h1:=v8 hs
  by_cases hi:i=0
  ·subst hi
   have lp:=Ci (S:=EJ slot pat 0) (N:=.lst ((List.range s.1.length).map λk=>PV.int (k:Nat))) (mark:=mark) (ends:=ends) (i:=0) hs ok (List.range s.1.length) (λk hk=>by
    have F0:=bX.mp hk
    have:=(ok.ok _ (k9 F0)).ge
    exact⟨s.1[k],ai F0,by omega⟩) (by have:=ok.le;simp;omega)
   have hr:=lu s.1.length
   have hb:0<=(s.1.length:Int)/\(s.1.length:Int)<=1000000:=by have:=ok.le;omega
   simp only[fR]
   have e1:mP m=.tup (m.map A4):=rfl
   have e2:EJ slot pat 0=.tup [.int slot,.int pat,.int 0]:=rfl
   rw[e1,e2] at lp ⊢
   rw[e1] at he
   simp at hq lp
   simp[dJ,ju,he,hq,h1,A4,hr,hb,MR.Po,lp]
  ·rcases st.mid s hs with z | ⟨p,hp,RY,IT⟩
   ·exact absurd z.1 hi
   ·have lp:=Ci (S:=EJ slot pat i) (N:=.lst [.int pat]) (mark:=mark) (ends:=ends) (i:=i) hs ok [pat] (λk hk=>by
     rw[av] at hk
     subst hk
     exact⟨p,hp,IT⟩) (by simp)
    simp only[ay hi]
    have e1:mP m=.tup (m.map A4):=rfl
    have e2:EJ slot pat i=.tup [.int slot,.int pat,.int i]:=rfl
    rw[e1,e2] at lp ⊢
    rw[e1] at he
    have LO:¬ (i:Int)=0:=by omega
    simp at lp
    simp[dJ,ju,he,hq,h1,A4,MR.Po,lp,hi,LO]
abbrev DS:=Nat×Nat×Nat
noncomputable def WU (s:Slot)(slot k i:Nat)(p:Str)(ends:Bool):Option DS:=if i+1 < p.length then some (slot,k,i+1) else if (s.2&&!ends)=true then none else some (slot+1,0,0)
noncomputable def Nd (s:Slot)(slot i:Nat)(mark:Str)(ends:Bool)(k:Nat):List (Nat×DS):=
 if AG (cG (s.1.getD k ⟨#[]⟩) i) mark=true then (WU s slot k i (s.1.getD k ⟨#[]⟩) ends).toList.map λt=>(k,t) else []
noncomputable def jf (m:qB)(t:DS)(mark:Str)(ends:Bool):List (Nat×DS):=match m[t.1]? with
 | none=>[]
 | some s=>if t.2.2=0 then (List.range s.1.length).flatMap (Nd s t.1 0 mark ends) else Nd s t.1 t.2.2 mark ends t.2.1
noncomputable def DT (j k:Nat)(p:Str):List DS:=(List.range (p.length - 1)).map λi=>(j,k,1+i)
noncomputable def mD (j:Nat)(s:Slot):List DS:=(j,0,0)::s.1.zipIdx.flatMap λy=>DT j y.2 y.1
noncomputable def GN (m:qB):List DS:=m.zipIdx.flatMap λy=>mD y.2 y.1
theorem IF {j k:Nat}{t:DS}:t∈DT j k p↔∃i,1<=i/\i < p.length/\t=(j,k,i):=by
 unfold DT
 rw[b9]
 constructor
 ·rintro ⟨i,hi,rfl⟩
  rw[bX] at hi
  exact⟨1+i,by omega,by omega,rfl⟩
 ·rintro ⟨i,h1,h2,rfl⟩
  exact⟨i - 1,by rw[bX];omega,by rw[show 1+(i - 1)=i by omega]⟩
theorem IG {j:Nat}{t:DS}:t∈mD j s↔t=(j,0,0)\/∃k p i,s.1[k]?=some p/\1<=i/\i < p.length/\t=(j,k,i):=by
 unfold mD
 rw[be,eP]
 refine or_congr Iff.rfl ⟨?_,?_⟩
 ·rintro ⟨⟨p,k⟩,hy,ht⟩
  obtain⟨i,h1,h2,rfl⟩:=IF.mp ht
  exact⟨k,p,i,by simpa using gI.mp hy,h1,h2,rfl⟩
 ·rintro ⟨k,p,i,hk,h1,h2,rfl⟩
  exact⟨(p,k),gI.mpr hk,IF.mpr ⟨i,h1,h2,rfl⟩⟩
theorem C3 {t:DS}:t∈GN m↔∃s,m[t.1]?=some s/\(t.2=(0,0)\/∃p,s.1[t.2.1]?=some p/\1<=t.2.2/\t.2.2 < p.length):=by
 unfold GN
 rw[eP]
 constructor
 ·rintro ⟨⟨s,j⟩,hy,ht⟩
  have hj:m[j]?=some s:=by simpa using gI.mp hy
  rcases IG.mp ht with rfl | ⟨k,p,i,hk,h1,h2,rfl⟩
  ·exact⟨s,hj,.inl rfl⟩
  ·exact⟨s,hj,.inr ⟨p,hk,h1,h2⟩⟩
 ·rintro ⟨s,hs,h⟩
  obtain⟨j,k,i⟩:=t
  refine⟨(s,j),gI.mpr hs,IG.mpr ?_⟩
  rcases h with h | ⟨p,h1,h2,h3⟩
  ·cases h;exact .inl rfl
  ·exact .inr ⟨k,p,i,h1,h2,h3,rfl⟩
noncomputable def cB (t:DS):PV:=EJ t.1 t.2.1 t.2.2
noncomputable def UW (y:Nat×DS):PV:=.tup [.int (y.1:Nat),cB y.2]
theorem Ks (s:Slot)(slot i:Nat)(mark:Str)(ends:Bool)(k:Nat):Na s slot i mark ends k=(Nd s slot i mark ends k).map UW:=by
 unfold Na Nd SH WU
 generalize s.1.getD k ⟨#[]⟩=p
 cases h1:AG (cG p i) mark <;> by_cases h2:i+1 < p.length <;> cases h3:(s.2&&!ends) <;> simp[h2,UW,cB,EJ]
theorem RM (m:qB)(t:DS)(mark:Str)(ends:Bool):X6 m t.1 t.2.1 t.2.2 mark ends=(jf m t mark ends).map UW:=by
 unfold X6 jf
 split
 ·rename_i h;(try simp only[h]);rfl
 ·rename_i s h
  try simp only[h]
  split
  ·rename_i h0
   rw[h0,List.map_flatMap]
   congr 1
   funext k
   exact Ks s t.1 0 mark ends k
  ·exact Ks s t.1 t.2.2 mark ends t.2.1
theorem tD (j k:Nat)(p:Str):(DT j k p).length=p.length - 1:=by simp[DT]
theorem JL {M:PV}{j:Nat}{y:Str×Nat}{L:List DS}(ok:A3 y.1)(hL:L.length < 9000):
  turn (gT [4,5]) [4,5] dX (.tup [.int (y.2:Nat),.str y.1]) [some M,some (.lst (L.map cB)),some (.int j),some (A4 s),none,none]=some [some M,some (.lst ((L++DT j y.2 y.1).map cB)),some (.int j),some (A4 s),none,none]:=by
 obtain⟨p,k⟩:=y
 have ok:A3 p:=ok
 have h1:HE ((p.length:Nat):Int)=true:=nj (by omega) (by have:=ok.le;omega)
 have h0:HE 1=true:=nj (by omega) (by omega)
 have h2:cO [none,some (.int j),some (.int k)] (gN 0) fH jb (cT 1 (p.length:Int))=some ((DT j k p).map cB):=by
  have e:cT 1 (p.length:Int)=(List.range (p.length - 1)).map λi=>PV.int (1+(i:Nat)):=by
   unfold cT
   have:((p.length:Int) - 1).toNat=p.length - 1:=by omega
   rw[this]
  rw[e]
  unfold DT
  rw[ix]
  exact jB _ _ _ λi _=>⟨[some (.int (1+(i:Nat))),some (.int j),some (.int k)],rfl,by simp[jb,cB,EJ]⟩
 have h3:p.length<=1000000:=by have:=ok.le;omega
 have h4:(cT 1 (p.length:Int)).length<=1000000:=by
  unfold cT
  rw[aI,ff]
  have:=ok.le;omega
 have h5:L.length+(DT j k p).length<=1000000:=by rw[tD];have:=ok.le;omega
 simp[cZ,dX,h0,h1,h2,h3,h4,h5,A4,iY]
theorem MP {M:PV}{j:Nat}(ok:A5 s.1){L:List DS}(hL:L.length < 8000):
  d8 (gT [4,5]) [4,5] dX (fG 0 (s.1.map .str)) [some M,some (.lst (L.map cB)),some (.int j),some (A4 s),none,none]=some (.nx [some M,some (.lst ((L++s.1.zipIdx.flatMap λy=>DT j y.2 y.1).map cB)),some (.int j),some (A4 s),none,none]):=by
 have en:fG 0 (s.1.map .str)=s.1.zipIdx.map λy:Str×Nat=>PV.tup [.int (y.2:Nat),.str y.1]:=qm _ _ _
 rw[en]
 obtain⟨L',⟨d,e1,e2,e3⟩,h⟩:=fQ (g:=gT [4,5]) (ds:=[4,5]) (body:=dX) (λy:Str×Nat=>PV.tup [.int (y.2:Nat),.str y.1]) (λL:List DS=>[some M,some (.lst (L.map cB)),some (.int j),some (A4 s),none,none])
  (λr L'=>∃d,s.1.zipIdx=d++r/\L'=(L++d.flatMap λy=>DT j y.2 y.1)/\L'.length<=L.length+4*d.length)
  (by
   rintro y r L' ⟨d,e1,e2,e3⟩
   have hm:y∈s.1.zipIdx:=by rw[e1];simp
   have Vo:A3 y.1:=ok.ok _ (ke hm)
   have hd:d.length+r.length+1=s.1.length:=by have:=d5 List.length e1;simp at this;omega
   have h4:=ok.le
   refine⟨L'++DT j y.2 y.1,⟨d++[y],by rw[e1];simp,by rw[e2];simp,?_⟩,JL Vo (by omega)⟩
   have:=tD j y.2 y.1
   have:=Vo.le
   simp;omega)
  s.1.zipIdx L ⟨[],rfl,by simp,by simp⟩
 rw[bS] at e1
 rw[h,e2,← e1]
theorem JM (j:Nat)(ok:A5 s.1):(mD j s).length<=17:=by
 unfold mD
 have:∀(l:List (Str×Nat)),(∀y∈l,A3 y.1)->(l.flatMap λy=>DT j y.2 y.1).length<=4*l.length:=λl=>by
  induction l with
  | nil=>simp
  | cons y l ih=>
   intro h
   have h1:=ih λz hz=>h z (am _ hz)
   have h2:=(h y ar).le
   have h3:=tD j y.2 y.1
   rw[jS,bq,bv]
   omega
 have h1:=this s.1.zipIdx λy hy=>ok.ok _ (ke hy)
 have h2:=ok.le
 rw[List.length_zipIdx] at h1
 rw[bv]
 omega
theorem xF (hm:aX m)(hl:m.length < 100):iB [mP m]=some (.lst ((GN m).map cB))/\(GN m).length<=17*m.length:=by
 have en:fG 0 (m.map A4)=m.zipIdx.map λy:Slot×Nat=>PV.tup [.int (y.2:Nat),A4 y.1]:=qm _ _ _
 obtain⟨L',⟨d,e1,e2,e3⟩,h⟩:=fQ (g:=gT [2,3]) (ds:=[2,3,4,5]) (body:=jc) (λy:Slot×Nat=>PV.tup [.int (y.2:Nat),A4 y.1]) (λL:List DS=>[some (mP m),some (.lst (L.map cB)),none,none,none,none])
  (λr L'=>∃d,m.zipIdx=d++r/\L'=(d.flatMap λy=>mD y.2 y.1)/\L'.length<=17*d.length)
  (by
   rintro y r L' ⟨d,e1,e2,e3⟩
   have hmm:y∈m.zipIdx:=by rw[e1];simp
   have ok:A5 y.1.1:=hm _ (ke hmm)
   have hd:d.length+r.length+1=m.length:=by have:=d5 List.length e1;simp at this;omega
   have h4:=JM y.2 ok
   refine⟨L'++mD y.2 y.1,⟨d++[y],by rw[e1];simp,by rw[e2];simp,by simp;omega⟩,?_⟩
   have h5:=MP (M:=mP m) (j:=y.2) ok (L:=L'++[(y.2,0,0)]) (by simp;omega)
   have e5:(L'++[(y.2,0,0)]).map cB=L'.map cB++[.tup [.int (y.2:Nat),.int 0,.int 0]]:=by simp[cB,EJ]
   rw[e5] at h5
   have e6:L'++[(y.2,0,0)]++(y.1.1.zipIdx.flatMap λz=>DT y.2 z.2 z.1)=L'++mD y.2 y.1:=by simp[mD]
   rw[e6] at h5
   have OP:L'.length < 1000000:=by omega
   obtain⟨⟨ps,c⟩,j⟩:=y
   dsimp only at h5 ⊢
   simp only[A4] at h5
   generalize (L'++mD j (ps,c)).map cB=R at *
   simp[cZ,jc,A4,OP,h5])
  m.zipIdx [] ⟨[],rfl,rfl,by simp⟩
 rw[bS] at e1
 have e7:L'=GN m:=by rw[e2,← e1];rfl
 subst e7
 refine⟨?_,by rw[← e1] at e3;simpa using e3⟩
 simp only[iX] at h
 simp[iB,qx,mP] at h ⊢
 simp[en,h]
theorem JN (m:qB)(hm:aX m)(t:DS)(mark:Str)(e:Bool):(jf m t mark e).length<=4:=by
 have h1:∀(s:Slot) (slot i k:Nat),(Nd s slot i mark e k).length<=1:=λs slot i k=>by
  unfold Nd
  split
  ·cases WU s slot k i (s.1.getD k ⟨#[]⟩) e <;> simp
  ·simp
 unfold jf
 split
 ·simp
 ·rename_i s h
  have ok:=hm s (de h)
  split
  ·have:∀l:List Nat,(l.flatMap (Nd s t.1 0 mark e)).length<=l.length:=λl=>by
    induction l with
    | nil=>simp
    | cons k l ih=>have:=h1 s t.1 0 k;rw[jS,bq,bv];omega
   have h2:=this (List.range s.1.length)
   have h3:=ok.le
   rw[ff] at h2
   omega
  ·have:=h1 s t.1 t.2.2 t.2.1;omega
theorem zU {t:DS}(h:t∈GN m):Nc m t.1 t.2.1 t.2.2:=by
 obtain⟨s,hs,h⟩:=C3.mp h
 have A0:=(af.mp hs).1
 refine⟨by omega,λz=>by omega,λs' C6=>?_⟩
 rw[hs] at C6
 cases C6
 rcases h with h | ⟨p,h1,h2,h3⟩
 ·rw[h];exact .inl ⟨rfl,rfl⟩
 ·exact .inr ⟨p,h1,by omega,h3⟩
abbrev Row:=List Nat
noncomputable def kids (x:Row):List Row:=(List.range 4).map λk=>x++[k]
theorem Fh {x y:Row}:y∈kids x↔∃k,k < 4/\y=x++[k]:=by
 unfold kids
 rw[b9]
 constructor
 ·rintro ⟨k,h,rfl⟩;exact⟨k,bX.mp h,rfl⟩
 ·rintro ⟨k,h,rfl⟩;exact⟨k,bX.mpr h,rfl⟩
def C4 (x:Row):Prop:=∀k∈x,k < 4
variable {L:List Row}
section
variable (same:Row->Row->Bool)(over sought:Row->Bool)
noncomputable def dead (R:List Row)(x:Row):Bool:=over x||R.any λq=>same q x
noncomputable def bf (R L:List Row):List Row->(List Row×List Row) ⊕ (List Row×Row)
 | []=>.inl (R,L)
 | x::X=>if dead same over R x=true then bf R L X else if sought x=true then .inr (R,x) else bf (R++[x]) (L++[x]) X
noncomputable def Vp:Nat->List Row->List Row->Option (Option Row)
 | 0,_,_=>none
 | _+1,_,[]=>some none
 | f+1,R,n::ns=>match bf same over sought R [] ((n::ns).flatMap kids) with
  | .inl o=>Vp f o.1 o.2
  | .inr o=>some (some o.2)
structure BH:Prop where
 rf:∀x,same x x=true
 sy:∀x y,same x y=true->same y x=true
 tr:∀x y z,same x y=true->same y z=true->same x z=true
 kd:∀x y k,k < 4->same x y=true->same (x++[k]) (y++[k])=true
 ov:∀x y,same x y=true->over x=over y
 so:∀x y,same x y=true->sought x=sought y
 oo:∀x k,k < 4->over x=true->over (x++[k])=true
 o0:over []=false
 s0:sought []=false
 z9:∀x,9 < x.length->over x=true
structure LI (d:Nat)(R L:List Row):Prop where
 hL:∀x∈L,x.length=d/\x∈R
 hR:∀x∈R,C4 x/\x.length<=d/\over x=false/\sought x=false/\(x.length=d->x∈L)
 cv:∀y,C4 y->over y=false->y.length<=d->∃q∈R,same q y=true
structure MI (R0 P R L:List Row):Prop where
 e:R=R0++L
 sb:∀x∈L,x∈P
 ns:∀x∈L,over x=false/\sought x=false
 cv:∀x∈P,over x=false->∃q∈R,same q x=true
variable {same over sought}
theorem Cj {R0:List Row}(H:BH same over sought):∀(Q P R L:List Row),MI same over sought R0 P R L->
  match bf same over sought R L Q with
  | .inl o=>MI same over sought R0 (P++Q) o.1 o.2
  | .inr o=>o.2∈Q/\over o.2=false/\sought o.2=true
 | [],P,R,L,I=>by simpa [bf] using I
 | x::Q,P,R,L,I=>by
  have e1:P++x::Q=(P++[x])++Q:=by simp
  have more:∀R' L',MI same over sought R0 (P++[x]) R' L'->match bf same over sought R' L' Q with
   | .inl o=>MI same over sought R0 (P++x::Q) o.1 o.2
   | .inr o=>o.2∈x::Q/\over o.2=false/\sought o.2=true:=by
   intro R' L' I'
   have:=Cj H Q (P++[x]) R' L' I'
   rw[e1]
   split at this
   ·exact this
   ·exact⟨am _ this.1,this.2⟩
  by_cases hd:dead same over R x=true
  ·have eb:bf same over sought R L (x::Q)=bf same over sought R L Q:=by simp only[bf,bb hd]
   rw[eb]
   refine more R L ⟨I.e,λy hy=>bn _ (I.sb y hy),I.ns,λy hy ho=>?_⟩
   rcases bo.mp hy with hy | hy
   ·exact I.cv y hy ho
   ·rw[av] at hy
    subst hy
    unfold dead at hd
    rw[ho,Bool.false_or,iP] at hd
    exact hd
  ·have ho:over x=false:=by
    cases h:over x with
    | false=>rfl
    | true=>exact(hd (by simp[dead,h])).elim
   by_cases hs:sought x=true
   ·have eb:bf same over sought R L (x::Q)=.inr (R,x):=by simp only[bf,ay hd,bb hs]
    rw[eb]
    exact⟨ar,ho,hs⟩
   ·have eb:bf same over sought R L (x::Q)=bf same over sought (R++[x]) (L++[x]) Q:=by simp only[bf,ay hd,ay hs]
    rw[eb]
    refine more _ _ ⟨by rw[I.e];simp,λy hy=>?_,λy hy=>?_,λy hy hoy=>?_⟩
    ·rcases bo.mp hy with hy | hy
     ·exact bn _ (I.sb y hy)
     ·exact bp _ hy
    ·rcases bo.mp hy with hy | hy
     ·exact I.ns y hy
     ·rw[av] at hy
      subst hy
      exact⟨ho,by simpa using hs⟩
    ·rcases bo.mp hy with hy | hy
     ·obtain⟨q,hq,h1⟩:=I.cv y hy hoy
      exact⟨q,bn _ hq,h1⟩
     ·rw[av] at hy
      subst hy
      exact⟨y,by simp,H.rf y⟩
theorem C5 {x:Row}{k:Nat}:C4 (x++[k])↔C4 x/\k < 4:=by
 unfold C4
 constructor
 ·intro h;exact⟨λj hj=>h j (by simp[hj]),h k (by simp)⟩
 ·rintro ⟨h1,h2⟩ j hj
  rcases bo.mp hj with h | h
  ·exact h1 j h
  ·rw[av] at h;omega
theorem v9 {x:Row}{d:Nat}(h:x.length=d+1):∃y k,x=y++[k]/\y.length=d:=by
 have AM:x≠[]:=by intro e;subst e;simp at h
 exact⟨x.dropLast,x.getLast AM,(ja AM).symm,by rw[List.length_dropLast];omega⟩
theorem MT {q:Row}{t:Nat}(h:q∈L)(ht:t < 4):q++[t]∈L.flatMap kids:=eP.mpr ⟨q,h,Fh.mpr ⟨t,ht,rfl⟩⟩
theorem M6 {d:Nat}(h:∀x∈L,x.length=d):∀x∈L.flatMap kids,x.length=d+1:=by
 intro x hx
 obtain⟨y,hy,hx⟩:=eP.mp hx
 obtain⟨k,_,rfl⟩:=Fh.mp hx
 simp[h y hy]
theorem Hf (h:∀x∈L,C4 x):∀x∈L.flatMap kids,C4 x:=by
 intro x hx
 obtain⟨y,hy,hx⟩:=eP.mp hx
 obtain⟨k,hk,rfl⟩:=Fh.mp hx
 exact C5.mpr ⟨h y hy,hk⟩
def Found (over sought:Row->Bool)(x:Row):Prop:=C4 x/\over x=false/\sought x=true
theorem zV (H:BH same over sought){d:Nat}{R:List Row}(I:LI same over sought d R L){q y:Row}{t:Nat}(hq:q∈R)(hs:same q y=true)(ht:t < 4)(ho:over (y++[t])=false):(∃p∈R,same p (y++[t])=true)\/(q∈L/\same (q++[t]) (y++[t])=true):=by
 have hk:=H.kd q y t ht hs
 have hr:=I.hR q hq
 rcases gx q.length d with h | h
 ·obtain⟨p,hp,C6⟩:=I.cv (q++[t]) (C5.mpr ⟨hr.1,ht⟩) (by rw[H.ov _ _ hk];exact ho) (by simp;omega)
  exact .inl ⟨p,hp,H.tr _ _ _ C6 hk⟩
 ·exact .inr ⟨hr.2.2.2.2 (by omega),hk⟩
theorem back (H:BH same over sought){y:Row}{t:Nat}(ht:t < 4)(ho:over (y++[t])=false):over y=false:=by
 cases e:over y with
 | false=>rfl
 | true=>rw[H.oo y t ht e] at ho;cases ho
theorem LI.next (H:BH same over sought){d:Nat}{R R' L':List Row}(I:LI same over sought d R L)(M:MI same over sought R (L.flatMap kids) R' L'):LI same over sought (d+1) R' L':=by
 have hlen:=M6 λx hx=>(I.hL x hx).1
 have ZL:=Hf λx hx=>(I.hR x (I.hL x hx).2).1
 refine⟨λx hx=>⟨hlen x (M.sb x hx),by rw[M.e];exact bp _ hx⟩,λx hx=>?_,λy h4 ho hl=>?_⟩
 ·rw[M.e] at hx
  rcases bo.mp hx with hx | hx
  ·obtain⟨a,b,c,d',e⟩:=I.hR x hx
   exact⟨a,by omega,c,d',λz=>by omega⟩
  ·have:=M.ns x hx
   exact⟨ZL x (M.sb x hx),by rw[hlen x (M.sb x hx)];omega,this.1,this.2,λ_=>hx⟩
 ·have up:∀{q},q∈R->q∈R':=λh=>by rw[M.e];exact bn _ h
  by_cases hd:y.length<=d
  ·obtain⟨q,hq,h⟩:=I.cv y h4 ho hd
   exact⟨q,up hq,h⟩
  ·obtain⟨z,t,rfl,hz⟩:=v9 (x:=y) (d:=d) (by omega)
   have c:=C5.mp h4
   obtain⟨q,hq,hs⟩:=I.cv z c.1 (back H c.2 ho) (by omega)
   rcases zV H I hq hs c.2 ho with ⟨p,hp,h⟩ | ⟨hq,hk⟩
   ·exact⟨p,up hp,h⟩
   ·obtain⟨p,hp,RY⟩:=M.cv _ (MT hq c.2) (by rw[H.ov _ _ hk];exact ho)
    exact⟨p,hp,H.tr _ _ _ RY hk⟩
theorem zW (H:BH same over sought):∀(f d:Nat) (R L:List Row),LI same over sought d R L->d<=10->12<=d+f->
  (Vp same over sought f R L=some none/\∀y,C4 y->over y=false->sought y=false)\/∃x,Vp same over sought f R L=some (some x)/\Found over sought x
 | 0,d,R,L,_,_,h=>by omega
 | f+1,d,R,[],I,h10,hf=>by
  refine .inl ⟨rfl,?_⟩
  have key:∀(n:Nat) (y:Row),y.length=n->C4 y->over y=false->∃q∈R,same q y=true:=by
   intro n
   induction n with
   | zero=>intro y hl h4 ho;exact I.cv y h4 ho (by omega)
   | succ n ih=>
    intro y hl h4 ho
    obtain⟨z,t,rfl,hz⟩:=v9 hl
    have c:=C5.mp h4
    obtain⟨q,hq,hs⟩:=ih z hz c.1 (back H c.2 ho)
    rcases zV H I hq hs c.2 ho with h | ⟨hq,_⟩
    ·exact h
    ·cases hq
  intro y h4 ho
  obtain⟨q,hq,hs⟩:=key y.length y rfl h4 ho
  rw[← H.so _ _ hs]
  exact(I.hR q hq).2.2.2.1
 | f+1,d,R,n::ns,I,h10,hf=>by
  have sp:=Cj H (R0:=R) ((n::ns).flatMap kids) [] R [] ⟨by simp,(λx hx=>by cases hx),(λx hx=>by cases hx),(λx hx=>by cases hx)⟩
  rw[l0] at sp
  have hd9:d<=9:=by
   have h1:=I.hL n ar
   have h2:=(I.hR n h1.2).2.2.1
   rcases gx 9 d with h | h
   ·rw[H.z9 n (by omega)] at h2;cases h2
   ·omega
  unfold Vp
  split at sp
  ·rename_i o ho
   exact zW H f (d+1) o.1 o.2 (I.next H sp) (by omega) (by omega)
  ·rename_i o ho
   exact .inr ⟨o.2,rfl,Hf (λx hx=>(I.hR x (I.hL x hx).2).1) _ sp.1,sp.2⟩
theorem LI.start (H:BH same over sought):LI same over sought 0 [[]] [[]]:=by
 refine⟨λx hx=>?_,λx hx=>?_,λy _ _ hl=>⟨[],by simp,?_⟩⟩
 ·rw[av] at hx;subst hx;simp
 ·rw[av] at hx;subst hx;exact⟨(λk hk=>by cases hk),by simp,H.o0,H.s0,λ_=>by simp⟩
 ·have:y=[]:=fE.mp (by omega)
  subst this
  exact H.rf []
end
abbrev Pl:=List ((Int×Str)×Int)
noncomputable def EK (p:Pl):PV:=.tup (p.map Jn)
noncomputable def X7 (x:(Int×Str)×Int):zo:=.tp [.tp [.k (.inl x.1.1),.k (.inr x.1.2)],.k (.inl x.2)]
noncomputable def JU (p:Pl):List zo:=p.map X7
theorem zX (f:PV->Option zo)(hf:∀x,f (Jn x)=some (X7 x)):∀p:Pl,qd f (p.map Jn)=some (JU p)
 | []=>rfl
 | i::n=>by
  show (f (Jn i)).bind _=_
  rw[hf,aE,zX f hf n]
  rfl
theorem tE (p:Pl):AB (p.map Jn)=some (JU p):=by
 unfold AB gK
 split
 ·rename_i e
  match p,e with
  | [],e=>cases e
  | [_],e=>cases e
  | _::_::_,e=>injection e with e1 _;cases e1
 ·exact zX _ (λi=>rfl) p
variable {y:(Int×Str)×Int}
theorem M7 {x:(Int×Str)×Int}(h:X7 x=X7 y):x=y:=by
 have h1:=zo.D7 h
 injection h1 with a b
 have a1:=zo.D7 a
 injection a1 with c d
 injection c with c;injection c with c
 injection d with d _;injection d with d;injection d with d
 injection b with b _;injection b with b;injection b with b
 obtain⟨⟨i,s⟩,n⟩:=x
 obtain⟨⟨j,t⟩,m⟩:=y
 simp only at c d b
 subst c d b
 rfl
theorem v_ {p q:Pl}(h:JU p=JU q):p=q:=by
 unfold JU at h
 induction p generalizing q with
 | nil=>cases q with
  | nil=>rfl
  | cons=>cases h
 | cons x p ih=>cases q with
  | nil=>cases h
  | cons y q=>
   rw[a0,a0] at h
   injection h with h1 h2
   rw[M7 h1,ih h2]
theorem M8 {p q:Pl}(h:EK p=EK q):p=q:=by
 injection h with h
 have e:=d5 AB h
 rw[tE,tE] at e
 exact v_ (bg e)
section
variable {κ:Type}[DecidableEq κ]
theorem oZ {kvs:List (κ×PV)}{k:κ}(h:aK kvs k=none):(kvs.any λkv=>decide (kv.1=k))=false:=by
 unfold aK at h
 rw[gL,eW] at h
 rw[kM]
 exact h
theorem jg {kvs:List (κ×PV)}{k:κ}(h:aK kvs k=none)(v:PV):bB kvs k v=kvs++[(k,v)]:=by
 unfold bB
 rw[oZ h]
 rfl
theorem xG (kvs:List (κ×PV))(k:κ)(v:PV)(k':κ):aK (kvs++[(k,v)]) k'=(aK kvs k').or (if k=k' then some v else none):=by
 unfold aK
 rw[List.find?_append]
 cases h:kvs.find? λx=>decide (x.1=k') with
 | some y=>simp
 | none=>
  by_cases e:k=k'
  ·simp[e]
  ·simp[e]
end
theorem nR {ps qs:List Pl}{p:Pl}(h:p∈ps):(ps++qs).idxOf p=ps.idxOf p:=by
 rw[List.idxOf_append,bb h]
theorem q8 {ps:List Pl}{p:Pl}(h:p∈ps):ps[ps.idxOf p]?=some p:=by
 have hl:=List.idxOf_lt_length_iff.mpr h
 rw[ai hl,List.getElem_idxOf]
structure Wd (pb:List PV->Option PV)(cn:Nat)(S:List PV)(Bn:List (List zo×PV))(most:Int)(pl:Row->Pl):Prop where
 st:∀(w:WS) (n:Nat) (r:Row) (k:Nat) (s:PV),w.Bn=Bn->w.most=most->w.Cn[n]?=some (EK (pl r))->S[k]?=some s->pb [w.pv cn,.int n,s]=some (EK (pl (r++[k])))
 z9:∀r,9 < r.length->pl r=[]
 S4:S.length=4
variable {Bn:List (List zo×PV)}{most:Int}
theorem Wd.kd {pb:List PV->Option PV}{cn:Nat}{S:List PV}{pl:Row->Pl}(D:Wd pb cn S Bn most pl){x y:Row}{k:Nat}(hk:k < 4)(h:pl x=pl y):pl (x++[k])=pl (y++[k]):=by
 obtain⟨s,hs⟩:∃s,S[k]?=some s:=⟨_,ai (by rw[D.S4];exact hk)⟩
 have a:=D.st { Bn:=Bn,most:=most,fin:=.zD,Cn:=[EK (pl x)],nums:=[],DZ:=[] } 0 x k _ rfl rfl rfl hs
 have b:=D.st { Bn:=Bn,most:=most,fin:=.zD,Cn:=[EK (pl x)],nums:=[],DZ:=[] } 0 y k _ rfl rfl (by rw[h];rfl) hs
 rw[a] at b
 exact M8 (bg b)
noncomputable def allR:Nat->List Row
 | 0=>[[]]
 | n+1=>[]::(List.range 4).flatMap λk=>(allR n).map λr=>k::r
theorem tG:∀{n:Nat}{r:Row},C4 r->r.length<=n->r∈allR n
 | 0,r,_,h=>by
  have:r=[]:=fE.mp (by omega)
  simp[allR,this]
 | n+1,[],_,_=>by simp[allR]
 | n+1,k::r,h,hl=>by
  unfold allR
  refine am _ (eP.mpr ⟨k,bX.mpr (h k ar),b9.mpr ⟨r,?_,rfl⟩⟩)
  exact tG (λj hj=>h j (am _ hj)) (by simp at hl;omega)
theorem eG:∀n:Nat,(allR (n+1)).length=1+4*(allR n).length:=by
 intro n
 rw[allR,bv]
 show (([0,1,2,3]:qf).flatMap λk=>(allR n).map λr=>k::r).length+1=_
 simp[jS]
 omega
theorem zY:(allR 9).length=349525:=by
 rw[eG,eG,eG,eG,eG,eG,eG,eG,eG]
 rfl
structure WI (Bn:List (List zo×PV))(most:Int)(fin:PV)(pl:Row->Pl)(w:WS)(ps:List Pl):Prop where
 ah:w.Bn=Bn
 mo:w.most=most
 fi:w.fin=fin
 pe:w.Cn=ps.map EK
 nd:ps.Nodup
 rr:∀p∈ps,∃r,C4 r/\p=pl r
 nu:∀p,aK w.nums (JU p)=if p∈ps then some (.int (ps.idxOf p:Nat)) else none
 nl:w.nums.length=ps.length
 on:∀(n:Nat) l,aK w.DZ (.inl (n:Int))=some l->∃r,ps[n]?=some (pl r)/\(∀k,k < 4->pl (r++[k])∈ps)/\l=.lst ((List.range 4).map λk=>.int (ps.idxOf (pl (r++[k])):Nat))
 ok:∃ks:List Nat,w.DZ.map (·.1)=ks.map (λk=>.inl (k:Int))/\ks.Nodup/\∀k∈ks,k < ps.length
variable {r:Row}
section
variable {pb:List PV->Option PV}{cn:Nat}{S:List PV}{Bn:List (List zo×PV)}{most:Int}{fin:PV}{pl:Row->Pl}{w:WS}{ps:List Pl}
theorem WI.TB (D:Wd pb cn S Bn most pl)(I:WI Bn most fin pl w ps):ps.length<=349526:=by
 have h:ps ⊆ (allR 9).map pl++[[]]:=by
  intro p hp
  obtain⟨r,h4,rfl⟩:=I.rr p hp
  by_cases hr:r.length<=9
  ·exact bn _ (b9.mpr ⟨r,tG h4 hr,rfl⟩)
  ·rw[D.z9 r (by omega)];simp
 have:=I.nd.length_le_of_subset h
 rw[bq,aI,zY] at this
 exact this
theorem WI.ZM (I:WI Bn most fin pl w ps):w.DZ.length<=ps.length:=by
 obtain⟨ks,h1,h2,h3⟩:=I.ok
 have e:=d5 List.length h1
 rw[aI,aI] at e
 have h:ks ⊆ List.range ps.length:=λk hk=>bX.mpr (h3 k hk)
 have:=h2.length_le_of_subset h
 rw[ff] at this
 omega
theorem WI.nop (D:Wd pb cn S Bn most pl)(I:WI Bn most fin pl w ps)(h4:C4 r):
  ∃w' qs,sU w (EK (pl r))=some ((((ps++qs).idxOf (pl r):Nat):Int),w')/\WI Bn most fin pl w' (ps++qs)/\pl r∈ps++qs/\w'.DZ=w.DZ:=by
 have hk:=tE (pl r)
 have hn:=I.nu (pl r)
 by_cases hm:pl r∈ps
 ·rw[bb hm] at hn
  refine⟨w,[],?_,by rw[bS];exact I,by simpa using hm,rfl⟩
  unfold sU EK
  simp only[hk,aE,hn,bS]
 ·rw[ay hm] at hn
  have hf:=I.TB D
  have hl:w.Cn.length=ps.length:=by rw[I.pe,aI]
  have hi:(ps++[pl r]).idxOf (pl r)=ps.length:=by
   rw[List.idxOf_append,ay hm]
   simp
  refine⟨{ w with nums:=bB w.nums (JU (pl r)) (.int (w.Cn.length:Nat)),Cn:=w.Cn++[EK (pl r)] },[pl r],?_,?_,by simp,rfl⟩
  ·unfold sU EK
   simp only[hk,aE,hn]
   rw[bb ⟨by omega,by rw[I.nl];omega⟩,hi,hl]
  ·refine⟨I.ah,I.mo,I.fi,by show w.Cn++[EK (pl r)]=_;rw[I.pe];simp,?_,?_,?_,?_,?_,?_⟩
   ·rw[im]
    exact⟨I.nd,by simp,λa ha b hb e=>by rw[av] at hb;subst hb e;exact hm ha⟩
   ·intro p hp
    rcases bo.mp hp with hp | hp
    ·exact I.rr p hp
    ·rw[av] at hp;exact⟨r,h4,hp⟩
   ·intro p
    show aK (bB w.nums (JU (pl r)) _) (JU p)=_
    rw[jg hn,xG,I.nu p]
    by_cases hp:p∈ps
    ·rw[bb hp,bb (bn _ hp),nR hp];rfl
    ·rw[ay hp]
     by_cases e:pl r=p
     ·subst e
      rw[bb rfl,bb (by simp),hi,hl];rfl
     ·rw[ay (λz=>e (v_ z)),ay]
      ·rfl
      ·intro z
       rcases bo.mp z with z | z
       ·exact hp z
       ·rw[av] at z;exact e z.symm
   ·show (bB w.nums (JU (pl r)) _).length=_
    rw[jg hn,bq,bq,I.nl];rfl
   ·intro n l h
    obtain⟨r',h1,h2,h3⟩:=I.on n l h
    refine⟨r',?_,λk hk=>bn _ (h2 k hk),?_⟩
    ·rw[eC (af.mp h1).1];exact h1
    ·rw[h3]
     congr 1
     refine dQ λk hk=>?_
     rw[nR (h2 k (bX.mp hk))]
   ·obtain⟨ks,h1,h2,h3⟩:=I.ok
    exact⟨ks,h1,h2,λk hk=>by have:=h3 k hk;simp;omega⟩
theorem WI.GH (D:Wd pb cn S Bn most pl){r:Row}(h4:C4 r){n:Nat}:∀(T:List PV) (k:Nat) (w:WS) (ps:List Pl),T=S.drop k->k+T.length=4->WI Bn most fin pl w ps->ps[n]?=some (pl r)->
  ∃w' qs,GH pb cn (n:Int) T w=some ((List.range' k T.length).map λj=>.int ((ps++qs).idxOf (pl (r++[j])):Nat),w')/\WI Bn most fin pl w' (ps++qs)/\(∀j,k<=j->j < 4->pl (r++[j])∈ps++qs)/\w'.DZ=w.DZ
 | [],k,w,ps,_,hk,I,hn=>⟨w,[],by simp[MR.GH],by simpa using I,λj h1 h2=>by simp at hk;omega,rfl⟩
 | s::T,k,w,ps,hT,hk,I,hn=>by
  have hs:S[k]?=some s:=by
   have:=d5 (λl:List PV=>l[0]?) hT
   simp at this
   exact this.symm
  have hp:w.Cn[n]?=some (EK (pl r)):=by rw[I.pe,cm,hn];rfl
  have ZN:k < 4:=by simp at hk;omega
  have e1:=D.st w n r k s I.ah I.mo hp hs
  obtain⟨w1,qs,e2,I1,m1,o1⟩:=I.nop D (r:=r++[k]) (C5.mpr ⟨h4,ZN⟩)
  have hT':T=S.drop (k+1):=by
   rw[← mB,← hT];rfl
  obtain⟨w2,qs2,e3,I2,m2,o2⟩:=WI.GH D h4 (n:=n) T (k+1) w1 (ps++qs) hT' (by simp at hk;omega) I1 (by
   rw[eC (af.mp hn).1];exact hn)
  refine⟨w2,qs++qs2,?_,by rw[← fg];exact I2,?_,o2.trans o1⟩
  ·unfold MR.GH
   rw[e1]
   simp only[aE,e2,e3,bv,List.range'_succ,a0,← fg]
   rw[nR m1]
  ·intro j h1 h2
   rw[← fg]
   by_cases e:j=k
   ·subst e;exact bn _ m1
   ·exact m2 j (by omega) h2
theorem WI.lat (D:Wd pb cn S Bn most pl)(I:WI Bn most fin pl w ps)(h4:C4 r)(hr:pl r∈ps):
  ∃w' qs,sV pb cn S w (ps.idxOf (pl r):Nat)=some (.lst ((List.range 4).map λj=>.int ((ps++qs).idxOf (pl (r++[j])):Nat)),w')/\WI Bn most fin pl w' (ps++qs)/\∀j,j < 4->pl (r++[j])∈ps++qs:=by
 have hn:=q8 hr
 generalize hN:ps.idxOf (pl r)=n at hn
 unfold sV
 cases ho:aK w.DZ (.inl (n:Int)) with
 | some l=>
  obtain⟨r',h1,h2,h3⟩:=I.on n l ho
  have e:pl r'=pl r:=by rw[hn] at h1;exact(bg h1).symm
  refine⟨w,[],?_,by simpa using I,λj hj=>?_⟩
  ·simp only[h3,bS]
   congr 3
   refine dQ λk hk=>?_
   rw[D.kd (bX.mp hk) e]
  ·rw[bS,← D.kd hj e];exact h2 j hj
 | none=>
  obtain⟨w1,qs,e1,I1,m1,o1⟩:=WI.GH D h4 (n:=n) S 0 w ps (by simp) (by rw[D.S4]) I hn
  have hf:=I1.TB D
  have XT:=I1.ZM
  rw[D.S4,← pc] at e1
  have Vc:aK w1.DZ (.inl (n:Int))=none:=by rw[o1];exact ho
  refine⟨{ w1 with DZ:=bB w1.DZ (.inl (n:Int)) (.lst ((List.range 4).map λj=>.int ((ps++qs).idxOf (pl (r++[j])):Nat))) },qs,?_,?_,λj hj=>m1 j (by omega) hj⟩
  ·simp only[e1,aE]
   rw[bb ⟨by omega,by simp⟩]
  ·have hnl:n < ps.length:=(af.mp hn).1
   refine⟨I1.ah,I1.mo,I1.fi,I1.pe,I1.nd,I1.rr,I1.nu,I1.nl,?_,?_⟩
   ·intro n' l h
    have h:aK (bB w1.DZ (.inl (n:Int)) _) (.inl (n':Int))=some l:=h
    rw[jg Vc,xG] at h
    cases h1:aK w1.DZ (.inl (n':Int)) with
    | some l'=>rw[h1] at h;cases h;exact I1.on n' _ h1
    | none=>
     rw[h1] at h
     by_cases e:(Sum.inl (n:Int):Key)=.inl (n':Int)
     ·rw[bb e] at h
      cases h
      injection e with e
      have e:n=n':=by omega
      subst e
      exact⟨r,by rw[eC hnl];exact hn,λk hk=>m1 k (by omega) hk,rfl⟩
     ·rw[ay e] at h;cases h
   ·obtain⟨ks,h1,h2,h3⟩:=I1.ok
    refine⟨ks++[n],?_,?_,?_⟩
    ·show (bB w1.DZ (.inl (n:Int)) _).map (·.1)=_
     rw[jg Vc,dL,h1];simp
    ·rw[im]
     refine⟨h2,by simp,λa ha b hb e=>?_⟩
     rw[av] at hb
     subst hb e
     have:(.inl (a:Int):Key)∈w1.DZ.map (·.1):=by rw[h1];exact b9.mpr ⟨a,ha,rfl⟩
     obtain⟨y,hy,ey⟩:=b9.mp this
     have:=oZ Vc
     rw[kM] at this
     exact this y hy (by simpa using ey)
    ·intro k hk
     rcases bo.mp hk with hk | hk
     ·exact h3 k hk
     ·rw[av] at hk;subst hk;simp;omega
end
inductive Chain (W:List (List zo×PV)):List Int->List PV->Prop
 | nil {n:qr}:aK W (bc n)=some .zD->Chain W n []
 | snoc {n n':qr}{s:PV}{ss:List PV}:aK W (bc n')=some (.tup [BC n,s])->Chain W n ss->Chain W n' (ss++[s])
structure BG (pb:List PV->Option PV)(cn:Nat)(S:List PV)(io so ro:List PV->Option PV){T:Type}(le:T->T->Prop)(D6:T->List WS->Prop)(nd:T->Row->List Int)(has:T->Row->Prop)(same:Row->Row->Bool)(over sought:Row->Bool):Prop where
 S4:S.length=4
 mono:∀t t' r,le t t'->has t r->has t' r/\nd t' r=nd t r
 inj:∀t r r',has t r->has t r'->(nd t r=nd t r'↔same r r'=true)
 nb:∀t ws r,D6 t ws->has t r->C4 r->∃t' EH,le t t'/\D6 t' EH/\Vf pb cn S ws (nd t r)=some ((List.range 4).map λk=>nd t' (r++[k]),EH)/\∀k,k < 4->has t' (r++[k])
 io:∀t ws r,D6 t ws->has t r->∃w0 wr n nr,ws=w0::wr/\nd t r=n::nr/\io [w0.pv cn,.int n]=some (.bl (over r))
 so:∀t ws r,D6 t ws->has t r->so [.lst (ws.map λw=>w.pv cn),BC (nd t r)]=some (.bl (sought r))
 ro:∀W n ss,Chain W n ss->ss.length<=9->ro [.dT W,BC n]=some (.lst ss)
 z9:∀x,9 < x.length->over x=true
theorem JP {a b:qr}(h:bc a=bc b):a=b:=by
 unfold bc at h
 induction a generalizing b with
 | nil=>cases b with
  | nil=>rfl
  | cons=>cases h
 | cons x a ih=>cases b with
  | nil=>cases h
  | cons y b=>
   rw[a0,a0] at h
   injection h with h1 h2
   injection h1 with h1
   injection h1 with h1
   rw[h1,ih h2]
section
variable {pb:List PV->Option PV}{cn:Nat}{S:List PV}{io so ro:List PV->Option PV}{T:Type}{le:T->T->Prop}{D6:T->List WS->Prop}{nd:T->Row->List Int}{has:T->Row->Prop}{same:Row->Row->Bool}{over sought:Row->Bool}
noncomputable def cd (S:List PV)(k:Nat):PV:=S.getD k .zD
noncomputable def ent (S:List PV)(nd:T->Row->List Int)(t:T)(r:Row):List zo×PV:=(bc (nd t r),match r.getLast? with
 | none=>.zD
 | some k=>.tup [BC (nd t r.dropLast),cd S k])
structure IH (S:List PV)(D6:T->List WS->Prop)(nd:T->Row->List Int)(has:T->Row->Prop)(same:Row->Row->Bool)(t:T)(R L:List Row)(st:FS):Prop where
 ws:D6 t st.ws
 hs:∀r∈R,has t r/\C4 r/\r.length<=9
 cl:∀r k,r++[k]∈R->r∈R
 ij:∀r∈R,∀q∈R,same r q=true->r=q
 nu:R.Nodup
 wy:st.AJ=R.map (ent S nd t)
 la:st.later=L.map (nd t)
 ll:L.length<=R.length
variable {t:T}{R L:List Row}{st:FS}
theorem IH.TB (I:IH S D6 nd has same t R L st):R.length<=349525:=by
 have:=I.nu.length_le_of_subset (λr hr=>tG (n:=9) (I.hs r hr).2.1 (I.hs r hr).2.2)
 rw[zY] at this
 exact this
theorem JQ (B:BG pb cn S io so ro le D6 nd has same over sought){t':T}(hle:le t t'){R:List Row}(hs:∀r∈R,has t r)(cl:∀r k,r++[k]∈R->r∈R):R.map (ent S nd t')=R.map (ent S nd t):=by
 refine dQ λr hr=>?_
 have h1:=(B.mono t t' r hle (hs r hr)).2
 unfold ent
 rw[h1]
 congr 1
 cases e:r.getLast? with
 | none=>rfl
 | some k=>
  have AM:r≠[]:=by intro z;rw[z] at e;cases e
  have e2:r=r.dropLast++[r.getLast AM]:=(ja AM).symm
  have h2:=(B.mono t t' _ hle (hs _ (cl r.dropLast (r.getLast AM) (by rw[← e2];exact hr)))).2
  dsimp only
  rw[h2]
theorem IH.up (B:BG pb cn S io so ro le D6 nd has same over sought)(I:IH S D6 nd has same t R L st){t':T}{EH:List WS}(hle:le t t')(hw:D6 t' EH)(hL:L ⊆ R):IH S D6 nd has same t' R L { st with ws:=EH }:=by
 refine⟨hw,λr hr=>⟨(B.mono t t' r hle (I.hs r hr).1).1,(I.hs r hr).2⟩,I.cl,I.ij,I.nu,?_,?_,I.ll⟩
 ·show st.AJ=_
  rw[JQ B hle (λr hr=>(I.hs r hr).1) I.cl];exact I.wy
 ·show st.later=_
  rw[I.la]
  exact dQ λr hr=>(B.mono t t' r hle (I.hs r (hL hr)).1).2.symm
theorem tH (B:BG pb cn S io so ro le D6 nd has same over sought)(hs:∀r∈R,has t r)(x:Row)(hx:has t x):aK (R.map (ent S nd t)) (bc (nd t x))=(R.find? λq=>same q x).map λq=>(ent S nd t q).2:=by
 unfold aK
 rw[pp,pz]
 have:∀l:List Row,(∀r∈l,has t r)->(l.find? ((λy:List zo×PV=>decide (y.1=bc (nd t x)))∘ent S nd t))=l.find? λq=>same q x:=by
  intro l
  induction l with
  | nil=>intro _;rfl
  | cons r l ih=>
   intro h
   have e:decide ((ent S nd t r).1=bc (nd t x))=same r x:=by
    have h1:=B.inj t r x (h r ar) hx
    show decide (bc (nd t r)=bc (nd t x))=_
    cases hq:same r x with
    | true=>rw[h1.mpr hq];simp
    | false=>
     rw[og]
     intro z
     rw[h1.mp (JP z)] at hq
     cases hq
   rw[gE,gE]
   show (match decide ((ent S nd t r).1=bc (nd t x)) with | true=>_ | false=>_)=_
   rw[e,ih λr hr=>h r (am _ hr)]
   cases same r x <;> rfl
 rw[this R hs]
 rfl
theorem IH.chain (B:BG pb cn S io so ro le D6 nd has same over sought)(rf:∀x,same x x=true)(I:IH S D6 nd has same t R L st):∀(n:Nat) (r:Row),r.length=n->r∈R->Chain st.AJ (nd t r) (r.map (cd S)):=by
 have lk:∀r∈R,aK st.AJ (bc (nd t r))=some (ent S nd t r).2:=by
  intro r hr
  rw[I.wy,tH B (λr hr=>(I.hs r hr).1) r (I.hs r hr).1]
  cases h:R.find? λq=>same q r with
  | none=>exact absurd (rf r) (by simpa using eW.mp h r hr)
  | some q=>
   have h1:=l4 h
   have h2:=I.ij q (ia h) r hr h1
   rw[h2];rfl
 intro n
 induction n with
 | zero=>
  intro r hl hr
  have:r=[]:=fE.mp hl
  subst this
  exact .nil (lk [] hr)
 | succ n ih=>
  intro r hl hr
  obtain⟨y,k,rfl,hy⟩:=v9 hl
  rw[dL]
  refine .snoc ?_ (ih y hy (I.cl y k hr))
  rw[lk _ hr]
  simp[ent]
theorem IH.put (B:BG pb cn S io so ro le D6 nd has same over sought)(sy:∀x y,same x y=true->same y x=true)(I:IH S D6 nd has same t R L st){k:Nat}(hr:r∈R)(hk:k < 4)(hh:has t (r++[k]))(ho:over (r++[k])=false)(hn:(R.any λq=>same q (r++[k]))=false)(v:Bool):
  IH S D6 nd has same t (R++[r++[k]]) (L++[r++[k]]) { st with AJ:=bB st.AJ (bc (nd t (r++[k]))) (.tup [BC (nd t r),cd S k]),later:=st.later++[nd t (r++[k])] }:=by
 have OC:∀q∈R,¬ same q (r++[k])=true:=by simpa using hn
 have hl9:(r++[k]).length<=9:=by
  rcases gx 9 (r++[k]).length with h | h
  ·rw[B.z9 _ h] at ho;cases ho
  ·exact h
 have X8:aK st.AJ (bc (nd t (r++[k])))=none:=by
  rw[I.wy,tH B (λr hr=>(I.hs r hr).1) _ hh,gL,eW]
  exact OC
 refine⟨I.ws,?_,?_,?_,?_,?_,?_,by simp;exact I.ll⟩
 ·intro q hq
  rcases bo.mp hq with hq | hq
  ·exact I.hs q hq
  ·rw[av] at hq;subst hq
   exact⟨hh,C5.mpr ⟨(I.hs r hr).2.1,hk⟩,hl9⟩
 ·intro q j hq
  rcases bo.mp hq with hq | hq
  ·exact bn _ (I.cl q j hq)
  ·rw[av] at hq
   have:=(List.append_inj' hq rfl).1
   rw[this];exact bn _ hr
 ·intro a ha b hb hs
  rcases bo.mp ha with ha | ha <;> rcases bo.mp hb with hb | hb
  ·exact I.ij a ha b hb hs
  ·rw[av] at hb;subst hb;exact(OC a ha hs).elim
  ·rw[av] at ha;subst ha;exact(OC b hb (sy _ _ hs)).elim
  ·rw[av] at ha hb;rw[ha,hb]
 ·rw[im]
  refine⟨I.nu,by simp,λa ha b hb e=>?_⟩
  rw[av] at hb
  subst e
  subst hb
  have:=(B.inj t _ _ hh hh).mp rfl
  exact OC _ ha this
 ·show bB st.AJ _ _=_
  rw[jg X8,I.wy,dL]
  simp[ent]
 ·show st.later++_=_
  rw[I.la,dL];rfl
theorem zZ (A:List Row):∀(R L X:List Row),bf same over sought R L (X++A)=match bf same over sought R L X with
  | .inl o=>bf same over sought o.1 o.2 A
  | .inr o=>.inr o
 | R,L,[]=>by simp[bf]
 | R,L,x::X=>by
  have eb:∀Y,bf same over sought R L (x::Y)=if dead same over R x=true then bf same over sought R L Y else if sought x=true then .inr (R,x) else bf same over sought (R++[x]) (L++[x]) Y:=λ_=>rfl
  rw[iF,eb,eb]
  by_cases hd:dead same over R x=true
  ·rw[bb hd,bb hd];exact zZ A R L X
  ·rw[ay hd,ay hd]
   by_cases hs:sought x=true
   ·rw[bb hs,bb hs]
   ·rw[ay hs,ay hs];exact zZ A _ _ X
variable (B:BG pb cn S io so ro le D6 nd has same over sought)(H:BH same over sought)
include B H
theorem o9 {r:Row}:∀(ks:qf) (R L:List Row) (st:FS),(∀k∈ks,k < 4/\has t (r++[k]))->IH S D6 nd has same t R L st->r∈R->L ⊆ R->
  match bf same over sought R L (ks.map λk=>r++[k]) with
  | .inl o=>(∃A7,my cn io so ro (nd t r) (ks.map λk=>(cd S k,nd t (r++[k]))) st=some (.inl A7)/\IH S D6 nd has same t o.1 o.2 A7)/\R ⊆ o.1/\o.2 ⊆ o.1
  | .inr o=>my cn io so ro (nd t r) (ks.map λk=>(cd S k,nd t (r++[k]))) st=some (.inr (.lst (o.2.map (cd S))))
 | [],R,L,st,_,I,_,hL=>by
  simp only[iX,bf]
  exact⟨⟨st,rfl,I⟩,λ_ h=>h,hL⟩
 | k::ks,R,L,st,hk,I,hr,hL=>by
  have F0:=λj hj=>hk j (am k hj)
  obtain⟨ZN,hh⟩:=hk k ar
  have lk:=tH B (S:=S) (R:=R) (λr hr=>(I.hs r hr).1) _ hh
  rw[← I.wy] at lk
  simp only[a0]
  by_cases ha:(R.any λq=>same q (r++[k]))=true
  ·have hd:dead same over R (r++[k])=true:=by simp[dead,ha]
   have e1:mq cn io so ro (nd t r) (cd S k,nd t (r++[k])) st=some (.inl st):=by
    obtain⟨q,hq,hs⟩:=iP.mp ha
    cases h:R.find? λq=>same q (r++[k]) with
    | none=>exact absurd hs (by simpa using eW.mp h q hq)
    | some q=>
     rw[h] at lk
     unfold mq
     simp only[lk,ic]
   have:=o9 ks R L st F0 I hr hL
   simp only[bf,bb hd]
   unfold my
   simp only[e1,aE]
   exact this
  ·have ha:(R.any λq=>same q (r++[k]))=false:=by simpa using ha
   have X8:aK st.AJ (bc (nd t (r++[k])))=none:=by
    rw[lk,gL,eW]
    simpa using ha
   obtain⟨w0,wr,n,nr,ew,en,X9⟩:=B.io t st.ws _ I.ws hh
   have ES:=I.TB
   have hll:=I.ll
   have D4:st.AJ.length=R.length:=by rw[I.wy,aI]
   have hlal:st.later.length=L.length:=by rw[I.la,aI]
   have eso:=B.so t st.ws _ I.ws hh
   cases ho:over (r++[k]) with
   | true=>
    have hd:dead same over R (r++[k])=true:=by simp[dead,ho]
    have e1:mq cn io so ro (nd t r) (cd S k,nd t (r++[k])) st=some (.inl st):=by
     unfold mq
     simp only[X8]
     rw[ho] at X9
     simp only[ew,en,X9,aE]
    have:=o9 ks R L st F0 I hr hL
    simp only[bf,bb hd]
    unfold my
    simp only[e1,aE]
    exact this
   | false=>
    have hd:¬ dead same over R (r++[k])=true:=by simp[dead,ho,ha]
    have I2:=I.put B H.sy hr ZN hh ho ha true
    rw[ho] at X9
    have e0:mq cn io so ro (nd t r) (cd S k,nd t (r++[k])) st=(if st.AJ.length < 1000000/\st.later.length < 1000000 then
     (so [.lst (st.ws.map λw=>w.pv cn),BC (nd t (r++[k]))]).bind λs=>match s with
      | .bl true=>(ro [.dT (bB st.AJ (bc (nd t (r++[k]))) (.tup [BC (nd t r),cd S k])),BC (nd t (r++[k]))]).bind λv=>some (.inr v)
      | .bl false=>some (.inl { st with AJ:=bB st.AJ (bc (nd t (r++[k]))) (.tup [BC (nd t r),cd S k]),later:=st.later++[nd t (r++[k])] })
      | _=>none
     else none):=by
     unfold mq
     simp only[X8]
     rw[ew]
     generalize hN:nd t (r++[k])=N at *
     rw[en]
     simp only[X9,aE]
     try rfl
    rw[bb ⟨by omega,by omega⟩,eso,aE] at e0
    cases hs:sought (r++[k]) with
    | true=>
     rw[hs] at e0
     have hm:r++[k]∈R++[r++[k]]:=by simp
     have ch:=I2.chain B H.rf _ _ rfl hm
     have er:=B.ro _ _ _ ch (by rw[aI];exact(I2.hs _ hm).2.2)
     simp only[er,aE] at e0
     simp only[bf,ay hd,bb hs]
     unfold my
     simp only[e0,aE]
    | false=>
     rw[hs] at e0
     simp only at e0
     have:=o9 ks (R++[r++[k]]) (L++[r++[k]]) _ F0 I2 (bn _ hr) (by
      intro y hy
      rcases bo.mp hy with hy | hy
      ·exact bn _ (hL hy)
      ·exact bp _ hy)
     have C6:¬ sought (r++[k])=true:=by rw[hs];simp
     simp only[bf,ay hd,ay C6]
     unfold my
     simp only[e0,aE]
     split at this
     ·rename_i o e
      exact⟨this.1,λy hy=>this.2.1 (bn _ hy),this.2.2⟩
     ·exact this
omit B H in
theorem JR (hS:S.length=4)(f:Nat->List Int):S.zip ((List.range 4).map f)=(List.range 4).map λk=>(cd S k,f k):=by
 match S,hS with
 | [a,b,c,d],_=>rfl
theorem z_:∀(Ls:List Row) (t:T) (R L:List Row) (st:FS),Ls ⊆ R->IH S D6 nd has same t R L st->L ⊆ R->
  match bf same over sought R L (Ls.flatMap kids) with
  | .inl o=>∃t' A7,qu pb cn S io so ro (Ls.map (nd t)) st=some (.inl A7)/\IH S D6 nd has same t' o.1 o.2 A7/\o.2 ⊆ o.1
  | .inr o=>qu pb cn S io so ro (Ls.map (nd t)) st=some (.inr (.lst (o.2.map (cd S))))
 | [],t,R,L,st,_,I,hL=>by
  simp only[List.flatMap_nil,bf]
  exact⟨t,st,rfl,I,hL⟩
 | r::Ls,t,R,L,st,hR,I,hL=>by
  have hr:r∈R:=hR ar
  obtain⟨t1,ws1,hle,WN,enb,hk⟩:=B.nb t st.ws r I.ws (I.hs r hr).1 (I.hs r hr).2.1
  have I1:=I.up B hle WN hL
  have er:nd t r=nd t1 r:=((B.mono t t1 r hle (I.hs r hr).1).2).symm
  have sp:=o9 B H (r:=r) (List.range 4) R L _ (λk F0=>⟨bX.mp F0,hk k (bX.mp F0)⟩) I1 hr hL
  rw[jS,zZ,a0]
  have ek:kids r=(List.range 4).map λk=>r++[k]:=rfl
  rw[← ek] at sp
  unfold qu
  simp only[enb,aE,JR B.S4]
  rw[er]
  cases hb:bf same over sought R L (kids r) with
  | inr o=>
   rw[hb] at sp
   simp only at sp ⊢
   simp only[sp,aE]
  | inl o=>
   rw[hb] at sp
   obtain⟨⟨A7,e1,I2⟩,s1,s2⟩:=sp
   simp only[e1,aE]
   have hLs:Ls ⊆ o.1:=λy hy=>s1 (hR (am _ hy))
   have em:Ls.map (nd t)=Ls.map (nd t1):=dQ λy hy=>(B.mono t t1 y hle (I.hs y (hR (am _ hy))).1).2.symm
   have:=z_ Ls t1 o.1 o.2 A7 hLs I2 s2
   rw[em]
   exact this
theorem Aa:∀(f:Nat) (t:T) (R L:List Row) (st:FS),IH S D6 nd has same t R L st->L ⊆ R->
  sW pb cn S io so ro f (L.map (nd t)) st=(Vp same over sought f R L).map λo=>match o with
   | none=>.zD
   | some x=>.lst (x.map (cd S))
 | 0,t,R,L,st,I,hL=>rfl
 | f+1,t,R,[],st,I,hL=>rfl
 | f+1,t,R,n::ns,st,I,hL=>by
  have I0:IH S D6 nd has same t R [] { st with later:=[] }:=⟨I.ws,I.hs,I.cl,I.ij,I.nu,I.wy,rfl,by simp⟩
  have sp:=z_ B H (n::ns) t R [] _ hL I0 (by simp)
  rw[a0] at sp ⊢
  unfold sW Vp
  cases hb:bf same over sought R [] ((n::ns).flatMap kids) with
  | inl o=>
   rw[hb] at sp
   obtain⟨t',A7,e1,I1,s1⟩:=sp
   simp only[e1,aE]
   rw[I1.la]
   exact Aa f t' o.1 o.2 A7 I1 s1
  | inr o=>
   rw[hb] at sp
   simp only at sp
   simp only[sp,aE,ic]
theorem M9 {ws:List WS}(hw:D6 t ws)(h0:nd t []=List.replicate ws.length 0)(hh:has t []):
  (Vj pb cn S io so ro ws=some .zD/\∀y,C4 y->over y=false->sought y=false)\/∃x,Vj pb cn S io so ro ws=some (.lst (x.map (cd S)))/\Found over sought x:=by
 have I:IH S D6 nd has same t [[]] [[]] { ws:=ws,AJ:=[(bc (List.replicate ws.length 0),.zD)],later:=[List.replicate ws.length 0] }:=by
  refine⟨hw,?_,?_,?_,by simp,?_,?_,by simp⟩
  ·intro r hr;rw[av] at hr;subst hr;exact⟨hh,(λk hk=>by cases hk),by simp⟩
  ·intro r k h;rw[av] at h;simp at h
  ·intro r hr q hq _;rw[av] at hr hq;rw[hr,hq]
  ·simp[ent,h0]
  ·simp[h0]
 have e:=Aa B H 1000 t [[]] [[]] _ I (λ_ h=>h)
 rw[a0,iX,h0] at e
 unfold Vj
 rw[e]
 rcases zW H 1000 0 [[]] [[]] (LI.start H) (by decide) (by decide) with ⟨h1,h2⟩ | ⟨x,h1,h2⟩
 ·rw[h1];exact .inl ⟨rfl,h2⟩
 ·rw[h1];exact .inr ⟨x,rfl,h2⟩
end
theorem qC (f:Nat->Int):∀l:List Nat,oK (l.map λk=>PV.int (f k))=some (l.map f)
 | []=>rfl
 | k::l=>by
  rw[a0,oK,qC f l]
  rfl
section
variable {pb:List PV->Option PV}{cn:Nat}{S:List PV}{io so ro:List PV->Option PV}{a1 a2:List (List zo×PV)}{m1 m2:Int}{f1 f2:PV}{p1 p2:Row->Pl}
def le2 (t t':List Pl×List Pl):Prop:=(∃q,t'.1=t.1++q)/\∃q,t'.2=t.2++q
def SX (a1 a2:List (List zo×PV))(m1 m2:Int)(f1 f2:PV)(p1 p2:Row->Pl)(t:List Pl×List Pl)(ws:List WS):Prop:=∃w1 w2,ws=[w1,w2]/\WI a1 m1 f1 p1 w1 t.1/\WI a2 m2 f2 p2 w2 t.2
noncomputable def WV (p1 p2:Row->Pl)(t:List Pl×List Pl)(r:Row):List Int:=[(t.1.idxOf (p1 r):Nat),(t.2.idxOf (p2 r):Nat)]
def S5 (p1 p2:Row->Pl)(t:List Pl×List Pl)(r:Row):Prop:=p1 r∈t.1/\p2 r∈t.2
noncomputable def yh (p1 p2:Row->Pl)(r r':Row):Bool:=decide (p1 r=p1 r'/\p2 r=p2 r')
theorem Ck {ps:List Pl}{p q:Pl}(hp:p∈ps)(hq:q∈ps)(h:ps.idxOf p=ps.idxOf q):p=q:=by
 have a:=q8 hp
 have b:=q8 hq
 rw[h,b] at a
 exact(bg a).symm
theorem bg2 (D1:Wd pb cn S a1 m1 p1)(D2:Wd pb cn S a2 m2 p2){sought:Row->Bool}
  (hio:∀w ps r,WI a1 m1 f1 p1 w ps->p1 r∈ps->io [w.pv cn,.int (ps.idxOf (p1 r):Nat)]=some (.bl (decide (p1 r=[]))))
  (hso:∀w1 w2 Ya Yb r,WI a1 m1 f1 p1 w1 Ya->WI a2 m2 f2 p2 w2 Yb->p1 r∈Ya->p2 r∈Yb->so [.lst [w1.pv cn,w2.pv cn],.tup [.int (Ya.idxOf (p1 r):Nat),.int (Yb.idxOf (p2 r):Nat)]]=some (.bl (sought r)))
  (Zr:∀W n ss,Chain W n ss->ss.length<=9->ro [.dT W,BC n]=some (.lst ss)):
  BG pb cn S io so ro le2 (SX a1 a2 m1 m2 f1 f2 p1 p2) (WV p1 p2) (S5 p1 p2) (yh p1 p2) (λr=>decide (p1 r=[])) sought:=by
 refine⟨D1.S4,?_,?_,?_,?_,?_,Zr,?_⟩
 ·rintro ⟨t1,t2⟩ ⟨u1,u2⟩ r ⟨⟨q1,e1⟩,q2,e2⟩ ⟨h1,h2⟩
  simp only at e1 e2 h1 h2
  subst e1 e2
  refine⟨⟨bn _ h1,bn _ h2⟩,?_⟩
  unfold WV
  simp only[nR h1,nR h2]
 ·rintro ⟨t1,t2⟩ r r' ⟨h1,h2⟩ ⟨g1,g2⟩
  unfold WV yh
  simp only[List.cons.injEq,and_true,eB]
  constructor
  ·rintro ⟨x,y⟩
   exact⟨Ck h1 g1 (Int.ofNat.inj x),Ck h2 g2 (Int.ofNat.inj y)⟩
  ·rintro ⟨x,y⟩
   rw[x,y];exact⟨rfl,rfl⟩
 ·rintro ⟨t1,t2⟩ ws r ⟨w1,w2,rfl,I1,I2⟩ ⟨h1,h2⟩ h4
  obtain⟨w1',q1,e1,J1,k1⟩:=I1.lat D1 h4 h1
  obtain⟨w2',q2,e2,J2,k2⟩:=I2.lat D2 h4 h2
  refine⟨(t1++q1,t2++q2),[w1',w2'],⟨⟨q1,rfl⟩,q2,rfl⟩,⟨w1',w2',rfl,J1,J2⟩,?_,λk hk=>⟨k1 k hk,k2 k hk⟩⟩
  have i1:=qC (λk=>((t1++q1).idxOf (p1 (r++[k])):Nat)) (List.range 4)
  have i2:=qC (λk=>((t2++q2).idxOf (p2 (r++[k])):Nat)) (List.range 4)
  unfold Vf WV
  simp only[Ve,e1,e2,aE,uI,i1,i2,D1.S4]
  simp only[aI,ff,fR,aE]
  rfl
 ·rintro ⟨t1,t2⟩ ws r ⟨w1,w2,rfl,I1,I2⟩ ⟨h1,h2⟩
  exact⟨w1,[w2],_,_,rfl,rfl,hio w1 t1 r I1 h1⟩
 ·rintro ⟨t1,t2⟩ ws r ⟨w1,w2,rfl,I1,I2⟩ ⟨h1,h2⟩
  exact hso w1 w2 t1 t2 r I1 I2 h1 h2
 ·intro x hx
  simp[D1.z9 x hx]
theorem bh2 (D1:Wd pb cn S a1 m1 p1)(D2:Wd pb cn S a2 m2 p2){sought:Row->Bool}(hs:∀x y,p1 x=p1 y->p2 x=p2 y->sought x=sought y)(h0:p1 []≠[])(hs0:sought []=false)(hoo:∀x k,k < 4->p1 x=[]->p1 (x++[k])=[]):
  BH (yh p1 p2) (λr=>decide (p1 r=[])) sought:=by
 unfold yh
 refine⟨λx=>by simp,λx y h=>?_,λx y z h g=>?_,λx y k hk h=>?_,λx y h=>?_,λx y h=>?_,λx k hk h=>?_,by simpa using h0,hs0,λx hx=>by simp[D1.z9 x hx]⟩
 ·simp only[eB] at h ⊢;exact⟨h.1.symm,h.2.symm⟩
 ·simp only[eB] at h g ⊢;exact⟨h.1.trans g.1,h.2.trans g.2⟩
 ·simp only[eB] at h ⊢;exact⟨D1.kd hk h.1,D2.kd hk h.2⟩
 ·simp only[eB] at h;rw[h.1]
 ·simp only[eB] at h;exact hs x y h.1 h.2
 ·simp only[eB] at h ⊢;exact hoo x k hk h
theorem WI.new {fin:PV}{pl:Row->Pl}:WI Bn most fin pl { Bn:=Bn,most:=most,fin:=fin,Cn:=[EK (pl [])],nums:=[(JU (pl []),.int 0)],DZ:=[] } [pl []]:=by
 refine⟨rfl,rfl,rfl,rfl,by simp,λp hp=>⟨[],(λk hk=>by cases hk),by simpa using hp⟩,λp=>?_,rfl,(λn l h=>by cases h),⟨[],rfl,by simp,(λk hk=>by cases hk)⟩⟩
 unfold aK
 by_cases e:p=pl []
 ·subst e;simp
 ·have:¬ JU (pl [])=JU p:=λz=>e (v_ z).symm
  simp[this,e]
end
abbrev Rest:=Nat×List Nat
noncomputable def Nl (l:qf):Str:=⟨l.toArray⟩
noncomputable def B7 (x:Rest):Int×Str:=((x.1:Int),Nl x.2)
noncomputable def C9 (x:Rest):PV:=.tup [.int (x.1:Nat),.str (Nl x.2)]
theorem Cm {a b:qf}(h:Nl a=Nl b):a=b:=by
 have:=d5 (λs:Str=>s.cps.toList) h
 simpa [Nl] using this
theorem q9 {x y:Rest}(h:B7 x=B7 y):x=y:=by
 obtain⟨a,b⟩:=x
 obtain⟨c,d⟩:=y
 unfold B7 at h
 injection h with h1 h2
 have h1:a=c:=by simp at h1;omega
 have h2:b=d:=Cm h2
 rw[h1,h2]
theorem Cp:Nl []=("" : Str):=by decide +kernel
theorem jL (p:Str):p.cps.toList.length=p.length:=f8
def Fm (m:qB)(t:DS):Rest:=(t.1,if 0 < t.2.2 then (((m[t.1]?).bind λs=>s.1[t.2.1]?).map λp=>p.cps.toList.drop t.2.2).getD [] else [])
theorem Hg (p:Str)(i:Nat)(h:i<=p.length):lX p (some (i:Int)) none=Nl (p.cps.toList.drop i):=by
 unfold lX Nl HT.AK
 congr 2
 simp
 rw[ay (by omega),Nat.min_eq_left h,oy]
 rw[gs,jL];exact aw _
theorem wg (hm:aX m){t:DS}(st:Nc m t.1 t.2.1 t.2.2):bO [mP m,cB t]=some (C9 (Fm m t)):=by
 obtain⟨slot,k,i⟩:=t
 simp only at st
 unfold Fm
 by_cases hi:0 < i
 ·have A0:slot < m.length:=by
   rcases gx slot m.length with h | h
   ·exact h
   ·have:=st.le;have:=(st.fin (by omega)).2;omega
  obtain⟨s,hs⟩:∃s,m[slot]?=some s:=⟨m[slot],ai A0⟩
  rcases st.mid s hs with h | ⟨p,hp,_,LF⟩
  ·omega
  ·have h1:=v8 hs
   have h2:=zT hp
   have ok:=(hm s (de hs)).ok p (de hp)
   have h3:p.length<=1000000:=by have:=ok.le;omega
   have h4:=Hg p i (by omega)
   have LO:(0:Int) < i:=by omega
   simp[bO,jX,mP,cB,EJ,h1,A4,h2,h3,h4,hi,hs,hp,C9]
 ·have LO:¬ (0:Int) < i:=by omega
  have e:=Cp
  simp[bO,jX,mP,cB,EJ,hi,C9,e]
noncomputable def OL (slot:Nat)(cut:Bool)(l:qf)(mark:Str)(ends:Bool):List Rest:=match l with
 | []=>[]
 | c::r=>if AG ⟨#[c]⟩ mark=true then (if r≠[] then [(slot,r)] else if (cut&&!ends)=true then [] else [(slot+1,[])]) else []
noncomputable def lA (m:qB)(x:Rest)(mark:Str)(ends:Bool):List Rest:=match m[x.1]? with
 | none=>[]
 | some s=>if x.2=[] then s.1.flatMap λp=>OL x.1 s.2 p.cps.toList mark ends else OL x.1 s.2 x.2 mark ends
theorem Cq (p:Str)(i:Nat)(h:i < p.length):p.cps.toList.drop i=p.cps.toList.getD i 0::p.cps.toList.drop (i+1):=by
 have hl:i < p.cps.toList.length:=by rw[jL];exact h
 rw[ce hl,br,ai hl]
 rfl
theorem Ab {k i:Nat}(hs:m[slot]?=some s)(hp:s.1[k]?=some p)(hi:i < p.length)(mark:Str)(ends:Bool):
  (Nd s slot i mark ends k).map (λy=>Fm m y.2)=OL slot s.2 (p.cps.toList.drop i) mark ends:=by
 unfold Nd OL
 rw[qZ hp,Cq p i hi]
 show List.map _ (if AG (cG p i) mark=true then _ else _)=(if AG (cG p i) mark=true then (if p.cps.toList.drop (i+1)≠[] then [(slot,p.cps.toList.drop (i+1))] else if (s.2&&!ends)=true then [] else [(slot+1,[])]) else [])
 by_cases D3:AG (cG p i) mark=true
 case neg=>rw[ay D3,ay D3];rfl
 case pos=>
  rw[bb D3,bb D3]
  unfold WU
  by_cases h1:i+1 < p.length
  ·have:p.cps.toList.drop (i+1)≠[]:=by
    intro z
    have:=d5 List.length z
    rw[gs,jL] at this
    simp at this;omega
   rw[bb h1,bb this]
   simp[Fm,hs,hp]
  ·have:p.cps.toList.drop (i+1)=[]:=by
    rw[eT,jL];omega
   rw[ay h1,this]
   by_cases hc:(s.2&&!ends)=true
   ·rw[bb hc,ay (by simp),bb hc];rfl
   ·rw[ay hc,ay (by simp),ay hc];rfl
theorem range_getD (l:qq):(List.range l.length).map (λk=>l.getD k ⟨#[]⟩)=l:=by
 refine List.ext_getElem? λi=>?_
 rw[cm]
 rcases gx i l.length with h | h
 ·rw[pS h,ai h]
  simp[h]
 ·rw[cK (by simpa using h),cK h];rfl
theorem Ac (hm:aX m){t:DS}(ht:t∈GN m)(mark:Str)(ends:Bool):(jf m t mark ends).map (λy=>Fm m y.2)=lA m (Fm m t) mark ends:=by
 obtain⟨s,hs,h⟩:=C3.mp ht
 obtain⟨slot,k,i⟩:=t
 simp only at hs h
 have ok:=hm s (de hs)
 unfold jf lA
 rcases h with h | ⟨p,hp,h1,h2⟩
 ·cases h
  have e1:Fm m (slot,0,0)=(slot,[]):=rfl
  rw[e1]
  simp only[hs,fR]
  rw[List.map_flatMap]
  have e2:(s.1.flatMap λp=>OL slot s.2 p.cps.toList mark ends)=(List.range s.1.length).flatMap λk=>OL slot s.2 (s.1.getD k ⟨#[]⟩).cps.toList mark ends:=by
   conv=>lhs;rw[← range_getD s.1]
   rw[List.flatMap_map]
  rw[e2,List.flatMap_def,List.flatMap_def]
  congr 1
  refine dQ λk hk=>?_
  have F0:=bX.mp hk
  have hp:s.1[k]?=some s.1[k]:=ai F0
  have:=(ok.ok _ (k9 F0)).ge
  have:=Ab (m:=m) (i:=0) hs hp (by omega) mark ends
  rw[this,qZ hp]
  rfl
 ·have UL:¬ i=0:=by omega
  have e1:Fm m (slot,k,i)=(slot,p.cps.toList.drop i):=by simp[Fm,hs,hp];omega
  have e2:p.cps.toList.drop i≠[]:=by rw[Cq p i h2];simp
  rw[e1]
  simp only[hs,ay UL,ay e2]
  exact Ab hs hp h2 mark ends
theorem Hh {t:DS}(ht:t∈GN m){y:Nat×DS}(hy:y∈jf m t mark ends):y.2∈GN m\/y.2=(m.length,0,0):=by
 obtain⟨s,hs,h⟩:=C3.mp ht
 have A0:=(af.mp hs).1
 have key:∀(i k:Nat),∀y∈Nd s t.1 i mark ends k,y.2∈GN m\/y.2=(m.length,0,0):=by
  intro i k y hy
  unfold Nd at hy
  split at hy
  ·obtain⟨z,hz,rfl⟩:=b9.mp hy
   rw[Option.mem_toList] at hz
   unfold WU at hz
   split at hz
   ·rename_i hl
    cases hz
    refine .inl (C3.mpr ⟨s,hs,.inr ?_⟩)
    cases hp:s.1[k]? with
    | none=>
     rw[br,hp] at hl
     simp[Str.length] at hl
    | some p=>rw[qZ hp] at hl;exact⟨p,rfl,by simp,hl⟩
   ·split at hz
    ·cases hz
    ·cases hz
     rcases gx (t.1+1) m.length with h | h
     ·exact .inl (C3.mpr ⟨m[t.1+1],ai h,.inl rfl⟩)
     ·exact .inr (by rw[show t.1+1=m.length by omega])
  ·cases hy
 unfold jf at hy
 rw[hs] at hy
 simp only at hy
 split at hy
 ·obtain⟨k,hk,hy⟩:=eP.mp hy
  exact key 0 k y hy
 ·exact key _ _ y hy
noncomputable def JY (m:qB):List Rest:=(GN m).map (Fm m)++[(m.length,[])]
theorem Hk (m:qB):Nc m m.length 0 0:=⟨aw _,λ_=>⟨rfl,rfl⟩,λs h=>by rw[cK (aw _)] at h;cases h⟩
theorem M_ {t:DS}(ht:t∈GN m){y:Nat×DS}(hy:y∈jf m t mark ends):Nc m y.2.1 y.2.2.1 y.2.2.2:=by
 rcases Hh ht hy with h | h
 ·exact zU h
 ·rw[h];exact Hk m
theorem wk (hm:aX m){x:Rest}(hx:x∈JY m){y:Rest}(hy:y∈lA m x mark ends):y∈JY m:=by
 rcases bo.mp hx with hx | hx
 ·obtain⟨t,ht,rfl⟩:=b9.mp hx
  rw[← Ac hm ht] at hy
  obtain⟨z,hz,rfl⟩:=b9.mp hy
  rcases Hh ht hz with h | h
  ·exact bn _ (b9.mpr ⟨_,h,rfl⟩)
  ·rw[h];exact bp _ (by simp[Fm])
 ·rw[av] at hx
  subst hx
  unfold lA at hy
  simp at hy
theorem Cr (mark:Str)(ends:Bool):lA m (m.length,[]) mark ends=[]:=by
 unfold lA
 simp
noncomputable def Ct (k:Nat):Str:=if k < 2 then ("u" : Str) else ("-" : Str)
noncomputable def EL (k:Nat):Bool:=k % 2 == 1
noncomputable def Cf (k:Nat):PV:=.tup [.str (Ct k),.bl (EL k)]
theorem sdS:fP=(List.range 4).map Cf:=rfl
theorem itS:MR.Po uP=some ((List.range 4).map Cf):=rfl
theorem QC {k:Nat}(h:k < 4):fP[k]?=some (Cf k):=by rw[sdS];simp[h]
theorem S6 {k:Nat}(h:k < 4):cd fP k=Cf k:=by unfold cd;rw[br,QC h];rfl
noncomputable def kk (x:Rest)(k:Nat):List zo:=[zo.tp [.k (.inl (x.1:Int)),.k (.inr (Nl x.2))],zo.tp [.k (.inr (Ct k)),.k (.inl (if EL k=true then 1 else 0))]]
theorem Cu (x:Rest)(k:Nat):AB [C9 x,Cf k]=some (kk x k):=rfl
theorem ud:¬ (("u" : Str) = "-"):=by decide
theorem QD {x y:Rest}{k j:Nat}(hk:k < 4)(hj:j < 4)(h:kk x k=kk y j):x=y/\k=j:=by
 unfold kk at h
 injection h with h1 h2
 injection h2 with h2 _
 have h1:=zo.D7 h1
 have h2:=zo.D7 h2
 injection h1 with a b
 injection b with b _
 injection a with a;injection a with a
 injection b with b;injection b with b
 injection h2 with c d
 injection d with d _
 injection c with c;injection c with c
 injection d with d;injection d with d
 refine⟨?_,?_⟩
 ·obtain⟨x1,x2⟩:=x
  obtain⟨y1,y2⟩:=y
  have a:x1=y1:=by simp at a;omega
  have b:x2=y2:=Cm b
  rw[a,b]
 ·have:=ud
  have F0:k=0\/k=1\/k=2\/k=3:=by omega
  have UG:j=0\/j=1\/j=2\/j=3:=by omega
  rcases F0 with rfl | rfl | rfl | rfl <;> rcases UG with rfl | rfl | rfl | rfl <;> first | rfl | (exfalso;revert c d;decide +kernel)
section
variable {κ:Type}[DecidableEq κ]
theorem qF (kvs:List (κ×PV))(k k':κ)(v:PV):aK (bB kvs k v) k'=if k'=k then some v else aK kvs k':=by
 unfold aK bB
 by_cases h:(kvs.any λkv=>decide (kv.1=k))=true
 ·rw[bb h,pp]
  have e:((λx:κ×PV=>decide (x.1=k'))∘λkv=>if kv.1=k then (kv.1,v) else kv)=λx=>decide (x.1=k'):=by
   funext x
   have hf:(if x.1=k then (x.1,v) else x).1=x.1:=by split <;> rfl
   show decide ((if x.1=k then (x.1,v) else x).1=k')=decide (x.1=k')
   simp[hf]
  rw[e]
  cases q:kvs.find? λx=>decide (x.1=k') with
  | none=>
   by_cases hk:k'=k
   ·subst hk
    obtain⟨x,h1,h2⟩:=iP.mp h
    exact absurd h2 (eW.mp q x h1)
   ·rw[ay hk];rfl
  | some x=>
   have hx:x.1=k':=by simpa using l4 q
   by_cases hk:k'=k
   ·rw[bb hk]
    show some (if x.1=k then (x.1,v) else x).2=_
    rw[bb (hx.trans hk)]
   ·rw[ay hk]
    show some (if x.1=k then (x.1,v) else x).2=some x.2
    rw[ay (λz=>hk (hx.symm.trans z))]
 ·rw[ay h,List.find?_append]
  have hn:∀x∈kvs,¬ x.1=k:=λx hx e=>h (iP.mpr ⟨x,hx,by simp[e]⟩)
  by_cases hk:k'=k
  ·subst hk
   have:(kvs.find? λx=>decide (x.1=k'))=none:=eW.mpr λx hx=>by simp[hn x hx]
   rw[this,bb rfl]
   simp
  ·rw[ay hk]
   have:([(k,v)].find? λx=>decide (x.1=k'))=none:=by simp[fe hk]
   rw[this]
   simp
theorem Ad (kvs:List (κ×PV))(k:κ)(v:PV):(bB kvs k v).length<=kvs.length+1:=by
 unfold bB
 split
 ·rw[aI];omega
 ·simp
end
noncomputable def b_ (m:qB)(x:Rest)(k:Nat):List Rest:=lA m x (Ct k) (EL k)
def AI (m:qB)(P:List (Rest×Nat))(D:List (List zo×PV)):Prop:=D.length<=P.length/\∀x k,k < 4->aK D (kk x k)=if (x,k)∈P then some (.lst ((b_ m x k).map C9)) else none
variable {D:List (List zo×PV)}
theorem AI.put {P:List (Rest×Nat)}(I:AI m P D){x:Rest}{k:Nat}(hk:k < 4):AI m (P++[(x,k)]) (bB D (kk x k) (.lst ((b_ m x k).map C9))):=by
 refine⟨?_,λy j hj=>?_⟩
 ·have:=Ad D (kk x k) (.lst ((b_ m x k).map C9))
  have:=I.1
  simp;omega
 ·rw[qF,I.2 y j hj]
  by_cases h:kk y j=kk x k
  ·obtain⟨rfl,rfl⟩:=QD hj hk h
   rw[bb rfl,bb (by simp)]
  ·rw[ay h]
   have AM:¬ (y,j)=(x,k):=λz=>by cases z;exact h rfl
   by_cases hm:(y,j)∈P
   ·rw[bb hm,bb (bn _ hm)]
   ·rw[ay hm,ay]
    intro z
    rcases bo.mp z with z | z
    ·exact hm z
    ·rw[av] at z;exact AM z
theorem JS (hm:aX m)(hl:m.length < 100){t:DS}(ht:t∈GN m){k:Nat}(hk:k < 4)(hD:D.length < 1000000):
  turn (gN 3) [3,4] d_ (Cf k) [some (mP m),some (.dT D),some (cB t),none,none]=some [some (mP m),some (.dT (bB D (kk (Fm m t) k) (.lst ((b_ m (Fm m t) k).map C9)))),some (cB t),none,none]:=by
 have h3:=JK hm (by omega) (zU ht) (Ct k) (EL k)
 rw[RM] at h3
 have h3:dJ [mP m,cB t,.str (Ct k),.bl (EL k)]=some (.lst ((jf m t (Ct k) (EL k)).map UW)):=h3
 have h4:=JN m hm t (Ct k) (EL k)
 have h1:=wg hm (zU ht)
 have h5:cO [none,none,some (mP m)] (gT [0,1]) fH gM ((jf m t (Ct k) (EL k)).map UW)=some ((b_ m (Fm m t) k).map C9):=by
  unfold b_
  rw[← Ac hm ht,ix]
  exact jB _ _ _ λy hy=>⟨[some (.int (y.1:Nat)),some (cB y.2),some (mP m)],rfl,by
   have:=wg hm (M_ ht hy)
   simp[gM,this]⟩
 have h7:((jf m t (Ct k) (EL k)).map UW).length<=1000000:=by rw[aI];omega
 have h8:=Cu (Fm m t) k
 unfold Cf at h8 ⊢
 generalize (jf m t (Ct k) (EL k)).map UW=V,(b_ m (Fm m t) k).map C9=R,cB t=S,mP m=M,C9 (Fm m t)=Z,kk (Fm m t) k=kx at *
 simp[-AB,cZ,d_,h1,h3,h5,h7,h8,hD,iY]
theorem JT (hm:aX m)(hl:m.length < 100){t:DS}(ht:t∈GN m){P:List (Rest×Nat)}(I:AI m P D)(hP:P.length < 1000):
  ∃D',AI m (P++(List.range 4).map λk=>(Fm m t,k)) D'/\turn (gN 2) [2,3,4] eE (cB t) [some (mP m),some (.dT D),none,none,none]=some [some (mP m),some (.dT D'),none,none,none]:=by
 obtain⟨D',⟨d,e1,I',_⟩,h⟩:=fQ (g:=gN 3) (ds:=[3,4]) (body:=d_) Cf (λD:List (List zo×PV)=>[some (mP m),some (.dT D),some (cB t),none,none])
  (λr D'=>∃d,List.range 4=d++r/\AI m (P++d.map λk=>(Fm m t,k)) D'/\∀k∈r,k < 4)
  (by
   rintro k r D' ⟨d,e1,I',hr⟩
   have hk:=hr k ar
   have hd:d.length+r.length+1=4:=by have:=d5 List.length e1;simp at this;omega
   have hD:D'.length < 1000000:=by have:=I'.1;simp at this;omega
   refine⟨_,⟨d++[k],by rw[e1];simp,?_,λj hj=>hr j (am _ hj)⟩,JS hm hl ht hk hD⟩
   have:=I'.put (x:=Fm m t) hk
   rw[dL,← fg]
   exact this)
  (List.range 4) D ⟨[],rfl,by simpa using I,λk hk=>bX.mp hk⟩
 rw[bS] at e1
 subst e1
 refine⟨D',I',?_⟩
 have hs:=itS
 generalize cB t=S,mP m=M at *
 simp[-MR.Po,cZ,eE,hs,h]
theorem JV (hm:aX m)(hl:m.length<=3):∃D,bI [mP m]=some (.dT D)/\∀x∈JY m,∀k,k < 4->(aK D (kk x k)).getD (.lst [])=.lst ((b_ m x k).map C9):=by
 obtain⟨h1,h2⟩:=xF hm (by omega)
 obtain⟨D,⟨d,e1,I⟩,h⟩:=fQ (g:=gN 2) (ds:=[2,3,4]) (body:=eE) cB (λD:List (List zo×PV)=>[some (mP m),some (.dT D),none,none,none])
  (λr D'=>∃d,GN m=d++r/\AI m (d.flatMap λt=>(List.range 4).map λk=>(Fm m t,k)) D')
  (by
   rintro t r D' ⟨d,e1,I'⟩
   have ht:t∈GN m:=by rw[e1];simp
   have hd:d.length+r.length+1=(GN m).length:=by have:=d5 List.length e1;simp at this;omega
   have hfl:∀d:List DS,(d.flatMap λt=>(List.range 4).map λk=>(Fm m t,k)).length=4*d.length:=by
    intro d
    induction d with
    | nil=>rfl
    | cons t d ih=>rw[jS,bq,ih];simp;omega
   obtain⟨D2,I2,h⟩:=JT hm (by omega) ht I' (by rw[hfl];omega)
   exact⟨D2,⟨d++[t],by rw[e1];simp,by simpa using I2⟩,h⟩)
  (GN m) [] ⟨[],rfl,by simp,λx k _=>by simp[aK]⟩
 rw[bS] at e1
 subst e1
 refine⟨D,?_,λx hx k hk=>?_⟩
 ·generalize (GN m).map cB=L,mP m=M at *
  simp[bI,nP,h1,h]
 ·rw[I.2 x k hk]
  rcases bo.mp hx with hx | hx
  ·obtain⟨t,ht,rfl⟩:=b9.mp hx
   rw[bb (eP.mpr ⟨t,ht,b9.mpr ⟨k,bX.mpr hk,rfl⟩⟩)];rfl
  ·rw[av] at hx
   subst hx
   split
   ·rfl
   ·unfold b_
    rw[Cr];rfl
noncomputable def BB (m:qB):List Slot:=m.dropLast++[((m.getLast?.getD ([],false)).1,true)]
theorem lB (hm:aX m)(AM:m≠[]):aX (BB m)/\BB m≠[]/\(BB m).length=m.length:=by
 refine⟨?_,by simp[BB],by have:=ga.mpr AM;simp[BB];omega⟩
 intro s hs
 unfold BB at hs
 rcases bo.mp hs with hs | hs
 ·exact hm s ((List.dropLast_sublist m).subset hs)
 ·rw[av] at hs
  subst hs
  rw[df AM]
  exact hm (m.getLast AM) (List.getLast_mem AM)
theorem xH {α:Type}{xs:List α}(h:xs≠[]):BY xs (-1)=xs.getLast?:=by
 unfold BY IU
 have hl:0 < xs.length:=ga.mpr h
 rw[ay (by decide),bb (by omega),List.getLast?_eq_getElem?]
 show xs[(-1+(xs.length:Int)).toNat]?=_
 congr 1
 omega
theorem Hl (xs:List PV)(h:xs≠[]):dI xs none (some (-1))=xs.dropLast:=by
 have hl:0 < xs.length:=ga.mpr h
 unfold dI HT.AK
 simp
 rw[List.dropLast_eq_take]
 congr 1
 omega
theorem QF (AM:m≠[])(hl:m.length<=3):bF [mP m]=some (mP (BB m)):=by
 have h0:m.map A4≠[]:=by simpa using AM
 have h1:=xH h0
 have h2:=Hl _ h0
 have e:(m.map A4).getLast?=some (A4 (m.getLast AM)):=by rw[List.getLast?_map,df AM];rfl
 rw[e] at h1
 have h3:=lQ (m.map A4).dropLast [.tup [.tup ((m.getLast AM).1.map .str),.bl true]] (by simp;omega)
 have e2:BB m=m.dropLast++[((m.getLast AM).1,true)]:=by unfold BB;rw[df AM];rfl
 rw[e2]
 have e3:mP (m.dropLast++[((m.getLast AM).1,true)])=.tup ((m.map A4).dropLast++[.tup [.tup ((m.getLast AM).1.map .str),.bl true]]):=by simp[mP,A4,List.map_dropLast]
 rw[e3]
 simp only[A4] at h1
 simp only[mP]
 simp[bF,k_,h2,h1,h3]
theorem ss1:(("most" : Str) == "ahead")=false:=by decide +kernel
theorem ss2:(("end" : Str) == "ahead")=false:=by decide +kernel
theorem ss3:(("end" : Str) == "most")=false:=by decide +kernel
theorem ss4:(("places" : Str) == "ahead")=false:=by decide +kernel
theorem ss5:(("places" : Str) == "most")=false:=by decide +kernel
theorem ss6:(("places" : Str) == "end")=false:=by decide +kernel
theorem JW (w:WS)(e:MR.Env)(f:MR.Env->Option PV)(h:f e=some (w.pv 10)):iW 10 "ahead" f e=some (.dT w.Bn):=by
 rw[f9,h];simp[WS.pv]
theorem Nb (w:WS)(e:MR.Env)(f:MR.Env->Option PV)(h:f e=some (w.pv 10)):iW 10 "most" f e=some (.int w.most):=by
 rw[f9,h];simp[WS.pv,List.lookup,ss1]
theorem QG (w:WS)(e:MR.Env)(f:MR.Env->Option PV)(h:f e=some (w.pv 10)):iW 10 "end" f e=some w.fin:=by
 rw[f9,h];simp[WS.pv,List.lookup,ss2,ss3]
theorem qG (w:WS)(e:MR.Env)(f:MR.Env->Option PV)(h:f e=some (w.pv 10)):iW 10 "places" f e=some (.lst w.Cn):=by
 rw[f9,h];simp[WS.pv,List.lookup,ss4,ss5,ss6]
noncomputable def kQ (q:Int×Str):List zo:=[.k (.inl q.1),.k (.inr q.2)]
noncomputable def kE (y:(Int×Str)×Int):List zo×PV:=(kQ y.1,.int y.2)
theorem Ae {a b:Int×Str}(h:kQ a=kQ b):a=b:=by
 unfold kQ at h
 injection h with h1 h2
 injection h2 with h2 _
 injection h1 with h1;injection h1 with h1
 injection h2 with h2;injection h2 with h2
 exact Prod.ext h1 h2
theorem Af:∀D:Pl,vX (D.map kE)=some D
 | []=>rfl
 | y::D=>by
  rw[a0]
  show (vX (D.map kE)).bind _=_
  rw[Af D];rfl
noncomputable def look (D:Pl)(q:Int×Str):Option Int:=(D.find? λy=>decide (y.1=q)).map (·.2)
theorem tK (D:Pl)(q:Int×Str):aK (D.map kE) (kQ q)=(look D q).map .int:=by
 unfold aK look
 rw[pp,pz,pz]
 have:((λx:List zo×PV=>decide (x.1=kQ q))∘kE)=λy=>decide (y.1=q):=by
  funext y
  show decide (kQ y.1=kQ q)=decide (y.1=q)
  by_cases h:y.1=q
  ·simp[h]
  ·have:¬ kQ y.1=kQ q:=λz=>h (Ae z)
   simp[h,this]
 rw[this]
 rfl
def o_ (D:Pl)(q:Int×Str)(v:Int):Pl:=if (D.any λy=>decide (y.1=q))=true then D.map (λy=>if y.1=q then (y.1,v) else y) else D++[(q,v)]
theorem Nf (D:Pl)(q:Int×Str)(v:Int):bB (D.map kE) (kQ q) (.int v)=(o_ D q v).map kE:=by
 unfold bB o_
 have:((D.map kE).any λkv=>decide (kv.1=kQ q))=(D.any λy=>decide (y.1=q)):=by
  rw[List.any_map]
  congr 1
  funext y
  show decide (kQ y.1=kQ q)=decide (y.1=q)
  by_cases h:y.1=q
  ·simp[h]
  ·have:¬ kQ y.1=kQ q:=λz=>h (Ae z)
   simp[h,this]
 rw[this]
 by_cases h:(D.any λy=>decide (y.1=q))=true
 ·rw[bb h,bb h,ix,ix]
  refine dQ λy _=>?_
  show (if kQ y.1=kQ q then (kQ y.1,PV.int v) else kE y)=kE (if y.1=q then (y.1,v) else y)
  by_cases h:y.1=q
  ·simp[h,kE]
  ·have:¬ kQ y.1=kQ q:=λz=>h (Ae z)
   simp[h,this]
 ·rw[ay h,ay h,dL];rfl
theorem JX (D:Pl)(q:Int×Str)(v:Int)(x:Int×Str):x∈(o_ D q v).map (·.1)↔x∈D.map (·.1)\/x=q:=by
 unfold o_
 split
 ·rename_i h
  have e:(D.map (λy=>if y.1=q then (y.1,v) else y)).map (·.1)=D.map (·.1):=by
   rw[ix]
   refine dQ λy _=>?_
   show (if y.1=q then (y.1,v) else y).1=y.1
   split <;> rfl
  rw[e]
  refine⟨.inl,λh'=>h'.elim id λz=>?_⟩
  obtain⟨y,hy,hq⟩:=iP.mp h
  rw[z]
  exact b9.mpr ⟨y,hy,by simpa using hq⟩
 ·rw[dL,bo]
  simp
theorem QH {D:Pl}(q:Int×Str)(v:Int)(h:(D.map (·.1)).Nodup):((o_ D q v).map (·.1)).Nodup:=by
 unfold o_
 split
 ·have e:(D.map (λy=>if y.1=q then (y.1,v) else y)).map (·.1)=D.map (·.1):=by
   rw[ix]
   refine dQ λy _=>?_
   show (if y.1=q then (y.1,v) else y).1=y.1
   split <;> rfl
  rw[e];exact h
 ·rename_i hn
  rw[dL,im]
  refine⟨h,by simp,λa ha b hb e=>?_⟩
  simp at hb
  subst hb e
  obtain⟨y,hy,e⟩:=b9.mp ha
  exact hn (iP.mpr ⟨y,hy,by simpa using e⟩)
noncomputable def mn (a b:Int):Int:=if b < a then b else a
def Qr (most:Int)(D:Pl)(n:Int)(q:Int×Str):Pl:=o_ D q (mn most ((look D q).getD 0+n))
structure BN (m:qB)(p:Pl):Prop where
 un:∀y∈p,∃x∈JY m,y.1=B7 x
 ge:∀y∈p,1<=y.2
 nd:(p.map (·.1)).Nodup
theorem Ng (hm:aX m)(hl:m.length<=3):(JY m).length<=52:=by
 have:=(xF hm (by omega)).2
 unfold JY
 simp
 omega
theorem BN.len {p:Pl}(hm:aX m)(hl:m.length<=3)(I:BN m p):p.length<=52:=by
 have h:p.map (·.1) ⊆ (JY m).map B7:=by
  intro q hq
  obtain⟨y,hy,rfl⟩:=b9.mp hq
  obtain⟨x,hx,e⟩:=I.un y hy
  exact b9.mpr ⟨x,hx,e.symm⟩
 have h1:=I.nd.length_le_of_subset h
 have h2:=Ng hm hl
 simp at h1
 omega
theorem Nh {D:Pl}(h:∀y∈D,1<=y.2)(q:Int×Str):0<=(look D q).getD 0:=by
 unfold look
 cases e:D.find? λy=>decide (y.1=q) with
 | none=>simp
 | some y=>have:=h y (ia e);simp;omega
theorem Cv {D:Pl}{q:Int×Str}{v:Int}(h:y∈o_ D q v):y∈D\/y=(q,v):=by
 unfold o_ at h
 split at h
 ·obtain⟨z,hz,e⟩:=b9.mp h
  split at e
  ·rename_i hq;subst hq;exact .inr e.symm
  ·subst e;exact .inl hz
 ·rcases bo.mp h with h | h
  ·exact .inl h
  ·exact .inr (by simpa using h)
theorem Hm (DH:1<=most){D:Pl}(I:BN m D){n:Int}(hn:1<=n){z:Rest}(hz:z∈JY m):BN m (Qr most D n (B7 z)):=by
 refine⟨λy hy=>?_,λy hy=>?_,QH _ _ I.nd⟩
 ·rcases Cv hy with h | h
  ·exact I.un y h
  ·rw[h];exact⟨z,hz,rfl⟩
 ·rcases Cv hy with h | h
  ·exact I.ge y h
  ·rw[h]
   have:=Nh I.ge (B7 z)
   show 1<=mn most _
   unfold mn
   split <;> omega
def Lc (q:Int×Str):Rest:=(q.1.toNat,q.2.cps.toList)
theorem Ag (x:Rest):Lc (B7 x)=x:=by
 obtain⟨a,b⟩:=x
 simp[Lc,B7,Nl]
def Nn (most:Int)(n:Int)(zs:List Rest)(D:Pl):Pl:=zs.foldl (λD z=>Qr most D n (B7 z)) D
def Nw (m:qB)(most:Int)(k:Nat)(D:Pl)(p:Pl):Pl:=p.foldl (λD y=>Nn most y.2 (b_ m (Lc y.1) k) D) D
def dl (m:qB)(most:Int)(p:Pl)(k:Nat):Pl:=sS (Nw m most k [] p)
theorem Ah {m:qB}{most:Int}(DH:1<=most){n:Int}(hn:1<=n):∀(zs:List Rest) (D:Pl),(∀z∈zs,z∈JY m)->BN m D->BN m (Nn most n zs D)/\∀q,q∈(Nn most n zs D).map (·.1)↔q∈D.map (·.1)\/∃z∈zs,q=B7 z
 | [],D,_,I=>⟨I,λq=>by simp[Nn]⟩
 | z::zs,D,hz,I=>by
  have h1:=Hm DH I hn (hz z ar)
  obtain⟨h2,h3⟩:=Ah DH hn zs _ (λy hy=>hz y (am _ hy)) h1
  refine⟨h2,λq=>?_⟩
  have e:Nn most n (z::zs) D=Nn most n zs (Qr most D n (B7 z)):=rfl
  rw[e,h3 q]
  unfold Qr
  rw[JX]
  simp only[be,exists_eq_or_imp]
  constructor
  ·rintro ((h | h) | h)
   ·exact .inl h
   ·exact .inr (.inl h)
   ·exact .inr (.inr h)
  ·rintro (h | h | h)
   ·exact .inl (.inl h)
   ·exact .inl (.inr h)
   ·exact .inr h
theorem Ai {m:qB}(hm:aX m){most:Int}(DH:1<=most)(k:Nat):∀(p D:Pl),(∀y∈p,(∃x∈JY m,y.1=B7 x)/\1<=y.2)->BN m D->BN m (Nw m most k D p)/\∀q,q∈(Nw m most k D p).map (·.1)↔q∈D.map (·.1)\/∃x,B7 x∈p.map (·.1)/\∃z∈b_ m x k,q=B7 z
 | [],D,_,I=>⟨I,λq=>by simp[Nw]⟩
 | y::p,D,hp,I=>by
  obtain⟨⟨x,hx,ex⟩,hn⟩:=hp y ar
  have hu:Lc y.1=x:=by rw[ex,Ag]
  obtain⟨h1,h2⟩:=Ah (m:=m) DH hn (b_ m (Lc y.1) k) D (λz hz=>wk hm (by rw[hu];exact hx) hz) I
  obtain⟨h3,h4⟩:=Ai hm DH k p _ (λz hz=>hp z (am _ hz)) h1
  have e:Nw m most k D (y::p)=Nw m most k (Nn most y.2 (b_ m (Lc y.1) k) D) p:=rfl
  rw[e]
  refine⟨h3,λq=>?_⟩
  rw[h4 q,h2 q,hu]
  simp only[a0,be]
  constructor
  ·rintro ((h | ⟨z,hz,e⟩) | ⟨x',ML,z,hz,e⟩)
   ·exact .inl h
   ·exact .inr ⟨x,.inl ex.symm,z,hz,e⟩
   ·exact .inr ⟨x',.inr ML,z,hz,e⟩
  ·rintro (h | ⟨x',ML | ML,z,hz,e⟩)
   ·exact .inl (.inl h)
   ·rw[ex] at ML
    have:=q9 ML
    subst this
    exact .inl (.inr ⟨z,hz,e⟩)
   ·exact .inr ⟨x',ML,z,hz,e⟩
theorem BN.perm {p q:Pl}(I:BN m p)(h:q.Perm p):BN m q:=⟨λy hy=>I.un y (h.mem_iff.mp hy),λy hy=>I.ge y (h.mem_iff.mp hy),((h.map (·.1)).nodup_iff).mpr I.nd⟩
theorem RN (hm:aX m)(DH:1<=most){p:Pl}(I:BN m p)(k:Nat):BN m (dl m most p k)/\∀q,q∈(dl m most p k).map (·.1)↔∃x,B7 x∈p.map (·.1)/\∃z∈b_ m x k,q=B7 z:=by
 obtain⟨h1,h2⟩:=Ai hm DH k p [] (λy hy=>⟨I.un y hy,I.ge y hy⟩) ⟨(λy hy=>by cases hy),(λy hy=>by cases hy),by simp⟩
 have hp:=GF (Nw m most k [] p)
 refine⟨h1.perm hp,λq=>?_⟩
 unfold dl
 rw[(hp.map (·.1)).mem_iff,h2 q]
 simp
def AH (m:qB)(Bn:List (List zo×PV)):Prop:=∀x∈JY m,∀k,k < 4->(aK Bn (kk x k)).getD (.lst [])=.lst ((b_ m x k).map C9)
theorem Cw (z:Rest):AB [.int (z.1:Nat),.str (Nl z.2)]=some (kQ (B7 z)):=rfl
theorem JZ {w:WS}{N Sd R:PV}{D:Pl}{n:Int}{z:Rest}(hD:D.length < 1000000):
  turn (gN 6) [6] cD (C9 z) [some (w.pv 10),some N,some Sd,some (.dT (D.map kE)),some R,some (.int n),none]=some [some (w.pv 10),some N,some Sd,some (.dT ((Qr w.most D n (B7 z)).map kE)),some R,some (.int n),none]:=by
 have h1:=Nb w [some (w.pv 10),some N,some Sd,some (.dT (D.map kE)),some R,some (.int n),some (C9 z)] (bV 0) rfl
 have h2:=Cw z
 have h3:=tK D (B7 z)
 have h4:=Nf D (B7 z) (mn w.most ((look D (B7 z)).getD 0+n))
 have h5:((look D (B7 z)).map PV.int).getD (.int 0)=.int ((look D (B7 z)).getD 0):=by cases look D (B7 z) <;> rfl
 unfold Qr
 rw[← h4]
 unfold C9 at h1 ⊢
 unfold mn
 generalize w.pv 10=WP at *
 simp[-AB,-f9,cZ,cD,h1,h2,h3,h5,hD]
theorem J0 (hm:aX m)(hl:m.length<=3){w:WS}(ha:AH m w.Bn)(DH:1<=w.most){N:PV}{D:Pl}(I:BN m D){k:Nat}(hk:k < 4)(hy:∃x∈JY m,y.1=B7 x)(hn:1<=y.2):
  turn (gT [4,5]) [4,5,6] cF (Jn y) [some (w.pv 10),some N,some (Cf k),some (.dT (D.map kE)),none,none,none]=some [some (w.pv 10),some N,some (Cf k),some (.dT ((Nn w.most y.2 (b_ m (Lc y.1) k) D).map kE)),none,none,none]:=by
 obtain⟨x,hx,ex⟩:=hy
 have hu:Lc y.1=x:=by rw[ex,Ag]
 have lp:=qy (g:=gN 6) (ds:=[6]) (body:=cD) C9 (λD:Pl=>[some (w.pv 10),some N,some (Cf k),some (.dT (D.map kE)),some (C9 x),some (.int y.2),none]) (λD z=>Qr w.most D y.2 (B7 z))
  (λr D=>BN m D/\∀z∈r,z∈JY m) (b_ m x k) D ⟨I,λz hz=>wk hm hx hz⟩ (λz r D ⟨i1,i2⟩=>⟨⟨Hm DH i1 hn (i2 z ar),λz hz=>i2 z (am _ hz)⟩,JZ (by have:=i1.len hm hl;omega)⟩)
 have h1:=JW w [some (w.pv 10),some N,some (Cf k),some (.dT (D.map kE)),some (C9 x),some (.int y.2),none] (bV 0) rfl
 have h2:=Cu x k
 have h3:=ha x hx k hk
 have e:Jn y=.tup [C9 x,.int y.2]:=by unfold Jn C9;rw[ex];rfl
 rw[e,hu]
 have e2:Nn w.most y.2 (b_ m x k) D=(b_ m x k).foldl (λD z=>Qr w.most D y.2 (B7 z)) D:=rfl
 rw[e2]
 generalize (b_ m x k).foldl (λD z=>Qr w.most D y.2 (B7 z)) D=D2,(b_ m x k).map C9=L,w.pv 10=WP,Cf k=Sd,C9 x=X,kk x k=kx at *
 simp[-AB,-f9,cZ,cF,h1,h2,h3,lp]
theorem RP (hm:aX m)(hl:m.length<=3){w:WS}(ha:AH m w.Bn)(DH:1<=w.most){p:Pl}(I:BN m p)(hp:w.Cn[n]?=some (EK p)){k:Nat}(hk:k < 4):
  aF [w.pv 10,.int n,Cf k]=some (EK (dl m w.most p k)):=by
 have h0:=Ai hm DH k
 have lp:=qy (g:=gT [4,5]) (ds:=[4,5,6]) (body:=cF) Jn (λD:Pl=>[some (w.pv 10),some (.int n),some (Cf k),some (.dT (D.map kE)),none,none,none]) (λD y=>Nn w.most y.2 (b_ m (Lc y.1) k) D)
  (λr D=>BN m D/\∀y∈r,(∃x∈JY m,y.1=B7 x)/\1<=y.2) p [] ⟨⟨(λy hy=>by cases hy),(λy hy=>by cases hy),by simp⟩,λy hy=>⟨I.un y hy,I.ge y hy⟩⟩
  (by
   rintro y r D ⟨i1,i2⟩
   obtain⟨⟨x,hx,ex⟩,hn⟩:=i2 y ar
   have hu:Lc y.1=x:=by rw[ex,Ag]
   exact⟨⟨(Ah DH hn _ D (λz hz=>wk hm (by rw[hu];exact hx) hz) i1).1,λz hz=>i2 z (am _ hz)⟩,J0 hm hl ha DH i1 hk ⟨x,hx,ex⟩ hn⟩)
 have e:p.foldl (λD y=>Nn w.most y.2 (b_ m (Lc y.1) k) D) []=Nw m w.most k [] p:=rfl
 rw[e] at lp
 have hlen:=((h0 p [] (λy hy=>⟨I.un y hy,I.ge y hy⟩) ⟨(λy hy=>by cases hy),(λy hy=>by cases hy),by simp⟩).1).len hm hl
 have hd:=Af (Nw m w.most k [] p)
 have h1:=qG w [some (w.pv 10),some (.int n),some (Cf k),some (.dT []),none,none,none] (bV 0) rfl
 have h2:BY w.Cn (n:Int)=some (EK p):=dG hp
 have ZO:(Nw m w.most k [] p).length < 64:=by omega
 unfold dl
 simp only[iX] at lp
 unfold EK at h2 ⊢
 generalize Nw m w.most k [] p=D2,w.pv 10=WP,Cf k=Sd,p.map Jn=L at *
 simp[-f9,aF,gR,h1,h2,lp,hd,ZO]
def pl (m:qB)(most:Int)(r:Row):Pl:=r.foldl (dl m most) [(B7 (0,[]),1)]
theorem Cy (m:qB)(most:Int)(r:Row)(k:Nat):pl m most (r++[k])=dl m most (pl m most r) k:=by unfold pl;rw[List.foldl_append];rfl
def LU (m:qB):Row->Rest->Rest->Prop
 | [],y,x=>y=x
 | k::r,y,x=>∃z∈b_ m y k,LU m r z x
theorem wu {m:qB}(hm:aX m){most:Int}(DH:1<=most):∀(r:Row) (p:Pl),BN m p->BN m (r.foldl (dl m most) p)/\∀q,q∈(r.foldl (dl m most) p).map (·.1)↔∃y x,B7 y∈p.map (·.1)/\LU m r y x/\q=B7 x
 | [],p,I=>⟨I,λq=>by
  constructor
  ·intro h
   obtain⟨y,hy,e⟩:=b9.mp h
   obtain⟨x,_,ex⟩:=I.un y hy
   exact⟨x,x,by rw[← ex];exact b9.mpr ⟨y,hy,rfl⟩,rfl,by rw[← ex];exact e.symm⟩
  ·rintro ⟨y,x,h,e,rfl⟩
   have e:y=x:=e
   rw[← e];exact h⟩
 | k::r,p,I=>by
  obtain⟨h1,h2⟩:=RN hm DH I k
  obtain⟨h3,h4⟩:=wu hm DH r _ h1
  rw[List.foldl_cons]
  refine⟨h3,λq=>?_⟩
  rw[h4 q]
  constructor
  ·rintro ⟨y,x,hy,hp,e⟩
   obtain⟨z,hz,y',YZ,e'⟩:=(h2 _).mp hy
   have:=q9 e'
   subst this
   exact⟨z,x,hz,⟨y,YZ,hp⟩,e⟩
  ·rintro ⟨y,x,hy,⟨z,hz,hp⟩,e⟩
   exact⟨z,x,(h2 _).mpr ⟨y,hy,z,hz,rfl⟩,hp,e⟩
theorem Hn (AM:m≠[]):(0,[])∈JY m:=by
 have hl:=ga.mpr AM
 refine bn _ (b9.mpr ⟨(0,0,0),C3.mpr ⟨m[0],ai hl,.inl rfl⟩,rfl⟩)
theorem Aj (AM:m≠[]):BN m [(B7 (0,[]),1)]:=by
 refine⟨λy hy=>?_,λy hy=>?_,by simp⟩
 ·rw[av] at hy;subst hy;exact⟨_,Hn AM,rfl⟩
 ·rw[av] at hy;subst hy;exact Int.le_refl _
theorem uV (hm:aX m)(AM:m≠[])(DH:1<=most)(r:Row):BN m (pl m most r):=(wu hm DH r _ (Aj AM)).1
theorem Cz (hm:aX m)(AM:m≠[])(DH:1<=most)(r:Row)(q:Int×Str):q∈(pl m most r).map (·.1)↔∃x,LU m r (0,[]) x/\q=B7 x:=by
 unfold pl
 rw[(wu hm DH r _ (Aj AM)).2 q]
 constructor
 ·rintro ⟨y,x,hy,hp,e⟩
  have:y=(0,[]):=q9 (by simpa using hy)
  subst this
  exact⟨x,hp,e⟩
 ·rintro ⟨x,hp,e⟩
  exact⟨(0,[]),x,by simp,hp,e⟩
noncomputable def rem (L:Nat)(x:Rest):Nat:=if x.2=[] then 3*(L - x.1) else x.2.length+3*(L - x.1 - 1)
theorem CG {L:Nat}{cut:Bool}{l:qf}{y:Rest}(hl:slot < L)(h:y∈OL slot cut l mark ends):rem L y+1<=l.length+3*(L - slot - 1):=by
 unfold OL at h
 split at h
 ·cases h
 ·rename_i c r
  split at h
  ·split at h
   ·rename_i hr
    rw[av] at h
    subst h
    unfold rem
    rw[ay hr]
    simp;omega
   ·split at h
    ·cases h
    ·rw[av] at h
     subst h
     unfold rem
     simp
     rw[Nat.sub_sub];omega
  ·cases h
theorem Ni (hm:aX m){x y:Rest}{k:Nat}(h:y∈b_ m x k):rem m.length y+1<=rem m.length x:=by
 unfold b_ lA at h
 split at h
 ·cases h
 ·rename_i s hs
  have A0:=(af.mp hs).1
  split at h
  ·rename_i hx
   obtain⟨p,hp,h⟩:=eP.mp h
   have h1:=CG A0 h
   have h2:=((hm s (de hs)).ok p hp).le
   rw[jL] at h1
   have:rem m.length x=3*(m.length - x.1):=by unfold rem;rw[bb hx]
   omega
  ·rename_i hx
   have h1:=CG A0 h
   have:rem m.length x=x.2.length+3*(m.length - x.1 - 1):=by unfold rem;rw[ay hx]
   omega
theorem ww {m:qB}(hm:aX m):∀(r:Row) (y x:Rest),LU m r y x->r.length<=rem m.length y
 | [],_,_,_=>cb _
 | k::r,y,x,⟨z,hz,h⟩=>by
  have h1:=ww hm r z x h
  have h2:=Ni hm hz
  simp;omega
theorem RQ (hm:aX m)(AM:m≠[])(hl:m.length<=3)(DH:1<=most)(r:Row)(h:9 < r.length):pl m most r=[]:=by
 cases e:pl m most r with
 | nil=>rfl
 | cons y p=>
  have:y.1∈(pl m most r).map (·.1):=by rw[e];simp
  obtain⟨x,hp,_⟩:=(Cz hm AM DH r _).mp this
  have h1:=ww hm r _ _ hp
  have:rem m.length (0,[])=3*m.length:=by simp[rem]
  omega
theorem wd (hm:aX m)(AM:m≠[])(hl:m.length<=3)(DH:1<=most)(ha:AH m Bn):Wd aF 10 fP Bn most (pl m most):=by
 refine⟨?_,RQ hm AM hl DH,rfl⟩
 intro w n r k s e1 e2 hp hs
 have hk:k < 4:=by
  have:=(af.mp hs).1
  exact this
 rw[QC hk] at hs
 cases hs
 subst e1 e2
 rw[Cy]
 exact RP hm hl ha DH (uV hm AM DH r) hp hk
theorem Nj {w:WS}{p:Pl}(hp:w.Cn[n]?=some (EK p)):aZ [w.pv 10,.int n]=some (.bl (decide (p=[]))):=by
 have h1:=qG w [some (w.pv 10),some (.int n)] (bV 0) rfl
 have h2:BY w.Cn (n:Int)=some (EK p):=dG hp
 unfold EK at h2
 have e:decide ((p.length:Int)=0)=decide (p=[]):=by
  cases p with
  | nil=>rfl
  | cons y p=>simp;omega
 generalize w.pv 10=WP at *
 simp[-f9,aZ,kZ,h1,h2]
 try exact e
theorem Ak:∀p:Pl,oU (p.map Jn)=some (p.map kE)
 | []=>rfl
 | y::p=>by
  rw[a0]
  show (AB [.int y.1.1,.str y.1.2]).bind _=_
  rw[show AB [.int y.1.1,.str y.1.2]=some (kQ y.1) from rfl,aE,Ak p]
  rfl
theorem Al:∀(p q:Pl),((q++p).map (·.1)).Nodup->ik (p.map kE) (q.map kE)=(q++p).map kE
 | [],q,_=>by simp[ik]
 | y::p,q,h=>by
  have hn:aK (q.map kE) (kQ y.1)=none:=by
   rw[tK]
   unfold look
   rw[gL,gL,eW]
   intro z hz e
   rw[dL,im] at h
   exact h.2.2 z.1 (b9.mpr ⟨z,hz,rfl⟩) y.1 (by simp) (by simpa using e)
  have e:ik ((y::p).map kE) (q.map kE)=ik (p.map kE) ((q++[y]).map kE):=by
   show ik (p.map kE) (bB (q.map kE) (kQ y.1) (.int y.2))=_
   rw[jg hn,dL];rfl
  rw[e,Al p (q++[y]) (by simpa using h)]
  simp
theorem CJ {w:WS}{p:Pl}{e:Rest}(hm:aX m)(hl:m.length<=3)(I:BN m p)(hp:w.Cn[n]?=some (EK p))(hf:w.fin=C9 e):bj [w.pv 10,.int n]=some (.int ((look p (B7 e)).getD 0)):=by
 have h1:=qG w [some (w.pv 10),some (.int n)] (bV 0) rfl
 have h0:=QG w [some (w.pv 10),some (.int n)] (bV 0) rfl
 have h2:BY w.Cn (n:Int)=some (EK p):=dG hp
 unfold EK at h2
 have h3:=Ak p
 have h4:=Al p [] (by simpa using I.nd)
 rw[iX,l0] at h4
 have h5:=tK p (B7 e)
 have h6:=Cw e
 have h7:(p.map kE).length<=1000000:=by have:=I.len hm hl;simp;omega
 have h8:((look p (B7 e)).map PV.int).getD (.int 0)=.int ((look p (B7 e)).getD 0):=by cases look p (B7 e) <;> rfl
 rw[hf] at h0
 unfold C9 at h0
 generalize w.pv 10=WP,p.map Jn=L,p.map kE=K at *
 simp[-f9,-AB,bj,iz,h0,h1,h2,h3,h4,h5,h6,h7,h8]
theorem Am {p:Pl}(I:BN m p)(q:Int×Str):(0 < (look p q).getD 0↔q∈p.map (·.1))/\((look p q).getD 0=0↔q∉p.map (·.1)):=by
 unfold look
 cases h:p.find? λy=>decide (y.1=q) with
 | none=>
  have:q∉p.map (·.1):=by
   intro z
   obtain⟨y,hy,e⟩:=b9.mp z
   exact absurd (by simpa using e) (eW.mp h y hy)
  simp[this]
 | some y=>
  have h1:=ia h
  have h2:y.1=q:=by simpa using l4 h
  have h3:=I.ge y h1
  have h4:q∈p.map (·.1):=b9.mpr ⟨y,h1,h2⟩
  simp only[ic,Option.getD_some]
  exact⟨⟨λ_=>h4,λ_=>by omega⟩,⟨λ_=>by omega,λz=>absurd h4 z⟩⟩
def dM (m:qB):Rest:=(m.length,[])
noncomputable def F4 (m:qB)(r:Row):Bool:=@decide (LU m r (0,[]) (dM m)) (Classical.propDecidable _)
theorem EW:F4 m r=true↔LU m r (0,[]) (dM m):=by unfold F4;simp
theorem lC (hm:aX m)(AM:m≠[])(DH:1<=most)(r:Row):B7 (dM m)∈(pl m most r).map (·.1)↔F4 m r=true:=by
 rw[Cz hm AM DH,EW]
 constructor
 ·rintro ⟨x,h,e⟩
  rw[q9 e];exact h
 ·intro h;exact⟨_,h,rfl⟩
theorem CK (w:WS):(List.lookup ("ways_to_end" : Str) [(("ahead" : Str),PV.dT w.Bn),("most",.int w.most),("end",w.fin),("places",.lst w.Cn),("numbers",.dT w.nums),("onward",.dK w.DZ)])=none:=by
 have a1:(("ways_to_end" : Str) == "ahead")=false:=by decide +kernel
 have a2:(("ways_to_end" : Str) == "most")=false:=by decide +kernel
 have a3:(("ways_to_end" : Str) == "end")=false:=by decide +kernel
 have a4:(("ways_to_end" : Str) == "places")=false:=by decide +kernel
 have a5:(("ways_to_end" : Str) == "numbers")=false:=by decide +kernel
 have a6:(("ways_to_end" : Str) == "onward")=false:=by decide +kernel
 simp[List.lookup,a1,a2,a3,a4,a5,a6]
theorem J3 {w1 w2:WS}{i j a b:Int}(h1:bj [w1.pv 10,.int i]=some (.int a))(h2:bj [w2.pv 10,.int j]=some (.int b)):
  aR [.lst [w1.pv 10,w2.pv 10],.tup [.int i,.int j]]=some (.bl (decide (0 < a)&&decide (b=0))):=by
 have l1:=CK w1
 have l2:=CK w2
 unfold WS.pv at *
 by_cases ha:0 < a
 ·simp[-List.lookup,aR,d9,h1,h2,l1,l2,ha]
 ·simp[-List.lookup,aR,d9,h1,h2,l1,l2,ha]
theorem Nk {N:PV}{n:qr}{ss:List PV}(h:Chain D n ss):∀(f:Nat) (acc:List PV),ss.length < f->acc.length+ss.length < 1000->
  ∃n0,jT eY [] jt f [some (.dT D),some N,some (.lst acc),some (BC n)]=some (.nx [some (.dT D),some N,some (.lst (acc++ss.reverse)),some (BC n0)]):=by
 induction h with
 | @nil n h0=>
  intro f acc hf _
  cases f with
  | zero=>simp at hf
  | succ f=>
   have hk:=ir n
   refine⟨n,?_⟩
   unfold BC jT
   have e:eY [some (.dT D),some N,some (.lst acc),some (.tup (n.map .int))]=some false:=by simp[-AB,eY,hk,h0]
   rw[e]
   simp
 | @snoc n n' s ss h0 h1 ih=>
  intro f acc hf ha
  cases f with
  | zero=>simp at hf
  | succ f=>
   have hk:=ir n'
   simp only[bq,jp] at hf ha
   obtain⟨n0,ih⟩:=ih f (acc++[s]) (by omega) (by simp;omega)
   have hl:acc.length < 1000000:=by omega
   refine⟨n0,?_⟩
   rw[List.reverse_append,List.reverse_singleton,oQ]
   rw[fg,oQ] at ih
   rw[← ih]
   conv=>lhs;unfold jT
   unfold BC at h0 ⊢
   have e1:eY [some (.dT D),some N,some (.lst acc),some (.tup (n'.map .int))]=some true:=by simp[-AB,eY,hk,h0]
   have e2:jt [some (.dT D),some N,some (.lst acc),some (.tup (n'.map .int))]=some (.nx [some (.dT D),some N,some (.lst (acc++[s])),some (.tup (n.map .int))]):=by simp[-AB,jt,hk,h0,hl]
   rw[e1]
   simp[e2]
theorem RT {n:qr}{ss:List PV}(h:Chain D n ss)(hl:ss.length<=9):cQ [.dT D,BC n]=some (.lst ss):=by
 obtain⟨n0,key⟩:=Nk (N:=BC n) h 1000000 [] (by omega) (by simp;omega)
 rw[l0] at key
 unfold BC at key ⊢
 generalize n.map PV.int=L,n0.map PV.int=L0 at *
 simp[cQ,xu,key]
theorem J4 (m:qB):bG [mP m]=some (cB (m.length,0,0)):=by simp[bG,lg,mP,cB,EJ]
theorem J5 (m:qB):bO [mP m,gb]=some (C9 (0,[])):=by
 have e:=Cp
 simp[bO,jX,mP,gb,C9,e]
theorem CN (hm:aX m)(AM:m≠[])(hl:m.length<=3)(DH:1<=most):∃w Bn,AH (BB m) Bn/\UQ bF bI bO bG gb (mP m) most=some w/\WI Bn most (C9 (dM (BB m))) (pl (BB m) most) w [pl (BB m) most []]:=by
 obtain⟨c1,c2,c3⟩:=lB hm AM
 obtain⟨D,h1,h2⟩:=JV c1 (by omega)
 have h3:=QF AM hl
 have h4:=J4 (BB m)
 have h5:=wg c1 (t:=((BB m).length,0,0)) (Hk (BB m))
 have h6:=J5 (BB m)
 have h7:AB [.tup [C9 (0,[]),.int 1]]=some (JU (pl (BB m) most [])):=rfl
 refine⟨{ Bn:=D,most:=most,fin:=C9 (dM (BB m)),Cn:=[EK (pl (BB m) most [])],nums:=[(JU (pl (BB m) most []),.int 0)],DZ:=[] },D,h2,?_,WI.new⟩
 unfold UQ
 simp only[h3,aE,h1,h4,h5,h6,h7]
 rfl
theorem mw {one other:qB}(h1:aX one)(n1:one≠[])(l1:one.length<=3)(h2:aX other)(n2:other≠[])(l2:other.length<=3):
  (bD [mP one,mP other]=some .zD/\∀y,C4 y->F4 (BB one) y=true->F4 (BB other) y=true) \/
  ∃x,bD [mP one,mP other]=some (.lst (x.map Cf))/\C4 x/\F4 (BB one) x=true/\F4 (BB other) x=false:=by
 obtain⟨c1,c2,c3⟩:=lB h1 n1
 obtain⟨d1,d2,d3⟩:=lB h2 n2
 obtain⟨w1,a1,YI,e1,I1⟩:=CN h1 n1 l1 (most:=1) (by decide)
 obtain⟨w2,a2,ha2,e2,I2⟩:=CN h2 n2 l2 (most:=1) (by decide)
 have D1:=wd c1 c2 (by omega) (most:=1) (by decide) YI
 have D2:=wd d1 d2 (by omega) (most:=1) (by decide) ha2
 have Fn:(1:Int)<=1:=by decide
 have at_:∀{Bn fin:_}{m:qB}{w:WS}{ps:List Pl}{r:Row},WI Bn 1 fin (pl m 1) w ps->pl m 1 r∈ps->w.Cn[ps.idxOf (pl m 1 r)]?=some (EK (pl m 1 r)):=by
  intro Bn fin m w ps r I h
  rw[I.pe,cm,q8 h];rfl
 have B:=bg2 (io:=aZ) (so:=aR) (ro:=cQ) (f1:=C9 (dM (BB one))) (f2:=C9 (dM (BB other))) (sought:=λr=>F4 (BB one) r&&!F4 (BB other) r) D1 D2
  (λw ps r I h=>Nj (at_ I h))
  (λw1 w2 Ya Yb r I J h g=>by
   have x1:=CJ c1 (by omega) (uV c1 c2 Fn r) (at_ I h) I.fi
   have x2:=CJ d1 (by omega) (uV d1 d2 Fn r) (at_ J g) J.fi
   rw[J3 x1 x2]
   have p1:=(Am (uV c1 c2 Fn r) (B7 (dM (BB one)))).1
   have p2:=(Am (uV d1 d2 Fn r) (B7 (dM (BB other)))).2
   rw[lC c1 c2 Fn] at p1
   rw[lC d1 d2 Fn] at p2
   congr 2
   rw[gc]
   simp[p1,p2])
  (λW n ss h hl=>RT h hl)
 have nil_of:∀{m:qB}{r:Row},aX m->m≠[]->F4 m r=true->pl m 1 r≠[]:=by
  intro m r hm AM h z
  have:=(lC hm AM Fn r).mpr h
  rw[z] at this
  cases this
 have H:=bh2 (sought:=λr=>F4 (BB one) r&&!F4 (BB other) r) D1 D2
  (λx y e1 e2=>by
   have a:F4 (BB one) x=F4 (BB one) y:=by rw[gc,← lC c1 c2 Fn,← lC c1 c2 Fn,e1]
   have b:F4 (BB other) x=F4 (BB other) y:=by rw[gc,← lC d1 d2 Fn,← lC d1 d2 Fn,e2]
   simp only[a,b])
  (by simp[pl])
  (by
   have:F4 (BB one) []=false:=by
    cases h:F4 (BB one) [] with
    | false=>rfl
    | true=>
     have:(0,[])=dM (BB one):=EW.mp h
     have:=d5 Prod.fst this
     have h0:=ga.mpr c2
     simp[dM] at this
     omega
   simp[this])
  (λx k hk e=>by
   rw[Cy,e]
   rfl)
 have ew:bD [mP one,mP other]=Vj aF 10 fP aZ aR cQ [w1,w2]:=by
  unfold bD Jy
  simp only[e1,e2,aE]
 rcases M9 (t:=([pl (BB one) 1 []],[pl (BB other) 1 []])) B H ⟨w1,w2,rfl,I1,I2⟩ (by simp[WV]) ⟨by simp,by simp⟩ with ⟨e,h⟩ | ⟨x,e,IJ,Zu,OK⟩
 ·refine .inl ⟨by rw[ew,e],λy h4 hy=>?_⟩
  have:=h y h4 (by simpa using nil_of c1 c2 hy)
  simp[hy] at this
  exact this
 ·simp only[bE,Bool.not_eq_true'] at OK
  refine .inr ⟨x,?_,IJ,OK.1,OK.2⟩
  rw[ew,e]
  congr 2
  exact dQ λk hk=>S6 (IJ k hk)
noncomputable def bK (cut:Bool):List Nat->Row->Bool
 | [],_=>false
 | _::_,[]=>false
 | c::l,k::a=>AG ⟨#[c]⟩ (Ct k)&&match l with
  | []=>decide (a=[])&&(!cut||EL k)
  | _::_=>bK cut l a
def Seg:List Slot->Row->Prop
 | [],r=>r=[]
 | s::ms,r=>∃p∈s.1,∃a b,r=a++b/\bK s.2 p.cps.toList a=true/\Seg ms b
theorem wz {m:qB}{slot:Nat}{s:Slot}(hs:m[slot]?=some s):∀(l:qf) (r:Row),l≠[]->(LU m r (slot,l) (dM m)↔∃a b,r=a++b/\bK s.2 l a=true/\LU m b (slot+1,[]) (dM m))
 | [],_,h=>absurd rfl h
 | c::l,[],_=>by
  constructor
  ·intro h
   have h:(slot,c::l)=dM m:=h
   cases h
  ·rintro ⟨a,b,e,h,_⟩
   have:a=[]:=(List.append_eq_nil_iff.mp e.symm).1
   subst this
   simp[bK] at h
 | c::l,k::r,_=>by
  have ZP:b_ m (slot,c::l) k=if AG ⟨#[c]⟩ (Ct k)=true then (if l≠[] then [(slot,l)] else if (s.2&&!EL k)=true then [] else [(slot+1,[])]) else []:=by
   unfold b_ lA
   simp only[hs]
   rw[ay (by simp)]
   rfl
  show (∃z∈b_ m (slot,c::l) k,LU m r z (dM m))↔_
  rw[ZP]
  by_cases D3:AG ⟨#[c]⟩ (Ct k)=true
  ·rw[bb D3]
   cases l with
   | nil=>
    rw[ay (by simp)]
    by_cases hc:(s.2&&!EL k)=true
    ·rw[bb hc]
     constructor
     ·rintro ⟨z,hz,_⟩;cases hz
     ·rintro ⟨a,b,e,h,_⟩
      cases a with
      | nil=>simp[bK] at h
      | cons k' a=>
       rw[iF] at e
       injection e with e1 e2
       subst e1
       simp[bK] at h
       simp at hc
       rcases h.2.2 with h | h
       ·rw[hc.1] at h;cases h
       ·rw[hc.2] at h;cases h
    ·rw[ay hc]
     constructor
     ·rintro ⟨z,hz,hp⟩
      rw[av] at hz
      subst hz
      refine⟨[k],r,rfl,?_,hp⟩
      simp[bK,D3]
      cases h1:s.2 <;> cases h2:EL k <;> simp_all
     ·rintro ⟨a,b,e,h,hp⟩
      cases a with
      | nil=>simp[bK] at h
      | cons k' a=>
       rw[iF] at e
       injection e with e1 e2
       subst e1
       simp[bK] at h
       rw[h.2.1,l0] at e2
       subst e2
       exact⟨_,by simp,hp⟩
   | cons c' l=>
    rw[bb (by simp)]
    have ih:=wz hs (c'::l) r (by simp)
    constructor
    ·rintro ⟨z,hz,hp⟩
     rw[av] at hz
     subst hz
     obtain⟨a,b,e,h,hp⟩:=ih.mp hp
     exact⟨k::a,b,by rw[e];rfl,by rw[bK];simp[D3,h],hp⟩
    ·rintro ⟨a,b,e,h,hp⟩
     cases a with
     | nil=>simp[bK] at h
     | cons k' a=>
      rw[iF] at e
      injection e with e1 e2
      subst e1
      rw[bK] at h
      simp[D3] at h
      exact⟨_,by simp,ih.mpr ⟨a,b,e2,h,hp⟩⟩
  ·rw[ay D3]
   constructor
   ·rintro ⟨z,hz,_⟩;cases hz
   ·rintro ⟨a,b,e,h,_⟩
    cases a with
    | nil=>simp[bK] at h
    | cons k' a=>
     rw[iF] at e
     injection e with e1 e2
     subst e1
     unfold bK at h
     simp[D3] at h
theorem lD (h:A3 p):p.cps.toList≠[]:=by
 intro z
 have:=d5 List.length z
 rw[jL] at this
 have:=h.ge
 simp at *
 omega
theorem seg_iff {m:qB}(hm:aX m):∀(n slot:Nat) (r:Row),slot+n=m.length->(LU m r (slot,[]) (dM m)↔Seg (m.drop slot) r)
 | 0,slot,r,h=>by
  have:m.drop slot=[]:=by rw[eT];omega
  rw[this]
  have e:slot=m.length:=by omega
  subst e
  cases r with
  | nil=>exact⟨λ_=>rfl,λ_=>rfl⟩
  | cons k r=>
   constructor
   ·rintro ⟨z,hz,_⟩
    unfold b_ at hz
    rw[Cr] at hz
    cases hz
   ·intro h;cases h
 | n+1,slot,r,h=>by
  have A0:slot < m.length:=by omega
  have hs:m[slot]?=some m[slot]:=ai A0
  have ok:=hm m[slot] (k9 A0)
  rw[ce A0]
  generalize m[slot]=s at *
  have ih:=seg_iff hm n (slot+1)
  show _↔∃p∈s.1,∃a b,r=a++b/\bK s.2 p.cps.toList a=true/\Seg (m.drop (slot+1)) b
  have e:LU m r (slot,[]) (dM m)↔∃p∈s.1,LU m r (slot,p.cps.toList) (dM m):=by
   cases r with
   | nil=>
    constructor
    ·intro z
     have z:(slot,[])=dM m:=z
     have:=d5 Prod.fst z
     simp[dM] at this
     omega
    ·rintro ⟨p,hp,z⟩
     have z:(slot,p.cps.toList)=dM m:=z
     exact absurd (d5 Prod.snd z) (lD (ok.ok p hp))
   | cons k r=>
    have h1:b_ m (slot,[]) k=s.1.flatMap λp=>OL slot s.2 p.cps.toList (Ct k) (EL k):=by
     unfold b_ lA;simp only[hs];rfl
    have h2:∀p∈s.1,b_ m (slot,p.cps.toList) k=OL slot s.2 p.cps.toList (Ct k) (EL k):=by
     intro p hp
     unfold b_ lA;simp only[hs];rw[ay (lD (ok.ok p hp))]
    constructor
    ·rintro ⟨z,hz,hp⟩
     rw[h1] at hz
     obtain⟨p,Uv,hz⟩:=eP.mp hz
     exact⟨p,Uv,z,by rw[h2 p Uv];exact hz,hp⟩
    ·rintro ⟨p,Uv,z,hz,hp⟩
     rw[h2 p Uv] at hz
     exact⟨z,by rw[h1];exact eP.mpr ⟨p,Uv,hz⟩,hp⟩
  rw[e]
  constructor
  ·rintro ⟨p,hp,h⟩
   obtain⟨a,b,e1,e2,e3⟩:=(wz hs _ r (lD (ok.ok p hp))).mp h
   exact⟨p,hp,a,b,e1,e2,(ih b (by omega)).mp e3⟩
  ·rintro ⟨p,hp,a,b,e1,e2,e3⟩
   exact⟨p,hp,(wz hs _ r (lD (ok.ok p hp))).mpr ⟨a,b,e1,e2,(ih b (by omega)).mpr e3⟩⟩
theorem An (hm:aX m)(r:Row):F4 m r=true↔Seg m r:=by
 rw[EW]
 have:=seg_iff hm m.length 0 r (by omega)
 rw[mm] at this
 exact this
noncomputable def gh (r:Row):Bool:=(r.getLast?.map EL).getD false
theorem Es (k:Nat)(r:Row)(h:r≠[]):gh (k::r)=gh r:=by
 unfold gh
 rw[List.getLast?_cons,df h]
 rfl
theorem xJ (a b:Row)(h:b≠[]):gh (a++b)=gh b:=by
 unfold gh
 rw[List.getLast?_append,df h]
 rfl
theorem Nm {cut:Bool}:∀{l:qf}{a:Row},bK cut l a=true->a≠[]
 | [],_,h=>by simp[bK] at h
 | _::_,[],h=>by simp[bK] at h
 | _::_,_::_,_=>by simp
theorem ph {c:Bool}:∀(l:qf) (a:Row),bK true l a=(bK c l a&&gh a)
 | [],_=>by simp[bK]
 | _::_,[]=>by simp[bK]
 | x::[],k::a=>by
  cases a with
  | nil=>simp[bK,gh];cases EL k <;> simp
  | cons=>simp[bK]
 | x::y::l,k::a=>by
  rw[bK,bK]
  rw[ph (c:=c) (y::l) a]
  cases a with
  | nil=>simp[bK]
  | cons j a=>rw[Es k (j::a) (by simp),Bool.and_assoc]
theorem Ao:∀{ms:qB}{r:Row},ms≠[]->Seg ms r->r≠[]
 | [],_,h,_=>absurd rfl h
 | s::ms,r,_,⟨p,hp,a,b,e,h,_⟩=>by
  have:=Nm h
  rw[e]
  simp[this]
theorem wA (ps:qq)(c:Bool):∀(ms:qB) (r:Row),Seg (ms++[(ps,true)]) r↔Seg (ms++[(ps,c)]) r/\gh r=true
 | [],r=>by
  constructor
  ·rintro ⟨p,hp,a,b,e,h,hb⟩
   have hb:b=[]:=hb
   subst hb
   rw[bS] at e
   subst e
   rw[ph (c:=c)] at h
   simp at h
   exact⟨⟨p,hp,r,[],by simp,h.1,rfl⟩,h.2⟩
  ·rintro ⟨⟨p,hp,a,b,e,h,hb⟩,hl⟩
   have hb:b=[]:=hb
   subst hb
   rw[bS] at e
   subst e
   exact⟨p,hp,r,[],by simp,by rw[ph (c:=c)];simp[h,hl],rfl⟩
 | s::ms,r=>by
  constructor
  ·rintro ⟨p,hp,a,b,e,h,hb⟩
   obtain⟨h1,h2⟩:=(wA ps c ms b).mp hb
   exact⟨⟨p,hp,a,b,e,h,h1⟩,by rw[e,xJ a b (Ao (by simp) hb)];exact h2⟩
  ·rintro ⟨⟨p,hp,a,b,e,h,hb⟩,hl⟩
   exact⟨p,hp,a,b,e,h,(wA ps c ms b).mpr ⟨hb,by rw[e,xJ a b (Ao (by simp) hb)] at hl;exact hl⟩⟩
theorem wB (AM:m≠[])(r:Row):Seg (BB m) r↔Seg m r/\gh r=true:=by
 have e:m=m.dropLast++[((m.getLast AM).1,(m.getLast AM).2)]:=(ja AM).symm
 have e2:BB m=m.dropLast++[((m.getLast AM).1,true)]:=by unfold BB;rw[df AM];rfl
 rw[e2]
 conv=>rhs;rw[e]
 exact wA _ _ _ r
theorem q_ {cut:Bool}:∀(l:qf) (a:Row),l≠[]->(bK cut l a=true↔a.length=l.length/\(∀k,k < l.length->AG ⟨#[l.getD k 0]⟩ (Ct (a.getD k 0))=true)/\(cut=true->EL (a.getD (l.length - 1) 0)=true))
 | [],_,h=>absurd rfl h
 | c::l,[],_=>by simp[bK]
 | c::[],k::a,_=>by
  cases a with
  | nil=>
   simp[bK]
   intro _
   cases cut <;> simp
  | cons=>simp[bK]
 | c::d::l,k::a,_=>by
  rw[bK]
  simp only[bE]
  rw[q_ (d::l) a (by simp)]
  constructor
  ·rintro ⟨h1,h2,h3,h4⟩
   refine⟨by simp at h2 ⊢;omega,?_,?_⟩
   ·intro j hj
    cases j with
    | zero=>exact h1
    | succ j=>exact h3 j (by simp at hj ⊢;omega)
   ·intro z
    exact h4 z
  ·rintro ⟨h1,h2,h3⟩
   refine⟨h2 0 (by simp),by simp at h1 ⊢;omega,λj hj=>h2 (j+1) (by simp at hj ⊢;omega),λz=>h3 z⟩
noncomputable def rP (r:Row):PV:=.lst (r.map Cf)
noncomputable def OM (r:Row)(i:Nat)(p:Str)(cut:Bool):Bool:=decide (i+p.length<=r.length)&&((!cut||EL (r.getD (i+p.length - 1) 0))&&(List.range p.length).all λk=>AG (cG p k) (Ct (r.getD (i+k) 0)))
theorem wC {i:Nat}{cut:Bool}(hp:A3 p):OM r i p cut=true↔i+p.length<=r.length/\bK cut p.cps.toList ((r.drop i).take p.length)=true:=by
 unfold OM
 simp only[bE,eB,gt,bX]
 have Zm:=hp.ge
 constructor
 ·rintro ⟨h1,h2,h3⟩
  refine⟨h1,(q_ _ _ (lD hp)).mpr ⟨?_,?_,?_⟩⟩
  ·rw[jL,g9,gs];omega
  ·intro k hk
   rw[jL] at hk
   have:=h3 k hk
   rw[br (l:=List.take _ _),kG,bb hk,kH,← br]
   exact this
  ·intro hc
   rw[jL,br,kG,bb (by omega),kH,← br,show i+(p.length - 1)=i+p.length - 1 by omega]
   simpa [hc] using h2
 ·rintro ⟨h1,h2⟩
  obtain⟨a,b,c⟩:=(q_ _ _ (lD hp)).mp h2
  refine⟨h1,?_,?_⟩
  ·cases hc:cut with
   | false=>rfl
   | true=>
    have:=c hc
    rw[jL,br,kG,bb (by omega),kH,← br,show i+(p.length - 1)=i+p.length - 1 by omega] at this
    simp[-List.getD_eq_getElem?_getD,this]
  ·intro k hk
   have:=b k (by rw[jL];exact hk)
   rw[br (l:=List.take _ _),kG,bb hk,kH,← br] at this
   exact this
theorem QJ {k:Nat}(h:k < r.length):BY (r.map Cf) (k:Int)=some (Cf (r.getD k 0)):=by
 refine dG ?_
 rw[cm,ai h]
 simp[h]
theorem J6 (n:Nat)(f:Nat->Bool):(((List.range n).filter λk=>!f k)=[])↔(List.range n).all f=true:=by
 rw[List.filter_eq_nil_iff,gt]
 simp
theorem QK (l:qf)(h:l.length < 1000):HA (.lst (l.map λk=>PV.int (k:Nat))) (.lst [])=some (decide (l=[])):=by
 cases l with
 | nil=>exact Mz
 | cons k l=>
  rw[a0]
  have:=rM (n:=1) (x:=.int (k:Nat)) (xs:=l.map λk=>PV.int (k:Nat)) (by
   simp only[DO]
   intro x hx
   rcases be.mp hx with rfl | hx
   ·simp[DO]
   ·obtain⟨j,_,rfl⟩:=b9.mp hx;simp[DO]) (by decide)
  rw[this]
  simp
theorem Np (hr:r.length < 1000){i:Nat}(hi:i < 1000)(hp:A3 p)(cut:Bool):a_ [rP r,.int i,.str p,.bl cut]=some (.bl (OM r i p cut)):=by
 have A2:p.length<=1000000:=by have:=hp.le;omega
 have Zm:=hp.ge
 have hle:=hp.le
 by_cases h1:i+p.length<=r.length
 ·have hx:¬ (r.length:Int) < (i:Int)+p.length:=by omega
  have ea:((i:Int)+p.length - 1)=((i+p.length - 1:Nat):Int):=by omega
  have h2:=QJ (r:=r) (k:=i+p.length - 1) (by omega)
  rw[← ea] at h2
  have comp:cO [none,some (.str p),some (rP r),some (.int i)] (gN 0) je jd ((List.range p.length).map λk=>PV.int (k:Nat))=some (((List.range p.length).filter λk=>!AG (cG p k) (Ct (r.getD (i+k) 0))).map λk=>PV.int (k:Nat)):=by
   refine ql _ _ (λk=>!AG (cG p k) (Ct (r.getD (i+k) 0))) (List.range p.length) λk hk=>⟨_,rfl,?_,λ_=>by simp[jd]⟩
   have F0:=bX.mp hk
   have h3:=QJ (r:=r) (k:=i+k) (by omega)
   have h3:BY (r.map Cf) ((i:Int)+(k:Int))=some (Cf (r.getD (i+k) 0)):=by exact_mod_cast h3
   have h4:=Hc F0
   have h5:oH (.str (cG p k)) (.tup [.str "x",.str (Ct (r.getD (i+k) 0))])=some (AG (cG p k) (Ct (r.getD (i+k) 0))):=by
    have:=qz (cG p k) ["x",Ct (r.getD (i+k) 0)]
    rw[show ([("x" : Str),Ct (r.getD (i+k) 0)].map PV.str)=[.str "x",.str (Ct (r.getD (i+k) 0))] from rfl] at this
    rw[this]
    unfold AG
    congr 1
    rw[gc]
    simp[or_comm]
   unfold cG at h5
   unfold rP
   rw[show Cf (r.getD (i+k) 0)=.tup [.str (Ct (r.getD (i+k) 0)),.bl (EL (r.getD (i+k) 0))] from rfl] at h3
   generalize Ct (r.getD (i+k) 0)=mk,EL (r.getD (i+k) 0)=en at *
   simp[-List.getD_eq_getElem?_getD,je,h3,h4,A2,h5,cG]
  have en:=QK ((List.range p.length).filter λk=>!AG (cG p k) (Ct (r.getD (i+k) 0))) (by have:=List.length_filter_le (λk=>!AG (cG p k) (Ct (r.getD (i+k) 0))) (List.range p.length);simp at this ⊢;omega)
  have fa:=J6 p.length λk=>AG (cG p k) (Ct (r.getD (i+k) 0))
  have hrg:HE (p.length:Int)=true:=nj (by omega) (by omega)
  have hrl:((List.range p.length).map λk=>PV.int (k:Nat)).length<=1000000:=by simp;omega
  have hrn:=lu p.length
  unfold OM
  rw[hU h1,Bool.true_and]
  unfold rP at comp ⊢
  rw[show Cf (r.getD (i+p.length - 1) 0)=.tup [.str (Ct (r.getD (i+p.length - 1) 0)),.bl (EL (r.getD (i+p.length - 1) 0))] from rfl] at h2
  generalize (List.range p.length).map (λk=>PV.int (k:Nat))=RR,hF:((List.range p.length).filter λk=>!AG (cG p k) (Ct (r.getD (i+k) 0)))=F at *
  have e3:(List.range p.length).all (λk=>AG (cG p k) (Ct (r.getD (i+k) 0)))=decide (F=[]):=by
   rw[gc,← fa];simp
  rw[e3]
  generalize F.map (λk=>PV.int (k:Nat))=FF,Ct (r.getD (i+p.length - 1) 0)=mk,EL (r.getD (i+p.length - 1) 0)=ee at *
  cases cut <;> cases ee <;> simp[-List.getD_eq_getElem?_getD,a_,lq,A2,hx,h2,hrg,hrn,hrl,comp,en]
 ·have hx:(r.length:Int) < (i:Int)+p.length:=by omega
  have:OM r i p cut=false:=by unfold OM;simp[h1]
  rw[this]
  simp[a_,lq,rP,A2,hx]
structure DN (N:Nat)(kvs:List (Key×PV))(K:Nat->Prop):Prop where
 en:∀e∈kvs,∃i:Nat,e.1=.inl (i:Int)
 vl:∀(i:Nat),K i->∃n:Int,1<=n/\aK kvs (.inl (i:Int))=some (.int n)
 no:∀(i:Nat),¬ K i->aK kvs (.inl (i:Int))=none
 ln:kvs.length<=N
variable {kvs:List (Key×PV)}
theorem DN.mem {N:Nat}{K:Nat->Prop}(I:DN N kvs K){i:Nat}:K i↔∃v,(.inl (i:Int),v)∈kvs:=by
 constructor
 ·intro h
  obtain⟨n,_,e⟩:=I.vl i h
  unfold aK at e
  obtain⟨y,hy,_⟩:=bP.mp e
  have h2:y.1=.inl (i:Int):=by simpa using l4 hy
  exact⟨y.2,by rw[← h2];exact ia hy⟩
 ·rintro ⟨v,hv⟩
  refine Classical.byContradiction λh=>?_
  have:=oZ (I.no i h)
  rw[kM] at this
  exact this _ hv (by simp)
theorem DN.put {N:Nat}{K:Nat->Prop}(I:DN N kvs K)(j:Nat){u:Int}(hu:1<=u):DN (N+1) (bB kvs (.inl (j:Int)) (.int u)) λi=>K i\/i=j:=by
 have inj:∀{a b:Nat},(.inl (a:Int):Key)=.inl (b:Int)->a=b:=λh=>by injection h with h;omega
 refine⟨?_,?_,?_,?_⟩
 ·intro e he
  unfold bB at he
  split at he
  ·obtain⟨z,hz,rfl⟩:=b9.mp he
   split
   ·exact I.en z hz
   ·exact I.en z hz
  ·rcases bo.mp he with he | he
   ·exact I.en e he
   ·rw[av] at he;subst he;exact⟨j,rfl⟩
 ·intro i h
  rw[qF]
  by_cases e:i=j
  ·subst e;exact⟨u,hu,by rw[bb rfl]⟩
  ·rw[ay λz=>e (inj z)]
   exact I.vl i (h.resolve_right e)
 ·intro i h
  rw[qF,ay λz=>h (.inr (inj z))]
  exact I.no i λz=>h (.inl z)
 ·have:=Ad kvs (.inl (j:Int)) (.int u)
  have:=I.ln
  omega
theorem DN.imp {N M:Nat}{K K':Nat->Prop}(I:DN N kvs K)(h:∀i,K i↔K' i)(hN:N<=M):DN M kvs K':=⟨I.en,λi hi=>I.vl i ((h i).mpr hi),λi hi=>I.no i λz=>hi ((h i).mp z),dn I.ln hN⟩
section
variable {r:Row}(hr:r.length < 900)
include hr
theorem ZQ {i:Nat}(hi:i < 900){m:Int}(hm:1<=m){cut:Bool}:∀(ps:qq) (kvs:List (Key×PV)) (K:Nat->Prop) (N:Nat),(∀p∈ps,A3 p)->N+ps.length < 1000->DN N kvs K->
  ∃GO,jC a_ (rP r) (.bl cut) (i:Int) m (ps.map .str) kvs=some GO/\DN (N+ps.length) GO λj=>K j\/∃p∈ps,OM r i p cut=true/\j=i+p.length
 | [],kvs,K,N,_,_,I=>⟨kvs,rfl,I.imp (λj=>by simp) (by simp)⟩
 | p::ps,kvs,K,N,hp,hN,I=>by
  have Vn:=hp p ar
  have hf:=Np (r:=r) (by omega) (i:=i) (by omega) Vn cut
  simp only[bv] at hN
  cases Yc:OM r i p cut with
  | false=>
   rw[Yc] at hf
   obtain⟨GO,h1,h2⟩:=ZQ hi hm ps kvs K N (λq hq=>hp q (am _ hq)) (by omega) I
   refine⟨GO,?_,h2.imp (λj=>?_) (by simp)⟩
   ·rw[a0,jC]
    have:oV a_ (rP r) (.bl cut) (i:Int) m (.str p) kvs=some kvs:=by
     unfold oV
     rw[hf];rfl
    rw[this];exact h1
   ·simp[Yc]
  | true=>
   rw[Yc] at hf
   have hu:∃u:Int,0<=u/\(aK kvs (.inl ((i:Int)+p.length))).getD (.int 0)=.int u:=by
    have e:((i:Int)+p.length)=((i+p.length:Nat):Int):=by omega
    rw[e]
    by_cases hk:K (i+p.length)
    ·obtain⟨n,hn,e⟩:=I.vl _ hk
     exact⟨n,by omega,by rw[e];rfl⟩
    ·exact⟨0,by omega,by rw[I.no _ hk];rfl⟩
   obtain⟨u,hu0,hu⟩:=hu
   have I2:=I.put (i+p.length) (u:=u+m) (by omega)
   obtain⟨GO,h1,h2⟩:=ZQ hi hm ps _ _ (N+1) (λq hq=>hp q (am _ hq)) (by omega) I2
   refine⟨GO,?_,h2.imp (λj=>?_) (by simp;omega)⟩
   ·rw[a0,jC]
    have:oV a_ (rP r) (.bl cut) (i:Int) m (.str p) kvs=some (bB kvs (.inl ((i+p.length:Nat):Int)) (.int (u+m))):=by
     unfold oV
     rw[hf]
     simp only[aE,hu]
     have h3:=Vn.le
     have h4:=I.ln
     rw[bb ⟨by omega,by omega⟩]
     rfl
    rw[this];exact h1
   ·simp only[be,exists_eq_or_imp,Yc,true_and,or_assoc]
theorem mf2 {cut:Bool}{ps:qq}(ok:A5 ps){all:List (Key×PV)}{KA:Nat->Prop}{NA:Nat}(A:DN NA all KA)(hKA:∀i,KA i->i < 900):∀(ws kvs:List (Key×PV)) (K:Nat->Prop) (N:Nat),(∀e∈ws,e∈all)->N+4*ws.length < 1000->DN N kvs K->
  ∃GO,jD a_ (rP r) (.bl cut) (ps.map .str) all ws kvs=some GO/\DN (N+4*ws.length) GO λj=>K j\/∃i:Nat,(∃v,(.inl (i:Int),v)∈ws)/\∃p∈ps,OM r i p cut=true/\j=i+p.length
 | [],kvs,K,N,_,_,I=>⟨kvs,rfl,I.imp (λj=>by simp) (by simp)⟩
 | (k,v)::ws,kvs,K,N,hw,hN,I=>by
  obtain⟨i,hi⟩:=A.en _ (hw _ ar)
  simp only at hi
  subst hi
  have hKi:KA i:=A.mem.mpr ⟨v,hw _ ar⟩
  obtain⟨m,hm,em⟩:=A.vl i hKi
  simp only[bv] at hN
  have hl:=ok.le
  obtain⟨k1,h1,I1⟩:=ZQ hr (hKA i hKi) hm (cut:=cut) ps kvs K N ok.ok (by omega) I
  obtain⟨k2,h2,I2⟩:=mf2 (cut:=cut) ok A hKA ws k1 _ (N+ps.length) (λe he=>hw e (am _ he)) (by omega) I1
  refine⟨k2,?_,I2.imp (λj=>?_) (by simp;omega)⟩
  ·unfold jD
   simp only[em,h1,aE,h2]
  ·constructor
   ·rintro ((h | ⟨p,hp,h3,h4⟩) | ⟨i',⟨v',OB⟩,h⟩)
    ·exact .inl h
    ·exact .inr ⟨i,⟨v,ar⟩,p,hp,h3,h4⟩
    ·exact .inr ⟨i',⟨v',am _ OB⟩,h⟩
   ·rintro (h | ⟨i',⟨v',OB⟩,h⟩)
    ·exact .inl (.inl h)
    ·rcases be.mp OB with e | OB
     ·have:i'=i:=by injection e with e _;injection e with e;omega
      subst this
      exact .inl (.inr h)
     ·exact .inr ⟨i',⟨v',OB⟩,h⟩
theorem mf3:∀(ms:qB) (w:List (Key×PV)) (K:Nat->Prop) (N:Nat),aX ms->N*4 ^ ms.length < 900->(∀i,K i->i<=r.length)->DN N w K->
  ∃w',gQ a_ (rP r) (ms.map A4) w=some w'/\DN (N*4 ^ ms.length) w' λj=>∃i,K i/\∃a b,r.drop i=a++b/\Seg ms a/\j=i+a.length
 | [],w,K,N,_,_,hK,I=>⟨w,rfl,I.imp (λj=>by
   constructor
   ·intro h;exact⟨j,h,[],r.drop j,rfl,rfl,by simp⟩
   ·rintro ⟨i,h,a,b,e,hs,rfl⟩
    have hs:a=[]:=hs
    subst hs
    simpa using h) (by simp)⟩
 | s::ms,w,K,N,hm,hN,hK,I=>by
  have ok:=hm s ar
  have Qb:1<=4 ^ ms.length:=Nat.pos_of_ne_zero (by simp)
  rw[bv,Nat.pow_succ] at hN
  have hN4:N*4 < 900:=by
   have:N*4*1<=N*4*4 ^ ms.length:=Nat.mul_le_mul_left _ Qb
   have e:N*(4 ^ ms.length*4)=N*4*4 ^ ms.length:=by rw[p9 (4 ^ ms.length),p4]
   omega
  have hl:=I.ln
  obtain⟨w1,h1,I1⟩:=mf2 hr (cut:=s.2) ok I (λi h=>by have:=hK i h;omega) w [] (λ_=>False) 0 (λe he=>he) (by omega) ⟨(λe he=>by cases he),λi h=>h.elim,λi _=>rfl,by simp⟩
  have I1':DN (N*4) w1 λj=>∃i,K i/\∃p∈s.1,OM r i p s.2=true/\j=i+p.length:=I1.imp (λj=>by
   constructor
   ·rintro (h | ⟨i,hi,h⟩)
    ·exact h.elim
    ·exact⟨i,I.mem.mpr hi,h⟩
   ·rintro ⟨i,hi,h⟩
    exact .inr ⟨i,I.mem.mp hi,h⟩) (by omega)
  obtain⟨w2,h2,I2⟩:=mf3 ms w1 _ (N*4) (λt ht=>hm t (am _ ht)) (by
   have e:N*(4 ^ ms.length*4)=N*4*4 ^ ms.length:=by rw[p9 (4 ^ ms.length),p4]
   omega) (by
   rintro j ⟨i,hi,p,hp,hf,rfl⟩
   exact((wC (ok.ok p hp)).mp hf).1) I1'
  refine⟨w2,?_,I2.imp (λj=>?_) (by
   have e:N*(4 ^ ms.length*4)=N*4*4 ^ ms.length:=by rw[p9 (4 ^ ms.length),p4]
   rw[bv,Nat.pow_succ];omega)⟩
  ·rw[a0]
   show (jD a_ (rP r) (.bl s.2) (s.1.map .str) w w []).bind _=_
   rw[h1];exact h2
  ·constructor
   ·rintro ⟨i',⟨i,hi,p,hp,hf,rfl⟩,a,b,e,hs,rfl⟩
    obtain⟨f1,f2⟩:=(wC (ok.ok p hp)).mp hf
    have e0:r.drop i=(r.drop i).take p.length++r.drop (i+p.length):=by rw[← mB,List.take_append_drop]
    refine⟨i,hi,(r.drop i).take p.length++a,b,by rw[fg,← e,← e0],⟨p,hp,_,a,rfl,f2,hs⟩,?_⟩
    rw[bq,g9,gs]
    omega
   ·rintro ⟨i,hi,a,b,e,⟨p,hp,a1,a2,rfl,hf,hs⟩,rfl⟩
    have hlen:a1.length=p.length:=by rw[((q_ _ _ (lD (ok.ok p hp))).mp hf).1,jL]
    have hle:i+p.length<=r.length:=by
     have:=d5 List.length e
     have:=hK i hi
     simp at *
     omega
    have e1:(r.drop i).take p.length=a1:=by rw[e,fg,← hlen,List.take_left'];rfl
    have e2:r.drop (i+p.length)=a2++b:=by rw[← mB,e,fg,← hlen,List.drop_left'];rfl
    exact⟨i+p.length,⟨i,hi,p,hp,(wC (ok.ok p hp)).mpr ⟨hle,by rw[e1];exact hf⟩,rfl⟩,a2,b,e2,hs,by simp;omega⟩
theorem CP (hm:aX m)(hl:m.length<=3):∃n:Int,0<=n/\cX [mP m,rP r]=some (.int n)/\(0 < n↔Seg m r):=by
 have h4:1*4 ^ m.length < 900:=by
  have:m.length=0\/m.length=1\/m.length=2\/m.length=3:=by omega
  rcases this with h | h | h | h <;> rw[h] <;> decide
 obtain⟨w,h1,I⟩:=mf3 hr m [(.inl 0,.int 1)] (λi=>i=0) 1 hm h4 (λi h=>by omega) ⟨λe he=>by rw[av] at he;subst he;exact⟨0,rfl⟩,λi h=>by subst h;exact⟨1,by omega,rfl⟩,λi h=>by
   have:¬ ((0:Int)=(i:Int)):=by omega
   simp[aK,this],by simp⟩
 have key:(∃i,i=0/\∃a b,r.drop i=a++b/\Seg m a/\r.length=i+a.length)↔Seg m r:=by
  constructor
  ·rintro ⟨i,rfl,a,b,e,hs,hlen⟩
   rw[mm] at e
   have:b=[]:=by
    have:=d5 List.length e
    simp at this
    exact fE.mp (by omega)
   rw[this,bS] at e
   rw[e];exact hs
  ·intro h
   exact⟨0,rfl,r,[],by simp,h,by simp⟩
 have e:cX [mP m,rP r]=some ((aK w (.inl (r.length:Nat))).getD (.int 0)):=by
  show (gQ a_ (.lst (r.map Cf)) (m.map A4) [(.inl 0,.int 1)]).bind _=_
  have h1:gQ a_ (.lst (r.map Cf)) (m.map A4) [(.inl 0,.int 1)]=some w:=h1
  rw[h1]
  simp
 by_cases hs:Seg m r
 ·obtain⟨n,hn,en⟩:=I.vl r.length (key.mpr hs)
  exact⟨n,by omega,by rw[e,en];rfl,λ_=>hs,λ_=>by omega⟩
 ·have:=I.no r.length λz=>hs (key.mp z)
  exact⟨0,by omega,by rw[e,this];rfl,λz=>by omega,λz=>absurd z hs⟩
end
theorem Et (k:Nat):DO 1 (Cf k):=by
 have h1:PyData.strOk ("u" : Str)=true:=by decide +kernel
 have h2:PyData.strOk ("-" : Str)=true:=by decide +kernel
 unfold Cf Ct
 split <;> simp[DO,h1,h2]
theorem J7 {X:PV}{k:Nat}:turn (gN 1) [1] eF (Cf k) [some X,none]=some [some X,none]:=by
 have h1:oH (.str (Ct k)) (.tup [.str "u",.str "-"])=some true:=by
  have:=qz (Ct k) ["u","-"]
  rw[show ([("u" : Str), "-"].map PV.str)=[.str "u",.str "-"] from rfl] at this
  rw[this]
  unfold Ct
  split <;> simp
 unfold Cf
 generalize Ct k=mk at *
 simp[cZ,eF,h1,Cc,C1,sI]
theorem J8 {x:Row}(AM:x≠[])(hl:gh x=true):gf [rP x]=some (.bl true):=by
 have h0:x.map Cf≠[]:=by simpa using AM
 have h1:=xH h0
 have e:(x.map Cf).getLast?=some (Cf (x.getLast AM)):=by rw[List.getLast?_map,df AM];rfl
 rw[e] at h1
 have hE:EL (x.getLast AM)=true:=by
  unfold gh at hl
  rw[df AM] at hl
  exact hl
 rw[show Cf (x.getLast AM)=.tup [.str (Ct (x.getLast AM)),.bl (EL (x.getLast AM))] from rfl,hE] at h1
 have h2:HA (.lst (x.map Cf)) (.lst [])=some false:=by
  cases x with
  | nil=>exact absurd rfl AM
  | cons k x=>
   rw[a0]
   refine rM (n:=1) ?_ (by decide)
   simp only[DO]
   intro z hz
   rcases be.mp hz with rfl | hz
   ·exact Et k
   ·obtain⟨j,_,rfl⟩:=b9.mp hz;exact Et j
 have h3:=rK (g:=gN 1) (ds:=[1]) (body:=eF) (env:=[some (.lst (x.map Cf)),none]) Cf x (λy _=>J7)
 unfold rP
 generalize x.map Cf=X at *
 simp[gf,nQ,C2,sI,h1,h2,h3]
theorem wF (ns:qr)(k:Nat):∃c,bu [.frz (ns.map PV.int),.int k]=some (.int c):=by
 by_cases h:k < ns.length
 ·have h1:BY (ns.map PV.int) (k:Int)=some (.int ns[k]):=dG (by simp[h])
  have h2:(k:Int) < ns.length:=by omega
  exact⟨ns[k],by simp[bu,iD,h1,h]⟩
 ·have h2:¬ (k:Int) < ns.length:=by omega
  exact⟨0,by simp[bu,iD,h]⟩
theorem J9 (ns:qr)(a b:Option Int):∃cs:List Int,dI (ns.map PV.int) a b=cs.map PV.int/\cs.length<=ns.length:=by
 refine⟨(ns.drop (HT.AK ns.length 0 a)).take (HT.AK ns.length ns.length b - HT.AK ns.length 0 a),?_,by simp;omega⟩
 unfold dI
 rw[List.map_take,List.map_drop,aI]
def GM (m:qB):Prop:=aX m/\m≠[]/\m.length<=3
noncomputable def UX (m:qB):List Slot:=m.map λs=>(s.1.reverse,s.2)
noncomputable def Vq (m:qB):List Slot:=m.map λs=>(s.1,false)
theorem GM.map {m:qB}(h:GM m)(f:Slot->Slot)(hf:∀s,A5 s.1->A5 (f s).1):GM (m.map f):=by
 refine⟨λs hs=>?_,by simpa using h.2.1,by simpa using h.2.2⟩
 obtain⟨t,ht,rfl⟩:=b9.mp hs
 exact hf t (h.1 t ht)
theorem QL {ps:qq}(ok:A5 ps):A5 ps.reverse:=⟨by simpa using ok.ne,by simpa using ok.le,λp hp=>ok.ok p (by simpa using hp)⟩
theorem wG (f:Slot->Slot)(hf:∀s p a,p∈s.1->bK s.2 p.cps.toList a=true->p∈(f s).1/\bK (f s).2 p.cps.toList a=true):∀(m:qB) (r:Row),Seg m r->Seg (m.map f) r
 | [],r,h=>h
 | s::m,r,⟨p,hp,a,b,e,h1,h2⟩=>⟨p,(hf s p a hp h1).1,a,b,e,(hf s p a hp h1).2,wG f hf m b h2⟩
theorem Nq {cut:Bool}{a:Row}(h:bK cut p.cps.toList a=true):bK false p.cps.toList a=true:=by
 cases cut with
 | false=>exact h
 | true=>rw[ph (c:=false)] at h;simp at h;exact h.1
theorem QM (x:Row):DO 2 (rP x):=by
 unfold rP
 simp only[DO]
 intro z hz
 obtain⟨j,_,rfl⟩:=b9.mp hz
 exact Et j
theorem NC (ns:qr)(h:ns.length<=63):uQ [.frz (ns.map PV.int)]=some (.bl true):=by
 obtain⟨c0,So⟩:=wF ns 0
 obtain⟨c1,WW⟩:=wF ns 1
 obtain⟨c8,Yd⟩:=wF ns 8
 obtain⟨one,o1,o2,o3,ho⟩:=zR c0
 obtain⟨as,ha,_⟩:=J9 ns (some 2) (some 8)
 have So:bu [.frz (ns.map PV.int),.int 0]=some (.int c0):=So
 have WW:bu [.frz (ns.map PV.int),.int 1]=some (.int c1):=WW
 have Yd:bu [.frz (ns.map PV.int),.int 8]=some (.int c8):=Yd
 obtain⟨m0,q,e1,e2⟩:∃m0,GM m0/\(c1 % 4=0->dz [.int (c1 / 4),.int 3]=some (mP m0))/\(¬ c1 % 4=0->m0=one):=by
  by_cases h4:c1 % 4=0
  ·obtain⟨m,p1,p2,p3,hp⟩:=zR (c1 / 4)
   exact⟨m,⟨p1,p2,p3⟩,λ_=>hp,λz=>absurd h4 z⟩
  ·exact⟨one,⟨o1,o2,o3⟩,λz=>absurd z h4,λ_=>rfl⟩
 generalize hS:PV.frz (ns.map PV.int)=Sc at So WW Yd
 obtain⟨other,⟨r1,r2,r3⟩,KL⟩:=fQ (g:=gN 3) (ds:=[3]) (body:=sX) PV.int (λm:List Slot=>[some Sc,some (mP one),some (mP m),none,none,none,none,none,none])
  (λ_ m=>GM m)
  (by
   rintro c r m ⟨i1,i2,i3⟩
   obtain⟨m',a1,a2,a3,a4⟩:=Er i1 i2 i3 c
   exact⟨m',⟨a1,a2,by omega⟩,by simp[cZ,sX,a4]⟩) as m0 q
 have c1':=(lB o1 o2).1
 have of1:∀y,F4 (BB one) y=true↔Seg one y/\gh y=true:=λy=>by rw[An c1',wB o2]
 have ZR:∀same,GM same->(∀y,Seg one y->Seg same y)->bD [mP one,mP same]=some .zD:=by
  intro same ⟨s1,s2,s3⟩ LB
  rcases mw o1 o2 o3 s1 s2 s3 with ⟨e,_⟩ | ⟨x,_,x1,x2,x3⟩
  ·exact e
  ·have hx:=(of1 x).mp x2
   rw[(An (lB s1 s2).1 x).mpr ((wB s2 x).mpr ⟨LB x hx.1,hx.2⟩)] at x3
   cases x3
 have done:zP [some Sc,none,none,none,none,none,none,none,none]=some (.rt (.bl true)):=by
  unfold zP
  refine(cu (e:=[some Sc,some (mP one),none,none,none,none,none,none,none]) (by simp[So,ho])).trans ?_
  refine(cu (e:=[some Sc,some (mP one),some (mP one),none,none,none,none,none,none]) (by simp)).trans ?_
  refine(cu (e:=[some Sc,some (mP one),some (mP m0),none,none,none,none,none,none]) (by
   by_cases h4:c1 % 4=0
   ·simp[WW,h4,e1 h4]
   ·simp[WW,h4,e2 h4])).trans ?_
  refine(cu (e:=[some Sc,some (mP one),some (mP other),none,none,none,none,none,none]) (by rw[← hS] at KL ⊢;simp[ha,KL])).trans ?_
  rcases mw o1 o2 o3 r1 r2 r3 with ⟨e,hn⟩ | ⟨x,e,x1,x2,x3⟩
  ·rw[JB (by simp[e])]
   show aQ _ _ [some Sc,some (mP one),some (mP other),none,some .zD,none,none,none,none]=_
   refine(LS (by simp)).trans ?_
   have g6:cO [none] (gN 0) fH sY (one.map A4)=some ((UX one).map A4):=by
    unfold UX
    rw[ix]
    exact jB _ _ _ λs _=>⟨[some (A4 s)],rfl,by simp[sY,A4]⟩
   have g7:cO [none] (gN 0) fH sZ (one.map A4)=some ((Vq one).map A4):=by
    unfold Vq
    rw[ix]
    exact jB _ _ _ λs _=>⟨[some (A4 s)],rfl,by simp[sZ,A4]⟩
   have LP:one.length<=1000000:=by omega
   refine(cu (e:=[some Sc,some (mP one),some (mP other),none,some .zD,none,some (mP (UX one)),none,none]) (by simp[mP,g6,LP])).trans ?_
   refine(cu (e:=[some Sc,some (mP one),some (mP other),none,some .zD,none,some (mP (UX one)),some (mP (Vq one)),none]) (by simp[mP,g7,LP])).trans ?_
   obtain⟨same,hg,LB,Sm⟩:∃same,GM same/\(∀y,Seg one y->Seg same y)/\BY [mP one,mP (UX one),mP (Vq one)] (c8 % 3)=some (mP same):=by
    have k3:c8 % 3=0\/c8 % 3=1\/c8 % 3=2:=by omega
    rcases k3 with k | k | k <;> rw[k]
    ·exact⟨one,⟨o1,o2,o3⟩,λy hy=>hy,rfl⟩
    ·exact⟨UX one,GM.map ⟨o1,o2,o3⟩ _ λs ok=>QL ok,wG (λs=>(s.1.reverse,s.2)) (λs p a hp hf=>⟨by simpa using hp,hf⟩) one,rfl⟩
    ·exact⟨Vq one,GM.map ⟨o1,o2,o3⟩ _ λs ok=>ok,wG (λs=>(s.1,false)) (λs p a hp hf=>⟨hp,Nq hf⟩) one,rfl⟩
   have hw:=ZR same hg LB
   refine(cu (e:=[some Sc,some (mP one),some (mP other),none,some .zD,none,some (mP (UX one)),some (mP (Vq one)),some (mP same)]) (by simp[Yd,Sm])).trans ?_
   simp[hw]
  ·have hx:=(of1 x).mp x2
   have OC:¬ Seg other x:=λz=>by
    rw[(An (lB r1 r2).1 x).mpr ((wB r2 x).mpr ⟨z,hx.2⟩)] at x3;cases x3
   have hlen:x.length < 900:=by
    have:=ww c1' x _ _ (EW.mp x2)
    have e:rem (BB one).length (0,[])=3*(BB one).length:=by simp[rem]
    have:=(lB o1 o2).2.2
    omega
   have i1:=J8 (Ao o2 hx.1) hx.2
   obtain⟨n,n1,n2,n3⟩:=CP (r:=x) hlen o1 o3
   obtain⟨k,k1,k2,k3⟩:=CP (r:=x) hlen r1 r3
   have hn:¬ n=0:=by have:=n3.mpr hx.1;omega
   have hk:¬ 0 < k:=λz=>OC (k3.mp z)
   have eqr:=zQ (QM x) (by decide)
   unfold rP at i1 n2 k2 eqr
   have RE:(x.map Cf).length < 1000000:=by simp;omega
   rw[JC (by simp[e];rfl)]
   generalize x.map Cf=X at *
   show aQ _ _ [some Sc,some (mP one),some (mP other),none,some (.lst X),none,none,none,none]=_
   refine Mx ?_
   simp[HC,i1,n2,k2,hn,hk,RE,e,eqr]
 simp[uQ,done]
noncomputable def top (i:Nat):Stmt:=PySem.Challenge.pw_lilt_k80_what_tells_metres_apart.main.body.getD i (.Pass ⟨0,0,0,0⟩)
abbrev gj:=top 21
abbrev pq:=top 20
abbrev mF:=top 22
abbrev iH:=top 23
abbrev du:=inClass (top 12) 2
abbrev eN:=inClass (top 12) 1
abbrev gH:=inClass (top 12) 3
abbrev dY:=top 14
abbrev fc:=inClass (top 12) 5
abbrev fj:=top 16
abbrev iI:=inClass (top 12) 4
abbrev tL:=top 13
abbrev mG:=top 15
abbrev iJ:=top 9
abbrev jw:=top 3
abbrev mH:=top 2
abbrev jh:=top 5
abbrev lE:=top 4
abbrev pA:=top 6
abbrev qH:=top 10
abbrev gJ:=top 11
abbrev gO:=inClass (top 12) 0
abbrev ji:=top 17
abbrev jk:=top 19
abbrev jl:=top 24
abbrev jM:=top 27
abbrev jx:=top 25
abbrev gP:=top 26
abbrev lR:=top 28
abbrev Ku:List Str:=["_law_script","_law_one","_law_other","_law_cell","_law_found","_law_kept","_law_turned","_law_uncut","_law_same"]
noncomputable section
structure FR where
 k:Nat
 x:Str
 ps:List Str
 m:List PV->Option PV
 st:Stmt
abbrev sx:FR:=⟨1, "_law_pattern",["_law_number"],cj,gj⟩
abbrev sw:FR:=⟨1, "_law_mix",["_law_cell","_law_k"],gC,pq⟩
abbrev tJ:FR:=⟨2, "_law_slot",["_law_number"],iu,mF⟩
abbrev tF:FR:=⟨3, "_law_metre",["_law_cell","_law_most"],dz,iH⟩
abbrev sB:FR:=⟨2, "is_of_first_alone",["walks","node"],aR,fj⟩
abbrev t4:FR:=⟨1, "with_last_cut",["metre"],bF,iJ⟩
abbrev t3:FR:=⟨1, "states_of",["metre"],iB,jw⟩
abbrev sA:FR:=⟨1, "end_state",["metre"],bG,mH⟩
abbrev t0:FR:=⟨1, "state_behind",["metre","state","ends"],dH,jh⟩
abbrev tT:FR:=⟨1, "stands_for",["sign","mark"],eU,lE⟩
abbrev tP:FR:=⟨2, "moves_of",["metre","state","mark","ends"],dJ,pA⟩
abbrev sC:FR:=⟨1, "rest_of",["metre","state"],bO,qH⟩
abbrev tj:FR:=⟨1, "_law_cell_at",["_law_script","_law_k"],bu,jk⟩
abbrev tm:FR:=⟨2, "_law_changed",["_law_metre_here","_law_cell"],fK,jl⟩
abbrev tw:FR:=⟨1, "_law_is_row",["_law_found"],gf,jM⟩
abbrev tq:FR:=⟨1, "_law_fits",["_law_row","_law_at","_law_pattern_here","_law_cut"],a_,jx⟩
abbrev tz:FR:=⟨2, "_law_many_feet",["_law_metre_here","_law_row"],cX,gP⟩
abbrev vb:FR:=⟨7, "law",["_law_script"],uQ,lR⟩
theorem uW:zI ["_law_number"] sx.ps (aC gj):=DL
theorem Bk:zI ["_law_cell","_law_k"] sw.ps (aC pq):=DL
theorem t5:zI ["_law_number","_law_patterns","_law_k","_law_one"] tJ.ps (aC mF):=DL
theorem xP:zI ["_law_cell","_law_most"] tF.ps (aC iH):=DL
theorem lF:zI ["self","place"] ["self","place"] (aC du):=DL
theorem AD:zI ["self","number","said","ways","rest","many","reached"] ["self","number","said"] (aC eN):=DL
theorem wH:zI ["self","number"] ["self","number"] (aC gH):=DL
theorem wc:zI ["walks","node","later"] ["walks","node"] (aC dY):=DL
theorem pB:zI ["self","number"] ["self","number"] (aC fc):=DL
theorem pC:zI ["walks","node"] sB.ps (aC fj):=DL
theorem tQ:zI ["self","number"] ["self","number"] (aC iI):=DL
theorem t9:zI ["ways","node","backwards","at"] ["ways","node"] (aC tL):=DL
theorem rg:zI ["walks","is_sought","start","ways","nodes","later","node","said","reached"] ["walks","is_sought"] (aC mG):=DL
theorem tR:zI ["metre"] t4.ps (aC iJ):=DL
theorem r9:zI ["metre","states","slot","told","number","pattern"] t3.ps (aC jw):=DL
theorem Aq:zI ["metre"] sA.ps (aC mH):=DL
theorem vi:zI ["metre","state","ends","slot","behind"] t0.ps (aC jh):=DL
theorem xQ:zI ["sign","mark"] tT.ps (aC lE):=DL
theorem rL:zI ["metre","state","mark","ends","slot","at","patterns","numbers","moves","number","reached"] tP.ps (aC pA):=DL
theorem Eu:zI ["metre","state"] sC.ps (aC qH):=DL
theorem sD:zI ["metre","ahead","state","said","moves"] ["metre"] (aC gJ):=DL
theorem B3:zI ["self","metre","most","closed"] ["self","metre","most"] (aC gO):=DL
theorem uX:zI ["one","other"] ["one","other"] (aC ji):=DL
theorem uY:zI ["_law_script","_law_k"] tj.ps (aC jk):=DL
theorem qV:zI ["_law_metre_here","_law_cell","_law_at","_law_patterns","_law_cut","_law_number","_law_more"] tm.ps (aC jl):=DL
theorem wb:zI ["_law_found","_law_step"] tw.ps (aC jM):=DL
theorem Ar:zI ["_law_row","_law_at","_law_pattern_here","_law_cut"] tq.ps (aC jx):=DL
theorem rj:zI ["_law_metre_here","_law_row","_law_ways","_law_patterns","_law_cut","_law_later","_law_at","_law_pattern_here"] tz.ps (aC gP):=DL
theorem q5:zI ["_law_script","_law_one","_law_other","_law_cell","_law_found","_law_kept","_law_turned","_law_uncut","_law_same"] vb.ps (aC lR):=DL
structure Z7 where
 P:Program
 w:World
 K:W.Frag
 mg:Str->Option Value
 base:Heap
 cl:Nat->Addr
 BO:Addr
 CA:Addr
section
variable (Z:Z7)(r:FR)(f:Addr)(fd:FuncData)
abbrev ca:=IL Z.P Z.w Z.K Z.mg Z.base r.k r.x r.ps (CO ⟨Z.K,Z.cl⟩ r.m false)
abbrev fu:=DA Z.K r.x r.x r.st f fd
abbrev fo:=AX Z.P Z.w Z.K Z.mg Z.base ED r.k f fd r.ps (CO ⟨Z.K,Z.cl⟩ r.m false)
structure Zq:Prop where
 sF:Z.mg "bool" = none
 sK:Z.mg "dict" = none
 se:Z.mg "enumerate" = none
 rV:Z.mg "isinstance" = none
 gV:Z.mg "len" = none
 rS:Z.mg "list" = none
 sL:Z.mg "min" = none
 re:Z.mg "range" = none
 rX:Z.mg "reversed" = none
 sM:Z.mg "sorted" = none
 qS:Z.mg "tuple" = none
 sf:Z.mg "zip" = none
 rh:Z.mg "SAID" = some (.ref Z.BO)
 sh:Z.mg "START" = some (.ref Z.CA)
 uS:∀(B:Addr->Prop) (H:Hp),Rep ⟨Z.K,Z.cl⟩ B H (.ref Z.BO) uP
 va:∀(B:Addr->Prop) (H:Hp),Rep ⟨Z.K,Z.cl⟩ B H (.ref Z.CA) gb
 AQ:II Z.K (Z.cl 10)
 si:∀t k,(t,k)∈C1->W.kitOne Z.K (.type t) (.type "bool")=some k
 sj:∀t k,(t,k)∈C2->W.kitOne Z.K (.type t) (.type "list")=some k
 sv:∀t k,(t,k)∈Cc->W.kitOne Z.K (.type t) (.type "tuple")=some k
 DU:AO Z.K (Z.cl 10) "ahead"
 Fs:AO Z.K (Z.cl 10) "end"
 EM:AO Z.K (Z.cl 10) "most"
 Fu:AO Z.K (Z.cl 10) "numbers"
 FL:AO Z.K (Z.cl 10) "onward"
 A6:AO Z.K (Z.cl 10) "places"
 DV:qi ⟨Z.K,Z.cl⟩ Z.BO fP
structure wq:Prop extends Zq Z where
 ua:ca Z sw
 ub:ca Z sx
structure wo:Prop extends Zq Z where
 ua:ca Z sw
 xb:ca Z tJ
structure wf:Prop extends Zq Z where
 ze:EA Z.P Z.w Z.K Z.mg Z.base (Z.cl 10) 1 "number_of_place" ["self","place"] (qT ⟨Z.K,Z.cl⟩)
 zh:EA Z.P Z.w Z.K Z.mg Z.base (Z.cl 10) 1 "place_behind" ["self","number","said"] (CO ⟨Z.K,Z.cl⟩ aF false)
structure wS:Prop extends Zq Z where
 zd:EA Z.P Z.w Z.K Z.mg Z.base (Z.cl 10) 2 "later" ["self","number"] (uH ⟨Z.K,Z.cl⟩ 10 aF fP)
structure wv:Prop extends Zq Z where
 vT:EA Z.P Z.w Z.K Z.mg Z.base (Z.cl 10) 1 "ways_to_end" ["self","number"] (CO ⟨Z.K,Z.cl⟩ bj false)
structure wt:Prop extends Zq Z where
 uj:ca Z sB
 xi:IL Z.P Z.w Z.K Z.mg Z.base 3 "nodes_behind" ["walks","node"] (zF ⟨Z.K,Z.cl⟩ 10 aF fP)
 xo:IL Z.P Z.w Z.K Z.mg Z.base 1 "row_to" ["ways","node"] (CO ⟨Z.K,Z.cl⟩ cQ true)
 y9:EA Z.P Z.w Z.K Z.mg Z.base (Z.cl 10) 1 "is_over" ["self","number"] (CO ⟨Z.K,Z.cl⟩ aZ false)
structure wP:Prop extends Zq Z where
 ui:ca Z sA
 xp:ca Z tT
 xt:ca Z t0
structure wT:Prop extends Zq Z where
 xh:ca Z tP
 sg:ca Z sC
 xw:ca Z t3
structure we:Prop extends Zq Z where
 ui:ca Z sA
 sg:ca Z sC
 xl:IL Z.P Z.w Z.K Z.mg Z.base 3 "rests_ahead" ["metre"] (CO ⟨Z.K,Z.cl⟩ bI true)
 xy:ca Z t4
structure wE:Prop extends Zq Z where
 xc:IL Z.P Z.w Z.K Z.mg Z.base 4 "first_row" ["walks","is_sought"] (Jv Z.mg "is_of_first_alone" ⟨Z.K,Z.cl⟩ 10 aF fP aZ aR cQ)
 uj:ca Z sB
 ND:Up Z.P Z.w Z.K Z.mg Z.base (Z.cl 10) 4 "Walk" ["self","metre","most"] (v6 ⟨Z.K,Z.cl⟩ 10 bF bI bO bG gb)
structure wm:Prop extends Zq Z where
 ub:ca Z sx
structure wn:Prop extends Zq Z where
 w8:ca Z tq
structure wx:Prop extends Zq Z where
 sN:ca Z tj
 w4:ca Z tm
 w9:ca Z tw
 vj:ca Z tz
 vk:ca Z tF
 uk:IL Z.P Z.w Z.K Z.mg Z.base 6 "metre_within" ["one","other"] (Vl ⟨Z.K,Z.cl⟩ bD)
end
section
variable {Z:Z7}{f:Addr}{fd:FuncData}
theorem uZ (F:fu Z sx f fd)(T:Zq Z):fo Z sx f fd:=by
 refine FA F uW [] [] [] λhr=>?_
 exact(aN (bN (Li gZ (i_ (Bz:=(aC gj)) (ON:=["_law_number"]) (N:=["_law_k","_law_number"]) (zS:=[none,some 0]) UA (vP 0) (xY T.re (eQ ak (cV (cV (aa 0) ak) ak))) (λ_ _ _ _=>qp 0) (λ_ _ _ _=>iZ) (λ_ _ _ _=>(aO hr gZ (cV (j_ (aa 1) (aO hr (fM (aj ak (aj ak (aj ak (aj ak aJ))))) (aa 0))) ak)))))))
theorem Bl (F:fu Z sw f fd)(T:Zq Z):fo Z sw f fd:=by
 refine FA F Bk [] [] [] λhr=>?_
 exact(aN (bN (cV (eQ (uw (cV (aa 0) ak) (eQ ak (uw (uw ak (aa 1)) (aa 1)))) (uw ak (aa 1))) ak)))
theorem Av (F:fu Z tJ f fd)(T:wq Z):fo Z tJ f fd:=by
 refine FA F t5 [1] [1] [] λhr=>?_
 exact(aH (m_ 1 t5.nd (fM aJ)) (aH (jo [2,3] (xY T.re (eQ ak (cV (aa 0) ak))) (sH 2 t5.nd) (aH (bZ 3 t5.nd (bw T.ub hr (aj (bw T.ua hr (aj (j_ (aa 0) ak) (aj (aa 2) aJ))) aJ))) (aN (e_ (bz (lO (aa 3) (lY 1))) (aN (uB 1 (aa 3))) cH))) db) (aN (bN (cg (aj (kO T.qS (lY 1)) (aj (h_ (dC hr (cV (j_ (aa 0) ak) ak) ak)) aJ)))))))
theorem xR (F:fu Z tF f fd)(T:wo Z):fo Z tF f fd:=by
 refine FA F xP [] [] [] λhr=>?_
 exact(aN (bN (kO T.qS (i_ (Bz:=(aC iH)) (ON:=["_law_cell","_law_most"]) (N:=["_law_k","_law_cell","_law_most"]) (zS:=[none,some 0,some 1]) UA (vP 0) (xY T.re (eQ ak (cV (aa 0) (aa 1)))) (λ_ _ _ _=>qp 0) (λ_ _ _ _=>iZ) (λ_ _ _ _=>(bw T.xb hr (aj (bw T.ua hr (aj (j_ (aa 1) (aa 2)) (aj (aa 0) aJ))) aJ)))))))
theorem lG (F:DA Z.K "number_of_place" "Walk.number_of_place" du f fd)(T:Zq Z):AX Z.P Z.w Z.K Z.mg Z.base ED 1 f fd ["self","place"] (qT ⟨Z.K,Z.cl⟩):=by
 refine F.ok lF (λvs H Q E h=>GJ h) (λCM A' outer s H vs Q E hr h=>⟨Jd Z.K,?_,LC h⟩)
 exact aV (qJ (tZ (pX (dq hr) (pv 1) (fY Z.K (pv 0)))) (aV (mV (dq hr) (fY Z.K (pv 0)) (pv 1) (dg (jz Z.K) rfl T.gV hW (aB (fY Z.K (pv 0)) aL)) rfl) (bU (qI (Gg Z.K iL kr kz jy (fY Z.K (pv 0)) (aB (pv 1) aL))))) jZ) (bU (gA (qM (dq hr) (fY Z.K (pv 0)) (pv 1) (λ_ _=>rfl))))
theorem nT (F:DA Z.K "place_behind" "Walk.place_behind" eN f fd)(T:Zq Z):AX Z.P Z.w Z.K Z.mg Z.base ED 1 f fd ["self","number","said"] (CO ⟨Z.K,Z.cl⟩ aF false):=by
 refine FA F AD [3] [3] [] λhr=>?_
 exact(aH (m_ 3 AD.nd Kg) (aH (jo [4,5,6] (lZ (aO hr (m9 (c:=10) T.AQ T.A6 (aa 0)) (aa 1))) (DG (fO 4 AD.nd (fO 5 AD.nd qQ))) (aN (jo [6] (lZ (vU hr (m9 (c:=10) T.AQ T.DU (aa 0)) (cg (aj (aa 4) (aj (aa 2) aJ))) (SE.val (fM aJ)))) (sH 6 AD.nd) (aN (Kl 3 hr (aa 6) (Pu T.sL (m9 (c:=10) T.AQ T.EM (aa 0)) (eQ (vU hr (lY 3) (aa 6) ak) (aa 5))))) db)) db) (aN (bN (kO T.qS (Jc hr T.sM (lY 3)))))))
theorem wI (F:DA Z.K "later" "Walk.later" gH f fd)(T:wf Z):AX Z.P Z.w Z.K Z.mg Z.base ED 2 f fd ["self","number"] (uH ⟨Z.K,Z.cl⟩ 10 aF fP):=by
 refine F.ok wH (λvs H Q E h=>GP h) (λCM A' outer s H vs Q E hr h=>⟨Je ⟨Z.K,Z.cl⟩ 10 aF Z.BO,?_,LK T.DV h⟩)
 exact aV (qJ (tZ (pX (dq hr) (pv 1) (fY Z.K (pv 0)))) (bU (mV (dq hr) (fY Z.K (pv 0)) (pv 1) (qN (Bz:=(aC gH)) (ON:=["self","number"]) (N:=["said","self","number"]) (zS:=[none,some 0,some 1]) ⟨rfl,by decide +kernel,by decide +kernel,by decide +kernel,by decide +kernel⟩ (t_ (jY rfl T.rh rfl)) (λ_ _ _ _=>cI (i:=0) (show (["said","self","number"]:qq).Nodup by decide +kernel) rfl (e9 rfl)) (λ_ _ _ _=>j8) (λ_ _ _ _=>qW T.ze T.AQ hr (pv 1) (aB (qW T.zh T.AQ hr (pv 1) (aB (pv 2) (aB (pv 0) aL))) aL))) rfl)) jZ) (bU (gA (qM (dq hr) (fY Z.K (pv 0)) (pv 1) (λ_ _=>rfl))))
theorem u5 (F:DA Z.K "nodes_behind" "nodes_behind" dY f fd)(T:wS Z):AX Z.P Z.w Z.K Z.mg Z.base ED 3 f fd ["walks","node"] (zF ⟨Z.K,Z.cl⟩ 10 aF fP):=by
 refine F.ok wc (λvs H Q E h=>Jh h) (λCM A' outer s H vs Q E hr h=>⟨Zd ⟨Z.K,Z.cl⟩ 10 aF fP Z.BO,?_,Ql T.DV (by decide) h⟩)
 exact aV (dO (i:=2) wc.nd rfl (.inr rfl) (qN (Bz:=(aC dY)) (ON:=["walks","node","later"]) (N:=["walk","number"]) (zS:=[none,none]) ⟨rfl,by decide +kernel,by decide +kernel,by decide +kernel,by decide +kernel⟩ (BP (k1:=.L) (k2:=.T) rfl T.sf (aB (pv 0) (aB (pv 1) aL))) (λ_ _ _ _=>pP rfl (d7 (cI (i:=0) (show (["walk","number"]:qq).Nodup by decide +kernel) rfl (e9 rfl)) (d7 (cI (i:=1) (show (["walk","number"]:qq).Nodup by decide +kernel) rfl (e9 rfl)) mJ))) (λ_ _ _ _=>j8) (λ_ _ _ _=>qW T.zd T.AQ hr (pv 0) (aB (pv 1) aL)))) (bU (gA (Jx (Bz:=(aC dY)) (z := "at") (ON:=["walks","node","later"]) (N:=["at","later"]) (zS:=[none,some 2]) ⟨rfl,by decide +kernel,by decide +kernel,by decide +kernel,λ_ _=>rfl,λ_=>rfl,by decide +kernel,by decide +kernel⟩ (wM rfl T.re (aB (dg (jz Z.K) rfl T.gV hW (aB (jY rfl T.rh rfl) aL)) aL)) (λ_ _ _ _=>cI (i:=0) (show (["at","later"]:qq).Nodup by decide +kernel) rfl (fb rfl)) (λ_ _ _ _=>j8) (λ_ _ _ _=>wU pG rfl T.qS iN (aB (qN (Bz:={ kind:=.function,names:=[(".0",.local),("at",.cell),("tuple",.globalImplicit),("later",.cell)],isGenerator:=false,isCoroutine:=false }) (ON:=["at","later"]) (N:=["numbers","at"]) (zS:=[none,some 0]) ⟨rfl,by decide +kernel,by decide +kernel,by decide +kernel,by decide +kernel⟩ (vy (pv 1)) (λ_ _ _ _=>cI (i:=0) (show (["numbers","at"]:qq).Nodup by decide +kernel) rfl (e9 rfl)) (λ_ _ _ _=>j8) (λ_ _ _ _=>ul (rY Z.K) (pv 0) (pv 1) (λ_ _=>rfl))) aL)))))
theorem pD (F:DA Z.K "ways_to_end" "Walk.ways_to_end" fc f fd)(T:Zq Z):AX Z.P Z.w Z.K Z.mg Z.base ED 1 f fd ["self","number"] (CO ⟨Z.K,Z.cl⟩ bj false):=by
 refine FA F pB [] [] [] λhr=>?_
 exact(aN (bN (vU hr (Jk hr T.sK (aO hr (m9 (c:=10) T.AQ T.A6 (aa 0)) (aa 1))) (m9 (c:=10) T.AQ T.Fs (aa 0)) ak)))
theorem pF (F:fu Z sB f fd)(T:wv Z):fo Z sB f fd:=by
 refine FA F pC [] [] [] λhr=>?_
 exact(aN (bN (Ph (h_ (ux (za (c:=10) T.vT T.AQ hr (aO hr (aa 0) ak) (aj (aO hr (aa 1) ak) aJ)) ak)) (Gk (h_ (dC hr (za (c:=10) T.vT T.AQ hr (aO hr (aa 0) ak) (aj (aO hr (aa 1) ak) aJ)) ak))))))
theorem tU (F:DA Z.K "is_over" "Walk.is_over" iI f fd)(T:Zq Z):AX Z.P Z.w Z.K Z.mg Z.base ED 1 f fd ["self","number"] (CO ⟨Z.K,Z.cl⟩ aZ false):=by
 refine FA F tQ [] [] [] λhr=>?_
 exact(aN (bN (h_ (dC hr (cW T.gV (aO hr (m9 (c:=10) T.AQ T.A6 (aa 0)) (aa 1))) ak))))
theorem Ho (F:DA Z.K "row_to" "row_to" tL f fd)(T:Zq Z):AX Z.P Z.w Z.K Z.mg Z.base ED 1 f fd ["ways","node"] (CO ⟨Z.K,Z.cl⟩ cQ true):=by
 refine FA F t9 [2] [2] [] λhr=>?_
 exact(aH (m_ 2 t9.nd (fM aJ)) (aH (bZ 3 t9.nd (aa 1)) (aH (Ln 1000000 [] (bz (oA (aO hr (aa 0) (aa 3)) mX)) (aH (uB 2 (aO hr (aO hr (aa 0) (aa 3)) ak)) (aN (bZ 3 t9.nd (aO hr (aO hr (aa 0) (aa 3)) ak)))) db) (aN (Pn (Im T.rS T.rX (lY 2)))))))
theorem Aw (F:DA Z.K "first_row" "first_row" mG f fd)(T:wt Z):AX Z.P Z.w Z.K Z.mg Z.base ED 4 f fd ["walks","is_sought"] (Jv Z.mg "is_of_first_alone" ⟨Z.K,Z.cl⟩ 10 aF fP aZ aR cQ):=by
 refine F.ok rg (λvs H Q E h=>by obtain⟨fS,_,F,cs,ws,out,wl,rfl,_⟩:=h;rfl) (λCM A' outer s H vs Q E hr h=>?_)
 obtain⟨fS,ZG,h⟩:=h
 refine⟨Zs ⟨Z.K,Z.cl⟩ 10 aF fP aZ aR cQ fS Z.BO,?_,Qt T.DV h⟩
 exact aV (dO (i:=2) rg.nd rfl (.inl rfl) (Ka LQ (pU (aB dB aL)) (dg (jz Z.K) rfl T.gV hW (aB (pv 0) aL))))
  (aV (dO (i:=3) rg.nd rfl (.inl rfl) (BR (dq hr) (pv 2) yw))
  (aV (dO (i:=4) rg.nd rfl (.inl rfl) (pW (aB (pv 2) aL)))
  (aV (yC db (tZ (QV (dg (jz Z.K) rfl T.gV hW (aB (pv 4) aL)) dB))
   (aV (dO (i:=5) rg.nd rfl (.inl rfl) (pW aL))
   (aV (mL db rfl (vy (pv 4)) (cI (i:=6) rg.nd rfl (e9 rfl))
    (bU (mL db rfl (BP (k1:=.T) (k2:=.L) rfl T.sf (aB (jY rfl T.rh rfl) (aB (eO T.xi hr (aB (pv 0) (aB (pv 6) aL))) aL))) (pP rfl (d7 (cI (i:=7) rg.nd rfl (e9 rfl)) (d7 (cI (i:=8) rg.nd rfl (e9 rfl)) mJ)))
     (bU (qJ (PW.pt (Fd (tZ (pX (dq hr) (pv 8) (pv 3))) (Bp (Fe (t6 (qW T.y9 T.AQ hr (ul (rY Z.K) (pv 0) dB (λ_ _=>rfl)) (aB (ul (La Z.K) (pv 8) dB (λ_ _=>rfl)) aL)))))))
      (aV (mV (dq hr) (pv 3) (pv 8) (pU (aB (pv 6) (aB (pv 7) aL))) rfl)
      (aV (qI (Gg Z.K iL kr kz jy (pv 5) (aB (pv 8) aL)))
      (bU (qJ (t6 (Mq (i:=1) T.uj ZG hr (aB (pv 0) (aB (pv 8) aL)))) (bU (gA (eO T.xo hr (aB (pv 3) (aB (pv 8) aL))))) jZ)))) jZ)))))
   (bU (dO (i:=4) rg.nd rfl (.inl rfl) (pv 5))))))
  (bU (gA yw)))))
theorem tW (F:fu Z t4 f fd)(T:Zq Z):fo Z t4 f fd:=by
 refine FA F tR [] [] [] λhr=>?_
 exact(aN (bN (oM (qY (aa 0) m7 (iU (y_ ak))) (cg (aj (cg (aj (aO hr (aO hr (aa 0) (y_ ak)) ak) (aj jQ aJ))) aJ)))))
theorem Ax (F:fu Z t3 f fd)(T:Zq Z):fo Z t3 f fd:=by
 refine FA F r9 [1] [] [] λhr=>?_
 exact(aH (m_ 1 r9.nd (fM aJ)) (aH (jo [2,3,4,5] (zq T.se (aa 0)) (DG (fO 2 r9.nd (fO 3 r9.nd qQ))) (aH (uB 1 (cg (aj (aa 2) (aj ak (aj ak aJ))))) (aN (jo [4,5] (zq T.se (aO hr (aa 3) ak)) (DG (fO 4 r9.nd (fO 5 r9.nd qQ))) (aN (Rr 1 (SE.val (i_ (Bz:=(aC jw)) (ON:=["metre","states","slot","told","number","pattern"]) (N:=["at","slot","number"]) (zS:=[none,some 2,some 4]) UA (vP 0) (Rp T.re ak (cW T.gV (aa 5))) (λ_ _ _ _=>qp 0) (λ_ _ _ _=>iZ) (λ_ _ _ _=>(cg (aj (aa 1) (aj (aa 2) (aj (aa 0) aJ))))))))) db))) db) (Gm (G1:=[]) (aN (bN (aa 1))))))
theorem Ay (F:fu Z sA f fd)(T:Zq Z):fo Z sA f fd:=by
 refine FA F Aq [] [] [] λhr=>?_
 exact(aN (bN (cg (aj (cW T.gV (aa 0)) (aj ak (aj ak aJ))))))
theorem u9 (F:fu Z t0 f fd)(T:Zq Z):fo Z t0 f fd:=by
 refine FA F vi [] [] [] λhr=>?_
 exact(aH (bZ 3 vi.nd (aO hr (aa 1) ak)) (aH (bZ 4 vi.nd (eQ (aO hr (aa 1) ak) ak)) (aH (e_ (bz (Dr (aa 4) (cW T.gV (aO hr (aO hr (aO hr (aa 0) (aa 3)) ak) (aO hr (aa 1) ak))))) (aN (bN (cg (aj (aa 3) (aj (aO hr (aa 1) ak) (aj (aa 4) aJ)))))) cH) (aH (e_ (SW.st (m6 (ie (aO hr (aO hr (aa 0) (aa 3)) ak)) (mZ (mY (ie (aa 2)))))) (aN (bN mX)) cH) (aN (bN (cg (aj (eQ (aa 3) ak) (aj ak (aj ak aJ))))))))))
theorem xT (F:fu Z tT f fd)(T:Zq Z):fo Z tT f fd:=by
 refine FA F xQ [] [] [] λhr=>?_
 exact(aN (bN (Rm (h_ (dC hr (aa 0) (aa 1))) (Gk (h_ (dC hr (aa 0) gZ))))))
theorem Bm (F:fu Z tP f fd)(T:wP Z):fo Z tP f fd:=by
 refine FA F rL [8] [] [] λhr=>?_
 exact(aH (e_ (bz (dC hr (aa 1) (bw T.ui hr (aj (aa 0) aJ)))) (aN (bN (SE.val (fM aJ)))) cH) (aH (bZ 4 rL.nd (aO hr (aa 1) ak)) (aH (bZ 5 rL.nd (aO hr (aa 1) ak)) (aH (bZ 6 rL.nd (aO hr (aO hr (aa 0) (aa 4)) ak)) (aH (bZ 7 rL.nd (Kf (bz (dC hr (aa 5) ak)) (SE.val (Il T.rS T.re (cW T.gV (aa 6)))) (SE.val (fM (aj (aO hr (aa 1) ak) aJ))))) (aH (m_ 8 rL.nd (fM aJ)) (aH (jo [9,10] (lZ (aa 7)) (sH 9 rL.nd) (aH (bZ 10 rL.nd (bw T.xt hr (aj (aa 0) (aj (cg (aj (aa 4) (aj (aa 9) (aj (aa 5) aJ)))) (aj (aa 3) aJ))))) (aN (e_ (SW.st (m6 (bz (oA (aa 10) mX)) (mZ (ie (bw T.xp hr (aj (aO hr (aO hr (aa 6) (aa 9)) (aa 5)) (aj (aa 2) aJ))))))) (aN (uB 8 (cg (aj (aa 9) (aj (aa 10) aJ))))) cH))) db) (Gm (G1:=[]) (aN (bN (aa 8)))))))))))
theorem Ew (F:fu Z sC f fd)(T:Zq Z):fo Z sC f fd:=by
 refine FA F Eu [] [] [] λhr=>?_
 exact(aN (bN (cg (aj (aO hr (aa 1) ak) (aj (Kf (bz (ux (aO hr (aa 1) ak) ak)) (Kh (aO hr (aO hr (aO hr (aa 0) (aO hr (aa 1) ak)) ak) (aO hr (aa 1) ak)) (iU (aO hr (aa 1) ak)) m7) gZ) aJ)))))
theorem wJ (F:DA Z.K "rests_ahead" "rests_ahead" gJ f fd)(T:wT Z):AX Z.P Z.w Z.K Z.mg Z.base ED 3 f fd ["metre"] (CO ⟨Z.K,Z.cl⟩ bI true):=by
 refine FA F sD [1] [1] [] λhr=>?_
 exact(aH (m_ 1 sD.nd Kg) (aH (jo [2,3,4] (lZ (bw T.xw hr (aj (aa 0) aJ))) (sH 2 sD.nd) (aN (jo [3,4] (lZ (Rf T.rh (T.uS))) (sH 3 sD.nd) (aH (bZ 4 sD.nd (bw T.xh hr (aj (aa 0) (aj (aa 2) (aj (aO hr (aa 3) ak) (aj (aO hr (aa 3) ak) aJ)))))) (aN (Kl 1 hr (cg (aj (bw T.sg hr (aj (aa 0) (aj (aa 2) aJ))) (aj (aa 3) aJ))) (SE.val (i_ (Bz:=(aC gJ)) (ON:=["metre","ahead","state","said","moves"]) (N:=["pattern","reached","metre"]) (zS:=[none,none,some 0]) UA (Sw [0,1]) (lZ (aa 4)) (λ_ _ _ _=>pP rfl (d7 (qp 0) (d7 (qp 1) mJ))) (λ_ _ _ _=>iZ) (λ_ _ _ _=>(bw T.sg hr (aj (aa 2) (aj (aa 1) aJ))))))))) db)) db) (aN (Pq 1))))
theorem rA (F:DA Z.K "__init__" "Walk.__init__" gO f fd)(T:we Z):AX Z.P Z.w Z.K Z.mg Z.base ED 4 f fd ["self","metre","most"] (v6 ⟨Z.K,Z.cl⟩ 10 bF bI bO bG gb):=by
 refine F.ok B3 (λvs H Q E h=>by obtain⟨A,p,most,w,x,dx,vm,rfl,_⟩:=h;rfl) (λCM A' outer s H vs Q E hr h=>⟨Zt ⟨Z.K,Z.cl⟩ bF bI bO bG Z.CA,?_,Qv T.va h⟩)
 exact aV (dO (i:=3) B3.nd rfl (.inl rfl) (eO T.xy hr (aB (pv 1) aL)))
  (aV (mQ (pv 0) (eO T.xl hr (aB (pv 3) aL)) rfl)
  (aV (mQ (pv 0) (pv 2) rfl)
  (aV (mQ (pv 0) (eO T.sg hr (aB (pv 3) (aB (eO T.ui hr (aB (pv 3) aL)) aL))) rfl)
  (aV (mQ (pv 0) (pW (aB (pU (aB (pU (aB (eO T.sg hr (aB (pv 3) (aB (jY rfl T.sh rfl) aL))) (aB dB aL))) aL)) aL)) rfl)
  (aV (mQ (pv 0) (BR (dq hr) (ul (rY Z.K) (fY Z.K (pv 0)) dB (λ_ _=>rfl)) dB) rfl)
  (bU (mQ (pv 0) yP rfl)))))))
theorem u_ (F:DA Z.K "metre_within" "metre_within" ji f fd)(T:wE Z):AX Z.P Z.w Z.K Z.mg Z.base ED 6 f fd ["one","other"] (Vl ⟨Z.K,Z.cl⟩ bD):=by
 obtain⟨fS,fdS,FS,hbS,kpS,hmS⟩:=T.uj.ex
 refine F.ok uX (λvs H Q E h=>by
  obtain⟨A,ps,p,r,hm,_⟩:=h
  rw[r.length]
  match ps,hm with
  | [_,_],_=>rfl) (λCM A' outer s H vs Q E hr h=>⟨ZF Z.mg "is_of_first_alone" ⟨Z.K,Z.cl⟩ 10 bF bI bO bG aF aZ aR cQ fP gb fS,?_,Qw ⟨T.AQ,T.DU,T.EM,T.Fs,T.A6,T.Fu,T.FL⟩ hmS h⟩)
 exact bU (gA (eO T.xc hr (aB (pW (aB (Ca T.ND hr (aB (pv 0) (aB dB aL))) (aB (Ca T.ND hr (aB (pv 1) (aB dB aL))) aL))) (aB (jY rfl hmS rfl) aL))))
theorem vf (F:fu Z tj f fd)(T:Zq Z):fo Z tj f fd:=by
 refine FA F uY [] [] [] λhr=>?_
 exact(aH (e_ (bz (Dr (aa 1) (cW T.gV (aa 0)))) (aN (bN (aO hr (aa 0) (aa 1)))) cH) (aN (bN ak)))
theorem vg (F:fu Z tm f fd)(T:wm Z):fo Z tm f fd:=by
 refine FA F qV [] [] [] λhr=>?_
 exact(aH (bZ 2 qV.nd (cV (aa 1) (cW T.gV (aa 0)))) (aH (Rt (aO hr (aa 0) (aa 2)) (DG (fO 3 qV.nd (fO 4 qV.nd qQ)))) (aH (bZ 5 qV.nd (j_ (aa 1) (cW T.gV (aa 0)))) (aH (bZ 6 qV.nd (bw T.ub hr (aj (j_ (aa 5) ak) aJ))) (aH (e_ (SW.st (m6 (bz (dC hr (cV (aa 5) ak) ak)) (m6 (bz (lO (aa 6) (aa 3))) (mZ (bz (Dr (cW T.gV (aa 3)) ak)))))) (aN (bZ 3 qV.nd (oM (aa 3) (cg (aj (aa 6) aJ))))) cH) (aH (e_ (SW.st (m6 (bz (dC hr (cV (aa 5) ak) ak)) (mZ (bz (ux (cW T.gV (aa 3)) ak))))) (aN (bZ 3 qV.nd (qY (aa 3) (iU ak) m7))) cH) (aH (e_ (bz (dC hr (cV (aa 5) ak) ak)) (aN (bZ 4 qV.nd (Pj (aa 4)))) cH) (aH (e_ (bz (dC hr (cV (aa 5) ak) ak)) (aN (bZ 3 qV.nd (cg (aj (Mv gZ (cW T.gV (aO hr (aa 3) ak))) aJ)))) cH) (aH (e_ (bz (dC hr (cV (aa 5) ak) ak)) (aN (bZ 3 qV.nd (B_ T.qS T.rX (aa 3)))) cH) (aN (bN (oM (oM (qY (aa 0) m7 (iU (aa 2))) (cg (aj (cg (aj (aa 3) (aj (aa 4) aJ))) aJ))) (qY (aa 0) (iU (eQ (aa 2) ak)) m7)))))))))))))
theorem wK (F:fu Z tw f fd)(T:Zq Z):fo Z tw f fd:=by
 refine FA F wb [] [] [] λhr=>?_
 exact(aH (e_ (SW.st (lL (mY (ie (zj C2 T.sj T.rV T.rS i6 (aa 0)))) (lL (bz (dC hr (aa 0) (fM aJ))) (uy (bz (G9 (aO hr (aO hr (aa 0) (y_ ak)) ak) jQ)))))) (aN (bN jQ)) cH) (aH (jo [1] (lZ (aa 0)) (sH 1 wb.nd) (aN (e_ (SW.st (lL (mY (ie (zj Cc T.sv T.rV T.qS iN (aa 1)))) (lL (bz (Rj hr (cW T.gV (aa 1)) ak)) (lL (bz (lO (aO hr (aa 1) ak) (cg (aj gZ (aj gZ aJ))))) (uy (mY (ie (zj C1 T.si T.rV T.sF PyProof.Rows.boot_bool (aO hr (aa 1) ak))))))))) (aN (bN jQ)) cH)) db) (aN (bN jQ))))
theorem Az (F:fu Z tq f fd)(T:Zq Z):fo Z tq f fd:=by
 refine FA F Ar [] [] [] λhr=>?_
 exact(aH (e_ (SW.st (lL (bz (ux (eQ (aa 1) (cW T.gV (aa 2))) (cW T.gV (aa 0)))) (uy (SW.st (m6 (ie (aa 3)) (mZ (mY (ie (aO hr (aO hr (aa 0) (O_ (eQ (aa 1) (cW T.gV (aa 2))) ak)) ak))))))))) (aN (bN jQ)) cH) (aN (bN (h_ (dC hr (i_ (Bz:=(aC jx)) (ON:=["_law_row","_law_at","_law_pattern_here","_law_cut"]) (N:=["_law_k","_law_pattern_here","_law_row","_law_at"]) (zS:=[none,some 2,some 0,some 1]) UA (vP 0) (xY T.re (cW T.gV (aa 2))) (λ_ _ _ _=>qp 0) (λ_ _ _ _=>HX (bz (lO (aO hr (aa 1) (aa 0)) (cg (aj gZ (aj (aO hr (aO hr (aa 2) (eQ (aa 3) (aa 0))) ak) aJ)))))) (λ_ _ _ _=>(aa 0))) (fM aJ))))))
theorem rB (F:fu Z tz f fd)(T:wn Z):fo Z tz f fd:=by
 refine F.ok rj (λvs H Q E h=>by
  obtain⟨A,ps,p,r,hm,_⟩:=h
  rw[r.length]
  have hm:zL a_ ps=some p:=hm
  unfold zL at hm
  split at hm
  ·rfl
  ·cases hm) (λCM A' outer s H vs Q E hr h=>⟨Zo ⟨Z.K,Z.cl⟩ a_,?_,Qo h⟩)
 exact aV (dO (i:=2) rj.nd rfl (.inl rfl) (Jo dB dB))
  (aV (mL db rfl (t_ (pv 0)) (pP rfl (d7 (cI (i:=3) rj.nd rfl (e9 rfl)) (d7 (cI (i:=4) rj.nd rfl (e9 rfl)) mJ)))
   (aV (dO (i:=5) rj.nd rfl (.inl rfl) yP)
   (aV (mL db rfl (Qn (pv 2)) (cI (i:=6) rj.nd rfl (e9 rfl))
    (bU (mL db rfl (t_ (pv 3)) (cI (i:=7) rj.nd rfl (e9 rfl))
     (bU (qJ (t6 (eO T.w8 hr (aB (pv 1) (aB (pv 6) (aB (pv 7) (aB (pv 4) aL)))))) (bU (mV (dq hr) (pv 5) (yz (pv 6) (dg j6 rfl T.gV hW (aB (pv 7) aL))) (yz (rR (dq hr) (pv 5) (yz (pv 6) (dg j6 rfl T.gV hW (aB (pv 7) aL))) dB ⟨rfl,rfl,rfl,rfl⟩) (qM (dq hr) (pv 2) (pv 6) (λ_ _=>rfl))) rfl)) jZ)))))
   (bU (dO (i:=2) rj.nd rfl (.inl rfl) (pv 5))))))
  (bU (gA (rR (dq hr) (pv 2) (dg (jz Z.K) rfl T.gV hW (aB (pv 1) aL)) dB ⟨rfl,rfl,rfl,rfl⟩))))
theorem QQ (F:fu Z vb f fd)(T:wx Z):fo Z vb f fd:=by
 refine FA F q5 [4] [4] [] λhr=>?_
 exact(aH (bZ 1 q5.nd (bw T.vk hr (aj (bw T.sN hr (aj (aa 0) (aj ak aJ))) (aj ak aJ)))) (aH (bZ 2 q5.nd (aa 1)) (aH (e_ (bz (dC hr (cV (bw T.sN hr (aj (aa 0) (aj ak aJ))) ak) ak)) (aN (bZ 2 q5.nd (bw T.vk hr (aj (j_ (bw T.sN hr (aj (aa 0) (aj ak aJ))) ak) (aj ak aJ))))) cH) (aH (jo [3] (lZ (Kh (aa 0) (iU ak) (iU ak))) (sH 3 q5.nd) (aN (bZ 2 q5.nd (bw T.w4 hr (aj (aa 2) (aj (aa 3) aJ))))) db) (Qx 4 q5.nd (Jz T.uk hr (aj (aa 1) (aj (aa 2) aJ))) (aH (e_ (bz (oA (aa 4) mX)) Ce cH) (aH (bZ 6 q5.nd (kO T.qS (i_ (Bz:=(aC lR)) (ON:=Ku) (N:=["_law_slot_here"]) (zS:=[none]) UA (vP 0) (lZ (aa 1)) (λ_ _ _ _=>qp 0) (λ_ _ _ _=>iZ) (λ_ _ _ _=>(cg (aj (B_ T.qS T.rX (aO hr (aa 0) ak)) (aj (aO hr (aa 0) ak) aJ))))))) (aH (bZ 7 q5.nd (kO T.qS (i_ (Bz:=(aC lR)) (ON:=Ku) (N:=["_law_slot_here"]) (zS:=[none]) UA (vP 0) (lZ (aa 1)) (λ_ _ _ _=>qp 0) (λ_ _ _ _=>iZ) (λ_ _ _ _=>(cg (aj (aO hr (aa 0) ak) (aj jQ aJ))))))) (aH (bZ 8 q5.nd (aO hr (fM (aj (aa 1) (aj (aa 6) (aj (aa 7) aJ)))) (cV (bw T.sN hr (aj (aa 0) (aj ak aJ))) ak))) (aN (bN (h_ (Rk (bw (Cd T.uk) hr (aj (aa 1) (aj (aa 8) aJ))) mX)))))))) (aH (e_ (bz (oA (lY 4) mX)) (aH (e_ (SW.st (lL (mY (ie (sE T.w9 hr (su (lY 4) aJ)))) (lL (bz (dC hr (sE T.vj hr (aj (aa 1) (su (lY 4) aJ))) ak)) (uy (bz (ux (sE T.vj hr (aj (aa 2) (su (lY 4) aJ))) ak)))))) (aN (bN jQ)) cH) (aH (bZ 5 q5.nd (SE.val (Lg T.rS (lY 4)))) (aH (uB 4 (cg (aj gZ (aj jQ aJ)))) (aN (bN (h_ (dC hr (bw (Cd T.uk) hr (aj (aa 1) (aj (aa 2) aJ))) (aa 5)))))))) cH) Ce))))))
end
end
def yj (K:W.Frag):Sp:=λvs H Q _=>∃(a:Addr) (ns:qr),vs=[V.ref a]/\O0 H/\AS K H a (ns.map V.int)/\ns.length<=63/\∀J,Q (.bl true) J
theorem QR {K:W.Frag}{cl:Nat->Addr}{vs:List V}{H:Hp}{Q:VK}{E:XK}(h:yj K vs H Q E):CO ⟨K,cl⟩ uQ false vs H Q E:=by
 obtain⟨a,ns,rfl,ho,hs,hl,k⟩:=h
 have ri:zt ⟨K,cl⟩ (λ_=>True) H (ns.map V.int) (ns.map PV.int):=j0 _ _ (λi=>.int i) ns
 refine⟨λ_=>True,[.frz (ns.map PV.int)],.bl true,.cons ?_ .nil,NC ns hl,λv H' s r=>?_⟩
 ·rcases hs with (hs | ⟨o,hs⟩) | hs
  ·rcases ho a with z | ⟨o,xs,z⟩
   ·rw[z] at hs;cases hs
   ·rw[z] at hs;cases hs
  ·exact .Lo hs ri
  ·exact .lstK (.inr hs) ri
 ·cases r
  exact k _
structure Gf (K:W.Frag)(x:Str)(st:Stmt)(f:Addr)(fd:FuncData):Prop where
 a:W.nsIn K mainGlobals x=some (some (.ref f))
 F:DA K x x st f fd
theorem km {K:W.Frag}{h:Heap}{mg:Str->Option Value}{P:Program}{w:World}{base:Heap}{k:Nat}{x:Str}{ps:qq}{sp:Sp}{st:Stmt}{f:Addr}{fd:FuncData}(X:K.In h)(G:h.Ns mainGlobals mg)(F:Gf K x st f fd)(hb:Binds K fd ps [])(o:AX P w K mg base ED k f fd ps sp):IL P w K mg base k x ps sp:=OJ F.F (W.mg_of X G F.a) hb o
theorem all_mk {l:W.OpenLaw}{w:World}{K:W.Frag}{h:Heap}{mg:Str->Option Value}{fa:Addr}(X:K.In h)(G:h.Ns mainGlobals mg)(hfa:mg "law" = some (.ref fa))
  (aC_Walk:W.nsIn K mainGlobals "Walk" = some (some (.ref C_Walk)))
  (F_0:Gf K "_law_pattern" gj f_0 d_0)
  (F_1:Gf K "_law_mix" pq f_1 d_1)
  (F_2:Gf K "_law_slot" mF f_2 d_2)
  (F_3:Gf K "_law_metre" iH f_3 d_3)
  (a_4:W.findIn K (.ref C_Walk) "number_of_place" = some (some (.ref f_4)))
  (i_4:W.isFn K (.ref f_4)=true)
  (F_4:DA K "number_of_place" "Walk.number_of_place" du f_4 d_4)
  (a_5:W.findIn K (.ref C_Walk) "place_behind" = some (some (.ref f_5)))
  (i_5:W.isFn K (.ref f_5)=true)
  (F_5:DA K "place_behind" "Walk.place_behind" eN f_5 d_5)
  (a_6:W.findIn K (.ref C_Walk) "later" = some (some (.ref f_6)))
  (i_6:W.isFn K (.ref f_6)=true)
  (F_6:DA K "later" "Walk.later" gH f_6 d_6)
  (F_7:Gf K "nodes_behind" dY f_7 d_7)
  (a_8:W.findIn K (.ref C_Walk) "ways_to_end" = some (some (.ref f_8)))
  (i_8:W.isFn K (.ref f_8)=true)
  (F_8:DA K "ways_to_end" "Walk.ways_to_end" fc f_8 d_8)
  (F_9:Gf K "is_of_first_alone" fj f_9 d_9)
  (a_10:W.findIn K (.ref C_Walk) "is_over" = some (some (.ref f_10)))
  (i_10:W.isFn K (.ref f_10)=true)
  (F_10:DA K "is_over" "Walk.is_over" iI f_10 d_10)
  (F_11:Gf K "row_to" tL f_11 d_11)
  (F_12:Gf K "first_row" mG f_12 d_12)
  (F_13:Gf K "with_last_cut" iJ f_13 d_13)
  (F_14:Gf K "states_of" jw f_14 d_14)
  (F_15:Gf K "end_state" mH f_15 d_15)
  (F_16:Gf K "state_behind" jh f_16 d_16)
  (F_17:Gf K "stands_for" lE f_17 d_17)
  (F_18:Gf K "moves_of" pA f_18 d_18)
  (F_19:Gf K "rest_of" qH f_19 d_19)
  (F_20:Gf K "rests_ahead" gJ f_20 d_20)
  (a_21:W.findIn K (.ref C_Walk) "__init__" = some (some (.ref f_21)))
  (i_21:W.isFn K (.ref f_21)=true)
  (F_21:DA K "__init__" "Walk.__init__" gO f_21 d_21)
  (F_22:Gf K "metre_within" ji f_22 d_22)
  (F_23:Gf K "_law_cell_at" jk f_23 d_23)
  (F_24:Gf K "_law_changed" jl f_24 d_24)
  (F_25:Gf K "_law_is_row" jM f_25 d_25)
  (F_26:Gf K "_law_fits" jx f_26 d_26)
  (F_27:Gf K "_law_many_feet" gP f_27 d_27)
  (F_28:Gf K "law" lR f_28 d_28)
  (pg_Walk:W.plainGet K C_Walk Str.empty=true)
  (hd_Walk:W.hasDictIn K C_Walk=true)
  (po_Walk:W.plainOver K C_Walk=true)
  (sa_Walk:W.findIn K (.ref C_Walk) "__setattr__" = some (some (.builtin "object.__setattr__")))
  (mk_Walk:W.makesIn K C_Walk=true)
  (kc_Walk:W.keepIn K (.ref C_Walk)=true)
  (nf_Walk_ahead:W.findIn K (.ref C_Walk) "ahead" = some none)
  (nf_Walk_end:W.findIn K (.ref C_Walk) "end" = some none)
  (nf_Walk_most:W.findIn K (.ref C_Walk) "most" = some none)
  (nf_Walk_numbers:W.findIn K (.ref C_Walk) "numbers" = some none)
  (nf_Walk_onward:W.findIn K (.ref C_Walk) "onward" = some none)
  (nf_Walk_places:W.findIn K (.ref C_Walk) "places" = some none)
  (sF:W.nsIn K mainGlobals "bool" = some none)
  (sK:W.nsIn K mainGlobals "dict" = some none)
  (se:W.nsIn K mainGlobals "enumerate" = some none)
  (rV:W.nsIn K mainGlobals "isinstance" = some none)
  (gV:W.nsIn K mainGlobals "len" = some none)
  (rS:W.nsIn K mainGlobals "list" = some none)
  (sL:W.nsIn K mainGlobals "min" = some none)
  (re:W.nsIn K mainGlobals "range" = some none)
  (rX:W.nsIn K mainGlobals "reversed" = some none)
  (sM:W.nsIn K mainGlobals "sorted" = some none)
  (qS:W.nsIn K mainGlobals "tuple" = some none)
  (sf:W.nsIn K mainGlobals "zip" = some none)
  (rh:W.nsIn K mainGlobals "SAID" = some (some (.ref BO)))
  (sP:K.lookup BO=some ⟨.type "tuple",none,.seq #[.ref a_SAID_0,.ref a_SAID_1,.ref a_SAID_2,.ref a_SAID_3] n_SAID,Ye⟩)
  (sQ:K.lookup a_SAID_0=some ⟨.type "tuple",none,.seq #[.str "u" t_SAID_0_0,.bool false] n_SAID_0,Vr⟩)
  (sR:K.lookup a_SAID_1=some ⟨.type "tuple",none,.seq #[.str "u" t_SAID_1_0,.bool true] n_SAID_1,Vs⟩)
  (sT:K.lookup a_SAID_2=some ⟨.type "tuple",none,.seq #[.str "-" t_SAID_2_0,.bool false] n_SAID_2,Vt⟩)
  (tf:K.lookup a_SAID_3=some ⟨.type "tuple",none,.seq #[.str "-" t_SAID_3_0,.bool true] n_SAID_3,Vu⟩)
  (sh:W.nsIn K mainGlobals "START" = some (some (.ref CA)))
  (uu:K.lookup CA=some ⟨.type "tuple",none,.seq #[.int 0 t_START_0,.int 0 t_START_1,.int 0 t_START_2] n_START,Xc⟩)
  (si:∀t k,(t,k)∈C1->W.kitOne K (.type t) (.type "bool")=some k)
  (sj:∀t k,(t,k)∈C2->W.kitOne K (.type t) (.type "list")=some k)
  (sv:∀t k,(t,k)∈Cc->W.kitOne K (.type t) (.type "tuple")=some k):
  ∃fd:FuncData,(∀(s:Shared) (v:Value),BindsTo s fd ⟨[v],[]⟩ [("_law_script",v)])/\∀base:Heap,K.In base->base.Ns mainGlobals mg->AX l.prog w K mg base ED 7 fa fd ["_law_script"] (yj K):=by
 have mo {x:Str}{v:Value}(h:W.nsIn K mainGlobals x=some (some v)):mg x=some v:=W.mg_of X G h
 have e:=hfa.symm.trans (mo F_28.a)
 cases e
 obtain⟨_,_,Xd,Xe,Xf,Xg,Xh,Xi,_,rfl,_,_⟩:=F_28.F.ex
 refine⟨W.fnOf "law" "law" (fW lR) (dR lR) (aC lR) .none Xd Xe Xf Xg Xh Xi,λs v=>.of_eq rfl,λbase _ _=>?_⟩
 let cl:Nat->Addr:=λn=>match n with | 10=>C_Walk | _=>0
 let Z:Z7:={ P:=l.prog,w,K,mg,base,cl,BO,CA }
 have AQ:II K (cl 10):=⟨pg_Walk,hd_Walk,po_Walk,sa_Walk⟩
 have uS:∀(B:Addr->Prop) (H:Hp),Rep ⟨K,cl⟩ B H (.ref BO) uP:=λB H=>(.tupK (vs:=[V.ref a_SAID_0,V.ref a_SAID_1,V.ref a_SAID_2,V.ref a_SAID_3]) (.inr ⟨_,_,_,sP,rfl,rfl,⟨(by show 4<=sizeLine;decide),rfl⟩,(.cons rfl (.cons rfl (.cons rfl (.cons rfl .nil))))⟩) (.cons (.B6 (vs:=[V.str "u",.bl false]) ⟨_,_,_,sQ,rfl,rfl,⟨(by show 2<=sizeLine;decide),rfl⟩,(.cons ⟨_,rfl⟩ (.cons rfl .nil))⟩ (.cons (.str _) (.cons (.bl _) .nil))) (.cons (.B6 (vs:=[V.str "u",.bl true]) ⟨_,_,_,sR,rfl,rfl,⟨(by show 2<=sizeLine;decide),rfl⟩,(.cons ⟨_,rfl⟩ (.cons rfl .nil))⟩ (.cons (.str _) (.cons (.bl _) .nil))) (.cons (.B6 (vs:=[V.str "-",.bl false]) ⟨_,_,_,sT,rfl,rfl,⟨(by show 2<=sizeLine;decide),rfl⟩,(.cons ⟨_,rfl⟩ (.cons rfl .nil))⟩ (.cons (.str _) (.cons (.bl _) .nil))) (.cons (.B6 (vs:=[V.str "-",.bl true]) ⟨_,_,_,tf,rfl,rfl,⟨(by show 2<=sizeLine;decide),rfl⟩,(.cons ⟨_,rfl⟩ (.cons rfl .nil))⟩ (.cons (.str _) (.cons (.bl _) .nil))) .nil)))))
 have DV:qi ⟨K,cl⟩ BO fP:=⟨[V.ref a_SAID_0,V.ref a_SAID_1,V.ref a_SAID_2,V.ref a_SAID_3],.inr ⟨_,_,_,sP,rfl,rfl,⟨(by show 4<=sizeLine;decide),rfl⟩,(.cons rfl (.cons rfl (.cons rfl (.cons rfl .nil))))⟩,λB H=>(.cons (.B6 (vs:=[V.str "u",.bl false]) ⟨_,_,_,sQ,rfl,rfl,⟨(by show 2<=sizeLine;decide),rfl⟩,(.cons ⟨_,rfl⟩ (.cons rfl .nil))⟩ (.cons (.str _) (.cons (.bl _) .nil))) (.cons (.B6 (vs:=[V.str "u",.bl true]) ⟨_,_,_,sR,rfl,rfl,⟨(by show 2<=sizeLine;decide),rfl⟩,(.cons ⟨_,rfl⟩ (.cons rfl .nil))⟩ (.cons (.str _) (.cons (.bl _) .nil))) (.cons (.B6 (vs:=[V.str "-",.bl false]) ⟨_,_,_,sT,rfl,rfl,⟨(by show 2<=sizeLine;decide),rfl⟩,(.cons ⟨_,rfl⟩ (.cons rfl .nil))⟩ (.cons (.str _) (.cons (.bl _) .nil))) (.cons (.B6 (vs:=[V.str "-",.bl true]) ⟨_,_,_,tf,rfl,rfl,⟨(by show 2<=sizeLine;decide),rfl⟩,(.cons ⟨_,rfl⟩ (.cons rfl .nil))⟩ (.cons (.str _) (.cons (.bl _) .nil))) .nil))))⟩
 have va:∀(B:Addr->Prop) (H:Hp),Rep ⟨K,cl⟩ B H (.ref CA) gb:=λB H=>(.tupK (vs:=[V.int 0,V.int 0,V.int 0]) (.inr ⟨_,_,_,uu,rfl,rfl,⟨(by show 3<=sizeLine;decide),rfl⟩,(.cons ⟨_,rfl⟩ (.cons ⟨_,rfl⟩ (.cons ⟨_,rfl⟩ .nil)))⟩) (.cons (.int _) (.cons (.int _) (.cons (.int _) .nil))))
 have zn {x:Str}(h:W.nsIn K mainGlobals x=some none):mg x=none:=W.mg_none_of X G h
 have q:Zq Z:=⟨zn sF,zn sK,zn se,zn rV,zn gV,zn rS,zn sL,zn re,zn rX,zn sM,zn qS,zn sf,mo rh,mo sh,uS,va,AQ,si,sj,sv,nf_Walk_ahead,nf_Walk_end,nf_Walk_most,nf_Walk_numbers,nf_Walk_onward,nf_Walk_places,DV⟩
 have vx:=km X G F_0 F_0.F.UB (uZ F_0.F q)
 have vv:=km X G F_1 F_1.F.IP (Bl F_1.F q)
 have yb:=km X G F_2 F_2.F.UB (Av F_2.F ⟨q,vv,vx⟩)
 have ya:=km X G F_3 F_3.F.IP (xR F_3.F ⟨q,vv,yb⟩)
 have G_4:=lG F_4 q
 have xC:EA l.prog w K mg base (cl 10) _ "number_of_place" _ _:=⟨_,_,G_4,F_4.IP,⟨a_4,i_4,F_4.kp⟩⟩
 have G_5:=nT F_5 q
 have xD:EA l.prog w K mg base (cl 10) _ "place_behind" _ _:=⟨_,_,G_5,F_5.Zf,⟨a_5,i_5,F_5.kp⟩⟩
 have G_6:=wI F_6 ⟨q,xC,xD⟩
 have xB:EA l.prog w K mg base (cl 10) _ "later" _ _:=⟨_,_,G_6,F_6.IP,⟨a_6,i_6,F_6.kp⟩⟩
 have yv:=km X G F_7 F_7.F.IP (u5 F_7.F ⟨q,xB⟩)
 have G_8:=pD F_8 q
 have xE:EA l.prog w K mg base (cl 10) _ "ways_to_end" _ _:=⟨_,_,G_8,F_8.IP,⟨a_8,i_8,F_8.kp⟩⟩
 have vF:=km X G F_9 F_9.F.IP (pF F_9.F ⟨q,xE⟩)
 have Z0:=tU F_10 q
 have xA:EA l.prog w K mg base (cl 10) _ "is_over" _ _:=⟨_,_,Z0,F_10.IP,⟨a_10,i_10,F_10.kp⟩⟩
 have yA:=km X G F_11 F_11.F.IP (Ho F_11.F q)
 have yi:=km X G F_12 F_12.F.IP (Aw F_12.F ⟨q,vF,yv,yA,xA⟩)
 have y0:=km X G F_13 F_13.F.UB (tW F_13.F q)
 have yY:=km X G F_14 F_14.F.UB (Ax F_14.F q)
 have vE:=km X G F_15 F_15.F.UB (Ay F_15.F q)
 have yT:=km X G F_16 F_16.F.Zf (u9 F_16.F q)
 have yB:=km X G F_17 F_17.F.IP (xT F_17.F q)
 have yn:=km X G F_18 F_18.F.bd4 (Bm F_18.F ⟨q,vE,yB,yT⟩)
 have vS:=km X G F_19 F_19.F.IP (Ew F_19.F q)
 have yy:=km X G F_20 F_20.F.UB (wJ F_20.F ⟨q,yn,vS,yY⟩)
 have Z1:=rA F_21 ⟨q,vE,vS,yy,y0⟩
 have xz:Up l.prog w K mg base (cl 10) _ "Walk" _ _:=⟨_,_,Z1,F_21.Zf,⟨mk_Walk,a_21,i_21,kc_Walk⟩,mo aC_Walk⟩
 have yk:=km X G F_22 F_22.F.IP (u_ F_22.F ⟨q,yi,vF,xz⟩)
 have xI:=km X G F_23 F_23.F.IP (vf F_23.F q)
 have xL:=km X G F_24 F_24.F.IP (vg F_24.F ⟨q,vx⟩)
 have x0:=km X G F_25 F_25.F.UB (wK F_25.F q)
 have xS:=km X G F_26 F_26.F.bd4 (Az F_26.F q)
 have x9:=km X G F_27 F_27.F.IP (rB F_27.F ⟨q,xS⟩)
 have Z2:=QQ F_28.F ⟨q,xI,xL,x0,x9,ya,yk⟩
 exact Z2.imp λvs H Q E h=>QR h
theorem walk {l:W.OpenLaw}{q:Program}{loose:qq}{XP:(Str->Option Value)->Heap->Prop}{YP:World->Heap->Prop}{d:DefRec}{K:Params->W.Frag}(hn:l.most=some 63)(VJ:d.params.defaults=[])
  (hY:∀(w:World) (h:Heap),YP w h->(K w.params).In h)
  (F:∀(w:World) (mg:Str->Option Value) (fa:Addr) (h:Heap),(K w.params).In h->h.Ns mainGlobals mg->mg d.name=some (.ref fa)->
   ∃fd:FuncData,(∀(s:Shared) (u:Value),BindsTo s fd ⟨[u],[]⟩ [("_law_script",u)])/\∀base:Heap,(K w.params).In base->base.Ns mainGlobals mg->AX l.prog w (K w.params) mg base ED 7 fa fd ["_law_script"] (yj (K w.params))):
  W.WalkO q loose XP YP l.row.toRowW d [] (λf vs=>PySem.call f vs):=
 L2.Pc (n:=63) (k:=7) (x := "_law_script") (CX:=λ_=>ED) (sp:=λw=>yj (K w.params)) hn (by decide) VJ ⟨rfl,by decide,by decide⟩ hY F (λ_ _ a ns hl hO hS=>⟨a,ns,rfl,hO,hS,hl,λ_=>rfl⟩) λ_ _ _ _ _ z=>z
end Lake.My
open PySem PySem.W PyProof.Rows
end
namespace PySem.W.Fast
def tw8482312657106038917:=()
def tw16092421732858907832:=()
def tw16356004208862988037:=()
def tw8581454616785185107:=()
def tw7135282127978746446:=()
def tw8271029783819267429:=()
def tw4542251106942895191:=()
def tw17034624611492714030:=()
def tw7011042626440424227:=()
def tw9102916730355977878:=()
def tw2308354326153291824:=()
def tw15094836329701393227:=()
def tw4334083468791689371:=()
def tw7276831282772814731:=()
def tw10161061829985086090:=()
def tw9947284447507288198:=()
def tw3318390138107865090:=()
def tw12406025405998638921:=()
def tw308856654212629871:=()
def tw13475388683670032724:=()
def tw13250787325375371523:=()
def tw1943559155966500008:=()
def tw12625787679875414844:=()
def tw4096266299047490221:=()
def tw4995768211571011:=()
def tw14672505322505107098:=()
def tw18369347829197659715:=()
def tw926818224878686023:=()
def tw14226301385780538238:=()
def tw13380785542210736398:=()
def tw12182666711260035110:=()
def tw6253619580704875792:=()
def tw17204942757765068838:=()
def tw13009741296937513517:=()
def tw10332102747571523142:=()
def tw16163328329128401214:=()
def tw2603159421317547305:=()
def tw11037682205066273948:=()
def tw9182588887341308238:=()
def tw5044643557187409801:=()
def tw15256140130766821384:=()
def tw14267056902251859622:=()
def tw16097131719332302445:=()
def tw10369299831691224076:=()
def tw7860685661266715406:=()
def tw14083545157314004089:=()
def tw2810171899337908969:=()
def tw12816637644030130651:=()
def tw6234810775986888424:=()
def tw2852066730192255527:=()
def tw4106945562082376873:=()
def tw7295347049103624372:=()
def tw2772609846639180874:=()
def tw2595000748366981716:=()
def tw13879384751642016087:=()
def tw4726923924572230188:=()
def tw18211726723008917722:=()
def tw15322462916517274451:=()
def tw7191035062607137196:=()
def tw2023427688878936491:=()
def tw11824145446679654378:=()
def tw9284657028736751015:=()
def tw14490121932907132333:=()
def tw1576450437125477013:=()
def tw11886043107934348808:=()
def tw896712506343556473:=()
def tw4695274653154521804:=()
def tw15037024028264832465:=()
def tw15417919580650140293:=()
def tw3194275373821856001:=()
def tw12967930497927431367:=()
def tw3746335974859635228:=()
def tw8892690311261627765:=()
def tw8038632182894002627:=()
def tw7026789435974346528:=()
def tw3996719770191721041:=()
def tw6350525654920335324:=()
def tw16865172127507895539:=()
def tw1561366302532117915:=()
def tw11161683812369059072:=()
def tw10181449064639642884:=()
def tw3730996078247166338:=()
def tw17009367714539806917:=()
def tw5408816471767663964:=()
def tw10174205874564475636:=()
def tw671541402677528351:=()
def tw5295316730202445713:=()
def tw11632778095261482655:=()
def tw11890382843155253433:=()
def tw18400043909383743705:=()
end PySem.W.Fast
set_option maxRecDepth 100000 in
set_option maxHeartbeats 0 in
theorem PySem.Challenge.cw_lilt_k80_what_tells_metres_apart_holds : PySem.Challenge.rw_lilt_k80_what_tells_metres_apart.Holds := by
 w_on;o_law;k_head;(case hw=>w_witness2)
 k_fill
 refine Lake.My.walk (l:=PySem.Challenge.rw_lilt_k80_what_tells_metres_apart) rfl rfl (λw h Y=>W.kIn_of Y) ?F
 case F=>
  intro w mg fa h KX G VL
  refine' Lake.My.all_mk KX G VL ?aC_Walk ?F_0 ?F_1 ?F_2 ?F_3 ?a_4 ?i_4 ?F_4 ?a_5 ?i_5 ?F_5 ?a_6 ?i_6 ?F_6 ?F_7 ?a_8 ?i_8 ?F_8 ?F_9 ?a_10 ?i_10 ?F_10 ?F_11 ?F_12 ?F_13 ?F_14 ?F_15 ?F_16 ?F_17 ?F_18 ?F_19 ?F_20 ?a_21 ?i_21 ?F_21 ?F_22 ?F_23 ?F_24 ?F_25 ?F_26 ?F_27 ?F_28 ?pg_Walk ?hd_Walk ?po_Walk ?sa_Walk ?mk_Walk ?kc_Walk ?nf_Walk_ahead ?nf_Walk_end ?nf_Walk_most ?nf_Walk_numbers ?nf_Walk_onward ?nf_Walk_places ?sF ?sK ?se ?rV ?gV ?rS ?sL ?re ?rX ?sM ?qS ?sf ?rh ?sP ?sQ ?sR ?sT ?tf ?sh ?uu ?si ?sj ?sv
  (case aC_Walk | a_4 | i_4 | a_5 | i_5 | a_6 | i_6 | a_8 | i_8 | a_10 | i_10 | a_21 | i_21 | pg_Walk | hd_Walk | po_Walk | sa_Walk | mk_Walk | kc_Walk | nf_Walk_ahead | nf_Walk_end | nf_Walk_most | nf_Walk_numbers | nf_Walk_onward | nf_Walk_places | sF | sK | se | rV | gV | rS | sL | re | rX | sM | qS | sf | rh | sP | sQ | sR | sT | tf | sh | uu=>k_is)
  (case F_4 | F_5 | F_6 | F_8 | F_10 | F_21=>refine' Lake.L2.Mn ?l ?c ?k;(case l=>k_is);(case c=>k_is);(case k=>k_is))
  (case F_0 | F_1 | F_2 | F_3 | F_7 | F_9 | F_11 | F_12 | F_13 | F_14 | F_15 | F_16 | F_17 | F_18 | F_19 | F_20 | F_22 | F_23 | F_24 | F_25 | F_26 | F_27 | F_28=>refine' ⟨?a,Lake.L2.Mn ?l ?c ?k⟩;(case a=>k_is);(case l=>k_is);(case c=>k_is);(case k=>k_is))
  (case si=>intro t k hm;simp only[Lake.My.C1,be,cq,gz,p5] at hm;rcases hm with ⟨rfl,rfl⟩ <;> first | rfl | k_is)
  (case sj=>intro t k hm;simp only[Lake.My.C2,be,cq,gz,p5] at hm;rcases hm with ⟨rfl,rfl⟩ <;> first | rfl | k_is)
  (case sv=>intro t k hm;simp only[Lake.My.Cc,be,cq,gz,p5] at hm;rcases hm with ⟨rfl,rfl⟩ <;> first | rfl | k_is)
