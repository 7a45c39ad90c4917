import PyProof.Rows.All
import Wide.All
import OpenK.AllK
import Wide.FinOn
import Lean
import PyProof.EqAt
import PyProof.EqKinds
import PyProof.TupleCall
import KE.KRevIter
import PyProof.ListStr
import PyProof.Rows.Range3
import PyProof.Rows.SetFrom
import PyProof.ZipIter
import PyProof.DictWalks
import PyProof.Rows.TupDisplay
import PyProof.DictItems
import KE.KPairComp
import KE.KItemsList
import KE.KSortTup
import PyProof.ListMulRoad
import KE.KIntText
import PyProof.WalkInts
import PyProof.MinMaxWalk
import PyProof.WalksMore
import PyProof.AttrMissHeap
import KE.KDictOf
import PyProof.CollectIter
import PyProof.TupleOfGen
import PySem.Challenge.RW_lilt_k81_whole_metre_within
set_option Elab.async false
set_option linter.all false
set_option maxRecDepth 100000
set_option maxHeartbeats 4000000
set_option compiler.extract_closed false
abbrev oT:=PySem.Value->PySem.Shared->Prop
abbrev qq:=List (PySem.Addr×PySem.Obj)
abbrev qr:=List Nat
abbrev qv:=List PySem.Value
abbrev qA:=List PySem.Stmt
abbrev qB:=List PySem.Expr
abbrev qE:=List PySem.Str
abbrev qS:=List Int
abbrev qV:=List PySem.Addr
abbrev q5:=Array PySem.Value
abbrev ab:=@PySem.wpAny_bind
abbrev ac:=@PySem.Heap.get?_push_of_some
abbrev ae:=@PySem.wpAny_pure
abbrev af:=@List.getElem?_eq_getElem
abbrev ag:=@Option.bind_eq_some_iff
abbrev ai:=@List.getElem?_eq_some_iff
abbrev al:=@List.mem_cons_of_mem
abbrev am:=@PySem.Heap.get?_push_size
abbrev ap:=@PySem.Heap.lt_size
abbrev ar:=@List.mem_cons_self
abbrev av:=@List.mem_singleton
abbrev aw:=@Nat.le_refl
abbrev ax:=@if_neg
abbrev ay:=@List.size_toArray
abbrev aE:=@Option.bind_some
abbrev aI:=@List.length_map
abbrev a0:=@List.map_cons
abbrev ba:=@Bool.false_ne_true
abbrev bb:=@List.getD_eq_getElem?_getD
abbrev bd:=@if_pos
abbrev be:=@List.mem_cons
abbrev bg:=@Nat.ne_of_lt
abbrev bi:=@Option.some.inj
abbrev bm:=@List.mem_append_left
abbrev bn:=@List.mem_append
abbrev bo:=@List.length_append
abbrev bp:=@List.getElem?_set_ne
abbrev bq:=@Nat.lt_of_lt_of_le
abbrev br:=@Option.map_eq_some_iff
abbrev bv:=@List.length_cons
abbrev bE:=@List.append_nil
abbrev bP:=@List.mem_range
abbrev bS:=@PySem.wpAny_newObj_type
abbrev bX:=@List.drop_eq_getElem_cons
abbrev b0:=@PyProof.Rows.callWith_type1
abbrev b6:=@PySem.wpAny_callSpecial?_slot
abbrev b9:=@PySem.PassesOwn.never
abbrev cb:=@List.mem_map
abbrev ce:=@Nat.zero_le
abbrev cf:=@List.getLast?_eq_some_getLast
abbrev ci:=@PySem.wpAny_call_entry
abbrev cm:=@List.not_mem_nil
abbrev cp:=@List.getElem?_map
abbrev cq:=@PySem.wpAny_field
abbrev cw:=@List.lookup_cons
abbrev cx:=@List.mem_append_right
abbrev cy:=@PySem.F.slot_dict_itemiterator_next
abbrev cE:=@PySem.Heap.get?_update_self
abbrev cK:=@PySem.Heap.size_push
abbrev cS:=@List.getElem?_eq_none
abbrev c9:=@PySem.builtinLookup_eq_fast
abbrev db:=@PySem.wpAny_typeNameOfWhole_itemiter
abbrev dc:=@List.map_append
abbrev de:=@decide_eq_false
abbrev df:=@PySem.Heap.get?_update_other
abbrev dn:=@List.mem_of_getElem?
abbrev dv:=@Bool.and_eq_true
abbrev dy:=@PySem.wpAny_setField_rec
abbrev dE:=@Nat.ne_of_gt
abbrev dL:=@congrArg
abbrev dP:=@Nat.le_trans
abbrev dQ:=@PySem.wpAny_holding
abbrev dS:=@List.map_congr_left
abbrev d0:=@List.getElem?_append_left
abbrev d5:=@PySem.wpAny_typeNameOf_itemiter
abbrev d6:=@List.append_assoc
abbrev ed:=@PyProof.Rows.slot_tuple_getitem
abbrev ef:=@List.mem_iff_getElem?
abbrev eg:=@PySem.Heap.SameBut.update
abbrev eB:=@List.mem_flatMap
abbrev eC:=@PySem.F.plain_extend_loop
abbrev eD:=@decide_eq_true_eq
abbrev eI:=@Array.getElem?_eq_getElem
abbrev eJ:=@Bool.false_eq_true
abbrev eK:=@PySem.W.kia_one
abbrev eM:=@PySem.typeLookup_type
abbrev eP:=@beq_eq_false_iff_ne
abbrev eR:=@List.length_pos_iff
abbrev eS:=@PySem.wpAny_pyIter_tuple
abbrev eT:=@List.drop_eq_nil_iff
abbrev eW:=@List.find?_eq_none
abbrev e8:=@PySem.wpAny_specialOf
abbrev e9:=@Bool.eq_iff_iff
abbrev fb:=@List.length_set
abbrev fe:=@List.getElem?_set_self
abbrev ff:=@Or.inl
abbrev fg:=@List.length_range
abbrev fk:=@PySem.wpAny_of_eq
abbrev fm:=@List.length_singleton
abbrev fq:=@PySem.wpAny_seqItems
abbrev fw:=@List.any_cons
abbrev fz:=@Or.inr
abbrev fA:=@PySem.wpAny_mono
abbrev fE:=@True.intro
abbrev fF:=@PySem.wpAny_Call_Name_kw
abbrev fI:=@PySem.Around.under_plainId
abbrev fN:=@Ne.symm
abbrev fR:=@Nat.lt_irrefl
abbrev fT:=@if_false
abbrev f7:=@PySem.wpAny_pyIter_list
abbrev f8:=@if_true
abbrev ga:=@Int.toNat_natCast
abbrev gc:=@PySem.wpAny_isOneOf_itemiter
abbrev gd:=@PySem.codeAny_builtin
abbrev gg:=@PySem.F.args_dict_itemiterator_next_1
abbrev gl:=@PySem.wpAny_isInstance
abbrev gp:=@List.length_drop
abbrev gs:=@PySem.F.entry_dict_itemiterator_next
abbrev gt:=@Nat.le_of_lt
abbrev gu:=@Nat.lt_or_ge
abbrev gv:=@PySem.wpAny_attempt
abbrev gx:=@or_false
abbrev gy:=@List.length_eq_zero_iff
abbrev gz:=@List.find?_cons
abbrev gE:=@List.mem_zipIdx_iff_getElem?
abbrev gI:=@List.nil_append
abbrev gL:=@Array.length_toList
abbrev gS:=@Option.map_eq_none_iff
abbrev gX:=@PySem.plainId_quiet
abbrev g0:=@Nat.lt_succ_self
abbrev g6:=@List.length_take
abbrev g9:=@List.cons_append
abbrev hJ:=@List.all_eq_true
abbrev hU:=@PySem.wpAny_rule
abbrev hV:=@decide_eq_true
abbrev hW:=@PySem.Calls.spliced_cons
abbrev hZ:=@List.getElem?_append_right
abbrev h9:=@PySem.boot_len
abbrev ia:=@PySem.isSubtype_type
abbrev ib:=@PySem.F.slot_tuple_iterator_next
abbrev ic:=@PySem.Obj.data_mapFields
abbrev ii:=@List.fst_mem_of_mem_zipIdx
abbrev im:=@List.mem_of_find?_eq_some
abbrev ip:=@PySem.wpAny_passesOwn
abbrev iq:=@Option.map_some
abbrev ix:=@PySem.wpAny_loadPart'
abbrev iA:=@List.nodup_append
abbrev iE:=@List.map_nil
abbrev iF:=@PySem.wpAny_truthy_bool
abbrev iL:=@Nat.le_succ
abbrev iN:=@PySem.wpAny_typeOf
abbrev iO:=@List.flatMap_cons
abbrev iP:=@PySem.Paired.length
abbrev iS:=@PySem.F.plainAttrs_list
abbrev iX:=@PyProof.Rows.boot_tuple
abbrev i6:=@PySem.wpAny_setField
abbrev i7:=@List.getElem_mem
abbrev i8:=@List.any_eq_true
abbrev i9:=@PySem.sizeLine_eq
abbrev ja:=@Array.getElem?_eq_none
abbrev jp:=@PySem.size_of_entries
abbrev js:=@PySem.wpAny_updateSeq
abbrev jv:=@List.dropLast_concat_getLast
abbrev jI:=@PySem.Calls.spliced_nil
abbrev jS:=@Nat.le_succ_of_le
abbrev j3:=@PySem.wpAny_dictEntries
abbrev kc:=@PySem.Value.type.inj
abbrev ke:=@List.map_map
abbrev kf:=@List.exists_mem_of_ne_nil
abbrev kg:=@PySem.F.slot_tuple_getattribute
abbrev kl:=@List.all_cons
abbrev kq:=@PySem.F.args_tuple_add_2
abbrev kr:=@PySem.F.slot_list_append
abbrev kz:=@PySem.F.type_list_append
abbrev kA:=@List.forIn_cons
abbrev kB:=@PySem.wpAny_dictEpoch
abbrev kC:=@Nat.lt_of_le_of_lt
abbrev kD:=@beq_iff_eq
abbrev kF:=@PySem.W.callWith_K
abbrev kG:=@List.getElem?_take
abbrev kH:=@List.getElem?_drop
abbrev kK:=@PySem.F.entry_tuple_add
abbrev kL:=@PySem.F.slot_tuple_hash
abbrev kM:=@List.any_eq_false
abbrev kN:=@PySem.F.slot_tuple_add
abbrev kP:=@List.reverse_cons
abbrev kR:=@List.forIn_nil
abbrev kT:=@List.getElem?_set
abbrev kU:=@PyProof.Rows.boot_list
abbrev kX:=@PySem.wpAny_notOrdered_dict
abbrev k6:=@PySem.F.slot_dict_get
abbrev k7:=@PySem.Obj.isFreed_of_fields
abbrev k8:=@List.singleton_append
abbrev k9:=@PySem.call_meets
abbrev lf:=@PySem.F.slot_tuple_mul
abbrev lh:=@List.eq_nil_of_length_eq_zero
abbrev li:=@List.range_eq_range'
abbrev lI:=@PySem.codeAny_extend_loopS
abbrev lP:=@PySem.wpAny_updateSeq_pair
abbrev lS:=@PySem.F.args_object_init_2
abbrev lT:=@List.pairwise_append
abbrev l0:=@PySem.wpAny_execs_nil
abbrev l4:=@List.nodup_cons
abbrev l5:=@List.length_nil
abbrev l6:=@PySem.F.args_tuple_iterator_next_1
abbrev l7:=@PySem.F.slot_zip_next
abbrev l8:=@PySem.F.slot_int_rmul
abbrev l9:=@List.find?_some
abbrev md:=@List.filterMap_cons
abbrev me:=@PySem.W.plainGet_of
abbrev mf:=@List.getElem?_range
abbrev mh:=@List.length_reverse
abbrev ml:=@PySem.codeAny_mono
abbrev mm:=@Nat.lt_trans
abbrev mr:=@PySem.F.entry_tuple_iterator_next
abbrev mv:=@PySem.SeqAt.EqAt.int_str
abbrev mx:=@PySem.SeqAt.EqAt.str_int
abbrev mB:=@PySem.Calls.Name_function_global
abbrev mE:=@PySem.SeqAt.EqAt.int_int
abbrev mI:=@List.drop_zero
abbrev mM:=@PySem.wpAny_newTuple
abbrev mN:=@PySem.isSubtype_stop
abbrev mS:=@PySem.wpAny_fieldsOf
abbrev mT:=@List.drop_drop
abbrev ng:=@PySem.F.entry_extend_loop
abbrev nh:=@PySem.wpAny_binaryOp_repeat_ref
abbrev nn:=@List.getLast?_eq_getElem?
abbrev ny:=@Classical.byContradiction
abbrev nE:=@PySem.wpAny_sequenceKey
abbrev nI:=@PySem.wpAny_letGo
abbrev nK:=@PySem.wpAny_pyIter_slot
abbrev nN:=@Option.isSome_iff_exists
abbrev nS:=@PySem.wpAny_handled
abbrev nV:=@PySem.wpAny_onRaise
abbrev nX:=@PySem.wpAny_forIn_list
abbrev og:=@PySem.wpAny_pyNext_tuple_item
abbrev oj:=@List.getElem?_replicate
abbrev om:=@PySem.F.args_dict_get_3
abbrev oq:=@PySem.noFill_tuple_add
abbrev ow:=@List.take_length
abbrev ox:=@List.range'_succ
abbrev oy:=@PySem.entryFor_of_tree
abbrev oz:=@PySem.F.plain_list_iadd
abbrev oB:=@decide_eq_false_iff_not
abbrev oC:=@PySem.wpAny_load
abbrev oI:=@PySem.W.cellsFrom_some
abbrev oP:=@PySem.F.entry_dict_get
abbrev oQ:=@PySem.typeIs_int
abbrev pc:=@List.find?_cons_of_neg
abbrev pd:=@List.take_of_length_le
abbrev pf:=@List.mem_filter
abbrev pi:=@List.of_mem_zip
abbrev pj:=@Int.emod_nonneg
abbrev pp:=@List.length_replicate
abbrev pz:=@Bool.beq_eq_decide_eq
abbrev pE:=@PySem.callType_codes
abbrev pS:=@PySem.wpAny_throw
abbrev pT:=@PySem.F.called_tuple
abbrev pV:=@List.mem_of_mem_drop
abbrev p0:=@List.find?_map
abbrev p4:=@Option.map_map
abbrev p5:=@Nat.add_le_add_left
abbrev p9:=@Nat.add_assoc
abbrev qc:=@PySem.seq_tuple_add
abbrev qf:=@PySem.signature?_of
abbrev qh:=@Nat.mul_assoc
abbrev qk:=@Prod.mk.injEq
abbrev qo:=@Nat.mul_comm
noncomputable section
namespace Lake.L2
open PySem PySem.Spec PyProof.Rows
variable {h:Heap}{Q:Unit->Shared->Prop}
section
variable {prog:Program}{w:World}{κ:Type}[DecidableEq κ]{kd:HeapKind prog w κ}{A:Around}{E:oT}{s:Shared}{d a it:Addr}{xs:List (κ×Addr×Value)}{k:κ}{v:Value}
def A5 (kd:HeapKind prog w κ)(h:Heap)(d:Addr)(xs:List (κ×Addr×Value)):Prop:=
 ∃o es,h.get? d=some o/\o.ExactDict/\o.data=.dict es xs.length/\es.toList=xs.map (entryOfKey kd)/\(∀x∈xs,kd.is h x.1 x.2.1)/\(xs.map (·.1)).Nodup
theorem A5.of (m:A5 kd h d xs):h.DictOfH kd d xs:=let ⟨o,es,q⟩:=m;⟨o,es,_,q⟩
theorem sH (hu:kd.room A)(hk:kd.is s.heap k a)(m:A5 kd s.heap d xs)(hz:xs.length<=sizeLine)
  (q:∀h',A5 kd h' d (storedH xs k a v)->Heap.SameBut d s.heap h'->Q () { s with heap:=h',toks:=s.toks+kd.draws k }):wpAny (model prog w) A (dictSet d (.ref a) v) Q E s:=by
 obtain⟨o,es,o1,o2,o3,o4,o5,o6⟩:=m
 unfold dictSet
 try with_reducible refine dQ ?_
 refine ab (kd.pyHash hu hk ?_)
 unfold dictSetHashed
 try with_reducible refine dQ ?_
 refine ab (wpAny_dictFind_heap (s:={ s with toks:=s.toks+kd.draws k }) hu hk o1 o3 o4 o5 o6 (λno=>?_) λj p hj=>?_)
 ·have nk:k∉xs.map (·.1):=not_mem_keys_of_get no
  have e:=storedH_new (atKey_none_of_get no) a v
  rw[e] at q
  refine ab (hU (wpAny_updateDictKeys (hz:=by have:=jp o4;omega) (s:={ s with toks:=s.toks+kd.draws k }) o1 o3 (q _ ⟨_,_,cE _ o1 (Obj.isFreed_of_dict (Obj.data_mapDictKeys o3 _)),o2.mapDictKeys _,by rw[bo];exact Obj.data_mapDictKeys o3 _,?_,λx hx=>?_,?_⟩ (eg ..))))
  ·simp[o4,entryOfKey]
  ·rcases bn.mp hx with z | z
   ·exact kd.keeps (o5 x z) o1 o3 (eg ..)
   ·rw[av.mp z];exact kd.keeps hk o1 o3 (eg ..)
  ·rw[dc]
   exact iA.mpr ⟨o6,by simp,λx hx y hy z=>nk (by rw[a0,iE,av] at hy;have hy:y=k:=hy;subst hy z;exact hx)⟩
 ·have e:=storedH_old (atKey_of_get o6 hj) a v
  rw[e] at q
  refine ab (hU (ab (wpAny_updateDict (s:={ s with toks:=s.toks+kd.draws k }) o1 o3 (wpAny_point (q _ ⟨_,_,cE _ o1 (Obj.isFreed_of_dict (Obj.data_mapDict o3 _)),o2.mapDict _,by rw[aI];exact Obj.data_mapDict o3 _,?_,λx hx=>?_,?_⟩ (eg ..))))))
  ·have y:=modify_map_putAt (entryOfKey kd) (λe:DictEntry=>{ e with val:=v }) k v (λ_ _=>rfl) o6 hj
   rw[← o4] at y
   cases es
   simpa using y
  ·obtain⟨y,hy,rfl⟩:=cb.mp hx
   unfold putAt
   split <;> exact kd.keeps (o5 y hy) o1 o3 (eg ..)
  ·rw[keys_map_putAt];exact o6
theorem HF (hu:kd.room A.in1)(hk:kd.is s.heap k a)(m:A5 kd s.heap d xs)(hz:xs.length<=sizeLine)
  (q:∀h',A5 kd h' d (storedH xs k a v)->Heap.SameBut d s.heap h'->Q () { s with heap:=h',toks:=s.toks+kd.draws k }):wpAny (model prog w) A (setItem (.ref d) (.ref a) v) Q E s:=by
 have ty:=m.of.typeIs
 unfold setItem
 try with_reducible refine dQ ?_
 refine ab (nE ty (by decide) (ab (b6 (name:=Str.ofString "__setitem__") ty slot_dict_setitem (ci slot_dict_setitem ty entry_dict_setitem ?_ (args_dict_setitem _ _ _)))))
 show wpAny _ _ (Builtin.Dict.notOrdered "__setitem__" ⟨[.ref d,.ref a,v],[]⟩ >>= _) _ _ s
 refine ab (kX ty ?_)
 show wpAny _ _ (dictSet d (.ref a) v >>= λ_=>_) _ _ s
 exact ab (sH hu hk m hz λh' m' DM=>ae ⟨.none,rfl,ae (q h' m' DM)⟩)
end
abbrev Key:=Sum Int Str
noncomputable def jR:Key->Value->Bool
 | .inl k,v=>Value.isInt k v
 | .inr x,v=>Value.isStrOf x v
noncomputable def HH (w:World):Key->Int
 | .inl k=>hashInt k
 | .inr x=>hashStr w x
theorem bU:∀{k:Key}{v:Value},jR k v=true->(∃i t,k=Sum.inl i/\v=Value.int i t)\/(∃x t,k=Sum.inr x/\v=Value.str x t)
 | .inl i,v,h=>by
  obtain⟨t,e⟩:=Value.isInt_shape (k:=i) (v:=v) h
  exact .inl ⟨i,t,rfl,e⟩
 | .inr x,v,h=>by
  obtain⟨t,e⟩:=Value.isStrOf_shape (x:=x) (v:=v) h
  exact .inr ⟨x,t,rfl,e⟩
theorem pU (i:Int)(t:Tok):jR (.inl i) (.int i t)=true:=by simp[jR,Value.isInt]
theorem pW (x:Str)(t:Tok):jR (.inr x) (.str x t)=true:=by simp[jR,Value.isStrOf]
theorem pX (a b:Int):decide ((Sum.inl a:Key)=Sum.inl b)=(a == b):=by
 by_cases e:a=b
 ·subst e;simp
 ·have h:¬ (Sum.inl a:Key)=Sum.inl b:=λq=>e (Sum.inl.inj q)
  rw[de h]
  exact(eP.mpr e).symm
theorem Fq (a b:Str):decide ((Sum.inr a:Key)=Sum.inr b)=decide (a=b):=by
 by_cases e:a=b
 ·subst e;simp
 ·have h:¬ (Sum.inr a:Key)=Sum.inr b:=λq=>e (Sum.inr.inj q)
  rw[de h,de e]
theorem yz (a:Int)(b:Str):decide ((Sum.inl a:Key)=Sum.inr b)=false:=de (λq=>nomatch q)
theorem yC (a:Str)(b:Int):decide ((Sum.inr a:Key)=Sum.inl b)=false:=de (λq=>nomatch q)
def dZ (prog:Program)(w:World):PySem.KeyKind prog w Key where
 is:=jR
 hash:=HH w
 inj:=λv a b ha hb=>by
  rcases bU ha with ⟨i,t,rfl,rfl⟩ | ⟨x,t,rfl,rfl⟩
  ·rcases bU hb with ⟨j,u,rfl,e⟩ | ⟨y,u,rfl,e⟩
   ·injection e with e1 _;rw[e1]
   ·exact nomatch e
  ·rcases bU hb with ⟨j,u,rfl,e⟩ | ⟨y,u,rfl,e⟩
   ·exact nomatch e
   ·injection e with e1 _;rw[e1]
 byValue:=λk v h=>by
  rcases bU h with ⟨i,t,rfl,rfl⟩ | ⟨x,t,rfl,rfl⟩ <;> rfl
 pyHash:=λhv h=>by
  rcases bU hv with ⟨i,t,rfl,rfl⟩ | ⟨x,t,rfl,rfl⟩
  ·exact wpAny_pyHash_int h
  ·exact wpAny_pyHash_str h
 eqBool:=λhu hv h=>by
  rcases bU hu with ⟨i,t,rfl,rfl⟩ | ⟨x,t,rfl,rfl⟩
  ·rcases bU hv with ⟨j,u,rfl,rfl⟩ | ⟨y,u,rfl,rfl⟩
   ·rw[pX] at h;exact wpAny_eqBool_int h
   ·rw[yz] at h;exact mv i t y u _ _ _ _ h
  ·rcases bU hv with ⟨j,u,rfl,rfl⟩ | ⟨y,u,rfl,rfl⟩
   ·rw[yC] at h;exact mx x t j u _ _ _ _ h
   ·rw[Fq] at h;exact wpAny_eqBool_str h
 «strs»:=λk x t v h=>by
  rcases bU h with ⟨i,u,rfl,e⟩ | ⟨y,u,rfl,e⟩
  ·exact nomatch e
  ·injection e with e1 _
   subst e1
   cases v <;> rfl
noncomputable def cU:Key->Value->Bool
 | .inl k,.bool b=>decide (k=if b=true then 1 else 0)
 | k,v=>jR k v
variable {v:Value}
theorem bB {k:Key}(h:cU k v=true):(∃b,k=Sum.inl (if b=true then 1 else 0)/\v=Value.bool b)\/(∃i t,k=Sum.inl i/\v=Value.int i t)\/(∃x t,k=Sum.inr x/\v=Value.str x t):=by
 unfold cU at h
 split at h
 ·exact .inl ⟨_,dL _ (of_decide_eq_true h),rfl⟩
 ·exact .inr (bU h)
theorem lK {k:Key}(h:jR k v=true):cU k v=true:=by
 rcases bU h with ⟨i,t,rfl,rfl⟩ | ⟨x,t,rfl,rfl⟩ <;> exact h
theorem Br (b:Bool):cU (.inl (if b=true then 1 else 0)) (.bool b)=true:=hV rfl
theorem Nu (a b:Bool):decide ((Sum.inl (if a=true then 1 else 0):Key)=Sum.inl (if b=true then 1 else 0))=(a == b):=by
 rw[pX];cases a <;> cases b <;> rfl
variable {w:World}{A:Around}{E:oT}{s:Shared}
theorem Ft {prog:Program}(b:Bool){Q:Int->Shared->Prop}(h:Q (hashInt (if b=true then 1 else 0)) { s with toks:=s.toks+1 }):
  wpAny (model prog w) A (pyHash (.bool b)) Q E s:=by
 refine W.pyHash_slot (s:=s) (T := "bool") (by cases b <;> exact PySem.typeIs_bool s _) PySem.F.slot_bool_hash entry_int_hash (args_int_hash _) (by rw[beq_builtin_none]) (.inl rfl) ?_
 have e:reduceHash (rawHash (if b=true then 1 else 0))=hashInt (if b=true then 1 else 0):=by cases b <;> decide
 show wpAny _ _ (do ret (← mkInt (rawHash (if b=true then 1 else 0)))) _ _ s
 refine fA (wpAny_ret_mkInt (Q:=λv s'=>∃t,v=.int (rawHash (if b=true then 1 else 0)) t/\s'={ s with toks:=s.toks+1 }) ⟨_,rfl,rfl⟩) (λfin s' hq=>?_) λ_ _ x=>x
 obtain⟨v,rfl,t,rfl,rfl⟩:=hq
 exact⟨_,_,rfl,by rw[e];exact h⟩
def sI (prog:Program)(w:World):PySem.KeyKind prog w Key where
 is:=cU
 hash:=HH w
 inj:=λv a b ha hb=>by
  rcases bB ha with ⟨c,rfl,rfl⟩ | ⟨i,t,rfl,rfl⟩ | ⟨x,t,rfl,rfl⟩ <;> rcases bB hb with ⟨d,rfl,e⟩ | ⟨j,u,rfl,e⟩ | ⟨y,u,rfl,e⟩ <;> cases e <;> rfl
 byValue:=λk v h=>by
  rcases bB h with ⟨c,rfl,rfl⟩ | ⟨i,t,rfl,rfl⟩ | ⟨x,t,rfl,rfl⟩ <;> rfl
 pyHash:=λhv h=>by
  rcases bB hv with ⟨c,rfl,rfl⟩ | ⟨i,t,rfl,rfl⟩ | ⟨x,t,rfl,rfl⟩
  ·exact Ft c h
  ·exact wpAny_pyHash_int h
  ·exact wpAny_pyHash_str h
 eqBool:=λhu hv h=>by
  rcases bB hu with ⟨c,rfl,rfl⟩ | ⟨i,t,rfl,rfl⟩ | ⟨x,t,rfl,rfl⟩
  ·rcases bB hv with ⟨d,rfl,rfl⟩ | ⟨j,u,rfl,rfl⟩ | ⟨y,u,rfl,rfl⟩
   ·rw[Nu] at h;exact SeqAt.EqAt.bool_bool _ _ _ _ _ _ h
   ·rw[pX] at h;exact SeqAt.EqAt.bool_int _ _ _ _ _ _ _ h
   ·rw[yz] at h;exact SeqAt.EqAt.bool_str _ _ _ _ _ _ _ h
  ·rcases bB hv with ⟨d,rfl,rfl⟩ | ⟨j,u,rfl,rfl⟩ | ⟨y,u,rfl,rfl⟩
   ·rw[pX] at h;exact SeqAt.EqAt.int_bool _ _ _ _ _ _ _ h
   ·rw[pX] at h;exact wpAny_eqBool_int h
   ·rw[yz] at h;exact mv i t y u _ _ _ _ h
  ·rcases bB hv with ⟨d,rfl,rfl⟩ | ⟨j,u,rfl,rfl⟩ | ⟨y,u,rfl,rfl⟩
   ·rw[yC] at h;exact SeqAt.EqAt.str_bool _ _ _ _ _ _ _ h
   ·rw[yC] at h;exact mx x t j u _ _ _ _ h
   ·rw[Fq] at h;exact wpAny_eqBool_str h
 «strs»:=λk x t v h=>by
  rcases bB h with ⟨c,rfl,e⟩ | ⟨i,u,rfl,e⟩ | ⟨y,u,rfl,e⟩
  ·exact nomatch e
  ·exact nomatch e
  ·injection e with e1 _
   subst e1
   cases v <;> rfl
theorem Bt (prog:Program)(w:World)(i:Int)(t:Tok):(dZ prog w).is (.inl i) (.int i t)=true:=pU i t
theorem Bu (prog:Program)(w:World)(x:Str)(t:Tok):(dZ prog w).is (.inr x) (.str x t)=true:=pW x t
inductive AG where
 | k (x:Key) | nil | cons (a b:AG)
 deriving DecidableEq
def AG.tp:List AG->AG
 | []=>.nil
 | a::l=>.cons a (tp l)
theorem AG.EM:∀{l m:List AG},AG.tp l=AG.tp m->l=m
 | [],[],_=>rfl
 | [],_::_,e=>nomatch e
 | _::_,[],e=>nomatch e
 | a::l,b::m,e=>by
  have e':AG.cons a (.tp l)=AG.cons b (.tp m):=e
  injection e' with e1 e2
  rw[e1,AG.EM e2]
theorem AG.Pf {l:List AG}{x:Key}(e:AG.tp l=.k x):False:=by
 cases l <;> exact nomatch e
def CC (R:AG->Value->Prop)(h:Heap)(ks:List AG)(a:Addr):Prop:=∃o items n,h.get? a=some o/\o.cls=.type "tuple" /\ o.data=.seq items n/\Paired R ks items.toList
def CO:Nat->Heap->AG->Value->Prop
 | 0,_,n,v=>∃x,n=.k x/\cU x v=true
 | d+1,h,n,v=>(∃x,n=.k x/\cU x v=true)\/∃ns a,n=.tp ns/\v=.ref a/\CC (CO d h) h ns a
theorem CO.leaf {d:Nat}{x:Key}(e:cU x v=true):CO d h (.k x) v:=by
 cases d with
 | zero=>exact⟨x,rfl,e⟩
 | succ d=>exact .inl ⟨x,rfl,e⟩
noncomputable def nH (w:World):AG->Int×List Int
 | .k x=>(HH w x,[])
 | .nil=>(reduceHash (Builtin.Tuple.tupleHashOf []),[])
 | .cons a b=>(reduceHash (Builtin.Tuple.tupleHashOf ((nH w a).1::(nH w b).2)),(nH w a).1::(nH w b).2)
theorem Fv (w:World):∀l:List AG,(nH w (.tp l)).2=l.map λx=>(nH w x).1
 | []=>rfl
 | a::l=>by
  show (nH w a).1::(nH w (.tp l)).2=_
  rw[Fv w l];rfl
theorem QM (w:World)(l:List AG):(nH w (.tp l)).1=reduceHash (Builtin.Tuple.tupleHashOf (l.map λx=>(nH w x).1)):=by
 cases l with
 | nil=>simp[nH,AG.tp]
 | cons a l=>rw[← Fv];rfl
noncomputable def nD:AG->Nat
 | .k _=>1
 | .nil=>1
 | .cons a b=>nD a+nD b
theorem Kh:∀l:List AG,nD (.tp l)=(l.map nD).sum+1
 | []=>rfl
 | a::l=>by
  show nD a+nD (.tp l)=_
  rw[Kh l,a0,List.sum_cons];omega
variable {a b:Addr}{R:AG->Value->Prop}{ks:List AG}{u:Value}
section
variable {P:Program}{w:World}
theorem Paired.inj {α β:Type}{R:α->β->Prop}(hR:∀x y v,R x v->R y v->x=y):∀{l m:List α}{vs:List β},Paired R l vs->Paired R m vs->l=m
 | _,_,_,.nil,.nil=>rfl
 | _,_,_,.cons h t,.cons h' t'=>by rw[hR _ _ _ h h',Paired.inj hR t t']
theorem CC.inj {R:AG->Value->Prop}{h:Heap}{x y:List AG}{a:Addr}(hR:∀x y v,R x v->R y v->x=y)(hx:CC R h x a)(hy:CC R h y a):x=y:=by
 obtain⟨o,AL,n,e1,_,e3,r⟩:=hx
 obtain⟨o',its',n',Yj,_,e3',r'⟩:=hy
 obtain rfl:o=o':=bi (e1.symm.trans Yj)
 rw[e3] at e3'
 injection e3' with e _
 subst e
 exact Paired.inj hR r r'
theorem yD {x:Key}(h:cU x (.ref a)=true):False:=by
 rcases bB h with ⟨_,_,e⟩ | ⟨_,_,_,e⟩ | ⟨_,_,_,e⟩ <;> exact nomatch e
theorem yE {x y:Key}(hx:cU x v=true)(hy:cU y v=true):x=y:=by
 rcases bB hx with ⟨c,rfl,rfl⟩ | ⟨i,t,rfl,rfl⟩ | ⟨x,t,rfl,rfl⟩ <;> rcases bB hy with ⟨d,rfl,e⟩ | ⟨j,u,rfl,e⟩ | ⟨y,u,rfl,e⟩ <;> cases e <;> rfl
theorem CO.inj:∀{d:Nat}{h:Heap}(x y:AG) (v:Value),CO d h x v->CO d h y v->x=y
 | 0,h,x,y,v,⟨p,e,hp⟩,⟨q,f,hq⟩=>by rw[e,f,yE hp hq]
 | d+1,h,x,y,v,hx,hy=>by
  rcases hx with ⟨p,e,hp⟩ | ⟨ns,a,e,ev,t⟩
  ·rcases hy with ⟨q,f,hq⟩ | ⟨ms,b,f,fv,u⟩
   ·rw[e,f,yE hp hq]
   ·rw[fv] at hp;exact(yD hp).elim
  ·rcases hy with ⟨q,f,hq⟩ | ⟨ms,b,f,fv,u⟩
   ·rw[ev] at hq;exact(yD hq).elim
   ·rw[ev] at fv
    cases fv
    rw[e,f,CC.inj (λx y v=>CO.inj x y v) t u]
theorem eN {α β:Type}{F G:α->β->Prop}:∀{l₁:List α}{l₂:List β},Paired F l₁ l₂->(∀a b,F a b->G a b)->Paired G l₁ l₂
 | _,_,.nil,_=>.nil
 | _,_,.cons h t,f=>.cons (f _ _ h) (eN t f)
theorem CC.keeps {R':AG->Value->Prop}{h':Heap}{d:Addr}{o:Obj}{es ep}(x:CC R h ks a)(hR:∀k v,R k v->R' k v)(ho:h.get? d=some o)(hd:o.data=.dict es ep)(hs:Heap.SameBut d h h'):CC R' h' ks a:=by
 obtain⟨o',items,n,LZ,hc,TH,hi⟩:=x
 have A3:a≠d:=by
  rintro rfl
  obtain rfl:o'=o:=bi (LZ.symm.trans ho)
  rw[hd] at TH;exact nomatch TH
 exact⟨o',items,n,(hs.2 a A3).trans LZ,hc,TH,eN hi hR⟩
theorem CO.keeps:∀{n:Nat}{h h':Heap}{d:Addr}{o:Obj} {es ep}(k:AG) (v:Value),CO n h k v->h.get? d=some o->o.data=.dict es ep->Heap.SameBut d h h'->CO n h' k v
 | 0,h,h',d,o,es,ep,k,v,x,_,_,_=>x
 | n+1,h,h',d,o,es,ep,k,v,x,ho,hd,hs=>x.imp id λ⟨ns,a,e,ev,t⟩=>⟨ns,a,e,ev,t.keeps (λk v q=>CO.keeps k v q ho hd hs) ho hd hs⟩
theorem CC.typeIs (x:CC R s.heap ks a):s.TypeIs (.ref a) "tuple" := let ⟨o,_,_,ho,hc,_⟩:=x;⟨o,ho,hc⟩
theorem CC.GL (x:CC R h ks a):∃items,h.IsTuple a items/\Paired R ks items.toList:=let ⟨o,AL,n,ho,hc,hd,r⟩:=x;⟨AL,⟨o,ho,hc,n,hd⟩,r⟩
theorem KH {Q:Int->Shared->Prop}(hu:A.units < cLine)(hk:CC R s.heap ks a)
  (hR:∀k v (s':Shared) (Q':Int->Shared->Prop) (E':oT),R k v->s'.heap=s.heap->Q' (nH w k).1 { s' with toks:=s'.toks+nD k }->wpAny (model P w) A.in1 (pyHash v) Q' E' s')
  (h:Q (nH w (.tp ks)).1 { s with toks:=s.toks+nD (.tp ks) }):wpAny (model P w) A (pyHash (.ref a)) Q E s:=by
 have hT:=hk.typeIs
 obtain⟨o,items,n,ho,_,hd,hi⟩:=hk
 unfold pyHash
 first | unfold pyHashByItsType | skip
 first | refine ab (wpAny_cRoomFor_or (.inr hu) ?_) | skip
 refine ab (e8 hT kL.lookup ?_)
 show wpAny _ _ (if (some (Value.builtin "tuple.__hash__") == some Value.none)=true then _ else _) Q E s
 rw[ax (by rw[beq_builtin_none];exact ba)]
 refine ab (e8 hT kL.lookup ?_)
 show wpAny _ _ (callSpecialIfBoundUnlessNone? (.ref a) "__hash__" _ >>= _) Q E s
 refine ab (wpAny_callSpecialIfBoundUnlessNone?_slot hT kL (ci kL hT F.entry_tuple_hash ?_ (F.args_tuple_hash_1 _)))
 show wpAny _ _ (Builtin.Tuple.tupleItemsOf (.ref a) >>= _) _ _ s
 refine ab (wpAny_tupleItemsOf ho hd ?_)
 refine ab ?_
 rw[← Array.forIn_toList]
 refine nX _
  (λrest (b:Array Int) s'=>∃done left,ks=done++left/\Paired R left rest/\b.toList=done.map (λx=>(nH w x).1)/\s'={ s with toks:=s.toks+(done.map nD).sum })
  _ ?_ ?_ _ _ ⟨[],ks,rfl,hi,rfl,rfl⟩
 ·rintro x rest b s' ⟨done,left,rfl,hl,hb,rfl⟩
  cases hl with
  | @cons k _ ks' _ h1 Pm=>
   refine ab (hR _ _ _ _ _ h1 rfl ?_)
   exact ae ⟨done++[k],ks',by simp,Pm,by simp[hb],by simp[p9]⟩
 ·rintro b s' ⟨done,left,rfl,hl,hb,rfl⟩
  cases hl
  rw[bE,QM,Kh,← p9] at h
  show wpAny _ _ (retInt (Builtin.Tuple.tupleHashOf b.toList)) _ _ _
  rw[hb]
  refine wpAny_ret_mkInt ?_
  generalize List.map (λx=>(nH w x).1) done=hs at h
  show wpAny _ _ (if (decide (-(2:Int) ^ 63<=Builtin.Tuple.tupleHashOf hs)&&decide (Builtin.Tuple.tupleHashOf hs < 2 ^ 63))=true then _ else _) Q E _
  unfold reduceHash at h
  by_cases hr:(decide (-(2:Int) ^ 63<=Builtin.Tuple.tupleHashOf hs)&&decide (Builtin.Tuple.tupleHashOf hs < 2 ^ 63))=true
  ·rw[bd hr]
   rw[bd hr] at h
   exact ae h
  ·rw[ax hr]
   rw[ax hr] at h
   exact ab (hU (ae h))
theorem in1_units (A:Around):A.in1.units=A.units+1:=rfl
theorem wX {x:Key}{Q:Int->Shared->Prop}(hp:cU x v=true)(h:Q (nH w (.k x)).1 { s with toks:=s.toks+nD (.k x) }):wpAny (model P w) A (pyHash v) Q E s:=
 (sI P w).pyHash (k:=x) hp h
theorem CO.hash:∀{d:Nat}{A:Around}{E:oT}{s:Shared}{k:AG}{v:Value}{Q:Int->Shared->Prop},A.units+d < cLine->CO d s.heap k v->Q (nH w k).1 { s with toks:=s.toks+nD k }->wpAny (model P w) A (pyHash v) Q E s
 | 0,A,E,s,k,v,Q,_,⟨x,e,hp⟩,h=>by subst e;exact wX hp h
 | d+1,A,E,s,k,v,Q,hu,x,h=>by
  rcases x with ⟨x,e,hp⟩ | ⟨ns,a,e,ev,t⟩
  ·subst e;exact wX hp h
  ·subst e ev
   exact KH (by omega) t (λk v s' Q' E' r es h'=>CO.hash (d:=d) (by rw[in1_units];omega) (by rw[es];exact r) h') h
theorem ul {R:AG->Value->Prop}:∀{x y:List AG}{us vs:qv}(e:Nat->Bool),Paired R x us->Paired R y vs->(∀j p q,x[j]?=some p->y[j]?=some q->e j=decide (p=q))->
  ((List.range (min us.length vs.length)).all e&&us.length == vs.length)=decide (x=y)
 | _,_,_,_,e,.nil,.nil,_=>by simp
 | _,_,_,_,e,.nil,.cons _ _,_=>by simp
 | _,_,_,_,e,.cons _ _,.nil,_=>by simp
 | _,_,_,_,e,.cons (a:=p) (l₁:=x) (l₂:=us) h t,.cons (a:=q) (l₁:=y) (l₂:=vs) h' t',he=>by
  have ih:=ul (λj=>e (j+1)) t t' λj p q a b=>he (j+1) p q (by simpa using a) (by simpa using b)
  have h0:=he 0 p q rfl rfl
  rw[bv,bv,Nat.succ_min_succ,List.range_succ_eq_map,kl,List.all_map]
  have e1:((us.length+1) == (vs.length+1))=(us.length == vs.length):=by simp
  rw[e1,Bool.and_assoc,h0]
  have e2:((List.range (min us.length vs.length)).all (e∘Nat.succ)&&us.length == vs.length)=decide (x=y):=ih
  rw[e2]
  by_cases z:p=q
  ·subst z;simp
  ·simp[z]
theorem lL {α β:Type}{F:α->β->Prop}:∀{l₁:List α}{l₂:List β}{i:Nat}{y:β},Paired F l₁ l₂->l₂[i]?=some y->∃x,l₁[i]?=some x/\F x y
 | _,_,_,_,.nil,e=>by simp at e
 | _,_,0,_,.cons r _,e=>by simp at e;subst e;exact⟨_,rfl,r⟩
 | _,_,i+1,y,.cons _ t,e=>by
  obtain⟨x,h1,h2⟩:=lL (i:=i) (y:=y) t (by simpa using e)
  exact⟨x,by simpa using h1,h2⟩
theorem Dn {x y:List AG}(hi:∀x y v,R x v->R y v->x=y)(hu:A.units < cLine)(hx:CC R s.heap x a)(hy:CC R s.heap y b)
  (hR:∀p q u v,R p u->R q v->SeqAt.EqAt A.in1 s u v (decide (p=q))):SeqAt.EqAt A s (.ref a) (.ref b) (decide (x=y)):=by
 by_cases Sa:a=b
 ·subst Sa
  rw[CC.inj hi hx hy,hV rfl]
  exact SeqAt.EqAt.same _
 ·obtain⟨us,h1,r1⟩:=hx.GL
  obtain⟨vs,h2,r2⟩:=hy.GL
  have l1:=iP r1
  have l2:=iP r2
  have key:=SeqAt.RcAt.tuples (e:=λj=>match x[j]?,y[j]? with | some p,some q=>decide (p=q) | _,_=>false) h1 h2 hu λj j1 j2=>by
   have e1:us.toList[j]?=some us[j]:=by simp[j1]
   have e2:vs.toList[j]?=some vs[j]:=by simp[j2]
   obtain⟨p,ep,rp⟩:=lL r1 e1
   obtain⟨q,eq,rq⟩:=lL r2 e2
   simp only[ep,eq]
   exact hR p q _ _ rp rq
  refine SeqAt.EqAt.of_refs Sa ?_
  have fin:=ul (R:=R) (λj=>match x[j]?,y[j]? with | some p,some q=>decide (p=q) | _,_=>false) r1 r2 λj p q a b=>by simp only[a,b]
  rw[← fin]
  simpa using key
theorem yF {x:Key}(hu:A.units < cLine)(hp:cU x u=true)(t:CC R s.heap ks a):SeqAt.EqAt A s u (.ref a) false/\SeqAt.EqAt A s (.ref a) u false:=by
 obtain⟨us,h1,_⟩:=t.GL
 rcases bB hp with ⟨c,_,rfl⟩ | ⟨i,t,_,rfl⟩ | ⟨x,t,_,rfl⟩
 ·exact⟨.bool_tuple c h1 hu,.tuple_bool c h1 hu⟩
 ·exact⟨.int_tuple i t h1 hu,.tuple_int i t h1 hu⟩
 ·exact⟨.str_tuple x t h1 hu,.tuple_str x t h1 hu⟩
theorem BZ {x y:Key}(hx:cU x u=true)(hy:cU y v=true):SeqAt.EqAt A s u v (decide (AG.k x=AG.k y)):=λprog w E Q h=>by
 have e:decide (AG.k x=AG.k y)=decide (x=y):=by simp
 rw[e] at h
 exact(sI prog w).eqBool (a:=x) (b:=y) hx hy h
theorem CO.eq:∀{d:Nat}{A:Around}{s:Shared}(x y:AG) (u v:Value),A.units+d < cLine->CO d s.heap x u->CO d s.heap y v->SeqAt.EqAt A s u v (decide (x=y))
 | 0,A,s,x,y,u,v,_,⟨p,e,hp⟩,⟨q,f,hq⟩=>by subst e f;exact BZ hp hq
 | d+1,A,s,x,y,u,v,hu,hx,hy=>by
  rcases hx with ⟨p,e,hp⟩ | ⟨ns,a,e,ev,t⟩
  ·rcases hy with ⟨q,f,hq⟩ | ⟨ms,b,f,fv,r⟩
   ·subst e f;exact BZ hp hq
   ·subst e f fv
    rw[de (λz=>AG.Pf z.symm)]
    exact(yF (by omega) hp r).1
  ·rcases hy with ⟨q,f,hq⟩ | ⟨ms,b,f,fv,r⟩
   ·subst e f ev
    rw[de (λz=>AG.Pf z)]
    exact(yF (by omega) hq t).2
   ·subst e f ev fv
    have e:decide (AG.tp ns=AG.tp ms)=decide (ns=ms):=by
     by_cases z:ns=ms
     ·simp[z]
     ·rw[de z,de (λq=>z (AG.EM q))]
    rw[e]
    exact Dn (λx y v=>CO.inj x y v) (by omega) t r λp q u v h1 h2=>CO.eq p q u v (by rw[in1_units];omega) h1 h2
theorem HJ {f:Nat}{Q:Bool->Shared->Prop}(hk:CC R s.heap ks a)
  (hR:∀k v (Q':Bool->Shared->Prop),R k v->Q' true s->wpAny (model P w) A (eqIsQuiet f v) Q' E s) (h:Q true s):wpAny (model P w) A (eqIsQuiet (f+1) (.ref a)) Q E s:=by
 have hT:=hk.typeIs
 obtain⟨o,items,n,ho,_,hd,hi⟩:=hk
 unfold eqIsQuiet
 refine ab (e8 hT F.slot_tuple_eq.lookup ?_)
 show wpAny _ _ (isInstance (.ref a) (.type "tuple") >>= _) _ _ s
 refine ab (gl hT isSubtype_tuple_tuple ?_)
 simp only[Bool.not_true,eJ,fT]
 refine ab (fq ho hd ?_)
 refine ab ?_
 show wpAny _ _ (forIn items _ _) _ _ s
 rw[← Array.forIn_toList]
 refine nX _ (λrest r s'=>r.1=none/\s'=s/\∃left,Paired R left rest) _ ?_ ?_ _ _ ⟨rfl,rfl,ks,hi⟩
 ·rintro v rest r s' ⟨hr,rfl,left,hl⟩
  cases hl with
  | cons h1 Pm=>
   refine ab (hR _ _ _ h1 ?_)
   simp only[Bool.not_true,eJ,fT]
   exact ae ⟨rfl,rfl,_,Pm⟩
 ·rintro ⟨r1,r2⟩ s' ⟨hr,rfl,_⟩
  simp only at hr
  subst hr
  exact ae h
theorem um {x:Key}{f:Nat}{Q:Bool->Shared->Prop}(hp:cU x v=true)(h:Q true s):wpAny (model P w) A (eqIsQuiet f v) Q E s:=by
 rw[eqIsQuiet_byValue _ ((sI P w).byValue _ _ hp)]
 exact ae h
theorem CO.quiet:∀{d f:Nat}{A:Around}{E:oT}{s:Shared}{k:AG}{v:Value}{Q:Bool->Shared->Prop},d < f->CO d s.heap k v->Q true s->wpAny (model P w) A (eqIsQuiet f v) Q E s
 | 0,f,A,E,s,k,v,Q,_,⟨x,_,hp⟩,h=>um hp h
 | d+1,0,A,E,s,k,v,Q,hf,x,h=>absurd hf (Nat.not_lt_zero _)
 | d+1,f+1,A,E,s,k,v,Q,hf,x,h=>by
  rcases x with ⟨x,_,hp⟩ | ⟨ns,a,_,ev,t⟩
  ·exact um hp h
  ·subst ev
   exact HJ t (λk v Q' r h'=>CO.quiet (d:=d) (by omega) r h') h
def cX (P:Program)(w:World):HeapKind P w (List AG) where
 is:=λh ks a=>CC (CO 2 h) h ks a
 hash:=λks=>(nH w (.tp ks)).1
 draws:=λks=>nD (.tp ks)
 room:=λA=>A.units+3 < cLine
 inj:=λhx hy=>CC.inj (λx y v=>CO.inj x y v) hx hy
 keeps:=λx ho hd hs=>x.keeps (λk v q=>CO.keeps k v q ho hd hs) ho hd hs
 pyHash:=λhu hk h=>CO.hash (d:=3) hu (.inr ⟨_,_,rfl,rfl,hk⟩) h
 eqBool:=λ{A E s x y a b Q} hu hx hy h=>Dn (λx y v=>CO.inj x y v) (show A.units < cLine from kC (Nat.le_add_right _ _) hu) hx hy (λp q u v h1 h2=>CO.eq p q u v (by rw[in1_units];have:A.units+3 < cLine:=hu;omega) h1 h2) P w E Q h
 quiet:=λhk h=>CO.quiet (d:=3) (f:=8) (by decide) (.inr ⟨_,_,rfl,rfl,hk⟩) h
theorem DF (hu:A.units+9 < cLine):(cX P w).room A.in1:=by
 show A.in1.units+3 < cLine
 rw[in1_units];omega
end
inductive V where
 | AO | bl (b:Bool) | int (i:Int) | str (x:Str) | L1 (b:Array UInt8) | TK (b:UInt64) | ref (a:Addr) | ty (n:String)
 deriving DecidableEq
def RelV:V->Value->Prop
 | .AO,u=>u=Value.none
 | .bl b,u=>u=Value.bool b
 | .int i,u=>∃t,u=Value.int i t
 | .str x,u=>∃t,u=Value.str x t
 | .L1 b,u=>∃t,u=Value.bytes b t
 | .TK b,u=>∃t,u=Value.float b t
 | .ref a,u=>u=Value.ref a
 | .ty n,u=>u=Value.type n
abbrev Vals:List V->List Value->Prop:=Paired RelV
theorem Vals.length {xs:List V}{us:qv}(r:Vals xs us):xs.length=us.length:=iP r
theorem Vals.get:∀{xs:List V}{us:qv}{i:Nat}{x:V},Vals xs us->xs[i]?=some x->∃u,us[i]?=some u/\RelV x u
 | _,_,_,_,.nil,e=>by simp at e
 | _,_,0,_,.cons r _,e=>by simp at e;subst e;exact⟨_,rfl,r⟩
 | _,_,i+1,x,.cons _ t,e=>by
  obtain⟨u,h1,h2⟩:=Vals.get (i:=i) (x:=x) t (by simpa using e)
  exact⟨u,by simpa using h1,h2⟩
theorem Vals.set {x:V}{u:Value}(r:RelV x u):∀{xs:List V}{us:qv}(i:Nat),Vals xs us->Vals (xs.set i x) (us.set i u)
 | _,_,_,.nil=>.nil
 | _,_,0,.cons _ t=>.cons r t
 | _,_,i+1,.cons q t=>.cons q (Vals.set r i t)
theorem Vals.append:∀{xs ys:List V}{us ws:qv},Vals xs us->Vals ys ws->Vals (xs++ys) (us++ws)
 | _,_,_,_,.nil,s=>s
 | _,_,_,_,.cons r t,s=>.cons r (Vals.append t s)
theorem Vals.take:∀{xs:List V}{us:qv}(n:Nat),Vals xs us->Vals (xs.take n) (us.take n)
 | _,_,0,_=>.nil
 | _,_,_+1,.nil=>.nil
 | _,_,n+1,.cons r t=>.cons r (Vals.take n t)
theorem Vals.drop:∀{xs:List V}{us:qv}(n:Nat),Vals xs us->Vals (xs.drop n) (us.drop n)
 | _,_,0,r=>r
 | _,_,_+1,.nil=>.nil
 | _,_,n+1,.cons _ t=>Vals.drop n t
def C8:Option V->Option Value->Prop
 | some v,some u=>RelV v u
 | none,none=>True
 | _,_=>False
def KV {κ:Type}:List (κ×V)->List (κ×Value)->Prop:=Paired λ(p:κ×V) (q:κ×Value)=>p.1=q.1/\RelV p.2 q.2
noncomputable def kV:Key->V
 | .inl i=>.int i
 | .inr x=>.str x
inductive HO where
 | lst (xs:List V)
 | tup (xs:List V)
 | dK (kvs:List (Key×V)) | dT (kvs:List (List AG×V))
 | set (S:Int->Bool) (n:Nat)
 | ins (C dx:Addr) (fs:List (Str×V))
 | own (x:Addr)
 | xd (fs:List (Str×V))
 | met (f x:Addr)
 | Yk (lo hi:Int)
 | frz (o:Obj) (u:HO)
 | TL (ps:q5)
 | ext (φ:Heap->Prop)
abbrev Hp:=Addr->Option HO
def upd (H:Hp)(a:Addr)(o:HO):Hp:=λb=>if b=a then some o else H b
variable {H:Hp}
theorem az {o:HO}:upd H a o a=some o:=by unfold upd;rw[bd rfl]
theorem ao {o:HO}(h:b≠a):upd H a o b=H b:=by unfold upd;rw[ax h]
theorem bQ {o u:HO}(h:H a=some o)(h':H b=some u)(d:o≠u):a≠b:=by
 intro e;subst e;rw[h] at h';exact d (bi h')
theorem aq {o:HO}(h:H a=some o)(h':H b=none):a≠b:=by
 intro e;subst e;rw[h] at h';cases h'
def E9 (K:W.Frag)(a:Addr)(xs:List V):Prop:=∃(o:Obj) (AL:q5) (n:Nat),K.lookup a=some o/\o.cls=.type "tuple" /\ o.data=.seq AL n/\(AL.size<=sizeLine/\o.dict=none)/\Vals xs AL.toList
def KB (ns:List AG)(vs:List V):Prop:=∃x b,ns=[.k (.inr x),.k (.inl (if b=true then 1 else 0))]/\vs=[.str x,.bl b]
def NV (K:W.Frag)(H:Hp):Nat->AG->V->Prop
 | 0,n,v=>∃x,n=.k x/\v=kV x
 | d+1,n,v=>(∃x,n=.k x/\v=kV x)\/∃ns a vs,n=.tp ns/\v=.ref a/\(H a=some (.tup vs)\/E9 K a vs)/\(Paired (NV K H d) ns vs\/KB ns vs)
def GN (K:W.Frag)(H:Hp)(ks:List AG)(vs:List V):Prop:=Paired (NV K H 2) ks vs\/KB ks vs
abbrev Nv (K:PySem.W.Frag)(H:Hp)(b:Addr)(ks:List AG):Prop:=∃vs,H b=some (.tup vs)/\GN K H ks vs
def CD (K:W.Frag)(H:Hp)(b:Addr)(ks:List AG):Prop:=Nv K H b ks\/∃vs,E9 K b vs/\GN K H ks vs
theorem NV.keeps {K:W.Frag}{H H':Hp}(ht:∀b ys,H b=some (.tup ys)->H' b=some (.tup ys)):∀(d:Nat) (n:AG) (v:V),NV K H d n v->NV K H' d n v
 | 0,_,_,h=>h
 | d+1,n,v,h=>h.imp id λ⟨ns,a,vs,e,ev,t,q⟩=>⟨ns,a,vs,e,ev,t.imp (λz=>ht _ _ z) id,q.imp (λz=>eN z λx y=>NV.keeps ht d x y) id⟩
theorem GN.keeps {K:W.Frag}{H H':Hp}{ks:List AG}{vs:List V}(h:GN K H ks vs)(ht:∀b ys,H b=some (.tup ys)->H' b=some (.tup ys)):GN K H' ks vs:=h.imp (λz=>eN z λx y=>NV.keeps ht 2 x y) id
theorem CD.keeps {K:W.Frag}{H H':Hp}{b:Addr}{ks:List AG}(c:CD K H b ks)(ht:∀b ys,H b=some (.tup ys)->H' b=some (.tup ys)):CD K H' b ks:=c.imp (λ⟨vs,e,k⟩=>⟨vs,ht _ _ e,k.keeps ht⟩) λ⟨vs,e,k⟩=>⟨vs,e,k.keeps ht⟩
def TM (h:Heap)(a:Addr)(items:q5):Prop:=∃o,h.get? a=some o/\o.cls=.type "tuple" /\ ∃n,o.data=.seq items n/\o.dict=none
theorem TM.tup {h:Heap}{a:Addr}{items:q5}(x:TM h a items):IsTup h a items:=let ⟨o,h1,h2,n,h3,_⟩:=x;⟨o,h1,h2,n,h3⟩
section
variable (P:Program)(w:World)(K:W.Frag)
def AR (H:Hp)(h:Heap)(a:Addr):HO->Prop
 | .lst xs=>xs.length<=sizeLine/\∃(AL:qv) (n:Nat),Vals xs AL/\h.get? a=some { cls:=.type "list",data:=.seq AL.toArray n }
 | .tup xs=>xs.length<=sizeLine/\∃AL:List Value,Vals xs AL/\TM h a AL.toArray
 | .dK kvs=>kvs.length<=sizeLine/\(a == sysModules)=false/\∃vs,KV kvs vs/\h.DictOf (dZ P w) a vs
 | .dT kvs=>kvs.length<=sizeLine/\(a == sysModules)=false/\∃xs:List (List AG×Addr×Value),
   Paired (λ(p:List AG×V) (q:List AG×Addr×Value)=>p.1=q.1/\CD K H q.2.1 p.1/\RelV p.2 q.2.2) kvs xs /\
   ∃o es ep,h.get? a=some o/\o.ExactDict/\o.data=.dict es ep/\es.toList=xs.map (entryOfKey (cX P w))/\(xs.map (·.1)).Nodup/\ep=xs.length
 | .set S n=>h.SetOf (intKind P w) a S n
 | .ins C dx fs=>H dx=some (.own a)/\fs.length<=1000/\dx≠a/\h.get? a=some (W.instObj C dx) /\
   ∃mA,h.Ns1 dx mA/\(∀f,C8 (fs.lookup f) (mA f))/\PySem.Within mA (fs.map (·.1))
 | .own _=>∃o,h.get? a=some o
 | .xd fs=>∃mA,h.Ns1 a mA/\∀f,C8 (fs.lookup f) (mA f)
 | .Yk lo hi=>∃t u v,h.get? a=some { cls:=.type "range",data:=.fields #[.int lo t,.int hi u,.int 1 v] }
 | .frz o u=>h.get? a=some o/\AR H h a u
 | .TL ps=>h.get? a=some { cls:=.none,data:=.fields ps }
 | .met f x=>h.get? a=some (W.methodObj (.ref f) (.ref x))
 | .ext φ=>φ h/\(∃o,h.get? a=some o)/\∀h1 h2:Heap,φ h1->(∀o,h1.get? a=some o->h2.get? a=some o)->φ h2
def Dx (H:Hp)(h:Heap):Prop:=∀a o,H a=some o->AR P w K H h a o
end
section
variable {P:Program}{w:World}{K:W.Frag}{H H':Hp}{h h':Heap}{a:Addr}{o:HO}
theorem AR.lt (x:AR P w K H h a o):a < h.objs.size:=by
 cases o with
 | lst xs=>obtain⟨_,_,_,_,e⟩:=x;exact ap e
 | tup xs=>obtain⟨_,_,_,p⟩:=x;exact p.tup.lt
 | dK kvs=>obtain⟨_,_,_,_,o,_,_,e,_⟩:=x;exact ap e
 | dT kvs=>obtain⟨_,_,_,_,o,_,_,e,_⟩:=x;exact ap e
 | set S n=>obtain⟨o,_,_,_,e,_⟩:=x;exact ap e
 | ins C dx fs=>obtain⟨_,_,_,e,_⟩:=x;exact ap e
 | own y=>obtain⟨_,e⟩:=x;exact ap e
 | xd fs=>obtain⟨_,⟨_,_,_,e,_⟩,_⟩:=x;exact ap e
 | Yk lo hi=>obtain⟨_,_,_,e⟩:=x;exact ap e
 | frz ob u=>obtain⟨e,_⟩:=x;exact ap e
 | TL ps=>exact ap (show h.get? a=some _ from x)
 | met f y=>exact ap (show h.get? a=some _ from x)
 | ext φ=>obtain⟨_,⟨_,e⟩,_⟩:=x;exact ap e
theorem Paired.TN {α β:Type}{F G:α->β->Prop}:∀{l₁:List α}{l₂:List β},Paired F l₁ l₂->(∀a b,F a b->G a b)->Paired G l₁ l₂
 | _,_,.nil,_=>.nil
 | _,_,.cons r t,f=>.cons (f _ _ r) (Paired.TN t f)
theorem AR.IB (x:AR P w K H h a o)(k:∀b u,(b=a\/H b=some (.own a))->h.get? b=some u->h'.get? b=some u)
  (ho:∀b,H b=some (.own a)->H' b=some (.own a)) (ht:∀b xs,H b=some (.tup xs)->H' b=some (.tup xs)):AR P w K H' h' a o:=by
 induction o with
 | lst xs=>obtain⟨z,AL,n,r,e⟩:=x;exact⟨z,AL,n,r,k _ _ (.inl rfl) e⟩
 | tup xs=>obtain⟨z,AL,r,ob,e,c⟩:=x;exact⟨z,AL,r,ob,k _ _ (.inl rfl) e,c⟩
 | dK kvs=>obtain⟨z,y,vs,r,ob,es,ep,e,c⟩:=x;exact⟨z,y,vs,r,ob,es,ep,k _ _ (.inl rfl) e,c⟩
 | dT kvs=>
  obtain⟨z,y,xs,r,ob,es,ep,e,c⟩:=x
  exact⟨z,y,xs,Paired.TN r λp q z=>⟨z.1,z.2.1.keeps ht,z.2.2⟩,ob,es,ep,k _ _ (.inl rfl) e,c⟩
 | set S n=>obtain⟨ob,es,ep,t,e,c⟩:=x;exact⟨ob,es,ep,t,k _ _ (.inl rfl) e,c⟩
 | ins C dx fs=>
  obtain⟨d,z,ne,e,mA,⟨od,es,ep,e2,c⟩,r⟩:=x
  exact⟨ho _ d,z,ne,k _ _ (.inl rfl) e,mA,⟨od,es,ep,k _ _ (.inr d) e2,c⟩,r⟩
 | own y=>obtain⟨ob,e⟩:=x;exact⟨ob,k _ _ (.inl rfl) e⟩
 | xd fs=>obtain⟨mA,⟨od,es,ep,e,c⟩,r⟩:=x;exact⟨mA,⟨od,es,ep,k _ _ (.inl rfl) e,c⟩,r⟩
 | Yk lo hi=>obtain⟨t,u,v,e⟩:=x;exact⟨t,u,v,k _ _ (.inl rfl) e⟩
 | frz ob u ih=>obtain⟨e,q⟩:=x;exact⟨k _ _ (.inl rfl) e,ih q⟩
 | TL ps=>
  have e:h.get? a=some { cls:=.none,data:=.fields ps }:=x
  show h'.get? a=some { cls:=.none,data:=.fields ps }
  exact k a _ (.inl rfl) e
 | met f y=>
  have e:h.get? a=some (W.methodObj (.ref f) (.ref y)):=x
  show h'.get? a=some (W.methodObj (.ref f) (.ref y))
  exact k a _ (.inl rfl) e
 | ext φ=>obtain⟨p,⟨o,e⟩,st⟩:=x;exact⟨st _ _ p λo q=>k _ _ (.inl rfl) q,⟨o,k _ _ (.inl rfl) e⟩,st⟩
theorem Dx.lt (x:Dx P w K H h)(e:H a=some o):a < h.objs.size:=(x a o e).lt
theorem Dx.fresh (x:Dx P w K H h)(e:h.objs.size<=a):H a=none:=by
 cases q:H a with
 | none=>rfl
 | some u=>exact absurd (bq (x.lt q) e) (fR _)
theorem Dx.kept (x:Dx P w K H h)(k:∀b u,h.get? b=some u->h'.get? b=some u):Dx P w K H h':=λa o e=>
 (x a o e).IB (λb u _ q=>k b u q) (λ_ q=>q) λ_ _ q=>q
theorem Dx.laid (x:Dx P w K H h)(k:∀b u,h.get? b=some u->h'.get? b=some u)(hp:h.objs.size<=a)(new:AR P w K (upd H a o) h' a o):Dx P w K (upd H a o) h':=λb u e=>by
 have hn:=x.fresh hp
 by_cases hb:b=a
 ·subst hb;rw[az] at e;cases e;exact new
 ·rw[ao hb] at e
  exact(x b u e).IB (λc v _ q=>k c v q) (λc q=>by rw[ao (aq q hn)];exact q) λc xs q=>by rw[ao (aq q hn)];exact q
end
def Rd (H:Hp)(a:Addr)(u:HO):Prop:=H a=some u\/∃o,H a=some (.frz o u)
variable {P:Program}{K:W.Frag}
theorem Rd.ok {u:HO}(r:Rd H a u)(x:Dx P w K H h):AR P w K H h a u:=by
 rcases r with r | ⟨o,r⟩
 ·exact x a u r
 ·obtain⟨_,q⟩:=x a _ r
  exact q
def VC:Option HO->Prop
 | some (.lst _)=>True
 | some (.dK _)=>True
 | some (.dT _)=>True
 | some (.set _ _)=>True
 | some (.ins _ _ _)=>True
 | some (.ext _)=>True
 | _=>False
section
variable {P:Program}{w:World}{K:W.Frag}{H:Hp}{h h':Heap}{x e:Addr}{o':HO}
theorem Dx.write (ok:Dx P w K H h)(mu:VC (H x))(he:e=x\/H e=some (.own x))(k:∀b u,b≠e->h.get? b=some u->h'.get? b=some u)(Sb:∃u,h'.get? e=some u)
  (new:AR P w K (upd H x o') h' x o'):Dx P w K (upd H x o') h':=λb u q=>by
 have VD:∀c y,H c=some (.own y)->c≠x:=λc y r z=>by subst z;rw[r] at mu;exact mu
 have Yl:∀c xs,H c=some (.tup xs)->c≠x:=λc xs r z=>by subst z;rw[r] at mu;exact mu
 by_cases hb:b=x
 ·subst hb;rw[az] at q;cases q;exact new
 ·rw[ao hb] at q
  by_cases TR:b=e
  ·have q':H b=some (.own x):=by
    rcases he with z | z
    ·exact absurd (TR.trans z) hb
    ·rw[TR];exact z
   rw[q] at q';cases q'
   obtain⟨v,hv⟩:=Sb
   exact⟨v,by rw[TR];exact hv⟩
  ·refine(ok b u q).IB (λc v hc r=>k c v ?_ r) (λc r=>by rw[ao (VD c b r)];exact r) λc xs r=>by rw[ao (Yl c xs r)];exact r
   rcases hc with rfl | hc
   ·exact TR
   ·rintro rfl
    rcases he with z | z
    ·exact VD c b hc z
    ·rw[hc] at z;cases z;exact hb rfl
end
structure Un (fs ex:qV)(H H':Hp)(h h':Heap):Prop where
 keep:∀b o,h.get? b=some o->H b=none->b∉fs->b∉ex->h'.get? b=some o
 slot:∀b o,h.get? b=some o->H b=none->b∈fs->b∉ex->∃sl,h'.get? b=some { o with slots:=sl }
 free:∀b o,h.get? b=some o->H b=none->b∉ex->H' b=none
 there:∀b o,h.get? b=some o->b∉ex->∃o',h'.get? b=some o'
 IC:∀b xs,H b=some (.tup xs)->H' b=some (.tup xs)
 GO:∀b o u,H b=some (.frz o u)->H' b=some (.frz o u)
 ID:∀b ps,H b=some (.TL ps)->∃more,H' b=some (.TL (ps++more))
section
variable {fs fs' ex ex':qV}{H H1 H2:Hp}{h h1 h2 h':Heap}{a x e:Addr}{o:HO}
theorem Un.any (u:Un fs ex H H1 h h1){ob:Obj}(q:h.get? b=some ob)(n:H b=none)(hx:b∉ex):∃sl,h1.get? b=some { ob with slots:=sl }:=by
 by_cases hb:b∈fs
 ·exact u.slot b ob q n hb hx
 ·exact⟨ob.slots,u.keep b ob q n hb hx⟩
theorem Un.kept (k:∀b u,h.get? b=some u->h'.get? b=some u):Un fs ex H H h h':=
 ⟨λb ob q _ _ _=>k b ob q,λb ob q _ _ _=>⟨ob.slots,k b ob q⟩,λ_ _ _ n _=>n,λb ob q _=>⟨ob,k b ob q⟩,λ_ _ q=>q,λ_ _ _ q=>q,λ_ ps q=>⟨#[],by rw[q];simp⟩⟩
theorem Un.refl:Un fs ex H H h h:=Un.kept λ_ _ q=>q
theorem Un.laid (k:∀b u,h.get? b=some u->h'.get? b=some u)(hp:h.objs.size<=a)(hn:H a=none):Un fs ex H (upd H a o) h h' where
 keep:=λb u q _ _ _=>k b u q
 slot:=λb u q _ _ _=>⟨u.slots,k b u q⟩
 free:=λb u q n _=>by rw[ao (bg (bq (ap q) hp))];exact n
 there:=λb u q _=>⟨u,k b u q⟩
 IC:=λb xs q=>by rw[ao (aq q hn)];exact q
 GO:=λb u xs q=>by rw[ao (aq q hn)];exact q
 ID:=λb ps q=>⟨#[],by rw[ao (aq q hn),q];simp⟩
theorem Un.write (mu:VC (H x))(he:e=x\/H e=some (.own x))(k:∀b u,b≠e->h.get? b=some u->h'.get? b=some u)(Sb:∃u,h'.get? e=some u):Un fs ex H (upd H x o) h h':=by
 have hx:∀b,H b=none->b≠x:=λb n z=>by subst z;rw[n] at mu;exact mu
 have hb:∀b,H b=none->b≠e:=λb n z=>by
  subst z
  rcases he with r | r
  ·exact hx b n r
  ·rw[n] at r;cases r
 have hm:∀b u,H b=some u->¬ VC (some u)->b≠x:=λb u q nm z=>by subst z;rw[q] at mu;exact nm mu
 refine⟨λb u q n _ _=>k b u (hb b n) q,λb u q n _ _=>⟨u.slots,k b u (hb b n) q⟩,λb u q n _=>by rw[ao (hx b n)];exact n,λb u q _=>?_,
  λb xs q=>by rw[ao (hm b _ q λz=>z)];exact q,λb u xs q=>by rw[ao (hm b _ q λz=>z)];exact q,λb ps q=>⟨#[],by rw[ao (hm b _ q λz=>z),q];simp⟩⟩
 by_cases TR:b=e
 ·subst TR;exact Sb
 ·exact⟨u,k b u TR q⟩
end
noncomputable def Xs (h:Heap)(H:Hp):List Addr:=(List.range h.objs.size).filter λa=>(H a).isSome
noncomputable def ou (h:Heap)(H:Hp):Heap:=W.hideAll h (Xs h H)
theorem Fw (h:Heap)(H:Hp):(ou h H).objs.size=h.objs.size:=W.hideAll_size _ _
theorem HN {o:Obj}(e:h.get? b=some o)(n:H b=none):(ou h H).get? b=some o:=
 W.hideAll_get _ e λhm=>by
  have q:(H b).isSome=true:=(pf.mp hm).2
  rw[n] at q;simp at q
theorem KJ {o:Obj}(e:(ou h H).get? b=some o):h.get? b=some o/\H b=none:=by
 have e':h.get? b=some o:=W.of_hideAll (Xs h H) e
 refine⟨e',?_⟩
 cases q:H b with
 | none=>rfl
 | some x=>
  have hm:b∈Xs h H:=pf.mpr ⟨bP.mpr (ap e'),by simp[q]⟩
  have z:(ou h H).get? b=none:=W.hideAll_none (Xs h H) hm
  rw[z] at e;cases e
noncomputable def KN (g h:Heap)(L:Addr):List (Addr×Obj):=(List.range h.objs.size).filterMap λa=>if a=L\/(g.get? a).isSome=true then none else (h.get? a).map λo=>(a,o)
noncomputable def rest (g h:Heap)(L d:Addr):List (Addr×Obj):=(KN g h L).filter λp=>decide (p.1≠d)
structure Mod (K:W.Frag)(mg:Str->Option Value)(base:Heap):Prop where
 EN:K.In base
 glob:base.Ns mainGlobals mg
 blt:∃mb,base.Ns builtinsNs mb/\∀x:Str,x ≠ "__name__" -> mb x=bootBuiltins x
 nolimit:base.NoLimit
structure Cx where
 prog:Program
 w:World
 K:W.Frag
 mg:Str->Option Value
 base:Heap
 A:Around
 N:List Str
 s₀:Shared
 H₀:Hp
 env:Env
 outer:List Env
 stack:List Env
 ex:List Addr
 fn:Str->Bool
 calm:Bool
 pn:List (Addr×Obj)
 xe:Value->Shared->Prop
noncomputable def Mb (l:List Env):List Addr:=l.filterMap (·.frame)
abbrev Cx.fs (X:Cx):List Addr:=Mb X.outer
def Mc (sc:Scope)(x:Str):Prop:=sc.names.lookup x=some .local\/sc.names.lookup x=some .cell\/sc.names.lookup x=some .free
def Loc (sc:Scope)(x:Str):Prop:=sc.names.lookup x=some .local\/sc.names.lookup x=some .cell
def Look (env:Env)(h:Heap)(m:Str->Option Value)(x:Str)(u:Value):Prop:=
 (env.kindOf x=some .local/\m x=some u)\/((env.kindOf x=some .cell\/env.kindOf x=some .free)/\∃c,env.cells.lookup x=some c/\h.IsCell c (some u))
structure Cx.Ok (X:Cx):Prop where
 mod:Mod X.K X.mg X.base
 kind:X.env.scope.kind=.function
 glob:X.env.globals=mainGlobals
 blt:X.env.builtins=builtinsNs
 above:X.s₀.heap.objs.size<=X.env.locals
 inj:∀x y c,X.env.cells.lookup x=some c->X.env.cells.lookup y=some c->x=y
 has:∀x,(X.env.kindOf x=some .cell\/X.env.kindOf x=some .free)->∃c,X.env.cells.lookup x=some c
 VE:∀x c,X.fn x=true->X.env.cells.lookup x=some c->X.s₀.heap.objs.size<=c
 hd:X.calm=true->X.A.handled=none
 frames:X.A.frames=some X.stack
 Xt:X.stack=X.outer\/(X.stack=X.env::X.outer/\X.env.frame=some X.env.locals)
 exf:∀b∈X.ex,b≠X.env.locals/\∀x c,X.env.cells.lookup x=some c->c≠b
 bs:∀b o,X.base.get? b=some o->X.s₀.heap.get? b=some o/\X.H₀ b=none
 Po:X.base.objs.size<=X.s₀.heap.objs.size
 Me:∀b o,X.base.get? b=some o->b∉X.ex
 Pp:∀b∈X.ex,b∉X.fs
 Fc:X.s₀.heap.FunFrames X.base X.outer
 TU:∀b∈X.fs,X.H₀ b=none
structure Inv (X:Cx)(AF:qq)(σ:List (Option V))(H:Hp)(s:Shared):Prop where
 ok:X.Ok
 os:s.os=X.s₀.os
 bare:AllBare s.gens
 base:Un X.fs X.ex X.H₀ H X.s₀.heap s.heap
 loc:∃m,s.heap.Ns X.env.locals m/\∀(i:Nat) (x:Str) (v:V),X.N[i]?=some x->σ[i]?=some (some v)->Mc X.env.scope x->∃u,RelV v u/\Look X.env s.heap m x u
 cell:∀x c,X.env.cells.lookup x=some c->∃v,s.heap.IsCell c v
 free:H X.env.locals=none
 DA:∀x c,X.env.cells.lookup x=some c->H c=none
 pin:∀p∈X.pn++AF,s.heap.get? p.1=some p.2/\H p.1=none/\p.1≠X.env.locals/\p.1∉X.fs/\∀v,p.2.data≠.cell v
 AW:Dx X.prog X.w X.K H s.heap
 len:σ.length=X.N.length
variable {x:Str}
section
variable {X:Cx}{AF:qq}{σ:List (Option V)}{H H':Hp}{s:Shared}{h':Heap}
theorem Cx.Ok.Ym (ok:X.Ok){o:Obj}(e:X.base.get? b=some o):b∉X.fs:=λhb=>by
 have:=(ok.Fc.mem hb).1
 rw[e] at this;cases this
theorem Inv.bs (I:Inv X AF σ H s):∀b o,X.base.get? b=some o->s.heap.get? b=some o/\H b=none:=λb o e=>
 ⟨I.base.keep b o (I.ok.bs b o e).1 (I.ok.bs b o e).2 (I.ok.Ym e) (I.ok.Me b o e),I.base.free b o (I.ok.bs b o e).1 (I.ok.bs b o e).2 (I.ok.Me b o e)⟩
theorem Inv.bk (I:Inv X AF σ H s):∀b o,X.base.get? b=some o->s.heap.get? b=some o:=λb o e=>(I.bs b o e).1
theorem Inv.mod (I:Inv X AF σ H s):Mod X.K X.mg X.base:=I.ok.mod
theorem Inv.Cs (I:Inv X AF σ H s):X.K.In s.heap:=I.ok.mod.EN.keeps I.bk
theorem Inv.nolimit (I:Inv X AF σ H s):s.heap.NoLimit:=I.ok.mod.nolimit.keeps I.bk
theorem Inv.lt (I:Inv X AF σ H s):X.env.locals < s.heap.objs.size:=let ⟨_,hn,_⟩:=I.loc;hn.lt
theorem Inv.sz (I:Inv X AF σ H s):X.s₀.heap.objs.size<=s.heap.objs.size:=dP I.ok.above (gt I.lt)
theorem Inv.Yn (I:Inv X AF σ H s)(h:s.heap.objs.size<=a):a∉X.fs:=λhb=>by
 obtain⟨_,o,ho,_⟩:=I.ok.Fc.mem hb
 exact absurd (bq (ap ho) (dP I.sz h)) (fR _)
theorem Inv.TZ (I:Inv X AF σ H s):∀x c,X.env.cells.lookup x=some c->c≠X.env.locals:=λx c e z=>by
 obtain⟨v,o,ho,hd⟩:=I.cell x c e
 obtain⟨m,⟨o',es,ep,LZ,TH,_⟩,_⟩:=I.loc
 rw[z,LZ] at ho;cases ho;rw[TH] at hd;cases hd
theorem Inv.Fc (I:Inv X AF σ H s):s.heap.FunFrames X.base X.outer:=by
 have all:∀(l:List Env),(∀b∈Mb l,b∈X.fs)->X.s₀.heap.FunFrames X.base l->s.heap.FunFrames X.base l:=by
  intro l
  induction l with
  | nil=>intro _ _;trivial
  | cons env r ih=>
   intro hs hl
   obtain⟨hk,⟨L,o,hf,hn,ho,hd⟩,hr⟩:=hl
   have hL:L∈X.fs:=hs L (by unfold Mb;rw[md,hf];exact ar)
   obtain⟨sl,e⟩:=I.base.slot L o ho (I.ok.TU L hL) hL λz=>I.ok.Pp L z hL
   exact⟨hk,⟨L,_,hf,hn,e,hd⟩,ih (λb hb=>hs b (by unfold Mb;rw[md,hf];exact al _ hb)) hr⟩
 exact all X.outer (λ_ hb=>hb) I.ok.Fc
theorem Inv.stack (I:Inv X AF σ H s):s.heap.FunFrames X.base X.stack:=by
 rcases I.ok.Xt with e | ⟨e,hf⟩
 ·rw[e];exact I.Fc
 ·rw[e]
  obtain⟨m,hn,_⟩:=I.loc
  refine .cons (by rw[I.ok.kind];decide) hf hn ?_ I.Fc
  exact Heap.get?_none_of_le (dP I.ok.Po I.ok.above)
theorem Inv.GS (I:Inv X AF σ H s):∀b∈Mb X.stack,b∈X.env.locals::X.fs:=λb hb=>by
 rcases I.ok.Xt with e | ⟨e,hf⟩
 ·rw[e] at hb;exact al _ hb
 ·rw[e] at hb
  unfold Mb at hb
  rw[md,hf] at hb
  exact hb
theorem Inv.KS (I:Inv X AF σ H s):∀b∈Mb X.stack,H b=none:=λb hb=>by
 rcases be.mp (I.GS b hb) with e | hb
 ·rw[e];exact I.free
 ·obtain⟨_,o,ho,_⟩:=I.ok.Fc.mem hb
  exact I.base.free b o ho (I.ok.TU b hb) λz=>I.ok.Pp b z hb
theorem Inv.step {g':Array GenState}{t':Nat}{d':Drawn}{ch:qV}(I:Inv X AF σ H s)
  (OM:∀b∈ch,(b∈X.ex\/X.s₀.heap.objs.size<=b)/\b≠X.env.locals/\(∀x c,X.env.cells.lookup x=some c->c≠b)/\∀p∈X.pn++AF,p.1≠b)
  (keep:∀b o,b≠X.env.locals->b∉X.fs->b∉ch->s.heap.get? b=some o->H b=none->h'.get? b=some o)
  (slot:∀b o,b≠X.env.locals->b∈X.fs->b∉ch->s.heap.get? b=some o->H b=none->∃sl,h'.get? b=some { o with slots:=sl }) (free:∀b o,b∉ch->s.heap.get? b=some o->H b=none->H' b=none)
  (there:∀b o,b∉ch->s.heap.get? b=some o->∃o',h'.get? b=some o')
  (IC:∀b xs,H b=some (.tup xs)->H' b=some (.tup xs)) (GO:∀b o u,H b=some (.frz o u)->H' b=some (.frz o u)) (ID:∀b ps,H b=some (.TL ps)->∃more,H' b=some (.TL (ps++more)))
  (ns:∀m,s.heap.Ns X.env.locals m->h'.Ns X.env.locals m) (AW:Dx X.prog X.w X.K H' h') (hg:AllBare g'):
  Inv X AF σ H' { s with heap:=h',gens:=g',drawn:=d',toks:=t' }:=by
 have neL:∀b o,X.s₀.heap.get? b=some o->b≠X.env.locals:=λb o e=>bg (bq (ap e) I.ok.above)
 have Xu:∀b o,X.s₀.heap.get? b=some o->b∉X.ex->b∉ch:=λb o e hx hb=>by
  rcases(OM b hb).1 with z | z
  ·exact hx z
  ·exact absurd (bq (ap e) z) (fR _)
 have cellK:∀x c,X.env.cells.lookup x=some c->∀v,s.heap.IsCell c v->h'.IsCell c v:=by
  rintro x c e v ⟨o,ho,hd⟩
  have Mn:c∉ch:=λz=>(OM c z).2.2.1 x c e rfl
  by_cases hc:c∈X.fs
  ·obtain⟨sl,q⟩:=slot c o (I.TZ x c e) hc Mn ho (I.DA x c e)
   exact⟨_,q,hd⟩
  ·exact⟨o,keep c o (I.TZ x c e) hc Mn ho (I.DA x c e),hd⟩
 refine⟨I.ok,I.os,hg,⟨λb o e n hb hx=>?_,λb o e n hb hx=>?_,λb o e n hx=>?_,λb o e hx=>?_,λb xs e=>IC b xs (I.base.IC b xs e),λb o xs e=>GO b o xs (I.base.GO b o xs e),λb ps e=>?_⟩,?_,λx c e=>?_,?_,λx c e=>?_,λp hp=>?_,AW,I.len⟩
 ·exact keep b o (neL b o e) hb (Xu b o e hx) (I.base.keep b o e n hb hx) (I.base.free b o e n hx)
 ·obtain⟨sl,e1⟩:=I.base.slot b o e n hb hx
  obtain⟨sl',e2⟩:=slot b _ (neL b o e) hb (Xu b o e hx) e1 (I.base.free b o e n hx)
  exact⟨sl',e2⟩
 ·obtain⟨o',e1⟩:=I.base.there b o e hx
  exact free b o' (Xu b o e hx) e1 (I.base.free b o e n hx)
 ·obtain⟨o',e1⟩:=I.base.there b o e hx
  exact there b o' (Xu b o e hx) e1
 ·obtain⟨m1,e1⟩:=I.base.ID b ps e
  obtain⟨m2,e2⟩:=ID b _ e1
  exact⟨m1++m2,by rw[e2,Array.append_assoc]⟩
 ·obtain⟨m,hn,hl⟩:=I.loc
  refine⟨m,ns m hn,λi x v e1 e2 e3=>?_⟩
  obtain⟨u,r,l⟩:=hl i x v e1 e2 e3
  refine⟨u,r,?_⟩
  rcases l with l | ⟨k,c,e,z⟩
  ·exact .inl l
  ·exact .inr ⟨k,c,e,cellK x c e _ z⟩
 ·obtain⟨v,z⟩:=I.cell x c e
  exact⟨v,cellK x c e v z⟩
 ·obtain⟨m,⟨o,_,_,ho,_⟩,_⟩:=I.loc
  exact free _ o (λz=>(OM _ z).2.1 rfl) ho I.free
 ·obtain⟨v,o,ho,hd⟩:=I.cell x c e
  exact free c o (λz=>(OM c z).2.2.1 x c e rfl) ho (I.DA x c e)
 ·obtain⟨e,n,ne,nf,d⟩:=I.pin p hp
  have Mn:p.1∉ch:=λz=>(OM p.1 z).2.2.2 p hp rfl
  exact⟨keep p.1 p.2 ne nf Mn e n,free p.1 p.2 Mn e n,ne,nf,d⟩
theorem Inv.un {t':Nat}(I:Inv X AF σ H s)(u:Un X.fs [] H H' s.heap h')(AW:Dx X.prog X.w X.K H' h'):Inv X AF σ H' { s with heap:=h',toks:=t' }:=by
 obtain⟨m,⟨o,es,ep,ho,r⟩,_⟩:=id I.loc
 obtain⟨sl,hL⟩:=u.any ho I.free (by simp)
 exact I.step (g':=s.gens) (d':=s.drawn) (ch:=[]) (λ_ z=>nomatch z) (λb o _ hb _ e n=>u.keep b o e n hb (by simp)) (λb o _ hb _ e n=>u.slot b o e n hb (by simp)) (λb o _ e n=>u.free b o e n (by simp)) (λb o _ e=>u.there b o e (by simp)) u.IC u.GO u.ID (λm' hm=>by
  obtain⟨o',Yo,Yp,LZ,r'⟩:=hm
  rw[ho] at LZ;cases LZ
  exact⟨_,Yo,Yp,hL,r'⟩) AW I.bare
theorem Inv.call {g':Array GenState}{t':Nat}{d':Drawn}{ch:qV}(I:Inv X AF σ H s)(u:Un (Mb X.stack) ch H H' s.heap h')(AW:Dx X.prog X.w X.K H' h')(hg:AllBare g')
  (OM:∀b∈ch,(b∈X.ex\/X.s₀.heap.objs.size<=b)/\b≠X.env.locals/\(∀x c,X.env.cells.lookup x=some c->c≠b)/\∀p∈X.pn++AF,p.1≠b):
  Inv X AF σ H' { s with heap:=h',gens:=g',drawn:=d',toks:=t' }:=by
 obtain⟨m,⟨o,es,ep,ho,r⟩,_⟩:=id I.loc
 obtain⟨sl,hL⟩:=u.any ho I.free λz=>(OM _ z).2.1 rfl
 exact I.step (ch:=ch) OM (λb o hL hb hc e n=>u.keep b o e n (λz=>(be.mp (I.GS b z)).elim hL hb) hc) (λb o _ _ hc e n=>u.any e n hc) (λb o hc e n=>u.free b o e n hc) (λb o hc e=>u.there b o e hc) u.IC u.GO u.ID (λm' hm=>by
  obtain⟨o',Yo,Yp,LZ,r'⟩:=hm
  rw[ho] at LZ;cases LZ
  exact⟨_,Yo,Yp,hL,r'⟩) AW hg
theorem Inv.turned {t':Nat}{it:Addr}(I:Inv X AF σ H s)(k:∀b o,b≠it->s.heap.get? b=some o->h'.get? b=some o)(hn:H it=none)(hL:it≠X.env.locals)
  (h1:it∈X.ex\/X.s₀.heap.objs.size<=it) (h2:∀x c,X.env.cells.lookup x=some c->c≠it) (h3:∀p∈X.pn++AF,p.1≠it):Inv X AF σ H { s with heap:=h',toks:=t' }:=by
 have nit:∀b u,H b=some u->b≠it:=λb u e z=>by rw[z,hn] at e;cases e
 refine I.step (g':=s.gens) (d':=s.drawn) (ch:=[it]) (λb hb=>?_) (λb o _ _ hc e _=>k b o (λz=>hc (by simp[z])) e) (λb o _ _ hc e _=>⟨o.slots,k b o (λz=>hc (by simp[z])) e⟩) (λ_ _ _ _ n=>n)
  (λb o hc e=>⟨o,k b o (λz=>hc (by simp[z])) e⟩) (λ_ _ e=>e) (λ_ _ _ e=>e) (λb ps e=>⟨#[],by rw[e];simp⟩) (λm hm=>?_) (λb u e=>?_) I.bare
 ·have e:b=it:=by simpa using hb
  subst e
  exact⟨h1,hL,h2,h3⟩
 ·obtain⟨o,es,ep,ho,r⟩:=hm
  exact⟨o,es,ep,k _ o (fN hL) ho,r⟩
 ·refine(I.AW b u e).IB (λc v hc q=>k c v ?_ q) (λ_ q=>q) λ_ _ q=>q
  rcases hc with z | z
  ·rw[z];exact nit b u e
  ·exact nit c _ z
theorem Inv.tok (I:Inv X AF σ H s)(t:Nat):Inv X AF σ H { s with toks:=t }:=I.un (h':=s.heap) (t':=t) Un.refl I.AW
theorem Inv.kept {t':Nat}(I:Inv X AF σ H s)(k:∀b u,s.heap.get? b=some u->h'.get? b=some u):Inv X AF σ H { s with heap:=h',toks:=t' }:=I.un (Un.kept k) (I.AW.kept k)
theorem Inv.laid {a:Addr}{o:HO}{t':Nat}(I:Inv X AF σ H s)(k:∀b u,s.heap.get? b=some u->h'.get? b=some u)(hp:s.heap.objs.size<=a)(new:AR X.prog X.w X.K (upd H a o) h' a o):
  Inv X AF σ (upd H a o) { s with heap:=h',toks:=t' }:=I.un (Un.laid k hp (I.AW.fresh hp)) (I.AW.laid k hp new)
theorem Inv.write {x e:Addr}{o:HO}{t':Nat}(I:Inv X AF σ H s)(mu:VC (H x))(he:e=x\/H e=some (.own x))(k:∀b u,b≠e->s.heap.get? b=some u->h'.get? b=some u)(Sb:∃u,h'.get? e=some u)
  (new:AR X.prog X.w X.K (upd H x o) h' x o):Inv X AF σ (upd H x o) { s with heap:=h',toks:=t' }:=I.un (Un.write mu he k Sb) (I.AW.write mu he k Sb new)
theorem Inv.weak {σ':List (Option V)}(I:Inv X AF σ H s)(hl:σ'.length=σ.length)(w:∀(i:Nat) v,σ'[i]?=some (some v)->σ[i]?=some (some v)):Inv X AF σ' H s:=
 ⟨I.ok,I.os,I.bare,I.base,let ⟨m,hn,Pm⟩:=I.loc;⟨m,hn,λi x v e1 e2 e3=>Pm i x v e1 (w i v e2) e3⟩,I.cell,I.free,I.DA,I.pin,I.AW,hl.trans I.len⟩
theorem Inv.KU {Se:qq}(I:Inv X AF σ H s)(h:∀p∈Se,s.heap.get? p.1=some p.2/\H p.1=none/\p.1≠X.env.locals/\p.1∉X.fs/\∀v,p.2.data≠.cell v):Inv X Se σ H s:=
 ⟨I.ok,I.os,I.bare,I.base,I.loc,I.cell,I.free,I.DA,λp hp=>(bn.mp hp).elim (λz=>I.pin p (bm _ z)) (h p),I.AW,I.len⟩
theorem yG {N:qE}(hN:N.Nodup){i j:Nat}(a:N[i]?=some x)(b:N[j]?=some x):i=j:=by
 obtain⟨h1,e1⟩:=ai.mp a
 obtain⟨h2,e2⟩:=ai.mp b
 exact(List.getElem_inj hN).mp (e1.trans e2.symm)
theorem Fx {M:Model}{i:Nat}{v:V}(I:Inv X AF σ H s)(hN:X.N.Nodup)(hi:X.N[i]?=some x)(hx:Loc X.env.scope x)(r:RelV v u)
  (h:∀s',Inv X AF (σ.set i (some v)) H s'->(∃a,Heap.SameBut a s.heap s'.heap/\(a=X.env.locals\/X.env.cells.lookup x=some a))->Q () s') (hf:X.fn x=true\/X.env.scope.names.lookup x=some .local:=by first | exact .inl rfl | exact .inr rfl | assumption):wpAny M A (storeName X.env x u) Q E s:=by
 obtain⟨m,hn,hl⟩:=id I.loc
 have Yq:(X.env.scope.kind == .class||(X.env.scope.kind == .module&&X.env.locals != X.env.globals))=false:=by rw[I.ok.kind];rfl
 have hiσ:i < σ.length:=by rw[I.len];exact(ai.mp hi).1
 have TZ:=I.TZ
 have tracked:∀{a:Addr}{h':Heap},(∃o,s.heap.get? a=some o/\H a=none)->Heap.SameBut a s.heap h'->Dx X.prog X.w X.K H h':=λ{a h'} ha hs b ob e=>by
  obtain⟨_,_,Sf⟩:=ha
  refine(I.AW b ob e).IB (λc w' hc q=>(hs.2 c ?_).trans q) (λ_ q=>q) λ_ _ q=>q
  rintro rfl
  rcases hc with rfl | hc
  ·rw[Sf] at e;cases e
  ·rw[Sf] at hc;cases hc
 rcases hx with hk | hk
 ·refine wpAny_storeName_local hk hn (λh' LH hs=>?_) Yq
  obtain⟨oL,_,_,hoL,_⟩:=id hn
  refine h _ ⟨I.ok,I.os,I.bare,⟨λb o e n hb hx=>?_,λb o e n hb hx=>?_,I.base.free,λb o e hx=>?_,I.base.IC,I.base.GO,I.base.ID⟩,⟨_,LH,λj y v' e1 e2 e3=>?_⟩,λy c e=>?_,I.free,I.DA,λp hp=>?_,tracked ⟨oL,hoL,I.free⟩ hs,by simpa using I.len⟩ ⟨_,hs,.inl rfl⟩
  ·exact(hs.2 b (bg (bq (ap e) I.ok.above))).trans (I.base.keep b o e n hb hx)
  ·obtain⟨sl,e1⟩:=I.base.slot b o e n hb hx
   exact⟨sl,(hs.2 b (bg (bq (ap e) I.ok.above))).trans e1⟩
  ·obtain⟨o',e1⟩:=I.base.there b o e hx
   exact⟨o',(hs.2 b (bg (bq (ap e) I.ok.above))).trans e1⟩
  ·by_cases hj:j=i
   ·subst hj
    rw[hi] at e1;cases e1
    rw[fe hiσ] at e2
    cases e2
    exact⟨u,r,.inl ⟨hk,by simp⟩⟩
   ·rw[bp (fN hj)] at e2
    obtain⟨u',r',q⟩:=hl j y v' e1 e2 e3
    refine⟨u',r',?_⟩
    rcases q with ⟨k,e⟩ | ⟨k,c,e,z⟩
    ·refine .inl ⟨k,?_⟩
     have:y≠x:=λe=>hj (yG hN e1 (e▸hi))
     simp[this,e]
    ·exact .inr ⟨k,c,e,z.sameBut hs (TZ y c e)⟩
  ·obtain⟨w',z⟩:=I.cell y c e
   exact⟨w',z.sameBut hs (TZ y c e)⟩
  ·obtain⟨e,n,ne,nf,d⟩:=I.pin p hp
   exact⟨(hs.2 p.1 ne).trans e,n,ne,nf,d⟩
 ·have Yr:X.fn x=true:=by
   rcases hf with z | z
   ·exact z
   ·rw[z] at hk;cases hk
  obtain⟨c,hc⟩:=I.ok.has x (.inl hk)
  obtain⟨w',z⟩:=I.cell x c hc
  refine wpAny_storeName_cell I.ok.kind hk hc z (λh' Si hs=>?_)
  obtain⟨oc,hoc,Ys⟩:=id z
  refine h { s with heap:=h' } ⟨I.ok,I.os,I.bare,⟨λb o e n hb hx=>?_,λb o e n hb hx=>?_,I.base.free,λb o e hx=>?_,I.base.IC,I.base.GO,I.base.ID⟩,⟨m,hn.sameBut hs (fN (TZ x c hc)),λj y v' e1 e2 e3=>?_⟩,λy c' e=>?_,I.free,I.DA,λp hp=>?_,tracked ⟨oc,hoc,I.DA x c hc⟩ hs,by simpa using I.len⟩ ⟨c,hs,.inr hc⟩
  ·exact(hs.2 b (bg (bq (ap e) (I.ok.VE x c Yr hc)))).trans (I.base.keep b o e n hb hx)
  ·obtain⟨sl,e1⟩:=I.base.slot b o e n hb hx
   exact⟨sl,(hs.2 b (bg (bq (ap e) (I.ok.VE x c Yr hc)))).trans e1⟩
  ·obtain⟨o',e1⟩:=I.base.there b o e hx
   exact⟨o',(hs.2 b (bg (bq (ap e) (I.ok.VE x c Yr hc)))).trans e1⟩
  ·by_cases hj:j=i
   ·subst hj
    rw[hi] at e1;cases e1
    rw[fe hiσ] at e2
    cases e2
    exact⟨u,r,.inr ⟨.inl hk,c,hc,Si⟩⟩
   ·rw[bp (fN hj)] at e2
    obtain⟨u',r',q⟩:=hl j y v' e1 e2 e3
    refine⟨u',r',?_⟩
    rcases q with q | ⟨k,c',e,z'⟩
    ·exact .inl q
    ·refine .inr ⟨k,c',e,z'.sameBut hs ?_⟩
     rintro rfl
     exact hj (yG hN e1 (I.ok.inj _ _ _ e hc▸hi))
  ·by_cases U5:c'=c
   ·subst U5;exact⟨_,Si⟩
   ·obtain⟨w2,z2⟩:=I.cell y c' e
    exact⟨w2,z2.sameBut hs U5⟩
  ·obtain⟨e,n,ne,nf,d⟩:=I.pin p hp
   refine⟨(hs.2 p.1 ?_).trans e,n,ne,nf,d⟩
   intro q
   rw[q,hoc] at e
   have q':oc=p.2:=bi e
   exact d w' (by rw[← q'];exact Ys)
theorem yH {M:Model}{i:Nat}{v:V}(I:Inv X AF σ H s)(hN:X.N.Nodup)(hi:X.N[i]?=some x)(hx:Loc X.env.scope x)(r:RelV v u)
  (h:∀s',Inv X AF (σ.set i (some v)) H s'->Q () s') (hf:X.fn x=true\/X.env.scope.names.lookup x=some .local:=by first | exact .inl rfl | exact .inr rfl | assumption):wpAny M A (storeName X.env x u) Q E s:=
 Fx I hN hi hx r (λs' I' _=>h s' I') hf
theorem Inv.VF {s':Shared}{ch:qV}(I:Inv X AF σ H s)(ho:s'.os=s.os)(u:Un (Mb X.stack) ch H H' s.heap s'.heap)(AW:Dx X.prog X.w X.K H' s'.heap)(hg:AllBare s'.gens)
  (OM:∀b∈ch,(b∈X.ex\/X.s₀.heap.objs.size<=b)/\b≠X.env.locals/\(∀x c,X.env.cells.lookup x=some c->c≠b)/\∀p∈X.pn++AF,p.1≠b):Inv X AF σ H' s':=by
 obtain⟨h',g',d',t',o'⟩:=s'
 have e:o'=s.os:=ho
 subst e
 exact I.call (g':=g') (t':=t') (d':=d') u AW hg OM
end
abbrev XK:=Value->Option Addr->Hp->Prop
abbrev St:=List (Option V)
abbrev VK:=V->Hp->Prop
abbrev TE:=St->Hp->VK->Prop
abbrev TT:=St->Hp->(Bool->Hp->Prop)->Prop
abbrev TA:=St->Hp->(List V->Hp->Prop)->Prop
structure Ends where
 nx:St->Hp->Prop
 rt:VK
 bk:St->Hp->Prop:=λ_ _=>False
 ct:St->Hp->Prop:=λ_ _=>False
abbrev TS:=Ends->St->Hp->Prop
def EP (X:Cx)(AF:qq)(σ:St)(Q:VK)(u:Value)(s':Shared):Prop:=∃v H',Inv X AF σ H' s'/\RelV v u/\Q v H'
def TP (X:Cx)(AF:qq)(σ:St)(Q:Bool->Hp->Prop)(b:Bool)(s':Shared):Prop:=∃H',Inv X AF σ H' s'/\Q b H'
def AP (X:Cx)(AF:qq)(σ:St)(Q:List V->Hp->Prop)(us:qv)(s':Shared):Prop:=∃vs H',Inv X AF σ H' s'/\Vals vs us/\Q vs H'
def SP (X:Cx)(AF:qq)(D:Ends)(f:Flow)(s':Shared):Prop:=
 match f with
 | .next=>∃ σ' H',Inv X AF σ' H' s'/\D.nx σ' H'
 | .brk=>∃ σ' H',Inv X AF σ' H' s'/\D.bk σ' H'
 | .cont=>∃ σ' H',Inv X AF σ' H' s'/\D.ct σ' H'
 | .ret u=>∃v σ' H',Inv X AF σ' H' s'/\RelV v u/\D.rt v H'
def PE (X:Cx)(e:Expr)(t:TE):Prop:=
 ∀(AF:qq) (s:Shared) (σ:St) (H:Hp) (Q:VK),Inv X AF σ H s->t σ H Q->wpAny (model X.prog X.w) X.A (eval e X.env) (EP X AF σ Q) X.xe s
def PT (X:Cx)(e:Expr)(t:TT):Prop:=
 ∀(AF:qq) (s:Shared) (σ:St) (H:Hp) (Q:Bool->Hp->Prop),Inv X AF σ H s->t σ H Q->wpAny (model X.prog X.w) X.A (isTrue e X.env (eval e X.env)) (TP X AF σ Q) X.xe s
def PW (X:Cx)(e:Expr)(t:TT):Prop:=
 ∀(whole:Sem Value) (AF:qq) (s:Shared) (σ:St) (H:Hp) (Q:Bool->Hp->Prop),Inv X AF σ H s->t σ H Q->wpAny (model X.prog X.w) X.A (isTrue e X.env whole) (TP X AF σ Q) X.xe s
variable {e:Expr}
theorem PW.pt {X:Cx}{t:TT}(h:PW X e t):PT X e t:=h _
def PA (X:Cx)(es:qB)(t:TA):Prop:=
 ∀(pos:Pos) (AF:qq) (s:Shared) (σ:St) (H:Hp) (Q:List V->Hp->Prop),Inv X AF σ H s->t σ H Q->wpAny (model X.prog X.w) X.A (spliced (backTo pos (starEach es X.env))) (AP X AF σ Q) X.xe s
def PS (X:Cx)(st:Stmt)(t:TS):Prop:=
 ∀(AF:qq) (s:Shared) (σ:St) (H:Hp) (D:Ends),Inv X AF σ H s->t D σ H->wpAny (model X.prog X.w) X.A (exec st X.env) (SP X AF D) X.xe s
def F0 (X:Cx)(st:qA)(t:TS):Prop:=
 ∀(AF:qq) (s:Shared) (σ:St) (H:Hp) (D:Ends),Inv X AF σ H s->t D σ H->wpAny (model X.prog X.w) X.A (execs st X.env) (SP X AF D) X.xe s
theorem AZ {α:Type}{t:Sem α}{Q Q':α->Shared->Prop}{M:Model}(h:wpAny M A t Q E s)(hQ:∀a s,Q a s->Q' a s):wpAny M A t Q' E s:=fA h hQ λ_ _ x=>x
variable {AF:qq}{σ:St}{pos:Pos}{op:CmpOp}
section
variable {X:Cx}
theorem bin {a b:Expr}{ta tb:TE}(ha:PE X a ta)(hb:PE X b tb){R:V->V->Hp->Prop}(I:Inv X AF σ H s)(h:ta σ H λx H1=>tb σ H1 λy H2=>R x y H2)
  {α:Type}{Q:α->Shared->Prop}{f:Value->Value->Sem α}
  (hf:∀v u s2 x y H2,Inv X AF σ H2 s2->RelV x v->RelV y u->R x y H2->wpAny (model X.prog X.w) X.A (f v u) Q X.xe s2):
  wpAny (model X.prog X.w) X.A (eval a X.env) (λv s₁=>wpAny (model X.prog X.w) X.A (eval b X.env) (λu s₂=>wpAny (model X.prog X.w) X.A (f v u) Q X.xe s₂) X.xe s₁) X.xe s:=by
 refine AZ (ha AF s σ H _ I h) ?_
 rintro v s1 ⟨x,H1,I1,r1,q1⟩
 refine AZ (hb AF s1 σ H1 _ I1 q1) ?_
 rintro u s2 ⟨y,H2,I2,r2,q2⟩
 exact hf v u s2 x y H2 I2 r1 r2 q2
def aH (i:Nat):TE:=fun σ H Q=>∃v,σ[i]?=some (some v)/\Q v H
def tC (v:V):TE:=λ_ H Q=>Q v H
theorem ie {i:Nat}(hN:X.N[i]?=some x)(hv:Mc X.env.scope x)(hd:(x == ("__debug__" : Str))=false:=by decide)(EI:(x == ("__classdict__" : Str))=false:=by decide):PE X (.Name x pos) (aH i):=by
 intro AF s σ H Q I h
 obtain⟨v,e,h⟩:=h
 obtain⟨m,hn,hl⟩:=I.loc
 obtain⟨u,r,l⟩:=hl i x v hN e hv
 have fin:EP X AF σ Q u s:=⟨v,H,I,r,h⟩
 rcases l with ⟨hk,hm⟩ | ⟨hk,c,hc,KW⟩
 ·exact wpAny_Name (wpAny_loadName_local I.ok.kind hk hn hm fin) hd
 ·rcases hk with hk | hk
  ·exact wpAny_Name (wpAny_loadName_cell I.ok.kind hk hc KW fin) hd
  ·exact wpAny_Name (wpAny_loadName_free I.ok.kind hk hc KW fin EI) hd
theorem dN {i j pos}:PE X (.Constant (.int i) j pos) (tC (.int i)):=λ_ _ _ H _ I h=>wpAny_Constant_int ⟨.int i,H,I.tok _,⟨_,rfl⟩,h⟩
theorem QQ {b j pos}:PE X (.Constant (.bool b) j pos) (tC (.bl b)):=λ_ _ _ H _ I h=>Constant_bool ⟨.bl b,H,I,rfl,h⟩
theorem yI {j pos}:PE X (.Constant .none j pos) (tC .AO):=λ_ _ _ H _ I h=>Constant_none ⟨.AO,H,I,rfl,h⟩
theorem Ny {x j pos}:PE X (.Constant (.str x) j pos) (tC (.str x)):=λ_ _ _ H _ I h=>Calls.Constant_str ⟨.str x,H,I.tok _,⟨_,rfl⟩,h⟩
def Gl (X:Cx)(x:Str):Prop:=X.env.kindOf x=some .globalImplicit
theorem vI {Q:oT}(I:Inv X AF σ H s)(hg:Gl X x)(hm:X.mg x=some u)(h:Q u s)
  (hd:(x == ("__debug__" : Str))=false:=by decide):wpAny (model X.prog X.w) X.A (eval (.Name x pos) X.env) Q E s:=
 mB I.ok.kind hg (Calls.loadGlobal_global (by rw[I.ok.glob];exact I.mod.glob.keeps I.bk) hm h) hd
theorem d7 {Q:oT}(I:Inv X AF σ H s)(hg:Gl X x)(hm:X.mg x=none)(hv:bootBuiltins x=some u)(h:Q u s)
  (hn:x ≠ "__name__" := by decide) (hd:(x == ("__debug__" : Str))=false:=by decide):wpAny (model X.prog X.w) X.A (eval (.Name x pos) X.env) Q E s:=by
 obtain⟨mb,h1,h2⟩:=I.mod.blt
 exact mB I.ok.kind hg (Calls.loadGlobal_builtin (by rw[I.ok.glob];exact I.mod.glob.keeps I.bk) hm (by rw[I.ok.blt];exact h1.keeps I.bk) ((h2 x hn).trans hv) h) hd
theorem j7 {v:V}(hg:Gl X x)(hm:X.mg x=some u)(r:RelV v u)(hd:(x == ("__debug__" : Str))=false:=by decide):PE X (.Name x pos) (tC v):=
 λ_ _ _ H _ I h=>vI I hg hm ⟨v,H,I,r,h⟩ hd
theorem KQ {v:V}(hg:Gl X x)(hm:X.mg x=none)(hv:bootBuiltins x=some u)(r:RelV v u)(hn:x ≠ "__name__" := by decide)(hd:(x == ("__debug__" : Str))=false:=by decide):PE X (.Name x pos) (tC v):=
 λ_ _ _ H _ I h=>d7 I hg hm hv ⟨v,H,I,r,h⟩ hn hd
def t2I (ta tb:TE)(k:Int->Int->Hp->Prop):St->Hp->Prop:=fun σ H=>ta σ H λx H1=>tb σ H1 λy H2=>∃i j,x=.int i/\y=.int j/\k i j H2
def yJ (ta tb:TE):TE:=fun σ H Q=>t2I ta tb (λi j H2=>Q (.int (i+j)) H2) σ H
variable {a b:Expr}{ta tb:TE}{pos:Pos}
theorem yK (ha:PE X a ta)(hb:PE X b tb):PE X (.BinOp a .Add b pos) (yJ ta tb):=by
 intro AF s σ H Q I h
 refine wpAny_BinOp (bin ha hb I h λv u s2 x y H2 I2 rx ry q=>?_)
 obtain⟨i,j,rfl,rfl,q⟩:=q
 obtain⟨t,rfl⟩:=rx
 obtain⟨t',rfl⟩:=ry
 exact add_int ⟨.int _,H2,I2.tok _,⟨_,rfl⟩,q⟩
def PC (X:Cx)(op:CmpOp)(a b:Expr)(t:TE):Prop:=
 ∀(AF:qq) (s:Shared) (σ:St) (H:Hp) (Q:VK),Inv X AF σ H s->t σ H Q->
  wpAny (model X.prog X.w) X.A (eval a X.env) (λv s₁=>wpAny (model X.prog X.w) X.A (eval b X.env) (λu s₂=>wpAny (model X.prog X.w) X.A (compareOp op v u) (EP X AF σ Q) X.xe s₂) X.xe s₁) X.xe s
theorem HQ (b:Expr)(h:op≠.In)(h2:op≠.NotIn):behindInMarks op b=false:=by
 have e1:(op == CmpOp.In)=false:=by cases op <;> first | rfl | exact absurd rfl h
 have e2:(op == CmpOp.NotIn)=false:=by cases op <;> first | rfl | exact absurd rfl h2
 cases b <;> simp[behindInMarks,e1,e2]
def Nz (p:Int->Int->Bool)(ta tb:TE):TE:=fun σ H Q=>t2I ta tb (λi j H2=>Q (.bl (p i j)) H2) σ H
abbrev tGt:TE->TE->TE:=Nz λi j=>decide (j < i)
theorem NB {p:Int->Int->Bool}(ha:PE X a ta)(hb:PE X b tb)
  (rule:∀(i j:Int) (t u:Tok) (Q:oT) (s:Shared),Q (.bool (p i j)) s->wpAny (model X.prog X.w) X.A (compareOp op (.int i t) (.int j u)) Q X.xe s):PC X op a b (Nz p ta tb):=by
 intro AF s σ H Q I h
 refine bin ha hb I h λv u s2 x y H2 I2 rx ry q=>?_
 obtain⟨i,j,rfl,rfl,q⟩:=q
 obtain⟨t,rfl⟩:=rx
 obtain⟨t',rfl⟩:=ry
 exact rule i j t t' _ s2 ⟨.bl _,H2,I2,rfl,q⟩
theorem QR (ha:PE X a ta)(hb:PE X b tb):PC X .Gt a b (tGt ta tb):=NB ha hb λ_ _ _ _ _ _ h=>gt_int h
def tB (t:TE):TT:=fun σ H Q=>t σ H λx H1=>∃c,x=.bl c/\Q c H1
theorem uo {t:TE}(h:PC X op a b t)(h1:behindInMarks op b=false:=by first | exact HQ _ (by decide) (by decide) | rfl):PT X (.Compare a [op] [b] pos) (tB t):=by
 intro AF s σ H Q I hw
 refine wpAny_isTrue_Compare1 (AZ (h AF s σ H _ I hw) λv s1 h1=>AZ h1 λu s2 h2=>AZ h2 ?_) h1
 rintro c s3 ⟨x,H1,I1,r1,q1⟩
 obtain⟨d,rfl,q⟩:=q1
 cases r1
 exact iF ⟨H1,I1,q⟩
theorem uq {t:TE}(h:PE X e t)(he:∀whole,isTrue e X.env whole=(do let v ← whole;standAt e.pos;holding [v] (truthy v)):=by intro _;rfl):PT X e (tB t):=by
 intro AF s σ H Q I hw
 refine isTrue_plain (AZ (h AF s σ H _ I hw) ?_) (he _)
 rintro v s1 ⟨x,H1,I1,r1,q1⟩
 obtain⟨d,rfl,q⟩:=q1
 cases r1
 exact iF ⟨H1,I1,q⟩
variable {tA Xv:TT}{rest:qB}
def HR (t u:TT):TT:=fun σ H Q=>t σ H λc H1=>if c=true then u σ H1 Q else Q false H1
def tOr (t u:TT):TT:=fun σ H Q=>t σ H λc H1=>if c=true then Q true H1 else u σ H1 Q
def HS (t:TT):TT:=fun σ H Q=>t σ H λc H1=>Q (!c) H1
theorem B_ (ha:PT X a tA):PW X (.BoolOp .And [a] pos) tA:=by
 intro wh AF s σ H Q I h
 refine isTrue_and (AZ (ha AF s σ H Q I h) λc s1 e=>?_)
 cases c with
 | true=>exact isTrue_and_nil e
 | false=>exact e
theorem NK (ha:PT X a tA):PW X (.BoolOp .Or [a] pos) tA:=by
 intro wh AF s σ H Q I h
 refine isTrue_or (AZ (ha AF s σ H Q I h) λc s1 e=>?_)
 cases c with
 | false=>exact isTrue_or_nil e
 | true=>exact e
theorem Fy (ha:PT X a tA)(hb:PW X (.BoolOp .And (b::rest) pos) Xv):PW X (.BoolOp .And (a::b::rest) pos) (HR tA Xv):=by
 intro wh AF s σ H Q I h
 refine isTrue_and (AZ (ha AF s σ H _ I h) ?_)
 rintro c s1 ⟨H1,I1,q1⟩
 cases c with
 | true=>exact hb wh AF s1 σ H1 Q I1 q1
 | false=>exact⟨H1,I1,q1⟩
theorem QS (ha:PT X a tA)(hb:PW X (.BoolOp .Or (b::rest) pos) Xv):PW X (.BoolOp .Or (a::b::rest) pos) (tOr tA Xv):=by
 intro wh AF s σ H Q I h
 refine isTrue_or (AZ (ha AF s σ H _ I h) ?_)
 rintro c s1 ⟨H1,I1,q1⟩
 cases c with
 | true=>exact⟨H1,I1,q1⟩
 | false=>exact hb wh AF s1 σ H1 Q I1 q1
theorem Fz (ha:PT X a tA):PT X (.UnaryOp .Not a pos) (HS tA):=by
 intro AF s σ H Q I h
 exact isTrue_not (ha AF s σ H (λc H1=>Q (!c) H1) I h)
def QT (ta tb:TE):TE:=fun σ H Q=>ta σ H λx H1=>∃c,x=.bl c/\if c=true then tb σ H1 Q else Q (.bl false) H1
def RZ (ta tb:TE):TE:=fun σ H Q=>ta σ H λx H1=>∃c,x=.bl c/\if c=true then Q (.bl true) H1 else tb σ H1 Q
def QV (ta:TE):TE:=fun σ H Q=>ta σ H λx H1=>∃c,x=.bl c/\Q (.bl (!c)) H1
theorem NP {op}{t:TE}(h:PE X a t):PE X (.BoolOp op [a] pos) t:=λAF s σ H Q I hw=>BoolOp_one (h AF s σ H Q I hw)
theorem NQ (ha:PE X a ta)(hb:PE X (.BoolOp .And (b::rest) pos) tb):PE X (.BoolOp .And (a::b::rest) pos) (QT ta tb):=by
 intro AF s σ H Q I h
 refine BoolOp_and (AZ (ha AF s σ H _ I h) ?_)
 rintro v s1 ⟨x,H1,I1,r1,q1⟩
 obtain⟨c,rfl,q1⟩:=q1
 cases r1
 refine iF ?_
 cases c with
 | true=>exact hb AF s1 σ H1 Q I1 q1
 | false=>exact⟨.bl false,H1,I1,rfl,q1⟩
theorem QW (ha:PE X a ta)(hb:PE X (.BoolOp .Or (b::rest) pos) tb):PE X (.BoolOp .Or (a::b::rest) pos) (RZ ta tb):=by
 intro AF s σ H Q I h
 refine BoolOp_or (AZ (ha AF s σ H _ I h) ?_)
 rintro v s1 ⟨x,H1,I1,r1,q1⟩
 obtain⟨c,rfl,q1⟩:=q1
 cases r1
 refine iF ?_
 cases c with
 | false=>exact hb AF s1 σ H1 Q I1 q1
 | true=>exact⟨.bl true,H1,I1,rfl,q1⟩
theorem NT (ha:PE X a ta):PE X (.UnaryOp .Not a pos) (QV ta):=by
 intro AF s σ H Q I h
 refine UnaryOp_ (AZ (ha AF s σ H _ I h) ?_)
 rintro v s1 ⟨x,H1,I1,r1,q1⟩
 obtain⟨c,rfl,q1⟩:=q1
 cases r1
 exact not_of (iF ⟨.bl (!c),H1,I1,rfl,q1⟩)
def tIf (t:TT)(ta tb:TE):TE:=fun σ H Q=>t σ H λc H1=>if c=true then ta σ H1 Q else tb σ H1 Q
theorem HW {c:Expr}(hc:PT X c tA)(ha:PE X a ta)(hb:PE X b tb):PE X (.IfExp c a b pos) (tIf tA ta tb):=by
 intro AF s σ H Q I h
 refine wpAny_IfExp (AZ (hc AF s σ H _ I h) ?_)
 rintro d s1 ⟨H1,I1,q1⟩
 cases d with
 | true=>exact ha AF s1 σ H1 Q I1 q1
 | false=>exact hb AF s1 σ H1 Q I1 q1
end
def Bz (K:W.Frag)(H:Hp)(a:Addr)(xs:List V):Prop:=
 Rd H a (.lst xs) \/
  ∃(o:Obj) (AL:q5) (n:Nat),K.lookup a=some o/\o.cls=.type "list" /\ o.dict=none/\o.data=.seq AL n/\AL.size<=sizeLine/\Vals xs AL.toList
def Co (K:W.Frag)(H:Hp)(a:Addr)(xs:List V):Prop:=
 Rd H a (.tup xs) \/
  ∃(o:Obj) (AL:q5) (n:Nat),K.lookup a=some o/\o.cls=.type "tuple" /\ o.data=.seq AL n/\(AL.size<=sizeLine/\o.dict=none)/\Vals xs AL.toList
noncomputable def NZ:Value->Option V
 | .none=>some .AO
 | .bool b=>some (.bl b)
 | .int i _=>some (.int i)
 | .str x _=>some (.str x)
 | .bytes b _=>some (.L1 b)
 | .float b _=>some (.TK b)
 | .ref a=>some (.ref a)
 | .type n=>some (.ty n)
 | _=>none
theorem RelV.abs {x:V}(r:RelV x u):NZ u=some x:=by
 cases x with
 | AO=>cases r;rfl
 | bl _=>cases r;rfl
 | int _=>obtain⟨t,rfl⟩:=r;rfl
 | str _=>obtain⟨t,rfl⟩:=r;rfl
 | L1 _=>obtain⟨t,rfl⟩:=r;rfl
 | TK _=>obtain⟨t,rfl⟩:=r;rfl
 | ref _=>cases r;rfl
 | ty _=>cases r;rfl
theorem RelV.inj {x y:V}(r:RelV x u)(q:RelV y u):x=y:=bi (r.abs.symm.trans q.abs)
theorem Vals.inj:∀{xs ys:List V}{us:qv},Vals xs us->Vals ys us->xs=ys
 | _,_,_,.nil,.nil=>rfl
 | _,_,_,.cons r t,.cons r' t'=>by rw[r.inj r',Vals.inj t t']
section
variable {X:Cx}{AF:qq}{σ:St}{H:Hp}{s:Shared}{a:Addr}{xs ys:List V}
theorem Bz.of (h:H a=some (.lst xs)):Bz K H a xs:=.inl (.inl h)
theorem Co.of (h:H a=some (.tup xs)):Co K H a xs:=.inl (.inl h)
theorem Inv.list (I:Inv X AF σ H s)(h:Bz X.K H a xs):∃AL:List Value,Vals xs AL/\PlainL s.heap a AL.toArray/\xs.length<=sizeLine:=by
 rcases h with h | ⟨o,AL,n,hk,hc,hd,hs,hz,r⟩
 ·obtain⟨z,AL,n,r,e⟩:=h.ok I.AW
  exact⟨AL,r,⟨_,n,e,rfl,rfl,rfl⟩,z⟩
 ·refine⟨AL.toList,r,⟨o,n,I.Cs a o hk,hc,hd,by simpa using hs⟩,?_⟩
  have e:=r.length
  simp only[gL] at e
  omega
theorem Inv.tuple (I:Inv X AF σ H s)(h:Co X.K H a xs):∃AL:List Value,Vals xs AL/\IsTup s.heap a AL.toArray/\xs.length<=sizeLine:=by
 rcases h with h | ⟨o,AL,n,hk,hc,hs,hz,r⟩
 ·obtain⟨z,AL,r,p⟩:=h.ok I.AW
  exact⟨AL,r,p.tup,z⟩
 ·refine⟨AL.toList,r,⟨o,I.Cs a o hk,hc,n,by simpa using hs⟩,?_⟩
  have e:=r.length
  simp only[gL] at e
  omega
theorem Inv.IE (I:Inv X AF σ H s)(h:Bz X.K H a xs)(h':Bz X.K H a ys):xs=ys:=by
 obtain⟨AL,r,⟨o,n,e,_,_,d⟩,_⟩:=I.list h
 obtain⟨its',r',⟨o',n',e',_,_,d'⟩,_⟩:=I.list h'
 rw[e] at e';cases e'
 rw[d] at d'
 injection d' with d1 _
 have:AL=its':=by simpa using dL Array.toList d1
 subst this
 exact r.inj r'
theorem Inv.GA (I:Inv X AF σ H s)(h:Co X.K H a xs)(h':Co X.K H a ys):xs=ys:=by
 obtain⟨AL,r,⟨o,e,_,n,d⟩,_⟩:=I.tuple h
 obtain⟨its',r',⟨o',e',_,n',d'⟩,_⟩:=I.tuple h'
 rw[e] at e';cases e'
 rw[d] at d'
 injection d' with d1 _
 have:AL=its':=by simpa using dL Array.toList d1
 subst this
 exact r.inj r'
end
abbrev Cx.F3 (X:Cx)(E:oT):Cx:={ X with xe:=E }
abbrev Cx.LJ (X:Cx):Cx:=X.F3 λ_ _=>False
theorem Cx.Ok.F3 {X:Cx}(ok:X.Ok)(E:oT):(X.F3 E).Ok:=
 ⟨ok.mod,ok.kind,ok.glob,ok.blt,ok.above,ok.inj,ok.has,ok.VE,ok.hd,ok.frames,ok.Xt,ok.exf,ok.bs,ok.Po,ok.Me,ok.Pp,ok.Fc,ok.TU⟩
theorem Cx.Ok.unwish {X:Cx}(ok:(X.F3 E).Ok):X.Ok:=
 ⟨ok.mod,ok.kind,ok.glob,ok.blt,ok.above,ok.inj,ok.has,ok.VE,ok.hd,ok.frames,ok.Xt,ok.exf,ok.bs,ok.Po,ok.Me,ok.Pp,ok.Fc,ok.TU⟩
section
variable {X:Cx}{AF:qq}{σ:St}{H:Hp}{s:Shared}{E:oT}
theorem Inv.F3 (I:Inv X AF σ H s)(E:oT):Inv (X.F3 E) AF σ H s:=⟨I.ok.F3 E,I.os,I.bare,I.base,I.loc,I.cell,I.free,I.DA,I.pin,I.AW,I.len⟩
theorem Inv.unwish (I:Inv (X.F3 E) AF σ H s):Inv X AF σ H s:=⟨I.ok.unwish,I.os,I.bare,I.base,I.loc,I.cell,I.free,I.DA,I.pin,I.AW,I.len⟩
theorem SP.unwish {D:Ends}{f:Flow}{s':Shared}(h:SP (X.F3 E) AF D f s'):SP X AF D f s':=by
 cases f with
 | next=>obtain⟨σ',H',I,q⟩:=h;exact⟨σ',H',I.unwish,q⟩
 | brk=>obtain⟨σ',H',I,q⟩:=h;exact⟨σ',H',I.unwish,q⟩
 | cont=>obtain⟨σ',H',I,q⟩:=h;exact⟨σ',H',I.unwish,q⟩
 | ret u=>obtain⟨v,σ',H',I,r,q⟩:=h;exact⟨v,σ',H',I.unwish,r,q⟩
theorem F0.LJ {st:qA}{t:TS}(h:F0 X.LJ st t):F0 X st t:=λAF s σ H D I hw=>
 fA (h AF s σ H D (I.F3 _) hw) (λ_ _ q=>q.unwish) λ_ _ z=>False.elim z
end
section
variable {X:Cx}{st:Stmt}{rest:qA}{t u:TS}{e:Expr}{te:TE}{pos:Pos}
def jt:TS:=λD σ H=>D.nx σ H
def cA (t u:TS):TS:=λD σ H=>t { D with nx:=u D } σ H
theorem j8:F0 X [] jt:=λ_ _ σ H _ I h=>l0 ⟨σ,H,I,h⟩
theorem a_ (h1:PS X st t)(h2:F0 X rest u):F0 X (st::rest) (cA t u):=by
 intro AF s σ H D I h
 refine wpAny_execs_cons (AZ (h1 AF s σ H { D with nx:=u D } I h) λf s1 q=>?_)
 cases f with
 | next=>
  obtain⟨σ',H',I',q⟩:=q
  exact h2 AF s1 σ' H' D I' q
 | ret v=>exact q
 | brk=>exact q
 | cont=>exact q
theorem bW (h1:PS X st t):F0 X [st] t:=by
 intro AF s σ H D I h
 refine wpAny_execs_cons (AZ (h1 AF s σ H D I h) λf s1 q=>?_)
 cases f with
 | next=>exact l0 q
 | ret v=>exact q
 | brk=>exact q
 | cont=>exact q
theorem Inv.quiet (I:Inv X AF σ H s):interactive X.env=false:=by simp[interactive,I.ok.kind]
def ur (te:TE):TS:=λD σ H=>te σ H λ_ H1=>D.nx σ H1
theorem qU (he:PE X e te)(hs:swapsWith e none pos.line X.env=pure false:=by rfl):PS X (.Expr e pos) (ur te):=by
 intro AF s σ H D I h
 exact wpAny_Expr_any (AZ (he AF s σ H _ I h) λv s1 ⟨x,H1,I1,r1,q1⟩=>⟨σ,H1,I1,q1⟩) I.quiet hs
def iU (te:TE):TS:=λD σ H=>te σ H D.rt
theorem ig (he:PE X e te):PS X (.Return (some e) pos) (iU te):=by
 intro AF s σ H D I h
 exact wpAny_Return_some (AZ (he AF s σ H _ I h) λv s1 ⟨x,H1,I1,r1,q1⟩=>⟨x,σ,H1,I1,r1,q1⟩)
def lX (c:TT)(t u:TS):TS:=λD σ H=>c σ H λb H1=>if b=true then t D σ H1 else u D σ H1
theorem qW {c:Expr}{a b:qA}{tc:TT}(hc:PT X c tc)(ha:F0 X a t)(hb:F0 X b u):PS X (.If c a b pos) (lX tc t u):=by
 intro AF s σ H D I h
 refine wpAny_If (AZ (hc AF s σ H _ I h) ?_)
 rintro d s1 ⟨H1,I1,q1⟩
 cases d with
 | true=>exact ha AF s1 σ H1 D I1 q1
 | false=>exact hb AF s1 σ H1 D I1 q1
end
abbrev TG:=V->St->Hp->(St->Hp->Prop)->Prop
abbrev OO:=List V->St->Hp->(St->Hp->Prop)->Prop
def PG (X:Cx)(target:Expr)(t:TG):Prop:=
 ∀(AF:qq) (s:Shared) (σ:St) (H:Hp) (v:V) (u:Value) (Q:St->Hp->Prop),Inv X AF σ H s->RelV v u->t v σ H Q->
  wpAny (model X.prog X.w) X.A (assign target X.env u) (λ_ s'=>∃ σ' H',Inv X AF σ' H' s'/\Q σ' H') X.xe s
def OP (X:Cx)(ts:qB)(t:OO):Prop:=
 ∀(AF:qq) (s:Shared) (σ:St) (H:Hp) (vs:List V) (us:qv) (Q:St->Hp->Prop),Inv X AF σ H s->Vals vs us->t vs σ H Q->
  wpAny (model X.prog X.w) X.A (assignInOrder ((assignEach ts X.env).map (·.2)) us) (λ_ s'=>∃ σ' H',Inv X AF σ' H' s'/\Q σ' H') X.xe s
abbrev HX:=V->V->V->Hp->(Hp->Prop)->Prop
def N5 (X:Cx)(t:HX):Prop:=
 ∀(AF:qq) (s:Shared) (σ:St) (H:Hp) (o i v:V) (ov iv u:Value) (Q:Hp->Prop),Inv X AF σ H s->RelV o ov->RelV i iv->RelV v u->t o i v H Q->
  wpAny (model X.prog X.w) X.A (setItem ov iv u) (λ_ s'=>∃H',Inv X AF σ H' s'/\Q H') X.xe s
section
variable {X:Cx}{pos:Pos}
def aX (i:Nat):TG:=λv σ H Q=>Q (σ.set i (some v)) H
theorem cP {i:Nat}(hN:X.N.Nodup)(hi:X.N[i]?=some x)(hx:Loc X.env.scope x)(hf:X.fn x=true\/X.env.scope.names.lookup x=some .local:=by first | exact .inl rfl | exact .inr rfl | assumption):PG X (.Name x pos) (aX i):=by
 intro AF s σ H v u Q I r h
 exact wpAny_assign_Name (yH I hN hi hx r (λs' I'=>⟨_,H,I',h⟩) hf)
def vJ:OO:=λvs σ H Q=>vs=[]/\Q σ H
def ju (t:TG)(u:OO):OO:=λvs σ H Q=>∃v r,vs=v::r/\t v σ H fun σ' H'=>u r σ' H' Q
theorem mQ:OP X [] vJ:=by
 intro AF s σ H vs us Q I r h
 obtain⟨e,h⟩:=h
 subst e
 cases r
 exact assignInOrder_nil ⟨σ,H,I,h⟩
theorem eO {es:qB}{t:TG}{u:OO}(h1:PG X e t)(h2:OP X es u)
  (hs:(assignEach (e::es) X.env).map (·.2)=assign e X.env::(assignEach es X.env).map (·.2):=by rfl):OP X (e::es) (ju t u):=by
 intro AF s σ H vs us Q I r h
 obtain⟨v,vr,e1,h⟩:=h
 subst e1
 cases r with
 | cons r rr=>
  rw[hs]
  refine assignInOrder_cons (AZ (h1 AF s σ H _ _ _ I r h) ?_)
  rintro _ s1 ⟨σ1,H1,I1,q1⟩
  exact h2 AF s1 σ1 H1 _ _ Q I1 rr q1
def vK (K:W.Frag)(n:Nat)(t:OO):TG:=λv σ H Q=>∃a xs,v=.ref a/\Co K H a xs/\xs.length=n/\t xs σ H Q
theorem pY {es:qB}{k:Nat}{t:OO}{n:Nat}(hc:X.calm=true)(h:OP X es t)
  (hn:(assignEach es X.env).length=n:=by rfl) (D5:(assignEach es X.env).findIdx? (·.1)=none:=by rfl):PG X (.Tuple es k pos) (vK X.K n t):=by
 intro AF s σ H v u Q I r hw
 obtain⟨a,xs,e1,hq,hl,hw⟩:=hw
 subst e1
 cases r
 obtain⟨AL,rv,ht,hz⟩:=I.tuple hq
 refine assign_Tuple_tuple (I.ok.hd hc) ht (by simp[hn,← hl,rv.length]) D5 λh' hx=>?_
 have I1:Inv X AF σ H { s with heap:=h' }:=I.kept (t':=s.toks) λb o e=>hx b o (bg (ap e)) e
 exact h AF _ σ H xs _ Q I1 (by simpa using rv) hw
def R1 (to ti:TE)(t:HX):TG:=λv σ H Q=>to σ H λo H1=>ti σ H1 λi H2=>t o i v H2 λH3=>Q σ H3
theorem N6 {o i:Expr}{to ti:TE}{t:HX}(ho:PE X o to)(hi:PE X i ti)(hs:N5 X t)
  (ha:∀v,assign (.Subscript o i pos) X.env v=(do
   let ov ← holding [v] (eval o X.env)
   let iv ← holding [v,ov] (eval i X.env)
   standAt pos
   holding [v,ov,iv] (setItem ov iv v)
   release [v,ov,iv] []):=by intro _;rfl):PG X (.Subscript o i pos) (R1 to ti t):=by
 intro AF s σ H v u Q I r h
 rw[ha]
 refine ab (dQ (AZ (ho AF s σ H _ I h) ?_))
 rintro ov s1 ⟨x,H1,I1,r1,q1⟩
 refine ab (dQ (AZ (hi AF s1 σ H1 _ I1 q1) ?_))
 rintro iv s2 ⟨y,H2,I2,r2,q2⟩
 refine ab (wpAny_standAt (ab (dQ (AZ (hs AF s2 σ H2 x y v ov iv u _ I2 r1 r2 r q2) ?_))))
 rintro _ s3 ⟨H3,I3,q3⟩
 exact wpAny_release ⟨σ,H3,I3,q3⟩
def gA (te:TE)(g:TG):TS:=λD σ H=>te σ H λx H1=>g x σ H1 D.nx
theorem FJ {tg:Expr}{te:TE}{g:TG}(he:PE X e te)(hg:PG X tg g)(hs:swapsWithSole [tg] e pos.line X.env=pure false:=by rfl)(hw:swappedStores [tg] e X.env=pure none:=by rfl)
  (h1:(assignEach [tg] X.env).map (·.2)=[assign tg X.env]:=by rfl):PS X (.Assign [tg] e pos) (gA te g):=by
 intro AF s σ H D I h
 refine wpAny_Assign_stores (AZ (he AF s σ H _ I h) ?_) hs hw
 rintro v s1 ⟨x,H1,I1,r1,q1⟩
 rw[h1]
 exact AZ (hg AF s1 σ H1 x v _ I1 r1 q1) λ_ s2 q=>q
theorem fB {i:Nat}{te:TE}{pos':Pos}(hN:X.N.Nodup)(hi:X.N[i]?=some x)(hx:Loc X.env.scope x)(he:PE X e te)(hs:swapsWith e (some (.Name x pos')) pos.line X.env=pure false:=by rfl)(hf:X.fn x=true\/X.env.scope.names.lookup x=some .local:=by first | exact .inl rfl | exact .inr rfl | assumption):
  PS X (.Assign [.Name x pos'] e pos) (gA te (aX i)):=by
 intro AF s σ H D I h
 refine wpAny_Assign_Name (AZ (he AF s σ H _ I h) ?_) hs
 rintro v s1 ⟨y,H1,I1,r1,q1⟩
 exact yH I1 hN hi hx r1 (λs2 I2=>⟨_,H1,I2,q1⟩) hf
end
section
variable {X:Cx}{pos:Pos}
def FN (c:TT)(tb:TS):TS:=λD σ H=>∃W:Nat->St->Hp->Prop,(∃m,W m σ H)/\∀m σ H,W m σ H->
 c σ H λb H1=>if b=true then ∃N:St->Hp->Prop,(∀ σ' H',N σ' H'->∃m',m' < m/\W m' σ' H')/\tb { D with nx:=N,ct:=N,bk:=D.nx } σ H1 else D.nx σ H1
theorem yL {c:Expr}{body:qA}{tc:TT}{tb:TS}(hp:PassesOwn (model X.prog X.w) X.A X.env X.xe)(hc:PT X c tc)(hb:F0 X body tb):PS X (.While c body [] pos) (FN tc tb):=by
 intro AF s σ H D I h
 obtain⟨W,⟨m0,w0⟩,turn⟩:=h
 refine wpAny_While (codeAny_whileLoop (λn s'=>∃ σ' H',Inv X AF σ' H' s'/\W n σ' H') ?_ m0 ⟨σ,H,I,w0⟩)
 rintro n s1 ⟨σ1,H1,I1,w1⟩
 refine ip hp (AZ (hc AF s1 σ1 H1 _ I1 (turn n σ1 H1 w1)) ?_)
 rintro b s2 ⟨H2,I2,q2⟩
 cases b with
 | true=>
  obtain⟨N,hN,q2⟩:=q2
  rw[bd rfl]
  refine ip hp (AZ (hb AF s2 σ1 H2 _ I2 q2) λf s3 q3=>?_)
  cases f with
  | next=>
   obtain⟨σ3,H3,I3,n3⟩:=q3
   obtain⟨m',hm,w3⟩:=hN σ3 H3 n3
   exact⟨m',hm,σ3,H3,I3,w3⟩
  | cont=>
   obtain⟨σ3,H3,I3,n3⟩:=q3
   obtain⟨m',hm,w3⟩:=hN σ3 H3 n3
   exact⟨m',hm,σ3,H3,I3,w3⟩
  | brk=>exact q3
  | ret v=>exact q3
 | false=>
  rw[ax ba]
  exact l0 ⟨σ1,H2,I2,q2⟩
end
structure It where
 go:Nat->Hp->Prop
 Mo:Nat->Hp->V->Hp->Prop
 stop:Nat->Hp->Prop
def iW (X:Cx)(AF:qq)(H:Hp)(b:Addr):Prop:=
 H b=none/\b≠X.env.locals/\b∉X.fs/\(b∈X.ex\/X.s₀.heap.objs.size<=b)/\(∀x c,X.env.cells.lookup x=some c->c≠b)/\∀p∈X.pn++AF,p.1≠b
theorem Inv.IF {X:Cx}{H':Hp}(I:Inv X AF σ H s)(hb:s.heap.objs.size<=b)(hn:H' b=none):iW X AF H' b:=by
 refine⟨hn,dE (bq I.lt hb),I.Yn hb,.inr (dP I.sz hb),λx c e z=>?_,λp hp z=>?_⟩
 ·obtain⟨v,q⟩:=I.cell x c e
  exact absurd (bq q.lt (by rw[z];exact hb)) (fR _)
 ·exact absurd (bq (ap (I.pin p hp).1) (by rw[z];exact hb)) (fR _)
structure Turn (P:Program)(w:World)(K:W.Frag)(tg:Expr)(J:It)(fp:qV)(it:Addr)(tn:Nat->Heap->Prop):Prop where
 mem:it∈fp
 obj:∀i h,tn i h->∀b∈fp,∃o,h.get? b=some o/\∀v,o.data≠.cell v
 keep:∀i h h',tn i h->(∀b∈fp,∀o,h.get? b=some o->h'.get? b=some o)->tn i h'
 item:∀(X:Cx),X.prog=P->X.w=w->X.K=K->X.calm=true->∀(i:Nat) (AF:qq) (s:Shared) (σ:St) (H:Hp) (E:oT),Inv X AF σ H s->(∀b∈fp,iW X AF H b)->tn i s.heap->J.go i H->
  wpAny (model P w) X.A (pyNext (.ref it)) (λr s1=>∃u,r=some u /\
   wpAny (model P w) X.A (letOwnedTupleGo tg (.ref it) u) (λ_ s2=>∃x H',Inv X AF σ H' s2/\RelV x u/\J.Mo i H x H'/\tn (i+1) s2.heap/\∀b∈fp,H' b=none) E s1) E s
 done:∀(X:Cx),X.prog=P->X.w=w->X.K=K->X.calm=true->∀(i:Nat) (AF:qq) (s:Shared) (σ:St) (H:Hp) (E:oT),Inv X AF σ H s->(∀b∈fp,iW X AF H b)->tn i s.heap->J.stop i H->
  wpAny (model P w) X.A (pyNext (.ref it)) (λr s1=>r=none/\Inv X AF σ H s1) E s
 self:∀(A:Around) (i:Nat) (s:Shared) (Q:oT) (E:oT),tn i s.heap->Q (.ref it) s->wpAny (model P w) A (pyIter (.ref it)) Q E s
abbrev TI:=St->Hp->(It->Hp->Prop)->Prop
def PIE (X:Cx)(AF:qq)(σ:St)(tg:Expr)(R:It->Hp->Prop)(VG:Value)(s2:Shared):Prop:=
 ∃(it:Addr) (fp:qV) (tn:Nat->Heap->Prop) (J:It) (H':Hp),VG=.ref it/\Inv X AF σ H' s2/\Turn X.prog X.w X.K tg J fp it tn/\tn 0 s2.heap/\(∀b∈fp,iW X AF H' b)/\R J H'
def PI (X:Cx)(tg iter:Expr)(wi:TI):Prop:=
 ∀(AF:qq) (s:Shared) (σ:St) (H:Hp) (R:It->Hp->Prop),Inv X AF σ H s->wi σ H R->
  wpAny (model X.prog X.w) X.A (eval iter X.env) (λv s1=>wpAny (model X.prog X.w) X.A (pyIter v) (PIE X AF σ tg R) X.xe s1) X.xe s
theorem ut {M:Model}{tg:Expr}{it:Addr}{o:Obj}{n:String}{vs:q5}(ho:s.heap.get? it=some o)(hc:o.cls=.type n)(hd:o.data=.fields vs)
    (hn:["enumerate","zip","dict_itemiterator","dict_reverseitemiterator","odict_iterator","itertools.zip_longest","itertools.pairwise"].contains n=false) (hQ:Q () s):wpAny M A (letOwnedTupleGo tg (.ref it) u) Q E s:=by
  unfold letOwnedTupleGo
  cases tg <;> first
    | exact ae hQ
    | (cases u <;> first
        | exact ae hQ
        | (refine ab (oC ho ?_)
           rw[hc,hd]
           show wpAny M A (if (["enumerate","zip","dict_itemiterator","dict_reverseitemiterator","odict_iterator","itertools.zip_longest","itertools.pairwise"].contains n&&vs[0]? == some (rawInt _))=true then _ else _) Q E s
           rw[ax (by intro h;rw[hn,Bool.false_and] at h;cases h)]
           exact ae hQ))
def Pt (K:W.Frag)(a:Addr):It:=
 ⟨λi H=>∃xs x,Bz K H a xs/\xs[i]?=some x,λi H x H'=>H'=H/\∀xs,Bz K H a xs->xs[i]?=some x,λi H=>∃xs,Bz K H a xs/\xs.length<=i⟩
def Pw (K:W.Frag)(a:Addr):It:=
 ⟨λi H=>∃xs x,Co K H a xs/\xs[i]?=some x,λi H x H'=>H'=H/\∀xs,Co K H a xs->xs[i]?=some x,λi H=>∃xs,Co K H a xs/\xs.length<=i⟩
def PD (lo:Int)(n:Nat):It:=⟨λi _=>i < n,λi H x H'=>H'=H/\x=.int (lo+i),λi _=>n<=i⟩
theorem FP {tg:Expr}(a it:Addr):Turn P w K tg (Pt K a) [it] it (λi h=>h.IsListIter it a i) where
 mem:=by simp
 obj:=λi h st b hb=>by
  have e:b=it:=by simpa using hb
  subst e
  obtain⟨o,e,c,d⟩:=st
  exact⟨o,e,λv z=>by rw[d] at z;cases z⟩
 keep:=λi h h' st k=>st.at λo e=>k it (by simp) o e
 item:=by
  intro X hP hw hK hc i AF s σ H E I hf st hg
  subst hP hw hK
  obtain⟨xs,x,hq,hx⟩:=hg
  obtain⟨AL,rv,p,hz⟩:=I.list hq
  obtain⟨u,hu,ru⟩:=rv.get hx
  obtain⟨f0,f1,f2,f3,f4,f5⟩:=hf it (by simp)
  refine wpAny_pyNext_list_item st p.isList (x:=u) (by simpa using hu) λh' BU sb=>?_
  have I1:Inv X AF σ H { s with heap:=h' }:=I.turned (t':=s.toks) (λb o hb e=>(sb.2 b hb).trans e) f0 f1 f3 f4 f5
  obtain⟨o,e,c,d⟩:=id BU
  exact⟨u,rfl,ut (s:={ s with heap:=h' }) e c d (by decide) ⟨x,H,I1,ru,⟨rfl,λys hy=>by rw[I.IE hy hq];exact hx⟩,BU,λb hb=>(hf b hb).1⟩⟩
 done:=by
  intro X hP hw hK hc i AF s σ H E I hf st hg
  subst hP hw hK
  obtain⟨xs,hq,hx⟩:=hg
  obtain⟨AL,rv,p,hz⟩:=I.list hq
  obtain⟨f0,f1,f2,f3,f4,f5⟩:=hf it (by simp)
  have hl:=rv.length
  exact wpAny_pyNext_list_end (I.ok.hd hc) st p.isList (by simp;omega) λh' eb=>⟨rfl,I.turned (t':=s.toks) (λb o hb e=>eb b o hb e) f0 f1 f3 f4 f5⟩
 self:=λ_ _ _ _ _ st h=>wpAny_pyIter_listiter st h
theorem Do {tg:Expr}(a it:Addr):Turn P w K tg (Pw K a) [it] it (λi h=>h.IsTupleIter it a i) where
 mem:=by simp
 obj:=λi h st b hb=>by
  have e:b=it:=by simpa using hb
  subst e
  obtain⟨o,e,c,d⟩:=st
  exact⟨o,e,λv z=>by rw[d] at z;cases z⟩
 keep:=λi h h' st k=>st.at λo e=>k it (by simp) o e
 item:=by
  intro X hP hw hK hc i AF s σ H E I hf st hg
  subst hP hw hK
  obtain⟨xs,x,hq,hx⟩:=hg
  obtain⟨AL,rv,p,hz⟩:=I.tuple hq
  obtain⟨u,hu,ru⟩:=rv.get hx
  obtain⟨f0,f1,f2,f3,f4,f5⟩:=hf it (by simp)
  refine og st (show s.heap.IsTuple a AL.toArray from p) (x:=u) (by simpa using hu) λh' BU sb=>?_
  have I1:Inv X AF σ H { s with heap:=h' }:=I.turned (t':=s.toks) (λb o hb e=>(sb.2 b hb).trans e) f0 f1 f3 f4 f5
  obtain⟨o,e,c,d⟩:=id BU
  exact⟨u,rfl,ut (s:={ s with heap:=h' }) e c d (by decide) ⟨x,H,I1,ru,⟨rfl,λys hy=>by rw[I.GA hy hq];exact hx⟩,BU,λb hb=>(hf b hb).1⟩⟩
 done:=by
  intro X hP hw hK hc i AF s σ H E I hf st hg
  subst hP hw hK
  obtain⟨xs,hq,hx⟩:=hg
  obtain⟨AL,rv,p,hz⟩:=I.tuple hq
  obtain⟨f0,f1,f2,f3,f4,f5⟩:=hf it (by simp)
  have hl:=rv.length
  exact wpAny_pyNext_tuple_end (I.ok.hd hc) st (show s.heap.IsTuple a AL.toArray from p) (by simp;omega) λh' eb=>⟨rfl,I.turned (t':=s.toks) (λb o hb e=>eb b o hb e) f0 f1 f3 f4 f5⟩
 self:=λ_ _ _ _ _ st h=>wpAny_pyIter_tupleiter st h
theorem Dp {tg:Expr}(it:Addr)(lo:Int)(n:Nat):Turn P w K tg (PD lo n) [it] it (λi h=>IsRangeIter h it (lo+(i:Nat)*1) ((n:Int) - (i:Nat)) 1) where
 mem:=by simp
 obj:=λi h st b hb=>by
  have e:b=it:=by simpa using hb
  subst e
  exact⟨_,st,λv z=>by
   have z':Data.fields _=Data.cell v:=z
   cases z'⟩
 keep:=λi h h' st k=>k it (by simp) _ st
 item:=by
  intro X hP hw hK hc i AF s σ H E I hf st hg
  subst hP hw hK
  obtain⟨f0,f1,f2,f3,f4,f5⟩:=hf it (by simp)
  have W:=Walks.range (prog:=X.prog) (w:=X.w) (I.ok.hd hc) it lo 1 n
  refine W.item i s _ _ hg st λv h' tk hv BU kk=>?_
  obtain⟨t,rfl⟩:=hv
  have I1:Inv X AF σ H { s with heap:=h',toks:=tk }:=I.turned (λb o hb e=>kk b o (by simpa using hb) e) f0 f1 f3 f4 f5
  refine⟨_,rfl,ut (s:={ s with heap:=h',toks:=tk }) (n := "range_iterator") BU rfl rfl (by decide) ⟨.int (lo+i),H,I1,⟨t,?_⟩,⟨rfl,rfl⟩,BU,λb hb=>(hf b hb).1⟩⟩
  rw[Int.mul_one]
 done:=by
  intro X hP hw hK hc i AF s σ H E I hf st hg
  subst hP hw hK
  obtain⟨f0,f1,f2,f3,f4,f5⟩:=hf it (by simp)
  exact wpAny_pyNext_range_end (I.ok.hd hc) st (by have:n<=i:=hg;omega) λh' eb=>⟨rfl,I.turned (t':=s.toks) (λb o hb e=>eb b o hb e) f0 f1 f3 f4 f5⟩
 self:=λ_ _ _ _ _ st h=>wpAny_pyIter_rangeiter st h
section
variable {X:Cx}{tg:Expr}
def yf (K:W.Frag)(tl:TE):TI:=fun σ H R=>tl σ H λx H1=>∃a,x=.ref a/\(∃xs,Bz K H1 a xs)/\R (Pt K a) H1
def yM (K:W.Frag)(tl:TE):TI:=fun σ H R=>tl σ H λx H1=>∃a,x=.ref a/\(∃xs,Co K H1 a xs)/\R (Pw K a) H1
theorem vL {l:Expr}{tl:TE}(hl:PE X l tl):PI X tg l (yf X.K tl):=by
 intro AF s σ H R I h
 refine AZ (hl AF s σ H _ I h) ?_
 rintro v s1 ⟨x,H1,I1,r1,q1⟩
 obtain⟨a,e,⟨xs,hq⟩,q⟩:=q1
 subst e
 cases r1
 obtain⟨AL,rv,p,hz⟩:=I1.list hq
 refine f7 p.isList ?_
 refine⟨s1.heap.objs.size,[s1.heap.objs.size],_,_,H1,rfl,I1.kept (t':=s1.toks) λb o e=>ac _ e,FP a _,⟨_,am _ rfl,rfl,rfl⟩,λb hb=>?_,q⟩
 have e:b=s1.heap.objs.size:=by simpa using hb
 subst e
 exact I1.IF (aw _) (I1.AW.fresh (aw _))
theorem uv {l:Expr}{tl:TE}(hl:PE X l tl):PI X tg l (yM X.K tl):=by
 intro AF s σ H R I h
 refine AZ (hl AF s σ H _ I h) ?_
 rintro v s1 ⟨x,H1,I1,r1,q1⟩
 obtain⟨a,e,⟨xs,hq⟩,q⟩:=q1
 subst e
 cases r1
 obtain⟨AL,rv,p,hz⟩:=I1.tuple hq
 refine eS (show s1.heap.IsTuple a AL.toArray from p) ?_
 refine⟨s1.heap.objs.size,[s1.heap.objs.size],_,_,H1,rfl,I1.kept (t':=s1.toks) λb o e=>ac _ e,Do a _,⟨_,am _ rfl,rfl,rfl⟩,λb hb=>?_,q⟩
 have e:b=s1.heap.objs.size:=by simpa using hb
 subst e
 exact I1.IF (aw _) (I1.AW.fresh (aw _))
theorem yN {R:It->Hp->Prop}{lo hi:Int}{t u v:Tok}{tk:Nat}(I:Inv X AF σ H s)(h1:-(2 ^ 62)<=lo)(h2:lo < 2 ^ 62)(h3:-(2 ^ 62)<=hi)(h4:hi < 2 ^ 62)
  (q:R (PD lo (hi - lo).toNat) H):wpAny (model X.prog X.w) X.A (pyIter (.ref s.heap.objs.size)) (PIE X AF σ tg R) E { s with heap:=s.heap.push { cls:=.type "range",data:=.fields #[.int lo t,.int hi u,.int 1 v] },toks:=tk }:=by
 refine wpAny_pyIter_range (IsRange.new ..) (small_one h1 h2 h3 h4) ?_
 have I1:Inv X AF σ H { s with heap:=s.heap.push { cls:=.type "range",data:=.fields #[.int lo t,.int hi u,.int 1 v] },toks:=tk }:=I.kept λb o e=>ac _ e
 refine⟨(s.heap.push { cls:=.type "range",data:=.fields #[.int lo t,.int hi u,.int 1 v] }).objs.size,[(s.heap.push { cls:=.type "range",data:=.fields #[.int lo t,.int hi u,.int 1 v] }).objs.size],_,_,H,rfl,
  I1.kept (t':=tk) λb o e=>ac _ e,Dp _ lo (hi - lo).toNat,?_,λb hb=>?_,q⟩
 ·have e1:lo+((0:Nat):Int)*1=lo:=by simp
  have e2:(((hi - lo).toNat:Nat):Int) - ((0:Nat):Int)=Builtin.Range.rangeSize lo hi 1:=by rw[rangeSize_one];split <;> omega
  show IsRangeIter _ _ (lo+((0:Nat):Int)*1) ((((hi - lo).toNat:Nat):Int) - ((0:Nat):Int)) 1
  rw[e1,e2]
  exact am _ rfl
 ·have e:b=(s.heap.push { cls:=.type "range",data:=.fields #[.int lo t,.int hi u,.int 1 v] }).objs.size:=by simpa using hb
  subst e
  exact I1.IF (aw _) (I1.AW.fresh (aw _))
def Dq (ta:TA):TI:=fun σ H R=>ta σ H λvs H1=>∃j:Int,vs=[.int j]/\-(2 ^ 62)<=j/\j < 2 ^ 62/\R (PD 0 j.toNat) H1
def QX (ta:TA):TI:=fun σ H R=>ta σ H λvs H1=>∃i j:Int,vs=[.int i,.int j]/\(-(2 ^ 62)<=i/\i < 2 ^ 62/\-(2 ^ 62)<=j/\j < 2 ^ 62)/\R (PD i (j - i).toNat) H1
theorem wY {a:Expr}{ta:TA}{p:Pos}(hg:Gl X "range")(hm:X.mg "range" = none)(ha:PA X [a] ta)(hs:starEach [a] X.env=[(false,eval a X.env)]:=by rfl):PI X tg (.Call (.Name "range" p) [a] [] pos) (Dq ta):=by
 intro AF s σ H R I h
 refine Call_ (d7 I hg hm boot_range (b0 (AZ (ha pos AF s σ H _ I h) ?_) hs rfl))
 rintro us s1 ⟨vs,H1,I1,r1,q1⟩
 obtain⟨j,e,q1,q2,q⟩:=q1
 subst e
 cases r1 with
 | cons r rr=>
  cases rr
  obtain⟨t,rfl⟩:=r
  exact call_range_1 (yN I1 (by omega) (by omega) q1 q2 (by simpa using q))
theorem FQ {a b:Expr}{ta:TA}{p:Pos}(hg:Gl X "range")(hm:X.mg "range" = none)(ha:PA X [a,b] ta)(hs:starEach [a,b] X.env=[(false,eval a X.env),(false,eval b X.env)]:=by rfl)(D6:starEach [b] X.env=[(false,eval b X.env)]:=by rfl):
  PI X tg (.Call (.Name "range" p) [a,b] [] pos) (QX ta):=by
 intro AF s σ H R I h
 refine Call_ (d7 I hg hm boot_range (b0 (AZ (ha pos AF s σ H _ I h) λus s1 ⟨vs,H1,I1,r1,q1⟩=>?_) (by rw[hs,D6]) (by rw[D6];rfl)))
 obtain⟨i,j,e,⟨q1,q2,q3,q4⟩,q⟩:=q1
 subst e
 cases r1 with
 | cons r rr=>
  cases rr with
  | cons r' rr=>
   cases rr
   obtain⟨t,rfl⟩:=r
   obtain⟨t',rfl⟩:=r'
   exact call_range_2 (yN I1 q1 q2 q3 q4 q)
def vM (wi:TI)(g:TG)(tb:TS):TS:=λD σ H=>wi σ H λJ H1=>∃W:Nat->Nat->St->Hp->Prop,(∃m,W 0 m σ H1)/\∀i m σ H,W i m σ H->
 (J.stop i H/\D.nx σ H)\/(J.go i H/\∃N:St->Hp->Prop,(∀ σ' H',N σ' H'->∃m',m' < m/\W (i+1) m' σ' H')/\∀x H',J.Mo i H x H'->g x σ H' fun σ2 H2=>tb { D with nx:=N,ct:=N,bk:=D.nx } σ2 H2)
noncomputable def pZ (fp:qV)(h:Heap):List (Addr×Obj):=fp.filterMap λb=>(h.get? b).map λo=>(b,o)
theorem jT {fp:qV}{o:Obj}(hb:b∈fp)(e:h.get? b=some o):(b,o)∈pZ fp h:=List.mem_filterMap.mpr ⟨b,hb,by rw[e];rfl⟩
theorem FT {fp:qV}{p:Addr×Obj}(hp:p∈pZ fp h):p.1∈fp/\h.get? p.1=some p.2:=by
 obtain⟨b,hb,e⟩:=List.mem_filterMap.mp hp
 cases q:h.get? b with
 | none=>rw[q] at e;cases e
 | some o=>
  rw[q] at e
  have e':(b,o)=p:=bi e
  subst e'
  exact⟨hb,q⟩
theorem Inv.pinned {fp:qV}(I:Inv X AF σ H s)(hf:∀b∈fp,iW X AF H b)(ho:∀b∈fp,∃o,s.heap.get? b=some o/\∀v,o.data≠.cell v):Inv X (AF++pZ fp s.heap) σ H s:=
 I.KU λp hp=>(bn.mp hp).elim (λz=>I.pin p (cx _ z)) λz=>by
  obtain⟨hb,e⟩:=FT z
  obtain⟨f0,f1,f2,_⟩:=hf p.1 hb
  obtain⟨o,e',d⟩:=ho p.1 hb
  rw[e] at e';cases e'
  exact⟨e,f0,f1,f2,d⟩
theorem Inv.D9 {pl:qq}(I:Inv X (AF++pl) σ H s):Inv X AF σ H s:=I.KU λp hp=>I.pin p (cx _ (bm _ hp))
theorem mR {iter:Expr}{body:qA}{wi:TI}{g:TG}{tb:TS}(hp:PassesOwn (model X.prog X.w) X.A X.env X.xe)(hc:X.calm=true)(hi:PI X tg iter wi)(hg:PG X tg g)(hb:F0 X body tb)
  (hs:∀x,foldedSetIterable iter X.env x=pure x:=by intro _;rfl):PS X (.For tg iter body [] pos) (vM wi g tb):=by
 intro AF s σ H D I h
 refine wpAny_For (AZ (hi AF s σ H _ I h) λv s1 h1=>AZ h1 λVG s2 h2=>?_) hs
 obtain⟨it,fp,tn,J,H2,e,I2,T,Xw,f2,W,⟨m0,w0⟩,turn⟩:=h2
 subst e
 have JE:∀{H':Hp},(∀b∈fp,H' b=none)->∀b∈fp,iW X AF H' b:=λhn b hb=>⟨hn b hb,(f2 b hb).2⟩
 refine codeAny_forLoop_any (λn s'=>∃i σ' H',Inv X AF σ' H' s'/\tn i s'.heap/\(∀b∈fp,H' b=none)/\W i n σ' H') ?_ m0 ⟨0,σ,H2,I2,Xw,λb hb=>(f2 b hb).1,w0⟩
 rintro n s3 ⟨i,σ3,H3,I3,VH,VI,w3⟩
 rcases turn i n σ3 H3 w3 with ⟨stop,qn⟩ | ⟨go,N,hN,step⟩
 ·refine ip hp (AZ (T.done X rfl rfl rfl hc i AF s3 σ3 H3 X.xe I3 (JE VI) VH stop) ?_)
  rintro r s4 ⟨hr,I4⟩
  subst hr
  exact l0 ⟨σ3,H3,I4,qn⟩
 ·refine ip hp (AZ (T.item X rfl rfl rfl hc i AF s3 σ3 H3 X.xe I3 (JE VI) VH go) ?_)
  rintro r s4 ⟨u,hr,h4⟩
  subst hr
  refine ip hp (AZ h4 ?_)
  rintro _ s5 ⟨x,H5,I5,r5,y5,T1,Yt⟩
  have Yu:=I5.pinned (JE Yt) (T.obj _ _ T1)
  refine ip hp (AZ (hg _ s5 σ3 H5 x u _ Yu r5 (step x H5 y5)) ?_)
  rintro _ s6 ⟨σ6,H6,I6,q6⟩
  refine ip hp (AZ (hb _ s6 σ6 H6 _ I6 q6) λf s7 q7=>?_)
  have again:∀{σ7:St}{H7:Hp},Inv X (AF++pZ fp s5.heap) σ7 H7 s7->N σ7 H7->∃m,m < n/\∃i σ' H',Inv X AF σ' H' s7/\tn i s7.heap/\(∀b∈fp,H' b=none)/\W i m σ' H':=λ{σ7 H7} I7 n7=>by
   obtain⟨m',hm,w7⟩:=hN σ7 H7 n7
   refine⟨m',hm,i+1,σ7,H7,I7.D9,T.keep _ _ _ T1 λb hb o e=>(I7.pin (b,o) (cx _ (cx _ (jT hb e)))).1,λb hb=>?_,w7⟩
   obtain⟨o,e,d⟩:=T.obj _ _ T1 b hb
   exact(I7.pin (b,o) (cx _ (cx _ (jT hb e)))).2.1
  cases f with
  | next=>obtain⟨σ7,H7,I7,n7⟩:=q7;exact again I7 n7
  | cont=>obtain⟨σ7,H7,I7,n7⟩:=q7;exact again I7 n7
  | brk=>obtain⟨σ7,H7,I7,q7⟩:=q7;exact⟨σ7,H7,I7.D9,q7⟩
  | ret v=>obtain⟨x7,σ7,H7,I7,r7,q7⟩:=q7;exact⟨x7,σ7,H7,I7.D9,r7,q7⟩
end
theorem HY {xs:List V}{g:TG}{tb:TS}{D:Ends}(Pv:Nat->St->Hp->Prop)(h0:Pv 0 σ H)(hl:∀i σ H,i<=xs.length->Pv i σ H->Bz K H a xs)
  (hs:∀i x σ H,xs[i]?=some x->Pv i σ H->g x σ H fun σ2 H2=>tb { D with nx:=Pv (i+1),ct:=Pv (i+1),bk:=D.nx } σ2 H2) (hd:∀ σ H,Pv xs.length σ H->D.nx σ H):
  ∃W:Nat->Nat->St->Hp->Prop,(∃m,W 0 m σ H)/\∀i m σ H,W i m σ H->
   ((Pt K a).stop i H/\D.nx σ H)\/((Pt K a).go i H/\∃N:St->Hp->Prop,(∀ σ' H',N σ' H'->∃m',m' < m/\W (i+1) m' σ' H')/\∀x H',(Pt K a).Mo i H x H'->g x σ H' fun σ2 H2=>tb { D with nx:=N,ct:=N,bk:=D.nx } σ2 H2):=by
 refine⟨λi m σ H=>m=xs.length - i/\i<=xs.length/\Pv i σ H,⟨xs.length,by simp,ce _,h0⟩,?_⟩
 rintro i m σ H ⟨rfl,hi,p⟩
 have q:=hl i σ H hi p
 by_cases BE:i < xs.length
 ·refine .inr ⟨⟨xs,xs[i],q,by simp[BE]⟩,Pv (i+1),fun σ' H' p'=>⟨xs.length - (i+1),by omega,rfl,BE,p'⟩,λx H' y=>?_⟩
  obtain⟨e,y⟩:=y
  subst e
  exact hs i x σ _ (y xs q) p
 ·have e:i=xs.length:=by omega
  subst e
  exact .inl ⟨⟨xs,q,aw _⟩,hd σ H p⟩
theorem Ca {xs:List V}{g:TG}{tb:TS}{D:Ends}(Pv:Nat->St->Hp->Prop)(h0:Pv 0 σ H)(hl:∀i σ H,i<=xs.length->Pv i σ H->Co K H a xs)
  (hs:∀i x σ H,xs[i]?=some x->Pv i σ H->g x σ H fun σ2 H2=>tb { D with nx:=Pv (i+1),ct:=Pv (i+1),bk:=D.nx } σ2 H2) (hd:∀ σ H,Pv xs.length σ H->D.nx σ H):
  ∃W:Nat->Nat->St->Hp->Prop,(∃m,W 0 m σ H)/\∀i m σ H,W i m σ H->
   ((Pw K a).stop i H/\D.nx σ H)\/((Pw K a).go i H/\∃N:St->Hp->Prop,(∀ σ' H',N σ' H'->∃m',m' < m/\W (i+1) m' σ' H')/\∀x H',(Pw K a).Mo i H x H'->g x σ H' fun σ2 H2=>tb { D with nx:=N,ct:=N,bk:=D.nx } σ2 H2):=by
 refine⟨λi m σ H=>m=xs.length - i/\i<=xs.length/\Pv i σ H,⟨xs.length,by simp,ce _,h0⟩,?_⟩
 rintro i m σ H ⟨rfl,hi,p⟩
 have q:=hl i σ H hi p
 by_cases BE:i < xs.length
 ·refine .inr ⟨⟨xs,xs[i],q,by simp[BE]⟩,Pv (i+1),fun σ' H' p'=>⟨xs.length - (i+1),by omega,rfl,BE,p'⟩,λx H' y=>?_⟩
  obtain⟨e,y⟩:=y
  subst e
  exact hs i x σ _ (y xs q) p
 ·have e:i=xs.length:=by omega
  subst e
  exact .inl ⟨⟨xs,q,aw _⟩,hd σ H p⟩
abbrev R2:=V->V->Hp->VK->Prop
def Ct (X:Cx)(f:Value->Value->Sem Value)(r:R2):Prop:=
 ∀(AF:qq) (s:Shared) (σ:St) (H:Hp) (x y:V) (v u:Value) (Q:VK),Inv X AF σ H s->RelV x v->RelV y u->r x y H Q->
  wpAny (model X.prog X.w) X.A (f v u) (EP X AF σ Q) X.xe s
def Yv (X:Cx)(f:Value->Sem Value)(r:V->Hp->VK->Prop):Prop:=
 ∀(AF:qq) (s:Shared) (σ:St) (H:Hp) (x:V) (v:Value) (Q:VK),Inv X AF σ H s->RelV x v->r x H Q->
  wpAny (model X.prog X.w) X.A (f v) (EP X AF σ Q) X.xe s
def BN (X:Cx)(f:Value)(r:List V->Hp->VK->Prop):Prop:=
 ∀(AF:qq) (s:Shared) (σ:St) (H:Hp) (xs:List V) (us:qv) (Q:VK),Inv X AF σ H s->Vals xs us->r xs H Q->
  wpAny (model X.prog X.w) X.A (call f us) (EP X AF σ Q) X.xe s
def MA (r:R2)(ta tb:TE):TE:=fun σ H Q=>ta σ H λx H1=>tb σ H1 λy H2=>r x y H2 Q
def tUn (r:V->Hp->VK->Prop)(ta:TE):TE:=fun σ H Q=>ta σ H λx H1=>r x H1 Q
def rI (C:Int->Int->Prop)(g:Int->Int->V):R2:=λx y H Q=>∃i j,x=.int i/\y=.int j/\C i j/\Q (g i j) H
def OQ (g:Int->Int->V):R2:=λx y H Q=>∃i j,x=.int i/\y=.int j/\Q (g i j) H
def rU (g:Int->V):V->Hp->VK->Prop:=λx H Q=>∃i,x=.int i/\Q (g i) H
section
variable {X:Cx}{a b c:Expr}{ta tb tc:TE}{pos:Pos}
theorem H_ (ha:PE X a ta)(hb:PE X b tb){R:V->V->Hp->Prop}(I:Inv X AF σ H s)
  (h:ta σ H λx H1=>tb σ H1 λy H2=>R x y H2){Q:oT}{f:Value->Value->Sem Value}
  (hf:∀v u s2 x y H2,Inv X AF σ H2 s2->RelV x v->RelV y u->R x y H2->wpAny (model X.prog X.w) X.A (f v u) Q X.xe s2):
  wpAny (model X.prog X.w) X.A (eval a X.env) (λv s₁=>wpAny (model X.prog X.w) X.A (eval b X.env) (λu s₂=>wpAny (model X.prog X.w) X.A (f v u) Q X.xe s₂) X.xe s₁) X.xe s:=by
 refine AZ (ha AF s σ H _ I h) ?_
 rintro v s1 ⟨x,H1,I1,r1,q1⟩
 refine AZ (hb AF s1 σ H1 _ I1 q1) ?_
 rintro u s2 ⟨y,H2,I2,r2,q2⟩
 exact hf v u s2 x y H2 I2 r1 r2 q2
theorem Kl {op:Operator}{r:R2}(ho:Ct X (binaryOp op) r)(ha:PE X a ta)(hb:PE X b tb):PE X (.BinOp a op b pos) (MA r ta tb):=by
 intro AF s σ H Q I h
 exact wpAny_BinOp (H_ ha hb I h λv u s2 x y H2 I2 rx ry q=>ho AF s2 σ H2 x y v u Q I2 rx ry q)
theorem QZ {op:UnaryOp}{r:V->Hp->VK->Prop}(ho:Yv X (unaryOp op) r)(ha:PE X a ta):PE X (.UnaryOp op a pos) (tUn r ta):=by
 intro AF s σ H Q I h
 exact UnaryOp_ (AZ (ha AF s σ H _ I h) λv s1 ⟨x,H1,I1,r1,q1⟩=>ho AF s1 σ H1 x v Q I1 r1 q1)
theorem Yw {f:Value->Value->Sem Value}{C:Int->Int->Prop}{g:Int->Int->Int}
  (rule:∀(i j:Int) (t u:Tok) (s:Shared) (Q:oT) (E:oT),C i j->Q (.int (g i j) s.toks) { s with toks:=s.toks+1 }->wpAny (model X.prog X.w) X.A (f (.int i t) (.int j u)) Q E s):
  Ct X f (rI C λi j=>.int (g i j)):=by
 intro AF s σ H x y v u Q I rx ry h
 obtain⟨i,j,rfl,rfl,hc,q⟩:=h
 obtain⟨t,rfl⟩:=rx
 obtain⟨t',rfl⟩:=ry
 exact rule i j t t' s _ _ hc ⟨.int (g i j),H,I.tok _,⟨_,rfl⟩,q⟩
theorem N7 {f:Value->Value->Sem Value}{g:Int->Int->Int}
  (rule:∀(i j:Int) (t u:Tok) (s:Shared) (Q:oT) (E:oT),Q (.int (g i j) s.toks) { s with toks:=s.toks+1 }->wpAny (model X.prog X.w) X.A (f (.int i t) (.int j u)) Q E s):
  Ct X f (OQ λi j=>.int (g i j)):=by
 intro AF s σ H x y v u Q I rx ry h
 obtain⟨i,j,rfl,rfl,q⟩:=h
 obtain⟨t,rfl⟩:=rx
 obtain⟨t',rfl⟩:=ry
 exact rule i j t t' s _ _ ⟨.int (g i j),H,I.tok _,⟨_,rfl⟩,q⟩
theorem N8 {f:Value->Value->Sem Value}{g:Int->Int->Bool}
  (rule:∀(i j:Int) (t u:Tok) (s:Shared) (Q:oT) (E:oT),Q (.bool (g i j)) s->wpAny (model X.prog X.w) X.A (f (.int i t) (.int j u)) Q E s):
  Ct X f (OQ λi j=>.bl (g i j)):=by
 intro AF s σ H x y v u Q I rx ry h
 obtain⟨i,j,rfl,rfl,q⟩:=h
 obtain⟨t,rfl⟩:=rx
 obtain⟨t',rfl⟩:=ry
 exact rule i j t t' s _ _ ⟨.bl (g i j),H,I,rfl,q⟩
def N_ (i j:Int):Prop:=0 < j/\j < 1073741824
def MB (i j:Int):Prop:=(-(2 ^ 64) < i/\i < 2 ^ 64)\/(-(2 ^ 64) < j/\j < 2 ^ 64)
theorem MB.ok {i j:Int}(h:MB i j):IntMulOk i j:=by
 rcases h with ⟨h1,h2⟩ | ⟨h1,h2⟩
 ·exact .of_left (intBits_le_64 h1 h2)
 ·exact .of_right (intBits_le_64 h1 h2)
theorem Oa:Ct X (binaryOp .Add) (OQ λi j=>.int (i+j)):=N7 λ_ _ _ _ _ _ _ q=>add_int q
theorem Ob:Ct X (binaryOp .Sub) (OQ λi j=>.int (i - j)):=N7 λ_ _ _ _ _ _ _ q=>sub_int q
theorem FW:Ct X (binaryOp .Mult) (rI MB λi j=>.int (i*j)):=Yw λ_ _ _ _ _ _ _ hc q=>mul_int q hc.ok
theorem KR:Ct X (binaryOp .FloorDiv) (rI N_ λi j=>.int (i / j)):=Yw λi j _ _ _ _ _ hc q=>by
 have h1:(0:Int) < j:=hc.1
 have h2:j < 1073741824:=hc.2
 exact floordiv_int (by omega) (by rw[Int.fdiv_eq_ediv_of_nonneg i (by omega)];exact q) (.inl (PyProof.noPylong_small (by omega)))
theorem Oc:Ct X (binaryOp .Mod) (rI (λ_ j=>0 < j) λi j=>.int (i % j)):=Yw λi j _ _ _ _ _ hc q=>by
 have h1:(0:Int) < j:=hc
 exact mod_int' (by omega) (by rw[Int.fmod_eq_emod_of_nonneg i (by omega)];exact q)
theorem LM {f:Value->Sem Value}{g:Int->Int}
  (rule:∀(i:Int) (t:Tok) (s:Shared) (Q:oT) (E:oT),Q (.int (g i) s.toks) { s with toks:=s.toks+1 }->wpAny (model X.prog X.w) X.A (f (.int i t)) Q E s):
  Yv X f (rU λi=>.int (g i)):=by
 intro AF s σ H x v Q I rx h
 obtain⟨i,rfl,q⟩:=h
 obtain⟨t,rfl⟩:=rx
 exact rule i t s _ _ ⟨.int (g i),H,I.tok _,⟨_,rfl⟩,q⟩
theorem Od:Yv X (unaryOp .USub) (rU λi=>.int (-i)):=LM λ_ _ _ _ _ q=>neg_int q
end
noncomputable def Ia:V->V->Bool
 | .AO,.AO=>true | .AO,.int _=>true | .int _,.AO=>true | .AO,.bl _=>true | .bl _,.AO=>true | .AO,.str _=>true | .str _,.AO=>true
 | .int _,.int _=>true | .bl _,.bl _=>true | .str _,.str _=>true | .L1 _,.L1 _=>true
 | .int _,.str _=>true | .str _,.int _=>true | .bl _,.str _=>true | .str _,.bl _=>true
 | _,_=>false
def rEq:R2:=λx y H Q=>Ia x y=true/\Q (.bl (decide (x=y))) H
def rNe:R2:=λx y H Q=>Ia x y=true/\Q (.bl (!decide (x=y))) H
theorem Cd {i j:Int}:decide (V.int i=V.int j)=(i == j):=by
 rw[e9]
 simp
theorem FZ {i j:Bool}:decide (V.bl i=V.bl j)=(i == j):=by
 rw[e9]
 simp
theorem Ce {i j:Str}:decide (V.str i=V.str j)=(i == j):=by
 rw[e9]
 simp
theorem Cg {i j:Array UInt8}:decide (V.L1 i=V.L1 j)=(i.toList == j.toList):=by
 rw[e9]
 cases i
 cases j
 simp
variable {us:qv}
section
variable {X:Cx}{a b c:Expr}{ta tb tc:TE}{pos:Pos}
theorem aY {Q:VK}{k k':Bool}(I:Inv X AF σ H s)(q:Q (.bl k) H)(e:k=k'):EP X AF σ Q (.bool k') s:=by
 subst e
 exact⟨.bl k,H,I,rfl,q⟩
theorem Q0:Ct X (compareOp .Eq) rEq:=by
 intro AF s σ H x y v u Q I rx ry h
 obtain⟨hs,q⟩:=h
 cases x with
 | AO=>
  cases rx
  cases y with
  | AO=>cases ry;exact PySem.EqNone.eq_none_none (aY I q (by simp))
  | bl j=>cases ry;exact PySem.EqNone.eq_none_bool (aY I q (by simp))
  | int j=>obtain⟨t',rfl⟩:=ry;exact PySem.EqNone.eq_none_int (aY I q (by simp))
  | str j=>obtain⟨t',rfl⟩:=ry;exact PySem.EqNone.eq_none_str (aY I q (by simp))
  | _=>exact absurd (show false=true from hs) ba
 | bl i=>
  cases rx
  cases y with
  | AO=>cases ry;exact PySem.EqNone.eq_bool_none (aY I q (by simp))
  | bl j=>cases ry;exact eq_bool (aY I q FZ)
  | str j=>obtain⟨t',rfl⟩:=ry;exact PySem.EqMixed.eq_bool_str (aY I q (by simp))
  | _=>exact absurd (show false=true from hs) ba
 | int i=>
  obtain⟨t,rfl⟩:=rx
  cases y with
  | AO=>cases ry;exact PySem.EqNone.eq_int_none (aY I q (by simp))
  | int j=>obtain⟨t',rfl⟩:=ry;exact eq_int (aY I q Cd)
  | str j=>obtain⟨t',rfl⟩:=ry;exact PySem.EqMixed.eq_int_str (aY I q (by simp))
  | _=>exact absurd (show false=true from hs) ba
 | str i=>
  obtain⟨t,rfl⟩:=rx
  cases y with
  | AO=>cases ry;exact PySem.EqNone.eq_str_none (aY I q (by simp))
  | bl j=>cases ry;exact PySem.EqMixed.eq_str_bool (aY I q (by simp))
  | int j=>obtain⟨t',rfl⟩:=ry;exact PySem.EqMixed.eq_str_int (aY I q (by simp))
  | str j=>obtain⟨t',rfl⟩:=ry;exact eq_str (aY I q Ce)
  | _=>exact absurd (show false=true from hs) ba
 | L1 i=>
  obtain⟨t,rfl⟩:=rx
  cases y with
  | L1 j=>obtain⟨t',rfl⟩:=ry;exact W.eq_bytes (aY I q Cg)
  | _=>exact absurd (show false=true from hs) ba
 | _=>cases y <;> exact absurd (show false=true from hs) ba
theorem Q3:Ct X (compareOp .NotEq) rNe:=by
 intro AF s σ H x y v u Q I rx ry h
 obtain⟨hs,q⟩:=h
 cases x with
 | AO=>
  cases rx
  cases y with
  | AO=>cases ry;exact PySem.EqNone.ne_none_none (aY I q (by simp))
  | bl j=>cases ry;exact PySem.EqNone.ne_none_bool (aY I q (by simp))
  | int j=>obtain⟨t',rfl⟩:=ry;exact PySem.EqNone.ne_none_int (aY I q (by simp))
  | str j=>obtain⟨t',rfl⟩:=ry;exact PySem.EqNone.ne_none_str (aY I q (by simp))
  | _=>exact absurd (show false=true from hs) ba
 | bl i=>
  cases rx
  cases y with
  | AO=>cases ry;exact PySem.EqNone.ne_bool_none (aY I q (by simp))
  | bl j=>cases ry;exact ne_bool (aY I q (dL not FZ))
  | str j=>obtain⟨t',rfl⟩:=ry;exact PySem.EqMixed.ne_bool_str (aY I q (by simp))
  | _=>exact absurd (show false=true from hs) ba
 | int i=>
  obtain⟨t,rfl⟩:=rx
  cases y with
  | AO=>cases ry;exact PySem.EqNone.ne_int_none (aY I q (by simp))
  | int j=>obtain⟨t',rfl⟩:=ry;exact ne_int (aY I q (dL not Cd))
  | str j=>obtain⟨t',rfl⟩:=ry;exact PySem.EqMixed.ne_int_str (aY I q (by simp))
  | _=>exact absurd (show false=true from hs) ba
 | str i=>
  obtain⟨t,rfl⟩:=rx
  cases y with
  | AO=>cases ry;exact PySem.EqNone.ne_str_none (aY I q (by simp))
  | bl j=>cases ry;exact PySem.EqMixed.ne_str_bool (aY I q (by simp))
  | int j=>obtain⟨t',rfl⟩:=ry;exact PySem.EqMixed.ne_str_int (aY I q (by simp))
  | str j=>obtain⟨t',rfl⟩:=ry;exact ne_str (aY I q (dL not Ce))
  | _=>exact absurd (show false=true from hs) ba
 | L1 i=>
  obtain⟨t,rfl⟩:=rx
  cases y with
  | L1 j=>obtain⟨t',rfl⟩:=ry;exact W.ne_bytes (aY I q (dL not Cg))
  | _=>exact absurd (show false=true from hs) ba
 | _=>cases y <;> exact absurd (show false=true from hs) ba
theorem Q4:Ct X (compareOp .Lt) (OQ λi j=>.bl (decide (i < j))):=N8 λ_ _ _ _ _ _ _ q=>lt_int q
theorem Q5:Ct X (compareOp .Gt) (OQ λi j=>.bl (decide (j < i))):=N8 λ_ _ _ _ _ _ _ q=>gt_int q
theorem Oe:Ct X (compareOp .Is) (λx y H Q=>y=.AO/\Q (.bl (decide (x=.AO))) H):=by
 intro AF s σ H x y v u Q I rx ry h
 obtain⟨rfl,q⟩:=h
 cases ry
 refine is_none_gen (aY I q ?_)
 cases x <;> first
  | (cases rx;rfl)
  | (obtain⟨t,rfl⟩:=rx;rfl)
theorem Ci:Ct X (compareOp .IsNot) (λx y H Q=>y=.AO/\Q (.bl (!decide (x=.AO))) H):=by
 intro AF s σ H x y v u Q I rx ry h
 obtain⟨rfl,q⟩:=h
 cases ry
 refine isnot_none_gen (aY I q ?_)
 cases x <;> first
  | (cases rx;rfl)
  | (obtain⟨t,rfl⟩:=rx;rfl)
theorem Ct.or {f:Value->Value->Sem Value}{r r':R2}(h:Ct X f r)(h':Ct X f r'):Ct X f (λx y H Q=>r x y H Q\/r' x y H Q):=by
 intro AF s σ H x y v u Q I rx ry q
 rcases q with q | q
 ·exact h AF s σ H x y v u Q I rx ry q
 ·exact h' AF s σ H x y v u Q I rx ry q
theorem j_ (b:Expr)(h:op≠.In:=by decide)(h2:op≠.NotIn:=by decide):behindInMarks op b=false:=by
 have e1:(op == CmpOp.In)=false:=by cases op <;> first | rfl | exact absurd rfl h
 have e2:(op == CmpOp.NotIn)=false:=by cases op <;> first | rfl | exact absurd rfl h2
 cases b <;> simp[behindInMarks,e1,e2]
theorem KY {r:R2}(ho:Ct X (compareOp op) r)(ha:PE X a ta)(hb:PE X b tb)(hm:behindInMarks op b=false):PE X (.Compare a [op] [b] pos) (MA r ta tb):=by
 intro AF s σ H Q I h
 exact wpAny_Compare1 (H_ ha hb I h λv u s2 x y H2 I2 rx ry q=>ho AF s2 σ H2 x y v u Q I2 rx ry q) hm
def Q6 (t:TE):TT:=fun σ H Q=>t σ H λx H'=>∃k,x=.bl k/\Q k H'
theorem KZ {r:R2}(ho:Ct X (compareOp op) r)(ha:PE X a ta)(hb:PE X b tb)(hm:behindInMarks op b=false):PT X (.Compare a [op] [b] pos) (Q6 (MA r ta tb)):=by
 intro AF s σ H Q I h
 refine wpAny_isTrue_Compare1 (AZ (ha AF s σ H _ I h) λv s1 ⟨x,H1,I1,r1,q1⟩=>AZ (hb AF s1 σ H1 _ I1 q1) λu s2 ⟨y,H2,I2,r2,q2⟩=>
  AZ (ho AF s2 σ H2 x y v u _ I2 r1 r2 q2) λc s3 ⟨z,H3,I3,r3,k,e,q3⟩=>?_) hm
 subst e
 cases r3
 exact iF ⟨H3,I3,q3⟩
theorem mU:(sizeLine:Nat) < 2 ^ 63:=by rw[i9];decide
theorem Dr:Ct X (binaryOp .Add) (λx y H Q=>∃i j,x=.str i/\y=.str j/\i.length+j.length<=sizeLine/\Q (.str (i++j)) H):=by
 intro AF s σ H x y v u Q I rx ry h
 obtain⟨i,j,rfl,rfl,hz,q⟩:=h
 obtain⟨t,rfl⟩:=rx
 obtain⟨t',rfl⟩:=ry
 exact add_str (λt' tk=>⟨.str (i++j),H,I.tok _,⟨_,rfl⟩,q⟩) hz
theorem vals1 {x:V}(r:Vals [x] us):∃u,us=[u]/\RelV x u:=by
 cases r with
 | cons r1 r2=>cases r2;exact⟨_,rfl,r1⟩
theorem vals2 {x y:V}(r:Vals [x,y] us):∃u w',us=[u,w']/\RelV x u/\RelV y w':=by
 cases r with
 | cons r1 r2=>
  cases r2 with
  | cons r3 r4=>cases r4;exact⟨_,_,rfl,r1,r3⟩
theorem F_ (hc:X.calm=true):BN X (.builtin "min") (λxs H Q=>∃i j,xs=[.int i,.int j]/\Q (.int (if j < i then j else i)) H):=by
 intro AF s σ H xs us Q I r h
 obtain⟨i,j,rfl,q⟩:=h
 obtain⟨u,w',rfl,⟨t,rfl⟩,⟨t',rfl⟩⟩:=vals2 r
 refine min_two_ints (I.ok.hd hc) λh' tk k=>⟨_,H,I.kept k,?_,q⟩
 by_cases hj:j < i
 ·rw[bd hj,bd hj];exact⟨_,rfl⟩
 ·rw[ax hj,ax hj];exact⟨_,rfl⟩
end
structure JI (h:Heap)(x dx C:Addr)(mA:Str->Option Value):Prop where
 obj:h.get? x=some (W.instObj C dx)
 ns:h.Ns1 dx mA
 ne:dx≠x
theorem Ga {dx:Addr}{mA:Str->Option Value}(n:h.Ns1 dx mA):∃od,h.get? dx=some od/\∀name,W.lookIn name od=some (mA name):=by
 obtain⟨o,es,ep,ho,hd,hk,_,hm⟩:=n
 refine⟨o,ho,λname=>?_⟩
 have e:=hm name
 unfold nsFind findBy at e
 rw[← Array.find?_toList] at e
 unfold W.lookIn
 rw[hd]
 dsimp only
 split
 ·rename_i y q
  rw[q] at e
  exact dL some e
 ·rename_i q
  rw[q] at e
  have a:es.toList.any (·.refKey)=false:=by
   rw[kM]
   intro y hy
   obtain⟨z,t,T2⟩:=hk y (Array.mem_toList_iff.mp hy)
   simp[DictEntry.refKey,T2]
  have a':¬ es.toList.any (·.refKey)=true:=by rw[a];exact ba
  rw[ax a']
  exact dL some e
theorem JI.look {x dx C:Addr}{mA:Str->Option Value}(I:JI h x dx C mA):∃od,W.InstAt h x (W.instObj C dx) C (some od)/\∀name,W.lookIn name od=some (mA name):=
 let ⟨od,ho,hl⟩:=Ga I.ns
 ⟨od,⟨I.obj,rfl,rfl,ho⟩,hl⟩
variable {kw:List (Str×Value)}
section
variable {prog:Program}{w:World}{A:Around}{E:oT}{s:Shared}{K:W.Frag}{x dx C f:Addr}{mA:Str->Option Value}{name:Str}{v:Value}
theorem K1 {expr:Bool}{Q:oT}(X:K.In s.heap)(I:JI s.heap x dx C mA)(hg:W.plainGet K C name=true)(hh:W.hasDictIn K C=true)
  (ha:W.findIn K (.ref C) name=some none) (hv:mA name=some v) (OR:W.handedIn v=true) (h:Q v { s with toks:=s.toks+1 }):
  wpAny (model prog w) A (getAttr (.ref x) name expr) Q E s:=by
 obtain⟨od,J,hl⟩:=I.look
 exact W.get_value X J (me hg).1 (W.findObj_own hh ha rfl (by rw[hl,hv])) OR h
theorem Ib {pl:Sem Bool}{Q:Value×List Value->Shared->Prop}(X:K.In s.heap)(I:JI s.heap x dx C mA)(hg:W.plainGet K C name=true)
  (hf:W.findIn K (.ref C) name=some (some (.ref f))) (ht:W.isFn K (.ref f)=true) (hv:mA name=none) (h:Q (.ref f,[.ref x]) s):
  wpAny (model prog w) A (getMethod (.ref x) name pl) Q E s:=by
 obtain⟨od,J,hl⟩:=I.look
 exact W.method_fn X J (me hg).1 (me hg).2 hf (kD.mp ht) (by show (W.lookIn name od).map (·.isSome)=some false;rw[hl,hv];rfl) h
theorem K3 {ns:qE}(X:K.In s.heap)(I:JI s.heap x dx C mA)
  (hs:W.findIn K (.ref C) "__setattr__" = some (some (.builtin "object.__setattr__"))) (hp:W.plainOver K C=true) (ht:W.takerIn K C name=some none) (hh:W.hasDictIn K C=true)
  (hw:PySem.Within mA ns) (hsz:ns.length<=sizeLine)
  (h:∀h',JI h' x dx C (λy=>if y=name then some v else mA y)->Heap.SameBut dx s.heap h'->Q () { s with heap:=h',toks:=s.toks+2 }):
  wpAny (model prog w) A (setAttr (.ref x) name v) Q E s:=by
 obtain⟨od,J,hl⟩:=I.look
 refine W.set_plain X J hs (W.osa_open (s:={ s with toks:=s.toks+1 }) (r:=none) X J hp ht λb=>?_)
 obtain⟨cd,hc,TH⟩:=W.any_some hh
 have hx:s.heap.get? x=some ⟨.ref C,some dx,.plain,#[]⟩:=I.obj
 refine ab (ae (ab (ab (wpAny_loadPart hx (ab (W.Looks.here (s:={ s with toks:=s.toks+1 }) (W.looks_clsIn X hc) ?_))))))
 rw[TH]
 refine ae (a:=some dx) (ab (ae (ab ?_)))
 refine wpAny_nsSet1 (s:={ s with toks:=s.toks+1 }) I.ns λh' Xx D6=>?_
 obtain⟨oD,esD,epD,hoD,hdD,hcD⟩:=Xx.count (PySem.Within.cons name v hw)
 refine ab (wpAny_lookBehind hoD (by rw[hdD];exact pastItsLine_dict (dP hcD (by rw[bv];omega))) ?_)
 exact ae (h _ ⟨(D6.2 _ (fN I.ne)).trans I.obj,Xx,I.ne⟩ D6)
theorem Ie {R:Result->Shared->Prop}{vs:qv}(X:K.In s.heap)(hm:W.makesIn K C=true)
  (hi:W.findIn K (.ref C) "__init__" = some (some (.ref f))) (hf:W.typeIn K (.ref f)=some (.type "function"))
  (h:codeAny (model prog w) (A.under (.builtin "type.__call__" ⟨.ref C::vs,kw⟩)) (.call (.ref f) ⟨.ref (s.heap.objs.size+1)::vs,kw⟩) (W.InitBack (s.heap.objs.size+1) R)
   { s with heap:=(s.heap.push W.emptyDict).push (W.instObj C s.heap.objs.size) }):
  codeAny (model prog w) A (.call (.ref C) ⟨vs,kw⟩) R s:=by
 obtain⟨hh,g,d,t,os⟩:=s
 exact W.make_core (W.makes_of X hm) (W.looks_findIn X hi) (λself=>W.bind_fn X self hf) (.inl rfl) h
end
noncomputable def bY (f:Str)(v:V):List (Str×V)->List (Str×V)
 | []=>[(f,v)]
 | (g,x)::r=>if g=f then (g,v)::r else (g,x)::bY f v r
theorem rW (f g:Str)(v:V):∀fs:List (Str×V),(bY f v fs).lookup g=if g=f then some v else fs.lookup g
 | []=>by
  show List.lookup g [(f,v)]=_
  by_cases h:g=f
  ·have hb:(g == f)=true:=kD.mpr h
   simp only[List.lookup,hb,bd h]
  ·have hb:(g == f)=false:=eP.mpr h
   simp only[List.lookup,hb,ax h]
 | (k,x)::r=>by
  have ih:=rW f g v r
  rw[show bY f v ((k,x)::r)=(if k=f then (k,v)::r else (k,x)::bY f v r) from rfl]
  by_cases hk:k=f
  ·rw[bd hk]
   by_cases h:g=k
   ·have hb:(g == k)=true:=kD.mpr h
    simp only[List.lookup,hb,bd (h.trans hk)]
   ·have hb:(g == k)=false:=eP.mpr h
    simp only[List.lookup,hb,ax (λe:g=f=>h (e.trans hk.symm))]
  ·rw[ax hk]
   by_cases h:g=k
   ·have hb:(g == k)=true:=kD.mpr h
    simp only[List.lookup,hb,ax (λe:g=f=>hk (h.symm.trans e))]
   ·have hb:(g == k)=false:=eP.mpr h
    simp only[List.lookup,hb]
    exact ih
theorem p6 (f:Str)(v:V):∀fs:List (Str×V),f∈(bY f v fs).map (·.1)/\∀g,g∈fs.map (·.1)->g∈(bY f v fs).map (·.1)
 | []=>⟨by simp[bY],λg h=>by simp at h⟩
 | (k,x)::r=>by
  obtain⟨i1,i2⟩:=p6 f v r
  rw[show bY f v ((k,x)::r)=(if k=f then (k,v)::r else (k,x)::bY f v r) from rfl]
  by_cases hk:k=f
  ·rw[bd hk]
   subst hk
   exact⟨by simp,λg h=>by simpa using h⟩
  ·rw[ax hk]
   refine⟨?_,λg h=>?_⟩
   ·rw[a0]
    exact al _ i1
   ·rw[a0] at h ⊢
    rcases be.mp h with e | e
    ·exact be.mpr (.inl e)
    ·exact al _ (i2 g e)
theorem rY (f:Str)(v:V):∀fs:List (Str×V),(bY f v fs).length<=fs.length+1
 | []=>by simp[bY]
 | (k,x)::r=>by
  have ih:=rY f v r
  rw[show bY f v ((k,x)::r)=(if k=f then (k,v)::r else (k,x)::bY f v r) from rfl]
  by_cases hk:k=f
  ·rw[bd hk,bv,bv];omega
  ·rw[ax hk,bv,bv];omega
theorem C8.some_of {v:V}{o:Option Value}(r:C8 (some v) o):∃u,o=some u/\RelV v u:=by
 cases o with
 | none=>exact(show False from r).elim
 | some u=>exact⟨u,rfl,r⟩
theorem C8.none_of {o:Option Value}(r:C8 none o):o=none:=by
 cases o with
 | none=>rfl
 | some u=>exact(show False from r).elim
theorem Gb {v:V}(r:RelV v u):W.handedIn u=true:=by
 cases v with
 | AO=>cases (show u=Value.none from r);rfl
 | bl b=>cases (show u=Value.bool b from r);rfl
 | int i=>obtain⟨t,e⟩:=(show ∃t,u=Value.int i t from r);cases e;rfl
 | str x=>obtain⟨t,e⟩:=(show ∃t,u=Value.str x t from r);cases e;rfl
 | L1 b=>obtain⟨t,e⟩:=(show ∃t,u=Value.bytes b t from r);cases e;rfl
 | TK b=>obtain⟨t,e⟩:=(show ∃t,u=Value.float b t from r);cases e;rfl
 | ref a=>cases (show u=Value.ref a from r);rfl
 | ty n=>cases (show u=Value.type n from r);rfl
section
variable {P:Program}{w:World}{H H':Hp}{h h':Heap}{a C dx:Addr}{fs fs':List (Str×V)}
theorem qX (AW:Dx P w K H h)(e:H a=some (.ins C dx fs)):∃mA,JI h a dx C mA/\(∀f,C8 (fs.lookup f) (mA f))/\PySem.Within mA (fs.map (·.1))/\fs.length<=1000/\H dx=some (.own a):=by
 obtain⟨d,z,ne,ob,mA,n,r,q⟩:=(show AR P w K H h a (.ins C dx fs) from AW a _ e)
 exact⟨mA,⟨ob,n,ne⟩,r,q,z,d⟩
end
structure JA (K:W.Frag)(C:Addr):Prop where
 pg:W.plainGet K C Str.empty=true
 hd:W.hasDictIn K C=true
 po:W.plainOver K C=true
 sa:W.findIn K (.ref C) "__setattr__" = some (some (.builtin "object.__setattr__"))
theorem JA.get {C:Addr}(c:JA K C)(f:Str):W.plainGet K C f=true:=c.pg
def A6 (K:W.Frag)(C:Addr)(f:Str):Prop:=W.findIn K (.ref C) f=some none
theorem A6.VJ {C:Addr}{f:Str}(n:A6 K C f):W.takerIn K C f=some none:=by
 unfold W.takerIn
 rw[show W.findIn K (.ref C) f=some none from n]
 rfl
structure Meth (K:W.Frag)(C:Addr)(m:Str)(f:Addr):Prop where
 at_:W.findIn K (.ref C) m=some (some (.ref f))
 fn:W.isFn K (.ref f)=true
 kp:W.keepIn K (.ref f)=true
section
variable {X:Cx}{AF:qq}{σ:St}{H:Hp}{s:Shared}{a C dx:Addr}{fs:List (Str×V)}{f:Str}{v:V}{A:Around}{E:oT}
theorem Ds {b:Bool}{Q:oT}(I:Inv X AF σ H s)(e:H a=some (.ins C dx fs))(c:JA X.K C)(n:A6 X.K C f)(l:fs.lookup f=some v)
  (h:∀u s',Inv X AF σ H s'->RelV v u->Q u s'):wpAny (model X.prog X.w) A (getAttr (.ref a) f b) Q E s:=by
 obtain⟨mA,O,r,_,_,_⟩:=qX I.AW e
 obtain⟨u,hu,ru⟩:=C8.some_of (v:=v) (o:=mA f) (by rw[← l];exact r f)
 exact K1 I.Cs O (c.get f) c.hd n hu (Gb ru) (h u _ (I.tok _) ru)
theorem Du {m:Str}{g:Addr}{pl:Sem Bool}{Q:Value×List Value->Shared->Prop}(I:Inv X AF σ H s)(e:H a=some (.ins C dx fs))(c:JA X.K C)(k:Meth X.K C m g)(l:fs.lookup m=none)
  (h:Q (.ref g,[.ref a]) s):wpAny (model X.prog X.w) A (getMethod (.ref a) m pl) Q E s:=by
 obtain⟨mA,O,r,_,_,_⟩:=qX I.AW e
 have hn:mA m=none:=C8.none_of (by rw[← l];exact r m)
 exact Ib I.Cs O (c.get m) k.at_ k.fn hn h
theorem Dv {y:V}(I:Inv X AF σ H s)(e:H a=some (.ins C dx fs))(c:JA X.K C)(n:A6 X.K C f)(hl:fs.length < 1000)(ry:RelV y u)
  (h:∀s',Inv X AF σ (upd H a (.ins C dx (bY f y fs))) s'->Q () s'):wpAny (model X.prog X.w) A (setAttr (.ref a) f u) Q E s:=by
 obtain⟨mA,O,r,wi,_,ho⟩:=qX I.AW e
 have hz:(fs.map (·.1)).length<=sizeLine:=by rw[aI,i9];omega
 refine K3 I.Cs O c.sa c.po n.VJ c.hd wi hz λh' O' sb=>h _ ?_
 have hd:∃o,h'.get? dx=some o:=let ⟨o,_,_,e',_⟩:=O'.ns;⟨o,e'⟩
 refine I.write (x:=a) (e:=dx) (by rw[e];exact fE) (.inr ho) (λb q hb z=>(sb.2 b hb).trans z) hd ?_
 refine⟨by rw[ao O.ne];exact ho,?_,O.ne,O'.obj,_,O'.ns,λg=>?_,λg hg=>?_⟩
 ·have:=rY f y fs;omega
 ·show C8 ((bY f y fs).lookup g) (if g=f then some u else mA g)
  rw[rW]
  by_cases q:g=f
  ·rw[bd q,bd q];exact ry
  ·rw[ax q,ax q];exact r g
 ·by_cases q:g=f
  ·rw[q];exact(p6 f y fs).1
  ·refine(p6 f y fs).2 g (wi g λz=>hg ?_)
   show (if g=f then some u else mA g)=none
   rw[ax q];exact z
theorem Inv.made (I:Inv X AF σ H s):Inv X AF σ (upd (upd H s.heap.objs.size (.own (s.heap.objs.size+1))) (s.heap.objs.size+1) (.ins C s.heap.objs.size []))
  { s with heap:=(s.heap.push W.emptyDict).push (W.instObj C s.heap.objs.size) }:=by
 have e1:(s.heap.push W.emptyDict).get? s.heap.objs.size=some W.emptyDict:=am s.heap rfl
 have e2:((s.heap.push W.emptyDict).push (W.instObj C s.heap.objs.size)).get? (s.heap.objs.size+1)=some (W.instObj C s.heap.objs.size):=by
  have:=am (s.heap.push W.emptyDict) (o:=W.instObj C s.heap.objs.size) rfl
  rwa [cK] at this
 have e3:(s.heap.push W.emptyDict).Ns s.heap.objs.size (λ_=>none):=⟨W.emptyDict,#[],_,e1,rfl,(λe he=>absurd he (by simp)),λ_=>rfl⟩
 have I1:=I.laid (a:=s.heap.objs.size) (o:=.own (s.heap.objs.size+1)) (h':=s.heap.push W.emptyDict) (t':=s.toks) (λb u q=>ac _ q) (aw _) ⟨_,e1⟩
 refine I1.laid (a:=s.heap.objs.size+1) (o:=.ins C s.heap.objs.size []) (t':=s.toks) (λb u q=>ac _ q) (Nat.le_of_eq (cK _ _)) ?_
 have ne:s.heap.objs.size≠s.heap.objs.size+1:=bg (g0 _)
 refine⟨by rw[ao ne,az],ce _,ne,e2,λ_=>none,(Heap.Ns1.of_empty e3).at λo q=>ac _ q,λ_=>fE,λy hy=>absurd rfl hy⟩
theorem K4 {prog:Program}{env:Env}{f:Str}{s:Shared}{Q:oT}(hb:attributeBase e f env (eval e env)=eval e env)
  (h:wpAny (model prog w) A (eval e env) (λo s₁=>wpAny (model prog w) A (getAttr o f true) Q E s₁) E s):wpAny (model prog w) A (eval (.Attribute e f pos) env) Q E s:=
 Attribute_any_ h (by rw[arm_eval_Attribute,hb])
end
def iY (K:W.Frag)(ta:TE)(f:Str):TE:=fun σ H Q=>ta σ H λx H1=>∃a C dx fs v,x=.ref a/\H1 a=some (.ins C dx fs)/\JA K C/\A6 K C f/\fs.lookup f=some v/\Q v H1
def p_ (K:W.Frag)(ta tv:TE)(f:Str):TS:=λD σ H=>tv σ H λy H1=>ta σ H1 λx H2=>∃a C dx fs,x=.ref a/\H2 a=some (.ins C dx fs)/\JA K C/\A6 K C f/\fs.length < 1000 /\
 D.nx σ (upd H2 a (.ins C dx (bY f y fs)))
section
variable {X:Cx}{o e value:Expr}{f:Str}{pos pos' tpos:Pos}{ta tv:TE}
theorem Gd (he:PE X e ta)(hb:attributeBase e f X.env (eval e X.env)=eval e X.env):PE X (.Attribute e f pos) (iY X.K ta f):=by
 intro AF s σ H Q I h
 refine K4 hb (AZ (he AF s σ H _ I h) ?_)
 rintro u s1 ⟨x,H1,I1,rx,a,C,dx,fs,v,ex,ea,c,n,l,q⟩
 subst ex
 obtain rfl:u=Value.ref a:=rx
 exact Ds I1 ea c n l λu' s2 I2 ru=>⟨v,H1,I2,ru,q⟩
theorem mV (ha:PE X o ta)(hv:PE X value tv)(hs:swapsWith value (some (.Attribute o f pos')) pos.line X.env=pure false):PS X (.Assign [.Attribute o f pos'] value pos) (p_ X.K ta tv f):=by
 intro AF s σ H D I h
 refine plainObj_wpAny_Assign_Attribute (AZ (hv AF s σ H _ I h) λu s1 ⟨y,H1,I1,ry,q⟩=>AZ (ha AF s1 σ H1 _ I1 q) ?_) hs
 rintro ov s2 ⟨x,H2,I2,rx,a,C,dx,fs,ex,ea,c,n,l,q2⟩
 subst ex
 obtain rfl:ov=Value.ref a:=rx
 exact Dv I2 ea c n l ry λs3 I3=>⟨σ,_,I3,q2⟩
end
section
variable {X:Cx}{AF:qq}{σ:St}{H:Hp}{s:Shared}{A:Around}{E:oT}{Q:oT}{c:Value}{b:Bool}
inductive DU (K:W.Frag) (H:Hp):V->Value->Prop where
 | AO:DU K H .AO (.type "NoneType")
 | bl (x:Bool):DU K H (.bl x) (.type "bool")
 | int (i:Int):DU K H (.int i) (.type "int")
 | str (x:Str):DU K H (.str x) (.type "str")
 | TK (x:UInt64):DU K H (.TK x) (.type "float")
 | lst {a:Addr}{xs:List V}(e:H a=some (.lst xs)):DU K H (.ref a) (.type "list")
 | frz {a:Addr}{o:Obj}{xs:List V}(e:H a=some (.frz o (.lst xs))):DU K H (.ref a) (.type "list")
 | tup {a:Addr}{xs:List V}(e:H a=some (.tup xs)):DU K H (.ref a) (.type "tuple")
 | CS {a:Addr}{xs:List V}(e:E9 K a xs):DU K H (.ref a) (.type "tuple")
 | dK {a:Addr}{kvs:List (Key×V)}(e:H a=some (.dK kvs)):DU K H (.ref a) (.type "dict")
 | dT {a:Addr}{kvs:List (List AG×V)}(e:H a=some (.dT kvs)):DU K H (.ref a) (.type "dict")
 | ins {a C dx:Addr}{fs:List (Str×V)}(e:H a=some (.ins C dx fs)) (cl:JA K C) (ha:W.findIn K (.ref C) "__class__" = some (some (.builtin "object.__class__")))
   (hn:W.specialIn K (.builtin "object.__class__") "__get__" = some (some (.builtin "getset_descriptor.__get__"))) (VL:W.takesIn K (.builtin "object.__class__")=some true)
   (hm:W.mroIn K C (.type "object")=some true):DU K H (.ref a) (.ref C)
theorem Ge {x:V}{t:Value}(I:Inv X AF σ H s)(rx:RelV x u)(ty:DU X.K H x t)(e:W.kitOne X.K t c=some b)(h:∀tk,Q (.bool b) { s with toks:=tk }):
  wpAny (model X.prog X.w) A (call (.builtin "isinstance") [u,c]) Q E s:=by
 cases ty with
 | AO=>cases (show u=Value.none from rx);exact eK W.kitx_none I.Cs fE e (λz=>nomatch z) h
 | bl y=>cases (show u=Value.bool y from rx);exact eK W.kitx_bool I.Cs fE e (λz=>nomatch z) h
 | int i=>obtain⟨t,q⟩:=(show ∃t,u=Value.int i t from rx);cases q;exact eK W.kitx_int I.Cs fE e (λz=>nomatch z) h
 | str y=>obtain⟨t,q⟩:=(show ∃t,u=Value.str y t from rx);cases q;exact eK W.kitx_str I.Cs fE e (λz=>nomatch z) h
 | TK y=>obtain⟨t,q⟩:=(show ∃t,u=Value.float y t from rx);cases q;exact eK W.kitx_float I.Cs fE e (λz=>nomatch z) h
 | @lst a xs ea=>
  cases (show u=Value.ref a from rx)
  obtain⟨_,_,n,_,h1⟩:=(show AR X.prog X.w X.K H s.heap a (.lst xs) from I.AW a _ ea)
  exact eK W.kitx_list I.Cs ⟨_,h1,rfl⟩ e (λz=>nomatch z) h
 | @frz a ob xs ea=>
  cases (show u=Value.ref a from rx)
  obtain⟨_,_,_,n,_,h1⟩:=(show AR X.prog X.w X.K H s.heap a (.frz ob (.lst xs)) from I.AW a _ ea)
  exact eK W.kitx_list I.Cs ⟨_,h1,rfl⟩ e (λz=>nomatch z) h
 | @tup a xs ea=>
  cases (show u=Value.ref a from rx)
  obtain⟨_,_,_,p⟩:=(show AR X.prog X.w X.K H s.heap a (.tup xs) from I.AW a _ ea)
  obtain⟨o,h1,h2,_⟩:=p
  exact eK W.kitx_tuple I.Cs ⟨o,h1,h2⟩ e (λz=>nomatch z) h
 | @CS a xs e1=>
  cases (show u=Value.ref _ from rx)
  obtain⟨o,AL,n,g1,g2,g3,_⟩:=e1
  exact eK W.kitx_tuple I.Cs ⟨o,I.Cs _ o g1,g2⟩ e (λz=>nomatch z) h
 | @dK a kvs ea=>
  cases (show u=Value.ref a from rx)
  obtain⟨_,_,vs,_,p⟩:=(show AR X.prog X.w X.K H s.heap a (.dK kvs) from I.AW a _ ea)
  obtain⟨o,es,ep,h1,h2,_⟩:=p
  exact eK W.kitx_dict I.Cs ⟨o,h1,h2.1⟩ e (λz=>nomatch z) h
 | @dT a kvs ea=>
  cases (show u=Value.ref a from rx)
  obtain⟨_,_,xs,_,o,es,ep,h1,h2,_⟩:=(show AR X.prog X.w X.K H s.heap a (.dT kvs) from I.AW a _ ea)
  exact eK W.kitx_dict I.Cs ⟨o,h1,h2.1⟩ e (λz=>nomatch z) h
 | @ins a C dx fs ea cl ha hn VL hm=>
  cases (show u=Value.ref a from rx)
  obtain⟨mA,O,_⟩:=qX I.AW ea
  obtain⟨od,J,_⟩:=O.look
  exact eK (W.kitx_own (cl.get _) cl.hd ha hn VL hm) I.Cs J e (λz=>nomatch z) h
end
structure A7 (k:Nat)(A:Around):Prop where
 hd:A.handled=none
 dp:A.depth+3*k+5 < recursionLimit
 un:A.units+16*k+200 < cLine
theorem A7.mono {j k:Nat}(r:A7 k A)(h:j<=k):A7 j A:=⟨r.hd,by have:=r.dp;omega,by have:=r.un;omega⟩
theorem A7.deeper {k:Nat}{A:Around}(r:A7 (k+1) A)(env:Env):A7 k (A.deeper env):=
 ⟨r.hd,by have:=r.dp;show A.depth+1+3*k+5 < _;omega,by have:=r.un;show A.units+3+16*k+200 < _;omega⟩
theorem Dw {C:Addr}:(A.under (.builtin "type.__call__" ⟨.ref C::us,kw⟩)).depth=A.depth+1:=by
 first | rfl | simp[Around.under,Code.weight,Code.isCreation,Code.isGuard,Code.isCaller,Code.frames,Code.isFrame,guardIds]
theorem Dy {C:Addr}:(A.under (.builtin "type.__call__" ⟨.ref C::us,kw⟩)).units=A.units+1:=by
 first | rfl | simp[Around.under,Code.cUnits,Code.frames,Code.isFrame]
theorem A7.make {k:Nat}(r:A7 (k+1) A)(C:Addr)(us:qv)(kw:List (Str×Value)):A7 k (A.under (.builtin "type.__call__" ⟨.ref C::us,kw⟩)):=
 ⟨r.hd,by have:=r.dp;rw[Dw];omega,by have:=r.un;rw[Dy];omega⟩
theorem A7.depth {k:Nat}{A:Around}(r:A7 k A):A.depth < recursionLimit:=by have:=r.dp;omega
theorem A7.units {k:Nat}{A:Around}(r:A7 k A):A.units+64 < cLine:=by have:=r.un;omega
def bw:TA:=λ_ H Q=>Q [] H
def aO (ta:TE)(tr:TA):TA:=fun σ H Q=>ta σ H λx H1=>tr σ H1 λxs H2=>Q (x::xs) H2
section
variable {X:Cx}{e:Expr}{es:qB}{te:TE}{t:TA}{pos:Pos}
theorem aN:PA X [] bw:=λ_ _ _ _ H Q I h=>jI ⟨[],H,I,.nil,h⟩
theorem aB (ha:PE X e te)(hr:PA X es t)(hs:starEach (e::es) X.env=(false,eval e X.env)::starEach es X.env:=by rfl):PA X (e::es) (aO te t):=by
 intro pos AF s σ H Q I h
 rw[hs]
 show wpAny _ _ (spliced ((false,eval e X.env)::backTo pos (starEach es X.env))) _ _ s
 refine hW (AZ (ha AF s σ H _ I h) ?_)
 rintro u s1 ⟨x,H1,I1,r1,q1⟩
 exact AZ (hr pos AF s1 σ H1 _ I1 q1) λus s2 ⟨xs,H2,I2,r2,q2⟩=>⟨x::xs,H2,I2,.cons r1 r2,q2⟩
def yO (t:TA):TE:=fun σ H Q=>t σ H λxs H1=>xs.length<=sizeLine/\∀p,H1 p=none->Q (.ref p) (upd H1 p (.tup xs))
def vN (t:TA):TE:=fun σ H Q=>t σ H λxs H1=>xs.length<=sizeLine/\∀p,H1 p=none->Q (.ref p) (upd H1 p (.lst xs))
theorem qb {x1}(h:PA X es t):PE X (.Tuple es x1 pos) (yO t):=by
 intro AF s σ H Q I hq
 refine wpAny_Tuple_spliced (AZ (h pos AF s σ H _ I hq) λus s1 ⟨xs,H1,I1,r,z,q⟩=>⟨by rw[← r.length];exact z,?_⟩)
 have hf:H1 s1.heap.objs.size=none:=I1.AW.fresh (aw _)
 refine⟨.ref s1.heap.objs.size,upd H1 s1.heap.objs.size (.tup xs),I1.laid (t':=s1.toks) (λb u e=>ac _ e) (aw _) ?_,rfl,q _ hf⟩
 exact⟨z,us,r,⟨_,am _ rfl,rfl,_,rfl,rfl⟩⟩
theorem qd (h:PA X es t):PE X (.List es pos) (vN t):=by
 intro AF s σ H Q I hq
 refine wpAny_List_spliced (AZ (h pos AF s σ H _ I hq) λus s1 ⟨xs,H1,I1,r,z,q⟩=>⟨by rw[← r.length];exact z,?_⟩)
 have hf:H1 s1.heap.objs.size=none:=I1.AW.fresh (aw _)
 refine⟨.ref s1.heap.objs.size,upd H1 s1.heap.objs.size (.lst xs),I1.laid (t':=s1.toks) (λb u e=>ac _ e) (aw _) ?_,rfl,q _ hf⟩
 exact⟨z,us,0,r,am _ rfl⟩
end
abbrev Sp:=List V->Hp->VK->XK->Prop
abbrev MD:=List Env->Hp->Shared->XK->Value->Shared->Prop
structure JJ (P:Program)(w:World)(K:W.Frag)(mg:Str->Option Value)(base:Heap)(A:Around)(outer:List Env)(s:Shared)(H:Hp):Prop where
 frames:A.frames=some outer
 mod:Mod K mg base
 bs:∀b o,base.get? b=some o->s.heap.get? b=some o/\H b=none
 Po:base.objs.size<=s.heap.objs.size
 Fc:s.heap.FunFrames base outer
 TU:∀b∈Mb outer,H b=none
 AW:Dx P w K H s.heap
 bare:AllBare s.gens
def CE (outer:List Env)(P:Program)(w:World)(K:W.Frag)(H:Hp)(s:Shared)(Q:VK)(u:Value)(s':Shared):Prop:=
 ∃v H',s'.os=s.os/\AllBare s'.gens/\Un (Mb outer) [] H H' s.heap s'.heap/\Dx P w K H' s'.heap/\RelV v u/\Q v H'
def CR (CX:MD)(outer:List Env)(P:Program)(w:World)(K:W.Frag)(H:Hp)(s:Shared)(Q:VK)(E:XK)(r:Result)(s':Shared):Prop:=
 match r with
 | .ok (.ret u)=>CE outer P w K H s Q u s'
 | .ok _=>False
 | .error e=>CX outer H s E e s'
structure BF (P:Program)(w:World)(K:W.Frag)(mg:Str->Option Value)(base:Heap)(CX:MD)(k:Nat)(f:Addr)(fd:FuncData)(ps:qE)(sp:Sp):Prop where
 len:∀vs H Q E,sp vs H Q E->vs.length=ps.length
 run:∀(A:Around) (outer:List Env) (s:Shared) (H:Hp) (args:Args) (us:qv) (vs:List V) (Q:VK) (E:XK),A7 k A->JJ P w K mg base A outer s H->BindsTo s fd args (ps.zip us)->Vals vs us->sp vs H Q E->
  codeAny (model P w) A (.call (.ref f) args) (CR CX outer P w K H s Q E) s
variable {mg:Str->Option Value}
theorem BF.imp {base:Heap}{CX:MD}{k:Nat}{f:Addr}{fd:FuncData}{ps:qE}{sp sp':Sp}(F:BF P w K mg base CX k f fd ps sp)
  (h:∀vs H Q E,sp' vs H Q E->sp vs H Q E):BF P w K mg base CX k f fd ps sp':=
 ⟨λvs H Q E q=>F.len vs H Q E (h _ _ _ _ q),λA outer s H args us vs Q E hr he hb hv hs=>F.run A outer s H args us vs Q E hr he hb hv (h _ _ _ _ hs)⟩
theorem JJ.make {base:Heap}{outer:List Env}(e:JJ P w K mg base A outer s H)(C:Addr)(us:qv)(kw:List (Str×Value)):
  JJ P w K mg base (A.under (.builtin "type.__call__" ⟨.ref C::us,kw⟩)) outer s H:=⟨by first | exact e.frames | (simpa [Around.under,Code.envs,Code.isFrame,pushEnvs] using e.frames),e.mod,e.bs,e.Po,e.Fc,e.TU,e.AW,e.bare⟩
section
variable {X:Cx}{AF:qq}{σ:St}{H:Hp}{s s':Shared}
theorem Inv.VM (I:Inv X AF σ H s):JJ X.prog X.w X.K X.mg X.base X.A X.stack s H:=
 ⟨I.ok.frames,I.ok.mod,I.bs,dP I.ok.Po I.sz,I.stack,I.KS,I.AW,I.bare⟩
theorem Inv.after {Q:VK}(I:Inv X AF σ H s)(h:CE X.stack X.prog X.w X.K H s Q u s'):EP X AF σ Q u s':=by
 obtain⟨v,H',os,bare,un,AW,r,q⟩:=h
 obtain⟨hh,g,d,t,os'⟩:=s'
 obtain rfl:os'=s.os:=os
 exact⟨v,H',I.call (h':=hh) (g':=g) (d':=d) (t':=t) (ch:=[]) un AW bare (λb z=>absurd z (by simp)),r,q⟩
end
def fM (sp:Sp)(GU:List V)(E:XK)(t:TA):TE:=fun σ H Q=>t σ H λvs H1=>sp (vs++GU) H1 Q E
def jU (C:Addr)(m:Str)(sp:Sp)(GU:List V)(E:XK)(ta:TE)(t:TA):TE:=fun σ H Q=>ta σ H λx H1=>∃a dx fs,x=.ref a/\H1 a=some (.ins C dx fs)/\fs.lookup m=none /\
 t σ H1 λvs H2=>sp (x::(vs++GU)) H2 Q E
def uw (C:Addr)(sp:Sp)(GU:List V)(E:XK)(t:TA):TE:=fun σ H Q=>t σ H λvs H1=>∀x dx,H1 x=none->H1 dx=none->dx≠x->
 sp (.ref x::(vs++GU)) (upd (upd H1 dx (.own x)) x (.ins C dx [])) (λv H2=>v=.AO/\Q (.ref x) H2) E
def Binds (K:W.Frag)(fd:FuncData)(ps:qE)(ds:qv):Prop:=
 ∀(s:Shared) (us:qv),K.In s.heap->(us++ds).length=ps.length->BindsTo s fd ⟨us,[]⟩ (ps.zip (us++ds))
theorem Binds.all {fd:FuncData}{ps:qE}(h:∀us:List Value,us.length=ps.length->bindArgs fd ⟨us,[]⟩=pure (ps.zip us)):Binds K fd ps []:=λs us _ hl=>by
 rw[bE] at hl ⊢
 exact .of_eq (h us hl)
def mW (CX:MD)(X:Cx)(E:XK):Prop:=∀(AF:qq) (σ:St) (H:Hp) (s:Shared) (e:Value) (s':Shared),Inv X AF σ H s->CX X.stack H s E e s'->X.xe e s'
section
variable {X:Cx}{CX:MD}{k:Nat}{f C:Addr}{fd:FuncData}{ps:qE}{sp:Sp}{GU:List V}{ds:qv}{E:XK}{x m:Str}{p pos apos:Pos}{e o:Expr}{es:qB}{ta:TE}{t:TA}
theorem yP {Q:VK}{vs:List V}(F:BF X.prog X.w X.K X.mg X.base CX k f fd ps sp)(hr:A7 k X.A)(hb:Binds X.K fd ps ds)(hd:Vals GU ds)(hx:mW CX X E)
  (I:Inv X AF σ H s) (r:Vals vs us) (h:sp (vs++GU) H Q E):wpAny (model X.prog X.w) X.A (call (.ref f) us) (EP X AF σ Q) X.xe s:=by
 have r2:Vals (vs++GU) (us++ds):=r.append hd
 have hl:(us++ds).length=ps.length:=by rw[← r2.length];exact F.len _ _ _ _ h
 refine wpAny_call (ml (F.run X.A X.stack s H ⟨us,[]⟩ (us++ds) (vs++GU) Q E hr I.VM (hb s us I.Cs hl) r2 h) λr s' hq=>?_)
 cases r with
 | error e=>exact hx AF σ H s e s' I hq
 | ok fl=>
  cases fl with
  | ret u=>exact I.after hq
  | next=>exact False.elim hq
  | brk=>exact False.elim hq
  | cont=>exact False.elim hq
theorem K5 (F:BF X.prog X.w X.K X.mg X.base CX k f fd ps sp)(hr:A7 k X.A)(hg:Gl X x)(hm:X.mg x=some (.ref f))(hk:W.keepIn X.K (.ref f)=true)(hb:Binds X.K fd ps ds)(hd:Vals GU ds)(hx:mW CX X E)
  (ha:PA X (e::es) t) (GV:(x == ("__debug__" : Str))=false:=by decide) (he:starEach (e::es) X.env=(false,eval e X.env)::starEach es X.env:=by rfl) (BO:(backTo pos (starEach es X.env)).any (·.1)=false:=by rfl):
  PE X (.Call (.Name x p) (e::es) [] pos) (fM sp GU E t):=by
 intro AF s σ H Q I h
 refine fF (vI I hg hm ?_ GV)
 refine kF (h₀:=X.base) I.ok.mod.EN hk (AZ (ha pos AF s σ H _ I h) λus s1 ⟨vs,H1,I1,r,q⟩=>⟨I1.Cs,?_⟩) he BO
 exact yP F hr hb hd hx I1 r q
theorem Cj {pl:Sem Bool}(he:PE X o ta)(c:JA X.K C)(hm:Meth X.K C m f)(F:BF X.prog X.w X.K X.mg X.base CX k f fd ps sp)(hr:A7 k X.A)(hb:Binds X.K fd ps ds)(hd:Vals GU ds)(hx:mW CX X E)(ha:PA X (e::es) t)
  (D5:starEach (e::es) X.env=(false,eval e X.env)::starEach es X.env:=by rfl) (BO:(backTo pos (starEach es X.env)).any (·.1)=false:=by rfl)
  (ht:eval (.Call (.Attribute o m apos) (e::es) [] pos) X.env=(do
   let ov ← eval o X.env
   standAt apos.atName
   let (f,first) ← holding [ov] (getMethod ov m pl)
   callWith pos f first (backTo pos (starEach (e::es) X.env)) (backToKw pos (keywordEach [] X.env))):=by rfl):
  PE X (.Call (.Attribute o m apos) (e::es) [] pos) (jU C m sp GU E ta t):=by
 intro AF s σ H Q I h
 refine W.methodCall_KW (pl:=pl) (AZ (he AF s σ H _ I h) ?_) ht
 rintro u s1 ⟨x,H1,I1,rx,a,dx,fs,ex,ea,l,q⟩
 subst ex
 obtain rfl:u=Value.ref a:=rx
 refine Du I1 ea c hm l ?_
 refine kF (first:=[.ref a]) (h₀:=X.base) I.ok.mod.EN hm.kp (AZ (ha pos AF s1 σ H1 _ I1 q) λus s2 ⟨vs,H2,I2,r,q2⟩=>⟨I2.Cs,?_⟩) D5 BO
 exact yP (us:=.ref a::us) (vs:=.ref a::vs) F hr hb hd hx I2 (.cons rfl r) q2
structure Mk (K:W.Frag)(C f:Addr):Prop where
 makes:W.makesIn K C=true
 init:W.findIn K (.ref C) "__init__" = some (some (.ref f))
 fn:W.isFn K (.ref f)=true
 kp:W.keepIn K (.ref C)=true
theorem Ig {Q:VK}{vs:List V}(M:Mk X.K C f)(F:BF X.prog X.w X.K X.mg X.base CX k f fd ps sp)(hr:A7 (k+1) X.A)(hb:Binds X.K fd ps ds)(hd:Vals GU ds)
  (hx:mW CX X E) (I:Inv X AF σ H s) (r:Vals vs us)
  (h:∀x dx,H x=none->H dx=none->dx≠x->sp (.ref x::(vs++GU)) (upd (upd H dx (.own x)) x (.ins C dx [])) (λv H2=>v=.AO/\Q (.ref x) H2) E):
  wpAny (model X.prog X.w) X.A (call (.ref C) us) (EP X AF σ Q) X.xe s:=by
 have hq:=h (s.heap.objs.size+1) s.heap.objs.size (I.AW.fresh (iL _)) (I.AW.fresh (aw _)) (bg (g0 _))
 have I2:=Inv.made (C:=C) I
 have r2:Vals (V.ref (s.heap.objs.size+1)::(vs++GU)) (Value.ref (s.heap.objs.size+1)::(us++ds)):=.cons rfl (r.append hd)
 have hl:(Value.ref (s.heap.objs.size+1)::us++ds).length=ps.length:=by
  have e:=r2.length
  rw[F.len _ _ _ _ hq] at e
  exact e.symm
 refine wpAny_call (Ie (f:=f) I.Cs M.makes M.init (kD.mp M.fn) (ml (F.run _ X.stack _ _ ⟨Value.ref (s.heap.objs.size+1)::us,[]⟩ (Value.ref (s.heap.objs.size+1)::(us++ds)) _ _ E (hr.make C us [])
  (I2.VM.make C us []) (hb _ (Value.ref (s.heap.objs.size+1)::us) I2.Cs hl) r2 hq) λr s' L3=>?_))
 cases r with
 | error e=>exact hx AF σ _ _ e s' I2 L3
 | ok fl=>
  cases fl with
  | ret u=>
   obtain⟨v,H',I3,rv,ev,q3⟩:=I2.after L3
   subst ev
   exact⟨rv,⟨V.ref (s.heap.objs.size+1),H',I3,rfl,q3⟩⟩
  | next=>exact False.elim L3
  | brk=>exact False.elim L3
  | cont=>exact False.elim L3
theorem K6 (M:Mk X.K C f)(F:BF X.prog X.w X.K X.mg X.base CX k f fd ps sp)(hr:A7 (k+1) X.A)(hg:Gl X x)(hm:X.mg x=some (.ref C))(hb:Binds X.K fd ps ds)(hd:Vals GU ds)(hx:mW CX X E)
  (ha:PA X (e::es) t) (GV:(x == ("__debug__" : Str))=false:=by decide) (he:starEach (e::es) X.env=(false,eval e X.env)::starEach es X.env:=by rfl) (BO:(backTo pos (starEach es X.env)).any (·.1)=false:=by rfl):
  PE X (.Call (.Name x p) (e::es) [] pos) (uw C sp GU E t):=by
 intro AF s σ H Q I h
 refine fF (vI I hg hm ?_ GV)
 refine kF (h₀:=X.base) I.ok.mod.EN M.kp (AZ (ha pos AF s σ H _ I h) λus s1 ⟨vs,H1,I1,r,q⟩=>⟨I1.Cs,?_⟩) he BO
 exact Ig M F hr hb hd hx I1 r q
end
structure AN (N P:qE)(sc:Scope):Prop where
 kind:sc.kind=.function
 co:sc.isCoroutine=false
 gen:sc.isGenerator=false
 nd:N.Nodup
 pre:N.take P.length=P
 par:∀x∈P,sc.names.lookup x=some .local\/sc.names.lookup x=some .cell
 Ud:∀y∈sc.names,y.2≠.free
theorem wZ {kindOf:Str->Option NameKind}{x:Str}:∀{binds:List (Str×Value)}{m:Str->Option Value},(∀v,(x,v)∉binds)->bindL kindOf binds m x=m x
 | [],_,_=>rfl
 | (n,v)::r,m,h=>by
  unfold bindL
  rw[wZ λw hw=>h w (al _ hw)]
  split
  ·have:x≠n:=by rintro rfl;exact h v ar
   simp[this]
  ·rfl
theorem w5 {kindOf:Str->Option NameKind}{x:Str}:∀{binds:List (Str×Value)}{m:Str->Option Value},(∀v,(x,v)∉binds)->bindC kindOf binds m x=m x
 | [],_,_=>rfl
 | (n,v)::r,m,h=>by
  unfold bindC
  rw[w5 λw hw=>h w (al _ hw)]
  split
  ·rfl
  ·have:x≠n:=by rintro rfl;exact h v ar
   simp[this]
theorem w6 {kindOf:Str->Option NameKind}{x:Str}{v:Value}:∀{P:qE}{vs:qv}{i:Nat}{m:Str->Option Value},P.Nodup->P[i]?=some x->vs[i]?=some v->kindOf x=some .local->
  bindL kindOf (P.zip vs) m x=some v
 | [],_,_,_,_,h,_,_=>by simp at h
 | _::_,[],_,_,_,_,h,_=>by simp at h
 | p::P,w::vs,0,m,nd,h1,h2,hk=>by
  simp at h1 h2;subst h1;subst h2
  show bindL kindOf ((p,w)::P.zip vs) m p=_
  unfold bindL
  rw[wZ λv hv=>(l4.mp nd).1 (pi hv).1,bd hk]
  simp
 | p::P,w::vs,i+1,m,nd,h1,h2,hk=>by
  show bindL kindOf ((p,w)::P.zip vs) m x=_
  unfold bindL
  exact w6 (i:=i) (l4.mp nd).2 (by simpa using h1) (by simpa using h2) hk
theorem xf {kindOf:Str->Option NameKind}{x:Str}{v:Value}:∀{P:qE}{vs:qv}{i:Nat}{m:Str->Option Value},P.Nodup->P[i]?=some x->vs[i]?=some v->kindOf x≠some .local->
  bindC kindOf (P.zip vs) m x=some v
 | [],_,_,_,_,h,_,_=>by simp at h
 | _::_,[],_,_,_,_,h,_=>by simp at h
 | p::P,w::vs,0,m,nd,h1,h2,hk=>by
  simp at h1 h2;subst h1;subst h2
  show bindC kindOf ((p,w)::P.zip vs) m p=_
  unfold bindC
  rw[w5 λv hv=>(l4.mp nd).1 (pi hv).1,ax hk]
  simp
 | p::P,w::vs,i+1,m,nd,h1,h2,hk=>by
  show bindC kindOf ((p,w)::P.zip vs) m x=_
  unfold bindC
  exact xf (i:=i) (l4.mp nd).2 (by simpa using h1) (by simpa using h2) hk
def start (N:qE)(vs:List V):St:=vs.map some++List.replicate (N.length - vs.length) none
def sJ (CX:MD)(P:Program)(w:World)(K:W.Frag)(mg:Str->Option Value)(base:Heap)(N:qE)(qual:Str)(scope:Scope)(f:Addr)(cd:Value)(A:Around)(outer:List Env)(s:Shared)(H:Hp)(E:XK):Cx where
 prog:=P
 w:=w
 K:=K
 mg:=mg
 base:=base
 A:=A.deeper (envOfC qual scope s.heap.objs.size f cd)
 N:=N
 s₀:=s
 H₀:=H
 env:=envOfC qual scope s.heap.objs.size f cd
 outer:=outer
 stack:=envOfC qual scope s.heap.objs.size f cd::outer
 ex:=[]
 calm:=true
 fn:=λ_=>true
 pn:=[]
 xe:=λe s'=>wpAny (model P w) (A.deeper (envOfC qual scope s.heap.objs.size f cd)) (leaving (envOfC qual scope s.heap.objs.size f cd) e) (λ_ Yx=>CX outer H s E e Yx) (λe' Yx=>CX outer H s E e' Yx) s'
theorem yQ {sc:Scope}{n:Nat}(h:sc.names.lookup x=some .cell):∃c,(cellsFrom n sc.names []).lookup x=some c:=by
 have q:=oI sc.names n [] (.inl h)
 exact nN.mp q
theorem Gg {CX:MD}{base:Heap}{N ps:qE}{qual:Str}{scope:Scope}{f:Addr}{cd:Value}{outer:List Env}{s1:Shared}{E:XK}{vs:List V}
  (S:AN N ps scope) (hd:A.handled=none) (e0:JJ P w K mg base A outer s H) (hl:vs.length=ps.length) (r:Vals vs us)
  (x:InCallC s s.heap.objs.size (bindL (envOfC qual scope s.heap.objs.size f cd).kindOf (ps.zip us) λ_=>none) (cellsFrom (s.heap.objs.size+1) scope.names []) (bindC (envOfC qual scope s.heap.objs.size f cd).kindOf (ps.zip us) λ_=>none) s1):
  Inv (sJ CX P w K mg base N qual scope f cd A outer s H E) [] (start N vs) H s1:=by
 have BO:ps.length<=N.length:=by have:=dL List.length S.pre;rw[g6] at this;omega
 obtain⟨h1,tk,rfl,hk⟩:=x.done
 have VN:∀b:Addr,b∉(sJ CX P w K mg base N qual scope f cd A outer s H E).ex:=λb z=>absurd (show b∈([]:qV) from z) (by simp)
 refine⟨⟨e0.mod,S.kind,rfl,rfl,aw _,λy z c h1 h2=>?_,λy hy=>?_,λy c _ h=>?_,λ_=>hd,Around.frames_deeper e0.frames,.inr ⟨rfl,rfl⟩,λb z=>absurd z (VN b),e0.bs,e0.Po,λb _ _=>VN b,λb z=>absurd z (VN b),e0.Fc,e0.TU⟩,
  rfl,e0.bare,Un.kept hk,⟨_,x.toInCall.ns,λi y v h1 h2 h3=>?_⟩,λy c h=>⟨_,x.cell y c h⟩,e0.AW.fresh (aw _),λy c h=>?_,λp hp=>absurd (show p∈([]:qq) from hp) (by simp),e0.AW.kept hk,?_⟩
 ·exact name_of_addr x.apart (PySem.mem_of_lookup h1) (PySem.mem_of_lookup h2)
 ·have hy:scope.names.lookup y=some .cell\/scope.names.lookup y=some .free:=hy
  rcases hy with hy | hy
  ·exact yQ hy
  ·exact absurd rfl (S.Ud _ (PySem.mem_of_lookup hy))
 ·exact gt (x.above y c (PySem.mem_of_lookup h))
 ·have hi:i < vs.length:=by
   unfold start at h2
   by_cases hi:i < vs.length
   ·exact hi
   ·rw[hZ (by simpa using hi)] at h2
    rw[oj] at h2
    split at h2 <;> cases h2
  have ha:vs[i]?=some v:=by
   unfold start at h2
   rw[d0 (by simpa using hi),cp] at h2
   cases e:vs[i]? with
   | none=>rw[e] at h2;cases h2
   | some a=>rw[e] at h2;cases h2;rfl
  obtain⟨u,hu,rv⟩:=r.get ha
  have hp:ps[i]?=some y:=by
   rw[← S.pre,List.getElem?_take_of_lt (by omega)];exact h1
  have B5:ps.Nodup:=by rw[← S.pre];exact S.nd.sublist (List.take_sublist _ _)
  refine⟨u,rv,?_⟩
  rcases S.par y (dn hp) with k | k
  ·exact .inl ⟨k,w6 B5 hp hu k⟩
  ·obtain⟨c,e⟩:=yQ (n:=s.heap.objs.size+1) k
   refine .inr ⟨.inl k,c,e,?_⟩
   have q:=x.cell y c e
   rw[xf B5 hp hu (by show scope.names.lookup y≠_;rw[k];decide)] at q
   exact q
 ·exact e0.AW.fresh (gt (x.above y c (PySem.mem_of_lookup h)))
 ·unfold start
  show _=N.length
  rw[bo,aI,pp]
  omega
theorem Q7 {CX:MD}{base:Heap}{k:Nat}{f:Addr}{name qual:Str}{params:Arguments}{body:qA}{scope:Scope}{dV kV doc pm DB ct oc:Value}{an od:Option Addr}
  {Sj:Array (Option Value)}{N ps:qE}{sp:Sp}(lk:K.lookup f=some ⟨oc,od,.func (W.fnOf name qual params body scope dV kV doc pm an DB ct),Sj⟩) (EI:W.codeIn K DB qual=true) (S:AN N ps scope)
  (len:∀vs H Q E,sp vs H Q E->vs.length=ps.length)
  (ME:∀(A:Around) (outer:List Env) (s:Shared) (H:Hp) (vs:List V) (Q:VK) (E:XK),A7 k (A.deeper (envOfC qual scope s.heap.objs.size f DB))->sp vs H Q E->
   ∃t,F0 (sJ CX P w K mg base N qual scope f DB A outer s H E) body t/\t { nx:=λ_ H'=>Q .AO H',rt:=Q } (start N vs) H):
  BF P w K mg base CX (k+1) f (W.fnOf name qual params body scope dV kV doc pm an DB ct) ps sp:=by
 refine⟨len,λA outer s H args us vs Q E hr e0 hb r Sk=>?_⟩
 have hl:=len _ _ _ _ Sk
 have KX:K.In s.heap:=e0.mod.EN.keeps λb o e=>(e0.bs b o e).1
 have lim:s.heap.NoLimit:=e0.mod.nolimit.keeps λb o e=>(e0.bs b o e).1
 have VO:∀y∈ps.zip us,scope.names.lookup y.1=some .local\/(scope.names.lookup y.1=some .cell/\((cellsFrom (s.heap.objs.size+1) scope.names []).lookup y.1).isSome=true):=by
  rintro ⟨n,v⟩ hy
  rcases S.par n (pi hy).1 with q | q
  ·exact .inl q
  ·exact .inr ⟨q,oI _ _ _ (.inl q)⟩
 refine codeAny_call_function hr.depth (KX _ _ lk) rfl S.co S.gen rfl (W.codeRec_of KX EI) (hb _ _ _ _ ?_)
 refine wpAny_newFunctionEnv_cells S.kind VO λenv he s1 x=>?_
 subst he
 refine⟨lim.keeps x.toInCall.keep,codeAny_func ?_⟩
 obtain⟨t,ht,hq⟩:=ME A outer s H vs Q E (hr.deeper _) Sk
 have I:Inv (sJ CX P w K mg base N qual scope f DB A outer s H E) [] (start N vs) H s1:=Gg S hr.hd e0 hl r x
 refine fA (ht [] s1 (start N vs) H _ I hq) (λfl s' hs=>?_) λe s' hs=>hs
 have fin:∀{σ':St}{H':Hp}{v:V}{u:Value},Inv (sJ CX P w K mg base N qual scope f DB A outer s H E) [] σ' H' s'->RelV v u->Q v H'->CE outer P w K H s Q u s':=
  λ{σ' H' v u} J rv q=>⟨v,H',J.os,J.bare,J.base,J.AW,rv,q⟩
 cases fl with
 | ret u=>
  obtain⟨v,σ',H',J,rv,q⟩:=hs
  exact fin J rv q
 | next=>
  obtain⟨σ',H',J,q⟩:=hs
  exact fin (v:=V.AO) (u:=Value.none) J rfl q
 | brk=>
  obtain⟨_,_,_,q⟩:=hs
  exact False.elim q
 | cont=>
  obtain⟨_,_,_,q⟩:=hs
  exact False.elim q
section
variable {X:Cx}{x:Str}{p pos:Pos}{e:Expr}{es:qB}{t:TA}{id T:String}{r:List V->Hp->VK->Prop}
def L4 (r:List V->Hp->VK->Prop)(t:TA):TE:=fun σ H Q=>t σ H λvs H1=>r vs H1 Q
theorem dw (hc:BN X (.builtin id) r)(hg:Gl X x)(hm:X.mg x=none)(hv:bootBuiltins x=some (.builtin id))(ha:PA X (e::es) t)(hn:x ≠ "__name__" := by decide)(GV:(x == ("__debug__" : Str))=false:=by decide)
  (he:starEach (e::es) X.env=(false,eval e X.env)::starEach es X.env:=by rfl) (BO:(backTo pos (starEach es X.env)).any (·.1)=false:=by rfl):PE X (.Call (.Name x p) (e::es) [] pos) (L4 r t):=by
 intro AF s σ H Q I h
 refine fF (d7 I hg hm hv ?_ hn GV)
 exact PyProof.Rows.callWith_builtin1 (AZ (ha pos AF s σ H _ I h) λus s1 ⟨vs,H1,I1,r1,q1⟩=>hc AF s1 σ H1 vs us Q I1 r1 q1) he BO
theorem xg (hc:BN X (.type T) r)(hg:Gl X x)(hm:X.mg x=none)(hv:bootBuiltins x=some (.type T))(ha:PA X (e::es) t)(hn:x ≠ "__name__" := by decide)(GV:(x == ("__debug__" : Str))=false:=by decide)
  (he:starEach (e::es) X.env=(false,eval e X.env)::starEach es X.env:=by rfl) (BO:(backTo pos (starEach es X.env)).any (·.1)=false:=by rfl):PE X (.Call (.Name x p) (e::es) [] pos) (L4 r t):=by
 intro AF s σ H Q I h
 refine fF (d7 I hg hm hv ?_ hn GV)
 exact b0 (AZ (ha pos AF s σ H _ I h) λus s1 ⟨vs,H1,I1,r1,q1⟩=>hc AF s1 σ H1 vs us Q I1 r1 q1) he BO
end
section
variable {κ:Type}[DecidableEq κ]
noncomputable def cB (kvs:List (κ×V))(k:κ):Option V:=(kvs.find? λkv=>decide (kv.1=k)).map (·.2)
noncomputable def putK (kvs:List (κ×V))(k:κ)(v:V):List (κ×V):=
 if (kvs.any λkv=>decide (kv.1=k))=true then kvs.map (λkv=>if kv.1=k then (kv.1,v) else kv) else kvs++[(k,v)]
theorem cQ {p:κ×V}{r:List (κ×V)}{k:κ}(e:p.1=k):cB (p::r) k=some p.2:=by simp[cB,gz,e]
theorem cR {p:κ×V}{r:List (κ×V)}{k:κ}(e:¬ p.1=k):cB (p::r) k=cB r k:=by simp[cB,gz,e]
theorem oA (k:κ):∀kvs:List (κ×V),(kvs.any λkv=>decide (kv.1=k))=(cB kvs k).isSome
 | []=>rfl
 | p::r=>by
  rw[fw]
  by_cases e:p.1=k
  ·simp only[cQ e,hV e,Bool.true_or,Option.isSome_some]
  ·rw[cR e,de e,Bool.false_or];exact oA k r
theorem yR (k j:κ)(y:V):∀kvs:List (κ×V),cB (kvs.map λkv=>if kv.1=k then (kv.1,y) else kv) j=(cB kvs j).map λx=>if j=k then y else x
 | []=>rfl
 | p::r=>by
  have ih:=yR k j y r
  rw[a0]
  by_cases h:p.1=k
  ·rw[bd h]
   by_cases e:p.1=j
   ·rw[cQ (p:=(p.1,y)) e,cQ e,iq,bd (e.symm.trans h)]
   ·rw[cR (p:=(p.1,y)) e,cR e,ih]
  ·rw[ax h]
   by_cases e:p.1=j
   ·rw[cQ (p:=p) e,cQ e,iq,ax (λz=>h (e.trans z))]
   ·rw[cR (p:=p) e,cR e,ih]
theorem xj (k j:κ)(y:V):∀kvs:List (κ×V),cB kvs k=none->cB (kvs++[(k,y)]) j=if j=k then some y else cB kvs j
 | [],_=>by
  by_cases e:k=j
  ·rw[bd e.symm];exact cQ (p:=(k,y)) e
  ·rw[ax (λz=>e z.symm)];exact cR (p:=(k,y)) e
 | p::r,hn=>by
  rw[g9]
  have hk:¬ p.1=k:=λz=>by rw[cQ z] at hn;cases hn
  rw[cR hk] at hn
  have ih:=xj k j y r hn
  by_cases e:p.1=j
  ·rw[cQ e,cQ e,ax (λz=>hk (e.trans z))]
  ·rw[cR e,cR e,ih]
theorem yS (kvs:List (κ×V))(k j:κ)(y:V):cB (putK kvs k y) j=if j=k then some y else cB kvs j:=by
 unfold putK
 by_cases a:(kvs.any λkv=>decide (kv.1=k))=true
 ·rw[bd a,yR]
  rw[oA] at a
  by_cases e:j=k
  ·obtain⟨x,hx⟩:=nN.mp a
   rw[bd e,e,hx,iq,bd rfl]
  ·rw[ax e]
   cases cB kvs j with
   | none=>rfl
   | some x=>rw[iq,ax e]
 ·rw[ax a]
  refine xj k j y kvs ?_
  rw[oA] at a
  cases q:cB kvs k with
  | none=>rfl
  | some x=>rw[q] at a;exact(a rfl).elim
theorem rZ (kvs:List (κ×V))(k:κ)(v:V):(putK kvs k v).length<=kvs.length+1:=by
 unfold putK
 split
 ·rw[aI];omega
 ·rw[bo,bv,l5];omega
theorem C8.EO {o:Option V}{u:Option Value}(r:C8 o u):o.isSome=u.isSome:=by
 cases o with
 | none=>cases u with
  | none=>rfl
  | some _=>exact(show False from r).elim
 | some _=>cases u with
  | none=>exact(show False from r).elim
  | some _=>rfl
theorem C8.getD {o:Option V}{u:Option Value}{d:V}{d':Value}(r:C8 o u)(rd:RelV d d'):RelV (o.getD d) (u.getD d'):=by
 cases o with
 | none=>cases u with
  | none=>exact rd
  | some _=>exact(show False from r).elim
 | some _=>cases u with
  | none=>exact(show False from r).elim
  | some _=>exact r
theorem KV.val {kvs:List (κ×V)}{vs:List (κ×Value)}(r:KV kvs vs)(k:κ):C8 (cB kvs k) (valueAt vs k):=by
 unfold KV at r
 induction r with
 | nil=>exact fE
 | @cons p q ps qs h t ih=>
  obtain⟨h1,h2⟩:=h
  by_cases e:p.1=k
  ·have e':q.1=k:=h1.symm.trans e
   have b:valueAt (q::qs) k=some q.2:=by simp[valueAt,gz,e']
   rw[cQ e,b];exact h2
  ·have e':¬ q.1=k:=λz=>e (h1.trans z)
   have b:valueAt (q::qs) k=valueAt qs k:=by simp[valueAt,gz,e']
   rw[cR e,b];exact ih
theorem KV.any {kvs:List (κ×V)}{vs:List (κ×Value)}(r:KV kvs vs)(k:κ):(kvs.any λkv=>decide (kv.1=k))=vs.any λkv=>decide (kv.1=k):=by
 unfold KV at r
 induction r with
 | nil=>rfl
 | cons h t ih=>rw[fw,fw,ih,h.1]
theorem KV.Ue {kvs:List (κ×V)}{vs:List (κ×Value)}(r:KV kvs vs)(k:κ){y:V}(ry:RelV y u):
  KV (kvs.map λkv=>if kv.1=k then (kv.1,y) else kv) (vs.map λkv=>if kv.1=k then (kv.1,u) else kv):=by
 unfold KV at r ⊢
 induction r with
 | nil=>exact .nil
 | @cons p q ps qs h t ih=>
  rw[a0,a0]
  refine .cons ?_ ih
  obtain⟨h1,h2⟩:=h
  by_cases e:p.1=k
  ·rw[bd e,bd (h1.symm.trans e)];exact⟨h1,ry⟩
  ·rw[ax e,ax (λz=>e (h1.trans z))];exact⟨h1,h2⟩
theorem KV.put {kvs:List (κ×V)}{vs:List (κ×Value)}(r:KV kvs vs)(k:κ){y:V}(ry:RelV y u):KV (putK kvs k y) (stored vs k u):=by
 unfold putK stored
 rw[r.any k]
 by_cases e:(vs.any λkv=>decide (kv.1=k))=true
 ·rw[bd e,bd e];exact r.Ue k ry
 ·rw[ax e,ax e];exact Paired.snoc r ⟨rfl,ry⟩
theorem KV.length {kvs:List (κ×V)}{vs:List (κ×Value)}(r:KV kvs vs):kvs.length=vs.length:=iP r
end
theorem ux {k:Key}(r:RelV (kV k) u):(dZ P w).is k u=true:=by
 cases k with
 | inl i=>obtain⟨t,e⟩:=(show ∃t,u=Value.int i t from r);subst e;exact Bt P w i t
 | inr x=>obtain⟨t,e⟩:=(show ∃t,u=Value.str x t from r);subst e;exact Bu P w x t
theorem yU {k:Key}(r:RelV (kV k) u):cU k u=true:=by
 cases k with
 | inl i=>obtain⟨t,e⟩:=(show ∃t,u=Value.int i t from r);subst e;exact lK (pU i t)
 | inr x=>obtain⟨t,e⟩:=(show ∃t,u=Value.str x t from r);subst e;exact lK (pW x t)
theorem lY {α β γ:Type}{F:α->β->Prop}{G:β->γ->Prop}{R:α->γ->Prop}(f:∀a b c,F a b->G b c->R a c):∀{l:List α}{m:List β}{n:List γ},Paired F l m->Paired G m n->Paired R l n
 | _,_,_,.nil,.nil=>.nil
 | _,_,_,.cons h t,.cons h' t'=>.cons (f _ _ _ h h') (lY f t t')
theorem Km {d:Nat}{vs:List V}(kt:KB ks vs)(r:Vals vs us):Paired (CO d h) ks us:=by
 obtain⟨x,b,rfl,rfl⟩:=kt
 cases r with
 | cons h1 t=>cases t with
  | cons h2 t=>
   cases t
   cases (show _=Value.bool b from h2)
   exact .cons (.leaf (yU (k:=.inr x) h1)) (.cons (.leaf (Br b)) .nil)
theorem Ko {P:Program}{w:World}{K:W.Frag}{H:Hp}{h:Heap}(EN:K.In h)(ok:Dx P w K H h):∀(d:Nat) (n:AG) (v:V) (u:Value),NV K H d n v->RelV v u->CO d h n u
 | 0,n,v,u,⟨x,e,ev⟩,r=>by subst e ev;exact⟨x,rfl,yU r⟩
 | d+1,n,v,u,q,r=>by
  rcases q with ⟨x,e,ev⟩ | ⟨ns,a,vs,e,ev,ta,q⟩
  ·subst e ev;exact .inl ⟨x,rfl,yU r⟩
  ·subst e ev
   cases (show u=Value.ref a from r)
   refine .inr ⟨ns,a,rfl,rfl,?_⟩
   have fin:∀us:List Value,Vals vs us->Paired (CO d h) ns us:=λus z=>q.elim (λp=>lY (λx y c h1 h2=>Ko EN ok d x y c h1 h2) p z) λp=>Km p z
   rcases ta with e | ⟨o,AL,n,e1,e2,e3,_,r⟩
   ·obtain⟨_,AL,r,o,h1,h2,n,h3,_⟩:=(show AR P w K H h a (.tup vs) from ok a _ e)
    exact⟨o,AL.toArray,n,h1,h2,h3,by simpa using fin _ r⟩
   ·exact⟨o,AL,n,EN a o e1,e2,e3,fin _ r⟩
theorem xm {vs:List V}(EN:K.In h)(ok:Dx P w K H h)(kt:GN K H ks vs)(r:Vals vs us):Paired (CO 2 h) ks us:=
 kt.elim (λp=>lY (λx y c h1 h2=>Ko EN ok 2 x y c h1 h2) p r) λp=>Km p r
abbrev KT (K:PySem.W.Frag)(H:Hp):List (List AG×V)->List (List AG×Addr×Value)->Prop:=Paired λp q=>p.1=q.1/\CD K H q.2.1 p.1/\RelV p.2 q.2.2
variable {kvs:List (List AG×V)}{xs:List (List AG×Addr×Value)}
theorem KT.val (r:KT K H kvs xs)(k:List AG):C8 (cB kvs k) ((atKey xs k).map (·.2)):=by
 induction r with
 | nil=>exact fE
 | @cons p q ps qs h t ih=>
  obtain⟨h1,_,h2⟩:=h
  by_cases e:p.1=k
  ·have e':q.1=k:=h1.symm.trans e
   have b:atKey (q::qs) k=some q.2:=by simp[atKey,gz,e']
   rw[cQ e,b];exact h2
  ·have e':¬ q.1=k:=λz=>e (h1.trans z)
   have b:atKey (q::qs) k=atKey qs k:=by simp[atKey,gz,e']
   rw[cR e,b];exact ih
theorem KT.Ue (r:KT K H kvs xs)(k:List AG){y:V}(ry:RelV y u):
  KT K H (kvs.map λkv=>if kv.1=k then (kv.1,y) else kv) (xs.map (putAt k u)):=by
 induction r with
 | nil=>exact .nil
 | @cons p q ps qs h t ih=>
  rw[a0,a0]
  refine .cons ?_ ih
  obtain⟨h1,h2,h3⟩:=h
  unfold putAt
  by_cases e:p.1=k
  ·rw[bd e,bd (h1.symm.trans e)];exact⟨h1,h2,ry⟩
  ·rw[ax e,ax (λz=>e (h1.trans z))];exact⟨h1,h2,h3⟩
theorem KT.put (r:KT K H kvs xs)(k:List AG){y:V}(hb:CD K H b k)(ry:RelV y u):
  KT K H (putK kvs k y) (storedH xs k b u):=by
 have e:(kvs.any λkv=>decide (kv.1=k))=(atKey xs k).isSome:=by
  rw[oA,(r.val k).EO,Option.isSome_map]
 unfold putK storedH
 rw[e]
 by_cases q:(atKey xs k).isSome=true
 ·rw[bd q,bd q];exact r.Ue k ry
 ·rw[ax q,ax q];exact Paired.snoc r ⟨rfl,hb,ry⟩
theorem KT.keeps {K:W.Frag}{H H':Hp}{kvs:List (List AG×V)}{xs:List (List AG×Addr×Value)}(r:KT K H kvs xs)(ht:∀b ys,H b=some (.tup ys)->H' b=some (.tup ys)):KT K H' kvs xs:=
 Paired.TN r λ_ _ z=>⟨z.1,z.2.1.keeps ht,z.2.2⟩
section
variable {P:Program}{w:World}{K:W.Frag}{H:Hp}{h:Heap}{a:Addr}
theorem Kq {u:HO}(ok:Dx P w K H h)(e:Rd H a u):AR P w K H h a u:=e.ok ok
theorem oE {kvs:List (Key×V)}(ok:Dx P w K H h)(e:Rd H a (.dK kvs)):kvs.length<=sizeLine/\(a == sysModules)=false/\∃vs,KV kvs vs/\h.DictOf (dZ P w) a vs:=
 show AR P w K H h a (.dK kvs) from Kq ok e
theorem Dz {kvs:List (Key×V)}(ok:Dx P w K H h)(e:H a=some (.dK kvs)):kvs.length<=sizeLine/\(a == sysModules)=false/\∃vs,KV kvs vs/\h.DictOf (dZ P w) a vs:=oE ok (.inl e)
theorem Og (EN:K.In h)(ok:Dx P w K H h)(e:Nv K H a ks):(cX P w).is h ks a:=by
 obtain⟨vs,e,kt⟩:=e
 obtain⟨_,AL,r,o,h1,h2,n,h3,_⟩:=(show AR P w K H h a (.tup vs) from ok a _ e)
 exact⟨o,AL.toArray,n,h1,h2,h3,by simpa using xm EN ok kt r⟩
theorem iZ (EN:K.In h)(ok:Dx P w K H h)(e:CD K H a ks):(cX P w).is h ks a:=by
 rcases e with e | ⟨vs,⟨o,AL,n,e1,e2,e3,_,r⟩,kt⟩
 ·exact Og EN ok e
 ·exact⟨o,AL,n,EN a o e1,e2,e3,xm EN ok kt r⟩
theorem yV (EN:K.In h)(ok:Dx P w K H h)(e:Rd H a (.dT kvs)):kvs.length<=sizeLine/\(a == sysModules)=false/\∃xs,KT K H kvs xs/\A5 (cX P w) h a xs:=by
 obtain⟨z,y,xs,r,o,es,ep,h1,h2,h3,h4,h5,h6⟩:=(show AR P w K H h a (.dT kvs) from Kq ok e)
 subst h6
 refine⟨z,y,xs,r,o,es,h1,h2,h3,h4,λx hx=>?_,h5⟩
 have all:∀{l:List (List AG×V)}{m:List (List AG×Addr×Value)},KT K H l m->∀x∈m,(cX P w).is h x.1 x.2.1:=by
  intro l m q
  induction q with
  | nil=>intro x hx;exact nomatch hx
  | cons hq t ih=>
   intro x hx
   rcases be.mp hx with e | hx
   ·rw[e];exact iZ EN ok (by rw[← hq.1];exact hq.2.1)
   ·exact ih x hx
 exact all r x hx
theorem uy (EN:K.In h)(ok:Dx P w K H h)(e:Rd H a (.dT kvs)):kvs.length<=sizeLine/\(a == sysModules)=false /\
  ∃xs,KT K H kvs xs/\h.DictOfH (cX P w) a xs:=let ⟨z,y,xs,r,q⟩:=yV EN ok e;⟨z,y,xs,r,q.of⟩
end
def BY (K:W.Frag)(H:Hp)(a:Addr)(y:V)(r:Option V):Prop:=
 (∃kvs k,Rd H a (.dK kvs)/\y=kV k/\r=cB kvs k)\/∃kvs k b,Rd H a (.dT kvs)/\y=.ref b/\CD K H b k/\r=cB kvs k
def FG (K:W.Frag)(H:Hp)(a:Addr)(y v:V)(H':Hp):Prop:=
 (∃kvs k,H a=some (.dK kvs)/\y=kV k/\kvs.length < sizeLine/\H'=upd H a (.dK (putK kvs k v))) \/
 ∃kvs k b,H a=some (.dT kvs)/\y=.ref b/\CD K H b k/\kvs.length < sizeLine/\H'=upd H a (.dT (putK kvs k v))
theorem BY.k {K:W.Frag}{H:Hp}{a:Addr}{kvs:List (Key×V)}{k:Key}(e:H a=some (.dK kvs)):BY K H a (kV k) (cB kvs k):=.inl ⟨kvs,k,.inl e,rfl,rfl⟩
theorem BY.t {k:List AG}(e:H a=some (.dT kvs))(eb:CD K H b k):BY K H a (.ref b) (cB kvs k):=.inr ⟨kvs,k,b,.inl e,rfl,eb,rfl⟩
theorem FG.k {K:W.Frag}{H:Hp}{a:Addr}{kvs:List (Key×V)}{k:Key}{v:V}(e:H a=some (.dK kvs))(hl:kvs.length < sizeLine):FG K H a (kV k) v (upd H a (.dK (putK kvs k v))):=.inl ⟨kvs,k,e,rfl,hl,rfl⟩
theorem FG.t {k:List AG}{v:V}(e:H a=some (.dT kvs))(eb:CD K H b k)(hl:kvs.length < sizeLine):
  FG K H a (.ref b) v (upd H a (.dT (putK kvs k v))):=.inr ⟨kvs,k,b,e,rfl,eb,hl,rfl⟩
section
variable {X:Cx}{AF:qq}{σ:St}{H:Hp}{s:Shared}{a:Addr}{y v:V}{u r:Value}{o:Option V}{A:Around}{E:oT}
theorem Inv.big (I:Inv X AF σ H s):sysModules < s.heap.objs.size:=by
 have h:mainGlobals < s.heap.objs.size:=(I.mod.glob.keeps I.bk).lt
 exact mm (by decide) h
theorem Gh {Q:oT}(hu:A.units+9 < cLine)(I:Inv X AF σ H s)(g:BY X.K H a y (some v))(ry:RelV y u)(h:∀w' s',Inv X AF σ H s'->RelV v w'->Q w' s'):
  wpAny (model X.prog X.w) A (getItem (.ref a) u) Q E s:=by
 rcases g with ⟨kvs,k,e,ey,l⟩ | ⟨kvs,k,b,e,ey,eb,l⟩
 ·subst ey
  obtain⟨z,hd,vs,rel,dd⟩:=oE I.AW e
  obtain⟨w',hw,IG⟩:=C8.some_of (v:=v) (o:=valueAt vs k) (by rw[l];exact rel.val k)
  exact wpAny_getItem_of (ux ry) dd.mapOf hw (h w' _ (I.tok _) IG)
 ·subst ey
  cases (show u=Value.ref b from ry)
  obtain⟨z,hd,xs,rel,dd⟩:=uy I.Cs I.AW e
  obtain⟨w',hw,IG⟩:=C8.some_of (v:=v) (o:=(atKey xs k).map (·.2)) (by rw[l];exact rel.val k)
  obtain⟨p,hp,IH⟩:=br.mp hw
  refine wpAny_getItem_heap (DF hu) (iZ I.Cs I.AW eb) dd hp ?_
  rw[IH]
  exact h w' _ (I.tok _) IG
theorem K7 {Q:oT}(hu:A.units+9 < cLine)(I:Inv X AF σ H s)(g:BY X.K H a y o)(ry:RelV y u)(h:∀s',Inv X AF σ H s'->Q (.bool (!o.isSome)) s'):
  wpAny (model X.prog X.w) A (compareOp .NotIn u (.ref a)) Q E s:=by
 rcases g with ⟨kvs,k,e,ey,l⟩ | ⟨kvs,k,b,e,ey,eb,l⟩
 ·subst ey
  obtain⟨z,hd,vs,rel,dd⟩:=oE I.AW e
  refine wpAny_notIn_of (ux ry) hd dd.mapOf ?_
  rw[← (rel.val k).EO,← l]
  exact h _ (I.tok _)
 ·subst ey
  cases (show u=Value.ref b from ry)
  obtain⟨z,hd,xs,rel,dd⟩:=uy I.Cs I.AW e
  refine wpAny_notIn_heap (DF hu) (iZ I.Cs I.AW eb) hd dd ?_
  have q:=(rel.val k).EO
  rw[Option.isSome_map] at q
  rw[← q,← l]
  exact h _ (I.tok _)
theorem mX {h':Heap}{t':Nat}{ob:HO}(I:Inv X AF σ H s)(mu:VC (H a))(hs:Heap.SameBut a s.heap h')(he:∃q,h'.get? a=some q)(new:AR X.prog X.w X.K (upd H a ob) h' a ob):
  Inv X AF σ (upd H a ob) { s with heap:=h',toks:=t' }:=
 I.write (x:=a) (e:=a) mu (.inl rfl) (λb q hb z=>(hs.2 b hb).trans z) he new
theorem Gi {H':Hp}{h':Heap}{kvs:List (Key×V)}{vs:List (Key×Value)}(z:kvs.length<=sizeLine)(hd:(a == sysModules)=false)(rel:KV kvs vs)(dd:h'.DictOf (dZ P w) a vs):
  AR P w K H' h' a (.dK kvs):=⟨z,hd,vs,rel,dd⟩
theorem Gj {H':Hp}(hu:A.units+9 < cLine)(I:Inv X AF σ H s)(g:FG X.K H a y v H')(ry:RelV y u)(rv:RelV v r)(h:∀s',Inv X AF σ H' s'->Q () s'):
  wpAny (model X.prog X.w) A (setItem (.ref a) u r) Q E s:=by
 rcases g with ⟨kvs,k,e,ey,l,eH⟩ | ⟨kvs,k,b,e,ey,eb,l,eH⟩
 ·subst ey eH
  obtain⟨z,hd,vs,rel,dd⟩:=Dz I.AW e
  have hz:vs.length<=sizeLine:=by rw[← rel.length];exact z
  have hl:(putK kvs k v).length<=sizeLine:=by have:=rZ kvs k v;omega
  refine wpAny_setItem_pairs (hsz:=hz) (ux ry) dd λh' PF hs=>h _ ?_
  have he:∃q,h'.get? a=some q:=let ⟨q,_,_,hq,_⟩:=PF;⟨q,hq⟩
  exact mX I (by rw[e];exact fE) hs he (Gi hl hd (rel.put k rv) PF)
 ·subst ey eH
  cases (show u=Value.ref b from ry)
  obtain⟨z,hd,xs,rel,dd⟩:=yV I.Cs I.AW (.inl e)
  have hz:xs.length<=sizeLine:=by rw[← iP rel];exact z
  have hl:(putK kvs k v).length<=sizeLine:=by have:=rZ kvs k v;omega
  refine HF (DF hu) (iZ I.Cs I.AW eb) dd hz λh' PF hs=>h _ ?_
  obtain⟨q,es,hq,h2,h3,h4,_,h5⟩:=PF
  refine mX I (by rw[e];exact fE) hs ⟨q,hq⟩ ⟨hl,hd,_,(rel.put k eb rv).keeps λc ys ec=>?_,q,es,_,hq,h2,h3,h4,h5,rfl⟩
  rw[ao (bQ ec e (λz=>nomatch z))]
  exact ec
end
section
variable {X:Cx}{AF:qq}{σ:St}{H:Hp}{s:Shared}{a:Addr}{kvs:List (Key×V)}{k:Key}{u:Value}{A:Around}{E:oT}
theorem Q8 {Q:oT}(I:Inv X AF σ H s)(e:Rd H a (.dK kvs))(h:∀t s',Inv X AF σ H s'->Q (.int kvs.length t) s'):wpAny (model X.prog X.w) A (call (.builtin "len") [.ref a]) Q E s:=by
 obtain⟨z,hd,vs,rel,dd⟩:=oE I.AW e
 refine call_len_dict hd dd (by rw[← rel.length];rw[i9] at z;omega) ?_
 rw[← rel.length]
 exact h _ _ (I.tok _)
end
def Ih (i:Expr):Prop:=∀ov iv,subscripted i false ov iv=operate [ov,iv] (getItem ov iv)
theorem K8 {prog:Program}{env:Env}{value slice:Expr}{T id:String}{Q:oT}
  (hl:typeLookup (.type T) "__getitem__" = pure (some (.builtin id))) (hs:Ih slice)
  (h:wpAny (model prog w) A (eval value env) (λo s₁=>wpAny (model prog w) A (eval slice env) (λi s₂=>s₂.TypeIs o T/\wpAny (model prog w) A (getItem o i) Q E s₂) E s₁) E s):
  wpAny (model prog w) A (eval (.Subscript value slice pos) env) Q E s:=by
 refine Subscript_ (fA h (λo s₁ h₁=>fA h₁ (λi s₂ h₂=>?_) λ_ _ x=>x) λ_ _ x=>x)
 obtain⟨hT,h₂⟩:=h₂
 unfold subscriptTail
 refine ab ?_
 rw[getitemInPython_of_ne hT.not_modules]
 refine ab (e8 hT hl ?_)
 have fin:wpAny (model prog w) A (subscripted slice false o i) (λr s₃=>wpAny (model prog w) A (letTemporaryGo value o r >>= λ_=>pure r) Q E s₃) E s₂:=by
  rw[hs o i]
  exact wpAny_operating (fA h₂ (λr s₃ h₃=>ab (wpAny_letTemporaryGo (ae h₃))) λ_ _ x=>x)
 first
  | exact ae (ab fin)
  | exact ab (ae (ab fin))
  | exact ab fin
theorem Bv {X:Cx}{y:V}{o:Option V}(I:Inv X AF σ H s)(g:BY X.K H a y o):s.TypeIs (.ref a) "dict" := by
 rcases g with ⟨kvs,k,e,_,_⟩ | ⟨kvs,k,b,e,_,_,_⟩
 ·obtain⟨_,_,vs,_,dd⟩:=oE I.AW e
  exact dd.typeIs
 ·obtain⟨_,_,xs,_,dd⟩:=uy I.Cs I.AW e
  exact dd.typeIs
def qY (K:W.Frag)(td ty:TE):TE:=fun σ H Q=>td σ H λx H1=>ty σ H1 λy H2=>∃a v,x=.ref a/\BY K H2 a y (some v)/\Q v H2
def i_ (K:W.Frag)(ty td:TE):TE:=fun σ H Q=>ty σ H λy H1=>td σ H1 λx H2=>∃a o,x=.ref a/\BY K H2 a y o/\Q (.bl (!o.isSome)) H2
def jV (K:W.Frag)(td ty tv:TE):TS:=λD σ H=>tv σ H λv H1=>td σ H1 λx H2=>ty σ H2 λy H3=>∃a H4,x=.ref a/\FG K H3 a y v H4/\D.nx σ H4
section
variable {X:Cx}{o i e value:Expr}{pos pos' tpos:Pos}{td ty tv:TE}
theorem qZ (hu:X.A.units+9 < cLine)(ho:PE X o td)(hi:PE X i ty)(hs:Ih i):PE X (.Subscript o i pos) (qY X.K td ty):=by
 intro AF s σ H Q I h
 refine K8 PySem.F.slot_dict_getitem.lookup hs (AZ (ho AF s σ H _ I h) λu s1 ⟨x,H1,I1,rx,q1⟩=>AZ (hi AF s1 σ H1 _ I1 q1) ?_)
 rintro iv s2 ⟨y,H2,I2,ry,a,v,ex,g,q2⟩
 subst ex
 obtain rfl:u=Value.ref a:=rx
 exact⟨Bv I2 g,Gh hu I2 g ry λw' s3 I3 IG=>⟨v,H2,I3,IG,q2⟩⟩
theorem qe (hu:X.A.units+9 < cLine)(hi:PE X i ty)(ho:PE X o td):PC X .NotIn i o (i_ X.K ty td):=by
 intro AF s σ H Q I h
 refine AZ (hi AF s σ H _ I h) λiv s1 ⟨y,H1,I1,ry,q1⟩=>AZ (ho AF s1 σ H1 _ I1 q1) ?_
 rintro u s2 ⟨x,H2,I2,rx,a,ov,ex,g,q2⟩
 subst ex
 obtain rfl:u=Value.ref a:=rx
 exact K7 hu I2 g ry λs3 I3=>⟨.bl (!ov.isSome),H2,I3,rfl,q2⟩
theorem mY (hu:X.A.units+9 < cLine)(ho:PE X o td)(hi:PE X i ty)(hv:PE X value tv)(hs:swapsWith value (some (.Subscript o i pos')) pos.line X.env=pure false):
  PS X (.Assign [.Subscript o i pos'] value pos) (jV X.K td ty tv):=by
 intro AF s σ H D I h
 refine wpAny_Assign_Subscript (AZ (hv AF s σ H _ I h) λr s1 ⟨v,H1,I1,rv,q1⟩=>AZ (ho AF s1 σ H1 _ I1 q1) λu s2 ⟨x,H2,I2,rx,q2⟩=>AZ (hi AF s2 σ H2 _ I2 q2) ?_) hs
 rintro iv s3 ⟨y,H3,I3,ry,a,H4,ex,g,q3⟩
 subst ex
 obtain rfl:u=Value.ref a:=rx
 exact Gj hu I3 g ry rv λs4 I4=>⟨σ,H4,I4,q3⟩
end
theorem yW (h:Heap)(hb:sysModules < h.objs.size):AR P w K H (h.push { cls:=.type "dict",data:=.dict #[] }) h.objs.size (.dK []):=
 ⟨ce _,eP.mpr (fN (bg hb)),[],.nil,Heap.DictOf.new h⟩
theorem yX (h:Heap)(hb:sysModules < h.objs.size):AR P w K H (h.push { cls:=.type "dict",data:=.dict #[] }) h.objs.size (.dT []):=
 ⟨ce _,eP.mpr (fN (bg hb)),[],.nil,_,#[],0,am _ rfl,⟨rfl,rfl,rfl⟩,rfl,rfl,List.nodup_nil,rfl⟩
def yZ:TE:=λ_ H Q=>∀p,H p=none->Q (.ref p) (upd H p (.dK []))
def Oh:TE:=λ_ H Q=>∀p,H p=none->Q (.ref p) (upd H p (.dT []))
section
variable {X:Cx}{pos:Pos}
theorem y_:PE X (.Dict [] [] pos) yZ:=λAF s σ H Q I h=>
 wpAny_Dict_empty ⟨.ref s.heap.objs.size,_,I.laid (a:=s.heap.objs.size) (o:=.dK []) (t':=s.toks) (λ_ _ q=>ac _ q) (aw _) (yW s.heap I.big),rfl,h _ (I.AW.fresh (aw _))⟩
theorem Ii:PE X (.Dict [] [] pos) Oh:=λAF s σ H Q I h=>
 wpAny_Dict_empty ⟨.ref s.heap.objs.size,_,I.laid (a:=s.heap.objs.size) (o:=.dT []) (t':=s.toks) (λ_ _ q=>ac _ q) (aw _) (yX s.heap I.big),rfl,h _ (I.AW.fresh (aw _))⟩
end
structure M1 (X:Cx)(o:Expr)(m:Str)(apos:Pos)(e:Expr)(AS:Pos):Prop where
 base:attributeBase o m X.env (eval o X.env)=eval o X.env
 Ug:((backTo AS (starEach [e] X.env)).all (λx=>!x.1)&&(backToKw AS (keywordEach [] X.env)).all (λx=>x.1.isSome)
  && decide (([e]:qB).length+([]:List Keyword).length+(if ([]:List Keyword).isEmpty then 0 else 1) < 30))=true
 line:(apos.endLine == AS.line)=true
 trees:backTo AS (starEach [e] X.env)=[(false,eval e X.env)]
structure M2 (X:Cx)(o:Expr)(m:Str)(apos:Pos)(e f:Expr)(AS:Pos):Prop where
 base:attributeBase o m X.env (eval o X.env)=eval o X.env
 Ug:((backTo AS (starEach [e,f] X.env)).all (λx=>!x.1)&&(backToKw AS (keywordEach [] X.env)).all (λx=>x.1.isSome)
  && decide (([e,f]:qB).length+([]:List Keyword).length+(if ([]:List Keyword).isEmpty then 0 else 1) < 30))=true
 line:(apos.endLine == AS.line)=true
 trees:backTo AS (starEach [e,f] X.env)=[(false,eval e X.env),(false,eval f X.env)]
def IsD (H:Hp)(a:Addr):Prop:=(∃kvs,Rd H a (.dK kvs))\/∃kvs,Rd H a (.dT kvs)
theorem Gk {X:Cx}(I:Inv X AF σ H s)(d:IsD H a):
  s.TypeIs (.ref a) "dict" /\ (∀b,Value.ref a=.ref b->∃ob,s.heap.get? b=some ob/\ob.dict=none)/\(a == sysModules)=false:=by
 rcases d with ⟨kvs,e⟩ | ⟨kvs,e⟩
 ·obtain⟨_,hd,vs,_,dd⟩:=oE I.AW e
  refine⟨dd.typeIs,λb q=>?_,hd⟩
  cases q
  obtain⟨ob,_,_,h1,h2,_⟩:=dd
  exact⟨ob,h1,h2.2.1⟩
 ·obtain⟨_,hd,xs,_,dd⟩:=uy I.Cs I.AW e
  refine⟨dd.typeIs,λb q=>?_,hd⟩
  cases q
  obtain⟨ob,_,_,h1,h2,_⟩:=dd
  exact⟨ob,h1,h2.2.1⟩
section
variable {X:Cx}{AF:qq}{σ:St}{H:Hp}{s:Shared}{a:Addr}{y d:V}{u r:Value}{o:Option V}{A:Around}{E:oT}
theorem Oi {Q:oT}(hu:A.units+9 < cLine)(I:Inv X AF σ H s)(g:BY X.K H a y o)(ry:RelV y u)(rd:RelV d r)(h:∀w' s',Inv X AF σ H s'->RelV (o.getD d) w'->Q w' s'):
  wpAny (model X.prog X.w) A (call (.builtin "dict.get") [.ref a,u,r]) Q E s:=by
 rcases g with ⟨kvs,k,e,ey,l⟩ | ⟨kvs,k,b,e,ey,eb,l⟩
 ·subst ey
  obtain⟨z,hd,vs,rel,dd⟩:=oE I.AW e
  refine call_meetsIn k6 dd.typeIs oP (om _ _ _) (meets_dict_get_default (dZ X.prog X.w) a (ux ry) hd r) ⟨_,dd.mapOf,h _ _ (I.tok _) ?_⟩
  rw[l]
  exact(rel.val k).getD rd
 ·subst ey
  cases (show u=Value.ref b from ry)
  obtain⟨z,hd,xs,rel,dd⟩:=uy I.Cs I.AW e
  refine call_meetsIn k6 dd.typeIs oP (om _ _ _) (meetsH_dict_get_default (cX X.prog X.w) a b hd r) ⟨DF hu,k,xs,iZ I.Cs I.AW eb,dd,h _ _ (I.tok _) ?_⟩
  rw[l]
  exact(rel.val k).getD rd
end
def za (K:W.Frag)(td ty tx:TE):TE:=fun σ H Q=>td σ H λx H1=>∃a,x=.ref a/\IsD H1 a/\ty σ H1 λy H2=>tx σ H2 λz H3=>∃o,BY K H3 a y o/\Q (o.getD z) H3
section
variable {X:Cx}{o e f:Expr}{apos AS:Pos}{td ty tx:TE}
theorem sO (hu:X.A.units+9 < cLine)(ho:PE X o td)(he:PE X e ty)(hf:PE X f tx)(m:M2 X o "get" apos e f AS):PE X (.Call (.Attribute o "get" apos) [e,f] [] AS) (za X.K td ty tx):=by
 intro AF s σ H Q I h
 refine wpAny_Call_method m.base m.Ug m.line PySem.F.plainAttrs_dict k6 PySem.F.type_dict_get (AZ (ho AF s σ H _ I h) ?_)
 rintro u s1 ⟨x,H1,I1,rx,a,ex,d,q1⟩
 subst ex
 obtain rfl:u=Value.ref a:=rx
 obtain⟨t1,t2,_⟩:=Gk I1 d
 refine⟨t1,t2,?_⟩
 rw[m.trees]
 refine Calls.callWith_builtin rfl (Calls.evalArgs_plain (hW (AZ (he AF s1 σ H1 _ I1 q1) λiv s2 ⟨y,H2,I2,ry,q2⟩=>
  hW (AZ (hf AF s2 σ H2 _ I2 q2) λfv s3 ⟨z,H3,I3,rz,ov,g,q3⟩=>jI ?_))))
 exact Oi hu I3 g ry rz λw' s4 I4 IG=>⟨_,H3,I4,IG,q3⟩
end
end Lake.L2
namespace Lake.HT
open PySem PyProof.Rows
section
variable {prog:Program}{w:World}{A:Around}{E:oT}{s:Shared}
theorem PH {t b:Addr}{vs ws:qv}{Q:oT}(ht:IsTup s.heap t vs.toArray)(hb:IsTup s.heap b ws.toArray)(hv:vs≠[])
  (h1:ws=[]->Q (.ref t) s) (h2:ws≠[]->Q (.ref s.heap.objs.size) { s with heap:=s.heap.push { cls:=.type "tuple",data:=.seq (vs++ws).toArray } })
  (hsz:vs.length+ws.length<=sizeLine):wpAny (model prog w) A (binaryOp .Add (.ref t) (.ref b)) Q E s:=by
 obtain⟨⟨cls,dd,data,sl⟩,ho,hc,n,hd⟩:=id ht
 obtain⟨⟨VP,Sl,data2,Sm⟩,L5,MG,n2,hd2⟩:=id hb
 simp only at hc hd MG hd2
 subst hc hd MG hd2
 have e:vs.toArray++ws.toArray=(vs++ws).toArray:=by simp
 by_cases hw:ws=[]
 ·exact concat_meets ⟨_,ho,rfl⟩ ⟨_,L5,rfl⟩ oq qc kN kK (kq _ _)
   (tuple_addW1 t b vs.toArray ws.toArray n n2 dd Sl sl Sm (by simpa using hv) (by simp[hw])) ⟨ho,L5,h1 hw⟩
 ·refine concat_meets ⟨_,ho,rfl⟩ ⟨_,L5,rfl⟩ oq qc kN kK (kq _ _)
   (tuple_addW2 t b vs.toArray ws.toArray n n2 dd Sl sl Sm (by simpa using hv) (by simpa using hw) (by rw[ay,ay];exact hsz)) ⟨ho,L5,?_⟩
  rw[e]
  exact h2 hw
noncomputable def A4 (n d:Nat):Option Int->Nat
 | none=>d
 | some v=>if v < 0 then (v+(n:Int)).toNat else min v.toNat n
theorem MH (n d:Nat)(hd:d<=n)(o:Option Int):A4 n d o<=n:=by
 cases o with
 | none=>exact hd
 | some v=>
  show (if v < 0 then (v+(n:Int)).toNat else min v.toNat n)<=n
  by_cases hv:v < 0
  ·rw[bd hv];omega
  ·rw[ax hv];exact Nat.min_le_right _ _
theorem Ck (v:Int)(n d:Nat):(if v < 0 then max (v+(n:Int)) 0 else min v (n:Int))=((A4 n d (some v):Nat):Int):=by
 show (if v < 0 then max (v+(n:Int)) 0 else min v (n:Int))=(((if v < 0 then (v+(n:Int)).toNat else min v.toNat n):Nat):Int)
 by_cases hv:v < 0
 ·simp only[bd hv];omega
 ·simp only[ax hv];omega
theorem DG (lo hi:Option Int)(n:Nat):Builtin.Slice.sliceAdjust lo hi 1 (n:Int)=(((A4 n 0 lo:Nat):Int),((A4 n n hi:Nat):Int)):=by
 have h1:¬ ((1:Int) < 0):=by omega
 unfold Builtin.Slice.sliceAdjust
 simp only[h1,fT]
 refine Prod.ext ?_ ?_
 ·cases lo with
  | none=>rfl
  | some v=>exact Ck v n 0
 ·cases hi with
  | none=>rfl
  | some v=>exact Ck v n n
theorem DK (i j:Nat):Builtin.Slice.slicePlaces (i:Int) (j:Int) 1=j - i:=by
 unfold Builtin.Slice.slicePlaces
 have h1:(1:Int) > 0:=by omega
 simp only[h1,f8,Int.ediv_one]
 split <;> omega
theorem uz {v:Value}{o:Option Int}{Q:Option Int->Shared->Prop}(p:IsPart v o)(h:Q o s):wpAny (model prog w) A (Builtin.Slice.slicePartIndex v) Q E s:=by
 cases p with
 | none=>exact slicePart_none h
 | int i t=>exact slicePart_int h
theorem kh {sl:Addr}{vl vu:Value}{lo hi:Option Int}{n:Nat}{Q:Int×Int×Nat->Shared->Prop}(hs:s.heap.IsSliceOf sl vl vu .none)(pl:IsPart vl lo)(pu:IsPart vu hi)
  (h:Q (((A4 n 0 lo:Nat):Int),1,A4 n n hi - A4 n 0 lo) s):wpAny (model prog w) A (Builtin.Slice.sliceApplied (.ref sl) (pure (n:Int))) Q E s:=by
 obtain⟨os,Uh,U6,VQ⟩:=id hs
 unfold Builtin.Slice.sliceApplied Builtin.Slice.sliceFields
 refine ab (ab (cq Uh VQ (x:=vl) rfl (ab (cq Uh VQ (x:=vu) rfl (ab (cq Uh VQ (x:=.none) rfl (ae ?_)))))))
 refine ab (slicePart_none ?_)
 show wpAny _ _ (if ((1:Int) == 0)=true then _ else _) _ _ s
 rw[ax (by decide)]
 refine ab (uz pl (ab (uz pu (ab (ae ?_)))))
 show wpAny _ _ (match Builtin.Slice.sliceAdjust lo hi 1 (n:Int) with | (lo,hi)=>pure (lo,(1:Int),Builtin.Slice.slicePlaces lo hi 1)) _ _ s
 rw[DG lo hi n]
 show wpAny _ _ (pure (((A4 n 0 lo:Nat):Int),(1:Int),Builtin.Slice.slicePlaces ((A4 n 0 lo:Nat):Int) ((A4 n n hi:Nat):Int) 1)) _ _ s
 rw[DK]
 exact ae h
theorem Ik (xs:q5)(i k:Nat):((List.range k).filterMap λ(m:Nat)=>xs[((i:Int)+(m:Int)*1).toNat]?).toArray=((xs.toList.drop i).take k).toArray:=by
 have e:(λ(m:Nat)=>xs[((i:Int)+(m:Int)*1).toNat]?)=λm=>xs[i+m]?:=by
  funext m
  have:((i:Int)+(m:Int)*1).toNat=i+m:=by omega
  rw[this]
 rw[e]
 have:=pick_run xs i k
 rw[List.filterMap_map] at this
 have e2:((λx=>xs[x]?)∘λx=>i+x)=λm=>xs[i+m]?:=rfl
 rw[e2] at this
 rw[this]
theorem Ee {t sl:Addr}{items:q5}{vl vu:Value}{lo hi:Option Int}{Q:oT}(ht:IsTup s.heap t items)(hs:s.heap.IsSliceOf sl vl vu .none)(pl:IsPart vl lo)(pu:IsPart vu hi)
  (hw:¬ (A4 items.size 0 lo=0/\A4 items.size items.size hi=items.size))
  (h:Q (.ref s.heap.objs.size) { s with heap:=s.heap.push { cls:=.type "tuple",data:=.seq ((items.toList.drop (A4 items.size 0 lo)).take (A4 items.size items.size hi - A4 items.size 0 lo)).toArray } })
  (hsz:items.size<=sizeLine):wpAny (model prog w) A (getItem (.ref t) (.ref sl)) Q E s:=by
 have K0:sizeOk (.seq ((items.toList.drop (A4 items.size 0 lo)).take (A4 items.size items.size hi - A4 items.size 0 lo)).toArray):=by
  show ((items.toList.drop (A4 items.size 0 lo)).take (A4 items.size items.size hi - A4 items.size 0 lo)).toArray.size<=sizeLine
  rw[ay,g6,gp,gL]
  omega
 have hj:A4 items.size items.size hi<=items.size:=MH _ _ (aw _) hi
 obtain⟨os,Uh,U6,VQ⟩:=id hs
 have Yy:s.TypeIs (.ref sl) "slice" := ⟨os,Uh,U6⟩
 unfold getItem
 try with_reducible refine dQ ?_
 first | refine ab (ae ?_) | skip
 refine ab (nE ht.typeIs (by decide) ?_)
 refine ab (b6 (name:=Str.ofString "__getitem__") ht.typeIs ed
  (ci ed ht.typeIs entry_tuple_getitem ?_ (args_tuple_getitem _ _)))
 show wpAny _ _ (Builtin.Tuple.tupleItemsOf (.ref t) >>= _) _ _ s
 refine ab (tupleItemsOf_ ht ?_)
 refine ab (iN Yy ?_)
 rw[bd (by decide)]
 refine ab (kh hs pl pu ?_)
 have ML:¬ ((((A4 items.size 0 lo:Nat):Int) == 0&&(1:Int) == 1&&(A4 items.size items.size hi - A4 items.size 0 lo) == items.size)=true):=by
  intro q
  rw[dv,dv] at q
  have q1:((A4 items.size 0 lo:Nat):Int)=0:=eq_of_beq q.1.1
  have q2:A4 items.size items.size hi - A4 items.size 0 lo=items.size:=eq_of_beq q.2
  exact hw ⟨by omega,by omega⟩
 show wpAny _ _ (if (((A4 items.size 0 lo:Nat):Int) == 0&&(1:Int) == 1&&(A4 items.size items.size hi - A4 items.size 0 lo) == items.size)=true then _ else _) _ _ s
 rw[ax ML,Ik]
 first
  | exact ab (m:=Builtin.Tuple.tupleExact _) (bS (ae ⟨_,rfl,ae h⟩) K0)
  | exact ab (m:=Builtin.Tuple.tupleExact _) (bS (ab (ae (ae ⟨_,rfl,ae h⟩))) K0)
  | exact ab (ab (m:=Builtin.Tuple.tupleExact _) (bS (ae (ae ⟨_,rfl,ae h⟩)) K0))
  | exact ab (ab (m:=Builtin.Tuple.tupleExact _) (bS (ae ⟨_,rfl,ae h⟩) K0))
end
end Lake.HT
namespace Lake.L2
open PySem PySem.Spec PyProof.Rows
abbrev TO:=St->Hp->(Option Int->Hp->Prop)->Prop
def PO (X:Cx)(e:Option Expr)(t:TO):Prop:=
 ∀(AF:qq) (s:Shared) (σ:St) (H:Hp) (Q:Option Int->Hp->Prop),Inv X AF σ H s->t σ H Q->
  wpAny (model X.prog X.w) X.A (evalPart e X.env) (λu s'=>∃o H',Inv X AF σ H' s'/\IsPart u o/\Q o H') X.xe s
def K9:TO:=λ_ H Q=>Q none H
def Q9 (t:TE):TO:=fun σ H Q=>t σ H λx H1=>∃i,x=.int i/\Q (some i) H1
variable {r:V->Option Int->Option Int->Hp->VK->Prop}
section
variable {X:Cx}{e:Expr}{te:TE}{lo hi:Option Expr}{tl th:TO}{pos p2:Pos}
theorem K_:PO X none K9:=by
 intro AF s σ H Q I h
 rw[evalPart_none]
 exact ae ⟨none,H,I,.none,h⟩
theorem La (h:PE X e te):PO X (some e) (Q9 te):=by
 intro AF s σ H Q I hw
 rw[evalPart_some]
 refine AZ (h AF s σ H _ I hw) ?_
 rintro u s1 ⟨x,H1,I1,r1,q1⟩
 obtain⟨i,rfl,q⟩:=q1
 obtain⟨t,rfl⟩:=r1
 exact⟨some i,H1,I1,.int i t,q⟩
def MM (X:Cx)(r:V->Option Int->Option Int->Hp->VK->Prop):Prop:=
 ∀(AF:qq) (s:Shared) (σ:St) (H:Hp) (x:V) (v vl vu:Value) (lo hi:Option Int) (sl:Addr) (Q:VK),Inv X AF σ H s->RelV x v->s.heap.IsSliceOf sl vl vu .none->IsPart vl lo->IsPart vu hi->r x lo hi H Q->
  ∃T id,typeLookup (.type T) "__getitem__" = pure (some (.builtin id))/\s.TypeIs v T/\wpAny (model X.prog X.w) X.A (getItem v (.ref sl)) (EP X AF σ Q) X.xe s
theorem MM.or {r':V->Option Int->Option Int->Hp->VK->Prop}(h:MM X r)(h':MM X r'):MM X (λx lo hi H Q=>r x lo hi H Q\/r' x lo hi H Q):=by
 intro AF s σ H x v vl vu lo hi sl Q I rx hs pl pu q
 rcases q with q | q
 ·exact h AF s σ H x v vl vu lo hi sl Q I rx hs pl pu q
 ·exact h' AF s σ H x v vl vu lo hi sl Q I rx hs pl pu q
def tSl (r:V->Option Int->Option Int->Hp->VK->Prop)(te:TE)(tl th:TO):TE:=fun σ H Q=>te σ H λx H1=>tl σ H1 λl H2=>th σ H2 λu H3=>r x l u H3 Q
theorem zb (hr:MM X r)(he:PE X e te)(hl:PO X lo tl)(hu:PO X hi th):PE X (.Subscript e (.Slice lo hi none p2) pos) (tSl r te tl th):=by
 intro AF s σ H Q I h
 refine Subscript_ (AZ (he AF s σ H _ I h) ?_)
 rintro v s1 ⟨x,H1,I1,r1,q1⟩
 refine wpAny_Slice (AZ (hl AF s1 σ H1 _ I1 q1) λvl s2 ⟨l,H2,I2,pl,q2⟩=>AZ (hu AF s2 σ H2 _ I2 q2) ?_)
 rintro vu s3 ⟨u,H3,I3,pu,q3⟩
 rw[evalPart_none]
 refine ae ?_
 have I4:Inv X AF σ H3 { s3 with heap:=s3.heap.push { cls:=.type "slice",data:=.fields #[vl,vu,.none] } }:=I3.kept (t':=s3.toks) λb ob q=>ac _ q
 obtain⟨T,id,hT,ht,hg⟩:=hr AF { s3 with heap:=s3.heap.push { cls:=.type "slice",data:=.fields #[vl,vu,.none] } } σ H3 x v vl vu l u s3.heap.objs.size Q I4 r1 (Heap.IsSliceOf.new ..) pl pu q3
 show wpAny (model X.prog X.w) X.A (subscriptTail e (.Slice lo hi none p2) v (.ref s3.heap.objs.size)) (EP X AF σ Q) X.xe { s3 with heap:=s3.heap.push { cls:=.type "slice",data:=.fields #[vl,vu,.none] } }
 exact tail_any (ops:=[.ref s3.heap.objs.size,v]) ht hT hg (by with_unfolding_all rfl)
noncomputable def qg (xs:List V)(lo hi:Option Int):List V:=(xs.drop (HT.A4 xs.length 0 lo)).take (HT.A4 xs.length xs.length hi - HT.A4 xs.length 0 lo)
theorem sr (xs:List V)(lo hi:Option Int):(qg xs lo hi).length<=xs.length:=by
 unfold qg
 rw[g6,gp]
 omega
def Oj (K:W.Frag):V->Option Int->Option Int->Hp->VK->Prop:=λx lo hi H Q=>∃a xs,x=.ref a/\Co K H a xs /\
 ¬ (HT.A4 xs.length 0 lo=0/\HT.A4 xs.length xs.length hi=xs.length)/\∀p,H p=none->Q (.ref p) (upd H p (.tup (qg xs lo hi)))
theorem Ol:MM X (Oj X.K):=by
 intro AF s σ H x v vl vu lo hi sl Q I rx hs pl pu h
 obtain⟨a,xs,rfl,hx,hw,q⟩:=h
 cases rx
 obtain⟨AL,r,ht,hz⟩:=I.tuple hx
 have hlen:AL.toArray.size=xs.length:=by rw[ay];exact r.length.symm
 refine⟨"tuple",_,ed.lookup,ht.typeIs,?_⟩
 refine HT.Ee ht hs pl pu (by rw[hlen];exact hw) ?_ (by rw[hlen];exact hz)
 rw[hlen]
 refine⟨.ref s.heap.objs.size,_,I.laid (t':=s.toks) (o:=.tup (qg xs lo hi)) (λb ob q=>ac _ q) (aw _) ?_,rfl,q _ (I.AW.fresh (aw _))⟩
 exact⟨dP (sr xs lo hi) hz,_,(r.drop (HT.A4 xs.length 0 lo)).take (HT.A4 xs.length xs.length hi - HT.A4 xs.length 0 lo),⟨_,am _ rfl,rfl,0,rfl,rfl⟩⟩
def uA (K:W.Frag):R2:=λx y H Q=>∃a b xs ys,x=.ref a/\y=.ref b/\Co K H a xs/\Co K H b ys/\xs≠[]/\xs.length+ys.length<=sizeLine /\
 (ys=[]->Q (.ref a) H)/\(ys≠[]->∀p,H p=none->Q (.ref p) (upd H p (.tup (xs++ys))))
theorem Vals.GW {xs:List V}{us:qv}(r:Vals xs us):us=[]↔xs=[]:=by
 cases r with
 | nil=>simp
 | cons _ _=>simp
theorem Lb:Ct X (binaryOp .Add) (uA X.K):=by
 intro AF s σ H x y v u Q I rx ry h
 obtain⟨a,b,xs,ys,rfl,rfl,ha,hb,hx,hz,q1,q2⟩:=h
 cases rx
 cases ry
 obtain⟨AL,r1,p1,_⟩:=I.tuple ha
 obtain⟨C9,r2,p2,_⟩:=I.tuple hb
 refine HT.PH p1 p2 (λz=>hx (r1.GW.mp z)) (λz=>⟨.ref a,H,I,rfl,q1 (r2.GW.mp z)⟩) (λz=>?_) (by rw[← r1.length,← r2.length];exact hz)
 refine⟨.ref s.heap.objs.size,_,I.laid (t':=s.toks) (o:=.tup (xs++ys)) (λb ob q=>ac _ q) (aw _) ?_,rfl,q2 (λw=>z (r2.GW.mpr w)) _ (I.AW.fresh (aw _))⟩
 exact⟨by rw[bo];exact hz,_,r1.append r2,⟨_,am _ rfl,rfl,0,rfl,rfl⟩⟩
end
noncomputable def JO (n:Nat)(i:Int):Option Nat:=if 0<=i then (if i < n then some i.toNat else none) else if -(n:Int)<=i then some (i+n).toNat else none
noncomputable def B4 {α:Type}(xs:List α)(i:Int):Option α:=(JO xs.length i).bind λj=>xs[j]?
theorem vO {n:Nat}{i:Int}{j:Nat}(h:JO n i=some j):seqIndex? i n=some j/\j < n/\-(n:Int)<=i/\i < n:=by
 unfold JO at h
 by_cases h0:0<=i
 ·rw[bd h0] at h
  by_cases h1:i < n
  ·rw[bd h1] at h
   have e:i.toNat=j:=bi h
   exact⟨by rw[seqIndex_of h0 h1,e],by omega,by omega,h1⟩
  ·rw[ax h1] at h;cases h
 ·rw[ax h0] at h
  by_cases h1:-(n:Int)<=i
  ·rw[bd h1] at h
   have e:(i+n).toNat=j:=bi h
   exact⟨by rw[seqIndex_neg (by omega) h1,e],by omega,h1,by omega⟩
  ·rw[ax h1] at h;cases h
theorem vP {α:Type}{xs:List α}{i:Int}{v:α}(h:B4 xs i=some v):∃j,seqIndex? i xs.length=some j/\xs[j]?=some v/\j < xs.length/\-(xs.length:Int)<=i/\i < xs.length:=by
 unfold B4 at h
 cases e:JO xs.length i with
 | none=>rw[e] at h;cases h
 | some j=>
  rw[e] at h
  obtain⟨h1,h2,h3,h4⟩:=vO e
  exact⟨j,h1,h,h2,h3,h4⟩
theorem Ld {α:Type}{xs:List α}{j:Nat}{v:α}(h:xs[j]?=some v):B4 xs (j:Int)=some v:=by
 have hj:j < xs.length:=(ai.mp h).1
 have e:JO xs.length (j:Int)=some j:=by
  unfold JO
  rw[bd (by omega),bd (by omega)];simp
 unfold B4;rw[e];exact h
def Cm (b:Expr):Prop:=∀o i,subscripted b false o i=operate [o,i] (getItem o i)
def MO (X:Cx)(r:R2):Prop:=
 ∀(value slice:Expr) (AF:qq) (s:Shared) (σ:St) (H:Hp) (x y:V) (v u:Value) (Q:VK),Inv X AF σ H s->RelV x v->RelV y u->r x y H Q->
  subscripted slice false v u=operate [v,u] (getItem v u)->wpAny (model X.prog X.w) X.A (subscriptTail value slice v u) (EP X AF σ Q) X.xe s
def Xy (X:Cx)(id:String)(r:V->List V->Hp->VK->Prop):Prop:=
 ∀(AF:qq) (s:Shared) (σ:St) (H:Hp) (x:V) (xs:List V) (v:Value) (us:qv) (Q:VK),Inv X AF σ H s->RelV x v->Vals xs us->r x xs H Q->
  wpAny (model X.prog X.w) X.A (call (.builtin id) (v::us)) (EP X AF σ Q) X.xe s
section
variable {X:Cx}{a b:Expr}{ta tb:TE}{pos:Pos}
theorem MO.or {r r':R2}(h:MO X r)(h':MO X r'):MO X (λx y H Q=>r x y H Q\/r' x y H Q):=by
 intro value slice AF s σ H x y v u Q I rx ry q hs
 rcases q with q | q
 ·exact h value slice AF s σ H x y v u Q I rx ry q hs
 ·exact h' value slice AF s σ H x y v u Q I rx ry q hs
theorem uB {r:R2}(hr:MO X r)(ha:PE X a ta)(hb:PE X b tb)(hs:Cm b):PE X (.Subscript a b pos) (MA r ta tb):=by
 intro AF s σ H Q I h
 exact Subscript_ (H_ ha hb I h λv u s2 x y H2 I2 rx ry q=>hr a b AF s2 σ H2 x y v u Q I2 rx ry q (hs _ _))
def vQ (K:W.Frag):R2:=λx y H Q=>∃p xs i v,x=.ref p/\y=.int i/\Bz K H p xs/\B4 xs i=some v/\Q v H
def DP (K:W.Frag):R2:=λx y H Q=>∃p xs i v,x=.ref p/\y=.int i/\Co K H p xs/\B4 xs i=some v/\Q v H
def Om:R2:=λx y H Q=>∃z i c,x=.str z/\y=.int i/\z.length<=sizeLine/\B4 z.cps.toList i=some c/\Q (.str ⟨#[c]⟩) H
theorem K2:MO X (vQ X.K):=by
 intro value slice AF s σ H x y v u Q I rx ry h hs
 obtain⟨p,xs,i,z,rfl,rfl,hq,he,q⟩:=h
 cases rx
 obtain⟨t,rfl⟩:=ry
 obtain⟨AL,r,pl,hz⟩:=I.list hq
 obtain⟨j,h1,h2,h3,h4,h5⟩:=vP he
 obtain⟨w,ew,IG⟩:=r.get h2
 have hl:=r.length
 have hn:=mU
 have fin:EP X AF σ Q w s:=⟨z,H,I,IG,q⟩
 by_cases h0:0<=i
 ·have hj:i.toNat=j:=by
   rw[seqIndex_of h0 h5] at h1
   exact bi h1
  exact item_listR pl.isList h0 (by omega) (by rw[hj];simpa using ew) fin hs
 ·have hj:(i+(AL.toArray.size:Int)).toNat=j:=by
   rw[seqIndex_neg (by omega) h4] at h1
   rw[ay,← hl]
   exact bi h1
  exact subscriptTail_builtinR (x:=w) pl.isList.typeIs slot_list_getitem.lookup
   (wpAny_getItem_list_neg (Q:=λr s'=>r=w/\EP X AF σ Q r s') pl.isList (by omega) (by rw[ay] <;> omega) (by omega) (by rw[hj];simpa using ew) ⟨rfl,fin⟩) hs
theorem MQ:MO X (DP X.K):=by
 intro value slice AF s σ H x y v u Q I rx ry h hs
 obtain⟨p,xs,i,z,rfl,rfl,hq,he,q⟩:=h
 cases rx
 obtain⟨t,rfl⟩:=ry
 obtain⟨AL,r,pl,hz⟩:=I.tuple hq
 obtain⟨j,h1,h2,h3,h4,h5⟩:=vP he
 obtain⟨w,ew,IG⟩:=r.get h2
 have hl:=r.length
 have hn:=mU
 have fin:EP X AF σ Q w s:=⟨z,H,I,IG,q⟩
 exact subscriptTail_builtinR (x:=w) pl.typeIs slot_tuple_getitem.lookup
  (getItem_tuple (j:=j) (Q:=λr s'=>r=w/\EP X AF σ Q r s') pl (by omega) (by omega) (by rw[ay,← hl];exact h1) (by simpa using ew) ⟨rfl,fin⟩) hs
theorem Oo:MO X Om:=by
 intro value slice AF s σ H x y v u Q I rx ry h hs
 obtain⟨z,i,c,rfl,rfl,hz,he,q⟩:=h
 obtain⟨t,rfl⟩:=rx
 obtain⟨t',rfl⟩:=ry
 obtain⟨j,h1,h2,h3,h4,h5⟩:=vP he
 have hl:z.cps.toList.length=z.length:=by simp[Str.length]
 rw[hl] at h1 h4 h5
 have hn:=mU
 exact tail_any (typeIs_str s z t) slot_str_getitem.lookup (getItem_str (c:=c) (by
  have e1:decide (i < -(2 ^ 63:Int))=false:=de (by omega)
  have e2:decide (i ≥ 2 ^ 63)=false:=de (by omega)
  rw[e1,e2,Bool.or_false]) (by rw[h1];simpa using h2) ⟨.str ⟨#[c]⟩,H,I.tok _,⟨_,rfl⟩,q⟩) hs
def rIx (K:W.Frag):R2:=λx y H Q=>vQ K x y H Q\/DP K x y H Q\/Om x y H Q
theorem Oq:MO X (rIx X.K):=K2.or (MQ.or Oo)
theorem DQ (AL:qv)(n j:Nat)(u:Value):Obj.mapSeq (·.setIfInBounds j u) { cls:=.type "list",data:=.seq AL.toArray n }={ cls:=.type "list",data:=.seq (AL.set j u).toArray n }:=by
 simp[Obj.mapSeq]
theorem Inv.lst {AF:qq}{σ:St}{H:Hp}{s:Shared}{p:Addr}{xs:List V}(I:Inv X AF σ H s)(h:H p=some (.lst xs)):
  ∃(AL:qv) (n:Nat),Vals xs AL/\s.heap.get? p=some { cls:=.type "list",data:=.seq AL.toArray n }/\xs.length<=sizeLine:=by
 obtain⟨z,AL,n,r,e⟩:=I.AW p _ h
 exact⟨AL,n,r,e,z⟩
theorem Inv.Ui {AF:qq}{σ:St}{H:Hp}{s:Shared}{p:Addr}{xs ys:List V}{AL its':qv}{n n':Nat}{f:Obj->Obj}(I:Inv X AF σ H s)(h:H p=some (.lst xs))
  (ho:s.heap.get? p=some { cls:=.type "list",data:=.seq AL.toArray n }) (hf:f { cls:=.type "list",data:=.seq AL.toArray n }={ cls:=.type "list",data:=.seq its'.toArray n' }) (r:Vals ys its') (hz:ys.length<=sizeLine) (t:Nat):
  Inv X AF σ (upd H p (.lst ys)) { s with heap:=s.heap.update p f,toks:=t }:=by
 have e:(s.heap.update p f).get? p=some { cls:=.type "list",data:=.seq its'.toArray n' }:=by
  rw[cE f ho (by rw[hf] <;> rfl),hf]
 refine I.write (x:=p) (e:=p) (by rw[h];trivial) (.inl rfl) (λb u hb q=>(df _ _ (fN hb)).trans q) ⟨_,e⟩ ?_
 exact⟨hz,its',n',r,e⟩
def Q_:V->V->V->Hp->(Hp->Prop)->Prop:=λo i v H Q=>∃p xs k j,o=.ref p/\i=.int k/\H p=some (.lst xs)/\JO xs.length k=some j/\Q (upd H p (.lst (xs.set j v)))
theorem set_list:N5 X Q_:=by
 intro AF s σ H o i v ov iv u Q I ro ri rv h
 obtain⟨p,xs,k,j,rfl,rfl,hp,hj,q⟩:=h
 cases ro
 obtain⟨t,rfl⟩:=ri
 obtain⟨AL,n,r,ho,hz⟩:=I.lst hp
 obtain⟨h1,h2,h3,h4⟩:=vO hj
 have hl:=r.length
 have hn:=mU
 have I':Inv X AF σ (upd H p (.lst (xs.set j v))) { s with heap:=s.heap.update p (Obj.mapSeq (·.setIfInBounds j u)) }:=
  I.Ui hp ho (DQ AL n j u) (r.set rv j) (by rw[fb];exact hz) s.toks
 by_cases h0:0<=k
 ·have hk:k.toNat=j:=by
   rw[seqIndex_of h0 h4] at h1
   exact bi h1
  exact W.ki_setAt ho h0 (by omega) (by rw[ay,← hl];exact h4) (by rw[hk];exact⟨_,I',q⟩)
 ·have hk:(k+(AL.toArray.size:Int)).toNat=j:=by
   rw[seqIndex_neg (by omega) h3] at h1
   rw[ay,← hl]
   exact bi h1
  exact W.ki_setBack ho (by omega) (by rw[ay,← hl];exact h3) (by omega) (by rw[hk];exact⟨_,I',q⟩)
theorem zf (lo hi:Option Int)(n:Nat):(sliceBounds lo hi none n).1=((HT.A4 n 0 lo:Nat):Int)/\(sliceBounds lo hi none n).2.1=((HT.A4 n n hi:Nat):Int)/\(sliceBounds lo hi none n).2.2=1:=by
 refine⟨?_,?_,rfl⟩
 ·cases lo with
  | none=>simp[sliceBounds,HT.A4]
  | some i=>
   simp only[sliceBounds,HT.A4,Option.getD_none,show (1:Int) > 0 by decide,f8]
   by_cases h:i < 0
   ·simp only[h,f8] <;> omega
   ·simp only[h,fT] <;> omega
 ·cases hi with
  | none=>simp[sliceBounds,HT.A4]
  | some i=>
   simp only[sliceBounds,HT.A4,Option.getD_none,show (1:Int) > 0 by decide,f8]
   by_cases h:i < 0
   ·simp only[h,f8] <;> omega
   ·simp only[h,fT] <;> omega
theorem xU (AL:qv)(lo hi:Option Int):slicePick AL.toArray lo hi none=((AL.drop (HT.A4 AL.length 0 lo)).take (HT.A4 AL.length AL.length hi - HT.A4 AL.length 0 lo)).toArray:=by
 obtain⟨h1,h2,h3⟩:=zf lo hi AL.toArray.size
 unfold slicePick
 rw[h1,h2,h3]
 simp only[sliceRange_one,pick_run,ay] <;> rfl
def Ot (K:W.Frag):V->Option Int->Option Int->Hp->VK->Prop:=λx lo hi H Q=>∃a xs,x=.ref a/\Bz K H a xs/\∀p,H p=none->Q (.ref p) (upd H p (.lst (qg xs lo hi)))
theorem PM:MM X (Ot X.K):=by
 intro AF s σ H x v vl vu lo hi sl Q I rx hs pl pu h
 obtain⟨a,xs,rfl,hx,q⟩:=h
 cases rx
 obtain⟨AL,r,ht,hz⟩:=I.list hx
 have hlen:=r.length
 refine⟨"list",_,slot_list_getitem.lookup,ht.isList.typeIs,?_⟩
 refine wpAny_getItem_list_slice ht.isList hs pl pu .none (by simp) ?_ (by rw[ay] <;> omega)
 rw[xU,← hlen]
 refine⟨.ref s.heap.objs.size,_,I.laid (t':=s.toks) (o:=.lst (qg xs lo hi)) (λb ob q=>ac _ q) (aw _) ?_,rfl,q _ (I.AW.fresh (aw _))⟩
 exact⟨dP (sr xs lo hi) hz,_,0,(r.drop (HT.A4 xs.length 0 lo)).take (HT.A4 xs.length xs.length hi - HT.A4 xs.length 0 lo),am _ rfl⟩
noncomputable def ik:V->Bool
 | .AO=>true
 | .bl _=>true
 | .int _=>true
 | .str _=>true
 | _=>false
noncomputable def PR:V->V->Bool
 | .AO,.AO=>true
 | .bl a,.bl b=>a == b
 | .bl a,.int b=>(if a then 1 else 0) == b
 | .int a,.bl b=>a == (if b then 1 else 0)
 | .int a,.int b=>a == b
 | .str a,.str b=>a == b
 | _,_=>false
theorem Ou {A:Around}{s:Shared}{y x:V}{u v:Value}(ry:RelV y u)(rx:RelV x v)(fy:ik y=true)(fx:ik x=true):SeqAt.EqAt A s u v (PR y x):=by
 cases y with
 | AO=>
  cases ry
  cases x with
  | AO=>cases rx;exact SeqAt.EqAt.same _
  | bl b=>cases rx;exact SeqAt.EqAt.none_bool b
  | int b=>obtain⟨t,rfl⟩:=rx;exact SeqAt.EqAt.none_int b t
  | str b=>obtain⟨t,rfl⟩:=rx;exact SeqAt.EqAt.none_str b t
  | _=>exact absurd (show false=true from fx) ba
 | bl a=>
  cases ry
  cases x with
  | AO=>cases rx;exact SeqAt.EqAt.bool_none a
  | bl b=>cases rx;exact SeqAt.EqAt.bool_bool a b
  | int b=>obtain⟨t,rfl⟩:=rx;exact SeqAt.EqAt.bool_int a b t
  | str b=>obtain⟨t,rfl⟩:=rx;exact SeqAt.EqAt.bool_str a b t
  | _=>exact absurd (show false=true from fx) ba
 | int a=>
  obtain⟨t',rfl⟩:=ry
  cases x with
  | AO=>cases rx;exact SeqAt.EqAt.int_none a t'
  | bl b=>cases rx;exact SeqAt.EqAt.int_bool a t' b
  | int b=>obtain⟨t,rfl⟩:=rx;exact mE a t' b t
  | str b=>obtain⟨t,rfl⟩:=rx;exact mv a t' b t
  | _=>exact absurd (show false=true from fx) ba
 | str a=>
  obtain⟨t',rfl⟩:=ry
  cases x with
  | AO=>cases rx;exact SeqAt.EqAt.str_none a t'
  | bl b=>cases rx;exact SeqAt.EqAt.str_bool a t' b
  | int b=>obtain⟨t,rfl⟩:=rx;exact mx a t' b t
  | str b=>obtain⟨t,rfl⟩:=rx;exact SeqAt.EqAt.str_str a t' b t
  | _=>exact absurd (show false=true from fx) ba
 | _=>exact absurd (show false=true from fy) ba
noncomputable def PU (x:V)(u:Value):Bool:=match u with
 | .none=>PR .AO x
 | .bool b=>PR (.bl b) x
 | .int i _=>PR (.int i) x
 | .str z _=>PR (.str z) x
 | _=>false
theorem Gm {x y:V}{u:Value}(r:RelV y u)(f:ik y=true):PU x u=PR y x:=by
 cases y with
 | AO=>cases r;rfl
 | bl b=>cases r;rfl
 | int i=>obtain⟨t,rfl⟩:=r;rfl
 | str z=>obtain⟨t,rfl⟩:=r;rfl
 | _=>exact absurd (show false=true from f) ba
theorem vR {x:V}:∀{xs:List V}{us:qv},Vals xs us->xs.all ik=true->us.any (PU x)=xs.any λy=>PR y x
 | _,_,.nil,_=>rfl
 | y::xs,u::us,.cons r t,f=>by
  rw[kl,dv] at f
  rw[fw,fw,Gm r f.1,vR t f.2]
theorem sS {A:Around}{s:Shared}{x:V}{v:Value}(rx:RelV x v)(fx:ik x=true):∀{xs:List V}{us:qv},Vals xs us->xs.all ik=true->∀u∈us,SeqAt.EqAt A s u v (PU x u)
 | _,_,.nil,_=>λu hu=>by cases hu
 | y::xs,u::us,.cons r t,f=>λu' hu=>by
  rw[kl,dv] at f
  rcases be.mp hu with rfl | hu
  ·rw[Gm r f.1];exact Ou r rx f.1 fx
  ·exact sS rx fx t f.2 u' hu
noncomputable def Xz (x:V)(xs:List V):Bool:=xs.any λy=>PR y x
def Yz (K:W.Frag)(neg:Bool):R2:=λx y H Q=>∃p xs,y=.ref p/\(Bz K H p xs\/Co K H p xs)/\ik x=true/\xs.all ik=true/\Q (.bl (if neg then !Xz x xs else Xz x xs)) H
theorem zg:Ct X (compareOp .NotIn) (Yz X.K true):=by
 intro AF s σ H x y v u Q I rx ry h
 obtain⟨p,xs,rfl,hq,fx,fs,q⟩:=h
 cases ry
 rcases hq with hq | hq
 ·obtain⟨AL,r,pl,hz⟩:=I.list hq
  refine SeqAt.notIn_listAt (PU x) pl.isList (λw hw=>sS rx fx r fs w (by simpa using hw)) ⟨.bl _,H,I,rfl,?_⟩
  rw[show AL.toArray.any (PU x)=AL.any (PU x) by simp,vR r fs]
  exact q
 ·obtain⟨AL,r,pl,hz⟩:=I.tuple hq
  refine SeqAt.notIn_tupleAt (PU x) pl (λw hw=>sS rx fx r fs w (by simpa using hw)) ⟨.bl _,H,I,rfl,?_⟩
  rw[show AL.toArray.any (PU x)=AL.any (PU x) by simp,vR r fs]
  exact q
theorem qi:BN X (.builtin "len") (λxs H Q=>∃p ys,xs=[.ref p]/\(Bz X.K H p ys\/Co X.K H p ys)/\Q (.int ys.length) H):=by
 intro AF s σ H xs us Q I r h
 obtain⟨p,ys,rfl,hq,q⟩:=h
 obtain⟨u,rfl,rx⟩:=vals1 r
 cases rx
 have hn:=mU
 rcases hq with hq | hq
 ·obtain⟨AL,r',pl,hz⟩:=I.list hq
  have hlen:=r'.length
  exact Calls.call_len_list pl.isList (by simp only[ay] <;> omega) ⟨.int ys.length,H,I.tok _,⟨s.toks+1,by rw[ay,hlen]⟩,q⟩
 ·obtain⟨AL,r',pl,hz⟩:=I.tuple hq
  have hlen:=r'.length
  exact len_tuple pl (by simp only[ay] <;> omega) ⟨.int ys.length,H,I.tok _,⟨s.toks+1,by rw[ay,hlen]⟩,q⟩
theorem kJ:BN X (.builtin "len") (λxs H Q=>∃z,xs=[.str z]/\z.length<=sizeLine/\Q (.int z.length) H):=by
 intro AF s σ H xs us Q I r h
 obtain⟨z,rfl,hz,q⟩:=h
 obtain⟨u,rfl,t,rfl⟩:=vals1 r
 have hn:=mU
 exact len_str (by omega) ⟨.int z.length,H,I.tok _,⟨_,rfl⟩,q⟩
theorem BN.or {f:Value}{r r':List V->Hp->VK->Prop}(h:BN X f r)(h':BN X f r'):BN X f (λxs H Q=>r xs H Q\/r' xs H Q):=by
 intro AF s σ H xs us Q I rs q
 rcases q with q | q
 ·exact h AF s σ H xs us Q I rs q
 ·exact h' AF s σ H xs us Q I rs q
theorem pN:BN X (.type "tuple") (λxs H Q=>∃p ys,xs=[.ref p]/\((Bz X.K H p ys/\∀l,H l=none->Q (.ref l) (upd H l (.tup ys)))\/(Co X.K H p ys/\Q (.ref p) H))):=by
 intro AF s σ H xs us Q I r h
 obtain⟨p,ys,rfl,h⟩:=h
 obtain⟨u,rfl,rx⟩:=vals1 r
 cases rx
 rcases h with ⟨hq,q⟩ | ⟨hq,q⟩
 ·obtain⟨AL,r',pl,hz⟩:=I.list hq
  have hlen:=r'.length
  refine call_tuple_list pl.isList (λh' kp=>?_) (by simp only[ay] <;> omega)
  have I1:Inv X AF σ H { s with heap:=h' }:=I.kept (t':=s.toks) kp
  have I2:Inv X AF σ (upd H h'.objs.size (.tup ys)) { s with heap:=h'.push { cls:=.type "tuple",data:=.seq AL.toArray } }:=
   I1.laid (t':=s.toks) (λb o e=>ac _ e) (aw _) (show AR X.prog X.w X.K _ _ _ (.tup ys) from ⟨hz,AL,r',⟨_,am _ rfl,rfl,0,rfl,rfl⟩⟩)
  exact⟨.ref h'.objs.size,_,I2,rfl,q _ (I1.AW.fresh (aw _))⟩
 ·obtain⟨AL,r',pl,hz⟩:=I.tuple hq
  exact call_tuple_same pl ⟨.ref p,H,I,rfl,q⟩
def tyV (K:W.Frag)(T:String)(x:V)(H:Hp):Prop:=match x with
 | .str _=>T = "str"
 | .int _=>T = "int"
 | .ref p=>(T = "list" /\ ∃xs,Bz K H p xs)\/(T = "tuple" /\ ∃o,K.lookup p=some o/\o.cls=.type "tuple" /\ o.dict=none) \/
   (T = "dict" /\ ((∃kvs,H p=some (.dK kvs))\/∃kvs,H p=some (.dT kvs)))\/(T = "set" /\ ∃S n,H p=some (.set S n))
 | _=>False
theorem Ov {AF:qq}{σ:St}{H:Hp}{s:Shared}{T:String}{x:V}{v:Value}(I:Inv X AF σ H s)(r:RelV x v)(ty:tyV X.K T x H):
  s.TypeIs v T/\∀a,v=.ref a->∃ob,s.heap.get? a=some ob/\ob.dict=none:=by
 cases x with
 | str z=>
  obtain⟨t,rfl⟩:=r
  cases (show T = "str" from ty)
  exact⟨typeIs_str s z t,λ_ e=>nomatch e⟩
 | int i=>
  obtain⟨t,rfl⟩:=r
  cases (show T = "int" from ty)
  exact⟨oQ s i t,λ_ e=>nomatch e⟩
 | ref p=>
  cases r
  rcases ty with ⟨rfl,xs,hq⟩ | ⟨rfl,o,hk,hc,hd⟩ | ⟨rfl,hk⟩ | ⟨rfl,S,n,hk⟩
  ·obtain⟨AL,_,pl,_⟩:=I.list hq
   refine⟨pl.isList.typeIs,λa e=>?_⟩
   cases e
   obtain⟨o,n,e,c,hd,_⟩:=pl
   exact⟨o,e,hd⟩
  ·refine⟨⟨o,I.Cs p o hk,hc⟩,λa e=>?_⟩
   cases e
   exact⟨o,I.Cs _ o hk,hd⟩
  ·have z:∃o,s.heap.get? p=some o/\o.ExactDict:=by
    rcases hk with ⟨kvs,hk⟩ | ⟨kvs,hk⟩
    ·obtain⟨_,_,_,_,o,_,_,e,ex,_⟩:=I.AW p _ hk
     exact⟨o,e,ex⟩
    ·obtain⟨_,_,_,_,o,_,_,e,ex,_⟩:=I.AW p _ hk
     exact⟨o,e,ex⟩
   obtain⟨o,e,ex⟩:=z
   refine⟨⟨o,e,ex.1⟩,λa e2=>?_⟩
   cases e2
   exact⟨o,e,ex.2.1⟩
  ·obtain⟨o,_,_,_,e,ex,_⟩:=I.AW p _ hk
   refine⟨⟨o,e,ex.1⟩,λa e2=>?_⟩
   cases e2
   exact⟨o,e,ex.2.1⟩
 | _=>exact False.elim ty
def U7 (K:W.Frag)(T:String)(r:V->List V->Hp->VK->Prop)(to:TE)(t:TA):TE:=fun σ H Q=>to σ H λx H1=>tyV K T x H1/\t σ H1 λxs H2=>r x xs H2 Q
variable {o e:Expr}{es:qB}{to:TE}{t:TA}{name:Str}{apos AS:Pos}{T id:String}{r:V->List V->Hp->VK->Prop}
theorem yg (pa:PlainAttrs T)(slot:Slot T name id)(Uj:typeOf (.builtin id)=pure (.type "method_descriptor"))(hm:Xy X id r)(ho:PE X o to)(ha:PA X (e::es) t)
  (B6:attributeBase o name X.env (eval o X.env)=eval o X.env:=by rfl)
  (Fh:((backTo AS (starEach (e::es) X.env)).all (λx=>!x.1)&&(backToKw AS (keywordEach [] X.env)).all (λx=>x.1.isSome)
   && decide ((e::es).length+([]:List Keyword).length+(if ([]:List Keyword).isEmpty then 0 else 1) < 30))=true:=by rfl)
  (B7:(apos.endLine == AS.line)=true:=by rfl) (hs:starEach (e::es) X.env=(false,eval e X.env)::starEach es X.env:=by rfl) (JU:(backTo AS (starEach es X.env)).any (·.1)=false:=by rfl):
  PE X (.Call (.Attribute o name apos) (e::es) [] AS) (U7 X.K T r to t):=by
 intro AF s σ H Q I h
 refine wpAny_Call_method_late B6 Fh B7 rfl (AZ (ho AF s σ H _ I h) ?_)
 rintro v s1 ⟨x,H1,I1,r1,ty,q1⟩
 obtain⟨h1,h2⟩:=Ov I1 r1 ty
 refine⟨T,id,pa,slot,Uj,h1,h2,?_⟩
 have hA:=ha AS AF s1 σ H1 _ I1 q1
 rw[hs] at hA ⊢
 refine Calls.callWith_builtin (by show (false||(backTo AS (starEach es X.env)).any (·.1))=false;rw[JU] <;> rfl) (Calls.evalArgs_plain ?_)
 exact AZ hA λus s2 ⟨vs,H2,I2,r2,q2⟩=>hm AF s2 σ H2 x vs v us Q I2 r1 r2 q2
end
def MtM (X:Cx)(id:String)(r:V->List V->Hp->VK->Prop):Prop:=
 ∀(AF:qq) (s:Shared) (σ:St) (H:Hp) (x:V) (xs:List V) (v:Value) (us:qv) (Q:VK),Inv X AF σ H s->RelV x v->Vals xs us->r x xs H Q->
  wpAny (model X.prog X.w) X.A (call (.builtin id) (v::us)) (EP X AF σ Q) X.xe s
theorem Vals.one {x:V}{us:qv}(h:Vals [x] us):∃u,us=[u]/\RelV x u:=by
 cases h with
 | cons r t=>cases t;exact⟨_,rfl,r⟩
theorem Vals.reverse {xs:List V}{us:qv}(h:Vals xs us):Vals xs.reverse us.reverse:=by
 induction h with
 | nil=>exact .nil
 | cons r t ih=>rw[kP,kP];exact Vals.append ih (.cons r .nil)
section
variable {X:Cx}{AF:qq}{σ:St}{H:Hp}{s:Shared}{l b:Addr}{xs ys zs:List V}
theorem Inv.VR {AL its':qv}{n:Nat}{f:Array Value->Array Value}{t':Nat}(I:Inv X AF σ H s)(hH:H l=some (.lst xs))
  (e:s.heap.get? l=some { cls:=.type "list",data:=.seq AL.toArray n }) (hf:f AL.toArray=its'.toArray) (hv:Vals ys its') (hz:ys.length<=sizeLine):
  Inv X AF σ (upd H l (.lst ys)) { s with heap:=s.heap.update l (Obj.mapSeq f),toks:=t' }:=by
 have q:=PySem.IsL.update e f
 rw[hf] at q
 refine I.write (x:=l) (e:=l) (by rw[hH];exact trivial) (.inl rfl) (λb' u hb hu=>(df s.heap (Obj.mapSeq f) (fN hb)).trans hu) ⟨_,q⟩ ?_
 exact⟨hz,its',_,hv,q⟩
theorem Inv.YA {AL:qv}{t':Nat}(I:Inv X AF σ H s)(hv:Vals ys AL)(hz:ys.length<=sizeLine):
  Inv X AF σ (upd H s.heap.objs.size (.lst ys)) { s with heap:=s.heap.push { cls:=.type "list",data:=.seq AL.toArray },toks:=t' }:=
 I.laid (λ_ _ q=>ac _ q) (aw _) ⟨hz,AL,0,hv,am _ rfl⟩
theorem Inv.fresh (I:Inv X AF σ H s):H s.heap.objs.size=none:=I.AW.fresh (aw _)
theorem Inv.MS (I:Inv X AF σ H s)(hH:H l=some (.lst xs)):xs.length<=sizeLine/\∃(AL:qv) (n:Nat),Vals xs AL/\xs.length=AL.length/\s.heap.get? l=some { cls:=.type "list",data:=.seq AL.toArray n }:=by
 obtain⟨z,AL,n,r,e⟩:=I.AW l _ hH
 exact⟨z,AL,n,r,r.length,e⟩
theorem Il {n:Nat}(h:n<=sizeLine):Builtin.List.listTooLong n=false:=by
 unfold Builtin.List.listTooLong
 exact de (by omega)
end
section
variable {X:Cx}
def vU:V->List V->Hp->VK->Prop:=λx vs H Q=>∃l xs y,x=.ref l/\vs=[y]/\H l=some (.lst xs)/\xs.length < sizeLine/\Q .AO (upd H l (.lst (xs++[y])))
theorem lM:MtM X "list.append" vU:=by
 intro AF s σ H x vs v us Q I rx rv h
 obtain⟨l,xs,y,rfl,rfl,hH,hz,q⟩:=h
 cases rx
 obtain⟨u,rfl,ru⟩:=rv.one
 obtain⟨z,AL,n,r,hl,e⟩:=I.MS hH
 refine k9 F.slot_list_append ⟨_,e,rfl⟩ F.entry_list_append (F.args_list_append_2 _ _) (PySem.list_append l AL.toArray n u (by rw[ay];omega)) ⟨e,?_⟩
 refine⟨.AO,_,I.VR (its':=AL++[u]) hH e (by simp) (r.append (.cons ru .nil)) ?_,rfl,q⟩
 rw[bo,fm]
 omega
def Le:V->List V->Hp->VK->Prop:=λx vs H Q=>∃l b xs zs,x=.ref l/\vs=[.ref b]/\H l=some (.lst xs)/\H b=some (.lst zs)/\xs.length+zs.length<=sizeLine/\Q .AO (upd H l (.lst (xs++zs)))
theorem Gn:MtM X "list.extend" Le:=by
 intro AF s σ H x vs v us Q I rx rv h
 obtain⟨l,b,xs,zs,rfl,rfl,hH,hB,hz,q⟩:=h
 cases rx
 obtain⟨u,rfl,ru⟩:=rv.one
 cases ru
 obtain⟨z,AL,n,r,hl,e⟩:=I.MS hH
 obtain⟨z2,C9,n2,r2,U8,e2⟩:=I.MS hB
 have hsz:AL.toArray.size+C9.toArray.size<=sizeLine:=by rw[ay,ay];omega
 have VS:¬ (!AL.toArray.isEmpty&&Builtin.List.listTooLong (AL.toArray.size+C9.toArray.size))=true:=by
  rw[Il hsz,Bool.and_false]
  exact ba
 refine k9 F.slot_list_extend ⟨_,e,rfl⟩ F.entry_list_extend (F.args_list_extend_2 _ _)
  (AutoSeq1.list_extend_list_list_0 l AL.toArray n b C9.toArray n2 VS (by rw[ay];omega) (by omega)) ⟨e,e2,?_⟩
 refine⟨.AO,_,I.VR (its':=AL++C9) hH e (by simp) (r.append r2) ?_,rfl,q⟩
 rw[bo]
 omega
def Ox:R2:=λx y H Q=>∃l b xs zs,x=.ref l/\y=.ref b/\H l=some (.lst xs)/\H b=some (.lst zs)/\xs.length+zs.length<=sizeLine/\∀p,H p=none->Q (.ref p) (upd H p (.lst (xs++zs)))
theorem Oz:Ct X (binaryOp .Add) Ox:=by
 intro AF s σ H x y v u Q I rx ry h
 obtain⟨l,b,xs,zs,rfl,rfl,hH,hB,hz,q⟩:=h
 cases rx
 cases ry
 obtain⟨z,AL,n,r,hl,e⟩:=I.MS hH
 obtain⟨z2,C9,n2,r2,U8,e2⟩:=I.MS hB
 refine PySem.P.add_list e e2 ?_ (by rw[ay,ay];omega)
 have ea:AL.toArray++C9.toArray=(AL++C9).toArray:=by simp
 rw[ea]
 exact⟨.ref _,_,I.YA (t':=s.toks) (r.append r2) (by rw[bo];omega),rfl,q _ I.fresh⟩
end
end Lake.L2
namespace Lake.Att
open PySem PySem.W PySem.Calls PyProof.Rows
theorem uC {P:Params}{h:Heap}:∀(ns:qS) (vs:qv),WellAll P h vs (ns.map WData.int)->IntsAre vs ns:=by
 intro ns
 induction ns with
 | nil=>
  intro vs w
  rw[iE] at w
  cases w
  exact .nil
 | cons n ns ih=>
  intro vs w
  rw[a0] at w
  cases w with
  | cons a b=>
   cases a
   exact .cons _ _ (ih _ b)
theorem Gp {l:OpenLaw}{n:Nat}(hn:l.most=some n){P:Params}{h:Heap}{args:List WData}{vals:qv}
  (PY:l.row.toRowW.claim.pre args=true) (EJ:WellAll P h vals args):
  ∃a vs ns,vals=[Value.ref a]/\args=[WData.list (ns.map WData.int)]/\h.get? a=some { cls:=.type "list",data:=.seq vs.toArray }/\IntsAre vs ns/\ns.length<=n:=by
 have hsh:WShape.hasAll [] args [.list .int]=true:=(pre_splitW PY).1
 have hc:l.pre.holds [] { args:=args }=true:=(pre_splitW PY).2
 obtain⟨d,r,rfl,h1,h2⟩:=hasAllW_cons hsh
 obtain rfl:=hasAllW_nil h2
 obtain⟨xs,rfl,h3⟩:=hasW_list h1
 obtain⟨ns,rfl⟩:=items_int h3
 have hlen:ns.length<=n:=by
  unfold OpenLaw.pre at hc
  have h4:(WTm.not (.lt (.lit (.int (n:Int))) (.len (.arg 0)))).holds [] { args:=[.list (ns.map .int)] }=true:=by
   have h4:=(holds_andW hc).1
   rw[hn] at h4
   exact h4
  have h5:=condW_of h4 (w_not (w_lt w_lit (w_len_list (w_arg rfl))))
  rw[aI] at h5
  refine Nat.le_of_not_lt λq=>?_
  have q':(n:Int) < ((ns.length:Nat):Int):=by omega
  first
   | (rw[hV q'] at h5;exact absurd h5 (by decide))
   | (simp at h5;omega)
 cases EJ with
 | cons w1 w2=>
  cases w2
  cases w1 with
  | list ho MU=>exact⟨_,_,ns,rfl,rfl,ho,uC ns _ MU,hlen⟩
theorem Gq (l:OpenLaw)(args:List WData):l.row.toRowW.claim.post args (.bool true) args=true:=
 postW_of (r:=l.row.toRowW) (X:=(true == true))
  (show WShape.has [] (.bool true) .bool=true by first | rfl | decide | simp[WShape.has,WShape.arms,WShape.armsAll])
  (show (WTm.eq .res (.lit (.bool true))).value [] { args:=args,res:=some (.bool true),after:=args }=some (.bool (true == true)) from w_eq_bool (w_res rfl) w_lit) rfl
theorem II {l:OpenLaw}{n:Nat}{q:Program}{loose:qE}{XP:(Str->Option Value)->Heap->Prop}{YP:World->Heap->Prop}{d:DefRec}
  (hn:l.most=some n) (VT:d.params.defaults=[])
  (call:∀(w:World) (s₀ s₁:Shared) (mg mb:Str->Option Value) (fa:Addr) (o:Obj) (pm cd doc:Value) (a:Addr) (vs:qv) (ns:qS),
   Ground q loose [] XP w s₀ mg mb s₁.heap->YP w s₁.heap->
   s₁.heap.get? fa=some o->o.data=.func (docDef d.name d.params d.body d.scope pm cd doc)->s₁.heap.CodeRec cd d.name->mg d.name=some (.ref fa)->
   s₁.heap.get? a=some { cls:=.type "list",data:=.seq vs.toArray }->IntsAre vs ns->ns.length<=n->s₁.gens=#[]->
   codeAny (model l.prog w) callerA (.call (.ref fa) ⟨[.ref a],[]⟩) (λr s'=>r=.ok (.ret (.bool true))/\OldK s₁.heap s'.heap/\s'.os=s₁.os/\AllBare s'.gens) s₁):
  WalkO q loose XP YP l.row.toRowW d [] (λf vs=>PySem.call f vs):=by
 intro w s₀ s₁ mg mb G Y fa o pm cd doc dV kV ho hd EI hD VU hg args vals as PY hlay hrd EJ Uk
 obtain rfl:dV=.none:=Dflts.none hD VT
 obtain rfl:kV=.none:=Dflts.noKw hD
 obtain⟨a,vs,ns,rfl,rfl,Ul,hints,hlen⟩:=Gp hn PY EJ
 refine enter_call (ml (call w s₀ s₁ mg mb fa o pm cd doc a vs ns G Y ho (fd_plain hd) EI VU Ul hints hlen hg) λr s' hq=>?_)
 obtain⟨rfl,h2,h3,h4⟩:=hq
 exact⟨.inl ⟨.bool true,.bool true,[],rfl,λ_=>rfl,.bool true,Gq l _,λ_=>⟨List.Pairwise.nil,λ_ hm=>(nomatch hm)⟩⟩,h2,h3,h4⟩
end Lake.Att
namespace Lake.L2
open PySem PySem.Spec PyProof.Rows
theorem xn:∀{vs:qv}{ns:qS},IntsAre vs ns->Vals (ns.map V.int) vs
 | _,_,.nil=>.nil
 | _,_,.cons n t h=>.cons ⟨t,rfl⟩ (xn h)
def PZ (H:Hp):Prop:=∀b,H b=none\/∃o xs,H b=some (.frz o (.lst xs))
variable {K:W.Frag}{fd:FuncData}{x:Str}
theorem Im {P:Program}{w:World}{mg mb:Str->Option Value}{CX:MD}{k:Nat}{fa a:Addr}{sp:Sp}{s₁:Shared}{vs:qv}{ns:qS}
  (KX:K.In s₁.heap) (P4:s₁.heap.Ns mainGlobals mg) (hb:s₁.heap.Ns builtinsNs mb) (hbb:∀x:Str,x ≠ "__name__" -> mb x=bootBuiltins x) (YB:s₁.heap.NoLimit) (hg:s₁.gens=#[])
  (ha:s₁.heap.get? a=some { cls:=.type "list",data:=.seq vs.toArray }) (hi:IntsAre vs ns) (hl:ns.length<=sizeLine) (hr:A7 k callerA)
  (F:∀base:Heap,K.In base->base.Ns mainGlobals mg->BF P w K mg base CX k fa fd [x] sp) (VV:∀(s:Shared) (u:Value),BindsTo s fd ⟨[u],[]⟩ [(x,u)])
  (Sk:∀H:Hp,PZ H->Bz K H a (ns.map V.int)->sp [.ref a] H (λv _=>v=.bl true) λ_ _ _=>False)
  (YC:∀H e s',CX [] H s₁ (λ_ _ _=>False) e s'->False):
  codeAny (model P w) callerA (.call (.ref fa) ⟨[.ref a],[]⟩) (λr s'=>r=.ok (.ret (.bool true))/\OldK s₁.heap s'.heap/\s'.os=s₁.os/\AllBare s'.gens) s₁:=by
 have rv:=xn hi
 have BC:=hi.length
 have core:∀H:Hp,PZ H->Bz K H a (ns.map V.int)->Dx P w K H s₁.heap->(∀b,H b≠none->b=a)->(H a≠none->K.lookup a=none)->
   codeAny (model P w) callerA (.call (.ref fa) ⟨[.ref a],[]⟩) (λr s'=>r=.ok (.ret (.bool true))/\OldK s₁.heap s'.heap/\s'.os=s₁.os/\AllBare s'.gens) s₁:=by
  intro H hO hS AW hA hK
  have Lc:∀{b:Addr}{o:Obj},s₁.heap.get? b=some o->H b=none->(ou s₁.heap H).get? b=some o:=λe n=>HN e n
  have VN:∀{b:Addr}{o:Obj}{es:Array DictEntry}{ep:Nat},s₁.heap.get? b=some o->o.data=.dict es ep->H b=none:=λ{b o es ep} e d=>by
   cases q:H b with
   | none=>rfl
   | some u=>
    have e':b=a:=hA b (by rw[q];simp)
    subst e'
    rw[ha] at e;cases e
    have d':Data.seq vs.toArray _=Data.dict es ep:=d
    cases d'
  have XA:∀{b:Addr}{m:Str->Option Value},s₁.heap.Ns b m->(ou s₁.heap H).Ns b m:=λ{b m} ⟨o,es,ep,e,d,r⟩=>⟨o,es,ep,Lc e (VN e d),d,r⟩
  have hKb:K.In (ou s₁.heap H):=λb o e=>Lc (KX b o e) (by
   cases q:H b with
   | none=>rfl
   | some u=>
    have e':b=a:=hA b (by rw[q];simp)
    subst e'
    rw[hK (by rw[q];simp)] at e;cases e)
  have hM:Mod K mg (ou s₁.heap H):=⟨hKb,XA P4,⟨mb,XA hb,hbb⟩,let ⟨mc,h1,h2⟩:=YB;⟨mc,XA h1,h2⟩⟩
  have e0:JJ P w K mg (ou s₁.heap H) callerA [] s₁ H:=⟨rfl,hM,λb o e=>KJ e,Nat.le_of_eq (Fw _ _),trivial,λb hb=>absurd (show b∈([]:qV) from hb) (by simp),AW,.of_eq hg⟩
  refine ml ((F _ hKb (XA P4)).run callerA [] s₁ H ⟨[.ref a],[]⟩ [.ref a] [.ref a] _ _ hr e0 (VV s₁ (.ref a)) (.cons rfl .nil) (Sk H hO hS)) λr s' h=>?_
  cases r with
  | error e=>exact(YC H e s' h).elim
  | ok fl=>
   cases fl with
   | next=>exact False.elim h
   | brk=>exact False.elim h
   | cont=>exact False.elim h
   | ret u=>
    obtain⟨v,H',os,bare,un,YD,r',q⟩:=h
    have q':v=.bl true:=q
    subst q'
    obtain rfl:u=Value.bool true:=r'
    refine⟨rfl,OldK.of_keep λb o e=>?_,os,bare⟩
    cases q:H b with
    | none=>exact un.keep b o e q (by intro z;exact absurd (show b∈([]:qV) from z) (by simp)) (by simp)
    | some u=>
     rcases hO b with z | ⟨ob,xs,z⟩
     ·rw[q] at z;cases z
     ·have z2:=un.GO b ob _ z
      obtain⟨e1,_⟩:=AW b _ z
      obtain⟨e2,_⟩:=YD b _ z2
      rw[e] at e1;cases e1
      exact e2
 cases hk:K.lookup a with
 | some o=>
  have e:=KX a o hk
  rw[ha] at e
  cases e
  refine core (λ_=>none) (λ_=>.inl rfl) (.inr ⟨_,vs.toArray,_,hk,rfl,rfl,rfl,by rw[ay,BC];exact hl,by simpa using rv⟩) (λb u z=>by have z':(none:Option HO)=some u:=z;cases z') (λb z=>absurd rfl z) λz=>absurd rfl z
 | none=>
  refine core (λb=>if b=a then some (.frz { cls:=.type "list",data:=.seq vs.toArray } (.lst (ns.map V.int))) else none) (λb=>?_) (.inl (.inr ⟨{ cls:=.type "list",data:=.seq vs.toArray },bd rfl⟩)) (λb u z=>?_) (λb z=>?_) λ_=>hk
  ·by_cases hb:b=a
   ·exact .inr ⟨_,_,bd hb⟩
   ·exact .inl (ax hb)
  ·by_cases hb:b=a
   ·have z':=(bd hb).symm.trans z
    cases z'
    subst hb
    exact⟨ha,by rw[aI];exact hl,vs,_,rv,ha⟩
   ·have z':=(ax hb).symm.trans z
    cases z'
  ·by_cases hb:b=a
   ·exact hb
   ·exact absurd (ax hb) z
theorem P5 {l:W.OpenLaw}{n k:Nat}{q:Program}{loose:qE}{XP:(Str->Option Value)->Heap->Prop}{YP:World->Heap->Prop}{d:DefRec}{K:Params->W.Frag}{CX:World->MD}{sp:World->Sp}
  (hn:l.most=some n) (Xx:n<=sizeLine) (VT:d.params.defaults=[]) (hr:A7 k callerA)
  (hY:∀(w:World) (h:Heap),YP w h->(K w.params).In h)
  (F:∀(w:World) (mg:Str->Option Value) (fa:Addr) (h:Heap),(K w.params).In h->h.Ns mainGlobals mg->mg d.name=some (.ref fa)->
   ∃fd:FuncData,(∀(s:Shared) (u:Value),BindsTo s fd ⟨[u],[]⟩ [(x,u)]) /\
    ∀base:Heap,(K w.params).In base->base.Ns mainGlobals mg->BF l.prog w (K w.params) mg base (CX w) k fa fd [x] (sp w))
  (Sk:∀(w:World) (H:Hp) (a:Addr) (ns:qS),ns.length<=n->PZ H->Bz (K w.params) H a (ns.map V.int)->sp w [.ref a] H (λv _=>v=.bl true) λ_ _ _=>False)
  (YC:∀(w:World) (H:Hp) (s:Shared) (e:Value) (s':Shared),CX w [] H s (λ_ _ _=>False) e s'->False):
  W.WalkO q loose XP YP l.row.toRowW d [] (λf vs=>PySem.call f vs):=by
 refine Att.II hn VT λw s₀ s₁ mg mb fa o pm cd doc a vs ns G Y ho hd EI VU Ul hints hlen hg=>?_
 have KX:=hY w _ Y
 obtain⟨fd,hb,hF⟩:=F w mg fa _ KX G.T.g VU
 exact Im KX G.T.g G.T.b G.T.builtins G.T.nolimit hg Ul hints (dP hlen Xx) hr hF hb (λH hO hS=>Sk w H a ns hlen hO hS) λH e s'=>YC w H s₁ e s'
noncomputable def inClass (s:Stmt)(j:Nat):Stmt:=match s with
 | .ClassDef _ _ _ body _ _ _ _ _ _ _=>body.getD j (.Pass ⟨0,0,0,0⟩)
 | _=>.Pass ⟨0,0,0,0⟩
def fZ (s:Stmt):Arguments:=match s with
 | .FunctionDef _ a _ _ _ _ _ _ _ _=>a
 | _=>{ posonlyargs:=[],args:=[],vararg:=none,kwonlyargs:=[],kw_defaults:=[],kwarg:=none,defaults:=[] }
noncomputable def d8 (s:Stmt):List Stmt:=match s with
 | .FunctionDef _ _ b _ _ _ _ _ _ _=>b
 | _=>[]
def aC (s:Stmt):Scope:=match s with
 | .FunctionDef _ _ _ _ _ _ sc _ _ _=>sc
 | _=>{ kind:=.function,names:=[],isGenerator:=false,isCoroutine:=false }
abbrev Fu:MD:=λ_ _ _ _ _ _=>False
abbrev E0:XK:=λ_ _ _=>False
theorem uD {X:Cx}:mW Fu X E0:=λ_ _ _ _ _ _ _ h=>h.elim
structure EA (K:W.Frag)(x qual:Str)(st:Stmt)(f:Addr)(fd:FuncData):Prop where
 ex:∃(oc:Value) (od:Option Addr) (kV doc pm:Value) (an:Option Addr) (DB ct:Value) (Sj:Array (Option Value)),
  fd=W.fnOf x qual (fZ st) (d8 st) (aC st) .none kV doc pm an DB ct/\K.lookup f=some ⟨oc,od,.func fd,Sj⟩/\W.codeIn K DB qual=true
 kp:W.keepIn K (.ref f)=true
section
variable {P:Program}{w:World}{K:W.Frag}{mg:Str->Option Value}{base:Heap}
theorem EA.ok {qual:Str}{st:Stmt}{f:Addr}{N ps:qE}{k:Nat}{sp:Sp}(F:EA K x qual st f fd)(S:AN N ps (aC st))(len:∀vs H Q E,sp vs H Q E->vs.length=ps.length)
  (ME:∀(DB:Value) (A:Around) (outer:List Env) (s:Shared) (H:Hp) (vs:List V) (Q:VK) (E:XK),A7 k (A.deeper (envOfC qual (aC st) s.heap.objs.size f DB))->sp vs H Q E->
   ∃t,F0 (sJ Fu P w K mg base N qual (aC st) f DB A outer s H E).LJ (d8 st) t/\t { nx:=λ_ H'=>Q .AO H',rt:=Q } (start N vs) H):BF P w K mg base Fu (k+1) f fd ps sp:=by
 obtain⟨oc,od,kV,doc,pm,an,DB,ct,Sj,rfl,lk,EI⟩:=F.ex
 refine Q7 lk EI S len λA outer s H vs Q E hr Sk=>?_
 obtain⟨t,h,q⟩:=ME DB A outer s H vs Q E hr Sk
 exact⟨t,h.LJ,q⟩
theorem EA.binds {qual:Str}{st:Stmt}{f:Addr}{ps:qE}(F:EA K x qual st f fd)
  (h:∀(kV doc pm:Value) (an:Option Addr) (DB ct:Value) (us:qv),us.length=ps.length->bindArgs (W.fnOf x qual (fZ st) (d8 st) (aC st) .none kV doc pm an DB ct) ⟨us,[]⟩=pure (ps.zip us)):Binds K fd ps []:=by
 obtain⟨oc,od,kV,doc,pm,an,DB,ct,Sj,rfl,lk,EI⟩:=F.ex
 exact .all (h kV doc pm an DB ct)
theorem MV {qual:Str}{st:Stmt}{f:Addr}{oc:Value}{od an:Option Addr}{Sj:Array (Option Value)}{kV doc pm DB ct:Value}(l:K.lookup f=some ⟨oc,od,.func (W.fnOf x qual (fZ st) (d8 st) (aC st) .none kV doc pm an DB ct),Sj⟩)
  (c:W.codeIn K DB qual=true) (k:W.keepIn K (.ref f)=true):EA K x qual st f (W.fnOf x qual (fZ st) (d8 st) (aC st) .none kV doc pm an DB ct):=⟨⟨oc,od,kV,doc,pm,an,DB,ct,Sj,rfl,l,c⟩,k⟩
end
theorem dG {A:Around}{k:Nat}(hr:A7 k A):A.units+9 < cLine:=kC (p5 (by decide:9<=64) _) hr.units
section
variable {X:Cx}
theorem pv (i:Nat){pos:Pos}(hN:X.N[i]?=some x:=by rfl)(hv:Mc X.env.scope x:=by first | exact ff rfl | exact fz (ff rfl) | exact fz (fz rfl))(hd:(x == ("__debug__" : Str))=false:=by decide)
  (EI:(x == ("__classdict__" : Str))=false:=by decide):PE X (.Name x pos) (aH i):=ie hN hv hd EI
end
theorem lZ {A B:Prop}(h:B):if false=true then A else B:=by
 rw[ax ba]
 exact h
theorem jb {A B:Prop}(h:A):if true=true then A else B:=by
 rw[bd rfl]
 exact h
def AK (H H':Hp):Prop:=∀b o,H b=some o->H' b=some o
theorem AK.refl (H:Hp):AK H H:=λ_ _ h=>h
theorem AK.trans {H H1 H2:Hp}(a:AK H H1)(b:AK H1 H2):AK H H2:=λc o h=>b c o (a c o h)
theorem AK.free {H H':Hp}(e:AK H H'){l:Addr}(h:H' l=Option.none):H l=Option.none:=by
 cases q:H l with
 | none=>rfl
 | some o=>
  rw[e l o q] at h
  cases h
section
variable {X:Cx}
theorem Gr:BN X (.builtin "len") (λxs H Q=>∃a kvs,xs=[V.ref a]/\H a=some (.dK kvs)/\Q (.int kvs.length) H):=by
 intro AF s σ H xs us Q I r h
 obtain⟨a,kvs,rfl,ha,q⟩:=h
 obtain⟨u,rfl,ru⟩:=vals1 r
 cases ru
 exact Q8 I (.inl ha) λt s' I'=>⟨.int kvs.length,H,I',⟨t,rfl⟩,q⟩
end
theorem sU {α β:Type}{l:List α}{f:α->β->Sem (ForInStep β)}(g:α->β->β):∀(c:β),(∀x∈l,∀c,f x c=pure (.yield (g x c)))->
  forIn l c f=pure (l.foldl (λc x=>g x c) c):=by
 induction l with
 | nil=>intro c _;rfl
 | cons x l ih=>
  intro c h
  rw[kA,h x ar,pure_bind]
  exact ih _ λy hy=>h y (al _ hy)
noncomputable def fW (env:Env)(x:Str×NameKind)(c:List (Str×Addr)):List (Str×Addr):=if x.2=.free then (x.1,(env.cells.lookup x.1).getD 0)::c else c
noncomputable def qj (env:Env)(names:List (Str×NameKind)):List (Str×Addr):=names.foldl (λc x=>fW env x c) []
variable {scope:Scope}
theorem xV {env:Env}(h:∀x∈scope.names,x.2=.free->∃c,env.cells.lookup x.1=some c):closureFor scope env=pure (qj env scope.names):=by
 simp only[closureFor]
 rw[sU (fW env) [] (λx hx c=>by
  obtain⟨n,kind⟩:=x
  by_cases e:kind=.free
  ·subst e
   obtain⟨a,ha⟩:=h _ hx rfl
   have XB:env.cells.lookup n=some a:=ha
   simp[fW,cellOf,XB]
  ·have:(kind == NameKind.free)=false:=by simpa using e
   simp[fW,e,this])]
 rfl
theorem uE {env:Env}:∀(l:List (Str×NameKind)) (cs:List (Str×Addr)),(∀x∈l,x.2=.free->∃c,env.cells.lookup x.1=some c)->(∀y c,cs.lookup y=some c->env.cells.lookup y=some c)->
  ∀y c,(l.foldl (λc x=>fW env x c) cs).lookup y=some c->env.cells.lookup y=some c
 | [],cs,_,h2,y,c,e=>h2 y c e
 | x::r,cs,h1,h2,y,c,e=>by
  refine uE r (fW env x cs) (λz hz=>h1 z (al _ hz)) (λz d q=>?_) y c e
  unfold fW at q
  by_cases k:x.2=.free
  ·rw[bd k] at q
   obtain⟨a,ha⟩:=h1 x ar k
   rw[cw] at q
   cases hb:z == x.1 with
   | true=>
    rw[hb] at q
    have ez:z=x.1:=by simpa using hb
    rw[ha] at q
    have q':a=d:=by simpa using q
    rw[ez,ha,q']
   | false=>
    rw[hb] at q
    exact h2 z d q
  ·rw[ax k] at q
   exact h2 z d q
variable {names:List (Str×NameKind)}
theorem jE {env:Env}(h:∀x∈names,x.2=.free->∃c,env.cells.lookup x.1=some c){y:Str}{c:Addr}(e:(qj env names).lookup y=some c):env.cells.lookup y=some c:=
 uE names [] h (λy c q=>by simp at q) y c e
theorem uF {env:Env}{y:Str}:∀(l:List (Str×NameKind)) (cs:List (Str×Addr)),((y,.free)∈l\/∃c,cs.lookup y=some c)->∃c,(l.foldl (λc x=>fW env x c) cs).lookup y=some c
 | [],cs,h=>by
  rcases h with h | h
  ·simp at h
  ·exact h
 | x::r,cs,h=>by
  refine uF r (fW env x cs) ?_
  rcases h with h | ⟨c,h⟩
  ·rcases be.mp h with e | e
   ·refine .inr ⟨(env.cells.lookup y).getD 0,?_⟩
    rw[← e]
    simp[fW]
   ·exact .inl e
  ·refine .inr ?_
   unfold fW
   split
   ·rw[cw]
    split
    ·exact⟨_,rfl⟩
    ·exact⟨c,h⟩
   ·exact⟨c,h⟩
theorem Gs {env:Env}{y:Str}(h:(y,.free)∈names):∃c,(qj env names).lookup y=some c:=uF names [] (.inl h)
theorem mem_of_lookup {x:Str}{k:NameKind}:∀{l:List (Str×NameKind)},l.lookup x=some k->(x,k)∈l
 | [],h=>by simp at h
 | (n,j)::r,h=>by
  rw[cw] at h
  cases hb:x == n with
  | true=>
   rw[hb] at h
   have e:x=n:=by simpa using hb
   have e2:j=k:=by simpa using h
   rw[e,e2]
   exact ar
  | false=>
   rw[hb] at h
   exact al _ (mem_of_lookup h)
theorem ql {env:Env}:∀{names:List (Str×NameKind)}{x:Str},names.lookup x=some .free->
  (names.map λ(n,k)=>if (k == NameKind.free&&env.scope.kind == .function&&env.kindOf n == some .cell) then (n,NameKind.cell) else (n,k)).lookup x=some .cell \/
  (names.map λ(n,k)=>if (k == NameKind.free&&env.scope.kind == .function&&env.kindOf n == some .cell) then (n,NameKind.cell) else (n,k)).lookup x=some .free
 | [],_,h=>by simp at h
 | (n,k)::r,x,h=>by
  have ih:=@ql env r x
  cases hx:x == n with
  | true=>
   simp only[cw,hx] at h
   cases h
   by_cases hc:(NameKind.free == NameKind.free&&env.scope.kind == .function&&env.kindOf n == some .cell)=true
   ·refine .inl ?_
    simp only[a0,bd hc,cw,hx]
   ·refine .inr ?_
    simp only[a0,ax hc,cw,hx]
  | false=>
   simp only[cw,hx] at h
   have ih:=ih h
   by_cases hc:(k == NameKind.free&&env.scope.kind == .function&&env.kindOf n == some .cell)=true
   ·simp only[a0,bd hc,cw,hx]
    exact ih
   ·simp only[a0,ax hc,cw,hx]
    exact ih
theorem oF {env:Env}:∀{names:List (Str×NameKind)}{x:Str}{j:NameKind},(j=.cell\/j=.free)->
  (names.map λ(n,k)=>if (k == NameKind.free&&env.scope.kind == .function&&env.kindOf n == some .cell) then (n,NameKind.cell) else (n,k)).lookup x=some j->(x,.free)∈names\/(x,.cell)∈names
 | [],_,_,_,h=>by simp at h
 | (n,k)::r,x,j,hj,h=>by
  have ih:=@oF env r x j hj
  cases hx:x == n with
  | true=>
   have e:x=n:=by simpa using hx
   subst e
   by_cases hc:(k == NameKind.free&&env.scope.kind == .function&&env.kindOf x == some .cell)=true
   ·have hk:k=.free:=by
     simp only[dv,kD] at hc
     exact hc.1.1
    subst hk
    exact .inl ar
   ·simp only[a0,ax hc,cw,hx] at h
    have hk:k=j:=by simpa using h
    rcases hj with z | z
    ·rw[hk,z]
     exact .inr ar
    ·rw[hk,z]
     exact .inl ar
  | false=>
   by_cases hc:(k == NameKind.free&&env.scope.kind == .function&&env.kindOf n == some .cell)=true
   ·simp only[a0,bd hc,cw,hx] at h
    exact(ih h).imp (al _) (al _)
   ·simp only[a0,ax hc,cw,hx] at h
    exact(ih h).imp (al _) (al _)
noncomputable def Sn:Option Str->Addr->List (Str×Addr)
 | some z,c=>[(z,c)]
 | none,_=>[]
noncomputable def oG:Option Str->Heap->Heap
 | some _,h=>h.push { cls:=.type "cell",data:=.cell none }
 | none,h=>h
abbrev Cx.B0 (X:Cx)(z:Option Str)(N:qE)(scope:Scope)(C:Addr)(s:Shared)(H:Hp)(fp:qV):Cx where
 prog:=X.prog
 w:=X.w
 K:=X.K
 mg:=X.mg
 base:=X.base
 A:=X.A
 N:=N
 s₀:=s
 H₀:=H
 env:=compEnvC scope (Sn z (C+1)++qj X.env scope.names) C X.env
 outer:=X.stack
 stack:=X.stack
 ex:=fp
 fn:=match z with
  | some z=>λx=>x == z
  | none=>λ_=>false
 calm:=X.calm
 pn:=[]
 xe:=λ_ _=>False
abbrev Cx.comp (X:Cx)(N:qE)(scope:Scope)(C:Addr)(s:Shared)(H:Hp)(fp:qV):Cx:=X.B0 none N scope C s H fp
noncomputable def uG (scope:Scope)(ON N:qE)(AQ:List (Option Nat)):Bool:=
 AQ.length == N.length&&(List.range N.length).all λj=>match AQ[j]? with
  | some (some i)=>(match N[j]?,ON[i]? with
   | some x,some y=>x == y&&(scope.names.lookup x == some NameKind.free)
   | _,_=>false)
  | _=>true
structure VW (C1 scope:Scope)(ON N:qE)(AQ:List (Option Nat)):Prop where
 kind:scope.kind=.function
 YE:∀y∈scope.names,y.2≠.cell
 loc:∀y∈scope.names,y.2=.local->scope.names.lookup y.1=some .local
 fr:∀y∈scope.names,y.2=.free->C1.names.lookup y.1=some .cell\/C1.names.lookup y.1=some .free
 AQ:uG scope ON N AQ=true
structure GY (C1 scope:Scope)(z:Option Str)(ON N:qE)(AQ:List (Option Nat)):Prop where
 kind:scope.kind=.function
 loc:∀y∈scope.names,y.2=.local->scope.names.lookup y.1=some .local
 fr:∀y∈scope.names,y.2=.free->C1.names.lookup y.1=some .cell\/C1.names.lookup y.1=some .free
 AQ:uG scope ON N AQ=true
 one:∀n cl,cellsFrom n scope.names cl=Sn z n++cl
 push:∀h,pushCells h scope.names=oG z h
 zc:∀y∈scope.names,y.2=.cell->z=some y.1
 nz:∀y∈scope.names,y.2=.free->z≠some y.1
theorem oH:∀{names:List (Str×NameKind)},(∀y∈names,y.2≠.cell)->(∀n cl,cellsFrom n names cl=cl)/\∀h,pushCells h names=h
 | [],_=>⟨λ_ _=>rfl,λ_=>rfl⟩
 | (a,k)::r,h=>by
  have ih:=oH λy hy=>h y (al (a,k) hy)
  have hk:¬ (k == NameKind.cell)=true:=by simpa using h (a,k) ar
  refine⟨λn cl=>?_,λg=>?_⟩
  ·unfold cellsFrom
   rw[ax hk]
   exact ih.1 n cl
  ·unfold pushCells
   rw[ax hk]
   exact ih.2 g
theorem VW.g {C1:Scope}{ON N:qE}{AQ:List (Option Nat)}(S:VW C1 scope ON N AQ):GY C1 scope none ON N AQ:=
 ⟨S.kind,S.loc,S.fr,S.AQ,(oH S.YE).1,(oH S.YE).2,λy h e=>absurd e (S.YE y h),λ_ _ _ e=>nomatch e⟩
theorem GY.at {C1 scope:Scope}{z:Option Str}{ON N:qE}{AQ:List (Option Nat)}(S:GY C1 scope z ON N AQ){j i:Nat}{x:Str}(h:AQ[j]?=some (some i))(hx:N[j]?=some x):ON[i]?=some x/\scope.names.lookup x=some .free:=by
 have h0:=S.AQ
 unfold uG at h0
 rw[dv] at h0
 have hj:j < N.length:=(ai.mp hx).1
 have h1:=hJ.mp h0.2 j (bP.mpr hj)
 rw[h] at h1
 dsimp only at h1
 rw[hx] at h1
 cases hy:ON[i]? with
 | none=>rw[hy] at h1;simp at h1
 | some y=>
  rw[hy] at h1
  simp only[dv,kD] at h1
  exact⟨by rw[h1.1],h1.2⟩
theorem GY.len {C1:Scope}{z:Option Str}{ON N:qE}{AQ:List (Option Nat)}(S:GY C1 scope z ON N AQ):AQ.length=N.length:=by
 have h0:=S.AQ
 unfold uG at h0
 rw[dv,kD] at h0
 exact h0.1
noncomputable def zj (σ:St):Option Nat->Option V
 | some i=>(σ[i]?).getD none
 | none=>none
def cI (AQ:List (Option Nat))(σ:St):St:=AQ.map (zj σ)
def sV (X:Cx)(ifs:qB)(t:TT):Prop:=
 ∀(AF:qq) (s:Shared) (σ:St) (H:Hp) (Q:Bool->Hp->Prop),Inv X AF σ H s->t σ H Q->
  wpAny (model X.prog X.w) X.A (forIn ifs true λc r=>if r=true then do let ok ← isTrue c X.env (eval c X.env);pure (ForInStep.yield ok) else pure (ForInStep.yield r)) (TP X AF σ Q) X.xe s
def oJ:TT:=λ_ H Q=>Q true H
theorem kO {X:Cx}:sV X [] oJ:=λ_ _ _ H _ I h=>wpAny_tests_nil ⟨H,I,h⟩
theorem Io {X:Cx}{c:Expr}{t:TT}(h:PT X c t):sV X [c] t:=λAF s σ H Q I q=>wpAny_tests_one (h AF s σ H Q I q)
variable {s:Shared}
theorem lJ {prog:Program}{w:World}{A:Around}{R:Result->Shared->Prop}{elt target iter:Expr}{ifs:qB}{pos:Pos}{it acc:Value}{env:Env}(I:Nat->Shared->Prop)
  (turn:∀n s,I n s->wpAny (model prog w) A (pyNext it) (λr s₁=>match r with
   | none=>R (.ok .next) s₁
   | some v=>wpAny (model prog w) A (letOwnedTupleGo target it v) (λ_ s₁'=>wpAny (model prog w) A (assign target env v) (λ_ s₂=>
     wpAny (model prog w) A (forIn ifs true λc r=>if r=true then do let ok ← isTrue c env (eval c env);pure (ForInStep.yield ok) else pure (ForInStep.yield r)) (λok s₃=>
      if ok=true then wpAny (model prog w) A (eval elt env) (λx s₄=>
       wpAny (model prog w) A (call (.builtin "list.append") [acc,x]) (λ_ s₅=>∃m,m < n/\I m s₅) (λ_ _=>False) s₄) (λ_ _=>False) s₃
      else ∃m,m < n/\I m s₃) (λ_ _=>False) s₂) (λ_ _=>False) s₁') (λ_ _=>False) s₁) (λ_ _=>False) s)
  (n:Nat) (h:I n s):
  codeAny (model prog w) A (.compLoop (.ListComp elt [⟨target,iter,ifs,0⟩] scope pos) 0 it acc env) R s:=by
 refine codeAny_loop rfl I (λn s hI=>?_) n h
 show wpAny _ A ((compTurn (.ListComp elt [⟨target,iter,ifs,0⟩] scope pos) 0 it acc env).onRaise (λx=>do noteFrame x env;theTreesLotGoes x)) _ _ s
 refine wpAny_noted ?_
 rw[compTurn_list]
 refine ab (wpAny_standAt (ab (fA (turn n s hI) (λr s₁ h₁=>?_) λ_ _ h'=>h'.elim)))
 cases r with
 | none=>exact ae h₁
 | some v=>
  refine ab (fA h₁ (λ_ s₁' h₁'=>?_) λ_ _ h'=>h'.elim)
  refine ab (fA h₁' (λ_ s₂ h₂=>ab (fA h₂ (λok s₃ h₃=>?_) λ_ _ h'=>h'.elim)) λ_ _ h'=>h'.elim)
  cases ok with
  | false=>exact ae ⟨rfl,h₃⟩
  | true=>
   exact ab (ab (fA h₃ (λx s₄ h₄=>ab (fA h₄ (λ_ s₅ h₅=>ae (ae ⟨rfl,h₅⟩)) λ_ _ h'=>h'.elim)) λ_ _ h'=>h'.elim))
def Kp (σ σ2:St):Prop:=σ.length=σ2.length/\∀(i:Nat) (v:V),σ[i]?=some (some v)->σ2[i]?=some (some v)
theorem vV {rest:St}{x:V}:Kp (none::rest) (some x::rest):=⟨rfl,λi v e=>by
 cases i with
 | zero=>cases e
 | succ i=>exact e⟩
structure VX (wi:TI)(AQ:List (Option Nat))(g:TG)(tt:TT)(te:TE)(σ:St)(H:Hp)(Q:VK):Prop where
 ex:wi σ H λJ H1=>∀D,H1 D=none->∃W:Nat->Nat->List V->Hp->Prop,
 (∃m,W 0 m [] (upd H1 D (.lst [])))/\∀i m ys H,W i m ys H->H D=some (.lst ys)/\((J.stop i H/\Q (.ref D) H) \/
  (J.go i H/\∃N:List V->Hp->Prop,(∀F4 H',N F4 H'->∃m',m' < m/\W (i+1) m' F4 H')/\∀x H',J.Mo i H x H'->g x (cI AQ σ) H' fun σ2 H2=>Kp (cI AQ σ) σ2/\tt σ2 H2 λb H3=>
   if b=true then te σ2 H3 λy H4=>H4 D=some (.lst ys)/\ys.length < sizeLine/\N (ys++[y]) (upd H4 D (.lst (ys++[y]))) else N ys H3))
def gK (wi:TI)(AQ:List (Option Nat))(g:TG)(tt:TT)(te:TE):TE:=fun σ H Q=>VX wi AQ g tt te σ H Q
variable {cl:List (Str×Addr)}
theorem Lf {M:Model}{A:Around}{E:oT}{z:Option Str}{globals:Addr}{qual:Str}{around:Env}{builtins:Addr}{Q:Env->Shared->Prop}(one:∀n cl,cellsFrom n scope.names cl=Sn z n++cl)(push:∀h,pushCells h scope.names=oG z h)
  (h:Q (newEnv scope s.heap.objs.size globals (Sn z (s.heap.objs.size+1)++cl) qual none .none (some around) builtins) { s with heap:=oG z (s.heap.push { cls:=.type "dict",data:=.dict #[] }) }):
  wpAny M A (newFunctionEnv scope globals cl [] qual none .none (some around) builtins) Q E s:=by
 simp only[newFunctionEnv,Option.isSome_some,f8]
 refine ab (wpAny_alloc ?_)
 refine ab (wpAny_layCells _ (λname kind cells=>by cases hkc:kind == NameKind.cell <;> simp[hkc]) _ _ _ _ ?_)
 rw[one,push]
 refine ab ?_
 rw[kR]
 refine ae (ae ?_)
 rw[show ({ s with heap:=s.heap.push { cls:=.type "dict",data:=.dict #[] } }:Shared).heap.objs.size=s.heap.objs.size+1 from cK ..]
 exact h
section
variable {X:Cx}{tg iter elt:Expr}{ifs:qB}{scope C1:Scope}{z:Option Str}{ON N:qE}{AQ:List (Option Nat)}{wi:TI}{g:TG}{tt:TT}{te:TE}{pos:Pos}
theorem oK {c d:Addr}(e:(Sn z d++cl).lookup x=some c):(z=some x/\c=d)\/(z≠some x/\cl.lookup x=some c):=by
 cases z with
 | none=>exact .inr ⟨(λq=>nomatch q),e⟩
 | some z=>
  have e:((z,d)::cl).lookup x=some c:=e
  rw[cw] at e
  cases hx:x == z with
  | true=>
   rw[hx] at e
   exact .inl ⟨by rw[show x=z by simpa using hx],(bi e).symm⟩
  | false=>
   rw[hx] at e
   exact .inr ⟨λq=>by rw[bi q] at hx;simp at hx,e⟩
theorem Gu {c d:Addr}(n:z≠some x)(e:cl.lookup x=some c):(Sn z d++cl).lookup x=some c:=by
 cases z with
 | none=>exact e
 | some z=>
  show ((z,d)::cl).lookup x=some c
  rw[cw,show (x == z)=false by simpa using λq:x=z=>n (by rw[q])]
  exact e
theorem OD {d:Addr}(e:z=some x):(Sn z d++cl).lookup x=some d:=by
 rw[e]
 show ((x,d)::cl).lookup x=some d
 rw[cw,show (x == x)=true by simp]
theorem Lg {AF:qq}{σ:St}{H2:Hp}{s2:Shared}{fp:qV}{C:Addr}(I2:Inv X AF σ H2 s2)(S:GY C1 scope z ON N AQ)(HZ:X.env.scope=C1)(f2:∀b∈fp,iW X AF H2 b)
  (Um:∀b∈fp,b < s2.heap.objs.size) (hC:s2.heap.objs.size<=C):(X.B0 z N scope C s2 H2 fp).Ok:=by
 have P6:∀x∈scope.names,x.2=.free->∃c,X.env.cells.lookup x.1=some c:=λx hx e=>I2.ok.has x.1 (by
  rcases S.fr x hx e with z | z
  ·exact .inl (by rw[Env.kindOf,HZ];exact z)
  ·exact .inr (by rw[Env.kindOf,HZ];exact z))
 have low:∀{x:Str}{c:Addr},(qj X.env scope.names).lookup x=some c->c < s2.heap.objs.size:=λ{x c} e=>by
  obtain⟨v,q⟩:=I2.cell x c (jE P6 e)
  exact q.lt
 refine⟨I2.mod,S.kind,I2.ok.glob,I2.ok.blt,hC,λx y c h1 h2=>?_,λx h=>?_,λx c h e=>?_,I2.ok.hd,I2.ok.frames,.inl rfl,λb hb=>⟨?_,λx c e=>?_⟩,λb o e=>I2.bs b o e,?_,λb o e hb=>?_,λb hb hz=>?_,I2.stack,I2.KS⟩
 ·rcases oK h1 with ⟨e1,e2⟩ | ⟨e1,e2⟩ <;> rcases oK h2 with ⟨e3,e4⟩ | ⟨e3,e4⟩
  ·exact bi (e1.symm.trans e3)
  ·have q:=low e4;rw[e2] at q;exact absurd q (Nat.not_lt.mpr (dP hC (iL _)))
  ·have q:=low e2;rw[e4] at q;exact absurd q (Nat.not_lt.mpr (dP hC (iL _)))
  ·exact I2.ok.inj x y c (jE P6 e2) (jE P6 e4)
 ·have hm:(x,NameKind.free)∈scope.names\/(x,NameKind.cell)∈scope.names:=by
   rcases h with h | h
   ·exact oF (env:=X.env) (.inl rfl) h
   ·exact oF (env:=X.env) (.inr rfl) h
  rcases hm with hm | hm
  ·obtain⟨c,hc⟩:=Gs (env:=X.env) hm
   exact⟨c,Gu (S.nz _ hm rfl) hc⟩
  ·exact⟨C+1,OD (S.zc _ hm rfl)⟩
 ·rcases oK e with ⟨_,e2⟩ | ⟨e1,_⟩
  ·rw[e2];exact dP hC (iL _)
  ·cases z with
   | none=>cases h
   | some z=>exact absurd (by rw[show x=z by simpa using h]) e1
 ·exact bg (bq (Um b hb) hC)
 ·rcases oK e with ⟨_,e2⟩ | ⟨_,e2⟩
  ·rw[e2];exact dE (bq (Um b hb) (dP hC (iL _)))
  ·exact(f2 b hb).2.2.2.2.1 x c (jE P6 e2)
 ·exact dP I2.ok.Po I2.sz
 ·rcases(f2 b hb).2.2.2.1 with z | z
  ·exact I2.ok.Me b o e z
  ·exact absurd (bq (ap e) (dP I2.ok.Po z)) (fR _)
 ·obtain⟨_,f1,f3,_⟩:=f2 b hb
  rcases be.mp (I2.GS b hz) with z | z
  ·exact f1 z
  ·exact f3 z
theorem Gv {AF:qq}{σ:St}{H:Hp}{Q:VK}{RR:Value->Addr->Result->Shared->Prop}(hc:X.calm=true)(S:GY C1 scope z ON N AQ)(HZ:X.env.scope=C1)(hN:X.N=ON)
  (hi:PI X tg iter wi) (hg:∀C s H fp,PG (X.B0 z N scope C s H fp) tg g) (ht:∀C s H fp,sV (X.B0 z N scope C s H fp) ifs tt) (he:∀C s H fp,PE (X.B0 z N scope C s H fp) elt te)
  (I:Inv X AF σ H s) (h:gK wi AQ g tt te σ H Q)
  (fin:∀D C H' s',Inv X AF σ H' s'->iW X AF H' C->(∃m,s'.heap.Ns C m)->Q (.ref D) H'->RR (.ref D) C (.ok .next) s'):
  wpAny (model X.prog X.w) X.A (eval iter X.env) (λx s₁=>wpAny (model X.prog X.w) X.A (pyIter x) (λVG s₂=>wpAny (model X.prog X.w) X.A (newList []) (λacc s₃=>
   wpAny (model X.prog X.w) X.A (newFunctionEnv scope X.env.globals (qj X.env scope.names) [] X.env.qual none .none (some X.env)) (λVY s₄=>
    codeAny (model X.prog X.w) X.A (.compStart (.ListComp elt [⟨tg,iter,ifs,0⟩] scope pos) 0 VG acc { VY with scope:=relabel scope X.env }) (RR acc VY.locals) s₄) X.xe s₃) X.xe s₂) X.xe s₁) X.xe s:=by
 refine AZ (hi AF s σ H _ I h.ex) λv s1 h1=>AZ h1 λVG s2 h2=>?_
 obtain⟨it,fp,tn,J,H2,e,I2,T,Xw,f2,q2⟩:=h2
 subst e
 refine bS (Lf S.one S.push ?_)
 dsimp only
 generalize YF:s2.heap.push { cls:=.type "list",dict:=none,data:=.seq ([]:qv).toArray }=P2
 generalize hD:s2.heap.objs.size=D
 have JY:(P2.push { cls:=.type "dict",data:=.dict #[] }).Ns P2.objs.size (λ_=>none):=Heap.Ns.new P2 (.type "dict")
 have hq₀:=cK P2 { cls:=.type "dict",data:=.dict #[] }
 have Kb:∀b o,P2.get? b=some o->(P2.push { cls:=.type "dict",data:=.dict #[] }).get? b=some o:=λb o e=>ac _ e
 generalize P2.push { cls:=.type "dict",data:=.dict #[] }=P3 at JY hq₀ Kb ⊢
 obtain⟨JY,Uo,Kb⟩:(oG z P3).Ns P2.objs.size (λ_=>none)/\(z.isSome=true->(oG z P3).IsCell (P2.objs.size+1) none)/\∀b o,P2.get? b=some o->(oG z P3).get? b=some o:=by
  cases z with
  | none=>exact⟨JY,(λq=>nomatch q),Kb⟩
  | some z=>exact⟨JY.keeps λb o e=>ac _ e,(λ_=>⟨_,hq₀▸am _ rfl,rfl⟩),λb o e=>ac _ (Kb b o e)⟩
 generalize oG z P3=h₁ at JY Uo Kb ⊢
 generalize hCe:P2.objs.size=C at JY Uo ⊢
 have hCD:C=D+1:=by rw[← hCe,← YF,cK,hD]
 have MW:s2.heap.objs.size<=C:=by rw[hCD,hD];exact iL _
 have Um:∀b∈fp,b < s2.heap.objs.size:=λb hb=>by
  obtain⟨o,e,_⟩:=T.obj 0 _ Xw b hb
  exact ap e
 have below:∀b,b < s2.heap.objs.size->b≠C:=λb hb=>bg (bq hb MW)
 have k1:∀b o,s2.heap.get? b=some o->h₁.get? b=some o:=λb o e=>Kb b o (YF▸ac _ e)
 have hDC:D≠C:=by rw[hCD];exact bg (g0 _)
 have gD:h₁.get? D=some { cls:=.type "list",dict:=none,data:=.seq ([]:qv).toArray }:=by
  refine Kb D _ ?_
  rw[← YF,← hD]
  exact am _ rfl
 have nD:H2 D=none:=I2.AW.fresh (by rw[hD];exact aw _)
 have nC:H2 C=none:=I2.AW.fresh MW
 have P6:∀x∈scope.names,x.2=.free->∃c,X.env.cells.lookup x.1=some c:=λx hx e=>I2.ok.has x.1 (by
  rcases S.fr x hx e with z | z
  ·exact .inl (by rw[Env.kindOf,HZ];exact z)
  ·exact .inr (by rw[Env.kindOf,HZ];exact z))
 obtain⟨W,⟨m0,w0⟩,turn⟩:=q2 D nD
 have IY:Inv (X.B0 z N scope C s2 H2 fp) [] (cI AQ σ) (upd H2 D (.lst [])) { s2 with heap:=h₁ }:=by
  have hp:s2.heap.objs.size<=D:=by rw[hD];exact aw _
  refine⟨Lg I2 S HZ f2 Um MW,rfl,I2.bare,Un.laid k1 hp nD,⟨_,JY,λj x v e1 e2 e3=>?_⟩,λx c e=>?_,?_,λx c e=>?_,λp hp=>by simp at hp,I2.AW.laid k1 hp ⟨ce _,[],_,.nil,gD⟩,?_⟩
  ·have Up:(AQ.map (zj σ))[j]?=some (some v):=e2
   rw[cp] at Up
   cases q:AQ[j]? with
   | none=>rw[q] at Up;cases Up
   | some o=>
    rw[q] at Up
    have e4:zj σ o=some v:=bi Up
    cases o with
    | none=>cases e4
    | some i=>
     have hσ:σ[i]?=some (some v):=by
      have e5:(σ[i]?).getD none=some v:=e4
      cases z:σ[i]? with
      | none=>rw[z] at e5;cases e5
      | some w=>rw[z] at e5;exact dL some e5
     obtain⟨U9,L6⟩:=S.at q e1
     have hk:X.env.kindOf x=some .cell\/X.env.kindOf x=some .free:=by
      rcases S.fr _ (mem_of_lookup L6) rfl with z | z
      ·exact .inl (by rw[Env.kindOf,HZ];exact z)
      ·exact .inr (by rw[Env.kindOf,HZ];exact z)
     obtain⟨m,hn,hl⟩:=I2.loc
     obtain⟨u,r,l⟩:=hl i x v (by rw[hN];exact U9) hσ (by
      rcases hk with z | z
      ·exact .inr (.inl z)
      ·exact .inr (.inr z))
     refine⟨u,r,?_⟩
     rcases l with ⟨z,_⟩ | ⟨_,c,Si,KW⟩
     ·rcases hk with y | y
      ·rw[y] at z;cases z
      ·rw[y] at z;cases z
     ·obtain⟨c',MG⟩:=Gs (env:=X.env) (mem_of_lookup L6)
      have e6:=jE P6 MG
      rw[Si] at e6
      have e7:c=c':=bi e6
      subst e7
      obtain⟨oc,ho,hd⟩:=KW
      exact .inr ⟨ql (env:=X.env) L6,c,Gu (S.nz _ (mem_of_lookup L6) rfl) MG,⟨oc,k1 c oc ho,hd⟩⟩
  ·rcases oK e with ⟨e1,e2⟩ | ⟨_,e2⟩
   ·rw[e2];exact⟨none,Uo (by rw[e1];rfl)⟩
   ·obtain⟨v,oc,ho,hd⟩:=I2.cell x c (jE P6 e2)
    exact⟨v,oc,k1 c oc ho,hd⟩
  ·show upd H2 D (.lst []) C=none
   rw[ao (fN hDC)]
   exact nC
  ·rcases oK e with ⟨_,e2⟩ | ⟨_,e2⟩
   ·show upd H2 D (.lst []) c=none
    rw[e2,ao (show C+1≠D by omega)]
    exact I2.AW.fresh (by omega)
   ·have e':=jE P6 e2
    obtain⟨v,oc,ho,hd⟩:=I2.cell x c e'
    show upd H2 D (.lst []) c=none
    rw[ao (λz=>absurd (ap ho) (by rw[z,hD];exact fR _))]
    exact I2.DA x c e'
  ·show (AQ.map (zj σ)).length=N.length
   rw[aI]
   exact S.len
 have JE:∀{H':Hp},(∀b∈fp,H' b=none)->∀b∈fp,iW (X.B0 z N scope C s2 H2 fp) [] H' b:=λhn b hb=>by
  obtain⟨_,f1,f3,f4,f5,f6⟩:=f2 b hb
  refine⟨hn b hb,below b (Um b hb),λhz=>?_,.inl hb,λx c e=>(oK e).elim (λq=>by rw[q.2];exact dE (bq (Um b hb) (dP MW (iL _)))) λq=>f5 x c (jE P6 q.2),λp hp=>by simp at hp⟩
  rcases be.mp (I2.GS b hz) with z | z
  ·exact f1 z
  ·exact f3 z
 have back:∀{σ':St}{H':Hp}{s':Shared},Inv (X.B0 z N scope C s2 H2 fp) [] σ' H' s'->Inv X AF σ H' s':=λ{σ' H' s'} I'=>
  I2.VF (ch:=fp) I'.os I'.base I'.AW I'.bare λb hb=>let ⟨_,f1,_,f4,f5,f6⟩:=f2 b hb;⟨f4,f1,f5,f6⟩
 have st1:tn 0 h₁:=T.keep 0 _ _ Xw λb _ o e=>k1 b o e
 have fr1:∀b∈fp,upd H2 D (.lst []) b=none:=λb hb=>by
  rw[ao (λz=>absurd (Um b hb) (by rw[z,hD];exact fR _))]
  exact(f2 b hb).1
 have loop:codeAny (model X.prog X.w) X.A (.compLoop (.ListComp elt [⟨tg,iter,ifs,0⟩] scope pos) 0 (.ref it) (.ref D) (compEnvC scope (Sn z (C+1)++qj X.env scope.names) C X.env)) (RR (.ref D) C) { s2 with heap:=h₁ }:=by
  refine lJ (λn s'=>∃i ys H',Inv (X.B0 z N scope C s2 H2 fp) [] (cI AQ σ) H' s'/\tn i s'.heap/\(∀b∈fp,H' b=none)/\W i n ys H') ?_ m0 ⟨0,[],_,IY,st1,fr1,w0⟩
  rintro n s3 ⟨i,ys,H3,I3,VH,VI,w3⟩
  obtain⟨hDy,VZ⟩:=turn i n ys H3 w3
  rcases VZ with ⟨stop,qn⟩ | ⟨go,Nx,hNx,step⟩
  ·refine AZ (T.done (X.B0 z N scope C s2 H2 fp) rfl rfl rfl hc i [] s3 (cI AQ σ) H3 _ I3 (JE VI) VH stop) ?_
   rintro r s4 ⟨hr,I4⟩
   subst hr
   obtain⟨m,hm,_⟩:=I4.loc
   exact fin D C H3 s4 (back I4) (I2.IF MW I4.free) ⟨m,hm⟩ qn
  ·refine AZ (T.item (X.B0 z N scope C s2 H2 fp) rfl rfl rfl hc i [] s3 (cI AQ σ) H3 _ I3 (JE VI) VH go) ?_
   rintro r s4 ⟨u,hr,h4⟩
   subst hr
   refine AZ h4 ?_
   rintro _ s5 ⟨x,H5,I5,r5,y5,T1,Yt⟩
   have Yu:=I5.pinned (JE Yt) (T.obj _ _ T1)
   refine AZ (hg C s2 H2 fp _ s5 (cI AQ σ) H5 x u _ Yu r5 (step x H5 y5)) ?_
   rintro _ s6 ⟨σ6,H6,I6,kp6,q6⟩
   refine AZ (ht C s2 H2 fp _ s6 σ6 H6 _ I6 q6) ?_
   rintro b s7 ⟨H7,I7,q7⟩
   have again:∀{F4:List V}{H7:Hp}{s7:Shared},Inv (X.B0 z N scope C s2 H2 fp) ([]++pZ fp s5.heap) σ6 H7 s7->Nx F4 H7->∃m,m < n/\∃i ys H',Inv (X.B0 z N scope C s2 H2 fp) [] (cI AQ σ) H' s7/\tn i s7.heap/\(∀b∈fp,H' b=none)/\W i m ys H':=λ{F4 H7 s7} I7 n7=>by
    obtain⟨m',hm,w7⟩:=hNx F4 H7 n7
    refine⟨m',hm,i+1,F4,H7,I7.D9.weak kp6.1 kp6.2,T.keep _ _ _ T1 λb hb o e=>(I7.pin (b,o) (cx _ (cx _ (jT hb e)))).1,λb hb=>?_,w7⟩
    obtain⟨o,e,d⟩:=T.obj _ _ T1 b hb
    exact(I7.pin (b,o) (cx _ (cx _ (jT hb e)))).2.1
   cases b with
   | false=>
    rw[ax ba] at q7 ⊢
    exact again I7 q7
   | true=>
    rw[bd rfl] at q7 ⊢
    refine AZ (he C s2 H2 fp _ s7 σ6 H7 _ I7 q7) ?_
    rintro xv s8 ⟨y,H8,I8,r8,hD8,hl8,n8⟩
    refine AZ (lM (X:=X.B0 z N scope C s2 H2 fp) _ s8 σ6 H8 (.ref D) [y] (.ref D) [xv] (λ_ H9=>Nx (ys++[y]) H9) I8 rfl (.cons r8 .nil) ⟨D,ys,y,rfl,rfl,hD8,hl8,n8⟩) ?_
    rintro _ s9 ⟨_,H9,I9,_,n9⟩
    exact again I9 n9
 subst hD hCe
 exact codeAny_compStart_list loop (T.self _ 0 _ _ _ st1 loop)
theorem Ip {AF:qq}{σ:St}{H:Hp}(S:GY C1 scope z ON N AQ)(HZ:X.env.scope=C1)(I:Inv X AF σ H s):closureFor scope X.env=pure (qj X.env scope.names):=
 xV λx hx e=>I.ok.has x.1 (by
  rcases S.fr x hx e with z | z
  ·exact .inl (by rw[Env.kindOf,HZ];exact z)
  ·exact .inr (by rw[Env.kindOf,HZ];exact z))
theorem Inv.V0 {AF:qq}{s':Shared}{σ:St}{H':Hp}{C:Addr}{h':Heap}(I:Inv X AF σ H' s')(f:iW X AF H' C)(hs:Heap.SameBut C s'.heap h'):Inv X AF σ H' { s' with heap:=h' }:=
 I.turned (t':=s'.toks) (it:=C) (λb o hb e=>(hs.2 b hb).trans e) f.1 f.2.1 f.2.2.2.1 f.2.2.2.2.1 f.2.2.2.2.2
theorem zm (S:GY C1 scope z ON N AQ)(hi:PI X tg iter wi)(hg:∀C s H fp,PG (X.B0 z N scope C s H fp) tg g)(ht:∀C s H fp,sV (X.B0 z N scope C s H fp) ifs tt)(he:∀C s H fp,PE (X.B0 z N scope C s H fp) elt te)
  (hc:X.calm=true:=by rfl) (HZ:X.env.scope=C1:=by rfl) (hN:X.N=ON:=by rfl) (hs:∀x,foldedSetIterable iter X.env x=pure x:=by intro _;rfl):PE X (.ListComp elt [⟨tg,iter,ifs,0⟩] scope pos) (gK wi AQ g tt te):=by
 intro AF s σ H Q I h
 rw[eval_ListComp]
 refine wpAny_comprehension_free (use:=none) rfl hs (Ip S HZ I) S.kind S.loc ?_
 refine Gv (RR:=λacc C=>compPost (model X.prog X.w) X.A X.xe none (EP X AF σ Q) acc C) hc S HZ hN hi hg ht he I h λD C H' s' I' f hm q=>?_
 obtain⟨m,hm⟩:=hm
 exact⟨m,hm,λh' DM=>⟨.ref D,H',I'.V0 f DM,rfl,q⟩⟩
theorem q8 (S:VW C1 scope ON N AQ)(hi:PI X tg iter wi)(hg:∀C s H fp,PG (X.comp N scope C s H fp) tg g)(ht:∀C s H fp,sV (X.comp N scope C s H fp) ifs tt)(he:∀C s H fp,PE (X.comp N scope C s H fp) elt te)
  (hc:X.calm=true:=by rfl) (HZ:X.env.scope=C1:=by rfl) (hN:X.N=ON:=by rfl) (hs:∀x,foldedSetIterable iter X.env x=pure x:=by intro _;rfl):PE X (.ListComp elt [⟨tg,iter,ifs,0⟩] scope pos) (gK wi AQ g tt te):=
 zm S.g hi hg ht he hc HZ hN hs
end
section
variable {tt:TT}{te:TE}{Q:VK}{σ0 rest:St}{H:Hp}{D:Addr}
theorem Gw {a:Addr}{xs:List V}(hσ:σ0=none::rest)(Pv:Nat->List V->Hp->Prop)(h0:Pv 0 [] (upd H D (.lst [])))
  (hl:∀i ys H,i<=xs.length->Pv i ys H->Bz K H a xs/\H D=some (.lst ys))
  (hs:∀i x ys H,xs[i]?=some x->Pv i ys H->tt (some x::rest) H λb H3=>if b=true then te (some x::rest) H3 λy H4=>H4 D=some (.lst ys)/\ys.length < sizeLine/\Pv (i+1) (ys++[y]) (upd H4 D (.lst (ys++[y]))) else Pv (i+1) ys H3)
  (hd:∀ys H,Pv xs.length ys H->Q (.ref D) H):
  ∃W:Nat->Nat->List V->Hp->Prop,(∃m,W 0 m [] (upd H D (.lst [])))/\∀i m ys H,W i m ys H->H D=some (.lst ys)/\(((Pt K a).stop i H/\Q (.ref D) H) \/
   ((Pt K a).go i H/\∃N:List V->Hp->Prop,(∀F4 H',N F4 H'->∃m',m' < m/\W (i+1) m' F4 H')/\∀x H',(Pt K a).Mo i H x H'->aX 0 x σ0 H' fun σ2 H2=>Kp σ0 σ2/\tt σ2 H2 λb H3=>
    if b=true then te σ2 H3 λy H4=>H4 D=some (.lst ys)/\ys.length < sizeLine/\N (ys++[y]) (upd H4 D (.lst (ys++[y]))) else N ys H3)):=by
 subst hσ
 refine⟨λi m ys H=>m=xs.length - i/\i<=xs.length/\Pv i ys H,⟨xs.length,by simp,ce _,h0⟩,?_⟩
 rintro i m ys H ⟨rfl,hi,p⟩
 obtain⟨q,qD⟩:=hl i ys H hi p
 refine⟨qD,?_⟩
 by_cases BE:i < xs.length
 ·refine .inr ⟨⟨xs,xs[i],q,by simp[BE]⟩,Pv (i+1),λF4 H' p'=>⟨xs.length - (i+1),by omega,rfl,BE,p'⟩,λx H' y=>?_⟩
  obtain⟨e,y⟩:=y
  subst e
  exact⟨vV,hs i x ys _ (y xs q) p⟩
 ·have e:i=xs.length:=by omega
  subst e
  exact .inl ⟨⟨xs,q,aw _⟩,hd ys H p⟩
theorem Ir {a:Addr}{xs:List V}(hσ:σ0=none::rest)(Pv:Nat->List V->Hp->Prop)(h0:Pv 0 [] (upd H D (.lst [])))
  (hl:∀i ys H,i<=xs.length->Pv i ys H->Co K H a xs/\H D=some (.lst ys))
  (hs:∀i x ys H,xs[i]?=some x->Pv i ys H->tt (some x::rest) H λb H3=>if b=true then te (some x::rest) H3 λy H4=>H4 D=some (.lst ys)/\ys.length < sizeLine/\Pv (i+1) (ys++[y]) (upd H4 D (.lst (ys++[y]))) else Pv (i+1) ys H3)
  (hd:∀ys H,Pv xs.length ys H->Q (.ref D) H):
  ∃W:Nat->Nat->List V->Hp->Prop,(∃m,W 0 m [] (upd H D (.lst [])))/\∀i m ys H,W i m ys H->H D=some (.lst ys)/\(((Pw K a).stop i H/\Q (.ref D) H) \/
   ((Pw K a).go i H/\∃N:List V->Hp->Prop,(∀F4 H',N F4 H'->∃m',m' < m/\W (i+1) m' F4 H')/\∀x H',(Pw K a).Mo i H x H'->aX 0 x σ0 H' fun σ2 H2=>Kp σ0 σ2/\tt σ2 H2 λb H3=>
    if b=true then te σ2 H3 λy H4=>H4 D=some (.lst ys)/\ys.length < sizeLine/\N (ys++[y]) (upd H4 D (.lst (ys++[y]))) else N ys H3)):=by
 subst hσ
 refine⟨λi m ys H=>m=xs.length - i/\i<=xs.length/\Pv i ys H,⟨xs.length,by simp,ce _,h0⟩,?_⟩
 rintro i m ys H ⟨rfl,hi,p⟩
 obtain⟨q,qD⟩:=hl i ys H hi p
 refine⟨qD,?_⟩
 by_cases BE:i < xs.length
 ·refine .inr ⟨⟨xs,xs[i],q,by simp[BE]⟩,Pv (i+1),λF4 H' p'=>⟨xs.length - (i+1),by omega,rfl,BE,p'⟩,λx H' y=>?_⟩
  obtain⟨e,y⟩:=y
  subst e
  exact⟨vV,hs i x ys _ (y xs q) p⟩
 ·have e:i=xs.length:=by omega
  subst e
  exact .inl ⟨⟨xs,q,aw _⟩,hd ys H p⟩
theorem DR {lo:Int}{n:Nat}(hσ:σ0=none::rest)(Pv:Nat->List V->Hp->Prop)(h0:Pv 0 [] (upd H D (.lst [])))
  (hl:∀i ys H,i<=n->Pv i ys H->H D=some (.lst ys))
  (hs:∀i ys H,i < n->Pv i ys H->tt (some (.int (lo+i))::rest) H λb H3=>if b=true then te (some (.int (lo+i))::rest) H3 λy H4=>H4 D=some (.lst ys)/\ys.length < sizeLine/\Pv (i+1) (ys++[y]) (upd H4 D (.lst (ys++[y]))) else Pv (i+1) ys H3)
  (hd:∀ys H,Pv n ys H->Q (.ref D) H):
  ∃W:Nat->Nat->List V->Hp->Prop,(∃m,W 0 m [] (upd H D (.lst [])))/\∀i m ys H,W i m ys H->H D=some (.lst ys)/\(((PD lo n).stop i H/\Q (.ref D) H) \/
   ((PD lo n).go i H/\∃N:List V->Hp->Prop,(∀F4 H',N F4 H'->∃m',m' < m/\W (i+1) m' F4 H')/\∀x H',(PD lo n).Mo i H x H'->aX 0 x σ0 H' fun σ2 H2=>Kp σ0 σ2/\tt σ2 H2 λb H3=>
    if b=true then te σ2 H3 λy H4=>H4 D=some (.lst ys)/\ys.length < sizeLine/\N (ys++[y]) (upd H4 D (.lst (ys++[y]))) else N ys H3)):=by
 subst hσ
 refine⟨λi m ys H=>m=n - i/\i<=n/\Pv i ys H,⟨n,by simp,ce _,h0⟩,?_⟩
 rintro i m ys H ⟨rfl,hi,p⟩
 refine⟨hl i ys H hi p,?_⟩
 by_cases BE:i < n
 ·refine .inr ⟨BE,Pv (i+1),λF4 H' p'=>⟨n - (i+1),by omega,rfl,BE,p'⟩,λx H' y=>?_⟩
  obtain⟨e,y⟩:=y
  subst e y
  exact⟨vV,hs i ys _ BE p⟩
 ·have e:i=n:=by omega
  subst e
  exact .inl ⟨aw _,hd ys H p⟩
end
section
variable {X:Cx}{AF:qq}{σ:St}{H H':Hp}{s:Shared}{h':Heap}
theorem Inv.Ll {t':Nat}{ch:qV}{a:Addr}{o:HO}(I:Inv X AF σ H s)(k:∀b u,b∉ch->s.heap.get? b=some u->h'.get? b=some u)(ht:∀b u,s.heap.get? b=some u->∃u',h'.get? b=some u')(hf:∀b∈ch,iW X AF H b)
  (hp:s.heap.objs.size<=a) (new:AR X.prog X.w X.K (upd H a o) h' a o):Inv X AF σ (upd H a o) { s with heap:=h',toks:=t' }:=by
 have hn:H a=none:=I.AW.fresh hp
 have Mn:∀b u,H b=some u->b∉ch:=λb u e hb=>by
  rw[(hf b hb).1] at e;cases e
 have na:∀b u,s.heap.get? b=some u->b≠a:=λb u e=>bg (bq (ap e) hp)
 have YG:Dx X.prog X.w X.K (upd H a o) h':=λb u e=>by
  by_cases hb:b=a
  ·subst hb;rw[az] at e;cases e;exact new
  ·rw[ao hb] at e
   refine(I.AW b u e).IB (λc v hc q=>k c v ?_ q) (λc q=>by rw[ao (aq q hn)];exact q) λc xs q=>by rw[ao (aq q hn)];exact q
   rcases hc with rfl | hc
   ·exact Mn c u e
   ·exact Mn c _ hc
 refine I.step (g':=s.gens) (d':=s.drawn) (ch:=ch) (λb hb=>let ⟨_,f1,_,f4,f5,f6⟩:=hf b hb;⟨f4,f1,f5,f6⟩) (λb o _ _ hc e _=>k b o hc e) (λb o _ _ hc e _=>⟨o.slots,k b o hc e⟩)
  (λb o _ e n=>by rw[ao (na b o e)];exact n) (λb o _ e=>ht b o e) (λb xs q=>by rw[ao (aq q hn)];exact q) (λb u xs q=>by rw[ao (aq q hn)];exact q)
  (λb ps q=>⟨#[],by rw[ao (aq q hn),q];simp⟩) (λm hm=>?_) YG I.bare
 obtain⟨oL,es,ep,ho,r⟩:=hm
 have nL:X.env.locals∉ch:=λhb=>(hf _ hb).2.1 rfl
 exact⟨oL,es,ep,k _ oL nL ho,r⟩
end
def YH (x:Str):It:=⟨λi _=>i < x.cps.size,λi H v H'=>H'=H/\∃c,x.cps[i]?=some c/\v=.str ⟨#[c]⟩,λi _=>i=x.cps.size⟩
theorem zp {P:Program}{w:World}{tg:Expr}(it:Addr)(x:Str)(t:Tok)(ty:String)(Uj:["enumerate","zip","dict_itemiterator","dict_reverseitemiterator","odict_iterator","itertools.zip_longest","itertools.pairwise"].contains ty=false)
  (W:∀A:Around,A.handled=none->Walks P w A it [it] [it] x.cps.size (SignAt x) (λi h=>h.IsStrIter it ty x t i))
  (slf:∀(A:Around) (i:Nat) (s:Shared) (Q:oT) (E:oT),s.heap.IsStrIter it ty x t i->Q (.ref it) s->wpAny (model P w) A (pyIter (.ref it)) Q E s):
  Turn P w K tg (YH x) [it] it (λi h=>h.IsStrIter it ty x t i) where
 mem:=by simp
 obj:=λi h st b hb=>by
  have e:b=it:=by simpa using hb
  subst e
  obtain⟨o,e,c,d⟩:=st
  exact⟨o,e,λv z=>by rw[d] at z;cases z⟩
 keep:=λi h h' st k=>by
  obtain⟨o,e,r⟩:=st
  exact⟨o,k it (by simp) o e,r⟩
 item:=by
  intro X hP hw hK hc i AF s σ H E I hf st hg
  subst hP hw hK
  obtain⟨f0,f1,f2,f3,f4,f5⟩:=hf it (by simp)
  refine(W X.A (I.ok.hd hc)).item i s _ _ hg st λv h' tk hv BU kk=>?_
  obtain⟨c,u,hx,rfl⟩:=hv
  have I1:Inv X AF σ H { s with heap:=h',toks:=tk }:=I.turned (λb o hb e=>kk b o (by simpa using hb) e) f0 f1 f3 f4 f5
  obtain⟨o,e,cc,d⟩:=id BU
  exact⟨_,rfl,ut (s:={ s with heap:=h',toks:=tk }) e cc d Uj ⟨.str ⟨#[c]⟩,H,I1,⟨u,rfl⟩,⟨rfl,c,hx,rfl⟩,BU,λb hb=>(hf b hb).1⟩⟩
 done:=by
  intro X hP hw hK hc i AF s σ H E I hf st hg
  subst hP hw hK
  obtain⟨f0,f1,f2,f3,f4,f5⟩:=hf it (by simp)
  have hg':i=x.cps.size:=hg
  subst hg'
  exact(W X.A (I.ok.hd hc)).done s _ _ st λh' tk kk=>⟨rfl,I.turned (λb o hb e=>kk b o (by simpa using hb) e) f0 f1 f3 f4 f5⟩
 self:=slf
section
variable {X:Cx}{tg:Expr}
def R3 (tl:TE):TI:=fun σ H R=>tl σ H λx H1=>∃z,x=.str z/\R (YH z) H1
theorem OJ {l:Expr}{tl:TE}(hl:PE X l tl):PI X tg l (R3 tl):=by
 intro AF s σ H R I h
 refine AZ (hl AF s σ H _ I h) ?_
 rintro v s1 ⟨x,H1,I1,r1,q1⟩
 obtain⟨z,e,q⟩:=q1
 subst e
 obtain⟨t,rfl⟩:=r1
 have fp:∀b∈[s1.heap.objs.size],iW X AF H1 b:=λb hb=>by
  have e:b=s1.heap.objs.size:=by simpa using hb
  subst e
  exact I1.IF (aw _) (I1.AW.fresh (aw _))
 cases ha:z.cps.all (· < 128)
 ·exact wpAny_pyIter_wide ha ⟨s1.heap.objs.size,[s1.heap.objs.size],_,_,H1,rfl,I1.kept (t':=s1.toks) λb o e=>ac _ e,zp _ z t "str_iterator" (by decide) (λA hA=>Walks.strWide hA _ z t) (λA i s Q E st h=>wpAny_pyIter_striter_wide st h),⟨_,am _ rfl,rfl,rfl⟩,fp,q⟩
 ·exact wpAny_pyIter_ascii ha ⟨s1.heap.objs.size,[s1.heap.objs.size],_,_,H1,rfl,I1.kept (t':=s1.toks) λb o e=>ac _ e,zp _ z t "str_ascii_iterator" (by decide) (λA hA=>Walks.strAscii hA _ z t) (λA i s Q E st h=>wpAny_pyIter_striter_ascii st h),⟨_,am _ rfl,rfl,rfl⟩,fp,q⟩
end
section
variable {X:Cx}
theorem qm:∀{zs:qE}{us:qv},Vals (zs.map V.str) us->∃l:List (Str×Tok),us=strValues l/\l.map (·.1)=zs
 | [],_,r=>by cases r;exact⟨[],rfl,rfl⟩
 | z::zs,_,r=>by
  cases r with
  | cons r1 r2=>
   obtain⟨t,rfl⟩:=r1
   obtain⟨l,rfl,e⟩:=qm r2
   exact⟨(z,t)::l,rfl,by rw[a0,e]⟩
def rJoin (K:W.Frag):V->List V->Hp->VK->Prop:=λx vs H Q=>∃z l zs,x=.str z/\vs=[.ref l]/\Bz K H l (zs.map V.str)/\JoinOk z zs=true/\Q (.str (Str.join z zs)) H
theorem Lh:Xy X "str.join" (rJoin X.K):=by
 intro AF s σ H x vs v us Q I rx rv h
 obtain⟨z,l,zs,rfl,rfl,hl,ok,q⟩:=h
 obtain⟨t,rfl⟩:=rx
 obtain⟨u,rfl,ru⟩:=rv.one
 cases ru
 obtain⟨AL,r,p,_⟩:=I.list hl
 obtain⟨l',e,e2⟩:=qm r
 subst e
 refine SC.join p.isList e2 ok λt' k=>⟨.str (Str.join z zs),H,I.tok _,⟨t',?_⟩,q⟩
 unfold Txt.join
 rw[StrLaws.glued_eq_join]
mutual
inductive Dt (K:W.Frag) (H:Hp):V->PyData->Prop
 | AO:Dt K H .AO .none
 | bl (b:Bool):Dt K H (.bl b) (.bool b)
 | int (i:Int):Dt K H (.int i) (.int i)
 | str (x:Str):Dt K H (.str x) (.str x)
 | lst {a:Addr}{xs:List V}{ds:List PyData}:Bz K H a xs->Lm K H xs ds->Dt K H (.ref a) (.list ds)
 | tup {a:Addr}{xs:List V}{ds:List PyData}:Co K H a xs->Lm K H xs ds->Dt K H (.ref a) (.tuple ds)
inductive Lm (K:W.Frag) (H:Hp):List V->List PyData->Prop
 | nil:Lm K H [] []
 | cons {x:V}{xs:List V}{d:PyData}{ds:List PyData}:Dt K H x d->Lm K H xs ds->Lm K H (x::xs) (d::ds)
end
mutual
theorem Dt.reads {AF:qq}{σ:St}{H:Hp}{s:Shared}(I:Inv X AF σ H s):∀{x:V}{d:PyData}{u:Value},Dt X.K H x d->RelV x u->∃as,Reads s.heap u d as
 | _,_,_,.AO,r=>by cases r;exact⟨[],.none⟩
 | _,_,_,.bl b,r=>by cases r;exact⟨[],.bool b⟩
 | _,_,_,.int i,r=>by obtain⟨t,rfl⟩:=r;exact⟨[],.int i t⟩
 | _,_,_,.str x,r=>by obtain⟨t,rfl⟩:=r;exact⟨[],.str x t⟩
 | _,_,_,.lst hq hs,r=>by
  cases r
  obtain⟨AL,rv,pl,_⟩:=I.list hq
  obtain⟨o,e,c,n,d⟩:=pl.isList
  obtain⟨as,ra⟩:=Lm.reads I hs rv
  exact⟨_,.list e c d (by simpa using ra)⟩
 | _,_,_,.tup hq hs,r=>by
  cases r
  obtain⟨AL,rv,pl,_⟩:=I.tuple hq
  obtain⟨o,e,c,n,d⟩:=pl
  obtain⟨as,ra⟩:=Lm.reads I hs rv
  exact⟨_,.tuple e c d (by simpa using ra)⟩
theorem Lm.reads {AF:qq}{σ:St}{H:Hp}{s:Shared}(I:Inv X AF σ H s):∀{xs:List V}{ds:List PyData}{us:qv},Lm X.K H xs ds->Vals xs us->∃as,ReadsAll s.heap us ds as
 | _,_,_,.nil,r=>by cases r;exact⟨[],.nil⟩
 | _,_,_,.cons h hs,r=>by
  cases r with
  | cons r1 r2=>
   obtain⟨as,ra⟩:=Dt.reads I h r1
   obtain⟨bs,rb⟩:=Lm.reads I hs r2
   exact⟨_,.cons ra rb⟩
end
theorem O1 (hu:X.A.units+64 < cLine):Ct X (compareOp .Eq) (λx y H Q=>∃d e,Dt X.K H x d/\Dt X.K H y e/\SeqAt.shaped d=true/\SeqAt.shaped e=true/\Q (.bl (PyData.eqv d e)) H):=by
 intro AF s σ H x y v u Q I rx ry h
 obtain⟨d,e,h1,h2,s1,s2,q⟩:=h
 obtain⟨as,ra⟩:=h1.reads I rx
 obtain⟨bs,rb⟩:=h2.reads I ry
 exact eq_dataH ra rb s1 s2 hu ⟨.bl _,H,I,rfl,q⟩
theorem O2 (hu:X.A.units+64 < cLine):Ct X (compareOp .NotEq) (λx y H Q=>∃d e,Dt X.K H x d/\Dt X.K H y e/\SeqAt.shaped d=true/\SeqAt.shaped e=true/\Q (.bl (!PyData.eqv d e)) H):=by
 intro AF s σ H x y v u Q I rx ry h
 obtain⟨d,e,h1,h2,s1,s2,q⟩:=h
 obtain⟨as,ra⟩:=h1.reads I rx
 obtain⟨bs,rb⟩:=h2.reads I ry
 exact ne_dataH ra rb s1 s2 hu ⟨.bl _,H,I,rfl,q⟩
theorem Bw:BN X (.builtin "isinstance") (λxs H Q=>∃x n t b,xs=[x,.ty n]/\DU X.K H x t/\W.kitOne X.K t (.type n)=some b/\Q (.bl b) H):=by
 intro AF s σ H xs us Q I r h
 obtain⟨x,n,t,b,rfl,ty,e,q⟩:=h
 obtain⟨u,w',rfl,r1,r2⟩:=vals2 r
 cases r2
 exact Ge I r1 ty e λtk=>⟨.bl b,H,I.tok _,rfl,q⟩
end
structure OS (P:Program)(w:World)(K:W.Frag)(mg:Str->Option Value)(base:Heap)(k:Nat)(x:Str)(ps:qE)(sp:Sp):Prop where
 ex:∃f fd,BF P w K mg base Fu k f fd ps sp/\Binds K fd ps []/\W.keepIn K (.ref f)=true/\mg x=some (.ref f)
theorem O3 {P:Program}{w:World}{mg:Str->Option Value}{base:Heap}{k:Nat}{ps:qE}{sp:Sp}{st:Stmt}{f:Addr}(F:EA K x x st f fd)
  (hm:mg x=some (.ref f)) (hb:Binds K fd ps []) (G:BF P w K mg base Fu k f fd ps sp):OS P w K mg base k x ps sp:=⟨f,fd,G,hb,F.kp,hm⟩
theorem gG {X:Cx}{k j:Nat}{ps:qE}{sp:Sp}{p pos:Pos}{e:Expr}{es:qB}{t:TA}(c:OS X.prog X.w X.K X.mg X.base k x ps sp)(hr:A7 j X.A)(ha:PA X (e::es) t)(hle:k<=j:=by decide)(hg:Gl X x:=by rfl)
  (GV:(x == ("__debug__" : Str))=false:=by decide) (he:starEach (e::es) X.env=(false,eval e X.env)::starEach es X.env:=by rfl) (BO:(backTo pos (starEach es X.env)).any (·.1)=false:=by rfl):
  PE X (.Call (.Name x p) (e::es) [] pos) (fM sp [] E0 t):=by
 obtain⟨f,fd,G,hb,kp,hm⟩:=c.ex
 exact K5 G (hr.mono hle) hg hm kp hb .nil uD ha GV he BO
theorem aL {H:Hp}{p:Addr}(h:H p=none)(o:HO):AK H (upd H p o):=λb u q=>by rw[ao (aq q h)];exact q
theorem AK.new {H H':Hp}{p:Addr}(s:AK H H')(h:H' p=none)(o:HO):AK H (upd H' p o):=s.trans (aL h o)
theorem AK.over {H H':Hp}{p:Addr}(s:AK H H')(h:H p=none)(o:HO):AK H (upd H' p o):=λb u q=>by rw[ao (aq q h)];exact s b u q
theorem bZ {n:Nat}(h:n<=1000000):n < sizeLine:=kC h (by decide)
section
variable (K:W.Frag){X:Cx}
theorem sW (h:X.K=K:=by rfl):MO X (vQ K):=by subst h;exact K2
theorem Li (h:X.K=K:=by rfl):MO X (DP K):=by subst h;exact MQ
theorem jF (h:X.K=K:=by rfl):BN X (.builtin "len") (λxs H Q=>∃p ys,xs=[.ref p]/\(Bz K H p ys\/Co K H p ys)/\Q (.int ys.length) H):=by subst h;exact qi
theorem f9 {e:Expr}{f:Str}{pos:Pos}{ta:TE}(he:PE X e ta)(hb:attributeBase e f X.env (eval e X.env)=eval e X.env:=by rfl)(h:X.K=K:=by rfl):PE X (.Attribute e f pos) (iY K ta f):=by subst h;exact Gd he hb
theorem Gx {o e:Expr}{es:qB}{to:TE}{t:TA}{name:Str}{apos AS:Pos}{T id:String}{r:V->List V->Hp->VK->Prop}(pa:PlainAttrs T)(slot:Slot T name id)(Uj:typeOf (.builtin id)=pure (.type "method_descriptor"))(hm:Xy X id r)(ho:PE X o to)(ha:PA X (e::es) t)
  (B6:attributeBase o name X.env (eval o X.env)=eval o X.env:=by rfl)
  (Fh:((backTo AS (starEach (e::es) X.env)).all (λx=>!x.1)&&(backToKw AS (keywordEach [] X.env)).all (λx=>x.1.isSome)
   && decide ((e::es).length+([]:List Keyword).length+(if ([]:List Keyword).isEmpty then 0 else 1) < 30))=true:=by rfl)
  (B7:(apos.endLine == AS.line)=true:=by rfl) (hs:starEach (e::es) X.env=(false,eval e X.env)::starEach es X.env:=by rfl) (JU:(backTo AS (starEach es X.env)).any (·.1)=false:=by rfl) (h:X.K=K:=by rfl):
  PE X (.Call (.Attribute o name apos) (e::es) [] AS) (U7 K T r to t):=by subst h;exact yg pa slot Uj hm ho ha B6 Fh B7 hs JU
end
noncomputable def l_ (x:Str)(lo hi:Option Int):Str:=⟨((x.cps.toList.drop (HT.A4 x.length 0 lo)).take (HT.A4 x.length x.length hi - HT.A4 x.length 0 lo)).toArray⟩
theorem Lj (lo hi:Option Int)(n:Nat):Builtin.Str.strSliceIndices lo hi 1 n=(List.range (HT.A4 n n hi - HT.A4 n 0 lo)).map (HT.A4 n 0 lo+·):=by
 rw[← sliceRange_one]
 unfold Builtin.Str.strSliceIndices
 have cl:∀(o:Option Int) (d:Nat),d<=n->(match o with | none=>(d:Int) | some i=>let i:=if i < 0 then i+(n:Int) else i;if (1:Int) > 0 then max 0 (min i (n:Int)) else max (-1) (min i ((n:Int) - 1)))=((HT.A4 n d o:Nat):Int):=λo d hd=>by
  cases o with
  | none=>rfl
  | some i=>
   simp only[HT.A4,show (1:Int) > 0 by decide,f8]
   by_cases h:i < 0
   ·simp only[h,f8] <;> omega
   ·simp only[h,fT] <;> omega
 have c1:=cl lo 0 (ce _)
 have c2:=cl hi n (aw _)
 simp only[show (1:Int) > 0 by decide,f8] at c1 c2 ⊢
 exact congr (dL sliceRange c1) c2▸rfl
theorem Iu (x:Str)(t:Tok)(l u:Option (Int×Tok)){Q:oT}(hl:x.length<=sizeLine)
  (h:∀t' s',(s'=s\/s'={ s with toks:=s.toks+1 })->Q (.str (l_ x (l.map (·.1)) (u.map (·.1))) t') s'):(sliceMade x t l u none).post Q s:=by
 unfold sliceMade slicePicked
 have e:Builtin.Str.strSliceIndices (l.map (·.1)) (u.map (·.1)) ((((none:Option (Int×Tok)).map (·.1)).getD 1)) x.length=_:=Lj (l.map (·.1)) (u.map (·.1)) x.length
 rw[e]
 have hp:=pick_run x.cps (HT.A4 x.length 0 (l.map (·.1))) (HT.A4 x.length x.length (u.map (·.1)) - HT.A4 x.length 0 (l.map (·.1)))
 have hs:HT.A4 x.length x.length (u.map (·.1))<=x.length:=HT.MH _ _ (aw _) _
 have hc:x.length=x.cps.toList.length:=by simp[Str.length]
 by_cases hw:((((none:Option (Int×Tok)).map (·.1)).getD 1 == 1&&((List.range (HT.A4 x.length x.length (u.map (·.1)) - HT.A4 x.length 0 (l.map (·.1)))).map (HT.A4 x.length 0 (l.map (·.1))+·)).length == x.length)=true)
 ·rw[bd hw]
  show Q (.str x t) s
  have hn:HT.A4 x.length x.length (u.map (·.1)) - HT.A4 x.length 0 (l.map (·.1))=x.length:=by
   have:=(dv _ _▸hw).2
   simpa using this
  have e2:l_ x (l.map (·.1)) (u.map (·.1))=x:=by
   unfold l_
   rw[hn]
   by_cases h0:x.length=0
   ·have:x.cps.toList=[]:=lh (by omega)
    cases x with | mk c=>simp at this;subst this;simp
   ·have h1:HT.A4 x.length 0 (l.map (·.1))=0:=by omega
    rw[h1,mI,hc,ow]
  have:=h t s (.inl rfl)
  rw[e2] at this
  exact this
 ·rw[ax hw,hp]
  refine⟨?_,h _ _ (.inr rfl)⟩
  show ((x.cps.toList.drop _).take _).toArray.size<=sizeLine
  rw[ay,g6,gp,← hc]
  omega
section
variable {X:Cx}
def O4:V->Option Int->Option Int->Hp->VK->Prop:=λx lo hi H Q=>∃z,x=.str z/\z.length<=sizeLine/\Q (.str (l_ z lo hi)) H
theorem O5:MM X O4:=by
 intro AF s σ H x v vl vu lo hi sl Q I rx hs pl pu h
 obtain⟨z,rfl,hz,q⟩:=h
 obtain⟨t,rfl⟩:=rx
 refine⟨"str",_,slot_str_getitem.lookup,typeIs_str s z t,?_⟩
 have part:∀{v:Value}{o:Option Int},IsPart v o->∃p:Option (Int×Tok),v=partValue p/\p.map (·.1)=o:=λp=>by
  cases p with
  | none=>exact⟨none,rfl,rfl⟩
  | int i t=>exact⟨some (i,t),rfl,rfl⟩
 obtain⟨l,rfl,rfl⟩:=part pl
 obtain⟨u,rfl,rfl⟩:=part pu
 refine wpAny_getItem_str_slice (l:=l) (u:=u) (st:=none) hs rfl (Iu z t l u hz λt' s' DM=>?_)
 rcases DM with rfl | rfl
 ·exact⟨.str (l_ z (l.map (·.1)) (u.map (·.1))),H,I,⟨t',rfl⟩,q⟩
 ·exact⟨.str (l_ z (l.map (·.1)) (u.map (·.1))),H,I.tok _,⟨t',rfl⟩,q⟩
def O6 (K:W.Frag):V->Option Int->Option Int->Hp->VK->Prop:=λx lo hi H Q=>Ot K x lo hi H Q\/O4 x lo hi H Q
theorem O7:MM X (O6 X.K):=PM.or O5
end
end Lake.L2
namespace Lake.MR
open PySem L2
inductive PV where
 | AO | bl (b:Bool) | int (i:Int) | str (x:Str)
 | lst (xs:List PV) | frz (xs:List PV) | tup (xs:List PV) | ktp (xs:List PV)
 | dK (kvs:List (Key×PV)) | dT (kvs:List (List AG×PV))
 | obj (c:Nat) (fs:List (Str×PV))
structure MC where
 K:W.Frag
 cl:Nat->Addr
mutual
inductive Rep (C:MC) (A:Addr->Prop) (H:Hp):V->PV->Prop
 | AO:Rep C A H .AO .AO
 | bl (b:Bool):Rep C A H (.bl b) (.bl b)
 | int (i:Int):Rep C A H (.int i) (.int i)
 | str (x:Str):Rep C A H (.str x) (.str x)
 | lst {a:Addr}{vs:List V}{xs:List PV}:H a=some (.lst vs)->A a->AJ C A H vs xs->Rep C A H (.ref a) (.lst xs)
 | MX {a:Addr}{o:Obj}{vs:List V}{xs:List PV}:H a=some (.frz o (.lst vs))->AJ C A H vs xs->Rep C A H (.ref a) (.frz xs)
 | lstK {a:Addr}{vs:List V}{xs:List PV}:Bz C.K (λ_=>none) a vs->AJ C A H vs xs->Rep C A H (.ref a) (.frz xs)
 | tup {a:Addr}{vs:List V}{xs:List PV}:H a=some (.tup vs)->AJ C A H vs xs->Rep C A H (.ref a) (.tup xs)
 | CS {a:Addr}{vs:List V}{xs:List PV}:E9 C.K a vs->AJ C A H vs xs->Rep C A H (.ref a) (.tup xs)
 | tupK {a:Addr}{vs:List V}{xs:List PV}:Co C.K (λ_=>none) a vs->AJ C A H vs xs->Rep C A H (.ref a) (.ktp xs)
 | dK {a:Addr}{kv:List (Key×V)}{kvs:List (Key×PV)}:H a=some (.dK kv)->A a->AX C A H kv kvs->Rep C A H (.ref a) (.dK kvs)
 | dT {a:Addr}{kv:List (List AG×V)}{kvs:List (List AG×PV)}:H a=some (.dT kv)->A a->A2 C A H kv kvs->Rep C A H (.ref a) (.dT kvs)
 | obj {a dx:Addr}{c:Nat}{f:List (Str×V)}{fs:List (Str×PV)}:H a=some (.ins (C.cl c) dx f)->A a->CF C A H f fs->Rep C A H (.ref a) (.obj c fs)
inductive AJ (C:MC) (A:Addr->Prop) (H:Hp):List V->List PV->Prop
 | nil:AJ C A H [] []
 | cons {v:V}{p:PV}{vs:List V}{ps:List PV}:Rep C A H v p->AJ C A H vs ps->AJ C A H (v::vs) (p::ps)
inductive AX (C:MC) (A:Addr->Prop) (H:Hp):List (Key×V)->List (Key×PV)->Prop
 | nil:AX C A H [] []
 | cons {k:Key}{v:V}{p:PV}{vs:List (Key×V)}{ps:List (Key×PV)}:Rep C A H v p->AX C A H vs ps->AX C A H ((k,v)::vs) ((k,p)::ps)
inductive A2 (C:MC) (A:Addr->Prop) (H:Hp):List (List AG×V)->List (List AG×PV)->Prop
 | nil:A2 C A H [] []
 | cons {k:List AG}{v:V}{p:PV}{vs:List (List AG×V)}{ps:List (List AG×PV)}:Rep C A H v p->A2 C A H vs ps->A2 C A H ((k,v)::vs) ((k,p)::ps)
inductive CF (C:MC) (A:Addr->Prop) (H:Hp):List (Str×V)->List (Str×PV)->Prop
 | nil:CF C A H [] []
 | cons {k:Str}{v:V}{p:PV}{vs:List (Str×V)}{ps:List (Str×PV)}:Rep C A H v p->CF C A H vs ps->CF C A H ((k,v)::vs) ((k,p)::ps)
end
noncomputable def gM:HO->Bool
 | .lst _=>true
 | .dK _=>true
 | .dT _=>true
 | .ins _ _ _=>true
 | _=>false
def Ex (A:Addr->Prop)(H:Hp)(A':Addr->Prop)(H':Hp):Prop:=∀a o,H a=some o->(A a->H' a=some o/\A' a)/\(gM o=false->H' a=some o)
theorem Ex.refl (A:Addr->Prop)(H:Hp):Ex A H A H:=λa o h=>⟨λq=>⟨h,q⟩,λ_=>h⟩
variable {A:Addr->Prop}{H:Hp}
theorem Ex.trans {B C:Addr->Prop}{I J:Hp}(e:Ex A H B I)(f:Ex B I C J):Ex A H C J:=λa o h=>⟨λq=>by
 obtain⟨h1,q1⟩:=(e a o h).1 q
 exact(f a o h1).1 q1,λm=>(f a o ((e a o h).2 m)).2 m⟩
variable {H':Hp}
theorem Ex.of_same (s:AK H H'):Ex A H A H':=λa o h=>⟨λq=>⟨s a o h,q⟩,λ_=>s a o h⟩
variable {C:MC}{M4:List (List AG×V)->List (List AG×PV)->Prop}
theorem Rep.nd {M1:V->PV->Prop}{M2:List V->List PV->Prop}{M3:List (Key×V)->List (Key×PV)->Prop}{M5:List (Str×V)->List (Str×PV)->Prop}(a1:M1 .AO .AO)(a2:∀b,M1 (.bl b) (.bl b))(a3:∀i,M1 (.int i) (.int i))(a4:∀x,M1 (.str x) (.str x))
  (a5:∀{a vs xs},H a=some (.lst vs)->A a->AJ C A H vs xs->M2 vs xs->M1 (.ref a) (.lst xs))(a6:∀{a o vs xs},H a=some (.frz o (.lst vs))->AJ C A H vs xs->M2 vs xs->M1 (.ref a) (.frz xs))(a7:∀{a vs xs},Bz C.K (λ_=>none) a vs->AJ C A H vs xs->M2 vs xs->M1 (.ref a) (.frz xs))
  (a8:∀{a vs xs},H a=some (.tup vs)->AJ C A H vs xs->M2 vs xs->M1 (.ref a) (.tup xs))(a9:∀{a vs xs},E9 C.K a vs->AJ C A H vs xs->M2 vs xs->M1 (.ref a) (.tup xs))(b1:∀{a vs xs},Co C.K (λ_=>none) a vs->AJ C A H vs xs->M2 vs xs->M1 (.ref a) (.ktp xs))
  (b2:∀{a kv kvs},H a=some (.dK kv)->A a->AX C A H kv kvs->M3 kv kvs->M1 (.ref a) (.dK kvs))(b3:∀{a kv kvs},H a=some (.dT kv)->A a->A2 C A H kv kvs->M4 kv kvs->M1 (.ref a) (.dT kvs))(b4:∀{a dx c f fs},H a=some (.ins (C.cl c) dx f)->A a->CF C A H f fs->M5 f fs->M1 (.ref a) (.obj c fs))
  (c1:M2 [] [])(c2:∀{v p vs ps},Rep C A H v p->AJ C A H vs ps->M1 v p->M2 vs ps->M2 (v::vs) (p::ps))(c3:M3 [] [])(c4:∀{k v p vs ps},Rep C A H v p->AX C A H vs ps->M1 v p->M3 vs ps->M3 ((k,v)::vs) ((k,p)::ps))
  (c5:M4 [] [])(c6:∀{k v p vs ps},Rep C A H v p->A2 C A H vs ps->M1 v p->M4 vs ps->M4 ((k,v)::vs) ((k,p)::ps))(c7:M5 [] [])(c8:∀{k v p vs ps},Rep C A H v p->CF C A H vs ps->M1 v p->M5 vs ps->M5 ((k,v)::vs) ((k,p)::ps)):
  (∀{v p},Rep C A H v p->M1 v p)/\(∀{v p},AJ C A H v p->M2 v p)/\(∀{v p},AX C A H v p->M3 v p)/\(∀{v p},A2 C A H v p->M4 v p)/\(∀{v p},CF C A H v p->M5 v p):=
 ⟨λ{v p} h=>@Rep.rec C A H (λv p _=>M1 v p) (λv p _=>M2 v p) (λv p _=>M3 v p) (λv p _=>M4 v p) (λv p _=>M5 v p) a1 a2 a3 a4 @a5 @a6 @a7 @a8 @a9 @b1 @b2 @b3 @b4 c1 @c2 c3 @c4 c5 @c6 c7 @c8 v p h,
  λ{v p} h=>@AJ.rec C A H (λv p _=>M1 v p) (λv p _=>M2 v p) (λv p _=>M3 v p) (λv p _=>M4 v p) (λv p _=>M5 v p) a1 a2 a3 a4 @a5 @a6 @a7 @a8 @a9 @b1 @b2 @b3 @b4 c1 @c2 c3 @c4 c5 @c6 c7 @c8 v p h,
  λ{v p} h=>@AX.rec C A H (λv p _=>M1 v p) (λv p _=>M2 v p) (λv p _=>M3 v p) (λv p _=>M4 v p) (λv p _=>M5 v p) a1 a2 a3 a4 @a5 @a6 @a7 @a8 @a9 @b1 @b2 @b3 @b4 c1 @c2 c3 @c4 c5 @c6 c7 @c8 v p h,
  λ{v p} h=>@A2.rec C A H (λv p _=>M1 v p) (λv p _=>M2 v p) (λv p _=>M3 v p) (λv p _=>M4 v p) (λv p _=>M5 v p) a1 a2 a3 a4 @a5 @a6 @a7 @a8 @a9 @b1 @b2 @b3 @b4 c1 @c2 c3 @c4 c5 @c6 c7 @c8 v p h,
  λ{v p} h=>@CF.rec C A H (λv p _=>M1 v p) (λv p _=>M2 v p) (λv p _=>M3 v p) (λv p _=>M4 v p) (λv p _=>M5 v p) a1 a2 a3 a4 @a5 @a6 @a7 @a8 @a9 @b1 @b2 @b3 @b4 c1 @c2 c3 @c4 c5 @c6 c7 @c8 v p h⟩
variable {A':Addr->Prop}
theorem Rep.V3 (e:Ex A H A' H'):(∀{v p},Rep C A H v p->Rep C A' H' v p)/\(∀{v p},AJ C A H v p->AJ C A' H' v p)/\(∀{v p},AX C A H v p->AX C A' H' v p)/\(∀{v p},A2 C A H v p->A2 C A' H' v p)/\(∀{v p},CF C A H v p->CF C A' H' v p):=
 Rep.nd .AO .bl .int .str (λh q _ r=>.lst ((e _ _ h).1 q).1 ((e _ _ h).1 q).2 r) (λh _ r=>.MX ((e _ _ h).2 rfl) r) (λh _ r=>.lstK h r) (λh _ r=>.tup ((e _ _ h).2 rfl) r) (λh _ r=>.CS h r) (λh _ r=>.tupK h r)
  (λh q _ r=>.dK ((e _ _ h).1 q).1 ((e _ _ h).1 q).2 r) (λh q _ r=>.dT ((e _ _ h).1 q).1 ((e _ _ h).1 q).2 r) (λh q _ r=>.obj ((e _ _ h).1 q).1 ((e _ _ h).1 q).2 r) .nil (λ_ _ h t=>.cons h t) .nil (λ_ _ h t=>.cons h t) .nil (λ_ _ h t=>.cons h t) .nil (λ_ _ h t=>.cons h t)
variable {v:V}
theorem Rep.ex (e:Ex A H A' H'){p:PV}:Rep C A H v p->Rep C A' H' v p:=(Rep.V3 e).1
theorem AJ.ex (e:Ex A H A' H'){v:List V}{p:List PV}:AJ C A H v p->AJ C A' H' v p:=(Rep.V3 e).2.1
theorem AX.ex (e:Ex A H A' H'){v:List (Key×V)}{p:List (Key×PV)}:AX C A H v p->AX C A' H' v p:=(Rep.V3 e).2.2.1
theorem A2.ex (e:Ex A H A' H'){v:List (List AG×V)}{p:List (List AG×PV)}:A2 C A H v p->A2 C A' H' v p:=(Rep.V3 e).2.2.2.1
theorem CF.ex (e:Ex A H A' H'){v:List (Str×V)}{p:List (Str×PV)}:CF C A H v p->CF C A' H' v p:=(Rep.V3 e).2.2.2.2
theorem aV (h:∀a o,H a=some o->A a->A' a):Ex A H A' H:=λa o e=>⟨λq=>⟨e,h a o e q⟩,λ_=>e⟩
theorem AJ.length {C:MC}{A:Addr->Prop}{H:Hp}:∀{vs:List V}{ps:List PV},AJ C A H vs ps->vs.length=ps.length
 | _,_,.nil=>rfl
 | _,_,.cons _ t=>by simp[AJ.length t]
theorem AJ.append {C:MC}{A:Addr->Prop}{H:Hp}:∀{vs us:List V}{ps qs:List PV},AJ C A H vs ps->AJ C A H us qs->AJ C A H (vs++us) (ps++qs)
 | _,_,_,_,.nil,h=>h
 | _,_,_,_,.cons h t,r=>.cons h (AJ.append t r)
theorem AJ.get {C:MC}{A:Addr->Prop}{H:Hp}:∀{vs:List V}{ps:List PV}{i:Nat}{p:PV},AJ C A H vs ps->ps[i]?=some p->∃v,vs[i]?=some v/\Rep C A H v p
 | _,_,_,_,.nil,e=>by simp at e
 | _,_,0,_,.cons h t,e=>by simp at e;subst e;exact⟨_,rfl,h⟩
 | _,_,i+1,p,.cons h t,e=>by
  obtain⟨v,e1,r⟩:=AJ.get (i:=i) (p:=p) t (by simpa using e)
  exact⟨v,by simpa using e1,r⟩
theorem AJ.get' {C:MC}{A:Addr->Prop}{H:Hp}:∀{vs:List V}{ps:List PV}{i:Nat}{v:V},AJ C A H vs ps->vs[i]?=some v->∃p,ps[i]?=some p/\Rep C A H v p
 | _,_,_,_,.nil,e=>by simp at e
 | _,_,0,_,.cons h t,e=>by simp at e;subst e;exact⟨_,rfl,h⟩
 | _,_,i+1,v,.cons h t,e=>by
  obtain⟨p,e1,r⟩:=AJ.get' (i:=i) (v:=v) t (by simpa using e)
  exact⟨p,by simpa using e1,r⟩
theorem AJ.drop {C:MC}{A:Addr->Prop}{H:Hp}:∀{vs:List V}{ps:List PV}(n:Nat),AJ C A H vs ps->AJ C A H (vs.drop n) (ps.drop n)
 | _,_,0,h=>by simpa using h
 | _,_,n+1,.nil=>by simpa using AJ.nil
 | _,_,n+1,.cons _ t=>by simpa using AJ.drop n t
theorem AJ.take {C:MC}{A:Addr->Prop}{H:Hp}:∀{vs:List V}{ps:List PV}(n:Nat),AJ C A H vs ps->AJ C A H (vs.take n) (ps.take n)
 | _,_,0,h=>by simpa using AJ.nil
 | _,_,n+1,.nil=>by simpa using AJ.nil
 | _,_,n+1,.cons h t=>by simpa using AJ.cons h (AJ.take n t)
theorem AJ.set {C:MC}{A:Addr->Prop}{H:Hp}{v:V}{p:PV}(r:Rep C A H v p):∀{vs:List V}{ps:List PV}(n:Nat),AJ C A H vs ps->AJ C A H (vs.set n v) (ps.set n p)
 | _,_,_,.nil=>.nil
 | _,_,0,.cons _ t=>.cons r t
 | _,_,n+1,.cons h t=>.cons h (AJ.set r n t)
theorem AJ.reverse {C:MC}{A:Addr->Prop}{H:Hp}:∀{vs:List V}{ps:List PV},AJ C A H vs ps->AJ C A H vs.reverse ps.reverse
 | _,_,.nil=>.nil
 | _,_,.cons h t=>by
  rw[kP,kP]
  exact(AJ.reverse t).append (.cons h .nil)
theorem j9 {C:MC}{A:Addr->Prop}{H:Hp}{α:Type}(f:α->V)(g:α->PV)(h:∀x,Rep C A H (f x) (g x)):∀l:List α,AJ C A H (l.map f) (l.map g)
 | []=>.nil
 | x::l=>.cons (h x) (j9 f g h l)
theorem AX.val {C:MC}{A:Addr->Prop}{H:Hp}{k:Key}:∀{kv:List (Key×V)}{kvs:List (Key×PV)},AX C A H kv kvs->(∃v p,cB kv k=some v/\(kvs.find? λx=>decide (x.1=k)).map (·.2)=some p/\Rep C A H v p)\/(cB kv k=none/\(kvs.find? λx=>decide (x.1=k)).map (·.2)=none)
 | _,_,.nil=>.inr ⟨rfl,rfl⟩
 | _,_,.cons (k:=k') (v:=v) (p:=p) h t=>by
  by_cases e:k'=k
  ·subst e
   exact .inl ⟨v,p,cQ rfl,by simp,h⟩
  ·rw[cR e,pc (by simpa using e)]
   exact AX.val t
theorem A2.val {C:MC}{A:Addr->Prop}{H:Hp}{k:List AG}:∀{kv:List (List AG×V)}{kvs:List (List AG×PV)},A2 C A H kv kvs->(∃v p,cB kv k=some v/\(kvs.find? λx=>decide (x.1=k)).map (·.2)=some p/\Rep C A H v p)\/(cB kv k=none/\(kvs.find? λx=>decide (x.1=k)).map (·.2)=none)
 | _,_,.nil=>.inr ⟨rfl,rfl⟩
 | _,_,.cons (k:=k') (v:=v) (p:=p) h t=>by
  by_cases e:k'=k
  ·subst e
   exact .inl ⟨v,p,cQ rfl,by simp,h⟩
  ·rw[cR e,pc (by simpa using e)]
   exact A2.val t
theorem CF.look {C:MC}{A:Addr->Prop}{H:Hp}{k:Str}{p:PV}:∀{f:List (Str×V)}{fs:List (Str×PV)},CF C A H f fs->fs.lookup k=some p->∃v,f.lookup k=some v/\Rep C A H v p
 | _,_,.nil,e=>by cases e
 | _,_,.cons (k:=k') (v:=v) (p:=p') h t,e=>by
  rw[cw] at e ⊢
  cases q:k == k' with
  | true=>rw[q] at e;cases e;exact⟨v,rfl,h⟩
  | false=>rw[q] at e;exact CF.look t e
theorem CF.So {C:MC}{A:Addr->Prop}{H:Hp}{k:Str}:∀{f:List (Str×V)}{fs:List (Str×PV)},CF C A H f fs->fs.lookup k=none->f.lookup k=none
 | _,_,.nil,e=>rfl
 | _,_,.cons (k:=k') (v:=v) (p:=p') h t,e=>by
  rw[cw] at e ⊢
  cases q:k == k' with
  | true=>rw[q] at e;cases e
  | false=>rw[q] at e;exact CF.So t e
def Top (C:MC)(A:Addr->Prop)(H:Hp)(a:Addr):PV->Prop
 | .lst xs=>∃vs,H a=some (.lst vs)/\AJ C A H vs xs
 | .dK kvs=>∃kv,H a=some (.dK kv)/\AX C A H kv kvs
 | .dT kvs=>∃kv,H a=some (.dT kv)/\A2 C A H kv kvs
 | .obj c fs=>∃dx f,H a=some (.ins (C.cl c) dx f)/\CF C A H f fs
 | _=>False
theorem Top.ex {C:MC}{A A':Addr->Prop}{H H':Hp}{a:Addr}{p:PV}(e:Ex A H A' H')(h:∀o,H a=some o->H' a=some o)(t:Top C A H a p):Top C A' H' a p:=by
 cases p with
 | lst xs=>obtain⟨vs,q,r⟩:=t;exact⟨vs,h _ q,r.ex e⟩
 | dK kvs=>obtain⟨vs,q,r⟩:=t;exact⟨vs,h _ q,r.ex e⟩
 | dT kvs=>obtain⟨vs,q,r⟩:=t;exact⟨vs,h _ q,r.ex e⟩
 | obj c fs=>obtain⟨dx,f,q,r⟩:=t;exact⟨dx,f,h _ q,r.ex e⟩
 | _=>exact t
variable {a:Addr}
theorem Top.live {p:PV}(t:Top C A H a p):∃o,H a=some o/\gM o=true:=by
 cases p with
 | lst xs=>obtain⟨vs,q,r⟩:=t;exact⟨_,q,rfl⟩
 | dK kvs=>obtain⟨vs,q,r⟩:=t;exact⟨_,q,rfl⟩
 | dT kvs=>obtain⟨vs,q,r⟩:=t;exact⟨_,q,rfl⟩
 | obj c fs=>obtain⟨dx,f,q,r⟩:=t;exact⟨_,q,rfl⟩
 | _=>exact t.elim
theorem Top.rep {p:PV}(t:Top C A H a p)(h:A a):Rep C A H (.ref a) p:=by
 cases p with
 | lst xs=>obtain⟨vs,q,r⟩:=t;exact .lst q h r
 | dK kvs=>obtain⟨vs,q,r⟩:=t;exact .dK q h r
 | dT kvs=>obtain⟨vs,q,r⟩:=t;exact .dT q h r
 | obj c fs=>obtain⟨dx,f,q,r⟩:=t;exact .obj q h r
 | _=>exact t.elim
def AM (C:MC)(A:Addr->Prop)(H:Hp)(v:V)(p:PV):Prop:=Rep C A H v p\/∃a,v=.ref a/\Top C A H a p
theorem AM.ex {C:MC}{A A':Addr->Prop}{H H':Hp}{v:V}{p:PV}(e:Ex A H A' H')(s:AK H H')(h:AM C A H v p):AM C A' H' v p:=by
 rcases h with h | ⟨a,q,t⟩
 ·exact .inl (h.ex e)
 ·exact .inr ⟨a,q,t.ex e λo z=>s _ _ z⟩
variable {K:W.Frag}{vs:List V}
section
variable {C:MC}{A:Addr->Prop}{H:Hp}{v:V}
theorem Va (h:Bz K (λ_=>none) a vs):Bz K H a vs:=by
 rcases h with (h | ⟨o,h⟩) | h
 ·cases h
 ·cases h
 ·exact .inr h
theorem kW (h:Co K (λ_=>none) a vs):Co K H a vs:=by
 rcases h with (h | ⟨o,h⟩) | h
 ·cases h
 ·cases h
 ·exact .inr h
theorem AM.lst {xs:List PV}(h:AM C A H v (.lst xs)):∃a vs,v=.ref a/\H a=some (.lst vs)/\AJ C A H vs xs:=by
 rcases h with h | ⟨a,rfl,vs,q,r⟩
 ·cases h with
  | lst q _ r=>exact⟨_,_,rfl,q,r⟩
 ·exact⟨a,vs,rfl,q,r⟩
theorem AM.frz {xs:List PV}(h:AM C A H v (.frz xs)):∃a vs,v=.ref a/\Bz C.K H a vs/\AJ C A H vs xs:=by
 rcases h with h | ⟨a,rfl,t⟩
 ·cases h with
  | MX q r=>exact⟨_,_,rfl,.inl (.inr ⟨_,q⟩),r⟩
  | lstK q r=>exact⟨_,_,rfl,Va q,r⟩
 ·exact t.elim
def DV (K:W.Frag)(H:Hp)(a:Addr)(vs:List V):Prop:=H a=some (.tup vs)\/E9 K a vs
theorem DV.sq {H:Hp}(h:DV K H a vs):Co K H a vs:=h.elim (λq=>Co.of q) fz
theorem DV.rep {C:MC}{A:Addr->Prop}{H:Hp}{xs:List PV}(h:DV C.K H a vs)(r:AJ C A H vs xs):Rep C A H (.ref a) (.tup xs):=h.elim (λq=>.tup q r) λq=>.CS q r
theorem DV.ex {A:Addr->Prop}{H:Hp}(h:DV K H a vs)(e:Ex A H A' H'):DV K H' a vs:=h.imp (λq=>(e _ _ q).2 rfl) id
theorem DV.up {H:Hp}(h:DV K H a vs)(s:AK H H'):DV K H' a vs:=h.imp (λq=>s _ _ q) id
theorem DV.key {H:Hp}{ks:List AG}(h:DV K H a vs)(k:GN K H ks vs):CD K H a ks:=h.imp (λq=>⟨vs,q,k⟩) λq=>⟨vs,q,k⟩
theorem AM.tup {xs:List PV}(h:AM C A H v (.tup xs)):∃a vs,v=.ref a/\DV C.K H a vs/\AJ C A H vs xs:=by
 rcases h with h | ⟨a,rfl,t⟩
 ·cases h with
  | tup q r=>exact⟨_,_,rfl,.inl q,r⟩
  | CS q r=>exact⟨_,_,rfl,.inr q,r⟩
 ·exact t.elim
theorem AM.ktp {xs:List PV}(h:AM C A H v (.ktp xs)):∃a vs,v=.ref a/\Co C.K H a vs/\AJ C A H vs xs:=by
 rcases h with h | ⟨a,rfl,t⟩
 ·cases h with
  | tupK q r=>exact⟨_,_,rfl,kW q,r⟩
 ·exact t.elim
theorem AM.dK {kvs:List (Key×PV)}(h:AM C A H v (.dK kvs)):∃a kv,v=.ref a/\H a=some (.dK kv)/\AX C A H kv kvs:=by
 rcases h with h | ⟨a,rfl,vs,q,r⟩
 ·cases h with
  | dK q _ r=>exact⟨_,_,rfl,q,r⟩
 ·exact⟨a,vs,rfl,q,r⟩
theorem AM.dT {kvs:List (List AG×PV)}(h:AM C A H v (.dT kvs)):∃a kv,v=.ref a/\H a=some (.dT kv)/\A2 C A H kv kvs:=by
 rcases h with h | ⟨a,rfl,vs,q,r⟩
 ·cases h with
  | dT q _ r=>exact⟨_,_,rfl,q,r⟩
 ·exact⟨a,vs,rfl,q,r⟩
theorem AM.obj {c:Nat}{fs:List (Str×PV)}(h:AM C A H v (.obj c fs)):∃a dx f,v=.ref a/\H a=some (.ins (C.cl c) dx f)/\CF C A H f fs:=by
 rcases h with h | ⟨a,rfl,dx,vs,q,r⟩
 ·cases h with
  | obj q _ r=>exact⟨_,_,_,rfl,q,r⟩
 ·exact⟨a,dx,vs,rfl,q,r⟩
theorem AM.int {i:Int}(h:AM C A H v (.int i)):v=.int i:=by
 rcases h with h | ⟨a,rfl,t⟩
 ·cases h;rfl
 ·exact t.elim
theorem AM.str {x:Str}(h:AM C A H v (.str x)):v=.str x:=by
 rcases h with h | ⟨a,rfl,t⟩
 ·cases h;rfl
 ·exact t.elim
theorem AM.bl {x:Bool}(h:AM C A H v (.bl x)):v=.bl x:=by
 rcases h with h | ⟨a,rfl,t⟩
 ·cases h;rfl
 ·exact t.elim
theorem AM.AO (h:AM C A H v .AO):v=.AO:=by
 rcases h with h | ⟨a,rfl,t⟩
 ·cases h;rfl
 ·exact t.elim
end
structure BX where
 C:MC
 A:Addr->Prop
 H0:Hp
 fx:Nat->Option V
abbrev Env:=List (Option PV)
abbrev rg:=Env->Option PV
def Bs (b:BX)(Ow:Addr->Prop)(a:Addr):Prop:=¬ Ow a/\(b.A a\/b.H0 a=none)
structure ER (b:BX)(Ow:Addr->Prop)(G:qr)(σ:St)(env:Env)(H:Hp):Prop where
 len:σ.length=env.length
 same:AK b.H0 H
 live:∀a,Ow a->∃o,H a=some o
 new:∀a,Ow a->b.H0 a=none
 val:∀i p,env[i]?=some (some p)->i∉G->∃v,σ[i]?=some (some v)/\Rep b.C (Bs b Ow) H v p
 own:∀i p,env[i]?=some (some p)->i∈G->∃a,σ[i]?=some (some (.ref a))/\Ow a/\Top b.C (Bs b Ow) H a p
 sep:∀i j a p q,env[i]?=some (some p)->i∈G->σ[i]?=some (some (.ref a))->env[j]?=some (some q)->j∈G->σ[j]?=some (some (.ref a))->i=j
 fix:∀i v,b.fx i=some v->σ[i]?=some (some v)
inductive Md where | val | own | bor
def Res (b:BX)(Ow:Addr->Prop)(H H':Hp)(m:Md)(v:V)(p:PV):Prop:=match m with
 | .val=>Rep b.C (Bs b Ow) H' v p
 | .own=>∃a,v=.ref a/\H a=none/\Top b.C (λc=>Bs b Ow c/\c≠a) H' a p
 | .bor=>AM b.C (Bs b Ow) H' v p
def tM (b:BX)(G:qr)(m:Md)(f:rg):TE:=fun σ H Q=>∃Ow env p,ER b Ow G σ env H/\f env=some p/\∀v H',AK H H'->Res b Ow H H' m v p->Q v H'
def V4 (b:BX)(G:qr)(f:Env->Option Bool):TT:=fun σ H Q=>∃Ow env k,ER b Ow G σ env H/\f env=some k/\∀H',AK H H'->Q k H'
section
variable {b:BX}{Ow:Addr->Prop}{G:qr}{σ:St}{env:Env}{H H':Hp}
theorem ER.up (E:ER b Ow G σ env H)(s:AK H H'):ER b Ow G σ env H':=
 ⟨E.len,E.same.trans s,λa h=>let ⟨o,e⟩:=E.live a h;⟨o,s _ _ e⟩,E.new,λi p h n=>let ⟨v,e,r⟩:=E.val i p h n;⟨v,e,r.ex (.of_same s)⟩,
  λi p h n=>let ⟨a,e,w,t⟩:=E.own i p h n;⟨a,e,w,t.ex (.of_same s) λo z=>s _ _ z⟩,E.sep,E.fix⟩
theorem ER.fresh (E:ER b Ow G σ env H)(h:H a=none):Bs b Ow a:=
 ⟨λw=>(by obtain⟨o,e⟩:=E.live a w;rw[h] at e;cases e),.inr (E.same.free h)⟩
theorem Res.val {m:Md}{v:V}{p:PV}(E:ER b Ow G σ env H)(hm:m≠.bor)(r:Res b Ow H H' m v p):Res b Ow H H' .val v p:=by
 cases m with
 | val=>exact r
 | bor=>exact absurd rfl hm
 | own=>
  obtain⟨a,rfl,h,t⟩:=r
  have hw:Ex (λc=>Bs b Ow c/\c≠a) H' (Bs b Ow) H':=aV λ_ _ _ z=>z.1
  exact(t.ex hw λo z=>z).rep (E.fresh h)
theorem Res.bor {m:Md}{v:V}{p:PV}(r:Res b Ow H H' m v p):Res b Ow H H' .bor v p:=by
 cases m with
 | val=>exact .inl r
 | bor=>exact r
 | own=>
  obtain⟨a,rfl,h,t⟩:=r
  have hw:Ex (λc=>Bs b Ow c/\c≠a) H' (Bs b Ow) H':=aV λ_ _ _ z=>z.1
  exact .inr ⟨a,rfl,t.ex hw λo z=>z⟩
theorem Res.up {m:Md}{p:PV}{LN:Hp}(r:Res b Ow H H' m v p)(s:AK H' LN):Res b Ow H LN m v p:=by
 cases m with
 | val=>exact Rep.ex (.of_same s) r
 | bor=>exact AM.ex (.of_same s) s r
 | own=>
  obtain⟨a,e,h,t⟩:=r
  exact⟨a,e,h,t.ex (.of_same s) λo z=>s _ _ z⟩
theorem Res.down {m:Md}{p:PV}{LN:Hp}(s:AK H H')(r:Res b Ow H' LN m v p):Res b Ow H LN m v p:=by
 cases m with
 | val=>exact r
 | bor=>exact r
 | own=>
  obtain⟨a,e,h,t⟩:=r
  exact⟨a,e,s.free h,t⟩
end
variable {X:Cx}
theorem PE.imp {e:Expr}{t u:TE}(h:PE X e t)(i:∀ σ H Q,u σ H Q->t σ H Q):PE X e u:=λAF s σ H Q I q=>h AF s σ H Q I (i σ H Q q)
theorem PT.imp {e:Expr}{t u:TT}(h:PT X e t)(i:∀ σ H Q,u σ H Q->t σ H Q):PT X e u:=λAF s σ H Q I q=>h AF s σ H Q I (i σ H Q q)
theorem PS.imp {e:Stmt}{t u:TS}(h:PS X e t)(i:∀D σ H,u D σ H->t D σ H):PS X e u:=λAF s σ H D I q=>h AF s σ H D I (i D σ H q)
theorem PE.or {e:Expr}{t u:TE}(h:PE X e t)(h':PE X e u):PE X e (fun σ H Q=>t σ H Q\/u σ H Q):=λAF s σ H Q I q=>q.elim (h AF s σ H Q I) (h' AF s σ H Q I)
theorem Ct.or {op:Value->Value->Sem Value}{r r':R2}(h:Ct X op r)(h':Ct X op r'):Ct X op (λx y H Q=>r x y H Q\/r' x y H Q):=λAF s σ H x y v u Q I rx ry q=>q.elim (h AF s σ H x y v u Q I rx ry) (h' AF s σ H x y v u Q I rx ry)
abbrev SE (X:Cx)(b:BX)(G:qr)(m:Md)(e:Expr)(f:rg):Prop:=PE X e (tM b G m f)
abbrev ST (X:Cx)(b:BX)(G:qr)(e:Expr)(f:Env->Option Bool):Prop:=PT X e (V4 b G f)
theorem SE.bor {X:Cx}{b:BX}{G:qr}{m:Md}{e:Expr}{f:rg}(h:SE X b G m e f):SE X b G .bor e f:=
 PE.imp h fun σ H Q ⟨Ow,env,p,E,hf,k⟩=>⟨Ow,env,p,E,hf,λv H' s r=>k v H' s r.bor⟩
theorem SE.val {X:Cx}{b:BX}{G:qr}{e:Expr}{f:rg}(h:SE X b G .own e f):SE X b G .val e f:=
 PE.imp h fun σ H Q ⟨Ow,env,p,E,hf,k⟩=>⟨Ow,env,p,E,hf,λv H' s r=>k v H' s (r.val E (by intro z;cases z))⟩
noncomputable def bC (p:PV)(env:Env):Option PV:=some p
@[simp] theorem TV (p:PV)(env:Env):bC p env=(some p):=id rfl
noncomputable def bV (i:Nat)(env:Env):Option PV:=match env[i]? with | some o=>o | none=>none
@[simp] theorem TX (i:Nat)(env:Env):bV i env=(match env[i]? with | some o=>o | none=>none):=id rfl
noncomputable def b1 (g:PV->Option PV)(f:rg)(env:Env):Option PV:=(f env).bind g
@[simp] theorem TY (g:PV->Option PV)(f:rg)(env:Env):b1 g f env=((f env).bind g):=id rfl
noncomputable def b2 (g:PV->PV->Option PV)(f h:rg)(env:Env):Option PV:=(f env).bind λx=>(h env).bind λy=>g x y
@[simp] theorem T3 (g:PV->PV->Option PV)(f h:rg)(env:Env):b2 g f h env=((f env).bind λx=>(h env).bind λy=>g x y):=id rfl
noncomputable def b3 (g:PV->PV->PV->Option PV)(f h k:rg)(env:Env):Option PV:=(f env).bind λx=>(h env).bind λy=>(k env).bind λz=>g x y z
@[simp] theorem T4 (g:PV->PV->PV->Option PV)(f h k:rg)(env:Env):b3 g f h k env=((f env).bind λx=>(h env).bind λy=>(k env).bind λz=>g x y z):=id rfl
noncomputable def vW (f g:rg)(env:Env):Option PV:=(f env).bind λx=>match x with | .bl true=>g env | .bl false=>some (.bl false) | _=>none
@[simp] theorem SQ (f g:rg)(env:Env):vW f g env=((f env).bind λx=>match x with | .bl true=>g env | .bl false=>some (.bl false) | _=>none):=id rfl
noncomputable def Vb (f g:rg)(env:Env):Option PV:=(f env).bind λx=>match x with | .bl true=>some (.bl true) | .bl false=>g env | _=>none
@[simp] theorem Tn (f g:rg)(env:Env):Vb f g env=((f env).bind λx=>match x with | .bl true=>some (.bl true) | .bl false=>g env | _=>none):=id rfl
noncomputable def zq (f:rg)(env:Env):Option PV:=(f env).bind λx=>match x with | .bl c=>some (.bl (!c)) | _=>none
@[simp] theorem SX (f:rg)(env:Env):zq f env=((f env).bind λx=>match x with | .bl c=>some (.bl (!c)) | _=>none):=id rfl
noncomputable def V5 (c:Env->Option Bool)(f g:rg)(env:Env):Option PV:=(c env).bind λx=>if x=true then f env else g env
@[simp] theorem Tp (c:Env->Option Bool)(f g:rg)(env:Env):V5 c f g env=((c env).bind λx=>if x=true then f env else g env):=id rfl
noncomputable def tV (f:rg)(env:Env):Option Bool:=(f env).bind λx=>match x with | .bl c=>some c | _=>none
@[simp] theorem T5 (f:rg)(env:Env):tV f env=((f env).bind λx=>match x with | .bl c=>some c | _=>none):=id rfl
noncomputable def tA (f g:Env->Option Bool)(env:Env):Option Bool:=(f env).bind λx=>if x=true then g env else some false
@[simp] theorem T6 (f g:Env->Option Bool)(env:Env):tA f g env=((f env).bind λx=>if x=true then g env else some false):=id rfl
noncomputable def tO (f g:Env->Option Bool)(env:Env):Option Bool:=(f env).bind λx=>if x=true then some true else g env
@[simp] theorem T7 (f g:Env->Option Bool)(env:Env):tO f g env=((f env).bind λx=>if x=true then some true else g env):=id rfl
noncomputable def tN (f:Env->Option Bool)(env:Env):Option Bool:=(f env).bind λx=>some (!x)
@[simp] theorem T8 (f:Env->Option Bool)(env:Env):tN f env=((f env).bind λx=>some (!x)):=id rfl
noncomputable def aQ (env:Env):Option (List PV):=some []
@[simp] theorem S5 (env:Env):aQ env=(some []):=id rfl
noncomputable def au (f:rg)(g:Env->Option (List PV))(env:Env):Option (List PV):=(f env).bind λx=>(g env).bind λxs=>some (x::xs)
abbrev AD (n:Int):=bC (.int n)
abbrev AE (i:Nat):=au (bV i)
@[simp] theorem R4 (f:rg)(g:Env->Option (List PV))(env:Env):au f g env=((f env).bind λx=>(g env).bind λxs=>some (x::xs)):=id rfl
noncomputable def gB (g:Env->Option (List PV))(env:Env):Option PV:=(g env).bind λxs=>if xs.length<=1000000 then some (.lst xs) else none
@[simp] theorem S6 (g:Env->Option (List PV))(env:Env):gB g env=((g env).bind λxs=>if xs.length<=1000000 then some (.lst xs) else none):=id rfl
noncomputable def cY (g:Env->Option (List PV))(env:Env):Option PV:=(g env).bind λxs=>if xs.length<=1000000 then some (.tup xs) else none
@[simp] theorem S7 (g:Env->Option (List PV))(env:Env):cY g env=((g env).bind λxs=>if xs.length<=1000000 then some (.tup xs) else none):=id rfl
noncomputable def bH (m:List PV->Option PV)(g:Env->Option (List PV))(env:Env):Option PV:=(g env).bind m
@[simp] theorem R5 (m:List PV->Option PV)(g:Env->Option (List PV))(env:Env):bH m g env=((g env).bind m):=id rfl
section
variable {b:BX}{G:qr}{m:Md}{σ:St}{H:Hp}{Q:VK}
def F6 (b:BX)(m:Md)(r:R2)(g:PV->PV->Option PV):Prop:=∀(Ow:Addr->Prop) (H:Hp) (v1 v2:V) (p1 p2 p:PV) (Q:VK),(∀a,H a=none->Bs b Ow a)->AM b.C (Bs b Ow) H v1 p1->AM b.C (Bs b Ow) H v2 p2->g p1 p2=some p->
 (∀v H',AK H H'->Res b Ow H H' m v p->Q v H')->r v1 v2 H Q
theorem DW {r:R2}{g:PV->PV->Option PV}{f1 f2:rg}(hr:F6 b m r g)(h:tM b G m (b2 g f1 f2) σ H Q):MA r (tM b G .bor f1) (tM b G .bor f2) σ H Q:=by
 obtain⟨Ow,env,p,E,hf,k⟩:=h
 unfold b2 at hf
 cases h1:f1 env with
 | none=>rw[h1] at hf;cases hf
 | some p1=>
  rw[h1] at hf
  cases h2:f2 env with
  | none=>rw[h2] at hf;cases hf
  | some p2=>
   rw[h2] at hf
   exact⟨Ow,env,p1,E,h1,λv1 H1 s1 r1=>⟨Ow,env,p2,E.up s1,h2,λv2 H2 s2 r2=>hr Ow H2 v1 v2 p1 p2 p Q (λa=>(E.up (s1.trans s2)).fresh) (r1.up s2) r2 hf λv H' s r=>k v H' (s1.trans (s2.trans s)) (r.down (s1.trans s2))⟩⟩
def YI (b:BX)(m:Md)(r:V->Hp->VK->Prop)(g:PV->Option PV):Prop:=∀(Ow:Addr->Prop) (H:Hp) (v1:V) (p1 p:PV) (Q:VK),(∀a,H a=none->Bs b Ow a)->AM b.C (Bs b Ow) H v1 p1->g p1=some p->
 (∀v H',AK H H'->Res b Ow H H' m v p->Q v H')->r v1 H Q
theorem DX {r:V->Hp->VK->Prop}{g:PV->Option PV}{f1:rg}(hr:YI b m r g)(h:tM b G m (b1 g f1) σ H Q):tM b G .bor f1 σ H λx H1=>r x H1 Q:=by
 obtain⟨Ow,env,p,E,hf,k⟩:=h
 unfold b1 at hf
 cases h1:f1 env with
 | none=>rw[h1] at hf;cases hf
 | some p1=>
  rw[h1] at hf
  exact⟨Ow,env,p1,E,h1,λv1 H1 s1 r1=>hr Ow H1 v1 p1 p Q (λa=>(E.up s1).fresh) r1 hf λv H' s r=>k v H' (s1.trans s) (r.down s1)⟩
end
@[simp] noncomputable def eQ:PV->PV->Option PV
 | .int i,.int j=>some (.int (i+j))
 | .str x,.str y=>if x.length+y.length<=1000000 then some (.str (x++y)) else none
 | .lst xs,.lst ys=>if xs.length+ys.length<=1000000 then some (.lst (xs++ys)) else none
 | _,_=>none
noncomputable def O8:PV->PV->Option PV
 | .tup xs,.tup ys=>if xs≠[]/\xs.length+ys.length<=1000000 then some (.tup (xs++ys)) else none
 | _,_=>none
@[simp] noncomputable def P7:PV->PV->Option PV
 | .int i,.int j=>some (.int (i - j))
 | _,_=>none
noncomputable def MY (i:Int):Bool:=@decide (-18446744073709551616 < i/\i < 18446744073709551616) (Classical.propDecidable _)
@[simp] noncomputable def sX:PV->PV->Option PV
 | .int i,.int j=>if (MY i||MY j)=true then some (.int (i*j)) else none
 | _,_=>none
@[simp] noncomputable def ir:PV->PV->Option PV
 | .int i,.int j=>if 0 < j/\j < 1073741824 then some (.int (i / j)) else none
 | _,_=>none
@[simp] noncomputable def dH:PV->PV->Option PV
 | .int i,.int j=>if 0 < j then some (.int (i % j)) else none
 | _,_=>none
@[simp] noncomputable def jc (g:Int->Int->Bool):PV->PV->Option PV
 | .int i,.int j=>some (.bl (g i j))
 | _,_=>none
theorem gb {n:Nat}(h:n<=1000000):n<=sizeLine:=gt (bZ h)
section
variable {b:BX}
theorem Lk {g:Int->Int->Int}{f:PV->PV->Option PV}(hf:∀x y p,f x y=some p->∃i j,x=.int i/\y=.int j/\p=.int (g i j)):F6 b .val (OQ λi j=>.int (g i j)) f:=by
 intro Ow H v1 v2 p1 p2 p Q hn r1 r2 e k
 obtain⟨i,j,rfl,rfl,rfl⟩:=hf _ _ _ e
 rw[r1.int,r2.int]
 exact⟨i,j,rfl,rfl,k _ H (AK.refl _) (.int _)⟩
theorem Gy {g:Int->Int->Bool}:F6 b .val (OQ λi j=>.bl (g i j)) (jc g):=by
 intro Ow H v1 v2 p1 p2 p Q hn r1 r2 e k
 unfold jc at e
 split at e
 ·cases e
  rw[r1.int,r2.int]
  exact⟨_,_,rfl,rfl,k _ H (AK.refl _) (.bl _)⟩
 ·cases e
theorem O9:F6 b .val (OQ λi j=>.int (i - j)) P7:=Lk λx y p e=>by
 unfold P7 at e
 split at e
 ·cases e;exact⟨_,_,rfl,rfl,rfl⟩
 ·cases e
theorem Gz:F6 b .val (rI MB λi j=>.int (i*j)) sX:=by
 intro Ow H v1 v2 p1 p2 p Q hn r1 r2 e k
 unfold sX at e
 split at e
 ·split at e
  ·rename_i h
   cases e
   rw[r1.int,r2.int]
   refine⟨_,_,rfl,rfl,?_,k _ H (AK.refl _) (.int _)⟩
   simp only[MY,Bool.or_eq_true,eD] at h
   exact h
  ·cases e
 ·cases e
theorem uH {i:Int}(h:-18446744073709551616 < i)(h':i < 18446744073709551616):MY i=true:=@hV _ (Classical.propDecidable _) ⟨h,h'⟩
theorem O_:F6 b .val (rI N_ λi j=>.int (i / j)) ir:=by
 intro Ow H v1 v2 p1 p2 p Q hn r1 r2 e k
 unfold ir at e
 split at e
 ·split at e
  ·rename_i h
   cases e
   rw[r1.int,r2.int]
   exact⟨_,_,rfl,rfl,h,k _ H (AK.refl _) (.int _)⟩
  ·cases e
 ·cases e
theorem Pa:F6 b .val (rI (λ_ j=>0 < j) λi j=>.int (i % j)) dH:=by
 intro Ow H v1 v2 p1 p2 p Q hn r1 r2 e k
 unfold dH at e
 split at e
 ·split at e
  ·rename_i h
   cases e
   rw[r1.int,r2.int]
   exact⟨_,_,rfl,rfl,h,k _ H (AK.refl _) (.int _)⟩
  ·cases e
 ·cases e
end
variable {Ow:Addr->Prop}
theorem mZ {b:BX}{xs:List PV}(h:H a=none)(r:AJ b.C (Bs b Ow) H vs xs):Res b Ow H (upd H a (.lst vs)) .own (.ref a) (.lst xs):=by
 refine⟨a,rfl,h,vs,az,r.ex λc o e=>?_⟩
 have hc:c≠a:=aq e h
 exact⟨λq=>⟨by rw[ao hc];exact e,q,hc⟩,λ_=>by rw[ao hc];exact e⟩
theorem m6 {b:BX}{H0:Hp}{xs:List PV}(h:H a=none)(r:AJ b.C (Bs b Ow) H vs xs):Res b Ow H0 (upd H a (.tup vs)) .val (.ref a) (.tup xs):=
 Rep.tup az (r.ex (.of_same (aL h _)))
section
variable {b:BX}
theorem Pb:F6 b .val (λx y H Q=>(OQ (λi j=>.int (i+j)) x y H Q\/∃i j,x=.str i/\y=.str j/\i.length+j.length<=sizeLine/\Q (.str (i++j)) H)\/Ox x y H Q) eQ:=by
 intro Ow H v1 v2 p1 p2 p Q hn r1 r2 e k
 unfold eQ at e
 split at e
 ·cases e
  rw[r1.int,r2.int]
  exact .inl (.inl ⟨_,_,rfl,rfl,k _ H (AK.refl _) (.int _)⟩)
 ·split at e
  ·rename_i h
   cases e
   rw[r1.str,r2.str]
   exact .inl (.inr ⟨_,_,rfl,rfl,gb h,k _ H (AK.refl _) (.str _)⟩)
  ·cases e
 ·split at e
  ·rename_i h
   cases e
   obtain⟨a,vs,rfl,ha,ra⟩:=r1.lst
   obtain⟨c,us,rfl,hc,rc⟩:=r2.lst
   exact .inr ⟨a,c,vs,us,rfl,rfl,ha,hc,gb (by rw[ra.length,rc.length];exact h),λq hq=>k _ _ (aL hq _) (.lst az (hn q hq) ((ra.append rc).ex (.of_same (aL hq _))))⟩
  ·cases e
 ·cases e
theorem Ln:F6 b .val (uA b.C.K) O8:=by
 intro Ow H v1 v2 p1 p2 p Q hn r1 r2 e k
 unfold O8 at e
 split at e
 ·split at e
  ·rename_i h
   cases e
   obtain⟨a,vs,rfl,ha,ra⟩:=r1.tup
   obtain⟨c,us,rfl,hc,rc⟩:=r2.tup
   refine⟨a,c,vs,us,rfl,rfl,ha.sq,hc.sq,?_,gb (by rw[ra.length,rc.length];exact h.2),λhu=>?_,λ_ q hq=>k _ _ (aL hq _) (m6 hq (ra.append rc))⟩
   rotate_left
   ·subst hu
    cases rc
    rw[bE] at k
    exact k _ H (AK.refl _) (ha.rep ra)
   intro z
   have:=ra.length
   rw[z] at this
   exact h.1 (gy.mp this.symm)
  ·cases e
 ·cases e
end
variable {x:Str}
section
variable {X:Cx}{b:BX}{G:qr}{m:Md}{e e1 e2:Expr}{f f1 f2:rg}{pos:Pos}
theorem aj {i j pos}:SE X b G .val (.Constant (.int i) j pos) (AD i):=PE.imp dN<|by rintro σ H Q ⟨Ow,env,p,E,hf,k⟩;cases hf;exact k _ H (AK.refl _) (.int i)
theorem jw {i j pos}:SE X b G .val (.Constant (.bool i) j pos) (bC (.bl i)):=PE.imp QQ<|by rintro σ H Q ⟨Ow,env,p,E,hf,k⟩;cases hf;exact k _ H (AK.refl _) (.bl i)
theorem fX {i j pos}:SE X b G .val (.Constant (.str i) j pos) (bC (.str i)):=PE.imp Ny<|by rintro σ H Q ⟨Ow,env,p,E,hf,k⟩;cases hf;exact k _ H (AK.refl _) (.str i)
theorem qp {j pos}:SE X b G .val (.Constant .none j pos) (bC .AO):=PE.imp yI<|by rintro σ H Q ⟨Ow,env,p,E,hf,k⟩;cases hf;exact k _ H (AK.refl _) .AO
theorem fG {i:Nat}{env:Env}{p:PV}(h:bV i env=some p):env[i]?=some (some p):=by
 unfold bV at h
 split at h
 ·rename_i o e;rw[e,h]
 ·cases h
theorem aa (i:Nat){pos:Pos}(hN:X.N[i]?=some x:=by rfl)(hv:Mc X.env.scope x:=by first | exact ff rfl | exact fz (ff rfl) | exact fz (fz rfl))(hG:i∉G:=by decide)(hd:(x == ("__debug__" : Str))=false:=by decide)
  (EI:(x == ("__classdict__" : Str))=false:=by decide):SE X b G .val (.Name x pos) (bV i):=PE.imp (ie hN hv hd EI)<|by
 rintro σ H Q ⟨Ow,env,p,E,hf,k⟩
 obtain⟨v,e,r⟩:=E.val i p (fG hf) hG
 exact⟨v,e,k v H (AK.refl _) r⟩
theorem zr (i:Nat){pos:Pos}(hN:X.N[i]?=some x:=by rfl)(hv:Mc X.env.scope x:=by first | exact ff rfl | exact fz (ff rfl) | exact fz (fz rfl))(hd:(x == ("__debug__" : Str))=false:=by decide)
  (EI:(x == ("__classdict__" : Str))=false:=by decide):SE X b G .bor (.Name x pos) (bV i):=PE.imp (ie hN hv hd EI)<|by
 rintro σ H Q ⟨Ow,env,p,E,hf,k⟩
 by_cases hG:i∈G
 ·obtain⟨a,e,_,t⟩:=E.own i p (fG hf) hG
  exact⟨_,e,k _ H (AK.refl _) (.inr ⟨a,rfl,t⟩)⟩
 ·obtain⟨v,e,r⟩:=E.val i p (fG hf) hG
  exact⟨v,e,k v H (AK.refl _) (.inl r)⟩
theorem Ra {q:PV}{pos:Pos}(hm:X.mg x=some (.ref a))(hr:∀A H,Rep b.C A H (.ref a) q)(hg:Gl X x:=by rfl)(hd:(x == ("__debug__" : Str))=false:=by decide):SE X b G .val (.Name x pos) (bC q):=
 PE.imp (j7 hg hm (v:=.ref a) rfl hd)<|by rintro σ H Q ⟨Ow,env,p,E,hf,k⟩;cases hf;exact k _ H (AK.refl _) (hr _ _)
theorem oM {op:Operator}{r:R2}{g:PV->PV->Option PV}(ho:Ct X (binaryOp op) r)(hr:F6 b m r g){m1 m2:Md}(h1:SE X b G m1 e1 f1)(h2:SE X b G m2 e2 f2):SE X b G m (.BinOp e1 op e2 pos) (b2 g f1 f2):=
 PE.imp (Kl ho h1.bor h2.bor) fun σ H Q h=>DW hr h
theorem dz {m1 m2:Md}(h1:SE X b G m1 e1 f1)(h2:SE X b G m2 e2 f2):SE X b G .val (.BinOp e1 .Add e2 pos) (b2 eQ f1 f2):=oM (Ct.or (Ct.or Oa Dr) Oz) Pb h1 h2
theorem Pg {m1 m2:Md}(h1:SE X b G m1 e1 f1)(h2:SE X b G m2 e2 f2):SE X b G .val (.BinOp e1 .Sub e2 pos) (b2 P7 f1 f2):=oM Ob O9 h1 h2
theorem uI {m1 m2:Md}(h1:SE X b G m1 e1 f1)(h2:SE X b G m2 e2 f2):SE X b G .val (.BinOp e1 .Mult e2 pos) (b2 sX f1 f2):=oM FW Gz h1 h2
theorem iu {m1 m2:Md}(h1:SE X b G m1 e1 f1)(h2:SE X b G m2 e2 f2):SE X b G .val (.BinOp e1 .FloorDiv e2 pos) (b2 ir f1 f2):=oM KR O_ h1 h2
theorem cO {m1 m2:Md}(h1:SE X b G m1 e1 f1)(h2:SE X b G m2 e2 f2):SE X b G .val (.BinOp e1 .Mod e2 pos) (b2 dH f1 f2):=oM Oc Pa h1 h2
end
@[simp] noncomputable def OT:PV->PV->Option Bool
 | .AO,.AO=>some true
 | .AO,.int _=>some false | .int _,.AO=>some false | .AO,.bl _=>some false | .bl _,.AO=>some false | .AO,.str _=>some false | .str _,.AO=>some false
 | .int i,.int j=>some (decide (i=j))
 | .bl i,.bl j=>some (decide (i=j))
 | .str i,.str j=>some (decide (i=j))
 | .int _,.str _=>some false | .str _,.int _=>some false | .bl _,.str _=>some false | .str _,.bl _=>some false
 | _,_=>none
mutual
noncomputable def toD:PV->Option PyData
 | .AO=>some .none
 | .bl b=>some (.bool b)
 | .int i=>some (.int i)
 | .str x=>some (.str x)
 | .lst xs=>(eU xs).map .list
 | .frz xs=>(eU xs).map .list
 | .tup xs=>(eU xs).map .tuple
 | .ktp xs=>(eU xs).map .tuple
 | _=>none
noncomputable def eU:List PV->Option (List PyData)
 | []=>some []
 | x::xs=>match toD x,eU xs with
  | some d,some ds=>some (d::ds)
  | _,_=>none
end
noncomputable def Sr (x y:PV):Option Bool:=match toD x,toD y with
 | some d,some e=>if SeqAt.shaped d=true/\SeqAt.shaped e=true then some (PyData.eqv d e) else none
 | _,_=>none
noncomputable def GB (x y:PV):Option Bool:=match OT x y with
 | some k=>some k
 | none=>Sr x y
noncomputable def eqQ (x y:PV):Option PV:=(GB x y).map .bl
@[simp] theorem Tq (x y:PV):eqQ x y=((GB x y).map .bl):=id rfl
noncomputable def Sz (x y:PV):Option PV:=(GB x y).map λk=>.bl (!k)
@[simp] theorem Tr (x y:PV):Sz x y=((GB x y).map λk=>.bl (!k)):=id rfl
theorem Rep.dt2:(∀{v p},Rep C A H v p->∀d,toD p=some d->Dt C.K H v d)/\(∀{v p},AJ C A H v p->∀d,eU p=some d->Lm C.K H v d):=by
 have l:∀{a vs xs},Bz C.K H a vs->(∀d,eU xs=some d->Lm C.K H vs d)->∀d,(eU xs).map .list=some d->Dt C.K H (.ref a) d:=by
  intro a vs xs h r d e
  obtain⟨x,hx,rfl⟩:=br.mp e
  exact .lst h (r x hx)
 have t:∀{a vs xs},Co C.K H a vs->(∀d,eU xs=some d->Lm C.K H vs d)->∀d,(eU xs).map .tuple=some d->Dt C.K H (.ref a) d:=by
  intro a vs xs h r d e
  obtain⟨x,hx,rfl⟩:=br.mp e
  exact .tup h (r x hx)
 have nd:=Rep.nd (C:=C) (A:=A) (H:=H) (M1:=λv p=>∀d,toD p=some d->Dt C.K H v d) (M2:=λv p=>∀d,eU p=some d->Lm C.K H v d) (M3:=λ_ _=>True) (M4:=λ_ _=>True) (M5:=λ_ _=>True)
  ?_ ?_ ?_ ?_ ?_ ?_ ?_ ?_ ?_ ?_ ?_ ?_ ?_ ?_ ?_ trivial (λ_ _ _ _=>trivial) trivial (λ_ _ _ _=>trivial) trivial (λ_ _ _ _=>trivial)
 ·exact⟨nd.1,nd.2.1⟩
 ·intro d e;simp only[toD] at e;cases e;exact .AO
 ·intro b d e;simp only[toD] at e;cases e;exact .bl b
 ·intro b d e;simp only[toD] at e;cases e;exact .int b
 ·intro b d e;simp only[toD] at e;cases e;exact .str b
 ·intro a vs xs h _ _ r d e;simp only[toD] at e;exact l (Bz.of h) r d e
 ·intro a o vs xs h _ r d e;simp only[toD] at e;exact l (.inl (.inr ⟨_,h⟩)) r d e
 ·intro a vs xs h _ r d e;simp only[toD] at e;exact l (Va h) r d e
 ·intro a vs xs h _ r d e;simp only[toD] at e;exact t (Co.of h) r d e
 ·intro a vs xs h _ r d e;simp only[toD] at e;exact t (.inr h) r d e
 ·intro a vs xs h _ r d e;simp only[toD] at e;exact t (kW h) r d e
 ·intro a vs xs h _ _ _ d e;simp only[toD] at e;cases e
 ·intro a vs xs h _ _ _ d e;simp only[toD] at e;cases e
 ·intro a dx c f fs h _ _ _ d e;simp only[toD] at e;cases e
 ·intro d e;simp only[eU] at e;cases e;exact .nil
 ·intro v p vs ps _ _ h t d e
  simp only[eU] at e
  cases q:toD p with
  | none=>rw[q] at e;cases e
  | some d=>
   cases q2:eU ps with
   | none=>rw[q,q2] at e;cases e
   | some ds=>rw[q,q2] at e;cases e;exact .cons (h _ q) (t _ q2)
theorem Rep.dt {p:PV}{d:PyData}(h:Rep C A H v p)(e:toD p=some d):Dt C.K H v d:=Rep.dt2.1 h d e
theorem AM.dt {C:MC}{A:Addr->Prop}{H:Hp}{v:V}{p:PV}{d:PyData}(h:AM C A H v p)(e:toD p=some d):Dt C.K H v d:=by
 rcases h with h | ⟨a,rfl,t⟩
 ·exact h.dt e
 ·cases p with
  | lst xs=>
   obtain⟨vs,q,r⟩:=t
   exact(Rep.lst (A:=λ_=>True) q fE (r.ex (aV λ_ _ _ _=>fE))).dt e
  | dK kvs=>simp only[toD] at e;cases e
  | dT kvs=>simp only[toD] at e;cases e
  | obj c fs=>simp only[toD] at e;cases e
  | _=>exact t.elim
theorem zu {u:V}{p q:PV}{k:Bool}(h:AM C A H v p)(h':AM C A H u q)(e:OT p q=some k):Ia v u=true/\decide (v=u)=k:=by
 unfold OT at e
 split at e <;> first | cases e | skip
 ·rw[h.AO,h'.AO];exact⟨rfl,rfl⟩
 ·rw[h.AO,h'.int];exact⟨rfl,rfl⟩
 ·rw[h.int,h'.AO];exact⟨rfl,rfl⟩
 ·rw[h.AO,h'.bl];exact⟨rfl,rfl⟩
 ·rw[h.bl,h'.AO];exact⟨rfl,rfl⟩
 ·rw[h.AO,h'.str];exact⟨rfl,rfl⟩
 ·rw[h.str,h'.AO];exact⟨rfl,rfl⟩
 ·rw[h.int,h'.int];exact⟨rfl,by simp⟩
 ·rw[h.bl,h'.bl];exact⟨rfl,by simp⟩
 ·rw[h.str,h'.str];exact⟨rfl,by simp⟩
 ·rw[h.int,h'.str];exact⟨rfl,rfl⟩
 ·rw[h.str,h'.int];exact⟨rfl,rfl⟩
 ·rw[h.bl,h'.str];exact⟨rfl,rfl⟩
 ·rw[h.str,h'.bl];exact⟨rfl,rfl⟩
def Ph (K:W.Frag):R2:=λx y H Q=>rEq x y H Q\/∃d e,Dt K H x d/\Dt K H y e/\SeqAt.shaped d=true/\SeqAt.shaped e=true/\Q (.bl (PyData.eqv d e)) H
def Pj (K:W.Frag):R2:=λx y H Q=>rNe x y H Q\/∃d e,Dt K H x d/\Dt K H y e/\SeqAt.shaped d=true/\SeqAt.shaped e=true/\Q (.bl (!PyData.eqv d e)) H
section
variable {b:BX}
theorem Rb:F6 b .val (Ph b.C.K) eqQ:=by
 intro Ow H v1 v2 p1 p2 p Q hn r1 r2 e k
 unfold eqQ GB at e
 cases q:OT p1 p2 with
 | some c=>
  rw[q] at e
  cases e
  obtain⟨h1,h2⟩:=zu r1 r2 q
  exact .inl ⟨h1,by rw[h2];exact k _ H (AK.refl _) (.bl c)⟩
 | none=>
  rw[q] at e
  simp only[Sr] at e
  cases q1:toD p1 with
  | none=>rw[q1] at e;cases e
  | some d=>
   cases q2:toD p2 with
   | none=>rw[q1,q2] at e;cases e
   | some d'=>
    rw[q1,q2] at e
    simp only at e
    split at e
    ·rename_i hs
     cases e
     exact .inr ⟨d,d',r1.dt q1,r2.dt q2,hs.1,hs.2,k _ H (AK.refl _) (.bl _)⟩
    ·cases e
theorem Rc:F6 b .val (Pj b.C.K) Sz:=by
 intro Ow H v1 v2 p1 p2 p Q hn r1 r2 e k
 unfold Sz GB at e
 cases q:OT p1 p2 with
 | some c=>
  rw[q] at e
  cases e
  obtain⟨h1,h2⟩:=zu r1 r2 q
  exact .inl ⟨h1,by rw[h2];exact k _ H (AK.refl _) (.bl _)⟩
 | none=>
  rw[q] at e
  simp only[Sr] at e
  cases q1:toD p1 with
  | none=>rw[q1] at e;cases e
  | some d=>
   cases q2:toD p2 with
   | none=>rw[q1,q2] at e;cases e
   | some d'=>
    rw[q1,q2] at e
    simp only at e
    split at e
    ·rename_i hs
     cases e
     exact .inr ⟨d,d',r1.dt q1,r2.dt q2,hs.1,hs.2,k _ H (AK.refl _) (.bl _)⟩
    ·cases e
end
@[simp] noncomputable def keyOf:PV->Option Key
 | .int i=>some (.inl i)
 | .str x=>some (.inr x)
 | _=>none
@[simp] noncomputable def DY:PV->Option AG
 | .int i=>some (.k (.inl i))
 | .str x=>some (.k (.inr x))
 | _=>none
@[simp] noncomputable def qt (f:PV->Option AG):List PV->Option (List AG)
 | []=>some []
 | x::xs=>(f x).bind λk=>(qt f xs).bind λks=>some (k::ks)
@[simp] noncomputable def gR (f:PV->Option AG):List PV->Option (List AG)
 | [.str x,.bl b]=>some [.k (.inr x),.k (.inl (if b=true then 1 else 0))]
 | xs=>qt f xs
@[simp] noncomputable def D_ (f:PV->Option AG):PV->Option AG
 | .tup xs=>(gR f xs).map .tp
 | .ktp xs=>(gR f xs).map .tp
 | x=>DY x
@[simp] noncomputable def AU (xs:List PV):Option (List AG):=gR (D_ (D_ DY)) xs
@[simp] noncomputable def fO:PV->Bool
 | .AO=>true
 | .bl _=>true
 | .int _=>true
 | .str _=>true
 | _=>false
noncomputable def Uq:PV->PV->Bool
 | .AO,.AO=>true
 | .bl a,.bl b=>a == b
 | .bl a,.int b=>(if a then 1 else 0) == b
 | .int a,.bl b=>a == (if b then 1 else 0)
 | .int a,.int b=>a == b
 | .str a,.str b=>a == b
 | _,_=>false
noncomputable def aM {κ:Type}[DecidableEq κ](kvs:List (κ×PV))(k:κ):Option PV:=(kvs.find? λx=>decide (x.1=k)).map (·.2)
theorem vX {p:PV}{k:AG}(r:Rep C A H v p)(e:DY p=some k):∃x,k=.k x/\v=kV x:=by
 cases r with
 | int i=>cases e;exact⟨_,rfl,rfl⟩
 | str x=>cases e;exact⟨_,rfl,rfl⟩
 | _=>cases e
theorem Cp {C:MC}{A:Addr->Prop}{H:Hp}{f:PV->Option AG}{R:AG->V->Prop}(hf:∀v p k,Rep C A H v p->f p=some k->R k v):∀{vs:List V}{ps:List PV}{ks:List AG},AJ C A H vs ps->qt f ps=some ks->Paired R ks vs
 | _,_,_,.nil,e=>by cases e;exact .nil
 | _,_,_,.cons (p:=p) (ps:=ps) h t,e=>by
  unfold qt at e
  obtain⟨k,hk,e⟩:=ag.mp e
  obtain⟨ks,YJ,e⟩:=ag.mp e
  cases e
  exact .cons (hf _ _ _ h hk) (Cp hf t YJ)
variable {ps:List PV}
theorem q9 {f:PV->Option AG}{R:AG->V->Prop}(hf:∀v p k,Rep C A H v p->f p=some k->R k v){ks:List AG}(r:AJ C A H vs ps)(e:gR f ps=some ks):Paired R ks vs\/KB ks vs:=by
 unfold gR at e
 split at e
 ·cases e
  cases r with
  | cons h1 t=>cases t with
   | cons h2 t=>cases t;cases h1;cases h2;exact .inr ⟨_,_,rfl,rfl⟩
 ·exact .inl (Cp hf r e)
theorem Cq {f:PV->Option AG}{d:Nat}(hf:∀v p k,Rep C A H v p->f p=some k->NV C.K H d k v)(v:V)(p:PV)(k:AG)(r:Rep C A H v p)(e:D_ f p=some k):NV C.K H (d+1) k v:=by
 cases r with
 | tup h q=>
  obtain⟨ks,hk,e⟩:=br.mp (show (gR f _).map AG.tp=some k from e)
  exact .inr ⟨ks,_,_,e.symm,rfl,.inl h,q9 hf q hk⟩
 | CS h q=>
  obtain⟨ks,hk,e⟩:=br.mp (show (gR f _).map AG.tp=some k from e)
  exact .inr ⟨ks,_,_,e.symm,rfl,.inr h,q9 hf q hk⟩
 | tupK h q=>
  obtain⟨ks,hk,e⟩:=br.mp (show (gR f _).map AG.tp=some k from e)
  refine .inr ⟨ks,_,_,e.symm,rfl,.inr ?_,q9 hf q hk⟩
  rcases h with (h | ⟨o,h⟩) | h
  ·cases h
  ·cases h
  ·exact h
 | int i=>exact .inl (vX (Rep.int (C:=C) (A:=A) (H:=H) i) e)
 | str x=>exact .inl (vX (Rep.str (C:=C) (A:=A) (H:=H) x) e)
 | _=>cases e
theorem AJ.AU {C:MC}{A:Addr->Prop}{H:Hp}{vs:List V}{ps:List PV}{ks:List AG}(r:AJ C A H vs ps)(e:AU ps=some ks):GN C.K H ks vs:=
 q9 (Cq (d:=1) (Cq (d:=0) λv p k r e=>show ∃x,k=.k x/\v=kV x from vX r e)) r e
theorem AM.key {p:PV}{k:Key}(h:AM C A H v p)(e:keyOf p=some k):v=kV k:=by
 unfold keyOf at e
 split at e
 ·cases e;exact h.int
 ·cases e;exact h.str
 ·cases e
theorem AM.flat {p:PV}(h:AM C A H v p)(e:fO p=true):ik v=true:=by
 unfold fO at e
 split at e
 ·rw[h.AO];rfl
 ·rw[h.bl];rfl
 ·rw[h.int];rfl
 ·rw[h.str];rfl
 ·cases e
noncomputable def fV:PV->V
 | .bl b=>.bl b
 | .int i=>.int i
 | .str x=>.str x
 | _=>.AO
theorem AM.fV {C:MC}{A:Addr->Prop}{H:Hp}{v:V}{p:PV}(h:AM C A H v p)(e:fO p=true):v=fV p:=by
 cases p with
 | AO=>exact h.AO
 | bl b=>exact h.bl
 | int i=>exact h.int
 | str x=>exact h.str
 | _=>cases e
theorem Rf (p q:PV)(hp:fO p=true)(hq:fO q=true):L2.PR (fV p) (fV q)=Uq p q:=by
 cases p <;> cases q <;> first | rfl | (cases hp;done) | (cases hq;done)
theorem AJ.flat {C:MC}{A:Addr->Prop}{H:Hp}{v:V}{p:PV}(h:AM C A H v p)(e:fO p=true):∀{vs:List V}{ps:List PV},AJ C A H vs ps->ps.all fO=true->vs.all ik=true/\Xz v vs=ps.any λy=>Uq y p
 | _,_,.nil,_=>⟨rfl,rfl⟩
 | _,_,.cons (v:=v') (p:=p') (vs:=vs) (ps:=ps) q t,e'=>by
  rw[kl,dv] at e'
  obtain⟨h1,h2⟩:=AJ.flat h e t e'.2
  have hf:ik v'=true:=AM.flat (.inl q) e'.1
  refine⟨by rw[kl,hf,h1];rfl,?_⟩
  unfold Xz at h2 ⊢
  rw[fw,fw,h2]
  have q1:=h.fV e
  have q2:=AM.fV (.inl q) e'.1
  rw[q1,q2,Rf _ _ e'.1 e]
@[simp] noncomputable def sY:PV->Bool
 | .AO=>true
 | _=>false
noncomputable def OU (x y:PV):Option PV:=match y with
 | .AO=>some (.bl (sY x))
 | _=>none
@[simp] theorem Tt (x y:PV):OU x y=(match y with
 | .AO=>some (.bl (sY x))
 | _=>none):=id rfl
noncomputable def jG (x y:PV):Option PV:=match y with
 | .AO=>some (.bl (!sY x))
 | _=>none
@[simp] theorem RP (x y:PV):jG x y=(match y with
 | .AO=>some (.bl (!sY x))
 | _=>none):=id rfl
theorem AM.OU {p:PV}(h:AM C A H v p):decide (v=.AO)=sY p:=by
 cases p with
 | AO=>rw[h.AO];rfl
 | bl b=>rw[h.bl];rfl
 | int b=>rw[h.int];rfl
 | str b=>rw[h.str];rfl
 | lst b=>obtain⟨a,_,rfl,_⟩:=h.lst;rfl
 | frz b=>obtain⟨a,_,rfl,_⟩:=h.frz;rfl
 | tup b=>obtain⟨a,_,rfl,_⟩:=h.tup;rfl
 | ktp b=>obtain⟨a,_,rfl,_⟩:=h.ktp;rfl
 | dK b=>obtain⟨a,_,rfl,_⟩:=h.dK;rfl
 | dT b=>obtain⟨a,_,rfl,_⟩:=h.dT;rfl
 | obj c b=>obtain⟨a,_,_,rfl,_⟩:=h.obj;rfl
section
variable {b:BX}
theorem Pk:F6 b .val (λx y H Q=>y=.AO/\Q (.bl (decide (x=.AO))) H) OU:=by
 intro Ow H v1 v2 p1 p2 p Q hn r1 r2 e k
 cases p2 with
 | AO=>
  simp only[OU] at e
  cases e
  exact⟨r2.AO,by rw[r1.OU];exact k _ H (AK.refl _) (.bl _)⟩
 | _=>simp only[OU] at e;cases e
theorem GC:F6 b .val (λx y H Q=>y=.AO/\Q (.bl (!decide (x=.AO))) H) jG:=by
 intro Ow H v1 v2 p1 p2 p Q hn r1 r2 e k
 cases p2 with
 | AO=>
  simp only[jG] at e
  cases e
  exact⟨r2.AO,by rw[r1.OU];exact k _ H (AK.refl _) (.bl _)⟩
 | _=>simp only[jG] at e;cases e
end
section
variable {X:Cx}{b:BX}{G:qr}{m:Md}{e e1 e2 e3:Expr}{f f1 f2 f3:rg}{pos:Pos}{m1 m2 m3:Md}
structure SC (X:Cx)(b:BX)(G:qr)(op:CmpOp)(e1 e2:Expr)(f:rg):Prop where
 pe:∀pos,SE X b G .val (.Compare e1 [op] [e2] pos) f
 pt:∀pos,ST X b G (.Compare e1 [op] [e2] pos) (tV f)
theorem lN {op:CmpOp}{r:R2}{g:PV->PV->Option PV}(ho:Ct X (compareOp op) r)(hr:F6 b .val r g)(h1:SE X b G m1 e1 f1)(h2:SE X b G m2 e2 f2)(hm:behindInMarks op e2=false):SC X b G op e1 e2 (b2 g f1 f2):=by
 refine⟨λpos=>PE.imp (KY ho h1.bor h2.bor hm) fun σ H Q h=>DW hr h,λpos=>PT.imp (KZ ho h1.bor h2.bor hm) fun σ H Q h=>?_⟩
 obtain⟨Ow,env,c,E,hf,k⟩:=h
 unfold tV at hf
 cases q:b2 g f1 f2 env with
 | none=>rw[q] at hf;cases hf
 | some p=>
  rw[q] at hf
  refine DW (Q:=λx H'=>∃k,x=.bl k/\_) hr ⟨Ow,env,p,E,q,λv H' s r=>?_⟩
  cases p with
  | bl d=>
   cases hf
   cases r
   exact⟨_,rfl,k H' s⟩
  | _=>cases hf
theorem cF {j:Nat}(hr:A7 j X.A)(h1:SE X b G m1 e1 f1)(h2:SE X b G m2 e2 f2)(hK:X.K=b.C.K:=by rfl):SC X b G .Eq e1 e2 (b2 eqQ f1 f2):=lN (r:=Ph b.C.K) (by rw[← hK];exact Ct.or Q0 (O1 hr.units)) Rb h1 h2 (j_ _)
theorem yh {j:Nat}(hr:A7 j X.A)(h1:SE X b G m1 e1 f1)(h2:SE X b G m2 e2 f2)(hK:X.K=b.C.K:=by rfl):SC X b G .NotEq e1 e2 (b2 Sz f1 f2):=lN (r:=Pj b.C.K) (by rw[← hK];exact Ct.or Q3 (O2 hr.units)) Rc h1 h2 (j_ _)
theorem yj (h1:SE X b G m1 e1 f1)(h2:SE X b G m2 e2 f2):SC X b G .Lt e1 e2 (b2 (jc λi j=>decide (i < j)) f1 f2):=lN Q4 Gy h1 h2 (j_ _)
theorem uJ (h1:SE X b G m1 e1 f1)(h2:SE X b G m2 e2 f2):SC X b G .Gt e1 e2 (b2 (jc λi j=>decide (j < i)) f1 f2):=lN Q5 Gy h1 h2 (j_ _)
theorem Rg (h1:SE X b G m1 e1 f1)(h2:SE X b G m2 e2 f2):SC X b G .Is e1 e2 (b2 OU f1 f2):=lN Oe Pk h1 h2 (j_ _)
theorem sZ (h1:SE X b G m1 e1 f1)(h2:SE X b G m2 e2 f2):SC X b G .IsNot e1 e2 (b2 jG f1 f2):=lN Ci GC h1 h2 (j_ _)
theorem d9 {op:CmpOp}(h:SC X b G op e1 e2 f):SE X b G .val (.Compare e1 [op] [e2] pos) f:=h.pe pos
theorem aZ {op:CmpOp}(h:SC X b G op e1 e2 f):ST X b G (.Compare e1 [op] [e2] pos) (tV f):=h.pt pos
theorem m7 {op}(h:SE X b G m e f):SE X b G m (.BoolOp op [e] pos) f:=NP h
theorem zx {rest:qB}(h1:SE X b G .val e1 f1)(h2:SE X b G .val (.BoolOp .And (e2::rest) pos) f2):SE X b G .val (.BoolOp .And (e1::e2::rest) pos) (vW f1 f2):=
 PE.imp (NQ h1 h2)<|by
  rintro σ H Q ⟨Ow,env,p,E,hf,k⟩
  unfold vW at hf
  cases q1:f1 env with
  | none=>rw[q1] at hf;cases hf
  | some p1=>
   rw[q1] at hf
   refine⟨Ow,env,p1,E,q1,λv1 H1 s1 r1=>?_⟩
   cases p1 with
   | bl c=>
    cases r1
    refine⟨c,rfl,?_⟩
    cases c with
    | true=>exact⟨Ow,env,p,E.up s1,hf,λv H' s r=>k v H' (s1.trans s) r⟩
    | false=>cases hf;exact k _ H1 s1 (.bl false)
   | _=>cases hf
theorem Ea {rest:qB}(h1:SE X b G .val e1 f1)(h2:SE X b G .val (.BoolOp .Or (e2::rest) pos) f2):SE X b G .val (.BoolOp .Or (e1::e2::rest) pos) (Vb f1 f2):=
 PE.imp (QW h1 h2)<|by
  rintro σ H Q ⟨Ow,env,p,E,hf,k⟩
  unfold Vb at hf
  cases q1:f1 env with
  | none=>rw[q1] at hf;cases hf
  | some p1=>
   rw[q1] at hf
   refine⟨Ow,env,p1,E,q1,λv1 H1 s1 r1=>?_⟩
   cases p1 with
   | bl c=>
    cases r1
    refine⟨c,rfl,?_⟩
    cases c with
    | false=>exact⟨Ow,env,p,E.up s1,hf,λv H' s r=>k v H' (s1.trans s) r⟩
    | true=>cases hf;exact k _ H1 s1 (.bl true)
   | _=>cases hf
theorem GD (h1:SE X b G .val e1 f1):SE X b G .val (.UnaryOp .Not e1 pos) (zq f1):=
 PE.imp (NT h1)<|by
  rintro σ H Q ⟨Ow,env,p,E,hf,k⟩
  unfold zq at hf
  cases q1:f1 env with
  | none=>rw[q1] at hf;cases hf
  | some p1=>
   rw[q1] at hf
   refine⟨Ow,env,p1,E,q1,λv1 H1 s1 r1=>?_⟩
   cases p1 with
   | bl c=>cases r1;cases hf;exact⟨c,rfl,k _ H1 s1 (.bl _)⟩
   | _=>cases hf
@[simp] noncomputable def zy:PV->Option PV
 | .int i=>some (.int (-i))
 | _=>none
theorem zz (h1:SE X b G m e1 f1):SE X b G .val (.UnaryOp .USub e1 pos) (b1 zy f1):=
 PE.imp (QZ Od h1.bor) fun σ H Q h=>DX (r:=rU λi=>.int (-i)) (λOw H v1 p1 p Q hn r1 e k=>by
  cases p1 <;> simp only[zy] at e <;> cases e
  exact⟨_,r1.int,k _ H (AK.refl _) (.int _)⟩) h
theorem gH (h:SE X b G .val e f)(he:∀whole,isTrue e X.env whole=(do let v ← whole;standAt e.pos;holding [v] (truthy v)):=by intro _;rfl):ST X b G e (tV f):=
 PT.imp (uq h he)<|by
  rintro σ H Q ⟨Ow,env,c,E,hf,k⟩
  unfold tV at hf
  cases q1:f env with
  | none=>rw[q1] at hf;cases hf
  | some p1=>
   rw[q1] at hf
   refine⟨Ow,env,p1,E,q1,λv1 H1 s1 r1=>?_⟩
   cases p1 with
   | bl d=>cases r1;cases hf;exact⟨_,rfl,k H1 s1⟩
   | _=>cases hf
theorem m8 {g:Env->Option Bool}(h:ST X b G e g):ST X b G (.UnaryOp .Not e pos) (tN g):=
 PT.imp (Fz h)<|by
  rintro σ H Q ⟨Ow,env,c,E,hf,k⟩
  unfold tN at hf
  cases q1:g env with
  | none=>rw[q1] at hf;cases hf
  | some p1=>rw[q1] at hf;cases hf;exact⟨Ow,env,p1,E,q1,λH' s=>k H' s⟩
abbrev SW (X:Cx)(b:BX)(G:qr)(e:Expr)(g:Env->Option Bool):Prop:=PW X e (V4 b G g)
theorem PW.imp {t u:TT}(h:PW X e t)(i:∀ σ H Q,u σ H Q->t σ H Q):PW X e u:=λwh AF s σ H Q I q=>h wh AF s σ H Q I (i σ H Q q)
variable {g1 g2:Env->Option Bool}
theorem m9 (h:ST X b G e g1):SW X b G (.BoolOp .And [e] pos) g1:=B_ h
theorem qu (h:ST X b G e g1):SW X b G (.BoolOp .Or [e] pos) g1:=NK h
theorem m_ {rest:qB}(h1:ST X b G e1 g1)(h2:SW X b G (.BoolOp .And (e2::rest) pos) g2):SW X b G (.BoolOp .And (e1::e2::rest) pos) (tA g1 g2):=
 PW.imp (Fy h1 h2)<|by
  rintro σ H Q ⟨Ow,env,c,E,hf,k⟩
  unfold tA at hf
  cases q1:g1 env with
  | none=>rw[q1] at hf;cases hf
  | some p1=>
   rw[q1] at hf
   refine⟨Ow,env,p1,E,q1,λH1 s1=>?_⟩
   cases p1 with
   | true=>exact⟨Ow,env,c,E.up s1,hf,λH' s=>k H' (s1.trans s)⟩
   | false=>cases hf;exact k H1 s1
theorem jW {rest:qB}(h1:ST X b G e1 g1)(h2:SW X b G (.BoolOp .Or (e2::rest) pos) g2):SW X b G (.BoolOp .Or (e1::e2::rest) pos) (tO g1 g2):=
 PW.imp (QS h1 h2)<|by
  rintro σ H Q ⟨Ow,env,c,E,hf,k⟩
  unfold tO at hf
  cases q1:g1 env with
  | none=>rw[q1] at hf;cases hf
  | some p1=>
   rw[q1] at hf
   refine⟨Ow,env,p1,E,q1,λH1 s1=>?_⟩
   cases p1 with
   | false=>exact⟨Ow,env,c,E.up s1,hf,λH' s=>k H' (s1.trans s)⟩
   | true=>cases hf;exact k H1 s1
theorem SW.st (h:SW X b G e g1):ST X b G e g1:=h _
theorem Kr {c:Expr}(hc:ST X b G c g1)(h1:SE X b G m e1 f1)(h2:SE X b G m e2 f2):SE X b G m (.IfExp c e1 e2 pos) (V5 g1 f1 f2):=
 PE.imp (HW hc h1 h2)<|by
  rintro σ H Q ⟨Ow,env,p,E,hf,k⟩
  unfold V5 at hf
  cases q1:g1 env with
  | none=>rw[q1] at hf;cases hf
  | some c=>
   rw[q1] at hf
   refine⟨Ow,env,c,E,q1,λH1 s1=>?_⟩
   cases c with
   | true=>exact⟨Ow,env,p,E.up s1,hf,λv H' s r=>k v H' (s1.trans s) (r.down s1)⟩
   | false=>exact⟨Ow,env,p,E.up s1,hf,λv H' s r=>k v H' (s1.trans s) (r.down s1)⟩
end
def ArA (b:BX)(Ow:Addr->Prop)(L:Bool)(H:Hp)(a:Addr):Prop:=Bs b Ow a\/(L=true/\∃vs,H a=some (.lst vs))
def tMA (b:BX)(G:qr)(L:Bool)(g:Env->Option (List PV)):TA:=fun σ H Q=>∃Ow env ps,ER b Ow G σ env H/\g env=some ps/\∀vs H',AK H H'->AJ b.C (ArA b Ow L H') H' vs ps->Q vs H'
abbrev SA (X:Cx)(b:BX)(G:qr)(L:Bool)(es:qB)(g:Env->Option (List PV)):Prop:=PA X es (tMA b G L g)
theorem PA.imp {es:qB}{t u:TA}(h:PA X es t)(i:∀ σ H Q,u σ H Q->t σ H Q):PA X es u:=λpos AF s σ H Q I q=>h pos AF s σ H Q I (i σ H Q q)
variable {r:List V->Hp->VK->Prop}{σ:St}{ro:Bool}{mi:List PV->Option PV}
section
variable {X:Cx}{b:BX}{G:qr}{m m1 m2:Md}{L:Bool}{e e1 e2:Expr}{es:qB}{f f1 f2:rg}{g:Env->Option (List PV)}{pos p:Pos}
theorem aJ:SA X b G L [] aQ:=PA.imp aN<|by rintro σ H Q ⟨Ow,env,ps,E,hg,k⟩;cases hg;exact k [] H (AK.refl _) .nil
theorem ak (h1:SE X b G .val e f)(h2:SA X b G L es g)(hs:starEach (e::es) X.env=(false,eval e X.env)::starEach es X.env:=by rfl):SA X b G L (e::es) (au f g):=
 PA.imp (aB h1 h2 hs)<|by
  rintro σ H Q ⟨Ow,env,ps,E,hg,k⟩
  unfold au at hg
  cases q1:f env with
  | none=>rw[q1] at hg;cases hg
  | some p1=>
   rw[q1] at hg
   cases q2:g env with
   | none=>rw[q2] at hg;cases hg
   | some YK=>
    rw[q2] at hg
    cases hg
    exact⟨Ow,env,p1,E,q1,λv H1 s1 r1=>⟨Ow,env,YK,E.up s1,q2,λvs H2 s2 r2=>k (v::vs) H2 (s1.trans s2) (.cons (Rep.ex (λa o h=>⟨λq=>⟨s2 _ _ h,.inl q⟩,λ_=>s2 _ _ h⟩) r1) r2)⟩⟩
theorem ym {b:BX}(h:AJ b.C (ArA b Ow false H) H vs ps):AJ b.C (Bs b Ow) H vs ps:=h.ex (aV λa o _ q=>q.elim id λz=>by cases z.1)
theorem d_ (h:SA X b G false es g):SE X b G .own (.List es pos) (gB g):=PE.imp (qd h)<|by
 rintro σ H Q ⟨Ow,env,p,E,hf,k⟩
 unfold gB at hf
 cases q1:g env with
 | none=>rw[q1] at hf;cases hf
 | some ps=>
  rw[q1] at hf
  simp only[aE] at hf
  split at hf
  ·rename_i hl
   cases hf
   refine⟨Ow,env,ps,E,q1,λvs H1 s1 r=>⟨gb (by rw[r.length];exact hl),λq hq=>k _ _ (s1.trans (aL hq _)) (Res.down s1 (mZ hq (ym r)))⟩⟩
  ·cases hf
theorem cu {x1}(h:SA X b G false es g):SE X b G .val (.Tuple es x1 pos) (cY g):=PE.imp (qb h)<|by
 rintro σ H Q ⟨Ow,env,p,E,hf,k⟩
 unfold cY at hf
 cases q1:g env with
 | none=>rw[q1] at hf;cases hf
 | some ps=>
  rw[q1] at hf
  simp only[aE] at hf
  split at hf
  ·rename_i hl
   cases hf
   refine⟨Ow,env,ps,E,q1,λvs H1 s1 r=>⟨gb (by rw[r.length];exact hl),λq hq=>k _ _ (s1.trans (aL hq _)) (m6 hq (ym r))⟩⟩
  ·cases hf
theorem Ks:SE X b G .own (.Dict [] [] pos) (bC (.dT [])):=PE.imp Ii<|by
 rintro σ H Q ⟨Ow,env,p,E,hf,k⟩ q hq
 cases hf
 exact k _ _ (aL hq _) ⟨q,rfl,hq,[],az,.nil⟩
@[simp] noncomputable def A9:PV->PV->Option PV
 | .lst xs,.int i=>B4 xs i
 | .frz xs,.int i=>B4 xs i
 | .tup xs,.int i=>B4 xs i
 | .ktp xs,.int i=>B4 xs i
 | .str x,.int i=>if x.length<=1000000 then (B4 x.cps.toList i).map λc=>.str ⟨#[c]⟩ else none
 | .dK kvs,y=>(keyOf y).bind λk=>aM kvs k
 | .dT kvs,.tup ys=>(AU ys).bind λk=>aM kvs k
 | _,_=>none
theorem AJ.B4 {C:MC}{A:Addr->Prop}{H:Hp}{vs:List V}{ps:List PV}{i:Int}{p:PV}(h:AJ C A H vs ps)(e:B4 ps i=some p):∃v,L2.B4 vs i=some v/\Rep C A H v p:=by
 unfold L2.B4 at e ⊢
 rw[h.length]
 cases q:JO ps.length i with
 | none=>rw[q] at e;cases e
 | some j=>rw[q] at e;exact h.get e
theorem aK {j:Nat}(hr:A7 j X.A)(h1:SE X b G m1 e1 f1)(h2:SE X b G m2 e2 f2)(hs:Cm e2:=by intro _ _;rfl)(DM:Ih e2:=by intro _ _;rfl)(hK:X.K=b.C.K:=by rfl):SE X b G .val (.Subscript e1 e2 pos) (b2 A9 f1 f2):=by
 refine PE.imp (PE.or (uB (r:=rIx b.C.K) (by rw[← hK];exact Oq) h1.bor h2.bor hs) (qZ (dG hr) h1.bor h2.bor DM)) fun σ H Q h=>?_
 obtain⟨Ow,env,p,E,hf,k⟩:=h
 unfold b2 at hf
 cases q1:f1 env with
 | none=>rw[q1] at hf;cases hf
 | some p1=>
  rw[q1] at hf
  cases q2:f2 env with
  | none=>rw[q2] at hf;cases hf
  | some p2=>
   rw[q2] at hf
   simp only[aE] at hf
   have step:∀(R:V->V->Hp->VK->Prop),(∀H2 v1 v2,AM b.C (Bs b Ow) H2 v1 p1->AM b.C (Bs b Ow) H2 v2 p2->AK H H2->R v1 v2 H2 Q)->tM b G .bor f1 σ H λx H1=>tM b G .bor f2 σ H1 λy H2=>R x y H2 Q:=λR hR=>
    ⟨Ow,env,p1,E,q1,λv1 H1 s1 r1=>⟨Ow,env,p2,E.up s1,q2,λv2 H2 s2 r2=>hR H2 v1 v2 (Res.up (m:=.bor) r1 s2) r2 (s1.trans s2)⟩⟩
   unfold A9 at hf
   split at hf
   ·refine .inl (step _ λH2 v1 v2 r1 r2 s=>?_)
    obtain⟨a,vs,rfl,ha,ra⟩:=r1.lst
    obtain⟨v,hv,rv⟩:=ra.B4 hf
    rw[r2.int]
    exact .inl ⟨a,vs,_,v,rfl,rfl,Bz.of ha,hv,k v H2 s rv⟩
   ·refine .inl (step _ λH2 v1 v2 r1 r2 s=>?_)
    obtain⟨a,vs,rfl,ha,ra⟩:=r1.frz
    obtain⟨v,hv,rv⟩:=ra.B4 hf
    rw[r2.int]
    exact .inl ⟨a,vs,_,v,rfl,rfl,ha,hv,k v H2 s rv⟩
   ·refine .inl (step _ λH2 v1 v2 r1 r2 s=>?_)
    obtain⟨a,vs,rfl,ha,ra⟩:=r1.tup
    obtain⟨v,hv,rv⟩:=ra.B4 hf
    rw[r2.int]
    exact .inr (.inl ⟨a,vs,_,v,rfl,rfl,ha.sq,hv,k v H2 s rv⟩)
   ·refine .inl (step _ λH2 v1 v2 r1 r2 s=>?_)
    obtain⟨a,vs,rfl,ha,ra⟩:=r1.ktp
    obtain⟨v,hv,rv⟩:=ra.B4 hf
    rw[r2.int]
    exact .inr (.inl ⟨a,vs,_,v,rfl,rfl,ha,hv,k v H2 s rv⟩)
   ·split at hf
    ·rename_i x i hx
     cases q3:B4 x.cps.toList i with
     | none=>rw[q3] at hf;cases hf
     | some c=>
      rw[q3] at hf
      cases hf
      refine .inl (step _ λH2 v1 v2 r1 r2 s=>?_)
      rw[r1.str,r2.int]
      exact .inr (.inr ⟨x,i,c,rfl,rfl,gb hx,q3,k _ H2 s (.str _)⟩)
    ·cases hf
   ·rename_i kvs
    cases q3:keyOf p2 with
    | none=>rw[q3] at hf;cases hf
    | some ky=>
     rw[q3] at hf
     simp only[aE] at hf
     refine .inr (step (λx y H2 Q=>∃a v,x=.ref a/\BY X.K H2 a y (some v)/\Q v H2) λH2 v1 v2 r1 r2 s=>?_)
     obtain⟨a,kv,rfl,ha,ra⟩:=r1.dK
     rw[r2.key q3]
     unfold aM at hf
     rcases AX.val (k:=ky) ra with ⟨v,p',h1,h2,rv⟩ | ⟨h1,h2⟩
     ·rw[h2] at hf
      cases hf
      exact⟨a,v,rfl,by rw[← h1];exact BY.k ha,k v H2 s rv⟩
     ·rw[h2] at hf;cases hf
   ·rename_i kvs ys
    cases q3:AU ys with
    | none=>rw[q3] at hf;cases hf
    | some ky=>
     rw[q3] at hf
     simp only[aE] at hf
     refine .inr (step (λx y H2 Q=>∃a v,x=.ref a/\BY X.K H2 a y (some v)/\Q v H2) λH2 v1 v2 r1 r2 s=>?_)
     obtain⟨a,kv,rfl,ha,ra⟩:=r1.dT
     obtain⟨c,vs,rfl,hc,rc⟩:=r2.tup
     unfold aM at hf
     rcases A2.val (k:=ky) ra with ⟨v,p',h1,h2,rv⟩ | ⟨h1,h2⟩
     ·rw[h2] at hf
      cases hf
      exact⟨a,v,rfl,by rw[← h1,hK];exact BY.t ha (hc.key (rc.AU q3)),k v H2 s rv⟩
     ·rw[h2] at hf;cases hf
   ·cases hf
noncomputable def dR (xs:List PV)(lo hi:Option Int):List PV:=(xs.drop (HT.A4 xs.length 0 lo)).take (HT.A4 xs.length xs.length hi - HT.A4 xs.length 0 lo)
theorem AJ.cut (h:AJ C A H vs ps)(lo hi:Option Int):AJ C A H (qg vs lo hi) (dR ps lo hi):=by
 unfold qg dR
 rw[h.length]
 exact(h.drop _).take _
noncomputable def oN (env:Env):Option (Option Int):=some none
@[simp] theorem T9 (env:Env):oN env=(some none):=id rfl
noncomputable def oS (f:rg)(env:Env):Option (Option Int):=(f env).bind λp=>match p with | .int i=>some (some i) | _=>none
@[simp] theorem T_ (f:rg)(env:Env):oS f env=((f env).bind λp=>match p with | .int i=>some (some i) | _=>none):=id rfl
def tMO (b:BX)(G:qr)(f:Env->Option (Option Int)):TO:=fun σ H Q=>∃Ow env o,ER b Ow G σ env H/\f env=some o/\∀H',AK H H'->Q o H'
theorem PO.imp {x:Option Expr}{t u:TO}(h:PO X x t)(i:∀ σ H Q,u σ H Q->t σ H Q):PO X x u:=by
 intro AF s σ H Q I q
 exact h AF s σ H Q I (i σ H Q q)
abbrev SO (X:Cx)(b:BX)(G:qr)(e:Option Expr)(f:Env->Option (Option Int)):Prop:=PO X e (tMO b G f)
theorem nj:SO X b G none oN:=PO.imp K_<|by rintro σ H Q ⟨Ow,env,o,E,hf,k⟩;cases hf;exact k H (AK.refl _)
theorem gf (h:SE X b G m e f):SO X b G (some e) (oS f):=PO.imp (La h.bor)<|by
 rintro σ H Q ⟨Ow,env,o,E,hf,k⟩
 unfold oS at hf
 cases q1:f env with
 | none=>rw[q1] at hf;cases hf
 | some p1=>
  rw[q1] at hf
  refine⟨Ow,env,p1,E,q1,λv H1 s1 r1=>?_⟩
  have Ic:AM b.C (Bs b Ow) H1 v p1:=r1
  cases p1 <;> simp only[aE] at hf <;> cases hf
  exact⟨_,Ic.int,k H1 s1⟩
noncomputable def Vc (f:rg)(lo hi:Env->Option (Option Int))(env:Env):Option PV:=(f env).bind λx=>(lo env).bind λl=>(hi env).bind λh=>match x with
 | .lst xs=>some (.lst (dR xs l h))
 | .frz xs=>some (.lst (dR xs l h))
 | .str x=>if x.length<=1000000 then some (.str (l_ x l h)) else none
 | _=>none
@[simp] theorem Tu (f:rg)(lo hi:Env->Option (Option Int))(env:Env):Vc f lo hi env=((f env).bind λx=>(lo env).bind λl=>(hi env).bind λh=>match x with
 | .lst xs=>some (.lst (dR xs l h))
 | .frz xs=>some (.lst (dR xs l h))
 | .str x=>if x.length<=1000000 then some (.str (l_ x l h)) else none
 | _=>none):=id rfl
theorem Eb {lo hi:Option Expr}{p2:Pos}{fl fh:Env->Option (Option Int)}(h1:SE X b G m e f)(hl:SO X b G lo fl)(hh:SO X b G hi fh)(hK:X.K=b.C.K:=by rfl):SE X b G .val (.Subscript e (.Slice lo hi none p2) pos) (Vc f fl fh):=by
 refine PE.imp (zb (r:=O6 b.C.K) (by rw[← hK];exact O7) h1.bor hl hh) fun σ H Q ⟨Ow,env,p,E,hf,k⟩=>?_
 unfold Vc at hf
 cases q1:f env with
 | none=>rw[q1] at hf;cases hf
 | some p1=>
  rw[q1] at hf
  cases q2:fl env with
  | none=>rw[q2] at hf;cases hf
  | some l=>
   rw[q2] at hf
   cases q3:fh env with
   | none=>rw[q3] at hf;cases hf
   | some h=>
    rw[q3] at hf
    refine⟨Ow,env,p1,E,q1,λv H1 s1 r1=>⟨Ow,env,l,E.up s1,q2,λH2 s2=>⟨Ow,env,h,E.up (s1.trans s2),q3,λH3 s3=>?_⟩⟩⟩
    have Ic:AM b.C (Bs b Ow) H3 v p1:=Res.up (m:=.bor) r1 (s2.trans s3)
    cases p1 <;> simp only[aE] at hf
    case lst xs=>
     cases hf
     obtain⟨a,vs,rfl,ha,ra⟩:=Ic.lst
     exact .inl ⟨a,vs,rfl,Bz.of ha,λq hq=>k _ _ (s1.trans (s2.trans (s3.trans (aL hq _)))) (Res.val (m:=.own) E (λz=>nomatch z) (Res.down (s1.trans (s2.trans s3)) (mZ hq (ra.cut l h))))⟩
    case frz xs=>
     cases hf
     obtain⟨a,vs,rfl,ha,ra⟩:=Ic.frz
     exact .inl ⟨a,vs,rfl,ha,λq hq=>k _ _ (s1.trans (s2.trans (s3.trans (aL hq _)))) (Res.val (m:=.own) E (λz=>nomatch z) (Res.down (s1.trans (s2.trans s3)) (mZ hq (ra.cut l h))))⟩
    case str x=>
     split at hf
     ·rename_i hx
      cases hf
      exact .inr ⟨x,Ic.str,gb hx,k _ _ (s1.trans (s2.trans s3)) (.str _)⟩
     ·cases hf
    all_goals cases hf
theorem Pn {id:String}{g:PV->Option PV}(hc:BN X (.builtin id) r)(hr:YI b m (λv H Q=>r [v] H Q) g)(hm:X.mg x=none)(hv:bootBuiltins x=some (.builtin id))(h:SE X b G m1 e f)
  (hg:Gl X x:=by rfl) (hn:x ≠ "__name__" := by decide) (GV:(x == ("__debug__" : Str))=false:=by decide) (he:starEach [e] X.env=(false,eval e X.env)::starEach [] X.env:=by rfl):
  SE X b G m (.Call (.Name x p) [e] [] pos) (b1 g f):=
 PE.imp (dw hc hg hm hv (aB h.bor aN he) hn GV he rfl) fun σ H Q h=>DX hr h
theorem Cr {id:String}{g:PV->Option PV}(hc:BN X (.type id) r)(hr:YI b m (λv H Q=>r [v] H Q) g)(hm:X.mg x=none)(hv:bootBuiltins x=some (.type id))(h:SE X b G m1 e f)
  (hg:Gl X x:=by rfl) (hn:x ≠ "__name__" := by decide) (GV:(x == ("__debug__" : Str))=false:=by decide) (he:starEach [e] X.env=(false,eval e X.env)::starEach [] X.env:=by rfl):
  SE X b G m (.Call (.Name x p) [e] [] pos) (b1 g f):=
 PE.imp (xg hc hg hm hv (aB h.bor aN he) hn GV he rfl) fun σ H Q h=>DX hr h
@[simp] noncomputable def BC:PV->Option PV
 | .lst xs=>some (.int xs.length)
 | .frz xs=>some (.int xs.length)
 | .tup xs=>some (.int xs.length)
 | .ktp xs=>some (.int xs.length)
 | .str x=>if x.length<=1000000 then some (.int x.length) else none
 | .dK kvs=>some (.int kvs.length)
 | _=>none
theorem AX.length {C:MC}{A:Addr->Prop}{H:Hp}:∀{vs:List (Key×V)}{ps:List (Key×PV)},AX C A H vs ps->vs.length=ps.length
 | _,_,.nil=>rfl
 | _,_,.cons _ t=>by simp[AX.length t]
theorem bG (hm:X.mg "len" = none)(h:SE X b G m1 e f)(hK:X.K=b.C.K:=by rfl)(hg:Gl X "len" := by rfl)(he:starEach [e] X.env=(false,eval e X.env)::starEach [] X.env:=by rfl):SE X b G .val (.Call (.Name "len" p) [e] [] pos) (b1 BC f):=by
 refine Pn (BN.or (BN.or qi kJ) Gr) (λOw H v1 p1 p Q hn r1 e k=>?_) hm h9 h hg (by decide) (by decide) he
 rw[hK]
 cases p1 <;> simp only[BC] at e
 case lst xs=>cases e;obtain⟨a,vs,rfl,ha,ra⟩:=r1.lst;exact .inl (.inl ⟨a,vs,rfl,.inl (Bz.of ha),by rw[ra.length];exact k _ H (AK.refl _) (.int _)⟩)
 case frz xs=>cases e;obtain⟨a,vs,rfl,ha,ra⟩:=r1.frz;exact .inl (.inl ⟨a,vs,rfl,.inl ha,by rw[ra.length];exact k _ H (AK.refl _) (.int _)⟩)
 case tup xs=>cases e;obtain⟨a,vs,rfl,ha,ra⟩:=r1.tup;exact .inl (.inl ⟨a,vs,rfl,.inr ha.sq,by rw[ra.length];exact k _ H (AK.refl _) (.int _)⟩)
 case ktp xs=>cases e;obtain⟨a,vs,rfl,ha,ra⟩:=r1.ktp;exact .inl (.inl ⟨a,vs,rfl,.inr ha,by rw[ra.length];exact k _ H (AK.refl _) (.int _)⟩)
 case str x=>
  split at e
  ·rename_i hx
   cases e
   rw[r1.str]
   exact .inl (.inr ⟨x,rfl,gb hx,k _ H (AK.refl _) (.int _)⟩)
  ·cases e
 case dK kvs=>cases e;obtain⟨a,vs,rfl,ha,ra⟩:=r1.dK;exact .inr ⟨a,vs,rfl,ha,by rw[ra.length];exact k _ H (AK.refl _) (.int _)⟩
 all_goals cases e
@[simp] noncomputable def C7:List PV->Option (List Str)
 | []=>some []
 | .str c::r=>(C7 r).map (c::·)
 | _::_=>none
theorem AJ.C7 {C:MC}{A:Addr->Prop}{H:Hp}:∀{vs:List V}{ps:List PV}{bs:qE},AJ C A H vs ps->C7 ps=some bs->vs=bs.map V.str
 | _,_,_,.nil,e=>by cases e;rfl
 | _,_,_,.cons (p:=p) (ps:=ps) h t,e=>by
  cases p <;> simp only[MR.C7] at e <;> first | cases e | skip
  rename_i c
  cases q:MR.C7 ps with
  | none=>rw[q] at e;cases e
  | some bs=>rw[q] at e;cases e;cases h;rw[AJ.C7 t q];rfl
@[simp] noncomputable def uK:PV->PV->Option PV
 | .str z,.lst xs=>(C7 xs).bind λzs=>if JoinOk z zs=true then some (.str (Str.join z zs)) else none
 | _,_=>none
theorem Rh {id:String}{name:Str}{apos AS:Pos}{o:Expr}{fo:rg}{r:V->List V->Hp->VK->Prop}{g:PV->PV->Option PV}(slot:Slot "str" name id)(Uj:typeOf (.builtin id)=pure (.type "method_descriptor"))(pa:PlainAttrs "str")(hm:Xy X id r)
  (hr:F6 b m (λx y H Q=>(∃z,x=.str z)->r x [y] H Q) g) (hgs:∀x y p,g x y=some p->∃z,x=.str z) (ho:SE X b G m1 o fo) (h:SE X b G m2 e f)
  (B6:attributeBase o name X.env (eval o X.env)=eval o X.env:=by rfl)
  (Fh:((backTo AS (starEach [e] X.env)).all (λx=>!x.1)&&(backToKw AS (keywordEach [] X.env)).all (λx=>x.1.isSome)
   && decide ([e].length+([]:List Keyword).length+(if ([]:List Keyword).isEmpty then 0 else 1) < 30))=true:=by rfl)
  (B7:(apos.endLine == AS.line)=true:=by rfl) (hs:starEach [e] X.env=(false,eval e X.env)::starEach [] X.env:=by rfl):
  SE X b G m (.Call (.Attribute o name apos) [e] [] AS) (b2 g fo f):=by
 refine PE.imp (yg pa slot Uj hm ho.bor (aB h.bor aN hs) B6 Fh B7 hs rfl) fun σ H Q h=>?_
 obtain⟨Ow,env,p,E,hf,k⟩:=h
 unfold b2 at hf
 cases q1:fo env with
 | none=>rw[q1] at hf;cases hf
 | some p1=>
  rw[q1] at hf
  cases q2:f env with
  | none=>rw[q2] at hf;cases hf
  | some p2=>
   rw[q2] at hf
   simp only[aE] at hf
   obtain⟨z,rfl⟩:=hgs _ _ _ hf
   refine⟨Ow,env,_,E,q1,λv1 H1 s1 r1=>?_⟩
   have Ic:AM b.C (Bs b Ow) H1 v1 (.str z):=r1
   have ev:=Ic.str
   subst ev
   refine⟨rfl,Ow,env,p2,E.up s1,q2,λv2 H2 s2 r2=>?_⟩
   exact hr Ow H2 _ v2 _ p2 p Q (λa=>(E.up (s1.trans s2)).fresh) (AM.ex (.of_same s2) s2 Ic) r2 hf (λv H' s r=>k v H' (s1.trans (s2.trans s)) (r.down (s1.trans s2))) ⟨z,rfl⟩
theorem Lp:F6 b .val (λx y H Q=>(∃z,x=.str z)->rJoin b.C.K x [y] H Q) uK:=by
 intro Ow H v1 v2 p1 p2 p Q hn r1 r2 e k _
 unfold uK at e
 split at e
 ·rename_i z xs
  cases q:C7 xs with
  | none=>rw[q] at e;cases e
  | some zs=>
   rw[q] at e
   simp only[aE] at e
   split at e
   ·rename_i hj
    cases e
    obtain⟨a,vs,rfl,ha,ra⟩:=r2.lst
    have hv:=ra.C7 q
    subst hv
    exact⟨z,a,zs,r1.str,rfl,Bz.of ha,hj,k _ H (AK.refl _) (.str _)⟩
   ·cases e
 ·cases e
theorem Lq {apos AS:Pos}{o:Expr}{fo:rg}(ho:SE X b G m1 o fo)(h:SE X b G m2 e f)(hK:X.K=b.C.K:=by rfl)(B6:attributeBase o "join" X.env (eval o X.env)=eval o X.env:=by rfl)
  (Fh:((backTo AS (starEach [e] X.env)).all (λx=>!x.1)&&(backToKw AS (keywordEach [] X.env)).all (λx=>x.1.isSome)
   && decide ([e].length+([]:List Keyword).length+(if ([]:List Keyword).isEmpty then 0 else 1) < 30))=true:=by rfl)
  (B7:(apos.endLine == AS.line)=true:=by rfl) (hs:starEach [e] X.env=(false,eval e X.env)::starEach [] X.env:=by rfl):
  SE X b G .val (.Call (.Attribute o "join" apos) [e] [] AS) (b2 uK fo f):=
 Rh PySem.F.slot_str_join PySem.F.type_str_join PySem.F.plainAttrs_str (r:=rJoin b.C.K) (by rw[← hK];exact Lh) Lp (λx y p e=>by
  unfold uK at e
  split at e
  ·exact⟨_,rfl⟩
  ·cases e) ho h B6 Fh B7 hs
def Vd (C:MC)(A:Addr->Prop)(H:Hp)(ro:Bool)(H':Hp)(v:V)(p:PV):Prop:=match ro with
 | true=>∃a,v=.ref a/\H a=none/\Top C (λc=>(A c\/H c=none)/\c≠a) H' a p
 | false=>Rep C (λc=>A c\/H c=none) H' v p
def DZ (C:MC)(m:List PV->Option PV)(ro:Bool):Sp:=λvs H Q _=>∃A ps p,AJ C A H vs ps/\m ps=some p/\∀v H',AK H H'->Vd C A H ro H' v p->Q v H'
def Iv:Bool->Md
 | true=>.own
 | false=>.val
theorem Vd.res {env:Env}{H1:Hp}{q:PV}(E:ER b Ow G σ env H)(s:AK H H1)(r:Vd b.C (Bs b Ow) H1 ro H' v q):Res b Ow H H' (Iv ro) v q:=by
 cases ro with
 | true=>
  obtain⟨a,rfl,h,t⟩:=r
  exact⟨a,rfl,s.free h,t.ex (aV λc o _ z=>⟨z.1.elim id λw=>(E.up s).fresh w,z.2⟩) λo z=>z⟩
 | false=>exact Rep.ex (aV λc o _ z=>z.elim id λw=>(E.up s).fresh w) r
theorem Lr {k j:Nat}{ps:qE}(c:OS X.prog X.w X.K X.mg X.base k x ps (DZ b.C mi ro))(hr:A7 j X.A)(ha:SA X b G false (e::es) g)(hle:k<=j:=by decide)(hg:Gl X x:=by rfl)
  (GV:(x == ("__debug__" : Str))=false:=by decide) (he:starEach (e::es) X.env=(false,eval e X.env)::starEach es X.env:=by rfl) (BO:(backTo pos (starEach es X.env)).any (·.1)=false:=by rfl):
  SE X b G (Iv ro) (.Call (.Name x p) (e::es) [] pos) (bH mi g):=by
 refine PE.imp (gG c hr ha hle hg GV he BO) ?_
 rintro σ H Q ⟨Ow,env,q,E,hf,kk⟩
 unfold bH at hf
 cases q1:g env with
 | none=>rw[q1] at hf;cases hf
 | some qs=>
  rw[q1] at hf
  refine⟨Ow,env,qs,E,q1,λvs H1 s1 r=>?_⟩
  dsimp only
  rw[bE]
  exact⟨Bs b Ow,qs,q,ym r,hf,λv H' s' rr=>kk v H' (s1.trans s') (Vd.res E s1 rr)⟩
noncomputable def jd (c:Nat)(x:Str)(f:rg)(env:Env):Option PV:=(f env).bind λp=>match p with
 | .obj c' fs=>if c'=c then fs.lookup x else none
 | _=>none
@[simp] theorem gh (c:Nat)(x:Str)(f:rg)(env:Env):jd c x f env=((f env).bind λp=>match p with
 | .obj c' fs=>if c'=c then fs.lookup x else none
 | _=>none):=id rfl
theorem nq {c:Nat}(hc:JA b.C.K (b.C.cl c))(hn:A6 b.C.K (b.C.cl c) x)(h:SE X b G m e f)(hb:attributeBase e x X.env (eval e X.env)=eval e X.env:=by rfl)(hK:X.K=b.C.K:=by rfl):SE X b G .val (.Attribute e x pos) (jd c x f):=
 PE.imp (Gd h.bor hb)<|by
  rintro σ H Q ⟨Ow,env,p,E,hf,k⟩
  unfold jd at hf
  cases q1:f env with
  | none=>rw[q1] at hf;cases hf
  | some p1=>
   rw[q1] at hf
   refine⟨Ow,env,p1,E,q1,λv H1 s1 r1=>?_⟩
   have Ic:AM b.C (Bs b Ow) H1 v p1:=r1
   cases p1 <;> simp only[aE] at hf <;> first | cases hf | skip
   rename_i c' fs
   split at hf
   ·rename_i U5
    subst U5
    obtain⟨a,dx,fv,rfl,ha,ra⟩:=Ic.obj
    obtain⟨v',hv,rv⟩:=ra.look hf
    rw[hK]
    exact⟨a,_,dx,fv,v',rfl,ha,hc,hn,hv,k v' H1 s1 rv⟩
   ·cases hf
structure ES (P:Program)(w:World)(K:W.Frag)(mg:Str->Option Value)(base:Heap)(C:Addr)(k:Nat)(x:Str)(ps:qE)(sp:Sp):Prop where
 ex:∃f fd,BF P w K mg base Fu k f fd ps sp/\Binds K fd ps []/\Meth K C x f
noncomputable def q_ (c:Nat)(x:Str)(mi:List PV->Option PV)(f:rg)(g:Env->Option (List PV))(env:Env):Option PV:=(f env).bind λp=>match p with
 | .obj c' fs=>if c'=c/\fs.lookup x=none then (g env).bind λps=>mi (p::ps) else none
 | _=>none
@[simp] theorem R6 (c:Nat)(x:Str)(mi:List PV->Option PV)(f:rg)(g:Env->Option (List PV))(env:Env):q_ c x mi f g env=((f env).bind λp=>match p with
 | .obj c' fs=>if c'=c/\fs.lookup x=none then (g env).bind λps=>mi (p::ps) else none
 | _=>none):=id rfl
theorem Lw {c k j:Nat}{o:Expr}{fo:rg}{ps:qE}{apos:Pos}(cM:ES X.prog X.w X.K X.mg X.base (b.C.cl c) k x ps (DZ b.C mi ro))(hc:JA X.K (b.C.cl c))(hr:A7 j X.A)(ho:SE X b G .val o fo)(ha:SA X b G false (e::es) g)(hle:k<=j:=by decide)
  (D5:starEach (e::es) X.env=(false,eval e X.env)::starEach es X.env:=by rfl) (BO:(backTo pos (starEach es X.env)).any (·.1)=false:=by rfl){pl:Sem Bool}
  (ht:eval (.Call (.Attribute o x apos) (e::es) [] pos) X.env=(do
   let ov ← eval o X.env
   standAt apos.atName
   let (f,first) ← holding [ov] (getMethod ov x pl)
   callWith pos f first (backTo pos (starEach (e::es) X.env)) (backToKw pos (keywordEach [] X.env))):=by rfl):
  SE X b G (Iv ro) (.Call (.Attribute o x apos) (e::es) [] pos) (q_ c x mi fo g):=by
 obtain⟨f,fd,F,hb,hM⟩:=cM.ex
 refine PE.imp (Cj (pl:=pl) ho hc hM F (hr.mono hle) hb .nil uD ha D5 BO ht) ?_
 rintro σ H Q ⟨Ow,env,q,E,hf,kk⟩
 unfold q_ at hf
 cases q1:fo env with
 | none=>rw[q1] at hf;cases hf
 | some p1=>
  rw[q1] at hf
  refine⟨Ow,env,p1,E,q1,λv H1 s1 r1=>?_⟩
  have r1v:Rep b.C (Bs b Ow) H1 v p1:=r1
  cases p1 <;> simp only[aE] at hf <;> first | cases hf | skip
  rename_i c' fs
  split at hf
  ·rename_i U5
   obtain⟨rfl,ML⟩:=U5
   cases q2:g env with
   | none=>rw[q2] at hf;cases hf
   | some qs=>
    rw[q2] at hf
    obtain⟨a,dx,fv,rfl,hha,ra⟩:=AM.obj (.inl r1v)
    refine⟨a,dx,fv,rfl,hha,ra.So ML,Ow,env,qs,E.up s1,q2,λvs H2 s2 r2=>?_⟩
    dsimp only
    rw[bE]
    exact⟨Bs b Ow,_::qs,q,.cons (r1v.ex (.of_same s2)) (ym r2),hf,λv' H' s' rr=>kk v' H' (s1.trans (s2.trans s')) (Vd.res E (s1.trans s2) rr)⟩
  ·cases hf
theorem aU {k j:Nat}{ps:qE}(c:OS X.prog X.w X.K X.mg X.base k x ps (DZ b.C mi false))(hr:A7 j X.A)(ha:SA X b G false (e::es) g)(hle:k<=j:=by decide)(hg:Gl X x:=by rfl)
  (GV:(x == ("__debug__" : Str))=false:=by decide) (he:starEach (e::es) X.env=(false,eval e X.env)::starEach es X.env:=by rfl) (BO:(backTo pos (starEach es X.env)).any (·.1)=false:=by rfl):
  SE X b G .val (.Call (.Name x p) (e::es) [] pos) (bH mi g):=Lr c hr ha hle hg GV he BO
theorem zA {c k j:Nat}{o:Expr}{fo:rg}{ps:qE}{apos:Pos}(cM:ES X.prog X.w X.K X.mg X.base (b.C.cl c) k x ps (DZ b.C mi false))(hc:JA X.K (b.C.cl c))(hr:A7 j X.A)(ho:SE X b G .val o fo)(ha:SA X b G false (e::es) g)(hle:k<=j:=by decide)
  (D5:starEach (e::es) X.env=(false,eval e X.env)::starEach es X.env:=by rfl) (BO:(backTo pos (starEach es X.env)).any (·.1)=false:=by rfl){pl:Sem Bool}
  (ht:eval (.Call (.Attribute o x apos) (e::es) [] pos) X.env=(do
   let ov ← eval o X.env
   standAt apos.atName
   let (f,first) ← holding [ov] (getMethod ov x pl)
   callWith pos f first (backTo pos (starEach (e::es) X.env)) (backToKw pos (keywordEach [] X.env))):=by rfl):
  SE X b G .val (.Call (.Attribute o x apos) (e::es) [] pos) (q_ c x mi fo g):=Lw (pl:=pl) cM hc hr ho ha hle D5 BO ht
end
section
variable {b:BX}{Ow:Addr->Prop}{G:qr}{σ:St}{env:Env}{H H':Hp}
theorem ER.set (E:ER b Ow G σ env H){i:Nat}{v:V}{p:PV}(hi:i∉G)(r:Rep b.C (Bs b Ow) H v p)(hx:b.fx i=none):ER b Ow G (σ.set i (some v)) (env.set i (some p)) H:=by
 refine⟨by rw[fb,fb];exact E.len,E.same,E.live,E.new,λj q e n=>?_,λj q e n=>?_,λj k a q q' e1 n1 s1 e2 n2 s2=>?_,λk w hw=>?_⟩
 ·by_cases hj:i=j
  ·subst hj
   rw[kT] at e
   split at e
   ·split at e
    ·rename_i hl
     have:=bi (bi e)
     subst this
     exact⟨v,by rw[fe (by rw[E.len];exact hl)],r⟩
    ·cases e
   ·exact absurd rfl ‹_›
  ·rw[bp hj] at e ⊢
   exact E.val j q e n
 ·have hj:i≠j:=λz=>hi (z▸n)
  rw[bp hj] at e ⊢
  exact E.own j q e n
 ·have hj:i≠j:=λz=>hi (z▸n1)
  have hk:i≠k:=λz=>hi (z▸n2)
  rw[bp hj] at e1 s1
  rw[bp hk] at e2 s2
  exact E.sep j k a q q' e1 n1 s1 e2 n2 s2
 ·by_cases hk:i=k
  ·subst hk;rw[hx] at hw;cases hw
  ·rw[bp hk];exact E.fix k w hw
theorem ER.YL (E:ER b Ow G σ env H){i:Nat}{p:PV}{H0:Hp}{G':qr}(hG:∀j,j∈G'↔(j∈G\/j=i))(s0:AK H0 H)(hn:H0 a=none)(XC:ER b Ow G σ env H0)(t:Top b.C (λc=>Bs b Ow c/\c≠a) H a p)(hx:b.fx i=none):
  ER b (λc=>Ow c\/c=a) G' (σ.set i (some (.ref a))) (env.set i (some p)) H/\Ex (Bs b Ow) H0 (Bs b λc=>Ow c\/c=a) H:=by
 have YM:Ex (Bs b Ow) H0 (Bs b λc=>Ow c\/c=a) H:=λc o h=>⟨λq=>⟨s0 _ _ h,λz=>z.elim q.1 (aq h hn),q.2⟩,λ_=>s0 _ _ h⟩
 have ht:Top b.C (Bs b λc=>Ow c\/c=a) H a p:=t.ex (aV λc o _ q=>⟨λz=>z.elim q.1.1 q.2,q.1.2⟩) λo z=>z
 refine⟨⟨by rw[fb,fb];exact E.len,E.same,λc w=>w.elim (E.live c) λz=>by subst z;obtain⟨o,h,_⟩:=t.live;exact⟨o,h⟩,λc w=>w.elim (E.new c) λz=>by subst z;exact XC.same.free hn,λj q e n=>?_,λj q e n=>?_,λj k c q q' e1 n1 s1 e2 n2 s2=>?_,λk w hw=>?_⟩,YM⟩
 ·have hj:i≠j:=λz=>n ((hG j).mpr (.inr z.symm))
  rw[bp hj] at e ⊢
  obtain⟨v,h1,h2⟩:=XC.val j q e λz=>n ((hG j).mpr (.inl z))
  exact⟨v,h1,h2.ex YM⟩
 ·by_cases hj:i=j
  ·subst hj
   rw[kT] at e
   split at e
   ·split at e
    ·rename_i hl
     have:=bi (bi e)
     subst this
     exact⟨a,by rw[fe (by rw[E.len];exact hl)],.inr rfl,ht⟩
    ·cases e
   ·exact absurd rfl ‹_›
  ·rw[bp hj] at e ⊢
   have nG:j∈G:=((hG j).mp n).elim id λz=>absurd z.symm hj
   obtain⟨c,h1,h2,h3⟩:=XC.own j q e nG
   exact⟨c,h1,.inl h2,h3.ex YM λo z=>s0 _ _ z⟩
 ·have old:∀{j:Nat}{q:PV},i≠j->j∈G'->env[j]?=some (some q)->σ[j]?=some (some (.ref c))->c≠a:=λ{j q} hj n e s=>by
   have nG:j∈G:=((hG j).mp n).elim id λz=>absurd z.symm hj
   obtain⟨c',h1,h2,h3⟩:=XC.own j q e nG
   rw[s] at h1
   cases h1
   obtain⟨o,h4,_⟩:=h3.live
   exact aq h4 hn
  by_cases hj:i=j
  ·by_cases hk:i=k
   ·exact hj.symm.trans hk
   ·subst hj
    rw[bp hk] at e2 s2
    have hl:i < σ.length:=by
     by_cases hl:i < σ.length
     ·exact hl
     ·rw[cS (by rw[fb];omega)] at s1;cases s1
    rw[fe hl] at s1
    cases s1
    exact absurd rfl (old hk n2 e2 s2)
  ·by_cases hk:i=k
   ·subst hk
    rw[bp hj] at e1 s1
    have hl:i < σ.length:=by
     by_cases hl:i < σ.length
     ·exact hl
     ·rw[cS (by rw[fb];omega)] at s2;cases s2
    rw[fe hl] at s2
    cases s2
    exact absurd rfl (old hj n1 e1 s1)
   ·rw[bp hj] at e1 s1
    rw[bp hk] at e2 s2
    have g1:j∈G:=((hG j).mp n1).elim id λz=>absurd z.symm hj
    have g2:k∈G:=((hG k).mp n2).elim id λz=>absurd z.symm hk
    exact E.sep j k c q q' e1 g1 s1 e2 g2 s2
 ·by_cases hk:i=k
  ·subst hk;rw[hx] at hw;cases hw
  ·rw[bp hk];exact E.fix k w hw
theorem ER.write (E:ER b Ow G σ env H){i:Nat}{p p':PV}{o':HO}(hi:i∈G)(hσ:σ[i]?=some (some (.ref a)))(he:env[i]?=some (some p))(hw:Ow a)(t:Top b.C (Bs b Ow) H a p)(t':Top b.C (Bs b Ow) (upd H a o') a p'):
  ER b Ow G σ (env.set i (some p')) (upd H a o')/\Ex (Bs b Ow) H (Bs b Ow) (upd H a o'):=by
 obtain⟨o,ho,hm⟩:=t.live
 have hx:Ex (Bs b Ow) H (Bs b Ow) (upd H a o'):=λc u h=>⟨λq=>⟨by rw[ao (λz:c=a=>q.1 (z▸hw))];exact h,q⟩,λm=>by
  have hc:c≠a:=λz=>by subst z;rw[ho] at h;cases h;rw[hm] at m;cases m
  rw[ao hc];exact h⟩
 refine⟨⟨by rw[fb];exact E.len,λc u h=>?_,λc w=>?_,E.new,λj q e n=>?_,λj q e n=>?_,λj k c q q' e1 n1 s1 e2 n2 s2=>?_,E.fix⟩,hx⟩
 ·have hc:c≠a:=aq h (E.new a hw)
  rw[ao hc];exact E.same c u h
 ·by_cases hc:c=a
  ·subst hc;exact⟨o',az⟩
  ·obtain⟨u,h⟩:=E.live c w
   exact⟨u,by rw[ao hc];exact h⟩
 ·have hj:i≠j:=λz=>n (z▸hi)
  rw[bp hj] at e
  obtain⟨v,h1,h2⟩:=E.val j q e n
  exact⟨v,h1,h2.ex hx⟩
 ·by_cases hj:i=j
  ·subst hj
   rw[kT] at e
   split at e
   ·split at e
    ·have:=bi (bi e)
     subst this
     exact⟨a,hσ,hw,t'⟩
    ·cases e
   ·exact absurd rfl ‹_›
  ·rw[bp hj] at e
   obtain⟨c,h1,h2,h3⟩:=E.own j q e n
   have hc:c≠a:=λz=>by subst z;exact hj (E.sep i j c p q he hi hσ e n h1)
   exact⟨c,h1,h2,h3.ex hx λu z=>by rw[ao hc];exact z⟩
 ·have back:∀{j:Nat}{q:PV},(env.set i (some p'))[j]?=some (some q)->∃q,env[j]?=some (some q):=λ{j q} e=>by
   by_cases hj:i=j
   ·subst hj;exact⟨p,he⟩
   ·rw[bp hj] at e;exact⟨q,e⟩
  obtain⟨r1,Yj⟩:=back e1
  obtain⟨r2,Up⟩:=back e2
  exact E.sep j k c r1 r2 Yj n1 s1 Up n2 s2
theorem ER.weak {G':qr}(E:ER b Ow G σ env H)(h:∀j,j∈G'->j∈G):∃BA,ER b BA G' σ env H/\Ex (Bs b Ow) H (Bs b BA) H:=by
 refine⟨λa=>Ow a/\∃j q,j∈G'/\env[j]?=some (some q)/\σ[j]?=some (some (.ref a)),?_⟩
 have hx:Ex (Bs b Ow) H (Bs b λa=>Ow a/\∃j q,j∈G'/\env[j]?=some (some q)/\σ[j]?=some (some (.ref a))) H:=aV λc o _ q=>⟨λz=>q.1 z.1,q.2⟩
 refine⟨⟨E.len,E.same,λa w=>E.live a w.1,λa w=>E.new a w.1,λi p e n=>?_,λi p e n=>?_,λi j a p q e1 n1 s1 e2 n2 s2=>E.sep i j a p q e1 (h i n1) s1 e2 (h j n2) s2,E.fix⟩,hx⟩
 ·by_cases hi:i∈G
  ·obtain⟨a,h1,h2,h3⟩:=E.own i p e hi
   refine⟨_,h1,(h3.ex hx λo z=>z).rep ⟨λz=>?_,.inr (E.new a h2)⟩⟩
   obtain⟨_,j,q,hj,e',s'⟩:=z
   have:=E.sep i j a p q e hi h1 e' (h j hj) s'
   subst this
   exact n hj
  ·obtain⟨v,h1,h2⟩:=E.val i p e hi
   exact⟨v,h1,h2.ex hx⟩
 ·obtain⟨a,h1,h2,h3⟩:=E.own i p e (h i n)
  exact⟨a,h1,⟨h2,i,p,n,e,h1⟩,h3.ex hx λo z=>z⟩
theorem ER.forget (E:ER b Ow G σ env H)(i:Nat):ER b Ow G σ (env.set i none) H:=by
 have back:∀{j:Nat}{q:PV},(env.set i none)[j]?=some (some q)->env[j]?=some (some q):=λ{j q} e=>by
  by_cases hj:i=j
  ·subst hj
   rw[kT] at e
   split at e
   ·split at e <;> cases e
   ·exact absurd rfl ‹_›
  ·rw[bp hj] at e;exact e
 exact⟨by rw[fb];exact E.len,E.same,E.live,E.new,λj q e n=>E.val j q (back e) n,λj q e n=>E.own j q (back e) n,λj k a q q' e1 n1 s1 e2 n2 s2=>E.sep j k a q q' (back e1) n1 s1 (back e2) n2 s2,E.fix⟩
@[simp] noncomputable def EW:List Nat->Env->Env
 | [],env=>env
 | i::r,env=>EW r (env.set i none)
theorem ER.EW:∀{ds:qr}{env:Env},ER b Ow G σ env H->ER b Ow G σ (EW ds env) H
 | [],_,E=>E
 | i::r,env,E=>ER.EW (ds:=r) (E.forget i)
end
inductive Out where
 | nx (e:Env) | bk (e:Env) | ct (e:Env) | rt (p:PV)
def P8 (b:BX)(Ow:Addr->Prop)(H:Hp)(G L:qr)(ro:Bool)(D:Ends):Out->Prop
 | .nx e=>∀BA σ' H',ER b BA G σ' e H'->Ex (Bs b Ow) H (Bs b BA) H'->D.nx σ' H'
 | .bk e=>∀BA σ' H',ER b BA L σ' e H'->Ex (Bs b Ow) H (Bs b BA) H'->D.bk σ' H'
 | .ct e=>∀BA σ' H',ER b BA L σ' e H'->Ex (Bs b Ow) H (Bs b BA) H'->D.ct σ' H'
 | .rt p=>∀v H',AK b.H0 H'->Vd b.C b.A b.H0 ro H' v p->D.rt v H'
def tS (b:BX)(G G' L:qr)(ro:Bool)(f:Env->Option Out):TS:=λD σ H=>∃Ow env out,ER b Ow G σ env H/\f env=some out/\P8 b Ow H G' L ro D out
abbrev SS (X:Cx)(b:BX)(G G' L:qr)(ro:Bool)(st:Stmt)(f:Env->Option Out):Prop:=PS X st (tS b G G' L ro f)
abbrev L7 (X:Cx)(b:BX)(G G' L:qr)(ro:Bool)(st:qA)(f:Env->Option Out):Prop:=F0 X st (tS b G G' L ro f)
theorem F0.imp {e:qA}{t u:TS}(h:F0 X e t)(i:∀D σ H,u D σ H->t D σ H):F0 X e u:=λAF s σ H D I q=>h AF s σ H D I (i D σ H q)
theorem PS.or {e:Stmt}{t u:TS}(h:PS X e t)(h':PS X e u):PS X e (λD σ H=>t D σ H\/u D σ H):=λAF s σ H D I q=>q.elim (h AF s σ H D I) (h' AF s σ H D I)
theorem P8.ex {b:BX}{Ow1:Addr->Prop}{H1:Hp}{G L:qr}{D:Ends}{o:Out}(e:Ex (Bs b Ow) H (Bs b Ow1) H1)(h:P8 b Ow H G L ro D o):P8 b Ow1 H1 G L ro D o:=by
 cases o with
 | nx e'=>exact λBA σ' H' E x=>h BA σ' H' E (e.trans x)
 | bk e'=>exact λBA σ' H' E x=>h BA σ' H' E (e.trans x)
 | ct e'=>exact λBA σ' H' E x=>h BA σ' H' E (e.trans x)
 | rt p=>exact h
noncomputable def Fm (env:Env):Option Out:=some (.nx env)
@[simp] theorem Tv (env:Env):Fm env=(some (.nx env)):=id rfl
noncomputable def aP (f g:Env->Option Out)(env:Env):Option Out:=(f env).bind λo=>match o with | .nx e=>g e | o=>some o
@[simp] theorem S8 (f g:Env->Option Out)(env:Env):aP f g env=((f env).bind λo=>match o with | .nx e=>g e | o=>some o):=id rfl
noncomputable def bj (i:Nat)(f:rg)(env:Env):Option Out:=(f env).bind λp=>some (.nx (env.set i (some p)))
@[simp] theorem S9 (i:Nat)(f:rg)(env:Env):bj i f env=((f env).bind λp=>some (.nx (env.set i (some p)))):=id rfl
noncomputable def bF (f:rg)(env:Env):Option Out:=(f env).bind λp=>some (.rt p)
@[simp] theorem S_ (f:rg)(env:Env):bF f env=((f env).bind λp=>some (.rt p)):=id rfl
noncomputable def Fn (c:Env->Option Bool)(f g:Env->Option Out)(env:Env):Option Out:=(c env).bind λk=>if k=true then f env else g env
@[simp] theorem Tw (c:Env->Option Bool)(f g:Env->Option Out)(env:Env):Fn c f g env=((c env).bind λk=>if k=true then f env else g env):=id rfl
noncomputable def jX (g:PV->PV->Option PV)(i:Nat)(f:rg)(env:Env):Option Out:=(bV i env).bind λx=>(f env).bind λp=>(g x p).bind λy=>some (.nx (env.set i (some y)))
@[simp] theorem R7 (g:PV->PV->Option PV)(i:Nat)(f:rg)(env:Env):jX g i f env=((bV i env).bind λx=>(f env).bind λp=>(g x p).bind λy=>some (.nx (env.set i (some y)))):=id rfl
noncomputable def yo (g:PV->PV->PV->Option PV)(i:Nat)(f h:rg)(env:Env):Option Out:=(bV i env).bind λx=>(f env).bind λp=>(h env).bind λq=>(g x p q).bind λy=>some (.nx (env.set i (some y)))
@[simp] theorem R8 (g:PV->PV->PV->Option PV)(i:Nat)(f h:rg)(env:Env):yo g i f h env=((bV i env).bind λx=>(f env).bind λp=>(h env).bind λq=>(g x p q).bind λy=>some (.nx (env.set i (some y)))):=id rfl
@[simp] noncomputable def tu:PV->PV->Option PV
 | .lst xs,p=>if xs.length < 1000000 then some (.lst (xs++[p])) else none
 | _,_=>none
noncomputable def bD {κ:Type}[DecidableEq κ](kvs:List (κ×PV))(k:κ)(v:PV):List (κ×PV):=
 if (kvs.any λkv=>decide (kv.1=k))=true then kvs.map (λkv=>if kv.1=k then (kv.1,v) else kv) else kvs++[(k,v)]
@[simp] noncomputable def Ec:PV->PV->PV->Option PV
 | .dK kvs,k,v=>(keyOf k).bind λk=>if kvs.length < 1000000 then some (.dK (bD kvs k v)) else none
 | .dT kvs,.tup ks,v=>(AU ks).bind λk=>if kvs.length < 1000000 then some (.dT (bD kvs k v)) else none
 | .lst xs,.int i,v=>(JO xs.length i).map λj=>.lst (xs.set j v)
 | _,_,_=>none
variable {tg:Expr}{fr:Bool}
section
variable {X:Cx}{b:BX}{G G' G1 L:qr}{ro:Bool}{st:Stmt}{rest:qA}{f g:Env->Option Out}{e e1 e2:Expr}{h h1 h2:rg}{m m1 m2:Md}{pos:Pos}
theorem bR:L7 X b G G L ro [] Fm:=F0.imp j8<|by rintro D σ H ⟨Ow,env,o,E,hf,k⟩;cases hf;exact k Ow σ H E (Ex.refl _ _)
theorem aD (a:SS X b G G1 L ro st f)(c:L7 X b G1 G' L ro rest g):L7 X b G G' L ro (st::rest) (aP f g):=F0.imp (a_ a c)<|by
 rintro D σ H ⟨Ow,env,o,E,hf,k⟩
 unfold aP at hf
 cases q:f env with
 | none=>rw[q] at hf;cases hf
 | some o1=>
  rw[q] at hf
  refine⟨Ow,env,o1,E,q,?_⟩
  cases o1 with
  | nx e'=>exact λBA σ' H' E' x=>⟨BA,e',o,E',hf,k.ex x⟩
  | bk e'=>cases hf;exact k
  | ct e'=>cases hf;exact k
  | rt p=>cases hf;exact k
theorem aF (a:SS X b G G' L ro st f):L7 X b G G' L ro [st] f:=bW a
theorem zB (c:L7 X b G1 G' L ro rest g)(hs:∀j,j∈G1->j∈G:=by decide):L7 X b G G' L ro rest g:=F0.imp c<|by
 rintro D σ H ⟨Ow,env,o,E,hf,k⟩
 obtain⟨BA,E',x⟩:=E.weak hs
 exact⟨BA,env,o,E',hf,k.ex x⟩
theorem aA {α β:Type}{x:Option α}{k:α->Option β}{y:β}(h:x.bind k=some y):∃a,x=some a/\k a=some y:=by
 cases x with
 | none=>cases h
 | some a=>exact⟨a,rfl,h⟩
theorem R9 {i:Nat}{D:Ends}(hi:i∉G)(hx:b.fx i=none)(q:tS b G G L ro (bj i h) D σ H):tM b G .val h σ H λv H1=>D.nx (σ.set i (some v)) H1:=by
 obtain⟨Ow,env,o,E,hf,k⟩:=q
 obtain⟨p,hp,e⟩:=aA hf
 cases e
 exact⟨Ow,env,p,E,hp,λv H' s r=>k Ow _ H' ((E.up s).set hi r hx) (.of_same s)⟩
theorem Ri {i:Nat}{D:Ends}(hG:∀j,j∈G'↔(j∈G\/j=i))(hx:b.fx i=none)(q:tS b G G' L ro (bj i h) D σ H):tM b G .own h σ H λv H1=>D.nx (σ.set i (some v)) H1:=by
 obtain⟨Ow,env,o,E,hf,k⟩:=q
 obtain⟨p,hp,e⟩:=aA hf
 cases e
 refine⟨Ow,env,p,E,hp,?_⟩
 rintro v H' s ⟨a,ev,hn,t⟩
 subst ev
 obtain⟨E',x⟩:=(E.up s).YL hG s hn E t hx
 exact k _ _ H' E' x
theorem bK (i:Nat){pos':Pos}(nd:X.N.Nodup)(he:SE X b G .val e h)(hG:i∉G:=by decide)(hx:b.fx i=none:=by first | rfl | assumption)(hi:X.N[i]?=some x:=by rfl)(hl:Loc X.env.scope x:=by first | exact ff rfl | exact fz rfl)
  (hs:swapsWith e (some (.Name x pos')) pos.line X.env=pure false:=by rfl) (hf:X.fn x=true\/X.env.scope.names.lookup x=some .local:=by first | exact .inl rfl | exact .inr rfl | assumption):SS X b G G L ro (.Assign [.Name x pos'] e pos) (bj i h):=
 PS.imp (fB nd hi hl he hs hf) λD σ H q=>R9 hG hx q
theorem kY (i:Nat){pos':Pos}(nd:X.N.Nodup)(he:SE X b G .own e h)(hG:i∈G:=by decide)(hx:b.fx i=none:=by first | rfl | assumption)(hi:X.N[i]?=some x:=by rfl)(hl:Loc X.env.scope x:=by first | exact ff rfl | exact fz rfl)
  (hs:swapsWith e (some (.Name x pos')) pos.line X.env=pure false:=by rfl) (hf:X.fn x=true\/X.env.scope.names.lookup x=some .local:=by first | exact .inl rfl | exact .inr rfl | assumption):SS X b G G L ro (.Assign [.Name x pos'] e pos) (bj i h):=
 PS.imp (fB nd hi hl he hs hf) λD σ H q=>Ri (λj=>⟨.inl,λz=>z.elim id λy=>y▸hG⟩) hx q
theorem bx (he:SE X b G .val e h):SS X b G G' L false (.Return (some e) pos) (bF h):=PS.imp (ig he)<|by
 rintro D σ H ⟨Ow,env,o,E,hf,k⟩
 obtain⟨p,hp,z1⟩:=aA hf
 clear hf
 cases z1
 exact⟨Ow,env,p,E,hp,λv H' s r=>k v H' (E.same.trans s) (Rep.ex (aV λc o _ q=>q.2) r)⟩
theorem Pq (i:Nat){p1:Pos}(hi:i∈G:=by decide)(hN:X.N[i]?=some x:=by rfl)(hv:Mc X.env.scope x:=by first | exact ff rfl | exact fz (ff rfl) | exact fz (fz rfl))(hd:(x == ("__debug__" : Str))=false:=by decide)
  (EI:(x == ("__classdict__" : Str))=false:=by decide):SS X b G G' L true (.Return (some (.Name x p1)) pos) (bF (bV i)):=PS.imp (ig (ie hN hv hd EI))<|by
 rintro D σ H ⟨Ow,env,o,E,hf,k⟩
 obtain⟨p,hp,z1⟩:=aA hf
 clear hf
 cases z1
 obtain⟨a,e,w,t⟩:=E.own i p (fG hp) hi
 exact⟨_,e,k _ H E.same ⟨a,rfl,E.new a w,t.ex (aV λc o _ q=>⟨q.2,λz=>q.1 (z▸w)⟩) λo z=>z⟩⟩
theorem dB {c:Expr}{k:Env->Option Bool}{sa sb:qA}(hc:ST X b G c k)(ha:L7 X b G G' L ro sa f)(hb:L7 X b G G' L ro sb g):SS X b G G' L ro (.If c sa sb pos) (Fn k f g):=PS.imp (qW hc ha hb)<|by
 rintro D σ H ⟨Ow,env,o,E,hf,kk⟩
 obtain⟨p,hp,z1⟩:=aA hf
 clear hf
 refine⟨Ow,env,p,E,hp,λH' s=>?_⟩
 cases p with
 | true=>exact jb ⟨Ow,env,o,E.up s,z1,kk.ex (.of_same s)⟩
 | false=>exact lZ ⟨Ow,env,o,E.up s,z1,kk.ex (.of_same s)⟩
theorem uL (i:Nat){p1 apos AS:Pos}(he:SE X b G .val e h)(hi:i∈G:=by decide)(hN:X.N[i]?=some x:=by rfl)(hv:Mc X.env.scope x:=by first | exact ff rfl | exact fz (ff rfl) | exact fz (fz rfl))(hd:(x == ("__debug__" : Str))=false:=by decide)
  (EI:(x == ("__classdict__" : Str))=false:=by decide) (B6:attributeBase (.Name x p1) "append" X.env (eval (.Name x p1) X.env)=eval (.Name x p1) X.env:=by rfl)
  (Fh:((backTo AS (starEach [e] X.env)).all (λx=>!x.1)&&(backToKw AS (keywordEach [] X.env)).all (λx=>x.1.isSome)
   && decide ([e].length+([]:List Keyword).length+(if ([]:List Keyword).isEmpty then 0 else 1) < 30))=true:=by rfl)
  (B7:(apos.endLine == AS.line)=true:=by rfl) (hs:starEach [e] X.env=(false,eval e X.env)::starEach [] X.env:=by rfl):
  SS X b G G L ro (.Expr (.Call (.Attribute (.Name x p1) "append" apos) [e] [] AS) pos) (jX tu i h):=
 PS.imp (qU (yg iS kr kz lM (ie hN hv hd EI) (aB he aN hs) B6 Fh B7 hs rfl))<|by
  rintro D σ H ⟨Ow,env,o,E,hf,k⟩
  obtain⟨px,SD,z1⟩:=aA hf
  clear hf
  obtain⟨p,hp,z2⟩:=aA z1
  clear z1
  obtain⟨y,hy,z3⟩:=aA z2
  clear z2
  cases z3
  obtain⟨a,ea,w,t⟩:=E.own i px (fG SD) hi
  cases px <;> simp only[tu] at hy <;> first | cases hy | skip
  rename_i xs
  split at hy
  ·rename_i hl
   cases hy
   obtain⟨vs,ha,ra⟩:=id t
   refine⟨_,ea,.inl ⟨rfl,_,Bz.of ha⟩,Ow,env,p,E,hp,λv H' s r=>?_⟩
   refine⟨a,vs,v,rfl,rfl,s _ _ ha,bZ (by rw[ra.length];omega),?_⟩
   have SF:AJ b.C (Bs b Ow) (upd H' a (.lst (vs++[v]))) (vs++[v]) (xs++[p]):=by
    refine(ra.ex (.of_same s)).append (.cons r .nil) |>.ex λc o h=>⟨λq=>⟨by rw[ao (λz:c=a=>q.1 (z▸w))];exact h,q⟩,λm=>?_⟩
    have hc:c≠a:=λz=>by subst z;rw[s _ _ ha] at h;cases h;cases m
    rw[ao hc];exact h
   obtain⟨E',x⟩:=(E.up s).write hi ea (fG SD) w (t.ex (.of_same s) λo z=>s _ _ z) (o':=.lst (vs++[v])) (p':=.lst (xs++[p])) ⟨_,az,SF⟩
   exact k Ow σ _ E' ((Ex.of_same s).trans x)
  ·cases hy
theorem AX.put {k:Key}{p:PV}(r:Rep C A H v p){kv:List (Key×V)}{kvs:List (Key×PV)}(t:AX C A H kv kvs):AX C A H (putK kv k v) (bD kvs k p):=by
 have Ur:∀{kv:List (Key×V)}{kvs:List (Key×PV)},AX C A H kv kvs->(kv.any λx=>decide (x.1=k))=(kvs.any λx=>decide (x.1=k)):=by
  intro kv kvs t
  induction kv generalizing kvs with
  | nil=>cases t;rfl
  | cons x l ih=>cases t with | cons h t=>rw[fw,fw,ih t]
 have Us:∀{kv:List (Key×V)}{kvs:List (Key×PV)},AX C A H kv kvs->AX C A H (kv.map λx=>if x.1=k then (x.1,v) else x) (kvs.map λx=>if x.1=k then (x.1,p) else x):=by
  intro kv kvs t
  induction kv generalizing kvs with
  | nil=>cases t;exact .nil
  | cons x l ih=>
   cases t with
   | cons h t=>
    rw[a0,a0]
    rename_i k' v' p' YK
    by_cases e:k'=k
    ·simp only[e,f8];exact .cons r (ih t)
    ·simp only[e,fT];exact .cons h (ih t)
 have Ut:∀{kv:List (Key×V)}{kvs:List (Key×PV)},AX C A H kv kvs->AX C A H (kv++[(k,v)]) (kvs++[(k,p)]):=by
  intro kv kvs t
  induction kv generalizing kvs with
  | nil=>cases t;exact .cons r .nil
  | cons x l ih=>cases t with | cons h t=>exact .cons h (ih t)
 unfold putK bD
 rw[Ur t]
 split
 ·exact Us t
 ·exact Ut t
theorem A2.put {k:List AG}{p:PV}(r:Rep C A H v p){kv:List (List AG×V)}{kvs:List (List AG×PV)}(t:A2 C A H kv kvs):A2 C A H (putK kv k v) (bD kvs k p):=by
 have Ur:∀{kv:List (List AG×V)}{kvs:List (List AG×PV)},A2 C A H kv kvs->(kv.any λx=>decide (x.1=k))=(kvs.any λx=>decide (x.1=k)):=by
  intro kv kvs t
  induction kv generalizing kvs with
  | nil=>cases t;rfl
  | cons x l ih=>cases t with | cons h t=>rw[fw,fw,ih t]
 have Us:∀{kv:List (List AG×V)}{kvs:List (List AG×PV)},A2 C A H kv kvs->A2 C A H (kv.map λx=>if x.1=k then (x.1,v) else x) (kvs.map λx=>if x.1=k then (x.1,p) else x):=by
  intro kv kvs t
  induction kv generalizing kvs with
  | nil=>cases t;exact .nil
  | cons x l ih=>
   cases t with
   | cons h t=>
    rw[a0,a0]
    rename_i k' v' p' YK
    by_cases e:k'=k
    ·simp only[e,f8];exact .cons r (ih t)
    ·simp only[e,fT];exact .cons h (ih t)
 have Ut:∀{kv:List (List AG×V)}{kvs:List (List AG×PV)},A2 C A H kv kvs->A2 C A H (kv++[(k,v)]) (kvs++[(k,p)]):=by
  intro kv kvs t
  induction kv generalizing kvs with
  | nil=>cases t;exact .cons r .nil
  | cons x l ih=>cases t with | cons h t=>exact .cons h (ih t)
 unfold putK bD
 rw[Ur t]
 split
 ·exact Us t
 ·exact Ut t
theorem A2.length {C:MC}{A:Addr->Prop}{H:Hp}:∀{vs:List (List AG×V)}{ps:List (List AG×PV)},A2 C A H vs ps->vs.length=ps.length
 | _,_,.nil=>rfl
 | _,_,.cons _ t=>by simp[A2.length t]
theorem oO {o o':HO}(w:Ow a)(ha:H a=some o)(hm:gM o=true):Ex (Bs b Ow) H (Bs b Ow) (upd H a o'):=λc u h=>⟨λq=>⟨by rw[ao (λz:c=a=>q.1 (z▸w))];exact h,q⟩,λm=>by
 have hc:c≠a:=λz=>by subst z;rw[ha] at h;cases h;rw[hm] at m;cases m
 rw[ao hc];exact h⟩
theorem Ku (i:Nat){p1 p2:Pos}{j:Nat}(hr:A7 j X.A)(hk:SE X b G .val e1 h1)(OR:SE X b G .val e2 h2)(hi:i∈G:=by decide)(hN:X.N[i]?=some x:=by rfl)(hv:Mc X.env.scope x:=by first | exact ff rfl | exact fz (ff rfl) | exact fz (fz rfl))(hd:(x == ("__debug__" : Str))=false:=by decide)
  (EI:(x == ("__classdict__" : Str))=false:=by decide) (hs:swapsWith e2 (some (.Subscript (.Name x p1) e1 p2)) pos.line X.env=pure false:=by rfl) (D6:swapsWithSole [.Subscript (.Name x p1) e1 p2] e2 pos.line X.env=pure false:=by rfl) (hw:swappedStores [.Subscript (.Name x p1) e1 p2] e2 X.env=pure none:=by rfl)
  (YN:(assignEach [.Subscript (.Name x p1) e1 p2] X.env).map (·.2)=[assign (.Subscript (.Name x p1) e1 p2) X.env]:=by rfl)
  (ha:∀v,assign (.Subscript (.Name x p1) e1 p2) X.env v=(do
   let ov ← holding [v] (eval (.Name x p1) X.env)
   let iv ← holding [v,ov] (eval e1 X.env)
   standAt p2
   holding [v,ov,iv] (setItem ov iv v)
   release [v,ov,iv] []):=by intro _;rfl) (hK:X.K=b.C.K:=by rfl):SS X b G G L ro (.Assign [.Subscript (.Name x p1) e1 p2] e2 pos) (yo Ec i h1 h2):=by
 refine PS.imp (PS.or (mY (dG hr) (ie hN hv hd EI) hk OR hs) (FJ OR (N6 (ie hN hv hd EI) hk set_list ha) D6 hw YN)) ?_
 rintro D σ H ⟨Ow,env,o,E,hf,k⟩
 obtain⟨px,SD,z1⟩:=aA hf
 clear hf
 obtain⟨pk,YO,z2⟩:=aA z1
 clear z1
 obtain⟨pv,YQ,z3⟩:=aA z2
 clear z2
 obtain⟨y,hy,z4⟩:=aA z3
 clear z3
 cases z4
 obtain⟨a,ea,w,t⟩:=E.own i px (fG SD) hi
 have fin:∀{H2:Hp}{o':HO},AK H H2->Top b.C (Bs b Ow) (upd H2 a o') a y->D.nx σ (upd H2 a o'):=λ{H2 o'} s t'=>by
  obtain⟨E',x⟩:=(E.up s).write hi ea (fG SD) w (t.ex (.of_same s) λo z=>s _ _ z) t'
  exact k Ow σ _ E' ((Ex.of_same s).trans x)
 unfold Ec at hy
 split at hy
 ·obtain⟨ky,YR,hy⟩:=aA hy
  split at hy
  ·rename_i hl
   cases hy
   obtain⟨kv,ha,ra⟩:=id t
   refine .inl ⟨Ow,env,pv,E,YQ,λv H1 s1 r1=>⟨_,ea,Ow,env,pk,E.up s1,YO,λu H2 s2 r2=>?_⟩⟩
   have s:=s1.trans s2
   have eu:=AM.key (.inl r2) YR
   subst eu
   refine⟨a,_,rfl,FG.k (s _ _ ha) (bZ (by rw[ra.length];omega)),fin s ⟨_,az,?_⟩⟩
   exact(AX.put (k:=ky) (Rep.ex (.of_same s2) r1) (ra.ex (.of_same s))).ex (oO w (s _ _ ha) rfl)
  ·cases hy
 ·obtain⟨ky,YR,hy⟩:=aA hy
  split at hy
  ·rename_i hl
   cases hy
   obtain⟨kv,ha,ra⟩:=id t
   refine .inl ⟨Ow,env,pv,E,YQ,λv H1 s1 r1=>⟨_,ea,Ow,env,_,E.up s1,YO,λu H2 s2 r2=>?_⟩⟩
   have s:=s1.trans s2
   obtain⟨c,us,rfl,hc,rc⟩:=AM.tup (.inl r2)
   refine⟨a,_,rfl,FG.t (s _ _ ha) (by rw[hK];exact hc.key (rc.AU YR)) (bZ (by rw[ra.length];omega)),fin s ⟨_,az,?_⟩⟩
   exact(A2.put (k:=ky) (Rep.ex (.of_same s2) r1) (ra.ex (.of_same s))).ex (oO w (s _ _ ha) rfl)
  ·cases hy
 ·rename_i xs n
  cases q:JO xs.length n with
  | none=>rw[q] at hy;cases hy
  | some jj=>
   rw[q] at hy
   cases hy
   obtain⟨vs,ha,ra⟩:=id t
   refine .inr ⟨Ow,env,pv,E,YQ,λv H1 s1 r1=>⟨_,ea,Ow,env,_,E.up s1,YO,λu H2 s2 r2=>?_⟩⟩
   have s:=s1.trans s2
   have eu:=AM.int (.inl r2)
   subst eu
   refine⟨a,vs,n,jj,rfl,rfl,s _ _ ha,by rw[ra.length];exact q,fin s ⟨_,az,?_⟩⟩
   exact(AJ.set (Rep.ex (.of_same s2) r1) jj (ra.ex (.of_same s))).ex (oO w (s _ _ ha) rfl)
 ·cases hy
def IW (b:BX)(Ow:Addr->Prop)(fr:Bool)(H1:Hp)(J:It)(ps:List PV):Prop:=∀BA H,(fr=false->AK H1 H)->Ex (Bs b Ow) H1 (Bs b BA) H->(∀a,H a=none->Bs b BA a)->
 (∀i p,ps[i]?=some p->J.go i H/\∀x H',J.Mo i H x H'->AK H H'/\Rep b.C (Bs b BA) H' x p)/\J.stop ps.length H
def tMI (b:BX)(G:qr)(fr:Bool)(g:Env->Option (List PV)):TI:=fun σ H R=>∃Ow env ps,ER b Ow G σ env H/\g env=some ps/\∀J H1,AK H H1->IW b Ow fr H1 J ps->R J H1
abbrev SI (X:Cx)(b:BX)(G:qr)(fr:Bool)(tg it:Expr)(g:Env->Option (List PV)):Prop:=PI X tg it (tMI b G fr g)
theorem PI.imp {it:Expr}{t u:TI}(h:PI X tg it t)(i:∀ σ H R,u σ H R->t σ H R):PI X tg it u:=λAF s σ H R I q=>h AF s σ H R I (i σ H R q)
theorem PI.or {it:Expr}{t u:TI}(h:PI X tg it t)(h':PI X tg it u):PI X tg it (fun σ H R=>t σ H R\/u σ H R):=λAF s σ H R I q=>q.elim (h AF s σ H R I) (h' AF s σ H R I)
noncomputable def V6 (x:Str):List PV:=x.cps.toList.map λc=>.str ⟨#[c]⟩
@[simp] noncomputable def P9:PV->Option (List PV)
 | .lst xs=>some xs
 | .frz xs=>some xs
 | .tup xs=>some xs
 | .ktp xs=>some xs
 | .str x=>some (V6 x)
 | _=>none
noncomputable def iV (f:rg)(env:Env):Option (List PV):=(f env).bind P9
@[simp] theorem Ua (f:rg)(env:Env):iV f env=((f env).bind P9):=id rfl
theorem vY {H1:Hp}{xs:List PV}(hq:∀BA H,(fr=false->AK H1 H)->Ex (Bs b Ow) H1 (Bs b BA) H->Bz b.C.K H a vs/\AJ b.C (Bs b BA) H vs xs):IW b Ow fr H1 (Pt b.C.K a) xs:=by
 intro BA H h0 h1 hn
 obtain⟨q,r⟩:=hq BA H h0 h1
 refine⟨λi p hp=>?_,⟨vs,q,by rw[r.length];exact aw _⟩⟩
 obtain⟨v,hv,rv⟩:=r.get hp
 refine⟨⟨vs,v,q,hv⟩,λx H' y=>?_⟩
 obtain⟨e,y⟩:=y
 subst e
 have e2:=y vs q
 rw[hv] at e2
 cases e2
 exact⟨AK.refl _,rv⟩
theorem GF {H1:Hp}{xs:List PV}(hq:∀BA H,(fr=false->AK H1 H)->Ex (Bs b Ow) H1 (Bs b BA) H->Co b.C.K H a vs/\AJ b.C (Bs b BA) H vs xs):IW b Ow fr H1 (Pw b.C.K a) xs:=by
 intro BA H h0 h1 hn
 obtain⟨q,r⟩:=hq BA H h0 h1
 refine⟨λi p hp=>?_,⟨vs,q,by rw[r.length];exact aw _⟩⟩
 obtain⟨v,hv,rv⟩:=r.get hp
 refine⟨⟨vs,v,q,hv⟩,λx H' y=>?_⟩
 obtain⟨e,y⟩:=y
 subst e
 have e2:=y vs q
 rw[hv] at e2
 cases e2
 exact⟨AK.refl _,rv⟩
theorem Pr {H1:Hp}:IW b Ow fr H1 (YH x) (V6 x):=by
 intro BA H h0 h1 hn
 refine⟨λi p hp=>?_,by show (V6 x).length=x.cps.size;unfold V6;rw[aI,gL]⟩
 unfold V6 at hp
 rw[cp] at hp
 cases q:x.cps.toList[i]? with
 | none=>rw[q] at hp;cases hp
 | some c=>
  rw[q] at hp
  cases hp
  have hc:x.cps[i]?=some c:=by rw[← Array.getElem?_toList];exact q
  refine⟨(Array.getElem?_eq_some_iff.mp hc).1,λv H' y=>?_⟩
  obtain⟨e,c',h',ev⟩:=y
  subst e
  rw[hc] at h'
  cases h'
  subst ev
  exact⟨AK.refl _,.str _⟩
theorem oR (he:SE X b G m e h)(hm:fr=true->m≠.bor:=by simp)(hK:X.K=b.C.K:=by rfl):SI X b G fr tg e (iV h):=by
 have hPI:=PI.or (tg:=tg) (PI.or (vL he) (uv he)) (OJ he)
 refine PI.imp hPI ?_
 rintro σ H R ⟨Ow,env,ps,E,hg,k⟩
 rw[hK]
 obtain⟨p,hp,FA⟩:=aA hg
 have keep:∀{H1 BA H2}{v:V},AK H H1->Res b Ow H H1 m v p->(fr=false->AK H1 H2)->Ex (Bs b Ow) H1 (Bs b BA) H2->AM b.C (Bs b BA) H2 v p:=λ{H1 BA H2 v} s r h0 h1=>by
  cases fr with
  | false=>exact AM.ex h1 (h0 rfl) r.bor
  | true=>exact .inl (Rep.ex h1 (r.val E (hm rfl)))
 unfold P9 at FA
 split at FA
 ·cases FA
  refine .inl (.inl ⟨Ow,env,_,E,hp,λv H1 s r=>?_⟩)
  have r1:AM b.C (Bs b Ow) H1 v (.lst _):=r.bor
  obtain⟨a,vs,rfl,ha,ra⟩:=r1.lst
  refine⟨a,rfl,⟨vs,Bz.of ha⟩,k _ _ s (vY (vs:=vs) λBA H2 h0 h1=>?_)⟩
  obtain⟨a',IJ,e',XB,SF⟩:=(keep s r h0 h1).lst
  cases e'
  have:H2 a=some (.lst vs):=by
   cases fr with
   | false=>exact h0 rfl _ _ ha
   | true=>
    have rv:Rep b.C (Bs b Ow) H1 (.ref a) (.lst _):=r.val E (hm rfl)
    cases rv with
    | lst q1 q2 q3=>rw[ha] at q1;cases q1;exact((h1 _ _ ha).1 q2).1
  rw[XB] at this
  cases this
  exact⟨Bz.of XB,SF⟩
 ·cases FA
  refine .inl (.inl ⟨Ow,env,_,E,hp,λv H1 s r=>?_⟩)
  have r1:Rep b.C (Bs b Ow) H1 v (.frz _):=(by rcases r.bor with z | ⟨_,_,z⟩;exact z;exact z.elim)
  cases r1 with
  | MX q1 q3=>exact⟨_,rfl,⟨_,.inl (.inr ⟨_,q1⟩)⟩,k _ _ s (vY λBA H2 h0 h1=>⟨.inl (.inr ⟨_,(h1 _ _ q1).2 rfl⟩),q3.ex h1⟩)⟩
  | lstK q1 q3=>exact⟨_,rfl,⟨_,Va q1⟩,k _ _ s (vY λBA H2 h0 h1=>⟨Va q1,q3.ex h1⟩)⟩
 ·cases FA
  refine .inl (.inr ⟨Ow,env,_,E,hp,λv H1 s r=>?_⟩)
  have r1:AM b.C (Bs b Ow) H1 v (.tup _):=r.bor
  obtain⟨a,vs,rfl,ha,ra⟩:=r1.tup
  exact⟨a,rfl,⟨vs,ha.sq⟩,k _ _ s (GF (vs:=vs) λBA H2 h0 h1=>⟨(ha.ex h1).sq,ra.ex h1⟩)⟩
 ·cases FA
  refine .inl (.inr ⟨Ow,env,_,E,hp,λv H1 s r=>?_⟩)
  have r1:AM b.C (Bs b Ow) H1 v (.ktp _):=r.bor
  rcases r1 with r1 | ⟨_,_,t⟩
  ·cases r1 with
   | tupK q1 q3=>exact⟨_,rfl,⟨_,kW q1⟩,k _ _ s (GF λBA H2 h0 h1=>⟨kW q1,q3.ex h1⟩)⟩
  ·exact t.elim
 ·cases FA
  refine .inr ⟨Ow,env,_,E,hp,λv H1 s r=>?_⟩
  have r1:AM b.C (Bs b Ow) H1 v (.str _):=r.bor
  exact⟨_,r1.str,k _ _ s Pr⟩
 ·cases FA
noncomputable def GG (i:Int):Bool:=@decide (-4611686018427387904<=i/\i < 4611686018427387904) (Classical.propDecidable _)
theorem jH {i:Int}(h:-4611686018427387904<=i)(h':i < 4611686018427387904):GG i=true:=@hV _ (Classical.propDecidable _) ⟨h,h'⟩
theorem nM {i:Int}(h:GG i=true):-(2 ^ 62)<=i/\i < 2 ^ 62:=by
 simp only[GG,eD] at h
 exact h
noncomputable def cV (lo hi:Int):List PV:=(List.range (hi - lo).toNat).map λi=>.int (lo+(i:Nat))
noncomputable def SH (f:rg)(env:Env):Option (List PV):=(f env).bind λp=>match p with
 | .int j=>if GG j=true then some (cV 0 j) else none
 | _=>none
@[simp] theorem Tz (f:rg)(env:Env):SH f env=((f env).bind λp=>match p with
 | .int j=>if GG j=true then some (cV 0 j) else none
 | _=>none):=id rfl
noncomputable def YS (f g:rg)(env:Env):Option (List PV):=(f env).bind λp=>(g env).bind λq=>match p,q with
 | .int i,.int j=>if (GG i&&GG j)=true then some (cV i j) else none
 | _,_=>none
@[simp] theorem TF (f g:rg)(env:Env):YS f g env=((f env).bind λp=>(g env).bind λq=>match p,q with
 | .int i,.int j=>if (GG i&&GG j)=true then some (cV i j) else none
 | _,_=>none):=id rfl
theorem GJ {H1:Hp}{lo hi:Int}:IW b Ow fr H1 (PD lo (hi - lo).toNat) (cV lo hi):=by
 intro BA H h0 h1 hn
 have hl:(cV lo hi).length=(hi - lo).toNat:=by unfold cV;rw[aI,fg]
 refine⟨λi p hp=>?_,by show (hi - lo).toNat<=(cV lo hi).length;rw[hl];exact aw _⟩
 have L8:i < (hi - lo).toNat:=by rw[← hl];exact(ai.mp hp).1
 refine⟨L8,λx H' y=>?_⟩
 obtain⟨e,ex⟩:=y
 subst e ex
 unfold cV at hp
 rw[cp,mf L8] at hp
 cases hp
 exact⟨AK.refl _,.int _⟩
theorem rA {p pos:Pos}(hm:X.mg "range" = none)(he:SE X b G m e h)(hg:Gl X "range" := by rfl)(hs:starEach [e] X.env=[(false,eval e X.env)]:=by rfl)(DM:starEach [e] X.env=(false,eval e X.env)::starEach [] X.env:=by rfl):SI X b G fr tg (.Call (.Name "range" p) [e] [] pos) (SH h):=by
 refine PI.imp (wY hg hm (aB he.bor aN DM) hs) ?_
 rintro σ H R ⟨Ow,env,ps,E,hf,k⟩
 obtain⟨p1,hp,FA⟩:=aA hf
 refine⟨Ow,env,p1,E,hp,λv H1 s r=>?_⟩
 have r1:AM b.C (Bs b Ow) H1 v p1:=r
 cases p1 <;> simp only at FA <;> first | cases FA | skip
 rename_i j
 split at FA
 ·rename_i hj
  cases FA
  have hw:IW b Ow fr H1 (PD 0 (j - 0).toNat) (cV 0 j):=GJ
  rw[Int.sub_zero] at hw
  exact⟨j,by rw[r1.int],(nM hj).1,(nM hj).2,k _ _ s hw⟩
 ·cases FA
theorem Rj {p pos:Pos}(hm:X.mg "range" = none)(he:SE X b G m1 e1 h1)(OV:SE X b G m2 e2 h2)(hg:Gl X "range" := by rfl)(hs:starEach [e1,e2] X.env=[(false,eval e1 X.env),(false,eval e2 X.env)]:=by rfl)(D6:starEach [e2] X.env=[(false,eval e2 X.env)]:=by rfl)
  (DM:starEach [e1,e2] X.env=(false,eval e1 X.env)::starEach [e2] X.env:=by rfl) (YT:starEach [e2] X.env=(false,eval e2 X.env)::starEach [] X.env:=by rfl):SI X b G fr tg (.Call (.Name "range" p) [e1,e2] [] pos) (YS h1 h2):=by
 refine PI.imp (FQ hg hm (aB he.bor (aB OV.bor aN YT) DM) hs D6) ?_
 rintro σ H R ⟨Ow,env,ps,E,hf,k⟩
 obtain⟨p1,hp,V7⟩:=aA hf
 clear hf
 obtain⟨p2,IH,FA⟩:=aA V7
 clear V7
 refine⟨Ow,env,p1,E,hp,λv H1 s r=>⟨Ow,env,p2,E.up s,IH,λv2 H2 s2 r2=>?_⟩⟩
 have r1:AM b.C (Bs b Ow) H1 v p1:=r
 have Uu:AM b.C (Bs b Ow) H2 v2 p2:=r2
 cases p1 <;> cases p2 <;> simp only at FA <;> first | cases FA | skip
 rename_i i j
 split at FA
 ·rename_i hj
  cases FA
  exact⟨i,j,by rw[r1.int,Uu.int],(by rw[dv] at hj;exact⟨(nM hj.1).1,(nM hj.1).2,(nM hj.2).1,(nM hj.2).2⟩),k _ _ (s.trans s2) GJ⟩
 ·cases FA
noncomputable def eV (n:Nat):List PV->List PV
 | []=>[]
 | x::xs=>.tup [.int (n:Nat),x]::eV (n+1) xs
theorem xq {p:PV}:∀{xs:List PV}{n i:Nat},(eV n xs)[i]?=some p->∃x,xs[i]?=some x/\p=.tup [.int ((n+i:Nat):Int),x]
 | [],n,i,e=>by simp[eV] at e
 | x::xs,n,0,e=>by
  simp[eV] at e
  exact⟨x,rfl,by rw[← e];rfl⟩
 | x::xs,n,i+1,e=>by
  simp only[eV,List.getElem?_cons_succ] at e
  obtain⟨y,h1,h2⟩:=xq e
  exact⟨y,by simpa using h1,by rw[h2,Nat.add_right_comm,p9]⟩
theorem qw:∀{xs:List PV}{n:Nat},(eV n xs).length=xs.length
 | [],_=>rfl
 | x::xs,n=>by simp[eV,qw (xs:=xs)]
end
noncomputable def gN (i:Nat)(p:PV)(env:Env):Option Env:=some (env.set i (some p))
@[simp] theorem Ub (i:Nat)(p:PV)(env:Env):gN i p env=(some (env.set i (some p))):=id rfl
@[simp] noncomputable def Ve:List Nat->List PV->Env->Option Env
 | [],[],env=>some env
 | i::is,p::ps,env=>Ve is ps (env.set i (some p))
 | _,_,_=>none
noncomputable def gT (is:qr)(p:PV)(env:Env):Option Env:=match p with
 | .tup xs=>Ve is xs env
 | _=>none
@[simp] theorem Uc (is:qr)(p:PV)(env:Env):gT is p env=(match p with
 | .tup xs=>Ve is xs env
 | _=>none):=id rfl
def tMG (b:BX)(G:qr)(g:PV->Env->Option Env):TG:=λv σ H Q=>∃Ow env p C2,ER b Ow G σ env H/\Rep b.C (Bs b Ow) H v p/\g p env=some C2/\∀ σ',ER b Ow G σ' C2 H->Q σ' H
def R_ (b:BX)(G:qr)(is:qr):OO:=λvs σ H Q=>∃Ow env ps C2,ER b Ow G σ env H/\AJ b.C (Bs b Ow) H vs ps/\Ve is ps env=some C2/\∀ σ',ER b Ow G σ' C2 H->Q σ' H
abbrev SG (X:Cx)(b:BX)(G:qr)(tg:Expr)(g:PV->Env->Option Env):Prop:=PG X tg (tMG b G g)
abbrev XD (X:Cx)(b:BX)(G:qr)(tgs:qB)(is:qr):Prop:=OP X tgs (R_ b G is)
theorem PG.imp {t u:TG}(h:PG X tg t)(i:∀v σ H Q,u v σ H Q->t v σ H Q):PG X tg u:=λAF s σ H v w Q I r q=>h AF s σ H v w Q I r (i v σ H Q q)
theorem OP.imp {tg:qB}{t u:OO}(h:OP X tg t)(i:∀v σ H Q,u v σ H Q->t v σ H Q):OP X tg u:=λAF s σ H v w Q I r q=>h AF s σ H v w Q I r (i v σ H Q q)
variable {f:Env->Option Out}
section
variable {X:Cx}{b:BX}{G G' L:qr}{ro:Bool}{pos:Pos}
theorem mq (i:Nat)(nd:X.N.Nodup)(hG:i∉G:=by decide)(hx:b.fx i=none:=by first | rfl | assumption)(hi:X.N[i]?=some x:=by rfl)(hl:Loc X.env.scope x:=by first | exact ff rfl | exact fz rfl)
  (hf:X.fn x=true\/X.env.scope.names.lookup x=some .local:=by first | exact .inl rfl | exact .inr rfl | assumption):SG X b G (.Name x pos) (gN i):=
 PG.imp (cP nd hi hl hf)<|by rintro v σ H Q ⟨Ow,env,p,C2,E,r,e,k⟩;cases e;exact k _ (E.set hG r hx)
theorem nO:XD X b G [] []:=OP.imp mQ<|by
 rintro vs σ H Q ⟨Ow,env,ps,C2,E,r,e,k⟩
 cases ps with
 | nil=>cases r;cases e;exact⟨rfl,k σ E⟩
 | cons p ps=>cases e
theorem dU (i:Nat){es:qB}{is:qr}{p1:Pos}(nd:X.N.Nodup)(h2:XD X b G es is)(hG:i∉G:=by decide)(hx:b.fx i=none:=by first | rfl | assumption)(hi:X.N[i]?=some x:=by rfl)(hl:Loc X.env.scope x:=by first | exact ff rfl | exact fz rfl)
  (hf:X.fn x=true\/X.env.scope.names.lookup x=some .local:=by first | exact .inl rfl | exact .inr rfl | assumption) (hs:(assignEach (.Name x p1::es) X.env).map (·.2)=assign (.Name x p1) X.env::(assignEach es X.env).map (·.2):=by rfl):XD X b G (.Name x p1::es) (i::is):=
 OP.imp (eO (cP nd hi hl hf) h2 hs)<|by
  rintro vs σ H Q ⟨Ow,env,ps,C2,E,r,e,k⟩
  cases ps with
  | nil=>cases e
  | cons p ps=>
   cases r with
   | cons r1 r2=>exact⟨_,_,rfl,Ow,env.set i (some p),ps,C2,E.set hG r1 hx,r2,e,k⟩
theorem vZ:∀{is:qr}{ps:List PV}{env C2:Env},Ve is ps env=some C2->ps.length=is.length
 | [],[],_,_,_=>rfl
 | i::is,p::ps,env,C2,e=>by simp[vZ (is:=is) (ps:=ps) e]
 | [],_::_,_,_,e=>by cases e
 | _::_,[],_,_,e=>by cases e
theorem zE {es:qB}{k:Nat}{is:qr}(h:XD X b G es is)(hc:X.calm=true:=by rfl)(hn:(assignEach es X.env).length=is.length:=by rfl)(D5:(assignEach es X.env).findIdx? (·.1)=none:=by rfl)(hK:X.K=b.C.K:=by rfl):SG X b G (.Tuple es k pos) (gT is):=
 PG.imp (pY hc h hn D5)<|by
  rintro v σ H Q ⟨Ow,env,p,C2,E,r,e,k⟩
  cases p <;> simp only[gT] at e <;> first | cases e | skip
  rename_i xs
  obtain⟨a,vs,rfl,ha,ra⟩:=AM.tup (.inl r)
  rw[hK]
  exact⟨a,vs,rfl,ha.sq,by rw[ra.length];exact vZ e,Ow,env,xs,C2,E,ra,e,k⟩
noncomputable def cW (g:PV->Env->Option Env)(ds:qr)(body:Env->Option Out):List PV->Env->Option Out
 | [],env=>some (.nx env)
 | x::xs,env=>(g x env).bind λe1=>(body e1).bind λo=>match o with
  | .nx e=>cW g ds body xs (EW ds e)
  | .ct e=>cW g ds body xs (EW ds e)
  | .bk e=>some (.nx (EW ds e))
  | .rt p=>some (.rt p)
noncomputable def gC (g:PV->Env->Option Env)(src:Env->Option (List PV))(ds:qr)(body:Env->Option Out)(env:Env):Option Out:=(src env).bind λxs=>cW g ds body xs (EW ds env)
@[simp] theorem Tc (g:PV->Env->Option Env)(src:Env->Option (List PV))(ds:qr)(body:Env->Option Out)(env:Env):gC g src ds body env=((src env).bind λxs=>cW g ds body xs (EW ds env)):=id rfl
theorem fP {it:Expr}{body:qA}{g:PV->Env->Option Env}{src:Env->Option (List PV)}(ds:qr)(hi:SI X b G true tg it src)(hg:SG X b G tg g)(hb:L7 X b G G G ro body f)(hp:PassesOwn (model X.prog X.w) X.A X.env X.xe)(hc:X.calm=true:=by rfl)
  (hs:∀x,foldedSetIterable it X.env x=pure x:=by intro _;rfl):SS X b G G L ro (.For tg it body [] pos) (gC g src ds f):=by
 refine PS.imp (mR hp hc hi hg hb hs) ?_
 rintro D σ H ⟨Ow,env,out,E,hf,k⟩
 obtain⟨ps,FA,hl⟩:=aA hf
 refine⟨Ow,env,ps,E,FA,λJ H1 s1 iw=>?_⟩
 refine⟨λi m σ2 H2=>m=ps.length - i/\i<=ps.length/\∃F7 DO,ER b F7 G σ2 DO H2/\Ex (Bs b Ow) H1 (Bs b F7) H2/\cW g ds f (ps.drop i) DO=some out,⟨ps.length,by simp,ce _,Ow,EW ds env,(E.up s1).EW,Ex.refl _ _,by simpa using hl⟩,?_⟩
 rintro i m σ2 H2 ⟨rfl,hi,F7,DO,E2,x2,l2⟩
 obtain⟨w1,w2⟩:=iw F7 H2 (λz=>by cases z) x2 λa=>E2.fresh
 have xk:Ex (Bs b Ow) H (Bs b F7) H2:=(Ex.of_same s1).trans x2
 by_cases BE:i < ps.length
 ·rw[bX BE] at l2
  obtain⟨e1,SR,l2⟩:=aA l2
  obtain⟨o,ho,l2⟩:=aA l2
  obtain⟨g1,g2⟩:=w1 i ps[i] (af BE)
  refine .inr ⟨g1,fun σ' H'=>i+1<=ps.length/\∃F7 DO,ER b F7 G σ' DO H'/\Ex (Bs b Ow) H1 (Bs b F7) H'/\cW g ds f (ps.drop (i+1)) DO=some out,fun σ' H' q=>⟨ps.length - (i+1),by omega,rfl,q⟩,λx H' y=>?_⟩
  obtain⟨s3,r3⟩:=g2 x H' y
  refine⟨F7,DO,_,e1,E2.up s3,r3,SR,fun σ3 E3=>⟨F7,e1,o,E3,ho,?_⟩⟩
  cases o with
  | nx e'=>exact λBA σ' LN E' x'=>⟨BE,BA,_,E'.EW,x2.trans ((Ex.of_same s3).trans x'),l2⟩
  | ct e'=>exact λBA σ' LN E' x'=>⟨BE,BA,_,E'.EW,x2.trans ((Ex.of_same s3).trans x'),l2⟩
  | bk e'=>cases l2;exact λBA σ' LN E' x'=>k BA σ' LN E'.EW (xk.trans ((Ex.of_same s3).trans x'))
  | rt p=>cases l2;exact k
 ·have e:i=ps.length:=by omega
  subst e
  rw[List.drop_length] at l2
  cases l2
  exact .inl ⟨w2,k F7 σ2 H2 E2 xk⟩
noncomputable def jY (c:Env->Option Bool)(ds:qr)(body:Env->Option Out):Nat->Env->Option Out
 | 0,_=>none
 | n+1,env=>(c env).bind λk=>if k=true then (body env).bind λo=>match o with
   | .nx e=>jY c ds body n (EW ds e)
   | .ct e=>jY c ds body n (EW ds e)
   | .bk e=>some (.nx (EW ds e))
   | .rt p=>some (.rt p)
  else some (.nx env)
noncomputable def zF (n:Nat)(c:Env->Option Bool)(ds:qr)(body:Env->Option Out)(env:Env):Option Out:=jY c ds body n (EW ds env)
@[simp] theorem RQ (n:Nat)(c:Env->Option Bool)(ds:qr)(body:Env->Option Out)(env:Env):zF n c ds body env=(jY c ds body n (EW ds env)):=id rfl
theorem Lx {c:Expr}{body:qA}{t:Env->Option Bool}(n:Nat)(ds:qr)(hc:ST X b G c t)(hb:L7 X b G G G ro body f)(hp:PassesOwn (model X.prog X.w) X.A X.env X.xe):SS X b G G L ro (.While c body [] pos) (zF n t ds f):=by
 refine PS.imp (yL hp hc hb) ?_
 rintro D σ H ⟨Ow,env,out,E,hf,k⟩
 refine⟨λm σ2 H2=>∃F7 DO,ER b F7 G σ2 DO H2/\Ex (Bs b Ow) H (Bs b F7) H2/\jY t ds f m DO=some out,⟨n,Ow,EW ds env,E.EW,Ex.refl _ _,hf⟩,?_⟩
 rintro m σ2 H2 ⟨F7,DO,E2,x2,l2⟩
 cases m with
 | zero=>cases l2
 | succ m=>
  obtain⟨kk,hk,l2⟩:=aA l2
  refine⟨F7,DO,kk,E2,hk,λH3 s3=>?_⟩
  cases kk with
  | false=>cases l2;exact lZ (k F7 σ2 H3 (E2.up s3) (x2.trans (.of_same s3)))
  | true=>
   refine jb ⟨fun σ' H'=>∃F7 DO,ER b F7 G σ' DO H'/\Ex (Bs b Ow) H (Bs b F7) H'/\jY t ds f m DO=some out,fun σ' H' q=>⟨m,g0 m,q⟩,?_⟩
   obtain⟨o,ho,l2⟩:=aA l2
   refine⟨F7,DO,o,E2.up s3,ho,?_⟩
   cases o with
   | nx e'=>exact λBA σ' LN E' x'=>⟨BA,_,E'.EW,x2.trans ((Ex.of_same s3).trans x'),l2⟩
   | ct e'=>exact λBA σ' LN E' x'=>⟨BA,_,E'.EW,x2.trans ((Ex.of_same s3).trans x'),l2⟩
   | bk e'=>cases l2;exact λBA σ' LN E' x'=>k BA σ' LN E'.EW (x2.trans ((Ex.of_same s3).trans x'))
   | rt p=>cases l2;exact k
end
noncomputable def je (AQ:List (Option Nat))(env:Env):Env:=AQ.map λo=>match o with | some i=>(env[i]?).getD none | none=>none
@[simp] theorem Td (AQ:List (Option Nat))(env:Env):je AQ env=(AQ.map λo=>match o with | some i=>(env[i]?).getD none | none=>none):=id rfl
noncomputable def kZ (AQ:List (Option Nat))(G:qr):List Nat:=(List.range AQ.length).filter λj=>match AQ[j]? with | some (some i)=>decide (i∈G) | _=>false
def BX.in (b:BX):BX:={ b with fx:=λ_=>none }
noncomputable def dg (env:Env)(g:PV->Env->Option Env)(t:Env->Option Bool)(f:rg):List PV->Option (List PV)
 | []=>some []
 | x::xs=>(g x env).bind λe=>(t e).bind λk=>if k=true then (f e).bind λy=>(dg env g t f xs).bind λys=>some (y::ys) else dg env g t f xs
noncomputable def lO (AQ:List (Option Nat))(src:Env->Option (List PV))(g:PV->Env->Option Env)(t:Env->Option Bool)(f:rg)(env:Env):Option PV:=(src env).bind λxs=>if xs.length<=1000000 then (dg (je AQ env) g t f xs).bind λys=>some (.lst ys) else none
@[simp] theorem Sg (AQ:List (Option Nat))(src:Env->Option (List PV))(g:PV->Env->Option Env)(t:Env->Option Bool)(f:rg)(env:Env):lO AQ src g t f env=((src env).bind λxs=>if xs.length<=1000000 then (dg (je AQ env) g t f xs).bind λys=>some (.lst ys) else none):=id rfl
noncomputable def jx (env:Env):Option Bool:=some true
@[simp] theorem Sh (env:Env):jx env=(some true):=id rfl
theorem DC {AQ:List (Option Nat)}{G:qr}{j:Nat}:j∈kZ AQ G↔∃i,AQ[j]?=some (some i)/\i∈G:=by
 unfold kZ
 rw[pf,bP]
 constructor
 ·rintro ⟨h1,h2⟩
  split at h2
  ·rename_i i e;exact⟨i,e,by simpa using h2⟩
  ·cases h2
 ·rintro ⟨i,e,h⟩
  refine⟨(ai.mp e).1,?_⟩
  rw[e];simpa using h
theorem oU {AQ:List (Option Nat)}{env:Env}{j:Nat}{p:PV}(h:(je AQ env)[j]?=some (some p)):∃i,AQ[j]?=some (some i)/\env[i]?=some (some p):=by
 unfold je at h
 rw[cp] at h
 cases q:AQ[j]? with
 | none=>rw[q] at h;cases h
 | some o=>
  rw[q] at h
  cases o with
  | none=>cases h
  | some i=>
   refine⟨i,rfl,?_⟩
   have h':(env[i]?).getD none=some p:=by simpa using h
   cases q2:env[i]? with
   | none=>rw[q2] at h';cases h'
   | some o=>rw[q2] at h';simp at h';rw[h']
theorem lQ {AQ:List (Option Nat)}{j i:Nat}(h:AQ[j]?=some (some i))(e:σ[i]?=some (some v)):(cI AQ σ)[j]?=some (some v):=by
 unfold cI
 rw[cp,h]
 simp[zj,e]
noncomputable def uM (AQ:List (Option Nat)):Bool:=(List.range AQ.length).all λj=>(List.range AQ.length).all λk=>match AQ[j]?,AQ[k]? with
 | some (some i),some (some i')=>decide (i=i'->j=k)
 | _,_=>true
theorem GK {AQ:List (Option Nat)}(h:uM AQ=true){j k i:Nat}(h1:AQ[j]?=some (some i))(h2:AQ[k]?=some (some i)):j=k:=by
 have a:=hJ.mp h j (bP.mpr (ai.mp h1).1)
 have c:=hJ.mp a k (bP.mpr (ai.mp h2).1)
 rw[h1,h2] at c
 simpa using c
theorem ER.AQ {b:BX}{Ow:Addr->Prop}{G:qr}{σ:St}{env:Env}{H:Hp}{AQ:List (Option Nat)}(E:ER b Ow G σ env H)(hc:uM AQ=true):ER b.in Ow (kZ AQ G) (cI AQ σ) (je AQ env) H:=by
 refine⟨by unfold cI je;rw[aI,aI],E.same,E.live,E.new,λj p e n=>?_,λj p e n=>?_,λj k a p q e1 n1 s1 e2 n2 s2=>?_,λk v z=>by cases z⟩
 ·obtain⟨i,h1,h2⟩:=oU e
  obtain⟨v,h3,h4⟩:=E.val i p h2 λz=>n (DC.mpr ⟨i,h1,z⟩)
  exact⟨v,lQ h1 h3,h4⟩
 ·obtain⟨i,h1,h2⟩:=oU e
  obtain⟨i',Uv,hG⟩:=DC.mp n
  rw[h1] at Uv;cases Uv
  obtain⟨a,h3,h4,h5⟩:=E.own i p h2 hG
  exact⟨a,lQ h1 h3,h4,h5⟩
 ·obtain⟨i,h1,h2⟩:=oU e1
  obtain⟨i',Uv,hG⟩:=DC.mp n1
  rw[h1] at Uv;cases Uv
  obtain⟨k',h3,h4⟩:=oU e2
  obtain⟨k'',XE,hG2⟩:=DC.mp n2
  rw[h3] at XE;cases XE
  obtain⟨c,g1,_,_⟩:=E.own i p h2 hG
  obtain⟨c2,g2,_,_⟩:=E.own k' q h4 hG2
  have t1:=lQ (AQ:=AQ) h1 g1
  have t2:=lQ (AQ:=AQ) h3 g2
  rw[s1] at t1;cases t1
  rw[s2] at t2;cases t2
  have:=E.sep i k' _ p q h2 hG g1 h4 hG2 g2
  subst this
  exact GK hc h1 h3
theorem ER.more {b:BX}{G:qr}{env:Env}{D:Addr}(E:ER b Ow G σ env H)(hD:H D=none)(s:AK H H')(hl:∃o,H' D=some o):ER b (λc=>Ow c\/c=D) G σ env H'/\Ex (Bs b Ow) H (Bs b λc=>Ow c\/c=D) H':=by
 have hx:Ex (Bs b Ow) H (Bs b λc=>Ow c\/c=D) H':=λc o h=>⟨λq=>⟨s _ _ h,λz=>z.elim q.1 (aq h hD),q.2⟩,λ_=>s _ _ h⟩
 exact⟨⟨E.len,E.same.trans s,λc w=>w.elim (λz=>let ⟨o,h⟩:=E.live c z;⟨o,s _ _ h⟩) λz=>by subst z;exact hl,λc w=>w.elim (E.new c) λz=>by subst z;exact E.same.free hD,λi p e n=>let ⟨v,h1,h2⟩:=E.val i p e n;⟨v,h1,h2.ex hx⟩,
  λi p e n=>let ⟨a,h1,h2,h3⟩:=E.own i p e n;⟨a,h1,.inl h2,h3.ex hx λo z=>s _ _ z⟩,E.sep,E.fix⟩,hx⟩
structure Qb (K:W.Frag)(AQ:List (Option Nat))(g:TG)(gm:PV->Env->Option Env):Prop where
 go:∀(b:BX) (Ow:Addr->Prop) (G:qr) (σ:St) (env e:Env) (H:Hp) (v:V) (p:PV) (Q:St->Hp->Prop),b.C.K=K->(∀i,b.fx i=none)->ER b Ow (kZ AQ G) (cI AQ σ) (je AQ env) H->Rep b.C (Bs b Ow) H v p->gm p (je AQ env)=some e->
  (∀ σ',Kp (cI AQ σ) σ'->ER b Ow (kZ AQ G) σ' e H->Q σ' H)->g v (cI AQ σ) H Q
theorem GP {σ':St}{i:Nat}(h:Kp σ σ')(hn:∀w,σ[i]?≠some (some w)):Kp σ (σ'.set i (some v)):=by
 refine⟨by rw[fb];exact h.1,λj w e=>?_⟩
 by_cases hj:i=j
 ·subst hj;exact absurd e (hn w)
 ·rw[bp hj];exact h.2 j w e
theorem Cu (σ:St):Kp σ σ:=⟨rfl,λ_ _ e=>e⟩
theorem uN {AQ:List (Option Nat)}{i:Nat}(h:AQ[i]?=some none)(w:V):(cI AQ σ)[i]?≠some (some w):=by
 unfold cI
 rw[cp,h]
 intro z;cases z
theorem xr {AQ:List (Option Nat)}{G:qr}{i:Nat}(h:AQ[i]?=some none):i∉kZ AQ G:=λz=>by
 obtain⟨k,e,_⟩:=DC.mp z
 rw[h] at e;cases e
theorem Ed {AQ:List (Option Nat)}(i:Nat)(h:AQ[i]?=some none:=by rfl):Qb K AQ (aX i) (gN i):=
 ⟨λb Ow G σ env e H v p Q hK hx E r he k=>by
  cases he
  exact k _ (GP (Cu _) (uN h)) (E.set (xr h) r (hx _))⟩
def zG:List Nat->OO
 | []=>vJ
 | i::is=>ju (aX i) (zG is)
theorem Sq {AQ:List (Option Nat)}(is:qr)(h:(is.all λi=>decide (AQ[i]?=some none))=true:=by rfl):Qb K AQ (vK K is.length (zG is)) (gT is):=
 ⟨λb Ow G σ env e H v p Q hK hx E r he k=>by
  subst hK
  cases p <;> simp only[gT] at he <;> first | cases he | skip
  rename_i xs
  obtain⟨a,vs,rfl,ha,ra⟩:=AM.tup (.inl r)
  refine⟨a,vs,rfl,ha.sq,by rw[ra.length];exact vZ he,?_⟩
  have gen:∀(is:qr) (vs:List V) (xs:List PV) (σ1:St) (Qr:Env),(is.all λi=>decide (AQ[i]?=some none))=true->Kp (cI AQ σ) σ1->ER b Ow (kZ AQ G) σ1 Qr H->AJ b.C (Bs b Ow) H vs xs->Ve is xs Qr=some e->zG is vs σ1 H Q:=by
   intro is
   induction is with
   | nil=>
    intro vs xs σ1 Qr _ kp E1 r1 e1
    cases xs with
    | nil=>cases r1;cases e1;exact⟨rfl,k σ1 kp E1⟩
    | cons x xs=>cases e1
   | cons i is ih=>
    intro vs xs σ1 Qr MU kp E1 r1 e1
    cases xs with
    | nil=>cases e1
    | cons x xs=>
     cases r1 with
     | cons r2 r3=>
      rw[kl,dv] at MU
      have hi:AQ[i]?=some none:=by simpa using MU.1
      exact⟨_,_,rfl,ih _ xs _ _ MU.2 (GP kp (uN hi)) (E1.set (xr hi) r2 (hx _)) r3 e1⟩
  exact gen is vs xs _ _ h (Cu _) E ra he⟩
section
variable {X:Cx}{b:BX}{G L:qr}{ro:Bool}{pos:Pos}{tg iter elt:Expr}{ifs:qB}{scope C1:Scope}{ON N:qE}{AQ:List (Option Nat)}{src:Env->Option (List PV)}{g:TG}{gm:PV->Env->Option Env}{t:Env->Option Bool}{f:rg}
theorem Rk {Q:VK}(YU:Qb b.C.K AQ g gm)(hc:uM AQ=true)(h:tM b G .own (lO AQ src gm t f) σ H Q):
  gK (tMI b G false src) AQ g (V4 b.in (kZ AQ G) t) (tM b.in (kZ AQ G) .val f) σ H Q:=by
 obtain⟨Ow,env,p,E,hf,k⟩:=h
 obtain⟨xs,YV,hf⟩:=aA hf
 split at hf
 ·rename_i hlen
  obtain⟨ys,hys,hf⟩:=aA hf
  cases hf
  refine⟨Ow,env,xs,E,YV,λJ H1 s1 iw D hD=>?_⟩
  have E1:=E.up s1
  have nD:H D=none:=s1.free hD
  refine⟨λi m vs H2=>m=xs.length - i/\i<=xs.length/\AK H1 H2/\H2 D=some (.lst vs)/\vs.length<=i/\∃done rest,AJ b.C (Bs b λc=>Ow c\/c=D) H2 vs done/\dg (je AQ env) gm t f (xs.drop i)=some rest/\done++rest=ys,
   ⟨xs.length,by simp,ce _,aL hD _,az,aw _,[],ys,.nil,by simpa using hys,rfl⟩,?_⟩
  rintro i m vs H2 ⟨rfl,hi,s2,d2,hv,done,rest,rd,cl,Lo⟩
  refine⟨d2,?_⟩
  obtain⟨E2,x2⟩:=E1.more hD s2 ⟨_,d2⟩
  obtain⟨w1,w2⟩:=iw _ H2 (λ_=>s2) x2 λa=>E2.fresh
  by_cases BE:i < xs.length
  ·rw[bX BE] at cl
   obtain⟨e1,SR,cl⟩:=aA cl
   obtain⟨kk,hk,cl⟩:=aA cl
   obtain⟨g1,g2⟩:=w1 i xs[i] (af BE)
   refine .inr ⟨g1,λIJ H'=>i+1<=xs.length/\AK H1 H'/\H' D=some (.lst IJ)/\IJ.length<=i+1/\∃done rest,AJ b.C (Bs b λc=>Ow c\/c=D) H' IJ done/\dg (je AQ env) gm t f (xs.drop (i+1))=some rest/\done++rest=ys,λIJ H' q=>⟨xs.length - (i+1),by omega,rfl,q⟩,λx H' y=>?_⟩
   obtain⟨s3,r3⟩:=g2 x H' y
   have E3:=(E2.up s3).AQ hc
   refine YU.go b.in _ G σ env e1 H' x _ _ rfl (λ_=>rfl) E3 r3 SR fun σ3 kp E4=>⟨kp,_,e1,kk,E4,hk,λH4 s4=>?_⟩
   have d4:H4 D=some (.lst vs):=s4 _ _ (s3 _ _ d2)
   have XF:AK H2 H4:=s3.trans s4
   cases kk with
   | false=>
    refine lZ ⟨BE,s2.trans XF,d4,jS hv,done,rest,rd.ex (.of_same XF),?_,Lo⟩
    simpa using cl
   | true=>
    simp only[f8] at cl
    obtain⟨y1,hy1,cl⟩:=aA cl
    obtain⟨ys1,YW,cl⟩:=aA cl
    cases cl
    refine jb ⟨_,e1,y1,E4.up s4,hy1,λv5 H5 s5 r5=>⟨s5 _ _ d4,bZ (by omega),BE,?_,az,by rw[bo];show vs.length+1<=i+1;omega,done++[y1],ys1,?_,YW,by rw[d6];exact Lo⟩⟩
    ·exact λc o h=>by rw[ao (aq h hD)];exact s5 _ _ (XF _ _ (s2 _ _ h))
    ·have YX:Rep b.C (Bs b λc=>Ow c\/c=D) H5 v5 y1:=r5
     refine((rd.ex (.of_same (XF.trans s5))).append (.cons YX .nil)).ex ?_
     exact oO (b:=b) (Ow:=λc=>Ow c\/c=D) (.inr rfl) (s5 _ _ d4) rfl
  ·have e:i=xs.length:=by omega
   subst e
   rw[List.drop_length] at cl
   cases cl
   rw[bE] at Lo
   subst Lo
   refine .inl ⟨w2,k _ H2 (s1.trans s2) ⟨D,rfl,nD,vs,d2,rd.ex (aV λc o _ q=>⟨⟨λz=>q.1 (.inl z),q.2⟩,λz=>q.1 (.inr z)⟩)⟩⟩
 ·cases hf
theorem oV {X:Cx}:sV X [] (V4 b G jx):=by rintro AF s σ H Q I ⟨Ow,env,k,E,hf,kk⟩;cases hf;exact kO AF s σ H Q I (kk H (AK.refl _))
theorem nP (S:VW C1 scope ON N AQ)(YU:Qb b.C.K AQ g gm)(hi:SI X b G false tg iter src)(hg:∀C s H fp,PG (X.comp N scope C s H fp) tg g)(ht:∀C s H fp,sV (X.comp N scope C s H fp) ifs (V4 b.in (kZ AQ G) t))(he:∀C s H fp,SE (X.comp N scope C s H fp) b.in (kZ AQ G) .val elt f)
  (Uw:uM AQ=true:=by rfl) (hc:X.calm=true:=by rfl) (HZ:X.env.scope=C1:=by rfl) (hN:X.N=ON:=by rfl) (hs:∀x,foldedSetIterable iter X.env x=pure x:=by intro _;rfl):SE X b G .own (.ListComp elt [⟨tg,iter,ifs,0⟩] scope pos) (lO AQ src gm t f):=
 PE.imp (q8 S hi hg ht he hc HZ hN hs) fun σ H Q h=>Rk YU Uw h
end
noncomputable def cC (n k:Nat)(ro:Bool)(f:Env->Option Out)(ps:List PV):Option PV:=if ps.length=k then (f (ps.map some++List.replicate (n - k) none)).bind λo=>match o with
 | .nx _=>if ro=true then none else some .AO
 | .rt p=>some p
 | _=>none
 else none
@[simp] theorem Te (n k:Nat)(ro:Bool)(f:Env->Option Out)(ps:List PV):cC n k ro f ps=(if ps.length=k then (f (ps.map some++List.replicate (n - k) none)).bind λo=>match o with
 | .nx _=>if ro=true then none else some .AO
 | .rt p=>some p
 | _=>none
 else none):=id rfl
theorem Iw {N:qE}{G:qr}(r:AJ C A H vs ps)(hG:∀i,i∈G->ps.length<=i)(hn:ps.length<=N.length):ER ⟨C,A,H,λ_=>none⟩ (λ_=>False) G (L2.start N vs) (ps.map some++List.replicate (N.length - ps.length) none) H:=by
 have hl:=r.length
 have old:∀i p,(ps.map some++List.replicate (N.length - ps.length) none)[i]?=some (some p)->ps[i]?=some p:=λi p e=>by
  by_cases hi:i < ps.length
  ·rw[d0 (by rw[aI];exact hi),cp] at e
   cases q:ps[i]? with
   | none=>rw[q] at e;cases e
   | some p'=>rw[q] at e;cases e;rfl
  ·rw[hZ (by rw[aI];omega),oj] at e
   split at e <;> cases e
 refine⟨?_,AK.refl _,λa w=>w.elim,λa w=>w.elim,λi p e n=>?_,λi p e n=>?_,λi j a p q e1 n1 s1 e2 n2 s2=>?_,λk v z=>by cases z⟩
 ·unfold L2.start
  simp only[bo,aI,pp]
  omega
 ·obtain⟨v,hv,rv⟩:=r.get (old i p e)
  refine⟨v,?_,rv.ex (aV λa o _ q=>⟨λz=>z,.inl q⟩)⟩
  unfold L2.start
  have hi:i < vs.length:=(ai.mp hv).1
  rw[d0 (by rw[aI];exact hi),cp,hv]
  rfl
 ·have h1:=(ai.mp (old i p e)).1
  have h2:=hG i n
  omega
 ·have h1:=(ai.mp (old i p e1)).1
  have h2:=hG i n1
  omega
theorem Ly {N:qE}{n k:Nat}{G G' L:qr}{body:qA}(hN:N.length=n)(hk:k<=n)(hG:(G.all λi=>decide (k<=i))=true)(hb:∀A H,L7 X ⟨C,A,H,λ_=>none⟩ G G' L ro body f)
  {vs:List V}{H:Hp}{Q:VK}{E:XK}(h:DZ C (cC n k ro f) ro vs H Q E):∃t,F0 X body t/\t { nx:=λ_ H'=>Q .AO H',rt:=Q } (L2.start N vs) H:=by
 obtain⟨A,ps,p,r,hm,kk⟩:=h
 refine⟨_,hb A H,?_⟩
 unfold cC at hm
 split at hm
 ·rename_i hl
  obtain⟨o,ho,hm⟩:=aA hm
  refine⟨_,_,o,Iw (N:=N) (G:=G) r (λi hi=>by rw[hl];simpa using hJ.mp hG i hi) (by omega),by rw[hN,hl];exact ho,?_⟩
  cases o with
  | nx e=>
   cases ro with
   | true=>cases hm
   | false=>cases hm;exact λBA σ' H' E' _=>kk .AO H' E'.same .AO
  | rt q=>cases hm;exact λv H' s rr=>kk v H' s rr
  | bk e=>cases hm
  | ct e=>cases hm
 ·cases hm
theorem Lz {n k:Nat}{ro':Bool}{Q:VK}{E:XK}(h:DZ C (cC n k ro' f) ro vs H Q E):vs.length=k:=by
 obtain⟨A,ps,p,r,hm,kk⟩:=h
 unfold cC at hm
 split at hm
 ·rename_i hl;rw[r.length];exact hl
 ·cases hm
structure Ux (P:Program)(w:World)(K:W.Frag)(mg:Str->Option Value)(base:Heap)(C:Addr)(k:Nat)(x:Str)(ps:qE)(sp:Sp):Prop where
 ex:∃f fd,BF P w K mg base Fu k f fd ps sp/\Binds K fd ps []/\Mk K C f/\mg x=some (.ref C)
section
variable {X:Cx}{b:BX}{G:qr}{pos p:Pos}{e:Expr}{es:qB}{g:Env->Option (List PV)}
@[simp] noncomputable def XG:PV->Option String
 | .AO=>some "NoneType"
 | .bl _=>some "bool"
 | .int _=>some "int"
 | .str _=>some "str"
 | .lst _=>some "list"
 | .tup _=>some "tuple"
 | .dK _=>some "dict"
 | .dT _=>some "dict"
 | _=>none
noncomputable def tD (tb:List (String×Bool))(p:PV):Option PV:=(XG p).bind λt=>(tb.lookup t).bind λk=>some (.bl k)
@[simp] theorem Tf (tb:List (String×Bool))(p:PV):tD tb p=((XG p).bind λt=>(tb.lookup t).bind λk=>some (.bl k)):=id rfl
theorem AM.ty {p:PV}{t:String}(r:AM C A H v p)(h:XG p=some t):DU C.K H v (.type t):=by
 cases p <;> simp only[XG] at h <;> cases h
 ·rw[r.AO];exact .AO
 ·rw[r.bl];exact .bl _
 ·rw[r.int];exact .int _
 ·rw[r.str];exact .str _
 ·obtain⟨a,vs,rfl,ha,_⟩:=r.lst;exact .lst ha
 ·obtain⟨a,vs,rfl,ha,_⟩:=r.tup;exact ha.elim (λq=>.tup q) λq=>.CS q
 ·obtain⟨a,vs,rfl,ha,_⟩:=r.dK;exact .dK ha
 ·obtain⟨a,vs,rfl,ha,_⟩:=r.dT;exact .dT ha
theorem zH {α β:Type}[BEq α][LawfulBEq α]{x:α}{y:β}:∀{l:List (α×β)},l.lookup x=some y->(x,y)∈l
 | [],h=>by cases h
 | (a,c)::r,h=>by
  rw[cw] at h
  cases q:x == a with
  | true=>rw[q] at h;cases h;have:=eq_of_beq q;subst this;exact ar
  | false=>rw[q] at h;exact al _ (zH h)
theorem zJ {m:Md}{f:rg}{n:Str}{n':String}{p1:Pos}(tb:List (String×Bool))(hk:∀t k,(t,k)∈tb->W.kitOne X.K (.type t) (.type n')=some k)(hm:X.mg "isinstance" = none)(hmn:X.mg n=none)(hbn:bootBuiltins n=some (.type n'))(h:SE X b G m e f)(hK:X.K=b.C.K:=by rfl)(hg:Gl X "isinstance" := by rfl)(hgn:Gl X n:=by rfl)
  (YY:bootBuiltins "isinstance" = some (.builtin "isinstance"):=by decide +kernel) (hn1:n ≠ "__name__" := by decide) (hd:(n == ("__debug__" : Str))=false:=by decide)
  (he:starEach [e,.Name n p1] X.env=(false,eval e X.env)::starEach [.Name n p1] X.env:=by rfl) (OV:starEach [.Name n p1] X.env=(false,eval (.Name n p1) X.env)::starEach [] X.env:=by rfl) (BO:(backTo pos (starEach [.Name n p1] X.env)).any (·.1)=false:=by rfl):
  SE X b G .val (.Call (.Name "isinstance" p) [e,.Name n p1] [] pos) (b1 (tD tb) f):=by
 refine PE.imp (dw Bw hg hm YY (aB h.bor (aB (KQ (v:=.ty n') hgn hmn hbn rfl hn1 hd) aN OV) he) (by decide) (by decide) he BO) ?_
 rintro σ H Q ⟨Ow,env,q,E,hf,kk⟩
 obtain⟨p1,OW,hf⟩:=aA hf
 obtain⟨t,ht,hf⟩:=aA hf
 obtain⟨k,GH,hf⟩:=aA hf
 cases hf
 refine⟨Ow,env,p1,E,OW,λv H1 s r=>?_⟩
 have r1:AM b.C (Bs b Ow) H1 v p1:=r
 exact⟨v,n',.type t,k,rfl,by rw[hK];exact r1.ty ht,hk t k (zH GH),kk _ H1 s (.bl k)⟩
end
end Lake.MR
namespace Lake.L2
open PySem PySem.Spec PyProof.Rows
section
variable {X:Cx}{AF:qq}{σ:St}{H H':Hp}{s:Shared}{h':Heap}
theorem Inv.QA {t':Nat}{ch:qV}(I:Inv X AF σ H s)(k:∀b u,b∉ch->s.heap.get? b=some u->h'.get? b=some u)(hf:∀b∈ch,iW X AF H b):Inv X AF σ H { s with heap:=h',toks:=t' }:=by
 have Mn:∀b u,H b=some u->b∉ch:=λb u e hb=>by
  rw[(hf b hb).1] at e;cases e
 refine I.step (g':=s.gens) (d':=s.drawn) (ch:=ch) (λb hb=>let ⟨_,f1,_,f4,f5,f6⟩:=hf b hb;⟨f4,f1,f5,f6⟩) (λb o _ _ hc e _=>k b o hc e) (λb o _ _ hc e _=>⟨o.slots,k b o hc e⟩)
  (λ_ _ _ _ n=>n) (λb o hc e=>⟨o,k b o hc e⟩) (λ_ _ e=>e) (λ_ _ _ e=>e) (λb ps e=>⟨#[],by rw[e];simp⟩) (λm hm=>?_) (λb u e=>?_) I.bare
 ·obtain⟨oL,es,ep,ho,r⟩:=hm
  have nL:X.env.locals∉ch:=λhb=>(hf _ hb).2.1 rfl
  exact⟨oL,es,ep,k _ oL nL ho,r⟩
 ·refine(I.AW b u e).IB (λc v hc q=>k c v ?_ q) (λ_ q=>q) λ_ _ q=>q
  rcases hc with z | z
  ·rw[z];exact Mn b u e
  ·exact Mn c _ z
end
end Lake.L2
namespace Lake.MR
open PySem L2
section
variable {X:Cx}{b:BX}{G G' L:qr}{ro:Bool}{pos p:Pos}{m m1 m2:Md}{e e1 e2:Expr}{f f1 f2:rg}
@[simp] noncomputable def Iz:PV->PV->Option PV
 | .int i,.int j=>some (.int (if j < i then j else i))
 | _,_=>none
theorem Pu (hm:X.mg "min" = none)(h1:SE X b G m1 e1 f1)(h2:SE X b G m2 e2 f2)(hc:X.calm=true:=by rfl)(hg:Gl X "min" := by rfl)(YY:bootBuiltins "min" = some (.builtin "min"):=by decide +kernel)
  (he:starEach [e1,e2] X.env=(false,eval e1 X.env)::starEach [e2] X.env:=by rfl) (OV:starEach [e2] X.env=(false,eval e2 X.env)::starEach [] X.env:=by rfl) (BO:(backTo pos (starEach [e2] X.env)).any (·.1)=false:=by rfl):
  SE X b G .val (.Call (.Name "min" p) [e1,e2] [] pos) (b2 Iz f1 f2):=by
 refine PE.imp (dw (F_ hc) hg hm YY (aB h1.bor (aB h2.bor aN OV) he) (by decide) (by decide) he BO) ?_
 rintro σ H Q ⟨Ow,env,q,E,hf,kk⟩
 obtain⟨p1,OW,hf⟩:=aA hf
 obtain⟨p2,IH,hf⟩:=aA hf
 refine⟨Ow,env,p1,E,OW,λv H1 s r=>⟨Ow,env,p2,E.up s,IH,λv2 H2 s2 r2=>?_⟩⟩
 have r1:AM b.C (Bs b Ow) H1 v p1:=r
 have Uu:AM b.C (Bs b Ow) H2 v2 p2:=r2
 cases p1 <;> cases p2 <;> simp only[Iz] at hf <;> cases hf
 exact⟨_,_,by rw[r1.int,Uu.int],kk _ H2 (s.trans s2) (.int _)⟩
end
section
variable {X:Cx}{b:BX}{G G' L:qr}{ro:Bool}{pos p:Pos}{m m1 m2:Md}{e e1 e2:Expr}{f f1 f2 h:rg}
@[simp] noncomputable def Ef:PV->PV->Option PV
 | .lst xs,.lst ys=>if xs.length+ys.length<=1000000 then some (.lst (xs++ys)) else none
 | _,_=>none
theorem GQ {x y z:PV}(e:Ef x y=some z):∃xs ys,x=.lst xs/\y=.lst ys/\xs.length+ys.length<=1000000/\z=.lst (xs++ys):=by
 unfold Ef at e
 split at e
 ·split at e
  ·cases e;exact⟨_,_,rfl,rfl,‹_›,rfl⟩
  ·cases e
 ·cases e
theorem Rm (i:Nat){x:Str}{p1 apos AS:Pos}(he:SE X b G .val e h)(hi:i∈G:=by decide)(hN:X.N[i]?=some x:=by rfl)(hv:Mc X.env.scope x:=by first | exact ff rfl | exact fz (ff rfl) | exact fz (fz rfl))(hd:(x == ("__debug__" : Str))=false:=by decide)
  (EI:(x == ("__classdict__" : Str))=false:=by decide) (B6:attributeBase (.Name x p1) "extend" X.env (eval (.Name x p1) X.env)=eval (.Name x p1) X.env:=by rfl)
  (Fh:((backTo AS (starEach [e] X.env)).all (λx=>!x.1)&&(backToKw AS (keywordEach [] X.env)).all (λx=>x.1.isSome)
   && decide ([e].length+([]:List Keyword).length+(if ([]:List Keyword).isEmpty then 0 else 1) < 30))=true:=by rfl)
  (B7:(apos.endLine == AS.line)=true:=by rfl) (hs:starEach [e] X.env=(false,eval e X.env)::starEach [] X.env:=by rfl):
  SS X b G G L ro (.Expr (.Call (.Attribute (.Name x p1) "extend" apos) [e] [] AS) pos) (jX Ef i h):=
 PS.imp (qU (yg iS PySem.F.slot_list_extend PySem.F.type_list_extend Gn (ie hN hv hd EI) (aB he aN hs) B6 Fh B7 hs rfl))<|by
  rintro D σ H ⟨Ow,env,o,E,hf,k⟩
  obtain⟨px,SD,z1⟩:=aA hf
  clear hf
  obtain⟨p,hp,z2⟩:=aA z1
  clear z1
  obtain⟨y,hy,z3⟩:=aA z2
  clear z2
  cases z3
  obtain⟨xs,ys,rfl,rfl,hl,rfl⟩:=GQ hy
  obtain⟨a,ea,w,t⟩:=E.own i _ (fG SD) hi
  obtain⟨vs,ha,ra⟩:=id t
  refine⟨_,ea,.inl ⟨rfl,_,Bz.of ha⟩,Ow,env,_,E,hp,λv H' s r=>?_⟩
  cases r with
  | @lst c us _ q1 q2 q3=>
   refine⟨a,c,vs,us,rfl,rfl,s _ _ ha,q1,gb (by rw[ra.length,q3.length];exact hl),?_⟩
   have SF:AJ b.C (Bs b Ow) (upd H' a (.lst (vs++us))) (vs++us) (xs++ys):=by
    refine(ra.ex (.of_same s)).append q3 |>.ex λc o h=>⟨λq=>⟨by rw[ao (λz:c=a=>q.1 (z▸w))];exact h,q⟩,λm=>?_⟩
    have hc:c≠a:=λz=>by subst z;rw[s _ _ ha] at h;cases h;cases m
    rw[ao hc];exact h
   obtain⟨E',x⟩:=(E.up s).write hi ea (fG SD) w (t.ex (.of_same s) λo z=>s _ _ z) (o':=.lst (vs++us)) (p':=.lst (xs++ys)) ⟨_,az,SF⟩
   exact k Ow σ _ E' ((Ex.of_same s).trans x)
@[simp] noncomputable def qx:PV->Option PV
 | .lst xs=>some (.tup xs)
 | .frz xs=>some (.tup xs)
 | .tup xs=>some (.tup xs)
 | _=>none
theorem tE (hm:X.mg "tuple" = none)(h:SE X b G m1 e f)(hK:X.K=b.C.K:=by rfl)(hg:Gl X "tuple" := by rfl)(he:starEach [e] X.env=(false,eval e X.env)::starEach [] X.env:=by rfl):SE X b G .val (.Call (.Name "tuple" p) [e] [] pos) (b1 qx f):=by
 refine Cr pN (λOw H v1 p1 p Q hn r1 e k=>?_) hm iX h hg (by decide) (by decide) he
 rw[hK]
 cases p1 <;> simp only[qx] at e <;> cases e
 case lst xs=>obtain⟨a,vs,rfl,ha,ra⟩:=r1.lst;exact⟨a,vs,rfl,.inl ⟨Bz.of ha,λl hl=>k _ _ (aL hl _) (m6 hl ra)⟩⟩
 case frz xs=>obtain⟨a,vs,rfl,ha,ra⟩:=r1.frz;exact⟨a,vs,rfl,.inl ⟨ha,λl hl=>k _ _ (aL hl _) (m6 hl ra)⟩⟩
 case tup xs=>obtain⟨a,vs,rfl,ha,ra⟩:=r1.tup;exact⟨a,vs,rfl,.inr ⟨ha.sq,k _ _ (AK.refl _) (ha.rep ra)⟩⟩
@[simp] noncomputable def yp:PV->Option PV
 | .int j=>if 0<=j/\j<=1000000 then some (.lst (cV 0 j)) else none
 | _=>none
@[simp] noncomputable def yq:PV->Option PV
 | .lst xs=>some (.lst xs.reverse)
 | _=>none
noncomputable def Eg (g:PV->Env->Option Env)(f:rg)(env:Env):Option Out:=(f env).bind λp=>(g p env).bind λe=>some (.nx e)
@[simp] theorem Tg (g:PV->Env->Option Env)(f:rg)(env:Env):Eg g f env=((f env).bind λp=>(g p env).bind λe=>some (.nx e)):=id rfl
theorem Rn {tg:Expr}{g:PV->Env->Option Env}(he:SE X b G .val e h)(hg:SG X b G tg g)(hs:swapsWithSole [tg] e pos.line X.env=pure false:=by rfl)(hw:swappedStores [tg] e X.env=pure none:=by rfl)
  (h1:(assignEach [tg] X.env).map (·.2)=[assign tg X.env]:=by rfl):SS X b G G L ro (.Assign [tg] e pos) (Eg g h):=
 PS.imp (FJ he hg hs hw h1)<|by
  rintro D σ H ⟨Ow,env,o,E,hf,k⟩
  obtain⟨p,hp,z1⟩:=aA hf
  clear hf
  obtain⟨C2,he',z2⟩:=aA z1
  clear z1
  cases z2
  exact⟨Ow,env,p,E,hp,λv H' s r=>⟨Ow,env,p,C2,E.up s,r,he',fun σ' E'=>k Ow σ' H' E' (.of_same s)⟩⟩
end
end Lake.MR
namespace Lake.L2
open PySem PySem.Spec PyProof.Rows
section
variable {X:Cx}
noncomputable def v4 (n:Nat):List V:=(List.range n).map λi=>.int (i:Nat)
theorem zK:∀(n k:Nat) (l:qv),l.length=n->(∀(j:Nat) v,l[j]?=some v->∃t,v=.int ((k+j:Nat):Int) t)->Vals ((List.range' k n).map λi=>V.int (i:Nat)) l
 | 0,k,l,h,_=>by
  have:=lh h
  subst this
  exact .nil
 | n+1,k,l,h,hv=>by
  cases l with
  | nil=>cases h
  | cons v l=>
   rw[ox,a0]
   refine .cons ?_ (zK n (k+1) l (by simpa using h) λj u hu=>?_)
   ·obtain⟨t,e⟩:=hv 0 v rfl
    exact⟨t,e⟩
   ·obtain⟨t,e⟩:=hv (j+1) u (by simpa using hu)
    exact⟨t,by rw[e];congr 1;omega⟩
def Px (ta:TA):TE:=fun σ H Q=>ta σ H λvs H1=>∃n:Nat,vs=[.int (n:Nat)]/\n<=1000000/\∀l,H1 l=none->Q (.ref l) (upd H1 l (.lst (v4 n)))
theorem IK {a:Expr}{ta:TA}{p p2 pos BD:Pos}(hg:Gl X "list")(hm:X.mg "list" = none)(MZ:Gl X "range")(M0:X.mg "range" = none)(hc:X.calm=true)(ha:PA X [a] ta)(hs:starEach [a] X.env=[(false,eval a X.env)]:=by rfl)
  (D6:starEach [.Call (.Name "range" p2) [a] [] BD] X.env=(false,eval (.Call (.Name "range" p2) [a] [] BD) X.env)::starEach [] X.env:=by rfl) (BO:(backTo pos (starEach [] X.env)).any (·.1)=false:=by rfl):
  PE X (.Call (.Name "list" p) [.Call (.Name "range" p2) [a] [] BD] [] pos) (Px ta):=by
 intro AF s σ H Q I h
 refine fF (d7 I hg hm kU ?_ (by decide) (by decide))
 refine b0 ?_ D6 BO
 rw[D6]
 show wpAny _ _ (spliced ((false,eval (.Call (.Name "range" p2) [a] [] BD) X.env)::backTo pos (starEach [] X.env))) _ _ s
 refine hW ?_
 refine Call_ (d7 I MZ M0 PyProof.Rows.boot_range (b0 (AZ (ha BD AF s σ H _ I h) ?_) hs rfl))
 rintro us s1 ⟨vs,H1,I1,r1,q1⟩
 obtain⟨n,e,hn,q⟩:=q1
 subst e
 cases r1 with
 | cons r rr=>
  cases rr
  obtain⟨t,rfl⟩:=r
  refine call_range_1 (jI ?_)
  have Vf:(2 ^ 62:Int)=4611686018427387904:=by decide
  refine call_list_range (n:=n) (I1.ok.hd hc) (IsRange.new ..) (small_one (by omega) (by omega) (by omega) (by omega)) (by rw[rangeSize_one];split <;> omega) (by omega) λh' tk Ki c' kp e it=>?_
  obtain⟨i1,i2⟩:=it
  have hv:Vals (v4 n) Ki.toList:=by
   have:=zK n 0 Ki.toList (by simpa using i1) λj v hj=>by
    obtain⟨t,e⟩:=i2 j v (by simpa using hj)
    exact⟨t,by rw[e];congr 1;omega⟩
   unfold v4
   rw[li]
   exact this
  have I2:=I1.laid (a:=s1.heap.objs.size+1) (o:=.lst (v4 n)) (h':=h') (t':=tk) (λb o eb=>kp b o (ac _ eb)) (by omega)
   (show AR X.prog X.w X.K _ h' _ (.lst (v4 n)) from ⟨(by unfold v4;rw[aI,fg];exact gt (bZ hn)),Ki.toList,c',hv,by
    have:=e
    rw[cK] at this
    simpa using this⟩)
  refine⟨.ref (s1.heap.objs.size+1),_,I2,?_,q _ (I1.AW.fresh (by omega))⟩
  show Value.ref _=Value.ref _
  rw[cK]
end
theorem GR:typeLookup (.type "list_reverseiterator") "__len__" = pure none:=by rw[eM,c9];kernel_rfl
theorem IV:typeLookup (.type "list_reverseiterator") "__length_hint__" = pure (some (.builtin "list_reverseiterator.__length_hint__")):=by rw[eM,c9];kernel_rfl
section
variable {prog:Program}{w:World}{A:Around}{E:oT}{s:Shared}
theorem Eh {J l N:Addr}{items:q5}{c₀:Nat}{R:Result->Shared->Prop}(hh:A.handled=none)(hit:s.heap.IsRevIter J l ((items.size:Int) - 1))(hl:s.heap.IsList l items)(YZ:l≠J)(hNJ:N≠J)(hNl:N≠l)(hn:items.size<=sizeLine)
  (hN:s.heap.get? N=some { cls:=.type "list",data:=.seq #[] c₀ })
  (hR:∀h' tk acc c,(∀b o,b≠J->b≠N->s.heap.get? b=some o->h'.get? b=some o)->h'.get? N=some { cls:=.type "list",dict:=none,data:=.seq acc c,slots:=#[] }->ItemsOf (λi v=>items[items.size - 1 - i]?=some v) acc items.size->R (.ok (.ret .none)) { s with heap:=h',toks:=tk }):
  wpAny (model prog w) A.in1 (Builtin.List.listExtendWith (.ref N) (.ref J) .none)
   (λfin s'=>match fin with | .done f=>R (.ok f) s' | .again c'=>c'.quiet=true/\codeAny (model prog w) A c' R s') (λe s'=>R (.error e) s') s:=by
 have W:=(Walks.listRev (prog:=prog) (w:=w) (A:=A.in1) hh J l YZ items).toS
 have st0:(0:Nat)<=items.size/\s.heap.IsRevIter J l ((items.size:Int) - 1 - ((0:Nat):Int))/\s.heap.IsList l items:=⟨ce _,by simpa using hit,hl⟩
 unfold Builtin.List.listExtendWith
 have hr:Builtin.List.listSameRef (.ref N) (.ref J)=false:=by simp[Builtin.List.listSameRef,hNJ]
 refine ab (iN hit.typeIs ?_);rw[ax (by rw[hr];decide)]
 refine ab (wpAny_pyIter_revIter hit (ab (dQ ?_)))
 unfold Builtin.List.listLengthHint
 refine ab (e8 hit.typeIs GR ?_)
 show wpAny _ A.in1 (specialOf (Value.ref J) (Str.ofString "__length_hint__") >>= _) _ _ _
 refine ab (e8 hit.typeIs IV ?_)
 (generalize SU:("list_reverseiterator.__length_hint__" : String)=nm;(fail_if_success (clear SU nm));wp_delta;rw[show splitId nm=some ("list_reverseiterator","__length_hint__") from by subst SU;decide +kernel];subst SU)
 refine ab (gl (b:=true) hit.typeIs (by rw[ia];kernel_rfl) (ae ?_))
 rw[ax (by decide)]
 have hNf:N∉[J,l]:=by simp[hNJ,hNl]
 refine ae ⟨gX eC _,lI W hn N hNf .none items.size 0 _ _ _ rfl (ce _) st0 hN (ItemsOf.nil _) λs' acc c hm hN' it=>?_⟩
 rw[Moved.eq_with hm]
 exact hR s'.heap s'.toks acc c (λb o h1 h2 e=>hm.heap b o (by simp[h1,h2]) e) hN' it
theorem xW {J l:Addr}{items:q5}{Q:oT}(hh:A.handled=none)(hit:s.heap.IsRevIter J l ((items.size:Int) - 1))(hl:s.heap.IsList l items)(YZ:l≠J)(hn:items.size<=sizeLine)
  (hQ:∀h' tk acc c,(∀b o,b≠J->s.heap.get? b=some o->h'.get? b=some o)->h'.get? s.heap.objs.size=some { cls:=.type "list",dict:=none,data:=.seq acc c,slots:=#[] }->ItemsOf (λi v=>items[items.size - 1 - i]?=some v) acc items.size->Q (.ref s.heap.objs.size) { s with heap:=h',toks:=tk }):
  wpAny (model prog w) A (call (.type "list") [.ref J]) Q E s:=by
 have lt:∀{b:Addr}{o:Obj},s.heap.get? b=some o->b≠s.heap.objs.size:=λe=>bg (ap e)
 have nJ:J≠s.heap.objs.size:=let ⟨_,e,_⟩:=hit;lt e
 have nl:l≠s.heap.objs.size:=let ⟨_,e,_⟩:=hl;lt e
 refine pE (Q₁:=λx t=>x=.ref s.heap.objs.size/\t={ s with heap:=s.heap.push { cls:=.type "list",data:=.seq #[] } }) F.called_list (F.typeCall_list_1 _) F.entry_list_init (code_list_new _ ⟨rfl,rfl⟩) λx t ht=>?_
 obtain⟨rfl,rfl⟩:=ht
 have hN:(s.heap.push { cls:=.type "list",data:=.seq #[] }).get? s.heap.objs.size=some { cls:=.type "list",data:=.seq #[] }:=am _ rfl
 refine⟨⟨_,hN,rfl⟩,F.args_list_init_2 _ _,?_⟩
 generalize hS:s.heap.objs.size=N at *
 have up:∀b o,b≠N->s.heap.get? b=some o->((s.heap.push { cls:=.type "list",data:=.seq #[] }).update N (Obj.mapSeq (λ_=>(#[]:q5)))).get? b=some o:=λb o hb e=>(df _ _ (fN hb)).trans (ac _ e)
 show wpAny _ A.in1.in1 (do let old ← Builtin.List.listItems (.ref N);Builtin.List.listUpdate (.ref N) (λ_=>#[]);letGo old.toList.reverse;Builtin.List.listExtendWith (.ref N) (.ref J) .none) _ _ _
 refine ab ?_;unfold Builtin.List.listItems
 refine ab (fq hN rfl (ae ?_))
 show wpAny _ A.in1.in1 (updateSeq N (λ_=>#[]) >>= λ_=>letGo (#[]:q5).toList.reverse >>= λ_=>Builtin.List.listExtendWith (.ref N) (.ref J) .none) _ _ _
 refine ab (js hN rfl (ab (nI ?_)))
 have hN2:=cE (Obj.mapSeq (λ_=>(#[]:q5))) hN rfl
 refine Eh (A:=A.in1) hh (hit.at λo e=>up J o nJ e) (hl.at λo e=>up l o nl e) YZ (fN nJ) (fN nl) hn hN2 λh' tk acc c k e it=>⟨rfl,hQ h' tk acc c (λb o hb eb=>k b o hb (hS▸lt eb) (up b o (hS▸lt eb) eb)) e it⟩
end
section
variable {X:Cx}{tg:Expr}
theorem xu {xs:List V}{AL:qv}(r:Vals xs AL)(acc:qv)(hl:acc.length=AL.length)(h:∀(i:Nat) v,acc[i]?=some v->AL[AL.length - 1 - i]?=some v):Vals xs.reverse acc:=by
 have e:acc=AL.reverse:=by
  refine List.ext_getElem? λi=>?_
  rcases gu i acc.length with hi | hi
  ·have:=h i acc[i] (af hi)
   rw[af hi,List.getElem?_reverse (by omega),this]
  ·rw[cS hi,cS (by rw[mh];omega)]
 rw[e]
 exact r.reverse
def Py (K:W.Frag)(ta:TA):TE:=fun σ H Q=>ta σ H λvs H1=>∃a xs,vs=[.ref a]/\Bz K H1 a xs/\∀l,H1 l=none->Q (.ref l) (upd H1 l (.lst xs.reverse))
theorem I_ {a:Expr}{ta:TA}{p p2 pos BD:Pos}(hg:Gl X "list")(hm:X.mg "list" = none)(MZ:Gl X "reversed")(M0:X.mg "reversed" = none)(hb:bootBuiltins "reversed" = some (.type "reversed"))(hc:X.calm=true)(ha:PA X [a] ta)(hs:starEach [a] X.env=(false,eval a X.env)::starEach [] X.env:=by rfl)(IH:(backTo BD (starEach [] X.env)).any (·.1)=false:=by rfl)
  (D6:starEach [.Call (.Name "reversed" p2) [a] [] BD] X.env=(false,eval (.Call (.Name "reversed" p2) [a] [] BD) X.env)::starEach [] X.env:=by rfl) (BO:(backTo pos (starEach [] X.env)).any (·.1)=false:=by rfl):
  PE X (.Call (.Name "list" p) [.Call (.Name "reversed" p2) [a] [] BD] [] pos) (Py X.K ta):=by
 intro AF s σ H Q I h
 refine fF (d7 I hg hm kU (b0 ?_ D6 BO) (by decide) (by decide))
 rw[D6]
 show wpAny _ _ (spliced ((false,eval (.Call (.Name "reversed" p2) [a] [] BD) X.env)::backTo pos (starEach [] X.env))) _ _ s
 refine hW (Call_ (d7 I MZ M0 hb (b0 (AZ (ha BD AF s σ H _ I h) ?_) hs IH)))
 rintro us s1 ⟨vs,H1,I1,r1,q1⟩
 obtain⟨a,xs,e,hq,q⟩:=q1
 subst e
 obtain⟨u,rfl,ru⟩:=vals1 r1
 cases ru
 obtain⟨AL,rv,pl,hz⟩:=I1.list hq
 have hlen:=rv.length
 have BE:a≠s1.heap.objs.size:=let ⟨_,e,_⟩:=pl.isList;bg (ap e)
 refine call_reversed_list pl.isList (jI ?_)
 refine xW (I1.ok.hd hc) ⟨_,am _ rfl,rfl,rfl⟩ (pl.isList.at λo e=>ac _ e) BE (by rw[ay];omega) λh' tk acc c k e it=>?_
 obtain⟨i1,i2⟩:=it
 rw[ay] at i1
 have hv:Vals xs.reverse acc.toList:=xu rv acc.toList (by simpa using i1) λi v hi=>by
  have:=i2 i v (by simpa using hi)
  simpa using this
 have I2:=I1.laid (a:=s1.heap.objs.size+1) (o:=.lst xs.reverse) (h':=h') (t':=tk) (λb o eb=>k b o (bg (ap eb)) (ac _ eb)) (by omega)
  (show AR X.prog X.w X.K _ h' _ (.lst xs.reverse) from ⟨(by rw[mh];exact hz),acc.toList,c,hv,by
   have:=e
   rw[cK] at this
   simpa using this⟩)
 refine⟨.ref (s1.heap.objs.size+1),_,I2,?_,q _ (I1.AW.fresh (by omega))⟩
 show Value.ref _=Value.ref _
 rw[cK]
end
end Lake.L2
namespace Lake.MR
open PySem L2
section
variable {X:Cx}{b:BX}{G G' L:qr}{ro:Bool}{pos p p2 BD:Pos}{m m1 m2:Md}{e e1 e2:Expr}{f f1 f2 h:rg}
theorem Ei {x q:PV}(e:yp x=some q):∃n:Nat,x=.int (n:Nat)/\n<=1000000/\q=.lst (cV 0 (n:Nat)):=by
 unfold yp at e
 split at e
 ·split at e
  ·rename_i j hj
   cases e
   have ej:j=((j.toNat:Nat):Int):=by omega
   exact⟨j.toNat,by rw[← ej],by omega,by rw[← ej]⟩
  ·cases e
 ·cases e
theorem Ja (hm:X.mg "list" = none)(M0:X.mg "range" = none)(h:SE X b G m1 e f)(hc:X.calm=true:=by rfl)(hg:Gl X "list" := by rfl)(MZ:Gl X "range" := by rfl)(hs:starEach [e] X.env=[(false,eval e X.env)]:=by rfl)(DM:starEach [e] X.env=(false,eval e X.env)::starEach [] X.env:=by rfl)
  (D6:starEach [.Call (.Name "range" p2) [e] [] BD] X.env=(false,eval (.Call (.Name "range" p2) [e] [] BD) X.env)::starEach [] X.env:=by rfl) (BO:(backTo pos (starEach [] X.env)).any (·.1)=false:=by rfl):
  SE X b G .own (.Call (.Name "list" p) [.Call (.Name "range" p2) [e] [] BD] [] pos) (b1 yp f):=by
 refine PE.imp (IK hg hm MZ M0 hc (aB h.bor aN DM) hs D6 BO) ?_
 rintro σ H Q ⟨Ow,env,q,E,hf,k⟩
 obtain⟨x,hx,hf⟩:=aA hf
 obtain⟨n,rfl,hn,rfl⟩:=Ei hf
 refine⟨Ow,env,_,E,hx,λv H1 s r=>?_⟩
 have r1:AM b.C (Bs b Ow) H1 v (.int (n:Nat)):=r
 refine⟨n,by rw[r1.int],hn,λl hl=>k _ _ (s.new hl _) (Res.down s (mZ hl ?_))⟩
 have rr:AJ b.C (Bs b Ow) H1 ((List.range n).map λi=>V.int (i:Nat)) ((List.range n).map λi=>PV.int (i:Nat)):=j9 _ _ (λi=>.int _) _
 have e1:cV 0 (n:Nat)=(List.range n).map λi=>PV.int (i:Nat):=by unfold cV;simp
 rw[e1]
 exact rr
theorem Ej {x q:PV}(e:yq x=some q):∃xs,x=.lst xs/\q=.lst xs.reverse:=by
 unfold yq at e
 split at e
 ·cases e;exact⟨_,rfl,rfl⟩
 ·cases e
theorem Jb (hm:X.mg "list" = none)(M0:X.mg "reversed" = none)(h:SE X b G m1 e f)(hb:bootBuiltins "reversed" = some (.type "reversed"):=by decide +kernel)(hK:X.K=b.C.K:=by rfl)(hc:X.calm=true:=by rfl)(hg:Gl X "list" := by rfl)(MZ:Gl X "reversed" := by rfl)(DM:starEach [e] X.env=(false,eval e X.env)::starEach [] X.env:=by rfl)(IH:(backTo BD (starEach [] X.env)).any (·.1)=false:=by rfl)
  (D6:starEach [.Call (.Name "reversed" p2) [e] [] BD] X.env=(false,eval (.Call (.Name "reversed" p2) [e] [] BD) X.env)::starEach [] X.env:=by rfl) (BO:(backTo pos (starEach [] X.env)).any (·.1)=false:=by rfl):
  SE X b G .own (.Call (.Name "list" p) [.Call (.Name "reversed" p2) [e] [] BD] [] pos) (b1 yq f):=by
 refine PE.imp (I_ hg hm MZ M0 hb hc (aB h.bor aN DM) DM IH D6 BO) ?_
 rintro σ H Q ⟨Ow,env,q,E,hf,k⟩
 rw[hK]
 obtain⟨x,hx,hf⟩:=aA hf
 obtain⟨xs,rfl,rfl⟩:=Ej hf
 refine⟨Ow,env,_,E,hx,λv H1 s r=>?_⟩
 have r1:AM b.C (Bs b Ow) H1 v (.lst xs):=r
 obtain⟨a,vs,rfl,ha,ra⟩:=r1.lst
 exact⟨a,vs,rfl,Bz.of ha,λl hl=>k _ _ (s.new hl _) (Res.down s (mZ hl ra.reverse))⟩
end
theorem oW {α:Type}{n:Nat}{us:List α}(hl:us.length=n+1):∃a r,us=a::r/\r.length=n:=by
 cases us with
 | nil=>cases hl
 | cons a r=>exact⟨a,r,rfl,Nat.succ.inj hl⟩
@[elab_as_elim] theorem len0 {α:Type}{P:List α->Prop}(us:List α)(hl:us.length=0)(h:P []):P us:=by
 cases us with
 | nil=>exact h
 | cons a r=>cases hl
@[elab_as_elim] theorem Pz {α:Type}{P:List α->Prop}(us:List α)(hl:us.length=1)(h:∀a,P [a]):P us:=by
 obtain⟨a,r,rfl,hr⟩:=oW hl
 exact len0 (P:=λr=>P (a::r)) r hr (h a)
@[elab_as_elim] theorem PB {α:Type}{P:List α->Prop}(us:List α)(hl:us.length=2)(h:∀a b,P [a,b]):P us:=by
 obtain⟨a,r,rfl,hr⟩:=oW hl
 exact Pz (P:=λr=>P (a::r)) r hr (h a)
@[elab_as_elim] theorem PJ {α:Type}{P:List α->Prop}(us:List α)(hl:us.length=3)(h:∀a b c,P [a,b,c]):P us:=by
 obtain⟨a,r,rfl,hr⟩:=oW hl
 exact PB (P:=λr=>P (a::r)) r hr (h a)
@[elab_as_elim] theorem Ss {α:Type}{P:List α->Prop}(us:List α)(hl:us.length=4)(h:∀a b c d,P [a,b,c,d]):P us:=by
 obtain⟨a,r,rfl,hr⟩:=oW hl
 exact PJ (P:=λr=>P (a::r)) r hr (h a)
end Lake.MR
namespace Lake.L2
open PySem PySem.Spec PyProof.Rows
section
variable {prog:Program}{w:World}{A:Around}{E:oT}{s:Shared}
theorem nextT {it t:Addr}{i:Nat}{items:q5}{x:Value}{Q:oT}(hit:s.heap.IsTupleIter it t i)(ht:s.heap.IsTuple t items)(hx:items[i]?=some x)
  (hQ:∀h',h'.IsTupleIter it t (i+1)->Heap.SameBut it s.heap h'->Q x { s with heap:=h' }):wpAny (model prog w) A (Builtin.SmallTypes.nextOf (.ref it)) Q E s:=by
 obtain⟨o,eo,co,fo⟩:=id hit
 obtain⟨p,ep,_,np,dp⟩:=ht
 unfold Builtin.SmallTypes.nextOf
 refine ab (b6 (name:=Str.ofString "__next__") hit.typeIs ib (ci ib hit.typeIs mr ?_ (l6 _)))
 show wpAny _ _ (field (.ref it) 0 >>= _) _ _ _
 refine ab (cq eo fo (x:=.ref t) rfl ?_)
 show wpAny _ _ (if (Value.ref t == Value.none)=true then _ else _) _ _ _
 rw[ax (λz:(Value.ref t == Value.none)=true=>ba z)]
 show wpAny _ _ (field (.ref it) 1 >>= _) _ _ _
 refine ab (cq eo fo (x:=.int i 0) rfl ?_)
 show wpAny _ _ (seqItems? (.ref t) >>= _) _ _ _
 refine ab (fq ep dp ?_);simp only[ga,hx]
 refine ab (i6 eo fo (by simp) (ae ⟨x,rfl,ae (hQ _ ⟨_,cE _ eo (k7 (ic fo _)),(Obj.cls_mapFields ..).trans co,?_⟩ (eg ..))⟩))
 rw[ic fo]
 simp[rawInt]
theorem GX {it t:Addr}{i:Nat}{items:q5}{Q:oT}(hh:A.handled=none)(hit:s.heap.IsTupleIter it t i)(ht:s.heap.IsTuple t items)(hx:items[i]?=none)
  (hE:∀h' e,Heap.ExtBut it s.heap h'->(∃o,h'.get? e=some o/\o.cls=.type "StopIteration")->E (.ref e) { s with heap:=h' }):wpAny (model prog w) A (Builtin.SmallTypes.nextOf (.ref it)) Q E s:=by
 obtain⟨o,eo,co,fo⟩:=id hit
 obtain⟨p,ep,_,np,dp⟩:=ht
 unfold Builtin.SmallTypes.nextOf
 refine ab (b6 (name:=Str.ofString "__next__") hit.typeIs ib (ci ib hit.typeIs mr ?_ (l6 _)))
 show wpAny _ _ (field (.ref it) 0 >>= _) _ _ _
 refine ab (cq eo fo (x:=.ref t) rfl ?_)
 show wpAny _ _ (if (Value.ref t == Value.none)=true then _ else _) _ _ _
 rw[ax (λz:(Value.ref t == Value.none)=true=>ba z)]
 show wpAny _ _ (field (.ref it) 1 >>= _) _ _ _
 refine ab (cq eo fo (x:=.int i 0) rfl ?_)
 show wpAny _ _ (seqItems? (.ref t) >>= _) _ _ _
 refine ab (fq ep dp ?_);simp only[ga,hx]
 refine ab (hU (ab (i6 eo fo (by simp) ?_)))
 show wpAny _ _ (newExc (.type "StopIteration") [] >>= _) _ _ _
 refine ab ?_;simp only[newExc,newTuple]
 refine ab (bS (ab (m:=firstArgMember _ _) (fk (a:=Value.none) (by first | rfl | (simp only[firstArgMember];rfl)) (bS ?_ (by size_fits)))) (by size_fits))
 simp only[raiseNew]
 refine ab (nS ?_);rw[hh]
 refine ab (ae (pS ?_))
 exact hE _ _ (((eg ..).extBut.push _).push _) ⟨_,am _ rfl,rfl⟩
theorem PK (hh:A.handled=none)(it t:Addr)(A3:t≠it)(items:q5):Draws prog w A it [it,t] items.size (λi v=>items[i]?=some v) (λi h=>h.IsTupleIter it t i/\h.IsTuple t items) where
 live:=λi h st=>let ⟨o,e,_⟩:=st.1;⟨o,e⟩
 frame:=λi h h' st k=>⟨st.1.at λo e=>k it (by simp) o e,let ⟨o,e,c⟩:=st.2;⟨o,k t (by simp) o e,c⟩⟩
 item:=λi s Q E hi st hQ=>nextT st.1 st.2 (eI hi) λh' a b=>hQ _ h' s.toks (eI hi) ⟨a,let ⟨o,e,c⟩:=st.2;⟨o,(b.2 t A3).trans e,c⟩⟩ b
 done:=λs Q E st hE=>GX hh st.1 st.2 (ja (aw _)) hE
structure ZA (z TI TO i1 i2:Addr)(LO LP:qV):Prop where
 TIz:TI≠z
 TOz:TO≠z
 TIO:TI≠TO
 m1:i1∈LO
 m2:i2∈LP
 z1:z∉LO
 z2:z∉LP
 o1:TO∉LO
 o2:TO∉LP
 Y0:i1∉LP
 x21:i2∉LO
variable {z TI TO i1 i2:Addr}{LO LP:qV}{n1 n2:Nat}{P1 P2:Nat->Value->Prop}{Uy SV:Nat->Heap->Prop}
theorem ZA.i1z (D:ZA z TI TO i1 i2 LO LP):i1≠z:=λe=>D.z1 (e▸D.m1)
theorem ZA.i2z (D:ZA z TI TO i1 i2 LO LP):i2≠z:=λe=>D.z2 (e▸D.m2)
theorem ZA.i1o (D:ZA z TI TO i1 i2 LO LP):i1≠TO:=λe=>D.o1 (e▸D.m1)
theorem ZA.i2o (D:ZA z TI TO i1 i2 LO LP):i2≠TO:=λe=>D.o2 (e▸D.m2)
theorem dJ {b:Addr}{h h':Heap}{fp:qV}(hs:Heap.SameBut b h h')(hb:b∉fp):∀c∈fp,∀o,h.get? c=some o->h'.get? c=some o:=λc hc o e=>(hs.2 c (λq=>hb (q▸hc))).trans e
theorem GZ {k:Nat}{a b:Value}{Q:oT}(D:ZA z TI TO i1 i2 LO LP)(D1:Draws prog w A i1 LO n1 P1 Uy)(D2:Draws prog w A i2 LP n2 P2 SV)(hz:IsZip s.heap z TI TO .none)(IL:IsPair s.heap TI (.ref i1) (.ref i2))(Lu:IsPair s.heap TO a b)
  (t1:Uy k s.heap) (t2:SV k s.heap) (k1:k < n1) (k2:k < n2)
  (hQ:∀h' tk x y,P1 k x->P2 k y->IsZip h' z TI TO (rawInt s.heap.objs.size)->IsPair h' TO x y->Uy (k+1) h'->SV (k+1) h'->IsPair h' s.heap.objs.size x y->h'.objs.size=s.heap.objs.size+1->
   (∀c o,c≠z->c≠TO->c≠i1->c≠i2->s.heap.get? c=some o->h'.get? c=some o)->Q (.ref s.heap.objs.size) { s with heap:=h',toks:=tk }):
  wpAny (model prog w) A (Builtin.«zip.__next__» ⟨[.ref z],[]⟩) (λfin s'=>∃v,fin=.done (.ret v)/\Q v s') E s:=by
 show wpAny _ _ (field (.ref z) 2 >>= _) _ _ _
 refine ab (cq hz rfl (x:=.bool false) rfl ?_)
 show wpAny _ _ (field (.ref z) 3 >>= _) _ _ _
 refine ab (cq hz rfl (x:=.ref TI) rfl (ab (fq IL rfl ?_)))
 show wpAny _ _ (Builtin.SmallTypes.ownedTupleIsFree (.ref z) >>= _) _ _ _
 refine ab ?_;unfold Builtin.SmallTypes.ownedTupleIsFree
 refine ab (cq hz rfl (x:=.none) rfl (ae ?_));simp only[f8]
 refine ab (hU (ab (cq hz rfl (x:=.ref TO) rfl (ab (dy hz (by simp) λg1 z1 s1=>?_)))))
 replace z1:IsZip g1 z TI TO .ellipsis:=z1
 refine ab ?_;simp only[List.zipIdx_cons,List.zipIdx_nil,kA,kR]
 refine ab (ab (nV ?_))
 show wpAny _ _ (Builtin.SmallTypes.nextOf (.ref i1) >>= _) _ _ _
 refine ab (D1.item k _ _ _ k1 (D1.frame k _ _ t1 (dJ s1 D.z1)) λx g2 tk2 px u2 s2=>ae ?_)
 have o2:IsPair g2 TO a b:=s2.extBut _ _ D.i1o.symm (s1.extBut _ _ D.TOz Lu)
 refine ab (fq o2 rfl (ab (lP o2 λg3 o3 s3=>ab (nI (ae ?_)))))
 replace o3:IsPair g3 TO x b:=o3
 refine ab (ab (nV ?_))
 show wpAny _ _ (Builtin.SmallTypes.nextOf (.ref i2) >>= _) _ _ _
 have v3:SV k g3:=D2.frame k _ _ (D2.frame k _ _ (D2.frame k _ _ t2 (dJ s1 D.z2)) (dJ s2 D.Y0)) (dJ s3 D.o2)
 refine ab (D2.item k _ _ _ k2 v3 λy g4 tk4 py u4 s4=>ae ?_)
 have o4:IsPair g4 TO x b:=s4.extBut _ _ D.i2o.symm o3
 refine ab (fq o4 rfl (ab (lP o4 λg5 o5 s5=>ab (nI (ae (ae ?_))))))
 replace o5:IsPair g5 TO x y:=o5
 refine ab (fq o5 rfl (ab (mM ?_)))
 have sz:g5.objs.size=s.heap.objs.size:=by rw[s5.1,s4.1,s3.1,s2.1,s1.1]
 have z5:IsZip g5 z TI TO .ellipsis:=s5.extBut _ _ D.TOz.symm (s4.extBut _ _ D.i2z.symm (s3.extBut _ _ D.TOz.symm (s2.extBut _ _ D.i1z.symm z1)))
 have k5:∀c o,c≠z->c≠TO->c≠i1->c≠i2->s.heap.get? c=some o->g5.get? c=some o:=λc o c1 c2 c3 c4 e=>s5.extBut _ _ c2 (s4.extBut _ _ c4 (s3.extBut _ _ c2 (s2.extBut _ _ c3 (s1.extBut _ _ c1 e))))
 have w1:Uy (k+1) g5:=D1.frame _ _ _ (D1.frame _ _ _ (D1.frame _ _ _ u2 (dJ s3 D.o1)) (dJ s4 D.x21)) (dJ s5 D.o1)
 have w2:SV (k+1) g5:=D2.frame _ _ _ u4 (dJ s5 D.o2)
 have lz:z < g5.objs.size:=ap z5
 show wpAny _ _ (Builtin.SmallTypes.ownedTupleHandOut (.ref z) (.ref g5.objs.size) >>= _) _ _ _
 refine ab ?_;unfold Builtin.SmallTypes.ownedTupleHandOut
 have z6:IsZip (g5.push { cls:=.type "tuple",data:=.seq #[x,y] }) z TI TO .ellipsis:=ac _ z5
 refine ab (dy z6 (by simp) λg7 z7 s7=>?_)
 replace z7:IsZip g7 z TI TO (rawInt g5.objs.size):=z7
 refine dy z7 (by simp) λg8 z8 s8=>?_
 replace z8:IsZip g8 z TI TO (rawInt g5.objs.size):=z8
 have up:∀c o,c≠z->g5.get? c=some o->g8.get? c=some o:=λc o c1 e=>s8.extBut _ _ c1 (s7.extBut _ _ c1 (ac _ e))
 have p8:IsPair g8 g5.objs.size x y:=s8.extBut _ _ (dE lz) (s7.extBut _ _ (dE lz) (am _ rfl))
 have y8:g8.objs.size=g5.objs.size+1:=by rw[s8.1,s7.1,cK]
 have fr:∀{fp:qV},z∉fp->∀c∈fp,∀o,g5.get? c=some o->g8.get? c=some o:=λXH c hc o e=>up c o (λq=>XH (q▸hc)) e
 rw[sz] at z8 p8 y8
 refine ae ⟨_,rfl,?_⟩
 show Q (.ref g5.objs.size) _
 rw[sz]
 exact hQ g8 _ x y px py z8 (up _ _ D.TOz o5) (D1.frame _ _ _ w1 (fr D.z1)) (D2.frame _ _ _ w2 (fr D.z2)) p8 y8 λc o c1 c2 c3 c4 e=>up c o c1 (k5 c o c1 c2 c3 c4 e)
theorem Jc {k:Nat}{a b:Value}{Q:Fin->Shared->Prop}(D:ZA z TI TO i1 i2 LO LP)(D1:Draws prog w A i1 LO n1 P1 Uy)(D2:Draws prog w A i2 LP n2 P2 SV)(hz:IsZip s.heap z TI TO .none)(IL:IsPair s.heap TI (.ref i1) (.ref i2))(Lu:IsPair s.heap TO a b)
  (t1:Uy k s.heap) (t2:SV k s.heap) (hk:k=n1\/(k < n1/\k=n2))
  (hE:∀h' tk e,(∀c o,c≠z->c≠TO->c≠i1->c≠i2->s.heap.get? c=some o->h'.get? c=some o)->(∃o,h'.get? e=some o/\o.cls=.type "StopIteration")->E (.ref e) { s with heap:=h',toks:=tk }):
  wpAny (model prog w) A (Builtin.«zip.__next__» ⟨[.ref z],[]⟩) Q E s:=by
 show wpAny _ _ (field (.ref z) 2 >>= _) _ _ _
 refine ab (cq hz rfl (x:=.bool false) rfl ?_)
 show wpAny _ _ (field (.ref z) 3 >>= _) _ _ _
 refine ab (cq hz rfl (x:=.ref TI) rfl (ab (fq IL rfl ?_)))
 show wpAny _ _ (Builtin.SmallTypes.ownedTupleIsFree (.ref z) >>= _) _ _ _
 refine ab ?_;unfold Builtin.SmallTypes.ownedTupleIsFree
 refine ab (cq hz rfl (x:=.none) rfl (ae ?_));simp only[f8]
 refine ab (hU (ab (cq hz rfl (x:=.ref TO) rfl (ab (dy hz (by simp) λg1 z1 s1=>?_)))))
 replace z1:IsZip g1 z TI TO .ellipsis:=z1
 refine ab ?_;simp only[List.zipIdx_cons,List.zipIdx_nil,kA,kR]
 refine ab (ab (nV ?_))
 show wpAny _ _ (Builtin.SmallTypes.nextOf (.ref i1) >>= _) _ _ _
 have v1:Uy k g1:=D1.frame k _ _ t1 (dJ s1 D.z1)
 rcases hk with rfl | ⟨Y1,rfl⟩
 ·refine ab (D1.done _ _ _ v1 λg2 e s2 he=>?_)
  obtain⟨oe,Uz,V8⟩:=he
  have z2:IsZip g2 z TI TO .ellipsis:=s2 _ _ D.i1z.symm z1
  have Y2:e≠z:=λq=>by subst q;rw[z2] at Uz;cases Uz;simp at V8
  exact dy z2 (by simp) λg3 _ s3=>hE g3 _ e (λc o c1 _ c3 _ q=>s3.extBut _ _ c1 (s2 _ _ c3 (s1.extBut _ _ c1 q))) ⟨oe,s3.extBut _ _ Y2 Uz,V8⟩
 ·refine ab (D1.item k _ _ _ Y1 v1 λx g2 tk2 px u2 s2=>ae ?_)
  have o2:IsPair g2 TO a b:=s2.extBut _ _ D.i1o.symm (s1.extBut _ _ D.TOz Lu)
  refine ab (fq o2 rfl (ab (lP o2 λg3 o3 s3=>ab (nI (ae ?_)))))
  refine ab (ab (nV ?_))
  show wpAny _ _ (Builtin.SmallTypes.nextOf (.ref i2) >>= _) _ _ _
  have v3:SV k g3:=D2.frame k _ _ (D2.frame k _ _ (D2.frame k _ _ t2 (dJ s1 D.z2)) (dJ s2 D.Y0)) (dJ s3 D.o2)
  refine ab (D2.done _ _ _ v3 λg4 e s4 he=>?_)
  obtain⟨oe,Uz,V8⟩:=he
  have z4:IsZip g4 z TI TO .ellipsis:=s4 _ _ D.i2z.symm (s3.extBut _ _ D.TOz.symm (s2.extBut _ _ D.i1z.symm z1))
  have Y2:e≠z:=λq=>by subst q;rw[z4] at Uz;cases Uz;simp at V8
  exact dy z4 (by simp) λg5 _ s5=>hE g5 _ e (λc o c1 c2 c3 c4 q=>s5.extBut _ _ c1 (s4 _ _ c4 (s3.extBut _ _ c2 (s2.extBut _ _ c3 (s1.extBut _ _ c1 q))))) ⟨oe,s5.extBut _ _ Y2 Uz,V8⟩
end
inductive SK where | L | T
def SK.ty:SK->String
 | .L => "list_iterator"
 | .T => "tuple_iterator"
def SK.is (k:SK)(h:Heap)(a:Addr)(items:q5):Prop:=match k with
 | .L=>h.IsList a items
 | .T=>h.IsTuple a items
def SK.at (k:SK)(h:Heap)(it a:Addr)(i:Nat):Prop:=match k with
 | .L=>h.IsListIter it a i
 | .T=>h.IsTupleIter it a i
theorem SK.at_of {k:SK}{h:Heap}{it a:Addr}(e:h.get? it=some { cls:=.type k.ty,data:=.fields #[.ref a,.int 0 0] }):k.at h it a 0:=by
 cases k with
 | L=>exact⟨_,e,rfl,rfl⟩
 | T=>exact⟨_,e,rfl,rfl⟩
theorem SK.C3 {k:SK}{h:Heap}{it a:Addr}{i:Nat}(st:k.at h it a i):∃o,h.get? it=some o/\∀v,o.data≠.cell v:=by
 cases k with
 | L=>obtain⟨o,e,c,d⟩:=st;exact⟨o,e,λv y=>by rw[d] at y;cases y⟩
 | T=>obtain⟨o,e,c,d⟩:=st;exact⟨o,e,λv y=>by rw[d] at y;cases y⟩
theorem SK.DH {k:SK}{h h':Heap}{it a:Addr}{i:Nat}(st:k.at h it a i)(q:∀o,h.get? it=some o->h'.get? it=some o):k.at h' it a i:=by
 cases k with
 | L=>exact Heap.IsListIter.at st q
 | T=>exact Heap.IsTupleIter.at st q
theorem SK.is_lt {k:SK}{h:Heap}{a:Addr}{items:q5}(p:k.is h a items):a < h.objs.size:=by
 cases k with
 | L=>obtain⟨o,e,_⟩:=p;exact ap e
 | T=>obtain⟨o,e,_⟩:=p;exact ap e
theorem SK.draws {prog:Program}{w:World}{A:Around}(k:SK)(hh:A.handled=none)(it a:Addr)(A3:a≠it)(items:q5):Draws prog w A it [it,a] items.size (λi v=>items[i]?=some v) (λi h=>k.at h it a i/\k.is h a items):=by
 cases k with
 | L=>exact Draws.list hh it a A3 items
 | T=>exact PK hh it a A3 items
noncomputable def V9 (k1:SK)(h:Heap)(l1:Addr):Heap:=h.push { cls:=.type k1.ty,data:=.fields #[.ref l1,.int 0 0] }
noncomputable def Wa (k1 k2:SK)(h:Heap)(l1 l2:Addr):Heap:=(V9 k1 h l1).push { cls:=.type k2.ty,data:=.fields #[.ref l2,.int 0 0] }
noncomputable def Wb (k1 k2:SK)(h:Heap)(l1 l2:Addr):Heap:=(Wa k1 k2 h l1 l2).push { cls:=.type "tuple",data:=.seq #[.ref h.objs.size,.ref (V9 k1 h l1).objs.size] }
noncomputable def XI (k1 k2:SK)(h:Heap)(l1 l2:Addr):Heap:=(Wb k1 k2 h l1 l2).push { cls:=.type "tuple",data:=.seq #[.none,.none] }
noncomputable def UA (k1 k2:SK)(h:Heap)(l1 l2:Addr):Heap:=(XI k1 k2 h l1 l2).push { cls:=.type "zip",data:=.fields #[.none,.bool false,.bool false,.ref (Wa k1 k2 h l1 l2).objs.size,.ref (Wb k1 k2 h l1 l2).objs.size] }
theorem PL (k1 k2:SK)(l1 l2:Addr)(xs ys:q5):Meets (Builtin.«zip.__new__» ⟨[.type "zip",.ref l1,.ref l2],[]⟩) (λ_ R s=>k1.is s.heap l1 xs/\k2.is s.heap l2 ys /\
   R (.ok (.ret (.ref (XI k1 k2 s.heap l1 l2).objs.size))) { s with heap:=UA k1 k2 s.heap l1 l2 }):=
 .of_wp λprog w A R s h=>by
  obtain⟨hp,g,d,tk,os⟩:=s
  obtain⟨q1,q2,h⟩:=h
  have LS:=sub_zip
  cases k1 with
  | L=>
   have e1:Heap.IsList (Shared.heap ⟨hp,g,d,tk,os⟩) l1 xs:=q1
   cases k2 with
   | L=>
    have e2:Heap.IsList (Shared.heap ⟨hp.push { cls:=.type "list_iterator",data:=.fields #[.ref l1,.int 0 0] },g,d,tk,os⟩) l2 ys:=Heap.IsList.push q2 _
    wp_walk using f7 e1,f7 e2
    exact⟨_,rfl,h⟩
   | T=>
    have e2:Heap.IsTuple (Shared.heap ⟨hp.push { cls:=.type "list_iterator",data:=.fields #[.ref l1,.int 0 0] },g,d,tk,os⟩) l2 ys:=let ⟨o,e,c⟩:=q2;⟨o,ac _ e,c⟩
    wp_walk using f7 e1,eS e2
    exact⟨_,rfl,h⟩
  | T=>
   have e1:Heap.IsTuple (Shared.heap ⟨hp,g,d,tk,os⟩) l1 xs:=q1
   cases k2 with
   | L=>
    have e2:Heap.IsList (Shared.heap ⟨hp.push { cls:=.type "tuple_iterator",data:=.fields #[.ref l1,.int 0 0] },g,d,tk,os⟩) l2 ys:=Heap.IsList.push q2 _
    wp_walk using eS e1,f7 e2
    exact⟨_,rfl,h⟩
   | T=>
    have e2:Heap.IsTuple (Shared.heap ⟨hp.push { cls:=.type "tuple_iterator",data:=.fields #[.ref l1,.int 0 0] },g,d,tk,os⟩) l2 ys:=let ⟨o,e,c⟩:=q2;⟨o,ac _ e,c⟩
    wp_walk using eS e1,eS e2
    exact⟨_,rfl,h⟩
section
variable {prog:Program}{w:World}{A:Around}{E:oT}{s:Shared}
theorem G3 {k1 k2:SK}{l1 l2:Addr}{xs ys:q5}{Q:oT}(q1:k1.is s.heap l1 xs)(q2:k2.is s.heap l2 ys)
  (h:∀h',IsZip h' (s.heap.objs.size+4) (s.heap.objs.size+2) (s.heap.objs.size+3) .none->IsPair h' (s.heap.objs.size+2) (.ref s.heap.objs.size) (.ref (s.heap.objs.size+1))->
   IsPair h' (s.heap.objs.size+3) .none .none->k1.at h' s.heap.objs.size l1 0->k2.at h' (s.heap.objs.size+1) l2 0->h'.objs.size=s.heap.objs.size+5->
   (∀c o,s.heap.get? c=some o->h'.get? c=some o)->Q (.ref (s.heap.objs.size+4)) { s with heap:=h' }):
  wpAny (model prog w) A (call (.type "zip") [.ref l1,.ref l2]) Q E s:=by
 refine callType_new F.called_zip (by decide) (F.typeCall_zip_2 _ _) (F.newCall_zip_2 _ _) (λobj=>F.args_object_init_3 obj _ _) F.entry_zip_new (PL k1 k2 l1 l2 xs ys) ⟨q1,q2,?_⟩
 have a1:(V9 k1 s.heap l1).objs.size=s.heap.objs.size+1:=cK ..
 have a2:(Wa k1 k2 s.heap l1 l2).objs.size=s.heap.objs.size+2:=(cK ..).trans (by rw[a1])
 have a3:(Wb k1 k2 s.heap l1 l2).objs.size=s.heap.objs.size+3:=(cK ..).trans (by rw[a2])
 have a4:(XI k1 k2 s.heap l1 l2).objs.size=s.heap.objs.size+4:=(cK ..).trans (by rw[a3])
 have a5:(UA k1 k2 s.heap l1 l2).objs.size=s.heap.objs.size+5:=(cK ..).trans (by rw[a4])
 have b5:(UA k1 k2 s.heap l1 l2).get? (XI k1 k2 s.heap l1 l2).objs.size=some { cls:=.type "zip",data:=.fields #[.none,.bool false,.bool false,.ref (Wa k1 k2 s.heap l1 l2).objs.size,.ref (Wb k1 k2 s.heap l1 l2).objs.size] }:=am _ rfl
 have b4:(UA k1 k2 s.heap l1 l2).get? (Wb k1 k2 s.heap l1 l2).objs.size=some { cls:=.type "tuple",data:=.seq #[.none,.none] }:=ac _ (am _ rfl)
 have b3:(UA k1 k2 s.heap l1 l2).get? (Wa k1 k2 s.heap l1 l2).objs.size=some { cls:=.type "tuple",data:=.seq #[.ref s.heap.objs.size,.ref (V9 k1 s.heap l1).objs.size] }:=ac _ (ac _ (am _ rfl))
 have b2:(UA k1 k2 s.heap l1 l2).get? (V9 k1 s.heap l1).objs.size=some { cls:=.type k2.ty,data:=.fields #[.ref l2,.int 0 0] }:=ac _ (ac _ (ac _ (am _ rfl)))
 have b1:(UA k1 k2 s.heap l1 l2).get? s.heap.objs.size=some { cls:=.type k1.ty,data:=.fields #[.ref l1,.int 0 0] }:=ac _ (ac _ (ac _ (ac _ (am _ rfl))))
 rw[a2,a3,a4] at b5
 rw[a3] at b4
 rw[a1,a2] at b3
 rw[a1] at b2
 show _/\_
 rw[a4]
 exact⟨⟨_,b5,rfl⟩,h _ b5 b3 b4 (SK.at_of b1) (SK.at_of b2) a5 λc o x=>ac _ (ac _ (ac _ (ac _ (ac _ x))))⟩
end
def SK.sq (k:SK)(K:W.Frag)(H:Hp)(a:Addr)(xs:List V):Prop:=match k with
 | .L=>Bz K H a xs
 | .T=>Co K H a xs
section
variable {X:Cx}{AF:qq}{σ:St}{H:Hp}{s:Shared}
theorem Inv.sk (I:Inv X AF σ H s){k:SK}{a:Addr}{xs:List V}(h:k.sq X.K H a xs):∃AL:List Value,Vals xs AL/\k.is s.heap a AL.toArray:=by
 cases k with
 | L=>obtain⟨AL,r,p,_⟩:=I.list h;exact⟨AL,r,p.isList⟩
 | T=>obtain⟨AL,r,p,_⟩:=I.tuple h;exact⟨AL,r,p⟩
theorem Inv.Kj (I:Inv X AF σ H s){k:SK}{a:Addr}{xs ys:List V}(h:k.sq X.K H a xs)(h':k.sq X.K H a ys):xs=ys:=by
 cases k with
 | L=>exact I.IE h h'
 | T=>exact I.GA h h'
end
def We (K:W.Frag)(k1 k2:SK)(a b:Addr):It:=
  ⟨λi H=>∃xs x ys y,k1.sq K H a xs/\xs[i]?=some x/\k2.sq K H b ys/\ys[i]?=some y,
   λi H v H'=>∃t x y,H t=none/\v=.ref t/\H'=upd H t (.tup [x,y])/\(∀xs,k1.sq K H a xs->xs[i]?=some x)/\∀ys,k2.sq K H b ys->ys[i]?=some y,
   λi H=>∃xs ys,k1.sq K H a xs/\k2.sq K H b ys/\(xs.length=i\/(i < xs.length/\ys.length=i))⟩
def ZAt (k1 k2:SK)(z TI TO i1 i2 l1 l2:Addr)(i:Nat)(h:Heap):Prop:=IsZip h z TI TO .none/\IsPair h TI (.ref i1) (.ref i2)/\(∃a b,IsPair h TO a b)/\k1.at h i1 l1 i/\k2.at h i2 l2 i
theorem Kv {z TI TO i1 i2 l1 l2:Addr}(D:ZipApart z TI TO i1 i2 l1 l2):ZA z TI TO i1 i2 [i1,l1] [i2,l2] where
 TIz:=D.TIz
 TOz:=D.TOz
 TIO:=D.TITO
 m1:=by simp
 m2:=by simp
 z1:=by simp[D.i1z.symm,D.l1z.symm]
 z2:=by simp[D.i2z.symm,D.l2z.symm]
 o1:=by simp[D.TOi1,D.l1TO.symm]
 o2:=by simp[D.TOi2,D.l2TO.symm]
 Y0:=by simp[D.i12,D.l2i1.symm]
 x21:=by simp[D.i12.symm,D.l1i2.symm]
theorem xx {P:Program}{w:World}{K:W.Frag}{es:qB}{x1:Nat}{tpos:Pos}{k1 k2:SK}{z TI TO i1 i2 l1 l2:Addr}(D:ZipApart z TI TO i1 i2 l1 l2):Turn P w K (.Tuple es x1 tpos) (We K k1 k2 l1 l2) [z,TI,TO,i1,i2] z (ZAt k1 k2 z TI TO i1 i2 l1 l2) where
 mem:=by simp
 obj:=λi h st b hb=>by
  obtain⟨hz,IL,⟨a,c,Lu⟩,s1,s2⟩:=st
  simp only[be,cm,gx] at hb
  rcases hb with rfl | rfl | rfl | rfl | rfl
  ·exact⟨_,hz,λv y=>by have y':Data.fields _=Data.cell v:=y;cases y'⟩
  ·exact⟨_,IL,λv y=>by have y':Data.seq _ _=Data.cell v:=y;cases y'⟩
  ·exact⟨_,Lu,λv y=>by have y':Data.seq _ _=Data.cell v:=y;cases y'⟩
  ·exact(SK.C3 s1)
  ·exact(SK.C3 s2)
 keep:=λi h h' st k=>by
  obtain⟨hz,IL,⟨a,c,Lu⟩,s1,s2⟩:=st
  exact⟨k z (by simp) _ hz,k TI (by simp) _ IL,⟨a,c,k TO (by simp) _ Lu⟩,SK.DH s1 λo q=>k i1 (by simp) o q,SK.DH s2 λo q=>k i2 (by simp) o q⟩
 item:=by
  intro X hP hw hK hc i AF s σ H E I hf st hg
  subst hP hw hK
  obtain⟨xs,x,ys,y,Vg,hx,QE,hy⟩:=hg
  obtain⟨hz,IL,⟨a,b,Lu⟩,s1,s2⟩:=st
  obtain⟨IM,XJ,p1⟩:=I.sk Vg
  obtain⟨C9,XM,p2⟩:=I.sk QE
  obtain⟨u,hu,ru⟩:=XJ.get hx
  obtain⟨v,hv,rv⟩:=XM.get hy
  have hh:=I.ok.hd hc
  have hT:s.TypeIs (.ref z) "zip" := ⟨_,hz,rfl⟩
  have Wf:i < IM.toArray.size:=by
   rcases gu i IM.length with q | q
   ·simpa using q
   ·rw[cS q] at hu;cases hu
  have Y3:i < C9.toArray.size:=by
   rcases gu i C9.length with q | q
   ·simpa using q
   ·rw[cS q] at hv;cases hv
  unfold pyNext
  refine ab (gv (b6 (name:=Str.ofString "__next__") hT l7 (ci l7 hT F.entry_zip_next
   (GZ (Kv D) (SK.draws (prog:=X.prog) (w:=X.w) (A:=X.A.in1) k1 hh i1 l1 D.l1i1 IM.toArray) (SK.draws (prog:=X.prog) (w:=X.w) (A:=X.A.in1) k2 hh i2 l2 D.l2i2 C9.toArray) hz IL Lu ⟨s1,p1⟩ ⟨s2,p2⟩ Wf Y3 λh' tk x' y' ex ey z1 t1 j1 j2 tp hsz hk=>ae ⟨_,rfl,?_⟩) (F.args_zip_next_1 _))))
  have eu:x'=u:=bi (by rw[← ex,← hu];simp)
  have ev:y'=v:=bi (by rw[← ey,← hv];simp)
  subst eu ev
  refine wpAny_letOwnedTupleGo_zip (s:={ s with heap:=h',toks:=tk }) z1 λh2 z2 sb=>?_
  have lz:z < s.heap.objs.size:=ap hz
  have g2:h2.get? s.heap.objs.size=some { cls:=.type "tuple",data:=.seq #[x',y'] }:=(sb.2 _ (dE lz)).trans tp
  have kp:∀c o,c∉[z,TO,i1,i2]->s.heap.get? c=some o->h2.get? c=some o:=λc o hb q=>by
   simp only[be,cm,gx,not_or] at hb
   exact(sb.2 c hb.1).trans (hk c o hb.1 hb.2.1 hb.2.2.1 hb.2.2.2 q)
  have gTO:IsPair h2 TO x' y':=(sb.2 _ D.TOz).trans t1
  have g1:k1.at h2 i1 l1 (i+1):=SK.DH j1.1 λo e=>(sb.2 i1 D.i1z).trans e
  have g2':k2.at h2 i2 l2 (i+1):=SK.DH j2.1 λo e=>(sb.2 i2 D.i2z).trans e
  have UB:∀c o,s.heap.get? c=some o->∃o',h2.get? c=some o':=λc o q=>by
   by_cases n1:c=z
   ·subst n1;exact⟨_,z2⟩
   ·by_cases n2:c=TO
    ·subst n2;exact⟨_,gTO⟩
    ·by_cases n3:c=i1
     ·subst n3;obtain⟨o',e',_⟩:=(SK.C3 g1);exact⟨o',e'⟩
     ·by_cases n4:c=i2
      ·subst n4;obtain⟨o',e',_⟩:=(SK.C3 g2');exact⟨o',e'⟩
      ·exact⟨o,kp c o (by simp[n1,n2,n3,n4]) q⟩
  have I2:Inv X AF σ (upd H s.heap.objs.size (.tup [x,y])) { s with heap:=h2,toks:=tk }:=
   I.Ll (ch:=[z,TO,i1,i2]) kp UB (λb hb=>hf b (by simp only[be,cm,gx] at hb ⊢;rcases hb with e | e | e | e <;> simp[e])) (aw _)
    ⟨by show 2<=sizeLine;decide,[x',y'],.cons ru (.cons rv .nil),⟨_,g2,rfl,_,rfl,rfl⟩⟩
  refine⟨.ref s.heap.objs.size,_,I2,rfl,⟨s.heap.objs.size,x,y,I.fresh,rfl,rfl,λzs hy=>by rw[I.Kj hy Vg];exact hx,λzs Y4=>by rw[I.Kj Y4 QE];exact hy⟩,⟨z2,?_,⟨x',y',gTO⟩,g1,g2'⟩,λb hb=>?_⟩
  ·exact kp TI _ (by simp[D.TIz,D.TITO,D.TIi1,D.TIi2]) IL
  ·have Y5:=(hf b hb).1
   rw[ao ?_]
   ·exact Y5
   ·have BE:b < s.heap.objs.size:=by
     simp only[be,cm,gx] at hb
     rcases hb with rfl | rfl | rfl | rfl | rfl
     ·exact lz
     ·exact ap IL
     ·exact ap Lu
     ·obtain⟨o,e1,_⟩:=(SK.C3 s1);exact ap e1
     ·obtain⟨o,e1,_⟩:=(SK.C3 s2);exact ap e1
    exact bg BE
 done:=by
  intro X hP hw hK hc i AF s σ H E I hf st hg
  subst hP hw hK
  obtain⟨xs,ys,Vg,QE,hl⟩:=hg
  obtain⟨hz,IL,⟨a,b,Lu⟩,s1,s2⟩:=st
  obtain⟨IM,XJ,p1⟩:=I.sk Vg
  obtain⟨C9,XM,p2⟩:=I.sk QE
  have l1':=XJ.length
  have l2':=XM.length
  have hh:=I.ok.hd hc
  have hT:s.TypeIs (.ref z) "zip" := ⟨_,hz,rfl⟩
  have hk:i=IM.toArray.size\/(i < IM.toArray.size/\i=C9.toArray.size):=by
   rw[ay,ay]
   omega
  unfold pyNext
  refine ab (gv (b6 (name:=Str.ofString "__next__") hT l7 (ci l7 hT F.entry_zip_next
   (Jc (Kv D) (SK.draws (prog:=X.prog) (w:=X.w) (A:=X.A.in1) k1 hh i1 l1 D.l1i1 IM.toArray) (SK.draws (prog:=X.prog) (w:=X.w) (A:=X.A.in1) k2 hh i2 l2 D.l2i2 C9.toArray) hz IL Lu ⟨s1,p1⟩ ⟨s2,p2⟩ hk λh' tk e kp he=>?_) (F.args_zip_next_1 _))))
  obtain⟨o,ho,LZ⟩:=he
  refine ab (gl (T := "StopIteration") (b:=true) ⟨o,ho,LZ⟩ mN (ae ⟨rfl,?_⟩))
  refine I.QA (ch:=[z,TO,i1,i2]) (λc o hb q=>?_) (λb hb=>hf b (by simp only[be,cm,gx] at hb ⊢;rcases hb with e | e | e | e <;> simp[e]))
  simp only[be,cm,gx,not_or] at hb
  exact kp c o hb.1 hb.2.1 hb.2.2.1 hb.2.2.2 q
 self:=λA i s Q E st h=>wpAny_pyIter_zip st.1 h
section
variable {X:Cx}
def yr (K:W.Frag)(k1 k2:SK)(ta:TA):TI:=fun σ H R=>ta σ H λvs H1=>∃a b,vs=[.ref a,.ref b]/\(∃xs,k1.sq K H1 a xs)/\(∃ys,k2.sq K H1 b ys)/\R (We K k1 k2 a b) H1
theorem Cv {k1 k2:SK}{l r:Expr}{ta:TA}{es:qB}{x1:Nat}{tpos p pos:Pos}(hg:Gl X "zip")(hm:X.mg "zip" = none)(ha:PA X [l,r] ta)(hs:starEach [l,r] X.env=(false,eval l X.env)::starEach [r] X.env:=by rfl)(hp:(backTo pos (starEach [r] X.env)).any (·.1)=false:=by rfl):
  PI X (.Tuple es x1 tpos) (.Call (.Name "zip" p) [l,r] [] pos) (yr X.K k1 k2 ta):=by
 intro AF s σ H R I h
 refine Call_ (d7 I hg hm PyProof.Rows.boot_zip (b0 (AZ (ha pos AF s σ H _ I h) ?_) hs hp))
 rintro us s1 ⟨vs,H1,I1,r1,q1⟩
 obtain⟨a,b,e,⟨xs,Vg⟩,⟨ys,QE⟩,q⟩:=q1
 subst e
 obtain⟨u,v,rfl,ru,rv⟩:=vals2 r1
 cases ru
 cases rv
 obtain⟨IM,XJ,p1⟩:=I1.sk Vg
 obtain⟨C9,XM,p2⟩:=I1.sk QE
 refine G3 p1 p2 λh' hz IL Lu Wf Y3 hsz hk=>?_
 have I2:Inv X AF σ H1 { s1 with heap:=h' }:=I1.kept (t':=s1.toks) hk
 have D:=zipApart_new (SK.is_lt p1) (SK.is_lt p2)
 have st:ZAt k1 k2 (s1.heap.objs.size+4) (s1.heap.objs.size+2) (s1.heap.objs.size+3) s1.heap.objs.size (s1.heap.objs.size+1) a b 0 h':=⟨hz,IL,⟨_,_,Lu⟩,Wf,Y3⟩
 refine(xx (P:=X.prog) (w:=X.w) (K:=X.K) (es:=es) (x1:=x1) (tpos:=tpos) D).self X.A 0 { s1 with heap:=h' } _ _ st ?_
 refine⟨s1.heap.objs.size+4,_,_,_,H1,rfl,I2,xx D,st,λc hb=>?_,q⟩
 have QI:s1.heap.objs.size<=c:=by
  simp only[be,cm,gx] at hb
  rcases hb with e | e | e | e | e <;> rw[e] <;> omega
 exact I1.IF QI (I1.AW.fresh QI)
end
end Lake.L2
namespace Lake.MR
open PySem L2
@[simp] noncomputable def Ek:PV->Option (List PV)
 | .lst xs=>some xs
 | .frz xs=>some xs
 | .tup xs=>some xs
 | .ktp xs=>some xs
 | _=>none
def kd:PV->SK
 | .tup _=>.T
 | .ktp _=>.T
 | _=>.L
section
variable {X:Cx}{b:BX}{G G' L:qr}{ro:Bool}{pos p:Pos}{m m1 m2:Md}{e e1 e2:Expr}
theorem Jd {Ow:Addr->Prop}{σ:St}{env:Env}{H H2:Hp}{fr:Bool}{v:V}{p:PV}{xs:List PV}(E:ER b Ow G σ env H)(r:Res b Ow H H2 m v p)(Y6:fr=true->m≠.bor)(hs:Ek p=some xs):
  ∃a vs,v=.ref a/\SK.sq (kd p) b.C.K H2 a vs/\AJ b.C (Bs b Ow) H2 vs xs/\∀BA H3,(fr=false->AK H2 H3)->Ex (Bs b Ow) H2 (Bs b BA) H3->SK.sq (kd p) b.C.K H3 a vs/\AJ b.C (Bs b BA) H3 vs xs:=by
 have b1:AM b.C (Bs b Ow) H2 v p:=r.bor
 unfold Ek at hs
 split at hs
 ·cases hs
  obtain⟨a,vs,rfl,ha,ra⟩:=b1.lst
  refine⟨a,vs,rfl,Bz.of ha,ra,λBA H3 h0 hx=>?_⟩
  have hq:H3 a=some (.lst vs):=by
   cases fr with
   | false=>exact h0 rfl _ _ ha
   | true=>
    have rv:Rep b.C (Bs b Ow) H2 (.ref a) (.lst _):=r.val E (Y6 rfl)
    cases rv with
    | lst q1 q2 q3=>rw[ha] at q1;cases q1;exact((hx _ _ ha).1 q2).1
  exact⟨Bz.of hq,ra.ex hx⟩
 ·cases hs
  have r1:Rep b.C (Bs b Ow) H2 v (.frz _):=(by rcases b1 with z | ⟨_,_,z⟩;exact z;exact z.elim)
  cases r1 with
  | MX q1 q3=>exact⟨_,_,rfl,.inl (.inr ⟨_,q1⟩),q3,λBA H3 h0 hx=>⟨.inl (.inr ⟨_,(hx _ _ q1).2 rfl⟩),q3.ex hx⟩⟩
  | lstK q1 q3=>exact⟨_,_,rfl,Va q1,q3,λBA H3 h0 hx=>⟨Va q1,q3.ex hx⟩⟩
 ·cases hs
  obtain⟨a,vs,rfl,ha,ra⟩:=b1.tup
  exact⟨a,vs,rfl,ha.sq,ra,λBA H3 h0 hx=>⟨(ha.ex hx).sq,ra.ex hx⟩⟩
 ·cases hs
  have r1:Rep b.C (Bs b Ow) H2 v (.ktp _):=(by rcases b1 with z | ⟨_,_,z⟩;exact z;exact z.elim)
  cases r1 with
  | tupK q1 q3=>exact⟨_,_,rfl,kW q1,q3,λBA H3 h0 hx=>⟨kW q1,q3.ex hx⟩⟩
 ·cases hs
theorem PI.all {α:Type}{tg iter:Expr}{wi:α->TI}(h:∀a,PI X tg iter (wi a)):PI X tg iter (fun σ H R=>∃a,wi a σ H R):=λAF s σ H R I ⟨a,q⟩=>h a AF s σ H R I q
end
end Lake.MR
namespace Lake.L2
open PySem PySem.Spec PyProof.Rows
theorem xX:Slot "reversed" "__init__" "object.__init__" :=
 .of (owner := "object") (n := "__init__") (by rw[eM,c9];kernel_rfl) (by decide +kernel) (by decide +kernel) (by decide +kernel)
  (by first | exact .inl (by decide +kernel) | exact .inr (by decide +kernel)) (by rw[ia];kernel_rfl)
theorem uO:TypeCalled "reversed" "reversed.__new__" "object.__init__" :=
 ⟨by decide +kernel,by decide +kernel,⟨_,_,F.mro_reversed⟩,madeBy_type F.mro_reversed F.lookup_reversed_new (by decide +kernel),by decide +kernel,by rw[ia];kernel_rfl,xX⟩
theorem qy:Manifest.owners.lookup (String.ofList ['d','e','s','r','e','v','e','r'].reverse)=some Manifest.sig_reversed:=by kernel_rfl
theorem slot_rvd_next:Slot "reversed" "__next__" "reversed.__next__" :=
 .of (owner := "reversed") (n := "__next__") (by rw[eM,c9];kernel_rfl) (by decide +kernel) (by decide +kernel) (by decide +kernel)
  (by first | exact .inl (by decide +kernel) | exact .inr (by decide +kernel)) (by rw[ia];kernel_rfl)
theorem nQ:entryFor table "reversed.__next__" = some Builtin.«reversed.__next__»:=oy (by kernel_rfl)
theorem lR (a:Value):argsOk "reversed.__next__" ⟨[a],[]⟩:=by
 unfold argsOk;rw[qf (id := "reversed.__next__") (n:=['_','_','t','x','e','n','_','_']) (o:=['d','e','s','r','e','v','e','r']) (by kernel_rfl) qy];kernel_rfl
theorem pO:Slot "reversed" "__iter__" "reversed.__iter__" :=
 .of (owner := "reversed") (n := "__iter__") (by rw[eM,c9];kernel_rfl) (by decide +kernel) (by decide +kernel) (by decide +kernel)
  (by first | exact .inl (by decide +kernel) | exact .inr (by decide +kernel)) (by rw[ia];kernel_rfl)
theorem uP (a:Value):argsOk "reversed.__iter__" ⟨[a],[]⟩:=by
 unfold argsOk;rw[qf (id := "reversed.__iter__") (n:=['_','_','r','e','t','i','_','_']) (o:=['d','e','s','r','e','v','e','r']) (by kernel_rfl) qy];kernel_rfl
theorem v6:entryFor table "reversed.__iter__" = some Builtin.«dict_keyiterator.__iter__»:=
 entryFor_alias (id' := "dict_keyiterator.__iter__") (by kernel_rfl) (by first | rfl | decide +kernel | (unfold String.splitOn;simp +decide [String.splitOnAux])) (by decide +kernel) (by kernel_rfl)
theorem G4:typeLookup (.type "tuple") "__reversed__" = pure none:=by rw[eM,c9];kernel_rfl
theorem El:isSubtype (.type "tuple") (.type "dict")=pure false:=by rw[ia];kernel_rfl
def B8 (h:Heap)(a t:Addr)(i:Int):Prop:=∃o,h.get? a=some o/\o.cls=.type "reversed" /\ o.data=.fields #[.ref t,rawInt i]
theorem B8.typeIs {s:Shared}{a l:Addr}{i:Int}(x:B8 s.heap a l i):s.TypeIs (.ref a) "reversed" := let ⟨o,ho,hc,_⟩:=x;⟨o,ho,hc⟩
theorem B8.at {h h':Heap}{a l:Addr}{i:Int}(x:B8 h a l i)(e:∀o,h.get? a=some o->h'.get? a=some o):B8 h' a l i:=let ⟨o,ho,r⟩:=x;⟨o,e _ ho,r⟩
theorem yt {n:Nat}(h:n<=sizeLine):(n:Int) < 2 ^ 63:=by
 have:sizeLine < 2 ^ 62:=by decide
 omega
variable {Q:Option Value->Shared->Prop}
section
variable {prog:Program}{w:World}{A:Around}{E:oT}{s:Shared}
theorem PN (t:Addr)(items:q5)(hz:(items.size:Int) < 2 ^ 63):Meets (Builtin.«reversed.__new__» ⟨[.type "reversed",.ref t],[]⟩) (λ_ R s=>IsTup s.heap t items /\
   R (.ok (.ret (.ref s.heap.objs.size))) { s with heap:=s.heap.push { cls:=.type "reversed",data:=.fields #[.ref t,rawInt ((items.size:Int) - 1)] },toks:=s.toks+1+1 }):=
 .of_wp λprog w A R s h=>by
  obtain⟨q1,h⟩:=h
  unfold Builtin.«reversed.__new__»
  refine ab (fk (newClass_reversed _) ?_)
  try dsimp only
  refine ab (fk (a:=()) (by first | rfl | kernel_rfl) ?_)
  refine ab (fk (a:=()) (by first | rfl | kernel_rfl) ?_)
  try dsimp only
  refine ab (e8 q1.typeIs G4 ?_)
  try dsimp only
  refine ab ?_
  show wpAny _ _ (isInstance (.ref t) (.type "dict") >>= _) _ _ _
  refine ab (gl q1.typeIs El ?_)
  rw[ax (by decide)]
  refine ab (e8 q1.typeIs F.slot_tuple_getitem.lookup ?_)
  dsimp only
  rw[bd (by decide +kernel)]
  refine ae ?_
  rw[ax (by decide)]
  refine ab (len_tuple q1 hz ?_)
  refine ab (fk (a:=some (items.size:Int)) rfl ?_)
  dsimp only
  refine ab ?_
  unfold Builtin.SmallTypes.newRecord
  exact bS (ae ⟨_,rfl,h⟩) (by size_fits)
theorem Je {t:Addr}{items:q5}{Q:oT}(ht:IsTup s.heap t items)(hz:(items.size:Int) < 2 ^ 63)
  (h:Q (.ref s.heap.objs.size) { s with heap:=s.heap.push { cls:=.type "reversed",data:=.fields #[.ref t,rawInt ((items.size:Int) - 1)] },toks:=s.toks+1+1 }):wpAny (model prog w) A (call (.type "reversed") [.ref t]) Q E s:=
 callType_new uO (by decide) (F.typeCall_reversed_1 _) (F.newCall_reversed_1 _) (λobj=>lS obj _) F.entry_reversed_new (PN t items hz) ⟨ht,⟨_,am _ rfl,rfl⟩,h⟩
theorem Jf {it t:Addr}{i:Nat}{items:q5}{x:Value}(hit:B8 s.heap it t (i:Int))(ht:IsTup s.heap t items)(hz:(items.size:Int) < 2 ^ 63)(hx:items[i]?=some x)
  (hQ:∀h' tk,B8 h' it t ((i:Int) - 1)->Heap.SameBut it s.heap h'->Q (some x) { s with heap:=h',toks:=tk }):wpAny (model prog w) A (pyNext (.ref it)) Q E s:=by
 obtain⟨o,ho,hc,hd⟩:=id hit
 have BE:i < items.size:=by
  rcases gu i items.size with z | z
  ·exact z
  ·rw[ja z] at hx;cases hx
 unfold pyNext
 refine ab (gv (b6 (name:=Str.ofString "__next__") hit.typeIs slot_rvd_next
  (ci slot_rvd_next hit.typeIs nQ ?_ (lR _))))
 unfold Builtin.«reversed.__next__»
 refine ab (fk (a:=(Value.ref it,[])) rfl ?_)
 try dsimp only
 refine ab (cq ho hd (x:=.ref t) rfl ?_)
 refine ab (cq ho hd (x:=rawInt (i:Int)) rfl ?_)
 show wpAny _ _ (if (i:Int) < 0 then _ else _) _ _ s
 rw[ax (by omega)]
 refine ab (e8 ht.typeIs F.slot_tuple_getitem.lookup ?_)
 rw[ax (by simp)]
 refine ab (wpAny_mkInt ?_)
 refine ab (gv (getItem_tuple (s:={ s with toks:=s.toks+1 }) ht (by omega) (by omega) (j:=i) ?_ hx ?_))
 ·exact(vO (n:=items.size) (i:=(i:Int)) (j:=i) (by unfold JO;rw[bd (by omega),bd (by omega),ga])).1
 show wpAny _ _ (field (.ref it) 1 >>= _) _ _ _
 refine ab (cq ho hd (x:=rawInt (i:Int)) rfl ?_)
 show wpAny _ _ (setField (.ref it) 1 (rawInt ((i:Int) - 1)) >>= _) _ _ _
 refine ab (i6 ho hd (by simp) ?_)
 refine ae ⟨x,rfl,ae (hQ _ _ ?_ (eg ..))⟩
 exact⟨_,cE _ ho (k7 (ic hd _)),(Obj.cls_mapFields ..).trans hc,by
  rw[ic hd];simp⟩
theorem LC {it t:Addr}(hh:A.handled=none)(hit:B8 s.heap it t (-1))
  (hQ:∀h',Heap.ExtBut it s.heap h'->Q none { s with heap:=h' }):wpAny (model prog w) A (pyNext (.ref it)) Q E s:=by
 obtain⟨o,ho,hc,hd⟩:=id hit
 unfold pyNext
 refine ab (gv (b6 (name:=Str.ofString "__next__") hit.typeIs slot_rvd_next
  (ci slot_rvd_next hit.typeIs nQ ?_ (lR _))))
 unfold Builtin.«reversed.__next__»
 refine ab (fk (a:=(Value.ref it,[])) rfl ?_)
 try dsimp only
 refine ab (cq ho hd (x:=.ref t) rfl ?_)
 refine ab (cq ho hd (x:=rawInt (-1)) rfl ?_)
 show wpAny _ _ (if (-1:Int) < 0 then _ else _) _ _ s
 rw[bd (by decide)]
 refine ab (hU ?_)
 refine ab ?_
 show wpAny _ _ (setField (.ref it) 1 (rawInt (-1)) >>= λ_=>setField (.ref it) 0 .none) _ _ _
 refine ab (i6 ho hd (by simp) ?_)
 have L5:=cE (λo=>o.mapFields λvs=>vs.setIfInBounds 1 (rawInt (-1))) ho (k7 (ic hd _))
 refine i6 L5 (ic hd _) (by simp) ?_
 refine ab ?_
 show wpAny _ _ (newExc (.type "StopIteration") [] >>= _) _ _ _
 refine ab ?_
 simp only[newExc,newTuple]
 refine ab (bS ?_ (by size_fits))
 refine ab (m:=firstArgMember _ _) (fk (a:=Value.none) (by first | rfl | (simp only[firstArgMember];rfl)) ?_)
 refine bS ?_ (by size_fits)
 simp only[raiseNew]
 refine ab (nS ?_)
 first | rw[show A.in1.handled=none from hh] | rw[hh]
 refine ab (ae (pS ?_))
 refine ab (gl (T := "StopIteration") (b:=true) ⟨_,am _ rfl,rfl⟩ mN ?_)
 exact ae (hQ _ λb o hb e=>ac _ (ac _ ((df _ _ (fN hb)).trans ((df _ _ (fN hb)).trans e))))
theorem zL {it l:Addr}{i:Int}{Q:oT}(hit:B8 s.heap it l i)(h:Q (.ref it) s):wpAny (model prog w) A (pyIter (.ref it)) Q E s:=by
 refine nK hit.typeIs pO (ci pO hit.typeIs v6 ?_ (uP _))
 show wpAny _ _ (ret (.ref it)) _ _ s
 exact ae ⟨_,rfl, "reversed",_,hit.typeIs,slot_rvd_next.lookup,h⟩
end
noncomputable def XN (k:SK)(h:Heap)(l:Addr):Heap:=h.push { cls:=.type k.ty,data:=.fields #[.ref l,.int 0 0] }
noncomputable def en2 (k:SK)(h:Heap)(l:Addr):Heap:=(XN k h l).push { cls:=.type "enumerate",data:=.fields #[.none,.bool false,.ref h.objs.size,rawInt 0,.none,.none] }
theorem LK (k:SK)(l:Addr)(xs:q5):Meets (Builtin.«enumerate.__new__» ⟨[.type "enumerate",.ref l],[]⟩) (λ_ R s=>k.is s.heap l xs/\R (.ok (.ret (.ref (XN k s.heap l).objs.size))) { s with heap:=en2 k s.heap l }):=
 .of_wp λprog w A R s h=>by
  obtain⟨hp,g,d,tk,os⟩:=s
  obtain⟨q1,h⟩:=h
  have LS:=sub_enumerate
  cases k with
  | L=>
   have e1:Heap.IsList (Shared.heap ⟨hp,g,d,tk,os⟩) l xs:=q1
   wp_walk using f7 e1
   refine wpAny_stack_any λst=>ae ?_
   split
   ·rename_i c _ _ _ _ _
    cases (c == Value.type "enumerate") <;> (wp_walk using f7 e1;exact⟨_,rfl,h⟩)
   ·wp_walk using f7 e1
    exact⟨_,rfl,h⟩
  | T=>
   have e1:Heap.IsTuple (Shared.heap ⟨hp,g,d,tk,os⟩) l xs:=q1
   wp_walk using eS e1
   refine wpAny_stack_any λst=>ae ?_
   split
   ·rename_i c _ _ _ _ _
    cases (c == Value.type "enumerate") <;> (wp_walk using eS e1;exact⟨_,rfl,h⟩)
   ·wp_walk using eS e1
    exact⟨_,rfl,h⟩
theorem Em {prog:Program}{w:World}{A:Around}{E:oT}{s:Shared}{k:SK}{l:Addr}{xs:q5}{Q:oT}(q1:k.is s.heap l xs)
  (h:∀h',IsEnum h' (s.heap.objs.size+1) s.heap.objs.size 0 .none->k.at h' s.heap.objs.size l 0->(∀b o,s.heap.get? b=some o->h'.get? b=some o)->Q (.ref (s.heap.objs.size+1)) { s with heap:=h' }):
  wpAny (model prog w) A (call (.type "enumerate") [.ref l]) Q E s:=by
 refine callType_new F.called_enumerate (by decide) (F.typeCall_enumerate_1 _) (F.newCall_enumerate_1 _) (λobj=>lS obj _) F.entry_enumerate_new (LK k l xs) ⟨q1,?_⟩
 have hz:(XN k s.heap l).objs.size=s.heap.objs.size+1:=cK ..
 show _/\_
 rw[hz]
 have he:IsEnum (en2 k s.heap l) (s.heap.objs.size+1) s.heap.objs.size 0 .none:=by
  have z:=am (XN k s.heap l) (o:={ cls:=.type "enumerate",data:=.fields #[.none,.bool false,.ref s.heap.objs.size,rawInt 0,.none,.none] }) rfl
  rw[hz] at z
  exact z
 exact⟨⟨_,he,rfl⟩,h _ he (SK.at_of (ac _ (am _ rfl))) λb o x=>ac _ (ac _ x)⟩
def PP (K:W.Frag)(k:SK)(a:Addr):It:=
 ⟨λi H=>∃xs x,k.sq K H a xs/\xs[i]?=some x,λi H v H'=>∃t x,H t=none/\v=.ref t/\H'=upd H t (.tup [.int (i:Nat),x])/\∀xs,k.sq K H a xs->xs[i]?=some x,λi H=>∃xs,k.sq K H a xs/\xs.length=i⟩
def EAt (k:SK)(e it a:Addr)(i:Nat)(h:Heap):Prop:=(∃old,IsEnum h e it (i:Nat) old)/\k.at h it a i
theorem En {P:Program}{w:World}{K:W.Frag}{es:qB}{x1:Nat}{tpos:Pos}(k:SK)(a e it:Addr)(A3:e≠it)(hae:a≠e)(hai:a≠it):Turn P w K (.Tuple es x1 tpos) (PP K k a) [it,e] e (EAt k e it a) where
 mem:=by simp
 obj:=λi h st b hb=>by
  obtain⟨⟨old,he⟩,s1⟩:=st
  simp only[be,cm,gx] at hb
  rcases hb with rfl | rfl
  ·exact SK.C3 s1
  ·exact⟨_,he,λv y=>by have y':Data.fields _=Data.cell v:=y;cases y'⟩
 keep:=λi h h' st kk=>by
  obtain⟨⟨old,he⟩,s1⟩:=st
  exact⟨⟨old,kk e (by simp) _ he⟩,SK.DH s1 λo q=>kk it (by simp) o q⟩
 item:=by
  intro X hP hw hK hc i AF s σ H E I hf st hg
  subst hP hw hK
  obtain⟨xs,x,hq,hx⟩:=hg
  obtain⟨⟨old,he⟩,s1⟩:=st
  obtain⟨AL,rv,p1⟩:=I.sk hq
  obtain⟨u,hu,ru⟩:=rv.get hx
  have hh:=I.ok.hd hc
  have Wf:i < AL.toArray.size:=by
   rcases gu i AL.length with q | q
   ·simpa using q
   ·rw[cS q] at hu;cases hu
  refine wpAny_pyNext_enum_itemD (SK.draws (prog:=X.prog) (w:=X.w) (A:=X.A.in1) k hh it a hai AL.toArray) he ⟨s1,p1⟩ Wf A3 (by simp[A3,hae.symm]) λx' h' tk ex Sb j1 UC hsz hk=>⟨_,rfl,?_⟩
  have eu:x'=u:=bi (by rw[← ex,← hu];simp)
  subst eu
  refine wpAny_letOwnedTupleGo_enum (s:={ s with heap:=h',toks:=tk+1 }) Sb λh2 OV D6=>?_
  have hel:e < s.heap.objs.size:=ap he
  have g2:h2.get? s.heap.objs.size=some { cls:=.type "tuple",data:=.seq #[.int i tk,x'] }:=(D6.2 _ (dE hel)).trans UC
  have k2:∀b o,b∉[it,e]->s.heap.get? b=some o->h2.get? b=some o:=λb o hb q=>by
   simp only[be,cm,gx,not_or] at hb
   exact(D6.2 b hb.2).trans (hk b o hb.2 hb.1 q)
  have g1:k.at h2 it a (i+1):=SK.DH j1.1 λo q=>(D6.2 it (fN A3)).trans q
  have UB:∀b o,s.heap.get? b=some o->∃o',h2.get? b=some o':=λb o q=>by
   by_cases n1:b=it
   ·subst n1;obtain⟨o',e',_⟩:=SK.C3 g1;exact⟨o',e'⟩
   ·by_cases n2:b=e
    ·subst n2;exact⟨_,OV⟩
    ·exact⟨o,k2 b o (by simp[n1,n2]) q⟩
  have I2:Inv X AF σ (upd H s.heap.objs.size (.tup [.int (i:Nat),x])) { s with heap:=h2,toks:=tk+1 }:=
   I.Ll (ch:=[it,e]) k2 UB hf (aw _) ⟨by show 2<=sizeLine;decide,[.int i tk,x'],.cons ⟨_,rfl⟩ (.cons ru .nil),⟨_,g2,rfl,_,rfl,rfl⟩⟩
  refine⟨.ref s.heap.objs.size,_,I2,rfl,⟨s.heap.objs.size,x,I.fresh,rfl,rfl,λys hy=>by rw[I.Kj hy hq];exact hx⟩,⟨⟨x',OV⟩,g1⟩,λb hb=>?_⟩
  have Y5:=(hf b hb).1
  rw[ao ?_]
  ·exact Y5
  ·simp only[be,cm,gx] at hb
   rcases hb with rfl | rfl
   ·obtain⟨o,e1,_⟩:=SK.C3 s1;exact bg (ap e1)
   ·exact bg hel
 done:=by
  intro X hP hw hK hc i AF s σ H E I hf st hg
  subst hP hw hK
  obtain⟨xs,hq,hx⟩:=hg
  obtain⟨⟨old,he⟩,s1⟩:=st
  obtain⟨AL,rv,p1⟩:=I.sk hq
  obtain⟨f0,f1,f2,f3,f4,f5⟩:=hf it (by simp)
  have hl:=rv.length
  have hi:i=AL.toArray.size:=by rw[ay];omega
  rw[hi] at s1
  exact wpAny_pyNext_enum_endD (SK.draws (prog:=X.prog) (w:=X.w) (A:=X.A.in1) k (I.ok.hd hc) it a hai AL.toArray) he ⟨s1,p1⟩ λh' eb=>⟨rfl,I.turned (t':=s.toks) (λb o hb q=>eb b o hb q) f0 f1 f3 f4 f5⟩
 self:=λA i s Q E st h=>by
  obtain⟨⟨old,he⟩,s1⟩:=st
  have hT:s.TypeIs (.ref e) "enumerate" := ⟨_,he,rfl⟩
  refine nK hT F.slot_enumerate_iter (ci F.slot_enumerate_iter hT F.entry_enumerate_iter ?_ (F.args_enumerate_iter_1 _))
  show wpAny _ _ (ret (.ref e)) _ _ s
  exact ae ⟨_,rfl, "enumerate",_,hT,F.slot_enumerate_next.lookup,h⟩
section
variable {X:Cx}
def PQ (K:W.Frag)(k:SK)(ta:TA):TI:=fun σ H R=>ta σ H λvs H1=>∃a,vs=[.ref a]/\(∃xs,k.sq K H1 a xs)/\R (PP K k a) H1
theorem Jg {k:SK}{l:Expr}{ta:TA}{es:qB}{x1:Nat}{tpos p pos:Pos}(hg:Gl X "enumerate")(hm:X.mg "enumerate" = none)(ha:PA X [l] ta)(hs:starEach [l] X.env=[(false,eval l X.env)]:=by rfl):
  PI X (.Tuple es x1 tpos) (.Call (.Name "enumerate" p) [l] [] pos) (PQ X.K k ta):=by
 intro AF s σ H R I h
 refine Call_ (d7 I hg hm PyProof.Rows.boot_enumerate (b0 (AZ (ha pos AF s σ H _ I h) ?_) hs rfl))
 rintro us s1 ⟨vs,H1,I1,r1,q1⟩
 obtain⟨a,e,⟨xs,hq⟩,q⟩:=q1
 subst e
 obtain⟨u,rfl,ru⟩:=vals1 r1
 cases ru
 obtain⟨AL,rv,p1⟩:=I1.sk hq
 refine Em p1 λh' he hit hk=>?_
 have I2:Inv X AF σ H1 { s1 with heap:=h' }:=I1.kept (t':=s1.toks) hk
 have la:=SK.is_lt p1
 have st:EAt k (s1.heap.objs.size+1) s1.heap.objs.size a 0 h':=⟨⟨.none,he⟩,hit⟩
 have T:=En (P:=X.prog) (w:=X.w) (K:=X.K) (es:=es) (x1:=x1) (tpos:=tpos) k a (s1.heap.objs.size+1) s1.heap.objs.size (Nat.succ_ne_self _) (bg (Nat.lt_succ_of_lt la)) (bg la)
 refine T.self X.A 0 { s1 with heap:=h' } _ _ st ?_
 refine⟨s1.heap.objs.size+1,[s1.heap.objs.size,s1.heap.objs.size+1],_,_,H1,rfl,I2,T,st,λb hb=>?_,q⟩
 have QI:s1.heap.objs.size<=b:=by
  simp only[be,cm,gx] at hb
  rcases hb with z | z
  ·rw[z];exact aw _
  ·rw[z];exact iL _
 exact I1.IF QI (I1.AW.fresh QI)
end
end Lake.L2
namespace Lake.MR
open PySem L2
noncomputable def Wg (f:rg)(env:Env):Option (List PV):=(f env).bind λp=>(Ek p).bind λxs=>some (eV 0 xs)
@[simp] theorem TJ (f:rg)(env:Env):Wg f env=((f env).bind λp=>(Ek p).bind λxs=>some (eV 0 xs)):=id rfl
section
variable {X:Cx}{b:BX}{G G' L:qr}{ro:Bool}{pos p:Pos}{m m1 m2:Md}{e e1 e2:Expr}
theorem tG {fr:Bool}{h:rg}{es:qB}{x1:Nat}{tpos:Pos}(hm:X.mg "enumerate" = none)(he:SE X b G m e h)(Y6:fr=true->m≠.bor:=by simp)(hK:X.K=b.C.K:=by rfl)(hg:Gl X "enumerate" := by rfl)(hs:starEach [e] X.env=[(false,eval e X.env)]:=by rfl)(DM:starEach [e] X.env=(false,eval e X.env)::starEach [] X.env:=by rfl):
  SI X b G fr (.Tuple es x1 tpos) (.Call (.Name "enumerate" p) [e] [] pos) (Wg h):=by
 refine PI.imp (PI.all λk:SK=>Jg (k:=k) hg hm (aB he aN DM) hs) ?_
 rintro σ H R ⟨Ow,env,ps,E,hf,k⟩
 rw[hK]
 obtain⟨p1,OW,z1⟩:=aA hf
 clear hf
 obtain⟨xs,YV,z4⟩:=aA z1
 clear z1
 cases z4
 refine⟨kd p1,Ow,env,p1,E,OW,λv H1 s r=>?_⟩
 obtain⟨a,vs,rfl,qa,ra,ka⟩:=Jd (fr:=fr) E r Y6 YV
 refine⟨a,rfl,⟨vs,qa⟩,k _ _ s λBA H3 h0 hx hn=>?_⟩
 obtain⟨Y7,SF⟩:=ka BA H3 h0 hx
 refine⟨λi p QN=>?_,⟨vs,Y7,by rw[qw,SF.length]⟩⟩
 obtain⟨x,Na,rfl⟩:=xq QN
 obtain⟨v,hv,rv⟩:=SF.get Na
 refine⟨⟨vs,v,Y7,hv⟩,λy H' yl=>?_⟩
 obtain⟨t,x',ht,e1,e2,yl⟩:=yl
 subst e1 e2
 have e3:=yl vs Y7
 rw[hv] at e3
 cases e3
 refine⟨aL ht _,.tup az (.cons ?_ (.cons (rv.ex (.of_same (aL ht _))) .nil))⟩
 rw[Nat.zero_add]
 exact .int _
end
inductive Y8 (C:MC) (A:Addr->Prop) (H:Hp):List Addr->List (List PV)->Prop
 | nil:Y8 C A H [] []
 | cons {c:Addr}{cs:qV}{us:List V}{ys:List PV}{yss:List (List PV)}:H c=some (.lst us)->AJ C A H us ys->Y8 C A H cs yss->Y8 C A H (c::cs) (ys::yss)
noncomputable def SU (i:Nat)(f:Env->Option Out)(env:Env):Option Out:=(f (env.set i none)).bind λo=>match o with
 | .nx e=>some (.nx (e.set i (env.getD i none)))
 | _=>none
@[simp] noncomputable def uQ:PV->PV->PV->Option PV
 | .dK kvs,y,z=>(keyOf y).map λk=>(aM kvs k).getD z
 | .dT kvs,.tup ys,z=>(AU ys).map λk=>(aM kvs k).getD z
 | _,_,_=>none
section
variable {X:Cx}{b:BX}{G:qr}{apos AS:Pos}{m1 m2:Md}{e1 e2 e3:Expr}{f1 f2 f3:rg}
theorem v7 {j:Nat}(hr:A7 j X.A)(h1:SE X b G m1 e1 f1)(h2:SE X b G m2 e2 f2)(h3:SE X b G .val e3 f3)(m:M2 X e1 "get" apos e2 e3 AS:=by exact⟨rfl,rfl,rfl,rfl⟩)(hK:X.K=b.C.K:=by rfl):SE X b G .val (.Call (.Attribute e1 "get" apos) [e2,e3] [] AS) (b3 uQ f1 f2 f3):=by
 refine PE.imp (sO (dG hr) h1.bor h2.bor h3 m) fun σ H Q h=>?_
 obtain⟨Ow,env,p,E,hf,k⟩:=h
 obtain⟨p1,q1,z1⟩:=aA hf
 clear hf
 obtain⟨p2,q2,z2⟩:=aA z1
 clear z1
 obtain⟨p3,q3,hf⟩:=aA z2
 clear z2
 refine⟨Ow,env,p1,E,q1,λv1 H1 s1 r1=>?_⟩
 unfold uQ at hf
 split at hf
 ·rename_i kvs
  obtain⟨ky,hk,e⟩:=br.mp hf
  obtain⟨a,kv,rfl,ha,ra⟩:=r1.dK
  refine⟨a,rfl,.inl ⟨kv,.inl ha⟩,Ow,env,p2,E.up s1,q2,λv2 H2 s2 r2=>⟨Ow,env,p3,(E.up s1).up s2,q3,λv3 H3 s3 r3=>?_⟩⟩
  have Uu:AM b.C (Bs b Ow) H2 v2 p2:=r2
  rw[Uu.key hk]
  have Y9:=s3 _ _ (s2 _ _ ha)
  refine⟨_,BY.k Y9,k _ H3 ((s1.trans s2).trans s3) ?_⟩
  unfold aM at e
  rcases AX.val (k:=ky) ra with ⟨v,p',g1,g2,rv⟩ | ⟨g1,g2⟩
  ·rw[g2] at e
   rw[g1,← e]
   exact rv.ex (.of_same (s2.trans s3))
  ·rw[g2] at e
   rw[g1,← e]
   exact r3
 ·rename_i kvs ys
  obtain⟨ky,hk,e⟩:=br.mp hf
  obtain⟨a,kv,rfl,ha,ra⟩:=r1.dT
  refine⟨a,rfl,.inr ⟨kv,.inl ha⟩,Ow,env,_,E.up s1,q2,λv2 H2 s2 r2=>⟨Ow,env,p3,(E.up s1).up s2,q3,λv3 H3 s3 r3=>?_⟩⟩
  have Uu:AM b.C (Bs b Ow) H2 v2 (.tup ys):=r2
  obtain⟨c,vs,rfl,hc,rc⟩:=Uu.tup
  have Y9:=s3 _ _ (s2 _ _ ha)
  refine⟨_,BY.t Y9 (by rw[hK];exact(hc.up s3).key ((rc.ex (.of_same s3)).AU hk)),k _ H3 ((s1.trans s2).trans s3) ?_⟩
  unfold aM at e
  rcases A2.val (k:=ky) ra with ⟨v,p',g1,g2,rv⟩ | ⟨g1,g2⟩
  ·rw[g2] at e
   rw[g1,← e]
   exact rv.ex (.of_same (s2.trans s3))
  ·rw[g2] at e
   rw[g1,← e]
   exact r3
 ·cases hf
end
noncomputable def oX:PV->PV->Option Bool
 | x,.lst ys=>if fO x=true/\ys.all fO=true then some (ys.any λy=>Uq y x) else none
 | x,.tup ys=>if fO x=true/\ys.all fO=true then some (ys.any λy=>Uq y x) else none
 | _,_=>none
noncomputable def jJ (x y:PV):Option PV:=(oX x y).map λk=>.bl (!k)
@[simp] theorem RT (x y:PV):jJ x y=((oX x y).map λk=>.bl (!k)):=id rfl
theorem G5 {b:BX}:F6 b .val (Yz b.C.K true) jJ:=by
 intro Ow H v1 v2 p1 p2 p Q hn r1 r2 e k
 unfold jJ at e
 obtain⟨c,q,rfl⟩:=br.mp e
 have fin:=k (.bl (!c)) H (AK.refl _) (.bl _)
 unfold oX at q
 split at q
 ·split at q
  ·rename_i h
   cases q
   obtain⟨a,vs,rfl,ha,ra⟩:=r2.lst
   obtain⟨h1,h2⟩:=AJ.flat r1 h.1 ra h.2
   rw[← h2] at fin
   exact⟨a,vs,rfl,.inl (Bz.of ha),r1.flat h.1,h1,fin⟩
  ·cases q
 ·split at q
  ·rename_i h
   cases q
   obtain⟨a,vs,rfl,ha,ra⟩:=r2.tup
   obtain⟨h1,h2⟩:=AJ.flat r1 h.1 ra h.2
   rw[← h2] at fin
   exact⟨a,vs,rfl,.inr ha.sq,r1.flat h.1,h1,fin⟩
  ·cases q
 ·cases q
theorem lU {X:Cx}{b:BX}{G:qr}{m1 m2:Md}{e1 e2:Expr}{f1 f2:rg}(h1:SE X b G m1 e1 f1)(h2:SE X b G m2 e2 f2)(hm:behindInMarks .NotIn e2=false:=by rfl)(hK:X.K=b.C.K:=by rfl):SC X b G .NotIn e1 e2 (b2 jJ f1 f2):=
 lN (r:=Yz b.C.K true) (by rw[← hK];exact zg) G5 h1 h2 hm
end Lake.MR
namespace Lake.L2
open PySem PySem.Spec PyProof.Rows
section
variable {X:Cx}{tg:Expr}{AF:qq}{σ:St}{H:Hp}{s:Shared}{apos AS pos:Pos}{td ty tx tv:TE}{o e f:Expr}
def Eo (K:W.Frag)(tk tv:TE):TE:=fun σ H Q=>∀p,H p=none->tk σ (upd H p (.dT [])) λy H1=>tv σ H1 λz H2=>H2 p=some (.dT [])/\∃b ks,y=.ref b/\CD K H2 b ks/\Q (.ref p) (upd H2 p (.dT [(ks,z)]))
theorem Cw (hu:X.A.units+9 < cLine)(hk:PE X e ty)(hv:PE X f tv):PE X (.Dict [some e] [f] pos) (Eo X.K ty tv):=by
 intro AF s σ H Q I q
 have hn:=I.AW.fresh (aw s.heap.objs.size)
 have I1:=I.laid (a:=s.heap.objs.size) (o:=.dT []) (h':=s.heap.push { cls:=.type "dict",data:=.dict #[] }) (t':=s.toks) (λ_ _ q=>ac _ q) (aw _) (yX s.heap I.big)
 refine wpAny_Dict_any rfl rfl (λz=>nomatch z) (show (1:Nat)<=15 by decide) ?_
 refine pairTrees_cons_walk (AZ (hk AF _ σ _ _ I1 (q _ hn)) λu s1 ⟨y,H1,I2,ry,q1⟩=>AZ (hv AF s1 σ H1 _ I2 q1) λw2 s2 ⟨z,H2,I3,rz,e1,b,ks,e2,dk,q2⟩=>pairTrees_nil_walk ?_)
 subst e2
 cases (show u=Value.ref b from ry)
 obtain⟨_,hd,xs,rel,dd⟩:=yV I3.Cs I3.AW (.inl e1)
 cases rel
 unfold storeAll
 rw[kA]
 refine ab (ab (sH (show X.A.units+3 < cLine from by omega) (iZ I3.Cs I3.AW dk) dd (ce _) λh' PF hs=>ae ?_))
 show wpAny _ _ (forIn [] _ _) _ _ _
 rw[kR]
 refine ae ?_
 obtain⟨o,es,hq,h2,h3,h4,_,h5⟩:=PF
 have new:AR X.prog X.w X.K (upd H2 s.heap.objs.size (.dT [(ks,z)])) h' s.heap.objs.size (.dT [(ks,z)]):=⟨by show (1:Nat)<=sizeLine;decide,hd,_,((KT.put (H:=H2) (kvs:=[]) .nil ks dk rz)).keeps λc ys ec=>by rw[ao (bQ ec e1 (λz=>nomatch z))];exact ec,o,es,_,hq,h2,h3,h4,h5,rfl⟩
 exact⟨.ref s.heap.objs.size,_,mX (t':=s2.toks+(cX X.prog X.w).draws ks) I3 (by rw[e1];exact fE) hs ⟨o,hq⟩ new,rfl,q2⟩
end
variable {i:Nat}{Q:Option Value->Shared->Prop}
section
variable {prog:Program}{w:World}{κ:Type}[DecidableEq κ]{kd:HeapKind prog w κ}{A:Around}{E:oT}{s:Shared}{d a it vw:Addr}{xs:List (κ×Addr×Value)}{k:κ}{v ok ov:Value}
theorem zM (kd:HeapKind prog w κ)(d:Addr)(hd:(d == sysModules)=false):
  MeetsIn prog w (Builtin.«dict.items» ⟨[.ref d],[]⟩) (λ_ R s=>(∃xs,A5 kd s.heap d xs) /\
   R (.ok (.ret (.ref s.heap.objs.size))) { s with heap:=s.heap.push { cls:=.type "dict_items",data:=.fields #[.ref d] } }):=
 .of_wp<|by
  rintro A R s ⟨⟨xs,m⟩,h⟩
  unfold Builtin.«dict.items»
  refine ab ?_
  unfold Builtin.Dict.noArgs
  refine ab (kX m.of.typeIs ?_)
  show wpAny _ _ (pure d) _ _ s
  refine ae ?_
  show wpAny _ _ (Builtin.Dict.showsAll d >>= _) _ _ s
  unfold Builtin.Dict.showsAll
  rw[ax (by rw[hd];decide)]
  exact ab (ae (ab (bS (ae ⟨_,rfl,h⟩))))
theorem PX {Q:oT}(hv:s.heap.IsItemsView vw d)(m:A5 kd s.heap d xs)
  (q:∀h',h'=s.heap.push { cls:=.type "dict_itemiterator",data:=.fields #[.none,.bool false,.ref d,.int 0 0,.int xs.length 0,.int xs.length 0,.none,.none] }->Q (.ref s.heap.objs.size) { s with heap:=h' }):wpAny (model prog w) A (pyIter (.ref vw)) Q E s:=by
 obtain⟨u,u1,u2,u3⟩:=id hv
 obtain⟨o,es,o1,o2,o3,o4,o5,o6⟩:=id m
 have sz:=jp o4
 refine nK hv.typeIs F.slot_dict_items_iter (ci F.slot_dict_items_iter hv.typeIs F.entry_dict_items_iter ?_ (F.args_dict_items_iter_1 _))
 unfold Builtin.«dict_items.__iter__»
 refine ab (ae (ab ?_))
 unfold Builtin.Dict_items.dictOf
 refine ab (cq u1 u3 (x:=.ref d) rfl (ae (ab ?_)))
 unfold Builtin.Dict_items.newIterator
 refine ab (j3 o1 o3 (ab (kB o1 o3 ?_)))
 have own:Builtin.Dict_items.ownsTuple "dict_itemiterator" = true:=by decide
 simp only[own,f8]
 refine bS (ae ⟨_,rfl, "dict_itemiterator",_,⟨_,am _ rfl,rfl⟩,cy.lookup,?_⟩)
  (by simp only[sizeOk,Builtin.Dict_items.ownedTupleFields,ay,bo,bv,l5,i9];omega)
 simpa [rawInt,sz,Builtin.Dict_items.ownedTupleFields] using q _ rfl
theorem P0 {b:Addr}(hi:IsItemIter s.heap it d i xs.length xs.length ok ov)(m:A5 kd s.heap d xs)(hx:xs[i]?=some (k,b,v))
  (q:∀h',IsItemIterOut h' it d (i+1) xs.length xs.length (.ref b) v s.heap.objs.size->h'.get? s.heap.objs.size=some { cls:=.type "tuple",data:=.seq #[.ref b,v] }->h'.objs.size=s.heap.objs.size+1->
   (∀c o,c≠it->s.heap.get? c=some o->h'.get? c=some o)->Q (some (.ref s.heap.objs.size)) { s with heap:=h' }):wpAny (model prog w) A (pyNext (.ref it)) Q E s:=by
 obtain⟨hp,g,dr,tk,os⟩:=s
 obtain⟨o,es,o1,o2,o3,o4,o5,o6⟩:=id m
 have ty:Shared.TypeIs ⟨hp,g,dr,tk,os⟩ (.ref it) "dict_itemiterator" := ⟨_,hi,rfl⟩
 have sz:=jp o4
 unfold pyNext
 refine ab (gv (b6 (name:=Str.ofString "__next__") ty cy (ci cy ty gs ?_ (gg _))))
 refine ab (ae (ab (ab ?_)))
 first | refine ab (db ty (ae ?_)) | refine ab (d5 ty (ae ?_))
 refine ab (mS hi rfl ?_)
 have own:Builtin.Dict_items.ownsTuple "dict_itemiterator" = true:=by decide
 simp only[own,f8]
 show wpAny _ _ (if (Value.ref d == Value.none)=true then _ else _) _ _ _
 rw[ax (by intro z;cases z)]
 refine ab (ae (ab (j3 o1 o3 ?_)))
 rw[ax (by rw[sz];simp)]
 refine ab (ae (ab (kB o1 o3 ?_)))
 rw[ax (by simp)]
 refine ae ?_
 have lt:i < es.size:=by rw[sz];exact(ai.mp hx).1
 have ee:es[i]=entryOfKey kd (k,b,v):=by
  have z:=entry_at o4 i
  rw[hx,eI lt] at z
  exact bi z
 have ek:es[i].key=.ref b:=by rw[ee];rfl
 have ev:es[i].val=v:=by rw[ee];rfl
 simp only[show ¬ ((i:Int) < 0) by omega,fT,ga,eI lt]
 refine ab ?_
 first | refine ab (db ty (ae ?_)) | refine ab (d5 ty (ae ?_))
 refine ab (gc ty ?_)
 show wpAny _ _ (setField (.ref it) 3 (rawInt ((i:Int)+1)) >>= _) _ _ ⟨hp,g,dr,tk,os⟩
 refine ab (dy hi (by simp) λh1 e1 s1=>?_)
 have s1:Heap.SameBut it hp h1:=s1
 have e1:IsItemIter h1 it d (i+1) xs.length xs.length ok ov:=by
  have e:((i+1:Nat):Int)=(i:Int)+1:=by omega
  unfold IsItemIter;rw[e];simpa [rawInt] using e1
 have t1:Shared.TypeIs ⟨h1,g,dr,tk,os⟩ (.ref it) "dict_itemiterator" := ⟨_,e1,rfl⟩
 refine ab (dQ (ab (gc t1 (ab (gc t1 ?_)))))
 show wpAny _ _ (Builtin.Dict_items.pairFromOwner (.ref it) 6 es[i].key es[i].val) _ _ ⟨h1,g,dr,tk,os⟩
 rw[ek,ev]
 unfold Builtin.Dict_items.pairFromOwner
 refine ab (mM ?_)
 have z1:h1.objs.size=hp.objs.size:=s1.1
 have il:it < hp.objs.size:=ap hi
 have e2:IsItemIter (h1.push { cls:=.type "tuple",data:=.seq #[.ref b,v] }) it d (i+1) xs.length xs.length ok ov:=ac _ e1
 have t2:(h1.push { cls:=.type "tuple",data:=.seq #[.ref b,v] }).get? hp.objs.size=some { cls:=.type "tuple",data:=.seq #[.ref b,v] }:=by rw[← z1];exact am _ rfl
 have z2:(h1.push { cls:=.type "tuple",data:=.seq #[.ref b,v] }).objs.size=hp.objs.size+1:=by rw[cK,z1]
 have k2:∀c o,c≠it->hp.get? c=some o->(h1.push { cls:=.type "tuple",data:=.seq #[.ref b,v] }).get? c=some o:=λc o hc e=>ac _ (s1.extBut c o hc e)
 generalize h1.push { cls:=.type "tuple",data:=.seq #[.ref b,v] }=h2 at e2 t2 z2 k2 ⊢
 show wpAny _ _ (Builtin.Dict_items.ownedTupleIsFree (.ref it) >>= _) _ _ ⟨h2,g,dr,tk,os⟩
 rw[z1]
 refine ab ?_
 unfold Builtin.Dict_items.ownedTupleIsFree
 refine ab (cq e2 rfl (x:=.none) rfl (ae ?_))
 simp only[f8]
 refine ab (cq e2 rfl (x:=ok) rfl (ab (cq e2 rfl (x:=ov) rfl ?_)))
 refine ab (dy e2 (by simp) λh3 e3 s3=>?_)
 have s3:Heap.SameBut it h2 h3:=s3
 have e3:IsItemIter h3 it d (i+1) xs.length xs.length (.ref b) ov:=e3
 refine ab (dy e3 (by simp) λh4 e4 s4=>?_)
 have s4:Heap.SameBut it h3 h4:=s4
 have e4:IsItemIter h4 it d (i+1) xs.length xs.length (.ref b) v:=e4
 refine ab (dy e4 (by simp) λh5 e5 s5=>?_)
 have s5:Heap.SameBut it h4 h5:=s5
 have e5:IsItemIterOut h5 it d (i+1) xs.length xs.length (.ref b) v hp.objs.size:=e5
 refine ab (dy e5 (by simp) λh6 e6 s6=>?_)
 have s6:Heap.SameBut it h5 h6:=s6
 have e6:IsItemIterOut h6 it d (i+1) xs.length xs.length (.ref b) v hp.objs.size:=e6
 have kk:∀c o,c≠it->h2.get? c=some o->h6.get? c=some o:=λc o hc e=>s6.extBut c o hc (s5.extBut c o hc (s4.extBut c o hc (s3.extBut c o hc e)))
 refine ab (nI (ae (ae ⟨_,rfl,ae (q h6 e6 (kk _ _ (dE il) t2) ?_ λc o hc e=>kk c o hc (k2 c o hc e))⟩)))
 show h6.objs.size=hp.objs.size+1
 rw[s6.1,s5.1,s4.1,s3.1,z2]
theorem Ro (hh:A.handled=none)(hi:IsItemIter s.heap it d i xs.length xs.length ok ov)(m:A5 kd s.heap d xs)(hx:xs.length<=i)
  (q:∀h',Heap.ExtBut it s.heap h'->Q none { s with heap:=h' }):wpAny (model prog w) A (pyNext (.ref it)) Q E s:=by
 obtain⟨o,es,o1,o2,o3,o4,o5,o6⟩:=id m
 have ty:s.TypeIs (.ref it) "dict_itemiterator" := ⟨_,hi,rfl⟩
 have sz:=jp o4
 unfold pyNext
 refine ab (gv (b6 (name:=Str.ofString "__next__") ty cy (ci cy ty gs ?_ (gg _))))
 refine ab (ae (ab (ab ?_)))
 first | refine ab (db ty (ae ?_)) | refine ab (d5 ty (ae ?_))
 refine ab (mS hi rfl ?_)
 have own:Builtin.Dict_items.ownsTuple "dict_itemiterator" = true:=by decide
 simp only[own,f8]
 show wpAny _ _ (if (Value.ref d == Value.none)=true then _ else _) (λ_ _=>_) _ s
 rw[ax (by intro z;cases z)]
 refine ab (ae (ab (j3 o1 o3 ?_)))
 rw[ax (by rw[sz];simp)]
 refine ab (ae (ab (kB o1 o3 ?_)))
 rw[ax (by simp)]
 refine ae ?_
 simp only[show ¬ ((i:Int) < 0) by omega,fT,ga,ja (show es.size<=i by omega)]
 refine ab ?_
 first | refine ab (db ty (ae ?_)) | refine ab (d5 ty (ae ?_))
 show wpAny _ _ (setField (.ref it) 2 .none >>= λ_=>_) _ _ s
 refine ab (i6 hi rfl (by simp) ?_)
 show wpAny _ _ (newExc (.type "StopIteration") [] >>= λ_=>_) _ _ _
 refine ab ?_
 simp only[newExc,newTuple]
 refine ab (bS (ab (m:=firstArgMember _ _) (fk (a:=Value.none) (by first | rfl | (simp only[firstArgMember];rfl)) (bS ?_ (by size_fits)))) (by size_fits))
 simp only[raiseNew]
 refine ab (nS ?_)
 rw[show A.in1.handled=none by exact hh]
 refine ab (ae (pS ?_))
 refine ab (gl (b:=true) (T := "StopIteration") ⟨_,am _ rfl,rfl⟩ mN ?_)
 exact ae (q _ (((eg ..).extBut.push _).push _))
end
open PySem.W (KdxIt kdx_alive kdx_hint)
section
variable {prog:Program}{w:World}{κ:Type}[DecidableEq κ]{kd:HeapKind prog w κ}{A:Around}{E:oT}{s:Shared}{d a it vw S:Addr}{xs:List (κ×Addr×Value)}{k:κ}{v ok ov:Value}{fl:Bool}
theorem P_ {b:Addr}{oa:Obj}(hi:KdxIt s.heap it d i xs.length xs.length ok ov a fl)(ha:s.heap.get? a=some oa)(ne:a≠it)(m:A5 kd s.heap d xs)(hx:xs[i]?=some (k,b,v))
  (q:∀h',KdxIt h' it d (i+1) xs.length xs.length ok ov a true->h'.get? s.heap.objs.size=some { cls:=.type "tuple",data:=.seq #[.ref b,v] }->h'.objs.size=s.heap.objs.size+1->
   (∀c o,c≠it->s.heap.get? c=some o->h'.get? c=some o)->Q (some (.ref s.heap.objs.size)) { s with heap:=h' }):wpAny (model prog w) A (pyNext (.ref it)) Q E s:=by
 obtain⟨hp,g,dr,tk,os⟩:=s
 obtain⟨o,es,o1,o2,o3,o4,o5,o6⟩:=id m
 have ty:Shared.TypeIs ⟨hp,g,dr,tk,os⟩ (.ref it) "dict_itemiterator" := ⟨_,hi,rfl⟩
 have sz:=jp o4
 unfold pyNext
 refine ab (gv (b6 (name:=Str.ofString "__next__") ty cy (ci cy ty gs ?_ (gg _))))
 refine ab (ae (ab (ab ?_)))
 first | refine ab (db ty (ae ?_)) | refine ab (d5 ty (ae ?_))
 refine ab (mS hi rfl ?_)
 have own:Builtin.Dict_items.ownsTuple "dict_itemiterator" = true:=by decide
 simp only[own,f8]
 show wpAny _ _ (if (Value.ref d == Value.none)=true then _ else _) _ _ _
 rw[ax (by intro z;cases z)]
 refine ab (ae (ab (j3 o1 o3 ?_)))
 rw[ax (by rw[sz];simp)]
 refine ab (ae (ab (kB o1 o3 ?_)))
 rw[ax (by simp)]
 refine ae ?_
 have lt:i < es.size:=by rw[sz];exact(ai.mp hx).1
 have ee:es[i]=entryOfKey kd (k,b,v):=by
  have z:=entry_at o4 i
  rw[hx,eI lt] at z
  exact bi z
 have ek:es[i].key=.ref b:=by rw[ee];rfl
 have ev:es[i].val=v:=by rw[ee];rfl
 simp only[show ¬ ((i:Int) < 0) by omega,fT,ga,eI lt]
 refine ab ?_
 first | refine ab (db ty (ae ?_)) | refine ab (d5 ty (ae ?_))
 refine ab (gc ty ?_)
 show wpAny _ _ (setField (.ref it) 3 (rawInt ((i:Int)+1)) >>= _) _ _ ⟨hp,g,dr,tk,os⟩
 refine ab (dy hi (by simp) λh1 e1 s1=>?_)
 have s1:Heap.SameBut it hp h1:=s1
 have e1:KdxIt h1 it d (i+1) xs.length xs.length ok ov a fl:=by
  have e:((i+1:Nat):Int)=(i:Int)+1:=by omega
  unfold KdxIt;rw[e];simpa [rawInt] using e1
 have t1:Shared.TypeIs ⟨h1,g,dr,tk,os⟩ (.ref it) "dict_itemiterator" := ⟨_,e1,rfl⟩
 refine ab (dQ (ab (gc t1 (ab (gc t1 ?_)))))
 show wpAny _ _ (Builtin.Dict_items.pairFromOwner (.ref it) 6 es[i].key es[i].val) _ _ ⟨h1,g,dr,tk,os⟩
 rw[ek,ev]
 unfold Builtin.Dict_items.pairFromOwner
 refine ab (mM ?_)
 have z1:h1.objs.size=hp.objs.size:=s1.1
 have il:it < hp.objs.size:=ap hi
 have e2:KdxIt (h1.push { cls:=.type "tuple",data:=.seq #[.ref b,v] }) it d (i+1) xs.length xs.length ok ov a fl:=ac _ e1
 have t2:(h1.push { cls:=.type "tuple",data:=.seq #[.ref b,v] }).get? hp.objs.size=some { cls:=.type "tuple",data:=.seq #[.ref b,v] }:=by rw[← z1];exact am _ rfl
 have z2:(h1.push { cls:=.type "tuple",data:=.seq #[.ref b,v] }).objs.size=hp.objs.size+1:=by rw[cK,z1]
 have k2:∀c o,c≠it->hp.get? c=some o->(h1.push { cls:=.type "tuple",data:=.seq #[.ref b,v] }).get? c=some o:=λc o hc e=>ac _ (s1.extBut c o hc e)
 generalize h1.push { cls:=.type "tuple",data:=.seq #[.ref b,v] }=h2 at e2 t2 z2 k2 ⊢
 show wpAny _ _ (Builtin.Dict_items.ownedTupleIsFree (.ref it) >>= _) _ _ ⟨h2,g,dr,tk,os⟩
 rw[z1]
 have a2:h2.get? a=some oa:=k2 a oa ne ha
 refine ab ?_
 unfold Builtin.Dict_items.ownedTupleIsFree
 refine ab (cq e2 rfl (x:=rawInt a) rfl ?_)
 show wpAny _ _ (loadIfAlive ((a:Int).toNat) >>= _) _ _ _
 rw[ga]
 refine ab (kdx_alive a2 ?_)
 simp only[Option.isNone_some,eJ,fT]
 refine ab (cq e2 rfl (x:=.bool fl) rfl ?_)
 have fin:∀h3:Heap,KdxIt h3 it d (i+1) xs.length xs.length ok ov a true->Heap.SameBut it h2 h3->Q (some (.ref hp.objs.size)) ⟨h3,g,dr,tk,os⟩:=λh3 e3 s3=>
  q h3 e3 (s3.extBut _ _ (dE il) t2) (by show h3.objs.size=hp.objs.size+1;rw[s3.1,z2]) λc o hc e=>s3.extBut c o hc (k2 c o hc e)
 cases fl with
 | true=>
  rw[ax (show ¬ ((Value.bool true != Value.bool true)=true) from ba)]
  refine ae ?_
  simp only[eJ,fT]
  exact ae (ae ⟨_,rfl,ae (fin h2 e2 (Heap.SameBut.refl _ _))⟩)
 | false=>
  rw[bd (show (Value.bool false != Value.bool true)=true from rfl)]
  refine ab (dy e2 (by simp) λh3 e3 s3=>?_)
  have s3:Heap.SameBut it h2 h3:=s3
  have e3:KdxIt h3 it d (i+1) xs.length xs.length ok ov a true:=e3
  refine ae ?_
  simp only[eJ,fT]
  exact ae (ae ⟨_,rfl,ae (fin h3 e3 s3)⟩)
theorem Rp (hh:A.handled=none)(hi:KdxIt s.heap it d i xs.length xs.length ok ov a fl)(m:A5 kd s.heap d xs)(hx:xs.length<=i)
  (q:∀h',Heap.ExtBut it s.heap h'->Q none { s with heap:=h' }):wpAny (model prog w) A (pyNext (.ref it)) Q E s:=by
 obtain⟨o,es,o1,o2,o3,o4,o5,o6⟩:=id m
 have ty:s.TypeIs (.ref it) "dict_itemiterator" := ⟨_,hi,rfl⟩
 have sz:=jp o4
 unfold pyNext
 refine ab (gv (b6 (name:=Str.ofString "__next__") ty cy (ci cy ty gs ?_ (gg _))))
 refine ab (ae (ab (ab ?_)))
 first | refine ab (db ty (ae ?_)) | refine ab (d5 ty (ae ?_))
 refine ab (mS hi rfl ?_)
 have own:Builtin.Dict_items.ownsTuple "dict_itemiterator" = true:=by decide
 simp only[own,f8]
 show wpAny _ _ (if (Value.ref d == Value.none)=true then _ else _) (λ_ _=>_) _ s
 rw[ax (by intro z;cases z)]
 refine ab (ae (ab (j3 o1 o3 ?_)))
 rw[ax (by rw[sz];simp)]
 refine ab (ae (ab (kB o1 o3 ?_)))
 rw[ax (by simp)]
 refine ae ?_
 simp only[show ¬ ((i:Int) < 0) by omega,fT,ga,ja (show es.size<=i by omega)]
 refine ab ?_
 first | refine ab (db ty (ae ?_)) | refine ab (d5 ty (ae ?_))
 show wpAny _ _ (setField (.ref it) 2 .none >>= λ_=>_) _ _ s
 refine ab (i6 hi rfl (by simp) ?_)
 show wpAny _ _ (newExc (.type "StopIteration") [] >>= λ_=>_) _ _ _
 refine ab ?_
 simp only[newExc,newTuple]
 refine ab (bS (ab (m:=firstArgMember _ _) (fk (a:=Value.none) (by first | rfl | (simp only[firstArgMember];rfl)) (bS ?_ (by size_fits)))) (by size_fits))
 simp only[raiseNew]
 refine ab (nS ?_)
 rw[show A.in1.handled=none by exact hh]
 refine ab (ae (pS ?_))
 refine ab (gl (b:=true) (T := "StopIteration") ⟨_,am _ rfl,rfl⟩ mN ?_)
 exact ae (q _ (((eg ..).extBut.push _).push _))
def UD (h:Heap)(it d S:Addr)(i n:Nat):Prop:=(i=0/\∃ok ov,IsItemIter h it d 0 n n ok ov)\/∃ok ov a fl oa,KdxIt h it d i n n ok ov a fl/\h.get? a=some oa/\a≠it/\a≠S
theorem UD.keep {h h':Heap}{n:Nat}(x:UD h it d S i n)(hk:∀b o,b≠S->h.get? b=some o->h'.get? b=some o)(hI:it≠S):UD h' it d S i n:=by
 rcases x with ⟨e,ok,ov,q⟩ | ⟨ok,ov,a,fl,oa,q,ha,n1,n2⟩
 ·exact .inl ⟨e,ok,ov,hk _ _ hI q⟩
 ·exact .inr ⟨ok,ov,a,fl,oa,hk _ _ hI q,hk _ _ n2 ha,n1,n2⟩
theorem Rq {b:Addr}(st:UD s.heap it d S i xs.length)(hS:S < s.heap.objs.size)(m:A5 kd s.heap d xs)(hx:xs[i]?=some (k,b,v))
  (q:∀h',UD h' it d S (i+1) xs.length->h'.get? s.heap.objs.size=some { cls:=.type "tuple",data:=.seq #[.ref b,v] }->h'.objs.size=s.heap.objs.size+1->
   (∀c o,c≠it->s.heap.get? c=some o->h'.get? c=some o)->Q (some (.ref s.heap.objs.size)) { s with heap:=h' }):wpAny (model prog w) A (pyNext (.ref it)) Q E s:=by
 rcases st with ⟨rfl,ok,ov,hi⟩ | ⟨ok,ov,a,fl,oa,hi,ha,n1,n2⟩
 ·exact P0 hi m hx λh' e1 e2 e3 e4=>q h' (.inr ⟨_,_,_,false,_,e1,e2,dE (ap hi),dE hS⟩) e2 e3 e4
 ·exact P_ hi ha n1 m hx λh' e1 e2 e3 e4=>q h' (.inr ⟨ok,ov,a,true,oa,e1,e4 a oa n1 ha,n1,n2⟩) e2 e3 e4
theorem Rr (hh:A.handled=none)(st:UD s.heap it d S i xs.length)(m:A5 kd s.heap d xs)(hx:xs.length<=i)
  (q:∀h',Heap.ExtBut it s.heap h'->Q none { s with heap:=h' }):wpAny (model prog w) A (pyNext (.ref it)) Q E s:=by
 rcases st with ⟨rfl,ok,ov,hi⟩ | ⟨ok,ov,a,fl,oa,hi,ha,n1,n2⟩
 ·exact Ro hh hi m hx q
 ·exact Rp hh hi m hx q
def Vh (h:Heap)(lo:Addr)(xs:List (κ×Addr×Value))(as:qV):Prop:=∀(j:Nat) (c:Addr),as[j]?=some c->lo < c/\∃k b v,xs[j]?=some (k,b,v)/\h.get? c=some { cls:=.type "tuple",data:=.seq #[.ref b,v] }
theorem tH {h h':Heap}(m:A5 kd h d xs)(kp:∀(x:κ) (b:Addr),kd.is h x b->kd.is h' x b)(hd:∀o,h.get? d=some o->h'.get? d=some o):A5 kd h' d xs:=by
 obtain⟨o,es,o1,o2,o3,o4,o5,o6⟩:=m
 exact⟨o,es,hd o o1,o2,o3,o4,λx hx=>kp _ _ (o5 x hx),o6⟩
theorem Rt {R:Result->Shared->Prop}{I:Addr}(hh:A.handled=none)(SY:S < I)(XO:d≠S)(hId:d≠I)(hn:xs.length<=sizeLine)(res:Value){h₁:Heap}
  (kp:∀h h':Heap,(∀b o,h.get? b=some o->o.cls=.type "tuple" -> h'.get? b=some o)->∀(x:κ) (b:Addr),kd.is h x b->kd.is h' x b)
  (hR:∀h' tk acc c as,(∀b o,b≠S->b≠I->h₁.get? b=some o->h'.get? b=some o)->h'.get? S=some { cls:=.type "list",dict:=none,data:=.seq acc c,slots:=#[] }->as.length=xs.length->Vh h' I xs as->
   acc.toList=as.map Value.ref->R (.ok (.ret res)) { s with heap:=h',toks:=tk }):
  ∀(j i:Nat) (h:Heap) (tk c:Nat) (acc:q5) (as:qV),xs.length - i=j->i<=xs.length->UD h I d S i xs.length->A5 kd h d xs->(∀b o,b≠S->b≠I->h₁.get? b=some o->h.get? b=some o)->
   h.get? S=some { cls:=.type "list",dict:=none,data:=.seq acc c,slots:=#[] }->acc.toList=as.map Value.ref->as.length=i->Vh h I xs as->I < h.objs.size->
   codeAny (model prog w) A (.builtin "list.extend.loop" ⟨[.ref S,.ref I,res],[]⟩) R { s with heap:=h,toks:=tk }:=by
 have A3:S≠I:=bg SY
 intro j
 induction j with
 | zero=>
  intro i h tk c acc as hk hi D5 hD keep hS CH Kk hG Wh
  refine gd ng ?_
  rw[fI eC _]
  show wpAny _ A.in1 (pyNext (.ref I) >>= _) _ _ _
  refine ab (Rr (s:={ s with heap:=h,toks:=tk }) (A:=A.in1) hh D5 hD (by omega) λh' he=>?_)
  refine ae (hR h' tk acc c as (λb o n1 n2 e=>he b o n2 (keep b o n1 n2 e)) (he S _ A3 hS) (by omega) (λj c hj=>?_) CH)
  obtain⟨e0,k,b,v,e1,e2⟩:=hG j c hj
  exact⟨e0,k,b,v,e1,he c _ (dE e0) e2⟩
 | succ j ih=>
  intro i h tk c acc as hk hi D5 hD keep hS CH Kk hG Wh
  have BE:i < xs.length:=by omega
  obtain⟨⟨kk,b,x⟩,hx⟩:∃p,xs[i]?=some p:=⟨xs[i],af BE⟩
  have hsz:acc.size=i:=by rw[← gL,CH,aI,Kk]
  refine gd ng ?_
  rw[fI eC _]
  show wpAny _ A.in1 (pyNext (.ref I) >>= _) _ _ _
  refine ab (Rq (s:={ s with heap:=h,toks:=tk }) (S:=S) D5 (ap hS) hD hx λh' BU ht hz Vi=>?_)
  dsimp only at ht hz Vi ⊢
  have Iq:=Vi S _ A3 hS
  have up:∀b o,b≠S->h'.get? b=some o->(h'.update S (Obj.mapSeq (·.push (Value.ref h.objs.size)))).get? b=some o:=λb o hb e=>(df _ _ (fN hb)).trans e
  have hSl:S < h.objs.size:=ap hS
  have tS:∀b o,h.get? b=some o->o.cls=.type "tuple" -> b≠S:=λb o e q z=>by rw[z,hS] at e;cases e;exact absurd (kc q) (by decide)
  have tI:∀b o,h.get? b=some o->o.cls=.type "tuple" -> b≠I:=λb o e q z=>by
   rcases D5 with ⟨_,ok,ov,y⟩ | ⟨ok,ov,a,fl,oa,y,_⟩ <;> (rw[z,y] at e;cases e;exact absurd (kc q) (by decide))
  show wpAny _ A.in1 (updateSeq S (·.push (Value.ref h.objs.size)) >>= _) _ _ _
  refine ab ?_
  refine js Iq rfl (ae ⟨gX eC _,ih (i+1) _ tk _ (acc.push (Value.ref h.objs.size)) (as++[h.objs.size]) (by omega) BE (BU.keep up (fN A3))
   (tH hD (kp _ _ λb o e q=>up b o (tS b o e q) (Vi b o (tI b o e q) e)) λo e=>up d o XO (Vi d o hId e))
   (λb o n1 n2 e=>up b o n1 (Vi b o n2 (keep b o n1 n2 e))) (cE _ Iq rfl) (by rw[Array.toList_push,CH,dc];rfl) (by rw[bo,Kk];rfl) ?_ ?_⟩) (by rw[hsz];omega) (by rw[Array.size_push,hsz];omega)
  ·intro j c hj
   rcases Nat.lt_trichotomy j as.length with h1 | h1 | h1
   ·rw[d0 h1] at hj
    obtain⟨e0,k',b',v',e1,e2⟩:=hG j c hj
    exact⟨e0,k',b',v',e1,up c _ (dE (mm SY e0)) (Vi c _ (dE e0) e2)⟩
   ·subst h1
    have hb:h.objs.size=c:=by simpa using hj
    subst hb
    exact⟨Wh,kk,b,x,by rw[Kk];exact hx,up _ _ (dE hSl) ht⟩
   ·rw[cS (by rw[bo,fm];omega)] at hj;cases hj
  ·have e:(h'.update S (Obj.mapSeq (·.push (Value.ref h.objs.size)))).get? h.objs.size=_:=up _ _ (dE hSl) ht
   exact mm Wh (ap e)
end
end Lake.L2
namespace Lake.HT
open PySem PyProof.Rows
def Qa (A:Around)(s:Shared)(x y:Value)(r:Bool):Prop:=∀(prog:Program) (w:World) (E Q:oT),Q (.bool r) s->wpAny (model prog w) A (richCompare .Lt x y) Q E s
section
open PySem.SeqAt
open PySem.AutoSeq1 (wpAny_loadPart')
open PySem.MeetsSeq PySem.MeetsSeq2 PySem.MeetsSeq3
theorem G0 (l b:Addr)(x1 x2 y1 y2:Value)(n n2:Nat)(dd Sl:Option Addr)(sl Sm:Array (Option Value))(e1 e2 r1 r2:Bool):
  Meets (Builtin.«tuple.__lt__» ⟨[.ref l,.ref b],[]⟩)
   (λA R s=>s.heap.get? l=some { cls:=.type "tuple",dict:=dd,data:=.seq #[x1,x2] n,slots:=sl }/\s.heap.get? b=some { cls:=.type "tuple",dict:=Sl,data:=.seq #[y1,y2] n2,slots:=Sm } /\
    EqAt A.in1 s x1 y1 e1/\(e1=true->EqAt A.in1 s x2 y2 e2)/\(e1=false->Qa A.in1 s x1 y1 r1)/\(e1=true->e2=false->Qa A.in1 s x2 y2 r2) /\
    R (.ok (.ret (.bool (if e1=true then (if e2=true then false else r2) else r1)))) s):=
 .of_wp λprog w A R s h=>by
  obtain⟨hp,g,d,tk,os⟩:=s;obtain⟨hl,hb,q1,q2,q3,q4,h⟩:=h
  have f2:=AutoSeq1.sub_tuple_tuple
  wp_walk using ix hl,ix hb,nX _ (λrest b s'=>b.1=none/\s'=⟨hp,g,d,tk,os⟩/\(rest=[(x1,y1),(x2,y2)]\/(rest=[(x2,y2)]/\e1=true)\/(rest=[]/\e1=true/\e2=true))) _
  case turn=>
   rintro ⟨y,x⟩ rest b s' ⟨QI,rfl,hz⟩
   rcases hz with hz | ⟨hz,SR⟩ | ⟨hz,_⟩
   ·injection hz with Za Nc
    injection Za with hy hx
    subst hy hx
    refine ab (q1 prog w _ _ ?_)
    cases e1 with
    | true=>
     wp_walk
     exact⟨rfl,rfl,.inr (.inl ⟨Nc,rfl⟩)⟩
    | false=>
     have Zb:=q3 rfl prog w
     wp_walk using Zb
     exact⟨_,rfl,by simpa using h⟩
   ·injection hz with Za Nc
    injection Za with hy hx
    subst hy hx SR
    refine ab (q2 rfl prog w _ _ ?_)
    cases e2 with
    | true=>
     wp_walk
     exact⟨rfl,rfl,.inr (.inr ⟨Nc,rfl,rfl⟩)⟩
    | false=>
     have Zb:=q4 rfl rfl prog w
     wp_walk using Zb
     exact⟨_,rfl,by simpa using h⟩
   ·cases hz
  case fin=>
   rintro ⟨b1,b2⟩ s' ⟨QI,rfl,hz⟩
   simp only at QI
   subst QI
   rcases hz with hz | ⟨hz,SR⟩ | ⟨_,SR,OV⟩
   ·cases hz
   ·cases hz
   ·subst SR OV
    wp_walk
    exact⟨_,rfl,by simpa [Builtin.Tuple.tupleCompareSizes] using h⟩
  case h=>
   exact⟨rfl,rfl,.inl rfl⟩
end
end Lake.HT
namespace Lake.L2
open PySem PySem.Spec PyProof.Rows
open PySem.W (KasT kas_asc kas_desc kas_tail3 kas_descPart kas_count kas_place kas_bin kas_sort kas_rev)
def v8 {α:Type}(lt:Nat->Nat->Bool):KasT α->α
 | .ret a=>a
 | .ask i j k=>v8 lt (k (lt i j))
def ET {α:Type}(n:Nat)(P:α->Prop):KasT α->Prop
 | .ret a=>P a
 | .ask i j k=>i < n/\j < n/\∀b,ET n P (k b)
variable {p:Array Nat}
section
variable {α β:Type}{n:Nat}
theorem ET.bind {P:α->Prop}{R:β->Prop}{f:α->KasT β}(hf:∀a,P a->ET n R (f a)):∀t:KasT α,ET n P t->ET n R (t.bind f)
 | .ret a,h=>hf a h
 | .ask i j k,h=>⟨h.1,h.2.1,λb=>ET.bind hf (k b) (h.2.2 b)⟩
theorem ET.run {P:α->Prop}(lt:Nat->Nat->Bool):∀t:KasT α,ET n P t->P (v8 lt t)
 | .ret _,h=>h
 | .ask _ _ k,h=>ET.run lt (k _) (h.2.2 _)
theorem ET.wp {P:α->Prop}{lt:Nat->Nat->Bool}{s:Shared}{cmp:Nat->Nat->(Bool->Shared->Prop)->Shared->Prop}(hc:∀i j (C:Bool->Shared->Prop),i < n->j < n->C (lt i j) s->cmp i j C s){Q:α->Shared->Prop}:∀t:KasT α,ET n P t->Q (v8 lt t) s->t.kasWp cmp Q s
 | .ret _,_,q=>q
 | .ask i j k,h,q=>hc i j _ h.1 h.2.1 (ET.wp hc (k _) (h.2.2 _) q)
def Rw (n:Nat)(p:Array Nat):Prop:=p.Perm (List.range n).toArray
theorem Rw.at (h:Rw n p)(hn:0 < n)(i:Nat):p.getD i 0 < n:=by
 by_cases hi:i < p.size
 ·have e:p.getD i 0=p[i]:=by simp[Array.getD,hi]
  rw[e]
  have m:p[i]∈(List.range n).toArray:=(Array.Perm.mem_iff h).mp (Array.getElem_mem hi)
  simpa using m
 ·have e:p.getD i 0=0:=by simp[Array.getD,hi]
  rw[e];exact hn
theorem Rw.rev (h:Rw n p)(i j:Nat):Rw n (kas_rev p i j):=(mirror_perm _ _ _ _).trans h
theorem Rw.bub (h:Rw n p)(i j:Nat):Rw n (bubble p i j):=(bubble_perm _ _ _).trans h
theorem zN {p:Array Nat}(h:Rw n p)(hn:0 < n):∀f m,ET n (λ_=>True) (kas_asc p f m)
 | 0,_=>trivial
 | f+1,m=>⟨h.at hn _,h.at hn _,λc=>by
  cases c with
  | true=>exact trivial
  | false=>exact zN h hn f (m+1)⟩
theorem rB (hn:0 < n):∀f (p:Array Nat) m q,Rw n p->ET n (λr=>Rw n r.1) (kas_desc f p m q)
 | 0,p,_,_,h=>h
 | f+1,p,m,q,h=>⟨h.at hn _,h.at hn _,λc=>by
  cases c with
  | true=>
   show ET n _ (if q > 0 then kas_desc f (kas_rev p (m - (q+1)) m) (m+1) 0 else kas_desc f p (m+1) 0)
   split
   ·exact rB hn f _ _ _ (h.rev _ _)
   ·exact rB hn f _ _ _ h
  | false=>
   refine⟨h.at hn _,h.at hn _,λd=>?_⟩
   cases d with
   | true=>exact h
   | false=>exact rB hn f _ _ _ h⟩
theorem zO (h:Rw n p)(hn:0 < n)(m r:Nat):ET n (λr=>Rw n r.2) (kas_tail3 m r p):=by
 unfold kas_tail3
 refine ET.bind (P:=λ_=>True) (λ_ _=>?_) _ (zN (h.rev 0 m) hn _ _)
 exact h.rev 0 m
theorem su (h:Rw n p)(hn:0 < n)(m r:Nat):ET n (λr=>Rw n r.2) (kas_descPart m r p):=ET.bind (λa ha=>by
 split
 ·exact zO (ha.rev _ _) hn _ _
 ·exact zO ha hn _ _) _ (rB hn _ _ _ _ h)
theorem Jh (h:Rw n p)(hn:0 < n)(r:Nat):ET n (λr=>Rw n r.2) (kas_count r p):=ET.bind (λa _=>by
 split
 ·exact h
 ·split
  ·refine⟨h.at hn _,h.at hn _,λc=>?_⟩
   cases c with
   | true=>exact h
   | false=>exact su (h.rev _ _) hn _ _
  ·exact su h hn _ _) _ (zN h hn _ _)
theorem tK {p:Array Nat}(h:Rw n p)(hn:0 < n)(k:Nat):∀f l r,ET n (λ_=>True) (kas_place p k f l r)
 | 0,_,_=>trivial
 | f+1,l,r=>by
  unfold kas_place
  split
  ·exact trivial
  ·refine⟨h.at hn _,h.at hn _,λc=>?_⟩
   cases c with
   | true=>exact tK h hn k f _ _
   | false=>exact tK h hn k f _ _
theorem G6 (hn:0 < n):∀f (p:Array Nat) k,Rw n p->ET n (Rw n) (kas_bin f p k)
 | 0,_,_,h=>h
 | f+1,p,k,h=>ET.bind (λ_ _=>G6 hn f _ _ (h.bub _ _)) _ (tK h hn k _ _ _)
theorem Cy (hn:0 < n):ET n (Rw n) (kas_sort n):=ET.bind (λr h=>by
 split
 ·exact G6 hn _ _ _ h
 ·exact h) _ (Jh (Array.Perm.refl _) hn n)
end
noncomputable def my (lt:Nat->Nat->Bool)(n:Nat):List Nat:=if n < 2 then List.range n else (v8 lt (kas_sort n)).toList
theorem k_ (lt:Nat->Nat->Bool)(n:Nat):(my lt n).Perm (List.range n):=by
 unfold my
 split
 ·exact List.Perm.refl _
 ·have:=(Cy (n:=n) (by omega)).run lt
  have h:((v8 lt (kas_sort n)).toList).Perm ((List.range n).toArray.toList):=Array.perm_iff_toList_perm.mp this
  simpa using h
noncomputable def XQ (p q:Int×Str):Bool:=if decide (p.1=q.1)=true then (if decide (p.2=q.2)=true then false else decide (p.2.cps.toList < q.2.cps.toList)) else decide (p.1 < q.1)
noncomputable def ltI (p q:(Int×Str)×Int):Bool:=if decide (p.1=q.1)=true then (if decide (p.2=q.2)=true then false else decide (p.2 < q.2)) else XQ p.1 q.1
def Nd (h:Heap)(p:Int×Str)(b:Addr):Prop:=∃t u,IsTup h b #[.int p.1 t,.str p.2 u]
def XR (h:Heap)(p:(Int×Str)×Int)(c:Addr):Prop:=∃b t,IsTup h c #[.ref b,.int p.2 t]/\Nd h p.1 b
section
variable {prog:Program}{w:World}{A:Around}{E:oT}{s:Shared}
theorem G7 {p:Int×Str}{b:Addr}(h:Nd s.heap p b):CC (CO 0 s.heap) s.heap [.k (.inl p.1),.k (.inr p.2)] b:=by
 obtain⟨t,u,o,h1,h2,n,h3⟩:=h
 exact⟨o,_,n,h1,h2,h3,.cons ⟨_,rfl,lK (pU _ _)⟩ (.cons ⟨_,rfl,lK (pW _ _)⟩ .nil)⟩
theorem Qc {p q:Int×Str}{b d:Addr}(hu:A.units+1 < cLine)(hx:Nd s.heap p b)(hy:Nd s.heap q d):SeqAt.EqAt A s (.ref b) (.ref d) (decide (p=q)):=by
 have h:=Dn (A:=A) (R:=CO 0 s.heap) (λx y v=>CO.inj x y v) (by omega) (G7 hx) (G7 hy) λp q u v h1 h2=>CO.eq p q u v (by rw[in1_units];omega) h1 h2
 have e:decide (([.k (.inl p.1),.k (.inr p.2)]:List AG)=[.k (.inl q.1),.k (.inr q.2)])=decide (p=q):=by
  obtain⟨p1,p2⟩:=p
  obtain⟨q1,q2⟩:=q
  by_cases z:p1=q1 <;> by_cases z2:p2=q2 <;> simp[z,z2]
 rw[← e];exact h
theorem Qd {p q:Int×Str}{b d:Addr}(hu:A.units+1 < cLine)(hx:Nd s.heap p b)(hy:Nd s.heap q d){Q:oT}(h:Q (.bool (XQ p q)) s):wpAny (model prog w) A (compareOp .Lt (.ref b) (.ref d)) Q E s:=by
 obtain⟨t,u,⟨cls,dd,data,sl⟩,ho,hc,n,hd⟩:=hx
 obtain⟨t',u',⟨VP,Sl,data2,Sm⟩,L5,MG,n2,hd2⟩:=hy
 simp only at hc hd MG hd2
 subst hc hd MG hd2
 refine richCompare_meets_room (op:=.Lt) ⟨_,ho,rfl⟩ ⟨_,L5,rfl⟩ PySem.F.slot_tuple_lt PySem.F.entry_tuple_lt (PySem.F.args_tuple_lt_2 _ _) (HT.G0 b d _ _ _ _ n n2 dd Sl sl Sm (decide (p.1=q.1)) (decide (p.2=q.2)) (decide (p.1 < q.1)) (decide (p.2.cps.toList < q.2.cps.toList)))
  ⟨ho,L5,?_,λ_=>?_,λ_ prog w E Q q=>?_,λ_ _ prog w E Q q=>?_,?_⟩ (by omega)
 ·have:=mE (A:=A.in1) (s:=s) p.1 t q.1 t'
  rw[pz] at this
  exact this
 ·have:=SeqAt.EqAt.str_str (A:=A.in1) (s:=s) p.2 u q.2 u'
  rw[show (p.2 == q.2)=decide (p.2=q.2) by by_cases z:p.2=q.2 <;> simp[z]] at this
  exact this
 ·exact lt_int q
 ·exact lt_str q
 ·exact(show Value.bool (XQ p q)≠Value.notImplemented/\Q (.bool (XQ p q)) s from ⟨(λx=>nomatch x),h⟩)
theorem Qe {p q:(Int×Str)×Int}{c d:Addr}(hu:A.units+1 < cLine)(hx:XR s.heap p c)(hy:XR s.heap q d){Q:Bool->Shared->Prop}(h:Q (ltI p q) s):wpAny (model prog w) A (keyLt' (tuples' false) (.ref c) (.ref d)) Q E s:=by
 obtain⟨b,t,⟨o,h1,h2,n,h3⟩,kb⟩:=hx
 obtain⟨b',t',⟨o',Uv,Wk,n',XE⟩,kb'⟩:=hy
 refine W.kat_lt h1 h3 Uv XE ?_
 refine W.kat_cons ((Qc hu kb kb') _ _ _ _ ?_)
 unfold ltI at h
 refine W.kat_go (λe=>W.kat_yes ?_) λe=>W.kat_no ?_
 ·rw[e] at h
  simp only[f8] at h
  refine W.kat_cons ?_
  have key:=mE (A:=A) (s:=s) p.2 t q.2 t'
  rw[pz] at key
  refine key _ _ _ _ ?_
  refine W.kat_go (λe2=>W.kat_yes (W.kat_nil ?_)) λe2=>W.kat_no ?_
  ·rw[e2] at h
   simpa using h
  ·rw[e2] at h
   simp only[eJ,fT] at h
   exact W.kat_one _ _ (lt_int h)
 ·rw[e] at h
  simp only[eJ,fT] at h
  exact W.kat_one _ _ (Qd hu kb kb' h)
variable {κ:Type}[DecidableEq κ]{kd:HeapKind prog w κ}{d r S:Addr}{xs:List (κ×Addr×Value)}
theorem LQ {R:Result->Shared->Prop}(hh:A.handled=none)(hv:s.heap.IsItemsView r d)(m:A5 kd s.heap d xs)
  (kp:∀h h':Heap,(∀b o,h.get? b=some o->o.cls=.type "tuple" -> h'.get? b=some o)->∀(x:κ) (b:Addr),kd.is h x b->kd.is h' x b)
  (hSr:S≠r) (XO:d≠S) (res:Value) (c₀:Nat) (hS:s.heap.get? S=some { cls:=.type "list",data:=.seq #[] c₀ })
  (hR:∀h' tk acc c as,(∀b o,b≠S->s.heap.get? b=some o->h'.get? b=some o)->h'.get? S=some { cls:=.type "list",dict:=none,data:=.seq acc c,slots:=#[] }->as.length=xs.length->Vh h' s.heap.objs.size xs as->
   acc.toList=as.map Value.ref->R (.ok (.ret res)) { s with heap:=h',toks:=tk }) (hn:xs.length<=sizeLine):
  wpAny (model prog w) A.in1 (Builtin.List.listExtendWith (.ref S) (.ref r) res)
   (λfin s'=>match fin with | .done f=>R (.ok f) s' | .again c'=>c'.quiet=true/\codeAny (model prog w) A c' R s') (λe s'=>R (.error e) s') s:=by
 have SY:S < s.heap.objs.size:=ap hS
 have hdI:d < s.heap.objs.size:=by obtain⟨o,es,o1,_⟩:=m;exact ap o1
 have key:∀(h:Heap) (c₁ tk:Nat),(∀b o,b≠S->(s.heap.push { cls:=.type "dict_itemiterator",data:=.fields #[.none,.bool false,.ref d,.int 0 0,.int xs.length 0,.int xs.length 0,.none,.none] }).get? b=some o->h.get? b=some o)->
   h.get? S=some { cls:=.type "list",data:=.seq #[] c₁ }->codeAny (model prog w) A (.builtin "list.extend.loop" ⟨[.ref S,.ref s.heap.objs.size,res],[]⟩) R { s with heap:=h,toks:=tk }:=by
  intro h c₁ tk hk Nl
  have hI:=hk s.heap.objs.size _ (dE SY) (am _ rfl)
  have tS:∀b o,s.heap.get? b=some o->o.cls=.type "tuple" -> b≠S:=λb o e q z=>by rw[z,hS] at e;cases e;exact absurd (kc q) (by decide)
  refine Rt (kd:=kd) (xs:=xs) (s:=s) (h₁:=s.heap) hh SY XO (bg hdI) hn res kp (λh' XS acc c as GH Iq hl hG CH=>hR h' XS acc c as (λb o hb e=>GH b o hb (bg (ap e)) e) Iq hl hG CH)
   xs.length 0 h tk c₁ #[] [] (Nat.sub_zero _) (ce _) (.inl ⟨rfl,.none,.none,hI⟩) (tH m (kp _ _ λb o e q=>hk b o (tS b o e q) (ac _ e)) λo e=>hk d o XO (ac _ e)) (λb o hb _ e=>hk b o hb (ac _ e)) Nl rfl rfl
   (λj a hj=>by simp at hj) (ap hI)
 unfold Builtin.List.listExtendWith
 refine ab (iN (T := "dict_items") hv.typeIs ?_)
 have g1:Builtin.List.listSameRef (.ref S) (.ref r)=false:=by simp[Builtin.List.listSameRef,hSr]
 have g2:(Value.type "dict_items" == Value.type "list")=false:=by decide
 have g3:(Value.type "dict_items" == Value.type "tuple")=false:=by decide
 simp only[g1,g2,g3,Bool.or_false,eJ,fT]
 refine ab (PX hv m λh' eh=>?_)
 subst eh
 have Nl:=ac { cls:=.type "dict_itemiterator",data:=.fields #[.none,.bool false,.ref d,.int 0 0,.int xs.length 0,.int xs.length 0,.none,.none] } hS
 refine ab (dQ (W.kdx_hint (let ⟨o,ho,hc,_⟩:=hv;⟨o,ac _ ho,hc⟩) ?_))
 refine wpAny_ite_split (λ_=>?_) (λ_=>ae ⟨gX eC _,key _ c₀ _ (λb o _ e=>e) Nl⟩)
 refine ab (hU ?_)
 refine ab ?_
 show wpAny _ _ (updateSeq S (·.push .none) >>= λ_=>updateSeq S (·.pop)) _ _ _
 refine ab (js Nl rfl ?_)
 have Wl:=cE (Obj.mapSeq (·.push Value.none)) Nl rfl
 refine js (hz:=by seq_fits) Wl rfl ?_
 have Zc:=cE (Obj.mapSeq (·.pop)) Wl rfl
 refine ae ⟨gX eC _,key _ _ _ (λb o hb e=>?_) Zc⟩
 exact(df _ _ (fN hb)).trans ((df _ _ (fN hb)).trans e)
theorem Ji {R:List Value->Shared->Prop}(hh:A.handled=none)(hv:s.heap.IsItemsView r d)(m:A5 kd s.heap d xs)
  (kp:∀h h':Heap,(∀b o,h.get? b=some o->o.cls=.type "tuple" -> h'.get? b=some o)->∀(x:κ) (b:Addr),kd.is h x b->kd.is h' x b) (hn:xs.length<=sizeLine)
  (q:∀h' tk as,(∀b o,s.heap.get? b=some o->h'.get? b=some o)->s.heap.objs.size < h'.objs.size->as.length=xs.length->Vh h' s.heap.objs.size xs as->R (as.map Value.ref) { s with heap:=h',toks:=tk }):wpAny (model prog w) A (collect (.ref r)) R E s:=by
 have lr:r < s.heap.objs.size:=by obtain⟨o,ho,_⟩:=hv;exact ap ho
 have ld:d < s.heap.objs.size:=by obtain⟨o,es,o1,_⟩:=m;exact ap o1
 unfold collect
 refine ab (wpAny_runValue (gd entry_proto_collect' ?_))
 rw[fI PySem.F.plain_proto_collect _]
 show wpAny _ A.in1 (newList [] >>= λl=>again (.builtin "list.__iadd__" ⟨[l,.ref r],[]⟩)) _ _ s
 refine ab (bS ?_)
 refine ae ⟨gX oz _,gd entry_list_iadd' ?_⟩
 rw[fI oz _]
 have Nl:(s.heap.push { cls:=.type "list",data:=.seq ([]:qv).toArray }).get? s.heap.objs.size=some { cls:=.type "list",data:=.seq #[] }:=am _ rfl
 show wpAny _ A.in1 (Builtin.List.listExtendWith (.ref s.heap.objs.size) (.ref r) (.ref s.heap.objs.size)) _ _ _
 have hv1:(s.heap.push { cls:=.type "list",data:=.seq ([]:qv).toArray }).IsItemsView r d:=by obtain⟨o,ho,e⟩:=hv;exact⟨o,ac _ ho,e⟩
 have m1:A5 kd (s.heap.push { cls:=.type "list",data:=.seq ([]:qv).toArray }) d xs:=tH m (kp _ _ λb o e _=>ac _ e) λo e=>ac _ e
 have key:=LQ (A:=A) (s:={ s with heap:=s.heap.push { cls:=.type "list",data:=.seq ([]:qv).toArray } }) (S:=s.heap.objs.size)
  (R:=λ(z:Result) (s':Shared)=>∃(h':Heap) (tk:Nat) (acc:q5) (c:Nat) (as:qV),z=.ok (.ret (.ref s.heap.objs.size))/\s'={ s with heap:=h',toks:=tk } /\
   (∀b o,s.heap.get? b=some o->h'.get? b=some o)/\h'.get? s.heap.objs.size=some { cls:=.type "list",dict:=none,data:=.seq acc c,slots:=#[] }/\as.length=xs.length/\Vh h' s.heap.objs.size xs as/\acc.toList=as.map Value.ref)
  hh hv1 m1 kp (dE lr) (bg ld) (.ref s.heap.objs.size) 0 Nl
  (λh' tk acc c as hk Iq hl hG CH=>⟨h',tk,acc,c,as,rfl,rfl,λb o e=>hk b o (bg (ap e)) (ac _ e),Iq,hl,λj c hj=>by
   obtain⟨e0,e1⟩:=hG j c hj
   have e0:(s.heap.push { cls:=.type "list",data:=.seq ([]:qv).toArray }).objs.size < c:=e0
   rw[size_push'] at e0
   exact⟨mm (g0 _) e0,e1⟩,CH⟩) hn
 refine fA key (λfin s' x=>?_) λe s' x=>?_
 ·cases fin with
  | done f=>
   obtain⟨h',tk,acc,c,as,e,rfl,hk,Iq,hl,hG,CH⟩:=x
   cases e
   show wpAny _ A (load s.heap.objs.size >>= _) _ _ _
   refine ab (oC Iq (ae ?_))
   show R acc.toList _
   rw[CH]
   exact q h' tk as hk (ap Iq) hl hG
  | again c₁=>
   refine⟨x.1,ml x.2 λz s₂ y=>?_⟩
   obtain⟨h',tk,acc,c,as,rfl,rfl,hk,Iq,hl,hG,CH⟩:=y
   show wpAny _ A (load s.heap.objs.size >>= _) _ _ _
   refine ab (oC Iq (ae ?_))
   show R acc.toList _
   rw[CH]
   exact q h' tk as hk (ap Iq) hl hG
 ·obtain⟨_,_,_,_,_,e',_⟩:=x
  cases e'
end
open PySem.W (kas_sort kas_ask kat_run kat_snds kat_kind KatTups)
section
variable {prog:Program}{w:World}{A:Around}{E:oT}{s:Shared}
noncomputable def jN (lt:Nat->Nat->Bool)(vs:qv):List Value:=(my lt vs.length).map λi=>vs.getD i Value.none
theorem Jj (lt:Nat->Nat->Bool)(vs:qv):(jN lt vs).length=vs.length:=by
 unfold jN
 rw[aI,(k_ lt vs.length).length_eq,fg]
theorem Ep {lt:Nat->Nat->Bool}{vs:qv}(h:vs.length < 2):jN lt vs=vs:=by
 unfold jN my
 rw[bd h]
 match vs,h with
 | [],_=>rfl
 | [v],_=>rfl
 | _::_::_,h=>exact absurd h (by simp only[bv];omega)
theorem LR (vs:qv):(vs.toArray.zip vs.toArray).map (·.2)=vs.toArray:=by
 apply Array.toList_inj.mp
 simp[List.map_snd_zip]
noncomputable def iy (h:Heap)(a:Addr)(vs:qv):Heap:=((h.update a (Obj.mapSeq λ_=>(#[]:q5))).push (seqObj "tuple" vs.toArray 0)).push (seqObj "list" #[] 0)
theorem Jk {h:Heap}{a b:Addr}{vs:qv}{o:Obj}(hb:b≠a)(e:h.get? b=some o):(iy h a vs).get? b=some o:=
 ac _ (ac _ ((df _ _ (fN hb)).trans e))
theorem Qf {a:Addr}{vs:qv}{n:Nat}{P:PySem.Fin->Shared->Prop}(lt:Nat->Nat->Bool)(ho:s.heap.get? a=some (seqObj "list" vs.toArray n))(Vf:vs.length < 64)
  (hk:2<=vs.length->∀Q:SortKind->Shared->Prop,Q (tuples' false) { s with heap:=iy s.heap a vs }->wpAny (model prog w) A (keyKind' vs.toArray) Q (λ_ _=>False) { s with heap:=iy s.heap a vs })
  (hc:∀i j (C:Bool->Shared->Prop),i < vs.length->j < vs.length->C (lt i j) { s with heap:=iy s.heap a vs }->kas_ask prog w A (tuples' false) vs i j C { s with heap:=iy s.heap a vs })
  (h:P (.done (.ret .none)) { s with heap:=sortedHeap s.heap a vs (jN lt vs).toArray }):
  wpAny (model prog w) A (Builtin.«list.sort» ⟨[.ref a],[]⟩) P E s:=by
 rw[list_sort_plain]
 have ha:a < s.heap.objs.size:=ap ho
 have hz:vs.length<=sizeLine:=by rw[i9];omega
 refine ab (listItems_at ho rfl ?_)
 refine ab (listUpdate_at ho rfl ?_ (by rw[ay,i9];omega) (ce _))
 obtain⟨e1,Vj⟩:∃e1,(s.heap.update a (Obj.mapSeq λ_=>#[])).get? a=some (seqObj "list" #[] e1):=⟨_,get?_update_seq ho (λ_=>#[])⟩
 refine ab (seqEpoch_at Vj rfl ?_)
 refine ab (mM ?_ (by show vs.length<=_;exact hz))
 refine ab (wpAny_newList ?_ (ce _))
 refine dQ ?_
 have XT:(iy s.heap a vs).get? a=some (seqObj "list" #[] e1):=by
  unfold iy
  rw[Heap.get?_push_ne _ _ _ (by rw[size_push',Heap.size_update];exact bg (Nat.lt_succ_of_lt ha)),Heap.get?_push_ne _ _ _ (by rw[Heap.size_update];exact bg ha)]
  exact Vj
 show wpAny (model prog w) A _ P E { s with heap:=iy s.heap a vs }
 dsimp only
 by_cases h2:vs.toArray.size < 2
 ·rw[bd h2,bd h2]
  have Wk:vs.length < 2:=by rwa [ay] at h2
  refine ab (ae ?_)
  rw[StateT.run_pure]
  refine ab (ae ?_)
  dsimp only
  refine ab (seqEpoch_at XT rfl ?_)
  have eo:(arrOf (SortSt.mk' general' (vs.toArray.zip vs.toArray) #[] 7 none)).map (·.2)=vs.toArray:=by
   exact LR vs
  rw[eo]
  refine ab (listUpdate_at XT rfl ?_ (ce _) (by show vs.toArray.size<=_;rw[ay];exact jS hz))
  simp only[bne_self_eq_false,eJ,fT]
  rw[Ep Wk] at h
  exact ae h
 ·rw[ax h2,ax h2]
  have Wk:2<=vs.length:=by rw[ay] at h2;omega
  refine ab (fA (hk Wk (fun κ s'=>κ=tuples' false/\s'={ s with heap:=iy s.heap a vs }) ⟨rfl,rfl⟩) (fun κ s0 hκ=>?_) λ_ _ x=>x.elim)
  obtain⟨rfl,rfl⟩:=hκ
  refine ab (fA (kat_run (A:=A) (κ:=tuples' false) (ks:=vs) (vs:=vs) (Q:=λBU s'=>s'={ s with heap:=iy s.heap a vs }/\(arrOf BU).map (·.2)=(jN lt vs).toArray/\failedOf BU=none)
   (G:=λp s'=>s'={ s with heap:=iy s.heap a vs }/\p=v8 lt (kas_sort vs.length)) rfl Wk Vf (λp BU s' a1 a2 a3 a4=>⟨a4.1,?_,a3⟩) (ET.wp (s:={ s with heap:=iy s.heap a vs }) hc _ (Cy (by omega)) ⟨rfl,rfl⟩)) ?_ λ_ _ e=>e)
  ·rw[kat_snds rfl a2,a4.2]
   unfold jN my
   rw[ax (by omega)]
  ·rintro ⟨⟨⟩,BU⟩ s' ⟨rfl,Zd,hf⟩
   dsimp only
   rw[Zd]
   refine ab (seqEpoch_at XT rfl ?_)
   refine ab (listUpdate_at XT rfl ?_ (ce _) (by show (jN lt vs).toArray.size<=_;rw[ay,Jj];exact jS hz))
   rw[hf]
   simp only[bne_self_eq_false,eJ,fT]
   exact ae h
variable {κ:Type}[DecidableEq κ]{kd:HeapKind prog w κ}{d r:Addr}{xs:List (κ×Addr×Value)}
noncomputable def ltAt (L:List ((Int×Str)×Int))(i j:Nat):Bool:=match L[i]?,L[j]? with
 | some p,some q=>ltI p q
 | _,_=>false
theorem Jl {h h':Heap}{p:Int×Str}{b:Addr}(x:Nd h p b)(k:∀o,h.get? b=some o->h'.get? b=some o):Nd h' p b:=by
 obtain⟨t,u,o,h1,h2⟩:=x
 exact⟨t,u,o,k o h1,h2⟩
theorem Cz {h:Heap}:∀as:List Addr,(∀c∈as,∃p,XR h p c)->∃fs:List Value,fs.length=as.length/\KatTups h (as.map Value.ref) fs/\∀f∈fs,∃b o,f=.ref b/\h.get? b=some o/\o.cls=.type "tuple"
 | [],_=>⟨[],rfl,.nil,λf hf=>nomatch hf⟩
 | c::as,hp=>by
  obtain⟨fs,h1,h2,h3⟩:=Cz as λc hc=>hp c (al _ hc)
  obtain⟨p,b,t,⟨o,e1,e2,n,e3⟩,t1,t2,ob,b1,b2,_⟩:=hp c ar
  refine⟨.ref b::fs,by simp[h1],.cons e1 e2 e3 rfl h2,λf hf=>?_⟩
  rcases be.mp hf with rfl | hf
  ·exact⟨b,ob,rfl,b1,b2⟩
  ·exact h3 f hf
theorem L_ {Q:oT}(L:List ((Int×Str)×Int))(hh:A.handled=none)(hu:A.units+9 < cLine)(hv:s.heap.IsItemsView r d)(m:A5 kd s.heap d xs)
  (kp:∀h h':Heap,(∀b o,h.get? b=some o->o.cls=.type "tuple" -> h'.get? b=some o)->∀(x:κ) (b:Addr),kd.is h x b->kd.is h' x b) (hlen:L.length=xs.length) (Vf:xs.length < 64)
  (hL:∀(j:Nat) (k:κ) (b:Addr) (v:Value),xs[j]?=some (k,b,v)->∃p:(Int×Str)×Int,L[j]?=some p/\Nd s.heap p.1 b/\∃t,v=Value.int p.2 t)
  (q:∀h' tk D e as,s.heap.objs.size<=D->(∀b o,s.heap.get? b=some o->h'.get? b=some o)->as.length=xs.length->(∀c∈as,s.heap.objs.size<=c/\c≠D)->Vh h' s.heap.objs.size xs as->
   h'.get? D=some (seqObj "list" ((my (ltAt L) L.length).map λi=>Value.ref (as.getD i 0)).toArray e)->Q (.ref D) { s with heap:=h',toks:=tk }):
  wpAny (model prog w) A (call (.builtin "sorted") [.ref r]) Q E s:=by
 refine Calls.call_function_entry kind_sorted plain_sorted entry_sorted (args_sorted1 _) ?_
 unfold Builtin.«sorted»
 refine ab (m:=checkCount "sorted" 1 1 _) (ae ?_)
 refine ab (Ji (A:=A.in1) (kd:=kd) hh hv m kp (by rw[i9];omega) λh1 tk as k1 sz1 Kk hG=>?_)
 have hvl:(as.map Value.ref).length=xs.length:=by rw[aI,Kk]
 refine ab (wpAny_newList ?_ (by rw[hvl,i9];omega))
 have hD:(h1.push (seqObj "list" (as.map Value.ref).toArray 0)).get? h1.objs.size=some (seqObj "list" (as.map Value.ref).toArray 0):=am _ rfl
 have szl:(as.map Value.ref).length < 64:=by omega
 have pr:∀(j:Nat) (c:Addr),as[j]?=some c->c < h1.objs.size/\s.heap.objs.size < c/\∃p,L[j]?=some p/\∀h2:Heap,(∀b o,b < h1.objs.size->h1.get? b=some o->h2.get? b=some o)->XR h2 p c:=λj c hj=>by
  obtain⟨e0,k,b,v,e1,e2⟩:=hG j c hj
  obtain⟨p,hp,pk,t,rfl⟩:=hL j k b v e1
  refine⟨ap e2,e0,p,hp,λh2 k2=>⟨b,t,⟨_,k2 c _ (ap e2) e2,rfl,0,rfl⟩,Jl pk λo e=>?_⟩⟩
  have e':=k1 b o e
  exact k2 b o (ap e') e'
 have kS:∀b o,b < h1.objs.size->h1.get? b=some o->(iy (h1.push (seqObj "list" (as.map Value.ref).toArray 0)) h1.objs.size (as.map Value.ref)).get? b=some o:=λb o hb e=>Jk (bg hb) (ac _ e)
 refine ab (dQ (ci slot_list_sort ⟨_,hD,rfl⟩ entry_list_sort ?body (args_list_sort _)))
 case body=>
  refine Qf (A:=A.in1.in1) (s:={ s with heap:=h1.push (seqObj "list" (as.map Value.ref).toArray 0),toks:=tk }) (ltAt L) hD szl (λh2 Q hq=>?_) (λi j C hi hj hq=>?_) ?_
  ·obtain⟨fs,f1,f2,f3⟩:=Cz (h:=iy (h1.push (seqObj "list" (as.map Value.ref).toArray 0)) h1.objs.size (as.map Value.ref)) as λc hc=>by
    obtain⟨j,hj⟩:=ef.mp hc
    obtain⟨_,_,p,_,e⟩:=pr j c hj
    exact⟨p,e _ kS⟩
   refine kat_kind (T:=.type "tuple") f2 (by rw[f1];simp at h2;omega) (λv hv=>?_) (by decide) hq
   obtain⟨b,o,rfl,e1,e2⟩:=f3 v hv
   rw[← e2]
   exact(W.Looks.ld e1).andThen .now
  ·rw[aI] at hi hj
   obtain⟨_,_,p,hp,e1⟩:=pr i as[i] (af hi)
   obtain⟨_,_,q',L3,e2⟩:=pr j as[j] (af hj)
   have g1:(as.map Value.ref).getD i Value.none=.ref as[i]:=by simp[hi]
   have g2:(as.map Value.ref).getD j Value.none=.ref as[j]:=by simp[hj]
   unfold kas_ask
   rw[g1,g2]
   unfold ltAt at hq
   rw[hp,L3] at hq
   exact Qe (by rw[in1_units,in1_units];omega) (e1 _ kS) (e2 _ kS) hq
  ·refine⟨_,rfl,ae ⟨_,rfl,?_⟩⟩
   have old:∀b o,b < h1.objs.size->h1.get? b=some o->(sortedHeap (h1.push (seqObj "list" (as.map Value.ref).toArray 0)) h1.objs.size (as.map Value.ref) (jN (ltAt L) (as.map Value.ref)).toArray).get? b=some o:=λb o hb e=>by
    rw[sortedHeap_old (bg hb) (bq hb (by rw[size_push'];exact iL _))]
    exact ac _ e
   obtain⟨e,he⟩:=sortedHeap_at (out:=(jN (ltAt L) (as.map Value.ref)).toArray) hD
   refine q _ tk h1.objs.size e as (gt sz1) (λb o eb=>old b o (ap (k1 b o eb)) (k1 b o eb)) Kk (λc hc=>?_) (λj c hj=>?_) ?_
   ·obtain⟨j,hj⟩:=ef.mp hc
    obtain⟨a1,a2,_⟩:=pr j c hj
    exact⟨gt a2,bg a1⟩
   ·obtain⟨e0,k,b,v,e1,e2⟩:=hG j c hj
    exact⟨e0,k,b,v,e1,old c _ (ap e2) e2⟩
   ·rw[he]
    have eo:jN (ltAt L) (as.map Value.ref)=(my (ltAt L) L.length).map λi=>Value.ref (as.getD i 0):=by
     unfold jN
     rw[hvl,hlen]
     refine dS λi hi=>?_
     have L8:i < as.length:=by
      have:=(k_ _ _).mem_iff.mp hi
      rw[bP] at this
      omega
     simp[L8]
    rw[eo]
end
noncomputable def tL (L:List ((Int×Str)×Int)):List ((Int×Str)×Int):=(my (ltAt L) L.length).map λi=>L.getD i ((0, ""),0)
theorem G8 (L:List ((Int×Str)×Int)):(tL L).Perm L:=by
 unfold tL
 have h:=(k_ (ltAt L) L.length).map λi=>L.getD i ((0, ""),0)
 have e:(List.range L.length).map (λi=>L.getD i ((0, ""),0))=L:=by
  apply List.ext_getElem
  ·simp
  ·intro i h1 h2
   simp[h2]
 rw[e] at h
 exact h
def D0 (p a:Addr)(h:Heap):Prop:=h.get? p=some { cls:=.type "dict_items",data:=.fields #[.ref a] }
noncomputable def kI (p:(Int×Str)×Int):List AG×V:=([.k (.inl p.1.1),.k (.inr p.1.2)],.int p.2)
def v9 (K:W.Frag)(H:Hp)(p:(Int×Str)×Int)(v:V):Prop:=∃c b,v=.ref c/\H c=some (.tup [.ref b,.int p.2])/\(H b=some (.tup [.int p.1.1,.str p.1.2])\/E9 K b [.int p.1.1,.str p.1.2])
section
variable {X:Cx}{AF:qq}{σ:St}{H:Hp}{s:Shared}{apos AS:Pos}{td:TE}{o:Expr}
def Qg (td:TE):TE:=fun σ H Q=>td σ H λx H1=>∃a kvs,x=.ref a/\Rd H1 a (.dT kvs)/\∀p,H1 p=none->Q (.ref p) (upd H1 p (.ext (D0 p a)))
theorem Jm (ho:PE X o td)(B6:attributeBase o "items" X.env (eval o X.env)=eval o X.env:=by rfl)(B7:(apos.endLine == AS.line)=true:=by rfl):
  PE X (.Call (.Attribute o "items" apos) [] [] AS) (Qg td):=by
 intro AF s σ H Q I h
 refine wpAny_Call_method (T := "dict") (id := "dict.items") B6 rfl B7 F.plainAttrs_dict F.slot_dict_items F.type_dict_items (AZ (ho AF s σ H _ I h) ?_)
 rintro u s1 ⟨x,H1,I1,rx,a,kvs,ex,hq,q⟩
 subst ex
 cases (show u=Value.ref a from rx)
 obtain⟨t1,t2,_⟩:=Gk I1 (.inr ⟨kvs,hq⟩)
 refine⟨t1,t2,?_⟩
 obtain⟨_,hd,xs,rel,dd⟩:=yV I1.Cs I1.AW hq
 have at':D0 s1.heap.objs.size a (s1.heap.push { cls:=.type "dict_items",data:=.fields #[.ref a] }):=am _ rfl
 have I2:Inv X AF σ (upd H1 s1.heap.objs.size (.ext (D0 s1.heap.objs.size a))) { s1 with heap:=s1.heap.push { cls:=.type "dict_items",data:=.fields #[.ref a] },toks:=s1.toks }:=
  I1.laid (λb o e=>ac _ e) (aw _) ⟨at',⟨_,at'⟩,λh1 h2 e k=>k _ e⟩
 refine method_meetsIn F.slot_dict_items F.entry_dict_items rfl (PySem.evalArgs_none ⟨rfl,t1,F.args_dict_items_1 _,_,zM (cX X.prog X.w) a hd,⟨xs,dd⟩,?_⟩)
 exact⟨.ref s1.heap.objs.size,_,I2,rfl,q _ (I1.AW.fresh (aw _))⟩
theorem Qh {K:W.Frag}{h:Heap}{b:Addr}{p:Int×Str}{P:Program}{w:World}(EN:K.In h)(ok:Dx P w K H h)(c:CD K H b [.k (.inl p.1),.k (.inr p.2)]):(H b=some (.tup [.int p.1,.str p.2])\/E9 K b [.int p.1,.str p.2])/\Nd h p b:=by
 have kt:∀vs,GN K H [.k (.inl p.1),.k (.inr p.2)] vs->vs=[.int p.1,.str p.2]:=λvs k=>by
  rcases k with k | ⟨x,b,e,_⟩
  ·cases k with
   | cons a k=>cases k with
    | cons b k=>
     cases k
     rcases a with ⟨x,e,rfl⟩ | ⟨ns,_,_,e,_⟩
     ·cases e
      rcases b with ⟨y,e,rfl⟩ | ⟨ns,_,_,e,_⟩
      ·cases e;rfl
      ·exact(AG.Pf e.symm).elim
     ·exact(AG.Pf e.symm).elim
  ·cases e
 have v2:∀us:List Value,Vals [.int p.1,.str p.2] us->∃t u,us=[.int p.1 t,.str p.2 u]:=λus r=>by
  cases r with
  | cons a r=>cases r with
   | cons b r=>
    cases r
    obtain⟨t,rfl⟩:=a
    obtain⟨u,rfl⟩:=b
    exact⟨t,u,rfl⟩
 rcases c with ⟨vs,e,k⟩ | ⟨vs,e,k⟩
 ·cases kt vs k
  refine⟨.inl e,?_⟩
  obtain⟨_,AL,r,it⟩:=(show AR P w K H h b (.tup [.int p.1,.str p.2]) from ok b _ e)
  have it:=it.tup
  obtain⟨t,u,rfl⟩:=v2 _ r
  exact⟨t,u,it⟩
 ·cases kt vs k
  refine⟨.inr e,?_⟩
  obtain⟨o,AL,n,e1,e2,e3,_,r⟩:=e
  obtain⟨t,u,eu⟩:=v2 _ r
  refine⟨t,u,o,EN b o e1,e2,n,?_⟩
  rw[e3]
  congr 1
  exact Array.toList_inj.mp eu
noncomputable def P9 (o:Obj):List V:=match o.data with
 | .seq AL _=>AL.toList.filterMap NZ
 | _=>[]
theorem Er (hc:X.calm=true)(hu:X.A.units+9 < cLine):BN X (.builtin "sorted") (λxs H Q=>∃p a L,xs=[.ref p]/\H p=some (.ext (D0 p a))/\Rd H a (.dT (L.map kI))/\L.length < 64 /\
  ∀H2 l vs,AK H H2->H l=none->H2 l=none->Paired (v9 X.K H2) (tL L) vs->Q (.ref l) (upd H2 l (.lst vs))):=by
 intro AF s σ H xs us Q I r h
 obtain⟨p,a,L,rfl,hp,ha,Vf,q⟩:=h
 obtain⟨u,rfl,ru⟩:=Vals.one r
 cases (show u=Value.ref p from ru)
 have vw:D0 p a s.heap:=(show AR X.prog X.w X.K H s.heap p (.ext (D0 p a)) from I.AW p _ hp).1
 obtain⟨_,hd,ys,rel,dd⟩:=yV I.Cs I.AW ha
 have hlen:L.length=ys.length:=by rw[← iP rel,aI]
 have at':∀(j:Nat) (k:List AG) (b:Addr) (v:Value),ys[j]?=some (k,b,v)->∃p:(Int×Str)×Int,L[j]?=some p/\(H b=some (.tup [.int p.1.1,.str p.1.2])\/E9 X.K b [.int p.1.1,.str p.1.2])/\Nd s.heap p.1 b/\∃t,v=Value.int p.2 t:=λj k b v e=>by
  obtain⟨⟨k',v'⟩,e1,e2,e3,e4⟩:=lL rel e
  rw[cp] at e1
  obtain⟨p,hp,ep⟩:=br.mp e1
  cases ep
  obtain⟨g1,g2⟩:=Qh I.Cs I.AW e3
  exact⟨p,hp,g1,g2,e4⟩
 refine L_ (kd:=cX X.prog X.w) L (I.ok.hd hc) hu ⟨_,vw,rfl,rfl⟩ dd (λh h' k x b e=>?_) hlen (by omega) (λj k b v e=>let ⟨p,h1,_,h3⟩:=at' j k b v e;⟨p,h1,h3⟩) λh' tk D e as hD kp Kk has lie hL=>?_
 ·obtain⟨o,AL,n,h1,h2,h3,r⟩:=e
  have go:∀(n:Nat) (x:AG) (v:Value),CO n h x v->CO n h' x v:=by
   intro n
   induction n with
   | zero=>exact λ_ _ z=>z
   | succ n ih=>exact λx v z=>z.imp id λ⟨ns,a,e,ev,o,AL,m,h1,h2,h3,p⟩=>⟨ns,a,e,ev,o,AL,m,k a o h1 h2,h2,h3,eN p ih⟩
  exact⟨o,AL,n,k b o h1 h2,h2,h3,eN r (go 2)⟩
 ·have new:∀c,s.heap.objs.size<=c->H c=none:=λc hc=>I.AW.fresh hc
  have old:∀b o,s.heap.get? b=some o->b≠D/\b∉as:=λb o e=>⟨bg (bq (ap e) hD),λhb=>absurd (ap e) (Nat.not_lt.mpr (has b hb).1)⟩
  have tp:∀(j:Nat) (c:Addr),as[j]?=some c->∃(p:(Int×Str)×Int) (b:Addr) (t:Tok),L[j]?=some p/\(H b=some (.tup [.int p.1.1,.str p.1.2])\/E9 X.K b [.int p.1.1,.str p.1.2])/\h'.get? c=some { cls:=.type "tuple",data:=.seq #[.ref b,.int p.2 t] }:=λj c hj=>by
   obtain⟨_,k,b,v,e1,e2⟩:=lie j c hj
   obtain⟨p,h1,h2,_,t,rfl⟩:=at' j k b v e1
   exact⟨p,b,t,h1,h2,e2⟩
  have HTd:∃HT:Hp,(∀c,c∉as->HT c=H c)/\∀(j:Nat) (c:Addr),as[j]?=some c->∀(p:(Int×Str)×Int) (b:Addr) (t:Tok),h'.get? c=some { cls:=.type "tuple",data:=.seq #[.ref b,.int p.2 t] }->HT c=some (.tup [.ref b,.int p.2]):=by
   refine⟨λc=>if c∈as then some (.tup (P9 ((h'.get? c).getD { cls:=.none,data:=.fields #[] }))) else H c,λc hc=>ax hc,λj c hj p b t e=>?_⟩
   show (if c∈as then _ else _)=_
   rw[bd (dn hj),e]
   rfl
  obtain⟨HT,t1,t2⟩:=HTd
  have sm:AK H HT:=λb o e=>by rw[t1 b λhb=>by rw[new b (has b hb).1] at e;cases e];exact e
  have fD:HT D=none:=by rw[t1 D λhb=>(has D hb).2 rfl];exact new D hD
  have out:∃vs:List V,Paired (v9 X.K HT) (tL L) vs/\Vals vs ((my (ltAt L) L.length).map λi=>Value.ref (as.getD i 0))/\vs.length=L.length:=by
   refine⟨(my (ltAt L) L.length).map λi=>V.ref (as.getD i 0),?_,?_,?_⟩
   ·unfold tL
    have go:∀l:List Nat,(∀i∈l,i < L.length)->Paired (v9 X.K HT) (l.map λi=>L.getD i ((0, ""),0)) (l.map λi=>V.ref (as.getD i 0)):=by
     intro l
     induction l with
     | nil=>exact λ_=>.nil
     | cons i l ih=>
      intro hl
      refine .cons ?_ (ih λj hj=>hl j (al _ hj))
      have hi:i < L.length:=hl i ar
      have L8:i < as.length:=by omega
      obtain⟨p,b,t,h1,h2,h3⟩:=tp i as[i] (af L8)
      have eL:L.getD i ((0, ""),0)=p:=by rw[bb,h1];rfl
      have eA:as.getD i 0=as[i]:=by simp[L8]
      show v9 X.K HT (L.getD i ((0, ""),0)) (V.ref (as.getD i 0))
      rw[eL,eA]
      exact⟨as[i],b,rfl,t2 i _ (af L8) p b t h3,h2.imp (λz=>sm _ _ z) id⟩
    exact go _ λi hi=>by
     have:=(k_ _ _).mem_iff.mp hi
     exact bP.mp this
   ·have go:∀l:List Nat,Vals (l.map λi=>V.ref (as.getD i 0)) (l.map λi=>Value.ref (as.getD i 0)):=by
     intro l
     induction l with
     | nil=>exact .nil
     | cons i l ih=>exact .cons rfl ih
    exact go _
   ·rw[aI,(k_ _ _).length_eq,fg]
  obtain⟨vs,p1,p2,p3⟩:=out
  refine⟨.ref D,upd HT D (.lst vs),I.step (g':=s.gens) (d':=s.drawn) (ch:=[]) (λ_ z=>nomatch z) (λb o _ _ _ e _=>kp b o e) (λb o _ _ _ e _=>⟨o.slots,kp b o e⟩)
   (λb o _ e z=>?_) (λb o _ e=>⟨o,kp b o e⟩) (λb xs z=>?_) (λb o u z=>?_) (λb ps z=>⟨#[],?_⟩) (λm ⟨o,es,ep,ho,r⟩=>⟨o,es,ep,kp _ _ ho,r⟩) (λb u z=>?_) I.bare,rfl,q HT D vs sm (new D hD) fD p1⟩
  ·rw[ao (old b o e).1,t1 b (old b o e).2];exact z
  ·rw[ao (aq z (new D hD))];exact sm _ _ z
  ·rw[ao (aq z (new D hD))];exact sm _ _ z
  ·rw[ao (aq z (new D hD)),sm _ _ z];simp
  ·by_cases hb:b=D
   ·rw[hb,az] at z
    cases z
    rw[hb]
    exact⟨by rw[p3,i9];omega,_,e,p2,hL⟩
   ·rw[ao hb] at z
    by_cases hb2:b∈as
    ·obtain⟨j,hj⟩:=ef.mp hb2
     obtain⟨p,c,t,_,_,h3⟩:=tp j b hj
     rw[t2 j b hj p c t h3] at z
     cases z
     exact⟨by show (2:Nat)<=sizeLine;decide,[.ref c,.int p.2 t],.cons rfl (.cons ⟨t,rfl⟩ .nil),_,h3,rfl,0,rfl,rfl⟩
    ·rw[t1 b hb2] at z
     exact(I.AW b u z).IB (λa v _ w=>kp a v w) (λa w=>by rw[ao (aq w (new D hD))];exact sm _ _ w) λa xs w=>by rw[ao (aq w (new D hD))];exact sm _ _ w
end
end Lake.L2
namespace Lake.MR
open PySem L2
noncomputable def v_:List (List AG×PV)->Option (List ((Int×Str)×Int))
 | []=>some []
 | ([.k (.inl i),.k (.inr x)],.int n)::r=>(v_ r).bind λl=>some (((i,x),n)::l)
 | _=>none
noncomputable def Kn (p:(Int×Str)×Int):PV:=.tup [.tup [.int p.1.1,.str p.1.2],.int p.2]
@[simp] noncomputable def zP:PV->Option PV
 | .dT kvs=>(v_ kvs).bind λL=>if L.length < 64 then some (.lst ((tL L).map Kn)) else none
 | _=>none
theorem zQ {C:MC}{A:Addr->Prop}{H:Hp}:∀{kv:List (List AG×V)}{kvs:List (List AG×PV)}{L:List ((Int×Str)×Int)},A2 C A H kv kvs->v_ kvs=some L->kv=L.map kI
 | _,_,_,.nil,e=>by cases e;rfl
 | _,_,_,.cons (k:=k) (v:=v) (p:=p) r t,e=>by
  unfold v_ at e
  split at e
  ·rename_i h;cases h
  ·rename_i h
   cases h
   obtain⟨l,hl,e⟩:=ag.mp e
   cases e
   cases r
   rw[zQ t hl]
   rfl
  ·cases e
variable {C:MC}{H:Hp}
section
variable {X:Cx}{b:BX}{G:qr}{apos AS p pos:Pos}{m:Md}{e:Expr}{f:rg}
theorem Jo {A:Addr->Prop}{p:(Int×Str)×Int}{v:V}(h:v9 C.K H p v):Rep C A H v (Kn p):=by
 obtain⟨c,b,rfl,h1,h2⟩:=h
 refine .tup h1 (.cons ?_ (.cons (.int _) .nil))
 have r:AJ C A H [.int p.1.1,.str p.1.2] [.int p.1.1,.str p.1.2]:=.cons (.int _) (.cons (.str _) .nil)
 rcases h2 with h2 | h2
 ·exact .tup h2 r
 ·exact .CS h2 r
theorem xF {C:MC}{A:Addr->Prop}{H:Hp}:∀{L:List ((Int×Str)×Int)}{vs:List V},Paired (v9 C.K H) L vs->AJ C A H vs (L.map Kn)
 | _,_,.nil=>.nil
 | _,_,.cons h t=>.cons (Jo h) (xF t)
theorem Jp {k:Nat}(hr:A7 k X.A)(hm:X.mg "sorted" = none)(h:SE X b G m e f)(Ze:X.calm=true:=by rfl)(hK:X.K=b.C.K:=by rfl)(hg:Gl X "sorted" := by rfl)(B6:attributeBase e "items" X.env (eval e X.env)=eval e X.env:=by rfl)(B7:(apos.endLine == AS.line)=true:=by rfl)
  (hs:starEach [.Call (.Attribute e "items" apos) [] [] AS] X.env=(false,eval (.Call (.Attribute e "items" apos) [] [] AS) X.env)::starEach [] X.env:=by rfl) (BO:(backTo pos (starEach [] X.env)).any (·.1)=false:=by rfl):
  SE X b G .own (.Call (.Name "sorted" p) [.Call (.Attribute e "items" apos) [] [] AS] [] pos) (b1 zP f):=by
 refine PE.imp (dw (Er Ze (dG hr)) hg hm PyProof.Rows.boot_sorted (aB (Jm h.bor B6 B7) aN hs) (by decide) (by decide) hs BO) ?_
 rintro σ H Q ⟨Ow,env,q,E,hf,k⟩
 obtain⟨x,hx,hf⟩:=aA hf
 unfold zP at hf
 split at hf
 ·rename_i kvs
  obtain⟨L,hL,hf⟩:=ag.mp hf
  split at hf
  ·rename_i Vf
   cases hf
   refine⟨Ow,env,_,E,hx,λv H1 s r=>?_⟩
   have r1:AM b.C (Bs b Ow) H1 v (.dT kvs):=r
   obtain⟨a,kv,rfl,ha,ra⟩:=r1.dT
   have ek:=zQ ra hL
   subst ek
   refine⟨a,_,rfl,.inl ha,λp hp=>?_⟩
   have nap:a≠p:=aq ha hp
   have s1:=aL hp (.ext (D0 p a))
   refine⟨p,a,L,rfl,az,.inl (s1 _ _ ha),Vf,λH2 l vs s2 hl U8 pr=>?_⟩
   have QO:H1 l=none:=s1.free hl
   refine k _ _ (((s.trans s1).trans s2).over (s.free QO) _) ⟨l,rfl,s.free QO,vs,az,?_⟩
   rw[hK] at pr
   exact(xF (A:=λ_=>False) pr).ex λc o e=>⟨λz=>z.elim,λ_=>by rw[ao (aq e U8)];exact e⟩
  ·cases hf
 ·cases hf
end
structure WS where
 B3:List (List AG×PV)
 most:Int
 fin:PV
 C0:List PV
 nums:List (List AG×PV)
 EH:List (Key×PV)
structure WC where
 n:Nat
 a:Addr
 dx:Addr
 ah:Addr
 lp:Addr
 ln:Addr
 lo:Addr
 fin:V
noncomputable def WC.fs (c:WC)(m:Int):List (Str×V):=[("ahead",.ref c.ah),("most",.int m),("end",c.fin),("places",.ref c.lp),("numbers",.ref c.ln),("onward",.ref c.lo)]
structure WR (C:MC)(F:Addr->Prop)(H:Hp)(c:WC)(w:WS):Prop where
 ob:H c.a=some (.ins (C.cl c.n) c.dx (c.fs w.most))
 ah:∃kv,H c.ah=some (.dT kv)/\A2 C F H kv w.B3
 fn:Rep C F H c.fin w.fin
 lp:∃vs,H c.lp=some (.lst vs)/\AJ C F H vs w.C0
 ln:∃kv,H c.ln=some (.dT kv)/\A2 C F H kv w.nums
 lo:∃kv,H c.lo=some (.dK kv)/\AX C F H kv w.EH
 ne:c.ah≠c.ln
 dm:∀b,F b->∃o,H b=some o
 nF:¬ F c.a/\¬ F c.ah/\¬ F c.lp/\¬ F c.ln/\¬ F c.lo
structure WT (K:W.Frag)(Cl:Addr):Prop where
 cl:JA K Cl
 QP:A6 K Cl "ahead"
 UE:A6 K Cl "most"
 Wm:A6 K Cl "end"
 EB:A6 K Cl "places"
 CU:A6 K Cl "numbers"
 IP:A6 K Cl "onward"
section
variable {C:MC}{F F':Addr->Prop}{H H':Hp}{c:WC}{w:WS}
theorem WR.ex (W:WR C F H c w)(e:Ex F H F' H')(k:∀b o,(b=c.a\/b=c.ah\/b=c.lp\/b=c.ln\/b=c.lo)->H b=some o->H' b=some o)(dm:∀b,F' b->∃o,H' b=some o)(n:¬ F' c.a/\¬ F' c.ah/\¬ F' c.lp/\¬ F' c.ln/\¬ F' c.lo):WR C F' H' c w where
 ob:=k _ _ (.inl rfl) W.ob
 ah:=let ⟨kv,h,r⟩:=W.ah;⟨kv,k _ _ (.inr (.inl rfl)) h,r.ex e⟩
 fn:=W.fn.ex e
 lp:=let ⟨kv,h,r⟩:=W.lp;⟨kv,k _ _ (.inr (.inr (.inl rfl))) h,r.ex e⟩
 ln:=let ⟨kv,h,r⟩:=W.ln;⟨kv,k _ _ (.inr (.inr (.inr (.inl rfl)))) h,r.ex e⟩
 lo:=let ⟨kv,h,r⟩:=W.lo;⟨kv,k _ _ (.inr (.inr (.inr (.inr rfl)))) h,r.ex e⟩
 ne:=W.ne
 dm:=dm
 nF:=n
theorem WR.same (W:WR C F H c w)(s:AK H H'):WR C F H' c w:=W.ex (.of_same s) (λb o _ e=>s b o e) (λb f=>let ⟨o,e⟩:=W.dm b f;⟨o,s b o e⟩) W.nF
noncomputable def WS.pv (w:WS)(n:Nat):PV:=.obj n [("ahead",.dT w.B3),("most",.int w.most),("end",w.fin),("places",.lst w.C0),("numbers",.dT w.nums),("onward",.dK w.EH)]
theorem WR.rep (W:WR C F H c w):Rep C (λb=>F b\/b=c.a\/b=c.ah\/b=c.lp\/b=c.ln\/b=c.lo) H (.ref c.a) (w.pv c.n):=by
 have e:Ex F H (λb=>F b\/b=c.a\/b=c.ah\/b=c.lp\/b=c.ln\/b=c.lo) H:=aV λ_ _ _ z=>.inl z
 obtain⟨k1,h1,r1⟩:=W.ah
 obtain⟨k2,h2,r2⟩:=W.lp
 obtain⟨k3,h3,r3⟩:=W.ln
 obtain⟨k4,h4,r4⟩:=W.lo
 exact .obj W.ob (.inr (.inl rfl)) (.cons (.dT h1 (.inr (.inr (.inl rfl))) (r1.ex e)) (.cons (.int _) (.cons (W.fn.ex e) (.cons (.lst h2 (.inr (.inr (.inr (.inl rfl)))) (r2.ex e)) (.cons (.dT h3 (.inr (.inr (.inr (.inr (.inl rfl))))) (r3.ex e)) (.cons (.dK h4 (.inr (.inr (.inr (.inr (.inr rfl))))) (r4.ex e)) .nil))))))
end
noncomputable def tQ (w:WS)(p:PV):Option (Int×WS):=match p with
 | .tup xs=>(AU xs).bind λk=>match aM w.nums k with
  | some (.int n)=>some (n,w)
  | none=>if w.C0.length < 1000000/\w.nums.length < 1000000 then some ((w.C0.length:Nat),{ w with nums:=bD w.nums k (.int (w.C0.length:Nat)),C0:=w.C0++[.tup xs] }) else none
  | _=>none
 | _=>none
def Kept (c:WC)(F:Addr->Prop)(H H':Hp):Prop:=∀b o,H b=some o->b≠c.lp->b≠c.ln->b≠c.lo->H' b=some o
def rC (C:MC):Sp:=λvs H Q _=>∃F c w v p n w',vs=[.ref c.a,v]/\WT C.K (C.cl c.n)/\WR C F H c w/\Rep C F H v p/\tQ w p=some (n,w')/\∀H',Kept c F H H'->WR C F H' c w'->Q (.int n) H'
variable {vs:List V}{Q:VK}
theorem G9 {E:XK}(h:rC C vs H Q E):vs.length=2:=by
 obtain⟨F,c,w,v,p,n,w',e,_⟩:=h
 rw[e];rfl
abbrev zR (K:PySem.W.Frag):List V->Hp->VK->Prop:=λxs H Q=>∃p ys,xs=[.ref p]/\(Bz K H p ys\/Co K H p ys)/\Q (.int ys.length) H
def Jq (K:W.Frag):TS:=
 cA (lX (tB (i_ K (aH 1) (iY K (aH 0) "numbers")))
   (cA (jV K (iY K (aH 0) "numbers") (aH 1) (L4 (zR K) (aO (iY K (aH 0) "places") bw)))
    (ur (U7 K "list" vU (iY K (aH 0) "places") (aO (aH 1) bw))))
   jt)
  (iU (qY K (iY K (aH 0) "numbers") (aH 1)))
theorem Ma {E:XK}(h:rC C vs H Q E):Jq C.K { nx:=λ_ H'=>Q .AO H',rt:=Q } (L2.start ["self","place"] vs) H:=by
 obtain⟨F,c,w,v,p,n,w',rfl,T,W,rp,hn,q⟩:=h
 obtain⟨kn,Kt,rn⟩:=W.ln
 obtain⟨pl,Lv,rl⟩:=W.lp
 cases p <;> first | (cases hn;done) | skip
 rename_i xs
 obtain⟨k,hk,hn⟩:=ag.mp (show ((AU xs).bind _)=_ from hn)
 obtain⟨b,us,rfl,hb,rb⟩:=AM.tup (.inl rp)
 have ck:CD C.K H b k:=hb.key (rb.AU hk)
 have e0:(L2.start ["self","place"] [V.ref c.a,V.ref b])[0]?=some (some (.ref c.a)):=rfl
 have e1:(L2.start ["self","place"] [V.ref c.a,V.ref b])[1]?=some (some (.ref b)):=rfl
 have fld:∀(f:Str) (x:V) (H1:Hp),A6 C.K (C.cl c.n) f->(c.fs w.most).lookup f=some x->H1 c.a=some (.ins (C.cl c.n) c.dx (c.fs w.most))->∀R:VK,R x H1->iY C.K (aH 0) f (L2.start ["self","place"] [V.ref c.a,V.ref b]) H1 R:=λf x H1 na lk ho R r=>⟨_,e0,c.a,_,_,_,x,rfl,ho,T.cl,na,lk,r⟩
 unfold Jq
 dsimp only [cA,lX,tB,i_,jV,L4,ur,U7,iU,qY,jt,aO,bw]
 refine⟨_,e1,fld "numbers" _ _ T.CU rfl W.ob _ ⟨c.ln,_,rfl,BY.t Kt ck,_,rfl,?_⟩⟩
 rcases A2.val (k:=k) rn with ⟨y,py,g1,g2,ry⟩ | ⟨g1,g2⟩
 ·have LH:(match aM w.nums k with | some (.int n)=>some (n,w) | none=>if w.C0.length < 1000000/\w.nums.length < 1000000 then some (((w.C0.length:Nat):Int),{ w with nums:=bD w.nums k (.int (w.C0.length:Nat)),C0:=w.C0++[.tup xs] }) else none | _=>none)=some (n,w'):=hn
  have eL:aM w.nums k=some py:=g2
  rw[eL] at LH
  cases py <;> first | (cases LH;done) | skip
  cases LH
  cases ry
  rw[g1]
  refine lZ ?_
  refine fld "numbers" _ _ T.CU rfl W.ob _ ?_
  refine⟨_,e1,c.ln,_,rfl,by rw[← g1];exact BY.t Kt ck,?_⟩
  exact q H (λb o e _ _ _=>e) W
 ·have LH:(match aM w.nums k with | some (.int n)=>some (n,w) | none=>if w.C0.length < 1000000/\w.nums.length < 1000000 then some (((w.C0.length:Nat):Int),{ w with nums:=bD w.nums k (.int (w.C0.length:Nat)),C0:=w.C0++[.tup xs] }) else none | _=>none)=some (n,w'):=hn
  have eL:aM w.nums k=none:=g2
  rw[eL] at LH
  dsimp only at LH
  split at LH
  ·rename_i hz
   cases LH
   rw[g1]
   refine jb ?_
   have lpl:pl.length=w.C0.length:=rl.length
   have nlp:c.lp≠c.ln:=bQ Lv Kt (λz=>nomatch z)
   have Zf:c.a≠c.ln:=bQ W.ob Kt (λz=>nomatch z)
   have nap:c.a≠c.lp:=bQ W.ob Lv (λz=>nomatch z)
   refine fld "places" _ _ T.EB rfl W.ob _ ?_
   refine⟨c.lp,pl,rfl,.inl (Bz.of Lv),?_⟩
   refine fld "numbers" _ _ T.CU rfl W.ob _ ?_
   refine⟨_,e1,c.ln,_,rfl,FG.t Kt ck (bZ (by rw[rn.length];omega)),?_⟩
   have W1:upd H c.ln (.dT (putK kn k (.int (pl.length:Nat)))) c.a=some (.ins (C.cl c.n) c.dx (c.fs w.most)):=by rw[ao Zf];exact W.ob
   have P1:upd H c.ln (.dT (putK kn k (.int (pl.length:Nat)))) c.lp=some (.lst pl):=by rw[ao nlp];exact Lv
   refine fld "places" _ _ T.EB rfl W1 _ ?_
   refine⟨.inl ⟨rfl,pl,Bz.of P1⟩,_,e1,c.lp,pl,.ref b,rfl,rfl,P1,bZ (by omega),?_⟩
   have W2:upd (upd H c.ln (.dT (putK kn k (.int (pl.length:Nat))))) c.lp (.lst (pl++[.ref b])) c.a=some (.ins (C.cl c.n) c.dx (c.fs w.most)):=by rw[ao nap];exact W1
   refine fld "numbers" _ _ T.CU rfl W2 _ ?_
   have L2:upd (upd H c.ln (.dT (putK kn k (.int (pl.length:Nat))))) c.lp (.lst (pl++[.ref b])) c.ln=some (.dT (putK kn k (.int (pl.length:Nat)))):=by rw[ao nlp.symm,az]
   have kp:∀x o,H x=some o->x≠c.lp->x≠c.ln->upd (upd H c.ln (.dT (putK kn k (.int (pl.length:Nat))))) c.lp (.lst (pl++[.ref b])) x=some o:=λx o e n1 n2=>by rw[ao n1,ao n2];exact e
   have ex:Ex F H F (upd (upd H c.ln (.dT (putK kn k (.int (pl.length:Nat))))) c.lp (.lst (pl++[.ref b]))):=λx o e=>⟨λf=>⟨kp x o e (λz=>W.nF.2.2.1 (z▸f)) (λz=>W.nF.2.2.2.1 (z▸f)),f⟩,λm=>kp x o e (λz=>by rw[z,Lv] at e;cases e;cases m) λz=>by rw[z,Kt] at e;cases e;cases m⟩
   have Zg:CD C.K _ b k:=ck.keeps (H':=upd (upd H c.ln (.dT (putK kn k (.int (pl.length:Nat))))) c.lp (.lst (pl++[.ref b]))) λx ys e=>(ex x _ e).2 rfl
   have g3:cB (putK kn k (.int (pl.length:Nat))) k=some (.int (pl.length:Nat)):=by rw[yS,bd rfl]
   refine⟨_,e1,c.ln,_,rfl,by rw[← g3];exact BY.t L2 Zg,?_⟩
   rw[lpl] at *
   obtain⟨ka,ha,ra⟩:=W.ah
   obtain⟨ko,ho,ro⟩:=W.lo
   refine q _ (λx o e n1 n2 _=>kp x o e n1 n2) ⟨W2,⟨ka,kp _ _ ha (bQ ha Lv (λz=>nomatch z)) W.ne,ra.ex ex⟩,W.fn.ex ex,⟨_,az,(rl.ex ex).append (.cons (rp.ex ex) .nil)⟩,⟨_,L2,A2.put (.int _) (rn.ex ex)⟩,⟨ko,kp _ _ ho (bQ ho Lv (λz=>nomatch z)) (bQ ho Kt (λz=>nomatch z)),ro.ex ex⟩,W.ne,λx f=>(let ⟨o,e⟩:=W.dm x f;⟨o,((ex x o e).1 f).1⟩),W.nF⟩
  ·cases LH
section
variable {C:MC}{A F:Addr->Prop}{H:Hp}
theorem zT {f:PV->Option AG}(hf:∀v p k,Rep C A H v p->f p=some k->Rep C F H v p):∀{vs:List V}{ps:List PV}{ks:List AG},AJ C A H vs ps->qt f ps=some ks->AJ C F H vs ps
 | _,_,_,.nil,_=>.nil
 | _,_,_,.cons (p:=p) (ps:=ps) h t,e=>by
  unfold qt at e
  obtain⟨k,hk,e⟩:=ag.mp e
  obtain⟨ks,YJ,e⟩:=ag.mp e
  exact .cons (hf _ _ _ h hk) (zT hf t YJ)
theorem lg {f:PV->Option AG}(hf:∀v p k,Rep C A H v p->f p=some k->Rep C F H v p){ps:List PV}{ks:List AG}(r:AJ C A H vs ps)(e:gR f ps=some ks):AJ C F H vs ps:=by
 unfold gR at e
 split at e
 ·cases r with
  | cons h1 t=>cases t with
   | cons h2 t=>cases t;cases h1;cases h2;exact .cons (.str _) (.cons (.bl _) .nil)
 ·exact zT hf r e
theorem zU (v:V)(p:PV)(k:AG)(r:Rep C A H v p)(e:DY p=some k):Rep C F H v p:=by
 cases r with
 | int i=>exact .int i
 | str x=>exact .str x
 | _=>cases e
theorem oY {f:PV->Option AG}(hf:∀v p k,Rep C A H v p->f p=some k->Rep C F H v p)(v:V)(p:PV)(k:AG)(r:Rep C A H v p)(e:D_ f p=some k):Rep C F H v p:=by
 cases r with
 | tup h q=>
  obtain⟨ks,hk,e⟩:=br.mp (show (gR f _).map AG.tp=some k from e)
  exact .tup h (lg hf q hk)
 | CS h q=>
  obtain⟨ks,hk,e⟩:=br.mp (show (gR f _).map AG.tp=some k from e)
  exact .CS h (lg hf q hk)
 | tupK h q=>
  obtain⟨ks,hk,e⟩:=br.mp (show (gR f _).map AG.tp=some k from e)
  exact .tupK h (lg hf q hk)
 | int i=>exact .int i
 | str x=>exact .str x
 | _=>cases e
theorem CG {v:V}{xs:List PV}{ks:List AG}(r:Rep C A H v (.tup xs))(e:AU xs=some ks):Rep C F H v (.tup xs):=by
 cases r with
 | tup h q=>exact .tup h (lg (oY (oY zU)) q e)
 | CS h q=>exact .CS h (lg (oY (oY zU)) q e)
end
noncomputable def G2 (pb:List PV->Option PV)(cn:Nat)(num:Int):List PV->WS->Option (List PV×WS)
 | [],w=>some ([],w)
 | s::S,w=>(pb [w.pv cn,.int num,s]).bind λp=>(tQ w p).bind λr=>(G2 pb cn num S r.2).bind λq=>some (.int r.1::q.1,q.2)
noncomputable def tR (pb:List PV->Option PV)(cn:Nat)(S:List PV)(w:WS)(num:Int):Option (PV×WS):=match aM w.EH (.inl num) with
 | some l=>some (l,w)
 | none=>(G2 pb cn num S w).bind λr=>if r.2.EH.length < 1000000/\r.1.length < 1000000 then some (.lst r.1,{ r.2 with EH:=bD r.2.EH (.inl num) (.lst r.1) }) else none
def F8 (F F':Addr->Prop)(H:Hp):Prop:=(∀b,F b->F' b)/\∀b,F' b->F b\/H b=none
def uR (C:MC)(cn:Nat)(pb:List PV->Option PV)(S:List PV):Sp:=λvs H Q _=>∃F c w n l w',vs=[.ref c.a,.int n]/\c.n=cn/\WT C.K (C.cl c.n)/\WR C F H c w/\tR pb c.n S w n=some (l,w') /\
 ∀H' F' v,Kept c F H H'->F8 F F' H->WR C F' H' c w'->Rep C F' H' v l->Q v H'
def qz (C:MC)(aS:Addr)(S:List PV):Prop:=∃us,Co C.K (λ_=>none) aS us/\∀B H,AJ C B H us S
def Jr (C:MC)(cn:Nat)(pb:List PV->Option PV)(aS:Addr):TS:=
 cA (lX (tB (i_ C.K (aH 1) (iY C.K (aH 0) "onward")))
   (jV C.K (iY C.K (aH 0) "onward") (aH 1) (gK (yM C.K (tC (.ref aS))) [none,some 0,some 1] (aX 0) oJ
    (jU (C.cl cn) "number_of_place" (rC C) [] E0 (aH 1) (aO (jU (C.cl cn) "place_behind" (DZ C pb false) [] E0 (aH 1) (aO (aH 2) (aO (aH 0) bw))) bw))))
   jt)
  (iU (qY C.K (iY C.K (aH 0) "onward") (aH 1)))
theorem G_ {w w':WS}{p:PV}{n:Int}(h:tQ w p=some (n,w')):∃xs ks,p=.tup xs/\AU xs=some ks/\w'.most=w.most:=by
 cases p <;> first | (cases h;done) | skip
 rename_i xs
 obtain⟨k,hk,h⟩:=ag.mp (show ((AU xs).bind _)=_ from h)
 refine⟨xs,k,rfl,hk,?_⟩
 split at h
 ·cases h;rfl
 ·split at h
  ·cases h;rfl
  ·cases h
 ·cases h
variable {F:Addr->Prop}{pb:List PV->Option PV}
theorem Js {c:WC}{w w1:WS}{num k:Int}{s p:PV}{x:V}{D:Addr}{ys:List V}{R:VK}(T:WT C.K (C.cl c.n))(W:WR C F H c w)(rs:∀B H,Rep C B H x s)(hp:pb [w.pv c.n,.int num,s]=some p)(hn:tQ w p=some (k,w1))
  (q:∀H',Kept c F H H'->WR C F H' c w1->R (.int k) H'):
  jU (C.cl c.n) "number_of_place" (rC C) [] E0 (aH 1) (aO (jU (C.cl c.n) "place_behind" (DZ C pb false) [] E0 (aH 1) (aO (aH 2) (aO (aH 0) bw))) bw) [some x,some (.ref c.a),some (.int num)] H R:=by
 obtain⟨xs,ks,rfl,hk,_⟩:=G_ hn
 refine⟨_,rfl,c.a,c.dx,_,rfl,W.ob,rfl,?_⟩
 refine⟨_,rfl,c.a,c.dx,_,rfl,W.ob,rfl,?_⟩
 refine⟨_,rfl,_,rfl,?_⟩
 refine⟨_,[w.pv c.n,.int num,s],_,.cons W.rep (.cons (.int _) (.cons (rs _ _) .nil)),hp,λv H1 s1 r1=>?_⟩
 have Ic:Rep C F H1 v (.tup xs):=CG (show Rep C _ H1 v (.tup xs) from r1) hk
 exact⟨F,c,w,v,.tup xs,k,w1,rfl,T,W.same s1,Ic,hn,λH' kp W'=>q H' (λb o e n1 n2 n3=>kp b o (s1 _ _ e) n1 n2 n3) W'⟩
variable {cn:Nat}
theorem Ha {S:List PV}{E:XK}(h:uR C cn pb S vs H Q E):vs.length=2:=by
 obtain⟨F,c,w,n,l,w',e,_⟩:=h
 rw[e];rfl
theorem Es {K:W.Frag}{aS:Addr}{us:List V}{AQ:List (Option Nat)}{tt:TT}{te:TE}{σ rest:St}(hσ:cI AQ σ=none::rest)(ha:Co K H aS us)
  (k:∀D,H D=none->∃Pv:Nat->List V->Hp->Prop,Pv 0 [] (upd H D (.lst []))/\(∀i ys H,i<=us.length->Pv i ys H->Co K H aS us/\H D=some (.lst ys)) /\
   (∀i x ys H,us[i]?=some x->Pv i ys H->tt (some x::rest) H λb H3=>if b=true then te (some x::rest) H3 λy H4=>H4 D=some (.lst ys)/\ys.length < sizeLine/\Pv (i+1) (ys++[y]) (upd H4 D (.lst (ys++[y]))) else Pv (i+1) ys H3) /\
   ∀ys H,Pv us.length ys H->Q (.ref D) H):gK (yM K (tC (.ref aS))) AQ (aX 0) tt te σ H Q:=
 ⟨⟨aS,rfl,⟨us,ha⟩,λD hD=>let ⟨Pv,h0,h1,h2,h3⟩:=k D hD;Ir hσ Pv h0 h1 h2 h3⟩⟩
theorem Mf {S:List PV}{aS:Addr}{E:XK}(hS:qz C aS S)(h:uR C cn pb S vs H Q E):Jr C cn pb aS { nx:=λ_ H'=>Q .AO H',rt:=Q } (L2.start ["self","number"] vs) H:=by
 obtain⟨F,c,w,num,l,w',rfl,rfl,T,W,hl,q⟩:=h
 obtain⟨us,QU,UG⟩:=hS
 obtain⟨ko,Uk,ro⟩:=W.lo
 have e0:(L2.start ["self","number"] [V.ref c.a,V.int num])[0]?=some (some (.ref c.a)):=rfl
 have e1:(L2.start ["self","number"] [V.ref c.a,V.int num])[1]?=some (some (.int num)):=rfl
 have fld:∀(x:V) (H1:Hp) (m:Int),(c.fs m).lookup ("onward" : Str)=some x->H1 c.a=some (.ins (C.cl c.n) c.dx (c.fs m))->∀R:VK,R x H1->iY C.K (aH 0) "onward" (L2.start ["self","number"] [V.ref c.a,V.int num]) H1 R:=λx H1 m lk ho R r=>⟨_,e0,c.a,_,_,_,x,rfl,ho,T.cl,T.IP,lk,r⟩
 unfold Jr
 dsimp only [cA,lX,tB,i_,jV,iU,qY,jt]
 refine⟨_,e1,fld _ _ _ rfl W.ob _ ⟨c.lo,_,rfl,BY.k (k:=.inl num) Uk,_,rfl,?_⟩⟩
 unfold tR at hl
 rcases AX.val (k:=(.inl num:Key)) ro with ⟨y,py,g1,g2,ry⟩ | ⟨g1,g2⟩
 ·have eL:aM w.EH (.inl num)=some py:=g2
  rw[eL] at hl
  cases hl
  rw[g1]
  refine lZ ?_
  refine fld _ _ _ rfl W.ob _ ?_
  refine⟨_,e1,c.lo,_,rfl,by rw[← g1];exact BY.k (k:=.inl num) Uk,?_⟩
  exact q H F _ (λb o e _ _ _=>e) ⟨λ_ z=>z,λ_ z=>.inl z⟩ W ry
 ·have eL:aM w.EH (.inl num)=none:=g2
  rw[eL] at hl
  obtain⟨⟨ls,w1⟩,hF,hl⟩:=ag.mp hl
  split at hl
  ·rename_i hz
   cases hl
   rw[g1]
   refine jb ?_
   refine Es (us:=us) (rest:=[some (.ref c.a),some (.int num)]) rfl (kW QU) λD hD=>?_
   have cells:∀b,b=c.a\/b=c.ah\/b=c.lp\/b=c.ln\/b=c.lo->b≠D:=λb hb z=>by
    subst z
    obtain⟨_,h1,_⟩:=W.ah
    obtain⟨_,h2,_⟩:=W.lp
    obtain⟨_,h3,_⟩:=W.ln
    rcases hb with rfl | rfl | rfl | rfl | rfl
    ·rw[W.ob] at hD;cases hD
    ·rw[h1] at hD;cases hD
    ·rw[h2] at hD;cases hD
    ·rw[h3] at hD;cases hD
    ·rw[Uk] at hD;cases hD
   have nFD:¬ F D:=λz=>by obtain⟨o,e⟩:=W.dm D z;rw[hD] at e;cases e
   have oW:us.length=S.length:=(UG F H).length
   refine⟨λi ys Hi=>∃wi rest ns,G2 pb c.n num (S.drop i) wi=some (rest,w1)/\ls=ns.map PV.int++rest/\ys=ns.map V.int/\ns.length=i/\WR C F Hi c wi/\Hi D=some (.lst ys)/\∀b o,H b=some o->b≠c.lp->b≠c.ln->b≠c.lo->Hi b=some o,
    ⟨w,ls,[],hF,rfl,rfl,rfl,W.same (aL hD _),az,λb o e _ _ _=>aL hD _ b o e⟩,λi ys Hi _ ⟨wi,rest,ns,_,_,_,_,_,d,_⟩=>⟨kW QU,d⟩,λi x ys Hi hx ⟨wi,rest,ns,h1,h2,h3,h4,Wi,d,kp⟩=>?_,λys Hi ⟨wi,rest,ns,h1,h2,h3,h4,Wi,d,kp⟩=>?_⟩
   ·dsimp only [oJ]
    refine jb ?_
    have hi:i < us.length:=(ai.mp hx).1
    have hs:S[i]?=some (S[i]'(by omega)):=af (by omega)
    generalize S[i]'(by omega)=s at hs
    have rs:∀B H,Rep C B H x s:=λB H=>by
     obtain⟨p,e,r⟩:=(UG B H).get' hx
     rw[hs] at e
     cases e
     exact r
    have EK:S.drop i=s::S.drop (i+1):=by
     rw[bX (by omega)]
     congr 1
     exact(ai.mp hs).2
    rw[EK] at h1
    obtain⟨p,hp,h1⟩:=ag.mp (show ((pb [wi.pv c.n,.int num,s]).bind _)=_ from h1)
    obtain⟨⟨k,w2⟩,hn,h1⟩:=ag.mp h1
    obtain⟨⟨r2,w3⟩,h5,he⟩:=ag.mp h1
    cases he
    refine Js (D:=D) (ys:=ys) T Wi rs hp hn λH4 k4 W4=>?_
    have d4:H4 D=some (.lst ys):=k4 D _ d (cells c.lp (.inr (.inr (.inl rfl)))).symm (cells c.ln (.inr (.inr (.inr (.inl rfl))))).symm (cells c.lo (.inr (.inr (.inr (.inr rfl))))).symm
    refine⟨d4,bZ (by rw[h3,aI,h4];have:=hz.2;rw[h2] at this;simp at this;omega),w2,r2,ns++[k],h5,by rw[h2];simp,by rw[h3];simp,by simp[h4],?_,az,λb o e n1 n2 n3=>?_⟩
    ·have nD:∀b,F b->b≠D:=λb f z=>nFD (z▸f)
     refine W4.ex (λb o e=>⟨λf=>⟨by rw[ao (nD b f)];exact e,f⟩,λm=>?_⟩) (λb o hb e=>by rw[ao (cells b hb)];exact e) (λb f=>?_) W4.nF
     ·rw[ao ?_]
      ·exact e
      ·intro z;rw[z,d4] at e;cases e;cases m
     ·obtain⟨o,e⟩:=W4.dm b f
      exact⟨o,by rw[ao (nD b f)];exact e⟩
    ·have nb:b≠D:=aq e hD
     rw[ao nb]
     exact k4 b o (kp b o e n1 n2 n3) n1 n2 n3
   ·have EK:S.drop us.length=[]:=by rw[oW];simp
    rw[EK] at h1
    cases h1
    rw[bE] at h2
    obtain⟨k2,LU,ro2⟩:=Wi.lo
    refine fld _ _ _ rfl Wi.ob _ ?_
    refine⟨_,e1,c.lo,_,rfl,FG.k (k:=.inl num) LU (bZ (by rw[ro2.length];exact gt hz.1)),?_⟩
    have Zf:c.a≠c.lo:=bQ Wi.ob LU (λz=>nomatch z)
    have nDl:D≠c.lo:=(cells c.lo (.inr (.inr (.inr (.inr rfl))))).symm
    have ob4:upd Hi c.lo (.dK (putK k2 (.inl num) (.ref D))) c.a=some (.ins (C.cl c.n) c.dx (c.fs w1.most)):=by rw[ao Zf];exact Wi.ob
    refine fld _ _ _ rfl ob4 _ ?_
    have g3:cB (putK k2 (.inl num) (.ref D)) (.inl num)=some (.ref D):=by rw[yS,bd rfl]
    refine⟨_,e1,c.lo,_,rfl,by rw[← g3];exact BY.k (k:=.inl num) az,?_⟩
    have S0:∀b o,Hi b=some o->b≠c.lo->upd Hi c.lo (.dK (putK k2 (.inl num) (.ref D))) b=some o:=λb o e n=>by rw[ao n];exact e
    have ex:Ex F Hi (λb=>F b\/b=D) (upd Hi c.lo (.dK (putK k2 (.inl num) (.ref D)))):=λb o e=>⟨λf=>⟨S0 b o e (λz=>Wi.nF.2.2.2.2 (z▸f)),.inl f⟩,λm=>S0 b o e λz=>by rw[z,LU] at e;cases e;cases m⟩
    have rD:Rep C (λb=>F b\/b=D) (upd Hi c.lo (.dK (putK k2 (.inl num) (.ref D)))) (.ref D) (.lst ls):=by
     refine .lst (S0 D _ d nDl) (.inr rfl) ?_
     rw[h2,h3]
     exact j9 _ _ (λi=>.int i) ns
    refine q _ (λb=>F b\/b=D) _ (λb o e n1 n2 n3=>S0 b o (kp b o e n1 n2 n3) n3) ⟨λb z=>.inl z,λb z=>z.imp id λz=>by rw[z];exact hD⟩ ⟨ob4,?_,Wi.fn.ex ex,?_,?_,⟨_,az,AX.put rD (ro2.ex ex)⟩,Wi.ne,λb f=>?_,?_⟩ rD
    ·obtain⟨kv,e,r⟩:=Wi.ah
     exact⟨kv,S0 _ _ e (bQ e LU (λz=>nomatch z)),r.ex ex⟩
    ·obtain⟨kv,e,r⟩:=Wi.lp
     exact⟨kv,S0 _ _ e (bQ e LU (λz=>nomatch z)),r.ex ex⟩
    ·obtain⟨kv,e,r⟩:=Wi.ln
     exact⟨kv,S0 _ _ e (bQ e LU (λz=>nomatch z)),r.ex ex⟩
    ·rcases f with f | f
     ·obtain⟨o,e⟩:=Wi.dm b f
      exact⟨o,((ex b o e).1 f).1⟩
     ·exact⟨_,by rw[f];exact S0 D _ d nDl⟩
    ·obtain⟨n1,n2,n3,n4,n5⟩:=Wi.nF
     exact⟨λz=>z.elim n1 (cells _ (.inl rfl)),λz=>z.elim n2 (cells _ (.inr (.inl rfl))),λz=>z.elim n3 (cells _ (.inr (.inr (.inl rfl)))),λz=>z.elim n4 (cells _ (.inr (.inr (.inr (.inl rfl))))),λz=>z.elim n5 (cells _ (.inr (.inr (.inr (.inr rfl)))))⟩
  ·cases hl
theorem Qi {rest:St}{x y:V}:Kp (none::none::rest) (some x::some y::rest):=⟨rfl,λi v e=>by
 cases i with
 | zero=>cases e
 | succ i=>cases i with
  | zero=>cases e
  | succ i=>exact e⟩
theorem Et {K:W.Frag}{k1 k2:SK}{a b:Addr}{xs ys:List V}{ta:TA}{AQ:List (Option Nat)}{tt:TT}{te:TE}{σ rest:St}(hw:∀R:List V->Hp->Prop,R [.ref a,.ref b] H->ta σ H R)(hσ:cI AQ σ=none::none::rest)(hlen:ys.length=xs.length)(ha:k1.sq K H a xs)(hb:k2.sq K H b ys)
  (k:∀D,H D=none->∃Pv:Nat->List V->Hp->Prop,Pv 0 [] (upd H D (.lst []))/\(∀i zs Hi,i<=xs.length->Pv i zs Hi->k1.sq K Hi a xs/\k2.sq K Hi b ys/\Hi D=some (.lst zs)) /\
   (∀i x y zs Hi,xs[i]?=some x->ys[i]?=some y->Pv i zs Hi->∀t,Hi t=none->tt (some x::some y::rest) (upd Hi t (.tup [x,y])) λb H3=>if b=true then te (some x::some y::rest) H3 λz H4=>H4 D=some (.lst zs)/\zs.length < sizeLine/\Pv (i+1) (zs++[z]) (upd H4 D (.lst (zs++[z]))) else Pv (i+1) zs H3) /\
   ∀zs Hi,Pv xs.length zs Hi->Q (.ref D) Hi):gK (yr K k1 k2 ta) AQ (vK K 2 (ju (aX 0) (ju (aX 1) vJ))) tt te σ H Q:=by
 refine⟨hw _ ⟨a,b,rfl,⟨xs,ha⟩,⟨ys,hb⟩,λD hD=>?_⟩⟩
 obtain⟨Pv,h0,h1,h2,h3⟩:=k D hD
 refine⟨λi m zs Hi=>m=xs.length - i/\i<=xs.length/\Pv i zs Hi,⟨xs.length,by simp,ce _,h0⟩,?_⟩
 rintro i m zs Hi ⟨rfl,hi,p⟩
 obtain⟨q1,q2,qD⟩:=h1 i zs Hi hi p
 refine⟨qD,?_⟩
 by_cases BE:i < xs.length
 ·refine .inr ⟨⟨xs,xs[i],ys,ys[i]'(by omega),q1,by simp[BE],q2,af (by omega)⟩,Pv (i+1),λF4 H' p'=>⟨xs.length - (i+1),by omega,rfl,BE,p'⟩,λv H' yd=>?_⟩
  obtain⟨t,x,y,ht,rfl,rfl,e1,e2⟩:=yd
  rw[hσ]
  refine⟨t,[x,y],rfl,Co.of az,rfl,x,[y],rfl,?_⟩
  refine⟨y,[],rfl,rfl,Qi,?_⟩
  exact h2 i x y zs Hi (e1 xs q1) (e2 ys q2) p t ht
 ·have e:i=xs.length:=by omega
  subst e
  exact .inl ⟨⟨xs,ys,q1,q2,.inl rfl⟩,h3 zs Hi p⟩
theorem Jt {K:W.Frag}{k1 k2:SK}{a b:Addr}{xs ys:List V}{g:TG}{tb:TS}{D:Ends}{σ:St}(hlen:ys.length=xs.length)(Pv:Nat->St->Hp->Prop)(h0:Pv 0 σ H)(hl:∀i σ H,i<=xs.length->Pv i σ H->k1.sq K H a xs/\k2.sq K H b ys)
  (hs:∀i x y σ H,xs[i]?=some x->ys[i]?=some y->Pv i σ H->∀t,H t=none->g (.ref t) σ (upd H t (.tup [x,y])) fun σ2 H2=>tb { D with nx:=Pv (i+1),ct:=Pv (i+1),bk:=D.nx } σ2 H2) (hd:∀ σ H,Pv xs.length σ H->D.nx σ H):
  ∃W:Nat->Nat->St->Hp->Prop,(∃m,W 0 m σ H)/\∀i m σ H,W i m σ H->
   ((We K k1 k2 a b).stop i H/\D.nx σ H)\/((We K k1 k2 a b).go i H/\∃N:St->Hp->Prop,(∀ σ' H',N σ' H'->∃m',m' < m/\W (i+1) m' σ' H')/\∀x H',(We K k1 k2 a b).Mo i H x H'->g x σ H' fun σ2 H2=>tb { D with nx:=N,ct:=N,bk:=D.nx } σ2 H2):=by
 refine⟨λi m σ H=>m=xs.length - i/\i<=xs.length/\Pv i σ H,⟨xs.length,by simp,ce _,h0⟩,?_⟩
 rintro i m σ H ⟨rfl,hi,p⟩
 obtain⟨q1,q2⟩:=hl i σ H hi p
 by_cases BE:i < xs.length
 ·refine .inr ⟨⟨xs,xs[i],ys,ys[i]'(by omega),q1,by simp[BE],q2,af (by omega)⟩,Pv (i+1),λF4 H' p'=>⟨xs.length - (i+1),by omega,rfl,BE,p'⟩,λv H' yd=>?_⟩
  obtain⟨t,x,y,ht,rfl,rfl,e1,e2⟩:=yd
  exact hs i x y σ H (e1 xs q1) (e2 ys q2) p t ht
 ·have e:i=xs.length:=by omega
  subst e
  exact .inl ⟨⟨xs,ys,q1,q2,.inl rfl⟩,hd σ H p⟩
structure EX (C:MC)(cn:Nat)(F:Addr->Prop)(H:Hp)(cs:List WC)(ws:List WS):Prop where
 len:cs.length=ws.length
 all:∀(i:Nat) (c:WC) (w:WS),cs[i]?=some c->ws[i]?=some w->c.n=cn/\WR C F H c w
 sep:∀(i j:Nat) (c d:WC),cs[i]?=some c->cs[j]?=some d->i≠j->d.lp≠c.lp/\d.ln≠c.ln/\d.lo≠c.lo/\d.ah≠c.ln
def Bi (cs:List WC)(H H':Hp):Prop:=∀b o,H b=some o->(∀c∈cs,b≠c.lp/\b≠c.ln/\b≠c.lo)->H' b=some o
variable {cs:List WC}
theorem Bi.trans {H1 H2:Hp}(a:Bi cs H H1)(b:Bi cs H1 H2):Bi cs H H2:=λx o e n=>b x o (a x o e n) n
theorem F8.trans {F1 F2:Addr->Prop}{H1:Hp}(a:F8 F F1 H)(b:F8 F1 F2 H1)(s:∀x,H1 x=none->H x=none):F8 F F2 H:=⟨λx z=>b.1 x (a.1 x z),λx z=>(b.2 x z).elim (a.2 x) λn=>.inr (s x n)⟩
theorem EX.same {C:MC}{cn:Nat}{F:Addr->Prop}{H H':Hp}{cs:List WC}{ws:List WS}(W:EX C cn F H cs ws)(s:AK H H'):EX C cn F H' cs ws:=⟨W.len,λi c w e1 e2=>⟨(W.all i c w e1 e2).1,(W.all i c w e1 e2).2.same s⟩,W.sep⟩
theorem EX.set {C:MC}{cn:Nat}{F F':Addr->Prop}{H H':Hp}{cs:List WC}{ws:List WS}{i:Nat}{c:WC}{w':WS}(W:EX C cn F H cs ws)(hi:cs[i]?=some c)(kp:Kept c F H H')(gr:F8 F F' H)(Wi:WR C F' H' c w')(hcn:c.n=cn):EX C cn F' H' cs (ws.set i w'):=by
 have LV:i < ws.length:=by rw[← W.len];exact(ai.mp hi).1
 obtain⟨_,Lv,_⟩:=id Wi.lp
 refine⟨by rw[fb];exact W.len,λj d v e1 e2=>?_,W.sep⟩
 by_cases Zh:i=j
 ·subst Zh
  rw[hi] at e1
  cases e1
  rw[fe LV] at e2
  cases e2
  exact⟨hcn,Wi⟩
 ·rw[bp Zh] at e2
  obtain⟨n0,Wj⟩:=W.all j d v e1 e2
  have Vk:∃w,WR C F H c w:=⟨_,(W.all i c _ hi (af LV)).2⟩
  obtain⟨w0,Vk⟩:=Vk
  obtain⟨s1,s2,s3,s4⟩:=W.sep i j c d hi e1 Zh
  obtain⟨_,a1,_⟩:=Vk.lp
  obtain⟨_,a2,_⟩:=Vk.ln
  obtain⟨_,a3,_⟩:=Vk.lo
  obtain⟨_,b1,_⟩:=Wj.ah
  obtain⟨_,b2,_⟩:=Wj.lp
  obtain⟨_,b3,_⟩:=Wj.ln
  obtain⟨_,b4,_⟩:=Wj.lo
  have Vl:∀b,(b=d.a\/b=d.ah\/b=d.lp\/b=d.ln\/b=d.lo)->∃o,H b=some o:=λb hb=>by
   rcases hb with rfl | rfl | rfl | rfl | rfl
   ·exact⟨_,Wj.ob⟩
   ·exact⟨_,b1⟩
   ·exact⟨_,b2⟩
   ·exact⟨_,b3⟩
   ·exact⟨_,b4⟩
  have keep:∀b o,(b=d.a\/b=d.ah\/b=d.lp\/b=d.ln\/b=d.lo)->H b=some o->H' b=some o:=λb o hb e=>by
   refine kp b o e ?_ ?_ ?_
   ·rcases hb with rfl | rfl | rfl | rfl | rfl
    ·exact bQ Wj.ob a1 (λz=>nomatch z)
    ·exact bQ b1 a1 (λz=>nomatch z)
    ·exact s1
    ·exact bQ b3 a1 (λz=>nomatch z)
    ·exact bQ b4 a1 (λz=>nomatch z)
   ·rcases hb with rfl | rfl | rfl | rfl | rfl
    ·exact bQ Wj.ob a2 (λz=>nomatch z)
    ·exact s4
    ·exact bQ b2 a2 (λz=>nomatch z)
    ·exact s2
    ·exact bQ b4 a2 (λz=>nomatch z)
   ·rcases hb with rfl | rfl | rfl | rfl | rfl
    ·exact bQ Wj.ob a3 (λz=>nomatch z)
    ·exact bQ b1 a3 (λz=>nomatch z)
    ·exact bQ b2 a3 (λz=>nomatch z)
    ·exact bQ b3 a3 (λz=>nomatch z)
    ·exact s3
  have QY:∀b,(b=d.a\/b=d.ah\/b=d.lp\/b=d.ln\/b=d.lo)->¬ F b->¬ F' b:=λb hb n z=>(gr.2 b z).elim n λe=>by obtain⟨o,e'⟩:=Vl b hb;rw[e] at e';cases e'
  obtain⟨n1,n2,n3,n4,n5⟩:=Vk.nF
  have ex:Ex F H F' H':=λb o e=>⟨λf=>⟨kp b o e (λz=>n3 (z▸f)) (λz=>n4 (z▸f)) (λz=>n5 (z▸f)),gr.1 b f⟩,λm=>kp b o e (λz=>by rw[z,a1] at e;cases e;cases m) (λz=>by rw[z,a2] at e;cases e;cases m) λz=>by rw[z,a3] at e;cases e;cases m⟩
  obtain⟨m1,m2,m3,m4,m5⟩:=Wj.nF
  exact⟨n0,Wj.ex ex keep Wi.dm ⟨QY _ (.inl rfl) m1,QY _ (.inr (.inl rfl)) m2,QY _ (.inr (.inr (.inl rfl))) m3,QY _ (.inr (.inr (.inr (.inl rfl)))) m4,QY _ (.inr (.inr (.inr (.inr rfl)))) m5⟩⟩
theorem EX.own {ws:List WS}{D:Addr}{u o:HO}(W:EX C cn F H cs ws)(hD:H D=some u)(m:gM u=true)(nF:¬ F D)(nc:∀c∈cs,D≠c.a/\D≠c.ah/\D≠c.lp/\D≠c.ln/\D≠c.lo):EX C cn F (upd H D o) cs ws:=by
 have nD:∀b,F b->b≠D:=λb f z=>nF (z▸f)
 refine⟨W.len,λi c w e1 e2=>?_,W.sep⟩
 obtain⟨n0,Wi⟩:=W.all i c w e1 e2
 obtain⟨n1,n2,n3,n4,n5⟩:=nc c (dn e1)
 refine⟨n0,Wi.ex (λb o e=>⟨λf=>⟨by rw[ao (nD b f)];exact e,f⟩,λq=>?_⟩) (λb o hb e=>?_) (λb f=>?_) Wi.nF⟩
 ·rw[ao ?_]
  ·exact e
  ·intro z;rw[z,hD] at e;cases e;rw[m] at q;cases q
 ·rw[ao ?_]
  ·exact e
  ·rcases hb with rfl | rfl | rfl | rfl | rfl
   ·exact n1.symm
   ·exact n2.symm
   ·exact n3.symm
   ·exact n4.symm
   ·exact n5.symm
 ·obtain⟨o,e⟩:=Wi.dm b f
  exact⟨o,by rw[ao (nD b f)];exact e⟩
theorem EX.nc {ws:List WS}{D:Addr}(W:EX C cn F H cs ws)(hD:H D=none):∀c∈cs,D≠c.a/\D≠c.ah/\D≠c.lp/\D≠c.ln/\D≠c.lo:=λc hc=>by
 obtain⟨i,hi⟩:=ef.mp hc
 have LV:i < ws.length:=by rw[← W.len];exact(ai.mp hi).1
 obtain⟨_,Wi⟩:=W.all i c _ hi (af LV)
 obtain⟨_,b1,_⟩:=Wi.ah
 obtain⟨_,b2,_⟩:=Wi.lp
 obtain⟨_,b3,_⟩:=Wi.ln
 obtain⟨_,b4,_⟩:=Wi.lo
 exact⟨(aq Wi.ob hD).symm,(aq b1 hD).symm,(aq b2 hD).symm,(aq b3 hD).symm,(aq b4 hD).symm⟩
noncomputable def Vm (pb:List PV->Option PV)(cn:Nat)(S:List PV):List WS->List Int->Option (List PV×List WS)
 | [],[]=>some ([],[])
 | w::ws,n::ns=>(tR pb cn S w n).bind λr=>(Vm pb cn S ws ns).bind λq=>some (r.1::q.1,r.2::q.2)
 | _,_=>none
noncomputable def oZ:List PV->Option (List Int)
 | []=>some []
 | .int i::r=>(oZ r).bind λl=>some (i::l)
 | _=>none
noncomputable def uT (m:Nat):List PV->Option (List (List Int))
 | []=>some []
 | .lst l::r=>(oZ l).bind λk=>(uT m r).bind λq=>if k.length=m then some (k::q) else none
 | _=>none
noncomputable def Vn (pb:List PV->Option PV)(cn:Nat)(S:List PV)(ws:List WS)(ns:qS):Option (List (List Int)×List WS):=
 (Vm pb cn S ws ns).bind λr=>(uT S.length r.1).bind λrows=>some ((List.range S.length).map λi=>rows.map λk=>k.getD i 0,r.2)
noncomputable def B5 (n:qS):PV:=.tup (n.map PV.int)
def zV (C:MC)(cn:Nat)(pb:List PV->Option PV)(S:List PV):Sp:=λvs H Q _=>∃F cs ws ns nodes EZ wl vn,vs=[.ref wl,vn]/\cs≠[]/\WT C.K (C.cl cn)/\EX C cn F H cs ws/\H wl=some (.lst (cs.map λc=>V.ref c.a))/\¬ F wl/\(∀c∈cs,wl≠c.lp)/\cs.length<=1000/\Rep C F H vn (B5 ns)/\Vn pb cn S ws ns=some (nodes,EZ) /\
 ∀H' F' l IJ,Bi cs H H'->F8 F F' H->EX C cn F' H' cs EZ->H l=none->¬ F' l->H' l=some (.lst IJ)->AJ C F' H' IJ (nodes.map B5)->Q (.ref l) H'
theorem Ju {S:List PV}{E:XK}(h:zV C cn pb S vs H Q E):vs.length=2:=by
 obtain⟨F,cs,ws,ns,nodes,EZ,wl,vn,e,_⟩:=h
 rw[e];rfl
def Qj (C:MC)(cn:Nat)(pb:List PV->Option PV)(S:List PV):TE:=gK (yr C.K .L .T (aO (aH 0) (aO (aH 1) bw))) [none,none] (vK C.K 2 (ju (aX 0) (ju (aX 1) vJ))) oJ (jU (C.cl cn) "later" (uR C cn pb S) [] E0 (aH 0) (aO (aH 1) bw))
theorem qC {C:MC}{A:Addr->Prop}{H:Hp}:∀{ns:qS}{vs:List V},AJ C A H vs (ns.map PV.int)->vs=ns.map V.int
 | [],_,r=>by cases r;rfl
 | n::ns,_,r=>by
  cases r with
  | cons h t=>
   cases h
   rw[qC t]
   rfl
theorem wg {pb:List PV->Option PV}{cn:Nat}{S:List PV}:∀{ws EZ:List WS}{ns:qS}{ls:List PV},Vm pb cn S ws ns=some (ls,EZ)->ws.length=ns.length/\ls.length=ws.length/\EZ.length=ws.length
 | [],_,[],_,h=>by cases h;exact⟨rfl,rfl,rfl⟩
 | [],_,_::_,_,h=>by cases h
 | _::_,_,[],_,h=>by cases h
 | w::ws,EZ,n::ns,ls,h=>by
  obtain⟨r,_,h2⟩:=ag.mp (show ((tR pb cn S w n).bind _)=_ from h)
  obtain⟨⟨q1,q2⟩,h3,h4⟩:=ag.mp h2
  cases h4
  obtain⟨a1,a2,a3⟩:=wg h3
  exact⟨by simp[a1],by simp[a2],by simp[a3]⟩
theorem Bi.tup {C:MC}{cn:Nat}{F:Addr->Prop}{H H':Hp}{cs:List WC}{ws:List WS}(W:EX C cn F H cs ws)(kp:Bi cs H H'){b:Addr}{o:HO}(e:H b=some o)(m:gM o=false):H' b=some o:=by
 refine kp b o e λc hc=>?_
 obtain⟨i,hi⟩:=ef.mp hc
 have LV:i < ws.length:=by rw[← W.len];exact(ai.mp hi).1
 obtain⟨_,Wi⟩:=W.all i c _ hi (af LV)
 obtain⟨_,b2,_⟩:=Wi.lp
 obtain⟨_,b3,_⟩:=Wi.ln
 obtain⟨_,b4,_⟩:=Wi.lo
 exact⟨λz=>(by rw[z,b2] at e;cases e;cases m),λz=>(by rw[z,b3] at e;cases e;cases m),λz=>(by rw[z,b4] at e;cases e;cases m)⟩
theorem Bi.lst {C:MC}{cn:Nat}{F:Addr->Prop}{H H':Hp}{cs:List WC}{ws:List WS}(W:EX C cn F H cs ws)(kp:Bi cs H H'){b:Addr}{xs:List V}(e:H b=some (.lst xs))(n:∀c∈cs,b≠c.lp):H' b=some (.lst xs):=by
 refine kp b _ e λc hc=>?_
 obtain⟨i,hi⟩:=ef.mp hc
 have LV:i < ws.length:=by rw[← W.len];exact(ai.mp hi).1
 obtain⟨_,Wi⟩:=W.all i c _ hi (af LV)
 obtain⟨_,b3,_⟩:=Wi.ln
 obtain⟨_,b4,_⟩:=Wi.lo
 exact⟨n c hc,bQ e b3 (λz=>nomatch z),bQ e b4 (λz=>nomatch z)⟩
theorem Bi.Vl {H':Hp}{ws:List WS}(kp:Bi cs H H')(W:EX C cn F H' cs ws){x:Addr}(e:H' x=none):H x=none:=by
 cases q:H x with
 | none=>rfl
 | some o=>
  have nc:=W.nc e
  rw[kp x o q λc hc=>⟨(nc c hc).2.2.1,(nc c hc).2.2.2.1,(nc c hc).2.2.2.2⟩] at e
  cases e
theorem Kept.S {c:WC}{H':Hp}(k:Kept c F H H')(hc:c∈cs):Bi cs H H':=λb o e n=>k b o e (n c hc).1 (n c hc).2.1 (n c hc).2.2
theorem nb1 {S:List PV}{ws EZ:List WS}{ns:qS}{ls:List PV}{wl b:Addr}{rest:St}{R:VK}(T:WT C.K (C.cl cn))(W:EX C cn F H cs ws)(EJ:H wl=some (.lst (cs.map λc=>V.ref c.a)))(GI:∀c∈cs,wl≠c.lp)(hz:cs.length<=1000)
  (hb:DV C.K H b (ns.map V.int)) (hn:Vm pb cn S ws ns=some (ls,EZ)) (dF:∀D,H D=none->¬ F D)
  (q:∀H' F' D zs,Bi cs H H'->F8 F F' H->EX C cn F' H' cs EZ->H D=none->¬ F' D->H' D=some (.lst zs)->AJ C F' H' zs ls->R (.ref D) H'):
  Qj C cn pb S (some (.ref wl)::some (.ref b)::rest) H R:=by
 obtain⟨l1,l2,l3⟩:=wg hn
 have lc:=W.len
 refine Et (a:=wl) (b:=b) (xs:=cs.map λc=>V.ref c.a) (ys:=ns.map V.int) (rest:=[]) (λR r=>⟨_,rfl,_,rfl,r⟩) rfl (by simp;omega) (Bz.of EJ) hb.sq λD hD=>?_
 have wD:wl≠D:=aq EJ hD
 refine⟨λi zs Hi=>∃Fi Wn Wo S1 OX,Vm pb cn S (ws.drop i) (ns.drop i)=some (Wn,Wo)/\ls=S1++Wn/\EZ=OX++Wo/\S1.length=i/\OX.length=i/\EX C cn Fi Hi cs (OX++ws.drop i)/\AJ C Fi Hi zs S1/\F8 F Fi H/\Bi cs H Hi/\Hi D=some (.lst zs)/\¬ Fi D,
  ⟨F,ls,EZ,[],[],hn,rfl,rfl,rfl,rfl,W.same (aL hD _),.nil,⟨λ_ z=>z,λ_ z=>.inl z⟩,λx o e _=>aL hD _ x o e,az,dF D hD⟩,
  λi zs Hi _ ⟨Fi,Wn,Wo,S1,OX,h1,h2,h3,h4,h5,Wi,ri,gi,ki,di,ni⟩=>⟨Bz.of (ki.lst W EJ GI),DV.sq (hb.imp (λz=>ki.tup W z rfl) id),di⟩,λi x y zs Hi hx hy ⟨Fi,Wn,Wo,S1,OX,h1,h2,h3,h4,h5,Wi,ri,gi,ki,di,ni⟩ t ht=>?_,
  λzs Hi ⟨Fi,Wn,Wo,S1,OX,h1,h2,h3,h4,h5,Wi,ri,gi,ki,di,ni⟩=>?_⟩
 ·dsimp only [oJ]
  refine jb ?_
  rw[cp] at hx hy
  obtain⟨c,hc,rfl⟩:=br.mp hx
  obtain⟨n,LH,rfl⟩:=br.mp hy
  have hi:i < cs.length:=(ai.mp hc).1
  have hw:ws.drop i=ws[i]'(by omega)::ws.drop (i+1):=bX (by omega)
  have P4:ns.drop i=n::ns.drop (i+1):=by
   rw[bX (by omega)]
   congr 1
   exact(ai.mp LH).2
  generalize ws[i]'(by omega)=w at hw
  rw[hw,P4] at h1
  obtain⟨⟨l,w1⟩,hl,h1⟩:=ag.mp (show ((tR pb cn S w n).bind _)=_ from h1)
  obtain⟨⟨q1,q2⟩,hr,he⟩:=ag.mp h1
  cases he
  have cur:(OX++ws.drop i)[i]?=some w:=by rw[hw,hZ (by omega),h5];simp
  have s1:=aL ht (.tup [V.ref c.a,V.int n])
  have Wt:=Wi.same s1
  obtain⟨S2,Wc⟩:=Wt.all i c w hc cur
  have dt:upd Hi t (.tup [V.ref c.a,V.int n]) D=some (.lst zs):=s1 _ _ di
  refine⟨_,rfl,c.a,c.dx,_,rfl,by rw[← S2];exact Wc.ob,rfl,_,rfl,?_⟩
  refine⟨Fi,c,w,n,l,w1,rfl,S2,by rw[S2];exact T,Wc,by rw[S2];exact hl,λH' F' v kp gr W' rv=>?_⟩
  have mc:=dn hc
  have Zi:=W.nc hD c mc
  have dD:H' D=some (.lst zs):=kp D _ dt Zi.2.2.1 Zi.2.2.2.1 Zi.2.2.2.2
  have QY:¬ F' D:=λz=>(gr.2 D z).elim ni λe=>by rw[dt] at e;cases e
  have Ws:=Wt.set hc kp gr W' S2
  have es:(OX++ws.drop i).set i w1=(OX++[w1])++ws.drop (i+1):=by
   rw[hw,List.set_append_right _ _ (by omega),h5]
   simp
  rw[es] at Ws
  have kS:Bi cs Hi H':=Bi.trans (λx o e _=>s1 x o e) (kp.S mc)
  have exz:Ex Fi Hi F' H':=λx o e=>by
   have e':=s1 x o e
   obtain⟨m1,m2,m3,m4,m5⟩:=Wc.nF
   obtain⟨_,a1,_⟩:=Wc.lp
   obtain⟨_,a2,_⟩:=Wc.ln
   obtain⟨_,a3,_⟩:=Wc.lo
   exact⟨λf=>⟨kp x o e' (λz=>m3 (z▸f)) (λz=>m4 (z▸f)) (λz=>m5 (z▸f)),gr.1 x f⟩,λm=>kp x o e' (λz=>by rw[z,a1] at e';cases e';cases m) (λz=>by rw[z,a2] at e';cases e';cases m) λz=>by rw[z,a3] at e';cases e';cases m⟩
  have exD:Ex F' H' F' (upd H' D (.lst (zs++[v]))):=λx o e=>⟨λf=>⟨by rw[ao (show x≠D from λz=>QY (z▸f))];exact e,f⟩,λm=>by
   rw[ao (show x≠D from λz=>by rw[z,dD] at e;cases e;cases m)]
   exact e⟩
  have lz:zs.length=S1.length:=ri.length
  refine⟨dD,bZ (by omega),F',q1,q2,S1++[l],OX++[w1],hr,by rw[h2];simp,by rw[h3];simp,by simp[h4],by simp[h5],Ws.own dD rfl QY (λd hd=>W.nc hD d hd),((ri.ex exz).ex exD).append (.cons (rv.ex exD) .nil),gi.trans gr (λx e=>ki.Vl Wi (s1.free e)),λx o e n=>?_,az,QY⟩
  rw[ao (aq e hD)]
  exact(ki.trans kS) x o e n
 ·have hdw:ws.drop (cs.map λc=>V.ref c.a).length=[]:=by rw[aI,lc];simp
  have hdn:ns.drop (cs.map λc=>V.ref c.a).length=[]:=by rw[aI,lc,l1];simp
  rw[hdw,hdn] at h1
  cases h1
  rw[bE] at h2 h3
  rw[hdw,bE] at Wi
  subst h2 h3
  exact q Hi Fi D zs ki gi Wi hD ni di ri
theorem Bx {K:W.Frag}{a:Addr}{us:List V}{tl:TE}{AQ:List (Option Nat)}{tt:TT}{te:TE}{σ rest:St}(hw:∀R:VK,R (.ref a) H->tl σ H R)(hσ:cI AQ σ=none::rest)(ha:Bz K H a us)
  (k:∀D,H D=none->∃Pv:Nat->List V->Hp->Prop,Pv 0 [] (upd H D (.lst []))/\(∀i ys H,i<=us.length->Pv i ys H->Bz K H a us/\H D=some (.lst ys)) /\
   (∀i x ys H,us[i]?=some x->Pv i ys H->tt (some x::rest) H λb H3=>if b=true then te (some x::rest) H3 λy H4=>H4 D=some (.lst ys)/\ys.length < sizeLine/\Pv (i+1) (ys++[y]) (upd H4 D (.lst (ys++[y]))) else Pv (i+1) ys H3) /\
   ∀ys H,Pv us.length ys H->Q (.ref D) H):gK (yf K tl) AQ (aX 0) tt te σ H Q:=
 ⟨hw _ ⟨a,rfl,⟨us,ha⟩,λD hD=>let ⟨Pv,h0,h1,h2,h3⟩:=k D hD;Gw hσ Pv h0 h1 h2 h3⟩⟩
theorem Eu {n:Nat}{ta:TA}{AQ:List (Option Nat)}{tt:TT}{te:TE}{σ rest:St}(hw:∀R:List V->Hp->Prop,R [.int (n:Nat)] H->ta σ H R)(hn:n<=1000000)(hσ:cI AQ σ=none::rest)
  (k:∀D,H D=none->∃Pv:Nat->List V->Hp->Prop,Pv 0 [] (upd H D (.lst []))/\(∀i ys H,i<=n->Pv i ys H->H D=some (.lst ys)) /\
   (∀i ys H,i < n->Pv i ys H->tt (some (.int (0+(i:Nat)))::rest) H λb H3=>if b=true then te (some (.int (0+(i:Nat)))::rest) H3 λy H4=>H4 D=some (.lst ys)/\ys.length < sizeLine/\Pv (i+1) (ys++[y]) (upd H4 D (.lst (ys++[y]))) else Pv (i+1) ys H3) /\
   ∀ys H,Pv n ys H->Q (.ref D) H):gK (Dq ta) AQ (aX 0) tt te σ H Q:=by
 refine⟨hw _ ⟨(n:Nat),rfl,by omega,by omega,λD hD=>?_⟩⟩
 obtain⟨Pv,h0,h1,h2,h3⟩:=k D hD
 have e:((n:Nat):Int).toNat=n:=rfl
 rw[e]
 exact DR hσ Pv h0 h1 h2 h3
abbrev Su (K:PySem.W.Frag):List V->Hp->VK->Prop:=λxs H Q=>∃p ys,xs=[.ref p]/\((Bz K H p ys/\∀l,H l=none->Q (.ref l) (upd H l (.tup ys)))\/(Co K H p ys/\Q (.ref p) H))
def Qk (K:W.Frag)(aS:Addr):TE:=gK (Dq (aO (L4 (zR K) (aO (tC (.ref aS)) bw)) bw)) [none,some 2] (aX 0) oJ
 (L4 (Su K) (aO (gK (yf K (aH 1)) [none,some 0] (aX 0) oJ (MA (vQ K) (aH 0) (aH 1))) bw))
theorem xG {C:MC}{A:Addr->Prop}{H:Hp}:∀{l:List PV}{k:qS}{vs:List V},AJ C A H vs l->oZ l=some k->vs=k.map V.int
 | [],_,_,r,e=>by cases e;cases r;rfl
 | p::l,k,_,r,e=>by
  cases p <;> first | (cases e;done) | skip
  obtain⟨k2,h2,e⟩:=ag.mp (show ((oZ l).bind _)=_ from e)
  cases e
  cases r with
  | cons h t=>cases h;rw[xG t h2];rfl
theorem xH {C:MC}{A:Addr->Prop}{H:Hp}{m:Nat}:∀{ls:List PV}{rows:List (List Int)}{zs:List V},AJ C A H zs ls->uT m ls=some rows->zs.length=rows.length/\∀(j:Nat) (z:V),zs[j]?=some z->∃a row,z=.ref a/\H a=some (.lst (row.map V.int))/\rows[j]?=some row/\row.length=m
 | [],_,_,r,e=>by cases e;cases r;exact⟨rfl,λj z h=>by simp at h⟩
 | p::ls,rows,_,r,e=>by
  cases p <;> first | (cases e;done) | skip
  rename_i l
  obtain⟨k,h1,e⟩:=ag.mp (show ((oZ l).bind _)=_ from e)
  obtain⟨q,h2,e⟩:=ag.mp e
  split at e
  ·rename_i hk
   cases e
   cases r with
   | cons h t=>
    obtain⟨l1,l2⟩:=xH t h2
    refine⟨by simp[l1],λj z hz=>?_⟩
    cases j with
    | zero=>
     simp at hz
     subst hz
     cases h with
     | lst e _ r=>exact⟨_,k,rfl,by rw[← xG r h1];exact e,rfl,hk⟩
    | succ j=>exact l2 j z (by simpa using hz)
  ·cases e
theorem nb2 {m:Nat}{aS lv:Addr}{us zs:List V}{ls:List PV}{rows:List (List Int)}{v0 v1:Option V}{R:VK}(hS:Co C.K (λ_=>none) aS us)(hu:us.length=m)(hm:m<=1000)(hlv:H lv=some (.lst zs))(hz:zs.length<=1000)(rz:AJ C F H zs ls)(hr:uT m ls=some rows)
  (q:∀H' D IJ,AK H H'->H D=none->H' D=some (.lst IJ)->AJ C F H' IJ (((List.range m).map λi=>rows.map λk=>k.getD i 0).map B5)->R (.ref D) H'):Qk C.K aS [v0,v1,some (.ref lv)] H R:=by
 obtain⟨lz,rowAt⟩:=xH rz hr
 refine Eu (n:=m) (rest:=[some (.ref lv)]) (λR r=>?_) (by omega) rfl λD hD=>?_
 ·exact⟨aS,us,rfl,.inr (kW hS),by rw[hu];exact r⟩
 ·refine⟨λi ys Hi=>AK H Hi/\Hi D=some (.lst ys)/\ys.length=i/\AJ C (λ_=>False) Hi ys (((List.range i).map λi=>rows.map λk=>k.getD i 0).map B5),⟨aL hD _,az,rfl,.nil⟩,λi ys Hi _ h=>h.2.1,?_,λys Hi ⟨s,d,l,r⟩=>q Hi D ys s hD d (r.ex (aV λ_ _ _ z=>z.elim))⟩
  rintro i ys Hi hi ⟨s,d,l,r⟩
  dsimp only [oJ]
  refine jb ?_
  have Wq:=s _ _ hlv
  refine Bx (a:=lv) (us:=zs) (rest:=[some (.int (0+(i:Nat)))]) (λR r=>⟨_,rfl,r⟩) rfl (Bz.of Wq) λD2 Wr=>?_
  refine⟨λj Q1 Hj=>AK Hi Hj/\Hj D2=some (.lst Q1)/\Q1=(rows.take j).map λk=>V.int (k.getD i 0),⟨aL Wr _,az,by simp⟩,λj Q1 Hj _ h=>⟨Bz.of (h.1 _ _ Wq),h.2.1⟩,λj z Q1 Hj hz2 ⟨s2,d2,l2⟩=>?_,λQ1 Hj ⟨s2,d2,l2⟩=>?_⟩
  ·dsimp only [oJ]
   refine jb ?_
   obtain⟨a,row,rfl,ha,Wu,hlen⟩:=rowAt j z hz2
   have hj:j < rows.length:=(ai.mp Wu).1
   refine⟨_,rfl,_,rfl,a,row.map V.int,_,.int (row.getD i 0),rfl,rfl,Bz.of (s2 _ _ (s _ _ ha)),?_,d2,bZ ?_,s2.over Wr _,az,?_⟩
   ·unfold B4 JO
    have LV:i < row.length:=by omega
    have e1:(0:Int)<=0+(i:Nat):=by omega
    simp[LV]
   ·rw[l2,aI,g6];omega
   ·rw[l2,List.take_add_one,Wu];simp
  ·refine⟨D2,Q1,rfl,.inl ⟨Bz.of d2,λt ht=>?_⟩⟩
   rw[lz,ow] at l2
   have dj:Hj D=some (.lst ys):=s2 _ _ d
   have st:=aL ht (.tup Q1)
   have nDt:D≠t:=aq dj ht
   refine⟨st _ _ dj,bZ (by omega),((s.trans s2).trans st).over hD _,az,by simp[l],?_⟩
   have ex:Ex (λ_=>False) Hi (λ_=>False) (upd (upd Hj t (.tup Q1)) D (.lst (ys++[.ref t]))):=λx o e=>⟨λz=>z.elim,λm=>by
    rw[ao (show x≠D from λz=>by rw[z,d] at e;cases e;cases m)]
    exact st x o (s2 x o e)⟩
   have er:(List.range (i+1)).map (λi=>rows.map λk=>k.getD i 0)=(List.range i).map (λi=>rows.map λk=>k.getD i 0)++[rows.map λk=>k.getD i 0]:=by rw[List.range_succ,dc];rfl
   rw[er,dc]
   refine(r.ex ex).append (.cons (.tup (vs:=Q1) (by rw[ao nDt.symm,az]) ?_) .nil)
   rw[l2,ke]
   exact j9 _ _ (λk=>.int _) rows
def Zj (C:MC)(cn:Nat)(pb:List PV->Option PV)(S:List PV)(aS:Addr):TS:=cA (gA (Qj C cn pb S) (aX 2)) (iU (Qk C.K aS))
theorem Ql {S:List PV}{aS:Addr}{E:XK}(hS:qz C aS S)(hm:S.length<=1000)(h:zV C cn pb S vs H Q E):Zj C cn pb S aS { nx:=λ_ H'=>Q .AO H',rt:=Q } (L2.start ["walks","node","later"] vs) H:=by
 obtain⟨F,cs,ws,ns,nodes,EZ,wl,vn,rfl,ne,T,W,EJ,nwF,GI,hz,rn,hn,q⟩:=h
 obtain⟨us,QU,UG⟩:=hS
 have oW:us.length=S.length:=(UG F H).length
 obtain⟨⟨ls,w2⟩,hF,hn⟩:=ag.mp hn
 obtain⟨rows,hr,hn⟩:=ag.mp hn
 cases hn
 obtain⟨b,vs,rfl,hb,rb⟩:=AM.tup (.inl rn)
 have ev:=qC rb
 subst ev
 unfold Zj
 dsimp only [cA,gA,iU,aX]
 obtain⟨c,hc⟩:=kf _ ne
 obtain⟨i,hi⟩:=ef.mp hc
 have LV:i < ws.length:=by rw[← W.len];exact(ai.mp hi).1
 have dm:=(W.all i c _ hi (af LV)).2.dm
 refine nb1 (rest:=[none]) T W EJ GI hz hb hF (λD e z=>by obtain⟨o,e'⟩:=dm D z;rw[e] at e';cases e') λH1 F1 D zs k1 g1 W1 hD nD d1 r1=>?_
 obtain⟨l1,l2,l3⟩:=wg hF
 have lz:zs.length=ls.length:=r1.length
 have lc:=W.len
 refine nb2 (C:=C) (F:=F1) (us:=us) (zs:=zs) (ls:=ls) QU oW hm d1 (by omega) r1 hr λH' D2 IJ s Wr d2 r2=>?_
 have Zk:∀b,F1 b->∃o,H1 b=some o:=(W1.all i c _ hi (af (by have:=W1.len;omega))).2.dm
 exact q H' F1 D2 IJ (λx o e n=>s x o (k1 x o e n)) g1 (W1.same s) (k1.Vl W1 Wr) (λz=>by obtain⟨o,e⟩:=Zk D2 z;rw[Wr] at e;cases e) d2 r2
end Lake.MR
namespace Lake.L2
open PySem PySem.Spec PyProof.Rows
theorem nR:fillsNumberSlot (.type "tuple") "mul" = pure false:=
 PySem.fillsNumberSlot_seq (id := "tuple.__mul__") (r:=some (.builtin "tuple.__rmul__")) lf.lookup (by decide +kernel) (by rw[eM,c9];kernel_rfl) (by decide +kernel)
theorem By:typeLookup (.type "tuple") "__rmul__" = pure (some (.builtin "tuple.__rmul__")):=by rw[eM,c9];kernel_rfl
theorem uU:seqRepeat? (.type "tuple")=pure (some (.builtin "tuple.__mul__")):=by
 unfold seqRepeat?
 rw[PySem.seqSlot_of (T := "tuple") (name := "__mul__") (id := "tuple.__mul__") lf.lookup (by decide +kernel),PySem.seqSlot_of (T := "tuple") (name := "__rmul__") (id := "tuple.__rmul__") By (by decide +kernel)]
 rfl
theorem zW (a:Int)(t:Tok)(l:Addr)(items:q5)(n:Nat)(sl:Array (Option Value)):Meets (Builtin.«int.__rmul__» ⟨[.int a t,.ref l],[]⟩) (λ_ R s=>s.heap.get? l=some { cls:=.type "tuple",dict:=none,data:=.seq items n,slots:=sl }/\R (.ok (.ret Value.notImplemented)) s):=
 .of_wp λprog w A R s h=>by
  obtain⟨hp,g,d,tk,os⟩:=s
  obtain⟨h1,h⟩:=h
  wp_walk
  exact⟨_,rfl,h⟩
theorem BJ (l:Addr)(t:Tok)(items:q5)(n:Nat)(sl:Array (Option Value)):Meets (Builtin.«tuple.__mul__» ⟨[.ref l,.int 1 t],[]⟩) (λ_ R s=>s.heap.get? l=some { cls:=.type "tuple",dict:=none,data:=.seq items n,slots:=sl }/\R (.ok (.ret (.ref l))) s):=
 .of_wp λprog w A R s h=>by
  obtain⟨hp,g,d,tk,os⟩:=s
  obtain⟨h1,h⟩:=h
  unfold Builtin.«tuple.__mul__»
  wp_walk
  exact⟨_,rfl,h⟩
theorem BK (l:Addr)(t:Tok)(u:Value)(n:Nat)(sl:Array (Option Value)):Meets (Builtin.«tuple.__mul__» ⟨[.ref l,.int 2 t],[]⟩) (λ_ R s=>s.heap.get? l=some { cls:=.type "tuple",dict:=none,data:=.seq #[u] n,slots:=sl }/\R (.ok (.ret (.ref s.heap.objs.size))) { s with heap:=s.heap.push { cls:=.type "tuple",data:=.seq #[u,u] } }):=
 .of_wp λprog w A R s h=>by
  obtain⟨hp,g,d,tk,os⟩:=s
  obtain⟨h1,h⟩:=h
  unfold Builtin.«tuple.__mul__»
  wp_walk
  exact⟨_,rfl,h⟩
section
variable {X:Cx}
def Kw:R2:=λx y H Q=>∃t u,x=.ref t/\H t=some (.tup [u])/\((y=.int 1/\Q (.ref t) H)\/(y=.int 2/\∀l,H l=none->Q (.ref l) (upd H l (.tup [u,u]))))
theorem Mg:Ct X (binaryOp .Mult) Kw:=by
 intro AF s σ H x y v u Q I rx ry h
 obtain⟨t,a,rfl,ht,h⟩:=h
 cases rx
 obtain⟨_,AL,r,⟨c,dd,da,sl⟩,e1,e2,n,e3,e4⟩:=(show AR X.prog X.w X.K H s.heap t (.tup [a]) from I.AW t _ ht)
 simp only at e2 e3 e4
 subst e2 e3 e4
 obtain⟨w,rfl,rw1⟩:=Vals.one r
 have T:s.TypeIs (.ref t) "tuple" := ⟨_,e1,rfl⟩
 rcases h with ⟨rfl,q⟩ | ⟨rfl,q⟩
 ·obtain⟨tk,rfl⟩:=ry
  exact nh (T := "tuple") (U := "int") (by decide) T (λs'=>oQ s' 1 tk) nR F.fills_int_mul l8 uU F.slot_int_index.lookup
   (k9 l8 (oQ s 1 tk) F.entry_int_rmul (F.args_int_rmul_2 _ _) (zW 1 tk t _ n sl) ⟨e1,rfl,T,k9 lf T F.entry_tuple_mul (F.args_tuple_mul_2 _ _) (BJ t tk _ n sl) ⟨e1,.ref t,H,I,rfl,q⟩⟩)
 ·obtain⟨tk,rfl⟩:=ry
  refine nh (T := "tuple") (U := "int") (by decide) T (λs'=>oQ s' 2 tk) nR F.fills_int_mul l8 uU F.slot_int_index.lookup
   (k9 l8 (oQ s 2 tk) F.entry_int_rmul (F.args_int_rmul_2 _ _) (zW 2 tk t _ n sl) ⟨e1,rfl,T,k9 lf T F.entry_tuple_mul (F.args_tuple_mul_2 _ _) (BK t tk w n sl) ⟨e1,?_⟩⟩)
  exact⟨.ref s.heap.objs.size,_,I.laid (t':=s.toks) (λb o e=>ac _ e) (aw _) (show AR X.prog X.w X.K _ _ _ (.tup [a,a]) from ⟨by show (2:Nat)<=sizeLine;decide,[w,w],.cons rw1 (.cons rw1 .nil),⟨_,am _ rfl,rfl,0,rfl,rfl⟩⟩),rfl,q _ I.fresh⟩
def uV (i:Nat)(f:Addr)(sp:Sp)(t:TA):TE:=fun σ H Q=>σ[i]?=some (some (.ref f))/\t σ H λvs H1=>sp vs H1 Q E0
theorem Jv {k i:Nat}{f:Addr}{fd:FuncData}{ps:qE}{sp:Sp}{x:Str}{p pos:Pos}{e:Expr}{es:qB}{t:TA}(F:BF X.prog X.w X.K X.mg X.base Fu k f fd ps sp)(hr:A7 k X.A)(hk:W.keepIn X.K (.ref f)=true)(hb:Binds X.K fd ps [])(ha:PA X (e::es) t)
  (hN:X.N[i]?=some x:=by rfl) (hv:Mc X.env.scope x:=by first | exact ff rfl | exact fz (ff rfl) | exact fz (fz rfl)) (hd:(x == ("__debug__" : Str))=false:=by decide) (EI:(x == ("__classdict__" : Str))=false:=by decide)
  (he:starEach (e::es) X.env=(false,eval e X.env)::starEach es X.env:=by rfl) (BO:(backTo pos (starEach es X.env)).any (·.1)=false:=by rfl):PE X (.Call (.Name x p) (e::es) [] pos) (uV i f sp t):=by
 intro AF s σ H Q I ⟨hσ,h⟩
 refine fF (AZ ((ie hN hv hd EI) AF s σ H (λv H1=>v=.ref f/\t σ H1 λvs H2=>sp vs H2 Q E0) I ⟨_,hσ,rfl,h⟩) ?_)
 rintro u s1 ⟨v,H1,I1,r1,e1,h1⟩
 subst e1
 cases (show u=Value.ref f from r1)
 refine kF (h₀:=X.base) I.ok.mod.EN hk (AZ (ha pos AF s1 σ H1 _ I1 h1) λus s2 ⟨vs,H2,I2,r,q⟩=>⟨I2.Cs,?_⟩) he BO
 exact yP F hr hb .nil uD I2 r (by rw[bE];exact q)
end
end Lake.L2
namespace Lake.My
open PySem L2 MR
@[simp] theorem Th (i j:Int):GB (.int i) (.int j)=some (decide (i=j)):=rfl
@[simp] theorem Ti (i j:Str):GB (.str i) (.str j)=some (decide (i=j)):=rfl
@[simp] theorem TQ (i j:Bool):GB (.bl i) (.bl j)=some (decide (i=j)):=rfl
theorem dC {α:Type}{xs:List α}{k:Nat}{x:α}(h:xs[k]?=some x):B4 xs (k:Int)=some x:=Ld h
section
variable {α:Type}{env:MR.Env}{g:PV->MR.Env->Option MR.Env}{t:MR.Env->Option Bool}{f:MR.Env->Option PV}
theorem qF (c h:α->PV):∀(ys:List α),(∀y∈ys,∃e,g (c y) env=some e/\f e=some (h y))->dg env g jx f (ys.map c)=some (ys.map h)
 | [],_=>rfl
 | y::ys,hh=>by
  obtain⟨e,h1,h2⟩:=hh y ar
  have ih:=qF c h ys λz hz=>hh z (al _ hz)
  simp[dg,h1,h2,ih]
theorem qG (c h:α->PV)(p:α->Bool):∀(ys:List α),(∀y∈ys,∃e,g (c y) env=some e/\t e=some (p y)/\(p y=true->f e=some (h y)))->dg env g t f (ys.map c)=some ((ys.filter p).map h)
 | [],_=>rfl
 | y::ys,hh=>by
  obtain⟨e,h1,h2,h3⟩:=hh y ar
  have ih:=qG c h p ys λz hz=>hh z (al _ hz)
  cases hp:p y with
  | true=>simp[dg,h1,h2,h3 hp,ih,hp]
  | false=>simp[dg,h1,h2,ih,hp]
end
theorem lV {α:Type}(c:α->PV):∀(ys:List α) (n:Nat),eV n (ys.map c)=(ys.zipIdx n).map λy=>.tup [.int (y.2:Nat),c y.1]
 | [],_=>rfl
 | y::ys,n=>by simp[eV,lV c ys]
end Lake.My
namespace Lake.MR
open PySem L2 PyProof.Rows PySem.Spec
theorem Wv {C1 scope:Scope}{ON N:qE}{AQ:List (Option Nat)}(h1:scope.kind=.function:=by rfl)(h2:∀y∈scope.names,y.2≠.cell:=by decide +kernel)(h3:∀y∈scope.names,y.2=.local->scope.names.lookup y.1=some .local:=by decide +kernel)
  (h4:∀y∈scope.names,y.2=.free->C1.names.lookup y.1=some .cell\/C1.names.lookup y.1=some .free:=by decide +kernel) (h5:uG scope ON N AQ=true:=by decide +kernel):VW C1 scope ON N AQ:=⟨h1,h2,h3,h4,h5⟩
theorem D3 {N P:qE}{sc:Scope}(h1:sc.kind=.function:=by rfl)(h2:sc.isCoroutine=false:=by rfl)(h3:sc.isGenerator=false:=by rfl)(h4:N.Nodup:=by decide +kernel)(h5:N.take P.length=P:=by rfl)
  (h6:∀x∈P,sc.names.lookup x=some .local\/sc.names.lookup x=some .cell:=by decide +kernel) (h7:∀y∈sc.names,y.2≠.free:=by decide +kernel):AN N P sc:=⟨h1,h2,h3,h4,h5,h6,h7⟩
theorem wk {X:Cx}{N:qE}{scope:Scope}{C s H fp}{x:Str}{pos:Pos}(i:Nat)(hN:N.Nodup:=by decide +kernel)(hi:N[i]?=some x:=by rfl)(hx:Loc (X.comp N scope C s H fp).env.scope x:=by exact ff rfl)
  (hf:(X.comp N scope C s H fp).fn x=true\/(X.comp N scope C s H fp).env.scope.names.lookup x=some .local:=by first | exact .inl rfl | exact .inr rfl | assumption):PG (X.comp N scope C s H fp) (.Name x pos) (aX i):=cP hN hi hx hf
section
variable {P:Program}{w:World}{K:W.Frag}{mg:Str->Option Value}{base:Heap}
theorem FC {x qual:Str}{st:Stmt}{f:Addr}{fd:FuncData}{N ps:qE}{k n kk:Nat}{C:MC}{ro:Bool}{g:Env->Option Out}(F:EA K x qual st f fd)(S:AN N ps (aC st))(G G' L:qr)
  (hb:∀{DB:Value}{A:Around}{outer:List PySem.Env}{s:Shared}{H:Hp}{E:XK},A7 k (A.deeper (envOfC qual (aC st) s.heap.objs.size f DB))->∀{B H'},L7 (sJ Fu P w K mg base N qual (aC st) f DB A outer s H E).LJ ⟨C,B,H',λ_=>none⟩ G G' L ro (d8 st) g)
  (hp:kk=ps.length:=by rfl) (hN:N.length=n:=by rfl) (hk:kk<=n:=by decide) (hG:(G.all λi=>decide (kk<=i))=true:=by decide):BF P w K mg base Fu (k+1) f fd ps (DZ C (cC n kk ro g) ro):=
 F.ok S (λvs H Q E h=>(Lz h).trans hp) λDB A outer s H vs Q E hr h=>Ly hN hk hG (λB H'=>hb hr) h
end
end Lake.MR
namespace Lake.L2
open PySem MR
section
variable {K:W.Frag}{x q:Str}{st:Stmt}{f:Addr}{fd:FuncData}{ps:qE}(F:EA K x q st f fd)
include F
theorem EA.UH (hl:ps.length=1:=by rfl)(h:∀k d p n c t a,bindArgs (W.fnOf x q (fZ st) (d8 st) (aC st) .none k d p n c t) ⟨[a],[]⟩=pure (ps.zip [a]):=by intros;rfl):Binds K fd ps []:=F.binds λk d p n c t us e=>Pz us (e.trans hl) (h k d p n c t)
theorem EA.Iy (hl:ps.length=2:=by rfl)(h:∀k d p n c t a b,bindArgs (W.fnOf x q (fZ st) (d8 st) (aC st) .none k d p n c t) ⟨[a,b],[]⟩=pure (ps.zip [a,b]):=by intros;rfl):Binds K fd ps []:=F.binds λk d p n c t us e=>PB us (e.trans hl) (h k d p n c t)
theorem EA.Zl (hl:ps.length=3:=by rfl)(h:∀k d p n c t a b g,bindArgs (W.fnOf x q (fZ st) (d8 st) (aC st) .none k d p n c t) ⟨[a,b,g],[]⟩=pure (ps.zip [a,b,g]):=by intros;rfl):Binds K fd ps []:=F.binds λk d p n c t us e=>PJ us (e.trans hl) (h k d p n c t)
theorem EA.bd4 (hl:ps.length=4:=by rfl)(h:∀k d p n c t a b g i,bindArgs (W.fnOf x q (fZ st) (d8 st) (aC st) .none k d p n c t) ⟨[a,b,g,i],[]⟩=pure (ps.zip [a,b,g,i]):=by intros;rfl):Binds K fd ps []:=F.binds λk d p n c t us e=>Ss us (e.trans hl) (h k d p n c t)
end
open PySem PySem.Spec PyProof.Rows
section
variable {X:Cx}
def yu (K:W.Frag):R2:=λx y H Q=>∃a b ys,x=.ref a/\y=.ref b/\Co K H a []/\Co K H b ys/\Q (.ref b) H
theorem Mh:Ct X (binaryOp .Add) (yu X.K):=by
 intro AF s σ H x y v u Q I rx ry h
 obtain⟨a,b,ys,rfl,rfl,ha,hb,q⟩:=h
 cases rx
 cases ry
 obtain⟨AL,r1,p1,_⟩:=I.tuple ha
 obtain⟨C9,r2,p2,_⟩:=I.tuple hb
 cases r1
 obtain⟨⟨cls,dd,data,sl⟩,ho,hc,n,hd⟩:=id p1
 obtain⟨⟨VP,Sl,data2,Sm⟩,L5,MG,n2,hd2⟩:=id p2
 simp only at hc hd MG hd2
 subst hc hd MG hd2
 exact concat_meets ⟨_,ho,rfl⟩ ⟨_,L5,rfl⟩ oq qc kN kK (kq _ _)
  (tuple_addW0 a b _ C9.toArray n n2 dd Sl sl Sm (by simp)) ⟨ho,L5,⟨.ref b,H,I,rfl,q⟩⟩
end
end Lake.L2
namespace Lake.MR
open PySem L2 PyProof.Rows PySem.Spec
noncomputable def gO:PV->PV->Option PV
 | .tup [],.tup ys=>some (.tup ys)
 | .tup xs,.tup ys=>if xs.length+ys.length<=1000000 then some (.tup (xs++ys)) else none
 | _,_=>none
@[simp] theorem RV (ys:List PV):gO (.tup []) (.tup ys)=some (.tup ys):=id rfl
@[simp] theorem Ew (x:PV)(xs ys:List PV):gO (.tup (x::xs)) (.tup ys)=if (x::xs).length+ys.length<=1000000 then some (.tup ((x::xs)++ys)) else none:=id rfl
section
variable {X:Cx}{b:BX}{G L:qr}{ro:Bool}{pos apos AS:Pos}{m1 m2:Md}{e1 e2:Expr}{f1 f2:rg}
theorem Jw:F6 b .val (λx y H Q=>uA b.C.K x y H Q\/yu b.C.K x y H Q) gO:=by
 intro Ow H v1 v2 p1 p2 p Q hn r1 r2 e k
 unfold gO at e
 split at e
 ·cases e
  obtain⟨a,vs,rfl,ha,ra⟩:=r1.tup
  obtain⟨c,us,rfl,hc,rc⟩:=r2.tup
  cases ra
  exact .inr ⟨a,c,us,rfl,rfl,ha.sq,hc.sq,k _ H (AK.refl _) (hc.rep rc)⟩
 ·rename_i xs ys A3
  split at e
  ·rename_i h
   cases e
   refine .inl (Ln Ow H v1 v2 (.tup xs) (.tup ys) (.tup (xs++ys)) Q hn r1 r2 ?_ k)
   show (if xs≠[]/\xs.length+ys.length<=1000000 then some (PV.tup (xs++ys)) else none)=_
   rw[bd ⟨λz=>A3 z,h⟩]
  ·cases e
 ·cases e
theorem Mi:Ct X (binaryOp .Add) (λx y H Q=>uA X.K x y H Q\/yu X.K x y H Q):=λAF s σ H x y v u Q I rx ry h=>h.elim (Lb AF s σ H x y v u Q I rx ry) (Mh AF s σ H x y v u Q I rx ry)
theorem o9 (h1:SE X b G m1 e1 f1)(h2:SE X b G m2 e2 f2)(hK:X.K=b.C.K:=by rfl):SE X b G .val (.BinOp e1 .Add e2 pos) (b2 gO f1 f2):=oM (r:=λx y H Q=>uA b.C.K x y H Q\/yu b.C.K x y H Q) (by rw[← hK];exact Mi) Jw h1 h2
end
end Lake.MR
namespace Lake.L2
open PySem PySem.Spec PyProof.Rows
section
variable {prog:Program}{w:World}{A:Around}{E:oT}{s:Shared}{a:Addr}
theorem xJ:entryFor table "dict.update.loop" = some Builtin.«dict.update.loop»:=oy (by kernel_rfl)
abbrev LW (prog:Program)(w:World):=cX prog w
theorem zX {h h':Heap}(k:∀b o,h.get? b=some o->o.cls=.type "tuple" -> h'.get? b=some o):∀(n:Nat) (x:AG) (v:Value),CO n h x v->CO n h' x v
 | 0,_,_,q=>q
 | n+1,x,v,q=>q.imp id λ⟨ns,a,e,ev,o,AL,m,h1,h2,h3,p⟩=>⟨ns,a,e,ev,o,AL,m,k a o h1 h2,h2,h3,eN p λx y=>zX k n x y⟩
theorem rE {h h':Heap}{ks:List AG}{b:Addr}(e:(LW prog w).is h ks b)(k:∀b o,h.get? b=some o->o.cls=.type "tuple" -> h'.get? b=some o):(LW prog w).is h' ks b:=by
 obtain⟨o,AL,n,h1,h2,h3,r⟩:=e
 exact⟨o,AL,n,k b o h1 h2,h2,h3,eN r λx y=>zX k 2 x y⟩
theorem zY {h:Heap}{ks:List AG}{b:Addr}(e:(LW prog w).is h ks b):∃o,h.get? b=some o/\o.cls=.type "tuple" := by
 obtain⟨o,AL,n,h1,h2,r⟩:=e
 exact⟨o,h1,h2⟩
theorem o_ {h h':Heap}{d:Addr}{xs:List (List AG×Addr×Value)}(m:A5 (LW prog w) h d xs)(k:∀b o,h.get? b=some o->(b=d\/o.cls=.type "tuple")->h'.get? b=some o):A5 (LW prog w) h' d xs:=by
 obtain⟨o,es,o1,o2,o3,o4,o5,o6⟩:=m
 refine⟨o,es,k d o o1 (.inl rfl),o2,o3,o4,λx hx=>?_,o6⟩
 obtain⟨ob,h1,h2⟩:=zY (o5 x hx)
 exact rE (o5 x hx) λb o' e q=>k _ _ e (.inr q)
def ph (prog:Program)(w:World)(h:Heap)(p:List AG×Addr×Value)(u:Value):Prop:=∃t,u=.ref t/\IsTup h t #[.ref p.2.1,p.2.2]/\(LW prog w).is h p.1 p.2.1
theorem Hb (h:Heap):A5 (LW prog w) (h.push { cls:=.type "dict",data:=.dict #[] }) h.objs.size []:=⟨_,#[],am _ rfl,⟨rfl,rfl,rfl⟩,rfl,rfl,(λx hx=>absurd hx cm),List.nodup_nil⟩
end
inductive EU (K:W.Frag) (H:Hp):List V->List (List AG×V)->Prop where
 | nil:EU K H [] []
 | cons {t b:Addr}{ks:List AG}{v:V}{ts:List V}{kvs:List (List AG×V)}(h:H t=some (.tup [.ref b,v])\/E9 K t [.ref b,v]) (k:CD K H b ks) (r:EU K H ts kvs):EU K H (.ref t::ts) ((ks,v)::kvs)
noncomputable def gJ (kvs more:List (List AG×V)):List (List AG×V):=more.foldl (λacc kv=>putK acc kv.1 kv.2) kvs
theorem pP:∀(more kvs:List (List AG×V)),(gJ kvs more).length<=kvs.length+more.length
 | [],kvs=>aw _
 | p::more,kvs=>by
  have h:=pP more (putK kvs p.1 p.2)
  have h2:(putK kvs p.1 p.2).length<=kvs.length+1:=by unfold putK;split <;> simp
  show (gJ (putK kvs p.1 p.2) more).length<=_
  simp only[bv]
  omega
theorem xK {P:Program}{w:World}{K:W.Frag}{H:Hp}{h:Heap}(EN:K.In h)(ok:Dx P w K H h):∀{ts:List V}{kvs:List (List AG×V)}{AL:qv},EU K H ts kvs->Vals ts AL->∃rs:List (List AG×Addr×Value),KT K H kvs rs/\Paired (ph P w h) rs AL
 | _,_,_,.nil,r=>by cases r;exact⟨[],.nil,.nil⟩
 | _,_,_,.cons (t:=t) (b:=b) (ks:=ks) (v:=v) e ck q,r=>by
  cases r with
  | cons r1 r2=>
   cases r1
   obtain⟨rs,h1,h2⟩:=xK EN ok q r2
   obtain⟨us,hv,ht⟩:∃us,Vals [.ref b,v] us/\IsTup h t us.toArray:=by
    rcases e with e | ⟨o,AL,n,e1,e2,e3,_,r⟩
    ·obtain⟨_,us,hv,ht⟩:=(show AR P w K H h t (.tup [.ref b,v]) from ok t _ e)
     have ht:=ht.tup
     exact⟨us,hv,ht⟩
    ·exact⟨AL.toList,r,o,EN t o e1,e2,n,by simpa using e3⟩
   obtain⟨ku,vu,rfl,rk,rv⟩:=vals2 hv
   cases rk
   exact⟨(ks,b,vu)::rs,.cons ⟨rfl,ck,rv⟩ h1,.cons ⟨t,rfl,ht,iZ EN ok ck⟩ h2⟩
theorem KT.merge {K:W.Frag}{H:Hp}:∀{more:List (List AG×V)}{rs:List (List AG×Addr×Value)}{kvs:List (List AG×V)}{xs:List (List AG×Addr×Value)},KT K H more rs->KT K H kvs xs->KT K H (gJ kvs more) (rs.foldl (λacc kv=>storedH acc kv.1 kv.2.1 kv.2.2) xs):=by
 intro more rs kvs xs r
 unfold KT at r
 induction r generalizing kvs xs with
 | nil=>intro q;exact q
 | @cons p q ps qs h t ih=>
  intro r0
  obtain⟨e,ck,rv⟩:=h
  refine ih ?_
  obtain⟨q1,q2,q3⟩:=q
  cases e
  exact KT.put r0 p.1 ck rv
end Lake.L2
namespace Lake.MR
open PySem L2 PyProof.Rows PySem.Spec
noncomputable def pq:List PV->Option (List (List AG×PV))
 | []=>some []
 | .tup [.tup k,v]::r=>(AU k).bind λk=>(pq r).bind λl=>some ((k,v)::l)
 | _::_=>none
@[simp] theorem Sv:pq []=some []:=id rfl
@[simp] theorem RW (k:List PV)(v:PV)(r:List PV):pq (.tup [.tup k,v]::r)=((AU k).bind λk=>(pq r).bind λl=>some ((k,v)::l)):=id rfl
noncomputable def iz (l acc:List (List AG×PV)):List (List AG×PV):=l.foldl (λacc kv=>bD acc kv.1 kv.2) acc
theorem xM {C:MC}{A:Addr->Prop}{H:Hp}:∀{vs:List V}{xs:List PV}{l:List (List AG×PV)},AJ C A H vs xs->pq xs=some l->∃kvs,EU C.K H vs kvs/\A2 C A H kvs l
 | _,_,_,.nil,h=>by cases h;exact⟨[],.nil,.nil⟩
 | _,x::xs,l,.cons r1 r2,h=>by
  unfold pq at h
  split at h
  ·rename_i e;cases e
  ·rename_i k v r e
   obtain⟨e1,e2⟩:=List.cons.inj e
   subst e1 e2
   obtain⟨k',hk,h⟩:=aA h
   obtain⟨l',Pm,h⟩:=aA h
   cases h
   obtain⟨kvs,h1,h2⟩:=xM r2 Pm
   have q0:AM C A H _ (.tup [.tup k,v]):=.inl r1
   obtain⟨a,us,rfl,ha,ra⟩:=q0.tup
   cases ra with
   | cons rk rv=>
    cases rv with
    | cons rv rn=>
     cases rn
     have q1:AM C A H _ (.tup k):=.inl rk
     obtain⟨b,ks,rfl,hb,rb⟩:=q1.tup
     exact⟨_,.cons ha (hb.key (rb.AU hk)) h1,.cons rv h2⟩
  ·cases h
theorem uW {C:MC}{A:Addr->Prop}{H:Hp}:∀{kvs:List (List AG×V)}{l:List (List AG×PV)}{a:List (List AG×V)}{b:List (List AG×PV)},A2 C A H kvs l->A2 C A H a b->A2 C A H (gJ a kvs) (iz l b)
 | _,_,_,_,.nil,r=>r
 | (k,v)::kvs,(_,p)::l,a,b,.cons h t,r=>by
  show A2 C A H (gJ (putK a k v) kvs) (iz l (bD b k p))
  exact uW t (A2.put h r)
end Lake.MR
namespace Lake.L2
open PySem PySem.Spec PyProof.Rows
theorem zZ:typeLookup (.type "tuple") "keys" = pure none:=by rw[eM,c9];kernel_rfl
variable {sl:Array (Option Value)}
section
variable {prog:Program}{w:World}{A:Around}{E:oT}{s:Shared}{a:Addr}
theorem Mj {xs:q5}{k:Nat}{Q:Option Value->Shared->Prop}(hx:s.heap.get? a=some { cls:=.type "tuple",data:=.seq xs k,slots:=sl })(hA:A.handled=none)
  (hq:∀h' tk,(∀b o,s.heap.get? b=some o->h'.get? b=some o)->Q none { s with heap:=h',toks:=tk }):wpAny (model prog w) A (getAttr? (.ref a) "keys") Q E s:=by
 obtain⟨hp,g,d,tk,os⟩:=s
 have hT:∀XS,(⟨hp,g,d,XS,os⟩:Shared).TypeIs (.ref a) "tuple" := λ_=>⟨_,hx,rfl⟩
 have f1:=sub_AttributeError
 have f3:=kg.lookup
 have f4:=kg.bind (.ref a)
 have f5:=am_tuple_getattr_none
 unfold getAttr? getAttrBy? getAttrBy
 repeat (any_goals (first | assumption | exact hT _ | ((with_reducible show wpAny _ _ (call (Value.builtin "tuple.__getattribute__") _ _) _ _ _);refine k9 kg (hT _) am_entry_tuple_getattribute (F.args_tuple_getattribute_2 _ _) (meets_getattribute_miss_tuple a xs k sl "keys" _ zZ (by decide)) ⟨hx,hA,λh' XS e Na=>?_⟩) | wp_step))
 obtain⟨t',u',he⟩:=Na.there
 show wpAny _ _ (getattributeRaised _ _ _ _ _ _ _) _ _ _
 unfold getattributeRaised
 repeat (any_goals (first | assumption | wp_step))
 exact hq _ _ Na.keeps
theorem Ky {R:Result->Shared->Prop}{dd it l:Addr}{items:q5}(hA:A.handled=none)(hu:(A.in1).units+3 < cLine)(nd:it≠dd)(nl:l≠dd)(Ww:l≠it):∀(L:List (List AG×Addr×Value)) (rest:qv) (i:Nat) (kvs:List (List AG×Addr×Value)) (s:Shared),
  items.toList.drop i=rest->Paired (ph prog w s.heap) L rest->s.heap.IsTupleIter it l i->s.heap.IsTuple l items->A5 (LW prog w) s.heap dd kvs->kvs.length+L.length<=sizeLine->
  (∀h' tk,A5 (LW prog w) h' dd (L.foldl (λacc kv=>storedH acc kv.1 kv.2.1 kv.2.2) kvs)->(∀b o,b≠dd->b≠it->s.heap.get? b=some o->h'.get? b=some o)->R (.ok (.ret .none)) { s with heap:=h',toks:=tk })->
  codeAny (model prog w) A (.builtin "dict.update.loop" ⟨[.ref dd,.ref it,rawInt i,.none],[]⟩) R s
 | [],rest,i,kvs,s,hr,hp,hit,hl,hd,hz,hR=>by
  cases hp
  refine gd xJ ?_
  unfold Builtin.«dict.update.loop»
  have hx:items[i]?=none:=by
   rw[Array.getElem?_eq_none_iff]
   have:=eT.mp hr
   simpa using this
  show wpAny _ _ (pyNext (.ref it) >>= _) _ _ _
  refine ab (wpAny_pyNext_tuple_end (A:=A.under _) hA hit hl hx λh1 x1=>?_)
  show wpAny _ _ (Builtin.Dict.addKeywords dd [] >>= _) _ _ _
  refine ab (ae (ae ?_))
  obtain⟨oi,Wx,Uw,_⟩:=hit
  refine hR h1 s.toks (o_ hd λb o e q=>x1 b o (λz=>?_) e) λb o' _ n2 e=>x1 b o' n2 e
  rcases q with q | q
  ·exact nd (z.symm.trans q)
  ·rw[z,Wx] at e;cases e;rw[Uw] at q;exact absurd (kc q) (by decide)
 | p::L,rest,i,kvs,s,hr,hp,hit,hl,hd,hz,hR=>by
  cases hp with
  | @cons _ u _ us hpu hp=>
   obtain⟨t,rfl,UC,hk⟩:=hpu
   have hx:items[i]?=some (.ref t):=by
    have e:items.toList[i]?=some (.ref t):=by rw[← List.head?_drop,hr];rfl
    rw[← e];simp
   obtain⟨oi,Wx,Uw,hdi⟩:=id hit
   refine gd xJ ?_
   unfold Builtin.«dict.update.loop»
   show wpAny _ _ (pyNext (.ref it) >>= _) _ _ _
   refine ab (og hit hl hx λh1 Kx XU=>?_)
   have IQ:∀{b:Addr}{o:Obj},s.heap.get? b=some o->o.cls=.type "tuple" -> b≠it:=λ{b o} e q z=>by rw[z,Wx] at e;cases e;rw[Uw] at q;exact absurd (kc q) (by decide)
   have S3:∀{b:Addr}{o:Obj},s.heap.get? b=some o->o.cls=.type "tuple" -> b≠dd:=λ{b o} e q z=>by
    obtain⟨od,es,hod,hex,_⟩:=hd
    rw[z,hod] at e;cases e;rw[hex.1] at q;exact absurd (kc q) (by decide)
   obtain⟨ot,hot,hct,nt,hdt⟩:=id UC
   have Wy:h1.get? t=some ot:=(XU.2 t (IQ hot hct)).trans hot
   have hT:({ s with heap:=h1 }:Shared).TypeIs (.ref t) "tuple" := ⟨_,Wy,hct⟩
   show wpAny _ _ (holding [.ref t] _ >>= _) _ _ _
   refine ab (dQ ?_)
   refine ab (wpAny_tryCatch ?_)
   unfold Builtin.Dict.pairItems
   refine ab (iN hT ?_)
   rw[bd (by decide)]
   refine ab (fq Wy hdt (ae ?_))
   show wpAny _ _ (holding [.ref p.2.1,p.2.2] (dictSet dd (.ref p.2.1) p.2.2)) _ _ _
   have Zm:A5 (LW prog w) h1 dd kvs:=o_ hd λb o e q=>(XU.2 b (q.elim (λz=>z▸nd.symm) λz=>IQ e z)).trans e
   obtain⟨ok,AW,hck⟩:=zY hk
   have Y1:(LW prog w).is h1 p.1 p.2.1:=rE hk λb o e q=>(XU.2 _ (IQ e q)).trans e
   have Zn:kvs.length<=sizeLine:=by simp only[bv] at hz;omega
   refine dQ (sH (kd:=LW prog w) ?_ Y1 Zm Zn λh2 hd2 sb2=>?_)
   ·exact hu
   refine ae ⟨Code.quiet_builtin _ (by decide +kernel),?_⟩
   have keep:∀b o,b≠dd->b≠it->s.heap.get? b=some o->h2.get? b=some o:=λb o n1 n2 e=>(sb2.2 b n1).trans ((XU.2 b n2).trans e)
   have Zo:(storedH kvs p.1 p.2.1 p.2.2).length<=kvs.length+1:=by
    unfold storedH
    split <;> simp
   refine Ky (items:=items) hA hu nd nl Ww L us (i+1) (storedH kvs p.1 p.2.1 p.2.2) _ ?_ ?_ ?_ ?_ hd2 ?_ λh3 tk hd3 k3=>?_
   ·rw[← mT,hr];rfl
   ·have go:∀{L:List (List AG×Addr×Value)}{us:qv},Paired (ph prog w s.heap) L us->Paired (ph prog w h2) L us:=by
     intro L us hp
     induction hp with
     | nil=>exact .nil
     | cons a _ ih=>
      obtain⟨t1,e1,⟨o1,q1,q2,q4⟩,q3⟩:=a
      obtain⟨o2,g1,g2⟩:=zY q3
      exact .cons ⟨t1,e1,⟨o1,keep t1 o1 (S3 q1 q2) (IQ q1 q2) q1,q2,q4⟩,rE q3 λb o e q=>keep _ o (S3 e q) (IQ e q) e⟩ ih
    exact go hp
   ·obtain⟨oi,Wx,Uw,hdi⟩:=Kx
    exact⟨oi,(sb2.2 it nd).trans Wx,Uw,hdi⟩
   ·obtain⟨ol,XW,hcl,nl',Zp⟩:=hl
    exact⟨ol,keep l ol nl Ww XW,hcl,nl',Zp⟩
   ·simp only[bv] at hz;omega
   ·exact hR h3 tk hd3 λb o n1 n2 e=>k3 b o n1 n2 (keep b o n1 n2 e)
theorem Ey {l:Addr}{AL:qv}{n:Nat}{L:List (List AG×Addr×Value)}{Q:oT}(hA:A.handled=none)(hu:A.units+9 < cLine)(hl:s.heap.get? l=some { cls:=.type "tuple",data:=.seq AL.toArray n,slots:=sl })(hp:Paired (ph prog w s.heap) L AL)(hz:L.length<=sizeLine)
  (hq:∀h' tk,A5 (LW prog w) h' s.heap.objs.size (L.foldl (λacc kv=>storedH acc kv.1 kv.2.1 kv.2.2) [])->(∀b o,s.heap.get? b=some o->h'.get? b=some o)->Q (.ref s.heap.objs.size) { s with heap:=h',toks:=tk }):
  wpAny (model prog w) A (call (.type "dict") [.ref l]) Q E s:=by
 refine pE (Q₁:=λobj s₁=>obj=.ref s.heap.objs.size/\s₁={ s with heap:=s.heap.push { cls:=.type "dict",data:=.dict #[] } }) F.kt_called_dict (F.kt_typeCall_dict_1 _) F.entry_dict_init (kt_code_dict_new _ ⟨rfl,rfl⟩) ?_
 rintro obj s₁ ⟨rfl,rfl⟩
 have UI:=Hb (prog:=prog) (w:=w) s.heap
 have ty:({ s with heap:=s.heap.push { cls:=.type "dict",data:=.dict #[] } }:Shared).TypeIs (.ref s.heap.objs.size) "dict" := UI.of.typeIs
 refine⟨ty,F.args_dict_init_2 _ _,?_⟩
 have QO:(s.heap.push { cls:=.type "dict",data:=.dict #[] }).get? l=some { cls:=.type "tuple",data:=.seq AL.toArray n,slots:=sl }:=ac _ hl
 unfold Builtin.«dict.__init__»
 refine ab ?_
 unfold Builtin.Dict.selfAndRest
 refine ab (kX ty ?_)
 show wpAny _ _ (pure (s.heap.objs.size,[Value.ref l])) _ _ _
 refine ae ?_
 show wpAny _ _ (Builtin.Dict.updateFrom "dict.__init__" s.heap.objs.size (.ref l) [] .none) _ _ _
 unfold Builtin.Dict.updateFrom
 refine ab (iN (T := "tuple") ⟨_,QO,rfl⟩ ?_)
 rw[bd (by decide)]
 refine ab (Mj QO hA λh2 tk2 k2=>?_)
 rw[bd (show (none:Option Value).isNone=true from rfl)]
 refine ab (hU ?_)
 have U8:h2.IsTuple l AL.toArray:=⟨_,k2 _ _ QO,rfl,n,rfl⟩
 refine ab (eS U8 ?_)
 refine ae ⟨Code.quiet_builtin _ (by decide +kernel),?_⟩
 have lt1:s.heap.objs.size < h2.objs.size:=by
  obtain⟨o,es,ho,_⟩:=UI
  exact ap (k2 _ _ ho)
 have k3:∀b o,h2.get? b=some o->(h2.push { cls:=.type "tuple_iterator",data:=.fields #[.ref l,.int 0 0] }).get? b=some o:=λb o e=>ac _ e
 have k0:∀b o,s.heap.get? b=some o->(h2.push { cls:=.type "tuple_iterator",data:=.fields #[.ref l,.int 0 0] }).get? b=some o:=λb o e=>k3 b o (k2 b o (ac _ e))
 have old:∀b o,s.heap.get? b=some o->b≠s.heap.objs.size/\b≠h2.objs.size:=λb o e=>by
  have:=ap e
  exact⟨bg this,bg (mm this lt1)⟩
 refine Ky (A:=A.in1) (items:=AL.toArray) (show A.in1.handled=none from hA) (by rw[in1_units,in1_units];omega) (dE lt1) (old l _ hl).1 (old l _ hl).2 L AL 0 [] _ (by simp) ?_ ?_ ?_ ?_ (by simpa using hz) λh4 tk hd4 k4=>?_
 ·have go:∀{L:List (List AG×Addr×Value)}{us:qv},Paired (ph prog w s.heap) L us->Paired (ph prog w (h2.push { cls:=.type "tuple_iterator",data:=.fields #[.ref l,.int 0 0] })) L us:=by
   intro L us hp
   induction hp with
   | nil=>exact .nil
   | cons a _ ih=>
    obtain⟨t1,e1,⟨o1,q1,q2⟩,q3⟩:=a
    exact .cons ⟨t1,e1,⟨o1,k0 t1 o1 q1,q2⟩,rE q3 λb o e q=>k0 _ o e⟩ ih
  exact go hp
 ·exact⟨_,am _ rfl,rfl,rfl⟩
 ·obtain⟨ol,XW,r⟩:=U8
  exact⟨ol,k3 _ _ XW,r⟩
 ·exact o_ UI λb o e _=>k3 b o (k2 b o e)
 ·exact⟨rfl,hq h4 tk hd4 λb o e=>k4 b o (old b o e).1 (old b o e).2 (k0 b o e)⟩
end
theorem xY {X:Cx}(hc:X.calm=true)(hu:X.A.units+9 < cLine):BN X (.type "dict") (λxs H Q=>∃p ts kvs,xs=[.ref p]/\(H p=some (.tup ts)\/E9 X.K p ts)/\EU X.K H ts kvs/\kvs.length<=1000000/\∀l,H l=none->Q (.ref l) (upd H l (.dT (gJ [] kvs)))):=by
 intro AF s σ H xs us Q I r h
 obtain⟨p,ts,kvs,rfl,hp,FA,hz,q⟩:=h
 obtain⟨u,rfl,rx⟩:=vals1 r
 cases rx
 obtain⟨AL,n,sl,hv,ho⟩:∃(AL:qv) (n:Nat) (sl:Array (Option Value)),Vals ts AL/\s.heap.get? p=some { cls:=.type "tuple",dict:=none,data:=.seq AL.toArray n,slots:=sl }:=by
  rcases hp with hp | ⟨⟨c,dd,da,sl⟩,AL,n,h1,h2,h3,⟨_,h4⟩,hv⟩
  ·obtain⟨_,AL,hv,⟨c,dd,da,sl⟩,h1,h2,n,h3,h4⟩:=(show AR X.prog X.w X.K H s.heap p (.tup ts) from I.AW p _ hp)
   simp only at h2 h3 h4
   subst h2 h3 h4
   exact⟨AL,n,sl,hv,h1⟩
  ·simp only at h2 h3 h4
   subst h2 h3 h4
   exact⟨AL.toList,n,sl,hv,by simpa using I.Cs _ _ h1⟩
 obtain⟨rs,h1,h2⟩:=xK I.Cs I.AW FA hv
 have hl:rs.length<=sizeLine:=by rw[← iP h1];exact gt (bZ hz)
 refine Ey (I.ok.hd hc) hu ho h2 hl λh' tk hd hk=>?_
 have low:(s.heap.objs.size == sysModules)=false:=by
  have:=modules_low I.nolimit
  rw[eP]
  exact dE this
 have kt:KT X.K H (gJ [] kvs) _:=KT.merge h1 .nil
 have lm:=pP kvs []
 have hn:=I.AW.fresh (aw s.heap.objs.size)
 have kt':=kt.keeps (H':=upd H s.heap.objs.size (.dT (gJ [] kvs))) λb ys e=>by rw[ao (aq e hn)];exact e
 obtain⟨o,es,o1,o2,o3,o4,o5,o6⟩:=hd
 refine⟨.ref s.heap.objs.size,_,I.laid (t':=tk) hk (aw _) (show AR X.prog X.w X.K _ h' _ (.dT (gJ [] kvs)) from ⟨?_,low,_,kt',o,es,_,o1,o2,o3,o4,o6,rfl⟩),rfl,q _ hn⟩
 have:(1000000:Nat)<=sizeLine:=by decide
 simp only[l5] at lm
 omega
end Lake.L2
namespace Lake.MR
open PySem L2 PyProof.Rows PySem.Spec
noncomputable def dctP:PV->Option PV
 | .tup xs=>(pq xs).bind λl=>if l.length<=1000000 then some (.dT (iz l [])) else none
 | _=>none
@[simp] theorem Tj (xs:List PV):dctP (.tup xs)=((pq xs).bind λl=>if l.length<=1000000 then some (.dT (iz l [])) else none):=id rfl
section
variable {X:Cx}{b:BX}{G:qr}{m1:Md}{e e1 e2:Expr}{f f1 f2:rg}{p pos:Pos}
theorem Jx {k:Nat}(hr:A7 k X.A)(hm:X.mg "dict" = none)(h:SE X b G m1 e f)(Ze:X.calm=true:=by rfl)(hK:X.K=b.C.K:=by rfl)(hg:Gl X "dict" := by rfl)(hb:bootBuiltins "dict" = some (.type "dict"):=by decide +kernel)(he:starEach [e] X.env=(false,eval e X.env)::starEach [] X.env:=by rfl):SE X b G .own (.Call (.Name "dict" p) [e] [] pos) (b1 dctP f):=by
 have hu:X.A.units+9 < cLine:=kC (p5 (by decide:9<=64) _) hr.units
 refine Cr (xY Ze hu) (λOw H v1 p1 p Q hn r1 e k=>?_) hm hb h hg (by decide) (by decide) he
 cases p1 with
 | tup xs=>
  unfold dctP at e
  obtain⟨l,hl,e⟩:=aA e
  split at e
  ·rename_i hz
   cases e
   obtain⟨a,vs,rfl,ha,ra⟩:=r1.tup
   obtain⟨kvs,h1,h2⟩:=xM ra hl
   rw[hK]
   refine⟨a,vs,kvs,rfl,ha,h1,by rw[h2.length];exact hz,λd hd=>k _ _ (aL hd _) ⟨d,rfl,hd,gJ [] kvs,az,(uW h2 .nil).ex λc o e=>?_⟩⟩
   have hc:c≠d:=aq e hd
   exact⟨λq=>⟨by rw[ao hc];exact e,q,hc⟩,λ_=>by rw[ao hc];exact e⟩
  ·cases e
 | _=>cases e
end
noncomputable def Ez:PV->Option PV
 | .tup xs=>some (.tup xs.reverse)
 | _=>none
@[simp] theorem RX (xs:List PV):Ez (.tup xs)=some (.tup xs.reverse):=id rfl
end Lake.MR
namespace Lake.L2
open PySem PySem.Spec PyProof.Rows
open AutoSeq1 (wpAny_loadPart')
theorem Hc:typeLookup (.type "reversed") "__len__" = pure none:=by rw[eM,c9];kernel_rfl
theorem Jy:typeLookup (.type "reversed") "__length_hint__" = pure (some (.builtin "reversed.__length_hint__")):=by rw[eM,c9];kernel_rfl
section
variable {prog:Program}{w:World}{A:Around}{E:oT}{s:Shared}
theorem Hd (hh:A.handled=none)(I l:Addr)(A3:l≠I)(items:q5)(hz:(items.size:Int) < 2 ^ 63):
  Walks prog w A I [I,l] [I] items.size (λi v=>items[items.size - 1 - i]?=some v) (λi h=>i<=items.size/\B8 h I l ((items.size:Int) - 1 - (i:Int))/\IsTup h l items) where
 sub:=λb hb=>by simp at hb;simp[hb]
 frame:=λ_ _ _ x hk=>⟨x.1,x.2.1.at λo e=>hk I (by simp) o e,(let ⟨o,e,r⟩:=x.2.2;⟨o,hk l (by simp) o e,r⟩)⟩
 item:=λi s Q E hi x hQ=>by
  have e:(items.size:Int) - 1 - (i:Int)=((items.size - 1 - i:Nat):Int):=by omega
  have hit:=x.2.1
  rw[e] at hit
  have hx:items[items.size - 1 - i]?=some (items[items.size - 1 - i]'(by omega)):=eI (by omega)
  refine Jf hit x.2.2 hz hx λh' tk Wz DM=>?_
  have e2:((items.size - 1 - i:Nat):Int) - 1=(items.size:Int) - 1 - ((i+1:Nat):Int):=by omega
  rw[e2] at Wz
  exact hQ _ h' tk hx ⟨hi,Wz,(let ⟨o,eo,r⟩:=x.2.2;⟨o,(DM.2 l A3).trans eo,r⟩)⟩ λb o hb eo=>DM.extBut b o (λh=>hb (by simp[h])) eo
 done:=λs Q E x hQ=>by
  have e:(items.size:Int) - 1 - (items.size:Int)=-1:=by omega
  have hit:=x.2.1
  rw[e] at hit
  exact LC hh hit λh' eb=>hQ h' s.toks λb o hb eo=>eb b o (λh=>hb (by simp[h])) eo
 self:=λi s Q E x hQ=>zL x.2.1 hQ
theorem DS:Slot "reversed" "__length_hint__" "reversed.__length_hint__" :=
 .of (owner := "reversed") (n := "__length_hint__") (by rw[eM,c9];kernel_rfl) (by decide +kernel) (by decide +kernel) (by decide +kernel)
  (by first | exact .inl (by decide +kernel) | exact .inr (by decide +kernel)) (by rw[ia];kernel_rfl)
theorem wu:entryFor table "reversed.__length_hint__" = some Builtin.«reversed.__length_hint__»:=oy (by kernel_rfl)
theorem uX (a:Value):argsOk "reversed.__length_hint__" ⟨[a],[]⟩:=by
 unfold argsOk;rw[qf (id := "reversed.__length_hint__") (n:=['_','_','t','n','i','h','_','h','t','g','n','e','l','_','_']) (o:=['d','e','s','r','e','v','e','r']) (by kernel_rfl) qy];kernel_rfl
theorem Jz {it t:Addr}{items:q5}{Q:Bool->Shared->Prop}(hit:B8 s.heap it t ((items.size:Int) - 1))(ht:IsTup s.heap t items)(hz:items.size<=sizeLine)(hQ:∀tk,s.toks<=tk->Q (((items.size:Int) != 0)) { s with toks:=tk }):wpAny (model prog w) A (Builtin.List.listLengthHint (.ref it)) Q E s:=by
 obtain⟨o,ho,hc,hd⟩:=id hit
 unfold Builtin.List.listLengthHint
 refine ab (e8 hit.typeIs Hc ?_)
 show wpAny _ A (specialOf (Value.ref it) (Str.ofString "__length_hint__") >>= _) _ _ _
 refine ab (e8 hit.typeIs Jy ?_)
 (generalize SU:("reversed.__length_hint__" : String)=id0;(fail_if_success (clear SU id0));wp_delta;rw[show splitId id0=some ("reversed","__length_hint__") from by subst SU;decide +kernel];subst SU)
 refine ab (gl (b:=true) hit.typeIs (by rw[ia];kernel_rfl) ?_)
 rw[ax (by decide)]
 dsimp only
 rw[ax (by decide +kernel)]
 refine ab (hU ?_)
 refine ab (fk (DS.bind (.ref it)) ?_)
 dsimp only
 refine ab (gv (ci DS hit.typeIs wu ?_ (uX _)))
 unfold Builtin.«reversed.__length_hint__»
 refine ab (fk (a:=Value.ref it) rfl ?_)
 try dsimp only
 refine ab (cq ho hd (x:=.ref t) rfl ?_)
 rw[ax (show ¬ ((Value.ref t == Value.none)=true) from ba)]
 refine ab (len_tuple ht (yt hz) ?_)
 refine ab (fk (a:=some (items.size:Int)) rfl ?_)
 dsimp only
 refine ab (cq ho hd (x:=rawInt ((items.size:Int) - 1)) rfl ?_)
 show wpAny _ _ (if (items.size:Int) < (items.size:Int) - 1+1 then _ else _) _ _ _
 rw[ax (by omega)]
 refine ab (wpAny_mkInt ?_)
 refine ae ⟨_,rfl,?_⟩
 show wpAny _ _ (asInt? (.int ((items.size:Int) - 1+1) _) >>= _) _ _ _
 refine ab (fk (a:=some ((items.size:Int) - 1+1)) rfl ?_)
 have en:(items.size:Int) - 1+1=(items.size:Int):=by omega
 dsimp only
 rw[en]
 have hz2:=yt hz
 rw[ax (by unfold Builtin.List.listFitsIndex;simp;omega),ax (by omega),ax (by unfold Builtin.List.listTooLong;simp;exact hz)]
 exact ae (hQ _ (by first | omega | exact Nat.le_add_right _ _ | exact jS (jS (iL _))))
theorem BL {I l:Addr}{items:q5}{Q:List Value->Shared->Prop}(hh:A.handled=none)(A3:l≠I)(hz:items.size<=sizeLine)(hit:B8 s.heap I l ((items.size:Int) - 1))(ht:IsTup s.heap l items)
  (hQ:∀s' acc,Moved [I] (λa b=>b=a) s s'->ItemsOf (λi v=>items[items.size - 1 - i]?=some v) acc items.size->s.heap.objs.size < s'.heap.objs.size->Q acc.toList s'):wpAny (model prog w) A (collect (.ref I)) Q E s:=by
 have W:=(Hd (prog:=prog) (w:=w) (A:=A.in1) hh I l A3 items (yt hz)).toS
 have Wh:I < s.heap.objs.size:=let ⟨_,e,_⟩:=hit;ap e
 have Zo:l < s.heap.objs.size:=let ⟨_,e,_⟩:=ht;ap e
 have Zr:s.heap.objs.size∉[I,l]:=λhm=>by
  simp only[be,cm,gx] at hm
  rcases hm with e | e
  ·exact fR _ (e▸Wh)
  ·exact fR _ (e▸Zo)
 have SY:s.heap.objs.size≠I:=λe=>Zr (e▸ar)
 unfold collect
 refine ab (wpAny_runValue (gd F.entry_proto_collect ?_))
 rw[fI F.plain_proto_collect _]
 show wpAny _ A.in1 (newList [] >>= λl=>again (.builtin "list.__iadd__" ⟨[l,.ref I],[]⟩)) _ _ s
 refine ab (bS ?_)
 refine ae ⟨gX F.plain_list_iadd _,gd F.entry_list_iadd ?_⟩
 rw[fI F.plain_list_iadd _]
 have up:∀b o,s.heap.get? b=some o->(s.heap.push { cls:=.type "list",data:=.seq ([]:qv).toArray }).get? b=some o:=λb o e=>ac _ e
 have Kx:B8 (s.heap.push { cls:=.type "list",data:=.seq ([]:qv).toArray }) I l ((items.size:Int) - 1):=hit.at λo e=>up _ _ e
 have Vo:IsTup (s.heap.push { cls:=.type "list",data:=.seq ([]:qv).toArray }) l items:=let ⟨o,e,r⟩:=ht;⟨o,up _ _ e,r⟩
 have Nl:(s.heap.push { cls:=.type "list",data:=.seq ([]:qv).toArray }).get? s.heap.objs.size=some { cls:=.type "list",data:=.seq ([]:qv).toArray }:=am _ rfl
 have h1:Builtin.List.listSameRef (.ref s.heap.objs.size) (.ref I)=false:=by simp[Builtin.List.listSameRef,SY]
 show wpAny _ A.in1 (Builtin.List.listExtendWith (.ref s.heap.objs.size) (.ref I) (.ref s.heap.objs.size)) _ _ _
 unfold Builtin.List.listExtendWith
 refine ab (iN (s:={ s with heap:=s.heap.push { cls:=.type "list",data:=.seq ([]:qv).toArray } }) Kx.typeIs ?_)
 rw[ax (by rw[h1];decide)]
 refine ab (zL (s:={ s with heap:=s.heap.push { cls:=.type "list",data:=.seq ([]:qv).toArray } }) Kx ?_)
 refine ab (dQ (Jz Kx Vo hz λtk VL=>?_))
 have nin:∀b o,b∉[I]->s.heap.get? b=some o->b∉[s.heap.objs.size,I]:=λb o hb e hm=>by
  rcases be.mp hm with e1 | hm
  ·exact absurd (e1▸ap e) (fR _)
  ·exact hb hm
 by_cases h0:items.size=0
 ·rw[ax (by rw[h0];decide +kernel)]
  refine ae ⟨gX eC _,lI W hz _ Zr _ items.size 0 _ _ _ rfl (ce _) ⟨ce _,by simpa using Kx,Vo⟩ Nl (ItemsOf.nil _) λs' Ki c' hm Iq CH=>?_⟩
  show wpAny _ A (load s.heap.objs.size >>= _) _ _ s'
  refine ab (oC Iq ?_)
  exact ae (hQ s' Ki ⟨λb o hb e=>hm.heap b o (nin b o hb e) (up b o e),hm.gens,hm.drawn,hm.os,dP VL hm.toks⟩ CH (ap Iq))
 ·rw[bd (by simp[h0])]
  refine ab (hU ?_)
  refine ab ?_
  show wpAny _ A.in1 (updateSeq s.heap.objs.size (·.push .none) >>= λ_=>updateSeq s.heap.objs.size (·.pop)) _ _ _
  refine ab (js Nl rfl ?_)
  have Wl:=cE (Obj.mapSeq (·.push Value.none)) Nl rfl
  refine js Wl rfl ?_
  have Zc:=cE (Obj.mapSeq (·.pop)) Wl rfl
  have Zs:∀b o,b≠s.heap.objs.size->(s.heap.push { cls:=.type "list",data:=.seq ([]:qv).toArray }).get? b=some o->
    (((s.heap.push { cls:=.type "list",data:=.seq ([]:qv).toArray }).update s.heap.objs.size (Obj.mapSeq (·.push Value.none))).update s.heap.objs.size (Obj.mapSeq (·.pop))).get? b=some o:=
   λb o hb e=>(df _ _ (fN hb)).trans ((df _ _ (fN hb)).trans e)
  refine ae ⟨gX eC _,lI W hz _ Zr _ items.size 0 _ _ _ rfl (ce _)
   ⟨ce _,by simpa using Kx.at λo e=>Zs _ _ (fN SY) e,(let ⟨o,e,r⟩:=Vo;⟨o,Zs _ _ (bg Zo) e,r⟩)⟩ Zc (ItemsOf.nil _) λs' Ki c' hm Iq CH=>?_⟩
  show wpAny _ A (load s.heap.objs.size >>= _) _ _ s'
  refine ab (oC Iq ?_)
  exact ae (hQ s' Ki ⟨λb o hb e=>hm.heap b o (nin b o hb e) (Zs b o (bg (ap e)) (up b o e)),hm.gens,hm.drawn,hm.os,dP VL hm.toks⟩ CH (ap Iq))
theorem qH {I l:Addr}{items:q5}{Q₁:oT}(hh:A.handled=none)(A3:l≠I)(hz:items.size<=sizeLine)(hit:B8 s.heap I l ((items.size:Int) - 1))(ht:IsTup s.heap l items)
  (h:∀s' (acc:q5),Moved [I] (λa b=>b=a) s s'->ItemsOf (λi v=>items[items.size - 1 - i]?=some v) acc items.size->s.heap.objs.size < s'.heap.objs.size->Q₁ (.ref s'.heap.objs.size) { s' with heap:=s'.heap.push { cls:=.type "tuple",data:=.seq acc } }):
  codeAny (model prog w) A (.call (.builtin "tuple.__new__") ⟨[.type "tuple",.ref I],[]⟩) (wants Q₁ E) s:=by
 refine codeAny_of_tree ?_
 show wpAny _ A.in1 (do checkBuiltinCall "tuple.__new__" ⟨[.type "tuple",.ref I],[]⟩;again (.builtin "tuple.__new__" ⟨[.type "tuple",.ref I],[]⟩)) _ _ s
 refine ab (fk (F.newCall_tuple_1 _) (ae ⟨gX F.plain_tuple_new _,gd F.entry_tuple_new ?_⟩))
 rw[fI F.plain_tuple_new _]
 have LS:=sub_tuple_self
 have hinit:=init_tuple_lookup
 have hmh:=madeHere_tuple
 have IL:=hit.typeIs
 wp_walk using iN IL,BL (A:=A.in1) hh A3 hz hit ht
 intro s' acc hm CH BE
 show wpAny _ _ (Builtin.Tuple.tupleExact acc.toList.toArray >>= λv=>ret v) _ _ _
 unfold Builtin.Tuple.tupleExact
 refine ab (bS ?_ (by show acc.toList.toArray.size<=sizeLine;simp only[Array.toArray_toList];rw[CH.1];exact hz))
 refine ae ?_
 have e:acc.toList.toArray=acc:=by simp
 rw[e]
 exact h s' acc hm CH BE
theorem ww {I l:Addr}{items:q5}{Q:oT}(hh:A.handled=none)(A3:l≠I)(hz:items.size<=sizeLine)(hit:B8 s.heap I l ((items.size:Int) - 1))(ht:IsTup s.heap l items)
  (hQ:∀s' (acc:q5),Moved [I] (λa b=>b=a) s s'->ItemsOf (λi v=>items[items.size - 1 - i]?=some v) acc items.size->s.heap.objs.size < s'.heap.objs.size->Q (.ref s'.heap.objs.size) { s' with heap:=s'.heap.push { cls:=.type "tuple",data:=.seq acc } }):
  wpAny (model prog w) A (call (.type "tuple") [.ref I]) Q E s:=by
 refine pE (Q₁:=λobj s₁=>s₁.TypeIs obj "tuple" /\ Q obj s₁) pT (F.typeCall_tuple_1 _) F.entry_object_init
  (qH hh A3 hz hit ht λs' acc hm CH BE=>⟨⟨_,am _ rfl,rfl⟩,hQ s' acc hm CH BE⟩) λobj s₁ h₁=>?_
 exact⟨h₁.1,lS obj _,object_init_meets pT.init.lookup pT.made (by decide) prog w A.in1 _ s₁ ⟨h₁.1,rfl,h₁.2⟩⟩
end
section
variable {X:Cx}
def Ru (K:W.Frag)(ta:TA):TE:=fun σ H Q=>ta σ H λvs H1=>∃a xs,vs=[.ref a]/\Co K H1 a xs/\∀l,H1 l=none->Q (.ref l) (upd H1 l (.tup xs.reverse))
theorem Ml {a:Expr}{ta:TA}{p p2 pos BD:Pos}(hg:Gl X "tuple")(hm:X.mg "tuple" = none)(MZ:Gl X "reversed")(M0:X.mg "reversed" = none)(hb:bootBuiltins "reversed" = some (.type "reversed"))(hc:X.calm=true)(ha:PA X [a] ta)(hs:starEach [a] X.env=(false,eval a X.env)::starEach [] X.env:=by rfl)(IH:(backTo BD (starEach [] X.env)).any (·.1)=false:=by rfl)
  (D6:starEach [.Call (.Name "reversed" p2) [a] [] BD] X.env=(false,eval (.Call (.Name "reversed" p2) [a] [] BD) X.env)::starEach [] X.env:=by rfl) (BO:(backTo pos (starEach [] X.env)).any (·.1)=false:=by rfl):
  PE X (.Call (.Name "tuple" p) [.Call (.Name "reversed" p2) [a] [] BD] [] pos) (Ru X.K ta):=by
 intro AF s σ H Q I h
 refine fF (d7 I hg hm iX (b0 ?_ D6 BO) (by decide) (by decide))
 rw[D6]
 show wpAny _ _ (spliced ((false,eval (.Call (.Name "reversed" p2) [a] [] BD) X.env)::backTo pos (starEach [] X.env))) _ _ s
 refine hW (Call_ (d7 I MZ M0 hb (b0 (AZ (ha BD AF s σ H _ I h) ?_) hs IH)))
 rintro us s1 ⟨vs,H1,I1,r1,q1⟩
 obtain⟨a,xs,e,hq,q⟩:=q1
 subst e
 obtain⟨u,rfl,ru⟩:=vals1 r1
 cases ru
 obtain⟨AL,rv,pl,hz⟩:=I1.tuple hq
 have hlen:=rv.length
 have XH:AL.toArray.size<=sizeLine:=by rw[ay];omega
 have BE:a < s1.heap.objs.size:=let ⟨_,e,_⟩:=pl;ap e
 refine Je pl (yt XH) (jI ?_)
 refine ww (I1.ok.hd hc) (bg BE) XH ⟨_,am _ rfl,rfl,by simp⟩ (let ⟨o,e,r⟩:=pl;⟨o,ac _ e,r⟩) λs' acc hm it hsz=>?_
 obtain⟨i1,i2⟩:=it
 rw[ay] at i1
 have hv:Vals xs.reverse acc.toList:=xu rv acc.toList (by simpa using i1) λi v hi=>by
  have:=i2 i v (by simpa using hi)
  simpa using this
 rw[Moved.eq_with hm]
 have keep:∀b o,s1.heap.get? b=some o->s'.heap.get? b=some o:=λb o eb=>hm.heap b o (by simp only[be,cm,gx];exact bg (ap eb)) (ac _ eb)
 have big:s1.heap.objs.size<=s'.heap.objs.size:=by
  have Zt:=hsz
  rw[cK] at Zt
  omega
 have I2:=I1.laid (a:=s'.heap.objs.size) (o:=.tup xs.reverse) (h':=s'.heap.push { cls:=.type "tuple",data:=.seq acc }) (t':=s'.toks) (λb o eb=>ac _ (keep b o eb)) big
  (show AR X.prog X.w X.K _ _ _ (.tup xs.reverse) from ⟨(by rw[mh];omega),acc.toList,hv,⟨_,am _ rfl,rfl,0,by simp,rfl⟩⟩)
 exact⟨.ref s'.heap.objs.size,_,I2,rfl,q _ (I1.AW.fresh big)⟩
end
end Lake.L2
namespace Lake.MR
open PySem L2
section
variable {X:Cx}{b:BX}{G:qr}{m1:Md}{e:Expr}{f:rg}{p p2 pos BD:Pos}
theorem Mm (hm:X.mg "tuple" = none)(M0:X.mg "reversed" = none)(h:SE X b G m1 e f)(hb:bootBuiltins "reversed" = some (.type "reversed"):=by decide +kernel)(hK:X.K=b.C.K:=by rfl)(hc:X.calm=true:=by rfl)(hg:Gl X "tuple" := by rfl)(MZ:Gl X "reversed" := by rfl)(DM:starEach [e] X.env=(false,eval e X.env)::starEach [] X.env:=by rfl)(IH:(backTo BD (starEach [] X.env)).any (·.1)=false:=by rfl)
  (D6:starEach [.Call (.Name "reversed" p2) [e] [] BD] X.env=(false,eval (.Call (.Name "reversed" p2) [e] [] BD) X.env)::starEach [] X.env:=by rfl) (BO:(backTo pos (starEach [] X.env)).any (·.1)=false:=by rfl):
  SE X b G .val (.Call (.Name "tuple" p) [.Call (.Name "reversed" p2) [e] [] BD] [] pos) (b1 Ez f):=by
 refine PE.imp (Ml hg hm MZ M0 hb hc (aB h.bor aN DM) DM IH D6 BO) ?_
 rintro σ H Q ⟨Ow,env,q,E,hf,k⟩
 rw[hK]
 obtain⟨x,hx,hf⟩:=aA hf
 cases x <;> first | (cases hf;done) | skip
 cases hf
 refine⟨Ow,env,_,E,hx,λv H1 s r=>?_⟩
 have r1:AM b.C (Bs b Ow) H1 v (.tup _):=r
 obtain⟨a,vs,rfl,ha,ra⟩:=r1.tup
 refine⟨a,vs,rfl,ha.sq,λl hl=>k _ _ (s.new hl _) ?_⟩
 exact Rep.tup az (ra.reverse.ex (.of_same (aL hl _)))
end
end Lake.MR
namespace Lake.L2
open PySem PySem.Spec PyProof.Rows
section
variable {X:Cx}{e f:Expr}{pos:Pos}{ty tv:TE}
def Hf (tk tv:TE):TE:=fun σ H Q=>∀p,H p=none->tk σ (upd H p (.dK [])) λy H1=>tv σ H1 λz H2=>H2 p=some (.dK [])/\∃k,y=kV k/\Q (.ref p) (upd H2 p (.dK [(k,z)]))
theorem JB (hk:PE X e ty)(hv:PE X f tv):PE X (.Dict [some e] [f] pos) (Hf ty tv):=by
 intro AF s σ H Q I q
 have hn:=I.AW.fresh (aw s.heap.objs.size)
 have I1:=I.laid (a:=s.heap.objs.size) (o:=.dK []) (h':=s.heap.push { cls:=.type "dict",data:=.dict #[] }) (t':=s.toks) (λ_ _ q=>ac _ q) (aw _) (yW s.heap I.big)
 refine wpAny_Dict_any rfl rfl (λz=>nomatch z) (show (1:Nat)<=15 by decide) ?_
 refine pairTrees_cons_walk (AZ (hk AF _ σ _ _ I1 (q _ hn)) λu s1 ⟨y,H1,I2,ry,q1⟩=>AZ (hv AF s1 σ H1 _ I2 q1) λw2 s2 ⟨z,H2,I3,rz,e1,k,e2,q2⟩=>pairTrees_nil_walk ?_)
 subst e2
 obtain⟨_,hd,vs,rel,dd⟩:=Dz I3.AW e1
 cases rel
 unfold storeAll
 rw[kA]
 refine ab (ab (wpAny_dictSet_pairs (hsz:=ce _) (ux ry) dd λh' PF hs=>ae ?_))
 show wpAny _ _ (forIn [] _ _) _ _ _
 rw[kR]
 refine ae ?_
 have he:∃q,h'.get? s.heap.objs.size=some q:=let ⟨q,_,_,hq,_⟩:=PF;⟨q,hq⟩
 exact⟨.ref s.heap.objs.size,_,mX I3 (by rw[e1];exact fE) hs he (Gi (kvs:=[(k,z)]) (by show (1:Nat)<=sizeLine;decide) hd (.cons ⟨rfl,rz⟩ .nil) PF),rfl,q2⟩
end
def WA (a:Addr)(o:Obj)(kvs:List (Key×V)):It:=
 ⟨λi H=>H a=some (.frz o (.dK kvs))/\i < kvs.length,λi H x H'=>H'=H/\∃k y,kvs[i]?=some (k,y)/\x=kV k,λi H=>H a=some (.frz o (.dK kvs))/\kvs.length<=i⟩
theorem KV.get {κ:Type}{kvs:List (κ×V)}{vs:List (κ×Value)}(r:KV kvs vs):∀{i:Nat}{p:κ×V},kvs[i]?=some p->∃u,vs[i]?=some (p.1,u):=by
 unfold KV at r
 induction r with
 | nil=>intro i p h;simp at h
 | @cons p q ps qs h t ih=>
  intro i p' e
  cases i with
  | zero=>
   cases e
   obtain⟨k,u⟩:=q
   exact⟨u,by rw[h.1];rfl⟩
  | succ i=>exact ih (i:=i) e
theorem Rv {P:Program}{w:World}{k:Key}{u:Value}(h:(dZ P w).is k u=true):RelV (kV k) u:=by
 rcases bU (show jR k u=true from h) with ⟨i,t,rfl,rfl⟩ | ⟨x,t,rfl,rfl⟩
 ·exact⟨t,rfl⟩
 ·exact⟨t,rfl⟩
theorem JC {P:Program}{w:World}{K:W.Frag}{tg:Expr}(a it:Addr)(o:Obj)(kvs:List (Key×V))(vs:List (Key×Value))(ep:Nat)(UJ:KV kvs vs)(Vp:∀h:Heap,h.get? a=some o->h.DictAt (dZ P w) a vs ep):Turn P w K tg (WA a o kvs) [it] it (λi h=>h.IsKeyIter it a i vs.length ep) where
 mem:=ar
 obj:=λi h st b hb=>by
  obtain⟨o,e,c,d⟩:=st
  exact⟨o,by rw[av.mp hb];exact e,λv z=>by rw[d] at z;cases z⟩
 keep:=λi h h' st k=>let ⟨o,e,c⟩:=st;⟨o,k it ar o e,c⟩
 item:=by
  intro X hP hw hK hc i AF s σ H E I hf st hg
  subst hP hw hK
  obtain⟨hq,BE⟩:=hg
  obtain⟨f0,f1,f2,f3,f4,f5⟩:=hf it ar
  have ho:s.heap.get? a=some o:=(show AR X.prog X.w X.K H s.heap a (.frz o (.dK kvs)) from I.AW a _ hq).1
  obtain⟨p,hp⟩:∃p,kvs[i]?=some p:=⟨_,af BE⟩
  obtain⟨u,hu⟩:=UJ.get hp
  refine wpAny_pyNext_dict_item st (Vp _ ho) hu λkey h' T2 BU sb=>?_
  obtain⟨o',e,c,d⟩:=id BU
  obtain⟨k,y⟩:=p
  exact⟨key,rfl,ut (s:={ s with heap:=h' }) e c d (by decide) ⟨kV k,H,I.turned (t':=s.toks) (λb o hb q=>(sb.2 b hb).trans q) f0 f1 f3 f4 f5,Rv T2,⟨rfl,k,y,hp,rfl⟩,BU,λb hb=>(hf b hb).1⟩⟩
 done:=by
  intro X hP hw hK hc i AF s σ H E I hf st hg
  subst hP hw hK
  obtain⟨hq,XX⟩:=hg
  obtain⟨f0,f1,f2,f3,f4,f5⟩:=hf it ar
  have ho:s.heap.get? a=some o:=(show AR X.prog X.w X.K H s.heap a (.frz o (.dK kvs)) from I.AW a _ hq).1
  have hl:vs.length=kvs.length:=(iP UJ).symm
  exact wpAny_pyNext_dict_end (I.ok.hd hc) st (Vp _ ho) (cS (by rw[hl];exact XX)) λh' eb=>⟨rfl,I.turned (t':=s.toks) (λb o hb q=>eb b o hb q) f0 f1 f3 f4 f5⟩
 self:=λA i s Q E st h=>wpAny_pyIter_keyiter st h
section
variable {X:Cx}{tg:Expr}
def Qm (tl:TE):TI:=fun σ H R=>tl σ H λx H1=>∃a kvs,x=.ref a/\H1 a=some (.dK kvs)/\∀o,R (WA a o kvs) (upd H1 a (.frz o (.dK kvs)))
theorem Qn {l:Expr}{tl:TE}(hl:PE X l tl):PI X tg l (Qm tl):=by
 intro AF s σ H R I h
 refine AZ (hl AF s σ H _ I h) ?_
 rintro v s1 ⟨x,H1,I1,r1,q1⟩
 obtain⟨a,kvs,e,hq,q⟩:=q1
 subst e
 cases r1
 obtain⟨z,hd,vs,rel,dd⟩:=Dz I1.AW hq
 obtain⟨ep,dat⟩:=dd.dictAt
 obtain⟨o,es,ho,hr⟩:=id dat
 have Vp:∀h:Heap,h.get? a=some o->h.DictAt (dZ X.prog X.w) a vs ep:=λh e=>⟨o,es,e,hr⟩
 have I2:=mX (t':=s1.toks) (ob:=.frz o (.dK kvs)) I1 (by rw[hq];exact fE) (Heap.SameBut.refl _ _) ⟨o,ho⟩ ⟨ho,z,hd,vs,rel,dd⟩
 refine wpAny_pyIter_dict hd dat ?_
 refine⟨s1.heap.objs.size,[s1.heap.objs.size],_,_,_,rfl,I2.kept (t':=s1.toks) λb o e=>ac _ e,JC a _ o kvs vs ep rel Vp,⟨_,am _ rfl,rfl,rfl⟩,λb hb=>?_,q o⟩
 rw[av.mp hb]
 exact I2.IF (aw _) (I2.AW.fresh (aw _))
end
theorem Mp {a:Addr}{o:Obj}{kvs:List (Key×V)}{g:TG}{tb:TS}{D:Ends}{σ:St}{H:Hp}(Pv:Nat->St->Hp->Prop)(h0:Pv 0 σ H)(hl:∀i σ H,i<=kvs.length->Pv i σ H->H a=some (.frz o (.dK kvs)))
  (step:∀i k y σ H,kvs[i]?=some (k,y)->Pv i σ H->g (kV k) σ H fun σ2 H2=>tb { D with nx:=Pv (i+1),ct:=Pv (i+1),bk:=D.nx } σ2 H2) (fin:∀ σ H,Pv kvs.length σ H->D.nx σ H):
  ∃W:Nat->Nat->St->Hp->Prop,(∃m,W 0 m σ H)/\∀i m σ H,W i m σ H->
   ((WA a o kvs).stop i H/\D.nx σ H)\/((WA a o kvs).go i H/\∃N:St->Hp->Prop,(∀ σ' H',N σ' H'->∃m',m' < m/\W (i+1) m' σ' H')/\∀x H',(WA a o kvs).Mo i H x H'->g x σ H' fun σ2 H2=>tb { D with nx:=N,ct:=N,bk:=D.nx } σ2 H2):=by
 refine⟨λi m σ H=>i+m=kvs.length/\Pv i σ H,⟨kvs.length,Nat.zero_add _,h0⟩,?_⟩
 rintro i m σ H ⟨e,p⟩
 have hq:=hl i σ H (by omega) p
 cases m with
 | zero=>
  have hi:i=kvs.length:=by omega
  subst hi
  exact .inl ⟨⟨hq,aw _⟩,fin σ H p⟩
 | succ m=>
  refine .inr ⟨⟨hq,by omega⟩,Pv (i+1),fun σ' H' p'=>⟨m,g0 _,by omega,p'⟩,?_⟩
  rintro x H' ⟨rfl,k,y,hk,rfl⟩
  exact step i k y σ _ hk p
end Lake.L2
namespace Lake.MR
open PySem L2
abbrev EY:List V->Hp->VK->Prop:=λxs H Q=>∃z,xs=[.str z]/\z.length<=sizeLine/\Q (.int z.length) H
def JD (C:MC)(ft:List PV->Option PV):TS:=
 lX (tB (fM (DZ C ft false) [] E0 (aO (aH 1) (aO (aH 6) (aO (aH 7) (aO (aH 4) bw))))))
  (jV C.K (aH 5) (yJ (aH 6) (L4 EY (aO (aH 7) bw))) (yJ (za C.K (aH 5) (yJ (aH 6) (L4 EY (aO (aH 7) bw))) (tC (.int 0))) (qY C.K (aH 2) (aH 6))))
  jt
noncomputable def pA (ft:List PV->Option PV)(row cut:PV)(i m:Int)(pat:PV)(later:List (Key×PV)):Option (List (Key×PV)):=
 (ft [row,.int i,pat,cut]).bind λb=>match b with
  | .bl false=>some later
  | .bl true=>match pat with
   | .str z=>match (aM later (.inl (i+z.length))).getD (.int 0) with
    | .int u=>if z.length<=1000000/\later.length < 1000000 then some (bD later (.inl (i+z.length)) (.int (u+m))) else none
    | _=>none
   | _=>none
  | _=>none
variable {C:MC}{ft:List PV->Option PV}{A:Addr->Prop}{la:Addr}{FY:List (Key×V)}{H:Hp}{D:Ends}
theorem Mq {row cut pat:PV}{i m:Int}{later B9:List (Key×PV)}{vm vr vp vc vt:V}{wa:Addr}{o:Obj}{KG:List (Key×V)}
  (rr:Rep C A H vr row) (rc:Rep C A H vc cut) (rp:Rep C A H vt pat) (IA:H wa=some (.frz o (.dK FY))) (hm:cB FY (.inl i)=some (.int m)) (Fs:H la=some (.dK KG)) (rl:AX C (λ_=>False) H KG later)
  (h:pA ft row cut i m pat later=some B9)
  (q:∀H' EC,H' la=some (.dK EC)->AX C (λ_=>False) H' EC B9->(∀x o,x≠la->H x=some o->H' x=some o)->D.nx [some vm,some vr,some (.ref wa),some vp,some vc,some (.ref la),some (.int i),some vt] H'):
  JD C ft D [some vm,some vr,some (.ref wa),some vp,some vc,some (.ref la),some (.int i),some vt] H:=by
 obtain⟨b,hb,h2⟩:=ag.mp h
 clear h
 have h:=h2
 clear h2
 unfold JD
 dsimp only [lX,tB,fM,jt,jV]
 refine⟨_,rfl,_,rfl,_,rfl,_,rfl,A,[row,.int i,pat,cut],b,.cons rr (.cons (.int i) (.cons rp (.cons rc .nil))),hb,λv1 H1 s1 r1=>?_⟩
 have Ic:AM C _ H1 v1 b:=.inl r1
 cases b <;> first | (cases h;done) | skip
 rename_i ob
 refine⟨ob,Ic.bl,?_⟩
 have FH:=s1 _ _ Fs
 have XY:AX C (λ_=>False) H1 KG later:=rl.ex (.of_same s1)
 cases ob with
 | false=>
  cases h
  exact lZ (q H1 KG FH XY λx o _ e=>s1 x o e)
 | true=>
  refine jb ?_
  cases pat <;> first | (cases h;done) | skip
  rename_i z
  cases rp
  dsimp only at h
  cases hg:(aM later (.inl (i+z.length))).getD (.int 0) <;> rw[hg] at h <;> first | (cases h;done) | skip
  rename_i u
  dsimp only at h
  split at h
  ·rename_i hz
   cases h
   have Zn:z.length<=sizeLine:=gt (bZ (by omega))
   have key:∀{R:VK},R (.int (i+z.length)) H1->yJ (aH 6) (L4 EY (aO (aH 7) bw)) [some vm,some vr,some (.ref wa),some vp,some vc,some (.ref la),some (.int i),some (.str z)] H1 R:=λr=>⟨_,rfl,_,rfl,z,rfl,Zn,i,_,rfl,rfl,r⟩
   have Q2:=s1 _ _ IA
   have hlen:=XY.length
   refine⟨_,rfl,la,rfl,.inl ⟨_,.inl FH⟩,key ⟨_,BY.k (k:=.inl (i+z.length)) FH,?_⟩⟩
   have hv:(cB KG (.inl (i+z.length))).getD (.int 0)=.int u:=by
    rcases AX.val (k:=.inl (i+z.length)) XY with ⟨y,py,g1,g2,ry⟩ | ⟨g1,g2⟩
    ·have eL:aM later (.inl (i+z.length))=some py:=g2
     rw[eL] at hg
     cases (show py=.int u from hg)
     cases ry
     rw[g1];rfl
    ·have eL:aM later (.inl (i+z.length))=none:=g2
     rw[eL] at hg
     cases hg
     rw[g1];rfl
   rw[hv]
   refine⟨_,rfl,_,rfl,wa,.int m,rfl,.inl ⟨FY,.inl i,.inr ⟨o,Q2⟩,rfl,hm.symm⟩,u,m,rfl,rfl,?_⟩
   refine⟨_,rfl,key ⟨la,_,rfl,.inl ⟨KG,.inl (i+z.length),FH,rfl,bZ (by omega),rfl⟩,?_⟩⟩
   refine q _ _ az ?_ λx o n e=>by rw[ao n];exact s1 x o e
   exact AX.put (.int _) (XY.ex λx o e=>⟨λf=>f.elim,λmu=>by rw[ao (λz=>by rw[z,FH] at e;cases e;cases mu)];exact e⟩)
  ·cases h
noncomputable def jK (ft:List PV->Option PV)(row cut:PV)(i m:Int):List PV->List (Key×PV)->Option (List (Key×PV))
 | [],l=>some l
 | p::ps,l=>(pA ft row cut i m p l).bind (jK ft row cut i m ps)
def JF (C:MC)(ft:List PV->Option PV):TS:=vM (yM C.K (aH 3)) (aX 7) (JD C ft)
def OY (la:Addr)(H H':Hp):Prop:=∀x o,x≠la->H x=some o->H' x=some o
theorem OY.trans {H1 H2:Hp}(a:OY la H H1)(b:OY la H1 H2):OY la H H2:=λx o n e=>b x o n (a x o n e)
theorem uY {H':Hp}{kv:List (Key×V)}(Fs:H la=some (.dK kv))(nA:¬ A la)(bt:OY la H H'):Ex A H A H':=λx o e=>
 ⟨λq=>⟨bt x o (λz=>nA (z▸q)) e,q⟩,λmu=>bt x o (λz=>by rw[z,Fs] at e;cases e;cases mu) e⟩
variable {x7:Option V}
theorem Mr {row cut:PV}{pats:List PV}{i m:Int}{later B9:List (Key×PV)}{vm vr vp vc:V}{wa:Addr}{o:Obj}{KG:List (Key×V)}
  (nA:¬ A la) (rr:Rep C A H vr row) (rc:Rep C A H vc cut) (rp:Rep C A H vp (.tup pats)) (IA:H wa=some (.frz o (.dK FY))) (GI:wa≠la) (hm:cB FY (.inl i)=some (.int m)) (Fs:H la=some (.dK KG)) (rl:AX C (λ_=>False) H KG later)
  (h:jK ft row cut i m pats later=some B9)
  (q:∀H' EC y7,H' la=some (.dK EC)->AX C (λ_=>False) H' EC B9->OY la H H'->D.nx [some vm,some vr,some (.ref wa),some vp,some vc,some (.ref la),some (.int i),y7] H'):
  JF C ft D [some vm,some vr,some (.ref wa),some vp,some vc,some (.ref la),some (.int i),x7] H:=by
 obtain⟨pa,us,rfl,hpa,ru⟩:=AM.tup (.inl rp)
 have ln:=ru.length
 unfold JF
 refine⟨_,rfl,pa,rfl,⟨us,hpa.sq⟩,?_⟩
 have sq:∀{Hj:Hp},OY la H Hj->Co C.K Hj pa us:=λ{Hj} bt=>by
  rcases hpa with z | z
  ·exact .inl (.inl (bt _ _ (λe=>by rw[e,Fs] at z;cases z) z))
  ·exact .inr z
 refine Ca (K:=C.K) (a:=pa) (xs:=us) (λj σ Hj=>∃y7 FK lj,σ=[some vm,some vr,some (.ref wa),some (.ref pa),some vc,some (.ref la),some (.int i),y7]/\Hj la=some (.dK FK)/\AX C (λ_=>False) Hj FK lj/\jK ft row cut i m (pats.drop j) lj=some B9/\OY la H Hj)
  ⟨x7,KG,later,rfl,Fs,rl,h,λ_ _ _ e=>e⟩ (λj σ Hj _ ⟨_,_,_,_,_,_,_,bt⟩=>sq bt) (λj x σ Hj hx ⟨y7,FK,lj,e,KI,UK,hj,bt⟩=>?_) (fun σ Hj ⟨y7,FK,lj,e,KI,UK,hj,bt⟩=>?_)
 ·subst e
  have XZ:j < us.length:=(ai.mp hx).1
  have EK:pats.drop j=pats[j]'(by omega)::pats.drop (j+1):=bX (by omega)
  have hn:pats[j]?=some (pats[j]'(by omega)):=af (by omega)
  generalize pats[j]'(by omega)=pt at hn EK
  rw[EK] at hj
  obtain⟨l2,h1,h2⟩:=ag.mp (show ((pA ft row cut i m pt lj).bind _)=_ from hj)
  have ex:Ex A H A Hj:=uY Fs nA bt
  have rx:Rep C A Hj x pt:=by
   obtain⟨p,e,r⟩:=ru.get' hx
   rw[hn] at e
   cases e
   exact r.ex ex
  exact Mq (rr.ex ex) (rc.ex ex) rx (bt _ _ GI IA) hm KI UK h1 λH' EC e1 e2 e3=>⟨_,EC,l2,rfl,e1,e2,h2,bt.trans e3⟩
 ·subst e
  have EK:pats.drop us.length=[]:=by rw[eT];omega
  rw[EK] at hj
  cases hj
  exact q Hj FK y7 KI UK bt
noncomputable def jL (ft:List PV->Option PV)(row cut:PV)(pats:List PV)(all:List (Key×PV)):List (Key×PV)->List (Key×PV)->Option (List (Key×PV))
 | [],l=>some l
 | (.inl i,_)::ws,l=>match aM all (.inl i) with
  | some (.int m)=>(jK ft row cut i m pats l).bind (jL ft row cut pats all ws)
  | _=>none
 | (.inr _,_)::_,_=>none
def JG (C:MC)(ft:List PV->Option PV):TS:=vM (Qm (aH 2)) (aX 6) (JF C ft)
theorem AX.Ta {C:MC}{A:Addr->Prop}{H:Hp}:∀{kv:List (Key×V)}{kvs:List (Key×PV)}{i:Nat}{k:Key}{y:V},AX C A H kv kvs->kv[i]?=some (k,y)->∃p,kvs[i]?=some (k,p)
 | _,_,_,_,_,.nil,e=>by simp at e
 | _,_,0,_,_,.cons _ _,e=>by simp at e;exact⟨_,by rw[e.1];rfl⟩
 | _,_,i+1,k,y,.cons _ t,e=>by
  obtain⟨p,h⟩:=AX.Ta (i:=i) (k:=k) (y:=y) t (by simpa using e)
  exact⟨p,by simpa using h⟩
theorem Ms {row cut:PV}{pats:List PV}{A0 later B9:List (Key×PV)}{vm vr vp vc:V}{x6:Option V}{wa:Addr}{KG:List (Key×V)}
  (nA:¬ A la) (nW:¬ A wa) (rr:Rep C A H vr row) (rc:Rep C A H vc cut) (rp:Rep C A H vp (.tup pats)) (IA:H wa=some (.dK FY)) (IG:AX C (λ_=>False) H FY A0) (GI:wa≠la) (Fs:H la=some (.dK KG)) (rl:AX C (λ_=>False) H KG later)
  (h:jL ft row cut pats A0 A0 later=some B9)
  (q:∀H' EC y6 y7,H' la=some (.dK EC)->AX C (λ_=>False) H' EC B9->(∀x o,x≠la->x≠wa->H x=some o->H' x=some o)->D.nx [some vm,some vr,some (.ref wa),some vp,some vc,some (.ref la),y6,y7] H'):
  JG C ft D [some vm,some vr,some (.ref wa),some vp,some vc,some (.ref la),x6,x7] H:=by
 unfold JG
 refine⟨_,rfl,wa,FY,rfl,IA,λo=>?_⟩
 have b1:OY wa H (upd H wa (.frz o (.dK FY))):=λx o n e=>by rw[ao n];exact e
 have e1:Ex A H A (upd H wa (.frz o (.dK FY))):=uY IA nW b1
 have f1:Ex (λ_=>False) H (λ_=>False) (upd H wa (.frz o (.dK FY))):=uY IA (λz=>z) b1
 have FH:upd H wa (.frz o (.dK FY)) la=some (.dK KG):=b1 _ _ GI.symm Fs
 have lw:FY.length=A0.length:=IG.length
 have Q2:upd H wa (.frz o (.dK FY)) wa=some (.frz o (.dK FY)):=az
 refine Mp (a:=wa) (o:=o) (kvs:=FY) (λj σ Hj=>∃y6 y7 FK lj,σ=[some vm,some vr,some (.ref wa),some vp,some vc,some (.ref la),y6,y7]/\Hj la=some (.dK FK)/\AX C (λ_=>False) Hj FK lj/\jL ft row cut pats A0 (A0.drop j) lj=some B9/\OY la (upd H wa (.frz o (.dK FY))) Hj)
  ⟨x6,x7,KG,later,rfl,FH,rl.ex f1,h,λ_ _ _ e=>e⟩ (λj σ Hj _ ⟨_,_,_,_,_,_,_,_,bt⟩=>bt _ _ GI Q2) (λj k y σ Hj hx ⟨y6,y7,FK,lj,e,KI,UK,hj,bt⟩=>?_) (fun σ Hj ⟨y6,y7,FK,lj,e,KI,UK,hj,bt⟩=>?_)
 ·subst e
  have XZ:j < FY.length:=(ai.mp hx).1
  obtain⟨pw,hpw⟩:=AX.Ta IG hx
  have EK:A0.drop j=(k,pw)::A0.drop (j+1):=by
   rw[bX (by omega)]
   rw[(ai.mp hpw).2]
  rw[EK] at hj
  cases k with
  | inr z=>cases hj
  | inl i=>
   have UL:(match aM A0 (.inl i) with | some (.int m)=>(jK ft row cut i m pats lj).bind (jL ft row cut pats A0 (A0.drop (j+1))) | _=>none)=some B9:=hj
   rcases AX.val (k:=.inl i) IG with ⟨v,pv',g1,g2,ry⟩ | ⟨g1,g2⟩
   ·have eL:aM A0 (.inl i)=some pv':=g2
    rw[eL] at UL
    cases pv' <;> first | (cases UL;done) | skip
    rename_i m
    cases ry
    obtain⟨l2,h1,h2⟩:=ag.mp UL
    have ex:Ex A H A Hj:=e1.trans (uY FH nA bt)
    exact Mr nA (rr.ex ex) (rc.ex ex) (rp.ex ex) (bt _ _ GI Q2) GI g1 KI UK h1 λH' EC z7 q1 q2 q3=>⟨_,z7,EC,l2,rfl,q1,q2,h2,bt.trans q3⟩
   ·have eL:aM A0 (.inl i)=none:=g2
    rw[eL] at UL
    cases UL
 ·subst e
  have EK:A0.drop FY.length=[]:=by rw[eT];omega
  rw[EK] at hj
  cases hj
  exact q Hj FK y6 y7 KI UK λx o n1 n2 e=>bt x o n1 (b1 x o n2 e)
noncomputable def g_ (ft:List PV->Option PV)(row:PV):List PV->List (Key×PV)->Option (List (Key×PV))
 | [],w=>some w
 | .tup [.tup pats,cut]::ss,w=>(jL ft row cut pats w w []).bind (g_ ft row ss)
 | _::_,_=>none
noncomputable def z_ (ft:List PV->Option PV):List PV->Option PV
 | [.tup slots,.lst r]=>(g_ ft (.lst r) slots [(.inl 0,.int 1)]).bind λw=>some ((aM w (.inl (r.length:Nat))).getD (.int 0))
 | _=>none
def JH (C:MC)(ft:List PV->Option PV):TS:=vM (yM C.K (aH 0)) (vK C.K 2 (ju (aX 3) (ju (aX 4) vJ))) (cA (gA yZ (aX 5)) (cA (JG C ft) (gA (aH 5) (aX 2))))
theorem Mt {row:PV}{slots:List PV}{A0 Nn:List (Key×PV)}{vm vr:V}{x3 x4 x5 x6:Option V}{wa:Addr}{H0:Hp}
  (dA:∀a,A a->∃o,H0 a=some o) (rm:Rep C A H0 vm (.tup slots)) (rr:Rep C A H0 vr row) (s0:AK H0 H) (nwa:H0 wa=none) (IA:H wa=some (.dK FY)) (IG:AX C (λ_=>False) H FY A0)
  (h:g_ ft row slots A0=some Nn)
  (q:∀H' X0 UM y3 y4 y5 y6 y7,H' X0=some (.dK UM)->AX C (λ_=>False) H' UM Nn->AK H0 H'->D.nx [some vm,some vr,some (.ref X0),y3,y4,y5,y6,y7] H'):
  JH C ft D [some vm,some vr,some (.ref wa),x3,x4,x5,x6,x7] H:=by
 obtain⟨ma,us,rfl,hma,ru⟩:=AM.tup (.inl rm)
 have ln:=ru.length
 unfold JH
 refine⟨_,rfl,ma,rfl,⟨us,(hma.up s0).sq⟩,?_⟩
 refine Ca (K:=C.K) (a:=ma) (xs:=us) (λj σ Hj=>∃Vq Nw wj y3 y4 y5 y6 y7,σ=[some (.ref ma),some vr,some (.ref Vq),y3,y4,y5,y6,y7]/\AK H0 Hj/\H0 Vq=none/\Hj Vq=some (.dK Nw)/\AX C (λ_=>False) Hj Nw wj/\g_ ft row (slots.drop j) wj=some Nn)
  ⟨wa,FY,A0,x3,x4,x5,x6,x7,rfl,s0,nwa,IA,IG,h⟩ (λj σ Hj _ ⟨_,_,_,_,_,_,_,_,_,s,_⟩=>(hma.up s).sq) (λj x σ Hj hx ⟨Vq,Nw,wj,y3,y4,y5,y6,y7,e,s,nw,hw,Zu,hj⟩=>?_) (fun σ Hj ⟨Vq,Nw,wj,y3,y4,y5,y6,y7,e,s,nw,hw,Zu,hj⟩=>?_)
 ·subst e
  have XZ:j < us.length:=(ai.mp hx).1
  have EK:slots.drop j=slots[j]'(by omega)::slots.drop (j+1):=bX (by omega)
  have hn:slots[j]?=some (slots[j]'(by omega)):=af (by omega)
  generalize slots[j]'(by omega)=sl at hn EK
  rw[EK] at hj
  have rx:Rep C A Hj x sl:=by
   obtain⟨p,e,r⟩:=ru.get' hx
   rw[hn] at e
   cases e
   exact r.ex (.of_same s)
  unfold g_ at hj
  split at hj
  ·rename_i e;cases e
  ·rename_i pats cut ss e
   obtain⟨e1,e2⟩:=List.cons.inj e
   subst e1 e2
   obtain⟨l2,h1,h2⟩:=ag.mp hj
   obtain⟨xa,xs,rfl,hxa,rxa⟩:=AM.tup (.inl rx)
   cases rxa with
   | cons rp rc=>cases rc with
    | cons rc rn=>
     cases rn
     refine⟨xa,_,rfl,hxa.sq,rfl,_,_,rfl,_,_,rfl,rfl,λla Fs=>?_⟩
     have sn:=aL Fs (.dK [])
     have UN:H0 la=none:=s.free Fs
     have no:∀{l:Addr},H0 l=none->¬ A l:=λz f=>by obtain⟨o,e⟩:=dA _ f;rw[z] at e;cases e
     refine Ms (A:=A) (no UN) (no nw) (rr.ex (.of_same (s.trans sn))) (rc.ex (.of_same sn)) (rp.ex (.of_same sn)) (sn _ _ hw) (Zu.ex (.of_same sn)) (aq hw Fs) az .nil h1 λH' EC z6 z7 e1 e2 e3=>?_
     exact⟨_,rfl,la,EC,l2,_,_,_,z6,z7,rfl,λx o e=>e3 x o (aq e UN) (aq e nw) (sn _ _ (s _ _ e)),UN,e1,e2,h2⟩
  ·cases hj
 ·subst e
  have EK:slots.drop us.length=[]:=by rw[eT];omega
  rw[EK] at hj
  cases hj
  exact q Hj Vq Nw y3 y4 y5 y6 y7 hw Zu s
def Zv (C:MC)(ft:List PV->Option PV):TS:=
 cA (gA (Hf (tC (.int 0)) (tC (.int 1))) (aX 2)) (cA (JH C ft) (iU (za C.K (aH 2) (L4 (zR C.K) (aO (aH 1) bw)) (tC (.int 0)))))
theorem Qo {vs:List V}{Q:VK}{E:XK}(h:DZ C (z_ ft) false vs H Q E):
  Zv C ft { nx:=λ_ H'=>Q .AO H',rt:=Q } (L2.start ["_law_metre_here","_law_row","_law_ways","_law_patterns","_law_cut","_law_later","_law_at","_law_pattern_here"] vs) H:=by
 obtain⟨A,ps,out,r,hm,q⟩:=h
 unfold z_ at hm
 split at hm
 ·rename_i slots rw
  obtain⟨w,h1,hm⟩:=ag.mp hm
  cases hm
  cases r with
  | @cons vm _ _ _ rm r=>cases r with
   | @cons vr _ _ _ rr r=>
    cases r
    have rm':Rep C (λa=>A a/\∃o,H a=some o) H vm (.tup slots):=rm.ex (aV λa o e z=>⟨z,o,e⟩)
    have rr':Rep C (λa=>A a/\∃o,H a=some o) H vr (.lst rw):=rr.ex (aV λa o e z=>⟨z,o,e⟩)
    unfold Zv
    dsimp only [cA,gA,aX]
    intro wa IA
    have s1:=(aL IA (.dK [])).over IA (.dK [(.inl 0,.int 1)])
    refine⟨az,.inl 0,rfl,?_⟩
    refine Mt (A:=λa=>A a/\∃o,H a=some o) (λa z=>z.2) rm' rr' s1 IA az (.cons (.int 1) .nil) h1 λH' X0 UM y3 y4 y5 y6 y7 e1 e2 s=>?_
    obtain⟨ra,us,ev,hra,ru⟩:=AM.lst (.inl (rr'.ex (.of_same s)))
    cases ev
    refine⟨_,rfl,X0,rfl,.inl ⟨_,.inl e1⟩,⟨_,rfl,ra,us,rfl,.inl (Bz.of hra),⟨_,BY.k (k:=.inl (us.length:Nat)) e1,?_⟩⟩⟩
    have hl:us.length=rw.length:=ru.length
    rcases AX.val (k:=.inl (us.length:Nat)) e2 with ⟨y,py,g1,g2,ry⟩ | ⟨g1,g2⟩
    ·have eL:aM w (.inl (us.length:Nat))=some py:=g2
     rw[hl] at eL g1
     rw[eL] at q
     rw[hl,g1]
     exact q _ _ s (ry.ex (aV λ_ _ _ f=>f.elim))
    ·have eL:aM w (.inl (us.length:Nat))=none:=g2
     rw[hl] at eL g1
     rw[eL] at q
     rw[hl,g1]
     exact q _ _ s (.int 0)
 ·cases hm
noncomputable def bu (n:qS):List AG:=n.map λi=>.k (.inl i)
theorem xN (f:PV->Option AG)(hf:∀i,f (.int i)=some (.k (.inl i))):∀n:List Int,qt f (n.map PV.int)=some (bu n)
 | []=>rfl
 | i::n=>by
  show (f (.int i)).bind _=_
  rw[hf,aE,xN f hf n]
  rfl
theorem iB (n:qS):AU (n.map PV.int)=some (bu n):=by
 unfold AU gR
 split
 ·rename_i e
  match n,e with
  | [],e=>cases e
  | [_],e=>cases e
  | _::_::_,e=>injection e with e1 _;cases e1
 ·exact xN _ (λi=>rfl) n
structure FS where
 ws:List WS
 A0:List (List AG×PV)
 later:List (List Int)
noncomputable def mz (cn:Nat)(io so ro:List PV->Option PV)(node:qS)(x:PV×List Int)(st:FS):Option (FS ⊕ PV):=match aM st.A0 (bu x.2) with
 | some _=>some (.inl st)
 | none=>match st.ws,x.2 with
  | w0::_,k::_=>(io [w0.pv cn,.int k]).bind λo=>match o with
   | .bl true=>some (.inl st)
   | .bl false=>if st.A0.length < 1000000/\st.later.length < 1000000 then
     (so [.lst (st.ws.map λw=>w.pv cn),B5 x.2]).bind λs=>match s with
      | .bl true=>(ro [.dT (bD st.A0 (bu x.2) (.tup [B5 node,x.1])),B5 x.2]).bind λv=>some (.inr v)
      | .bl false=>some (.inl { st with A0:=bD st.A0 (bu x.2) (.tup [B5 node,x.1]),later:=st.later++[x.2] })
      | _=>none
    else none
   | _=>none
  | _,_=>none
structure FI (C:MC)(cn:Nat)(cs:List WC)(wl da lb:Addr)(H0:Hp)(F:Addr->Prop)(H:Hp)(st:FS):Prop where
 W:EX C cn F H cs st.ws
 EJ:H wl=some (.lst (cs.map λc=>V.ref c.a))
 D7:∃kv,H da=some (.dT kv)/\A2 C (λ_=>False) H kv st.A0
 He:∃vs,H lb=some (.lst vs)/\AJ C (λ_=>False) H vs (st.later.map B5)
 dm:∀b,F b->∃o,H b=some o
 nF:¬ F wl/\¬ F da/\¬ F lb
 GI:∀c∈cs,wl≠c.lp
 Rl:∀c∈cs,da≠c.a/\da≠c.ah/\da≠c.lp/\da≠c.ln/\da≠c.lo
 LX:∀c∈cs,lb≠c.a/\lb≠c.ah/\lb≠c.lp/\lb≠c.ln/\lb≠c.lo
 WB:wl≠lb
 new:H0 da=none/\H0 lb=none
 kp:Bi cs H0 H
variable {F:Addr->Prop}
theorem jZ {H':Hp}(h:∀x o,H x=some o->gM o=false->H' x=some o):Ex (λ_=>False) H F H':=λx o e=>⟨λz=>z.elim,λm=>h x o e m⟩
theorem FI.same {C:MC}{cn:Nat}{cs:List WC}{wl da lb:Addr}{H0 H H':Hp}{F:Addr->Prop}{st:FS}(I:FI C cn cs wl da lb H0 F H st)(s:AK H H'):FI C cn cs wl da lb H0 F H' st where
 W:=I.W.same s
 EJ:=s _ _ I.EJ
 D7:=let ⟨kv,e,r⟩:=I.D7;⟨kv,s _ _ e,r.ex (.of_same s)⟩
 He:=let ⟨kv,e,r⟩:=I.He;⟨kv,s _ _ e,r.ex (.of_same s)⟩
 dm:=λb f=>let ⟨o,e⟩:=I.dm b f;⟨o,s b o e⟩
 nF:=I.nF
 GI:=I.GI
 Rl:=I.Rl
 LX:=I.LX
 WB:=I.WB
 new:=I.new
 kp:=λx o e n=>s x o (I.kp x o e n)
theorem EX.rep {C:MC}{cn:Nat}{F:Addr->Prop}{H:Hp}{cs:List WC}{ws:List WS}(W:EX C cn F H cs ws):AJ C (λ_=>True) H (cs.map λc=>V.ref c.a) (ws.map λw=>w.pv cn):=by
 have h:∀(cs:List WC) (ws:List WS),cs.length=ws.length->(∀(i:Nat) (c:WC) (w:WS),cs[i]?=some c->ws[i]?=some w->c.n=cn/\WR C F H c w)->AJ C (λ_=>True) H (cs.map λc=>V.ref c.a) (ws.map λw=>w.pv cn):=by
  intro cs
  induction cs with
  | nil=>
   intro ws l _
   cases ws with
   | nil=>exact .nil
   | cons w ws=>cases l
  | cons c cs ih=>
   intro ws l a
   cases ws with
   | nil=>cases l
   | cons w ws=>
    obtain⟨e,Wc⟩:=a 0 c w rfl rfl
    refine .cons ?_ (ih ws (by simpa using l) λi c w h1 h2=>a (i+1) c w (by simpa using h1) (by simpa using h2))
    have:=Wc.rep
    rw[e] at this
    exact this.ex (aV λ_ _ _ _=>trivial)
 exact h cs ws W.len W.all
def Kz (C:MC)(cn:Nat)(io:List PV->Option PV):TE:=jU (C.cl cn) "is_over" (DZ C io false) [] E0 (MA (vQ C.K) (aH 0) (tC (.int 0))) (aO (MA (DP C.K) (aH 8) (tC (.int 0))) bw)
def E_ (C:MC)(cn:Nat)(io so ro:List PV->Option PV)(fS:Addr):TS:=
 lX (HR (tB (i_ C.K (aH 8) (aH 3))) (HS (tB (Kz C cn io))))
  (cA (jV C.K (aH 3) (aH 8) (yO (aO (aH 6) (aO (aH 7) bw))))
   (cA (ur (U7 C.K "list" vU (aH 5) (aO (aH 8) bw)))
    (lX (tB (uV 1 fS (DZ C so false) (aO (aH 0) (aO (aH 8) bw)))) (iU (fM (DZ C ro false) [] E0 (aO (aH 3) (aO (aH 8) bw)))) jt)))
  jt
variable {cn:Nat}{cs:List WC}
theorem FI.grow {wl da lb p b:Addr}{H0:Hp}{st:FS}{kd:List (List AG×V)}{lv:List V}{node rc:qS}{sd:PV}{vn vd:V}(I:FI C cn cs wl da lb H0 F H st)(D7:H da=some (.dT kd))(RA:A2 C (λ_=>False) H kd st.A0)(He:H lb=some (.lst lv))(Vr:AJ C (λ_=>False) H lv (st.later.map B5))(hp:H p=none)
  (rn:Rep C (λ_=>False) H vn (B5 node)) (rd:Rep C (λ_=>False) H vd sd) (rr:Rep C (λ_=>False) H (.ref b) (B5 rc)):
  FI C cn cs wl da lb H0 F (upd (upd (upd H p (.tup [vn,vd])) da (.dT (putK kd (bu rc) (.ref p)))) lb (.lst (lv++[.ref b]))) { st with A0:=bD st.A0 (bu rc) (.tup [B5 node,sd]),later:=st.later++[rc] } /\
  (∀x o,H x=some o->gM o=false->upd (upd (upd H p (.tup [vn,vd])) da (.dT (putK kd (bu rc) (.ref p)))) lb (.lst (lv++[.ref b])) x=some o) /\
  (∀x o,H x=some o->x≠da->x≠lb->upd (upd (upd H p (.tup [vn,vd])) da (.dT (putK kd (bu rc) (.ref p)))) lb (.lst (lv++[.ref b])) x=some o):=by
 have s1:=aL hp (.tup [vn,vd])
 have npd:p≠da:=(aq D7 hp).symm
 have npl:p≠lb:=(aq He hp).symm
 have WD:da≠lb:=bQ D7 He (λz=>nomatch z)
 have I1:=I.same s1
 have RE:=s1 _ _ D7
 have W2:EX C cn F (upd (upd H p (.tup [vn,vd])) da (.dT (putK kd (bu rc) (.ref p)))) cs st.ws:=I1.W.own RE rfl I.nF.2.1 I.Rl
 have Zw:upd (upd H p (.tup [vn,vd])) da (.dT (putK kd (bu rc) (.ref p))) lb=some (.lst lv):=by rw[ao WD.symm];exact s1 _ _ He
 have W3:=W2.own (o:=.lst (lv++[.ref b])) Zw rfl I.nF.2.2 I.LX
 have k3:∀x o,H x=some o->x≠da->x≠lb->upd (upd (upd H p (.tup [vn,vd])) da (.dT (putK kd (bu rc) (.ref p)))) lb (.lst (lv++[.ref b])) x=some o:=λx o e n1 n2=>by rw[ao n2,ao n1];exact s1 x o e
 have km:∀x o,H x=some o->gM o=false->upd (upd (upd H p (.tup [vn,vd])) da (.dT (putK kd (bu rc) (.ref p)))) lb (.lst (lv++[.ref b])) x=some o:=λx o e m=>k3 x o e (λz=>by rw[z,D7] at e;cases e;cases m) λz=>by rw[z,He] at e;cases e;cases m
 have ex:=jZ (F:=λ_=>False) km
 have hp3:upd (upd (upd H p (.tup [vn,vd])) da (.dT (putK kd (bu rc) (.ref p)))) lb (.lst (lv++[.ref b])) p=some (.tup [vn,vd]):=by rw[ao npl,ao npd,az]
 refine⟨⟨W3,k3 _ _ I.EJ (bQ I.EJ D7 (λz=>nomatch z)) I.WB,⟨_,by rw[ao WD,az],A2.put (.tup hp3 (.cons (rn.ex ex) (.cons (rd.ex ex) .nil))) (RA.ex ex)⟩,⟨_,az,?_⟩,λx f=>?_,I.nF,I.GI,I.Rl,I.LX,I.WB,I.new,λx o e n=>?_⟩,km,k3⟩
 ·rw[dc]
  exact(Vr.ex ex).append (.cons (rr.ex ex) .nil)
 ·obtain⟨o,e⟩:=I.dm x f
  exact⟨o,k3 x o e (λz=>I.nF.2.1 (z▸f)) (λz=>I.nF.2.2 (z▸f))⟩
 ·exact k3 x o (I.kp x o e n) (λz=>by rw[z,I.new.1] at e;cases e) λz=>by rw[z,I.new.2] at e;cases e
variable {io so ro:List PV->Option PV}{out:FS ⊕ PV}
theorem JK {fS wl da lb:Addr}{H0:Hp}{st:FS}{node rc:qS}{sd:PV}{vs vn vd vr:V}(I:FI C cn cs wl da lb H0 F H st)(rn:Rep C (λ_=>False) H vn (B5 node))(rd:Rep C (λ_=>False) H vd sd)(rr:Rep C (λ_=>False) H vr (B5 rc))
  (h:mz cn io so ro node (sd,rc) st=some out)
  (q1:∀H' BU,out=.inl BU->FI C cn cs wl da lb H0 F H' BU->(∀x o,H x=some o->gM o=false->H' x=some o)->(∀x o,H x=some o->x≠da->x≠lb->H' x=some o)->D.nx [some (.ref wl),some (.ref fS),some vs,some (.ref da),some (.ref la),some (.ref lb),some vn,some vd,some vr] H')
  (q2:∀H' v p,out=.inr p->Bi cs H0 H'->Rep C (λb=>H0 b=none) H' v p->D.rt v H'):
  E_ C cn io so ro fS D [some (.ref wl),some (.ref fS),some vs,some (.ref da),some (.ref la),some (.ref lb),some vn,some vd,some vr] H:=by
 obtain⟨kd,D7,RA⟩:=I.D7
 obtain⟨lv,He,Vr⟩:=I.He
 obtain⟨b,us,rfl,hb,rb⟩:=AM.tup (.inl rr)
 have ck:CD C.K H b (bu rc):=hb.key (rb.AU (iB rc))
 have eus:=qC rb
 unfold E_
 dsimp only [lX,HR,tB,i_,HS,cA,jV,ur,U7,jt,iU,fM,uV]
 refine⟨_,rfl,_,rfl,da,_,rfl,BY.t D7 ck,_,rfl,?_⟩
 unfold mz at h
 dsimp only at h
 rcases A2.val (k:=bu rc) RA with ⟨y,py,g1,g2,ry⟩ | ⟨g1,g2⟩
 ·have eL:aM st.A0 (bu rc)=some py:=g2
  rw[eL] at h
  cases h
  rw[g1]
  exact lZ (lZ (q1 H st rfl I (λ_ _ e _=>e) λ_ _ e _ _=>e))
 ·have eL:aM st.A0 (bu rc)=none:=g2
  rw[eL] at h
  rw[g1]
  refine jb ?_
  cases UO:st.ws with
  | nil=>rw[UO] at h;cases h
  | cons w0 wr=>
   cases rc with
   | nil=>rw[UO] at h;cases h
   | cons k rc'=>
    rw[UO] at h
    obtain⟨o,ho,h⟩:=ag.mp h
    obtain⟨c0,cr,ecs⟩:∃c0 cr,cs=c0::cr:=by
     have:=I.W.len
     rw[UO] at this
     cases cs with
     | nil=>cases this
     | cons c0 cr=>exact⟨c0,cr,rfl⟩
    obtain⟨S2,W0⟩:=I.W.all 0 c0 w0 (by rw[ecs];rfl) (by rw[UO];rfl)
    have QU:us=V.int k::rc'.map V.int:=eus
    have i0:B4 (cs.map λc=>V.ref c.a) 0=some (.ref c0.a):=by rw[ecs];simp[B4,JO]
    have i1:B4 us 0=some (.int k):=by rw[QU];simp[B4,JO]
    unfold Kz
    dsimp only [jU,MA,tC,aO,bw]
    refine⟨_,rfl,wl,_,0,_,rfl,rfl,Bz.of I.EJ,i0,c0.a,c0.dx,_,rfl,by rw[← S2];exact W0.ob,rfl,?_⟩
    refine⟨_,rfl,b,us,0,_,rfl,rfl,hb.sq,i1,?_⟩
    have r0:Rep C (λ_=>True) H (.ref c0.a) (w0.pv cn):=by
     have:=W0.rep
     rw[S2] at this
     exact this.ex (aV λ_ _ _ _=>trivial)
    refine⟨λ_=>True,[w0.pv cn,.int k],o,.cons r0 (.cons (.int _) .nil),ho,λv1 H1 s1 r1=>?_⟩
    have Ic:AM C _ H1 v1 o:=.inl r1
    cases o <;> first | (cases h;done) | skip
    rename_i ob
    refine⟨ob,Ic.bl,?_⟩
    have I1:=I.same s1
    cases ob with
    | true=>
     cases h
     exact lZ (q1 H1 st rfl I1 (λx o e _=>s1 x o e) λx o e _ _=>s1 x o e)
    | false=>
     refine jb ?_
     dsimp only at h
     split at h
     ·rename_i hz
      obtain⟨s,hs,h⟩:=ag.mp h
      have RE:=s1 _ _ D7
      have WE:=s1 _ _ He
      have UP:Ex (λ_=>False) H (λ_=>False) H1:=.of_same s1
      refine⟨_,rfl,_,rfl,by show (2:Nat)<=sizeLine;decide,λp hp=>?_⟩
      have ck1:CD C.K H1 b (bu (k::rc')):=ck.keeps λx ys e=>s1 _ _ e
      have sp:=aL hp (.tup [vn,vd])
      have Zg:CD C.K (upd H1 p (.tup [vn,vd])) b (bu (k::rc')):=ck1.keeps λx ys e=>sp _ _ e
      refine⟨_,rfl,_,rfl,da,_,rfl,FG.t (sp _ _ RE) Zg (bZ (by rw[RA.length];omega)),?_⟩
      obtain⟨I4,km,k4⟩:=I1.grow RE (RA.ex UP) WE (Vr.ex UP) hp (rn.ex UP) (rd.ex UP) (rr.ex UP)
      have WD:da≠lb:=bQ D7 He (λz=>nomatch z)
      have hl3:upd (upd H1 p (.tup [vn,vd])) da (.dT (putK kd (bu (k::rc')) (.ref p))) lb=some (.lst lv):=by rw[ao WD.symm];exact sp _ _ WE
      refine⟨_,rfl,.inl ⟨rfl,lv,Bz.of hl3⟩,_,rfl,lb,lv,.ref b,rfl,rfl,hl3,bZ (by have:=Vr.length;rw[aI] at this;omega),?_⟩
      refine⟨rfl,_,rfl,_,rfl,?_⟩
      have rr4:=(rr.ex UP).ex (jZ (F:=λ_=>True) km)
      refine⟨λ_=>True,[.lst (st.ws.map λw=>w.pv cn),B5 (k::rc')],s,.cons (.lst I4.EJ trivial I4.W.rep) (.cons rr4 .nil),by rw[UO];exact hs,λv5 H5 s5 r5=>?_⟩
      have YX:AM C _ H5 v5 s:=.inl r5
      cases s <;> first | (cases h;done) | skip
      rename_i sb
      refine⟨sb,YX.bl,?_⟩
      have I5:=I4.same s5
      cases sb with
      | true=>
       refine jb ?_
       obtain⟨pv,Zx,h⟩:=ag.mp h
       cases h
       obtain⟨kd5,hd5,rd5⟩:=I5.D7
       refine⟨_,rfl,_,rfl,?_⟩
       refine⟨λc=>c=da,[.dT (bD st.A0 (bu (k::rc')) (.tup [B5 node,sd])),B5 (k::rc')],pv,.cons (.dT hd5 rfl (rd5.ex (aV λ_ _ _ z=>z.elim))) (.cons (((rr.ex UP).ex (jZ (F:=λ_=>False) km)).ex (jZ λx o e m=>s5 x o e)) .nil),Zx,λv H6 s6 r6=>?_⟩
       refine q2 H6 v pv rfl (λx o e n=>s6 x o (I5.kp x o e n)) ?_
       exact(show Rep C (λc=>c=da\/H5 c=none) H6 v pv from r6).ex (aV λx o _ z=>z.elim (λe=>by rw[e];exact I.new.1) λe=>I5.kp.Vl I5.W e)
      | false=>
       cases h
       exact lZ (q1 H5 _ (by rw[UO]) I5 (λx o e m=>s5 x o (km x o (s1 x o e) m)) λx o e n1 n2=>s5 x o (k4 x o (s1 x o e) n1 n2))
     ·cases h
noncomputable def mC (cn:Nat)(io so ro:List PV->Option PV)(node:qS):List (PV×List Int)->FS->Option (FS ⊕ PV)
 | [],st=>some (.inl st)
 | x::xs,st=>(mz cn io so ro node x st).bind λo=>match o with
  | .inl BU=>mC cn io so ro node xs BU
  | .inr v=>some (.inr v)
noncomputable def qI (pb:List PV->Option PV)(cn:Nat)(S:List PV)(io so ro:List PV->Option PV):List (List Int)->FS->Option (FS ⊕ PV)
 | [],st=>some (.inl st)
 | n::ns,st=>(Vn pb cn S st.ws n).bind λr=>(mC cn io so ro n (S.zip r.1) { st with ws:=r.2 }).bind λo=>match o with
  | .inl BU=>qI pb cn S io so ro ns BU
  | .inr v=>some (.inr v)
noncomputable def tU (pb:List PV->Option PV)(cn:Nat)(S:List PV)(io so ro:List PV->Option PV):Nat->List (List Int)->FS->Option PV
 | 0,_,_=>none
 | _+1,[],_=>some .AO
 | f+1,n::ns,st=>(qI pb cn S io so ro (n::ns) { st with later:=[] }).bind λo=>match o with
  | .inl BU=>tU pb cn S io so ro f BU.later BU
  | .inr v=>some v
noncomputable def Vs (pb:List PV->Option PV)(cn:Nat)(S:List PV)(io so ro:List PV->Option PV)(ws:List WS):Option PV:=
 tU pb cn S io so ro 1000 [List.replicate ws.length 0] { ws:=ws,A0:=[(bu (List.replicate ws.length 0),.AO)],later:=[List.replicate ws.length 0] }
section
variable {C:MC}{cn:Nat}{cs:List WC}{wl da lb:Addr}{H0 H H1:Hp}{F F1:Addr->Prop}{st:FS}{EZ:List WS}
theorem FI.walk (I:FI C cn cs wl da lb H0 F H st)(kp:Bi cs H H1)(gr:F8 F F1 H)(W:EX C cn F1 H1 cs EZ)(dm:∀b,F1 b->∃o,H1 b=some o):FI C cn cs wl da lb H0 F1 H1 { st with ws:=EZ }:=by
 have ex:=jZ (H:=H) (H':=H1) (F:=λ_=>False) λx o e m=>kp.tup I.W e m
 obtain⟨kd,D7,RA⟩:=I.D7
 obtain⟨lv,He,Vr⟩:=I.He
 have no:∀x o,H x=some o->¬ F x->¬ F1 x:=λx o e n z=>(gr.2 x z).elim n λq=>by rw[q] at e;cases e
 exact⟨W,kp.lst I.W I.EJ I.GI,⟨kd,kp da _ D7 λc hc=>⟨(I.Rl c hc).2.2.1,(I.Rl c hc).2.2.2.1,(I.Rl c hc).2.2.2.2⟩,RA.ex ex⟩,⟨lv,kp lb _ He λc hc=>⟨(I.LX c hc).2.2.1,(I.LX c hc).2.2.2.1,(I.LX c hc).2.2.2.2⟩,Vr.ex ex⟩,dm,
  ⟨no _ _ I.EJ I.nF.1,no _ _ D7 I.nF.2.1,no _ _ He I.nF.2.2⟩,I.GI,I.Rl,I.LX,I.WB,I.new,I.kp.trans kp⟩
end
def Aa (C:MC)(cn:Nat)(pb:List PV->Option PV)(S:List PV)(io so ro:List PV->Option PV)(fS aS:Addr):TS:=
 vM (yr C.K .T .L (aO (tC (.ref aS)) (aO (fM (zV C cn pb S) [] E0 (aO (aH 0) (aO (aH 6) bw))) bw))) (vK C.K 2 (ju (aX 7) (ju (aX 8) vJ))) (E_ C cn io so ro fS)
theorem Rx {v:V}{n:qS}(r:Rep C A H v (B5 n)):Rep C (λ_=>False) H v (B5 n):=CG r (iB n)
variable {pb:List PV->Option PV}{nodes:List (List Int)}
theorem Hg {S:List PV}{fS aS wl da lb:Addr}{H0:Hp}{st:FS}{node:qS}{vs vn:V}{x8:Option V}{EZ:List WS}(hS:qz C aS S)(ne:cs≠[])(hz:cs.length<=1000)(T:WT C.K (C.cl cn))(I:FI C cn cs wl da lb H0 F H st)(rn:Rep C (λ_=>False) H vn (B5 node))
  (X1:Vn pb cn S st.ws node=some (nodes,EZ)) (h:mC cn io so ro node (S.zip nodes) { st with ws:=EZ }=some out)
  (q1:∀H' F' BU y7 y8,out=.inl BU->FI C cn cs wl da lb H0 F' H' BU->(∀x o,H x=some o->gM o=false->H' x=some o)->(∀x xs,H x=some (.lst xs)->(∀c∈cs,x≠c.lp)->x≠lb->H' x=some (.lst xs))->D.nx [some (.ref wl),some (.ref fS),some vs,some (.ref da),some (.ref la),some (.ref lb),some vn,y7,y8] H')
  (q2:∀H' v p,out=.inr p->Bi cs H0 H'->Rep C (λb=>H0 b=none) H' v p->D.rt v H'):
  Aa C cn pb S io so ro fS aS D [some (.ref wl),some (.ref fS),some vs,some (.ref da),some (.ref la),some (.ref lb),some vn,x7,x8] H:=by
 obtain⟨us,QU,UG⟩:=hS
 have oW:us.length=S.length:=(UG F H).length
 have nl:nodes.length=S.length:=by
  obtain⟨r,_,h2⟩:=ag.mp X1
  obtain⟨rows,_,h3⟩:=ag.mp h2
  cases h3
  simp
 unfold Aa
 refine⟨_,rfl,_,rfl,?_⟩
 refine⟨F,cs,st.ws,node,nodes,EZ,wl,vn,rfl,ne,T,I.W,I.EJ,I.nF.1,I.GI,hz,rn.ex (aV λ_ _ _ z=>z.elim),X1,λH1 F1 l IJ k1 g1 W1 hl nl1 QO r1=>?_⟩
 refine⟨aS,l,rfl,⟨us,kW QU⟩,⟨IJ,Bz.of QO⟩,?_⟩
 obtain⟨c0,Tb⟩:=kf _ ne
 obtain⟨i0,UQ⟩:=ef.mp Tb
 have Zk:∀b,F1 b->∃o,H1 b=some o:=(W1.all i0 c0 _ UQ (af (by rw[← W1.len];exact(ai.mp UQ).1))).2.dm
 have I1:=I.walk k1 g1 W1 Zk
 obtain⟨kd,D7,_⟩:=I.D7
 obtain⟨lv,He,_⟩:=I.He
 have nld:l≠da:=(aq D7 hl).symm
 have LX:l≠lb:=(aq He hl).symm
 have lv':IJ.length=nodes.length:=by have:=r1.length;simpa using this
 refine Jt (K:=C.K) (k1:=.T) (k2:=.L) (a:=aS) (b:=l) (xs:=us) (ys:=IJ) (by omega) (λj σ Hj=>∃y7 y8 LB,σ=[some (.ref wl),some (.ref fS),some vs,some (.ref da),some (.ref la),some (.ref lb),some vn,y7,y8]/\FI C cn cs wl da lb H0 F1 Hj LB/\mC cn io so ro node ((S.zip nodes).drop j) LB=some out/\(∀x o,H1 x=some o->gM o=false->Hj x=some o)/\∀x o,H1 x=some o->x≠da->x≠lb->Hj x=some o)
  ⟨x7,x8,_,rfl,I1,h,λ_ _ e _=>e,λ_ _ e _ _=>e⟩ (λj σ Hj _ ⟨y7,y8,LB,_,Ij,_,_,kj⟩=>⟨kW QU,Bz.of (kj _ _ QO nld LX)⟩) (λj x y σ Hj hx hy ⟨y7,y8,LB,e,Ij,hj,mj,kj⟩ t ht=>?_) (fun σ Hj ⟨y7,y8,LB,e,Ij,hj,mj,kj⟩=>?_)
 ·subst e
  have XZ:j < us.length:=(ai.mp hx).1
  have hs:S[j]?=some (S[j]'(by omega)):=af (by omega)
  have hn:nodes[j]?=some (nodes[j]'(by omega)):=af (by omega)
  have EK:(S.zip nodes).drop j=(S[j]'(by omega),nodes[j]'(by omega))::(S.zip nodes).drop (j+1):=by
   rw[bX (by simp;omega)]
   simp
  generalize S[j]'(by omega)=sd at hs EK
  generalize nodes[j]'(by omega)=rc at hn EK
  rw[EK] at hj
  obtain⟨o,ho,hj⟩:=ag.mp (show ((mz cn io so ro node (sd,rc) LB).bind _)=_ from hj)
  have s1:=aL ht (.tup [x,y])
  refine⟨t,[x,y],rfl,Co.of az,rfl,x,[y],rfl,?_⟩
  refine⟨y,[],rfl,rfl,?_⟩
  have rd:Rep C (λ_=>False) (upd Hj t (.tup [x,y])) x sd:=by
   obtain⟨p,e,r⟩:=(UG (λ_=>False) (upd Hj t (.tup [x,y]))).get' hx
   rw[hs] at e
   cases e
   exact r
  have rr:Rep C (λ_=>False) (upd Hj t (.tup [x,y])) y (B5 rc):=by
   obtain⟨p,e,r⟩:=r1.get' hy
   rw[cp,hn] at e
   cases e
   exact((Rx r).ex (jZ (F:=λ_=>False) mj)).ex (.of_same s1)
  have rn':Rep C (λ_=>False) (upd Hj t (.tup [x,y])) vn (B5 node):=((rn.ex (jZ (F:=λ_=>False) λx o e m=>k1.tup I.W e m)).ex (jZ (F:=λ_=>False) mj)).ex (.of_same s1)
  refine JK (Ij.same s1) rn' rd rr ho (λH' BU e I' m' k'=>?_) (λH' v p e kp rp=>?_)
  ·subst e
   exact⟨some x,some y,BU,rfl,I',hj,λz o e m=>m' z o (s1 z o (mj z o e m)) m,λz o e n1 n2=>k' z o (s1 z o (kj z o e n1 n2)) n1 n2⟩
  ·subst e
   cases hj
   exact q2 H' v p rfl kp rp
 ·subst e
  have EK:(S.zip nodes).drop us.length=[]:=by rw[eT];simp;omega
  rw[EK] at hj
  cases hj
  refine q1 Hj F1 LB y7 y8 rfl Ij (λx o e m=>mj x o (k1.tup I.W e m) m) λx xs e n1 n2=>?_
  exact kj x _ (k1.lst I.W e n1) (λz=>by rw[z,D7] at e;cases e) n2
def Qp (C:MC)(cn:Nat)(pb:List PV->Option PV)(S:List PV)(io so ro:List PV->Option PV)(fS aS:Addr):TS:=vM (yf C.K (aH 4)) (aX 6) (Aa C cn pb S io so ro fS aS)
theorem Mu {S:List PV}{fS aS wl da lb:Addr}{H0:Hp}{st:FS}{nv:List V}{vs:V}{x6 x8:Option V}(hS:qz C aS S)(ne:cs≠[])(hz:cs.length<=1000)(T:WT C.K (C.cl cn))(I:FI C cn cs wl da lb H0 F H st)
  (Fs:H la=some (.lst nv)) (WG:AJ C (λ_=>False) H nv (nodes.map B5)) (nla:∀c∈cs,la≠c.lp) (LX:la≠lb) (h:qI pb cn S io so ro nodes st=some out)
  (q1:∀H' F' BU y6 y7 y8,out=.inl BU->FI C cn cs wl da lb H0 F' H' BU->D.nx [some (.ref wl),some (.ref fS),some vs,some (.ref da),some (.ref la),some (.ref lb),y6,y7,y8] H')
  (q2:∀H' v p,out=.inr p->Bi cs H0 H'->Rep C (λb=>H0 b=none) H' v p->D.rt v H'):
  Qp C cn pb S io so ro fS aS D [some (.ref wl),some (.ref fS),some vs,some (.ref da),some (.ref la),some (.ref lb),x6,x7,x8] H:=by
 refine⟨_,rfl,la,rfl,⟨nv,Bz.of Fs⟩,?_⟩
 have ln:nv.length=nodes.length:=by have:=WG.length;simpa using this
 refine HY (K:=C.K) (a:=la) (xs:=nv) (λj σ Hj=>∃y6 y7 y8 LB Fj,σ=[some (.ref wl),some (.ref fS),some vs,some (.ref da),some (.ref la),some (.ref lb),y6,y7,y8]/\FI C cn cs wl da lb H0 Fj Hj LB/\qI pb cn S io so ro (nodes.drop j) LB=some out/\(∀x o,H x=some o->gM o=false->Hj x=some o)/\Hj la=some (.lst nv))
  ⟨x6,x7,x8,st,F,rfl,I,h,λ_ _ e _=>e,Fs⟩ (λj σ Hj _ ⟨_,_,_,_,_,_,_,_,_,e⟩=>Bz.of e) (λj x σ Hj hx ⟨y6,y7,y8,LB,Fj,e,Ij,hj,mj,laj⟩=>?_) (fun σ Hj ⟨y6,y7,y8,LB,Fj,e,Ij,hj,mj,laj⟩=>?_)
 ·subst e
  have XZ:j < nv.length:=(ai.mp hx).1
  have hn:nodes[j]?=some (nodes[j]'(by omega)):=af (by omega)
  have EK:nodes.drop j=nodes[j]'(by omega)::nodes.drop (j+1):=bX (by omega)
  generalize nodes[j]'(by omega)=n at hn EK
  rw[EK] at hj
  obtain⟨⟨nds,ws2⟩,X1,hj⟩:=ag.mp (show ((Vn pb cn S LB.ws n).bind _)=_ from hj)
  obtain⟨o,ho,hj⟩:=ag.mp hj
  have rn:Rep C (λ_=>False) Hj x (B5 n):=by
   obtain⟨p,e,r⟩:=WG.get' hx
   rw[cp,hn] at e
   cases e
   exact r.ex (jZ mj)
  refine Hg hS ne hz T Ij rn X1 ho (λH' F' BU z7 z8 e I' m' k'=>?_) (λH' v p e kp rp=>?_)
  ·subst e
   exact⟨some x,z7,z8,BU,F',rfl,I',hj,λy o e m=>m' y o (mj y o e m) m,k' la nv laj nla LX⟩
  ·subst e
   cases hj
   exact q2 H' v p rfl kp rp
 ·subst e
  have EK:nodes.drop nv.length=[]:=by rw[eT];omega
  rw[EK] at hj
  cases hj
  exact q1 Hj Fj LB y6 y7 y8 rfl Ij
theorem FI.fresh {wl da lb:Addr}{H0:Hp}{st:FS}(I:FI C cn cs wl da la H0 F H st)(hb:H lb=none):FI C cn cs wl da lb H0 F (upd H lb (.lst [])) { st with later:=[] }:=by
 have s:=aL hb (.lst [])
 obtain⟨kd,D7,RA⟩:=I.D7
 exact⟨I.W.same s,s _ _ I.EJ,⟨kd,s _ _ D7,RA.ex (.of_same s)⟩,⟨[],az,.nil⟩,λb f=>(let ⟨o,e⟩:=I.dm b f;⟨o,s b o e⟩),⟨I.nF.1,I.nF.2.1,λf=>by obtain⟨o,e⟩:=I.dm lb f;rw[hb] at e;cases e⟩,I.GI,I.Rl,I.W.nc hb,aq I.EJ hb,⟨I.new.1,I.kp.Vl I.W hb⟩,λx o e n=>s x o (I.kp x o e n)⟩
def tWh (C:MC)(cn:Nat)(pb:List PV->Option PV)(S:List PV)(io so ro:List PV->Option PV)(fS aS:Addr):TS:=
 FN (tB (tGt (L4 (zR C.K) (aO (aH 4) bw)) (tC (.int 0)))) (cA (gA (vN bw) (aX 5)) (cA (Qp C cn pb S io so ro fS aS) (gA (aH 5) (aX 4))))
theorem Qq {S:List PV}{fS aS wl da:Addr}{H0:Hp}{st:FS}{vs:V}{x5 x6 x8:Option V}{out:PV}{fuel:Nat}(hS:qz C aS S)(ne:cs≠[])(hz:cs.length<=1000)(T:WT C.K (C.cl cn))(I:FI C cn cs wl da la H0 F H st)(h:tU pb cn S io so ro fuel st.later st=some out)
  (q1:∀ σ H',out=.AO->Bi cs H0 H'->D.nx σ H')
  (q2:∀H' v,Bi cs H0 H'->Rep C (λb=>H0 b=none) H' v out->D.rt v H'):
  tWh C cn pb S io so ro fS aS D [some (.ref wl),some (.ref fS),some vs,some (.ref da),some (.ref la),x5,x6,x7,x8] H:=by
 refine⟨λm σ H=>∃la x5 x6 x7 x8 F st,σ=[some (.ref wl),some (.ref fS),some vs,some (.ref da),some (.ref la),x5,x6,x7,x8]/\FI C cn cs wl da la H0 F H st/\tU pb cn S io so ro m st.later st=some out,⟨fuel,la,x5,x6,x7,x8,F,st,rfl,I,h⟩,?_⟩
 rintro m σ H ⟨la,x5,x6,x7,x8,F,st,rfl,I,h⟩
 obtain⟨nv,Fs,WG⟩:=I.He
 have ln:nv.length=st.later.length:=by have:=WG.length;simpa using this
 cases m with
 | zero=>cases h
 | succ f=>
  refine⟨_,rfl,la,nv,rfl,.inl (Bz.of Fs),_,_,rfl,rfl,_,rfl,?_⟩
  cases hl:st.later with
  | nil=>
   rw[hl] at h ln
   cases h
   have e:decide ((0:Int) < (nv.length:Nat))=false:=by rw[ln];rfl
   exact(ax (λx=>ba (e.symm.trans x))).mpr (q1 _ H rfl I.kp)
  | cons n ns=>
   rw[hl] at h ln
   have e:decide ((0:Int) < (nv.length:Nat))=true:=by
    have:nv.length=ns.length+1:=ln
    exact hV (by omega)
   refine(bd e).mpr ?_
   obtain⟨o,ho,h⟩:=ag.mp (show ((qI pb cn S io so ro (n::ns) { st with later:=[] }).bind _)=_ from h)
   refine⟨fun σ H=>∃la x5 x6 x7 x8 F st,σ=[some (.ref wl),some (.ref fS),some vs,some (.ref da),some (.ref la),x5,x6,x7,x8]/\FI C cn cs wl da la H0 F H st/\tU pb cn S io so ro f st.later st=some out,fun σ' H' p=>⟨f,g0 _,p⟩,?_⟩
   refine⟨ce _,λlb hb=>?_⟩
   have s:=aL hb (.lst [])
   have I2:=I.fresh hb
   refine Mu hS ne hz T I2 (s _ _ Fs) ((show AJ C (λ_=>False) H nv ((n::ns).map B5) from by rw[← hl];exact WG).ex (.of_same s)) (λc hc=>(I.LX c hc).2.2.1) (aq Fs hb) ho (λH' F' BU y6 y7 y8 e I'=>?_) (λH' v p e kp rp=>?_)
   ·subst e
    exact⟨_,rfl,lb,some (.ref lb),y6,y7,y8,F',BU,rfl,I',h⟩
   ·subst e
    cases h
    exact q2 H' v kp rp
def Ab (K:W.Frag):TE:=MA Kw (yO (aO (tC (.int 0)) bw)) (L4 (zR K) (aO (aH 0) bw))
theorem Hh {K:W.Frag}{wl:Addr}{ls:List V}{rest:List (Option V)}{Q:VK}(EJ:H wl=some (.lst ls))(Vt:ls.length=1\/ls.length=2)(q:∀H1 a,AK H H1->H1 a=some (.tup (List.replicate ls.length (V.int 0)))->Q (.ref a) H1):Ab K (some (.ref wl)::rest) H Q:=by
 unfold Ab
 refine⟨by show (1:Nat)<=sizeLine;decide,λp hp=>?_⟩
 have s:=aL hp (.tup [V.int 0])
 refine⟨_,rfl,wl,ls,rfl,.inl (Bz.of (s _ _ EJ)),p,_,rfl,az,?_⟩
 rcases Vt with e | e
 ·rw[e] at q
  exact .inl ⟨by rw[e];rfl,q _ p s az⟩
 ·rw[e] at q
  exact .inr ⟨by rw[e];rfl,λl hl=>q _ l (s.trans (aL hl _)) az⟩
def Zy (C:MC)(cn:Nat)(pb:List PV->Option PV)(S:List PV)(io so ro:List PV->Option PV)(fS aS:Addr):TS:=
 cA (gA (Ab C.K) (aX 2)) (cA (gA (Eo C.K (aH 2) (tC .AO)) (aX 3)) (cA (gA (vN (aO (aH 2) bw)) (aX 4)) (cA (tWh C cn pb S io so ro fS aS) (iU (tC .AO)))))
def Qs (C:MC)(cn:Nat)(pb:List PV->Option PV)(S:List PV)(io so ro:List PV->Option PV)(fS:Addr):Sp:=λvs H Q _=>∃F cs ws out wl,vs=[.ref wl,.ref fS]/\(cs.length=1\/cs.length=2)/\WT C.K (C.cl cn)/\EX C cn F H cs ws/\H wl=some (.lst (cs.map λc=>V.ref c.a))/\¬ F wl/\(∀c∈cs,wl≠c.lp)/\Vs pb cn S io so ro ws=some out /\
 ∀H' v,Bi cs H H'->Rep C (λb=>H b=none) H' v out->Q v H'
theorem Qt {S:List PV}{fS aS:Addr}{vs:List V}{Q:VK}{E:XK}(hS:qz C aS S)(h:Qs C cn pb S io so ro fS vs H Q E):Zy C cn pb S io so ro fS aS { nx:=λ_ H'=>Q .AO H',rt:=Q } (L2.start ["walks","is_sought","start","ways","nodes","later","node","said","reached"] vs) H:=by
 obtain⟨F,cs,ws,out,wl,rfl,Vt,T,W,EJ,nwF,GI,hf,q⟩:=h
 have ne:cs≠[]:=by rintro rfl;rcases Vt with e | e <;> cases e
 have hz:cs.length<=1000:=by rcases Vt with e | e <;> omega
 have lw:=W.len
 obtain⟨c0,Tb⟩:=kf _ ne
 obtain⟨i0,UQ⟩:=ef.mp Tb
 have dm:∀b,F b->∃o,H b=some o:=(W.all i0 c0 _ UQ (af (by rw[← W.len];exact(ai.mp UQ).1))).2.dm
 unfold Zy
 dsimp only [cA,gA,aX]
 refine Hh EJ (by simpa using Vt) λH1 a s1 ha=>?_
 rw[aI,lw] at ha
 have rz:Rep C (λ_=>False) H1 (.ref a) (B5 (List.replicate ws.length 0)):=.tup ha (by
  rw[show List.replicate ws.length (V.int 0)=(List.replicate ws.length (0:Int)).map V.int by simp]
  exact j9 _ _ (λi=>.int i) _)
 obtain⟨b,us,e,hb,rb⟩:=AM.tup (.inl rz)
 cases e
 have ck:CD C.K H1 a (bu (List.replicate ws.length 0)):=hb.key (rb.AU (iB _))
 intro da D7
 have sd:=aL D7 (.dT [])
 refine⟨_,rfl,az,a,_,rfl,ck.keeps λx ys e=>sd _ _ e,?_⟩
 have s3:=sd.over D7 (.dT [(bu (List.replicate ws.length 0),V.AO)])
 refine⟨_,rfl,by show (1:Nat)<=sizeLine;decide,λla Fs=>?_⟩
 have s4:=aL Fs (.lst [.ref a])
 have s14:=s3.trans s4
 have RF:=s1.trans s14
 have UR:H da=none:=by
  cases e:H da with
  | none=>rfl
  | some o=>rw[s1 _ _ e] at D7;cases D7
 have FH:H1 la=none:=by
  cases e:H1 la with
  | none=>rfl
  | some o=>rw[s3 _ _ e] at Fs;cases Fs
 have RH:H la=none:=by
  cases e:H la with
  | none=>rfl
  | some o=>rw[s1 _ _ e] at FH;cases FH
 have WD:da≠la:=aq az Fs
 have nf:∀x,H x=none->¬ F x:=λx e f=>by obtain⟨o,z⟩:=dm x f;rw[e] at z;cases z
 refine Qq (H0:=H) (F:=F) (st:={ ws:=ws,A0:=[(bu (List.replicate ws.length 0),.AO)],later:=[List.replicate ws.length 0] }) (fuel:=1000) (out:=out) hS ne hz T
  ⟨W.same RF,RF _ _ EJ,⟨_,s4 _ _ az,.cons .AO .nil⟩,⟨_,az,.cons (rz.ex (.of_same s14)) .nil⟩,λb f=>(let ⟨o,e⟩:=dm b f;⟨o,RF b o e⟩),⟨nwF,nf _ UR,nf _ RH⟩,GI,W.nc UR,W.nc RH,aq EJ RH,⟨UR,RH⟩,λx o e _=>RF x o e⟩ hf
  (fun σ H' e kp=>?_) (λH' v kp r=>q H' v kp r)
 subst e
 exact q H' .AO kp .AO
def JL (mg:Str->Option Value)(x:Str)(C:MC)(cn:Nat)(pb:List PV->Option PV)(S:List PV)(io so ro:List PV->Option PV):Sp:=λvs H Q E=>∃fS,mg x=some (.ref fS)/\Qs C cn pb S io so ro fS vs H Q E
section
variable {X:Cx}
theorem rF {Cl:Addr}{k j:Nat}{o e:Expr}{es:qB}{ta:TE}{t:TA}{x:Str}{ps:qE}{sp:Sp}{apos pos:Pos}(cM:ES X.prog X.w X.K X.mg X.base Cl k x ps sp)(hc:JA X.K Cl)(hr:A7 j X.A)(ho:PE X o ta)(ha:PA X (e::es) t)(hle:k<=j:=by decide)
  (D5:starEach (e::es) X.env=(false,eval e X.env)::starEach es X.env:=by rfl) (BO:(backTo pos (starEach es X.env)).any (·.1)=false:=by rfl){pl:Sem Bool}
  (ht:eval (.Call (.Attribute o x apos) (e::es) [] pos) X.env=(do
   let ov ← eval o X.env
   standAt apos.atName
   let (f,first) ← holding [ov] (getMethod ov x pl)
   callWith pos f first (backTo pos (starEach (e::es) X.env)) (backToKw pos (keywordEach [] X.env))):=by rfl):
  PE X (.Call (.Attribute o x apos) (e::es) [] pos) (jU Cl x sp [] E0 ta t):=by
 obtain⟨f,fd,F,hb,hM⟩:=cM.ex
 exact Cj (pl:=pl) ho hc hM F (hr.mono hle) hb .nil uD ha D5 BO ht
theorem Mv {k j i:Nat}{fS:Addr}{x y:Str}{ps:qE}{sp:Sp}{p pos:Pos}{e:Expr}{es:qB}{t:TA}(c:OS X.prog X.w X.K X.mg X.base k y ps sp)(hm:X.mg y=some (.ref fS))(hr:A7 j X.A)(ha:PA X (e::es) t)(hle:k<=j:=by decide)
  (hN:X.N[i]?=some x:=by rfl) (hv:Mc X.env.scope x:=by first | exact ff rfl | exact fz (ff rfl) | exact fz (fz rfl)) (hd:(x == ("__debug__" : Str))=false:=by decide) (EI:(x == ("__classdict__" : Str))=false:=by decide)
  (he:starEach (e::es) X.env=(false,eval e X.env)::starEach es X.env:=by rfl) (BO:(backTo pos (starEach es X.env)).any (·.1)=false:=by rfl):PE X (.Call (.Name x p) (e::es) [] pos) (uV i fS sp t):=by
 obtain⟨f,fd,F,hb,kp,hm'⟩:=c.ex
 rw[hm] at hm'
 cases hm'
 exact Jv F (hr.mono hle) kp hb ha hN hv hd EI he BO
end
noncomputable def US (wl ra ro es:List PV->Option PV)(st p:PV)(most:Int):Option WS:=
 (wl [p]).bind λc=>(ra [c]).bind λa=>match a with
  | .dT B3=>(es [c]).bind λs=>(ro [c,s]).bind λe=>(ro [c,st]).bind λr0=>(AU [.tup [r0,.int 1]]).bind λk=>
    some { B3:=B3,most:=most,fin:=e,C0:=[.tup [.tup [r0,.int 1]]],nums:=[(k,.int 0)],EH:=[] }
  | _=>none
def wz (C:MC)(cn:Nat)(wl ra ro es:List PV->Option PV)(st:PV):Sp:=λvs H Q _=>∃A p most w x dx vm,vs=[.ref x,vm,.int most]/\WT C.K (C.cl cn)/\H x=some (.ins (C.cl cn) dx [])/\¬ A x/\Rep C A H vm p/\US wl ra ro es st p most=some w /\
 ∀H' F c,(∀a o,a≠x->H a=some o->H' a=some o)->c.n=cn->c.a=x->(H c.ah=none/\H c.lp=none/\H c.ln=none/\H c.lo=none)->(∀b,F b->(A b\/H b=none)/\b≠x)->WR C F H' c w->Q .AO H'
def Zz (C:MC)(wl ra ro es:List PV->Option PV)(aT:Addr):TS:=
 cA (gA (fM (DZ C wl false) [] E0 (aO (aH 1) bw)) (aX 3))
  (cA (p_ C.K (aH 0) (fM (DZ C ra true) [] E0 (aO (aH 3) bw)) "ahead")
  (cA (p_ C.K (aH 0) (aH 2) "most")
  (cA (p_ C.K (aH 0) (fM (DZ C ro false) [] E0 (aO (aH 3) (aO (fM (DZ C es false) [] E0 (aO (aH 3) bw)) bw))) "end")
  (cA (p_ C.K (aH 0) (vN (aO (yO (aO (yO (aO (fM (DZ C ro false) [] E0 (aO (aH 3) (aO (tC (.ref aT)) bw))) (aO (tC (.int 1)) bw))) bw)) bw)) "places")
  (cA (p_ C.K (aH 0) (Eo C.K (MA (vQ C.K) (iY C.K (aH 0) "places") (tC (.int 0))) (tC (.int 0))) "numbers")
  (p_ C.K (aH 0) yZ "onward"))))))
theorem uZ {A':Addr->Prop}{H':Hp}{x Cl dx:Addr}{fs:List (Str×V)}(hx:H x=some (.ins Cl dx fs))(nA:¬ A x)(off:∀a o,a≠x->H a=some o->H' a=some o)(sub:∀a o,H a=some o->A a->A' a):Ex A H A' H':=λa o e=>
 ⟨λq=>⟨off a o (λz=>nA (z▸q)) e,sub a o e q⟩,λm=>off a o (λz=>by rw[z,hx] at e;cases e;cases m) e⟩
theorem Qu {wl ra es:List PV->Option PV}{st:PV}{aT:Addr}{vs:List V}{Q:VK}{E:XK}(hT:∀B H,Rep C B H (.ref aT) st)(h:wz C cn wl ra ro es st vs H Q E):Zz C wl ra ro es aT { nx:=λ_ H'=>Q .AO H',rt:=Q } (L2.start ["self","metre","most","closed"] vs) H:=by
 obtain⟨A,p,most,w,x,dx,vm,rfl,T,hx,nA,rm,hw,q⟩:=h
 obtain⟨c,hc,hw⟩:=ag.mp hw
 obtain⟨a,ha,hw⟩:=ag.mp hw
 cases a <;> first | (cases hw;done) | skip
 rename_i B3
 obtain⟨s,hs,hw⟩:=ag.mp hw
 obtain⟨e,he,hw⟩:=ag.mp hw
 obtain⟨r0,hr0,hw⟩:=ag.mp hw
 obtain⟨k,hk,hw⟩:=ag.mp hw
 cases hw
 unfold Zz
 dsimp only [cA,gA,aX,p_]
 refine⟨_,rfl,A,[p],c,.cons rm .nil,hc,λvc H1 s1 rc=>?_⟩
 have rc:Rep C (λa=>(A a\/H a=none)/\∃o,H1 a=some o) H1 vc c:=Rep.ex (aV λa o e q=>⟨q,o,e⟩) rc
 generalize hA1:(λa=>(A a\/H a=none)/\∃o,H1 a=some o)=A1 at rc
 have WH:¬ A1 x:=by rw[← hA1];rintro ⟨z | z,_⟩;exact nA z;rw[hx] at z;cases z
 have U9:=s1 _ _ hx
 refine⟨_,rfl,A1,[c],.dT B3,.cons rc .nil,ha,?_⟩
 rintro _ H2 s2 ⟨ah,rfl,hah,kv,UJ,rkv⟩
 have L6:=s2 _ _ U9
 refine⟨_,rfl,x,_,dx,_,rfl,L6,T.cl,T.QP,by decide,?_⟩
 have ZC:upd H2 x (.ins (C.cl cn) dx (bY "ahead" (.ref ah) [])) x=some (.ins (C.cl cn) dx [("ahead",.ref ah)]):=az
 have NC:∀a o,a≠x->H2 a=some o->upd H2 x (.ins (C.cl cn) dx (bY "ahead" (.ref ah) [])) a=some o:=λa o n e=>by rw[ao n];exact e
 generalize upd H2 x (.ins (C.cl cn) dx (bY "ahead" (.ref ah) []))=H3 at ZC NC ⊢
 refine⟨_,rfl,_,rfl,x,_,dx,_,rfl,ZC,T.cl,T.UE,by show (1:Nat) < 1000;decide,?_⟩
 have OZ:upd H3 x (.ins (C.cl cn) dx (bY "most" (.int most) [("ahead",.ref ah)])) x=some (.ins (C.cl cn) dx [("ahead",.ref ah),("most",.int most)]):=az
 have ND:∀a o,a≠x->H3 a=some o->upd H3 x (.ins (C.cl cn) dx (bY "most" (.int most) [("ahead",.ref ah)])) a=some o:=λa o n e=>by rw[ao n];exact e
 generalize upd H3 x (.ins (C.cl cn) dx (bY "most" (.int most) [("ahead",.ref ah)]))=H4 at OZ ND ⊢
 have WJ:∀a o,a≠x->H1 a=some o->H4 a=some o:=λa o n e=>ND a o n (NC a o n (s2 a o e))
 have ZD:Rep C A1 H4 vc c:=rc.ex (uZ U9 WH WJ λa o _ z=>z)
 refine⟨_,rfl,_,rfl,A1,[c],s,.cons ZD .nil,hs,λv5 H5 s5 r5=>?_⟩
 have r5:Rep C (λa=>A1 a\/H4 a=none) H5 v5 s:=r5
 refine⟨λa=>A1 a\/H4 a=none,[c,s],e,.cons (ZD.ex ((Ex.of_same s5).trans (aV λa o _ z=>.inl z))) (.cons r5 .nil),he,λve H6 s6 r6=>?_⟩
 have r6:Rep C (λa=>(A1 a\/H4 a=none)\/H5 a=none) H6 ve e:=r6
 have hx6:=s6 _ _ (s5 _ _ OZ)
 refine⟨_,rfl,x,_,dx,_,rfl,hx6,T.cl,T.Wm,by show (2:Nat) < 1000;decide,?_⟩
 have WK:upd H6 x (.ins (C.cl cn) dx (bY "end" ve [("ahead",.ref ah),("most",.int most)])) x=some (.ins (C.cl cn) dx [("ahead",.ref ah),("most",.int most),("end",ve)]):=az
 have RI:∀a o,a≠x->H6 a=some o->upd H6 x (.ins (C.cl cn) dx (bY "end" ve [("ahead",.ref ah),("most",.int most)])) a=some o:=λa o n e=>by rw[ao n];exact e
 generalize upd H6 x (.ins (C.cl cn) dx (bY "end" ve [("ahead",.ref ah),("most",.int most)]))=H7 at WK RI ⊢
 have LD:∀a o,a≠x->H4 a=some o->H7 a=some o:=λa o n e=>RI a o n (s6 a o (s5 a o e))
 have rc7:Rep C A1 H7 vc c:=ZD.ex (uZ OZ WH LD λa o _ z=>z)
 refine⟨_,rfl,A1,[c,st],r0,.cons rc7 (.cons (hT _ _) .nil),hr0,λv0 H8 s8 r8=>?_⟩
 have r8:Rep C (λa=>A1 a\/H7 a=none) H8 v0 r0:=r8
 refine⟨by show (2:Nat)<=sizeLine;decide,λt1 Vo=>⟨by show (1:Nat)<=sizeLine;decide,λt2 UB=>⟨by show (1:Nat)<=sizeLine;decide,λlp Lv=>?_⟩⟩⟩
 have s9:=aL Vo (.tup [v0,.int 1])
 have X2:=aL UB (.tup [.ref t1])
 have X3:=aL Lv (.lst [.ref t2])
 have IS:=X3 _ _ (X2 _ _ (s9 _ _ (s8 _ _ WK)))
 refine⟨_,rfl,x,_,dx,_,rfl,IS,T.cl,T.EB,by show (3:Nat) < 1000;decide,?_⟩
 have Vt:t1≠t2:=aq az UB
 have NF:upd (upd (upd H8 t1 (.tup [v0,.int 1])) t2 (.tup [.ref t1])) lp (.lst [.ref t2]) lp=some (.lst [.ref t2]):=az
 have IT:upd (upd (upd H8 t1 (.tup [v0,.int 1])) t2 (.tup [.ref t1])) lp (.lst [.ref t2]) t2=some (.tup [.ref t1]):=X3 _ _ az
 have IU:upd (upd (upd H8 t1 (.tup [v0,.int 1])) t2 (.tup [.ref t1])) lp (.lst [.ref t2]) t1=some (.tup [v0,.int 1]):=X3 _ _ (X2 _ _ az)
 have WL:AK H8 (upd (upd (upd H8 t1 (.tup [v0,.int 1])) t2 (.tup [.ref t1])) lp (.lst [.ref t2])):=(s9.trans X2).trans X3
 have ZE:H8 lp=none:=(s9.trans X2).free Lv
 have ht18:=Vo
 have ht28:H8 t2=none:=s9.free UB
 generalize upd (upd (upd H8 t1 (.tup [v0,.int 1])) t2 (.tup [.ref t1])) lp (.lst [.ref t2])=X4 at NF IT IU WL IS ⊢
 have UT:upd X4 x (.ins (C.cl cn) dx (bY "places" (.ref lp) [("ahead",.ref ah),("most",.int most),("end",ve)])) x=some (.ins (C.cl cn) dx [("ahead",.ref ah),("most",.int most),("end",ve),("places",.ref lp)]):=az
 have E5:∀a o,a≠x->X4 a=some o->upd X4 x (.ins (C.cl cn) dx (bY "places" (.ref lp) [("ahead",.ref ah),("most",.int most),("end",ve)])) a=some o:=λa o n e=>by rw[ao n];exact e
 generalize upd X4 x (.ins (C.cl cn) dx (bY "places" (.ref lp) [("ahead",.ref ah),("most",.int most),("end",ve)]))=To at UT E5 ⊢
 have Ts:lp≠x:=λz=>by rw[z] at NF;rw[NF] at IS;cases IS
 have ZF:t1≠x:=λz=>by rw[z] at IU;rw[IU] at IS;cases IS
 have ZG:t2≠x:=λz=>by rw[z] at IT;rw[IT] at IS;cases IS
 have FL:∀a o,a≠x->H8 a=some o->To a=some o:=λa o n e=>E5 a o n (WL a o e)
 have hx8:=s8 _ _ WK
 have nB8:¬ (A1 x\/H7 x=none):=λz=>z.elim WH λz=>by rw[WK] at z;cases z
 have r12:Rep C (λa=>A1 a\/H7 a=none) To v0 r0:=r8.ex (uZ hx8 nB8 FL λa o _ z=>z)
 have ZH:Rep C (λa=>A1 a\/H7 a=none) To (.ref t2) (.tup [.tup [r0,.int 1]]):=.tup (E5 _ _ ZG IT) (.cons (.tup (E5 _ _ ZF IU) (.cons r12 (.cons (.int 1) .nil))) .nil)
 intro ln Kt
 have sn:=aL Kt (.dT [])
 refine⟨_,rfl,x,_,dx,_,.ref lp,rfl,sn _ _ UT,T.cl,T.EB,rfl,lp,[.ref t2],0,.ref t2,rfl,rfl,Bz.of (sn _ _ (E5 _ _ Ts NF)),rfl,?_⟩
 obtain⟨b,us,eb,hb,rb⟩:=AM.tup (.inl (ZH.ex (.of_same sn)))
 cases eb
 refine⟨az,t2,k,rfl,hb.key (rb.AU hk),?_⟩
 have UU:AK To (upd (upd To ln (.dT [])) ln (.dT [(k,.int 0)])):=sn.over Kt _
 have RO:upd (upd To ln (.dT [])) ln (.dT [(k,.int 0)]) ln=some (.dT [(k,.int 0)]):=az
 generalize upd (upd To ln (.dT [])) ln (.dT [(k,.int 0)])=X5 at UU RO ⊢
 have UW:=UU _ _ UT
 refine⟨_,rfl,x,_,dx,_,rfl,UW,T.cl,T.CU,by show (4:Nat) < 1000;decide,?_⟩
 have WM:upd X5 x (.ins (C.cl cn) dx (bY "numbers" (.ref ln) [("ahead",.ref ah),("most",.int most),("end",ve),("places",.ref lp)])) x=some (.ins (C.cl cn) dx [("ahead",.ref ah),("most",.int most),("end",ve),("places",.ref lp),("numbers",.ref ln)]):=az
 have HA:∀a o,a≠x->X5 a=some o->upd X5 x (.ins (C.cl cn) dx (bY "numbers" (.ref ln) [("ahead",.ref ah),("most",.int most),("end",ve),("places",.ref lp)])) a=some o:=λa o n e=>by rw[ao n];exact e
 generalize upd X5 x (.ins (C.cl cn) dx (bY "numbers" (.ref ln) [("ahead",.ref ah),("most",.int most),("end",ve),("places",.ref lp)]))=X6 at WM HA ⊢
 intro lo Uk
 have ZI:=aL Uk (.dK [])
 have RS:upd X6 lo (.dK []) lo=some (.dK []):=az
 generalize upd X6 lo (.dK [])=X7 at ZI RS ⊢
 have UX:=ZI _ _ WM
 refine⟨_,rfl,x,_,dx,_,rfl,UX,T.cl,T.IP,by show (5:Nat) < 1000;decide,?_⟩
 have WN:upd X7 x (.ins (C.cl cn) dx (bY "onward" (.ref lo) [("ahead",.ref ah),("most",.int most),("end",ve),("places",.ref lp),("numbers",.ref ln)])) x=some (.ins (C.cl cn) dx [("ahead",.ref ah),("most",.int most),("end",ve),("places",.ref lp),("numbers",.ref ln),("onward",.ref lo)]):=az
 have NG:∀a o,a≠x->X7 a=some o->upd X7 x (.ins (C.cl cn) dx (bY "onward" (.ref lo) [("ahead",.ref ah),("most",.int most),("end",ve),("places",.ref lp),("numbers",.ref ln)])) a=some o:=λa o n e=>by rw[ao n];exact e
 generalize upd X7 x (.ins (C.cl cn) dx (bY "onward" (.ref lo) [("ahead",.ref ah),("most",.int most),("end",ve),("places",.ref lp),("numbers",.ref ln)]))=LF at WN NG ⊢
 have Tx:ln≠x:=λz=>by rw[z] at RO;rw[RO] at UW;cases UW
 have LJ:lo≠x:=λz=>by rw[z] at RS;rw[RS] at UX;cases UX
 have WO:ah≠x:=λz=>by rw[z] at UJ;rw[UJ] at L6;cases L6
 have u14:∀a o,a≠x->X6 a=some o->LF a=some o:=λa o n e=>NG a o n (ZI a o e)
 have X8:∀a o,a≠x->To a=some o->LF a=some o:=λa o n e=>u14 a o n (HA a o n (UU a o e))
 have u8:∀a o,a≠x->H8 a=some o->LF a=some o:=λa o n e=>X8 a o n (FL a o n e)
 have u7:∀a o,a≠x->H7 a=some o->LF a=some o:=λa o n e=>u8 a o n (s8 a o e)
 have u6:∀a o,a≠x->H6 a=some o->LF a=some o:=λa o n e=>u7 a o n (RI a o n e)
 have u4:∀a o,a≠x->H4 a=some o->LF a=some o:=λa o n e=>u7 a o n (LD a o n e)
 have u2:∀a o,a≠x->H2 a=some o->LF a=some o:=λa o n e=>u4 a o n (ND a o n (NC a o n e))
 have u1:∀a o,a≠x->H1 a=some o->LF a=some o:=λa o n e=>u2 a o n (s2 a o e)
 have u0:∀a o,a≠x->H a=some o->LF a=some o:=λa o n e=>u1 a o n (s1 a o e)
 have back:∀{G G':Hp}{l:Addr},l≠x->(∀a o,a≠x->G a=some o->G' a=some o)->G' l=none->G l=none:=λ{G G' l} n u e=>by
  cases z:G l with
  | none=>rfl
  | some o=>rw[u l o n z] at e;cases e
 have p8:H8 lp=none:=ZE
 have n8:H8 ln=none:=back Tx FL Kt
 have o14:X6 lo=none:=Uk
 have o8:H8 lo=none:=back LJ (λa o n e=>HA a o n (UU a o (FL a o n e))) o14
 have b8:∀{l:Addr},l≠x->H8 l=none->H7 l=none:=λn e=>back n (λa o _ e=>s8 a o e) e
 have b7:∀{l:Addr},l≠x->H7 l=none->H6 l=none/\H4 l=none:=λn e=>⟨back n RI e,back n LD e⟩
 have b4:∀{l:Addr},l≠x->H4 l=none->H2 l=none:=λn e=>back n (λa o n e=>ND a o n (NC a o n e)) e
 have b1:∀{l:Addr},H1 l=none->H l=none:=λe=>s1.free e
 have a1:∀{l:Addr},A1 l->(A l\/H l=none)/\∃o,H1 l=some o:=λz=>by rw[← hA1] at z;exact z
 have nah:∀{l:Addr},A1 l->l≠ah:=λz e=>by obtain⟨_,o,q⟩:=a1 z;rw[e,hah] at q;cases q
 have WQ:H4 ah=some (.dT kv):=ND _ _ WO (NC _ _ WO UJ)
 have ZJ:H7 ah=some (.dT kv):=LD _ _ WO WQ
 have NH:∀{l:Addr},H4 l=none->(A l\/H l=none)/\l≠ah:=λ{l} z=>by
  have n:l≠x:=λe=>by rw[e,OZ] at z;cases z
  exact⟨.inr (b1 (s2.free (b4 n z))),λe=>by rw[e,WQ] at z;cases z⟩
 have WU:∀{l:Addr},H7 l=none->(A l\/H l=none)/\l≠ah:=λ{l} z=>by
  have n:l≠x:=λe=>by rw[e,WK] at z;cases z
  exact NH (b7 n z).2
 obtain⟨F,hF⟩:∃F:Addr->Prop,F=λb=>(A b\/H b=none)/\b≠x/\b≠ah/\b≠lp/\b≠ln/\b≠lo/\∃o,LF b=some o:=⟨_,rfl⟩
 have ZK:∀{B:Addr->Prop}{G:Hp}{fs:List (Str×V)},G x=some (.ins (C.cl cn) dx fs)->¬ B x->(∀a o,a≠x->G a=some o->LF a=some o)->G lp=none->G ln=none->G lo=none->(∀a,B a->(A a\/H a=none)/\a≠ah)->Ex B G F LF:=λ{B G fs} hg nB u g1 g2 g3 cond=>uZ hg nB u λa o e z=>by
  rw[hF]
  have n:a≠x:=λq=>nB (q▸z)
  exact⟨(cond a z).1,n,(cond a z).2,(λq=>by rw[q,g1] at e;cases e),(λq=>by rw[q,g2] at e;cases e),(λq=>by rw[q,g3] at e;cases e),o,u a o n e⟩
 have p7:=b8 Ts p8
 have n7:=b8 Tx n8
 have o7:=b8 LJ o8
 have x2:=ZK (B:=λc=>(A1 c\/H1 c=none)/\c≠ah) L6 (λz=>z.1.elim WH λq=>by rw[U9] at q;cases q) u2 (b4 Ts (b7 Ts p7).2) (b4 Tx (b7 Tx n7).2) (b4 LJ (b7 LJ o7).2) λa z=>⟨z.1.elim (λq=>(a1 q).1) λq=>.inr (b1 q),z.2⟩
 have x6:=ZK (B:=λa=>(A1 a\/H4 a=none)\/H5 a=none) hx6 (λz=>z.elim (λz=>z.elim WH λq=>by rw[OZ] at q;cases q) λq=>by rw[s5 _ _ OZ] at q;cases q) u6 (b7 Ts p7).1 (b7 Tx n7).1 (b7 LJ o7).1 λa z=>z.elim (λz=>z.elim (λq=>⟨(a1 q).1,nah q⟩) NH) λq=>NH (s5.free q)
 have x8:=ZK (B:=λa=>A1 a\/H7 a=none) hx8 nB8 u8 p8 n8 o8 λa z=>z.elim (λq=>⟨(a1 q).1,nah q⟩) WU
 have r16:Rep C F LF v0 r0:=r8.ex x8
 have z0:∀{l:Addr},l≠x->H7 l=none->H l=none:=λn z=>b1 (s2.free (b4 n (b7 n z).2))
 refine q LF F ⟨cn,x,dx,ah,lp,ln,lo,ve⟩ u0 rfl rfl ⟨b1 hah,z0 Ts p7,z0 Tx n7,z0 LJ o7⟩ (λb f=>by rw[hF] at f;exact⟨f.1,f.2.1⟩) ⟨WN,⟨kv,u2 _ _ WO UJ,rkv.ex x2⟩,r6.ex x6,⟨_,X8 _ _ Ts (E5 _ _ Ts NF),.cons (.tup (X8 _ _ ZG (E5 _ _ ZG IT)) (.cons (.tup (X8 _ _ ZF (E5 _ _ ZF IU)) (.cons r16 (.cons (.int 1) .nil))) .nil)) .nil⟩,⟨_,u14 _ _ Tx (HA _ _ Tx RO),.cons (.int 0) .nil⟩,⟨_,NG _ _ LJ RS,.nil⟩,?_,λb f=>by rw[hF] at f;exact f.2.2.2.2.2.2,?_⟩
 ·exact aq (FL _ _ WO (s8 _ _ ZJ)) Kt
 ·rw[hF]
  exact⟨λf=>f.2.1 rfl,λf=>f.2.2.1 rfl,λf=>f.2.2.2.1 rfl,λf=>f.2.2.2.2.1 rfl,λf=>f.2.2.2.2.2.1 rfl⟩
theorem CJ {X:Cx}{Cl:Addr}{k j:Nat}{x:Str}{ps:qE}{sp:Sp}{p pos:Pos}{e:Expr}{es:qB}{t:TA}(c:Ux X.prog X.w X.K X.mg X.base Cl k x ps sp)(hr:A7 j X.A)(ha:PA X (e::es) t)(hle:k+1<=j:=by decide)(hg:Gl X x:=by rfl)
  (GV:(x == ("__debug__" : Str))=false:=by decide) (he:starEach (e::es) X.env=(false,eval e X.env)::starEach es X.env:=by rfl) (BO:(backTo pos (starEach es X.env)).any (·.1)=false:=by rfl):
  PE X (.Call (.Name x p) (e::es) [] pos) (uw Cl sp [] E0 t):=by
 obtain⟨f,fd,F,hb,M,hm⟩:=c.ex
 exact K6 M F (hr.mono hle) hg hm hb .nil uD ha GV he BO
theorem Hk {wl ra es:List PV->Option PV}{st p:PV}{most:Int}{w:WS}{v:V}{R:Addr->Hp->Prop}{E:XK}(T:WT C.K (C.cl cn))(dA:∀a,A a->∃o,H a=some o)(r:Rep C A H v p)(hw:US wl ra ro es st p most=some w)
  (q:∀H' F c,AK H H'->c.n=cn->(H c.a=none/\H c.ah=none/\H c.lp=none/\H c.ln=none/\H c.lo=none)->(∀b,F b->A b\/H b=none)->WR C F H' c w->R c.a H'):
  ∀x dx,H x=none->H dx=none->dx≠x->wz C cn wl ra ro es st (.ref x::([v,.int most]++[])) (upd (upd H dx (.own x)) x (.ins (C.cl cn) dx [])) (λu H2=>u=.AO/\R x H2) E:=by
 intro x dx hx hdx ne
 have s:AK H (upd (upd H dx (.own x)) x (.ins (C.cl cn) dx [])):=λa o h=>by rw[ao (aq h hx),ao (aq h hdx)];exact h
 refine⟨A,p,most,w,x,dx,v,rfl,T,az,(λz=>by obtain⟨o,e⟩:=dA x z;rw[hx] at e;cases e),r.ex (.of_same s),hw,λH' F c off en ea hn hF W=>⟨rfl,?_⟩⟩
 rw[← ea]
 refine q H' F c (λa o e=>off a o (aq e hx) (s a o e)) en ⟨by rw[ea];exact hx,s.free hn.1,s.free hn.2.1,s.free hn.2.2.1,s.free hn.2.2.2⟩ (λb f=>(hF b f).1.imp id λz=>s.free z) W
def New (H:Hp)(c:WC):Prop:=H c.a=none/\H c.ah=none/\H c.lp=none/\H c.ln=none/\H c.lo=none
def Ry (H:Hp)(c:WC):Prop:=(∃o,H c.a=some o)/\(∃o,H c.ah=some o)/\(∃o,H c.lp=some o)/\(∃o,H c.ln=some o)/\∃o,H c.lo=some o
theorem WR.there {c:WC}{w:WS}(W:WR C F H c w):Ry H c:=⟨⟨_,W.ob⟩,(let ⟨_,h,_⟩:=W.ah;⟨_,h⟩),(let ⟨_,h,_⟩:=W.lp;⟨_,h⟩),(let ⟨_,h,_⟩:=W.ln;⟨_,h⟩),(let ⟨_,h,_⟩:=W.lo;⟨_,h⟩)⟩
theorem jy {a b:Addr}(h1:H a=none)(h2:∃o,H b=some o):a≠b:=λz=>by obtain⟨o,e⟩:=h2;rw[← z,h1] at e;cases e
theorem Sw {F1 F2:Addr->Prop}{H0 H2 H3:Hp}{c1 c2:WC}{w1 w2:WS}(dA:∀a,A a->∃o,H0 a=some o)(W1:WR C F1 H2 c1 w1)(W2:WR C F2 H3 c2 w2)(s02:AK H0 H2)(s23:AK H2 H3)(e1:c1.n=cn)(e2:c2.n=cn)(n1:New H0 c1)(n2:New H2 c2)(f2:∀b,F2 b->A b\/H2 b=none):
  EX C cn (λb=>F1 b\/F2 b) H3 [c1,c2] [w1,w2]:=by
 have t1:=W1.there
 have UY:=W1.same s23
 have WV:∀{l:Addr},H0 l=none->(∃o,H2 l=some o)->¬ F2 l:=λ{l} h0 h2 f=>(f2 l f).elim (λz=>by obtain⟨o,e⟩:=dA l z;rw[h0] at e;cases e) λz=>by obtain⟨o,e⟩:=h2;rw[z] at e;cases e
 have WW:∀{l:Addr},H2 l=none->¬ F1 l:=λ{l} h f=>by obtain⟨o,e⟩:=W1.dm l f;rw[h] at e;cases e
 have dm:∀b,(F1 b\/F2 b)->∃o,H3 b=some o:=λb f=>f.elim (λz=>UY.dm b z) λz=>W2.dm b z
 have V1:WR C (λb=>F1 b\/F2 b) H3 c1 w1:=UY.ex (aV λ_ _ _ z=>.inl z) (λ_ _ _ e=>e) dm ⟨λf=>f.elim UY.nF.1 (WV n1.1 t1.1),λf=>f.elim UY.nF.2.1 (WV n1.2.1 t1.2.1),λf=>f.elim UY.nF.2.2.1 (WV n1.2.2.1 t1.2.2.1),λf=>f.elim UY.nF.2.2.2.1 (WV n1.2.2.2.1 t1.2.2.2.1),λf=>f.elim UY.nF.2.2.2.2 (WV n1.2.2.2.2 t1.2.2.2.2)⟩
 have V2:WR C (λb=>F1 b\/F2 b) H3 c2 w2:=W2.ex (aV λ_ _ _ z=>.inr z) (λ_ _ _ e=>e) dm ⟨λf=>f.elim (WW n2.1) W2.nF.1,λf=>f.elim (WW n2.2.1) W2.nF.2.1,λf=>f.elim (WW n2.2.2.1) W2.nF.2.2.1,λf=>f.elim (WW n2.2.2.2.1) W2.nF.2.2.2.1,λf=>f.elim (WW n2.2.2.2.2) W2.nF.2.2.2.2⟩
 refine⟨rfl,λi c w h1 h2=>?_,λi j c d h1 h2 ne=>?_⟩
 ·match i,h1,h2 with
  | 0,h1,h2=>cases h1;cases h2;exact⟨e1,V1⟩
  | 1,h1,h2=>cases h1;cases h2;exact⟨e2,V2⟩
  | i+2,h1,_=>simp at h1
 ·match i,j,h1,h2,ne with
  | 0,0,_,_,ne=>exact absurd rfl ne
  | 1,1,_,_,ne=>exact absurd rfl ne
  | 0,1,h1,h2,_=>cases h1;cases h2;exact⟨jy n2.2.2.1 t1.2.2.1,jy n2.2.2.2.1 t1.2.2.2.1,jy n2.2.2.2.2 t1.2.2.2.2,jy n2.2.1 t1.2.2.2.1⟩
  | 1,0,h1,h2,_=>cases h1;cases h2;exact⟨(jy n2.2.2.1 t1.2.2.1).symm,(jy n2.2.2.2.1 t1.2.2.2.1).symm,(jy n2.2.2.2.2 t1.2.2.2.2).symm,(jy n2.2.2.2.1 t1.2.1).symm⟩
  | i+2,_,h1,_,_=>simp at h1
  | 0,j+2,_,h2,_=>simp at h2
  | 1,j+2,_,h2,_=>simp at h2
noncomputable def JM (cn:Nat)(wl ra rf es pb io so ro:List PV->Option PV)(S:List PV)(st:PV):List PV->Option PV
 | [p,q]=>(US wl ra rf es st p 1).bind λw1=>(US wl ra rf es st q 1).bind λw2=>Vs pb cn S io so ro [w1,w2]
 | _=>none
def ZL (mg:Str->Option Value)(x:Str)(C:MC)(cn:Nat)(wl ra rf es pb io so ro:List PV->Option PV)(S:List PV)(st:PV)(fS:Addr):TS:=
 iU (fM (JL mg x C cn pb S io so ro) [] E0 (aO (vN (aO (uw (C.cl cn) (wz C cn wl ra rf es st) [] E0 (aO (aH 0) (aO (tC (.int 1)) bw))) (aO (uw (C.cl cn) (wz C cn wl ra rf es st) [] E0 (aO (aH 1) (aO (tC (.int 1)) bw))) bw))) (aO (tC (.ref fS)) bw)))
theorem Qv {mg:Str->Option Value}{x:Str}{wl ra rf es:List PV->Option PV}{S:List PV}{st:PV}{fS:Addr}{vs:List V}{Q:VK}{E:XK}(T:WT C.K (C.cl cn))(ZM:mg x=some (.ref fS))(h:DZ C (JM cn wl ra rf es pb io so ro S st) false vs H Q E):
  ZL mg x C cn wl ra rf es pb io so ro S st fS { nx:=λ_ H'=>Q .AO H',rt:=Q } (L2.start ["one","other"] vs) H:=by
 obtain⟨A,ps,out,r,hm,q⟩:=h
 cases r with
 | nil=>cases hm
 | @cons v1 p ps _ r1 r=>cases r with
  | nil=>cases hm
  | @cons v2 q2 ps _ r2 r=>cases r with
   | cons _ _=>cases hm
   | nil=>
    obtain⟨w1,h1,hm⟩:=ag.mp (show ((US wl ra rf es st p 1).bind _)=_ from hm)
    obtain⟨w2,h2,hm⟩:=ag.mp hm
    have dA:∀a,(A a/\∃o,H a=some o)->∃o,H a=some o:=λa z=>z.2
    have x1:Rep C (λa=>A a/\∃o,H a=some o) H v1 p:=r1.ex (aV λa o e z=>⟨z,o,e⟩)
    have x2:Rep C (λa=>A a/\∃o,H a=some o) H v2 q2:=r2.ex (aV λa o e z=>⟨z,o,e⟩)
    unfold ZL
    dsimp only [iU,fM,aO,bw,vN,uw,aH,tC]
    refine⟨_,rfl,Hk T dA x1 h1 λH2 F1 c1 s1 e1 n1 f1 W1=>?_⟩
    refine⟨_,rfl,Hk T (λa z=>(let ⟨o,e⟩:=z.2;⟨o,s1 a o e⟩)) (x2.ex (.of_same s1)) h2 λH3 F2 c2 s2 e2 n2 f2 W2=>?_⟩
    refine⟨by show (2:Nat)<=sizeLine;decide,λwa IA=>?_⟩
    have s3:=aL IA (.lst [.ref c1.a,.ref c2.a])
    have WS2:=(Sw dA W1 W2 s1 s2 e1 e2 n1 n2 f2)
    have t1:=(W1.same s2).there
    have t2:=W2.there
    refine⟨fS,ZM,λb=>F1 b\/F2 b,[c1,c2],[w1,w2],out,wa,rfl,.inr rfl,T,WS2.same s3,az,λf=>?_,λc hc=>?_,hm,λH5 v kp rv=>?_⟩
    ·obtain⟨o,e⟩:=f.elim (λz=>(W1.same s2).dm wa z) λz=>W2.dm wa z
     rw[IA] at e;cases e
    ·simp only[be,cm,gx] at hc
     rcases hc with rfl | rfl
     ·exact jy IA t1.2.2.1
     ·exact jy IA t2.2.2.1
    ·have UU:=(s1.trans s2).trans s3
     refine q v H5 (λa o e=>kp a o (UU a o e) λc hc=>?_) (Rep.ex (aV λa o _ z=>.inr (UU.free z)) rv)
     simp only[be,cm,gx] at hc
     rcases hc with rfl | rfl
     ·exact⟨(aq e n1.2.2.1),(aq e n1.2.2.2.1),(aq e n1.2.2.2.2)⟩
     ·exact⟨(aq e (s1.free n2.2.2.1)),(aq e (s1.free n2.2.2.2.1)),(aq e (s1.free n2.2.2.2.2))⟩
end Lake.MR
namespace Lake.L2
open PySem PySem.Spec PyProof.Rows
noncomputable def mD (x:Str)(n:Nat):Str:=⟨(List.replicate n x.cps).foldl (·++·) #[]⟩
theorem Mw {X:Cx}:Ct X (binaryOp .Mult) (λx y H Q=>∃i n,x=.str i/\y=.int n/\((n=1/\Q (.str i) H)\/(2<=n/\n<=1000/\1<=i.length/\(mD i n.toNat).length<=1000000/\i.length<=1000/\Q (.str (mD i n.toNat)) H))):=by
 intro AF s σ H x y v u Q I rx ry h
 obtain⟨i,n,rfl,rfl,h⟩:=h
 obtain⟨t,rfl⟩:=rx
 obtain⟨t',rfl⟩:=ry
 rcases h with ⟨rfl,q⟩ | ⟨n2,n3,l1,l3,l2,q⟩
 ·refine P.mul_str (by decide) (λ_ z=>by simp at z) (λ_ z=>by simp at z) ?_
  exact⟨.str i,H,I,⟨t,rfl⟩,q⟩
 ·have e1:¬ n < 1:=by omega
  have e2:(n == 1||i.length == 0)=false:=by
   have a:(n == 1)=false:=by rw[eP];omega
   have c:(i.length == 0)=false:=by rw[eP];omega
   rw[a,c];rfl
  refine P.mul_str (by rw[de (by omega),de (by omega)];rfl) (λ_ _=>?_) (λ_ _=>?_) ?_
  ·have:(1000:Int)<=(2 ^ 63 - 1) / n:=by
    refine Int.le_ediv_of_mul_le (by omega) ?_
    have:1000*n<=1000*1000:=by omega
    omega
   omega
  ·have h3:i.length*n.toNat<=1000*1000:=Nat.mul_le_mul l2 (by omega)
   have:(1000*1000:Nat)<=sizeLine:=by decide
   unfold Builtin.Str.tooLong
   simp only[oB]
   omega
  ·rw[ax e1,ax (by rw[e2];exact ba)]
   exact⟨gt (bZ l3),.str _,H,I.tok _,⟨_,rfl⟩,q⟩
theorem Mx {X:Cx}:Ct X (compareOp .IsNot) (λx y H Q=>∃c d,x=.bl c/\y=.bl d/\Q (.bl (c != d)) H):=by
 intro AF s σ H x y v u Q I rx ry h
 obtain⟨c,d,rfl,rfl,q⟩:=h
 cases rx
 cases ry
 exact isnot_bool ⟨.bl _,H,I,rfl,q⟩
end Lake.L2
namespace Lake.MR
open PySem L2
@[simp] noncomputable def j0:PV->PV->Option PV
 | .int i,.int j=>if (MY i||MY j)=true then some (.int (i*j)) else none
 | .str x,.int n=>if n=1 then some (.str x) else if 2<=n/\n<=1000/\1<=x.length/\(mD x n.toNat).length<=1000000/\x.length<=1000 then some (.str (mD x n.toNat)) else none
 | _,_=>none
@[simp] noncomputable def rG:PV->PV->Option PV
 | x,.AO=>some (.bl (!sY x))
 | .bl c,.bl d=>some (.bl (c != d))
 | _,_=>none
section
variable {X:Cx}{b:BX}{G:qr}{m m1 m2:Md}{e e1 e2:Expr}{f f1 f2:rg}{pos:Pos}
theorem Mz:F6 b .val (λx y H Q=>rI MB (λi j=>.int (i*j)) x y H Q\/∃i n,x=.str i/\y=.int n/\((n=1/\Q (.str i) H)\/(2<=n/\n<=1000/\1<=i.length/\(mD i n.toNat).length<=1000000/\i.length<=1000/\Q (.str (mD i n.toNat)) H))) j0:=by
 intro Ow H v1 v2 p1 p2 p Q hn r1 r2 e k
 unfold j0 at e
 split at e
 ·rename_i i j
  exact .inl (Gz Ow H v1 v2 (.int i) (.int j) p Q hn r1 r2 e k)
 ·rename_i x n
  refine .inr ⟨x,n,r1.str,r2.int,?_⟩
  split at e
  ·rename_i h1;cases e;exact .inl ⟨h1,k _ H (AK.refl _) (.str _)⟩
  ·split at e
   ·rename_i h2;cases e;exact .inr ⟨h2.1,h2.2.1,h2.2.2.1,h2.2.2.2.1,h2.2.2.2.2,k _ H (AK.refl _) (.str _)⟩
   ·cases e
 ·cases e
theorem MF (h1:SE X b G m1 e1 f1)(h2:SE X b G m2 e2 f2):SE X b G .val (.BinOp e1 .Mult e2 pos) (b2 j0 f1 f2):=oM (Ct.or FW Mw) Mz h1 h2
theorem Hl:F6 b .val (λx y H Q=>(y=.AO/\Q (.bl (!decide (x=.AO))) H)\/∃c d,x=.bl c/\y=.bl d/\Q (.bl (c != d)) H) rG:=by
 intro Ow H v1 v2 p1 p2 p Q hn r1 r2 e k
 unfold rG at e
 split at e
 ·cases e;exact .inl ⟨r2.AO,by rw[r1.OU];exact k _ H (AK.refl _) (.bl _)⟩
 ·cases e;exact .inr ⟨_,_,r1.bl,r2.bl,k _ H (AK.refl _) (.bl _)⟩
 ·cases e
theorem Hm (h1:SE X b G m1 e1 f1)(h2:SE X b G m2 e2 f2):SC X b G .IsNot e1 e2 (b2 rG f1 f2):=lN (Ct.or Ci Mx) Hl h1 h2 (j_ _)
end
end Lake.MR
namespace Lake.L2
open PySem PySem.Spec PyProof.Rows
section
open HT
variable {prog:Program}{w:World}{A:Around}{E:oT}{s:Shared}
theorem pR {t sl:Addr}{items:q5}{vl vu:Value}{lo hi:Option Int}{Q:oT}(ht:IsTup s.heap t items)(hs:s.heap.IsSliceOf sl vl vu .none)(pl:IsPart vl lo)(pu:IsPart vu hi)
  (WX:A4 items.size 0 lo=0) (ZN:A4 items.size items.size hi=items.size) (h:Q (.ref t) s):wpAny (model prog w) A (getItem (.ref t) (.ref sl)) Q E s:=by
 obtain⟨os,Uh,U6,VQ⟩:=id hs
 have Yy:s.TypeIs (.ref sl) "slice" := ⟨os,Uh,U6⟩
 unfold getItem
 try with_reducible refine dQ ?_
 first | refine ab (ae ?_) | skip
 refine ab (nE ht.typeIs (by decide) ?_)
 refine ab (b6 (name:=Str.ofString "__getitem__") ht.typeIs ed
  (ci ed ht.typeIs entry_tuple_getitem ?_ (args_tuple_getitem _ _)))
 show wpAny _ _ (Builtin.Tuple.tupleItemsOf (.ref t) >>= _) _ _ s
 refine ab (tupleItemsOf_ ht ?_)
 refine ab (iN Yy ?_)
 rw[bd (by decide)]
 refine ab (kh hs pl pu ?_)
 have hy:(((A4 items.size 0 lo:Nat):Int) == 0&&(1:Int) == 1&&(A4 items.size items.size hi - A4 items.size 0 lo) == items.size)=true:=by rw[WX,ZN];simp
 show wpAny _ _ (if (((A4 items.size 0 lo:Nat):Int) == 0&&(1:Int) == 1&&(A4 items.size items.size hi - A4 items.size 0 lo) == items.size)=true then _ else _) _ _ s
 rw[bd hy]
 refine ab ?_
 unfold Builtin.Tuple.tupleIsExact
 refine ab (iN ht.typeIs (ae ?_))
 rw[bd (by decide)]
 refine ab (hU ?_)
 exact ae ⟨_,rfl,ae h⟩
end
variable {X:Cx}
def Qw (K:W.Frag):V->Option Int->Option Int->Hp->VK->Prop:=λx lo hi H Q=>∃a xs,x=.ref a/\Co K H a xs/\HT.A4 xs.length 0 lo=0/\HT.A4 xs.length xs.length hi=xs.length/\Q x H
theorem MJ:MM X (Qw X.K):=by
 intro AF s σ H x v vl vu lo hi sl Q I rx hs pl pu h
 obtain⟨a,xs,rfl,hx,WX,ZN,q⟩:=h
 cases rx
 obtain⟨AL,r,ht,hz⟩:=I.tuple hx
 have hlen:AL.toArray.size=xs.length:=by rw[ay];exact r.length.symm
 refine⟨"tuple",_,ed.lookup,ht.typeIs,?_⟩
 exact pR ht hs pl pu (by rw[hlen];exact WX) (by rw[hlen];exact ZN) ⟨.ref a,H,I,rfl,q⟩
end Lake.L2
namespace Lake.MR
open PySem PySem.Spec PyProof.Rows L2
noncomputable def Fb (x:PV)(l h:Option Int):Option PV:=match x with
 | .tup xs=>some (.tup (dR xs l h))
 | _=>none
@[simp] theorem Sx (xs:List PV)(l h:Option Int):Fb (.tup xs) l h=some (.tup (dR xs l h)):=id rfl
noncomputable def j4 (f:rg)(lo hi:Env->Option (Option Int))(env:Env):Option PV:=(f env).bind λx=>(lo env).bind λl=>(hi env).bind λh=>Fb x l h
@[simp] theorem Sy (f:rg)(lo hi:Env->Option (Option Int))(env:Env):j4 f lo hi env=((f env).bind λx=>(lo env).bind λl=>(hi env).bind λh=>Fb x l h):=id rfl
section
variable {X:Cx}{b:BX}{G:qr}{m:Md}{e:Expr}{f:rg}{pos:Pos}
theorem rH {lo hi:Option Expr}{p2:Pos}{fl fh:Env->Option (Option Int)}(h1:SE X b G m e f)(hl:SO X b G lo fl)(hh:SO X b G hi fh)(hK:X.K=b.C.K:=by rfl):SE X b G .val (.Subscript e (.Slice lo hi none p2) pos) (j4 f fl fh):=by
 refine PE.imp (zb (r:=λx lo hi H Q=>Oj b.C.K x lo hi H Q\/Qw b.C.K x lo hi H Q) (by rw[← hK];exact MM.or Ol MJ) h1.bor hl hh) fun σ H Q ⟨Ow,env,p,E,hf,k⟩=>?_
 unfold j4 at hf
 cases q1:f env with
 | none=>rw[q1] at hf;cases hf
 | some p1=>
  rw[q1] at hf
  cases q2:fl env with
  | none=>rw[q2] at hf;cases hf
  | some l=>
   rw[q2] at hf
   cases q3:fh env with
   | none=>rw[q3] at hf;cases hf
   | some h=>
    rw[q3] at hf
    refine⟨Ow,env,p1,E,q1,λv H1 s1 r1=>⟨Ow,env,l,E.up s1,q2,λH2 s2=>⟨Ow,env,h,E.up (s1.trans s2),q3,λH3 s3=>?_⟩⟩⟩
    have Ic:AM b.C (Bs b Ow) H3 v p1:=Res.up (m:=.bor) r1 (s2.trans s3)
    simp only[aE] at hf
    unfold Fb at hf
    split at hf
    ·rename_i xs
     cases hf
     obtain⟨a,vs,rfl,ha,ra⟩:=Ic.tup
     have Kt:=ra.length
     by_cases hw:HT.A4 vs.length 0 l=0/\HT.A4 vs.length vs.length h=vs.length
     ·refine .inr ⟨a,vs,rfl,ha.sq,hw.1,hw.2,?_⟩
      have e:dR xs l h=xs:=by
       unfold dR
       rw[← Kt,hw.1,hw.2,mI,Nat.sub_zero,Kt,ow]
      rw[e] at k
      exact k _ _ (s1.trans (s2.trans s3)) (Res.down (s1.trans (s2.trans s3)) (ha.rep ra))
     ·exact .inl ⟨a,vs,rfl,ha.sq,hw,λq hq=>k _ _ (s1.trans (s2.trans (s3.trans (aL hq _)))) (Res.down (s1.trans (s2.trans s3)) (m6 hq (ra.cut l h)))⟩
    ·cases hf
end
end Lake.MR
namespace Lake.My
open PySem L2 MR
noncomputable def u5:PV:=.ktp [.tup [.str "u",.bl false],.tup [.str "u",.bl true],.tup [.str "-",.bl false],.tup [.str "-",.bl true]]
noncomputable def fY:List PV:=[.tup [.str "u",.bl false],.tup [.str "u",.bl true],.tup [.str "-",.bl false],.tup [.str "-",.bl true]]
noncomputable def gj:PV:=.ktp [.int 0,.int 0,.int 0]
noncomputable def DI:List (String×Bool):=[("bool",true)]
noncomputable def DJ:List (String×Bool):=[("list",true)]
noncomputable def CY:List (String×Bool):=[("tuple",true)]
def bM:=(b2 A9 (bC (.str "u-x")) (b2 dH (b2 ir (bV 1) (b2 A9 (gB (au (AD 4) (au (AD 12) (au (AD 36) (au (AD 108) aQ))))) (bV 0))) (AD 3)))
def fQ:=(bF (b2 uK (bC (.str "")) (lO [none,some 0] (SH (b2 eQ (AD 1) (b2 dH (b2 dH (bV 0) (AD 4)) (AD 3)))) (gN 0) jx bM)))
def cj:=cC 1 1 false fQ
def sE:=(bF (b2 dH (b2 eQ (b2 sX (b2 dH (bV 0) (AD 1000003)) (b2 eQ (AD 48271) (b2 sX (b2 sX (AD 15838) (bV 1)) (bV 1)))) (b2 sX (AD 69621) (bV 1))) (AD 2147483647)))
def fH:=cC 2 2 false sE
def eE:=(aP (bj 3 (bH cj (au (bH fH (au (b2 ir (bV 0) (AD 3)) (AE 2 aQ))) aQ))) (Fn (tV (b2 jJ (bV 3) (bV 1))) (jX tu 1 (bV 3)) Fm))
def qJ:=(aP (bj 1 (gB aQ)) (aP (gC (gN 2) (SH (b2 eQ (AD 1) (b2 dH (bV 0) (AD 3)))) [2,3] eE) (bF (cY (au (b1 qx (bV 1)) (au (b2 eqQ (b2 dH (b2 ir (bV 0) (AD 3)) (AD 5)) (AD 4)) aQ))))))
def iC:=cC 4 1 false qJ
def iD:=(bH iC (au (bH fH (au (b2 ir (bV 1) (bV 2)) (AE 0 aQ))) aQ))
def pQ:=(bF (b1 qx (lO [none,some 0,some 1] (SH (b2 eQ (AD 1) (b2 dH (bV 0) (bV 1)))) (gN 0) jx iD)))
def dM:=cC 2 2 false pQ
def cJ:=(yo Ec 3 (bV 6) (b2 Iz (jd 10 "most" (bV 0)) (b2 eQ (b3 uQ (bV 3) (bV 6) (AD 0)) (bV 5))))
def cL:=(gC (gN 6) (iV (b3 uQ (jd 10 "ahead" (bV 0)) (cY (AE 4 (AE 2 aQ))) (gB aQ))) [6] cJ)
def h_:=(aP (bj 3 (bC (.dT []))) (aP (gC (gT [4,5]) (iV (b2 A9 (jd 10 "places" (bV 0)) (bV 1))) [4,5,6] cL) (bF (b1 qx (b1 zP (bV 3))))))
def aG:=cC 7 3 false h_
def iG:=(bF (b3 uQ (b1 dctP (b2 A9 (jd 10 "places" (bV 0)) (bV 1))) (jd 10 "end" (bV 0)) (AD 0)))
def bz:=cC 2 2 false iG
def eX:=(bF (vW (b2 (jc λi j=>decide (j < i)) (q_ 10 "ways_to_end" bz (b2 A9 (bV 0) (AD 0)) (au (b2 A9 (bV 1) (AD 0)) aQ)) (AD 0)) (b2 eqQ (q_ 10 "ways_to_end" bz (b2 A9 (bV 0) (AD 1)) (au (b2 A9 (bV 1) (AD 1)) aQ)) (AD 0))))
def aR:=cC 2 2 false eX
def lq:=(bF (b2 eqQ (b1 BC (b2 A9 (jd 10 "places" (bV 0)) (bV 1))) (AD 0)))
def bc:=cC 2 2 false lq
def jz:=(aP (jX tu 2 (b2 A9 (b2 A9 (bV 0) (bV 3)) (AD 1))) (bj 3 (b2 A9 (b2 A9 (bV 0) (bV 3)) (AD 0))))
def fJ:=(tV (b2 jG (b2 A9 (bV 0) (bV 3)) (bC .AO)))
def xO:=(aP (bj 2 (gB aQ)) (aP (bj 3 (bV 1)) (aP (zF 1000000 fJ [] jz) (bF (b1 yq (bV 2))))))
def dh:=cC 4 2 false xO
def lu:=(bF (b2 gO (j4 (bV 0) oN (oS (b1 zy (AD 1)))) (cY (au (cY (au (b2 A9 (b2 A9 (bV 0) (b1 zy (AD 1))) (AD 0)) (au (bC (.bl true)) aQ))) aQ))))
def bI:=cC 1 1 false lu
def jf:=(cY (AE 1 (AE 2 (AE 0 aQ))))
def eF:=(jX Ef 1 (lO [none,some 2,some 4] (YS (AD 1) (b1 BC (bV 5))) (gN 0) jx jf))
def jg:=(aP (jX tu 1 (cY (AE 2 (au (AD 0) (au (AD 0) aQ))))) (gC (gT [4,5]) (Wg (b2 A9 (bV 3) (AD 0))) [4,5] eF))
def qK:=(aP (bj 1 (gB aQ)) (aP (gC (gT [2,3]) (Wg (bV 0)) [2,3,4,5] jg) (bF (bV 1))))
def iH:=cC 6 1 false qK
def lA:=(bF (cY (au (b1 BC (bV 0)) (au (AD 0) (au (AD 0) aQ)))))
def bJ:=cC 1 1 false lA
def iI:=(aP (bj 3 (b2 A9 (bV 1) (AD 0))) (aP (bj 4 (b2 eQ (b2 A9 (bV 1) (AD 2)) (AD 1))) (aP (Fn (tV (b2 (jc λi j=>decide (i < j)) (bV 4) (b1 BC (b2 A9 (b2 A9 (b2 A9 (bV 0) (bV 3)) (AD 0)) (b2 A9 (bV 1) (AD 1)))))) (bF (cY (AE 3 (au (b2 A9 (bV 1) (AD 1)) (AE 4 aQ))))) Fm) (aP (Fn (tA (tV (b2 A9 (b2 A9 (bV 0) (bV 3)) (AD 1))) (tN (tV (bV 2)))) (bF (bC .AO)) Fm) (bF (cY (au (b2 eQ (bV 3) (AD 1)) (au (AD 0) (au (AD 0) aQ)))))))))
def dO:=cC 5 3 false iI
def jO:=(bF (Vb (b2 eqQ (bV 0) (bV 1)) (b2 eqQ (bV 0) (bC (.str "x")))))
def fC:=cC 2 2 false jO
def cZ:=(aP (bj 10 (bH dO (AE 0 (au (cY (AE 4 (AE 9 (AE 5 aQ)))) (AE 3 aQ))))) (Fn (tA (tV (b2 jG (bV 10) (bC .AO))) (tV (bH fC (au (b2 A9 (b2 A9 (bV 6) (bV 9)) (bV 5)) (AE 2 aQ))))) (jX tu 8 (cY (AE 9 (AE 10 aQ)))) Fm))
def jA:=(aP (Fn (tV (b2 eqQ (bV 1) (bH bJ (AE 0 aQ)))) (bF (gB aQ)) Fm) (aP (bj 4 (b2 A9 (bV 1) (AD 0))) (aP (bj 5 (b2 A9 (bV 1) (AD 2))) (aP (bj 6 (b2 A9 (b2 A9 (bV 0) (bV 4)) (AD 0))) (aP (bj 7 (V5 (tV (b2 eqQ (bV 5) (AD 0))) (b1 yp (b1 BC (bV 6))) (gB (au (b2 A9 (bV 1) (AD 1)) aQ)))) (aP (bj 8 (gB aQ)) (aP (gC (gN 9) (iV (bV 7)) [9,10] cZ) (bF (bV 8)))))))))
def dW:=cC 11 4 false jA
def j5:=(bF (cY (au (b2 A9 (bV 1) (AD 0)) (au (V5 (tV (b2 (jc λi j=>decide (j < i)) (b2 A9 (bV 1) (AD 2)) (AD 0))) (Vc (b2 A9 (b2 A9 (b2 A9 (bV 0) (b2 A9 (bV 1) (AD 0))) (AD 0)) (b2 A9 (bV 1) (AD 1))) (oS (b2 A9 (bV 1) (AD 2))) oN) (bC (.str ""))) aQ))))
def bN:=cC 2 2 false j5
def gU:=(bH bN (AE 2 (AE 1 aQ)))
def eY:=(aP (bj 4 (bH dW (AE 0 (AE 2 (au (b2 A9 (bV 3) (AD 0)) (au (b2 A9 (bV 3) (AD 1)) aQ)))))) (yo Ec 1 (cY (au (bH bN (AE 0 (AE 2 aQ))) (AE 3 aQ))) (lO [none,none,some 0] (iV (bV 4)) (gT [0,1]) jx gU)))
def eZ:=(gC (gN 3) (iV (bC u5)) [3,4] eY)
def nT:=(aP (bj 1 (bC (.dT []))) (aP (gC (gN 2) (iV (bH iH (AE 0 aQ))) [2,3,4] eZ) (bF (bV 1))))
def bL:=cC 5 1 true nT
def cG:=JM 10 bI bL bN bJ aG bc aR dh fY gj
def iJ:=(aP (Fn (tV (b2 (jc λi j=>decide (i < j)) (bV 1) (b1 BC (bV 0)))) (bF (b2 A9 (bV 0) (bV 1))) Fm) (bF (AD 0)))
def bO:=cC 2 2 false iJ
def iK:=(aP (bj 2 (b2 dH (bV 1) (b1 BC (bV 0)))) (aP (Eg (gT [3,4]) (b2 A9 (bV 0) (bV 2))) (aP (bj 5 (b2 ir (bV 1) (b1 BC (bV 0)))) (aP (bj 6 (bH cj (au (b2 ir (bV 5) (AD 5)) aQ))) (aP (Fn (tA (tV (b2 eqQ (b2 dH (bV 5) (AD 5)) (AD 0))) (tA (tV (b2 jJ (bV 6) (bV 3))) (tV (b2 (jc λi j=>decide (i < j)) (b1 BC (bV 3)) (AD 4))))) (bj 3 (b2 gO (bV 3) (cY (AE 6 aQ)))) Fm) (aP (Fn (tA (tV (b2 eqQ (b2 dH (bV 5) (AD 5)) (AD 1))) (tV (b2 (jc λi j=>decide (j < i)) (b1 BC (bV 3)) (AD 1)))) (bj 3 (j4 (bV 3) (oS (AD 1)) oN)) Fm) (aP (Fn (tV (b2 eqQ (b2 dH (bV 5) (AD 5)) (AD 2))) (bj 4 (zq (bV 4))) Fm) (aP (Fn (tV (b2 eqQ (b2 dH (bV 5) (AD 5)) (AD 3))) (bj 3 (cY (au (b2 j0 (bC (.str "x")) (b1 BC (b2 A9 (bV 3) (AD 0)))) aQ))) Fm) (aP (Fn (tV (b2 eqQ (b2 dH (bV 5) (AD 5)) (AD 4))) (bj 3 (b1 Ez (bV 3))) Fm) (bF (b2 gO (b2 gO (j4 (bV 0) oN (oS (bV 2))) (cY (au (cY (AE 3 (AE 4 aQ))) aQ))) (j4 (bV 0) (oS (b2 eQ (bV 2) (AD 1))) oN))))))))))))
def fU:=cC 7 2 false iK
def gk:=(aP (bj 8 (b2 A9 (bV 6) (bV 7))) (aP (Fn (tV (b2 eqQ (bV 8) (bC (.str "x")))) (bj 8 (b2 A9 (bC (.str "u-")) (b2 dH (b2 ir (bV 5) (b2 A9 (gB (au (AD 4) (au (AD 8) (au (AD 16) (au (AD 32) aQ))))) (bV 7))) (AD 2)))) Fm) (aP (bj 9 (Vb (b2 eqQ (b2 dH (b2 ir (bV 5) (b2 A9 (gB (au (AD 64) (au (AD 128) (au (AD 256) (au (AD 512) aQ))))) (bV 7))) (AD 2)) (AD 1)) (vW (b2 A9 (bV 4) (AD 1)) (b2 eqQ (b2 eQ (bV 7) (AD 1)) (b1 BC (bV 6)))))) (jX tu 2 (cY (AE 8 (au (Vb (bV 9) (vW (b2 eqQ (b2 eQ (bV 3) (AD 1)) (b1 BC (bV 0))) (b2 eqQ (b2 eQ (bV 7) (AD 1)) (b1 BC (bV 6))))) aQ)))))))
def jh:=(aP (bj 5 (bH fH (AE 1 (AE 3 aQ)))) (aP (bj 6 (b2 A9 (b2 A9 (bV 4) (AD 0)) (b2 dH (bV 5) (b1 BC (b2 A9 (bV 4) (AD 0)))))) (gC (gN 7) (SH (b1 BC (bV 6))) [7,8,9] gk)))
def qL:=(aP (bj 2 (gB aQ)) (aP (gC (gT [3,4]) (Wg (bV 0)) [3,4,5,6,7,8,9] jh) (bF (bV 2))))
def iM:=cC 10 2 false qL
def cT:=(Fn (tV (b2 Sz (b2 A9 (bV 0) (bV 2)) (b2 A9 (bV 1) (bV 2)))) (aP (Fn (tV (b2 Sz (b2 A9 (b2 A9 (bV 0) (bV 2)) (AD 0)) (b2 A9 (b2 A9 (bV 1) (bV 2)) (AD 0)))) (bF (b2 eqQ (b2 A9 (b2 A9 (bV 0) (bV 2)) (AD 0)) (bC (.str "u")))) Fm) (bF (zq (b2 A9 (b2 A9 (bV 0) (bV 2)) (AD 1))))) Fm)
def gn:=(aP (Fn (tV (b2 Sz (b1 BC (bV 0)) (b1 BC (bV 1)))) (bF (b2 (jc λi j=>decide (i < j)) (b1 BC (bV 0)) (b1 BC (bV 1)))) Fm) (aP (gC (gN 2) (SH (b1 BC (bV 0))) [2] cT) (bF (bC (.bl false)))))
def dq:=cC 3 2 false gn
def e_:=(Fn (tO (tN (tV (b1 (tD CY) (bV 1)))) (tO (tV (b2 Sz (b1 BC (bV 1)) (AD 2))) (tO (tV (b2 jJ (b2 A9 (bV 1) (AD 0)) (cY (au (bC (.str "u")) (au (bC (.str "-")) aQ))))) (tN (tV (b1 (tD DI) (b2 A9 (bV 1) (AD 1)))))))) (bF (bC (.bl false))) Fm)
def nU:=(aP (Fn (tO (tN (tV (b1 (tD DJ) (bV 0)))) (tO (tV (b2 eqQ (bV 0) (gB aQ))) (tV (b2 rG (b2 A9 (b2 A9 (bV 0) (b1 zy (AD 1))) (AD 1)) (bC (.bl true)))))) (bF (bC (.bl false))) Fm) (aP (gC (gN 1) (iV (bV 0)) [1] e_) (bF (bC (.bl true)))))
def gq:=cC 2 1 false nU
def ji:=(bV 0)
def jk:=(tV (b2 jJ (b2 A9 (bV 1) (bV 0)) (cY (au (bC (.str "x")) (au (b2 A9 (b2 A9 (bV 2) (b2 eQ (bV 3) (bV 0))) (AD 0)) aQ)))))
def lB:=(aP (Fn (tO (tV (b2 (jc λi j=>decide (j < i)) (b2 eQ (bV 1) (b1 BC (bV 2))) (b1 BC (bV 0)))) (tA (tV (bV 3)) (tN (tV (b2 A9 (b2 A9 (bV 0) (b2 P7 (b2 eQ (bV 1) (b1 BC (bV 2))) (AD 1))) (AD 1)))))) (bF (bC (.bl false))) Fm) (bF (b2 eqQ (lO [none,some 2,some 0,some 1] (SH (b1 BC (bV 2))) (gN 0) jk ji) (gB aQ))))
def bh:=cC 4 4 false lB
def cH:=z_ bh
def tW:=(bj 2 (bH fU (AE 2 (AE 3 aQ))))
def lC:=(aP (bj 5 (bH iM (AE 1 (AE 3 aQ)))) (Fn (tO (tV (b2 OU (bV 4) (bC .AO))) (tV (bH dq (AE 5 (AE 4 aQ))))) (Fn (tV (b2 eqQ (bH cH (AE 2 (AE 5 aQ))) (AD 0))) (bF (bC (.bl false))) Fm) Fm))
def Ac:=(aP (bj 1 (bH dM (au (bH bO (AE 0 (au (AD 0) aQ))) (au (AD 3) aQ)))) (aP (bj 2 (bV 1)) (aP (Fn (tV (b2 eqQ (b2 dH (bH bO (AE 0 (au (AD 1) aQ))) (AD 4)) (AD 0))) (bj 2 (bH dM (au (b2 ir (bH bO (AE 0 (au (AD 1) aQ))) (AD 4)) (au (AD 3) aQ)))) Fm) (aP (gC (gN 3) (iV (Vc (bV 0) (oS (AD 2)) (oS (AD 8)))) [3] tW) (aP (bj 4 (bH cG (AE 1 (AE 2 aQ)))) (aP (Fn (tV (b2 jG (bV 4) (bC .AO))) (Fn (tO (tN (tV (bH gq (AE 4 aQ)))) (tO (tV (b2 eqQ (bH cH (AE 1 (AE 4 aQ))) (AD 0))) (tV (b2 (jc λi j=>decide (j < i)) (bH cH (AE 2 (AE 4 aQ))) (AD 0))))) (bF (bC (.bl false))) Fm) Fm) (aP (gC (gN 3) (iV (Vc (bV 0) (oS (AD 8)) (oS (AD 28)))) [3,5] lC) (bF (bC (.bl true))))))))))
def u9:=cC 6 1 false Ac
section
variable {α:Type}(a b c d e f g h:α)(l:List α)
@[simp] theorem at0:B4 (a::l) 0=some a:=dC (k:=0) rfl
@[simp] theorem at1:B4 (a::b::l) 1=some b:=dC (k:=1) rfl
@[simp] theorem at2:B4 (a::b::c::l) 2=some c:=dC (k:=2) rfl
@[simp] theorem at3:B4 (a::b::c::d::l) 3=some d:=dC (k:=3) rfl
end
@[simp] noncomputable def X9 (ds:qr):Option Out->Option MR.Env
 | some (.nx e)=>some (EW ds e)
 | some (.ct e)=>some (EW ds e)
 | _=>none
noncomputable def turn (g:PV->MR.Env->Option MR.Env)(ds:qr)(body:MR.Env->Option Out)(x:PV)(env:MR.Env):Option MR.Env:=(g x env).bind λe=>X9 ds (body e)
theorem b_ (g:PV->MR.Env->Option MR.Env)(ds:qr)(body:MR.Env->Option Out)(x:PV)(env:MR.Env):turn g ds body x env=(g x env).bind λe=>X9 ds (body e):=id rfl
theorem j6 {g:PV->MR.Env->Option MR.Env}{ds:qr}{body:MR.Env->Option Out}{x:PV}{xs:List PV}{env C2:MR.Env}(h:turn g ds body x env=some C2):cW g ds body (x::xs) env=cW g ds body xs C2:=by
 unfold turn at h
 obtain⟨e,h1,h2⟩:=aA h
 unfold X9 at h2
 split at h2
 ·rename_i q;cases h2;simp[cW,h1,q]
 ·rename_i q;cases h2;simp[cW,h1,q]
 ·cases h2
theorem qM {α S:Type}{g:PV->MR.Env->Option MR.Env}{ds:qr}{body:MR.Env->Option Out}(c:α->PV)(E:S->MR.Env)(step:S->α->S)(I:List α->S->Prop):∀(ys:List α) (s:S),I ys s->
  (∀y ys s,I (y::ys) s->I ys (step s y)/\turn g ds body (c y) (E s)=some (E (step s y)))->
  cW g ds body (ys.map c) (E s)=some (.nx (E (ys.foldl step s)))
 | [],s,_,_=>rfl
 | y::ys,s,i,hh=>by
  obtain⟨hI,h1⟩:=hh y ys s i
  have ih:=qM c E step I ys (step s y) hI hh
  rw[a0,j6 h1,ih,List.foldl_cons]
theorem mF {α:Type}{g:PV->MR.Env->Option MR.Env}{ds:qr}{body:MR.Env->Option Out}{env:MR.Env}(c:α->PV):∀(ys:List α),(∀y∈ys,turn g ds body (c y) env=some env)->cW g ds body (ys.map c) env=some (.nx env)
 | [],_=>rfl
 | y::ys,h=>by
  rw[a0,j6 (h y ar)]
  exact mF c ys λz hz=>h z (al _ hz)
theorem cz {f g:MR.Env->Option Out}{env e:MR.Env}(h:f env=some (.nx e)):aP f g env=g e:=by simp[h]
theorem gW (n:Nat):cV 0 (n:Int)=(List.range n).map λk=>PV.int (k:Nat):=by
 unfold cV
 simp
noncomputable def cell (ns:qS)(k:Nat):Int:=ns.getD k 0
def EV:Nat->PV->Prop
 | _,.AO=>True
 | _,.bl _=>True
 | _,.int _=>True
 | _,.str x=>PyData.strOk x=true
 | n+1,.lst xs=>∀x∈xs,EV n x
 | n+1,.tup xs=>∀x∈xs,EV n x
 | _,_=>False
theorem u_ {n:Nat}(ih:∀p,EV n p->∃d,toD p=some d/\d.canLay0=true/\d.depth<=n/\PyData.eqv d d=true):∀xs:List PV,(∀x∈xs,EV n x)->∃ds,eU xs=some ds/\PyData.canLayAll0 ds=true/\PyData.depthAll ds<=n/\PyData.eqvAll ds ds=true
 | [],_=>⟨[],rfl,rfl,ce _,rfl⟩
 | x::xs,h=>by
  obtain⟨d,h1,h2,h3,h4⟩:=ih x (h x ar)
  obtain⟨ds,g1,g2,g3,g4⟩:=u_ ih xs λz hz=>h z (al _ hz)
  refine⟨d::ds,by simp[eU,h1,g1],by simp[PyData.canLayAll0,h2,g2],?_,by simp[PyData.eqvAll,h4,g4]⟩
  simp only[PyData.depthAll]
  omega
theorem vf:∀(n:Nat) (p:PV),EV n p->∃d,toD p=some d/\d.canLay0=true/\d.depth<=n/\PyData.eqv d d=true
 | n,.AO,_=>⟨.none,by simp[toD],by simp[PyData.canLay0],by simp[PyData.depth],by simp[PyData.eqv]⟩
 | n,.bl b,_=>⟨.bool b,by simp[toD],by simp[PyData.canLay0],by simp[PyData.depth],by simp[PyData.eqv]⟩
 | n,.int b,_=>⟨.int b,by simp[toD],by simp[PyData.canLay0],by simp[PyData.depth],by simp[PyData.eqv]⟩
 | n,.str b,h=>⟨.str b,by simp[toD],by simpa [PyData.canLay0,EV] using h,by simp[PyData.depth],by simp[PyData.eqv]⟩
 | n+1,.lst xs,h=>by
  obtain⟨ds,g1,g2,g3,g4⟩:=u_ (vf n) xs (by simpa [EV] using h)
  exact⟨.list ds,by simp[toD,g1],by simp[PyData.canLay0,g2],by simp only[PyData.depth];omega,by simp[PyData.eqv,g4]⟩
 | n+1,.tup xs,h=>by
  obtain⟨ds,g1,g2,g3,g4⟩:=u_ (vf n) xs (by simpa [EV] using h)
  exact⟨.tuple ds,by simp[toD,g1],by simp[PyData.canLay0,g2],by simp only[PyData.depth];omega,by simp[PyData.eqv,g4]⟩
 | 0,.lst _,h=>by simp[EV] at h
 | 0,.tup _,h=>by simp[EV] at h
 | _,.frz _,h=>by simp[EV] at h
 | _,.ktp _,h=>by simp[EV] at h
 | _,.dK _,h=>by simp[EV] at h
 | _,.dT _,h=>by simp[EV] at h
 | _,.obj _ _,h=>by simp[EV] at h
variable {n:Nat}
theorem JN {p:PV}(h:EV n p)(hn:n<=64):Sr p p=some true:=by
 obtain⟨d,h1,h2,h3,h4⟩:=vf n p h
 have hs:SeqAt.shaped d=true:=by
  unfold SeqAt.shaped
  rw[h2,Bool.true_and,eD]
  omega
 simp[Sr,h1,hs,h4]
theorem JP {p:PV}{k:Bool}(h:OT p p=some k):k=true:=by
 cases p <;> simp at h <;> first | exact h | exact h.symm | cases h
theorem JQ {p:PV}(h:EV n p)(hn:n<=64):GB p p=some true:=by
 unfold GB
 cases q:OT p p with
 | none=>exact JN h hn
 | some k=>rw[JP q]
theorem sG {x:PV}{xs:List PV}(h:EV (n+1) (.lst (x::xs)))(hn:n<=60):GB (.lst (x::xs)) (.lst [])=some false:=by
 have h':∀y∈x::xs,EV n y:=by simpa [EV] using h
 obtain⟨d,a1,a2,a3,a4⟩:=vf n x (h' x ar)
 obtain⟨ds,g1,g2,g3,g4⟩:=u_ (vf n) xs λz hz=>h' z (al _ hz)
 have hs:SeqAt.shaped (.list (d::ds))=true:=by
  have h1:(PyData.list (d::ds)).canLay0=true:=by simp[PyData.canLay0,PyData.canLayAll0,a2,g2]
  have h2:(PyData.list (d::ds)).depth<=64:=by simp only[PyData.depth,PyData.depthAll];omega
  simp[SeqAt.shaped,h1,h2]
 have D6:SeqAt.shaped (.list [])=true:=by decide
 simp[GB,OT,Sr,toD,eU,a1,g1,hs,D6,PyData.eqv,PyData.eqvAll]
@[simp] theorem MK:GB (.lst []) (.lst [])=some true:=JQ (n:=1) (by simp[EV]) (by decide)
theorem dX {α S:Type}{g:PV->MR.Env->Option MR.Env}{ds:qr}{body:MR.Env->Option Out}(c:α->PV)(E:S->MR.Env)(I:List α->S->Prop)(hh:∀y ys s,I (y::ys) s->∃s',I ys s'/\turn g ds body (c y) (E s)=some (E s')):∀(ys:List α) (s:S),I ys s->
  ∃s',I [] s'/\cW g ds body (ys.map c) (E s)=some (.nx (E s'))
 | [],s,i=>⟨s,i,rfl⟩
 | y::ys,s,i=>by
  obtain⟨s1,i1,h1⟩:=hh y ys s i
  obtain⟨s2,i2,h2⟩:=dX c E I hh ys s1 i1
  exact⟨s2,i2,by rw[a0,j6 h1,h2]⟩
theorem wA {k:Nat}(h:k < 1000):MY (k:Int)=true:=uH (by omega) (by omega)
theorem pB (x:Str)(cs:qE):(cs.map PV.str).all fO=true/\((cs.map PV.str).any λy=>Uq y (.str x))=decide (x∈cs):=by
 refine⟨by rw[List.all_map,hJ];exact λ_ _=>rfl,?_⟩
 rw[List.any_map]
 induction cs with
 | nil=>simp
 | cons c r ih=>
  rw[fw,ih]
  by_cases e:x=c
  ·subst e;simp[Uq]
  ·have e':¬ c=x:=λz=>e z.symm
   simp[Uq,e,e']
theorem JR (x:Str)(cs:qE):oX (.str x) (.lst (cs.map .str))=some (decide (x∈cs)):=by
 simp[oX,fO,(pB x cs).1,(pB x cs).2]
theorem qN (x:Str)(cs:qE):oX (.str x) (.tup (cs.map .str))=some (decide (x∈cs)):=by
 simp[oX,fO,(pB x cs).1,(pB x cs).2]
structure BI (p:Str):Prop where
 ge:1<=p.length
 le:p.length<=3
 cs:∀c∈p.cps.toList,c=117\/c=45\/c=120
structure CI (ps:qE):Prop where
 ne:ps≠[]
 le:ps.length<=4
 ok:∀p∈ps,BI p
theorem Fd {i:Int}(h0:0<=i)(h1:i < 3):∃c,(c=117\/c=45\/c=120)/\B4 (("u-x" : Str).cps.toList) i=some c:=by
 have e:("u-x" : Str).cps.toList=[117,45,120]:=by decide +kernel
 obtain⟨k,rfl⟩:∃k:Nat,i=k:=⟨i.toNat,by omega⟩
 rw[e]
 have hk:k=0\/k=1\/k=2:=by omega
 rcases hk with rfl | rfl | rfl
 ·exact⟨117,.inl rfl,rfl⟩
 ·exact⟨45,.inr (.inl rfl),rfl⟩
 ·exact⟨120,.inr (.inr rfl),rfl⟩
theorem Qx:("u-x" : Str).length<=1000000:=by decide +kernel
noncomputable def mG (c k:Int):Int:=(c % 1000003*(48271+15838*k*k)+69621*k) % 2147483647
theorem Ad (c k:Int)(h:MY k=true):fH [.int c,.int k]=some (.int (mG c k)):=by
 have h1:MY (c % 1000003)=true:=uH (by omega) (by omega)
 have h2:MY 69621=true:=uH (by decide) (by decide)
 have h3:MY 15838=true:=uH (by decide) (by decide)
 simp[fH,sE,h,h1,h2,h3,mG]
theorem tX (n:Int){k:Nat}(hk:k < 3):∃c,(c=117\/c=45\/c=120)/\bM [some (.int k),some (.int n)]=some (.str ⟨#[c]⟩):=by
 have hl:=Qx
 have hk:k=0\/k=1\/k=2:=by omega
 rcases hk with rfl | rfl | rfl
 ·obtain⟨c,hc,h⟩:=Fd (i:=n / 4 % 3) (by omega) (by omega)
  exact⟨c,hc,by simp[bM,h,hl]⟩
 ·obtain⟨c,hc,h⟩:=Fd (i:=n / 12 % 3) (by omega) (by omega)
  exact⟨c,hc,by simp[bM,h,hl]⟩
 ·obtain⟨c,hc,h⟩:=Fd (i:=n / 36 % 3) (by omega) (by omega)
  exact⟨c,hc,by simp[bM,h,hl]⟩
theorem vg (n:Int):∃x,BI x/\cj [.int n]=some (.str x):=by
 obtain⟨t,ht,et⟩:∃t:Nat,(t=1\/t=2\/t=3)/\1+n % 4 % 3=t:=⟨(1+n % 4 % 3).toNat,by omega,by omega⟩
 have hr:GG (t:Int)=true:=jH (by omega) (by omega)
 obtain⟨a,ha,ea⟩:=tX n (k:=0) (by decide)
 obtain⟨b,hb,eb⟩:=tX n (k:=1) (by decide)
 obtain⟨c,hc,ec⟩:=tX n (k:=2) (by decide)
 have el:("" : Str).length=0:=by decide +kernel
 have ea:bM [some (.int 0),some (.int n)]=some (.str ⟨#[a]⟩):=ea
 have eb:bM [some (.int 1),some (.int n)]=some (.str ⟨#[b]⟩):=eb
 have ec:bM [some (.int 2),some (.int n)]=some (.str ⟨#[c]⟩):=ec
 rcases ht with rfl | rfl | rfl
 ·refine⟨⟨#[a]⟩,⟨by show 1<=1;decide,by show 1<=3;decide,λd hd=>?_⟩,?_⟩
  ·simp at hd;rw[hd];exact ha
  ·have e:cV 0 1=[.int 0]:=rfl
   have hj:JoinOk ("" : Str) [⟨#[a]⟩]=true:=rfl
   have WY:Str.join ("" : Str) [⟨#[a]⟩]=⟨#[a]⟩:=rfl
   have hr:GG 1=true:=hr
   have et:1+n % 4 % 3=1:=et
   simp[cj,fQ,et,hr,e,dg,ea,C7,hj,WY]
 ·refine⟨⟨#[a,b]⟩,⟨by show 1<=2;decide,by show 2<=3;decide,λd hd=>?_⟩,?_⟩
  ·simp at hd;rcases hd with hd | hd <;> rw[hd] <;> assumption
  ·have e:cV 0 2=[.int 0,.int 1]:=rfl
   have hj:JoinOk ("" : Str) [⟨#[a]⟩,⟨#[b]⟩]=true:=rfl
   have WY:Str.join ("" : Str) [⟨#[a]⟩,⟨#[b]⟩]=⟨#[a,b]⟩:=rfl
   have hr:GG 2=true:=hr
   have et:1+n % 4 % 3=2:=et
   simp[cj,fQ,et,hr,e,dg,ea,eb,C7,hj,WY]
 ·refine⟨⟨#[a,b,c]⟩,⟨by show 1<=3;decide,by show 3<=3;decide,λd hd=>?_⟩,?_⟩
  ·simp at hd;rcases hd with hd | hd | hd <;> rw[hd] <;> assumption
  ·have e:cV 0 3=[.int 0,.int 1,.int 2]:=rfl
   have hj:JoinOk ("" : Str) [⟨#[a]⟩,⟨#[b]⟩,⟨#[c]⟩]=true:=rfl
   have WY:Str.join ("" : Str) [⟨#[a]⟩,⟨#[b]⟩,⟨#[c]⟩]=⟨#[a,b,c]⟩:=rfl
   have hr:GG 3=true:=hr
   have et:1+n % 4 % 3=3:=et
   simp[cj,fQ,et,hr,e,dg,ea,eb,ec,C7,hj,WY]
abbrev Slot:=List Str×Bool
abbrev re:=List Slot
noncomputable def BM (s:Slot):PV:=.tup [.tup (s.1.map .str),.bl s.2]
noncomputable def mP (m:re):PV:=.tup (m.map BM)
def aW (m:re):Prop:=∀s∈m,CI s.1
theorem Hn {n:Int}{L:qE}(hL:L.length < 1000){k:Nat}(hk:k < 4):
  ∃x,BI x/\turn (gN 2) [2,3] eE (.int k) [some (.int n),some (.lst (L.map .str)),none,none]=some [some (.int n),some (.lst ((if x∈L then L else L++[x]).map .str)),none,none]:=by
 have h1:=Ad (n / 3) k (wA (by omega))
 obtain⟨x,hx,h2⟩:=vg (mG (n / 3) k)
 have Vu:=JR x L
 have hl:L.length < 1000000:=by omega
 refine⟨x,hx,?_⟩
 by_cases hm:x∈L
 ·simp[b_,eE,h1,h2,Vu,hm,hl]
 ·simp[b_,eE,h1,h2,Vu,hm,hl]
theorem MN (n:Int):∃s:Slot,CI s.1/\iC [.int n]=some (BM s):=by
 obtain⟨t,ht,et⟩:∃t:Nat,(1<=t/\t<=3)/\1+n % 3=t:=⟨(1+n % 3).toNat,by omega,by omega⟩
 obtain⟨L,⟨i1,i3,i4,_⟩,h⟩:=dX (g:=gN 2) (ds:=[2,3]) (body:=eE) (λk:Nat=>PV.int (k:Nat)) (λL:List Str=>[some (.int n),some (.lst (L.map .str)),none,none])
  (λr L=>(∀p∈L,BI p)/\L.length+r.length<=t/\(r.length=t\/L≠[])/\∀k∈r,k < 4)
  (by
   rintro k r L ⟨i1,i3,i4,i5⟩
   simp only[bv] at i3 i4
   obtain⟨x,hx,h⟩:=Hn (n:=n) (L:=L) (by omega) (i5 k ar)
   refine⟨_,⟨?_,?_,.inr ?_,λz hz=>i5 z (al _ hz)⟩,h⟩
   ·intro p hp
    split at hp
    ·exact i1 p hp
    ·rcases bn.mp hp with z | z
     ·exact i1 p z
     ·rw[av] at z;rw[z];exact hx
   ·split
    ·omega
    ·rw[bo,fm];omega
   ·split
    ·rename_i hm
     intro e
     rw[e] at hm
     cases hm
    ·simp)
  (List.range t) [] ⟨(λp hp=>by cases hp),by simp,.inl (by simp),(λk hk=>by have:=bP.mp hk;omega)⟩
 have hr:GG (t:Int)=true:=jH (by omega) (by omega)
 rw[← gW] at h
 simp only[iE] at h
 refine⟨(L,decide (n / 3 % 5=4)),⟨?_,?_,i1⟩,?_⟩
 ·rcases i4 with z | z
  ·simp at z;omega
  ·exact z
 ·simp at i3;show L.length<=4;omega
 ·simp[iC,qJ,et,hr,h,BM]
theorem Ae (c:Int):∃m,aW m/\m≠[]/\m.length<=3/\dM [.int c,.int 3]=some (mP m):=by
 obtain⟨t,ht,et⟩:∃t:Nat,(1<=t/\t<=3)/\1+c % 3=t:=⟨(1+c % 3).toNat,by omega,by omega⟩
 have hr:GG (t:Int)=true:=jH (by omega) (by omega)
 have key:∀ks:List Nat,(∀k∈ks,k < 1000)->∃m,aW m/\m.length=ks.length/\dg [none,some (.int c),some (.int 3)] (gN 0) jx iD (ks.map λk=>PV.int (k:Nat))=some (m.map BM):=by
  intro ks
  induction ks with
  | nil=>intro _;exact⟨[],(λs hs=>by cases hs),rfl,rfl⟩
  | cons k ks ih=>
   intro h
   obtain⟨m,h1,h2,h3⟩:=ih λj hj=>h j (al _ hj)
   obtain⟨s,g1,g2⟩:=MN (mG (c / 3) k)
   have g3:=Ad (c / 3) k (wA (h k ar))
   refine⟨s::m,λx hx=>?_,by simp[h2],?_⟩
   ·rcases be.mp hx with rfl | hx
    ·exact g1
    ·exact h1 x hx
   ·rw[a0,dg,h3]
    simp[iD,g2,g3]
 obtain⟨m,h1,h2,h3⟩:=key (List.range t) (λk hk=>by have:=bP.mp hk;omega)
 rw[fg] at h2
 rw[← gW] at h3
 refine⟨m,h1,λe=>by subst e;simp at h2;omega,by omega,?_⟩
 have hl:(cV 0 (t:Int)).length<=1000000:=by rw[gW];simp;omega
 simp[dM,pQ,et,hr,h3,hl,mP]
theorem MP (xs:List PV)(n:Nat)(h:n<=xs.length):dR xs none (some (n:Int))=xs.take n:=by
 unfold dR HT.A4
 simp
 congr 1
 rw[ax (by omega)];omega
theorem xP (xs:List PV)(n:Nat)(h:n<=xs.length):dR xs (some (n:Int)) none=xs.drop n:=by
 unfold dR HT.A4
 simp
 rw[pd]
 ·congr 1
  rw[ax (by omega)];omega
 ·rw[gp]
  try omega
theorem lW (xs ys:List PV)(h:xs.length+ys.length<=1000000):gO (.tup xs) (.tup ys)=some (.tup (xs++ys)):=by
 cases xs with
 | nil=>rfl
 | cons x xs=>rw[Ew,bd h]
theorem Rz:BI ("x" : Str):=⟨by decide +kernel,by decide +kernel,by decide +kernel⟩
theorem NI:BI (mD ("x" : Str) 2):=⟨by decide +kernel,by decide +kernel,by decide +kernel⟩
theorem LG:BI (mD ("x" : Str) 3):=⟨by decide +kernel,by decide +kernel,by decide +kernel⟩
theorem RB:("x" : Str).length=1:=by decide +kernel
theorem RC (h1:1<=n)(h3:n<=3):∃x,BI x/\j0 (.str ("x" : Str)) (.int n)=some (.str x):=by
 have hl:=RB
 have:n=1\/n=2\/n=3:=by omega
 rcases this with rfl | rfl | rfl
 ·exact⟨_,Rz,by simp[j0]⟩
 ·have h2:(mD ("x" : Str) 2).length<=1000000:=by have:=NI.le;omega
  exact⟨_,NI,by simp[j0,h2,hl]⟩
 ·have h2:(mD ("x" : Str) 3).length<=1000000:=by have:=LG.le;omega
  exact⟨_,LG,by simp[j0,h2,hl]⟩
theorem LY {f g:MR.Env->Option Out}{env:MR.Env}(h:f env=some (.nx env)):aP f g env=g env:=cz h
def ev (M:PV)(c:Int)(k:Nat)(ps:qE)(cut:Bool)(n:Int)(more:Str):MR.Env:=[some M,some (.int c),some (.int k),some (.tup (ps.map .str)),some (.bl cut),some (.int n),some (.str more)]
variable {m:re}
theorem Fe (hm:aW m)(A3:m≠[])(hl:m.length<=3)(c:Int):∃m',aW m'/\m'≠[]/\m'.length=m.length/\fU [mP m,.int c]=some (mP m'):=by
 have HC:0 < m.length:=eR.mpr A3
 have h0:=pj c (show (m.length:Int)≠0 by omega)
 have h1:=Int.emod_lt_of_pos c (show 0 < (m.length:Int) by omega)
 obtain⟨k,ek⟩:∃k:Nat,c % (m.length:Int)=k:=⟨(c % (m.length:Int)).toNat,by omega⟩
 have hk:k < m.length:=by omega
 obtain⟨⟨ps,cut⟩,hs⟩:∃s,m[k]?=some s:=⟨m[k],af hk⟩
 have ok:CI ps:=hm _ (dn hs)
 have Vp:B4 (m.map BM) (k:Int)=some (BM (ps,cut)):=dC (by simp[hs])
 have hlen:(0:Int) < m.length/\(m.length:Int) < 1073741824:=by omega
 generalize hn:c / (m.length:Int)=n
 obtain⟨more,okm,WZ⟩:=vg (n / 5)
 have Vu:=qN more ps
 have Zm:dR (m.map BM) none (some (k:Int))=(m.map BM).take k:=MP _ _ (by simp;omega)
 have hd2:dR (m.map BM) (some ((k:Int)+1)) none=(m.map BM).drop (k+1):=xP (m.map BM) (k+1) (by simp;omega)
 have c1:=lW (ps.map .str) [.str more] (by have:=ok.le;simp;omega)
 have hle:=ok.le
 have Vv:0 < ps.length:=eR.mpr ok.ne
 have NJ:=ok.ok ps[0] (i7 Vv)
 have BO:ps[0].length<=1000000:=by have:=NJ.le;omega
 have ZO:B4 (ps.map PV.str) 0=some (.str ps[0]):=dC (k:=0) (by simp[Vv])
 obtain⟨x,okx,hx⟩:=RC NJ.ge NJ.le
 have c2:∀h:1<=ps.length,dR (ps.map PV.str) (some 1) none=(ps.map .str).drop 1:=λh=>xP _ 1 (by simpa using h)
 have ZP:∃qs KL,CI qs/\iK [some (mP m),some (.int c),none,none,none,none,none]=bF (b2 gO (b2 gO (j4 (bV 0) oN (oS (bV 2))) (cY (au (cY (AE 3 (AE 4 aQ))) aQ))) (j4 (bV 0) (oS (b2 eQ (bV 2) (AD 1))) oN)) (ev (mP m) c k qs KL n more):=by
  unfold iK
  have h5:n % 5=0\/n % 5=1\/n % 5=2\/n % 5=3\/n % 5=4:=by omega
  have go:∀{rest:MR.Env->Option Out}{v:Option Out},rest (ev (mP m) c k ps cut n more)=v->aP (bj 2 (b2 dH (bV 1) (b1 BC (bV 0)))) (aP (Eg (gT [3,4]) (b2 A9 (bV 0) (bV 2))) (aP (bj 5 (b2 ir (bV 1) (b1 BC (bV 0)))) (aP (bj 6 (bH cj (au (b2 ir (bV 5) (AD 5)) aQ))) rest))) [some (mP m),some (.int c),none,none,none,none,none]=v:=by
   intro rest v h
   refine(cz (e:=[some (mP m),some (.int c),some (.int k),none,none,none,none]) (by simp[mP,HC,ek])).trans ?_
   refine(cz (e:=[some (mP m),some (.int c),some (.int k),some (.tup (ps.map .str)),some (.bl cut),none,none]) (by simp[mP,Vp,BM])).trans ?_
   refine(cz (e:=[some (mP m),some (.int c),some (.int k),some (.tup (ps.map .str)),some (.bl cut),some (.int n),none]) (by simp[mP,hlen,HC,hn])).trans ?_
   exact(cz (by simp[WZ,ev])).trans h
  rcases h5 with h | h | h | h | h
  ·by_cases hc:more∉ps/\ps.length < 4
   ·have W5:(ps.length:Int) < 4:=by omega
    refine⟨ps++[more],cut,⟨by simp,by simp;omega,λp hp=>(bn.mp hp).elim (ok.ok p) λhp=>by rw[av] at hp;rw[hp];exact okm⟩,go ?_⟩
    refine(cz (e:=ev (mP m) c k (ps++[more]) cut n more) (by simp[ev,h,Vu,hc.1,W5,c1])).trans ?_
    iterate 4 refine(LY (by simp[ev,h])).trans ?_
    rfl
   ·refine⟨ps,cut,ok,go ?_⟩
    refine(LY (by
     by_cases h1:more∈ps
     ·simp[ev,h,Vu,h1]
     ·have h2:¬ (ps.length:Int) < 4:=λz=>hc ⟨h1,by omega⟩
      simp[ev,h,Vu,h1,h2])).trans ?_
    iterate 4 refine(LY (by simp[ev,h])).trans ?_
    rfl
  ·by_cases hc:1 < ps.length
   ·have Si:(1:Int) < ps.length:=by omega
    refine⟨ps.drop 1,cut,⟨by intro z;have:=dL List.length z;simp at this;omega,by simp;omega,λp hp=>ok.ok p (pV hp)⟩,go ?_⟩
    refine(LY (by simp[ev,h])).trans ?_
    refine(cz (e:=ev (mP m) c k (ps.drop 1) cut n more) (by simp[ev,h,Si,c2 Vv])).trans ?_
    iterate 3 refine(LY (by simp[ev,h])).trans ?_
    rfl
   ·have Si:¬ (1:Int) < ps.length:=by omega
    refine⟨ps,cut,ok,go ?_⟩
    iterate 5 refine(LY (by simp[ev,h,Si])).trans ?_
    rfl
  ·refine⟨ps,!cut,ok,go ?_⟩
   iterate 2 refine(LY (by simp[ev,h])).trans ?_
   refine(cz (e:=ev (mP m) c k ps (!cut) n more) (by simp[ev,h])).trans ?_
   iterate 2 refine(LY (by simp[ev,h])).trans ?_
   rfl
  ·refine⟨[x],cut,⟨by simp,by simp,λp hp=>by rw[av] at hp;rw[hp];exact okx⟩,go ?_⟩
   iterate 3 refine(LY (by simp[ev,h])).trans ?_
   refine(cz (e:=ev (mP m) c k [x] cut n more) (by simp[ev,h,ZO,BO,-j0,hx])).trans ?_
   refine(LY (by simp[ev,h])).trans ?_
   rfl
  ·refine⟨ps.reverse,cut,⟨by simpa using ok.ne,by simpa using ok.le,λp hp=>ok.ok p (by simpa using hp)⟩,go ?_⟩
   iterate 4 refine(LY (by simp[ev,h])).trans ?_
   refine(cz (e:=ev (mP m) c k ps.reverse cut n more) (by simp[ev,h])).trans ?_
   rfl
 obtain⟨qs,KL,okq,e⟩:=ZP
 refine⟨m.take k++(qs,KL)::m.drop (k+1),λs hs=>?_,by simp,by simp;omega,?_⟩
 ·rcases bn.mp hs with hs | hs
  ·exact hm s (List.mem_of_mem_take hs)
  ·rcases be.mp hs with rfl | hs
   ·exact okq
   ·exact hm s (pV hs)
 ·have c3:=lW ((m.map BM).take k) [BM (qs,KL)] (by simp;omega)
  have c4:=lW ((m.map BM).take k++[BM (qs,KL)]) ((m.map BM).drop (k+1)) (by simp;omega)
  have es:BM (qs,KL)=.tup [.tup (qs.map .str),.bl KL]:=rfl
  rw[es] at c3 c4
  unfold ev at e
  simp only[mP] at e ⊢
  simp[Zm,hd2,c3,c4] at e
  simp[fU,e,es]
noncomputable def AV (x mark:Str):Bool:=decide (x=mark)||decide (x=("x" : Str))
theorem Ho (x mark:Str):fC [.str x,.str mark]=some (.bl (AV x mark)):=by
 unfold AV
 by_cases h:x=mark
 ·simp[fC,jO,h]
 ·simp[fC,jO,h]
noncomputable def bA (p:Str)(j:Nat):Str:=⟨#[p.cps.toList.getD j 0]⟩
variable {p:Str}{j:Nat}
theorem Af (h:j < p.length):B4 p.cps.toList (j:Int)=some (p.cps.toList.getD j 0):=by
 have h':j < p.cps.toList.length:=by simpa [Str.length] using h
 refine dC ?_
 rw[bb,af h']
 rfl
theorem Qy (a b c d e f:Int):GB (.tup [.int a,.int b,.int c]) (.tup [.int d,.int e,.int f])=some (decide (a=d/\b=e/\c=f)):=by
 have h1:∀x y z:Int,SeqAt.shaped (.tuple [.int x,.int y,.int z])=true:=λx y z=>by
  simp[SeqAt.shaped,PyData.canLay0,PyData.canLayAll0,PyData.depth,PyData.depthAll]
 simp[GB,OT,Sr,toD,eU,h1,PyData.eqv,PyData.eqvAll,Bool.decide_and]
 rfl
noncomputable def E6 (a b c:Nat):PV:=.tup [.int a,.int b,.int c]
noncomputable def TB (s:Slot)(slot k i:Nat)(p:Str)(ends:Bool):PV:=if i+1 < p.length then E6 slot k (i+1) else if (s.2&&!ends)=true then .AO else E6 (slot+1) 0 0
variable {slot:Nat}{s:Slot}
theorem wB (h:m[slot]?=some s):B4 (m.map BM) (slot:Int)=some (BM s):=dC (by simp[h])
theorem Ag {k:Nat}(h:s.1[k]?=some p):B4 (s.1.map PV.str) (k:Int)=some (.str p):=dC (by simp[h])
variable {i:Nat}{ends:Bool}
theorem Hq {k:Nat}(hs:m[slot]?=some s)(hp:s.1[k]?=some p)(ok:BI p):
  dO [mP m,E6 slot k i,.bl ends]=some (TB s slot k i p ends):=by
 have h1:=wB hs
 have h2:=Ag hp
 have h3:p.length<=1000000:=by have:=ok.le;omega
 have h4:((i:Int)+1 < (p.length:Int))↔i+1 < p.length:=by omega
 unfold TB
 by_cases h5:i+1 < p.length
 ·simp[dO,iI,mP,E6,h1,BM,h2,h3,h4,h5]
 ·have h6:(if i+1 < p.length then E6 slot k (i+1) else if (s.2&&!ends)=true then PV.AO else E6 (slot+1) 0 0)=(if (s.2&&!ends)=true then PV.AO else E6 (slot+1) 0 0):=ax h5
  rw[h6]
  cases hc:s.2 <;> cases ends <;> simp[dO,iI,mP,E6,h1,BM,h2,h3,h4,h5,hc]
noncomputable def NL (s:Slot)(slot i:Nat)(mark:Str)(ends:Bool)(k:Nat):List PV:=
 if AV (bA (s.1.getD k ⟨#[]⟩) i) mark=true/\sY (TB s slot k i (s.1.getD k ⟨#[]⟩) ends)=false then [.tup [.int k,TB s slot k i (s.1.getD k ⟨#[]⟩) ends]] else []
theorem rJ {k:Nat}(h:s.1[k]?=some p):s.1.getD k ⟨#[]⟩=p:=by rw[bb,h];rfl
theorem JS (s:Slot)(slot k i:Nat)(p:Str)(ends:Bool):(TB s slot k i p ends=.AO/\¬ i+1 < p.length/\s.2=true/\ends=false)\/(∃a b c:Nat,TB s slot k i p ends=E6 a b c/\((i+1 < p.length/\a=slot/\b=k/\c=i+1)\/(¬ i+1 < p.length/\(s.2=false\/ends=true)/\a=slot+1/\b=0/\c=0))):=by
 unfold TB
 by_cases h:i+1 < p.length
 ·exact .inr ⟨_,_,_,bd h,.inl ⟨h,rfl,rfl,rfl⟩⟩
 ·rw[ax h]
  by_cases h':(s.2&&!ends)=true
  ·rw[bd h']
   simp at h'
   exact .inl ⟨rfl,h,h'.1,h'.2⟩
  ·rw[ax h']
   refine .inr ⟨_,_,_,rfl,.inr ⟨h,?_,rfl,rfl,rfl⟩⟩
   cases hs:s.2 <;> cases ends <;> simp_all
variable {mark:Str}
theorem MT {k:Nat}{S N:PV}{L:List PV}(hs:m[slot]?=some s)(hp:s.1[k]?=some p)(ok:BI p)(hi:i < p.length)(hL:L.length < 1000):
  turn (gN 9) [9,10] cZ (.int k) [some (mP m),some S,some (.str mark),some (.bl ends),some (.int slot),some (.int i),some (.tup (s.1.map .str)),some N,some (.lst L),none,none]=
   some [some (mP m),some S,some (.str mark),some (.bl ends),some (.int slot),some (.int i),some (.tup (s.1.map .str)),some N,some (.lst (L++NL s slot i mark ends k)),none,none]:=by
 have h1:=Hq (i:=i) (ends:=ends) hs hp ok
 have h2:=Ag hp
 have h3:p.length<=1000000:=by have:=ok.le;omega
 have h4:=Af hi
 have h5:=Ho (bA p i) mark
 have hl:L.length < 1000000:=by omega
 unfold bA at h5
 unfold NL
 rw[rJ hp]
 rcases JS s slot k i p ends with ⟨e,_⟩ | ⟨a,b,c,e,_⟩
 ·rw[e] at h1
  simp only[E6] at h1
  simp[b_,cZ,h1,e]
 ·rw[e] at h1 ⊢
  simp only[E6] at h1
  unfold bA
  cases hq:AV ⟨#[p.cps.toList.getD i 0]⟩ mark with
  | true=>
   rw[hq] at h5
   simp[b_,cZ,h1,h2,h3,h4,h5,hl,E6,-List.getD_eq_getElem?_getD]
  | false=>
   rw[hq] at h5
   simp[b_,cZ,h1,h2,h3,h4,h5,hl,E6,-List.getD_eq_getElem?_getD]
theorem M6 (s:Slot)(slot i:Nat)(mark:Str)(ends:Bool)(k:Nat):(NL s slot i mark ends k).length<=1:=by unfold NL;split <;> simp
theorem CK {S N:PV}(hs:m[slot]?=some s)(ok:CI s.1)(ks:qr)(hk:∀k∈ks,∃p,s.1[k]?=some p/\i < p.length)(hl:ks.length < 1000):
  cW (gN 9) [9,10] cZ (ks.map λk=>PV.int (k:Nat)) [some (mP m),some S,some (.str mark),some (.bl ends),some (.int slot),some (.int i),some (.tup (s.1.map .str)),some N,some (.lst []),none,none]=
   some (.nx [some (mP m),some S,some (.str mark),some (.bl ends),some (.int slot),some (.int i),some (.tup (s.1.map .str)),some N,some (.lst (ks.flatMap (NL s slot i mark ends))),none,none]):=by
 obtain⟨L,⟨d,e1,e2,_⟩,h⟩:=dX (g:=gN 9) (ds:=[9,10]) (body:=cZ) (λk:Nat=>PV.int (k:Nat))
  (λL:List PV=>[some (mP m),some S,some (.str mark),some (.bl ends),some (.int slot),some (.int i),some (.tup (s.1.map .str)),some N,some (.lst L),none,none])
  (λr L=>∃d,ks=d++r/\L=d.flatMap (NL s slot i mark ends)/\L.length<=d.length)
  (by
   rintro k r L ⟨d,e1,e2,e3⟩
   obtain⟨p,hp,hi⟩:=hk k (by rw[e1];simp)
   have hd:d.length < 1000:=by have:=dL List.length e1;simp at this;omega
   have hm:p∈s.1:=dn hp
   refine⟨L++NL s slot i mark ends k,⟨d++[k],by rw[e1];simp,by rw[e2];simp,?_⟩,MT hs hp (ok.ok p hm) hi (by omega)⟩
   have:=M6 s slot i mark ends k
   simp;omega)
  ks [] ⟨[],rfl,rfl,aw _⟩
 rw[bE] at e1
 subst e1 e2
 exact h
structure NM (m:re)(slot pat i:Nat):Prop where
 le:slot<=m.length
 fin:slot=m.length->pat=0/\i=0
 mid:∀s,m[slot]?=some s->(i=0/\pat=0)\/∃p,s.1[pat]?=some p/\0 < i/\i < p.length
noncomputable def Ya (m:re)(slot pat i:Nat)(mark:Str)(ends:Bool):List PV:=match m[slot]? with
 | none=>[]
 | some s=>if i=0 then (List.range s.1.length).flatMap (NL s slot i mark ends) else NL s slot i mark ends pat
theorem JT (hm:aW m)(hl:m.length < 1000){pat:Nat}(st:NM m slot pat i)(mark:Str)(ends:Bool):
  dW [mP m,E6 slot pat i,.str mark,.bl ends]=some (.lst (Ya m slot pat i mark ends)):=by
 have he:bJ [mP m]=some (.tup [.int m.length,.int 0,.int 0]):=by simp[bJ,lA,mP]
 have hq:=Qy slot pat i m.length 0 0
 unfold Ya
 by_cases hf:slot=m.length
 ·obtain⟨rfl,rfl⟩:=st.fin hf
  subst hf
  have:m[m.length]?=none:=by simp
  rw[this]
  simp at hq
  simp[dW,jA,he,E6,hq]
 ·have BE:slot < m.length:=by have:=st.le;omega
  obtain⟨s,hs⟩:∃s,m[slot]?=some s:=⟨m[slot],af BE⟩
  rw[hs]
  have A3:¬ ((slot:Int)=m.length/\(pat:Int)=0/\(i:Int)=0):=λz=>hf (by omega)
  rw[de A3] at hq
  have ok:=hm s (dn hs)
  have h1:=wB hs
  by_cases hi:i=0
  ·subst hi
   have lp:=CK (S:=E6 slot pat 0) (N:=.lst ((List.range s.1.length).map λk=>PV.int (k:Nat))) (mark:=mark) (ends:=ends) (i:=0) hs ok (List.range s.1.length) (λk hk=>by
    have GH:=bP.mp hk
    have:=(ok.ok _ (i7 GH)).ge
    exact⟨s.1[k],af GH,by omega⟩) (by have:=ok.le;simp;omega)
   have hr:=gW s.1.length
   have hb:0<=(s.1.length:Int)/\(s.1.length:Int)<=1000000:=by have:=ok.le;omega
   simp only[f8]
   have e1:mP m=.tup (m.map BM):=rfl
   have e2:E6 slot pat 0=.tup [.int slot,.int pat,.int 0]:=rfl
   rw[e1,e2] at lp ⊢
   rw[e1] at he
   simp at hq lp
   simp[dW,jA,he,hq,h1,BM,hr,hb,MR.P9,lp]
  ·rcases st.mid s hs with z | ⟨p,hp,OW,IH⟩
   ·exact absurd z.1 hi
   ·have lp:=CK (S:=E6 slot pat i) (N:=.lst [.int pat]) (mark:=mark) (ends:=ends) (i:=i) hs ok [pat] (λk hk=>by
     rw[av] at hk
     subst hk
     exact⟨p,hp,IH⟩) (by simp)
    simp only[ax hi]
    have e1:mP m=.tup (m.map BM):=rfl
    have e2:E6 slot pat i=.tup [.int slot,.int pat,.int i]:=rfl
    rw[e1,e2] at lp ⊢
    rw[e1] at he
    have L8:¬ (i:Int)=0:=by omega
    simp at lp
    simp[dW,jA,he,hq,h1,BM,MR.P9,lp,hi,L8]
abbrev ED:=Nat×Nat×Nat
noncomputable def W6 (s:Slot)(slot k i:Nat)(p:Str)(ends:Bool):Option ED:=if i+1 < p.length then some (slot,k,i+1) else if (s.2&&!ends)=true then none else some (slot+1,0,0)
noncomputable def NN (s:Slot)(slot i:Nat)(mark:Str)(ends:Bool)(k:Nat):List (Nat×ED):=
 if AV (bA (s.1.getD k ⟨#[]⟩) i) mark=true then (W6 s slot k i (s.1.getD k ⟨#[]⟩) ends).toList.map λt=>(k,t) else []
noncomputable def jl (m:re)(t:ED)(mark:Str)(ends:Bool):List (Nat×ED):=match m[t.1]? with
 | none=>[]
 | some s=>if t.2.2=0 then (List.range s.1.length).flatMap (NN s t.1 0 mark ends) else NN s t.1 t.2.2 mark ends t.2.1
noncomputable def EE (j k:Nat)(p:Str):List ED:=(List.range (p.length - 1)).map λi=>(j,k,1+i)
noncomputable def mH (j:Nat)(s:Slot):List ED:=(j,0,0)::s.1.zipIdx.flatMap λy=>EE j y.2 y.1
noncomputable def HE (m:re):List ED:=m.zipIdx.flatMap λy=>mH y.2 y.1
theorem IX {k:Nat}{t:ED}:t∈EE j k p↔∃i,1<=i/\i < p.length/\t=(j,k,i):=by
 unfold EE
 rw[cb]
 constructor
 ·rintro ⟨i,hi,rfl⟩
  rw[bP] at hi
  exact⟨1+i,by omega,by omega,rfl⟩
 ·rintro ⟨i,h1,h2,rfl⟩
  exact⟨i - 1,by rw[bP];omega,by rw[show 1+(i - 1)=i by omega]⟩
theorem IZ {t:ED}:t∈mH j s↔t=(j,0,0)\/∃k p i,s.1[k]?=some p/\1<=i/\i < p.length/\t=(j,k,i):=by
 unfold mH
 rw[be,eB]
 refine or_congr Iff.rfl ⟨?_,?_⟩
 ·rintro ⟨⟨p,k⟩,hy,ht⟩
  obtain⟨i,h1,h2,rfl⟩:=IX.mp ht
  exact⟨k,p,i,by simpa using gE.mp hy,h1,h2,rfl⟩
 ·rintro ⟨k,p,i,hk,h1,h2,rfl⟩
  exact⟨(p,k),gE.mpr hk,IX.mpr ⟨i,h1,h2,rfl⟩⟩
theorem DL {t:ED}:t∈HE m↔∃s,m[t.1]?=some s/\(t.2=(0,0)\/∃p,s.1[t.2.1]?=some p/\1<=t.2.2/\t.2.2 < p.length):=by
 unfold HE
 rw[eB]
 constructor
 ·rintro ⟨⟨s,j⟩,hy,ht⟩
  have hj:m[j]?=some s:=by simpa using gE.mp hy
  rcases IZ.mp ht with rfl | ⟨k,p,i,hk,h1,h2,rfl⟩
  ·exact⟨s,hj,.inl rfl⟩
  ·exact⟨s,hj,.inr ⟨p,hk,h1,h2⟩⟩
 ·rintro ⟨s,hs,h⟩
  obtain⟨j,k,i⟩:=t
  refine⟨(s,j),gE.mpr hs,IZ.mpr ?_⟩
  rcases h with h | ⟨p,h1,h2,h3⟩
  ·cases h;exact .inl rfl
  ·exact .inr ⟨k,p,i,h1,h2,h3,rfl⟩
noncomputable def cD (t:ED):PV:=E6 t.1 t.2.1 t.2.2
noncomputable def UZ (y:Nat×ED):PV:=.tup [.int (y.1:Nat),cD y.2]
theorem KC (s:Slot)(slot i:Nat)(mark:Str)(ends:Bool)(k:Nat):NL s slot i mark ends k=(NN s slot i mark ends k).map UZ:=by
 unfold NL NN TB W6
 generalize s.1.getD k ⟨#[]⟩=p
 cases h1:AV (bA p i) mark <;> by_cases h2:i+1 < p.length <;> cases h3:(s.2&&!ends) <;> simp[h2,UZ,cD,E6]
theorem RD (m:re)(t:ED)(mark:Str)(ends:Bool):Ya m t.1 t.2.1 t.2.2 mark ends=(jl m t mark ends).map UZ:=by
 unfold Ya jl
 split
 ·rename_i h;(try simp only[h]);rfl
 ·rename_i s h
  try simp only[h]
  split
  ·rename_i h0
   rw[h0,List.map_flatMap]
   congr 1
   funext k
   exact KC s t.1 0 mark ends k
  ·exact KC s t.1 t.2.2 mark ends t.2.1
theorem tY (j k:Nat)(p:Str):(EE j k p).length=p.length - 1:=by simp[EE]
theorem JV {M:PV}{y:Str×Nat}{L:List ED}(ok:BI y.1)(hL:L.length < 9000):
  turn (gT [4,5]) [4,5] eF (.tup [.int (y.2:Nat),.str y.1]) [some M,some (.lst (L.map cD)),some (.int j),some (BM s),none,none]=some [some M,some (.lst ((L++EE j y.2 y.1).map cD)),some (.int j),some (BM s),none,none]:=by
 obtain⟨p,k⟩:=y
 have ok:BI p:=ok
 have h1:GG ((p.length:Nat):Int)=true:=jH (by omega) (by have:=ok.le;omega)
 have h0:GG 1=true:=jH (by omega) (by omega)
 have h2:dg [none,some (.int j),some (.int k)] (gN 0) jx jf (cV 1 (p.length:Int))=some ((EE j k p).map cD):=by
  have e:cV 1 (p.length:Int)=(List.range (p.length - 1)).map λi=>PV.int (1+(i:Nat)):=by
   unfold cV
   have:((p.length:Int) - 1).toNat=p.length - 1:=by omega
   rw[this]
  rw[e]
  unfold EE
  rw[ke]
  exact qF _ _ _ λi _=>⟨[some (.int (1+(i:Nat))),some (.int j),some (.int k)],rfl,by simp[jf,cD,E6]⟩
 have h3:p.length<=1000000:=by have:=ok.le;omega
 have h4:(cV 1 (p.length:Int)).length<=1000000:=by
  unfold cV
  rw[aI,fg]
  have:=ok.le;omega
 have h5:L.length+(EE j k p).length<=1000000:=by rw[tY];have:=ok.le;omega
 simp[b_,eF,h0,h1,h2,h3,h4,h5,BM,je]
theorem M7 {M:PV}(ok:CI s.1){L:List ED}(hL:L.length < 8000):
  cW (gT [4,5]) [4,5] eF (eV 0 (s.1.map .str)) [some M,some (.lst (L.map cD)),some (.int j),some (BM s),none,none]=some (.nx [some M,some (.lst ((L++s.1.zipIdx.flatMap λy=>EE j y.2 y.1).map cD)),some (.int j),some (BM s),none,none]):=by
 have en:eV 0 (s.1.map .str)=s.1.zipIdx.map λy:Str×Nat=>PV.tup [.int (y.2:Nat),.str y.1]:=lV _ _ _
 rw[en]
 obtain⟨L',⟨d,e1,e2,e3⟩,h⟩:=dX (g:=gT [4,5]) (ds:=[4,5]) (body:=eF) (λy:Str×Nat=>PV.tup [.int (y.2:Nat),.str y.1]) (λL:List ED=>[some M,some (.lst (L.map cD)),some (.int j),some (BM s),none,none])
  (λr L'=>∃d,s.1.zipIdx=d++r/\L'=(L++d.flatMap λy=>EE j y.2 y.1)/\L'.length<=L.length+4*d.length)
  (by
   rintro y r L' ⟨d,e1,e2,e3⟩
   have hm:y∈s.1.zipIdx:=by rw[e1];simp
   have NJ:BI y.1:=ok.ok _ (ii hm)
   have hd:d.length+r.length+1=s.1.length:=by have:=dL List.length e1;simp at this;omega
   have h4:=ok.le
   refine⟨L'++EE j y.2 y.1,⟨d++[y],by rw[e1];simp,by rw[e2];simp,?_⟩,JV NJ (by omega)⟩
   have:=tY j y.2 y.1
   have:=NJ.le
   simp;omega)
  s.1.zipIdx L ⟨[],rfl,by simp,by simp⟩
 rw[bE] at e1
 rw[h,e2,← e1]
theorem JW (j:Nat)(ok:CI s.1):(mH j s).length<=17:=by
 unfold mH
 have:∀(l:List (Str×Nat)),(∀y∈l,BI y.1)->(l.flatMap λy=>EE j y.2 y.1).length<=4*l.length:=λl=>by
  induction l with
  | nil=>simp
  | cons y l ih=>
   intro h
   have h1:=ih λz hz=>h z (al _ hz)
   have h2:=(h y ar).le
   have h3:=tY j y.2 y.1
   rw[iO,bo,bv]
   omega
 have h1:=this s.1.zipIdx λy hy=>ok.ok _ (ii hy)
 have h2:=ok.le
 rw[List.length_zipIdx] at h1
 rw[bv]
 omega
theorem xQ (hm:aW m)(hl:m.length < 100):iH [mP m]=some (.lst ((HE m).map cD))/\(HE m).length<=17*m.length:=by
 have en:eV 0 (m.map BM)=m.zipIdx.map λy:Slot×Nat=>PV.tup [.int (y.2:Nat),BM y.1]:=lV _ _ _
 obtain⟨L',⟨d,e1,e2,e3⟩,h⟩:=dX (g:=gT [2,3]) (ds:=[2,3,4,5]) (body:=jg) (λy:Slot×Nat=>PV.tup [.int (y.2:Nat),BM y.1]) (λL:List ED=>[some (mP m),some (.lst (L.map cD)),none,none,none,none])
  (λr L'=>∃d,m.zipIdx=d++r/\L'=(d.flatMap λy=>mH y.2 y.1)/\L'.length<=17*d.length)
  (by
   rintro y r L' ⟨d,e1,e2,e3⟩
   have ZQ:y∈m.zipIdx:=by rw[e1];simp
   have ok:CI y.1.1:=hm _ (ii ZQ)
   have hd:d.length+r.length+1=m.length:=by have:=dL List.length e1;simp at this;omega
   have h4:=JW y.2 ok
   refine⟨L'++mH y.2 y.1,⟨d++[y],by rw[e1];simp,by rw[e2];simp,by simp;omega⟩,?_⟩
   have h5:=M7 (M:=mP m) (j:=y.2) ok (L:=L'++[(y.2,0,0)]) (by simp;omega)
   have e5:(L'++[(y.2,0,0)]).map cD=L'.map cD++[.tup [.int (y.2:Nat),.int 0,.int 0]]:=by simp[cD,E6]
   rw[e5] at h5
   have e6:L'++[(y.2,0,0)]++(y.1.1.zipIdx.flatMap λz=>EE y.2 z.2 z.1)=L'++mH y.2 y.1:=by simp[mH]
   rw[e6] at h5
   have Pm:L'.length < 1000000:=by omega
   obtain⟨⟨ps,c⟩,j⟩:=y
   dsimp only at h5 ⊢
   simp only[BM] at h5
   generalize (L'++mH j (ps,c)).map cD=R at *
   simp[b_,jg,BM,Pm,h5])
  m.zipIdx [] ⟨[],rfl,rfl,by simp⟩
 rw[bE] at e1
 have e7:L'=HE m:=by rw[e2,← e1];rfl
 subst e7
 refine⟨?_,by rw[← e1] at e3;simpa using e3⟩
 simp only[iE] at h
 simp[iH,qK,mP] at h ⊢
 simp[en,h]
theorem JX (m:re)(hm:aW m)(t:ED)(mark:Str)(e:Bool):(jl m t mark e).length<=4:=by
 have h1:∀(s:Slot) (slot i k:Nat),(NN s slot i mark e k).length<=1:=λs slot i k=>by
  unfold NN
  split
  ·cases W6 s slot k i (s.1.getD k ⟨#[]⟩) e <;> simp
  ·simp
 unfold jl
 split
 ·simp
 ·rename_i s h
  have ok:=hm s (dn h)
  split
  ·have:∀l:List Nat,(l.flatMap (NN s t.1 0 mark e)).length<=l.length:=λl=>by
    induction l with
    | nil=>simp
    | cons k l ih=>have:=h1 s t.1 0 k;rw[iO,bo,bv];omega
   have h2:=this (List.range s.1.length)
   have h3:=ok.le
   rw[fg] at h2
   omega
  ·have:=h1 s t.1 t.2.2 t.2.1;omega
theorem Ah {t:ED}(h:t∈HE m):NM m t.1 t.2.1 t.2.2:=by
 obtain⟨s,hs,h⟩:=DL.mp h
 have BE:=(ai.mp hs).1
 refine⟨by omega,λz=>by omega,λs' DM=>?_⟩
 rw[hs] at DM
 cases DM
 rcases h with h | ⟨p,h1,h2,h3⟩
 ·rw[h];exact .inl ⟨rfl,rfl⟩
 ·exact .inr ⟨p,h1,by omega,h3⟩
abbrev Row:=List Nat
def lx:Row->Row->Prop
 | a::x,b::y=>a < b\/(a=b/\lx x y)
 | _,_=>False
theorem nY:∀{x y:Row}{a b:Nat},x.length=y.length->(lx (x++[a]) (y++[b])↔lx x y\/(x=y/\a < b))
 | [],[],a,b,_=>by simp[lx]
 | c::x,d::y,a,b,h=>by
  have ih:=nY (x:=x) (y:=y) (a:=a) (b:=b) (by simpa using h)
  simp only[g9,lx,ih,List.cons.injEq]
  constructor
  ·rintro (h | ⟨h1,h2 | ⟨h2,h3⟩⟩)
   ·exact .inl (.inl h)
   ·exact .inl (.inr ⟨h1,h2⟩)
   ·exact .inr ⟨⟨h1,h2⟩,h3⟩
  ·rintro ((h | ⟨h1,h2⟩) | ⟨⟨h1,h2⟩,h3⟩)
   ·exact .inl h
   ·exact .inr ⟨h1,.inl h2⟩
   ·exact .inr ⟨h1,.inr ⟨h2,h3⟩⟩
theorem pC:∀{x y z:Row},lx x y->lx y z->lx x z
 | [],_,_,h,_=>by simp[lx] at h
 | _::_,[],_,h,_=>by simp[lx] at h
 | _::_,_::_,[],_,h=>by simp[lx] at h
 | a::x,b::y,c::z,h,g=>by
  simp only[lx] at h g ⊢
  rcases h with h | ⟨h,h'⟩ <;> rcases g with g | ⟨g,g'⟩
  ·exact .inl (by omega)
  ·exact .inl (by omega)
  ·exact .inl (by omega)
  ·exact .inr ⟨by omega,pC h' g'⟩
theorem vh:∀{x:Row},¬ lx x x
 | [],h=>by simp[lx] at h
 | a::x,h=>by
  simp only[lx] at h
  rcases h with h | ⟨_,h⟩
  ·omega
  ·exact vh h
noncomputable def kids (x:Row):List Row:=(List.range 4).map λk=>x++[k]
theorem DD {x y:Row}:y∈kids x↔∃k,k < 4/\y=x++[k]:=by
 unfold kids
 rw[cb]
 constructor
 ·rintro ⟨k,h,rfl⟩;exact⟨k,bP.mp h,rfl⟩
 ·rintro ⟨k,h,rfl⟩;exact⟨k,bP.mpr h,rfl⟩
theorem BP (x:Row):(kids x).Pairwise lx:=by
 have:∀k,k < 4->True:=λ_ _=>trivial
 unfold kids
 rw[List.pairwise_map]
 refine List.Pairwise.imp ?_ (List.pairwise_lt_range (n:=4))
 intro a b h
 exact(nY rfl).mpr (.inr ⟨rfl,h⟩)
theorem jB {d:Nat}:∀{L:List Row},L.Pairwise lx->(∀x∈L,x.length=d)->(L.flatMap kids).Pairwise lx
 | [],_,_=>.nil
 | x::L,h,hl=>by
  rw[List.pairwise_cons] at h
  rw[iO,lT]
  refine⟨BP x,jB h.2 λy hy=>hl y (al _ hy),?_⟩
  intro a ha b hb
  obtain⟨j,_,rfl⟩:=DD.mp ha
  obtain⟨y,hy,hb⟩:=eB.mp hb
  obtain⟨k,_,rfl⟩:=DD.mp hb
  exact(nY (by rw[hl x ar,hl y (al _ hy)])).mpr (.inl (h.1 y hy))
def C4 (x:Row):Prop:=∀k∈x,k < 4
def sle (q y:Row):Prop:=q.length < y.length\/(q.length=y.length/\(q=y\/lx q y))
variable {L:List Row}
section
variable (same:Row->Row->Bool)(over sought:Row->Bool)
noncomputable def dead (R:List Row)(x:Row):Bool:=over x||R.any λq=>same q x
noncomputable def bf (R L:List Row):List Row->(List Row×List Row) ⊕ (List Row×Row)
 | []=>.inl (R,L)
 | x::X=>if dead same over R x=true then bf R L X else if sought x=true then .inr (R,x) else bf (R++[x]) (L++[x]) X
noncomputable def Vw:Nat->List Row->List Row->Option (Option Row)
 | 0,_,_=>none
 | _+1,_,[]=>some none
 | f+1,R,n::ns=>match bf same over sought R [] ((n::ns).flatMap kids) with
  | .inl o=>Vw f o.1 o.2
  | .inr o=>some (some o.2)
structure BH:Prop where
 rf:∀x,same x x=true
 sy:∀x y,same x y=true->same y x=true
 tr:∀x y z,same x y=true->same y z=true->same x z=true
 kd:∀x y k,k < 4->same x y=true->same (x++[k]) (y++[k])=true
 ov:∀x y,same x y=true->over x=over y
 so:∀x y,same x y=true->sought x=sought y
 oo:∀x k,k < 4->over x=true->over (x++[k])=true
 o0:over []=false
 s0:sought []=false
 z9:∀x,9 < x.length->over x=true
structure LI (d:Nat)(R L:List Row):Prop where
 so:L.Pairwise lx
 hL:∀x∈L,x.length=d/\x∈R
 hR:∀x∈R,C4 x/\x.length<=d/\over x=false/\sought x=false/\(x.length=d->x∈L)
 cv:∀y,C4 y->over y=false->y.length<=d->∃q∈R,same q y=true/\sle q y
structure MI (d:Nat)(R0 P R L:List Row):Prop where
 e:R=R0++L
 sb:L.Sublist P
 ns:∀x∈L,over x=false/\sought x=false
 cv:∀x∈P,over x=false->∃q∈R,same q x=true/\sle q x
variable {same over sought}
theorem wC {d:Nat}{R0:List Row}(H:BH same over sought)(h0:∀x∈R0,x.length<=d):∀(Q P R L:List Row),(P++Q).Pairwise lx->(∀x∈P++Q,x.length=d+1)->MI same over sought d R0 P R L->
  match bf same over sought R L Q with
  | .inl o=>MI same over sought d R0 (P++Q) o.1 o.2
  | .inr o=>∃P' Q' L',P++Q=P'++o.2::Q'/\MI same over sought d R0 P' o.1 L'/\over o.2=false/\sought o.2=true
 | [],P,R,L,_,_,I=>by simpa [bf] using I
 | x::Q,P,R,L,hp,hl,I=>by
  have e1:P++x::Q=(P++[x])++Q:=by simp
  have hx:x.length=d+1:=hl x (by simp)
  by_cases hd:dead same over R x=true
  ·have eb:bf same over sought R L (x::Q)=bf same over sought R L Q:=by simp only[bf,bd hd]
   rw[eb]
   have:=wC H h0 Q (P++[x]) R L (e1▸hp) (e1▸hl) ⟨I.e,I.sb.trans (List.sublist_append_left _ _),I.ns,?_⟩
   ·rw[e1];exact this
   ·intro y hy ho
    rcases bn.mp hy with hy | hy
    ·exact I.cv y hy ho
    ·rw[av] at hy
     subst hy
     unfold dead at hd
     rw[ho,Bool.false_or,i8] at hd
     obtain⟨q,hq,hs⟩:=hd
     refine⟨q,hq,hs,?_⟩
     rw[I.e] at hq
     rcases bn.mp hq with hq | hq
     ·exact .inl (by have:=h0 q hq;omega)
     ·have hqP:=I.sb.subset hq
      exact .inr ⟨by rw[hl q (bm _ hqP),hx],.inr ((lT.mp hp).2.2 q hqP y ar)⟩
  ·have ho:over x=false:=by
    cases h:over x with
    | false=>rfl
    | true=>exact(hd (by simp[dead,h])).elim
   by_cases hs:sought x=true
   ·have eb:bf same over sought R L (x::Q)=.inr (R,x):=by simp only[bf,ax hd,bd hs]
    rw[eb]
    exact⟨P,Q,L,rfl,I,ho,hs⟩
   ·have eb:bf same over sought R L (x::Q)=bf same over sought (R++[x]) (L++[x]) Q:=by simp only[bf,ax hd,ax hs]
    rw[eb]
    have:=wC H h0 Q (P++[x]) (R++[x]) (L++[x]) (e1▸hp) (e1▸hl) ⟨by rw[I.e];simp,I.sb.append (List.Sublist.refl _),?_,?_⟩
    ·rw[e1];exact this
    ·intro y hy
     rcases bn.mp hy with hy | hy
     ·exact I.ns y hy
     ·rw[av] at hy
      subst hy
      exact⟨ho,by simpa using hs⟩
    ·intro y hy W7
     rcases bn.mp hy with hy | hy
     ·obtain⟨q,hq,h1,h2⟩:=I.cv y hy W7
      exact⟨q,bm _ hq,h1,h2⟩
     ·rw[av] at hy
      subst hy
      exact⟨y,by simp,H.rf y,.inr ⟨rfl,.inl rfl⟩⟩
theorem BQ {x:Row}{k:Nat}:C4 (x++[k])↔C4 x/\k < 4:=by
 unfold C4
 constructor
 ·intro h;exact⟨λj hj=>h j (by simp[hj]),h k (by simp)⟩
 ·rintro ⟨h1,h2⟩ j hj
  rcases bn.mp hj with h | h
  ·exact h1 j h
  ·rw[av] at h;omega
theorem rK {x:Row}{d:Nat}(h:x.length=d+1):∃y k,x=y++[k]/\y.length=d:=by
 have A3:x≠[]:=by intro e;subst e;simp at h
 exact⟨x.dropLast,x.getLast A3,(jv A3).symm,by rw[List.length_dropLast];omega⟩
theorem Ai (H:BH same over sought){d:Nat}{R:List Row}(I:LI same over sought d R L){y:Row}{t:Nat}(h4:C4 (y++[t]))(ho:over (y++[t])=false)(hl:y.length=d):
  (∃q∈R,same q (y++[t])=true/\q.length<=d)\/∃q∈L,same (q++[t]) (y++[t])=true/\(q=y\/lx q y)/\q.length=d:=by
 have c:=BQ.mp h4
 have hy:over y=false:=by
  cases e:over y with
  | false=>rfl
  | true=>rw[H.oo y t c.2 e] at ho;cases ho
 obtain⟨q,hq,hs,hle⟩:=I.cv y c.1 hy (by omega)
 have hk:=H.kd q y t c.2 hs
 rcases hle with BE | ⟨hle,Vx⟩
 ·have hr:=I.hR q hq
  obtain⟨q',L3,DM,hle'⟩:=I.cv (q++[t]) (BQ.mpr ⟨hr.1,c.2⟩) (by rw[H.ov _ _ hk];exact ho) (by simp;omega)
  exact .inl ⟨q',L3,H.tr _ _ _ DM hk,(I.hR q' L3).2.1⟩
 ·exact .inr ⟨q,(I.hR q hq).2.2.2.2 (by omega),hk,Vx,by omega⟩
theorem CN {q:Row}{t:Nat}(h:q∈L)(ht:t < 4):q++[t]∈L.flatMap kids:=eB.mpr ⟨q,h,DD.mpr ⟨t,ht,rfl⟩⟩
theorem wF {d:Nat}(h:∀x∈L,x.length=d):∀x∈L.flatMap kids,x.length=d+1:=by
 intro x hx
 obtain⟨y,hy,hx⟩:=eB.mp hx
 obtain⟨k,_,rfl⟩:=DD.mp hx
 simp[h y hy]
theorem Hr (h:∀x∈L,C4 x):∀x∈L.flatMap kids,C4 x:=by
 intro x hx
 obtain⟨y,hy,hx⟩:=eB.mp hx
 obtain⟨k,hk,rfl⟩:=DD.mp hx
 exact BQ.mpr ⟨h y hy,hk⟩
theorem LI.next (H:BH same over sought){d:Nat}{R R' L':List Row}(I:LI same over sought d R L)(M:MI same over sought d R (L.flatMap kids) R' L'):LI same over sought (d+1) R' L':=by
 have hlen:=wF λx hx=>(I.hL x hx).1
 have W5:=Hr λx hx=>(I.hR x (I.hL x hx).2).1
 have LS:=M.sb.subset
 have cv:∀y,C4 y->over y=false->y.length<=d+1->∃q∈R',same q y=true/\sle q y:=by
  intro y h4 ho hl
  by_cases hd:y.length<=d
  ·obtain⟨q,hq,h⟩:=I.cv y h4 ho hd
   exact⟨q,by rw[M.e];exact bm _ hq,h⟩
  ·obtain⟨z,t,rfl,hz⟩:=rK (x:=y) (d:=d) (by omega)
   have c:=BQ.mp h4
   rcases Ai H I h4 ho hz with ⟨q,hq,hs,QE⟩ | ⟨q,hq,hs,Vx,QE⟩
   ·exact⟨q,by rw[M.e];exact bm _ hq,hs,.inl (by simp;omega)⟩
   ·obtain⟨p,hp,OW,IH⟩:=M.cv _ (CN hq c.2) (by rw[H.ov _ _ hs];exact ho)
    refine⟨p,hp,H.tr _ _ _ OW hs,?_⟩
    have hle:q++[t]=z++[t]\/lx (q++[t]) (z++[t]):=by
     rcases Vx with rfl | h
     ·exact .inl rfl
     ·exact .inr ((nY (by omega)).mpr (.inl h))
    rcases IH with h | ⟨h1,h2⟩
    ·exact .inl (by simp at h ⊢;omega)
    ·refine .inr ⟨by simp at h1 ⊢;omega,?_⟩
     rcases h2 with h2 | h2 <;> rcases hle with h3 | h3
     ·exact .inl (h2.trans h3)
     ·exact .inr (h2▸h3)
     ·exact .inr (h3▸h2)
     ·exact .inr (pC h2 h3)
 refine⟨(jB I.so λx hx=>(I.hL x hx).1).sublist M.sb,λx hx=>⟨hlen x (LS hx),by rw[M.e];exact cx _ hx⟩,?_,cv⟩
 intro x hx
 rw[M.e] at hx
 rcases bn.mp hx with hx | hx
 ·obtain⟨a,b,c,d',e⟩:=I.hR x hx
  exact⟨a,by omega,c,d',λz=>by omega⟩
 ·have:=M.ns x hx
  exact⟨W5 x (LS hx),by rw[hlen x (LS hx)];omega,this.1,this.2,λ_=>hx⟩
def Found (over sought:Row->Bool)(x:Row):Prop:=x≠[]/\C4 x/\over x=false/\sought x=true/\∀y,C4 y->over y=false->sought y=true->¬ (y.length < x.length\/(y.length=x.length/\lx y x))
theorem LI.found (H:BH same over sought){d:Nat}{R P Q R' L':List Row}{x:Row}(I:LI same over sought d R L)(e:L.flatMap kids=P++x::Q)(M:MI same over sought d R P R' L')(ho:over x=false)(hs:sought x=true):Found over sought x:=by
 have hlen:=wF λx hx=>(I.hL x hx).1
 have W5:=Hr λx hx=>(I.hR x (I.hL x hx).2).1
 have hx:x∈L.flatMap kids:=by rw[e];simp
 have hxl:=hlen x hx
 have Yb:=jB I.so λx hx=>(I.hL x hx).1
 rw[e] at Yb
 refine⟨λz=>by rw[z] at hxl;simp at hxl,W5 x hx,ho,hs,?_⟩
 intro y h4 W7 hsy BE
 have no:∀q∈R',same q y=true->False:=by
  intro q hq TC
  have P4:sought q=false:=by
   rw[M.e] at hq
   rcases bn.mp hq with hq | hq
   ·exact(I.hR q hq).2.2.2.1
   ·exact(M.ns q hq).2
  rw[H.so _ _ TC,hsy] at P4
  cases P4
 by_cases hd:y.length<=d
 ·obtain⟨q,hq,TC,_⟩:=I.cv y h4 W7 hd
  exact no q (by rw[M.e];exact bm _ hq) TC
 ·have hyl:y.length=d+1:=by omega
  have Vx:lx y x:=by
   rcases BE with h | h
   ·omega
   ·exact h.2
  obtain⟨z,t,rfl,hz⟩:=rK hyl
  have c:=BQ.mp h4
  rcases Ai H I h4 W7 hz with ⟨q,hq,TC,_⟩ | ⟨q,hq,TC,hq3,QE⟩
  ·exact no q (by rw[M.e];exact bm _ hq) TC
  ·have U0:lx (q++[t]) x:=by
    rcases hq3 with rfl | h
    ·exact Vx
    ·exact pC ((nY (by omega)).mpr (.inl h)) Vx
   have hm:=CN hq c.2
   rw[e] at hm
   have hmP:q++[t]∈P:=by
    rcases bn.mp hm with h | h
    ·exact h
    ·rcases be.mp h with h | h
     ·rw[h] at U0;exact(vh U0).elim
     ·have:=(List.pairwise_cons.mp (lT.mp Yb).2.1).1 _ h
      exact(vh (pC this U0)).elim
   obtain⟨p,hp,OW,_⟩:=M.cv _ hmP (by rw[H.ov _ _ TC];exact W7)
   exact no p hp (H.tr _ _ _ OW TC)
theorem Aj (H:BH same over sought):∀(f d:Nat) (R L:List Row),LI same over sought d R L->d<=10->12<=d+f->
  (Vw same over sought f R L=some none/\∀y,C4 y->over y=false->sought y=false)\/∃x,Vw same over sought f R L=some (some x)/\Found over sought x
 | 0,d,R,L,_,_,h=>by omega
 | f+1,d,R,[],I,h10,hf=>by
  refine .inl ⟨rfl,?_⟩
  have key:∀(n:Nat) (y:Row),y.length=n->C4 y->over y=false->∃q∈R,same q y=true:=by
   intro n
   induction n with
   | zero=>intro y hl h4 ho;obtain⟨q,hq,hs,_⟩:=I.cv y h4 ho (by omega);exact⟨q,hq,hs⟩
   | succ n ih=>
    intro y hl h4 ho
    by_cases hd:y.length<=d
    ·obtain⟨q,hq,hs,_⟩:=I.cv y h4 ho hd;exact⟨q,hq,hs⟩
    ·obtain⟨z,t,rfl,hz⟩:=rK hl
     have c:=BQ.mp h4
     have hoz:over z=false:=by
      cases e:over z with
      | false=>rfl
      | true=>rw[H.oo z t c.2 e] at ho;cases ho
     obtain⟨q,hq,hs⟩:=ih z hz c.1 hoz
     have hk:=H.kd q z t c.2 hs
     have hr:=I.hR q hq
     have hql:q.length < d:=by
      rcases gu q.length d with h | h
      ·exact h
      ·have:=hr.2.2.2.2 (by omega);cases this
     obtain⟨q',L3,DM,_⟩:=I.cv (q++[t]) (BQ.mpr ⟨hr.1,c.2⟩) (by rw[H.ov _ _ hk];exact ho) (by simp;omega)
     exact⟨q',L3,H.tr _ _ _ DM hk⟩
  intro y h4 ho
  obtain⟨q,hq,hs⟩:=key y.length y rfl h4 ho
  rw[← H.so _ _ hs]
  exact(I.hR q hq).2.2.2.1
 | f+1,d,R,n::ns,I,h10,hf=>by
  have hlen:=wF λx hx=>(I.hL x hx).1
  have sp:=wC H (R0:=R) (d:=d) (λx hx=>(I.hR x hx).2.1) ((n::ns).flatMap kids) [] R [] (by rw[gI];exact jB I.so λx hx=>(I.hL x hx).1) (by rw[gI];exact hlen) ⟨by simp,by simp,(λx hx=>by cases hx),(λx hx=>by cases hx)⟩
  rw[gI] at sp
  have hd9:d<=9:=by
   have h1:=I.hL n ar
   have h2:=(I.hR n h1.2).2.2.1
   rcases gu 9 d with h | h
   ·rw[H.z9 n (by omega)] at h2;cases h2
   ·omega
  unfold Vw
  split at sp
  ·rename_i o ho
   exact Aj H f (d+1) o.1 o.2 (I.next H sp) (by omega) (by omega)
  ·rename_i o ho
   obtain⟨P,Q,L',e,M,h1,h2⟩:=sp
   exact .inr ⟨o.2,rfl,I.found H e M h1 h2⟩
theorem LI.start (H:BH same over sought):LI same over sought 0 [[]] [[]]:=by
 refine⟨by simp,λx hx=>?_,λx hx=>?_,λy _ _ hl=>⟨[],by simp,?_⟩⟩
 ·rw[av] at hx;subst hx;simp
 ·rw[av] at hx;subst hx;exact⟨(λk hk=>by cases hk),by simp,H.o0,H.s0,λ_=>by simp⟩
 ·have:y=[]:=gy.mp (by omega)
  subst this
  exact⟨H.rf [],.inr ⟨rfl,.inl rfl⟩⟩
end
abbrev Pl:=List ((Int×Str)×Int)
noncomputable def E7 (p:Pl):PV:=.tup (p.map Kn)
def Yc (x:(Int×Str)×Int):AG:=.tp [.tp [.k (.inl x.1.1),.k (.inr x.1.2)],.k (.inl x.2)]
noncomputable def KO (p:Pl):List AG:=p.map Yc
theorem Ak (f:PV->Option AG)(hf:∀x,f (Kn x)=some (Yc x)):∀p:Pl,qt f (p.map Kn)=some (KO p)
 | []=>rfl
 | i::n=>by
  show (f (Kn i)).bind _=_
  rw[hf,aE,Ak f hf n]
  rfl
theorem tZ (p:Pl):AU (p.map Kn)=some (KO p):=by
 unfold AU gR
 split
 ·rename_i e
  match p,e with
  | [],e=>cases e
  | [_],e=>cases e
  | _::_::_,e=>injection e with e1 _;cases e1
 ·exact Ak _ (λi=>rfl) p
variable {y:(Int×Str)×Int}
theorem M8 {x:(Int×Str)×Int}(h:Yc x=Yc y):x=y:=by
 have h1:=AG.EM h
 injection h1 with a b
 have a1:=AG.EM a
 injection a1 with c d
 injection c with c;injection c with c
 injection d with d _;injection d with d;injection d with d
 injection b with b _;injection b with b;injection b with b
 obtain⟨⟨i,s⟩,n⟩:=x
 obtain⟨⟨j,t⟩,m⟩:=y
 simp only at c d b
 subst c d b
 rfl
theorem wG {p q:Pl}(h:KO p=KO q):p=q:=by
 unfold KO at h
 induction p generalizing q with
 | nil=>cases q with
  | nil=>rfl
  | cons=>cases h
 | cons x p ih=>cases q with
  | nil=>cases h
  | cons y q=>
   rw[a0,a0] at h
   injection h with h1 h2
   rw[M8 h1,ih h2]
theorem M9 {p q:Pl}(h:E7 p=E7 q):p=q:=by
 injection h with h
 have e:=dL AU h
 rw[tZ,tZ] at e
 exact wG (bi e)
section
variable {κ:Type}[DecidableEq κ]
theorem pD {kvs:List (κ×PV)}{k:κ}(h:aM kvs k=none):(kvs.any λkv=>decide (kv.1=k))=false:=by
 unfold aM at h
 rw[gS,eW] at h
 rw[kM]
 exact h
theorem jm {kvs:List (κ×PV)}{k:κ}(h:aM kvs k=none)(v:PV):bD kvs k v=kvs++[(k,v)]:=by
 unfold bD
 rw[pD h]
 rfl
theorem xR (kvs:List (κ×PV))(k:κ)(v:PV)(k':κ):aM (kvs++[(k,v)]) k'=(aM kvs k').or (if k=k' then some v else none):=by
 unfold aM
 rw[List.find?_append]
 cases h:kvs.find? λx=>decide (x.1=k') with
 | some y=>simp
 | none=>
  by_cases e:k=k'
  ·simp[e]
  ·simp[e]
end
theorem nZ {ps qs:List Pl}{p:Pl}(h:p∈ps):(ps++qs).idxOf p=ps.idxOf p:=by
 rw[List.idxOf_append,bd h]
theorem rM {ps:List Pl}{p:Pl}(h:p∈ps):ps[ps.idxOf p]?=some p:=by
 have hl:=List.idxOf_lt_length_iff.mpr h
 rw[af hl,List.getElem_idxOf]
structure Wd (pb:List PV->Option PV)(cn:Nat)(S:List PV)(B3:List (List AG×PV))(most:Int)(pl:Row->Pl):Prop where
 st:∀(w:WS) (n:Nat) (r:Row) (k:Nat) (s:PV),w.B3=B3->w.most=most->w.C0[n]?=some (E7 (pl r))->S[k]?=some s->pb [w.pv cn,.int n,s]=some (E7 (pl (r++[k])))
 z9:∀r,9 < r.length->pl r=[]
 S4:S.length=4
variable {B3:List (List AG×PV)}{most:Int}
theorem Wd.kd {pb:List PV->Option PV}{cn:Nat}{S:List PV}{pl:Row->Pl}(D:Wd pb cn S B3 most pl){x y:Row}{k:Nat}(hk:k < 4)(h:pl x=pl y):pl (x++[k])=pl (y++[k]):=by
 obtain⟨s,hs⟩:∃s,S[k]?=some s:=⟨_,af (by rw[D.S4];exact hk)⟩
 have a:=D.st { B3:=B3,most:=most,fin:=.AO,C0:=[E7 (pl x)],nums:=[],EH:=[] } 0 x k _ rfl rfl rfl hs
 have b:=D.st { B3:=B3,most:=most,fin:=.AO,C0:=[E7 (pl x)],nums:=[],EH:=[] } 0 y k _ rfl rfl (by rw[h];rfl) hs
 rw[a] at b
 exact M9 (bi b)
noncomputable def allR:Nat->List Row
 | 0=>[[]]
 | n+1=>[]::(List.range 4).flatMap λk=>(allR n).map λr=>k::r
theorem t6:∀{n:Nat}{r:Row},C4 r->r.length<=n->r∈allR n
 | 0,r,_,h=>by
  have:r=[]:=gy.mp (by omega)
  simp[allR,this]
 | n+1,[],_,_=>by simp[allR]
 | n+1,k::r,h,hl=>by
  unfold allR
  refine al _ (eB.mpr ⟨k,bP.mpr (h k ar),cb.mpr ⟨r,?_,rfl⟩⟩)
  exact t6 (λj hj=>h j (al _ hj)) (by simp at hl;omega)
theorem fc:∀n:Nat,(allR (n+1)).length=1+4*(allR n).length:=by
 intro n
 rw[allR,bv]
 show (([0,1,2,3]:qr).flatMap λk=>(allR n).map λr=>k::r).length+1=_
 simp[iO]
 omega
theorem Al:(allR 9).length=349525:=by
 rw[fc,fc,fc,fc,fc,fc,fc,fc,fc]
 rfl
structure WI (B3:List (List AG×PV))(most:Int)(fin:PV)(pl:Row->Pl)(w:WS)(ps:List Pl):Prop where
 ah:w.B3=B3
 mo:w.most=most
 fi:w.fin=fin
 pe:w.C0=ps.map E7
 nd:ps.Nodup
 rr:∀p∈ps,∃r,C4 r/\p=pl r
 nu:∀p,aM w.nums (KO p)=if p∈ps then some (.int (ps.idxOf p:Nat)) else none
 nl:w.nums.length=ps.length
 on:∀(n:Nat) l,aM w.EH (.inl (n:Int))=some l->∃r,ps[n]?=some (pl r)/\(∀k,k < 4->pl (r++[k])∈ps)/\l=.lst ((List.range 4).map λk=>.int (ps.idxOf (pl (r++[k])):Nat))
 ok:∃ks:List Nat,w.EH.map (·.1)=ks.map (λk=>.inl (k:Int))/\ks.Nodup/\∀k∈ks,k < ps.length
variable {r:Row}
section
variable {pb:List PV->Option PV}{cn:Nat}{S:List PV}{B3:List (List AG×PV)}{most:Int}{fin:PV}{pl:Row->Pl}{w:WS}{ps:List Pl}
theorem WI.Ug (D:Wd pb cn S B3 most pl)(I:WI B3 most fin pl w ps):ps.length<=349526:=by
 have h:ps ⊆ (allR 9).map pl++[[]]:=by
  intro p hp
  obtain⟨r,h4,rfl⟩:=I.rr p hp
  by_cases hr:r.length<=9
  ·exact bm _ (cb.mpr ⟨r,t6 h4 hr,rfl⟩)
  ·rw[D.z9 r (by omega)];simp
 have:=I.nd.length_le_of_subset h
 rw[bo,aI,Al] at this
 exact this
theorem WI.ZR (I:WI B3 most fin pl w ps):w.EH.length<=ps.length:=by
 obtain⟨ks,h1,h2,h3⟩:=I.ok
 have e:=dL List.length h1
 rw[aI,aI] at e
 have h:ks ⊆ List.range ps.length:=λk hk=>bP.mpr (h3 k hk)
 have:=h2.length_le_of_subset h
 rw[fg] at this
 omega
theorem WI.nop (D:Wd pb cn S B3 most pl)(I:WI B3 most fin pl w ps)(h4:C4 r):
  ∃w' qs,tQ w (E7 (pl r))=some ((((ps++qs).idxOf (pl r):Nat):Int),w')/\WI B3 most fin pl w' (ps++qs)/\pl r∈ps++qs/\w'.EH=w.EH:=by
 have hk:=tZ (pl r)
 have hn:=I.nu (pl r)
 by_cases hm:pl r∈ps
 ·rw[bd hm] at hn
  refine⟨w,[],?_,by rw[bE];exact I,by simpa using hm,rfl⟩
  unfold tQ E7
  simp only[hk,aE,hn,bE]
 ·rw[ax hm] at hn
  have hf:=I.Ug D
  have hl:w.C0.length=ps.length:=by rw[I.pe,aI]
  have hi:(ps++[pl r]).idxOf (pl r)=ps.length:=by
   rw[List.idxOf_append,ax hm]
   simp
  refine⟨{ w with nums:=bD w.nums (KO (pl r)) (.int (w.C0.length:Nat)),C0:=w.C0++[E7 (pl r)] },[pl r],?_,?_,by simp,rfl⟩
  ·unfold tQ E7
   simp only[hk,aE,hn]
   rw[bd ⟨by omega,by rw[I.nl];omega⟩,hi,hl]
  ·refine⟨I.ah,I.mo,I.fi,by show w.C0++[E7 (pl r)]=_;rw[I.pe];simp,?_,?_,?_,?_,?_,?_⟩
   ·rw[iA]
    exact⟨I.nd,by simp,λa ha b hb e=>by rw[av] at hb;subst hb e;exact hm ha⟩
   ·intro p hp
    rcases bn.mp hp with hp | hp
    ·exact I.rr p hp
    ·rw[av] at hp;exact⟨r,h4,hp⟩
   ·intro p
    show aM (bD w.nums (KO (pl r)) _) (KO p)=_
    rw[jm hn,xR,I.nu p]
    by_cases hp:p∈ps
    ·rw[bd hp,bd (bm _ hp),nZ hp];rfl
    ·rw[ax hp]
     by_cases e:pl r=p
     ·subst e
      rw[bd rfl,bd (by simp),hi,hl];rfl
     ·rw[ax (λz=>e (wG z)),ax]
      ·rfl
      ·intro z
       rcases bn.mp z with z | z
       ·exact hp z
       ·rw[av] at z;exact e z.symm
   ·show (bD w.nums (KO (pl r)) _).length=_
    rw[jm hn,bo,bo,I.nl];rfl
   ·intro n l h
    obtain⟨r',h1,h2,h3⟩:=I.on n l h
    refine⟨r',?_,λk hk=>bm _ (h2 k hk),?_⟩
    ·rw[d0 (ai.mp h1).1];exact h1
    ·rw[h3]
     congr 1
     refine dS λk hk=>?_
     rw[nZ (h2 k (bP.mp hk))]
   ·obtain⟨ks,h1,h2,h3⟩:=I.ok
    exact⟨ks,h1,h2,λk hk=>by have:=h3 k hk;simp;omega⟩
theorem WI.G2 (D:Wd pb cn S B3 most pl){r:Row}(h4:C4 r){n:Nat}:∀(T:List PV) (k:Nat) (w:WS) (ps:List Pl),T=S.drop k->k+T.length=4->WI B3 most fin pl w ps->ps[n]?=some (pl r)->
  ∃w' qs,G2 pb cn (n:Int) T w=some ((List.range' k T.length).map λj=>.int ((ps++qs).idxOf (pl (r++[j])):Nat),w')/\WI B3 most fin pl w' (ps++qs)/\(∀j,k<=j->j < 4->pl (r++[j])∈ps++qs)/\w'.EH=w.EH
 | [],k,w,ps,_,hk,I,hn=>⟨w,[],by simp[MR.G2],by simpa using I,λj h1 h2=>by simp at hk;omega,rfl⟩
 | s::T,k,w,ps,hT,hk,I,hn=>by
  have hs:S[k]?=some s:=by
   have:=dL (λl:List PV=>l[0]?) hT
   simp at this
   exact this.symm
  have hp:w.C0[n]?=some (E7 (pl r)):=by rw[I.pe,cp,hn];rfl
  have ZS:k < 4:=by simp at hk;omega
  have e1:=D.st w n r k s I.ah I.mo hp hs
  obtain⟨w1,qs,e2,I1,m1,o1⟩:=I.nop D (r:=r++[k]) (BQ.mpr ⟨h4,ZS⟩)
  have hT':T=S.drop (k+1):=by
   rw[← mT,← hT];rfl
  obtain⟨w2,qs2,e3,I2,m2,o2⟩:=WI.G2 D h4 (n:=n) T (k+1) w1 (ps++qs) hT' (by simp at hk;omega) I1 (by
   rw[d0 (ai.mp hn).1];exact hn)
  refine⟨w2,qs++qs2,?_,by rw[← d6];exact I2,?_,o2.trans o1⟩
  ·unfold MR.G2
   rw[e1]
   simp only[aE,e2,e3,bv,ox,a0,← d6]
   rw[nZ m1]
  ·intro j h1 h2
   rw[← d6]
   by_cases e:j=k
   ·subst e;exact bm _ m1
   ·exact m2 j (by omega) h2
theorem WI.lat (D:Wd pb cn S B3 most pl)(I:WI B3 most fin pl w ps)(h4:C4 r)(hr:pl r∈ps):
  ∃w' qs,tR pb cn S w (ps.idxOf (pl r):Nat)=some (.lst ((List.range 4).map λj=>.int ((ps++qs).idxOf (pl (r++[j])):Nat)),w')/\WI B3 most fin pl w' (ps++qs)/\∀j,j < 4->pl (r++[j])∈ps++qs:=by
 have hn:=rM hr
 generalize hN:ps.idxOf (pl r)=n at hn
 unfold tR
 cases ho:aM w.EH (.inl (n:Int)) with
 | some l=>
  obtain⟨r',h1,h2,h3⟩:=I.on n l ho
  have e:pl r'=pl r:=by rw[hn] at h1;exact(bi h1).symm
  refine⟨w,[],?_,by simpa using I,λj hj=>?_⟩
  ·simp only[h3,bE]
   congr 3
   refine dS λk hk=>?_
   rw[D.kd (bP.mp hk) e]
  ·rw[bE,← D.kd hj e];exact h2 j hj
 | none=>
  obtain⟨w1,qs,e1,I1,m1,o1⟩:=WI.G2 D h4 (n:=n) S 0 w ps (by simp) (by rw[D.S4]) I hn
  have hf:=I1.Ug D
  have XW:=I1.ZR
  rw[D.S4,← li] at e1
  have Vj:aM w1.EH (.inl (n:Int))=none:=by rw[o1];exact ho
  refine⟨{ w1 with EH:=bD w1.EH (.inl (n:Int)) (.lst ((List.range 4).map λj=>.int ((ps++qs).idxOf (pl (r++[j])):Nat))) },qs,?_,?_,λj hj=>m1 j (by omega) hj⟩
  ·simp only[e1,aE]
   rw[bd ⟨by omega,by simp⟩]
  ·have hnl:n < ps.length:=(ai.mp hn).1
   refine⟨I1.ah,I1.mo,I1.fi,I1.pe,I1.nd,I1.rr,I1.nu,I1.nl,?_,?_⟩
   ·intro n' l h
    have h:aM (bD w1.EH (.inl (n:Int)) _) (.inl (n':Int))=some l:=h
    rw[jm Vj,xR] at h
    cases h1:aM w1.EH (.inl (n':Int)) with
    | some l'=>rw[h1] at h;cases h;exact I1.on n' _ h1
    | none=>
     rw[h1] at h
     by_cases e:(Sum.inl (n:Int):Key)=.inl (n':Int)
     ·rw[bd e] at h
      cases h
      injection e with e
      have e:n=n':=by omega
      subst e
      exact⟨r,by rw[d0 hnl];exact hn,λk hk=>m1 k (by omega) hk,rfl⟩
     ·rw[ax e] at h;cases h
   ·obtain⟨ks,h1,h2,h3⟩:=I1.ok
    refine⟨ks++[n],?_,?_,?_⟩
    ·show (bD w1.EH (.inl (n:Int)) _).map (·.1)=_
     rw[jm Vj,dc,h1];simp
    ·rw[iA]
     refine⟨h2,by simp,λa ha b hb e=>?_⟩
     rw[av] at hb
     subst hb e
     have:(.inl (a:Int):Key)∈w1.EH.map (·.1):=by rw[h1];exact cb.mpr ⟨a,ha,rfl⟩
     obtain⟨y,hy,ey⟩:=cb.mp this
     have:=pD Vj
     rw[kM] at this
     exact this y hy (by simpa using ey)
    ·intro k hk
     rcases bn.mp hk with hk | hk
     ·exact h3 k hk
     ·rw[av] at hk;subst hk;simp;omega
end
inductive Chain (W:List (List AG×PV)):List Int->List PV->Prop
 | nil {n:qS}:aM W (bu n)=some .AO->Chain W n []
 | snoc {n n':qS}{s:PV}{ss:List PV}:aM W (bu n')=some (.tup [B5 n,s])->Chain W n ss->Chain W n' (ss++[s])
structure BG (pb:List PV->Option PV)(cn:Nat)(S:List PV)(io so ro:List PV->Option PV){T:Type}(le:T->T->Prop)(EL:T->List WS->Prop)(nd:T->Row->List Int)(has:T->Row->Prop)(same:Row->Row->Bool)(over sought:Row->Bool):Prop where
 S4:S.length=4
 mono:∀t t' r,le t t'->has t r->has t' r/\nd t' r=nd t r
 inj:∀t r r',has t r->has t r'->(nd t r=nd t r'↔same r r'=true)
 nb:∀t ws r,EL t ws->has t r->C4 r->∃t' EZ,le t t'/\EL t' EZ/\Vn pb cn S ws (nd t r)=some ((List.range 4).map λk=>nd t' (r++[k]),EZ)/\∀k,k < 4->has t' (r++[k])
 io:∀t ws r,EL t ws->has t r->∃w0 wr n nr,ws=w0::wr/\nd t r=n::nr/\io [w0.pv cn,.int n]=some (.bl (over r))
 so:∀t ws r,EL t ws->has t r->so [.lst (ws.map λw=>w.pv cn),B5 (nd t r)]=some (.bl (sought r))
 ro:∀W n ss,Chain W n ss->ss.length<=9->ro [.dT W,B5 n]=some (.lst ss)
 z9:∀x,9 < x.length->over x=true
theorem JZ {a b:qS}(h:bu a=bu b):a=b:=by
 unfold bu at h
 induction a generalizing b with
 | nil=>cases b with
  | nil=>rfl
  | cons=>cases h
 | cons x a ih=>cases b with
  | nil=>cases h
  | cons y b=>
   rw[a0,a0] at h
   injection h with h1 h2
   injection h1 with h1
   injection h1 with h1
   rw[h1,ih h2]
section
variable {pb:List PV->Option PV}{cn:Nat}{S:List PV}{io so ro:List PV->Option PV}{T:Type}{le:T->T->Prop}{EL:T->List WS->Prop}{nd:T->Row->List Int}{has:T->Row->Prop}{same:Row->Row->Bool}{over sought:Row->Bool}
noncomputable def cd (S:List PV)(k:Nat):PV:=S.getD k .AO
noncomputable def ent (S:List PV)(nd:T->Row->List Int)(t:T)(r:Row):List AG×PV:=(bu (nd t r),match r.getLast? with
 | none=>.AO
 | some k=>.tup [B5 (nd t r.dropLast),cd S k])
structure Jn (S:List PV)(EL:T->List WS->Prop)(nd:T->Row->List Int)(has:T->Row->Prop)(same:Row->Row->Bool)(t:T)(R L:List Row)(st:FS):Prop where
 ws:EL t st.ws
 hs:∀r∈R,has t r/\C4 r/\r.length<=9
 cl:∀r k,r++[k]∈R->r∈R
 ij:∀r∈R,∀q∈R,same r q=true->r=q
 nu:R.Nodup
 wy:st.A0=R.map (ent S nd t)
 la:st.later=L.map (nd t)
 ll:L.length<=R.length
variable {t:T}{R L:List Row}{st:FS}
theorem Jn.Ug (I:Jn S EL nd has same t R L st):R.length<=349525:=by
 have:=I.nu.length_le_of_subset (λr hr=>t6 (n:=9) (I.hs r hr).2.1 (I.hs r hr).2.2)
 rw[Al] at this
 exact this
theorem J0 (B:BG pb cn S io so ro le EL nd has same over sought){t':T}(hle:le t t'){R:List Row}(hs:∀r∈R,has t r)(cl:∀r k,r++[k]∈R->r∈R):R.map (ent S nd t')=R.map (ent S nd t):=by
 refine dS λr hr=>?_
 have h1:=(B.mono t t' r hle (hs r hr)).2
 unfold ent
 rw[h1]
 congr 1
 cases e:r.getLast? with
 | none=>rfl
 | some k=>
  have A3:r≠[]:=by intro z;rw[z] at e;cases e
  have e2:r=r.dropLast++[r.getLast A3]:=(jv A3).symm
  have h2:=(B.mono t t' _ hle (hs _ (cl r.dropLast (r.getLast A3) (by rw[← e2];exact hr)))).2
  dsimp only
  rw[h2]
theorem Jn.up (B:BG pb cn S io so ro le EL nd has same over sought)(I:Jn S EL nd has same t R L st){t':T}{EZ:List WS}(hle:le t t')(hw:EL t' EZ)(hL:L ⊆ R):Jn S EL nd has same t' R L { st with ws:=EZ }:=by
 refine⟨hw,λr hr=>⟨(B.mono t t' r hle (I.hs r hr).1).1,(I.hs r hr).2⟩,I.cl,I.ij,I.nu,?_,?_,I.ll⟩
 ·show st.A0=_
  rw[J0 B hle (λr hr=>(I.hs r hr).1) I.cl];exact I.wy
 ·show st.later=_
  rw[I.la]
  exact dS λr hr=>(B.mono t t' r hle (I.hs r (hL hr)).1).2.symm
theorem t7 (B:BG pb cn S io so ro le EL nd has same over sought)(hs:∀r∈R,has t r)(x:Row)(hx:has t x):aM (R.map (ent S nd t)) (bu (nd t x))=(R.find? λq=>same q x).map λq=>(ent S nd t q).2:=by
 unfold aM
 rw[p0,p4]
 have:∀l:List Row,(∀r∈l,has t r)->(l.find? ((λy:List AG×PV=>decide (y.1=bu (nd t x)))∘ent S nd t))=l.find? λq=>same q x:=by
  intro l
  induction l with
  | nil=>intro _;rfl
  | cons r l ih=>
   intro h
   have e:decide ((ent S nd t r).1=bu (nd t x))=same r x:=by
    have h1:=B.inj t r x (h r ar) hx
    show decide (bu (nd t r)=bu (nd t x))=_
    cases hq:same r x with
    | true=>rw[h1.mpr hq];simp
    | false=>
     rw[oB]
     intro z
     rw[h1.mp (JZ z)] at hq
     cases hq
   rw[gz,gz]
   show (match decide ((ent S nd t r).1=bu (nd t x)) with | true=>_ | false=>_)=_
   rw[e,ih λr hr=>h r (al _ hr)]
   cases same r x <;> rfl
 rw[this R hs]
 rfl
theorem Jn.chain (B:BG pb cn S io so ro le EL nd has same over sought)(rf:∀x,same x x=true)(I:Jn S EL nd has same t R L st):∀(n:Nat) (r:Row),r.length=n->r∈R->Chain st.A0 (nd t r) (r.map (cd S)):=by
 have lk:∀r∈R,aM st.A0 (bu (nd t r))=some (ent S nd t r).2:=by
  intro r hr
  rw[I.wy,t7 B (λr hr=>(I.hs r hr).1) r (I.hs r hr).1]
  cases h:R.find? λq=>same q r with
  | none=>exact absurd (rf r) (by simpa using eW.mp h r hr)
  | some q=>
   have h1:=l9 h
   have h2:=I.ij q (im h) r hr h1
   rw[h2];rfl
 intro n
 induction n with
 | zero=>
  intro r hl hr
  have:r=[]:=gy.mp hl
  subst this
  exact .nil (lk [] hr)
 | succ n ih=>
  intro r hl hr
  obtain⟨y,k,rfl,hy⟩:=rK hl
  rw[dc]
  refine .snoc ?_ (ih y hy (I.cl y k hr))
  rw[lk _ hr]
  simp[ent]
theorem Jn.put (B:BG pb cn S io so ro le EL nd has same over sought)(sy:∀x y,same x y=true->same y x=true)(I:Jn S EL nd has same t R L st){k:Nat}(hr:r∈R)(hk:k < 4)(hh:has t (r++[k]))(ho:over (r++[k])=false)(hn:(R.any λq=>same q (r++[k]))=false)(v:Bool):
  Jn S EL nd has same t (R++[r++[k]]) (L++[r++[k]]) { st with A0:=bD st.A0 (bu (nd t (r++[k]))) (.tup [B5 (nd t r),cd S k]),later:=st.later++[nd t (r++[k])] }:=by
 have ML:∀q∈R,¬ same q (r++[k])=true:=by simpa using hn
 have hl9:(r++[k]).length<=9:=by
  rcases gu 9 (r++[k]).length with h | h
  ·rw[B.z9 _ h] at ho;cases ho
  ·exact h
 have Yd:aM st.A0 (bu (nd t (r++[k])))=none:=by
  rw[I.wy,t7 B (λr hr=>(I.hs r hr).1) _ hh,gS,eW]
  exact ML
 refine⟨I.ws,?_,?_,?_,?_,?_,?_,by simp;exact I.ll⟩
 ·intro q hq
  rcases bn.mp hq with hq | hq
  ·exact I.hs q hq
  ·rw[av] at hq;subst hq
   exact⟨hh,BQ.mpr ⟨(I.hs r hr).2.1,hk⟩,hl9⟩
 ·intro q j hq
  rcases bn.mp hq with hq | hq
  ·exact bm _ (I.cl q j hq)
  ·rw[av] at hq
   have:=(List.append_inj' hq rfl).1
   rw[this];exact bm _ hr
 ·intro a ha b hb hs
  rcases bn.mp ha with ha | ha <;> rcases bn.mp hb with hb | hb
  ·exact I.ij a ha b hb hs
  ·rw[av] at hb;subst hb;exact(ML a ha hs).elim
  ·rw[av] at ha;subst ha;exact(ML b hb (sy _ _ hs)).elim
  ·rw[av] at ha hb;rw[ha,hb]
 ·rw[iA]
  refine⟨I.nu,by simp,λa ha b hb e=>?_⟩
  rw[av] at hb
  subst e
  subst hb
  have:=(B.inj t _ _ hh hh).mp rfl
  exact ML _ ha this
 ·show bD st.A0 _ _=_
  rw[jm Yd,I.wy,dc]
  simp[ent]
 ·show st.later++_=_
  rw[I.la,dc];rfl
theorem Am (A:List Row):∀(R L X:List Row),bf same over sought R L (X++A)=match bf same over sought R L X with
  | .inl o=>bf same over sought o.1 o.2 A
  | .inr o=>.inr o
 | R,L,[]=>by simp[bf]
 | R,L,x::X=>by
  have eb:∀Y,bf same over sought R L (x::Y)=if dead same over R x=true then bf same over sought R L Y else if sought x=true then .inr (R,x) else bf same over sought (R++[x]) (L++[x]) Y:=λ_=>rfl
  rw[g9,eb,eb]
  by_cases hd:dead same over R x=true
  ·rw[bd hd,bd hd];exact Am A R L X
  ·rw[ax hd,ax hd]
   by_cases hs:sought x=true
   ·rw[bd hs,bd hs]
   ·rw[ax hs,ax hs];exact Am A _ _ X
variable (B:BG pb cn S io so ro le EL nd has same over sought)(H:BH same over sought)
include B H
theorem pF {r:Row}:∀(ks:qr) (R L:List Row) (st:FS),(∀k∈ks,k < 4/\has t (r++[k]))->Jn S EL nd has same t R L st->r∈R->L ⊆ R->
  match bf same over sought R L (ks.map λk=>r++[k]) with
  | .inl o=>(∃BU,mC cn io so ro (nd t r) (ks.map λk=>(cd S k,nd t (r++[k]))) st=some (.inl BU)/\Jn S EL nd has same t o.1 o.2 BU)/\R ⊆ o.1/\o.2 ⊆ o.1
  | .inr o=>mC cn io so ro (nd t r) (ks.map λk=>(cd S k,nd t (r++[k]))) st=some (.inr (.lst (o.2.map (cd S))))
 | [],R,L,st,_,I,_,hL=>by
  simp only[iE,bf]
  exact⟨⟨st,rfl,I⟩,λ_ h=>h,hL⟩
 | k::ks,R,L,st,hk,I,hr,hL=>by
  have GH:=λj hj=>hk j (al k hj)
  obtain⟨ZS,hh⟩:=hk k ar
  have lk:=t7 B (S:=S) (R:=R) (λr hr=>(I.hs r hr).1) _ hh
  rw[← I.wy] at lk
  simp only[a0]
  by_cases ha:(R.any λq=>same q (r++[k]))=true
  ·have hd:dead same over R (r++[k])=true:=by simp[dead,ha]
   have e1:mz cn io so ro (nd t r) (cd S k,nd t (r++[k])) st=some (.inl st):=by
    obtain⟨q,hq,hs⟩:=i8.mp ha
    cases h:R.find? λq=>same q (r++[k]) with
    | none=>exact absurd hs (by simpa using eW.mp h q hq)
    | some q=>
     rw[h] at lk
     unfold mz
     simp only[lk,iq]
   have:=pF ks R L st GH I hr hL
   simp only[bf,bd hd]
   unfold mC
   simp only[e1,aE]
   exact this
  ·have ha:(R.any λq=>same q (r++[k]))=false:=by simpa using ha
   have Yd:aM st.A0 (bu (nd t (r++[k])))=none:=by
    rw[lk,gS,eW]
    simpa using ha
   obtain⟨w0,wr,n,nr,ew,en,Ye⟩:=B.io t st.ws _ I.ws hh
   have Fh:=I.Ug
   have hll:=I.ll
   have EJ:st.A0.length=R.length:=by rw[I.wy,aI]
   have hlal:st.later.length=L.length:=by rw[I.la,aI]
   have eso:=B.so t st.ws _ I.ws hh
   cases ho:over (r++[k]) with
   | true=>
    have hd:dead same over R (r++[k])=true:=by simp[dead,ho]
    have e1:mz cn io so ro (nd t r) (cd S k,nd t (r++[k])) st=some (.inl st):=by
     unfold mz
     simp only[Yd]
     rw[ho] at Ye
     simp only[ew,en,Ye,aE]
    have:=pF ks R L st GH I hr hL
    simp only[bf,bd hd]
    unfold mC
    simp only[e1,aE]
    exact this
   | false=>
    have hd:¬ dead same over R (r++[k])=true:=by simp[dead,ho,ha]
    have I2:=I.put B H.sy hr ZS hh ho ha true
    rw[ho] at Ye
    have e0:mz cn io so ro (nd t r) (cd S k,nd t (r++[k])) st=(if st.A0.length < 1000000/\st.later.length < 1000000 then
     (so [.lst (st.ws.map λw=>w.pv cn),B5 (nd t (r++[k]))]).bind λs=>match s with
      | .bl true=>(ro [.dT (bD st.A0 (bu (nd t (r++[k]))) (.tup [B5 (nd t r),cd S k])),B5 (nd t (r++[k]))]).bind λv=>some (.inr v)
      | .bl false=>some (.inl { st with A0:=bD st.A0 (bu (nd t (r++[k]))) (.tup [B5 (nd t r),cd S k]),later:=st.later++[nd t (r++[k])] })
      | _=>none
     else none):=by
     unfold mz
     simp only[Yd]
     rw[ew]
     generalize hN:nd t (r++[k])=N at *
     rw[en]
     simp only[Ye,aE]
     try rfl
    rw[bd ⟨by omega,by omega⟩,eso,aE] at e0
    cases hs:sought (r++[k]) with
    | true=>
     rw[hs] at e0
     have hm:r++[k]∈R++[r++[k]]:=by simp
     have ch:=I2.chain B H.rf _ _ rfl hm
     have er:=B.ro _ _ _ ch (by rw[aI];exact(I2.hs _ hm).2.2)
     simp only[er,aE] at e0
     simp only[bf,ax hd,bd hs]
     unfold mC
     simp only[e0,aE]
    | false=>
     rw[hs] at e0
     simp only at e0
     have:=pF ks (R++[r++[k]]) (L++[r++[k]]) _ GH I2 (bm _ hr) (by
      intro y hy
      rcases bn.mp hy with hy | hy
      ·exact bm _ (hL hy)
      ·exact cx _ hy)
     have DM:¬ sought (r++[k])=true:=by rw[hs];simp
     simp only[bf,ax hd,ax DM]
     unfold mC
     simp only[e0,aE]
     split at this
     ·rename_i o e
      exact⟨this.1,λy hy=>this.2.1 (bm _ hy),this.2.2⟩
     ·exact this
omit B H in
theorem J3 (hS:S.length=4)(f:Nat->List Int):S.zip ((List.range 4).map f)=(List.range 4).map λk=>(cd S k,f k):=by
 match S,hS with
 | [a,b,c,d],_=>rfl
theorem An:∀(Ls:List Row) (t:T) (R L:List Row) (st:FS),Ls ⊆ R->Jn S EL nd has same t R L st->L ⊆ R->
  match bf same over sought R L (Ls.flatMap kids) with
  | .inl o=>∃t' BU,qI pb cn S io so ro (Ls.map (nd t)) st=some (.inl BU)/\Jn S EL nd has same t' o.1 o.2 BU/\o.2 ⊆ o.1
  | .inr o=>qI pb cn S io so ro (Ls.map (nd t)) st=some (.inr (.lst (o.2.map (cd S))))
 | [],t,R,L,st,_,I,hL=>by
  simp only[List.flatMap_nil,bf]
  exact⟨t,st,rfl,I,hL⟩
 | r::Ls,t,R,L,st,hR,I,hL=>by
  have hr:r∈R:=hR ar
  obtain⟨t1,ws1,hle,WX,enb,hk⟩:=B.nb t st.ws r I.ws (I.hs r hr).1 (I.hs r hr).2.1
  have I1:=I.up B hle WX hL
  have er:nd t r=nd t1 r:=((B.mono t t1 r hle (I.hs r hr).1).2).symm
  have sp:=pF B H (r:=r) (List.range 4) R L _ (λk GH=>⟨bP.mp GH,hk k (bP.mp GH)⟩) I1 hr hL
  rw[iO,Am,a0]
  have ek:kids r=(List.range 4).map λk=>r++[k]:=rfl
  rw[← ek] at sp
  unfold qI
  simp only[enb,aE,J3 B.S4]
  rw[er]
  cases hb:bf same over sought R L (kids r) with
  | inr o=>
   rw[hb] at sp
   simp only at sp ⊢
   simp only[sp,aE]
  | inl o=>
   rw[hb] at sp
   obtain⟨⟨BU,e1,I2⟩,s1,s2⟩:=sp
   simp only[e1,aE]
   have hLs:Ls ⊆ o.1:=λy hy=>s1 (hR (al _ hy))
   have em:Ls.map (nd t)=Ls.map (nd t1):=dS λy hy=>(B.mono t t1 y hle (I.hs y (hR (al _ hy))).1).2.symm
   have:=An Ls t1 o.1 o.2 BU hLs I2 s2
   rw[em]
   exact this
theorem Ao:∀(f:Nat) (t:T) (R L:List Row) (st:FS),Jn S EL nd has same t R L st->L ⊆ R->
  tU pb cn S io so ro f (L.map (nd t)) st=(Vw same over sought f R L).map λo=>match o with
   | none=>.AO
   | some x=>.lst (x.map (cd S))
 | 0,t,R,L,st,I,hL=>rfl
 | f+1,t,R,[],st,I,hL=>rfl
 | f+1,t,R,n::ns,st,I,hL=>by
  have I0:Jn S EL nd has same t R [] { st with later:=[] }:=⟨I.ws,I.hs,I.cl,I.ij,I.nu,I.wy,rfl,by simp⟩
  have sp:=An B H (n::ns) t R [] _ hL I0 (by simp)
  rw[a0] at sp ⊢
  unfold tU Vw
  cases hb:bf same over sought R [] ((n::ns).flatMap kids) with
  | inl o=>
   rw[hb] at sp
   obtain⟨t',BU,e1,I1,s1⟩:=sp
   simp only[e1,aE]
   rw[I1.la]
   exact Ao f t' o.1 o.2 BU I1 s1
  | inr o=>
   rw[hb] at sp
   simp only at sp
   simp only[sp,aE,iq]
theorem M_ {ws:List WS}(hw:EL t ws)(h0:nd t []=List.replicate ws.length 0)(hh:has t []):
  (Vs pb cn S io so ro ws=some .AO/\∀y,C4 y->over y=false->sought y=false)\/∃x,Vs pb cn S io so ro ws=some (.lst (x.map (cd S)))/\Found over sought x:=by
 have I:Jn S EL nd has same t [[]] [[]] { ws:=ws,A0:=[(bu (List.replicate ws.length 0),.AO)],later:=[List.replicate ws.length 0] }:=by
  refine⟨hw,?_,?_,?_,by simp,?_,?_,by simp⟩
  ·intro r hr;rw[av] at hr;subst hr;exact⟨hh,(λk hk=>by cases hk),by simp⟩
  ·intro r k h;rw[av] at h;simp at h
  ·intro r hr q hq _;rw[av] at hr hq;rw[hr,hq]
  ·simp[ent,h0]
  ·simp[h0]
 have e:=Ao B H 1000 t [[]] [[]] _ I (λ_ h=>h)
 rw[a0,iE,h0] at e
 unfold Vs
 rw[e]
 rcases Aj H 1000 0 [[]] [[]] (LI.start H) (by decide) (by decide) with ⟨h1,h2⟩ | ⟨x,h1,h2⟩
 ·rw[h1];exact .inl ⟨rfl,h2⟩
 ·rw[h1];exact .inr ⟨x,rfl,h2⟩
end
theorem qO (f:Nat->Int):∀l:List Nat,oZ (l.map λk=>PV.int (f k))=some (l.map f)
 | []=>rfl
 | k::l=>by
  rw[a0,oZ,qO f l]
  rfl
section
variable {pb:List PV->Option PV}{cn:Nat}{S:List PV}{io so ro:List PV->Option PV}{a1 a2:List (List AG×PV)}{m1 m2:Int}{f1 f2:PV}{p1 p2:Row->Pl}
def le2 (t t':List Pl×List Pl):Prop:=(∃q,t'.1=t.1++q)/\∃q,t'.2=t.2++q
def SJ (a1 a2:List (List AG×PV))(m1 m2:Int)(f1 f2:PV)(p1 p2:Row->Pl)(t:List Pl×List Pl)(ws:List WS):Prop:=∃w1 w2,ws=[w1,w2]/\WI a1 m1 f1 p1 w1 t.1/\WI a2 m2 f2 p2 w2 t.2
noncomputable def W8 (p1 p2:Row->Pl)(t:List Pl×List Pl)(r:Row):List Int:=[(t.1.idxOf (p1 r):Nat),(t.2.idxOf (p2 r):Nat)]
def SM (p1 p2:Row->Pl)(t:List Pl×List Pl)(r:Row):Prop:=p1 r∈t.1/\p2 r∈t.2
noncomputable def yw (p1 p2:Row->Pl)(r r':Row):Bool:=decide (p1 r=p1 r'/\p2 r=p2 r')
theorem CP {ps:List Pl}{p q:Pl}(hp:p∈ps)(hq:q∈ps)(h:ps.idxOf p=ps.idxOf q):p=q:=by
 have a:=rM hp
 have b:=rM hq
 rw[h,b] at a
 exact(bi a).symm
theorem bg2 (D1:Wd pb cn S a1 m1 p1)(D2:Wd pb cn S a2 m2 p2){sought:Row->Bool}
  (hio:∀w ps r,WI a1 m1 f1 p1 w ps->p1 r∈ps->io [w.pv cn,.int (ps.idxOf (p1 r):Nat)]=some (.bl (decide (p1 r=[]))))
  (Yb:∀w1 w2 Yf Yg r,WI a1 m1 f1 p1 w1 Yf->WI a2 m2 f2 p2 w2 Yg->p1 r∈Yf->p2 r∈Yg->so [.lst [w1.pv cn,w2.pv cn],.tup [.int (Yf.idxOf (p1 r):Nat),.int (Yg.idxOf (p2 r):Nat)]]=some (.bl (sought r)))
  (Zx:∀W n ss,Chain W n ss->ss.length<=9->ro [.dT W,B5 n]=some (.lst ss)):
  BG pb cn S io so ro le2 (SJ a1 a2 m1 m2 f1 f2 p1 p2) (W8 p1 p2) (SM p1 p2) (yw p1 p2) (λr=>decide (p1 r=[])) sought:=by
 refine⟨D1.S4,?_,?_,?_,?_,?_,Zx,?_⟩
 ·rintro ⟨t1,t2⟩ ⟨u1,u2⟩ r ⟨⟨q1,e1⟩,q2,e2⟩ ⟨h1,h2⟩
  simp only at e1 e2 h1 h2
  subst e1 e2
  refine⟨⟨bm _ h1,bm _ h2⟩,?_⟩
  unfold W8
  simp only[nZ h1,nZ h2]
 ·rintro ⟨t1,t2⟩ r r' ⟨h1,h2⟩ ⟨g1,g2⟩
  unfold W8 yw
  simp only[List.cons.injEq,and_true,eD]
  constructor
  ·rintro ⟨x,y⟩
   exact⟨CP h1 g1 (Int.ofNat.inj x),CP h2 g2 (Int.ofNat.inj y)⟩
  ·rintro ⟨x,y⟩
   rw[x,y];exact⟨rfl,rfl⟩
 ·rintro ⟨t1,t2⟩ ws r ⟨w1,w2,rfl,I1,I2⟩ ⟨h1,h2⟩ h4
  obtain⟨w1',q1,e1,J1,k1⟩:=I1.lat D1 h4 h1
  obtain⟨w2',q2,e2,J2,k2⟩:=I2.lat D2 h4 h2
  refine⟨(t1++q1,t2++q2),[w1',w2'],⟨⟨q1,rfl⟩,q2,rfl⟩,⟨w1',w2',rfl,J1,J2⟩,?_,λk hk=>⟨k1 k hk,k2 k hk⟩⟩
  have i1:=qO (λk=>((t1++q1).idxOf (p1 (r++[k])):Nat)) (List.range 4)
  have i2:=qO (λk=>((t2++q2).idxOf (p2 (r++[k])):Nat)) (List.range 4)
  unfold Vn W8
  simp only[Vm,e1,e2,aE,uT,i1,i2,D1.S4]
  simp only[aI,fg,f8,aE]
  rfl
 ·rintro ⟨t1,t2⟩ ws r ⟨w1,w2,rfl,I1,I2⟩ ⟨h1,h2⟩
  exact⟨w1,[w2],_,_,rfl,rfl,hio w1 t1 r I1 h1⟩
 ·rintro ⟨t1,t2⟩ ws r ⟨w1,w2,rfl,I1,I2⟩ ⟨h1,h2⟩
  exact Yb w1 w2 t1 t2 r I1 I2 h1 h2
 ·intro x hx
  simp[D1.z9 x hx]
theorem bh2 (D1:Wd pb cn S a1 m1 p1)(D2:Wd pb cn S a2 m2 p2){sought:Row->Bool}(hs:∀x y,p1 x=p1 y->p2 x=p2 y->sought x=sought y)(h0:p1 []≠[])(hs0:sought []=false)(hoo:∀x k,k < 4->p1 x=[]->p1 (x++[k])=[]):
  BH (yw p1 p2) (λr=>decide (p1 r=[])) sought:=by
 unfold yw
 refine⟨λx=>by simp,λx y h=>?_,λx y z h g=>?_,λx y k hk h=>?_,λx y h=>?_,λx y h=>?_,λx k hk h=>?_,by simpa using h0,hs0,λx hx=>by simp[D1.z9 x hx]⟩
 ·simp only[eD] at h ⊢;exact⟨h.1.symm,h.2.symm⟩
 ·simp only[eD] at h g ⊢;exact⟨h.1.trans g.1,h.2.trans g.2⟩
 ·simp only[eD] at h ⊢;exact⟨D1.kd hk h.1,D2.kd hk h.2⟩
 ·simp only[eD] at h;rw[h.1]
 ·simp only[eD] at h;exact hs x y h.1 h.2
 ·simp only[eD] at h ⊢;exact hoo x k hk h
theorem WI.new {fin:PV}{pl:Row->Pl}:WI B3 most fin pl { B3:=B3,most:=most,fin:=fin,C0:=[E7 (pl [])],nums:=[(KO (pl []),.int 0)],EH:=[] } [pl []]:=by
 refine⟨rfl,rfl,rfl,rfl,by simp,λp hp=>⟨[],(λk hk=>by cases hk),by simpa using hp⟩,λp=>?_,rfl,(λn l h=>by cases h),⟨[],rfl,by simp,(λk hk=>by cases hk)⟩⟩
 unfold aM
 by_cases e:p=pl []
 ·subst e;simp
 ·have:¬ KO (pl [])=KO p:=λz=>e (wG z).symm
  simp[this,e]
end
abbrev Rest:=Nat×List Nat
noncomputable def NO (l:qr):Str:=⟨l.toArray⟩
noncomputable def CL (x:Rest):Int×Str:=((x.1:Int),NO x.2)
noncomputable def DT (x:Rest):PV:=.tup [.int (x.1:Nat),.str (NO x.2)]
theorem CQ {a b:qr}(h:NO a=NO b):a=b:=by
 have:=dL (λs:Str=>s.cps.toList) h
 simpa [NO] using this
theorem rN {x y:Rest}(h:CL x=CL y):x=y:=by
 obtain⟨a,b⟩:=x
 obtain⟨c,d⟩:=y
 unfold CL at h
 injection h with h1 h2
 have h1:a=c:=by simp at h1;omega
 have h2:b=d:=CQ h2
 rw[h1,h2]
theorem CT:NO []=("" : Str):=by decide +kernel
theorem gF (p:Str):p.cps.toList.length=p.length:=gL
def FO (m:re)(t:ED):Rest:=(t.1,if 0 < t.2.2 then (((m[t.1]?).bind λs=>s.1[t.2.1]?).map λp=>p.cps.toList.drop t.2.2).getD [] else [])
theorem Hs (p:Str)(i:Nat)(h:i<=p.length):l_ p (some (i:Int)) none=NO (p.cps.toList.drop i):=by
 unfold l_ NO HT.A4
 congr 2
 simp
 rw[ax (by omega),Nat.min_eq_left h,pd]
 rw[gp,gF];exact aw _
theorem wH (hm:aW m){t:ED}(st:NM m t.1 t.2.1 t.2.2):bN [mP m,cD t]=some (DT (FO m t)):=by
 obtain⟨slot,k,i⟩:=t
 simp only at st
 unfold FO
 by_cases hi:0 < i
 ·have BE:slot < m.length:=by
   rcases gu slot m.length with h | h
   ·exact h
   ·have:=st.le;have:=(st.fin (by omega)).2;omega
  obtain⟨s,hs⟩:∃s,m[slot]?=some s:=⟨m[slot],af BE⟩
  rcases st.mid s hs with h | ⟨p,hp,_,LV⟩
  ·omega
  ·have h1:=wB hs
   have h2:=Ag hp
   have ok:=(hm s (dn hs)).ok p (dn hp)
   have h3:p.length<=1000000:=by have:=ok.le;omega
   have h4:=Hs p i (by omega)
   have L8:(0:Int) < i:=by omega
   simp[bN,j5,mP,cD,E6,h1,BM,h2,h3,h4,hi,hs,hp,DT]
 ·have L8:¬ (0:Int) < i:=by omega
  have e:=CT
  simp[bN,j5,mP,cD,E6,hi,DT,e]
noncomputable def O0 (slot:Nat)(cut:Bool)(l:qr)(mark:Str)(ends:Bool):List Rest:=match l with
 | []=>[]
 | c::r=>if AV ⟨#[c]⟩ mark=true then (if r≠[] then [(slot,r)] else if (cut&&!ends)=true then [] else [(slot+1,[])]) else []
noncomputable def lD (m:re)(x:Rest)(mark:Str)(ends:Bool):List Rest:=match m[x.1]? with
 | none=>[]
 | some s=>if x.2=[] then s.1.flatMap λp=>O0 x.1 s.2 p.cps.toList mark ends else O0 x.1 s.2 x.2 mark ends
theorem CV (p:Str)(i:Nat)(h:i < p.length):p.cps.toList.drop i=p.cps.toList.getD i 0::p.cps.toList.drop (i+1):=by
 have hl:i < p.cps.toList.length:=by rw[gF];exact h
 rw[bX hl,bb,af hl]
 rfl
theorem Aq {k:Nat}(hs:m[slot]?=some s)(hp:s.1[k]?=some p)(hi:i < p.length)(mark:Str)(ends:Bool):
  (NN s slot i mark ends k).map (λy=>FO m y.2)=O0 slot s.2 (p.cps.toList.drop i) mark ends:=by
 unfold NN O0
 rw[rJ hp,CV p i hi]
 show List.map _ (if AV (bA p i) mark=true then _ else _)=(if AV (bA p i) mark=true then (if p.cps.toList.drop (i+1)≠[] then [(slot,p.cps.toList.drop (i+1))] else if (s.2&&!ends)=true then [] else [(slot+1,[])]) else [])
 by_cases D5:AV (bA p i) mark=true
 case neg=>rw[ax D5,ax D5];rfl
 case pos=>
  rw[bd D5,bd D5]
  unfold W6
  by_cases h1:i+1 < p.length
  ·have:p.cps.toList.drop (i+1)≠[]:=by
    intro z
    have:=dL List.length z
    rw[gp,gF] at this
    simp at this;omega
   rw[bd h1,bd this]
   simp[FO,hs,hp]
  ·have:p.cps.toList.drop (i+1)=[]:=by
    rw[eT,gF];omega
   rw[ax h1,this]
   by_cases hc:(s.2&&!ends)=true
   ·rw[bd hc,ax (by simp),bd hc];rfl
   ·rw[ax hc,ax (by simp),ax hc];rfl
theorem range_getD (l:qE):(List.range l.length).map (λk=>l.getD k ⟨#[]⟩)=l:=by
 refine List.ext_getElem? λi=>?_
 rw[cp]
 rcases gu i l.length with h | h
 ·rw[mf h,af h]
  simp[h]
 ·rw[cS (by simpa using h),cS h];rfl
theorem Ar (hm:aW m){t:ED}(ht:t∈HE m)(mark:Str)(ends:Bool):(jl m t mark ends).map (λy=>FO m y.2)=lD m (FO m t) mark ends:=by
 obtain⟨s,hs,h⟩:=DL.mp ht
 obtain⟨slot,k,i⟩:=t
 simp only at hs h
 have ok:=hm s (dn hs)
 unfold jl lD
 rcases h with h | ⟨p,hp,h1,h2⟩
 ·cases h
  have e1:FO m (slot,0,0)=(slot,[]):=rfl
  rw[e1]
  simp only[hs,f8]
  rw[List.map_flatMap]
  have e2:(s.1.flatMap λp=>O0 slot s.2 p.cps.toList mark ends)=(List.range s.1.length).flatMap λk=>O0 slot s.2 (s.1.getD k ⟨#[]⟩).cps.toList mark ends:=by
   conv=>lhs;rw[← range_getD s.1]
   rw[List.flatMap_map]
  rw[e2,List.flatMap_def,List.flatMap_def]
  congr 1
  refine dS λk hk=>?_
  have GH:=bP.mp hk
  have hp:s.1[k]?=some s.1[k]:=af GH
  have:=(ok.ok _ (i7 GH)).ge
  have:=Aq (m:=m) (i:=0) hs hp (by omega) mark ends
  rw[this,rJ hp]
  rfl
 ·have UQ:¬ i=0:=by omega
  have e1:FO m (slot,k,i)=(slot,p.cps.toList.drop i):=by simp[FO,hs,hp];omega
  have e2:p.cps.toList.drop i≠[]:=by rw[CV p i h2];simp
  rw[e1]
  simp only[hs,ax UQ,ax e2]
  exact Aq hs hp h2 mark ends
theorem Ht {t:ED}(ht:t∈HE m){y:Nat×ED}(hy:y∈jl m t mark ends):y.2∈HE m\/y.2=(m.length,0,0):=by
 obtain⟨s,hs,h⟩:=DL.mp ht
 have BE:=(ai.mp hs).1
 have key:∀(i k:Nat),∀y∈NN s t.1 i mark ends k,y.2∈HE m\/y.2=(m.length,0,0):=by
  intro i k y hy
  unfold NN at hy
  split at hy
  ·obtain⟨z,hz,rfl⟩:=cb.mp hy
   rw[Option.mem_toList] at hz
   unfold W6 at hz
   split at hz
   ·rename_i hl
    cases hz
    refine .inl (DL.mpr ⟨s,hs,.inr ?_⟩)
    cases hp:s.1[k]? with
    | none=>
     rw[bb,hp] at hl
     simp[Str.length] at hl
    | some p=>rw[rJ hp] at hl;exact⟨p,rfl,by simp,hl⟩
   ·split at hz
    ·cases hz
    ·cases hz
     rcases gu (t.1+1) m.length with h | h
     ·exact .inl (DL.mpr ⟨m[t.1+1],af h,.inl rfl⟩)
     ·exact .inr (by rw[show t.1+1=m.length by omega])
  ·cases hy
 unfold jl at hy
 rw[hs] at hy
 simp only at hy
 split at hy
 ·obtain⟨k,hk,hy⟩:=eB.mp hy
  exact key 0 k y hy
 ·exact key _ _ y hy
noncomputable def KP (m:re):List Rest:=(HE m).map (FO m)++[(m.length,[])]
theorem Hu (m:re):NM m m.length 0 0:=⟨aw _,λ_=>⟨rfl,rfl⟩,λs h=>by rw[cS (aw _)] at h;cases h⟩
theorem Nb {t:ED}(ht:t∈HE m){y:Nat×ED}(hy:y∈jl m t mark ends):NM m y.2.1 y.2.2.1 y.2.2.2:=by
 rcases Ht ht hy with h | h
 ·exact Ah h
 ·rw[h];exact Hu m
theorem wI (hm:aW m){x:Rest}(hx:x∈KP m){y:Rest}(hy:y∈lD m x mark ends):y∈KP m:=by
 rcases bn.mp hx with hx | hx
 ·obtain⟨t,ht,rfl⟩:=cb.mp hx
  rw[← Ar hm ht] at hy
  obtain⟨z,hz,rfl⟩:=cb.mp hy
  rcases Ht ht hz with h | h
  ·exact bm _ (cb.mpr ⟨_,h,rfl⟩)
  ·rw[h];exact cx _ (by simp[FO])
 ·rw[av] at hx
  subst hx
  unfold lD at hy
  simp at hy
theorem CW (mark:Str)(ends:Bool):lD m (m.length,[]) mark ends=[]:=by
 unfold lD
 simp
noncomputable def CA (k:Nat):Str:=if k < 2 then ("u" : Str) else ("-" : Str)
noncomputable def D4 (k:Nat):Bool:=k % 2 == 1
noncomputable def Bn (k:Nat):PV:=.tup [.str (CA k),.bl (D4 k)]
theorem sdS:fY=(List.range 4).map Bn:=rfl
theorem itS:MR.P9 u5=some ((List.range 4).map Bn):=rfl
theorem Qz {k:Nat}(h:k < 4):fY[k]?=some (Bn k):=by rw[sdS];simp[h]
theorem SN {k:Nat}(h:k < 4):cd fY k=Bn k:=by unfold cd;rw[bb,Qz h];rfl
noncomputable def kk (x:Rest)(k:Nat):List AG:=[AG.tp [.k (.inl (x.1:Int)),.k (.inr (NO x.2))],AG.tp [.k (.inr (CA k)),.k (.inl (if D4 k=true then 1 else 0))]]
theorem CZ (x:Rest)(k:Nat):AU [DT x,Bn k]=some (kk x k):=rfl
theorem ud:¬ (("u" : Str) = "-"):=by decide
theorem QB {x y:Rest}{k:Nat}(hk:k < 4)(hj:j < 4)(h:kk x k=kk y j):x=y/\k=j:=by
 unfold kk at h
 injection h with h1 h2
 injection h2 with h2 _
 have h1:=AG.EM h1
 have h2:=AG.EM h2
 injection h1 with a b
 injection b with b _
 injection a with a;injection a with a
 injection b with b;injection b with b
 injection h2 with c d
 injection d with d _
 injection c with c;injection c with c
 injection d with d;injection d with d
 refine⟨?_,?_⟩
 ·obtain⟨x1,x2⟩:=x
  obtain⟨y1,y2⟩:=y
  have a:x1=y1:=by simp at a;omega
  have b:x2=y2:=CQ b
  rw[a,b]
 ·have:=ud
  have GH:k=0\/k=1\/k=2\/k=3:=by omega
  have UL:j=0\/j=1\/j=2\/j=3:=by omega
  rcases GH with rfl | rfl | rfl | rfl <;> rcases UL with rfl | rfl | rfl | rfl <;> first | rfl | (exfalso;revert c d;decide +kernel)
section
variable {κ:Type}[DecidableEq κ]
theorem qP (kvs:List (κ×PV))(k k':κ)(v:PV):aM (bD kvs k v) k'=if k'=k then some v else aM kvs k':=by
 unfold aM bD
 by_cases h:(kvs.any λkv=>decide (kv.1=k))=true
 ·rw[bd h,p0]
  have e:((λx:κ×PV=>decide (x.1=k'))∘λkv=>if kv.1=k then (kv.1,v) else kv)=λx=>decide (x.1=k'):=by
   funext x
   have hf:(if x.1=k then (x.1,v) else x).1=x.1:=by split <;> rfl
   show decide ((if x.1=k then (x.1,v) else x).1=k')=decide (x.1=k')
   simp[hf]
  rw[e]
  cases q:kvs.find? λx=>decide (x.1=k') with
  | none=>
   by_cases hk:k'=k
   ·subst hk
    obtain⟨x,h1,h2⟩:=i8.mp h
    exact absurd h2 (eW.mp q x h1)
   ·rw[ax hk];rfl
  | some x=>
   have hx:x.1=k':=by simpa using l9 q
   by_cases hk:k'=k
   ·rw[bd hk]
    show some (if x.1=k then (x.1,v) else x).2=_
    rw[bd (hx.trans hk)]
   ·rw[ax hk]
    show some (if x.1=k then (x.1,v) else x).2=some x.2
    rw[ax (λz=>hk (hx.symm.trans z))]
 ·rw[ax h,List.find?_append]
  have hn:∀x∈kvs,¬ x.1=k:=λx hx e=>h (i8.mpr ⟨x,hx,by simp[e]⟩)
  by_cases hk:k'=k
  ·subst hk
   have:(kvs.find? λx=>decide (x.1=k'))=none:=eW.mpr λx hx=>by simp[hn x hx]
   rw[this,bd rfl]
   simp
  ·rw[ax hk]
   have:([(k,v)].find? λx=>decide (x.1=k'))=none:=by simp[fN hk]
   rw[this]
   simp
theorem Av (kvs:List (κ×PV))(k:κ)(v:PV):(bD kvs k v).length<=kvs.length+1:=by
 unfold bD
 split
 ·rw[aI];omega
 ·simp
end
noncomputable def cg (m:re)(x:Rest)(k:Nat):List Rest:=lD m x (CA k) (D4 k)
def AI (m:re)(P:List (Rest×Nat))(D:List (List AG×PV)):Prop:=D.length<=P.length/\∀x k,k < 4->aM D (kk x k)=if (x,k)∈P then some (.lst ((cg m x k).map DT)) else none
variable {D:List (List AG×PV)}
theorem AI.put {P:List (Rest×Nat)}(I:AI m P D){x:Rest}{k:Nat}(hk:k < 4):AI m (P++[(x,k)]) (bD D (kk x k) (.lst ((cg m x k).map DT))):=by
 refine⟨?_,λy j hj=>?_⟩
 ·have:=Av D (kk x k) (.lst ((cg m x k).map DT))
  have:=I.1
  simp;omega
 ·rw[qP,I.2 y j hj]
  by_cases h:kk y j=kk x k
  ·obtain⟨rfl,rfl⟩:=QB hj hk h
   rw[bd rfl,bd (by simp)]
  ·rw[ax h]
   have A3:¬ (y,j)=(x,k):=λz=>by cases z;exact h rfl
   by_cases hm:(y,j)∈P
   ·rw[bd hm,bd (bm _ hm)]
   ·rw[ax hm,ax]
    intro z
    rcases bn.mp z with z | z
    ·exact hm z
    ·rw[av] at z;exact A3 z
theorem J4 (hm:aW m)(hl:m.length < 100){t:ED}(ht:t∈HE m){k:Nat}(hk:k < 4)(hD:D.length < 1000000):
  turn (gN 3) [3,4] eY (Bn k) [some (mP m),some (.dT D),some (cD t),none,none]=some [some (mP m),some (.dT (bD D (kk (FO m t) k) (.lst ((cg m (FO m t) k).map DT)))),some (cD t),none,none]:=by
 have h3:=JT hm (by omega) (Ah ht) (CA k) (D4 k)
 rw[RD] at h3
 have h3:dW [mP m,cD t,.str (CA k),.bl (D4 k)]=some (.lst ((jl m t (CA k) (D4 k)).map UZ)):=h3
 have h4:=JX m hm t (CA k) (D4 k)
 have h1:=wH hm (Ah ht)
 have h5:dg [none,none,some (mP m)] (gT [0,1]) jx gU ((jl m t (CA k) (D4 k)).map UZ)=some ((cg m (FO m t) k).map DT):=by
  unfold cg
  rw[← Ar hm ht,ke]
  exact qF _ _ _ λy hy=>⟨[some (.int (y.1:Nat)),some (cD y.2),some (mP m)],rfl,by
   have:=wH hm (Nb ht hy)
   simp[gU,this]⟩
 have h7:((jl m t (CA k) (D4 k)).map UZ).length<=1000000:=by rw[aI];omega
 have h8:=CZ (FO m t) k
 unfold Bn at h8 ⊢
 generalize (jl m t (CA k) (D4 k)).map UZ=V,(cg m (FO m t) k).map DT=R,cD t=S,mP m=M,DT (FO m t)=Z,kk (FO m t) k=kx at *
 simp[-AU,b_,eY,h1,h3,h5,h7,h8,hD,je]
theorem J5 (hm:aW m)(hl:m.length < 100){t:ED}(ht:t∈HE m){P:List (Rest×Nat)}(I:AI m P D)(hP:P.length < 1000):
  ∃D',AI m (P++(List.range 4).map λk=>(FO m t,k)) D'/\turn (gN 2) [2,3,4] eZ (cD t) [some (mP m),some (.dT D),none,none,none]=some [some (mP m),some (.dT D'),none,none,none]:=by
 obtain⟨D',⟨d,e1,I',_⟩,h⟩:=dX (g:=gN 3) (ds:=[3,4]) (body:=eY) Bn (λD:List (List AG×PV)=>[some (mP m),some (.dT D),some (cD t),none,none])
  (λr D'=>∃d,List.range 4=d++r/\AI m (P++d.map λk=>(FO m t,k)) D'/\∀k∈r,k < 4)
  (by
   rintro k r D' ⟨d,e1,I',hr⟩
   have hk:=hr k ar
   have hd:d.length+r.length+1=4:=by have:=dL List.length e1;simp at this;omega
   have hD:D'.length < 1000000:=by have:=I'.1;simp at this;omega
   refine⟨_,⟨d++[k],by rw[e1];simp,?_,λj hj=>hr j (al _ hj)⟩,J4 hm hl ht hk hD⟩
   have:=I'.put (x:=FO m t) hk
   rw[dc,← d6]
   exact this)
  (List.range 4) D ⟨[],rfl,by simpa using I,λk hk=>bP.mp hk⟩
 rw[bE] at e1
 subst e1
 refine⟨D',I',?_⟩
 have hs:=itS
 generalize cD t=S,mP m=M at *
 simp[-MR.P9,b_,eZ,hs,h]
theorem J6 (hm:aW m)(hl:m.length<=3):∃D,bL [mP m]=some (.dT D)/\∀x∈KP m,∀k,k < 4->(aM D (kk x k)).getD (.lst [])=.lst ((cg m x k).map DT):=by
 obtain⟨h1,h2⟩:=xQ hm (by omega)
 obtain⟨D,⟨d,e1,I⟩,h⟩:=dX (g:=gN 2) (ds:=[2,3,4]) (body:=eZ) cD (λD:List (List AG×PV)=>[some (mP m),some (.dT D),none,none,none])
  (λr D'=>∃d,HE m=d++r/\AI m (d.flatMap λt=>(List.range 4).map λk=>(FO m t,k)) D')
  (by
   rintro t r D' ⟨d,e1,I'⟩
   have ht:t∈HE m:=by rw[e1];simp
   have hd:d.length+r.length+1=(HE m).length:=by have:=dL List.length e1;simp at this;omega
   have hfl:∀d:List ED,(d.flatMap λt=>(List.range 4).map λk=>(FO m t,k)).length=4*d.length:=by
    intro d
    induction d with
    | nil=>rfl
    | cons t d ih=>rw[iO,bo,ih];simp;omega
   obtain⟨D2,I2,h⟩:=J5 hm (by omega) ht I' (by rw[hfl];omega)
   exact⟨D2,⟨d++[t],by rw[e1];simp,by simpa using I2⟩,h⟩)
  (HE m) [] ⟨[],rfl,by simp,λx k _=>by simp[aM]⟩
 rw[bE] at e1
 subst e1
 refine⟨D,?_,λx hx k hk=>?_⟩
 ·generalize (HE m).map cD=L,mP m=M at *
  simp[bL,nT,h1,h]
 ·rw[I.2 x k hk]
  rcases bn.mp hx with hx | hx
  ·obtain⟨t,ht,rfl⟩:=cb.mp hx
   rw[bd (eB.mpr ⟨t,ht,cb.mpr ⟨k,bP.mpr hk,rfl⟩⟩)];rfl
  ·rw[av] at hx
   subst hx
   split
   ·rfl
   ·unfold cg
    rw[CW];rfl
noncomputable def B1 (m:re):List Slot:=m.dropLast++[((m.getLast?.getD ([],false)).1,true)]
theorem n6 (hm:aW m)(A3:m≠[]):aW (B1 m)/\B1 m≠[]/\(B1 m).length=m.length:=by
 refine⟨?_,by simp[B1],by have:=eR.mpr A3;simp[B1];omega⟩
 intro s hs
 unfold B1 at hs
 rcases bn.mp hs with hs | hs
 ·exact hm s ((List.dropLast_sublist m).subset hs)
 ·rw[av] at hs
  subst hs
  rw[cf A3]
  exact hm (m.getLast A3) (List.getLast_mem A3)
theorem xT {α:Type}{xs:List α}(h:xs≠[]):B4 xs (-1)=xs.getLast?:=by
 unfold B4 JO
 have hl:0 < xs.length:=eR.mpr h
 rw[ax (by decide),bd (by omega),nn]
 show xs[(-1+(xs.length:Int)).toNat]?=_
 congr 1
 omega
theorem Hv (xs:List PV)(h:xs≠[]):dR xs none (some (-1))=xs.dropLast:=by
 have hl:0 < xs.length:=eR.mpr h
 unfold dR HT.A4
 simp
 rw[List.dropLast_eq_take]
 congr 1
 omega
theorem QC (A3:m≠[])(hl:m.length<=3):bI [mP m]=some (mP (B1 m)):=by
 have h0:m.map BM≠[]:=by simpa using A3
 have h1:=xT h0
 have h2:=Hv _ h0
 have e:(m.map BM).getLast?=some (BM (m.getLast A3)):=by rw[List.getLast?_map,cf A3];rfl
 rw[e] at h1
 have h3:=lW (m.map BM).dropLast [.tup [.tup ((m.getLast A3).1.map .str),.bl true]] (by simp;omega)
 have e2:B1 m=m.dropLast++[((m.getLast A3).1,true)]:=by unfold B1;rw[cf A3];rfl
 rw[e2]
 have e3:mP (m.dropLast++[((m.getLast A3).1,true)])=.tup ((m.map BM).dropLast++[.tup [.tup ((m.getLast A3).1.map .str),.bl true]]):=by simp[mP,BM,List.map_dropLast]
 rw[e3]
 simp only[BM] at h1
 simp only[mP]
 simp[bI,lu,h2,h1,h3]
theorem ss1:(("most" : Str) == "ahead")=false:=by decide +kernel
theorem ss2:(("end" : Str) == "ahead")=false:=by decide +kernel
theorem ss3:(("end" : Str) == "most")=false:=by decide +kernel
theorem ss4:(("places" : Str) == "ahead")=false:=by decide +kernel
theorem ss5:(("places" : Str) == "most")=false:=by decide +kernel
theorem ss6:(("places" : Str) == "end")=false:=by decide +kernel
theorem J7 (w:WS)(e:MR.Env)(f:MR.Env->Option PV)(h:f e=some (w.pv 10)):jd 10 "ahead" f e=some (.dT w.B3):=by
 rw[gh,h];simp[WS.pv]
theorem Nf (w:WS)(e:MR.Env)(f:MR.Env->Option PV)(h:f e=some (w.pv 10)):jd 10 "most" f e=some (.int w.most):=by
 rw[gh,h];simp[WS.pv,List.lookup,ss1]
theorem QD (w:WS)(e:MR.Env)(f:MR.Env->Option PV)(h:f e=some (w.pv 10)):jd 10 "end" f e=some w.fin:=by
 rw[gh,h];simp[WS.pv,List.lookup,ss2,ss3]
theorem qQ (w:WS)(e:MR.Env)(f:MR.Env->Option PV)(h:f e=some (w.pv 10)):jd 10 "places" f e=some (.lst w.C0):=by
 rw[gh,h];simp[WS.pv,List.lookup,ss4,ss5,ss6]
noncomputable def kQ (q:Int×Str):List AG:=[.k (.inl q.1),.k (.inr q.2)]
noncomputable def kE (y:(Int×Str)×Int):List AG×PV:=(kQ y.1,.int y.2)
theorem Aw {a b:Int×Str}(h:kQ a=kQ b):a=b:=by
 unfold kQ at h
 injection h with h1 h2
 injection h2 with h2 _
 injection h1 with h1;injection h1 with h1
 injection h2 with h2;injection h2 with h2
 exact Prod.ext h1 h2
theorem Ax:∀D:Pl,v_ (D.map kE)=some D
 | []=>rfl
 | y::D=>by
  rw[a0]
  show (v_ (D.map kE)).bind _=_
  rw[Ax D];rfl
noncomputable def look (D:Pl)(q:Int×Str):Option Int:=(D.find? λy=>decide (y.1=q)).map (·.2)
theorem t8 (D:Pl)(q:Int×Str):aM (D.map kE) (kQ q)=(look D q).map .int:=by
 unfold aM look
 rw[p0,p4,p4]
 have:((λx:List AG×PV=>decide (x.1=kQ q))∘kE)=λy=>decide (y.1=q):=by
  funext y
  show decide (kQ y.1=kQ q)=decide (y.1=q)
  by_cases h:y.1=q
  ·simp[h]
  ·have:¬ kQ y.1=kQ q:=λz=>h (Aw z)
   simp[h,this]
 rw[this]
 rfl
def pG (D:Pl)(q:Int×Str)(v:Int):Pl:=if (D.any λy=>decide (y.1=q))=true then D.map (λy=>if y.1=q then (y.1,v) else y) else D++[(q,v)]
theorem Ng (D:Pl)(q:Int×Str)(v:Int):bD (D.map kE) (kQ q) (.int v)=(pG D q v).map kE:=by
 unfold bD pG
 have:((D.map kE).any λkv=>decide (kv.1=kQ q))=(D.any λy=>decide (y.1=q)):=by
  rw[List.any_map]
  congr 1
  funext y
  show decide (kQ y.1=kQ q)=decide (y.1=q)
  by_cases h:y.1=q
  ·simp[h]
  ·have:¬ kQ y.1=kQ q:=λz=>h (Aw z)
   simp[h,this]
 rw[this]
 by_cases h:(D.any λy=>decide (y.1=q))=true
 ·rw[bd h,bd h,ke,ke]
  refine dS λy _=>?_
  show (if kQ y.1=kQ q then (kQ y.1,PV.int v) else kE y)=kE (if y.1=q then (y.1,v) else y)
  by_cases h:y.1=q
  ·simp[h,kE]
  ·have:¬ kQ y.1=kQ q:=λz=>h (Aw z)
   simp[h,this]
 ·rw[ax h,ax h,dc];rfl
theorem J8 (D:Pl)(q:Int×Str)(v:Int)(x:Int×Str):x∈(pG D q v).map (·.1)↔x∈D.map (·.1)\/x=q:=by
 unfold pG
 split
 ·rename_i h
  have e:(D.map (λy=>if y.1=q then (y.1,v) else y)).map (·.1)=D.map (·.1):=by
   rw[ke]
   refine dS λy _=>?_
   show (if y.1=q then (y.1,v) else y).1=y.1
   split <;> rfl
  rw[e]
  refine⟨.inl,λh'=>h'.elim id λz=>?_⟩
  obtain⟨y,hy,hq⟩:=i8.mp h
  rw[z]
  exact cb.mpr ⟨y,hy,by simpa using hq⟩
 ·rw[dc,bn]
  simp
theorem QF {D:Pl}(q:Int×Str)(v:Int)(h:(D.map (·.1)).Nodup):((pG D q v).map (·.1)).Nodup:=by
 unfold pG
 split
 ·have e:(D.map (λy=>if y.1=q then (y.1,v) else y)).map (·.1)=D.map (·.1):=by
   rw[ke]
   refine dS λy _=>?_
   show (if y.1=q then (y.1,v) else y).1=y.1
   split <;> rfl
  rw[e];exact h
 ·rename_i hn
  rw[dc,iA]
  refine⟨h,by simp,λa ha b hb e=>?_⟩
  simp at hb
  subst hb e
  obtain⟨y,hy,e⟩:=cb.mp ha
  exact hn (i8.mpr ⟨y,hy,by simpa using e⟩)
noncomputable def mn (a b:Int):Int:=if b < a then b else a
def RU (most:Int)(D:Pl)(n:Int)(q:Int×Str):Pl:=pG D q (mn most ((look D q).getD 0+n))
structure Cb (m:re)(p:Pl):Prop where
 un:∀y∈p,∃x∈KP m,y.1=CL x
 ge:∀y∈p,1<=y.2
 nd:(p.map (·.1)).Nodup
theorem Nh (hm:aW m)(hl:m.length<=3):(KP m).length<=52:=by
 have:=(xQ hm (by omega)).2
 unfold KP
 simp
 omega
theorem Cb.len {p:Pl}(hm:aW m)(hl:m.length<=3)(I:Cb m p):p.length<=52:=by
 have h:p.map (·.1) ⊆ (KP m).map CL:=by
  intro q hq
  obtain⟨y,hy,rfl⟩:=cb.mp hq
  obtain⟨x,hx,e⟩:=I.un y hy
  exact cb.mpr ⟨x,hx,e.symm⟩
 have h1:=I.nd.length_le_of_subset h
 have h2:=Nh hm hl
 simp at h1
 omega
theorem Ni {D:Pl}(h:∀y∈D,1<=y.2)(q:Int×Str):0<=(look D q).getD 0:=by
 unfold look
 cases e:D.find? λy=>decide (y.1=q) with
 | none=>simp
 | some y=>have:=h y (im e);simp;omega
theorem C_ {D:Pl}{q:Int×Str}{v:Int}(h:y∈pG D q v):y∈D\/y=(q,v):=by
 unfold pG at h
 split at h
 ·obtain⟨z,hz,e⟩:=cb.mp h
  split at e
  ·rename_i hq;subst hq;exact .inr e.symm
  ·subst e;exact .inl hz
 ·rcases bn.mp h with h | h
  ·exact .inl h
  ·exact .inr (by simpa using h)
theorem Hw (D8:1<=most){D:Pl}(I:Cb m D){n:Int}(hn:1<=n){z:Rest}(hz:z∈KP m):Cb m (RU most D n (CL z)):=by
 refine⟨λy hy=>?_,λy hy=>?_,QF _ _ I.nd⟩
 ·rcases C_ hy with h | h
  ·exact I.un y h
  ·rw[h];exact⟨z,hz,rfl⟩
 ·rcases C_ hy with h | h
  ·exact I.ge y h
  ·rw[h]
   have:=Ni I.ge (CL z)
   show 1<=mn most _
   unfold mn
   split <;> omega
def LM (q:Int×Str):Rest:=(q.1.toNat,q.2.cps.toList)
theorem Ay (x:Rest):LM (CL x)=x:=by
 obtain⟨a,b⟩:=x
 simp[LM,CL,NO]
def NR (most:Int)(n:Int)(zs:List Rest)(D:Pl):Pl:=zs.foldl (λD z=>RU most D n (CL z)) D
def NS (m:re)(most:Int)(k:Nat)(D:Pl)(p:Pl):Pl:=p.foldl (λD y=>NR most y.2 (cg m (LM y.1) k) D) D
def dl (m:re)(most:Int)(p:Pl)(k:Nat):Pl:=tL (NS m most k [] p)
theorem Az {m:re}{most:Int}(D8:1<=most){n:Int}(hn:1<=n):∀(zs:List Rest) (D:Pl),(∀z∈zs,z∈KP m)->Cb m D->Cb m (NR most n zs D)/\∀q,q∈(NR most n zs D).map (·.1)↔q∈D.map (·.1)\/∃z∈zs,q=CL z
 | [],D,_,I=>⟨I,λq=>by simp[NR]⟩
 | z::zs,D,hz,I=>by
  have h1:=Hw D8 I hn (hz z ar)
  obtain⟨h2,h3⟩:=Az D8 hn zs _ (λy hy=>hz y (al _ hy)) h1
  refine⟨h2,λq=>?_⟩
  have e:NR most n (z::zs) D=NR most n zs (RU most D n (CL z)):=rfl
  rw[e,h3 q]
  unfold RU
  rw[J8]
  simp only[be,exists_eq_or_imp]
  constructor
  ·rintro ((h | h) | h)
   ·exact .inl h
   ·exact .inr (.inl h)
   ·exact .inr (.inr h)
  ·rintro (h | h | h)
   ·exact .inl (.inl h)
   ·exact .inl (.inr h)
   ·exact .inr h
theorem A_ {m:re}(hm:aW m){most:Int}(D8:1<=most)(k:Nat):∀(p D:Pl),(∀y∈p,(∃x∈KP m,y.1=CL x)/\1<=y.2)->Cb m D->Cb m (NS m most k D p)/\∀q,q∈(NS m most k D p).map (·.1)↔q∈D.map (·.1)\/∃x,CL x∈p.map (·.1)/\∃z∈cg m x k,q=CL z
 | [],D,_,I=>⟨I,λq=>by simp[NS]⟩
 | y::p,D,hp,I=>by
  obtain⟨⟨x,hx,ex⟩,hn⟩:=hp y ar
  have hu:LM y.1=x:=by rw[ex,Ay]
  obtain⟨h1,h2⟩:=Az (m:=m) D8 hn (cg m (LM y.1) k) D (λz hz=>wI hm (by rw[hu];exact hx) hz) I
  obtain⟨h3,h4⟩:=A_ hm D8 k p _ (λz hz=>hp z (al _ hz)) h1
  have e:NS m most k D (y::p)=NS m most k (NR most y.2 (cg m (LM y.1) k) D) p:=rfl
  rw[e]
  refine⟨h3,λq=>?_⟩
  rw[h4 q,h2 q,hu]
  simp only[a0,be]
  constructor
  ·rintro ((h | ⟨z,hz,e⟩) | ⟨x',Na,z,hz,e⟩)
   ·exact .inl h
   ·exact .inr ⟨x,.inl ex.symm,z,hz,e⟩
   ·exact .inr ⟨x',.inr Na,z,hz,e⟩
  ·rintro (h | ⟨x',Na | Na,z,hz,e⟩)
   ·exact .inl (.inl h)
   ·rw[ex] at Na
    have:=rN Na
    subst this
    exact .inl (.inr ⟨z,hz,e⟩)
   ·exact .inr ⟨x',Na,z,hz,e⟩
theorem Cb.perm {p q:Pl}(I:Cb m p)(h:q.Perm p):Cb m q:=⟨λy hy=>I.un y (h.mem_iff.mp hy),λy hy=>I.ge y (h.mem_iff.mp hy),((h.map (·.1)).nodup_iff).mpr I.nd⟩
theorem RG (hm:aW m)(D8:1<=most){p:Pl}(I:Cb m p)(k:Nat):Cb m (dl m most p k)/\∀q,q∈(dl m most p k).map (·.1)↔∃x,CL x∈p.map (·.1)/\∃z∈cg m x k,q=CL z:=by
 obtain⟨h1,h2⟩:=A_ hm D8 k p [] (λy hy=>⟨I.un y hy,I.ge y hy⟩) ⟨(λy hy=>by cases hy),(λy hy=>by cases hy),by simp⟩
 have hp:=G8 (NS m most k [] p)
 refine⟨h1.perm hp,λq=>?_⟩
 unfold dl
 rw[(hp.map (·.1)).mem_iff,h2 q]
 simp
def AH (m:re)(B3:List (List AG×PV)):Prop:=∀x∈KP m,∀k,k < 4->(aM B3 (kk x k)).getD (.lst [])=.lst ((cg m x k).map DT)
theorem Dc (z:Rest):AU [.int (z.1:Nat),.str (NO z.2)]=some (kQ (CL z)):=rfl
theorem J9 {w:WS}{N Sd R:PV}{D:Pl}{n:Int}{z:Rest}(hD:D.length < 1000000):
  turn (gN 6) [6] cJ (DT z) [some (w.pv 10),some N,some Sd,some (.dT (D.map kE)),some R,some (.int n),none]=some [some (w.pv 10),some N,some Sd,some (.dT ((RU w.most D n (CL z)).map kE)),some R,some (.int n),none]:=by
 have h1:=Nf w [some (w.pv 10),some N,some Sd,some (.dT (D.map kE)),some R,some (.int n),some (DT z)] (bV 0) rfl
 have h2:=Dc z
 have h3:=t8 D (CL z)
 have h4:=Ng D (CL z) (mn w.most ((look D (CL z)).getD 0+n))
 have h5:((look D (CL z)).map PV.int).getD (.int 0)=.int ((look D (CL z)).getD 0):=by cases look D (CL z) <;> rfl
 unfold RU
 rw[← h4]
 unfold DT at h1 ⊢
 unfold mn
 generalize w.pv 10=WP at *
 simp[-AU,-gh,b_,cJ,h1,h2,h3,h5,hD]
theorem J_ (hm:aW m)(hl:m.length<=3){w:WS}(ha:AH m w.B3)(D8:1<=w.most){N:PV}{D:Pl}(I:Cb m D){k:Nat}(hk:k < 4)(hy:∃x∈KP m,y.1=CL x)(hn:1<=y.2):
  turn (gT [4,5]) [4,5,6] cL (Kn y) [some (w.pv 10),some N,some (Bn k),some (.dT (D.map kE)),none,none,none]=some [some (w.pv 10),some N,some (Bn k),some (.dT ((NR w.most y.2 (cg m (LM y.1) k) D).map kE)),none,none,none]:=by
 obtain⟨x,hx,ex⟩:=hy
 have hu:LM y.1=x:=by rw[ex,Ay]
 have lp:=qM (g:=gN 6) (ds:=[6]) (body:=cJ) DT (λD:Pl=>[some (w.pv 10),some N,some (Bn k),some (.dT (D.map kE)),some (DT x),some (.int y.2),none]) (λD z=>RU w.most D y.2 (CL z))
  (λr D=>Cb m D/\∀z∈r,z∈KP m) (cg m x k) D ⟨I,λz hz=>wI hm hx hz⟩ (λz r D ⟨i1,i2⟩=>⟨⟨Hw D8 i1 hn (i2 z ar),λz hz=>i2 z (al _ hz)⟩,J9 (by have:=i1.len hm hl;omega)⟩)
 have h1:=J7 w [some (w.pv 10),some N,some (Bn k),some (.dT (D.map kE)),some (DT x),some (.int y.2),none] (bV 0) rfl
 have h2:=CZ x k
 have h3:=ha x hx k hk
 have e:Kn y=.tup [DT x,.int y.2]:=by unfold Kn DT;rw[ex];rfl
 rw[e,hu]
 have e2:NR w.most y.2 (cg m x k) D=(cg m x k).foldl (λD z=>RU w.most D y.2 (CL z)) D:=rfl
 rw[e2]
 generalize (cg m x k).foldl (λD z=>RU w.most D y.2 (CL z)) D=D2,(cg m x k).map DT=L,w.pv 10=WP,Bn k=Sd,DT x=X,kk x k=kx at *
 simp[-AU,-gh,b_,cL,h1,h2,h3,lp]
theorem RJ (hm:aW m)(hl:m.length<=3){w:WS}(ha:AH m w.B3)(D8:1<=w.most){p:Pl}(I:Cb m p)(hp:w.C0[n]?=some (E7 p)){k:Nat}(hk:k < 4):
  aG [w.pv 10,.int n,Bn k]=some (E7 (dl m w.most p k)):=by
 have h0:=A_ hm D8 k
 have lp:=qM (g:=gT [4,5]) (ds:=[4,5,6]) (body:=cL) Kn (λD:Pl=>[some (w.pv 10),some (.int n),some (Bn k),some (.dT (D.map kE)),none,none,none]) (λD y=>NR w.most y.2 (cg m (LM y.1) k) D)
  (λr D=>Cb m D/\∀y∈r,(∃x∈KP m,y.1=CL x)/\1<=y.2) p [] ⟨⟨(λy hy=>by cases hy),(λy hy=>by cases hy),by simp⟩,λy hy=>⟨I.un y hy,I.ge y hy⟩⟩
  (by
   rintro y r D ⟨i1,i2⟩
   obtain⟨⟨x,hx,ex⟩,hn⟩:=i2 y ar
   have hu:LM y.1=x:=by rw[ex,Ay]
   exact⟨⟨(Az D8 hn _ D (λz hz=>wI hm (by rw[hu];exact hx) hz) i1).1,λz hz=>i2 z (al _ hz)⟩,J_ hm hl ha D8 i1 hk ⟨x,hx,ex⟩ hn⟩)
 have e:p.foldl (λD y=>NR w.most y.2 (cg m (LM y.1) k) D) []=NS m w.most k [] p:=rfl
 rw[e] at lp
 have hlen:=((h0 p [] (λy hy=>⟨I.un y hy,I.ge y hy⟩) ⟨(λy hy=>by cases hy),(λy hy=>by cases hy),by simp⟩).1).len hm hl
 have hd:=Ax (NS m w.most k [] p)
 have h1:=qQ w [some (w.pv 10),some (.int n),some (Bn k),some (.dT []),none,none,none] (bV 0) rfl
 have h2:B4 w.C0 (n:Int)=some (E7 p):=dC hp
 have ZT:(NS m w.most k [] p).length < 64:=by omega
 unfold dl
 simp only[iE] at lp
 unfold E7 at h2 ⊢
 generalize NS m w.most k [] p=D2,w.pv 10=WP,Bn k=Sd,p.map Kn=L at *
 simp[-gh,aG,h_,h1,h2,lp,hd,ZT]
def pl (m:re)(most:Int)(r:Row):Pl:=r.foldl (dl m most) [(CL (0,[]),1)]
theorem Dd (m:re)(most:Int)(r:Row)(k:Nat):pl m most (r++[k])=dl m most (pl m most r) k:=by unfold pl;rw[List.foldl_append];rfl
def L9 (m:re):Row->Rest->Rest->Prop
 | [],y,x=>y=x
 | k::r,y,x=>∃z∈cg m y k,L9 m r z x
theorem wJ {m:re}(hm:aW m){most:Int}(D8:1<=most):∀(r:Row) (p:Pl),Cb m p->Cb m (r.foldl (dl m most) p)/\∀q,q∈(r.foldl (dl m most) p).map (·.1)↔∃y x,CL y∈p.map (·.1)/\L9 m r y x/\q=CL x
 | [],p,I=>⟨I,λq=>by
  constructor
  ·intro h
   obtain⟨y,hy,e⟩:=cb.mp h
   obtain⟨x,_,ex⟩:=I.un y hy
   exact⟨x,x,by rw[← ex];exact cb.mpr ⟨y,hy,rfl⟩,rfl,by rw[← ex];exact e.symm⟩
  ·rintro ⟨y,x,h,e,rfl⟩
   have e:y=x:=e
   rw[← e];exact h⟩
 | k::r,p,I=>by
  obtain⟨h1,h2⟩:=RG hm D8 I k
  obtain⟨h3,h4⟩:=wJ hm D8 r _ h1
  rw[List.foldl_cons]
  refine⟨h3,λq=>?_⟩
  rw[h4 q]
  constructor
  ·rintro ⟨y,x,hy,hp,e⟩
   obtain⟨z,hz,y',Y4,e'⟩:=(h2 _).mp hy
   have:=rN e'
   subst this
   exact⟨z,x,hz,⟨y,Y4,hp⟩,e⟩
  ·rintro ⟨y,x,hy,⟨z,hz,hp⟩,e⟩
   exact⟨z,x,(h2 _).mpr ⟨y,hy,z,hz,rfl⟩,hp,e⟩
theorem Hx (A3:m≠[]):(0,[])∈KP m:=by
 have hl:=eR.mpr A3
 refine bm _ (cb.mpr ⟨(0,0,0),DL.mpr ⟨m[0],af hl,.inl rfl⟩,rfl⟩)
theorem Ba (A3:m≠[]):Cb m [(CL (0,[]),1)]:=by
 refine⟨λy hy=>?_,λy hy=>?_,by simp⟩
 ·rw[av] at hy;subst hy;exact⟨_,Hx A3,rfl⟩
 ·rw[av] at hy;subst hy;exact Int.le_refl _
theorem vo (hm:aW m)(A3:m≠[])(D8:1<=most)(r:Row):Cb m (pl m most r):=(wJ hm D8 r _ (Ba A3)).1
theorem De (hm:aW m)(A3:m≠[])(D8:1<=most)(r:Row)(q:Int×Str):q∈(pl m most r).map (·.1)↔∃x,L9 m r (0,[]) x/\q=CL x:=by
 unfold pl
 rw[(wJ hm D8 r _ (Ba A3)).2 q]
 constructor
 ·rintro ⟨y,x,hy,hp,e⟩
  have:y=(0,[]):=rN (by simpa using hy)
  subst this
  exact⟨x,hp,e⟩
 ·rintro ⟨x,hp,e⟩
  exact⟨(0,[]),x,by simp,hp,e⟩
noncomputable def rem (L:Nat)(x:Rest):Nat:=if x.2=[] then 3*(L - x.1) else x.2.length+3*(L - x.1 - 1)
theorem Df {L:Nat}{cut:Bool}{l:qr}{y:Rest}(hl:slot < L)(h:y∈O0 slot cut l mark ends):rem L y+1<=l.length+3*(L - slot - 1):=by
 unfold O0 at h
 split at h
 ·cases h
 ·rename_i c r
  split at h
  ·split at h
   ·rename_i hr
    rw[av] at h
    subst h
    unfold rem
    rw[ax hr]
    simp;omega
   ·split at h
    ·cases h
    ·rw[av] at h
     subst h
     unfold rem
     simp
     rw[Nat.sub_sub];omega
  ·cases h
theorem Nj (hm:aW m){x y:Rest}{k:Nat}(h:y∈cg m x k):rem m.length y+1<=rem m.length x:=by
 unfold cg lD at h
 split at h
 ·cases h
 ·rename_i s hs
  have BE:=(ai.mp hs).1
  split at h
  ·rename_i hx
   obtain⟨p,hp,h⟩:=eB.mp h
   have h1:=Df BE h
   have h2:=((hm s (dn hs)).ok p hp).le
   rw[gF] at h1
   have:rem m.length x=3*(m.length - x.1):=by unfold rem;rw[bd hx]
   omega
  ·rename_i hx
   have h1:=Df BE h
   have:rem m.length x=x.2.length+3*(m.length - x.1 - 1):=by unfold rem;rw[ax hx]
   omega
theorem wK {m:re}(hm:aW m):∀(r:Row) (y x:Rest),L9 m r y x->r.length<=rem m.length y
 | [],_,_,_=>ce _
 | k::r,y,x,⟨z,hz,h⟩=>by
  have h1:=wK hm r z x h
  have h2:=Nj hm hz
  simp;omega
theorem RK (hm:aW m)(A3:m≠[])(hl:m.length<=3)(D8:1<=most)(r:Row)(h:9 < r.length):pl m most r=[]:=by
 cases e:pl m most r with
 | nil=>rfl
 | cons y p=>
  have:y.1∈(pl m most r).map (·.1):=by rw[e];simp
  obtain⟨x,hp,_⟩:=(De hm A3 D8 r _).mp this
  have h1:=wK hm r _ _ hp
  have:rem m.length (0,[])=3*m.length:=by simp[rem]
  omega
theorem wd (hm:aW m)(A3:m≠[])(hl:m.length<=3)(D8:1<=most)(ha:AH m B3):Wd aG 10 fY B3 most (pl m most):=by
 refine⟨?_,RK hm A3 hl D8,rfl⟩
 intro w n r k s e1 e2 hp hs
 have hk:k < 4:=by
  have:=(ai.mp hs).1
  exact this
 rw[Qz hk] at hs
 cases hs
 subst e1 e2
 rw[Dd]
 exact RJ hm hl ha D8 (vo hm A3 D8 r) hp hk
theorem Nk {w:WS}{p:Pl}(hp:w.C0[n]?=some (E7 p)):bc [w.pv 10,.int n]=some (.bl (decide (p=[]))):=by
 have h1:=qQ w [some (w.pv 10),some (.int n)] (bV 0) rfl
 have h2:B4 w.C0 (n:Int)=some (E7 p):=dC hp
 unfold E7 at h2
 have e:decide ((p.length:Int)=0)=decide (p=[]):=by
  cases p with
  | nil=>rfl
  | cons y p=>simp;omega
 generalize w.pv 10=WP at *
 simp[-gh,bc,lq,h1,h2]
 try exact e
theorem Bb:∀p:Pl,pq (p.map Kn)=some (p.map kE)
 | []=>rfl
 | y::p=>by
  rw[a0]
  show (AU [.int y.1.1,.str y.1.2]).bind _=_
  rw[show AU [.int y.1.1,.str y.1.2]=some (kQ y.1) from rfl,aE,Bb p]
  rfl
theorem Bc:∀(p q:Pl),((q++p).map (·.1)).Nodup->iz (p.map kE) (q.map kE)=(q++p).map kE
 | [],q,_=>by simp[iz]
 | y::p,q,h=>by
  have hn:aM (q.map kE) (kQ y.1)=none:=by
   rw[t8]
   unfold look
   rw[gS,gS,eW]
   intro z hz e
   rw[dc,iA] at h
   exact h.2.2 z.1 (cb.mpr ⟨z,hz,rfl⟩) y.1 (by simp) (by simpa using e)
  have e:iz ((y::p).map kE) (q.map kE)=iz (p.map kE) ((q++[y]).map kE):=by
   show iz (p.map kE) (bD (q.map kE) (kQ y.1) (.int y.2))=_
   rw[jm hn,dc];rfl
  rw[e,Bc p (q++[y]) (by simpa using h)]
  simp
theorem Dg {w:WS}{p:Pl}{e:Rest}(hm:aW m)(hl:m.length<=3)(I:Cb m p)(hp:w.C0[n]?=some (E7 p))(hf:w.fin=DT e):bz [w.pv 10,.int n]=some (.int ((look p (CL e)).getD 0)):=by
 have h1:=qQ w [some (w.pv 10),some (.int n)] (bV 0) rfl
 have h0:=QD w [some (w.pv 10),some (.int n)] (bV 0) rfl
 have h2:B4 w.C0 (n:Int)=some (E7 p):=dC hp
 unfold E7 at h2
 have h3:=Bb p
 have h4:=Bc p [] (by simpa using I.nd)
 rw[iE,gI] at h4
 have h5:=t8 p (CL e)
 have h6:=Dc e
 have h7:(p.map kE).length<=1000000:=by have:=I.len hm hl;simp;omega
 have h8:((look p (CL e)).map PV.int).getD (.int 0)=.int ((look p (CL e)).getD 0):=by cases look p (CL e) <;> rfl
 rw[hf] at h0
 unfold DT at h0
 generalize w.pv 10=WP,p.map Kn=L,p.map kE=K at *
 simp[-gh,-AU,bz,iG,h0,h1,h2,h3,h4,h5,h6,h7,h8]
theorem Bd {p:Pl}(I:Cb m p)(q:Int×Str):(0 < (look p q).getD 0↔q∈p.map (·.1))/\((look p q).getD 0=0↔q∉p.map (·.1)):=by
 unfold look
 cases h:p.find? λy=>decide (y.1=q) with
 | none=>
  have:q∉p.map (·.1):=by
   intro z
   obtain⟨y,hy,e⟩:=cb.mp z
   exact absurd (by simpa using e) (eW.mp h y hy)
  simp[this]
 | some y=>
  have h1:=im h
  have h2:y.1=q:=by simpa using l9 h
  have h3:=I.ge y h1
  have h4:q∈p.map (·.1):=cb.mpr ⟨y,h1,h2⟩
  simp only[iq,Option.getD_some]
  exact⟨⟨λ_=>h4,λ_=>by omega⟩,⟨λ_=>by omega,λz=>absurd h4 z⟩⟩
def dY (m:re):Rest:=(m.length,[])
noncomputable def FD (m:re)(r:Row):Bool:=@decide (L9 m r (0,[]) (dY m)) (Classical.propDecidable _)
theorem FE:FD m r=true↔L9 m r (0,[]) (dY m):=by unfold FD;simp
theorem lE (hm:aW m)(A3:m≠[])(D8:1<=most)(r:Row):CL (dY m)∈(pl m most r).map (·.1)↔FD m r=true:=by
 rw[De hm A3 D8,FE]
 constructor
 ·rintro ⟨x,h,e⟩
  rw[rN e];exact h
 ·intro h;exact⟨_,h,rfl⟩
theorem Dh (w:WS):(List.lookup ("ways_to_end" : Str) [(("ahead" : Str),PV.dT w.B3),("most",.int w.most),("end",w.fin),("places",.lst w.C0),("numbers",.dT w.nums),("onward",.dK w.EH)])=none:=by
 have a1:(("ways_to_end" : Str) == "ahead")=false:=by decide +kernel
 have a2:(("ways_to_end" : Str) == "most")=false:=by decide +kernel
 have a3:(("ways_to_end" : Str) == "end")=false:=by decide +kernel
 have a4:(("ways_to_end" : Str) == "places")=false:=by decide +kernel
 have a5:(("ways_to_end" : Str) == "numbers")=false:=by decide +kernel
 have a6:(("ways_to_end" : Str) == "onward")=false:=by decide +kernel
 simp[List.lookup,a1,a2,a3,a4,a5,a6]
theorem Ka {w1 w2:WS}{i j a b:Int}(h1:bz [w1.pv 10,.int i]=some (.int a))(h2:bz [w2.pv 10,.int j]=some (.int b)):
  aR [.lst [w1.pv 10,w2.pv 10],.tup [.int i,.int j]]=some (.bl (decide (0 < a)&&decide (b=0))):=by
 have l1:=Dh w1
 have l2:=Dh w2
 unfold WS.pv at *
 by_cases ha:0 < a
 ·simp[-List.lookup,aR,eX,h1,h2,l1,l2,ha]
 ·simp[-List.lookup,aR,eX,h1,h2,l1,l2,ha]
theorem Nm {N:PV}{n:qS}{ss:List PV}(h:Chain D n ss):∀(f:Nat) (acc:List PV),ss.length < f->acc.length+ss.length < 1000->
  ∃n0,jY fJ [] jz f [some (.dT D),some N,some (.lst acc),some (B5 n)]=some (.nx [some (.dT D),some N,some (.lst (acc++ss.reverse)),some (B5 n0)]):=by
 induction h with
 | @nil n h0=>
  intro f acc hf _
  cases f with
  | zero=>simp at hf
  | succ f=>
   have hk:=iB n
   refine⟨n,?_⟩
   unfold B5 jY
   have e:fJ [some (.dT D),some N,some (.lst acc),some (.tup (n.map .int))]=some false:=by simp[-AU,fJ,hk,h0]
   rw[e]
   simp
 | @snoc n n' s ss h0 h1 ih=>
  intro f acc hf ha
  cases f with
  | zero=>simp at hf
  | succ f=>
   have hk:=iB n'
   simp only[bo,fm] at hf ha
   obtain⟨n0,ih⟩:=ih f (acc++[s]) (by omega) (by simp;omega)
   have hl:acc.length < 1000000:=by omega
   refine⟨n0,?_⟩
   rw[List.reverse_append,List.reverse_singleton,k8]
   rw[d6,k8] at ih
   rw[← ih]
   conv=>lhs;unfold jY
   unfold B5 at h0 ⊢
   have e1:fJ [some (.dT D),some N,some (.lst acc),some (.tup (n'.map .int))]=some true:=by simp[-AU,fJ,hk,h0]
   have e2:jz [some (.dT D),some N,some (.lst acc),some (.tup (n'.map .int))]=some (.nx [some (.dT D),some N,some (.lst (acc++[s])),some (.tup (n.map .int))]):=by simp[-AU,jz,hk,h0,hl]
   rw[e1]
   simp[e2]
theorem RL {n:qS}{ss:List PV}(h:Chain D n ss)(hl:ss.length<=9):dh [.dT D,B5 n]=some (.lst ss):=by
 obtain⟨n0,key⟩:=Nm (N:=B5 n) h 1000000 [] (by omega) (by simp;omega)
 rw[gI] at key
 unfold B5 at key ⊢
 generalize n.map PV.int=L,n0.map PV.int=L0 at *
 simp[dh,xO,key]
theorem Kc (m:re):bJ [mP m]=some (cD (m.length,0,0)):=by simp[bJ,lA,mP,cD,E6]
theorem Kd (m:re):bN [mP m,gj]=some (DT (0,[])):=by
 have e:=CT
 simp[bN,j5,mP,gj,DT,e]
theorem Di (hm:aW m)(A3:m≠[])(hl:m.length<=3)(D8:1<=most):∃w B3,AH (B1 m) B3/\US bI bL bN bJ gj (mP m) most=some w/\WI B3 most (DT (dY (B1 m))) (pl (B1 m) most) w [pl (B1 m) most []]:=by
 obtain⟨c1,c2,c3⟩:=n6 hm A3
 obtain⟨D,h1,h2⟩:=J6 c1 (by omega)
 have h3:=QC A3 hl
 have h4:=Kc (B1 m)
 have h5:=wH c1 (t:=((B1 m).length,0,0)) (Hu (B1 m))
 have h6:=Kd (B1 m)
 have h7:AU [.tup [DT (0,[]),.int 1]]=some (KO (pl (B1 m) most [])):=rfl
 refine⟨{ B3:=D,most:=most,fin:=DT (dY (B1 m)),C0:=[E7 (pl (B1 m) most [])],nums:=[(KO (pl (B1 m) most []),.int 0)],EH:=[] },D,h2,?_,WI.new⟩
 unfold US
 simp only[h3,aE,h1,h4,h5,h6,h7]
 rfl
theorem mw {one other:re}(h1:aW one)(n1:one≠[])(l1:one.length<=3)(h2:aW other)(n2:other≠[])(l2:other.length<=3):
  (cG [mP one,mP other]=some .AO/\∀y,C4 y->FD (B1 one) y=true->FD (B1 other) y=true) \/
  ∃x,cG [mP one,mP other]=some (.lst (x.map Bn))/\C4 x/\FD (B1 one) x=true/\FD (B1 other) x=false/\∀y,C4 y->FD (B1 one) y=true->FD (B1 other) y=false->¬ (y.length < x.length\/(y.length=x.length/\lx y x)):=by
 obtain⟨c1,c2,c3⟩:=n6 h1 n1
 obtain⟨d1,d2,d3⟩:=n6 h2 n2
 obtain⟨w1,a1,YN,e1,I1⟩:=Di h1 n1 l1 (most:=1) (by decide)
 obtain⟨w2,a2,ha2,e2,I2⟩:=Di h2 n2 l2 (most:=1) (by decide)
 have D1:=wd c1 c2 (by omega) (most:=1) (by decide) YN
 have D2:=wd d1 d2 (by omega) (most:=1) (by decide) ha2
 have FU:(1:Int)<=1:=by decide
 have at_:∀{B3 fin:_}{m:re}{w:WS}{ps:List Pl}{r:Row},WI B3 1 fin (pl m 1) w ps->pl m 1 r∈ps->w.C0[ps.idxOf (pl m 1 r)]?=some (E7 (pl m 1 r)):=by
  intro B3 fin m w ps r I h
  rw[I.pe,cp,rM h];rfl
 have B:=bg2 (io:=bc) (so:=aR) (ro:=dh) (f1:=DT (dY (B1 one))) (f2:=DT (dY (B1 other))) (sought:=λr=>FD (B1 one) r&&!FD (B1 other) r) D1 D2
  (λw ps r I h=>Nk (at_ I h))
  (λw1 w2 Yf Yg r I J h g=>by
   have x1:=Dg c1 (by omega) (vo c1 c2 FU r) (at_ I h) I.fi
   have x2:=Dg d1 (by omega) (vo d1 d2 FU r) (at_ J g) J.fi
   rw[Ka x1 x2]
   have p1:=(Bd (vo c1 c2 FU r) (CL (dY (B1 one)))).1
   have p2:=(Bd (vo d1 d2 FU r) (CL (dY (B1 other)))).2
   rw[lE c1 c2 FU] at p1
   rw[lE d1 d2 FU] at p2
   congr 2
   rw[e9]
   simp[p1,p2])
  (λW n ss h hl=>RL h hl)
 have nil_of:∀{m:re}{r:Row},aW m->m≠[]->FD m r=true->pl m 1 r≠[]:=by
  intro m r hm A3 h z
  have:=(lE hm A3 FU r).mpr h
  rw[z] at this
  cases this
 have H:=bh2 (sought:=λr=>FD (B1 one) r&&!FD (B1 other) r) D1 D2
  (λx y e1 e2=>by
   have a:FD (B1 one) x=FD (B1 one) y:=by rw[e9,← lE c1 c2 FU,← lE c1 c2 FU,e1]
   have b:FD (B1 other) x=FD (B1 other) y:=by rw[e9,← lE d1 d2 FU,← lE d1 d2 FU,e2]
   simp only[a,b])
  (by simp[pl])
  (by
   have:FD (B1 one) []=false:=by
    cases h:FD (B1 one) [] with
    | false=>rfl
    | true=>
     have:(0,[])=dY (B1 one):=FE.mp h
     have:=dL Prod.fst this
     have h0:=eR.mpr c2
     simp[dY] at this
     omega
   simp[this])
  (λx k hk e=>by
   rw[Dd,e]
   rfl)
 have ew:cG [mP one,mP other]=Vs aG 10 fY bc aR dh [w1,w2]:=by
  unfold cG JM
  simp only[e1,e2,aE]
 rcases M_ (t:=([pl (B1 one) 1 []],[pl (B1 other) 1 []])) B H ⟨w1,w2,rfl,I1,I2⟩ (by simp[W8]) ⟨by simp,by simp⟩ with ⟨e,h⟩ | ⟨x,e,U9,L6,ZC,OZ,hx5⟩
 ·refine .inl ⟨by rw[ew,e],λy h4 hy=>?_⟩
  have:=h y h4 (by simpa using nil_of c1 c2 hy)
  simp[hy] at this
  exact this
 ·simp only[dv,Bool.not_eq_true'] at OZ
  refine .inr ⟨x,?_,L6,OZ.1,OZ.2,λy h4 hy ZU=>?_⟩
  ·rw[ew,e]
   congr 2
   exact dS λk hk=>SN (L6 k hk)
  ·exact hx5 y h4 (by simpa using nil_of c1 c2 hy) (by simp[hy,ZU])
noncomputable def bT (cut:Bool):List Nat->Row->Bool
 | [],_=>false
 | _::_,[]=>false
 | c::l,k::a=>AV ⟨#[c]⟩ (CA k)&&match l with
  | []=>decide (a=[])&&(!cut||D4 k)
  | _::_=>bT cut l a
def Seg:List Slot->Row->Prop
 | [],r=>r=[]
 | s::ms,r=>∃p∈s.1,∃a b,r=a++b/\bT s.2 p.cps.toList a=true/\Seg ms b
theorem wL {m:re}{slot:Nat}{s:Slot}(hs:m[slot]?=some s):∀(l:qr) (r:Row),l≠[]->(L9 m r (slot,l) (dY m)↔∃a b,r=a++b/\bT s.2 l a=true/\L9 m b (slot+1,[]) (dY m))
 | [],_,h=>absurd rfl h
 | c::l,[],_=>by
  constructor
  ·intro h
   have h:(slot,c::l)=dY m:=h
   cases h
  ·rintro ⟨a,b,e,h,_⟩
   have:a=[]:=(List.append_eq_nil_iff.mp e.symm).1
   subst this
   simp[bT] at h
 | c::l,k::r,_=>by
  have ZV:cg m (slot,c::l) k=if AV ⟨#[c]⟩ (CA k)=true then (if l≠[] then [(slot,l)] else if (s.2&&!D4 k)=true then [] else [(slot+1,[])]) else []:=by
   unfold cg lD
   simp only[hs]
   rw[ax (by simp)]
   rfl
  show (∃z∈cg m (slot,c::l) k,L9 m r z (dY m))↔_
  rw[ZV]
  by_cases D5:AV ⟨#[c]⟩ (CA k)=true
  ·rw[bd D5]
   cases l with
   | nil=>
    rw[ax (by simp)]
    by_cases hc:(s.2&&!D4 k)=true
    ·rw[bd hc]
     constructor
     ·rintro ⟨z,hz,_⟩;cases hz
     ·rintro ⟨a,b,e,h,_⟩
      cases a with
      | nil=>simp[bT] at h
      | cons k' a=>
       rw[g9] at e
       injection e with e1 e2
       subst e1
       simp[bT] at h
       simp at hc
       rcases h.2.2 with h | h
       ·rw[hc.1] at h;cases h
       ·rw[hc.2] at h;cases h
    ·rw[ax hc]
     constructor
     ·rintro ⟨z,hz,hp⟩
      rw[av] at hz
      subst hz
      refine⟨[k],r,rfl,?_,hp⟩
      simp[bT,D5]
      cases h1:s.2 <;> cases h2:D4 k <;> simp_all
     ·rintro ⟨a,b,e,h,hp⟩
      cases a with
      | nil=>simp[bT] at h
      | cons k' a=>
       rw[g9] at e
       injection e with e1 e2
       subst e1
       simp[bT] at h
       rw[h.2.1,gI] at e2
       subst e2
       exact⟨_,by simp,hp⟩
   | cons c' l=>
    rw[bd (by simp)]
    have ih:=wL hs (c'::l) r (by simp)
    constructor
    ·rintro ⟨z,hz,hp⟩
     rw[av] at hz
     subst hz
     obtain⟨a,b,e,h,hp⟩:=ih.mp hp
     exact⟨k::a,b,by rw[e];rfl,by rw[bT];simp[D5,h],hp⟩
    ·rintro ⟨a,b,e,h,hp⟩
     cases a with
     | nil=>simp[bT] at h
     | cons k' a=>
      rw[g9] at e
      injection e with e1 e2
      subst e1
      rw[bT] at h
      simp[D5] at h
      exact⟨_,by simp,ih.mpr ⟨a,b,e2,h,hp⟩⟩
  ·rw[ax D5]
   constructor
   ·rintro ⟨z,hz,_⟩;cases hz
   ·rintro ⟨a,b,e,h,_⟩
    cases a with
    | nil=>simp[bT] at h
    | cons k' a=>
     rw[g9] at e
     injection e with e1 e2
     subst e1
     unfold bT at h
     simp[D5] at h
theorem jM (h:BI p):p.cps.toList≠[]:=by
 intro z
 have:=dL List.length z
 rw[gF] at this
 have:=h.ge
 simp at *
 omega
theorem seg_iff {m:re}(hm:aW m):∀(n slot:Nat) (r:Row),slot+n=m.length->(L9 m r (slot,[]) (dY m)↔Seg (m.drop slot) r)
 | 0,slot,r,h=>by
  have:m.drop slot=[]:=by rw[eT];omega
  rw[this]
  have e:slot=m.length:=by omega
  subst e
  cases r with
  | nil=>exact⟨λ_=>rfl,λ_=>rfl⟩
  | cons k r=>
   constructor
   ·rintro ⟨z,hz,_⟩
    unfold cg at hz
    rw[CW] at hz
    cases hz
   ·intro h;cases h
 | n+1,slot,r,h=>by
  have BE:slot < m.length:=by omega
  have hs:m[slot]?=some m[slot]:=af BE
  have ok:=hm m[slot] (i7 BE)
  rw[bX BE]
  generalize m[slot]=s at *
  have ih:=seg_iff hm n (slot+1)
  show _↔∃p∈s.1,∃a b,r=a++b/\bT s.2 p.cps.toList a=true/\Seg (m.drop (slot+1)) b
  have e:L9 m r (slot,[]) (dY m)↔∃p∈s.1,L9 m r (slot,p.cps.toList) (dY m):=by
   cases r with
   | nil=>
    constructor
    ·intro z
     have z:(slot,[])=dY m:=z
     have:=dL Prod.fst z
     simp[dY] at this
     omega
    ·rintro ⟨p,hp,z⟩
     have z:(slot,p.cps.toList)=dY m:=z
     exact absurd (dL Prod.snd z) (jM (ok.ok p hp))
   | cons k r=>
    have h1:cg m (slot,[]) k=s.1.flatMap λp=>O0 slot s.2 p.cps.toList (CA k) (D4 k):=by
     unfold cg lD;simp only[hs];rfl
    have h2:∀p∈s.1,cg m (slot,p.cps.toList) k=O0 slot s.2 p.cps.toList (CA k) (D4 k):=by
     intro p hp
     unfold cg lD;simp only[hs];rw[ax (jM (ok.ok p hp))]
    constructor
    ·rintro ⟨z,hz,hp⟩
     rw[h1] at hz
     obtain⟨p,QN,hz⟩:=eB.mp hz
     exact⟨p,QN,z,by rw[h2 p QN];exact hz,hp⟩
    ·rintro ⟨p,QN,z,hz,hp⟩
     rw[h2 p QN] at hz
     exact⟨z,by rw[h1];exact eB.mpr ⟨p,QN,hz⟩,hp⟩
  rw[e]
  constructor
  ·rintro ⟨p,hp,h⟩
   obtain⟨a,b,e1,e2,e3⟩:=(wL hs _ r (jM (ok.ok p hp))).mp h
   exact⟨p,hp,a,b,e1,e2,(ih b (by omega)).mp e3⟩
  ·rintro ⟨p,hp,a,b,e1,e2,e3⟩
   exact⟨p,hp,(wL hs _ r (jM (ok.ok p hp))).mpr ⟨a,b,e1,e2,(ih b (by omega)).mpr e3⟩⟩
theorem Hy (hm:aW m)(r:Row):FD m r=true↔Seg m r:=by
 rw[FE]
 have:=seg_iff hm m.length 0 r (by omega)
 rw[mI] at this
 exact this
noncomputable def cN (r:Row):Bool:=(r.getLast?.map D4).getD false
theorem Ff (k:Nat)(r:Row)(h:r≠[]):cN (k::r)=cN r:=by
 unfold cN
 rw[List.getLast?_cons,cf h]
 rfl
theorem qR (a b:Row)(h:b≠[]):cN (a++b)=cN b:=by
 unfold cN
 rw[List.getLast?_append,cf h]
 rfl
theorem Dj {cut:Bool}:∀{l:qr}{a:Row},bT cut l a=true->a≠[]
 | [],_,h=>by simp[bT] at h
 | _::_,[],h=>by simp[bT] at h
 | _::_,_::_,_=>by simp
theorem t_ {c:Bool}:∀(l:qr) (a:Row),bT true l a=(bT c l a&&cN a)
 | [],_=>by simp[bT]
 | _::_,[]=>by simp[bT]
 | x::[],k::a=>by
  cases a with
  | nil=>simp[bT,cN];cases D4 k <;> simp
  | cons=>simp[bT]
 | x::y::l,k::a=>by
  rw[bT,bT]
  rw[t_ (c:=c) (y::l) a]
  cases a with
  | nil=>simp[bT]
  | cons j a=>rw[Ff k (j::a) (by simp),Bool.and_assoc]
theorem Be:∀{ms:re}{r:Row},ms≠[]->Seg ms r->r≠[]
 | [],_,h,_=>absurd rfl h
 | s::ms,r,_,⟨p,hp,a,b,e,h,_⟩=>by
  have:=Dj h
  rw[e]
  simp[this]
theorem wM (ps:qE)(c:Bool):∀(ms:re) (r:Row),Seg (ms++[(ps,true)]) r↔Seg (ms++[(ps,c)]) r/\cN r=true
 | [],r=>by
  constructor
  ·rintro ⟨p,hp,a,b,e,h,hb⟩
   have hb:b=[]:=hb
   subst hb
   rw[bE] at e
   subst e
   rw[t_ (c:=c)] at h
   simp at h
   exact⟨⟨p,hp,r,[],by simp,h.1,rfl⟩,h.2⟩
  ·rintro ⟨⟨p,hp,a,b,e,h,hb⟩,hl⟩
   have hb:b=[]:=hb
   subst hb
   rw[bE] at e
   subst e
   exact⟨p,hp,r,[],by simp,by rw[t_ (c:=c)];simp[h,hl],rfl⟩
 | s::ms,r=>by
  constructor
  ·rintro ⟨p,hp,a,b,e,h,hb⟩
   obtain⟨h1,h2⟩:=(wM ps c ms b).mp hb
   exact⟨⟨p,hp,a,b,e,h,h1⟩,by rw[e,qR a b (Be (by simp) hb)];exact h2⟩
  ·rintro ⟨⟨p,hp,a,b,e,h,hb⟩,hl⟩
   exact⟨p,hp,a,b,e,h,(wM ps c ms b).mpr ⟨hb,by rw[e,qR a b (Be (by simp) hb)] at hl;exact hl⟩⟩
theorem Dk (A3:m≠[])(r:Row):Seg (B1 m) r↔Seg m r/\cN r=true:=by
 have e:m=m.dropLast++[((m.getLast A3).1,(m.getLast A3).2)]:=(jv A3).symm
 have e2:B1 m=m.dropLast++[((m.getLast A3).1,true)]:=by unfold B1;rw[cf A3];rfl
 rw[e2]
 conv=>rhs;rw[e]
 exact wM _ _ _ r
theorem n_ {cut:Bool}:∀(l:qr) (a:Row),l≠[]->(bT cut l a=true↔a.length=l.length/\(∀k,k < l.length->AV ⟨#[l.getD k 0]⟩ (CA (a.getD k 0))=true)/\(cut=true->D4 (a.getD (l.length - 1) 0)=true))
 | [],_,h=>absurd rfl h
 | c::l,[],_=>by simp[bT]
 | c::[],k::a,_=>by
  cases a with
  | nil=>
   simp[bT]
   intro _
   cases cut <;> simp
  | cons=>simp[bT]
 | c::d::l,k::a,_=>by
  rw[bT]
  simp only[dv]
  rw[n_ (d::l) a (by simp)]
  constructor
  ·rintro ⟨h1,h2,h3,h4⟩
   refine⟨by simp at h2 ⊢;omega,?_,?_⟩
   ·intro j hj
    cases j with
    | zero=>exact h1
    | succ j=>exact h3 j (by simp at hj ⊢;omega)
   ·intro z
    exact h4 z
  ·rintro ⟨h1,h2,h3⟩
   refine⟨h2 0 (by simp),by simp at h1 ⊢;omega,λj hj=>h2 (j+1) (by simp at hj ⊢;omega),λz=>h3 z⟩
noncomputable def rP (r:Row):PV:=.lst (r.map Bn)
noncomputable def Pc (r:Row)(i:Nat)(p:Str)(cut:Bool):Bool:=decide (i+p.length<=r.length)&&((!cut||D4 (r.getD (i+p.length - 1) 0))&&(List.range p.length).all λk=>AV (bA p k) (CA (r.getD (i+k) 0)))
theorem wN {cut:Bool}(hp:BI p):Pc r i p cut=true↔i+p.length<=r.length/\bT cut p.cps.toList ((r.drop i).take p.length)=true:=by
 unfold Pc
 simp only[dv,eD,hJ,bP]
 have XX:=hp.ge
 constructor
 ·rintro ⟨h1,h2,h3⟩
  refine⟨h1,(n_ _ _ (jM hp)).mpr ⟨?_,?_,?_⟩⟩
  ·rw[gF,g6,gp];omega
  ·intro k hk
   rw[gF] at hk
   have:=h3 k hk
   rw[bb (l:=List.take _ _),kG,bd hk,kH,← bb]
   exact this
  ·intro hc
   rw[gF,bb,kG,bd (by omega),kH,← bb,show i+(p.length - 1)=i+p.length - 1 by omega]
   simpa [hc] using h2
 ·rintro ⟨h1,h2⟩
  obtain⟨a,b,c⟩:=(n_ _ _ (jM hp)).mp h2
  refine⟨h1,?_,?_⟩
  ·cases hc:cut with
   | false=>rfl
   | true=>
    have:=c hc
    rw[gF,bb,kG,bd (by omega),kH,← bb,show i+(p.length - 1)=i+p.length - 1 by omega] at this
    simp[-List.getD_eq_getElem?_getD,this]
  ·intro k hk
   have:=b k (by rw[gF];exact hk)
   rw[bb (l:=List.take _ _),kG,bd hk,kH,← bb] at this
   exact this
theorem Fg {k:Nat}(h:k < r.length):B4 (r.map Bn) (k:Int)=some (Bn (r.getD k 0)):=by
 refine dC ?_
 rw[cp,af h]
 simp[h]
theorem Ke (n:Nat)(f:Nat->Bool):(((List.range n).filter λk=>!f k)=[])↔(List.range n).all f=true:=by
 rw[List.filter_eq_nil_iff,hJ]
 simp
theorem QG (l:qr)(h:l.length < 1000):GB (.lst (l.map λk=>PV.int (k:Nat))) (.lst [])=some (decide (l=[])):=by
 cases l with
 | nil=>exact MK
 | cons k l=>
  rw[a0]
  have:=sG (n:=1) (x:=.int (k:Nat)) (xs:=l.map λk=>PV.int (k:Nat)) (by
   simp only[EV]
   intro x hx
   rcases be.mp hx with rfl | hx
   ·simp[EV]
   ·obtain⟨j,_,rfl⟩:=cb.mp hx;simp[EV]) (by decide)
  rw[this]
  simp
theorem Np (hr:r.length < 1000)(hi:i < 1000)(hp:BI p)(cut:Bool):bh [rP r,.int i,.str p,.bl cut]=some (.bl (Pc r i p cut)):=by
 have BO:p.length<=1000000:=by have:=hp.le;omega
 have XX:=hp.ge
 have hle:=hp.le
 by_cases h1:i+p.length<=r.length
 ·have hx:¬ (r.length:Int) < (i:Int)+p.length:=by omega
  have ea:((i:Int)+p.length - 1)=((i+p.length - 1:Nat):Int):=by omega
  have h2:=Fg (r:=r) (k:=i+p.length - 1) (by omega)
  rw[← ea] at h2
  have comp:dg [none,some (.str p),some (rP r),some (.int i)] (gN 0) jk ji ((List.range p.length).map λk=>PV.int (k:Nat))=some (((List.range p.length).filter λk=>!AV (bA p k) (CA (r.getD (i+k) 0))).map λk=>PV.int (k:Nat)):=by
   refine qG _ _ (λk=>!AV (bA p k) (CA (r.getD (i+k) 0))) (List.range p.length) λk hk=>⟨_,rfl,?_,λ_=>by simp[ji]⟩
   have GH:=bP.mp hk
   have h3:=Fg (r:=r) (k:=i+k) (by omega)
   have h3:B4 (r.map Bn) ((i:Int)+(k:Int))=some (Bn (r.getD (i+k) 0)):=by exact_mod_cast h3
   have h4:=Af GH
   have h5:oX (.str (bA p k)) (.tup [.str "x",.str (CA (r.getD (i+k) 0))])=some (AV (bA p k) (CA (r.getD (i+k) 0))):=by
    have:=qN (bA p k) ["x",CA (r.getD (i+k) 0)]
    rw[show ([("x" : Str),CA (r.getD (i+k) 0)].map PV.str)=[.str "x",.str (CA (r.getD (i+k) 0))] from rfl] at this
    rw[this]
    unfold AV
    congr 1
    rw[e9]
    simp[or_comm]
   unfold bA at h5
   unfold rP
   rw[show Bn (r.getD (i+k) 0)=.tup [.str (CA (r.getD (i+k) 0)),.bl (D4 (r.getD (i+k) 0))] from rfl] at h3
   generalize CA (r.getD (i+k) 0)=mk,D4 (r.getD (i+k) 0)=en at *
   simp[-List.getD_eq_getElem?_getD,jk,h3,h4,BO,h5,bA]
  have en:=QG ((List.range p.length).filter λk=>!AV (bA p k) (CA (r.getD (i+k) 0))) (by have:=List.length_filter_le (λk=>!AV (bA p k) (CA (r.getD (i+k) 0))) (List.range p.length);simp at this ⊢;omega)
  have fa:=Ke p.length λk=>AV (bA p k) (CA (r.getD (i+k) 0))
  have Pd:GG (p.length:Int)=true:=jH (by omega) (by omega)
  have hrl:((List.range p.length).map λk=>PV.int (k:Nat)).length<=1000000:=by simp;omega
  have ZW:=gW p.length
  unfold Pc
  rw[hV h1,Bool.true_and]
  unfold rP at comp ⊢
  rw[show Bn (r.getD (i+p.length - 1) 0)=.tup [.str (CA (r.getD (i+p.length - 1) 0)),.bl (D4 (r.getD (i+p.length - 1) 0))] from rfl] at h2
  generalize (List.range p.length).map (λk=>PV.int (k:Nat))=RR,hF:((List.range p.length).filter λk=>!AV (bA p k) (CA (r.getD (i+k) 0)))=F at *
  have e3:(List.range p.length).all (λk=>AV (bA p k) (CA (r.getD (i+k) 0)))=decide (F=[]):=by
   rw[e9,← fa];simp
  rw[e3]
  generalize F.map (λk=>PV.int (k:Nat))=FF,CA (r.getD (i+p.length - 1) 0)=mk,D4 (r.getD (i+p.length - 1) 0)=ee at *
  cases cut <;> cases ee <;> simp[-List.getD_eq_getElem?_getD,bh,lB,BO,hx,h2,Pd,ZW,hrl,comp,en]
 ·have hx:(r.length:Int) < (i:Int)+p.length:=by omega
  have:Pc r i p cut=false:=by unfold Pc;simp[h1]
  rw[this]
  simp[bh,lB,rP,BO,hx]
structure DN (N:Nat)(kvs:List (Key×PV))(K:Nat->Prop):Prop where
 en:∀e∈kvs,∃i:Nat,e.1=.inl (i:Int)
 vl:∀(i:Nat),K i->∃n:Int,1<=n/\aM kvs (.inl (i:Int))=some (.int n)
 no:∀(i:Nat),¬ K i->aM kvs (.inl (i:Int))=none
 ln:kvs.length<=N
variable {kvs:List (Key×PV)}
theorem DN.mem {N:Nat}{K:Nat->Prop}(I:DN N kvs K):K i↔∃v,(.inl (i:Int),v)∈kvs:=by
 constructor
 ·intro h
  obtain⟨n,_,e⟩:=I.vl i h
  unfold aM at e
  obtain⟨y,hy,_⟩:=br.mp e
  have h2:y.1=.inl (i:Int):=by simpa using l9 hy
  exact⟨y.2,by rw[← h2];exact im hy⟩
 ·rintro ⟨v,hv⟩
  refine ny λh=>?_
  have:=pD (I.no i h)
  rw[kM] at this
  exact this _ hv (by simp)
theorem DN.put {N:Nat}{K:Nat->Prop}(I:DN N kvs K)(j:Nat){u:Int}(hu:1<=u):DN (N+1) (bD kvs (.inl (j:Int)) (.int u)) λi=>K i\/i=j:=by
 have inj:∀{a b:Nat},(.inl (a:Int):Key)=.inl (b:Int)->a=b:=λh=>by injection h with h;omega
 refine⟨?_,?_,?_,?_⟩
 ·intro e he
  unfold bD at he
  split at he
  ·obtain⟨z,hz,rfl⟩:=cb.mp he
   split
   ·exact I.en z hz
   ·exact I.en z hz
  ·rcases bn.mp he with he | he
   ·exact I.en e he
   ·rw[av] at he;subst he;exact⟨j,rfl⟩
 ·intro i h
  rw[qP]
  by_cases e:i=j
  ·subst e;exact⟨u,hu,by rw[bd rfl]⟩
  ·rw[ax λz=>e (inj z)]
   exact I.vl i (h.resolve_right e)
 ·intro i h
  rw[qP,ax λz=>h (.inr (inj z))]
  exact I.no i λz=>h (.inl z)
 ·have:=Av kvs (.inl (j:Int)) (.int u)
  have:=I.ln
  omega
theorem DN.imp {N M:Nat}{K K':Nat->Prop}(I:DN N kvs K)(h:∀i,K i↔K' i)(hN:N<=M):DN M kvs K':=⟨I.en,λi hi=>I.vl i ((h i).mpr hi),λi hi=>I.no i λz=>hi ((h i).mp z),dP I.ln hN⟩
section
variable {r:Row}(hr:r.length < 900)
include hr
theorem ZX {i:Nat}(hi:i < 900){m:Int}(hm:1<=m){cut:Bool}:∀(ps:qE) (kvs:List (Key×PV)) (K:Nat->Prop) (N:Nat),(∀p∈ps,BI p)->N+ps.length < 1000->DN N kvs K->
  ∃HG,jK bh (rP r) (.bl cut) (i:Int) m (ps.map .str) kvs=some HG/\DN (N+ps.length) HG λj=>K j\/∃p∈ps,Pc r i p cut=true/\j=i+p.length
 | [],kvs,K,N,_,_,I=>⟨kvs,rfl,I.imp (λj=>by simp) (by simp)⟩
 | p::ps,kvs,K,N,hp,hN,I=>by
  have Vv:=hp p ar
  have hf:=Np (r:=r) (by omega) (i:=i) (by omega) Vv cut
  simp only[bv] at hN
  cases Yh:Pc r i p cut with
  | false=>
   rw[Yh] at hf
   obtain⟨HG,h1,h2⟩:=ZX hi hm ps kvs K N (λq hq=>hp q (al _ hq)) (by omega) I
   refine⟨HG,?_,h2.imp (λj=>?_) (by simp)⟩
   ·rw[a0,jK]
    have:pA bh (rP r) (.bl cut) (i:Int) m (.str p) kvs=some kvs:=by
     unfold pA
     rw[hf];rfl
    rw[this];exact h1
   ·simp[Yh]
  | true=>
   rw[Yh] at hf
   have hu:∃u:Int,0<=u/\(aM kvs (.inl ((i:Int)+p.length))).getD (.int 0)=.int u:=by
    have e:((i:Int)+p.length)=((i+p.length:Nat):Int):=by omega
    rw[e]
    by_cases hk:K (i+p.length)
    ·obtain⟨n,hn,e⟩:=I.vl _ hk
     exact⟨n,by omega,by rw[e];rfl⟩
    ·exact⟨0,by omega,by rw[I.no _ hk];rfl⟩
   obtain⟨u,hu0,hu⟩:=hu
   have I2:=I.put (i+p.length) (u:=u+m) (by omega)
   obtain⟨HG,h1,h2⟩:=ZX hi hm ps _ _ (N+1) (λq hq=>hp q (al _ hq)) (by omega) I2
   refine⟨HG,?_,h2.imp (λj=>?_) (by simp;omega)⟩
   ·rw[a0,jK]
    have:pA bh (rP r) (.bl cut) (i:Int) m (.str p) kvs=some (bD kvs (.inl ((i+p.length:Nat):Int)) (.int (u+m))):=by
     unfold pA
     rw[hf]
     simp only[aE,hu]
     have h3:=Vv.le
     have h4:=I.ln
     rw[bd ⟨by omega,by omega⟩]
     rfl
    rw[this];exact h1
   ·simp only[be,exists_eq_or_imp,Yh,true_and,or_assoc]
theorem mf2 {cut:Bool}{ps:qE}(ok:CI ps){all:List (Key×PV)}{KA:Nat->Prop}{NA:Nat}(A:DN NA all KA)(hKA:∀i,KA i->i < 900):∀(ws kvs:List (Key×PV)) (K:Nat->Prop) (N:Nat),(∀e∈ws,e∈all)->N+4*ws.length < 1000->DN N kvs K->
  ∃HG,jL bh (rP r) (.bl cut) (ps.map .str) all ws kvs=some HG/\DN (N+4*ws.length) HG λj=>K j\/∃i:Nat,(∃v,(.inl (i:Int),v)∈ws)/\∃p∈ps,Pc r i p cut=true/\j=i+p.length
 | [],kvs,K,N,_,_,I=>⟨kvs,rfl,I.imp (λj=>by simp) (by simp)⟩
 | (k,v)::ws,kvs,K,N,hw,hN,I=>by
  obtain⟨i,hi⟩:=A.en _ (hw _ ar)
  simp only at hi
  subst hi
  have hKi:KA i:=A.mem.mpr ⟨v,hw _ ar⟩
  obtain⟨m,hm,em⟩:=A.vl i hKi
  simp only[bv] at hN
  have hl:=ok.le
  obtain⟨k1,h1,I1⟩:=ZX hr (hKA i hKi) hm (cut:=cut) ps kvs K N ok.ok (by omega) I
  obtain⟨k2,h2,I2⟩:=mf2 (cut:=cut) ok A hKA ws k1 _ (N+ps.length) (λe he=>hw e (al _ he)) (by omega) I1
  refine⟨k2,?_,I2.imp (λj=>?_) (by simp;omega)⟩
  ·unfold jL
   simp only[em,h1,aE,h2]
  ·constructor
   ·rintro ((h | ⟨p,hp,h3,h4⟩) | ⟨i',⟨v',OR⟩,h⟩)
    ·exact .inl h
    ·exact .inr ⟨i,⟨v,ar⟩,p,hp,h3,h4⟩
    ·exact .inr ⟨i',⟨v',al _ OR⟩,h⟩
   ·rintro (h | ⟨i',⟨v',OR⟩,h⟩)
    ·exact .inl (.inl h)
    ·rcases be.mp OR with e | OR
     ·have:i'=i:=by injection e with e _;injection e with e;omega
      subst this
      exact .inl (.inr h)
     ·exact .inr ⟨i',⟨v',OR⟩,h⟩
theorem mf3:∀(ms:re) (w:List (Key×PV)) (K:Nat->Prop) (N:Nat),aW ms->N*4 ^ ms.length < 900->(∀i,K i->i<=r.length)->DN N w K->
  ∃w',g_ bh (rP r) (ms.map BM) w=some w'/\DN (N*4 ^ ms.length) w' λj=>∃i,K i/\∃a b,r.drop i=a++b/\Seg ms a/\j=i+a.length
 | [],w,K,N,_,_,hK,I=>⟨w,rfl,I.imp (λj=>by
   constructor
   ·intro h;exact⟨j,h,[],r.drop j,rfl,rfl,by simp⟩
   ·rintro ⟨i,h,a,b,e,hs,rfl⟩
    have hs:a=[]:=hs
    subst hs
    simpa using h) (by simp)⟩
 | s::ms,w,K,N,hm,hN,hK,I=>by
  have ok:=hm s ar
  have HC:1<=4 ^ ms.length:=Nat.pos_of_ne_zero (by simp)
  rw[bv,Nat.pow_succ] at hN
  have hN4:N*4 < 900:=by
   have:N*4*1<=N*4*4 ^ ms.length:=Nat.mul_le_mul_left _ HC
   have e:N*(4 ^ ms.length*4)=N*4*4 ^ ms.length:=by rw[qo (4 ^ ms.length),qh]
   omega
  have hl:=I.ln
  obtain⟨w1,h1,I1⟩:=mf2 hr (cut:=s.2) ok I (λi h=>by have:=hK i h;omega) w [] (λ_=>False) 0 (λe he=>he) (by omega) ⟨(λe he=>by cases he),λi h=>h.elim,λi _=>rfl,by simp⟩
  have I1':DN (N*4) w1 λj=>∃i,K i/\∃p∈s.1,Pc r i p s.2=true/\j=i+p.length:=I1.imp (λj=>by
   constructor
   ·rintro (h | ⟨i,hi,h⟩)
    ·exact h.elim
    ·exact⟨i,I.mem.mpr hi,h⟩
   ·rintro ⟨i,hi,h⟩
    exact .inr ⟨i,I.mem.mp hi,h⟩) (by omega)
  obtain⟨w2,h2,I2⟩:=mf3 ms w1 _ (N*4) (λt ht=>hm t (al _ ht)) (by
   have e:N*(4 ^ ms.length*4)=N*4*4 ^ ms.length:=by rw[qo (4 ^ ms.length),qh]
   omega) (by
   rintro j ⟨i,hi,p,hp,hf,rfl⟩
   exact((wN (ok.ok p hp)).mp hf).1) I1'
  refine⟨w2,?_,I2.imp (λj=>?_) (by
   have e:N*(4 ^ ms.length*4)=N*4*4 ^ ms.length:=by rw[qo (4 ^ ms.length),qh]
   rw[bv,Nat.pow_succ];omega)⟩
  ·rw[a0]
   show (jL bh (rP r) (.bl s.2) (s.1.map .str) w w []).bind _=_
   rw[h1];exact h2
  ·constructor
   ·rintro ⟨i',⟨i,hi,p,hp,hf,rfl⟩,a,b,e,hs,rfl⟩
    obtain⟨f1,f2⟩:=(wN (ok.ok p hp)).mp hf
    have e0:r.drop i=(r.drop i).take p.length++r.drop (i+p.length):=by rw[← mT,List.take_append_drop]
    refine⟨i,hi,(r.drop i).take p.length++a,b,by rw[d6,← e,← e0],⟨p,hp,_,a,rfl,f2,hs⟩,?_⟩
    rw[bo,g6,gp]
    omega
   ·rintro ⟨i,hi,a,b,e,⟨p,hp,a1,a2,rfl,hf,hs⟩,rfl⟩
    have hlen:a1.length=p.length:=by rw[((n_ _ _ (jM (ok.ok p hp))).mp hf).1,gF]
    have hle:i+p.length<=r.length:=by
     have:=dL List.length e
     have:=hK i hi
     simp at *
     omega
    have e1:(r.drop i).take p.length=a1:=by rw[e,d6,← hlen,List.take_left'];rfl
    have e2:r.drop (i+p.length)=a2++b:=by rw[← mT,e,d6,← hlen,List.drop_left'];rfl
    exact⟨i+p.length,⟨i,hi,p,hp,(wN (ok.ok p hp)).mpr ⟨hle,by rw[e1];exact hf⟩,rfl⟩,a2,b,e2,hs,by simp;omega⟩
theorem wO (hm:aW m)(hl:m.length<=3):∃n:Int,0<=n/\cH [mP m,rP r]=some (.int n)/\(0 < n↔Seg m r):=by
 have h4:1*4 ^ m.length < 900:=by
  have:m.length=0\/m.length=1\/m.length=2\/m.length=3:=by omega
  rcases this with h | h | h | h <;> rw[h] <;> decide
 obtain⟨w,h1,I⟩:=mf3 hr m [(.inl 0,.int 1)] (λi=>i=0) 1 hm h4 (λi h=>by omega) ⟨λe he=>by rw[av] at he;subst he;exact⟨0,rfl⟩,λi h=>by subst h;exact⟨1,by omega,rfl⟩,λi h=>by
   have:¬ ((0:Int)=(i:Int)):=by omega
   simp[aM,this],by simp⟩
 have key:(∃i,i=0/\∃a b,r.drop i=a++b/\Seg m a/\r.length=i+a.length)↔Seg m r:=by
  constructor
  ·rintro ⟨i,rfl,a,b,e,hs,hlen⟩
   rw[mI] at e
   have:b=[]:=by
    have:=dL List.length e
    simp at this
    exact gy.mp (by omega)
   rw[this,bE] at e
   rw[e];exact hs
  ·intro h
   exact⟨0,rfl,r,[],by simp,h,by simp⟩
 have e:cH [mP m,rP r]=some ((aM w (.inl (r.length:Nat))).getD (.int 0)):=by
  show (g_ bh (.lst (r.map Bn)) (m.map BM) [(.inl 0,.int 1)]).bind _=_
  have h1:g_ bh (.lst (r.map Bn)) (m.map BM) [(.inl 0,.int 1)]=some w:=h1
  rw[h1]
  simp
 by_cases hs:Seg m r
 ·obtain⟨n,hn,en⟩:=I.vl r.length (key.mpr hs)
  exact⟨n,by omega,by rw[e,en];rfl,λ_=>hs,λ_=>by omega⟩
 ·have:=I.no r.length λz=>hs (key.mp z)
  exact⟨0,by omega,by rw[e,this];rfl,λz=>by omega,λz=>absurd z hs⟩
end
theorem Nq (h:mark = "u" \/ mark = "-")(e:Bool):∃q,q < 4/\CA q=mark/\D4 q=e:=by
 rcases h with rfl | rfl <;> cases e
 ·exact⟨0,by decide,rfl,rfl⟩
 ·exact⟨1,by decide,rfl,rfl⟩
 ·exact⟨2,by decide,rfl,rfl⟩
 ·exact⟨3,by decide,rfl,rfl⟩
theorem RM {i:Int}(h0:0<=i)(h1:i < 2):∃c,((⟨#[c]⟩:Str) = "u" \/ (⟨#[c]⟩:Str) = "-")/\B4 (("u-" : Str).cps.toList) i=some c:=by
 have e:("u-" : Str).cps.toList=[117,45]:=by decide +kernel
 obtain⟨k,rfl⟩:∃k:Nat,i=k:=⟨i.toNat,by omega⟩
 rw[e]
 have hk:k=0\/k=1:=by omega
 rcases hk with rfl | rfl
 ·exact⟨117,.inl (by decide +kernel),rfl⟩
 ·exact⟨45,.inr (by decide +kernel),rfl⟩
theorem QH:("u-" : Str).length<=1000000:=by decide +kernel
theorem QJ (a b c d:Int)(hj:j < 4):∃v,B4 [PV.int a,.int b,.int c,.int d] (j:Int)=some (.int v)/\(v=a\/v=b\/v=c\/v=d):=by
 have:j=0\/j=1\/j=2\/j=3:=by omega
 rcases this with rfl | rfl | rfl | rfl
 ·exact⟨a,rfl,.inl rfl⟩
 ·exact⟨b,rfl,.inr (.inl rfl)⟩
 ·exact⟨c,rfl,.inr (.inr (.inl rfl))⟩
 ·exact⟨d,rfl,.inr (.inr (.inr rfl))⟩
theorem Hz {cl:PV}{L:qr}(hL:L.length < 1000){K:Nat}{n:Int}(hp:BI p)(hj:j < p.length):
  ∃q,q < 4/\AV (bA p j) (CA q)=true/\(j+1=p.length->(s.2=true\/K+1=m.length)->D4 q=true) /\
   turn (gN 7) [7,8,9] gk (.int j) [some (mP m),some cl,some (.lst (L.map Bn)),some (.int K),some (BM s),some (.int n),some (.str p),none,none,none]=some [some (mP m),some cl,some (.lst ((L++[q]).map Bn)),some (.int K),some (BM s),some (.int n),some (.str p),none,none,none]:=by
 have hle:=hp.le
 have BO:p.length<=1000000:=by omega
 have h1:=Af hj
 have hL':L.length < 1000000:=by omega
 obtain⟨v1,t1,hv1⟩:=QJ 4 8 16 32 (j:=j) (by omega)
 obtain⟨v2,t2,hv2⟩:=QJ 64 128 256 512 (j:=j) (by omega)
 have ZY:0 < v1/\v1 < 1073741824:=by omega
 have ZZ:0 < v2/\v2 < 1073741824:=by omega
 have U6:=hp.cs (p.cps.toList.getD j 0) (by
  rw[bb,af (by rw[gF];exact hj)]
  exact i7 _)
 obtain⟨c,hc,hcu⟩:=RM (i:=n / v1 % 2) (by omega) (by omega)
 have hul:=QH
 generalize he:((decide (n / v2 % 2=1)||(s.2&&decide ((j:Int)+1=p.length)))||(decide ((K:Int)+1=m.length)&&decide ((j:Int)+1=p.length)))=e
 have Z0:j+1=p.length->(s.2=true\/K+1=m.length)->e=true:=by
  intro a b
  rw[← he]
  have a':(j:Int)+1=p.length:=by omega
  rcases b with b | b
  ·simp[a',b]
  ·have b':(K:Int)+1=m.length:=by omega
   simp[a',b']
 obtain⟨mark,hmk,D5,hmx⟩:∃mark:Str,(mark = "u" \/ mark = "-")/\AV (bA p j) mark=true/\((bA p j = "x" /\ mark=⟨#[c]⟩)\/(¬ bA p j = "x" /\ mark=bA p j)):=by
  by_cases hx:bA p j=("x" : Str)
  ·exact⟨⟨#[c]⟩,hc,by unfold AV;rw[hx];simp,.inl ⟨hx,rfl⟩⟩
  ·refine⟨bA p j,?_,by unfold AV;simp,.inr ⟨hx,rfl⟩⟩
   rcases U6 with e | e | e
   ·left;unfold bA;rw[e];decide +kernel
   ·right;unfold bA;rw[e];decide +kernel
   ·exfalso;apply hx;unfold bA;rw[e];decide +kernel
 obtain⟨q,hq,hqm,hqe⟩:=Nq hmk e
 refine⟨q,hq,by rw[hqm];exact D5,λa b=>by rw[hqe];exact Z0 a b,?_⟩
 have hsa:Bn q=.tup [.str mark,.bl e]:=by unfold Bn;rw[hqm,hqe]
 rw[b_,dc,List.map_singleton,hsa,← he]
 have hll:(L.map Bn).length < 1000000:=by simp;omega
 generalize L.map Bn=LL at *
 unfold BM mP
 refine Eq.trans (dL (X9 _) ((cz (e:=[some (.tup (m.map BM)),some cl,some (.lst LL),some (.int K),some (.tup [.tup (s.1.map .str),.bl s.2]),some (.int n),some (.str p),some (.int j),some (.str (bA p j)),none]) (by simp[-List.getD_eq_getElem?_getD,BO,h1,bA])).trans (cz (e:=[some (.tup (m.map BM)),some cl,some (.lst LL),some (.int K),some (.tup [.tup (s.1.map .str),.bl s.2]),some (.int n),some (.str p),some (.int j),some (.str mark),none]) (by
  rcases hmx with ⟨hx,rfl⟩ | ⟨hx,rfl⟩
  ·rw[hx];simp[ZY,t1,hcu,hul]
  ·simp[hx])))) ?_
 cases s.2 <;> by_cases x1:n / v2 % 2=1 <;> by_cases x2:(j:Int)+1=p.length <;> by_cases x3:(K:Int)+1=m.length <;> simp[ZZ,t2,BO,x1,x2,x3,hll]
theorem Dl {s:Slot}{p:Str}(hp:p∈s.1){b:Row}(hb:bT s.2 p.cps.toList b=true):∀(ms:re) (a:Row),Seg ms a->Seg (ms++[s]) (a++b)
 | [],a,h=>by
  have h:a=[]:=h
  subst h
  exact⟨p,hp,b,[],by simp,hb,rfl⟩
 | t::ms,a,⟨p',QN,a1,a2,e,hf,hs⟩=>⟨p',QN,a1,a2++b,by rw[e,d6],hf,Dl hp hb ms a2 hs⟩
theorem Nr {cl:PV}{L:qr}(hL:L.length < 900){K:Nat}{n:Int}(hp:BI p):
  ∃a,C4 a/\a.length=p.length/\bT s.2 p.cps.toList a=true/\(K+1=m.length->cN a=true) /\
   cW (gN 7) [7,8,9] gk (cV 0 (p.length:Int)) [some (mP m),some cl,some (.lst (L.map Bn)),some (.int K),some (BM s),some (.int n),some (.str p),none,none,none]=some (.nx [some (mP m),some cl,some (.lst ((L++a).map Bn)),some (.int K),some (BM s),some (.int n),some (.str p),none,none,none]):=by
 have hle:=hp.le
 have XX:=hp.ge
 obtain⟨a,⟨d,e1,e2,e3,e4,e5⟩,h⟩:=dX (g:=gN 7) (ds:=[7,8,9]) (body:=gk) (λj:Nat=>PV.int (j:Nat)) (λa:List Nat=>[some (mP m),some cl,some (.lst ((L++a).map Bn)),some (.int K),some (BM s),some (.int n),some (.str p),none,none,none])
  (λr a=>∃d,List.range p.length=d++r/\a.length=d.length/\C4 a/\(∀i,i < a.length->AV (bA p i) (CA (a.getD i 0))=true)/\(a.length=p.length->(s.2=true\/K+1=m.length)->D4 (a.getD (p.length - 1) 0)=true))
  (by
   rintro j r a ⟨d,e1,e2,e3,e4,e5⟩
   have hd:d.length+r.length+1=p.length:=by have:=dL List.length e1;simp at this;omega
   have hj:j=d.length:=by
    have:=dL (λl:List Nat=>l[d.length]?) e1
    simp at this
    rw[mf (by omega)] at this
    simpa using this.symm
   have hjp:j < p.length:=by omega
   obtain⟨q,q1,q2,q3,q4⟩:=Hz (m:=m) (cl:=cl) (L:=L++a) (by simp;omega) (K:=K) (s:=s) (n:=n) hp hjp
   refine⟨a++[q],⟨d++[j],by rw[e1];simp,by simp;omega,BQ.mpr ⟨e3,q1⟩,?_,?_⟩,by rw[← d6];exact q4⟩
   ·intro i hi
    rw[bo,fm] at hi
    by_cases hia:i < a.length
    ·rw[bb,d0 hia,← bb]
     exact e4 i hia
    ·have:i=j:=by omega
     subst this
     rw[bb,show i=a.length by omega]
     simp
     rw[show a.length=i by omega]
     exact q2
   ·intro hl hc
    rw[bo,fm] at hl
    rw[bb,show p.length - 1=a.length by omega]
    simp
    exact q3 (by omega) hc)
  (List.range p.length) [] ⟨[],rfl,rfl,(λk hk=>by cases hk),(λi hi=>by simp at hi),λz=>by simp at z;omega⟩
 rw[bE] at e1
 have Kk:a.length=p.length:=by rw[e2,← e1];simp
 have A3:a≠[]:=by intro z;subst z;simp at Kk;omega
 rw[← gW,bE] at h
 refine⟨a,e3,Kk,(n_ _ _ (jM hp)).mpr ⟨by rw[gF];exact Kk,λk hk=>e4 k (by rw[gF] at hk;omega),λhc=>by rw[gF];exact e5 Kk (.inl hc)⟩,λhK=>?_,h⟩
 have:=e5 Kk (.inr hK)
 unfold cN
 rw[cf A3]
 rw[bb,← Kk,← nn,cf A3] at this
 exact this
theorem Nt (hm:aW m)(A3:m≠[])(hl:m.length<=3)(c:Int):∃r,C4 r/\r.length<=9/\Seg m r/\cN r=true/\iM [mP m,.int c]=some (rP r):=by
 have en:eV 0 (m.map BM)=m.zipIdx.map λy:Slot×Nat=>PV.tup [.int (y.2:Nat),BM y.1]:=lV _ _ _
 obtain⟨L,⟨d,e1,e2,e3,e4,e5⟩,h⟩:=dX (g:=gT [3,4]) (ds:=[3,4,5,6,7,8,9]) (body:=jh) (λy:Slot×Nat=>PV.tup [.int (y.2:Nat),BM y.1]) (λL:List Nat=>[some (mP m),some (.int c),some (.lst (L.map Bn)),none,none,none,none,none,none,none])
  (λr L=>∃d,m.zipIdx=d++r/\C4 L/\L.length<=3*d.length/\Seg (d.map (·.1)) L/\(d.length=m.length->cN L=true))
  (by
   rintro y r L ⟨d,e1,e2,e3,e4,e5⟩
   have ZQ:y∈m.zipIdx:=by rw[e1];simp
   have hd:d.length+r.length+1=m.length:=by have:=dL List.length e1;simp at this;omega
   have ZU:y.2=d.length:=by
    have h:m.zipIdx[d.length]?=some y:=by rw[e1,hZ (aw _)];simp
    rw[List.getElem?_zipIdx] at h
    obtain⟨a,_,ha⟩:=br.mp h
    rw[← ha]
    simp
   obtain⟨⟨ps,cut⟩,K⟩:=y
   have ok:CI ps:=hm _ (ii ZQ)
   have HC:0 < ps.length:=eR.mpr ok.ne
   simp only at ZU
   have h1:=Ad c K (wA (by omega))
   obtain⟨i,hi,ei⟩:∃i:Nat,i < ps.length/\mG c K % (ps.length:Int)=i:=⟨(mG c K % (ps.length:Int)).toNat,by have:=pj (mG c K) (show (ps.length:Int)≠0 by omega);have:=Int.emod_lt_of_pos (mG c K) (show 0 < (ps.length:Int) by omega);omega,by have:=pj (mG c K) (show (ps.length:Int)≠0 by omega);omega⟩
   have hp:ps[i]?=some ps[i]:=af hi
   have Z1:=i7 hi
   generalize ps[i]=p at hp Z1
   have NJ:=ok.ok p Z1
   have h2:B4 (ps.map PV.str) (i:Int)=some (.str p):=dC (by simp[hp])
   obtain⟨a,a1,a2,a3,a4,a5⟩:=Nr (m:=m) (cl:=.int c) (L:=L) (by omega) (K:=K) (s:=(ps,cut)) (n:=mG c K) NJ
   have BO:p.length<=1000000:=by have:=NJ.le;omega
   have Pd:GG (p.length:Int)=true:=jH (by omega) (by have:=NJ.le;omega)
   refine⟨L++a,⟨d++[((ps,cut),K)],by rw[e1];simp,?_,?_,?_,?_⟩,?_⟩
   ·intro k hk
    rcases bn.mp hk with hk | hk
    ·exact e2 k hk
    ·exact a1 k hk
   ·have:=NJ.le;simp;omega
   ·rw[dc]
    exact Dl Z1 a3 _ L e4
   ·intro Zp
    simp at Zp
    rw[qR _ _ (Dj a3)]
    exact a4 (by omega)
   ·have hposI:(0:Int) < ps.length:=by omega
    unfold BM at a5 ⊢
    generalize (L++a).map Bn=LA,L.map Bn=LL,mP m=M at *
    simp[b_,jh,h1,HC,ei,h2,BO,Pd,a5])
  m.zipIdx [] ⟨[],rfl,(λk hk=>by cases hk),by simp,rfl,λz=>by
   have:=eR.mpr A3
   simp at z
   omega⟩
 rw[bE] at e1
 subst e1
 refine⟨L,e2,by simp at e3;omega,?_,e5 (by simp),?_⟩
 ·have:m.zipIdx.map (·.1)=m:=by simp
  rw[this] at e4;exact e4
 ·simp only[iE] at h
  unfold rP
  unfold mP at *
  generalize L.map Bn=LL at *
  simp[iM,qL,en,h]
theorem Fl (h:i < 4):i=0\/i=1\/i=2\/i=3:=by omega
theorem du:¬ (("-" : Str) = "u"):=by decide
theorem KD (k:Nat):EV 1 (Bn k):=by
 have h1:PyData.strOk ("u" : Str)=true:=by decide +kernel
 have h2:PyData.strOk ("-" : Str)=true:=by decide +kernel
 unfold Bn CA
 split <;> simp[EV,h1,h2]
theorem RN {a b:Nat}(ha:a < 4)(hb:b < 4):GB (Bn a) (Bn b)=some (decide (a=b)):=by
 have h1:=ud
 have h2:=du
 have s1:PyData.strOk ("u" : Str)=true:=by decide +kernel
 have s2:PyData.strOk ("-" : Str)=true:=by decide +kernel
 have sh:∀(x:Str) (e:Bool),PyData.strOk x=true->SeqAt.shaped (.tuple [.str x,.bool e])=true:=λx e h=>by
  simp[SeqAt.shaped,PyData.canLay0,PyData.canLayAll0,PyData.depth,PyData.depthAll,h]
 have g1:=sh "u" true s1
 have g2:=sh "u" false s1
 have g3:=sh "-" true s2
 have g4:=sh "-" false s2
 rcases Fl ha with rfl | rfl | rfl | rfl <;> rcases Fl hb with rfl | rfl | rfl | rfl <;> simp[Bn,CA,D4,GB,OT,Sr,toD,eU,g1,g2,g3,g4,PyData.eqv,PyData.eqvAll,h1,h2]
noncomputable def W9 (x y:Row):Bool:=@decide (lx x y) (Classical.propDecidable _)
theorem rO {x y:Row}:W9 x y=true↔lx x y:=by unfold W9;simp
theorem Bf:∀(xs ys pre:Row),xs.length=ys.length->C4 xs->C4 ys->
  cW (gN 2) [2] cT ((List.range' pre.length xs.length).map λk=>PV.int (k:Nat)) [some (rP (pre++xs)),some (rP (pre++ys)),none]=if xs=ys then some (.nx [some (rP (pre++xs)),some (rP (pre++ys)),none]) else some (.rt (.bl (W9 xs ys)))
 | [],[],pre,_,_,_=>by simp[cW]
 | a::xs,b::ys,pre,hl,h4,g4=>by
  have ha:=h4 a ar
  have hb:=g4 b ar
  have e1:=Fg (r:=pre++a::xs) (k:=pre.length) (by simp)
  have e2:=Fg (r:=pre++b::ys) (k:=pre.length) (by simp)
  rw[show (pre++a::xs).getD pre.length 0=a by simp] at e1
  rw[show (pre++b::ys).getD pre.length 0=b by simp] at e2
  have e3:=RN ha hb
  rw[bv,ox,a0]
  by_cases Sa:a=b
  ·subst Sa
   have ih:=Bf xs ys (pre++[a]) (by simpa using hl) (λk hk=>h4 k (al _ hk)) (λk hk=>g4 k (al _ hk))
   have t:turn (gN 2) [2] cT (.int (pre.length:Nat)) [some (rP (pre++a::xs)),some (rP (pre++a::ys)),none]=some [some (rP (pre++a::xs)),some (rP (pre++a::ys)),none]:=by
    simp at e3
    unfold rP
    generalize (pre++a::xs).map Bn=X,(pre++a::ys).map Bn=Y at *
    simp[b_,cT,e1,e2,e3]
   rw[j6 t]
   simp only[bo,fm,d6,k8] at ih
   rw[ih]
   by_cases e:xs=ys
   ·subst e;simp
   ·rw[ax e,ax (by simp[e])]
    congr 3
    rw[e9,rO,rO]
    simp[lx]
  ·rw[ax (by simp[Sa])]
   have hd:W9 (a::xs) (b::ys)=decide (a < b):=by
    rw[e9,rO]
    simp[lx,Sa]
   rw[hd]
   have hab':¬ Bn a=Bn b\/True:=.inr trivial
   have h1:=ud
   have h2:=du
   rw[de Sa] at e3
   unfold rP
   generalize (pre++a::xs).map Bn=X,(pre++b::ys).map Bn=Y at *
   have body:cT [some (.lst X),some (.lst Y),some (.int (pre.length:Nat))]=some (.rt (.bl (decide (a < b)))):=by
    rcases Fl ha with rfl | rfl | rfl | rfl <;> rcases Fl hb with rfl | rfl | rfl | rfl <;> first | exact absurd rfl Sa | (simp only[Bn] at e1 e2 e3;simp[CA,D4] at e1 e2 e3;simp[cT,e1,e2,e3,h1,h2])
   have hg:gN 2 (.int (pre.length:Nat)) [some (.lst X),some (.lst Y),none]=some [some (.lst X),some (.lst Y),some (.int (pre.length:Nat))]:=rfl
   simp only[cW,hg,aE,body]
def ahead (x y:Row):Prop:=x.length < y.length\/(x.length=y.length/\lx x y)
theorem HB {x y:Row}(hx:C4 x)(hy:C4 y)(lx':x.length < 1000)(ly:y.length < 1000):∃b,dq [rP x,rP y]=some (.bl b)/\(b=true↔ahead x y):=by
 by_cases hl:x.length=y.length
 ·have lp:=Bf x y [] hl hx hy
  have Pd:GG (x.length:Int)=true:=jH (by omega) (by omega)
  have ZW:=gW x.length
  rw[l5,gI,gI,← li] at lp
  rw[← ZW] at lp
  have Pe:(x.length:Int)=y.length:=by omega
  unfold rP at lp ⊢
  have hX:(x.map Bn).length=x.length:=by simp
  have hY:(y.map Bn).length=y.length:=by simp
  generalize x.map Bn=X,y.map Bn=Y at *
  by_cases e:x=y
  ·rw[bd e] at lp
   refine⟨false,?_,?_⟩
   ·rw[← hX] at Pd lp Pe
    rw[← hY] at Pe
    simp[dq,gn,Pe,Pd,lp]
    try (rw[← Pe];simp[Pd,lp])
   ·subst e
    simp[ahead,vh]
  ·rw[ax e] at lp
   refine⟨W9 x y,?_,?_⟩
   rotate_left
   ·rw[rO]
    simp[ahead,hl]
   ·rw[← hX] at Pd lp Pe
    rw[← hY] at Pe
    simp[dq,gn,Pe,Pd,lp]
    try (rw[← Pe];simp[Pd,lp])
 ·have Pe:¬ (x.length:Int)=y.length:=by omega
  refine⟨decide (x.length < y.length),?_,by simp[ahead,hl]⟩
  have hX:(x.map Bn).length=x.length:=by simp
  have hY:(y.map Bn).length=y.length:=by simp
  unfold rP
  simp[dq,gn,hl,Pe]
theorem Kf {X:PV}{k:Nat}:turn (gN 1) [1] e_ (Bn k) [some X,none]=some [some X,none]:=by
 have h1:oX (.str (CA k)) (.tup [.str "u",.str "-"])=some true:=by
  have:=qN (CA k) ["u","-"]
  rw[show ([("u" : Str), "-"].map PV.str)=[.str "u",.str "-"] from rfl] at this
  rw[this]
  unfold CA
  split <;> simp
 unfold Bn
 generalize CA k=mk at *
 simp[b_,e_,h1,CY,DI,tD]
theorem Kg {x:Row}(A3:x≠[])(hl:cN x=true):gq [rP x]=some (.bl true):=by
 have h0:x.map Bn≠[]:=by simpa using A3
 have h1:=xT h0
 have e:(x.map Bn).getLast?=some (Bn (x.getLast A3)):=by rw[List.getLast?_map,cf A3];rfl
 rw[e] at h1
 have hE:D4 (x.getLast A3)=true:=by
  unfold cN at hl
  rw[cf A3] at hl
  exact hl
 rw[show Bn (x.getLast A3)=.tup [.str (CA (x.getLast A3)),.bl (D4 (x.getLast A3))] from rfl,hE] at h1
 have h2:GB (.lst (x.map Bn)) (.lst [])=some false:=by
  cases x with
  | nil=>exact absurd rfl A3
  | cons k x=>
   rw[a0]
   refine sG (n:=1) ?_ (by decide)
   simp only[EV]
   intro z hz
   rcases be.mp hz with rfl | hz
   ·exact KD k
   ·obtain⟨j,_,rfl⟩:=cb.mp hz;exact KD j
 have h3:=mF (g:=gN 1) (ds:=[1]) (body:=e_) (env:=[some (.lst (x.map Bn)),none]) Bn x (λy _=>Kf)
 unfold rP
 generalize x.map Bn=X at *
 simp[gq,nU,DJ,tD,h1,h2,h3]
theorem Dm (ns:qS)(k:Nat):∃c,bO [.frz (ns.map PV.int),.int k]=some (.int c):=by
 by_cases h:k < ns.length
 ·have h1:B4 (ns.map PV.int) (k:Int)=some (.int ns[k]):=dC (by simp[h])
  have h2:(k:Int) < ns.length:=by omega
  exact⟨ns[k],by simp[bO,iJ,h1,h]⟩
 ·have h2:¬ (k:Int) < ns.length:=by omega
  exact⟨0,by simp[bO,iJ,h]⟩
theorem Bg (ns:qS)(a b:Option Int):∃cs:List Int,dR (ns.map PV.int) a b=cs.map PV.int/\cs.length<=ns.length:=by
 refine⟨(ns.drop (HT.A4 ns.length 0 a)).take (HT.A4 ns.length ns.length b - HT.A4 ns.length 0 a),?_,by simp;omega⟩
 unfold dR
 rw[List.map_take,List.map_drop,aI]
def GM (m:re):Prop:=aW m/\m≠[]/\m.length<=3
theorem NU (ns:qS)(h:ns.length<=63):u9 [.frz (ns.map PV.int)]=some (.bl true):=by
 obtain⟨c0,Tb⟩:=Dm ns 0
 obtain⟨c1,Xa⟩:=Dm ns 1
 obtain⟨one,o1,o2,o3,ho⟩:=Ae c0
 obtain⟨as,ha,_⟩:=Bg ns (some 2) (some 8)
 obtain⟨bs,hb,_⟩:=Bg ns (some 8) (some 28)
 have Tb:bO [.frz (ns.map PV.int),.int 0]=some (.int c0):=Tb
 have Xa:bO [.frz (ns.map PV.int),.int 1]=some (.int c1):=Xa
 obtain⟨m0,q,e1,e2⟩:∃m0,GM m0/\(c1 % 4=0->dM [.int (c1 / 4),.int 3]=some (mP m0))/\(¬ c1 % 4=0->m0=one):=by
  by_cases h4:c1 % 4=0
  ·obtain⟨m,p1,p2,p3,hp⟩:=Ae (c1 / 4)
   exact⟨m,⟨p1,p2,p3⟩,λ_=>hp,λz=>absurd h4 z⟩
  ·exact⟨one,⟨o1,o2,o3⟩,λz=>absurd z h4,λ_=>rfl⟩
 generalize hS:PV.frz (ns.map PV.int)=Sc at Tb Xa
 obtain⟨other,⟨r1,r2,r3⟩,Lv⟩:=dX (g:=gN 3) (ds:=[3]) (body:=tW) PV.int (λm:List Slot=>[some Sc,some (mP one),some (mP m),none,none,none])
  (λ_ m=>GM m)
  (by
   rintro c r m ⟨i1,i2,i3⟩
   obtain⟨m',a1,a2,a3,a4⟩:=Fe i1 i2 i3 c
   exact⟨m',⟨a1,a2,by omega⟩,by simp[b_,tW,a4]⟩) as m0 q
 have c1':=(n6 o1 o2).1
 have Z2:∀y,FD (B1 one) y=true↔Seg one y/\cN y=true:=λy=>by rw[Hy c1',Dk o2]
 have of2:∀y,FD (B1 other) y=true↔Seg other y/\cN y=true:=λy=>by rw[Hy (n6 r1 r2).1,Dk r2]
 obtain⟨found,hw,hf⟩:∃found,cG [mP one,mP other]=some found/\((found=.AO/\∀y,C4 y->Seg one y->cN y=true->Seg other y)\/∃x,found=rP x/\C4 x/\x.length < 900/\cN x=true/\Seg one x/\¬ Seg other x/\∀y,C4 y->Seg one y->cN y=true->¬ Seg other y->¬ ahead y x):=by
  rcases mw o1 o2 o3 r1 r2 r3 with ⟨e,hn⟩ | ⟨x,e,x1,x2,x3,x4⟩
  ·exact⟨_,e,.inl ⟨rfl,λy h4 hs hl=>((of2 y).mp (hn y h4 ((Z2 y).mpr ⟨hs,hl⟩))).1⟩⟩
  ·have hx:=(Z2 x).mp x2
   have ML:∀y,cN y=true->(FD (B1 other) y=false↔¬ Seg other y):=λy hl=>by
    rw[← Bool.not_eq_true,of2 y]
    exact⟨λa b=>a ⟨b,hl⟩,λa b=>a b.1⟩
   refine⟨rP x,e,.inr ⟨x,rfl,x1,?_,hx.2,hx.1,(ML x hx.2).mp x3,λy h4 hs hl P4=>x4 y h4 ((Z2 y).mpr ⟨hs,hl⟩) ((ML y hl).mpr P4)⟩⟩
   have:=wK c1' x _ _ (FE.mp x2)
   have e:rem (B1 one).length (0,[])=3*(B1 one).length:=by simp[rem]
   have:=(n6 o1 o2).2.2
   omega
 have done:Ac [some Sc,none,none,none,none,none]=some (.rt (.bl true)):=by
  unfold Ac
  refine(cz (e:=[some Sc,some (mP one),none,none,none,none]) (by simp[Tb,ho])).trans ?_
  refine(cz (e:=[some Sc,some (mP one),some (mP one),none,none,none]) (by simp)).trans ?_
  refine(cz (e:=[some Sc,some (mP one),some (mP m0),none,none,none]) (by
   by_cases h4:c1 % 4=0
   ·simp[Xa,h4,e1 h4]
   ·simp[Xa,h4,e2 h4])).trans ?_
  refine(cz (e:=[some Sc,some (mP one),some (mP other),none,none,none]) (by rw[← hS] at Lv ⊢;simp[ha,Lv])).trans ?_
  refine(cz (e:=[some Sc,some (mP one),some (mP other),none,some found,none]) (by simp[hw])).trans ?_
  refine(LY ?_).trans ((LY ?_).trans (by simp))
  ·rcases hf with ⟨rfl,_⟩ | ⟨x,rfl,_,x3,x2,x4,x5,_⟩
   ·simp
   ·have i1:=Kg (Be o2 x4) x2
    obtain⟨n,n1,n2,n3⟩:=wO (r:=x) x3 o1 o3
    obtain⟨k,k1,k2,k3⟩:=wO (r:=x) x3 r1 r3
    have hn:¬ n=0:=by have:=n3.mpr x4;omega
    have hk:¬ 0 < k:=λz=>x5 (k3.mp z)
    have e:rP x=.lst (x.map Bn):=rfl
    rw[e] at i1 n2 k2 ⊢
    simp[i1,n2,k2,hn,hk]
  ·have lp:cW (gN 3) [3,5] lC (bs.map PV.int) [some Sc,some (mP one),some (mP other),none,some found,none]=some (.nx [some Sc,some (mP one),some (mP other),none,some found,none]):=by
    refine mF PV.int bs λc _=>?_
    obtain⟨y,y1,y2,y3,y4,y5⟩:=Nt o1 o2 o3 c
    obtain⟨n,n1,n2,n3⟩:=wO (r:=y) (by omega) r1 r3
    have HC:Seg other y->¬ n=0:=λz=>by have:=n3.mpr z;omega
    rcases hf with ⟨rfl,hf⟩ | ⟨x,rfl,x1,x2,_,_,_,hf⟩
    ·simp[b_,lC,y5,n2,HC (hf y y1 y3 y4)]
    ·obtain⟨b,b1,b2⟩:=HB (x:=y) (y:=x) y1 x1 (by omega) (by omega)
     have e:rP x=.lst (x.map Bn):=rfl
     rw[e] at b1 ⊢
     cases b with
     | false=>simp[b_,lC,y5,b1]
     | true=>simp[b_,lC,y5,b1,n2,HC (ny λz=>hf y y1 y3 y4 z (b2.mp rfl))]
   rw[← hS] at lp ⊢
   simp[hb,lp]
 simp[u9,done]
noncomputable def top (i:Nat):Stmt:=PySem.Challenge.pw_lilt_k81_whole_metre_within.main.body.getD i (.Pass ⟨0,0,0,0⟩)
abbrev gw:=top 21
abbrev pH:=top 20
abbrev mJ:=top 22
abbrev iQ:=top 23
abbrev dI:=inClass (top 12) 2
abbrev fj:=inClass (top 12) 1
abbrev gP:=inClass (top 12) 3
abbrev eG:=top 14
abbrev fK:=inClass (top 12) 5
abbrev fL:=top 16
abbrev iR:=inClass (top 12) 4
abbrev uc:=top 13
abbrev mK:=top 15
abbrev iT:=top 9
abbrev jC:=top 3
abbrev mL:=top 2
abbrev jn:=top 5
abbrev lF:=top 4
abbrev pI:=top 6
abbrev qT:=top 10
abbrev gQ:=top 11
abbrev gY:=inClass (top 12) 0
abbrev jo:=top 17
abbrev jq:=top 19
abbrev jr:=top 24
abbrev mO:=top 27
abbrev jP:=top 28
abbrev jQ:=top 29
abbrev jD:=top 25
abbrev gZ:=top 26
abbrev rQ:=top 30
noncomputable section
structure FR where
 k:Nat
 x:Str
 ps:List Str
 m:List PV->Option PV
 st:Stmt
abbrev sM:FR:=⟨1, "_law_pattern",["_law_number"],cj,gw⟩
abbrev sv:FR:=⟨1, "_law_mix",["_law_cell","_law_k"],fH,pH⟩
abbrev ub:FR:=⟨2, "_law_slot",["_law_number"],iC,mJ⟩
abbrev t9:FR:=⟨3, "_law_metre",["_law_cell","_law_most"],dM,iQ⟩
abbrev sP:FR:=⟨2, "is_of_first_alone",["walks","node"],aR,fL⟩
abbrev uk:FR:=⟨1, "row_to",["ways","node"],dh,uc⟩
abbrev vb:FR:=⟨1, "with_last_cut",["metre"],bI,iT⟩
abbrev va:FR:=⟨1, "states_of",["metre"],iH,jC⟩
abbrev sN:FR:=⟨1, "end_state",["metre"],bJ,mL⟩
abbrev uS:FR:=⟨1, "state_behind",["metre","state","ends"],dO,jn⟩
abbrev uu:FR:=⟨1, "stands_for",["sign","mark"],fC,lF⟩
abbrev uj:FR:=⟨2, "moves_of",["metre","state","mark","ends"],dW,pI⟩
abbrev sQ:FR:=⟨1, "rest_of",["metre","state"],bN,qT⟩
abbrev ui:FR:=⟨6, "metre_within",["one","other"],cG,jo⟩
abbrev tT:FR:=⟨1, "_law_cell_at",["_law_script","_law_k"],bO,jq⟩
abbrev t0:FR:=⟨2, "_law_changed",["_law_metre_here","_law_cell"],fU,jr⟩
abbrev ua:FR:=⟨2, "_law_said",["_law_metre_here","_law_cell"],iM,mO⟩
abbrev tP:FR:=⟨1, "_law_before",["_law_one","_law_other"],dq,jP⟩
abbrev t4:FR:=⟨1, "_law_is_row",["_law_found"],gq,jQ⟩
abbrev t3:FR:=⟨1, "_law_fits",["_law_row","_law_at","_law_pattern_here","_law_cut"],bh,jD⟩
abbrev t5:FR:=⟨2, "_law_many_feet",["_law_metre_here","_law_row"],cH,gZ⟩
abbrev we:FR:=⟨7, "law",["_law_script"],u9,rQ⟩
theorem vq:AN ["_law_number"] sM.ps (aC gw):=D3
theorem BR:AN ["_law_cell","_law_k"] sv.ps (aC pH):=D3
theorem vi:AN ["_law_number","_law_patterns","_law_k","_law_one"] ub.ps (aC mJ):=D3
theorem xZ:AN ["_law_cell","_law_most"] t9.ps (aC iQ):=D3
theorem lG:AN ["self","place"] ["self","place"] (aC dI):=D3
theorem AY:AN ["self","number","said","ways","rest","many","reached"] ["self","number","said"] (aC fj):=D3
theorem wQ:AN ["self","number"] ["self","number"] (aC gP):=D3
theorem wP:AN ["walks","node","later"] ["walks","node"] (aC eG):=D3
theorem pJ:AN ["self","number"] ["self","number"] (aC fK):=D3
theorem pK:AN ["walks","node"] sP.ps (aC fL):=D3
theorem ue:AN ["self","number"] ["self","number"] (aC iR):=D3
theorem vj:AN ["ways","node","backwards","at"] uk.ps (aC uc):=D3
theorem rV:AN ["walks","is_sought","start","ways","nodes","later","node","said","reached"] ["walks","is_sought"] (aC mK):=D3
theorem uf:AN ["metre"] vb.ps (aC iT):=D3
theorem sw:AN ["metre","states","slot","told","number","pattern"] va.ps (aC jC):=D3
theorem Bh:AN ["metre"] sN.ps (aC mL):=D3
theorem wf:AN ["metre","state","ends","slot","behind"] uS.ps (aC jn):=D3
theorem x_:AN ["sign","mark"] uu.ps (aC lF):=D3
theorem sf:AN ["metre","state","mark","ends","slot","at","patterns","numbers","moves","number","reached"] uj.ps (aC pI):=D3
theorem Fo:AN ["metre","state"] sQ.ps (aC qT):=D3
theorem sR:AN ["metre","ahead","state","said","moves"] ["metre"] (aC gQ):=D3
theorem CB:AN ["self","metre","most","closed"] ["self","metre","most"] (aC gY):=D3
theorem vy:AN ["one","other"] ui.ps (aC jo):=D3
theorem vz:AN ["_law_script","_law_k"] tT.ps (aC jq):=D3
theorem rj:AN ["_law_metre_here","_law_cell","_law_at","_law_patterns","_law_cut","_law_number","_law_more"] t0.ps (aC jr):=D3
theorem rL:AN ["_law_metre_here","_law_cell","_law_row","_law_k","_law_slot_here","_law_number","_law_pattern_here","_law_j","_law_mark","_law_ends"] ua.ps (aC mO):=D3
theorem wx:AN ["_law_one","_law_other","_law_k"] tP.ps (aC jP):=D3
theorem wE:AN ["_law_found","_law_step"] t4.ps (aC jQ):=D3
theorem Bj:AN ["_law_row","_law_at","_law_pattern_here","_law_cut"] t3.ps (aC jD):=D3
theorem se:AN ["_law_metre_here","_law_row","_law_ways","_law_patterns","_law_cut","_law_later","_law_at","_law_pattern_here"] t5.ps (aC gZ):=D3
theorem rX:AN ["_law_script","_law_one","_law_other","_law_cell","_law_found","_law_row"] we.ps (aC rQ):=D3
structure Z7 where
 P:Program
 w:World
 K:W.Frag
 mg:Str->Option Value
 base:Heap
 cl:Nat->Addr
 Cc:Addr
 C5:Addr
section
variable (Z:Z7)(r:FR)(f:Addr)(fd:FuncData)
abbrev ca:=OS Z.P Z.w Z.K Z.mg Z.base r.k r.x r.ps (DZ ⟨Z.K,Z.cl⟩ r.m false)
abbrev fu:=EA Z.K r.x r.x r.st f fd
abbrev fo:=BF Z.P Z.w Z.K Z.mg Z.base Fu r.k f fd r.ps (DZ ⟨Z.K,Z.cl⟩ r.m false)
structure Zq:Prop where
 sT:Z.mg "bool" = none
 tf:Z.mg "dict" = none
 sg:Z.mg "enumerate" = none
 si:Z.mg "isinstance" = none
 gV:Z.mg "len" = none
 sj:Z.mg "list" = none
 tj:Z.mg "min" = none
 rh:Z.mg "range" = none
 sx:Z.mg "reversed" = none
 tm:Z.mg "sorted" = none
 rS:Z.mg "tuple" = none
 sA:Z.mg "zip" = none
 r9:Z.mg "SAID" = some (.ref Z.Cc)
 sD:Z.mg "START" = some (.ref Z.C5)
 wb:∀(B:Addr->Prop) (H:Hp),Rep ⟨Z.K,Z.cl⟩ B H (.ref Z.Cc) u5
 wc:∀(B:Addr->Prop) (H:Hp),Rep ⟨Z.K,Z.cl⟩ B H (.ref Z.C5) gj
 A8:JA Z.K (Z.cl 10)
 sF:∀t k,(t,k)∈DI->W.kitOne Z.K (.type t) (.type "bool")=some k
 sK:∀t k,(t,k)∈DJ->W.kitOne Z.K (.type t) (.type "list")=some k
 sL:∀t k,(t,k)∈CY->W.kitOne Z.K (.type t) (.type "tuple")=some k
 EF:A6 Z.K (Z.cl 10) "ahead"
 FV:A6 Z.K (Z.cl 10) "end"
 E8:A6 Z.K (Z.cl 10) "most"
 FX:A6 Z.K (Z.cl 10) "numbers"
 F9:A6 Z.K (Z.cl 10) "onward"
 BS:A6 Z.K (Z.cl 10) "places"
 EG:qz ⟨Z.K,Z.cl⟩ Z.Cc fY
structure xc:Prop extends Zq Z where
 sB:ca Z sv
 vx:ca Z sM
structure w9:Prop extends Zq Z where
 sB:ca Z sv
 xD:ca Z ub
structure wT:Prop extends Zq Z where
 AA:ES Z.P Z.w Z.K Z.mg Z.base (Z.cl 10) 1 "number_of_place" ["self","place"] (rC ⟨Z.K,Z.cl⟩)
 AB:ES Z.P Z.w Z.K Z.mg Z.base (Z.cl 10) 1 "place_behind" ["self","number","said"] (DZ ⟨Z.K,Z.cl⟩ aG false)
structure xt:Prop extends Zq Z where
 Au:ES Z.P Z.w Z.K Z.mg Z.base (Z.cl 10) 2 "later" ["self","number"] (uR ⟨Z.K,Z.cl⟩ 10 aG fY)
structure xi:Prop extends Zq Z where
 wv:ES Z.P Z.w Z.K Z.mg Z.base (Z.cl 10) 1 "ways_to_end" ["self","number"] (DZ ⟨Z.K,Z.cl⟩ bz false)
structure xh:Prop extends Zq Z where
 vF:ca Z sP
 xS:OS Z.P Z.w Z.K Z.mg Z.base 3 "nodes_behind" ["walks","node"] (zV ⟨Z.K,Z.cl⟩ 10 aG fY)
 x9:ca Z uk
 At:ES Z.P Z.w Z.K Z.mg Z.base (Z.cl 10) 1 "is_over" ["self","number"] (DZ ⟨Z.K,Z.cl⟩ bc false)
structure xp:Prop extends Zq Z where
 vE:ca Z sN
 ya:ca Z uu
 yb:ca Z uS
structure xw:Prop extends Zq Z where
 xL:ca Z uj
 sC:ca Z sQ
 yi:ca Z va
structure wS:Prop extends Zq Z where
 vE:ca Z sN
 sC:ca Z sQ
 x0:OS Z.P Z.w Z.K Z.mg Z.base 3 "rests_ahead" ["metre"] (DZ ⟨Z.K,Z.cl⟩ bL true)
 yk:ca Z vb
structure xo:Prop extends Zq Z where
 xE:OS Z.P Z.w Z.K Z.mg Z.base 4 "first_row" ["walks","is_sought"] (JL Z.mg "is_of_first_alone" ⟨Z.K,Z.cl⟩ 10 aG fY bc aR dh)
 vF:ca Z sP
 NW:Ux Z.P Z.w Z.K Z.mg Z.base (Z.cl 10) 4 "Walk" ["self","metre","most"] (wz ⟨Z.K,Z.cl⟩ 10 bI bL bN bJ gj)
structure w4:Prop extends Zq Z where
 vx:ca Z sM
structure xb:Prop extends Zq Z where
 sB:ca Z sv
structure w8:Prop extends Zq Z where
 xA:ca Z t3
structure xl:Prop extends Zq Z where
 xy:ca Z tP
 vk:ca Z tT
 xz:ca Z t0
 xB:ca Z t4
 vv:ca Z t5
 wm:ca Z t9
 xC:ca Z ua
 xI:ca Z ui
end
section
variable {Z:Z7}{f:Addr}{fd:FuncData}
theorem vA (F:fu Z sM f fd)(T:Zq Z):fo Z sM f fd:=by
 refine FC F vq [] [] [] λhr=>?_
 exact(aF (bx (Lq fX (nP (C1:=(aC gw)) (ON:=["_law_number"]) (N:=["_law_k","_law_number"]) (AQ:=[none,some 0]) Wv (Ed 0) (rA T.rh (dz aj (cO (cO (aa 0) aj) aj))) (λ_ _ _ _=>wk 0) (λ_ _ _ _=>oV) (λ_ _ _ _=>(aK hr fX (cO (iu (aa 1) (aK hr (d_ (ak aj (ak aj (ak aj (ak aj aJ))))) (aa 0))) aj)))))))
theorem BV (F:fu Z sv f fd)(T:Zq Z):fo Z sv f fd:=by
 refine FC F BR [] [] [] λhr=>?_
 exact(aF (bx (cO (dz (uI (cO (aa 0) aj) (dz aj (uI (uI aj (aa 1)) (aa 1)))) (uI aj (aa 1))) aj)))
theorem Bk (F:fu Z ub f fd)(T:xc Z):fo Z ub f fd:=by
 refine FC F vi [1] [1] [] λhr=>?_
 exact(aD (kY 1 vi.nd (d_ aJ)) (aD (fP [2,3] (rA T.rh (dz aj (cO (aa 0) aj))) (mq 2 vi.nd) (aD (bK 3 vi.nd (aU T.vx hr (ak (aU T.sB hr (ak (iu (aa 0) aj) (ak (aa 2) aJ))) aJ))) (aF (dB (aZ (lU (aa 3) (zr 1))) (aF (uL 1 (aa 3))) bR))) b9) (aF (bx (cu (ak (tE T.rS (zr 1)) (ak (d9 (cF hr (cO (iu (aa 0) aj) aj) aj)) aJ)))))))
theorem yc (F:fu Z t9 f fd)(T:w9 Z):fo Z t9 f fd:=by
 refine FC F xZ [] [] [] λhr=>?_
 exact(aF (bx (tE T.rS (nP (C1:=(aC iQ)) (ON:=["_law_cell","_law_most"]) (N:=["_law_k","_law_cell","_law_most"]) (AQ:=[none,some 0,some 1]) Wv (Ed 0) (rA T.rh (dz aj (cO (aa 0) (aa 1)))) (λ_ _ _ _=>wk 0) (λ_ _ _ _=>oV) (λ_ _ _ _=>(aU T.xD hr (ak (aU T.sB hr (ak (iu (aa 1) (aa 2)) (ak (aa 0) aJ))) aJ)))))))
theorem lH (F:EA Z.K "number_of_place" "Walk.number_of_place" dI f fd)(T:Zq Z):BF Z.P Z.w Z.K Z.mg Z.base Fu 1 f fd ["self","place"] (rC ⟨Z.K,Z.cl⟩):=by
 refine F.ok lG (λvs H Q E h=>G9 h) (λDB A' outer s H vs Q E hr h=>⟨Jq Z.K,?_,Ma h⟩)
 exact a_ (qW (uo (qe (dG hr) (pv 1) (f9 Z.K (pv 0)))) (a_ (mY (dG hr) (f9 Z.K (pv 0)) (pv 1) (dw (jF Z.K) rfl T.gV h9 (aB (f9 Z.K (pv 0)) aN)) rfl) (bW (qU (Gx Z.K iS kr kz lM (f9 Z.K (pv 0)) (aB (pv 1) aN))))) j8) (bW (ig (qZ (dG hr) (f9 Z.K (pv 0)) (pv 1) (λ_ _=>rfl))))
theorem oh (F:EA Z.K "place_behind" "Walk.place_behind" fj f fd)(T:Zq Z):BF Z.P Z.w Z.K Z.mg Z.base Fu 1 f fd ["self","number","said"] (DZ ⟨Z.K,Z.cl⟩ aG false):=by
 refine FC F AY [3] [3] [] λhr=>?_
 exact(aD (kY 3 AY.nd Ks) (aD (fP [4,5,6] (oR (aK hr (nq (c:=10) T.A8 T.BS (aa 0)) (aa 1))) (zE (dU 4 AY.nd (dU 5 AY.nd nO))) (aF (fP [6] (oR (v7 hr (nq (c:=10) T.A8 T.EF (aa 0)) (cu (ak (aa 4) (ak (aa 2) aJ))) (SE.val (d_ aJ)))) (mq 6 AY.nd) (aF (Ku 3 hr (aa 6) (Pu T.tj (nq (c:=10) T.A8 T.E8 (aa 0)) (dz (v7 hr (zr 3) (aa 6) aj) (aa 5))))) b9)) b9) (aF (bx (tE T.rS (Jp hr T.tm (zr 3)))))))
theorem wR (F:EA Z.K "later" "Walk.later" gP f fd)(T:wT Z):BF Z.P Z.w Z.K Z.mg Z.base Fu 2 f fd ["self","number"] (uR ⟨Z.K,Z.cl⟩ 10 aG fY):=by
 refine F.ok wQ (λvs H Q E h=>Ha h) (λDB A' outer s H vs Q E hr h=>⟨Jr ⟨Z.K,Z.cl⟩ 10 aG Z.Cc,?_,Mf T.EG h⟩)
 exact a_ (qW (uo (qe (dG hr) (pv 1) (f9 Z.K (pv 0)))) (bW (mY (dG hr) (f9 Z.K (pv 0)) (pv 1) (q8 (C1:=(aC gP)) (ON:=["self","number"]) (N:=["said","self","number"]) (AQ:=[none,some 0,some 1]) ⟨rfl,by decide +kernel,by decide +kernel,by decide +kernel,by decide +kernel⟩ (uv (j7 rfl T.r9 rfl)) (λ_ _ _ _=>cP (i:=0) (show (["said","self","number"]:qE).Nodup by decide +kernel) rfl (ff rfl)) (λ_ _ _ _=>kO) (λ_ _ _ _=>rF T.AA T.A8 hr (pv 1) (aB (rF T.AB T.A8 hr (pv 1) (aB (pv 2) (aB (pv 0) aN))) aN))) rfl)) j8) (bW (ig (qZ (dG hr) (f9 Z.K (pv 0)) (pv 1) (λ_ _=>rfl))))
theorem vB (F:EA Z.K "nodes_behind" "nodes_behind" eG f fd)(T:xt Z):BF Z.P Z.w Z.K Z.mg Z.base Fu 3 f fd ["walks","node"] (zV ⟨Z.K,Z.cl⟩ 10 aG fY):=by
 refine F.ok wP (λvs H Q E h=>Ju h) (λDB A' outer s H vs Q E hr h=>⟨Zj ⟨Z.K,Z.cl⟩ 10 aG fY Z.Cc,?_,Ql T.EG (by decide) h⟩)
 exact a_ (fB (i:=2) wP.nd rfl (.inr rfl) (q8 (C1:=(aC eG)) (ON:=["walks","node","later"]) (N:=["walk","number"]) (AQ:=[none,none]) ⟨rfl,by decide +kernel,by decide +kernel,by decide +kernel,by decide +kernel⟩ (Cv (k1:=.L) (k2:=.T) rfl T.sA (aB (pv 0) (aB (pv 1) aN))) (λ_ _ _ _=>pY rfl (eO (cP (i:=0) (show (["walk","number"]:qE).Nodup by decide +kernel) rfl (ff rfl)) (eO (cP (i:=1) (show (["walk","number"]:qE).Nodup by decide +kernel) rfl (ff rfl)) mQ))) (λ_ _ _ _=>kO) (λ_ _ _ _=>rF T.Au T.A8 hr (pv 0) (aB (pv 1) aN)))) (bW (ig (zm (C1:=(aC eG)) (z:=some "at") (ON:=["walks","node","later"]) (N:=["at","later"]) (AQ:=[none,some 2]) ⟨rfl,by decide +kernel,by decide +kernel,by decide +kernel,λ_ _=>rfl,λ_=>rfl,by decide +kernel,by decide +kernel⟩ (wY rfl T.rh (aB (dw (jF Z.K) rfl T.gV h9 (aB (j7 rfl T.r9 rfl) aN)) aN)) (λ_ _ _ _=>cP (i:=0) (show (["at","later"]:qE).Nodup by decide +kernel) rfl (fz rfl)) (λ_ _ _ _=>kO) (λ_ _ _ _=>xg pN rfl T.rS iX (aB (q8 (C1:={ kind:=.function,names:=[(".0",.local),("at",.cell),("tuple",.globalImplicit),("later",.cell)],isGenerator:=false,isCoroutine:=false }) (ON:=["at","later"]) (N:=["numbers","at"]) (AQ:=[none,some 0]) ⟨rfl,by decide +kernel,by decide +kernel,by decide +kernel,by decide +kernel⟩ (vL (pv 1)) (λ_ _ _ _=>cP (i:=0) (show (["numbers","at"]:qE).Nodup by decide +kernel) rfl (ff rfl)) (λ_ _ _ _=>kO) (λ_ _ _ _=>uB (sW Z.K) (pv 0) (pv 1) (λ_ _=>rfl))) aN)))))
theorem pL (F:EA Z.K "ways_to_end" "Walk.ways_to_end" fK f fd)(T:Zq Z):BF Z.P Z.w Z.K Z.mg Z.base Fu 1 f fd ["self","number"] (DZ ⟨Z.K,Z.cl⟩ bz false):=by
 refine FC F pJ [] [] [] λhr=>?_
 exact(aF (bx (v7 hr (Jx hr T.tf (aK hr (nq (c:=10) T.A8 T.BS (aa 0)) (aa 1))) (nq (c:=10) T.A8 T.FV (aa 0)) aj)))
theorem pM (F:fu Z sP f fd)(T:xi Z):fo Z sP f fd:=by
 refine FC F pK [] [] [] λhr=>?_
 exact(aF (bx (zx (d9 (uJ (zA (c:=10) T.wv T.A8 hr (aK hr (aa 0) aj) (ak (aK hr (aa 1) aj) aJ)) aj)) (m7 (d9 (cF hr (zA (c:=10) T.wv T.A8 hr (aK hr (aa 0) aj) (ak (aK hr (aa 1) aj) aJ)) aj))))))
theorem ug (F:EA Z.K "is_over" "Walk.is_over" iR f fd)(T:Zq Z):BF Z.P Z.w Z.K Z.mg Z.base Fu 1 f fd ["self","number"] (DZ ⟨Z.K,Z.cl⟩ bc false):=by
 refine FC F ue [] [] [] λhr=>?_
 exact(aF (bx (d9 (cF hr (bG T.gV (aK hr (nq (c:=10) T.A8 T.BS (aa 0)) (aa 1))) aj))))
theorem HD (F:fu Z uk f fd)(T:Zq Z):fo Z uk f fd:=by
 refine FC F vj [2] [2] [] λhr=>?_
 exact(aD (kY 2 vj.nd (d_ aJ)) (aD (bK 3 vj.nd (aa 1)) (aD (Lx 1000000 [] (aZ (sZ (aK hr (aa 0) (aa 3)) qp)) (aD (uL 2 (aK hr (aK hr (aa 0) (aa 3)) aj)) (aF (bK 3 vj.nd (aK hr (aK hr (aa 0) (aa 3)) aj)))) b9) (aF (bx (SE.val (Jb T.sj T.sx (zr 2))))))))
theorem Bl (F:EA Z.K "first_row" "first_row" mK f fd)(T:xh Z):BF Z.P Z.w Z.K Z.mg Z.base Fu 4 f fd ["walks","is_sought"] (JL Z.mg "is_of_first_alone" ⟨Z.K,Z.cl⟩ 10 aG fY bc aR dh):=by
 refine F.ok rV (λvs H Q E h=>by obtain⟨fS,_,F,cs,ws,out,wl,rfl,_⟩:=h;rfl) (λDB A' outer s H vs Q E hr h=>?_)
 obtain⟨fS,ZM,h⟩:=h
 refine⟨Zy ⟨Z.K,Z.cl⟩ 10 aG fY bc aR dh fS Z.Cc,?_,Qt T.EG h⟩
 exact a_ (fB (i:=2) rV.nd rfl (.inl rfl) (Kl Mg (qb (aB dN aN)) (dw (jF Z.K) rfl T.gV h9 (aB (pv 0) aN))))
  (a_ (fB (i:=3) rV.nd rfl (.inl rfl) (Cw (dG hr) (pv 2) yI))
  (a_ (fB (i:=4) rV.nd rfl (.inl rfl) (qd (aB (pv 2) aN)))
  (a_ (yL b9 (uo (QR (dw (jF Z.K) rfl T.gV h9 (aB (pv 4) aN)) dN))
   (a_ (fB (i:=5) rV.nd rfl (.inl rfl) (qd aN))
   (a_ (mR b9 rfl (vL (pv 4)) (cP (i:=6) rV.nd rfl (ff rfl))
    (bW (mR b9 rfl (Cv (k1:=.T) (k2:=.L) rfl T.sA (aB (j7 rfl T.r9 rfl) (aB (gG T.xS hr (aB (pv 0) (aB (pv 6) aN))) aN))) (pY rfl (eO (cP (i:=7) rV.nd rfl (ff rfl)) (eO (cP (i:=8) rV.nd rfl (ff rfl)) mQ)))
     (bW (qW (PW.pt (Fy (uo (qe (dG hr) (pv 8) (pv 3))) (B_ (Fz (uq (rF T.At T.A8 hr (uB (sW Z.K) (pv 0) dN (λ_ _=>rfl)) (aB (uB (Li Z.K) (pv 8) dN (λ_ _=>rfl)) aN)))))))
      (a_ (mY (dG hr) (pv 3) (pv 8) (qb (aB (pv 6) (aB (pv 7) aN))) rfl)
      (a_ (qU (Gx Z.K iS kr kz lM (pv 5) (aB (pv 8) aN)))
      (bW (qW (uq (Mv (i:=1) T.vF ZM hr (aB (pv 0) (aB (pv 8) aN)))) (bW (ig (gG T.x9 hr (aB (pv 3) (aB (pv 8) aN))))) j8)))) j8)))))
   (bW (fB (i:=4) rV.nd rfl (.inl rfl) (pv 5))))))
  (bW (ig yI)))))
theorem uh (F:fu Z vb f fd)(T:Zq Z):fo Z vb f fd:=by
 refine FC F uf [] [] [] λhr=>?_
 exact(aF (bx (o9 (rH (aa 0) nj (gf (zz aj))) (cu (ak (cu (ak (aK hr (aK hr (aa 0) (zz aj)) aj) (ak jw aJ))) aJ)))))
theorem Bm (F:fu Z va f fd)(T:Zq Z):fo Z va f fd:=by
 refine FC F sw [1] [] [] λhr=>?_
 exact(aD (kY 1 sw.nd (d_ aJ)) (aD (fP [2,3,4,5] (tG T.sg (aa 0)) (zE (dU 2 sw.nd (dU 3 sw.nd nO))) (aD (uL 1 (cu (ak (aa 2) (ak aj (ak aj aJ))))) (aF (fP [4,5] (tG T.sg (aK hr (aa 3) aj)) (zE (dU 4 sw.nd (dU 5 sw.nd nO))) (aF (Rm 1 (SE.val (nP (C1:=(aC jC)) (ON:=["metre","states","slot","told","number","pattern"]) (N:=["at","slot","number"]) (AQ:=[none,some 2,some 4]) Wv (Ed 0) (Rj T.rh aj (bG T.gV (aa 5))) (λ_ _ _ _=>wk 0) (λ_ _ _ _=>oV) (λ_ _ _ _=>(cu (ak (aa 1) (ak (aa 2) (ak (aa 0) aJ))))))))) b9))) b9) (zB (G1:=[]) (aF (bx (aa 1))))))
theorem Bo (F:fu Z sN f fd)(T:Zq Z):fo Z sN f fd:=by
 refine FC F Bh [] [] [] λhr=>?_
 exact(aF (bx (cu (ak (bG T.gV (aa 0)) (ak aj (ak aj aJ))))))
theorem vC (F:fu Z uS f fd)(T:Zq Z):fo Z uS f fd:=by
 refine FC F wf [] [] [] λhr=>?_
 exact(aD (bK 3 wf.nd (aK hr (aa 1) aj)) (aD (bK 4 wf.nd (dz (aK hr (aa 1) aj) aj)) (aD (dB (aZ (yj (aa 4) (bG T.gV (aK hr (aK hr (aK hr (aa 0) (aa 3)) aj) (aK hr (aa 1) aj))))) (aF (bx (cu (ak (aa 3) (ak (aK hr (aa 1) aj) (ak (aa 4) aJ)))))) bR) (aD (dB (SW.st (m_ (gH (aK hr (aK hr (aa 0) (aa 3)) aj)) (m9 (m8 (gH (aa 2)))))) (aF (bx qp)) bR) (aF (bx (cu (ak (dz (aa 3) aj) (ak aj (ak aj aJ))))))))))
theorem ye (F:fu Z uu f fd)(T:Zq Z):fo Z uu f fd:=by
 refine FC F x_ [] [] [] λhr=>?_
 exact(aF (bx (Ea (d9 (cF hr (aa 0) (aa 1))) (m7 (d9 (cF hr (aa 0) fX))))))
theorem BW (F:fu Z uj f fd)(T:xp Z):fo Z uj f fd:=by
 refine FC F sf [8] [] [] λhr=>?_
 exact(aD (dB (aZ (cF hr (aa 1) (aU T.vE hr (ak (aa 0) aJ)))) (aF (bx (SE.val (d_ aJ)))) bR) (aD (bK 4 sf.nd (aK hr (aa 1) aj)) (aD (bK 5 sf.nd (aK hr (aa 1) aj)) (aD (bK 6 sf.nd (aK hr (aK hr (aa 0) (aa 4)) aj)) (aD (bK 7 sf.nd (Kr (aZ (cF hr (aa 5) aj)) (SE.val (Ja T.sj T.rh (bG T.gV (aa 6)))) (SE.val (d_ (ak (aK hr (aa 1) aj) aJ))))) (aD (kY 8 sf.nd (d_ aJ)) (aD (fP [9,10] (oR (aa 7)) (mq 9 sf.nd) (aD (bK 10 sf.nd (aU T.yb hr (ak (aa 0) (ak (cu (ak (aa 4) (ak (aa 9) (ak (aa 5) aJ)))) (ak (aa 3) aJ))))) (aF (dB (SW.st (m_ (aZ (sZ (aa 10) qp)) (m9 (gH (aU T.ya hr (ak (aK hr (aK hr (aa 6) (aa 9)) (aa 5)) (ak (aa 2) aJ))))))) (aF (uL 8 (cu (ak (aa 9) (ak (aa 10) aJ))))) bR))) b9) (zB (G1:=[]) (aF (bx (aa 8)))))))))))
theorem Fp (F:fu Z sQ f fd)(T:Zq Z):fo Z sQ f fd:=by
 refine FC F Fo [] [] [] λhr=>?_
 exact(aF (bx (cu (ak (aK hr (aa 1) aj) (ak (Kr (aZ (uJ (aK hr (aa 1) aj) aj)) (Eb (aK hr (aK hr (aK hr (aa 0) (aK hr (aa 1) aj)) aj) (aK hr (aa 1) aj)) (gf (aK hr (aa 1) aj)) nj) fX) aJ)))))
theorem wU (F:EA Z.K "rests_ahead" "rests_ahead" gQ f fd)(T:xw Z):BF Z.P Z.w Z.K Z.mg Z.base Fu 3 f fd ["metre"] (DZ ⟨Z.K,Z.cl⟩ bL true):=by
 refine FC F sR [1] [1] [] λhr=>?_
 exact(aD (kY 1 sR.nd Ks) (aD (fP [2,3,4] (oR (aU T.yi hr (ak (aa 0) aJ))) (mq 2 sR.nd) (aF (fP [3,4] (oR (Ra T.r9 (T.wb))) (mq 3 sR.nd) (aD (bK 4 sR.nd (aU T.xL hr (ak (aa 0) (ak (aa 2) (ak (aK hr (aa 3) aj) (ak (aK hr (aa 3) aj) aJ)))))) (aF (Ku 1 hr (cu (ak (aU T.sC hr (ak (aa 0) (ak (aa 2) aJ))) (ak (aa 3) aJ))) (SE.val (nP (C1:=(aC gQ)) (ON:=["metre","ahead","state","said","moves"]) (N:=["pattern","reached","metre"]) (AQ:=[none,none,some 0]) Wv (Sq [0,1]) (oR (aa 4)) (λ_ _ _ _=>pY rfl (eO (wk 0) (eO (wk 1) mQ))) (λ_ _ _ _=>oV) (λ_ _ _ _=>(aU T.sC hr (ak (aa 2) (ak (aa 1) aJ))))))))) b9)) b9) (aF (Pq 1))))
theorem rR (F:EA Z.K "__init__" "Walk.__init__" gY f fd)(T:wS Z):BF Z.P Z.w Z.K Z.mg Z.base Fu 4 f fd ["self","metre","most"] (wz ⟨Z.K,Z.cl⟩ 10 bI bL bN bJ gj):=by
 refine F.ok CB (λvs H Q E h=>by obtain⟨A,p,most,w,x,dx,vm,rfl,_⟩:=h;rfl) (λDB A' outer s H vs Q E hr h=>⟨Zz ⟨Z.K,Z.cl⟩ bI bL bN bJ Z.C5,?_,Qu T.wc h⟩)
 exact a_ (fB (i:=3) CB.nd rfl (.inl rfl) (gG T.yk hr (aB (pv 1) aN)))
  (a_ (mV (pv 0) (gG T.x0 hr (aB (pv 3) aN)) rfl)
  (a_ (mV (pv 0) (pv 2) rfl)
  (a_ (mV (pv 0) (gG T.sC hr (aB (pv 3) (aB (gG T.vE hr (aB (pv 3) aN)) aN))) rfl)
  (a_ (mV (pv 0) (qd (aB (qb (aB (qb (aB (gG T.sC hr (aB (pv 3) (aB (j7 rfl T.sD rfl) aN))) (aB dN aN))) aN)) aN)) rfl)
  (a_ (mV (pv 0) (Cw (dG hr) (uB (sW Z.K) (f9 Z.K (pv 0)) dN (λ_ _=>rfl)) dN) rfl)
  (bW (mV (pv 0) y_ rfl)))))))
theorem vD (F:fu Z ui f fd)(T:xo Z):fo Z ui f fd:=by
 obtain⟨fS,fdS,FS,hbS,kpS,hmS⟩:=T.vF.ex
 refine F.ok vy (λvs H Q E h=>by
  obtain⟨A,ps,p,r,hm,_⟩:=h
  rw[r.length]
  match ps,hm with
  | [_,_],_=>rfl) (λDB A' outer s H vs Q E hr h=>⟨ZL Z.mg "is_of_first_alone" ⟨Z.K,Z.cl⟩ 10 bI bL bN bJ aG bc aR dh fY gj fS,?_,Qv ⟨T.A8,T.EF,T.E8,T.FV,T.BS,T.FX,T.F9⟩ hmS h⟩)
 exact bW (ig (gG T.xE hr (aB (qd (aB (CJ T.NW hr (aB (pv 0) (aB dN aN))) (aB (CJ T.NW hr (aB (pv 1) (aB dN aN))) aN))) (aB (j7 rfl hmS rfl) aN))))
theorem vG (F:fu Z tT f fd)(T:Zq Z):fo Z tT f fd:=by
 refine FC F vz [] [] [] λhr=>?_
 exact(aD (dB (aZ (yj (aa 1) (bG T.gV (aa 0)))) (aF (bx (aK hr (aa 0) (aa 1)))) bR) (aF (bx aj)))
theorem vH (F:fu Z t0 f fd)(T:w4 Z):fo Z t0 f fd:=by
 refine FC F rj [] [] [] λhr=>?_
 exact(aD (bK 2 rj.nd (cO (aa 1) (bG T.gV (aa 0)))) (aD (Rn (aK hr (aa 0) (aa 2)) (zE (dU 3 rj.nd (dU 4 rj.nd nO)))) (aD (bK 5 rj.nd (iu (aa 1) (bG T.gV (aa 0)))) (aD (bK 6 rj.nd (aU T.vx hr (ak (iu (aa 5) aj) aJ))) (aD (dB (SW.st (m_ (aZ (cF hr (cO (aa 5) aj) aj)) (m_ (aZ (lU (aa 6) (aa 3))) (m9 (aZ (yj (bG T.gV (aa 3)) aj)))))) (aF (bK 3 rj.nd (o9 (aa 3) (cu (ak (aa 6) aJ))))) bR) (aD (dB (SW.st (m_ (aZ (cF hr (cO (aa 5) aj) aj)) (m9 (aZ (uJ (bG T.gV (aa 3)) aj))))) (aF (bK 3 rj.nd (rH (aa 3) (gf aj) nj))) bR) (aD (dB (aZ (cF hr (cO (aa 5) aj) aj)) (aF (bK 4 rj.nd (GD (aa 4)))) bR) (aD (dB (aZ (cF hr (cO (aa 5) aj) aj)) (aF (bK 3 rj.nd (cu (ak (MF fX (bG T.gV (aK hr (aa 3) aj))) aJ)))) bR) (aD (dB (aZ (cF hr (cO (aa 5) aj) aj)) (aF (bK 3 rj.nd (Mm T.rS T.sx (aa 3)))) bR) (aF (bx (o9 (o9 (rH (aa 0) nj (gf (aa 2))) (cu (ak (cu (ak (aa 3) (ak (aa 4) aJ))) aJ))) (rH (aa 0) (gf (dz (aa 2) aj)) nj)))))))))))))
theorem Bp (F:fu Z ua f fd)(T:xb Z):fo Z ua f fd:=by
 refine FC F rL [2] [] [] λhr=>?_
 exact(aD (kY 2 rL.nd (d_ aJ)) (aD (fP [3,4,5,6,7,8,9] (tG T.sg (aa 0)) (zE (dU 3 rL.nd (dU 4 rL.nd nO))) (aD (bK 5 rL.nd (aU T.sB hr (ak (aa 1) (ak (aa 3) aJ)))) (aD (bK 6 rL.nd (aK hr (aK hr (aa 4) aj) (cO (aa 5) (bG T.gV (aK hr (aa 4) aj))))) (aF (fP [7,8,9] (rA T.rh (bG T.gV (aa 6))) (mq 7 rL.nd) (aD (bK 8 rL.nd (aK hr (aa 6) (aa 7))) (aD (dB (aZ (cF hr (aa 8) fX)) (aF (bK 8 rL.nd (aK hr fX (cO (iu (aa 5) (aK hr (d_ (ak aj (ak aj (ak aj (ak aj aJ))))) (aa 7))) aj)))) bR) (aD (bK 9 rL.nd (Ea (d9 (cF hr (cO (iu (aa 5) (aK hr (d_ (ak aj (ak aj (ak aj (ak aj aJ))))) (aa 7))) aj) aj)) (m7 (zx (aK hr (aa 4) aj) (m7 (d9 (cF hr (dz (aa 7) aj) (bG T.gV (aa 6))))))))) (aF (uL 2 (cu (ak (aa 8) (ak (Ea (aa 9) (m7 (zx (d9 (cF hr (dz (aa 3) aj) (bG T.gV (aa 0)))) (m7 (d9 (cF hr (dz (aa 7) aj) (bG T.gV (aa 6)))))))) aJ)))))))) b9)))) b9) (zB (G1:=[]) (aF (bx (aa 2))))))
theorem wV (F:fu Z tP f fd)(T:Zq Z):fo Z tP f fd:=by
 refine FC F wx [] [] [] λhr=>?_
 exact(aD (dB (aZ (yh hr (bG T.gV (aa 0)) (bG T.gV (aa 1)))) (aF (bx (d9 (yj (bG T.gV (aa 0)) (bG T.gV (aa 1)))))) bR) (aD (fP [2] (rA T.rh (bG T.gV (aa 0))) (mq 2 wx.nd) (aF (dB (aZ (yh hr (aK hr (aa 0) (aa 2)) (aK hr (aa 1) (aa 2)))) (aD (dB (aZ (yh hr (aK hr (aK hr (aa 0) (aa 2)) aj) (aK hr (aK hr (aa 1) (aa 2)) aj))) (aF (bx (d9 (cF hr (aK hr (aK hr (aa 0) (aa 2)) aj) fX)))) bR) (aF (bx (GD (aK hr (aK hr (aa 0) (aa 2)) aj))))) bR)) b9) (aF (bx jw))))
theorem wW (F:fu Z t4 f fd)(T:Zq Z):fo Z t4 f fd:=by
 refine FC F wE [] [] [] λhr=>?_
 exact(aD (dB (SW.st (jW (m8 (gH (zJ DJ T.sK T.si T.sj kU (aa 0)))) (jW (aZ (cF hr (aa 0) (d_ aJ))) (qu (aZ (Hm (aK hr (aK hr (aa 0) (zz aj)) aj) jw)))))) (aF (bx jw)) bR) (aD (fP [1] (oR (aa 0)) (mq 1 wE.nd) (aF (dB (SW.st (jW (m8 (gH (zJ CY T.sL T.si T.rS iX (aa 1)))) (jW (aZ (yh hr (bG T.gV (aa 1)) aj)) (jW (aZ (lU (aK hr (aa 1) aj) (cu (ak fX (ak fX aJ))))) (qu (m8 (gH (zJ DI T.sF T.si T.sT PyProof.Rows.boot_bool (aK hr (aa 1) aj))))))))) (aF (bx jw)) bR)) b9) (aF (bx jw))))
theorem Bq (F:fu Z t3 f fd)(T:Zq Z):fo Z t3 f fd:=by
 refine FC F Bj [] [] [] λhr=>?_
 exact(aD (dB (SW.st (jW (aZ (uJ (dz (aa 1) (bG T.gV (aa 2))) (bG T.gV (aa 0)))) (qu (SW.st (m_ (gH (aa 3)) (m9 (m8 (gH (aK hr (aK hr (aa 0) (Pg (dz (aa 1) (bG T.gV (aa 2))) aj)) aj))))))))) (aF (bx jw)) bR) (aF (bx (d9 (cF hr (nP (C1:=(aC jD)) (ON:=["_law_row","_law_at","_law_pattern_here","_law_cut"]) (N:=["_law_k","_law_pattern_here","_law_row","_law_at"]) (AQ:=[none,some 2,some 0,some 1]) Wv (Ed 0) (rA T.rh (bG T.gV (aa 2))) (λ_ _ _ _=>wk 0) (λ_ _ _ _=>Io (aZ (lU (aK hr (aa 1) (aa 0)) (cu (ak fX (ak (aK hr (aK hr (aa 2) (dz (aa 3) (aa 0))) aj) aJ)))))) (λ_ _ _ _=>(aa 0))) (d_ aJ))))))
theorem rT (F:fu Z t5 f fd)(T:w8 Z):fo Z t5 f fd:=by
 refine F.ok se (λvs H Q E h=>by
  obtain⟨A,ps,p,r,hm,_⟩:=h
  rw[r.length]
  have hm:z_ bh ps=some p:=hm
  unfold z_ at hm
  split at hm
  ·rfl
  ·cases hm) (λDB A' outer s H vs Q E hr h=>⟨Zv ⟨Z.K,Z.cl⟩ bh,?_,Qo h⟩)
 exact a_ (fB (i:=2) se.nd rfl (.inl rfl) (JB dN dN))
  (a_ (mR b9 rfl (uv (pv 0)) (pY rfl (eO (cP (i:=3) se.nd rfl (ff rfl)) (eO (cP (i:=4) se.nd rfl (ff rfl)) mQ)))
   (a_ (fB (i:=5) se.nd rfl (.inl rfl) y_)
   (a_ (mR b9 rfl (Qn (pv 2)) (cP (i:=6) se.nd rfl (ff rfl))
    (bW (mR b9 rfl (uv (pv 3)) (cP (i:=7) se.nd rfl (ff rfl))
     (bW (qW (uq (gG T.xA hr (aB (pv 1) (aB (pv 6) (aB (pv 7) (aB (pv 4) aN)))))) (bW (mY (dG hr) (pv 5) (yK (pv 6) (dw kJ rfl T.gV h9 (aB (pv 7) aN))) (yK (sO (dG hr) (pv 5) (yK (pv 6) (dw kJ rfl T.gV h9 (aB (pv 7) aN))) dN ⟨rfl,rfl,rfl,rfl⟩) (qZ (dG hr) (pv 2) (pv 6) (λ_ _=>rfl))) rfl)) j8)))))
   (bW (fB (i:=2) se.nd rfl (.inl rfl) (pv 5))))))
  (bW (ig (sO (dG hr) (pv 2) (dw (jF Z.K) rfl T.gV h9 (aB (pv 1) aN)) dN ⟨rfl,rfl,rfl,rfl⟩))))
theorem QK (F:fu Z we f fd)(T:xl Z):fo Z we f fd:=by
 refine FC F rX [] [] [] λhr=>?_
 exact(aD (bK 1 rX.nd (aU T.wm hr (ak (aU T.vk hr (ak (aa 0) (ak aj aJ))) (ak aj aJ)))) (aD (bK 2 rX.nd (aa 1)) (aD (dB (aZ (cF hr (cO (aU T.vk hr (ak (aa 0) (ak aj aJ))) aj) aj)) (aF (bK 2 rX.nd (aU T.wm hr (ak (iu (aU T.vk hr (ak (aa 0) (ak aj aJ))) aj) (ak aj aJ))))) bR) (aD (fP [3] (oR (Eb (aa 0) (gf aj) (gf aj))) (mq 3 rX.nd) (aF (bK 2 rX.nd (aU T.xz hr (ak (aa 2) (ak (aa 3) aJ))))) b9) (aD (bK 4 rX.nd (aU T.xI hr (ak (aa 1) (ak (aa 2) aJ)))) (aD (dB (aZ (sZ (aa 4) qp)) (aF (dB (SW.st (jW (m8 (gH (aU T.xB hr (ak (aa 4) aJ)))) (jW (aZ (cF hr (aU T.vv hr (ak (aa 1) (ak (aa 4) aJ))) aj)) (qu (aZ (uJ (aU T.vv hr (ak (aa 2) (ak (aa 4) aJ))) aj)))))) (aF (bx jw)) bR)) bR) (aD (fP [3,5] (oR (Eb (aa 0) (gf aj) (gf aj))) (mq 3 rX.nd) (aD (bK 5 rX.nd (aU T.xC hr (ak (aa 1) (ak (aa 3) aJ)))) (aF (dB (SW.st (jW (aZ (Rg (aa 4) qp)) (qu (gH (aU T.xy hr (ak (aa 5) (ak (aa 4) aJ))))))) (aF (dB (aZ (cF hr (aU T.vv hr (ak (aa 2) (ak (aa 5) aJ))) aj)) (aF (bx jw)) bR)) bR))) b9) (aF (bx jw)))))))))
end
end
def yx (K:W.Frag):Sp:=λvs H Q _=>∃(a:Addr) (ns:qS),vs=[V.ref a]/\PZ H/\Bz K H a (ns.map V.int)/\ns.length<=63/\∀J,Q (.bl true) J
theorem QL {K:W.Frag}{cl:Nat->Addr}{vs:List V}{H:Hp}{Q:VK}{E:XK}(h:yx K vs H Q E):DZ ⟨K,cl⟩ u9 false vs H Q E:=by
 obtain⟨a,ns,rfl,ho,hs,hl,k⟩:=h
 have ri:AJ ⟨K,cl⟩ (λ_=>True) H (ns.map V.int) (ns.map PV.int):=j9 _ _ (λi=>.int i) ns
 refine⟨λ_=>True,[.frz (ns.map PV.int)],.bl true,.cons ?_ .nil,NU ns hl,λv H' s r=>?_⟩
 ·rcases hs with (hs | ⟨o,hs⟩) | hs
  ·rcases ho a with z | ⟨o,xs,z⟩
   ·rw[z] at hs;cases hs
   ·rw[z] at hs;cases hs
  ·exact .MX hs ri
  ·exact .lstK (.inr hs) ri
 ·cases r
  exact k _
structure Gf (K:W.Frag)(x:Str)(st:Stmt)(f:Addr)(fd:FuncData):Prop where
 a:W.nsIn K mainGlobals x=some (some (.ref f))
 F:EA K x x st f fd
theorem km {K:W.Frag}{h:Heap}{mg:Str->Option Value}{P:Program}{w:World}{base:Heap}{k:Nat}{x:Str}{ps:qE}{sp:Sp}{st:Stmt}{f:Addr}{fd:FuncData}(X:K.In h)(G:h.Ns mainGlobals mg)(F:Gf K x st f fd)(hb:Binds K fd ps [])(o:BF P w K mg base Fu k f fd ps sp):OS P w K mg base k x ps sp:=O3 F.F (W.mg_of X G F.a) hb o
theorem all_mk {l:W.OpenLaw}{w:World}{K:W.Frag}{h:Heap}{mg:Str->Option Value}{fa:Addr}(X:K.In h)(G:h.Ns mainGlobals mg)(hfa:mg "law" = some (.ref fa))
  (aC_Walk:W.nsIn K mainGlobals "Walk" = some (some (.ref C_Walk)))
  (F_0:Gf K "_law_pattern" gw f_0 d_0)
  (F_1:Gf K "_law_mix" pH f_1 d_1)
  (F_2:Gf K "_law_slot" mJ f_2 d_2)
  (F_3:Gf K "_law_metre" iQ f_3 d_3)
  (a_4:W.findIn K (.ref C_Walk) "number_of_place" = some (some (.ref f_4)))
  (i_4:W.isFn K (.ref f_4)=true)
  (F_4:EA K "number_of_place" "Walk.number_of_place" dI f_4 d_4)
  (a_5:W.findIn K (.ref C_Walk) "place_behind" = some (some (.ref f_5)))
  (i_5:W.isFn K (.ref f_5)=true)
  (F_5:EA K "place_behind" "Walk.place_behind" fj f_5 d_5)
  (a_6:W.findIn K (.ref C_Walk) "later" = some (some (.ref f_6)))
  (i_6:W.isFn K (.ref f_6)=true)
  (F_6:EA K "later" "Walk.later" gP f_6 d_6)
  (F_7:Gf K "nodes_behind" eG f_7 d_7)
  (a_8:W.findIn K (.ref C_Walk) "ways_to_end" = some (some (.ref f_8)))
  (i_8:W.isFn K (.ref f_8)=true)
  (F_8:EA K "ways_to_end" "Walk.ways_to_end" fK f_8 d_8)
  (F_9:Gf K "is_of_first_alone" fL f_9 d_9)
  (a_10:W.findIn K (.ref C_Walk) "is_over" = some (some (.ref f_10)))
  (i_10:W.isFn K (.ref f_10)=true)
  (F_10:EA K "is_over" "Walk.is_over" iR f_10 d_10)
  (F_11:Gf K "row_to" uc f_11 d_11)
  (F_12:Gf K "first_row" mK f_12 d_12)
  (F_13:Gf K "with_last_cut" iT f_13 d_13)
  (F_14:Gf K "states_of" jC f_14 d_14)
  (F_15:Gf K "end_state" mL f_15 d_15)
  (F_16:Gf K "state_behind" jn f_16 d_16)
  (F_17:Gf K "stands_for" lF f_17 d_17)
  (F_18:Gf K "moves_of" pI f_18 d_18)
  (F_19:Gf K "rest_of" qT f_19 d_19)
  (F_20:Gf K "rests_ahead" gQ f_20 d_20)
  (a_21:W.findIn K (.ref C_Walk) "__init__" = some (some (.ref f_21)))
  (i_21:W.isFn K (.ref f_21)=true)
  (F_21:EA K "__init__" "Walk.__init__" gY f_21 d_21)
  (F_22:Gf K "metre_within" jo f_22 d_22)
  (F_23:Gf K "_law_cell_at" jq f_23 d_23)
  (F_24:Gf K "_law_changed" jr f_24 d_24)
  (F_25:Gf K "_law_said" mO f_25 d_25)
  (F_26:Gf K "_law_before" jP f_26 d_26)
  (F_27:Gf K "_law_is_row" jQ f_27 d_27)
  (F_28:Gf K "_law_fits" jD f_28 d_28)
  (F_29:Gf K "_law_many_feet" gZ f_29 d_29)
  (F_30:Gf K "law" rQ f_30 d_30)
  (pg_Walk:W.plainGet K C_Walk Str.empty=true)
  (hd_Walk:W.hasDictIn K C_Walk=true)
  (po_Walk:W.plainOver K C_Walk=true)
  (sa_Walk:W.findIn K (.ref C_Walk) "__setattr__" = some (some (.builtin "object.__setattr__")))
  (mk_Walk:W.makesIn K C_Walk=true)
  (kc_Walk:W.keepIn K (.ref C_Walk)=true)
  (nf_Walk_ahead:W.findIn K (.ref C_Walk) "ahead" = some none)
  (nf_Walk_end:W.findIn K (.ref C_Walk) "end" = some none)
  (nf_Walk_most:W.findIn K (.ref C_Walk) "most" = some none)
  (nf_Walk_numbers:W.findIn K (.ref C_Walk) "numbers" = some none)
  (nf_Walk_onward:W.findIn K (.ref C_Walk) "onward" = some none)
  (nf_Walk_places:W.findIn K (.ref C_Walk) "places" = some none)
  (sT:W.nsIn K mainGlobals "bool" = some none)
  (tf:W.nsIn K mainGlobals "dict" = some none)
  (sg:W.nsIn K mainGlobals "enumerate" = some none)
  (si:W.nsIn K mainGlobals "isinstance" = some none)
  (gV:W.nsIn K mainGlobals "len" = some none)
  (sj:W.nsIn K mainGlobals "list" = some none)
  (tj:W.nsIn K mainGlobals "min" = some none)
  (rh:W.nsIn K mainGlobals "range" = some none)
  (sx:W.nsIn K mainGlobals "reversed" = some none)
  (tm:W.nsIn K mainGlobals "sorted" = some none)
  (rS:W.nsIn K mainGlobals "tuple" = some none)
  (sA:W.nsIn K mainGlobals "zip" = some none)
  (r9:W.nsIn K mainGlobals "SAID" = some (some (.ref Cc)))
  (tq:K.lookup Cc=some ⟨.type "tuple",none,.seq #[.ref a_SAID_0,.ref a_SAID_1,.ref a_SAID_2,.ref a_SAID_3] n_SAID,Yi⟩)
  (tw:K.lookup a_SAID_0=some ⟨.type "tuple",none,.seq #[.str "u" t_SAID_0_0,.bool false] n_SAID_0,Vy⟩)
  (tz:K.lookup a_SAID_1=some ⟨.type "tuple",none,.seq #[.str "u" t_SAID_1_0,.bool true] n_SAID_1,Vz⟩)
  (tF:K.lookup a_SAID_2=some ⟨.type "tuple",none,.seq #[.str "-" t_SAID_2_0,.bool false] n_SAID_2,VA⟩)
  (tJ:K.lookup a_SAID_3=some ⟨.type "tuple",none,.seq #[.str "-" t_SAID_3_0,.bool true] n_SAID_3,VB⟩)
  (sD:W.nsIn K mainGlobals "START" = some (some (.ref C5)))
  (vT:K.lookup C5=some ⟨.type "tuple",none,.seq #[.int 0 t_START_0,.int 0 t_START_1,.int 0 t_START_2] n_START,Xl⟩)
  (sF:∀t k,(t,k)∈DI->W.kitOne K (.type t) (.type "bool")=some k)
  (sK:∀t k,(t,k)∈DJ->W.kitOne K (.type t) (.type "list")=some k)
  (sL:∀t k,(t,k)∈CY->W.kitOne K (.type t) (.type "tuple")=some k):
  ∃fd:FuncData,(∀(s:Shared) (v:Value),BindsTo s fd ⟨[v],[]⟩ [("_law_script",v)])/\∀base:Heap,K.In base->base.Ns mainGlobals mg->BF l.prog w K mg base Fu 7 fa fd ["_law_script"] (yx K):=by
 have mo {x:Str}{v:Value}(h:W.nsIn K mainGlobals x=some (some v)):mg x=some v:=W.mg_of X G h
 have e:=hfa.symm.trans (mo F_30.a)
 cases e
 obtain⟨_,_,Xm,Xn,Xo,Xp,Xq,Xr,_,rfl,_,_⟩:=F_30.F.ex
 refine⟨W.fnOf "law" "law" (fZ rQ) (d8 rQ) (aC rQ) .none Xm Xn Xo Xp Xq Xr,λs v=>.of_eq rfl,λbase _ _=>?_⟩
 let cl:Nat->Addr:=λn=>match n with | 10=>C_Walk | _=>0
 let Z:Z7:={ P:=l.prog,w,K,mg,base,cl,Cc,C5 }
 have A8:JA K (cl 10):=⟨pg_Walk,hd_Walk,po_Walk,sa_Walk⟩
 have wb:∀(B:Addr->Prop) (H:Hp),Rep ⟨K,cl⟩ B H (.ref Cc) u5:=λB H=>(.tupK (vs:=[V.ref a_SAID_0,V.ref a_SAID_1,V.ref a_SAID_2,V.ref a_SAID_3]) (.inr ⟨_,_,_,tq,rfl,rfl,⟨(by show 4<=sizeLine;decide),rfl⟩,(.cons rfl (.cons rfl (.cons rfl (.cons rfl .nil))))⟩) (.cons (.CS (vs:=[V.str "u",.bl false]) ⟨_,_,_,tw,rfl,rfl,⟨(by show 2<=sizeLine;decide),rfl⟩,(.cons ⟨_,rfl⟩ (.cons rfl .nil))⟩ (.cons (.str _) (.cons (.bl _) .nil))) (.cons (.CS (vs:=[V.str "u",.bl true]) ⟨_,_,_,tz,rfl,rfl,⟨(by show 2<=sizeLine;decide),rfl⟩,(.cons ⟨_,rfl⟩ (.cons rfl .nil))⟩ (.cons (.str _) (.cons (.bl _) .nil))) (.cons (.CS (vs:=[V.str "-",.bl false]) ⟨_,_,_,tF,rfl,rfl,⟨(by show 2<=sizeLine;decide),rfl⟩,(.cons ⟨_,rfl⟩ (.cons rfl .nil))⟩ (.cons (.str _) (.cons (.bl _) .nil))) (.cons (.CS (vs:=[V.str "-",.bl true]) ⟨_,_,_,tJ,rfl,rfl,⟨(by show 2<=sizeLine;decide),rfl⟩,(.cons ⟨_,rfl⟩ (.cons rfl .nil))⟩ (.cons (.str _) (.cons (.bl _) .nil))) .nil)))))
 have EG:qz ⟨K,cl⟩ Cc fY:=⟨[V.ref a_SAID_0,V.ref a_SAID_1,V.ref a_SAID_2,V.ref a_SAID_3],.inr ⟨_,_,_,tq,rfl,rfl,⟨(by show 4<=sizeLine;decide),rfl⟩,(.cons rfl (.cons rfl (.cons rfl (.cons rfl .nil))))⟩,λB H=>(.cons (.CS (vs:=[V.str "u",.bl false]) ⟨_,_,_,tw,rfl,rfl,⟨(by show 2<=sizeLine;decide),rfl⟩,(.cons ⟨_,rfl⟩ (.cons rfl .nil))⟩ (.cons (.str _) (.cons (.bl _) .nil))) (.cons (.CS (vs:=[V.str "u",.bl true]) ⟨_,_,_,tz,rfl,rfl,⟨(by show 2<=sizeLine;decide),rfl⟩,(.cons ⟨_,rfl⟩ (.cons rfl .nil))⟩ (.cons (.str _) (.cons (.bl _) .nil))) (.cons (.CS (vs:=[V.str "-",.bl false]) ⟨_,_,_,tF,rfl,rfl,⟨(by show 2<=sizeLine;decide),rfl⟩,(.cons ⟨_,rfl⟩ (.cons rfl .nil))⟩ (.cons (.str _) (.cons (.bl _) .nil))) (.cons (.CS (vs:=[V.str "-",.bl true]) ⟨_,_,_,tJ,rfl,rfl,⟨(by show 2<=sizeLine;decide),rfl⟩,(.cons ⟨_,rfl⟩ (.cons rfl .nil))⟩ (.cons (.str _) (.cons (.bl _) .nil))) .nil))))⟩
 have wc:∀(B:Addr->Prop) (H:Hp),Rep ⟨K,cl⟩ B H (.ref C5) gj:=λB H=>(.tupK (vs:=[V.int 0,V.int 0,V.int 0]) (.inr ⟨_,_,_,vT,rfl,rfl,⟨(by show 3<=sizeLine;decide),rfl⟩,(.cons ⟨_,rfl⟩ (.cons ⟨_,rfl⟩ (.cons ⟨_,rfl⟩ .nil)))⟩) (.cons (.int _) (.cons (.int _) (.cons (.int _) .nil))))
 have zn {x:Str}(h:W.nsIn K mainGlobals x=some none):mg x=none:=W.mg_none_of X G h
 have q:Zq Z:=⟨zn sT,zn tf,zn sg,zn si,zn gV,zn sj,zn tj,zn rh,zn sx,zn tm,zn rS,zn sA,mo r9,mo sD,wb,wc,A8,sF,sK,sL,nf_Walk_ahead,nf_Walk_end,nf_Walk_most,nf_Walk_numbers,nf_Walk_onward,nf_Walk_places,EG⟩
 have wn:=km X G F_0 F_0.F.UH (vA F_0.F q)
 have vS:=km X G F_1 F_1.F.Iy (BV F_1.F q)
 have zl:=km X G F_2 F_2.F.UH (Bk F_2.F ⟨q,vS,wn⟩)
 have zi:=km X G F_3 F_3.F.Iy (yc F_3.F ⟨q,vS,zl⟩)
 have G_4:=lH F_4 q
 have yA:ES l.prog w K mg base (cl 10) _ "number_of_place" _ _:=⟨_,_,G_4,F_4.Iy,⟨a_4,i_4,F_4.kp⟩⟩
 have G_5:=oh F_5 q
 have yB:ES l.prog w K mg base (cl 10) _ "place_behind" _ _:=⟨_,_,G_5,F_5.Zl,⟨a_5,i_5,F_5.kp⟩⟩
 have G_6:=wR F_6 ⟨q,yA,yB⟩
 have yy:ES l.prog w K mg base (cl 10) _ "later" _ _:=⟨_,_,G_6,F_6.Iy,⟨a_6,i_6,F_6.kp⟩⟩
 have zw:=km X G F_7 F_7.F.Iy (vB F_7.F ⟨q,yy⟩)
 have G_8:=pL F_8 q
 have yT:ES l.prog w K mg base (cl 10) _ "ways_to_end" _ _:=⟨_,_,G_8,F_8.Iy,⟨a_8,i_8,F_8.kp⟩⟩
 have wq:=km X G F_9 F_9.F.Iy (pM F_9.F ⟨q,yT⟩)
 have G_10:=ug F_10 q
 have yv:ES l.prog w K mg base (cl 10) _ "is_over" _ _:=⟨_,_,G_10,F_10.Iy,⟨a_10,i_10,F_10.kp⟩⟩
 have zD:=km X G F_11 F_11.F.Iy (HD F_11.F q)
 have zo:=km X G F_12 F_12.F.Iy (Bl F_12.F ⟨q,wq,zw,zD,yv⟩)
 have As:=km X G F_13 F_13.F.UH (uh F_13.F q)
 have Ap:=km X G F_14 F_14.F.UH (Bm F_14.F q)
 have wo:=km X G F_15 F_15.F.UH (Bo F_15.F q)
 have zS:=km X G F_16 F_16.F.Zl (vC F_16.F q)
 have zI:=km X G F_17 F_17.F.Iy (ye F_17.F q)
 have zv:=km X G F_18 F_18.F.bd4 (BW F_18.F ⟨q,wo,zI,zS⟩)
 have wt:=km X G F_19 F_19.F.Iy (Fp F_19.F q)
 have zC:=km X G F_20 F_20.F.UH (wU F_20.F ⟨q,zv,wt,Ap⟩)
 have G_21:=rR F_21 ⟨q,wo,wt,zC,As⟩
 have yn:Ux l.prog w K mg base (cl 10) _ "Walk" _ _:=⟨_,_,G_21,F_21.Zl,⟨mk_Walk,a_21,i_21,kc_Walk⟩,mo aC_Walk⟩
 have zt:=km X G F_22 F_22.F.Iy (vD F_22.F ⟨q,zo,wq,yn⟩)
 have y0:=km X G F_23 F_23.F.Iy (vG F_23.F q)
 have y9:=km X G F_24 F_24.F.Iy (vH F_24.F ⟨q,wn⟩)
 have zk:=km X G F_25 F_25.F.Iy (Bp F_25.F ⟨q,vS⟩)
 have yY:=km X G F_26 F_26.F.Iy (wV F_26.F q)
 have ze:=km X G F_27 F_27.F.UH (wW F_27.F q)
 have zd:=km X G F_28 F_28.F.bd4 (Bq F_28.F q)
 have zh:=km X G F_29 F_29.F.Iy (rT F_29.F ⟨q,zd⟩)
 have G_30:=QK F_30.F ⟨q,yY,y0,y9,ze,zh,zi,zk,zt⟩
 exact G_30.imp λvs H Q E h=>QL h
theorem walk {l:W.OpenLaw}{q:Program}{loose:qE}{XP:(Str->Option Value)->Heap->Prop}{YP:World->Heap->Prop}{d:DefRec}{K:Params->W.Frag}(hn:l.most=some 63)(VT:d.params.defaults=[])
  (hY:∀(w:World) (h:Heap),YP w h->(K w.params).In h)
  (F:∀(w:World) (mg:Str->Option Value) (fa:Addr) (h:Heap),(K w.params).In h->h.Ns mainGlobals mg->mg d.name=some (.ref fa)->
   ∃fd:FuncData,(∀(s:Shared) (u:Value),BindsTo s fd ⟨[u],[]⟩ [("_law_script",u)])/\∀base:Heap,(K w.params).In base->base.Ns mainGlobals mg->BF l.prog w (K w.params) mg base Fu 7 fa fd ["_law_script"] (yx (K w.params))):
  W.WalkO q loose XP YP l.row.toRowW d [] (λf vs=>PySem.call f vs):=
 L2.P5 (n:=63) (k:=7) (x := "_law_script") (CX:=λ_=>Fu) (sp:=λw=>yx (K w.params)) hn (by decide) VT ⟨rfl,by decide,by decide⟩ hY F (λ_ _ a ns hl hO hS=>⟨a,ns,rfl,hO,hS,hl,λ_=>rfl⟩) λ_ _ _ _ _ z=>z
end Lake.My
open PySem PySem.W PyProof.Rows
end
namespace PySem.W.Fast
def tw3783229592864041826:=()
def tw14995870032880786432:=()
def tw12717423316104658507:=()
def tw6719168017510358149:=()
def tw7079575804823200546:=()
def tw4074545415887926400:=()
def tw3709951403065537131:=()
def tw3963652747455300187:=()
def tw176593604707970724:=()
def tw11854436799614665961:=()
def tw16681184392359995597:=()
def tw9258143762588092024:=()
def tw6813233746018739431:=()
def tw13426578985156851994:=()
def tw6431093740475221909:=()
def tw16040747019185612136:=()
def tw10212524795132541107:=()
def tw17831777399685474499:=()
def tw12607042327243046124:=()
def tw4531743690747839961:=()
def tw18073185707284640579:=()
def tw8355199210058059573:=()
def tw14855440488747425338:=()
def tw3807009158231966791:=()
def tw12994150640560704313:=()
def tw11976075027726396734:=()
def tw17166753972023849003:=()
def tw11205543884271416175:=()
def tw5853871407729118389:=()
def tw4201776993045175488:=()
def tw9443056644901682829:=()
def tw6127818486821828972:=()
def tw15565190272647006647:=()
def tw7080639399517905104:=()
def tw112762908236986992:=()
def tw9995727982220026233:=()
def tw3799114944244857562:=()
def tw1090849989051340525:=()
def tw11451617685409245815:=()
def tw3839356514368730916:=()
def tw996165416335180994:=()
def tw12563055913011235951:=()
def tw5141456739962106218:=()
def tw4198522964499811118:=()
def tw14549103667091451978:=()
def tw9632680440550547828:=()
def tw475202619871407375:=()
def tw13930179125417873018:=()
def tw17267786131696243959:=()
def tw3878952144583743509:=()
def tw14063519626991802698:=()
def tw15022895549732932842:=()
def tw2779846996137580269:=()
def tw2593553254366697794:=()
def tw16315244898356759109:=()
def tw13769613959510239499:=()
def tw556216466608737955:=()
def tw6025851220986613139:=()
def tw15045000398738998389:=()
def tw17570589844343109009:=()
def tw4825634478921068628:=()
def tw9838986057104473342:=()
def tw5341200100265557436:=()
def tw14585164741507556232:=()
def tw10609577231079039861:=()
def tw10755235455408394616:=()
def tw9526910336978908488:=()
def tw17893992894295781964:=()
def tw1494969920085574462:=()
def tw1794794535698416742:=()
def tw8989810318139481867:=()
def tw7006194399586328450:=()
def tw4975428562433861580:=()
def tw5223725759700507878:=()
def tw6192602545112752319:=()
def tw2203041173590622566:=()
def tw9727520157787532647:=()
def tw6218713425317563087:=()
def tw10134170159860826237:=()
def tw3597396390171978503:=()
def tw16292677177491112102:=()
def tw326181695035714844:=()
def tw6967331904503797632:=()
def tw10397494548310472782:=()
def tw3840860937845131936:=()
def tw83623919072210450:=()
def tw18288650273703575511:=()
def tw17891188801167834071:=()
def tw3150918388745217809:=()
def tw11661499308549583002:=()
def tw12240661726186539708:=()
def tw16726626651020233672:=()
def tw7872503920774332215:=()
def tw4181458014472930327:=()
def tw2530215800646079800:=()
end PySem.W.Fast
set_option maxRecDepth 100000 in
set_option maxHeartbeats 0 in
theorem PySem.Challenge.cw_lilt_k81_whole_metre_within_holds : PySem.Challenge.rw_lilt_k81_whole_metre_within.Holds := by
 w_on;o_law;k_head;(case hw=>w_witness2)
 k_fill
 refine Lake.My.walk (l:=PySem.Challenge.rw_lilt_k81_whole_metre_within) rfl rfl (λw h Y=>W.kIn_of Y) ?F
 case F=>
  intro w mg fa h KX G VU
  refine' Lake.My.all_mk KX G VU ?aC_Walk ?F_0 ?F_1 ?F_2 ?F_3 ?a_4 ?i_4 ?F_4 ?a_5 ?i_5 ?F_5 ?a_6 ?i_6 ?F_6 ?F_7 ?a_8 ?i_8 ?F_8 ?F_9 ?a_10 ?i_10 ?F_10 ?F_11 ?F_12 ?F_13 ?F_14 ?F_15 ?F_16 ?F_17 ?F_18 ?F_19 ?F_20 ?a_21 ?i_21 ?F_21 ?F_22 ?F_23 ?F_24 ?F_25 ?F_26 ?F_27 ?F_28 ?F_29 ?F_30 ?pg_Walk ?hd_Walk ?po_Walk ?sa_Walk ?mk_Walk ?kc_Walk ?nf_Walk_ahead ?nf_Walk_end ?nf_Walk_most ?nf_Walk_numbers ?nf_Walk_onward ?nf_Walk_places ?sT ?tf ?sg ?si ?gV ?sj ?tj ?rh ?sx ?tm ?rS ?sA ?r9 ?tq ?tw ?tz ?tF ?tJ ?sD ?vT ?sF ?sK ?sL
  (case aC_Walk | a_4 | i_4 | a_5 | i_5 | a_6 | i_6 | a_8 | i_8 | a_10 | i_10 | a_21 | i_21 | pg_Walk | hd_Walk | po_Walk | sa_Walk | mk_Walk | kc_Walk | nf_Walk_ahead | nf_Walk_end | nf_Walk_most | nf_Walk_numbers | nf_Walk_onward | nf_Walk_places | sT | tf | sg | si | gV | sj | tj | rh | sx | tm | rS | sA | r9 | tq | tw | tz | tF | tJ | sD | vT=>k_is)
  (case F_4 | F_5 | F_6 | F_8 | F_10 | F_21=>refine' Lake.L2.MV ?l ?c ?k;(case l=>k_is);(case c=>k_is);(case k=>k_is))
  (case F_0 | F_1 | F_2 | F_3 | F_7 | F_9 | F_11 | F_12 | F_13 | F_14 | F_15 | F_16 | F_17 | F_18 | F_19 | F_20 | F_22 | F_23 | F_24 | F_25 | F_26 | F_27 | F_28 | F_29 | F_30=>refine' ⟨?a,Lake.L2.MV ?l ?c ?k⟩;(case a=>k_is);(case l=>k_is);(case c=>k_is);(case k=>k_is))
  (case sF=>intro t k hm;simp only[Lake.My.DI,be,cm,gx,qk] at hm;rcases hm with ⟨rfl,rfl⟩ <;> first | rfl | k_is)
  (case sK=>intro t k hm;simp only[Lake.My.DJ,be,cm,gx,qk] at hm;rcases hm with ⟨rfl,rfl⟩ <;> first | rfl | k_is)
  (case sL=>intro t k hm;simp only[Lake.My.CY,be,cm,gx,qk] at hm;rcases hm with ⟨rfl,rfl⟩ <;> first | rfl | k_is)
