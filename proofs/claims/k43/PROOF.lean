import PyProof.Rows.All
import Wide.All
import OpenK.AllK
import Wide.FinOn
import Lean
import PyProof.EqAt
import PyProof.EqKinds
import PyProof.TupleCall
import PyProof.ZipIter
import PyProof.ListStr
import KE.KRevIter
import PyProof.Rows.Range3
import PyProof.DictWalks
import PyProof.Rows.TupDisplay
import PyProof.DictItems
import KE.KPairComp
import KE.KIntText
import PyProof.WalkInts
import KE.RegKTryMore
import PySem.Challenge.RW_lilt_k43_whole_readings_by_numbers
set_option Elab.async false
set_option linter.all false
set_option maxRecDepth 100000
set_option maxHeartbeats 4000000
abbrev dn:=List (List (List Nat))
abbrev fN:=PySem.Value->PySem.Shared->Prop
abbrev gV:=List (PySem.Addr×PySem.Obj)
abbrev qf:=List Nat
abbrev qh:=List PySem.Value
abbrev qk:=List PySem.Stmt
abbrev qo:=List PySem.Expr
abbrev qr:=List PySem.Str
abbrev qv:=List Int
abbrev qA:=List PySem.Addr
abbrev qB:=Array PySem.Value
abbrev ac:=@PySem.wpAny_bind
abbrev ae:=@PySem.Heap.get?_push_of_some
abbrev af:=@List.length_map
abbrev ag:=@List.mem_cons_of_mem
abbrev ai:=@List.mem_cons_self
abbrev al:=@PySem.wpAny_pure
abbrev am:=@PySem.Heap.get?_push_size
abbrev ap:=@List.getElem?_eq_some_iff
abbrev ar:=@List.getElem?_eq_getElem
abbrev av:=@List.map_cons
abbrev aw:=@List.mem_cons
abbrev ax:=@List.mem_of_getElem?
abbrev ay:=@PySem.Heap.lt_size
abbrev aE:=@List.getElem?_map
abbrev aI:=@List.mem_singleton
abbrev aS:=@Nat.le_refl
abbrev aT:=@List.size_toArray
abbrev a7:=@List.getElem?_set_ne
abbrev a8:=@List.length_append
abbrev a9:=@if_neg
abbrev ba:=@PySem.PassesOwn.never
abbrev bb:=@List.length_cons
abbrev be:=@Bool.false_ne_true
abbrev bg:=@Option.some.inj
abbrev bi:=@List.getD_eq_getElem?_getD
abbrev bo:=@List.getElem?_eq_none
abbrev bp:=@if_pos
abbrev bq:=@decide_eq_false
abbrev br:=@List.not_mem_nil
abbrev bt:=@PyProof.Rows.callWith_type1
abbrev bv:=@Nat.lt_of_lt_of_le
abbrev bE:=@List.append_nil
abbrev bP:=@Bool.and_eq_true
abbrev bS:=@Option.bind_some
abbrev bX:=@PySem.wpAny_callSpecial?_slot
abbrev b0:=@List.mem_append
abbrev b6:=@List.mem_range
abbrev b9:=@PySem.wpAny_call_entry
abbrev ca:=@decide_eq_true
abbrev cb:=@Nat.ne_of_lt
abbrev ce:=@congrArg
abbrev cf:=@PySem.Heap.SameBut.update
abbrev ci:=@List.map_congr_left
abbrev ck:=@Array.getElem?_eq_getElem
abbrev cm:=@List.nodup_cons
abbrev cn:=@PySem.wpAny_loadPart'
abbrev cp:=@PySem.wpAny_field
abbrev cq:=@PySem.Heap.size_push
abbrev cr:=@List.getElem?_set_self
abbrev cv:=@List.lookup_cons
abbrev cw:=@PySem.Heap.get?_update_self
abbrev cy:=@List.all_eq_true
abbrev cE:=@List.zipIdx_map_fst
abbrev cK:=@Nat.zero_le
abbrev cS:=@List.map_append
abbrev c5:=@PySem.wpAny_newObj_type
abbrev c6:=@PySem.wpAny_setField_rec
abbrev c8:=@List.mem_append_right
abbrev c9:=@List.map_nil
abbrev db:=@List.mem_map
abbrev dc:=@Nat.lt_or_ge
abbrev de:=@PySem.Heap.get?_update_other
abbrev df:=@List.map_map
abbrev dv:=@Nat.lt_irrefl
abbrev dy:=@List.length_singleton
abbrev dA:=@List.replicate_succ
abbrev dL:=@List.length_set
abbrev dQ:=@List.length_take
abbrev dS:=@List.append_assoc
abbrev d6:=@PySem.F.slot_dict_itemiterator_next
abbrev ed:=@List.drop_eq_getElem_cons
abbrev ef:=@PySem.wpAny_mono
abbrev eg:=@Option.map_eq_some_iff
abbrev ei:=@PySem.F.slot_zip_next
abbrev el:=@PySem.W.kia_one
abbrev em:=@List.find?_cons
abbrev eA:=@List.sum_cons
abbrev eB:=@PySem.builtinLookup_eq_fast
abbrev eC:=@or_false
abbrev eD:=@PySem.wpAny_pyIter_list
abbrev eI:=@PySem.wpAny_seqItems
abbrev eJ:=@PySem.wpAny_pyIter_tuple
abbrev eK:=@List.getElem?_append_right
abbrev eM:=@List.zip_cons_cons
abbrev eP:=@PySem.wpAny_holding
abbrev eR:=@PySem.wpAny_attempt
abbrev eT:=@List.of_mem_zip
abbrev fb:=@List.any_cons
abbrev fe:=@List.take_of_length_le
abbrev ff:=@Array.length_toList
abbrev fg:=@PySem.F.slot_dict_keyiterator_next
abbrev fi:=@PySem.Obj.data_mapFields
abbrev fk:=@PySem.Calls.spliced_cons
abbrev fm:=@Or.inr
abbrev fq:=@List.length_drop
abbrev ft:=@Int.toNat_natCast
abbrev fw:=@PySem.wpAny_truthy_bool
abbrev fz:=@List.flatten_cons
abbrev fA:=@PySem.W.mg_none_of
abbrev fE:=@List.getElem?_range
abbrev fF:=@Ne.symm
abbrev fI:=@Bool.false_eq_true
abbrev fR:=@PySem.wpAny_isInstance
abbrev fS:=@PySem.wpAny_Call_Name_kw
abbrev fT:=@PySem.wpAny_typeNameOfWhole_itemiter
abbrev f7:=@Nat.le_trans
abbrev f8:=@PySem.wpAny_typeNameOfWhole_keyiter
abbrev gc:=@List.mem_append_left
abbrev gd:=@PySem.F.plainAttrs_list
abbrev gg:=@List.flatMap_cons
abbrev gi:=@PySem.typeLookup_type
abbrev gl:=@PySem.wpAny_specialOf
abbrev gp:=@List.mem_filter
abbrev gt:=@List.mem_zipIdx_iff_getElem?
abbrev gu:=@if_false
abbrev gv:=@Array.getElem?_eq_none
abbrev gx:=@if_true
abbrev gy:=@PyProof.Rows.boot_list
abbrev gE:=@PySem.Paired.length
abbrev gI:=@List.getElem_mem
abbrev gL:=@PySem.wpAny_setField
abbrev gS:=@True.intro
abbrev gX:=@PySem.tupleKind_room_in1
abbrev g6:=@Or.inl
abbrev g9:=@PySem.F.slot_tuple_iterator_next
abbrev hJ:=@PySem.F.slot_dict_get
abbrev hU:=@List.getElem?_append_left
abbrev hV:=@PySem.wpAny_typeNameOf_itemiter
abbrev ia:=@PySem.size_of_entries
abbrev ib:=@PySem.wpAny_passesOwn
abbrev ic:=@Bool.eq_iff_iff
abbrev ii:=@PySem.wpAny_dictEntries
abbrev ij:=@PySem.wpAny_of_eq
abbrev im:=@PySem.F.args_zip_next_1
abbrev io:=@PySem.Calls.spliced_nil
abbrev ip:=@List.length_range
abbrev iq:=@Nat.zero_add
abbrev ix:=@PySem.wpAny_typeNameOf_keyiter
abbrev iA:=@List.all_cons
abbrev iE:=@PySem.F.plain_extend_loop
abbrev iF:=@List.filterMap_cons
abbrev iL:=@List.length_reverse
abbrev iN:=@List.length_pos_iff
abbrev iO:=@PySem.F.entry_zip_next
abbrev iP:=@List.drop_zero
abbrev iS:=@List.mem_flatMap
abbrev iX:=@Int.mul_le_mul_of_nonneg_left
abbrev i0:=@Nat.ne_of_gt
abbrev i6:=@List.all_map
abbrev i7:=@PySem.wpAny_dictEpoch
abbrev i8:=@List.forIn_cons
abbrev i9:=@List.length_zip
abbrev ja:=@PySem.Obj.isFreed_of_fields
abbrev jp:=@List.nodup_append
abbrev jv:=@PySem.wpAny_pyIter_slot
abbrev jI:=@Nat.lt_succ_of_lt
abbrev jS:=@List.ext_getElem?
abbrev j3:=@decide_eq_true_eq
abbrev ke:=@PySem.isSubtype_stop
abbrev kf:=@PySem.Around.under_plainId
abbrev kg:=@PySem.Calls.evalArgs_plain
abbrev ki:=@PySem.isSubtype_type
abbrev kl:=@List.nodup_iff_pairwise_ne
abbrev kn:=@Int.le_refl
abbrev ko:=@List.fst_mem_of_mem_zipIdx
abbrev kq:=@List.take_length
abbrev kr:=@Nat.le_add_right
abbrev ku:=@List.drop_length
abbrev kw:=@beq_eq_false_iff_ne
abbrev kx:=@List.take_succ_cons
abbrev kz:=@PySem.F.slot_list_append
abbrev kA:=@PySem.F.type_list_append
abbrev kB:=@List.map_take
abbrev kC:=@PySem.wpAny_updateSeq
abbrev kD:=@PySem.wpAny_execs_nil
abbrev kF:=@List.nil_append
abbrev kG:=@PySem.F.args_dict_get_3
abbrev kH:=@List.getElem?_cons_succ
abbrev kK:=@List.forIn_nil
abbrev kL:=@Array.getElem?_push_lt
abbrev kM:=@of_decide_eq_true
abbrev kN:=@Nat.le_of_lt
abbrev kQ:=@Option.isSome_map
abbrev kR:=@PySem.F.entry_dict_get
abbrev kT:=@PySem.Calls.callWith_builtin
abbrev kU:=@List.reverse_cons
abbrev kX:=@PySem.wpAny_isOneOf_itemiter
abbrev k6:=@List.tail_drop
abbrev k7:=@List.getElem?_set
abbrev k8:=@List.take_add_one
abbrev k9:=@PySem.F.args_dict_itemiterator_next_1
abbrev lb:=@PySem.wpAny_notOrdered_dict
abbrev lc:=@List.mem_iff_getElem?
abbrev lf:=@List.getElem?_zipWith
abbrev lh:=@Array.getElem?_toList
abbrev li:=@PySem.wpAny_rule
abbrev lj:=@PySem.F.args_dict_keyiterator_next_1
abbrev ll:=@PySem.wpAny_execs_cons
abbrev lm:=@Nat.min_le_right
abbrev ls:=@PySem.F.entry_dict_itemiterator_next
abbrev lx:=@PySem.plainId_quiet
abbrev ly:=@Bool.true_and
abbrev lI:=@PySem.F.entry_dict_keyiterator_next
abbrev lP:=@PySem.wpAny_letGo
abbrev lS:=@PySem.Heap.get?_none_of_le
abbrev lT:=@List.eq_nil_of_length_eq_zero
abbrev l0:=@PySem.wpAny_pyIter_revIter
abbrev l4:=@PySem.wpAny_updateSeq_pair
abbrev l5:=@PySem.F.slot_dict_itemiterator_iter
abbrev l6:=@List.mem_of_mem_take
abbrev l7:=@List.getElem?_zipIdx
abbrev l8:=@PySem.codeAny_builtin
abbrev md:=@List.length_nil
abbrev mf:=@PySem.F.args_tuple_iterator_next_1
abbrev mh:=@Int.emod_nonneg
abbrev ml:=@Option.map_some
abbrev mn:=@List.sum_append
abbrev mv:=@PySem.codeAny_mono
abbrev mx:=@PySem.F.entry_tuple_iterator_next
abbrev mB:=@PySem.wpAny_fieldsOf
abbrev mE:=@PySem.SeqAt.EqAt.int_str
abbrev mI:=@PySem.SeqAt.EqAt.str_int
abbrev mM:=@PySem.W.of_hideAll
abbrev mS:=@PySem.Calls.Name_function_global
abbrev mT:=@Bool.false_and
abbrev nb:=@List.mem_filterMap
abbrev nc:=@PySem.SeqAt.EqAt.int_int
abbrev ng:=@Nat.lt_of_le_of_lt
abbrev nh:=@List.getElem?_drop
abbrev nr:=@Int.emod_lt_of_pos
abbrev nv:=@PySem.wpAny_letOwnedTupleGo_zip
abbrev ny:=@List.getElem?_zip_eq_some
abbrev nz:=@List.getLast?_eq_getElem?
abbrev nB:=@PySem.Obj.cls_mapFields
abbrev nE:=@PySem.wpAny_Call_method
abbrev nI:=@PySem.wpAny_handled
abbrev nK:=@not_or
abbrev nN:=@PySem.wpAny_comprehension_free
abbrev nS:=@PySem.wpAny_onRaise
abbrev nV:=@Prod.mk.injEq
abbrev nX:=@PySem.wpAny_pyIter_zip
abbrev oa:=@Nat.lt_succ_self
abbrev og:=@List.getElem?_replicate
abbrev oi:=@PySem.meetsH_dict_get_default
abbrev oj:=@PySem.F.plainAttrs_dict
abbrev ol:=@List.zipIdx_cons
abbrev om:=@PySem.Heap.IsList.push
abbrev on:=@PyProof.Rows.boot_tuple
abbrev oo:=@List.map_reverse
abbrev oq:=@PySem.W.cellsFrom_some
abbrev ot:=@PySem.call_meets
abbrev ow:=@beq_iff_eq
abbrev ox:=@PySem.callType_new
abbrev oy:=@List.find?_cons_of_neg
abbrev oz:=@List.set_set
abbrev oB:=@Int.pow_succ
abbrev oC:=@Nat.min_eq_left
abbrev oD:=@List.length_replicate
abbrev oI:=@PySem.F.type_dict_get
abbrev oP:=@List.getElem?_reverse
abbrev oQ:=@PyProof.Rows.boot_zip
abbrev o0:=@PyProof.Rows.boot_int
abbrev pb:=@List.eq_replicate_iff
abbrev pc:=@List.length_filter_le
abbrev pd:=@PySem.wpAny_throw
abbrev pf:=@PySem.wpAny_newTuple
abbrev pi:=@Bool.and_assoc
abbrev pj:=@List.drop_eq_nil_iff
abbrev pp:=@PySem.W.hideAll_get
abbrev pr:=@List.length_zipWith
abbrev pw:=@List.mem_map_of_mem
abbrev pz:=@Function.comp_apply
abbrev pE:=@PySem.Value.ref.inj
abbrev pS:=@PySem.wpAny_standAt
abbrev pT:=@List.map_drop
abbrev pV:=@Nat.not_lt
abbrev p0:=@Nat.succ.inj
abbrev p5:=@Nat.add_zero
abbrev p9:=@Int.le_trans
noncomputable section
namespace L2
open PySem PySem.Spec PyProof.Rows
section
variable {prog:Program}{w:World}{κ:Type}[DecidableEq κ]{kd:HeapKind prog w κ}{A:Around}{E:fN}{s:Shared}{d a it:Addr}{xs:List (κ×Addr×Value)}{k:κ}{v:Value}
def DictE (kd:HeapKind prog w κ)(h:Heap)(d:Addr)(xs:List (κ×Addr×Value)):Prop:=
 ∃o es,h.get? d=some o/\o.ExactDict/\o.data=.dict es xs.length/\es.toList=xs.map (entryOfKey kd)/\(∀x∈xs,kd.is h x.1 x.2.1)/\(xs.map (·.1)).Nodup
theorem DictE.of {h:Heap}(m:DictE kd h d xs):h.DictOfH kd d xs:=let ⟨o,es,q⟩:=m;⟨o,es,_,q⟩
theorem yj {Q:Unit->Shared->Prop}(hu:kd.room A)(hk:kd.is s.heap k a)(m:DictE kd s.heap d xs)(hz:xs.length<=sizeLine)
  (q:∀h',DictE kd h' d (storedH xs k a v)->Heap.SameBut d s.heap h'->Q () { s with heap:=h',toks:=s.toks+kd.draws k }):wpAny (model prog w) A (dictSet d (.ref a) v) Q E s:=by
 obtain⟨o,es,o1,o2,o3,o4,o5,o6⟩:=m
 unfold dictSet
 try with_reducible refine eP ?_
 refine ac (kd.pyHash hu hk ?_)
 unfold dictSetHashed
 try with_reducible refine eP ?_
 refine ac (wpAny_dictFind_heap (s:={ s with toks:=s.toks+kd.draws k }) hu hk o1 o3 o4 o5 o6 (λno=>?_) λj p hj=>?_)
 ·have nk:k∉xs.map (·.1):=not_mem_keys_of_get no
  have e:=storedH_new (atKey_none_of_get no) a v
  rw[e] at q
  refine ac (li (wpAny_updateDictKeys (hz:=by have:=ia o4;omega) (s:={ s with toks:=s.toks+kd.draws k }) o1 o3 (q _ ⟨_,_,cw _ o1 (Obj.isFreed_of_dict (Obj.data_mapDictKeys o3 _)),o2.mapDictKeys _,by rw[a8];exact Obj.data_mapDictKeys o3 _,?_,λx hx=>?_,?_⟩ (cf ..))))
  ·simp[o4,entryOfKey]
  ·rcases b0.mp hx with z | z
   ·exact kd.keeps (o5 x z) o1 o3 (cf ..)
   ·rw[aI.mp z];exact kd.keeps hk o1 o3 (cf ..)
  ·rw[cS]
   exact jp.mpr ⟨o6,by simp,λx hx y hy z=>nk (by rw[av,c9,aI] at hy;have hy:y=k:=hy;subst hy z;exact hx)⟩
 ·have e:=storedH_old (atKey_of_get o6 hj) a v
  rw[e] at q
  refine ac (li (ac (wpAny_updateDict (s:={ s with toks:=s.toks+kd.draws k }) o1 o3 (wpAny_point (q _ ⟨_,_,cw _ o1 (Obj.isFreed_of_dict (Obj.data_mapDict o3 _)),o2.mapDict _,by rw[af];exact Obj.data_mapDict o3 _,?_,λx hx=>?_,?_⟩ (cf ..))))))
  ·have y:=modify_map_putAt (entryOfKey kd) (λe:DictEntry=>{ e with val:=v }) k v (λ_ _=>rfl) o6 hj
   rw[← o4] at y
   cases es
   simpa using y
  ·obtain⟨y,hy,rfl⟩:=db.mp hx
   unfold putAt
   split <;> exact kd.keeps (o5 y hy) o1 o3 (cf ..)
  ·rw[keys_map_putAt];exact o6
theorem Hz {Q:Unit->Shared->Prop}(hu:kd.room A.in1)(hk:kd.is s.heap k a)(m:DictE kd s.heap d xs)(hz:xs.length<=sizeLine)
  (q:∀h',DictE kd h' d (storedH xs k a v)->Heap.SameBut d s.heap h'->Q () { s with heap:=h',toks:=s.toks+kd.draws k }):wpAny (model prog w) A (setItem (.ref d) (.ref a) v) Q E s:=by
 have ty:=m.of.typeIs
 unfold setItem
 try with_reducible refine eP ?_
 refine ac (wpAny_sequenceKey ty (by decide) (ac (bX (name:=Str.ofString "__setitem__") ty slot_dict_setitem (b9 slot_dict_setitem ty entry_dict_setitem ?_ (args_dict_setitem _ _ _)))))
 show wpAny _ _ (Builtin.Dict.notOrdered "__setitem__" ⟨[.ref d,.ref a,v],[]⟩ >>= _) _ _ s
 refine ac (lb ty ?_)
 show wpAny _ _ (dictSet d (.ref a) v >>= λ_=>_) _ _ s
 exact ac (yj hu hk m hz λh' m' hs'=>al ⟨.none,rfl,al (q h' m' hs')⟩)
theorem Sh {Q:fN}(hd:(d == sysModules)=false)(m:DictE kd s.heap d xs)
  (q:∀h',h'=s.heap.push { cls:=.type "dict_keyiterator",data:=.fields #[.ref d,.int 0 0,.int xs.length 0,.int xs.length 0] }->Q (.ref s.heap.objs.size) { s with heap:=h' }):wpAny (model prog w) A (pyIter (.ref d)) Q E s:=by
 obtain⟨o,es,o1,o2,o3,o4,o5,o6⟩:=id m
 have ty:=m.of.typeIs
 have sz:=ia o4
 refine jv ty F.slot_dict_iter (b9 F.slot_dict_iter ty F.entry_dict_iter ?_ (F.args_dict_iter_1 _))
 unfold Builtin.«dict.__iter__» Builtin.Dict.dictSlotNone
 refine ac (ac (lb ty ?_))
 show wpAny _ _ (pure (Value.ref d)) (λ_ _=>_) _ s
 refine al ?_
 show wpAny _ _ (Builtin.Dict.showsAll d >>= λ_=>_) _ _ s
 unfold Builtin.Dict.showsAll
 rw[a9 (by rw[hd];decide)]
 refine ac (al (ac (ii o1 o3 (ac (i7 o1 o3 (ac (c5 (al ⟨_,rfl, "dict_keyiterator",_,⟨_,am _ rfl,rfl⟩,fg.lookup,?_⟩))))))))
 simpa [rawInt,sz] using q _ rfl
theorem Sq {i:Nat}{b:Addr}{Q:Option Value->Shared->Prop}(hi:s.heap.IsKeyIter it d i xs.length xs.length)(m:DictE kd s.heap d xs)(hx:xs[i]?=some (k,b,v))
  (q:∀h',h'.IsKeyIter it d (i+1) xs.length xs.length->Heap.SameBut it s.heap h'->Q (some (.ref b)) { s with heap:=h' }):wpAny (model prog w) A (pyNext (.ref it)) Q E s:=by
 obtain⟨p,p1,p2,p3⟩:=id hi
 obtain⟨o,es,o1,o2,o3,o4,o5,o6⟩:=id m
 have ty:=hi.typeIs
 have sz:=ia o4
 unfold pyNext
 refine ac (eR (bX (name:=Str.ofString "__next__") ty fg (b9 fg ty lI ?_ (lj _))))
 refine ac (al (ac (ac ?_)))
 first | refine ac (f8 ty (al ?_)) | refine ac (ix ty (al ?_))
 refine ac (mB p1 p3 ?_)
 have own:Builtin.Dict_items.ownsTuple "dict_keyiterator" = false:=by decide
 simp only[own,fI,gu]
 show wpAny _ _ (if (Value.ref d == Value.none)=true then _ else _) (λ_ _=>_) _ s
 rw[a9 (by intro z;cases z)]
 refine ac (al (ac (ii o1 o3 ?_)))
 rw[a9 (by rw[sz];simp)]
 refine ac (al (ac (i7 o1 o3 ?_)))
 rw[a9 (by simp)]
 refine al ?_
 have lt:i < es.size:=by rw[sz];exact(ap.mp hx).1
 have ek:es[i].key=.ref b:=by
  have z:=entry_at o4 i
  rw[hx,ck lt] at z
  rw[bg z];rfl
 simp only[show ¬ ((i:Int) < 0) by omega,gu,ft,ck lt]
 refine ac ?_
 first | refine ac (f8 ty (al ?_)) | refine ac (ix ty (al ?_))
 refine ac (wpAny_isOneOf_keyiter ty ?_)
 show wpAny _ _ (setField (.ref it) 1 (rawInt ((i:Int)+1)) >>= λ_=>_) _ _ s
 refine ac (gL p1 p3 (by simp) ?_)
 have hi':(s.heap.update it (Obj.mapFields (·.setIfInBounds 1 (rawInt ((i:Int)+1))))).IsKeyIter it d (i+1) xs.length xs.length:=
  ⟨_,cw _ p1 (ja (fi p3 _)),(nB ..).trans p2,by rw[fi p3];simp[rawInt]⟩
 refine ac (eP (ac (wpAny_isOneOf_keyiter (s:={ s with heap:=s.heap.update it (Obj.mapFields (·.setIfInBounds 1 (rawInt ((i:Int)+1)))) }) hi'.typeIs ?_)))
 show wpAny _ _ (pure es[i].key) (λ_ _=>_) _ _
 rw[ek]
 exact al (al ⟨_,rfl,al (q _ hi' (cf ..))⟩)
theorem Uk {i:Nat}{Q:Option Value->Shared->Prop}(hh:A.handled=none)(hi:s.heap.IsKeyIter it d i xs.length xs.length)(m:DictE kd s.heap d xs)(hx:xs.length<=i)
  (q:∀h',Heap.ExtBut it s.heap h'->Q none { s with heap:=h' }):wpAny (model prog w) A (pyNext (.ref it)) Q E s:=by
 obtain⟨p,p1,p2,p3⟩:=id hi
 obtain⟨o,es,o1,o2,o3,o4,o5,o6⟩:=id m
 have ty:=hi.typeIs
 have sz:=ia o4
 unfold pyNext
 refine ac (eR (bX (name:=Str.ofString "__next__") ty fg (b9 fg ty lI ?_ (lj _))))
 refine ac (al (ac (ac ?_)))
 first | refine ac (f8 ty (al ?_)) | refine ac (ix ty (al ?_))
 refine ac (mB p1 p3 ?_)
 have own:Builtin.Dict_items.ownsTuple "dict_keyiterator" = false:=by decide
 simp only[own,fI,gu]
 show wpAny _ _ (if (Value.ref d == Value.none)=true then _ else _) (λ_ _=>_) _ s
 rw[a9 (by intro z;cases z)]
 refine ac (al (ac (ii o1 o3 ?_)))
 rw[a9 (by rw[sz];simp)]
 refine ac (al (ac (i7 o1 o3 ?_)))
 rw[a9 (by simp)]
 refine al ?_
 simp only[show ¬ ((i:Int) < 0) by omega,gu,ft,gv (show es.size<=i by omega)]
 refine ac ?_
 first | refine ac (f8 ty (al ?_)) | refine ac (ix ty (al ?_))
 show wpAny _ _ (setField (.ref it) 0 .none >>= λ_=>_) _ _ s
 refine ac (gL p1 p3 (by simp) ?_)
 show wpAny _ _ (newExc (.type "StopIteration") [] >>= λ_=>_) _ _ _
 refine ac ?_
 simp only[newExc,newTuple]
 refine ac (c5 (ac (m:=firstArgMember _ _) (ij (a:=Value.none) (by first | rfl | (simp only[firstArgMember];rfl)) (c5 ?_ (by size_fits)))) (by size_fits))
 simp only[raiseNew]
 refine ac (nI ?_)
 rw[show A.in1.handled=none by exact hh]
 refine ac (al (pd ?_))
 refine ac (fR (b:=true) (T := "StopIteration") ⟨_,am _ rfl,rfl⟩ ke ?_)
 exact al (q _ (((cf ..).extBut.push _).push _))
end
abbrev t_ (h:Heap)(z TI TO T:Addr)(f:Bool):Prop:=h.get? z=some { cls:=.type "zip",dict:=none,data:=.fields #[rawInt T,.bool f,.bool false,.ref TI,.ref TO],slots:=#[] }
section
variable {prog:Program}{w:World}{A:Around}{E:fN}{s:Shared}{z TI TO T i1 i2 l1 l2:Addr}{k:Nat}{xs ys:qB}{x y:Value}{f:Bool}{oT:Obj}
theorem Bj {Q:Bool->Shared->Prop}(hz:t_ s.heap z TI TO T f)(hT:s.heap.get? T=some oT)(q:∀h',t_ h' z TI TO T true->Heap.SameBut z s.heap h'->Q false { s with heap:=h' }):wpAny (model prog w) A (Builtin.SmallTypes.ownedTupleIsFree (.ref z)) Q E s:=by
 unfold Builtin.SmallTypes.ownedTupleIsFree
 refine ac (cp hz rfl (x:=rawInt T) rfl ?_)
 have hl:∀{R:Option Obj->Shared->Prop},R (some oT) s->wpAny (model prog w) A (loadIfAlive T) R E s:=λ{R} hr Γ p _=>by
  show Sem.wp _ _ (.loadIfAlive T _) _ _ p s
  rw[Sem.wp_loadIfAlive,hT]
  exact hr
 refine ac (hl ?_)
 have hf:(Option.isNone (some oT))=false:=rfl
 simp only[hf,fI,gu]
 refine ac (cp hz rfl (x:=.bool f) rfl ?_)
 cases f with
 | true=>
  rw[a9 (by decide)]
  exact al (q s.heap hz ⟨rfl,λ_ _=>rfl⟩)
 | false=>
  rw[bp (by decide)]
  exact ac (c6 hz (by simp) λh1 hz1 s1=>al (q h1 hz1 s1))
theorem Kv {Q:Option Value->Shared->Prop}(D:ZipApart z TI TO i1 i2 l1 l2)(hz:t_ s.heap z TI TO T f)(hT:s.heap.get? T=some oT)(hTI:IsPair s.heap TI (.ref i1) (.ref i2))
  (h1:s.heap.IsListIter i1 l1 k) (h2:s.heap.IsListIter i2 l2 k) (hl1:s.heap.IsList l1 xs) (hl2:s.heap.IsList l2 ys) (hx:xs[k]?=some x) (hy:ys[k]?=some y)
  (q:∀h',t_ h' z TI TO T true->h'.IsListIter i1 l1 (k+1)->h'.IsListIter i2 l2 (k+1)->IsPair h' s.heap.objs.size x y->
   (∀c o,c≠z->c≠i1->c≠i2->s.heap.get? c=some o->h'.get? c=some o)->h'.objs.size=s.heap.objs.size+1->Q (some (.ref s.heap.objs.size)) { s with heap:=h' }):wpAny (model prog w) A (pyNext (.ref z)) Q E s:=by
 have ty:s.TypeIs (.ref z) "zip" := ⟨_,hz,rfl⟩
 unfold pyNext
 refine ac (eR (bX (name:=Str.ofString "__next__") ty ei (b9 ei ty iO ?_ (im _))))
 show wpAny _ _ (field (.ref z) 2 >>= λ_=>_) _ _ _
 refine ac (cp hz rfl (x:=.bool false) rfl ?_)
 show wpAny _ _ (field (.ref z) 3 >>= λ_=>_) _ _ _
 refine ac (cp hz rfl (x:=.ref TI) rfl (ac (eI hTI rfl ?_)))
 show wpAny _ _ (Builtin.SmallTypes.ownedTupleIsFree (.ref z) >>= λ_=>_) _ _ _
 refine ac (Bj hz hT λg1 z1 u1=>?_)
 simp only[fI,gu]
 have e1:g1.IsListIter i1 l1 k:=h1.extBut u1.extBut D.i1z
 have e2:g1.IsListIter i2 l2 k:=h2.extBut u1.extBut D.i2z
 have e3:g1.IsList l1 xs:=hl1.extBut u1.extBut D.l1z
 have e4:g1.IsList l2 ys:=hl2.extBut u1.extBut D.l2z
 refine ac ?_
 rw[← Array.forIn_toList];simp only[i8,kK]
 refine ac (ac (eP ?_))
 show wpAny _ _ (Builtin.SmallTypes.nextOf (.ref i1) >>= λ_=>_) _ _ _
 refine ac (wpAny_nextOf_list_item (s:={ s with heap:=g1 }) e1 e3 hx λg2 z2 u2=>al (al ?_))
 refine ac (ac (eP ?_))
 show wpAny _ _ (Builtin.SmallTypes.nextOf (.ref i2) >>= λ_=>_) _ _ _
 refine ac (wpAny_nextOf_list_item (s:={ s with heap:=g2 }) (e2.extBut u2.extBut D.i12.symm) (e4.extBut u2.extBut D.l2i1) hy λg3 z3 u3=>al (al (al ?_)))
 have sz:g3.objs.size=s.heap.objs.size:=by rw[u3.1,u2.1,u1.1]
 refine ac (pf (hsz:=by show (2:Nat)<=sizeLine;decide) ?_)
 have up:∀c o,c≠z->c≠i1->c≠i2->s.heap.get? c=some o->(g3.push { cls:=.type "tuple",data:=.seq #[x,y] }).get? c=some o:=λc o c1 c2 c3 e=>ae _ (u3.extBut _ _ c3 (u2.extBut _ _ c2 (u1.extBut _ _ c1 e)))
 refine al ⟨_,rfl,al ?_⟩
 show Q (some (.ref g3.objs.size)) _
 rw[sz]
 refine q _ (ae _ (u3.extBut _ _ D.i2z.symm (u2.extBut _ _ D.i1z.symm z1))) ((z2.extBut u3.extBut D.i12).at λo e=>ae _ e) (z3.at λo e=>ae _ e) (by rw[← sz];exact am _ rfl) up (by rw[cq,sz])
theorem Oc {Q:Option Value->Shared->Prop}(hh:A.handled=none)(D:ZipApart z TI TO i1 i2 l1 l2)(hz:t_ s.heap z TI TO T f)(hT:s.heap.get? T=some oT)(hTI:IsPair s.heap TI (.ref i1) (.ref i2))
  (h1:s.heap.IsListIter i1 l1 k) (hl1:s.heap.IsList l1 xs) (hx:xs[k]?=none)
  (q:∀h',(∀c o,c≠z->c≠i1->c≠i2->s.heap.get? c=some o->h'.get? c=some o)->Q none { s with heap:=h' }):wpAny (model prog w) A (pyNext (.ref z)) Q E s:=by
 have ty:s.TypeIs (.ref z) "zip" := ⟨_,hz,rfl⟩
 unfold pyNext
 refine ac (eR (bX (name:=Str.ofString "__next__") ty ei (b9 ei ty iO ?_ (im _))))
 show wpAny _ _ (field (.ref z) 2 >>= λ_=>_) _ _ _
 refine ac (cp hz rfl (x:=.bool false) rfl ?_)
 show wpAny _ _ (field (.ref z) 3 >>= λ_=>_) _ _ _
 refine ac (cp hz rfl (x:=.ref TI) rfl (ac (eI hTI rfl ?_)))
 show wpAny _ _ (Builtin.SmallTypes.ownedTupleIsFree (.ref z) >>= λ_=>_) _ _ _
 refine ac (Bj hz hT λg1 z1 u1=>?_)
 simp only[fI,gu]
 refine ac ?_
 rw[← Array.forIn_toList];simp only[i8,kK]
 refine ac (ac (eP ?_))
 show wpAny _ _ (Builtin.SmallTypes.nextOf (.ref i1) >>= λ_=>_) _ _ _
 refine ac (wpAny_nextOf_list_end (s:={ s with heap:=g1 }) hh (h1.extBut u1.extBut D.i1z) (hl1.extBut u1.extBut D.l1z) hx λg2 e u2 he=>?_)
 obtain⟨o,ho,hc⟩:=he
 refine ac (fR (b:=true) (T := "StopIteration") ⟨o,ho,hc⟩ ke ?_)
 exact al (q _ λc o c1 c2 c3 e=>u2 _ _ c2 (u1.extBut _ _ c1 e))
def ZIts (h:Heap)(xs ys:qB)(B:Addr)(W:qA)(acc:qB)(n:Nat):Prop:=
 acc.size=n/\∀i,i < n->∃t x y,acc[i]?=some (.ref t)/\xs[i]?=some x/\ys[i]?=some y/\IsPair h t x y/\B<=t/\t∉W/\∀j,j < i->acc[j]?≠some (.ref t)
theorem ZIts.keep {h h':Heap}{B:Addr}{W:qA}{acc:qB}{n:Nat}(q:ZIts h xs ys B W acc n)(k:∀c o,c∉W->h.get? c=some o->h'.get? c=some o):ZIts h' xs ys B W acc n:=
 ⟨q.1,λi hi=>let ⟨t,x,y,a,b,c,d,e,f,g⟩:=q.2 i hi;⟨t,x,y,a,b,c,k _ _ f d,e,f,g⟩⟩
theorem ZIts.push {h:Heap}{B t:Addr}{W:qA}{acc:qB}{n:Nat}{x y:Value}(q:ZIts h xs ys B W acc n)(hx:xs[n]?=some x)(hy:ys[n]?=some y)(ht:IsPair h t x y)(hB:B<=t)(hW:t∉W)(hw:∀j,j < n->acc[j]?≠some (.ref t)):ZIts h xs ys B W (acc.push (.ref t)) (n+1):=by
 obtain⟨q1,q2⟩:=q
 refine⟨by rw[Array.size_push,q1],λi hi=>?_⟩
 rcases dc i n with h1 | h1
 ·obtain⟨t',x',y',a,b,c,d,e,f,g⟩:=q2 i h1
  exact⟨t',x',y',by rw[kL (by omega)];rw[ck (by omega)] at a;exact a,b,c,d,e,f,λj hj=>by rw[kL (by omega),← ck (by omega)];exact g j hj⟩
 ·have e:i=n:=by omega
  subst e
  exact⟨t,x,y,by rw[← q1];exact Array.getElem?_push_size,hx,hy,ht,hB,hW,λj hj=>by rw[kL (by omega),← ck (by omega)];exact hw j hj⟩
theorem Kw {R:Result->Shared->Prop}{N B:Addr}{res:Value}{a b:Value}(hh:A.handled=none)(D:ZipApart z TI TO i1 i2 l1 l2)(hn:xs.size<=sizeLine)(hxy:ys.size=xs.size)(n1:N≠z)(n2:N≠TI)(n3:N≠TO)(n4:N≠i1)(n5:N≠i2)(n6:N≠l1)(n7:N≠l2)
  (lz:z < B) (lTO:TO < B) (li1:i1 < B) (li2:i2 < B) (lN:N < B):
  ∀(m k:Nat) (s:Shared) (acc:qB) (c:Nat),xs.size - k=m->k<=xs.size->B<=s.heap.objs.size->((k=0/\IsZip s.heap z TI TO .none/\IsPair s.heap TO a b)\/∃T f oT,t_ s.heap z TI TO T f/\s.heap.get? T=some oT/\T∉[z,TO,i1,i2,N])->
  IsPair s.heap TI (.ref i1) (.ref i2)->s.heap.IsListIter i1 l1 k->s.heap.IsListIter i2 l2 k->s.heap.IsList l1 xs->s.heap.IsList l2 ys->
  s.heap.get? N=some { cls:=.type "list",dict:=none,data:=.seq acc c,slots:=#[] }->ZIts s.heap xs ys B [z,TO,i1,i2,N] acc k->
  (∀h' acc' c',(∀c o,c∉[z,TO,i1,i2,N]->s.heap.get? c=some o->h'.get? c=some o)->h'.get? N=some { cls:=.type "list",dict:=none,data:=.seq acc' c',slots:=#[] }->ZIts h' xs ys B [z,TO,i1,i2,N] acc' xs.size->R (.ok (.ret res)) { s with heap:=h' })->
  codeAny (model prog w) A (.builtin "list.extend.loop" ⟨[.ref N,.ref z,res],[]⟩) R s:=by
 have ni:∀{c:Addr},c∉[z,TO,i1,i2,N]->c≠z/\c≠TO/\c≠i1/\c≠i2/\c≠N:=λ{c} h=>by simpa using h
 intro m
 induction m with
 | zero=>
  intro k s acc c hm hk hB hZ hTI h1 h2 hl1 hl2 hN hI q
  have e:k=xs.size:=by omega
  subst e
  have ex:xs[xs.size]?=none:=gv (aS _)
  refine l8 F.entry_extend_loop ?_
  rw[kf iE _]
  show wpAny _ A.in1 (pyNext (.ref z) >>= λ_=>_) _ _ s
  rcases hZ with ⟨_,hz,hTO⟩ | ⟨T,f,oT,hz,hT,_⟩
  ·refine ac (wpAny_pyNext_zip_end hh D hz hTI hTO h1 h2 hl1 hl2 (.inl ex) λh' k'=>al ?_)
   have kk:∀c o,c∉[z,TO,i1,i2,N]->s.heap.get? c=some o->h'.get? c=some o:=λc o hc e=>let ⟨a,b,c,d,_⟩:=ni hc;k' _ _ a b c d e
   exact q h' acc c kk (k' _ _ n1 n3 n4 n5 hN) (hI.keep kk)
  ·refine ac (Oc hh D hz hT hTI h1 hl1 ex λh' k'=>al ?_)
   have kk:∀c o,c∉[z,TO,i1,i2,N]->s.heap.get? c=some o->h'.get? c=some o:=λc o hc e=>let ⟨a,b,c,d,_⟩:=ni hc;k' _ _ a c d e
   exact q h' acc c kk (k' _ _ n1 n4 n5 hN) (hI.keep kk)
 | succ m ih=>
  intro k s acc c hm hk hB hZ hTI h1 h2 hl1 hl2 hN hI q
  have lt:k < xs.size:=by omega
  have ex:xs[k]?=some xs[k]:=ck lt
  have ey:ys[k]?=some (ys[k]'(by omega)):=ck (by omega)
  refine l8 F.entry_extend_loop ?_
  rw[kf iE _]
  show wpAny _ A.in1 (pyNext (.ref z) >>= λ_=>_) _ _ s
  have big:∀c,c < B->s.heap.objs.size≠c:=λc hc e=>absurd (bv hc hB) (by rw[e];exact dv _)
  have nW:s.heap.objs.size∉[z,TO,i1,i2,N]:=by
   simp only[aw,br,eC,nK]
   exact⟨big _ lz,big _ lTO,big _ li1,big _ li2,big _ lN⟩
  have go:∀h',(∀c o,c∉[z,TO,i1,i2,N]->s.heap.get? c=some o->h'.get? c=some o)->h'.get? N=some { cls:=.type "list",dict:=none,data:=.seq acc c,slots:=#[] }->IsPair h' TI (.ref i1) (.ref i2)->h'.IsListIter i1 l1 (k+1)->h'.IsListIter i2 l2 (k+1)->
    h'.IsList l1 xs->h'.IsList l2 ys->IsPair h' s.heap.objs.size xs[k] (ys[k]'(by omega))->h'.objs.size=s.heap.objs.size+1->(∃T f oT,t_ h' z TI TO T f/\h'.get? T=some oT/\T∉[z,TO,i1,i2,N])->
    wpAny (model prog w) A.in1 (updateSeq N (·.push (.ref s.heap.objs.size)) >>= λ_=>pure (Fin.again (.builtin "list.extend.loop" ⟨[.ref N,.ref z,res],[]⟩)))
     (λfin s'=>match fin with | .done f=>R (.ok f) s' | .again c'=>c'.quiet=true/\codeAny (model prog w) A c' R s') (λe s'=>R (.error e) s') { s with heap:=h' }:=by
   intro h' kk hN' hTI' h1' h2' hl1' hl2' hp hsz hZ'
   have up:∀c o,c≠N->h'.get? c=some o->(h'.update N (Obj.mapSeq (·.push (.ref s.heap.objs.size)))).get? c=some o:=λc o hc e=>(de _ _ (fF hc)).trans e
   have usz:(h'.update N (Obj.mapSeq (·.push (.ref s.heap.objs.size)))).objs.size=h'.objs.size:=(cf h' N _).1
   refine ac (kC (s:={ s with heap:=h' }) hN' rfl (al ⟨lx iE _,ih (k+1) { s with heap:=h'.update N (Obj.mapSeq (·.push (.ref s.heap.objs.size))) } (acc.push (.ref s.heap.objs.size)) _ (by omega) lt (by show B<=Array.size _;rw[usz,hsz];exact Nat.le_succ_of_le hB) (.inr ?_) (up _ _ n2.symm hTI') (h1'.at λo e=>up _ o n4.symm e) (h2'.at λo e=>up _ o n5.symm e) (hl1'.at λo e=>up _ o n6.symm e) (hl2'.at λo e=>up _ o n7.symm e) (cw _ hN' rfl) ?_ λh2 acc2 c2 k2 e2 i2=>?_⟩) (by rw[hI.1];omega) (by show (acc.push _).size<=sizeLine+1;rw[Array.size_push,hI.1];omega))
   ·obtain⟨T,f,oT,a1,a2,a3⟩:=hZ'
    exact⟨T,f,oT,up _ _ n1.symm a1,up _ _ (ni a3).2.2.2.2 a2,a3⟩
   ·exact((hI.keep kk).push ex ey hp hB nW λj hj e=>by
     obtain⟨t',_,_,a1,_,_,a2,_⟩:=hI.2 j hj
     rw[a1] at e
     have e':t'=s.heap.objs.size:=pE (bg e)
     exact absurd (ay a2) (by rw[e'];exact dv _)).keep λc o hc e=>up c o (ni hc).2.2.2.2 e
   ·exact q h2 acc2 c2 (λc o hc e=>k2 c o hc (up c o (ni hc).2.2.2.2 (kk c o hc e))) e2 i2
  rcases hZ with ⟨_,hz,hTO⟩ | ⟨T,f,oT,hz,hT,nT⟩
  ·refine ac (wpAny_pyNext_zip_item D hz hTI hTO h1 h2 hl1 hl2 ex ey λh' z1 z2 z3 z4 z5 z6 k'=>?_)
   exact go h' (λc o hc e=>let ⟨a,b,c,d,_⟩:=ni hc;k' _ _ a b c d e) (k' _ _ n1 n3 n4 n5 hN) (k' _ _ D.TIz D.TITO D.TIi1 D.TIi2 hTI) z3 z4 (hl1.at λo e=>k' _ o D.l1z D.l1TO D.l1i1 D.l1i2 e) (hl2.at λo e=>k' _ o D.l2z D.l2TO D.l2i1 D.l2i2 e) z5 z6 ⟨_,false,_,z1,z5,nW⟩
  ·refine ac (Kv D hz hT hTI h1 h2 hl1 hl2 ex ey λh' z1 z3 z4 z5 k' z6=>?_)
   obtain⟨b1,b2,b3,b4,b5⟩:=ni nT
   exact go h' (λc o hc e=>let ⟨a,b,c,d,_⟩:=ni hc;k' _ _ a c d e) (k' _ _ n1 n4 n5 hN) (k' _ _ D.TIz D.TIi1 D.TIi2 hTI) z3 z4 (hl1.at λo e=>k' _ o D.l1z D.l1i1 D.l1i2 e) (hl2.at λo e=>k' _ o D.l2z D.l2i1 D.l2i2 e) z5 z6 ⟨T,true,oT,z1,k' _ _ b1 b3 b4 hT,nT⟩
theorem Em:typeLookup (.type "zip") "__len__" = pure none:=by rw[gi,eB];kernel_rfl
theorem CV:typeLookup (.type "zip") "__length_hint__" = pure none:=by rw[gi,eB];kernel_rfl
theorem xx {Q:fN}{a b:Value}(hh:A.handled=none)(D:ZipApart z TI TO i1 i2 l1 l2)(hn:xs.size<=sizeLine)(hxy:ys.size=xs.size)(hz:IsZip s.heap z TI TO .none)(hTO:IsPair s.heap TO a b)(hTI:IsPair s.heap TI (.ref i1) (.ref i2))
  (h1:s.heap.IsListIter i1 l1 0) (h2:s.heap.IsListIter i2 l2 0) (hl1:s.heap.IsList l1 xs) (hl2:s.heap.IsList l2 ys)
  (q:∀h' acc c,(∀c o,c∉[z,TO,i1,i2,s.heap.objs.size]->s.heap.get? c=some o->h'.get? c=some o)->h'.get? s.heap.objs.size=some { cls:=.type "list",dict:=none,data:=.seq acc c,slots:=#[] }->
   ZIts h' xs ys (s.heap.objs.size+1) [z,TO,i1,i2,s.heap.objs.size] acc xs.size->Q (.ref s.heap.objs.size) { s with heap:=h' }):wpAny (model prog w) A (call (.type "list") [.ref z]) Q E s:=by
 refine callType_codes (Q₁:=λx t=>x=.ref s.heap.objs.size/\t={ s with heap:=s.heap.push { cls:=.type "list",data:=.seq #[] } }) F.called_list (F.typeCall_list_1 _) F.entry_list_init (code_list_new _ ⟨rfl,rfl⟩) λx t ht=>?_
 obtain⟨rfl,rfl⟩:=ht
 have hN:(s.heap.push { cls:=.type "list",data:=.seq #[] }).get? s.heap.objs.size=some { cls:=.type "list",data:=.seq #[] }:=am _ rfl
 refine⟨⟨_,hN,rfl⟩,F.args_list_init_2 _ _,?_⟩
 have lt:∀{b:Addr}{o:Obj},s.heap.get? b=some o->b < s.heap.objs.size:=λe=>ay e
 have ne:∀{b:Addr}{o:Obj},s.heap.get? b=some o->b≠s.heap.objs.size:=λe=>cb (ay e)
 have m1:∃o,s.heap.get? i1=some o:=let ⟨o,e,_⟩:=h1;⟨o,e⟩
 have m2:∃o,s.heap.get? i2=some o:=let ⟨o,e,_⟩:=h2;⟨o,e⟩
 have m3:∃o,s.heap.get? l1=some o:=let ⟨o,e,_⟩:=hl1;⟨o,e⟩
 have m4:∃o,s.heap.get? l2=some o:=let ⟨o,e,_⟩:=hl2;⟨o,e⟩
 obtain⟨o1,m1⟩:=m1
 obtain⟨o2,m2⟩:=m2
 obtain⟨o3,m3⟩:=m3
 obtain⟨o4,m4⟩:=m4
 have psz:(s.heap.push { cls:=.type "list",data:=.seq #[] }).objs.size=s.heap.objs.size+1:=cq ..
 show wpAny _ A.in1.in1 (do let old ← Builtin.List.listItems (.ref s.heap.objs.size);Builtin.List.listUpdate (.ref s.heap.objs.size) (λ_=>#[]);letGo old.toList.reverse;Builtin.List.listExtendWith (.ref s.heap.objs.size) (.ref z) .none) _ _ _
 refine ac ?_;unfold Builtin.List.listItems
 refine ac (eI hN rfl (al ?_))
 show wpAny _ A.in1.in1 (updateSeq s.heap.objs.size (λ_=>#[]) >>= λ_=>letGo (#[]:qB).toList.reverse >>= λ_=>Builtin.List.listExtendWith (.ref s.heap.objs.size) (.ref z) .none) _ _ _
 refine ac (kC hN rfl (ac (lP ?_)))
 have g1:=cw (Obj.mapSeq (λ_=>(#[]:qB))) hN rfl
 generalize hS:s.heap.objs.size=N at *
 have up:∀b o,b≠N->s.heap.get? b=some o->((s.heap.push { cls:=.type "list",data:=.seq #[] }).update N (Obj.mapSeq (λ_=>(#[]:qB)))).get? b=some o:=λb o hb e=>(de _ _ (fF hb)).trans (ae _ e)
 have usz:((s.heap.push { cls:=.type "list",data:=.seq #[] }).update N (Obj.mapSeq (λ_=>(#[]:qB)))).objs.size=N+1:=by rw[(cf (s.heap.push { cls:=.type "list",data:=.seq #[] }) N _).1,psz]
 generalize (s.heap.push { cls:=.type "list",data:=.seq #[] }).update N (Obj.mapSeq (λ_=>(#[]:qB)))=G1 at *
 have zn:z≠N:=ne hz
 have tz:(⟨G1,s.gens,s.drawn,s.toks,s.os⟩:Shared).TypeIs (.ref z) "zip" := ⟨_,up _ _ zn hz,rfl⟩
 unfold Builtin.List.listExtendWith
 refine ac (wpAny_typeOf tz ?_)
 have r1:Builtin.List.listSameRef (.ref N) (.ref z)=false:=by simp[Builtin.List.listSameRef,zn.symm]
 have r2:(Value.type "zip" == Value.type "list")=false:=by decide
 have r3:(Value.type "zip" == Value.type "tuple")=false:=by decide
 simp only[r1,r2,r3,Bool.or_false,fI,gu]
 refine ac (nX (up _ _ zn hz) (ac (eP ?_)))
 unfold Builtin.List.listLengthHint
 refine ac (gl tz Em ?_)
 show wpAny _ A.in1.in1 (specialOf (Value.ref z) (Str.ofString "__length_hint__") >>= λ_=>_) _ _ _
 refine ac (gl tz CV (al ?_))
 show wpAny _ A.in1.in1 (rule "list.extend.makes-room" >>= λ_=>Builtin.List.listTouch (.ref N) >>= λ_=>again (.builtin "list.extend.loop" ⟨[.ref N,.ref z,.none],[]⟩)) _ _ _
 refine ac (li (ac ?_))
 show wpAny _ A.in1.in1 (updateSeq N (·.push .none) >>= λ_=>updateSeq N (·.pop)) _ _ _
 refine ac (kC g1 rfl ?_)
 have g2:=cw (Obj.mapSeq (·.push Value.none)) g1 rfl
 refine kC (hz:=by seq_fits) g2 rfl ?_
 have g3:=cw (Obj.mapSeq (·.pop)) g2 rfl
 have up2:∀b o,b≠N->s.heap.get? b=some o->((G1.update N (Obj.mapSeq (·.push Value.none))).update N (Obj.mapSeq (·.pop))).get? b=some o:=λb o hb e=>(de _ _ (fF hb)).trans ((de _ _ (fF hb)).trans (up b o hb e))
 have usz2:((G1.update N (Obj.mapSeq (·.push Value.none))).update N (Obj.mapSeq (·.pop))).objs.size=N+1:=by rw[(cf _ N _).1,(cf G1 N _).1,usz]
 generalize (G1.update N (Obj.mapSeq (·.push Value.none))).update N (Obj.mapSeq (·.pop))=G2 at *
 refine al ⟨lx iE _,Kw (A:=A.in1) (a:=a) (b:=b) (show A.in1.handled=none from hh) D hn hxy zn.symm (ne hTI).symm (ne hTO).symm (ne m1).symm (ne m2).symm (ne m3).symm (ne m4).symm (jI (lt hz)) (jI (lt hTO)) (jI (lt m1)) (jI (lt m2)) (oa N) xs.size 0 _ #[] _ rfl (cK _) (Nat.le_of_eq usz2.symm) (.inl ⟨rfl,up2 _ _ zn hz,up2 _ _ (ne hTO) hTO⟩) (up2 _ _ (ne hTI) hTI)
  (h1.at λo e=>up2 _ o (ne m1) e) (h2.at λo e=>up2 _ o (ne m2) e) (hl1.at λo e=>up2 _ o (ne m3) e) (hl2.at λo e=>up2 _ o (ne m4) e) g3 ⟨rfl,λi hi=>absurd hi (Nat.not_lt_zero _)⟩ λh' acc c kk e it=>?_⟩
 exact⟨rfl,q h' acc c (λc o hc e=>kk c o hc (up2 c o (λz=>hc (by simp[z])) e)) e it⟩
end
abbrev Key:=Sum Int Str
def nO:Key->Value->Bool
 | .inl k,v=>Value.isInt k v
 | .inr x,v=>Value.isStrOf x v
def Od (w:World):Key->Int
 | .inl k=>hashInt k
 | .inr x=>hashStr w x
theorem cH:∀{k:Key}{v:Value},nO k v=true->(∃i t,k=Sum.inl i/\v=Value.int i t)\/(∃x t,k=Sum.inr x/\v=Value.str x t)
 | .inl i,v,h=>by
  obtain⟨t,e⟩:=Value.isInt_shape (k:=i) (v:=v) h
  exact .inl ⟨i,t,rfl,e⟩
 | .inr x,v,h=>by
  obtain⟨t,e⟩:=Value.isStrOf_shape (x:=x) (v:=v) h
  exact .inr ⟨x,t,rfl,e⟩
theorem En (i:Int)(t:Tok):nO (.inl i) (.int i t)=true:=by simp[nO,Value.isInt]
theorem Eo (x:Str)(t:Tok):nO (.inr x) (.str x t)=true:=by simp[nO,Value.isStrOf]
theorem qY (a b:Int):decide ((Sum.inl a:Key)=Sum.inl b)=(a == b):=by
 by_cases e:a=b
 ·subst e;simp
 ·have h:¬ (Sum.inl a:Key)=Sum.inl b:=λq=>e (Sum.inl.inj q)
  rw[bq h]
  exact(kw.mpr e).symm
theorem Ep (a b:Str):decide ((Sum.inr a:Key)=Sum.inr b)=decide (a=b):=by
 by_cases e:a=b
 ·subst e;simp
 ·have h:¬ (Sum.inr a:Key)=Sum.inr b:=λq=>e (Sum.inr.inj q)
  rw[bq h,bq e]
theorem ym (a:Int)(b:Str):decide ((Sum.inl a:Key)=Sum.inr b)=false:=bq (λq=>nomatch q)
theorem yo (a:Str)(b:Int):decide ((Sum.inr a:Key)=Sum.inl b)=false:=bq (λq=>nomatch q)
def jE (prog:Program)(w:World):PySem.KeyKind prog w Key where
 is:=nO
 hash:=Od w
 inj:=λv a b ha hb=>by
  rcases cH ha with ⟨i,t,rfl,rfl⟩ | ⟨x,t,rfl,rfl⟩
  ·rcases cH hb with ⟨j,u,rfl,e⟩ | ⟨y,u,rfl,e⟩
   ·injection e with e1 _;rw[e1]
   ·exact nomatch e
  ·rcases cH hb with ⟨j,u,rfl,e⟩ | ⟨y,u,rfl,e⟩
   ·exact nomatch e
   ·injection e with e1 _;rw[e1]
 byValue:=λk v h=>by
  rcases cH h with ⟨i,t,rfl,rfl⟩ | ⟨x,t,rfl,rfl⟩ <;> rfl
 pyHash:=λhv h=>by
  rcases cH hv with ⟨i,t,rfl,rfl⟩ | ⟨x,t,rfl,rfl⟩
  ·exact wpAny_pyHash_int h
  ·exact wpAny_pyHash_str h
 eqBool:=λhu hv h=>by
  rcases cH hu with ⟨i,t,rfl,rfl⟩ | ⟨x,t,rfl,rfl⟩
  ·rcases cH hv with ⟨j,u,rfl,rfl⟩ | ⟨y,u,rfl,rfl⟩
   ·rw[qY] at h;exact wpAny_eqBool_int h
   ·rw[ym] at h;exact mE i t y u _ _ _ _ h
  ·rcases cH hv with ⟨j,u,rfl,rfl⟩ | ⟨y,u,rfl,rfl⟩
   ·rw[yo] at h;exact mI x t j u _ _ _ _ h
   ·rw[Ep] at h;exact wpAny_eqBool_str h
 «strs»:=λk x t v h=>by
  rcases cH h with ⟨i,u,rfl,e⟩ | ⟨y,u,rfl,e⟩
  ·exact nomatch e
  ·injection e with e1 _
   subst e1
   cases v <;> rfl
noncomputable def qZ:Key->Value->Bool
 | .inl k,.bool b=>decide (k=if b=true then 1 else 0)
 | k,v=>nO k v
theorem c7 {k:Key}{v:Value}(h:qZ k v=true):(∃b,k=Sum.inl (if b=true then 1 else 0)/\v=Value.bool b)\/(∃i t,k=Sum.inl i/\v=Value.int i t)\/(∃x t,k=Sum.inr x/\v=Value.str x t):=by
 unfold qZ at h
 split at h
 ·exact .inl ⟨_,ce _ (kM h),rfl⟩
 ·exact .inr (cH h)
theorem Es {k:Key}{v:Value}(h:nO k v=true):qZ k v=true:=by
 rcases cH h with ⟨i,t,rfl,rfl⟩ | ⟨x,t,rfl,rfl⟩ <;> exact h
theorem Ao (b:Bool):qZ (.inl (if b=true then 1 else 0)) (.bool b)=true:=ca rfl
theorem Oe (a b:Bool):decide ((Sum.inl (if a=true then 1 else 0):Key)=Sum.inl (if b=true then 1 else 0))=(a == b):=by
 rw[qY];cases a <;> cases b <;> rfl
theorem Et {prog:Program}{w:World}{A:Around}{E:fN}{s:Shared}(b:Bool){Q:Int->Shared->Prop}(h:Q (hashInt (if b=true then 1 else 0)) { s with toks:=s.toks+1 }):
  wpAny (model prog w) A (pyHash (.bool b)) Q E s:=by
 refine W.pyHash_slot (s:=s) (T := "bool") (by cases b <;> exact PySem.typeIs_bool s _) PySem.F.slot_bool_hash entry_int_hash (args_int_hash _) (by rw[beq_builtin_none]) (.inl rfl) ?_
 have e:reduceHash (rawHash (if b=true then 1 else 0))=hashInt (if b=true then 1 else 0):=by cases b <;> decide
 show wpAny _ _ (do ret (← mkInt (rawHash (if b=true then 1 else 0)))) _ _ s
 refine ef (wpAny_ret_mkInt (Q:=λv s'=>∃t,v=.int (rawHash (if b=true then 1 else 0)) t/\s'={ s with toks:=s.toks+1 }) ⟨_,rfl,rfl⟩) (λfin s' hq=>?_) λ_ _ x=>x
 obtain⟨v,rfl,t,rfl,rfl⟩:=hq
 exact⟨_,_,rfl,by rw[e];exact h⟩
def dg (prog:Program)(w:World):PySem.KeyKind prog w Key where
 is:=qZ
 hash:=Od w
 inj:=λv a b ha hb=>by
  rcases c7 ha with ⟨c,rfl,rfl⟩ | ⟨i,t,rfl,rfl⟩ | ⟨x,t,rfl,rfl⟩ <;> rcases c7 hb with ⟨d,rfl,e⟩ | ⟨j,u,rfl,e⟩ | ⟨y,u,rfl,e⟩ <;> cases e <;> rfl
 byValue:=λk v h=>by
  rcases c7 h with ⟨c,rfl,rfl⟩ | ⟨i,t,rfl,rfl⟩ | ⟨x,t,rfl,rfl⟩ <;> rfl
 pyHash:=λhv h=>by
  rcases c7 hv with ⟨c,rfl,rfl⟩ | ⟨i,t,rfl,rfl⟩ | ⟨x,t,rfl,rfl⟩
  ·exact Et c h
  ·exact wpAny_pyHash_int h
  ·exact wpAny_pyHash_str h
 eqBool:=λhu hv h=>by
  rcases c7 hu with ⟨c,rfl,rfl⟩ | ⟨i,t,rfl,rfl⟩ | ⟨x,t,rfl,rfl⟩
  ·rcases c7 hv with ⟨d,rfl,rfl⟩ | ⟨j,u,rfl,rfl⟩ | ⟨y,u,rfl,rfl⟩
   ·rw[Oe] at h;exact SeqAt.EqAt.bool_bool _ _ _ _ _ _ h
   ·rw[qY] at h;exact SeqAt.EqAt.bool_int _ _ _ _ _ _ _ h
   ·rw[ym] at h;exact SeqAt.EqAt.bool_str _ _ _ _ _ _ _ h
  ·rcases c7 hv with ⟨d,rfl,rfl⟩ | ⟨j,u,rfl,rfl⟩ | ⟨y,u,rfl,rfl⟩
   ·rw[qY] at h;exact SeqAt.EqAt.int_bool _ _ _ _ _ _ _ h
   ·rw[qY] at h;exact wpAny_eqBool_int h
   ·rw[ym] at h;exact mE i t y u _ _ _ _ h
  ·rcases c7 hv with ⟨d,rfl,rfl⟩ | ⟨j,u,rfl,rfl⟩ | ⟨y,u,rfl,rfl⟩
   ·rw[yo] at h;exact SeqAt.EqAt.str_bool _ _ _ _ _ _ _ h
   ·rw[yo] at h;exact mI x t j u _ _ _ _ h
   ·rw[Ep] at h;exact wpAny_eqBool_str h
 «strs»:=λk x t v h=>by
  rcases c7 h with ⟨c,rfl,e⟩ | ⟨i,u,rfl,e⟩ | ⟨y,u,rfl,e⟩
  ·exact nomatch e
  ·exact nomatch e
  ·injection e with e1 _
   subst e1
   cases v <;> rfl
theorem Aq (prog:Program)(w:World)(i:Int)(t:Tok):(jE prog w).is (.inl i) (.int i t)=true:=En i t
theorem Ar (prog:Program)(w:World)(x:Str)(t:Tok):(jE prog w).is (.inr x) (.str x t)=true:=Eo x t
inductive V where
 | non | bl (b:Bool) | int (i:Int) | str (x:Str) | byt (b:Array UInt8) | flt (b:UInt64) | ref (a:Addr) | ty (n:String)
 deriving DecidableEq
def RelV:V->Value->Prop
 | .non,u=>u=Value.none
 | .bl b,u=>u=Value.bool b
 | .int i,u=>∃t,u=Value.int i t
 | .str x,u=>∃t,u=Value.str x t
 | .byt b,u=>∃t,u=Value.bytes b t
 | .flt b,u=>∃t,u=Value.float b t
 | .ref a,u=>u=Value.ref a
 | .ty n,u=>u=Value.type n
abbrev Vals:List V->List Value->Prop:=Paired RelV
theorem Vals.length {xs:List V}{us:qh}(r:Vals xs us):xs.length=us.length:=gE r
theorem Vals.get:∀{xs:List V}{us:qh}{i:Nat}{x:V},Vals xs us->xs[i]?=some x->∃u,us[i]?=some u/\RelV x u
 | _,_,_,_,.nil,e=>by simp at e
 | _,_,0,_,.cons r _,e=>by simp at e;subst e;exact⟨_,rfl,r⟩
 | _,_,i+1,x,.cons _ t,e=>by
  obtain⟨u,h1,h2⟩:=Vals.get (i:=i) (x:=x) t (by simpa using e)
  exact⟨u,by simpa using h1,h2⟩
theorem Vals.set {x:V}{u:Value}(r:RelV x u):∀{xs:List V}{us:qh}(i:Nat),Vals xs us->Vals (xs.set i x) (us.set i u)
 | _,_,_,.nil=>.nil
 | _,_,0,.cons _ t=>.cons r t
 | _,_,i+1,.cons q t=>.cons q (Vals.set r i t)
theorem Vals.append:∀{xs ys:List V}{us ws:qh},Vals xs us->Vals ys ws->Vals (xs++ys) (us++ws)
 | _,_,_,_,.nil,s=>s
 | _,_,_,_,.cons r t,s=>.cons r (Vals.append t s)
theorem Vals.take:∀{xs:List V}{us:qh}(n:Nat),Vals xs us->Vals (xs.take n) (us.take n)
 | _,_,0,_=>.nil
 | _,_,_+1,.nil=>.nil
 | _,_,n+1,.cons r t=>.cons r (Vals.take n t)
theorem Vals.drop:∀{xs:List V}{us:qh}(n:Nat),Vals xs us->Vals (xs.drop n) (us.drop n)
 | _,_,0,r=>r
 | _,_,_+1,.nil=>.nil
 | _,_,n+1,.cons _ t=>Vals.drop n t
def RelO:Option V->Option Value->Prop
 | some v,some u=>RelV v u
 | none,none=>True
 | _,_=>False
def KV {κ:Type}:List (κ×V)->List (κ×Value)->Prop:=Paired λ(p:κ×V) (q:κ×Value)=>p.1=q.1/\RelV p.2 q.2
def kV:Key->V
 | .inl i=>.int i
 | .inr x=>.str x
inductive HO where
 | lst (xs:List V)
 | tup (xs:List V)
 | dK (kvs:List (Key×V)) | dT (kvs:List (List Key×V))
 | set (S:Int->Bool) (n:Nat)
 | ins (C dx:Addr) (fs:List (Str×V))
 | own (x:Addr)
 | xd (fs:List (Str×V))
 | met (f x:Addr)
 | rng (lo hi:Int)
 | frz (o:Obj) (u:HO)
 | tbl (ps:qB)
 | ext (φ:Heap->Prop)
abbrev Hp:=Addr->Option HO
def upd (H:Hp)(a:Addr)(o:HO):Hp:=λb=>if b=a then some o else H b
theorem bc {H:Hp}{a:Addr}{o:HO}:upd H a o a=some o:=by unfold upd;rw[bp rfl]
theorem aP {H:Hp}{a b:Addr}{o:HO}(h:b≠a):upd H a o b=H b:=by unfold upd;rw[a9 h]
theorem JV {H:Hp}{a b:Addr}{o u:HO}(h:H a=some o)(h':H b=some u)(d:o≠u):a≠b:=by
 intro e;subst e;rw[h] at h';exact d (bg h')
theorem bF {H:Hp}{a b:Addr}{o:HO}(h:H a=some o)(h':H b=none):a≠b:=by
 intro e;subst e;rw[h] at h';cases h'
def q8 (ks:List Key)(vs:List V):Prop:=vs=ks.map kV\/∃x b,ks=[.inr x,.inl (if b=true then 1 else 0)]/\vs=[.str x,.bl b]
abbrev Og (H:Hp)(b:Addr)(ks:List Key):Prop:=∃vs,H b=some (.tup vs)/\q8 ks vs
def KTup (K:W.Frag)(a:Addr)(xs:List V):Prop:=∃(o:Obj) (its:qB) (n:Nat),K.lookup a=some o/\o.cls=.type "tuple" /\ o.data=.seq its n/\its.size<=sizeLine/\Vals xs its.toList
def CKey (K:W.Frag)(H:Hp)(b:Addr)(ks:List Key):Prop:=Og H b ks\/∃vs,KTup K b vs/\q8 ks vs
theorem CKey.keeps {K:W.Frag}{H H':Hp}{b:Addr}{ks:List Key}(c:CKey K H b ks)(ht:∀b ys,H b=some (.tup ys)->H' b=some (.tup ys)):CKey K H' b ks:=c.imp (λ⟨vs,e,k⟩=>⟨vs,ht _ _ e,k⟩) id
section
variable (P:Program)(w:World)(K:W.Frag)
def ObjOk (H:Hp)(h:Heap)(a:Addr):HO->Prop
 | .lst xs=>xs.length<=sizeLine/\∃(its:qh) (n:Nat),Vals xs its/\h.get? a=some { cls:=.type "list",data:=.seq its.toArray n }
 | .tup xs=>xs.length<=sizeLine/\∃its:List Value,Vals xs its/\IsTup h a its.toArray
 | .dK kvs=>kvs.length<=sizeLine/\(a == sysModules)=false/\∃vs,KV kvs vs/\h.DictOf (jE P w) a vs
 | .dT kvs=>kvs.length<=sizeLine/\(a == sysModules)=false/\∃xs:List (List Key×Addr×Value),
   Paired (λ(p:List Key×V) (q:List Key×Addr×Value)=>p.1=q.1/\CKey K H q.2.1 p.1/\RelV p.2 q.2.2) kvs xs /\
   ∃o es ep,h.get? a=some o/\o.ExactDict/\o.data=.dict es ep/\es.toList=xs.map (entryOfKey (tupleKind (dg P w)))/\(xs.map (·.1)).Nodup/\ep=xs.length
 | .set S n=>h.SetOf (intKind P w) a S n
 | .ins C dx fs=>H dx=some (.own a)/\fs.length<=1000/\dx≠a/\h.get? a=some (W.instObj C dx) /\
   ∃mA,h.Ns1 dx mA/\(∀f,RelO (fs.lookup f) (mA f))/\PySem.Within mA (fs.map (·.1))
 | .own _=>∃o,h.get? a=some o
 | .xd fs=>∃mA,h.Ns1 a mA/\∀f,RelO (fs.lookup f) (mA f)
 | .rng lo hi=>∃t u v,h.get? a=some { cls:=.type "range",data:=.fields #[.int lo t,.int hi u,.int 1 v] }
 | .frz o u=>h.get? a=some o/\ObjOk H h a u
 | .tbl ps=>h.get? a=some { cls:=.none,data:=.fields ps }
 | .met f x=>h.get? a=some (W.methodObj (.ref f) (.ref x))
 | .ext φ=>φ h/\(∃o,h.get? a=some o)/\∀h1 h2:Heap,φ h1->(∀o,h1.get? a=some o->h2.get? a=some o)->φ h2
def HOk (H:Hp)(h:Heap):Prop:=∀a o,H a=some o->ObjOk P w K H h a o
end
section
variable {P:Program}{w:World}{K:W.Frag}{H H':Hp}{h h':Heap}{a:Addr}{o:HO}
theorem ObjOk.lt (x:ObjOk P w K H h a o):a < h.objs.size:=by
 cases o with
 | lst xs=>obtain⟨_,_,_,_,e⟩:=x;exact ay e
 | tup xs=>obtain⟨_,_,_,p⟩:=x;exact p.lt
 | dK kvs=>obtain⟨_,_,_,_,o,_,_,e,_⟩:=x;exact ay e
 | dT kvs=>obtain⟨_,_,_,_,o,_,_,e,_⟩:=x;exact ay e
 | set S n=>obtain⟨o,_,_,_,e,_⟩:=x;exact ay e
 | ins C dx fs=>obtain⟨_,_,_,e,_⟩:=x;exact ay e
 | own y=>obtain⟨_,e⟩:=x;exact ay e
 | xd fs=>obtain⟨_,⟨_,_,_,e,_⟩,_⟩:=x;exact ay e
 | rng lo hi=>obtain⟨_,_,_,e⟩:=x;exact ay e
 | frz ob u=>obtain⟨e,_⟩:=x;exact ay e
 | tbl ps=>exact ay (show h.get? a=some _ from x)
 | met f y=>exact ay (show h.get? a=some _ from x)
 | ext φ=>obtain⟨_,⟨_,e⟩,_⟩:=x;exact ay e
theorem Paired.mapP {α β:Type}{F G:α->β->Prop}:∀{l₁:List α}{l₂:List β},Paired F l₁ l₂->(∀a b,F a b->G a b)->Paired G l₁ l₂
 | _,_,.nil,_=>.nil
 | _,_,.cons r t,f=>.cons (f _ _ r) (Paired.mapP t f)
theorem ObjOk.stay (x:ObjOk P w K H h a o)(k:∀b u,(b=a\/H b=some (.own a))->h.get? b=some u->h'.get? b=some u)
  (ho:∀b,H b=some (.own a)->H' b=some (.own a)) (ht:∀b xs,H b=some (.tup xs)->H' b=some (.tup xs)):ObjOk P w K H' h' a o:=by
 induction o with
 | lst xs=>obtain⟨z,its,n,r,e⟩:=x;exact⟨z,its,n,r,k _ _ (.inl rfl) e⟩
 | tup xs=>obtain⟨z,its,r,ob,e,c⟩:=x;exact⟨z,its,r,ob,k _ _ (.inl rfl) e,c⟩
 | dK kvs=>obtain⟨z,y,vs,r,ob,es,ep,e,c⟩:=x;exact⟨z,y,vs,r,ob,es,ep,k _ _ (.inl rfl) e,c⟩
 | dT kvs=>
  obtain⟨z,y,xs,r,ob,es,ep,e,c⟩:=x
  exact⟨z,y,xs,Paired.mapP r λp q z=>⟨z.1,z.2.1.keeps ht,z.2.2⟩,ob,es,ep,k _ _ (.inl rfl) e,c⟩
 | set S n=>obtain⟨ob,es,ep,t,e,c⟩:=x;exact⟨ob,es,ep,t,k _ _ (.inl rfl) e,c⟩
 | ins C dx fs=>
  obtain⟨d,z,ne,e,mA,⟨od,es,ep,e2,c⟩,r⟩:=x
  exact⟨ho _ d,z,ne,k _ _ (.inl rfl) e,mA,⟨od,es,ep,k _ _ (.inr d) e2,c⟩,r⟩
 | own y=>obtain⟨ob,e⟩:=x;exact⟨ob,k _ _ (.inl rfl) e⟩
 | xd fs=>obtain⟨mA,⟨od,es,ep,e,c⟩,r⟩:=x;exact⟨mA,⟨od,es,ep,k _ _ (.inl rfl) e,c⟩,r⟩
 | rng lo hi=>obtain⟨t,u,v,e⟩:=x;exact⟨t,u,v,k _ _ (.inl rfl) e⟩
 | frz ob u ih=>obtain⟨e,q⟩:=x;exact⟨k _ _ (.inl rfl) e,ih q⟩
 | tbl ps=>
  have e:h.get? a=some { cls:=.none,data:=.fields ps }:=x
  show h'.get? a=some { cls:=.none,data:=.fields ps }
  exact k a _ (.inl rfl) e
 | met f y=>
  have e:h.get? a=some (W.methodObj (.ref f) (.ref y)):=x
  show h'.get? a=some (W.methodObj (.ref f) (.ref y))
  exact k a _ (.inl rfl) e
 | ext φ=>obtain⟨p,⟨o,e⟩,st⟩:=x;exact⟨st _ _ p λo q=>k _ _ (.inl rfl) q,⟨o,k _ _ (.inl rfl) e⟩,st⟩
theorem HOk.lt (x:HOk P w K H h)(e:H a=some o):a < h.objs.size:=(x a o e).lt
theorem HOk.fresh (x:HOk P w K H h)(e:h.objs.size<=a):H a=none:=by
 cases q:H a with
 | none=>rfl
 | some u=>exact absurd (bv (x.lt q) e) (dv _)
theorem HOk.kept (x:HOk P w K H h)(k:∀b u,h.get? b=some u->h'.get? b=some u):HOk P w K H h':=λa o e=>
 (x a o e).stay (λb u _ q=>k b u q) (λ_ q=>q) λ_ _ q=>q
theorem HOk.laid (x:HOk P w K H h)(k:∀b u,h.get? b=some u->h'.get? b=some u)(hp:h.objs.size<=a)(new:ObjOk P w K (upd H a o) h' a o):HOk P w K (upd H a o) h':=λb u e=>by
 have hn:=x.fresh hp
 by_cases hb:b=a
 ·subst hb;rw[bc] at e;cases e;exact new
 ·rw[aP hb] at e
  exact(x b u e).stay (λc v _ q=>k c v q) (λc q=>by rw[aP (bF q hn)];exact q) λc xs q=>by rw[aP (bF q hn)];exact q
end
def Rd (H:Hp)(a:Addr)(u:HO):Prop:=H a=some u\/∃o,H a=some (.frz o u)
theorem Rd.ok {P:Program}{w:World}{K:W.Frag}{H:Hp}{h:Heap}{a:Addr}{u:HO}(r:Rd H a u)(x:HOk P w K H h):ObjOk P w K H h a u:=by
 rcases r with r | ⟨o,r⟩
 ·exact x a u r
 ·obtain⟨_,q⟩:=x a _ r
  exact q
def Mut:Option HO->Prop
 | some (.lst _)=>True
 | some (.dK _)=>True
 | some (.dT _)=>True
 | some (.set _ _)=>True
 | some (.ins _ _ _)=>True
 | some (.ext _)=>True
 | _=>False
section
variable {P:Program}{w:World}{K:W.Frag}{H:Hp}{h h':Heap}{x e:Addr}{o':HO}
theorem HOk.write (ok:HOk P w K H h)(mu:Mut (H x))(he:e=x\/H e=some (.own x))(k:∀b u,b≠e->h.get? b=some u->h'.get? b=some u)(heo:∃u,h'.get? e=some u)
  (new:ObjOk P w K (upd H x o') h' x o'):HOk P w K (upd H x o') h':=λb u q=>by
 have nown:∀c y,H c=some (.own y)->c≠x:=λc y r z=>by subst z;rw[r] at mu;exact mu
 have ntup:∀c xs,H c=some (.tup xs)->c≠x:=λc xs r z=>by subst z;rw[r] at mu;exact mu
 by_cases hb:b=x
 ·subst hb;rw[bc] at q;cases q;exact new
 ·rw[aP hb] at q
  by_cases hbe:b=e
  ·have q':H b=some (.own x):=by
    rcases he with z | z
    ·exact absurd (hbe.trans z) hb
    ·rw[hbe];exact z
   rw[q] at q';cases q'
   obtain⟨v,hv⟩:=heo
   exact⟨v,by rw[hbe];exact hv⟩
  ·refine(ok b u q).stay (λc v hc r=>k c v ?_ r) (λc r=>by rw[aP (nown c b r)];exact r) λc xs r=>by rw[aP (ntup c xs r)];exact r
   rcases hc with rfl | hc
   ·exact hbe
   ·rintro rfl
    rcases he with z | z
    ·exact nown c b hc z
    ·rw[hc] at z;cases z;exact hb rfl
end
structure Un (fs ex:qA)(H H':Hp)(h h':Heap):Prop where
 keep:∀b o,h.get? b=some o->H b=none->b∉fs->b∉ex->h'.get? b=some o
 slot:∀b o,h.get? b=some o->H b=none->b∈fs->b∉ex->∃sl,h'.get? b=some { o with slots:=sl }
 free:∀b o,h.get? b=some o->H b=none->b∉ex->H' b=none
 there:∀b o,h.get? b=some o->b∉ex->∃o',h'.get? b=some o'
 tups:∀b xs,H b=some (.tup xs)->H' b=some (.tup xs)
 frzs:∀b o u,H b=some (.frz o u)->H' b=some (.frz o u)
 tbls:∀b ps,H b=some (.tbl ps)->∃more,H' b=some (.tbl (ps++more))
section
variable {fs fs' ex ex':qA}{H H1 H2:Hp}{h h1 h2 h':Heap}{a x e:Addr}{o:HO}
theorem Un.any (u:Un fs ex H H1 h h1){b:Addr}{ob:Obj}(q:h.get? b=some ob)(n:H b=none)(hx:b∉ex):∃sl,h1.get? b=some { ob with slots:=sl }:=by
 by_cases hb:b∈fs
 ·exact u.slot b ob q n hb hx
 ·exact⟨ob.slots,u.keep b ob q n hb hx⟩
theorem Un.kept (k:∀b u,h.get? b=some u->h'.get? b=some u):Un fs ex H H h h':=
 ⟨λb ob q _ _ _=>k b ob q,λb ob q _ _ _=>⟨ob.slots,k b ob q⟩,λ_ _ _ n _=>n,λb ob q _=>⟨ob,k b ob q⟩,λ_ _ q=>q,λ_ _ _ q=>q,λ_ ps q=>⟨#[],by rw[q];simp⟩⟩
theorem Un.refl:Un fs ex H H h h:=Un.kept λ_ _ q=>q
theorem Un.laid (k:∀b u,h.get? b=some u->h'.get? b=some u)(hp:h.objs.size<=a)(hn:H a=none):Un fs ex H (upd H a o) h h' where
 keep:=λb u q _ _ _=>k b u q
 slot:=λb u q _ _ _=>⟨u.slots,k b u q⟩
 free:=λb u q n _=>by rw[aP (cb (bv (ay q) hp))];exact n
 there:=λb u q _=>⟨u,k b u q⟩
 tups:=λb xs q=>by rw[aP (bF q hn)];exact q
 frzs:=λb u xs q=>by rw[aP (bF q hn)];exact q
 tbls:=λb ps q=>⟨#[],by rw[aP (bF q hn),q];simp⟩
theorem Un.write (mu:Mut (H x))(he:e=x\/H e=some (.own x))(k:∀b u,b≠e->h.get? b=some u->h'.get? b=some u)(heo:∃u,h'.get? e=some u):Un fs ex H (upd H x o) h h':=by
 have hx:∀b,H b=none->b≠x:=λb n z=>by subst z;rw[n] at mu;exact mu
 have hb:∀b,H b=none->b≠e:=λb n z=>by
  subst z
  rcases he with r | r
  ·exact hx b n r
  ·rw[n] at r;cases r
 have hm:∀b u,H b=some u->¬ Mut (some u)->b≠x:=λb u q nm z=>by subst z;rw[q] at mu;exact nm mu
 refine⟨λb u q n _ _=>k b u (hb b n) q,λb u q n _ _=>⟨u.slots,k b u (hb b n) q⟩,λb u q n _=>by rw[aP (hx b n)];exact n,λb u q _=>?_,
  λb xs q=>by rw[aP (hm b _ q λz=>z)];exact q,λb u xs q=>by rw[aP (hm b _ q λz=>z)];exact q,λb ps q=>⟨#[],by rw[aP (hm b _ q λz=>z),q];simp⟩⟩
 by_cases hbe:b=e
 ·subst hbe;exact heo
 ·exact⟨u,k b u hbe q⟩
end
noncomputable def trk (h:Heap)(H:Hp):List Addr:=(List.range h.objs.size).filter λa=>(H a).isSome
def pU (h:Heap)(H:Hp):Heap:=W.hideAll h (trk h H)
theorem Eu (h:Heap)(H:Hp):(pU h H).objs.size=h.objs.size:=W.hideAll_size _ _
theorem HB {h:Heap}{H:Hp}{b:Addr}{o:Obj}(e:h.get? b=some o)(n:H b=none):(pU h H).get? b=some o:=
 pp _ e λhm=>by
  have q:(H b).isSome=true:=(gp.mp hm).2
  rw[n] at q;simp at q
theorem Ky {h:Heap}{H:Hp}{b:Addr}{o:Obj}(e:(pU h H).get? b=some o):h.get? b=some o/\H b=none:=by
 have e':h.get? b=some o:=mM (trk h H) e
 refine⟨e',?_⟩
 cases q:H b with
 | none=>rfl
 | some x=>
  have hm:b∈trk h H:=gp.mpr ⟨b6.mpr (ay e'),by simp[q]⟩
  have z:(pU h H).get? b=none:=W.hideAll_none (trk h H) hm
  rw[z] at e;cases e
noncomputable def Kz (g h:Heap)(L:Addr):List (Addr×Obj):=(List.range h.objs.size).filterMap λa=>if a=L\/(g.get? a).isSome=true then none else (h.get? a).map λo=>(a,o)
noncomputable def rest (g h:Heap)(L d:Addr):List (Addr×Obj):=(Kz g h L).filter λp=>decide (p.1≠d)
structure Mod (K:W.Frag)(mg:Str->Option Value)(base:Heap):Prop where
 kin:K.In base
 glob:base.Ns mainGlobals mg
 blt:∃mb,base.Ns builtinsNs mb/\∀x:Str,x ≠ "__name__" -> mb x=bootBuiltins x
 nolimit:base.NoLimit
structure Cx where
 prog:Program
 w:World
 K:W.Frag
 mg:Str->Option Value
 base:Heap
 A:Around
 N:List Str
 s₀:Shared
 H₀:Hp
 env:Env
 outer:List Env
 stack:List Env
 ex:List Addr
 fn:Str->Bool
 calm:Bool
 pn:List (Addr×Obj)
 xe:Value->Shared->Prop
def frs (l:List Env):List Addr:=l.filterMap (·.frame)
abbrev Cx.fs (X:Cx):List Addr:=frs X.outer
def Vis (sc:Scope)(x:Str):Prop:=sc.names.lookup x=some .local\/sc.names.lookup x=some .cell\/sc.names.lookup x=some .free
def Loc (sc:Scope)(x:Str):Prop:=sc.names.lookup x=some .local\/sc.names.lookup x=some .cell
def Look (env:Env)(h:Heap)(m:Str->Option Value)(x:Str)(u:Value):Prop:=
 (env.kindOf x=some .local/\m x=some u)\/((env.kindOf x=some .cell\/env.kindOf x=some .free)/\∃c,env.cells.lookup x=some c/\h.IsCell c (some u))
structure Cx.Ok (X:Cx):Prop where
 mod:Mod X.K X.mg X.base
 kind:X.env.scope.kind=.function
 glob:X.env.globals=mainGlobals
 blt:X.env.builtins=builtinsNs
 above:X.s₀.heap.objs.size<=X.env.locals
 inj:∀x y c,X.env.cells.lookup x=some c->X.env.cells.lookup y=some c->x=y
 has:∀x,(X.env.kindOf x=some .cell\/X.env.kindOf x=some .free)->∃c,X.env.cells.lookup x=some c
 cab:∀x c,X.fn x=true->X.env.cells.lookup x=some c->X.s₀.heap.objs.size<=c
 hd:X.calm=true->X.A.handled=none
 frames:X.A.frames=some X.stack
 stk:X.stack=X.outer\/(X.stack=X.env::X.outer/\X.env.frame=some X.env.locals)
 exf:∀b∈X.ex,b≠X.env.locals/\∀x c,X.env.cells.lookup x=some c->c≠b
 bs:∀b o,X.base.get? b=some o->X.s₀.heap.get? b=some o/\X.H₀ b=none
 bsz:X.base.objs.size<=X.s₀.heap.objs.size
 noex:∀b o,X.base.get? b=some o->b∉X.ex
 exfs:∀b∈X.ex,b∉X.fs
 funs:X.s₀.heap.FunFrames X.base X.outer
 frf:∀b∈X.fs,X.H₀ b=none
structure Inv (X:Cx)(pins:gV)(σ:List (Option V))(H:Hp)(s:Shared):Prop where
 ok:X.Ok
 os:s.os=X.s₀.os
 bare:AllBare s.gens
 base:Un X.fs X.ex X.H₀ H X.s₀.heap s.heap
 loc:∃m,s.heap.Ns X.env.locals m/\∀(i:Nat) (x:Str) (v:V),X.N[i]?=some x->σ[i]?=some (some v)->Vis X.env.scope x->∃u,RelV v u/\Look X.env s.heap m x u
 cell:∀x c,X.env.cells.lookup x=some c->∃v,s.heap.IsCell c v
 free:H X.env.locals=none
 freeC:∀x c,X.env.cells.lookup x=some c->H c=none
 pin:∀p∈X.pn++pins,s.heap.get? p.1=some p.2/\H p.1=none/\p.1≠X.env.locals/\p.1∉X.fs/\∀v,p.2.data≠.cell v
 hok:HOk X.prog X.w X.K H s.heap
 len:σ.length=X.N.length
section
variable {X:Cx}{pins:gV}{σ:List (Option V)}{H H':Hp}{s:Shared}{h':Heap}
theorem Cx.Ok.nofr (ok:X.Ok){b:Addr}{o:Obj}(e:X.base.get? b=some o):b∉X.fs:=λhb=>by
 have:=(ok.funs.mem hb).1
 rw[e] at this;cases this
theorem Inv.bs (I:Inv X pins σ H s):∀b o,X.base.get? b=some o->s.heap.get? b=some o/\H b=none:=λb o e=>
 ⟨I.base.keep b o (I.ok.bs b o e).1 (I.ok.bs b o e).2 (I.ok.nofr e) (I.ok.noex b o e),I.base.free b o (I.ok.bs b o e).1 (I.ok.bs b o e).2 (I.ok.noex b o e)⟩
theorem Inv.bk (I:Inv X pins σ H s):∀b o,X.base.get? b=some o->s.heap.get? b=some o:=λb o e=>(I.bs b o e).1
theorem Inv.mod (I:Inv X pins σ H s):Mod X.K X.mg X.base:=I.ok.mod
theorem Inv.kIn (I:Inv X pins σ H s):X.K.In s.heap:=I.ok.mod.kin.keeps I.bk
theorem Inv.lt (I:Inv X pins σ H s):X.env.locals < s.heap.objs.size:=let ⟨_,hn,_⟩:=I.loc;hn.lt
theorem Inv.sz (I:Inv X pins σ H s):X.s₀.heap.objs.size<=s.heap.objs.size:=f7 I.ok.above (kN I.lt)
theorem Inv.nofs (I:Inv X pins σ H s){a:Addr}(h:s.heap.objs.size<=a):a∉X.fs:=λhb=>by
 obtain⟨_,o,ho,_⟩:=I.ok.funs.mem hb
 exact absurd (bv (ay ho) (f7 I.sz h)) (dv _)
theorem Inv.cne (I:Inv X pins σ H s):∀x c,X.env.cells.lookup x=some c->c≠X.env.locals:=λx c e z=>by
 obtain⟨v,o,ho,hd⟩:=I.cell x c e
 obtain⟨m,⟨o',es,ep,ho',hd',_⟩,_⟩:=I.loc
 rw[z,ho'] at ho;cases ho;rw[hd'] at hd;cases hd
theorem Inv.funs (I:Inv X pins σ H s):s.heap.FunFrames X.base X.outer:=by
 have all:∀(l:List Env),(∀b∈frs l,b∈X.fs)->X.s₀.heap.FunFrames X.base l->s.heap.FunFrames X.base l:=by
  intro l
  induction l with
  | nil=>intro _ _;trivial
  | cons env r ih=>
   intro hs hl
   obtain⟨hk,⟨L,o,hf,hn,ho,hd⟩,hr⟩:=hl
   have hL:L∈X.fs:=hs L (by unfold frs;rw[iF,hf];exact ai)
   obtain⟨sl,e⟩:=I.base.slot L o ho (I.ok.frf L hL) hL λz=>I.ok.exfs L z hL
   exact⟨hk,⟨L,_,hf,hn,e,hd⟩,ih (λb hb=>hs b (by unfold frs;rw[iF,hf];exact ag _ hb)) hr⟩
 exact all X.outer (λ_ hb=>hb) I.ok.funs
theorem Inv.stack (I:Inv X pins σ H s):s.heap.FunFrames X.base X.stack:=by
 rcases I.ok.stk with e | ⟨e,hf⟩
 ·rw[e];exact I.funs
 ·rw[e]
  obtain⟨m,hn,_⟩:=I.loc
  refine .cons (by rw[I.ok.kind];decide) hf hn ?_ I.funs
  exact lS (f7 I.ok.bsz I.ok.above)
theorem Inv.stkSub (I:Inv X pins σ H s):∀b∈frs X.stack,b∈X.env.locals::X.fs:=λb hb=>by
 rcases I.ok.stk with e | ⟨e,hf⟩
 ·rw[e] at hb;exact ag _ hb
 ·rw[e] at hb
  unfold frs at hb
  rw[iF,hf] at hb
  exact hb
theorem Inv.stkFree (I:Inv X pins σ H s):∀b∈frs X.stack,H b=none:=λb hb=>by
 rcases aw.mp (I.stkSub b hb) with e | hb
 ·rw[e];exact I.free
 ·obtain⟨_,o,ho,_⟩:=I.ok.funs.mem hb
  exact I.base.free b o ho (I.ok.frf b hb) λz=>I.ok.exfs b z hb
theorem Inv.step {g':Array GenState}{t':Nat}{d':Drawn}{ch:qA}(I:Inv X pins σ H s)
  (hch:∀b∈ch,(b∈X.ex\/X.s₀.heap.objs.size<=b)/\b≠X.env.locals/\(∀x c,X.env.cells.lookup x=some c->c≠b)/\∀p∈X.pn++pins,p.1≠b)
  (keep:∀b o,b≠X.env.locals->b∉X.fs->b∉ch->s.heap.get? b=some o->H b=none->h'.get? b=some o)
  (slot:∀b o,b≠X.env.locals->b∈X.fs->b∉ch->s.heap.get? b=some o->H b=none->∃sl,h'.get? b=some { o with slots:=sl }) (free:∀b o,b∉ch->s.heap.get? b=some o->H b=none->H' b=none)
  (there:∀b o,b∉ch->s.heap.get? b=some o->∃o',h'.get? b=some o')
  (tups:∀b xs,H b=some (.tup xs)->H' b=some (.tup xs)) (frzs:∀b o u,H b=some (.frz o u)->H' b=some (.frz o u)) (tbls:∀b ps,H b=some (.tbl ps)->∃more,H' b=some (.tbl (ps++more)))
  (ns:∀m,s.heap.Ns X.env.locals m->h'.Ns X.env.locals m) (hok:HOk X.prog X.w X.K H' h') (hg:AllBare g'):
  Inv X pins σ H' { s with heap:=h',gens:=g',drawn:=d',toks:=t' }:=by
 have neL:∀b o,X.s₀.heap.get? b=some o->b≠X.env.locals:=λb o e=>cb (bv (ay e) I.ok.above)
 have neC:∀b o,X.s₀.heap.get? b=some o->b∉X.ex->b∉ch:=λb o e hx hb=>by
  rcases(hch b hb).1 with z | z
  ·exact hx z
  ·exact absurd (bv (ay e) z) (dv _)
 have cellK:∀x c,X.env.cells.lookup x=some c->∀v,s.heap.IsCell c v->h'.IsCell c v:=by
  rintro x c e v ⟨o,ho,hd⟩
  have nch:c∉ch:=λz=>(hch c z).2.2.1 x c e rfl
  by_cases hc:c∈X.fs
  ·obtain⟨sl,q⟩:=slot c o (I.cne x c e) hc nch ho (I.freeC x c e)
   exact⟨_,q,hd⟩
  ·exact⟨o,keep c o (I.cne x c e) hc nch ho (I.freeC x c e),hd⟩
 refine⟨I.ok,I.os,hg,⟨λb o e n hb hx=>?_,λb o e n hb hx=>?_,λb o e n hx=>?_,λb o e hx=>?_,λb xs e=>tups b xs (I.base.tups b xs e),λb o xs e=>frzs b o xs (I.base.frzs b o xs e),λb ps e=>?_⟩,?_,λx c e=>?_,?_,λx c e=>?_,λp hp=>?_,hok,I.len⟩
 ·exact keep b o (neL b o e) hb (neC b o e hx) (I.base.keep b o e n hb hx) (I.base.free b o e n hx)
 ·obtain⟨sl,e1⟩:=I.base.slot b o e n hb hx
  obtain⟨sl',e2⟩:=slot b _ (neL b o e) hb (neC b o e hx) e1 (I.base.free b o e n hx)
  exact⟨sl',e2⟩
 ·obtain⟨o',e1⟩:=I.base.there b o e hx
  exact free b o' (neC b o e hx) e1 (I.base.free b o e n hx)
 ·obtain⟨o',e1⟩:=I.base.there b o e hx
  exact there b o' (neC b o e hx) e1
 ·obtain⟨m1,e1⟩:=I.base.tbls b ps e
  obtain⟨m2,e2⟩:=tbls b _ e1
  exact⟨m1++m2,by rw[e2,Array.append_assoc]⟩
 ·obtain⟨m,hn,hl⟩:=I.loc
  refine⟨m,ns m hn,λi x v e1 e2 e3=>?_⟩
  obtain⟨u,r,l⟩:=hl i x v e1 e2 e3
  refine⟨u,r,?_⟩
  rcases l with l | ⟨k,c,e,z⟩
  ·exact .inl l
  ·exact .inr ⟨k,c,e,cellK x c e _ z⟩
 ·obtain⟨v,z⟩:=I.cell x c e
  exact⟨v,cellK x c e v z⟩
 ·obtain⟨m,⟨o,_,_,ho,_⟩,_⟩:=I.loc
  exact free _ o (λz=>(hch _ z).2.1 rfl) ho I.free
 ·obtain⟨v,o,ho,hd⟩:=I.cell x c e
  exact free c o (λz=>(hch c z).2.2.1 x c e rfl) ho (I.freeC x c e)
 ·obtain⟨e,n,ne,nf,d⟩:=I.pin p hp
  have nch:p.1∉ch:=λz=>(hch p.1 z).2.2.2 p hp rfl
  exact⟨keep p.1 p.2 ne nf nch e n,free p.1 p.2 nch e n,ne,nf,d⟩
theorem Inv.un {t':Nat}(I:Inv X pins σ H s)(u:Un X.fs [] H H' s.heap h')(hok:HOk X.prog X.w X.K H' h'):Inv X pins σ H' { s with heap:=h',toks:=t' }:=by
 obtain⟨m,⟨o,es,ep,ho,r⟩,_⟩:=id I.loc
 obtain⟨sl,hL⟩:=u.any ho I.free (by simp)
 exact I.step (g':=s.gens) (d':=s.drawn) (ch:=[]) (λ_ z=>nomatch z) (λb o _ hb _ e n=>u.keep b o e n hb (by simp)) (λb o _ hb _ e n=>u.slot b o e n hb (by simp)) (λb o _ e n=>u.free b o e n (by simp)) (λb o _ e=>u.there b o e (by simp)) u.tups u.frzs u.tbls (λm' hm=>by
  obtain⟨o',es',ep',ho',r'⟩:=hm
  rw[ho] at ho';cases ho'
  exact⟨_,es',ep',hL,r'⟩) hok I.bare
theorem Inv.call {g':Array GenState}{t':Nat}{d':Drawn}{ch:qA}(I:Inv X pins σ H s)(u:Un (frs X.stack) ch H H' s.heap h')(hok:HOk X.prog X.w X.K H' h')(hg:AllBare g')
  (hch:∀b∈ch,(b∈X.ex\/X.s₀.heap.objs.size<=b)/\b≠X.env.locals/\(∀x c,X.env.cells.lookup x=some c->c≠b)/\∀p∈X.pn++pins,p.1≠b):
  Inv X pins σ H' { s with heap:=h',gens:=g',drawn:=d',toks:=t' }:=by
 obtain⟨m,⟨o,es,ep,ho,r⟩,_⟩:=id I.loc
 obtain⟨sl,hL⟩:=u.any ho I.free λz=>(hch _ z).2.1 rfl
 exact I.step (ch:=ch) hch (λb o hL hb hc e n=>u.keep b o e n (λz=>(aw.mp (I.stkSub b z)).elim hL hb) hc) (λb o _ _ hc e n=>u.any e n hc) (λb o hc e n=>u.free b o e n hc) (λb o hc e=>u.there b o e hc) u.tups u.frzs u.tbls (λm' hm=>by
  obtain⟨o',es',ep',ho',r'⟩:=hm
  rw[ho] at ho';cases ho'
  exact⟨_,es',ep',hL,r'⟩) hok hg
theorem Inv.turned {t':Nat}{it:Addr}(I:Inv X pins σ H s)(k:∀b o,b≠it->s.heap.get? b=some o->h'.get? b=some o)(hn:H it=none)(hL:it≠X.env.locals)
  (h1:it∈X.ex\/X.s₀.heap.objs.size<=it) (h2:∀x c,X.env.cells.lookup x=some c->c≠it) (h3:∀p∈X.pn++pins,p.1≠it):Inv X pins σ H { s with heap:=h',toks:=t' }:=by
 have nit:∀b u,H b=some u->b≠it:=λb u e z=>by rw[z,hn] at e;cases e
 refine I.step (g':=s.gens) (d':=s.drawn) (ch:=[it]) (λb hb=>?_) (λb o _ _ hc e _=>k b o (λz=>hc (by simp[z])) e) (λb o _ _ hc e _=>⟨o.slots,k b o (λz=>hc (by simp[z])) e⟩) (λ_ _ _ _ n=>n)
  (λb o hc e=>⟨o,k b o (λz=>hc (by simp[z])) e⟩) (λ_ _ e=>e) (λ_ _ _ e=>e) (λb ps e=>⟨#[],by rw[e];simp⟩) (λm hm=>?_) (λb u e=>?_) I.bare
 ·have e:b=it:=by simpa using hb
  subst e
  exact⟨h1,hL,h2,h3⟩
 ·obtain⟨o,es,ep,ho,r⟩:=hm
  exact⟨o,es,ep,k _ o (fF hL) ho,r⟩
 ·refine(I.hok b u e).stay (λc v hc q=>k c v ?_ q) (λ_ q=>q) λ_ _ q=>q
  rcases hc with z | z
  ·rw[z];exact nit b u e
  ·exact nit c _ z
theorem Inv.tok (I:Inv X pins σ H s)(t:Nat):Inv X pins σ H { s with toks:=t }:=I.un (h':=s.heap) (t':=t) Un.refl I.hok
theorem Inv.kept {t':Nat}(I:Inv X pins σ H s)(k:∀b u,s.heap.get? b=some u->h'.get? b=some u):Inv X pins σ H { s with heap:=h',toks:=t' }:=I.un (Un.kept k) (I.hok.kept k)
theorem Inv.laid {a:Addr}{o:HO}{t':Nat}(I:Inv X pins σ H s)(k:∀b u,s.heap.get? b=some u->h'.get? b=some u)(hp:s.heap.objs.size<=a)(new:ObjOk X.prog X.w X.K (upd H a o) h' a o):
  Inv X pins σ (upd H a o) { s with heap:=h',toks:=t' }:=I.un (Un.laid k hp (I.hok.fresh hp)) (I.hok.laid k hp new)
theorem Inv.write {x e:Addr}{o:HO}{t':Nat}(I:Inv X pins σ H s)(mu:Mut (H x))(he:e=x\/H e=some (.own x))(k:∀b u,b≠e->s.heap.get? b=some u->h'.get? b=some u)(heo:∃u,h'.get? e=some u)
  (new:ObjOk X.prog X.w X.K (upd H x o) h' x o):Inv X pins σ (upd H x o) { s with heap:=h',toks:=t' }:=I.un (Un.write mu he k heo) (I.hok.write mu he k heo new)
theorem Inv.weak {σ':List (Option V)}(I:Inv X pins σ H s)(hl:σ'.length=σ.length)(w:∀(i:Nat) v,σ'[i]?=some (some v)->σ[i]?=some (some v)):Inv X pins σ' H s:=
 ⟨I.ok,I.os,I.bare,I.base,let ⟨m,hn,hl'⟩:=I.loc;⟨m,hn,λi x v e1 e2 e3=>hl' i x v e1 (w i v e2) e3⟩,I.cell,I.free,I.freeC,I.pin,I.hok,hl.trans I.len⟩
theorem Inv.pins_of {pins':gV}(I:Inv X pins σ H s)(h:∀p∈pins',s.heap.get? p.1=some p.2/\H p.1=none/\p.1≠X.env.locals/\p.1∉X.fs/\∀v,p.2.data≠.cell v):Inv X pins' σ H s:=
 ⟨I.ok,I.os,I.bare,I.base,I.loc,I.cell,I.free,I.freeC,λp hp=>(b0.mp hp).elim (λz=>I.pin p (gc _ z)) (h p),I.hok,I.len⟩
theorem yp {N:qr}(hN:N.Nodup){i j:Nat}{x:Str}(a:N[i]?=some x)(b:N[j]?=some x):i=j:=by
 obtain⟨h1,e1⟩:=ap.mp a
 obtain⟨h2,e2⟩:=ap.mp b
 exact(List.getElem_inj hN).mp (e1.trans e2.symm)
theorem wH {M:Model}{A:Around}{E:fN}{i:Nat}{x:Str}{v:V}{u:Value}{Q:Unit->Shared->Prop}(I:Inv X pins σ H s)(hN:X.N.Nodup)(hi:X.N[i]?=some x)(hx:Loc X.env.scope x)(r:RelV v u)
  (h:∀s',Inv X pins (σ.set i (some v)) H s'->(∃a,Heap.SameBut a s.heap s'.heap/\(a=X.env.locals\/X.env.cells.lookup x=some a))->Q () s') (hf:X.fn x=true\/X.env.scope.names.lookup x=some .local:=by first | exact .inl rfl | exact .inr rfl | assumption):wpAny M A (storeName X.env x u) Q E s:=by
 obtain⟨m,hn,hl⟩:=id I.loc
 have hcls:(X.env.scope.kind == .class||(X.env.scope.kind == .module&&X.env.locals != X.env.globals))=false:=by rw[I.ok.kind];rfl
 have hiσ:i < σ.length:=by rw[I.len];exact(ap.mp hi).1
 have cne:=I.cne
 have tracked:∀{a:Addr}{h':Heap},(∃o,s.heap.get? a=some o/\H a=none)->Heap.SameBut a s.heap h'->HOk X.prog X.w X.K H h':=λ{a h'} ha hs b ob e=>by
  obtain⟨_,_,hfree⟩:=ha
  refine(I.hok b ob e).stay (λc w' hc q=>(hs.2 c ?_).trans q) (λ_ q=>q) λ_ _ q=>q
  rintro rfl
  rcases hc with rfl | hc
  ·rw[hfree] at e;cases e
  ·rw[hfree] at hc;cases hc
 rcases hx with hk | hk
 ·refine wpAny_storeName_local hk hn (λh' hn' hs=>?_) hcls
  obtain⟨oL,_,_,hoL,_⟩:=id hn
  refine h _ ⟨I.ok,I.os,I.bare,⟨λb o e n hb hx=>?_,λb o e n hb hx=>?_,I.base.free,λb o e hx=>?_,I.base.tups,I.base.frzs,I.base.tbls⟩,⟨_,hn',λj y v' e1 e2 e3=>?_⟩,λy c e=>?_,I.free,I.freeC,λp hp=>?_,tracked ⟨oL,hoL,I.free⟩ hs,by simpa using I.len⟩ ⟨_,hs,.inl rfl⟩
  ·exact(hs.2 b (cb (bv (ay e) I.ok.above))).trans (I.base.keep b o e n hb hx)
  ·obtain⟨sl,e1⟩:=I.base.slot b o e n hb hx
   exact⟨sl,(hs.2 b (cb (bv (ay e) I.ok.above))).trans e1⟩
  ·obtain⟨o',e1⟩:=I.base.there b o e hx
   exact⟨o',(hs.2 b (cb (bv (ay e) I.ok.above))).trans e1⟩
  ·by_cases hj:j=i
   ·subst hj
    rw[hi] at e1;cases e1
    rw[cr hiσ] at e2
    cases e2
    exact⟨u,r,.inl ⟨hk,by simp⟩⟩
   ·rw[a7 (fF hj)] at e2
    obtain⟨u',r',q⟩:=hl j y v' e1 e2 e3
    refine⟨u',r',?_⟩
    rcases q with ⟨k,e⟩ | ⟨k,c,e,z⟩
    ·refine .inl ⟨k,?_⟩
     have:y≠x:=λe=>hj (yp hN e1 (e▸hi))
     simp[this,e]
    ·exact .inr ⟨k,c,e,z.sameBut hs (cne y c e)⟩
  ·obtain⟨w',z⟩:=I.cell y c e
   exact⟨w',z.sameBut hs (cne y c e)⟩
  ·obtain⟨e,n,ne,nf,d⟩:=I.pin p hp
   exact⟨(hs.2 p.1 ne).trans e,n,ne,nf,d⟩
 ·have hfn:X.fn x=true:=by
   rcases hf with z | z
   ·exact z
   ·rw[z] at hk;cases hk
  obtain⟨c,hc⟩:=I.ok.has x (.inl hk)
  obtain⟨w',z⟩:=I.cell x c hc
  refine wpAny_storeName_cell I.ok.kind hk hc z (λh' hc' hs=>?_)
  obtain⟨oc,hoc,hocd⟩:=id z
  refine h { s with heap:=h' } ⟨I.ok,I.os,I.bare,⟨λb o e n hb hx=>?_,λb o e n hb hx=>?_,I.base.free,λb o e hx=>?_,I.base.tups,I.base.frzs,I.base.tbls⟩,⟨m,hn.sameBut hs (fF (cne x c hc)),λj y v' e1 e2 e3=>?_⟩,λy c' e=>?_,I.free,I.freeC,λp hp=>?_,tracked ⟨oc,hoc,I.freeC x c hc⟩ hs,by simpa using I.len⟩ ⟨c,hs,.inr hc⟩
  ·exact(hs.2 b (cb (bv (ay e) (I.ok.cab x c hfn hc)))).trans (I.base.keep b o e n hb hx)
  ·obtain⟨sl,e1⟩:=I.base.slot b o e n hb hx
   exact⟨sl,(hs.2 b (cb (bv (ay e) (I.ok.cab x c hfn hc)))).trans e1⟩
  ·obtain⟨o',e1⟩:=I.base.there b o e hx
   exact⟨o',(hs.2 b (cb (bv (ay e) (I.ok.cab x c hfn hc)))).trans e1⟩
  ·by_cases hj:j=i
   ·subst hj
    rw[hi] at e1;cases e1
    rw[cr hiσ] at e2
    cases e2
    exact⟨u,r,.inr ⟨.inl hk,c,hc,hc'⟩⟩
   ·rw[a7 (fF hj)] at e2
    obtain⟨u',r',q⟩:=hl j y v' e1 e2 e3
    refine⟨u',r',?_⟩
    rcases q with q | ⟨k,c',e,z'⟩
    ·exact .inl q
    ·refine .inr ⟨k,c',e,z'.sameBut hs ?_⟩
     rintro rfl
     exact hj (yp hN e1 (I.ok.inj _ _ _ e hc▸hi))
  ·by_cases hcc:c'=c
   ·subst hcc;exact⟨_,hc'⟩
   ·obtain⟨w2,z2⟩:=I.cell y c' e
    exact⟨w2,z2.sameBut hs hcc⟩
  ·obtain⟨e,n,ne,nf,d⟩:=I.pin p hp
   refine⟨(hs.2 p.1 ?_).trans e,n,ne,nf,d⟩
   intro q
   rw[q,hoc] at e
   have q':oc=p.2:=bg e
   exact d w' (by rw[← q'];exact hocd)
theorem yq {M:Model}{A:Around}{E:fN}{i:Nat}{x:Str}{v:V}{u:Value}{Q:Unit->Shared->Prop}(I:Inv X pins σ H s)(hN:X.N.Nodup)(hi:X.N[i]?=some x)(hx:Loc X.env.scope x)(r:RelV v u)
  (h:∀s',Inv X pins (σ.set i (some v)) H s'->Q () s') (hf:X.fn x=true\/X.env.scope.names.lookup x=some .local:=by first | exact .inl rfl | exact .inr rfl | assumption):wpAny M A (storeName X.env x u) Q E s:=
 wH I hN hi hx r (λs' I' _=>h s' I') hf
theorem Inv.call' {s':Shared}{ch:qA}(I:Inv X pins σ H s)(ho:s'.os=s.os)(u:Un (frs X.stack) ch H H' s.heap s'.heap)(hok:HOk X.prog X.w X.K H' s'.heap)(hg:AllBare s'.gens)
  (hch:∀b∈ch,(b∈X.ex\/X.s₀.heap.objs.size<=b)/\b≠X.env.locals/\(∀x c,X.env.cells.lookup x=some c->c≠b)/\∀p∈X.pn++pins,p.1≠b):Inv X pins σ H' s':=by
 obtain⟨h',g',d',t',o'⟩:=s'
 have e:o'=s.os:=ho
 subst e
 exact I.call (g':=g') (t':=t') (d':=d') u hok hg hch
end
abbrev XK:=Value->Option Addr->Hp->Prop
abbrev St:=List (Option V)
abbrev VK:=V->Hp->Prop
abbrev TE:=St->Hp->VK->Prop
abbrev TT:=St->Hp->(Bool->Hp->Prop)->Prop
abbrev TA:=St->Hp->(List V->Hp->Prop)->Prop
structure Ends where
 nx:St->Hp->Prop
 rt:VK
 bk:St->Hp->Prop:=λ_ _=>False
 ct:St->Hp->Prop:=λ_ _=>False
abbrev TS:=Ends->St->Hp->Prop
def EP (X:Cx)(pins:gV)(σ:St)(Q:VK)(u:Value)(s':Shared):Prop:=∃v H',Inv X pins σ H' s'/\RelV v u/\Q v H'
def TP (X:Cx)(pins:gV)(σ:St)(Q:Bool->Hp->Prop)(b:Bool)(s':Shared):Prop:=∃H',Inv X pins σ H' s'/\Q b H'
def AP (X:Cx)(pins:gV)(σ:St)(Q:List V->Hp->Prop)(us:qh)(s':Shared):Prop:=∃vs H',Inv X pins σ H' s'/\Vals vs us/\Q vs H'
def SP (X:Cx)(pins:gV)(D:Ends)(f:Flow)(s':Shared):Prop:=
 match f with
 | .next=>∃ σ' H',Inv X pins σ' H' s'/\D.nx σ' H'
 | .brk=>∃ σ' H',Inv X pins σ' H' s'/\D.bk σ' H'
 | .cont=>∃ σ' H',Inv X pins σ' H' s'/\D.ct σ' H'
 | .ret u=>∃v σ' H',Inv X pins σ' H' s'/\RelV v u/\D.rt v H'
def PE (X:Cx)(e:Expr)(t:TE):Prop:=
 ∀(pins:gV) (s:Shared) (σ:St) (H:Hp) (Q:VK),Inv X pins σ H s->t σ H Q->wpAny (model X.prog X.w) X.A (eval e X.env) (EP X pins σ Q) X.xe s
def PT (X:Cx)(e:Expr)(t:TT):Prop:=
 ∀(pins:gV) (s:Shared) (σ:St) (H:Hp) (Q:Bool->Hp->Prop),Inv X pins σ H s->t σ H Q->wpAny (model X.prog X.w) X.A (isTrue e X.env (eval e X.env)) (TP X pins σ Q) X.xe s
def PW (X:Cx)(e:Expr)(t:TT):Prop:=
 ∀(whole:Sem Value) (pins:gV) (s:Shared) (σ:St) (H:Hp) (Q:Bool->Hp->Prop),Inv X pins σ H s->t σ H Q->wpAny (model X.prog X.w) X.A (isTrue e X.env whole) (TP X pins σ Q) X.xe s
def PA (X:Cx)(es:qo)(t:TA):Prop:=
 ∀(pos:Pos) (pins:gV) (s:Shared) (σ:St) (H:Hp) (Q:List V->Hp->Prop),Inv X pins σ H s->t σ H Q->wpAny (model X.prog X.w) X.A (spliced (backTo pos (starEach es X.env))) (AP X pins σ Q) X.xe s
def PS (X:Cx)(st:Stmt)(t:TS):Prop:=
 ∀(pins:gV) (s:Shared) (σ:St) (H:Hp) (D:Ends),Inv X pins σ H s->t D σ H->wpAny (model X.prog X.w) X.A (exec st X.env) (SP X pins D) X.xe s
def PSs (X:Cx)(st:qk)(t:TS):Prop:=
 ∀(pins:gV) (s:Shared) (σ:St) (H:Hp) (D:Ends),Inv X pins σ H s->t D σ H->wpAny (model X.prog X.w) X.A (execs st X.env) (SP X pins D) X.xe s
theorem thn {α:Type}{t:Sem α}{Q Q':α->Shared->Prop}{M:Model}{A:Around}{E:fN}{s:Shared}(h:wpAny M A t Q E s)(hQ:∀a s,Q a s->Q' a s):wpAny M A t Q' E s:=ef h hQ λ_ _ x=>x
section
variable {X:Cx}
def Oh (i:Nat):TE:=fun σ H Q=>∃v,σ[i]?=some (some v)/\Q v H
def tC (v:V):TE:=λ_ H Q=>Q v H
theorem jL {i:Nat}{x:Str}{pos:Pos}(hN:X.N[i]?=some x)(hv:Vis X.env.scope x)(hd:(x == ("__debug__" : Str))=false:=by decide)(hcd:(x == ("__classdict__" : Str))=false:=by decide):PE X (.Name x pos) (Oh i):=by
 intro pins s σ H Q I h
 obtain⟨v,e,h⟩:=h
 obtain⟨m,hn,hl⟩:=I.loc
 obtain⟨u,r,l⟩:=hl i x v hN e hv
 have fin:EP X pins σ Q u s:=⟨v,H,I,r,h⟩
 rcases l with ⟨hk,hm⟩ | ⟨hk,c,hc,hcell⟩
 ·exact wpAny_Name (wpAny_loadName_local I.ok.kind hk hn hm fin) hd
 ·rcases hk with hk | hk
  ·exact wpAny_Name (wpAny_loadName_cell I.ok.kind hk hc hcell fin) hd
  ·exact wpAny_Name (wpAny_loadName_free I.ok.kind hk hc hcell fin hcd) hd
theorem Oi {i j pos}:PE X (.Constant (.int i) j pos) (tC (.int i)):=λ_ _ _ H _ I h=>wpAny_Constant_int ⟨.int i,H,I.tok _,⟨_,rfl⟩,h⟩
theorem JW {b j pos}:PE X (.Constant (.bool b) j pos) (tC (.bl b)):=λ_ _ _ H _ I h=>Constant_bool ⟨.bl b,H,I,rfl,h⟩
theorem Oj {j pos}:PE X (.Constant .none j pos) (tC .non):=λ_ _ _ H _ I h=>Constant_none ⟨.non,H,I,rfl,h⟩
theorem Ol {x j pos}:PE X (.Constant (.str x) j pos) (tC (.str x)):=λ_ _ _ H _ I h=>Calls.Constant_str ⟨.str x,H,I.tok _,⟨_,rfl⟩,h⟩
def Gl (X:Cx)(x:Str):Prop:=X.env.kindOf x=some .globalImplicit
theorem pB {E:fN}{pins:gV}{s:Shared}{σ:St}{H:Hp}{x:Str}{u:Value}{pos:Pos}{Q:fN}(I:Inv X pins σ H s)(hg:Gl X x)(hm:X.mg x=some u)(h:Q u s)
  (hd:(x == ("__debug__" : Str))=false:=by decide):wpAny (model X.prog X.w) X.A (eval (.Name x pos) X.env) Q E s:=
 mS I.ok.kind hg (Calls.loadGlobal_global (by rw[I.ok.glob];exact I.mod.glob.keeps I.bk) hm h) hd
theorem d9 {E:fN}{pins:gV}{s:Shared}{σ:St}{H:Hp}{x:Str}{u:Value}{pos:Pos}{Q:fN}(I:Inv X pins σ H s)(hg:Gl X x)(hm:X.mg x=none)(hv:bootBuiltins x=some u)(h:Q u s)
  (hn:x ≠ "__name__" := by decide) (hd:(x == ("__debug__" : Str))=false:=by decide):wpAny (model X.prog X.w) X.A (eval (.Name x pos) X.env) Q E s:=by
 obtain⟨mb,h1,h2⟩:=I.mod.blt
 exact mS I.ok.kind hg (Calls.loadGlobal_builtin (by rw[I.ok.glob];exact I.mod.glob.keeps I.bk) hm (by rw[I.ok.blt];exact h1.keeps I.bk) ((h2 x hn).trans hv) h) hd
theorem KC {x:Str}{v:V}{u:Value}{pos:Pos}(hg:Gl X x)(hm:X.mg x=some u)(r:RelV v u)(hd:(x == ("__debug__" : Str))=false:=by decide):PE X (.Name x pos) (tC v):=
 λ_ _ _ H _ I h=>pB I hg hm ⟨v,H,I,r,h⟩ hd
theorem KD {x:Str}{v:V}{u:Value}{pos:Pos}(hg:Gl X x)(hm:X.mg x=none)(hv:bootBuiltins x=some u)(r:RelV v u)(hn:x ≠ "__name__" := by decide)(hd:(x == ("__debug__" : Str))=false:=by decide):PE X (.Name x pos) (tC v):=
 λ_ _ _ H _ I h=>d9 I hg hm hv ⟨v,H,I,r,h⟩ hn hd
variable {a b:Expr}{ta tb:TE}{pos:Pos}
def tB (t:TE):TT:=fun σ H Q=>t σ H λx H1=>∃c,x=.bl c/\Q c H1
theorem Om {e:Expr}{t:TE}(h:PE X e t)(he:∀whole,isTrue e X.env whole=(do let v ← whole;standAt e.pos;holding [v] (truthy v)):=by intro _;rfl):PT X e (tB t):=by
 intro pins s σ H Q I hw
 refine isTrue_plain (thn (h pins s σ H _ I hw) ?_) (he _)
 rintro v s1 ⟨x,H1,I1,r1,q1⟩
 obtain⟨d,rfl,q⟩:=q1
 cases r1
 exact fw ⟨H1,I1,q⟩
variable {tA tB':TT}{rest:qo}
def Ul (t u:TT):TT:=fun σ H Q=>t σ H λc H1=>if c=true then u σ H1 Q else Q false H1
def tOr (t u:TT):TT:=fun σ H Q=>t σ H λc H1=>if c=true then Q true H1 else u σ H1 Q
def Um (t:TT):TT:=fun σ H Q=>t σ H λc H1=>Q (!c) H1
theorem KH (ha:PT X a tA):PW X (.BoolOp .And [a] pos) tA:=by
 intro wh pins s σ H Q I h
 refine isTrue_and (thn (ha pins s σ H Q I h) λc s1 e=>?_)
 cases c with
 | true=>exact isTrue_and_nil e
 | false=>exact e
theorem Oo (ha:PT X a tA):PW X (.BoolOp .Or [a] pos) tA:=by
 intro wh pins s σ H Q I h
 refine isTrue_or (thn (ha pins s σ H Q I h) λc s1 e=>?_)
 cases c with
 | false=>exact isTrue_or_nil e
 | true=>exact e
theorem Oq (ha:PT X a tA)(hb:PW X (.BoolOp .And (b::rest) pos) tB'):PW X (.BoolOp .And (a::b::rest) pos) (Ul tA tB'):=by
 intro wh pins s σ H Q I h
 refine isTrue_and (thn (ha pins s σ H _ I h) ?_)
 rintro c s1 ⟨H1,I1,q1⟩
 cases c with
 | true=>exact hb wh pins s1 σ H1 Q I1 q1
 | false=>exact⟨H1,I1,q1⟩
theorem Ss (ha:PT X a tA)(hb:PW X (.BoolOp .Or (b::rest) pos) tB'):PW X (.BoolOp .Or (a::b::rest) pos) (tOr tA tB'):=by
 intro wh pins s σ H Q I h
 refine isTrue_or (thn (ha pins s σ H _ I h) ?_)
 rintro c s1 ⟨H1,I1,q1⟩
 cases c with
 | true=>exact⟨H1,I1,q1⟩
 | false=>exact hb wh pins s1 σ H1 Q I1 q1
theorem Ot (ha:PT X a tA):PT X (.UnaryOp .Not a pos) (Um tA):=by
 intro pins s σ H Q I h
 exact isTrue_not (ha pins s σ H (λc H1=>Q (!c) H1) I h)
def Su (ta tb:TE):TE:=fun σ H Q=>ta σ H λx H1=>∃c,x=.bl c/\if c=true then tb σ H1 Q else Q (.bl false) H1
def Uo (ta tb:TE):TE:=fun σ H Q=>ta σ H λx H1=>∃c,x=.bl c/\if c=true then Q (.bl true) H1 else tb σ H1 Q
def Sv (ta:TE):TE:=fun σ H Q=>ta σ H λx H1=>∃c,x=.bl c/\Q (.bl (!c)) H1
theorem Ou {op}{t:TE}(h:PE X a t):PE X (.BoolOp op [a] pos) t:=λpins s σ H Q I hw=>BoolOp_one (h pins s σ H Q I hw)
theorem Ov (ha:PE X a ta)(hb:PE X (.BoolOp .And (b::rest) pos) tb):PE X (.BoolOp .And (a::b::rest) pos) (Su ta tb):=by
 intro pins s σ H Q I h
 refine BoolOp_and (thn (ha pins s σ H _ I h) ?_)
 rintro v s1 ⟨x,H1,I1,r1,q1⟩
 obtain⟨c,rfl,q1⟩:=q1
 cases r1
 refine fw ?_
 cases c with
 | true=>exact hb pins s1 σ H1 Q I1 q1
 | false=>exact⟨.bl false,H1,I1,rfl,q1⟩
theorem Sx (ha:PE X a ta)(hb:PE X (.BoolOp .Or (b::rest) pos) tb):PE X (.BoolOp .Or (a::b::rest) pos) (Uo ta tb):=by
 intro pins s σ H Q I h
 refine BoolOp_or (thn (ha pins s σ H _ I h) ?_)
 rintro v s1 ⟨x,H1,I1,r1,q1⟩
 obtain⟨c,rfl,q1⟩:=q1
 cases r1
 refine fw ?_
 cases c with
 | false=>exact hb pins s1 σ H1 Q I1 q1
 | true=>exact⟨.bl true,H1,I1,rfl,q1⟩
theorem Ox (ha:PE X a ta):PE X (.UnaryOp .Not a pos) (Sv ta):=by
 intro pins s σ H Q I h
 refine UnaryOp_ (thn (ha pins s σ H _ I h) ?_)
 rintro v s1 ⟨x,H1,I1,r1,q1⟩
 obtain⟨c,rfl,q1⟩:=q1
 cases r1
 exact not_of (fw ⟨.bl (!c),H1,I1,rfl,q1⟩)
def tIf (t:TT)(ta tb:TE):TE:=fun σ H Q=>t σ H λc H1=>if c=true then ta σ H1 Q else tb σ H1 Q
theorem HD {c:Expr}(hc:PT X c tA)(ha:PE X a ta)(hb:PE X b tb):PE X (.IfExp c a b pos) (tIf tA ta tb):=by
 intro pins s σ H Q I h
 refine wpAny_IfExp (thn (hc pins s σ H _ I h) ?_)
 rintro d s1 ⟨H1,I1,q1⟩
 cases d with
 | true=>exact ha pins s1 σ H1 Q I1 q1
 | false=>exact hb pins s1 σ H1 Q I1 q1
end
def SqL (K:W.Frag)(H:Hp)(a:Addr)(xs:List V):Prop:=
 Rd H a (.lst xs) \/
  ∃(o:Obj) (its:qB) (n:Nat),K.lookup a=some o/\o.cls=.type "list" /\ o.dict=none/\o.data=.seq its n/\its.size<=sizeLine/\Vals xs its.toList
def SqT (K:W.Frag)(H:Hp)(a:Addr)(xs:List V):Prop:=
 Rd H a (.tup xs) \/
  ∃(o:Obj) (its:qB) (n:Nat),K.lookup a=some o/\o.cls=.type "tuple" /\ o.data=.seq its n/\its.size<=sizeLine/\Vals xs its.toList
noncomputable def Up:Value->Option V
 | .none=>some .non
 | .bool b=>some (.bl b)
 | .int i _=>some (.int i)
 | .str x _=>some (.str x)
 | .bytes b _=>some (.byt b)
 | .float b _=>some (.flt b)
 | .ref a=>some (.ref a)
 | .type n=>some (.ty n)
 | _=>none
theorem RelV.abs {x:V}{u:Value}(r:RelV x u):Up u=some x:=by
 cases x with
 | non=>cases r;rfl
 | bl _=>cases r;rfl
 | int _=>obtain⟨t,rfl⟩:=r;rfl
 | str _=>obtain⟨t,rfl⟩:=r;rfl
 | byt _=>obtain⟨t,rfl⟩:=r;rfl
 | flt _=>obtain⟨t,rfl⟩:=r;rfl
 | ref _=>cases r;rfl
 | ty _=>cases r;rfl
theorem RelV.inj {x y:V}{u:Value}(r:RelV x u)(q:RelV y u):x=y:=bg (r.abs.symm.trans q.abs)
theorem Vals.inj:∀{xs ys:List V}{us:qh},Vals xs us->Vals ys us->xs=ys
 | _,_,_,.nil,.nil=>rfl
 | _,_,_,.cons r t,.cons r' t'=>by rw[r.inj r',Vals.inj t t']
section
variable {X:Cx}{pins:gV}{σ:St}{H:Hp}{s:Shared}{a:Addr}{xs ys:List V}
theorem SqL.of {K:W.Frag}(h:H a=some (.lst xs)):SqL K H a xs:=.inl (.inl h)
theorem SqT.of {K:W.Frag}(h:H a=some (.tup xs)):SqT K H a xs:=.inl (.inl h)
theorem Inv.list (I:Inv X pins σ H s)(h:SqL X.K H a xs):∃its:List Value,Vals xs its/\PlainL s.heap a its.toArray/\xs.length<=sizeLine:=by
 rcases h with h | ⟨o,its,n,hk,hc,hd,hs,hz,r⟩
 ·obtain⟨z,its,n,r,e⟩:=h.ok I.hok
  exact⟨its,r,⟨_,n,e,rfl,rfl,rfl⟩,z⟩
 ·refine⟨its.toList,r,⟨o,n,I.kIn a o hk,hc,hd,by simpa using hs⟩,?_⟩
  have e:=r.length
  simp only[ff] at e
  omega
theorem Inv.tuple (I:Inv X pins σ H s)(h:SqT X.K H a xs):∃its:List Value,Vals xs its/\IsTup s.heap a its.toArray/\xs.length<=sizeLine:=by
 rcases h with h | ⟨o,its,n,hk,hc,hs,hz,r⟩
 ·obtain⟨z,its,r,p⟩:=h.ok I.hok
  exact⟨its,r,p,z⟩
 ·refine⟨its.toList,r,⟨o,I.kIn a o hk,hc,n,by simpa using hs⟩,?_⟩
  have e:=r.length
  simp only[ff] at e
  omega
theorem Inv.list_inj (I:Inv X pins σ H s)(h:SqL X.K H a xs)(h':SqL X.K H a ys):xs=ys:=by
 obtain⟨its,r,⟨o,n,e,_,_,d⟩,_⟩:=I.list h
 obtain⟨its',r',⟨o',n',e',_,_,d'⟩,_⟩:=I.list h'
 rw[e] at e';cases e'
 rw[d] at d'
 injection d' with d1 _
 have:its=its':=by simpa using ce Array.toList d1
 subst this
 exact r.inj r'
theorem Inv.tuple_inj (I:Inv X pins σ H s)(h:SqT X.K H a xs)(h':SqT X.K H a ys):xs=ys:=by
 obtain⟨its,r,⟨o,e,_,n,d⟩,_⟩:=I.tuple h
 obtain⟨its',r',⟨o',e',_,n',d'⟩,_⟩:=I.tuple h'
 rw[e] at e';cases e'
 rw[d] at d'
 injection d' with d1 _
 have:its=its':=by simpa using ce Array.toList d1
 subst this
 exact r.inj r'
end
abbrev Cx.wish (X:Cx)(E:fN):Cx:={ X with xe:=E }
abbrev Cx.nox (X:Cx):Cx:=X.wish λ_ _=>False
theorem Cx.Ok.wish {X:Cx}(ok:X.Ok)(E:fN):(X.wish E).Ok:=
 ⟨ok.mod,ok.kind,ok.glob,ok.blt,ok.above,ok.inj,ok.has,ok.cab,ok.hd,ok.frames,ok.stk,ok.exf,ok.bs,ok.bsz,ok.noex,ok.exfs,ok.funs,ok.frf⟩
theorem Cx.Ok.unwish {X:Cx}{E:fN}(ok:(X.wish E).Ok):X.Ok:=
 ⟨ok.mod,ok.kind,ok.glob,ok.blt,ok.above,ok.inj,ok.has,ok.cab,ok.hd,ok.frames,ok.stk,ok.exf,ok.bs,ok.bsz,ok.noex,ok.exfs,ok.funs,ok.frf⟩
section
variable {X:Cx}{pins:gV}{σ:St}{H:Hp}{s:Shared}{E:fN}
theorem Inv.wish (I:Inv X pins σ H s)(E:fN):Inv (X.wish E) pins σ H s:=⟨I.ok.wish E,I.os,I.bare,I.base,I.loc,I.cell,I.free,I.freeC,I.pin,I.hok,I.len⟩
theorem Inv.unwish (I:Inv (X.wish E) pins σ H s):Inv X pins σ H s:=⟨I.ok.unwish,I.os,I.bare,I.base,I.loc,I.cell,I.free,I.freeC,I.pin,I.hok,I.len⟩
theorem SP.unwish {D:Ends}{f:Flow}{s':Shared}(h:SP (X.wish E) pins D f s'):SP X pins D f s':=by
 cases f with
 | next=>obtain⟨σ',H',I,q⟩:=h;exact⟨σ',H',I.unwish,q⟩
 | brk=>obtain⟨σ',H',I,q⟩:=h;exact⟨σ',H',I.unwish,q⟩
 | cont=>obtain⟨σ',H',I,q⟩:=h;exact⟨σ',H',I.unwish,q⟩
 | ret u=>obtain⟨v,σ',H',I,r,q⟩:=h;exact⟨v,σ',H',I.unwish,r,q⟩
theorem PSs.nox {st:qk}{t:TS}(h:PSs X.nox st t):PSs X st t:=λpins s σ H D I hw=>
 ef (h pins s σ H D (I.wish _) hw) (λ_ _ q=>q.unwish) λ_ _ z=>False.elim z
end
section
variable {X:Cx}{st:Stmt}{rest:qk}{t u:TS}{e:Expr}{te:TE}{pos:Pos}
def SJ:TS:=λD σ H=>D.nx σ H
def Uq (t u:TS):TS:=λD σ H=>t { D with nx:=u D } σ H
theorem Bk:PSs X [] SJ:=λ_ _ σ H _ I h=>kD ⟨σ,H,I,h⟩
theorem pW (h1:PS X st t)(h2:PSs X rest u):PSs X (st::rest) (Uq t u):=by
 intro pins s σ H D I h
 refine ll (thn (h1 pins s σ H { D with nx:=u D } I h) λf s1 q=>?_)
 cases f with
 | next=>
  obtain⟨σ',H',I',q⟩:=q
  exact h2 pins s1 σ' H' D I' q
 | ret v=>exact q
 | brk=>exact q
 | cont=>exact q
theorem vI (h1:PS X st t):PSs X [st] t:=by
 intro pins s σ H D I h
 refine ll (thn (h1 pins s σ H D I h) λf s1 q=>?_)
 cases f with
 | next=>exact kD q
 | ret v=>exact q
 | brk=>exact q
 | cont=>exact q
theorem Inv.quiet {pins:gV}{σ:St}{H:Hp}{s:Shared}(I:Inv X pins σ H s):interactive X.env=false:=by simp[interactive,I.ok.kind]
def SM (te:TE):TS:=λD σ H=>te σ H λ_ H1=>D.nx σ H1
theorem pC (he:PE X e te)(hs:swapsWith e none pos.line X.env=pure false:=by rfl):PS X (.Expr e pos) (SM te):=by
 intro pins s σ H D I h
 exact wpAny_Expr_any (thn (he pins s σ H _ I h) λv s1 ⟨x,H1,I1,r1,q1⟩=>⟨σ,H1,I1,q1⟩) I.quiet hs
def Ur (te:TE):TS:=λD σ H=>te σ H D.rt
theorem Oz (he:PE X e te):PS X (.Return (some e) pos) (Ur te):=by
 intro pins s σ H D I h
 exact wpAny_Return_some (thn (he pins s σ H _ I h) λv s1 ⟨x,H1,I1,r1,q1⟩=>⟨x,σ,H1,I1,r1,q1⟩)
def Us (c:TT)(t u:TS):TS:=λD σ H=>c σ H λb H1=>if b=true then t D σ H1 else u D σ H1
theorem JX {c:Expr}{a b:qk}{tc:TT}(hc:PT X c tc)(ha:PSs X a t)(hb:PSs X b u):PS X (.If c a b pos) (Us tc t u):=by
 intro pins s σ H D I h
 refine wpAny_If (thn (hc pins s σ H _ I h) ?_)
 rintro d s1 ⟨H1,I1,q1⟩
 cases d with
 | true=>exact ha pins s1 σ H1 D I1 q1
 | false=>exact hb pins s1 σ H1 D I1 q1
def OD:TS:=λ_ _ _=>False
theorem HF:PS X st OD:=λ_ _ _ _ _ _ h=>h.elim
end
abbrev TG:=V->St->Hp->(St->Hp->Prop)->Prop
abbrev TGs:=List V->St->Hp->(St->Hp->Prop)->Prop
def PG (X:Cx)(target:Expr)(t:TG):Prop:=
 ∀(pins:gV) (s:Shared) (σ:St) (H:Hp) (v:V) (u:Value) (Q:St->Hp->Prop),Inv X pins σ H s->RelV v u->t v σ H Q->
  wpAny (model X.prog X.w) X.A (assign target X.env u) (λ_ s'=>∃ σ' H',Inv X pins σ' H' s'/\Q σ' H') X.xe s
def PGs (X:Cx)(ts:qo)(t:TGs):Prop:=
 ∀(pins:gV) (s:Shared) (σ:St) (H:Hp) (vs:List V) (us:qh) (Q:St->Hp->Prop),Inv X pins σ H s->Vals vs us->t vs σ H Q->
  wpAny (model X.prog X.w) X.A (assignInOrder ((assignEach ts X.env).map (·.2)) us) (λ_ s'=>∃ σ' H',Inv X pins σ' H' s'/\Q σ' H') X.xe s
abbrev HH:=V->V->V->Hp->(Hp->Prop)->Prop
def OJ (X:Cx)(t:HH):Prop:=
 ∀(pins:gV) (s:Shared) (σ:St) (H:Hp) (o i v:V) (ov iv u:Value) (Q:Hp->Prop),Inv X pins σ H s->RelV o ov->RelV i iv->RelV v u->t o i v H Q->
  wpAny (model X.prog X.w) X.A (setItem ov iv u) (λ_ s'=>∃H',Inv X pins σ H' s'/\Q H') X.xe s
section
variable {X:Cx}{pos:Pos}
def sV (i:Nat):TG:=λv σ H Q=>Q (σ.set i (some v)) H
theorem vJ {i:Nat}{x:Str}(hN:X.N.Nodup)(hi:X.N[i]?=some x)(hx:Loc X.env.scope x)(hf:X.fn x=true\/X.env.scope.names.lookup x=some .local:=by first | exact .inl rfl | exact .inr rfl | assumption):PG X (.Name x pos) (sV i):=by
 intro pins s σ H v u Q I r h
 exact wpAny_assign_Name (yq I hN hi hx r (λs' I'=>⟨_,H,I',h⟩) hf)
def O3:TGs:=λvs σ H Q=>vs=[]/\Q σ H
def JZ (t:TG)(u:TGs):TGs:=λvs σ H Q=>∃v r,vs=v::r/\t v σ H fun σ' H'=>u r σ' H' Q
theorem mz:PGs X [] O3:=by
 intro pins s σ H vs us Q I r h
 obtain⟨e,h⟩:=h
 subst e
 cases r
 exact assignInOrder_nil ⟨σ,H,I,h⟩
theorem eZ {e:Expr}{es:qo}{t:TG}{u:TGs}(h1:PG X e t)(h2:PGs X es u)
  (hs:(assignEach (e::es) X.env).map (·.2)=assign e X.env::(assignEach es X.env).map (·.2):=by rfl):PGs X (e::es) (JZ t u):=by
 intro pins s σ H vs us Q I r h
 obtain⟨v,vr,e1,h⟩:=h
 subst e1
 cases r with
 | cons r rr=>
  rw[hs]
  refine assignInOrder_cons (thn (h1 pins s σ H _ _ _ I r h) ?_)
  rintro _ s1 ⟨σ1,H1,I1,q1⟩
  exact h2 pins s1 σ1 H1 _ _ Q I1 rr q1
def O4 (K:W.Frag)(n:Nat)(t:TGs):TG:=λv σ H Q=>∃a xs,v=.ref a/\SqT K H a xs/\xs.length=n/\t xs σ H Q
theorem pD {es:qo}{k:Nat}{t:TGs}{n:Nat}(hc:X.calm=true)(h:PGs X es t)
  (hn:(assignEach es X.env).length=n:=by rfl) (hst:(assignEach es X.env).findIdx? (·.1)=none:=by rfl):PG X (.Tuple es k pos) (O4 X.K n t):=by
 intro pins s σ H v u Q I r hw
 obtain⟨a,xs,e1,hq,hl,hw⟩:=hw
 subst e1
 cases r
 obtain⟨its,rv,ht,hz⟩:=I.tuple hq
 refine assign_Tuple_tuple (I.ok.hd hc) ht (by simp[hn,← hl,rv.length]) hst λh' hx=>?_
 have I1:Inv X pins σ H { s with heap:=h' }:=I.kept (t':=s.toks) λb o e=>hx b o (cb (ay e)) e
 exact h pins _ σ H xs _ Q I1 (by simpa using rv) hw
def Ut (to ti:TE)(t:HH):TG:=λv σ H Q=>to σ H λo H1=>ti σ H1 λi H2=>t o i v H2 λH3=>Q σ H3
theorem O5 {o i:Expr}{to ti:TE}{t:HH}(ho:PE X o to)(hi:PE X i ti)(hs:OJ X t)
  (ha:∀v,assign (.Subscript o i pos) X.env v=(do
   let ov ← holding [v] (eval o X.env)
   let iv ← holding [v,ov] (eval i X.env)
   standAt pos
   holding [v,ov,iv] (setItem ov iv v)
   release [v,ov,iv] []):=by intro _;rfl):PG X (.Subscript o i pos) (Ut to ti t):=by
 intro pins s σ H v u Q I r h
 rw[ha]
 refine ac (eP (thn (ho pins s σ H _ I h) ?_))
 rintro ov s1 ⟨x,H1,I1,r1,q1⟩
 refine ac (eP (thn (hi pins s1 σ H1 _ I1 q1) ?_))
 rintro iv s2 ⟨y,H2,I2,r2,q2⟩
 refine ac (pS (ac (eP (thn (hs pins s2 σ H2 x y v ov iv u _ I2 r1 r2 r q2) ?_))))
 rintro _ s3 ⟨H3,I3,q3⟩
 exact wpAny_release ⟨σ,H3,I3,q3⟩
def HJ (te:TE)(g:TG):TS:=λD σ H=>te σ H λx H1=>g x σ H1 D.nx
theorem Ew {tg e:Expr}{te:TE}{g:TG}(he:PE X e te)(hg:PG X tg g)(hs:swapsWithSole [tg] e pos.line X.env=pure false:=by rfl)(hw:swappedStores [tg] e X.env=pure none:=by rfl)
  (h1:(assignEach [tg] X.env).map (·.2)=[assign tg X.env]:=by rfl):PS X (.Assign [tg] e pos) (HJ te g):=by
 intro pins s σ H D I h
 refine wpAny_Assign_stores (thn (he pins s σ H _ I h) ?_) hs hw
 rintro v s1 ⟨x,H1,I1,r1,q1⟩
 rw[h1]
 exact thn (hg pins s1 σ H1 x v _ I1 r1 q1) λ_ s2 q=>q
theorem uJ {i:Nat}{x:Str}{e:Expr}{te:TE}{pos':Pos}(hN:X.N.Nodup)(hi:X.N[i]?=some x)(hx:Loc X.env.scope x)(he:PE X e te)(hs:swapsWith e (some (.Name x pos')) pos.line X.env=pure false:=by rfl)(hf:X.fn x=true\/X.env.scope.names.lookup x=some .local:=by first | exact .inl rfl | exact .inr rfl | assumption):
  PS X (.Assign [.Name x pos'] e pos) (HJ te (sV i)):=by
 intro pins s σ H D I h
 refine wpAny_Assign_Name (thn (he pins s σ H _ I h) ?_) hs
 rintro v s1 ⟨y,H1,I1,r1,q1⟩
 exact yq I1 hN hi hx r1 (λs2 I2=>⟨_,H1,I2,q1⟩) hf
end
section
variable {X:Cx}{pos:Pos}
def O6 (c:TT)(tb:TS):TS:=λD σ H=>∃W:Nat->St->Hp->Prop,(∃m,W m σ H)/\∀m σ H,W m σ H->
 c σ H λb H1=>if b=true then ∃N:St->Hp->Prop,(∀ σ' H',N σ' H'->∃m',m' < m/\W m' σ' H')/\tb { D with nx:=N,ct:=N,bk:=D.nx } σ H1 else D.nx σ H1
theorem HN {c:Expr}{body:qk}{tc:TT}{tb:TS}(hp:PassesOwn (model X.prog X.w) X.A X.env X.xe)(hc:PT X c tc)(hb:PSs X body tb):PS X (.While c body [] pos) (O6 tc tb):=by
 intro pins s σ H D I h
 obtain⟨W,⟨m0,w0⟩,turn⟩:=h
 refine wpAny_While (codeAny_whileLoop (λn s'=>∃ σ' H',Inv X pins σ' H' s'/\W n σ' H') ?_ m0 ⟨σ,H,I,w0⟩)
 rintro n s1 ⟨σ1,H1,I1,w1⟩
 refine ib hp (thn (hc pins s1 σ1 H1 _ I1 (turn n σ1 H1 w1)) ?_)
 rintro b s2 ⟨H2,I2,q2⟩
 cases b with
 | true=>
  obtain⟨N,hN,q2⟩:=q2
  rw[bp rfl]
  refine ib hp (thn (hb pins s2 σ1 H2 _ I2 q2) λf s3 q3=>?_)
  cases f with
  | next=>
   obtain⟨σ3,H3,I3,n3⟩:=q3
   obtain⟨m',hm,w3⟩:=hN σ3 H3 n3
   exact⟨m',hm,σ3,H3,I3,w3⟩
  | cont=>
   obtain⟨σ3,H3,I3,n3⟩:=q3
   obtain⟨m',hm,w3⟩:=hN σ3 H3 n3
   exact⟨m',hm,σ3,H3,I3,w3⟩
  | brk=>exact q3
  | ret v=>exact q3
 | false=>
  rw[a9 be]
  exact kD ⟨σ1,H2,I2,q2⟩
end
structure It where
 go:Nat->Hp->Prop
 yld:Nat->Hp->V->Hp->Prop
 stop:Nat->Hp->Prop
def j6 (X:Cx)(pins:gV)(H:Hp)(b:Addr):Prop:=
 H b=none/\b≠X.env.locals/\b∉X.fs/\(b∈X.ex\/X.s₀.heap.objs.size<=b)/\(∀x c,X.env.cells.lookup x=some c->c≠b)/\∀p∈X.pn++pins,p.1≠b
theorem Inv.fpOk {X:Cx}{pins:gV}{σ:St}{H H':Hp}{s:Shared}{b:Addr}(I:Inv X pins σ H s)(hb:s.heap.objs.size<=b)(hn:H' b=none):j6 X pins H' b:=by
 refine⟨hn,i0 (bv I.lt hb),I.nofs hb,.inr (f7 I.sz hb),λx c e z=>?_,λp hp z=>?_⟩
 ·obtain⟨v,q⟩:=I.cell x c e
  exact absurd (bv q.lt (by rw[z];exact hb)) (dv _)
 ·exact absurd (bv (ay (I.pin p hp).1) (by rw[z];exact hb)) (dv _)
structure Turn (P:Program)(w:World)(K:W.Frag)(tg:Expr)(J:It)(fp:qA)(it:Addr)(tn:Nat->Heap->Prop):Prop where
 mem:it∈fp
 obj:∀i h,tn i h->∀b∈fp,∃o,h.get? b=some o/\∀v,o.data≠.cell v
 keep:∀i h h',tn i h->(∀b∈fp,∀o,h.get? b=some o->h'.get? b=some o)->tn i h'
 item:∀(X:Cx),X.prog=P->X.w=w->X.K=K->X.calm=true->∀(i:Nat) (pins:gV) (s:Shared) (σ:St) (H:Hp) (E:fN),Inv X pins σ H s->(∀b∈fp,j6 X pins H b)->tn i s.heap->J.go i H->
  wpAny (model P w) X.A (pyNext (.ref it)) (λr s1=>∃u,r=some u /\
   wpAny (model P w) X.A (letOwnedTupleGo tg (.ref it) u) (λ_ s2=>∃x H',Inv X pins σ H' s2/\RelV x u/\J.yld i H x H'/\tn (i+1) s2.heap/\∀b∈fp,H' b=none) E s1) E s
 done:∀(X:Cx),X.prog=P->X.w=w->X.K=K->X.calm=true->∀(i:Nat) (pins:gV) (s:Shared) (σ:St) (H:Hp) (E:fN),Inv X pins σ H s->(∀b∈fp,j6 X pins H b)->tn i s.heap->J.stop i H->
  wpAny (model P w) X.A (pyNext (.ref it)) (λr s1=>r=none/\Inv X pins σ H s1) E s
 self:∀(A:Around) (i:Nat) (s:Shared) (Q:fN) (E:fN),tn i s.heap->Q (.ref it) s->wpAny (model P w) A (pyIter (.ref it)) Q E s
abbrev TI:=St->Hp->(It->Hp->Prop)->Prop
def PIE (X:Cx)(pins:gV)(σ:St)(tg:Expr)(R:It->Hp->Prop)(itv:Value)(s2:Shared):Prop:=
 ∃(it:Addr) (fp:qA) (tn:Nat->Heap->Prop) (J:It) (H':Hp),itv=.ref it/\Inv X pins σ H' s2/\Turn X.prog X.w X.K tg J fp it tn/\tn 0 s2.heap/\(∀b∈fp,j6 X pins H' b)/\R J H'
def PI (X:Cx)(tg iter:Expr)(wi:TI):Prop:=
 ∀(pins:gV) (s:Shared) (σ:St) (H:Hp) (R:It->Hp->Prop),Inv X pins σ H s->wi σ H R->
  wpAny (model X.prog X.w) X.A (eval iter X.env) (λv s1=>wpAny (model X.prog X.w) X.A (pyIter v) (PIE X pins σ tg R) X.xe s1) X.xe s
theorem pX {M:Model}{A:Around}{E:fN}{s:Shared}{tg:Expr}{it:Addr}{u:Value}{o:Obj}{n:String}{vs:qB}{Q:Unit->Shared->Prop}(ho:s.heap.get? it=some o)(hc:o.cls=.type n)(hd:o.data=.fields vs)
    (hn:["enumerate", "zip", "dict_itemiterator", "dict_reverseitemiterator", "odict_iterator", "itertools.zip_longest", "itertools.pairwise"].contains n=false) (hQ:Q () s):wpAny M A (letOwnedTupleGo tg (.ref it) u) Q E s:=by
  unfold letOwnedTupleGo
  cases tg <;> first
    | exact al hQ
    | (cases u <;> first
        | exact al hQ
        | (refine ac (wpAny_load ho ?_)
           rw[hc,hd]
           show wpAny M A (if (["enumerate", "zip", "dict_itemiterator", "dict_reverseitemiterator", "odict_iterator", "itertools.zip_longest", "itertools.pairwise"].contains n&&vs[0]? == some (rawInt _))=true then _ else _) Q E s
           rw[a9 (by intro h;rw[hn,mT] at h;cases h)]
           exact al hQ))
def Itl (K:W.Frag)(a:Addr):It:=
 ⟨λi H=>∃xs x,SqL K H a xs/\xs[i]?=some x,λi H x H'=>H'=H/\∀xs,SqL K H a xs->xs[i]?=some x,λi H=>∃xs,SqL K H a xs/\xs.length<=i⟩
def Itt (K:W.Frag)(a:Addr):It:=
 ⟨λi H=>∃xs x,SqT K H a xs/\xs[i]?=some x,λi H x H'=>H'=H/\∀xs,SqT K H a xs->xs[i]?=some x,λi H=>∃xs,SqT K H a xs/\xs.length<=i⟩
def Itr (lo:Int)(n:Nat):It:=⟨λi _=>i < n,λi H x H'=>H'=H/\x=.int (lo+i),λi _=>n<=i⟩
theorem Ey {P:Program}{w:World}{K:W.Frag}{tg:Expr}(a it:Addr):Turn P w K tg (Itl K a) [it] it (λi h=>h.IsListIter it a i) where
 mem:=by simp
 obj:=λi h st b hb=>by
  have e:b=it:=by simpa using hb
  subst e
  obtain⟨o,e,c,d⟩:=st
  exact⟨o,e,λv z=>by rw[d] at z;cases z⟩
 keep:=λi h h' st k=>st.at λo e=>k it (by simp) o e
 item:=by
  intro X hP hw hK hc i pins s σ H E I hf st hg
  subst hP hw hK
  obtain⟨xs,x,hq,hx⟩:=hg
  obtain⟨its,rv,p,hz⟩:=I.list hq
  obtain⟨u,hu,ru⟩:=rv.get hx
  obtain⟨f0,f1,f2,f3,f4,f5⟩:=hf it (by simp)
  refine wpAny_pyNext_list_item st p.isList (x:=u) (by simpa using hu) λh' st' sb=>?_
  have I1:Inv X pins σ H { s with heap:=h' }:=I.turned (t':=s.toks) (λb o hb e=>(sb.2 b hb).trans e) f0 f1 f3 f4 f5
  obtain⟨o,e,c,d⟩:=id st'
  exact⟨u,rfl,pX (s:={ s with heap:=h' }) e c d (by decide) ⟨x,H,I1,ru,⟨rfl,λys hy=>by rw[I.list_inj hy hq];exact hx⟩,st',λb hb=>(hf b hb).1⟩⟩
 done:=by
  intro X hP hw hK hc i pins s σ H E I hf st hg
  subst hP hw hK
  obtain⟨xs,hq,hx⟩:=hg
  obtain⟨its,rv,p,hz⟩:=I.list hq
  obtain⟨f0,f1,f2,f3,f4,f5⟩:=hf it (by simp)
  have hl:=rv.length
  exact wpAny_pyNext_list_end (I.ok.hd hc) st p.isList (by simp;omega) λh' eb=>⟨rfl,I.turned (t':=s.toks) (λb o hb e=>eb b o hb e) f0 f1 f3 f4 f5⟩
 self:=λ_ _ _ _ _ st h=>wpAny_pyIter_listiter st h
theorem CW {P:Program}{w:World}{K:W.Frag}{tg:Expr}(a it:Addr):Turn P w K tg (Itt K a) [it] it (λi h=>h.IsTupleIter it a i) where
 mem:=by simp
 obj:=λi h st b hb=>by
  have e:b=it:=by simpa using hb
  subst e
  obtain⟨o,e,c,d⟩:=st
  exact⟨o,e,λv z=>by rw[d] at z;cases z⟩
 keep:=λi h h' st k=>st.at λo e=>k it (by simp) o e
 item:=by
  intro X hP hw hK hc i pins s σ H E I hf st hg
  subst hP hw hK
  obtain⟨xs,x,hq,hx⟩:=hg
  obtain⟨its,rv,p,hz⟩:=I.tuple hq
  obtain⟨u,hu,ru⟩:=rv.get hx
  obtain⟨f0,f1,f2,f3,f4,f5⟩:=hf it (by simp)
  refine wpAny_pyNext_tuple_item st (show s.heap.IsTuple a its.toArray from p) (x:=u) (by simpa using hu) λh' st' sb=>?_
  have I1:Inv X pins σ H { s with heap:=h' }:=I.turned (t':=s.toks) (λb o hb e=>(sb.2 b hb).trans e) f0 f1 f3 f4 f5
  obtain⟨o,e,c,d⟩:=id st'
  exact⟨u,rfl,pX (s:={ s with heap:=h' }) e c d (by decide) ⟨x,H,I1,ru,⟨rfl,λys hy=>by rw[I.tuple_inj hy hq];exact hx⟩,st',λb hb=>(hf b hb).1⟩⟩
 done:=by
  intro X hP hw hK hc i pins s σ H E I hf st hg
  subst hP hw hK
  obtain⟨xs,hq,hx⟩:=hg
  obtain⟨its,rv,p,hz⟩:=I.tuple hq
  obtain⟨f0,f1,f2,f3,f4,f5⟩:=hf it (by simp)
  have hl:=rv.length
  exact wpAny_pyNext_tuple_end (I.ok.hd hc) st (show s.heap.IsTuple a its.toArray from p) (by simp;omega) λh' eb=>⟨rfl,I.turned (t':=s.toks) (λb o hb e=>eb b o hb e) f0 f1 f3 f4 f5⟩
 self:=λ_ _ _ _ _ st h=>wpAny_pyIter_tupleiter st h
theorem CZ {P:Program}{w:World}{K:W.Frag}{tg:Expr}(it:Addr)(lo:Int)(n:Nat):Turn P w K tg (Itr lo n) [it] it (λi h=>IsRangeIter h it (lo+(i:Nat)*1) ((n:Int) - (i:Nat)) 1) where
 mem:=by simp
 obj:=λi h st b hb=>by
  have e:b=it:=by simpa using hb
  subst e
  exact⟨_,st,λv z=>by
   have z':Data.fields _=Data.cell v:=z
   cases z'⟩
 keep:=λi h h' st k=>k it (by simp) _ st
 item:=by
  intro X hP hw hK hc i pins s σ H E I hf st hg
  subst hP hw hK
  obtain⟨f0,f1,f2,f3,f4,f5⟩:=hf it (by simp)
  have W:=Walks.range (prog:=X.prog) (w:=X.w) (I.ok.hd hc) it lo 1 n
  refine W.item i s _ _ hg st λv h' tk hv st' kk=>?_
  obtain⟨t,rfl⟩:=hv
  have I1:Inv X pins σ H { s with heap:=h',toks:=tk }:=I.turned (λb o hb e=>kk b o (by simpa using hb) e) f0 f1 f3 f4 f5
  refine⟨_,rfl,pX (s:={ s with heap:=h',toks:=tk }) (n := "range_iterator") st' rfl rfl (by decide) ⟨.int (lo+i),H,I1,⟨t,?_⟩,⟨rfl,rfl⟩,st',λb hb=>(hf b hb).1⟩⟩
  rw[Int.mul_one]
 done:=by
  intro X hP hw hK hc i pins s σ H E I hf st hg
  subst hP hw hK
  obtain⟨f0,f1,f2,f3,f4,f5⟩:=hf it (by simp)
  exact wpAny_pyNext_range_end (I.ok.hd hc) st (by have:n<=i:=hg;omega) λh' eb=>⟨rfl,I.turned (t':=s.toks) (λb o hb e=>eb b o hb e) f0 f1 f3 f4 f5⟩
 self:=λ_ _ _ _ _ st h=>wpAny_pyIter_rangeiter st h
section
variable {X:Cx}{tg:Expr}
def SN (K:W.Frag)(tl:TE):TI:=fun σ H R=>tl σ H λx H1=>∃a,x=.ref a/\(∃xs,SqL K H1 a xs)/\R (Itl K a) H1
def Uu (K:W.Frag)(tl:TE):TI:=fun σ H R=>tl σ H λx H1=>∃a,x=.ref a/\(∃xs,SqT K H1 a xs)/\R (Itt K a) H1
theorem KJ {l:Expr}{tl:TE}(hl:PE X l tl):PI X tg l (SN X.K tl):=by
 intro pins s σ H R I h
 refine thn (hl pins s σ H _ I h) ?_
 rintro v s1 ⟨x,H1,I1,r1,q1⟩
 obtain⟨a,e,⟨xs,hq⟩,q⟩:=q1
 subst e
 cases r1
 obtain⟨its,rv,p,hz⟩:=I1.list hq
 refine eD p.isList ?_
 refine⟨s1.heap.objs.size,[s1.heap.objs.size],_,_,H1,rfl,I1.kept (t':=s1.toks) λb o e=>ae _ e,Ey a _,⟨_,am _ rfl,rfl,rfl⟩,λb hb=>?_,q⟩
 have e:b=s1.heap.objs.size:=by simpa using hb
 subst e
 exact I1.fpOk (aS _) (I1.hok.fresh (aS _))
theorem O7 {l:Expr}{tl:TE}(hl:PE X l tl):PI X tg l (Uu X.K tl):=by
 intro pins s σ H R I h
 refine thn (hl pins s σ H _ I h) ?_
 rintro v s1 ⟨x,H1,I1,r1,q1⟩
 obtain⟨a,e,⟨xs,hq⟩,q⟩:=q1
 subst e
 cases r1
 obtain⟨its,rv,p,hz⟩:=I1.tuple hq
 refine eJ (show s1.heap.IsTuple a its.toArray from p) ?_
 refine⟨s1.heap.objs.size,[s1.heap.objs.size],_,_,H1,rfl,I1.kept (t':=s1.toks) λb o e=>ae _ e,CW a _,⟨_,am _ rfl,rfl,rfl⟩,λb hb=>?_,q⟩
 have e:b=s1.heap.objs.size:=by simpa using hb
 subst e
 exact I1.fpOk (aS _) (I1.hok.fresh (aS _))
theorem yr {pins:gV}{σ:St}{H:Hp}{s:Shared}{R:It->Hp->Prop}{E:fN}{lo hi:Int}{t u v:Tok}{tk:Nat}(I:Inv X pins σ H s)(h1:-(2 ^ 62)<=lo)(h2:lo < 2 ^ 62)(h3:-(2 ^ 62)<=hi)(h4:hi < 2 ^ 62)
  (q:R (Itr lo (hi - lo).toNat) H):wpAny (model X.prog X.w) X.A (pyIter (.ref s.heap.objs.size)) (PIE X pins σ tg R) E { s with heap:=s.heap.push { cls:=.type "range",data:=.fields #[.int lo t,.int hi u,.int 1 v] },toks:=tk }:=by
 refine wpAny_pyIter_range (IsRange.new ..) (small_one h1 h2 h3 h4) ?_
 have I1:Inv X pins σ H { s with heap:=s.heap.push { cls:=.type "range",data:=.fields #[.int lo t,.int hi u,.int 1 v] },toks:=tk }:=I.kept λb o e=>ae _ e
 refine⟨(s.heap.push { cls:=.type "range",data:=.fields #[.int lo t,.int hi u,.int 1 v] }).objs.size,[(s.heap.push { cls:=.type "range",data:=.fields #[.int lo t,.int hi u,.int 1 v] }).objs.size],_,_,H,rfl,
  I1.kept (t':=tk) λb o e=>ae _ e,CZ _ lo (hi - lo).toNat,?_,λb hb=>?_,q⟩
 ·have e1:lo+((0:Nat):Int)*1=lo:=by simp
  have e2:(((hi - lo).toNat:Nat):Int) - ((0:Nat):Int)=Builtin.Range.rangeSize lo hi 1:=by rw[rangeSize_one];split <;> omega
  show IsRangeIter _ _ (lo+((0:Nat):Int)*1) ((((hi - lo).toNat:Nat):Int) - ((0:Nat):Int)) 1
  rw[e1,e2]
  exact am _ rfl
 ·have e:b=(s.heap.push { cls:=.type "range",data:=.fields #[.int lo t,.int hi u,.int 1 v] }).objs.size:=by simpa using hb
  subst e
  exact I1.fpOk (aS _) (I1.hok.fresh (aS _))
def SQ (ta:TA):TI:=fun σ H R=>ta σ H λvs H1=>∃j:Int,vs=[.int j]/\-(2 ^ 62)<=j/\j < 2 ^ 62/\R (Itr 0 j.toNat) H1
def SX (ta:TA):TI:=fun σ H R=>ta σ H λvs H1=>∃i j:Int,vs=[.int i,.int j]/\(-(2 ^ 62)<=i/\i < 2 ^ 62/\-(2 ^ 62)<=j/\j < 2 ^ 62)/\R (Itr i (j - i).toNat) H1
theorem Ez {a:Expr}{ta:TA}{p pos:Pos}(hg:Gl X "range")(hm:X.mg "range" = none)(ha:PA X [a] ta)(hs:starEach [a] X.env=[(false,eval a X.env)]:=by rfl):PI X tg (.Call (.Name "range" p) [a] [] pos) (SQ ta):=by
 intro pins s σ H R I h
 refine Call_ (d9 I hg hm boot_range (bt (thn (ha pos pins s σ H _ I h) ?_) hs rfl))
 rintro us s1 ⟨vs,H1,I1,r1,q1⟩
 obtain⟨j,e,q1,q2,q⟩:=q1
 subst e
 cases r1 with
 | cons r rr=>
  cases rr
  obtain⟨t,rfl⟩:=r
  exact call_range_1 (yr I1 (by omega) (by omega) q1 q2 (by simpa using q))
theorem EY {a b:Expr}{ta:TA}{p pos:Pos}(hg:Gl X "range")(hm:X.mg "range" = none)(ha:PA X [a,b] ta)(hs:starEach [a,b] X.env=[(false,eval a X.env),(false,eval b X.env)]:=by rfl)(hs2:starEach [b] X.env=[(false,eval b X.env)]:=by rfl):
  PI X tg (.Call (.Name "range" p) [a,b] [] pos) (SX ta):=by
 intro pins s σ H R I h
 refine Call_ (d9 I hg hm boot_range (bt (thn (ha pos pins s σ H _ I h) λus s1 ⟨vs,H1,I1,r1,q1⟩=>?_) (by rw[hs,hs2]) (by rw[hs2];rfl)))
 obtain⟨i,j,e,⟨q1,q2,q3,q4⟩,q⟩:=q1
 subst e
 cases r1 with
 | cons r rr=>
  cases rr with
  | cons r' rr=>
   cases rr
   obtain⟨t,rfl⟩:=r
   obtain⟨t',rfl⟩:=r'
   exact call_range_2 (yr I1 q1 q2 q3 q4 q)
def Uv (wi:TI)(g:TG)(tb:TS):TS:=λD σ H=>wi σ H λJ H1=>∃W:Nat->Nat->St->Hp->Prop,(∃m,W 0 m σ H1)/\∀i m σ H,W i m σ H->
 (J.stop i H/\D.nx σ H)\/(J.go i H/\∃N:St->Hp->Prop,(∀ σ' H',N σ' H'->∃m',m' < m/\W (i+1) m' σ' H')/\∀x H',J.yld i H x H'->g x σ H' fun σ2 H2=>tb { D with nx:=N,ct:=N,bk:=D.nx } σ2 H2)
def q9 (fp:qA)(h:Heap):List (Addr×Obj):=fp.filterMap λb=>(h.get? b).map λo=>(b,o)
theorem lY {fp:qA}{h:Heap}{b:Addr}{o:Obj}(hb:b∈fp)(e:h.get? b=some o):(b,o)∈q9 fp h:=nb.mpr ⟨b,hb,by rw[e];rfl⟩
theorem E_ {fp:qA}{h:Heap}{p:Addr×Obj}(hp:p∈q9 fp h):p.1∈fp/\h.get? p.1=some p.2:=by
 obtain⟨b,hb,e⟩:=nb.mp hp
 cases q:h.get? b with
 | none=>rw[q] at e;cases e
 | some o=>
  rw[q] at e
  have e':(b,o)=p:=bg e
  subst e'
  exact⟨hb,q⟩
theorem Inv.pinned {pins:gV}{σ:St}{H:Hp}{s:Shared}{fp:qA}(I:Inv X pins σ H s)(hf:∀b∈fp,j6 X pins H b)(ho:∀b∈fp,∃o,s.heap.get? b=some o/\∀v,o.data≠.cell v):Inv X (pins++q9 fp s.heap) σ H s:=
 I.pins_of λp hp=>(b0.mp hp).elim (λz=>I.pin p (c8 _ z)) λz=>by
  obtain⟨hb,e⟩:=E_ z
  obtain⟨f0,f1,f2,_⟩:=hf p.1 hb
  obtain⟨o,e',d⟩:=ho p.1 hb
  rw[e] at e';cases e'
  exact⟨e,f0,f1,f2,d⟩
theorem Inv.unpinned {pins pl:gV}{σ:St}{H:Hp}{s:Shared}(I:Inv X (pins++pl) σ H s):Inv X pins σ H s:=I.pins_of λp hp=>I.pin p (c8 _ (gc _ hp))
theorem Fb {iter:Expr}{body:qk}{wi:TI}{g:TG}{tb:TS}{pos:Pos}(hp:PassesOwn (model X.prog X.w) X.A X.env X.xe)(hc:X.calm=true)(hi:PI X tg iter wi)(hg:PG X tg g)(hb:PSs X body tb)
  (hs:∀x,foldedSetIterable iter X.env x=pure x:=by intro _;rfl):PS X (.For tg iter body [] pos) (Uv wi g tb):=by
 intro pins s σ H D I h
 refine wpAny_For (thn (hi pins s σ H _ I h) λv s1 h1=>thn h1 λitv s2 h2=>?_) hs
 obtain⟨it,fp,tn,J,H2,e,I2,T,st2,f2,W,⟨m0,w0⟩,turn⟩:=h2
 subst e
 have stat:∀{H':Hp},(∀b∈fp,H' b=none)->∀b∈fp,j6 X pins H' b:=λhn b hb=>⟨hn b hb,(f2 b hb).2⟩
 refine codeAny_forLoop_any (λn s'=>∃i σ' H',Inv X pins σ' H' s'/\tn i s'.heap/\(∀b∈fp,H' b=none)/\W i n σ' H') ?_ m0 ⟨0,σ,H2,I2,st2,λb hb=>(f2 b hb).1,w0⟩
 rintro n s3 ⟨i,σ3,H3,I3,st3,fr3,w3⟩
 rcases turn i n σ3 H3 w3 with ⟨stop,qn⟩ | ⟨go,N,hN,step⟩
 ·refine ib hp (thn (T.done X rfl rfl rfl hc i pins s3 σ3 H3 X.xe I3 (stat fr3) st3 stop) ?_)
  rintro r s4 ⟨hr,I4⟩
  subst hr
  exact kD ⟨σ3,H3,I4,qn⟩
 ·refine ib hp (thn (T.item X rfl rfl rfl hc i pins s3 σ3 H3 X.xe I3 (stat fr3) st3 go) ?_)
  rintro r s4 ⟨u,hr,h4⟩
  subst hr
  refine ib hp (thn h4 ?_)
  rintro _ s5 ⟨x,H5,I5,r5,y5,st5,fr5⟩
  have I5':=I5.pinned (stat fr5) (T.obj _ _ st5)
  refine ib hp (thn (hg _ s5 σ3 H5 x u _ I5' r5 (step x H5 y5)) ?_)
  rintro _ s6 ⟨σ6,H6,I6,q6⟩
  refine ib hp (thn (hb _ s6 σ6 H6 _ I6 q6) λf s7 q7=>?_)
  have again:∀{σ7:St}{H7:Hp},Inv X (pins++q9 fp s5.heap) σ7 H7 s7->N σ7 H7->∃m,m < n/\∃i σ' H',Inv X pins σ' H' s7/\tn i s7.heap/\(∀b∈fp,H' b=none)/\W i m σ' H':=λ{σ7 H7} I7 n7=>by
   obtain⟨m',hm,w7⟩:=hN σ7 H7 n7
   refine⟨m',hm,i+1,σ7,H7,I7.unpinned,T.keep _ _ _ st5 λb hb o e=>(I7.pin (b,o) (c8 _ (c8 _ (lY hb e)))).1,λb hb=>?_,w7⟩
   obtain⟨o,e,d⟩:=T.obj _ _ st5 b hb
   exact(I7.pin (b,o) (c8 _ (c8 _ (lY hb e)))).2.1
  cases f with
  | next=>obtain⟨σ7,H7,I7,n7⟩:=q7;exact again I7 n7
  | cont=>obtain⟨σ7,H7,I7,n7⟩:=q7;exact again I7 n7
  | brk=>obtain⟨σ7,H7,I7,q7⟩:=q7;exact⟨σ7,H7,I7.unpinned,q7⟩
  | ret v=>obtain⟨x7,σ7,H7,I7,r7,q7⟩:=q7;exact⟨x7,σ7,H7,I7.unpinned,r7,q7⟩
end
abbrev R2:=V->V->Hp->VK->Prop
def OpR (X:Cx)(f:Value->Value->Sem Value)(r:R2):Prop:=
 ∀(pins:gV) (s:Shared) (σ:St) (H:Hp) (x y:V) (v u:Value) (Q:VK),Inv X pins σ H s->RelV x v->RelV y u->r x y H Q->
  wpAny (model X.prog X.w) X.A (f v u) (EP X pins σ Q) X.xe s
def UnR (X:Cx)(f:Value->Sem Value)(r:V->Hp->VK->Prop):Prop:=
 ∀(pins:gV) (s:Shared) (σ:St) (H:Hp) (x:V) (v:Value) (Q:VK),Inv X pins σ H s->RelV x v->r x H Q->
  wpAny (model X.prog X.w) X.A (f v) (EP X pins σ Q) X.xe s
def CallR (X:Cx)(f:Value)(r:List V->Hp->VK->Prop):Prop:=
 ∀(pins:gV) (s:Shared) (σ:St) (H:Hp) (xs:List V) (us:qh) (Q:VK),Inv X pins σ H s->Vals xs us->r xs H Q->
  wpAny (model X.prog X.w) X.A (call f us) (EP X pins σ Q) X.xe s
def tOp (r:R2)(ta tb:TE):TE:=fun σ H Q=>ta σ H λx H1=>tb σ H1 λy H2=>r x y H2 Q
def tUn (r:V->Hp->VK->Prop)(ta:TE):TE:=fun σ H Q=>ta σ H λx H1=>r x H1 Q
def rI (C:Int->Int->Prop)(g:Int->Int->V):R2:=λx y H Q=>∃i j,x=.int i/\y=.int j/\C i j/\Q (g i j) H
def rI0 (g:Int->Int->V):R2:=λx y H Q=>∃i j,x=.int i/\y=.int j/\Q (g i j) H
def rU (g:Int->V):V->Hp->VK->Prop:=λx H Q=>∃i,x=.int i/\Q (g i) H
section
variable {X:Cx}{a b c:Expr}{ta tb tc:TE}{pos:Pos}
theorem HQ (ha:PE X a ta)(hb:PE X b tb){pins:gV}{s:Shared}{σ:St}{H:Hp}{R:V->V->Hp->Prop}(I:Inv X pins σ H s)
  (h:ta σ H λx H1=>tb σ H1 λy H2=>R x y H2){Q:fN}{f:Value->Value->Sem Value}
  (hf:∀v u s2 x y H2,Inv X pins σ H2 s2->RelV x v->RelV y u->R x y H2->wpAny (model X.prog X.w) X.A (f v u) Q X.xe s2):
  wpAny (model X.prog X.w) X.A (eval a X.env) (λv s₁=>wpAny (model X.prog X.w) X.A (eval b X.env) (λu s₂=>wpAny (model X.prog X.w) X.A (f v u) Q X.xe s₂) X.xe s₁) X.xe s:=by
 refine thn (ha pins s σ H _ I h) ?_
 rintro v s1 ⟨x,H1,I1,r1,q1⟩
 refine thn (hb pins s1 σ H1 _ I1 q1) ?_
 rintro u s2 ⟨y,H2,I2,r2,q2⟩
 exact hf v u s2 x y H2 I2 r1 r2 q2
theorem S5 {op:Operator}{r:R2}(ho:OpR X (binaryOp op) r)(ha:PE X a ta)(hb:PE X b tb):PE X (.BinOp a op b pos) (tOp r ta tb):=by
 intro pins s σ H Q I h
 exact wpAny_BinOp (HQ ha hb I h λv u s2 x y H2 I2 rx ry q=>ho pins s2 σ H2 x y v u Q I2 rx ry q)
theorem S6 {op:UnaryOp}{r:V->Hp->VK->Prop}(ho:UnR X (unaryOp op) r)(ha:PE X a ta):PE X (.UnaryOp op a pos) (tUn r ta):=by
 intro pins s σ H Q I h
 exact UnaryOp_ (thn (ha pins s σ H _ I h) λv s1 ⟨x,H1,I1,r1,q1⟩=>ho pins s1 σ H1 x v Q I1 r1 q1)
theorem opI {f:Value->Value->Sem Value}{C:Int->Int->Prop}{g:Int->Int->Int}
  (rule:∀(i j:Int) (t u:Tok) (s:Shared) (Q:fN) (E:fN),C i j->Q (.int (g i j) s.toks) { s with toks:=s.toks+1 }->wpAny (model X.prog X.w) X.A (f (.int i t) (.int j u)) Q E s):
  OpR X f (rI C λi j=>.int (g i j)):=by
 intro pins s σ H x y v u Q I rx ry h
 obtain⟨i,j,rfl,rfl,hc,q⟩:=h
 obtain⟨t,rfl⟩:=rx
 obtain⟨t',rfl⟩:=ry
 exact rule i j t t' s _ _ hc ⟨.int (g i j),H,I.tok _,⟨_,rfl⟩,q⟩
theorem O8 {f:Value->Value->Sem Value}{g:Int->Int->Int}
  (rule:∀(i j:Int) (t u:Tok) (s:Shared) (Q:fN) (E:fN),Q (.int (g i j) s.toks) { s with toks:=s.toks+1 }->wpAny (model X.prog X.w) X.A (f (.int i t) (.int j u)) Q E s):
  OpR X f (rI0 λi j=>.int (g i j)):=by
 intro pins s σ H x y v u Q I rx ry h
 obtain⟨i,j,rfl,rfl,q⟩:=h
 obtain⟨t,rfl⟩:=rx
 obtain⟨t',rfl⟩:=ry
 exact rule i j t t' s _ _ ⟨.int (g i j),H,I.tok _,⟨_,rfl⟩,q⟩
theorem C_ {f:Value->Value->Sem Value}{g:Int->Int->Bool}
  (rule:∀(i j:Int) (t u:Tok) (s:Shared) (Q:fN) (E:fN),Q (.bool (g i j)) s->wpAny (model X.prog X.w) X.A (f (.int i t) (.int j u)) Q E s):
  OpR X f (rI0 λi j=>.bl (g i j)):=by
 intro pins s σ H x y v u Q I rx ry h
 obtain⟨i,j,rfl,rfl,q⟩:=h
 obtain⟨t,rfl⟩:=rx
 obtain⟨t',rfl⟩:=ry
 exact rule i j t t' s _ _ ⟨.bl (g i j),H,I,rfl,q⟩
def O9 (i j:Int):Prop:=0 < j/\j < 1073741824
def O_ (i j:Int):Prop:=0<=j/\j<=1000000/\i.natAbs < 2 ^ 64
def CMul (i j:Int):Prop:=(-(2 ^ 64) < i/\i < 2 ^ 64)\/(-(2 ^ 64) < j/\j < 2 ^ 64)
theorem CMul.ok {i j:Int}(h:CMul i j):IntMulOk i j:=by
 rcases h with ⟨h1,h2⟩ | ⟨h1,h2⟩
 ·exact .of_left (intBits_le_64 h1 h2)
 ·exact .of_right (intBits_le_64 h1 h2)
theorem Pa:OpR X (binaryOp .Add) (rI0 λi j=>.int (i+j)):=O8 λ_ _ _ _ _ _ _ q=>add_int q
theorem Pb:OpR X (binaryOp .Sub) (rI0 λi j=>.int (i - j)):=O8 λ_ _ _ _ _ _ _ q=>sub_int q
theorem Pg:OpR X (binaryOp .Mult) (rI CMul λi j=>.int (i*j)):=opI λ_ _ _ _ _ _ _ hc q=>mul_int q hc.ok
theorem KQ:OpR X (binaryOp .FloorDiv) (rI O9 λi j=>.int (i / j)):=opI λi j _ _ _ _ _ hc q=>by
 have h1:(0:Int) < j:=hc.1
 have h2:j < 1073741824:=hc.2
 exact floordiv_int (by omega) (by rw[Int.fdiv_eq_ediv_of_nonneg i (by omega)];exact q) (.inl (PyProof.noPylong_small (by omega)))
theorem Ph:OpR X (binaryOp .Mod) (rI (λ_ j=>0 < j) λi j=>.int (i % j)):=opI λi j _ _ _ _ _ hc q=>by
 have h1:(0:Int) < j:=hc
 exact mod_int' (by omega) (by rw[Int.fmod_eq_emod_of_nonneg i (by omega)];exact q)
theorem Pj:OpR X (binaryOp .Pow) (rI O_ λi j=>.int (i ^ j.toNat)):=opI λ_ _ _ _ _ _ _ hc q=>pow_int_small hc.1 hc.2.1 hc.2.2 q
theorem unI {f:Value->Sem Value}{g:Int->Int}
  (rule:∀(i:Int) (t:Tok) (s:Shared) (Q:fN) (E:fN),Q (.int (g i) s.toks) { s with toks:=s.toks+1 }->wpAny (model X.prog X.w) X.A (f (.int i t)) Q E s):
  UnR X f (rU λi=>.int (g i)):=by
 intro pins s σ H x v Q I rx h
 obtain⟨i,rfl,q⟩:=h
 obtain⟨t,rfl⟩:=rx
 exact rule i t s _ _ ⟨.int (g i),H,I.tok _,⟨_,rfl⟩,q⟩
theorem Pk:UnR X (unaryOp .USub) (rU λi=>.int (-i)):=unI λ_ _ _ _ _ q=>neg_int q
end
def HR:V->V->Bool
 | .non,.non=>true | .non,.int _=>true | .int _,.non=>true | .non,.bl _=>true | .bl _,.non=>true | .non,.str _=>true | .str _,.non=>true
 | .int _,.int _=>true | .bl _,.bl _=>true | .str _,.str _=>true | .byt _,.byt _=>true
 | .int _,.str _=>true | .str _,.int _=>true | .bl _,.str _=>true | .str _,.bl _=>true
 | _,_=>false
def rEq:R2:=λx y H Q=>HR x y=true/\Q (.bl (decide (x=y))) H
def rNe:R2:=λx y H Q=>HR x y=true/\Q (.bl (!decide (x=y))) H
theorem Bl {i j:Int}:decide (V.int i=V.int j)=(i == j):=by
 rw[ic]
 simp
theorem Fd {i j:Bool}:decide (V.bl i=V.bl j)=(i == j):=by
 rw[ic]
 simp
theorem Bm {i j:Str}:decide (V.str i=V.str j)=(i == j):=by
 rw[ic]
 simp
theorem Bo {i j:Array UInt8}:decide (V.byt i=V.byt j)=(i.toList == j.toList):=by
 rw[ic]
 cases i
 cases j
 simp
section
variable {X:Cx}{a b c:Expr}{ta tb tc:TE}{pos:Pos}
theorem bH {pins:gV}{σ:St}{H:Hp}{s:Shared}{Q:VK}{k k':Bool}(I:Inv X pins σ H s)(q:Q (.bl k) H)(e:k=k'):EP X pins σ Q (.bool k') s:=by
 subst e
 exact⟨.bl k,H,I,rfl,q⟩
theorem S7:OpR X (compareOp .Eq) rEq:=by
 intro pins s σ H x y v u Q I rx ry h
 obtain⟨hs,q⟩:=h
 cases x with
 | non=>
  cases rx
  cases y with
  | non=>cases ry;exact PySem.EqNone.eq_none_none (bH I q (by simp))
  | bl j=>cases ry;exact PySem.EqNone.eq_none_bool (bH I q (by simp))
  | int j=>obtain⟨t',rfl⟩:=ry;exact PySem.EqNone.eq_none_int (bH I q (by simp))
  | str j=>obtain⟨t',rfl⟩:=ry;exact PySem.EqNone.eq_none_str (bH I q (by simp))
  | _=>exact absurd (show false=true from hs) be
 | bl i=>
  cases rx
  cases y with
  | non=>cases ry;exact PySem.EqNone.eq_bool_none (bH I q (by simp))
  | bl j=>cases ry;exact eq_bool (bH I q Fd)
  | str j=>obtain⟨t',rfl⟩:=ry;exact PySem.EqMixed.eq_bool_str (bH I q (by simp))
  | _=>exact absurd (show false=true from hs) be
 | int i=>
  obtain⟨t,rfl⟩:=rx
  cases y with
  | non=>cases ry;exact PySem.EqNone.eq_int_none (bH I q (by simp))
  | int j=>obtain⟨t',rfl⟩:=ry;exact eq_int (bH I q Bl)
  | str j=>obtain⟨t',rfl⟩:=ry;exact PySem.EqMixed.eq_int_str (bH I q (by simp))
  | _=>exact absurd (show false=true from hs) be
 | str i=>
  obtain⟨t,rfl⟩:=rx
  cases y with
  | non=>cases ry;exact PySem.EqNone.eq_str_none (bH I q (by simp))
  | bl j=>cases ry;exact PySem.EqMixed.eq_str_bool (bH I q (by simp))
  | int j=>obtain⟨t',rfl⟩:=ry;exact PySem.EqMixed.eq_str_int (bH I q (by simp))
  | str j=>obtain⟨t',rfl⟩:=ry;exact eq_str (bH I q Bm)
  | _=>exact absurd (show false=true from hs) be
 | byt i=>
  obtain⟨t,rfl⟩:=rx
  cases y with
  | byt j=>obtain⟨t',rfl⟩:=ry;exact W.eq_bytes (bH I q Bo)
  | _=>exact absurd (show false=true from hs) be
 | _=>cases y <;> exact absurd (show false=true from hs) be
theorem S8:OpR X (compareOp .NotEq) rNe:=by
 intro pins s σ H x y v u Q I rx ry h
 obtain⟨hs,q⟩:=h
 cases x with
 | non=>
  cases rx
  cases y with
  | non=>cases ry;exact PySem.EqNone.ne_none_none (bH I q (by simp))
  | bl j=>cases ry;exact PySem.EqNone.ne_none_bool (bH I q (by simp))
  | int j=>obtain⟨t',rfl⟩:=ry;exact PySem.EqNone.ne_none_int (bH I q (by simp))
  | str j=>obtain⟨t',rfl⟩:=ry;exact PySem.EqNone.ne_none_str (bH I q (by simp))
  | _=>exact absurd (show false=true from hs) be
 | bl i=>
  cases rx
  cases y with
  | non=>cases ry;exact PySem.EqNone.ne_bool_none (bH I q (by simp))
  | bl j=>cases ry;exact ne_bool (bH I q (ce not Fd))
  | str j=>obtain⟨t',rfl⟩:=ry;exact PySem.EqMixed.ne_bool_str (bH I q (by simp))
  | _=>exact absurd (show false=true from hs) be
 | int i=>
  obtain⟨t,rfl⟩:=rx
  cases y with
  | non=>cases ry;exact PySem.EqNone.ne_int_none (bH I q (by simp))
  | int j=>obtain⟨t',rfl⟩:=ry;exact ne_int (bH I q (ce not Bl))
  | str j=>obtain⟨t',rfl⟩:=ry;exact PySem.EqMixed.ne_int_str (bH I q (by simp))
  | _=>exact absurd (show false=true from hs) be
 | str i=>
  obtain⟨t,rfl⟩:=rx
  cases y with
  | non=>cases ry;exact PySem.EqNone.ne_str_none (bH I q (by simp))
  | bl j=>cases ry;exact PySem.EqMixed.ne_str_bool (bH I q (by simp))
  | int j=>obtain⟨t',rfl⟩:=ry;exact PySem.EqMixed.ne_str_int (bH I q (by simp))
  | str j=>obtain⟨t',rfl⟩:=ry;exact ne_str (bH I q (ce not Bm))
  | _=>exact absurd (show false=true from hs) be
 | byt i=>
  obtain⟨t,rfl⟩:=rx
  cases y with
  | byt j=>obtain⟨t',rfl⟩:=ry;exact W.ne_bytes (bH I q (ce not Bo))
  | _=>exact absurd (show false=true from hs) be
 | _=>cases y <;> exact absurd (show false=true from hs) be
theorem uK:OpR X (compareOp .Lt) (rI0 λi j=>.bl (decide (i < j))):=C_ λ_ _ _ _ _ _ _ q=>lt_int q
theorem xW:OpR X (compareOp .LtE) (rI0 λi j=>.bl (decide (i<=j))):=C_ λ_ _ _ _ _ _ _ q=>le_int q
theorem S9:OpR X (compareOp .Gt) (rI0 λi j=>.bl (decide (j < i))):=C_ λ_ _ _ _ _ _ _ q=>gt_int q
theorem S_:OpR X (compareOp .GtE) (rI0 λi j=>.bl (decide (j<=i))):=C_ λ_ _ _ _ _ _ _ q=>ge_int q
theorem Fe:OpR X (compareOp .In) (λx y H Q=>∃i j,x=.str i/\y=.str j/\Q (.bl (!(Builtin.Str.occurrences j i 0 j.length 1).isEmpty)) H):=by
 intro pins s σ H x y v u Q I rx ry h
 obtain⟨i,j,rfl,rfl,q⟩:=h
 obtain⟨t,rfl⟩:=rx
 obtain⟨t',rfl⟩:=ry
 exact in_str (bH I q rfl)
theorem Pn:OpR X (compareOp .Is) (λx y H Q=>y=.non/\Q (.bl (decide (x=.non))) H):=by
 intro pins s σ H x y v u Q I rx ry h
 obtain⟨rfl,q⟩:=h
 cases ry
 refine is_none_gen (bH I q ?_)
 cases x <;> first
  | (cases rx;rfl)
  | (obtain⟨t,rfl⟩:=rx;rfl)
theorem KR:OpR X (compareOp .IsNot) (λx y H Q=>y=.non/\Q (.bl (!decide (x=.non))) H):=by
 intro pins s σ H x y v u Q I rx ry h
 obtain⟨rfl,q⟩:=h
 cases ry
 refine isnot_none_gen (bH I q ?_)
 cases x <;> first
  | (cases rx;rfl)
  | (obtain⟨t,rfl⟩:=rx;rfl)
theorem OpR.or {f:Value->Value->Sem Value}{r r':R2}(h:OpR X f r)(h':OpR X f r'):OpR X f (λx y H Q=>r x y H Q\/r' x y H Q):=by
 intro pins s σ H x y v u Q I rx ry q
 rcases q with q | q
 ·exact h pins s σ H x y v u Q I rx ry q
 ·exact h' pins s σ H x y v u Q I rx ry q
theorem lF (b:Expr){op:CmpOp}(h:op≠.In:=by decide)(h2:op≠.NotIn:=by decide):behindInMarks op b=false:=by
 have e1:(op == CmpOp.In)=false:=by cases op <;> first | rfl | exact absurd rfl h
 have e2:(op == CmpOp.NotIn)=false:=by cases op <;> first | rfl | exact absurd rfl h2
 cases b <;> simp[behindInMarks,e1,e2]
theorem KY {op:CmpOp}{r:R2}(ho:OpR X (compareOp op) r)(ha:PE X a ta)(hb:PE X b tb)(hm:behindInMarks op b=false):PE X (.Compare a [op] [b] pos) (tOp r ta tb):=by
 intro pins s σ H Q I h
 exact wpAny_Compare1 (HQ ha hb I h λv u s2 x y H2 I2 rx ry q=>ho pins s2 σ H2 x y v u Q I2 rx ry q) hm
def J0 (t:TE):TT:=fun σ H Q=>t σ H λx H'=>∃k,x=.bl k/\Q k H'
theorem KZ {op:CmpOp}{r:R2}(ho:OpR X (compareOp op) r)(ha:PE X a ta)(hb:PE X b tb)(hm:behindInMarks op b=false):PT X (.Compare a [op] [b] pos) (J0 (tOp r ta tb)):=by
 intro pins s σ H Q I h
 refine wpAny_isTrue_Compare1 (thn (ha pins s σ H _ I h) λv s1 ⟨x,H1,I1,r1,q1⟩=>thn (hb pins s1 σ H1 _ I1 q1) λu s2 ⟨y,H2,I2,r2,q2⟩=>
  thn (ho pins s2 σ H2 x y v u _ I2 r1 r2 q2) λc s3 ⟨z,H3,I3,r3,k,e,q3⟩=>?_) hm
 subst e
 cases r3
 exact fw ⟨H3,I3,q3⟩
def Pq (r r':R2)(ta tb tc:TE):TE:=fun σ H Q=>ta σ H λx H1=>tb σ H1 λy H2=>r x y H2 λz H3=>∃k,z=.bl k /\
 (if k=true then tc σ H3 λw' H4=>r' y w' H4 Q else Q (.bl false) H3)
theorem HS {op op':CmpOp}{r r':R2}(ho:OpR X (compareOp op) r)(ho':OpR X (compareOp op') r')(ha:PE X a ta)(hb:PE X b tb)(hc:PE X c tc)
  (hm:lastMarks [op,op'] [b,c]=false:=by with_unfolding_all rfl):PT X (.Compare a [op,op'] [b,c] pos) (J0 (Pq r r' ta tb tc)):=by
 intro pins s σ H Q I h
 refine isTrue_chain (thn (ha pins s σ H _ I h) λv s1 ⟨x,H1,I1,r1,q1⟩=>test_link (thn (hb pins s1 σ H1 _ I1 q1) λu s2 ⟨y,H2,I2,r2,q2⟩=>
  thn (ho pins s2 σ H2 x y v u _ I2 r1 r2 q2) λd s3 ⟨z,H3,I3,r3,k,e,q3⟩=>?_)) hm
 subst e
 cases r3
 refine fw ?_
 cases k with
 | false=>
  obtain⟨k',e',q'⟩:=q3
  cases e'
  exact ite_ff ⟨H3,I3,q'⟩
 | true=>
  refine ite_tt (test_last (thn (hc pins s3 σ H3 _ I3 q3) λw' s4 ⟨z',H4,I4,r4,q4⟩=>thn (ho' pins s4 σ H4 y z' u w' _ I4 r2 r4 q4) ?_))
  rintro d' s5 ⟨z2,H5,I5,r5,k2,e2,q5⟩
  subst e2
  cases r5
  exact fw ⟨H5,I5,q5⟩
theorem pF:(sizeLine:Nat) < 2 ^ 63:=by rw[sizeLine_eq];decide
theorem Dd:OpR X (binaryOp .Add) (λx y H Q=>∃i j,x=.str i/\y=.str j/\i.length+j.length<=sizeLine/\Q (.str (i++j)) H):=by
 intro pins s σ H x y v u Q I rx ry h
 obtain⟨i,j,rfl,rfl,hz,q⟩:=h
 obtain⟨t,rfl⟩:=rx
 obtain⟨t',rfl⟩:=ry
 exact add_str (λt' tk=>⟨.str (i++j),H,I.tok _,⟨_,rfl⟩,q⟩) hz
theorem vals1 {x:V}{us:qh}(r:Vals [x] us):∃u,us=[u]/\RelV x u:=by
 cases r with
 | cons r1 r2=>cases r2;exact⟨_,rfl,r1⟩
theorem vals2 {x y:V}{us:qh}(r:Vals [x,y] us):∃u w',us=[u,w']/\RelV x u/\RelV y w':=by
 cases r with
 | cons r1 r2=>
  cases r2 with
  | cons r3 r4=>cases r4;exact⟨_,_,rfl,r1,r3⟩
theorem Ff:CallR X (.type "int") (λxs H Q=>(∃i,xs=[.int i]/\Q (.int i) H)\/∃k,xs=[.bl k]/\Q (.int (if k then 1 else 0)) H):=by
 intro pins s σ H xs us Q I r h
 rcases h with ⟨i,rfl,q⟩ | ⟨k,rfl,q⟩
 ·obtain⟨u,rfl,t,rfl⟩:=vals1 r
  exact call_int_int ⟨.int i,H,I,⟨_,rfl⟩,q⟩
 ·obtain⟨u,rfl,r1⟩:=vals1 r
  cases r1
  exact call_int_bool ⟨.int (if k then 1 else 0),H,I.tok _,⟨_,rfl⟩,q⟩
end
structure ObjM (h:Heap)(x dx C:Addr)(mA:Str->Option Value):Prop where
 obj:h.get? x=some (W.instObj C dx)
 ns:h.Ns1 dx mA
 ne:dx≠x
theorem Fg {h:Heap}{dx:Addr}{mA:Str->Option Value}(n:h.Ns1 dx mA):∃od,h.get? dx=some od/\∀name,W.lookIn name od=some (mA name):=by
 obtain⟨o,es,ep,ho,hd,hk,_,hm⟩:=n
 refine⟨o,ho,λname=>?_⟩
 have e:=hm name
 unfold nsFind findBy at e
 rw[← Array.find?_toList] at e
 unfold W.lookIn
 rw[hd]
 dsimp only
 split
 ·rename_i y q
  rw[q] at e
  exact ce some e
 ·rename_i q
  rw[q] at e
  have a:es.toList.any (·.refKey)=false:=by
   rw[List.any_eq_false]
   intro y hy
   obtain⟨z,t,hkey⟩:=hk y (Array.mem_toList_iff.mp hy)
   simp[DictEntry.refKey,hkey]
  have a':¬ es.toList.any (·.refKey)=true:=by rw[a];exact be
  rw[a9 a']
  exact ce some e
theorem ObjM.look {h:Heap}{x dx C:Addr}{mA:Str->Option Value}(I:ObjM h x dx C mA):∃od,W.InstAt h x (W.instObj C dx) C (some od)/\∀name,W.lookIn name od=some (mA name):=
 let ⟨od,ho,hl⟩:=Fg I.ns
 ⟨od,⟨I.obj,rfl,rfl,ho⟩,hl⟩
theorem RelO.some_of {v:V}{o:Option Value}(r:RelO (some v) o):∃u,o=some u/\RelV v u:=by
 cases o with
 | none=>exact(show False from r).elim
 | some u=>exact⟨u,rfl,r⟩
section
variable {P:Program}{w:World}{H H':Hp}{h h':Heap}{a C dx:Addr}{fs fs':List (Str×V)}
theorem K1 {K:W.Frag}(hok:HOk P w K H h)(e:H a=some (.ins C dx fs)):∃mA,ObjM h a dx C mA/\(∀f,RelO (fs.lookup f) (mA f))/\PySem.Within mA (fs.map (·.1))/\fs.length<=1000/\H dx=some (.own a):=by
 obtain⟨d,z,ne,ob,mA,n,r,q⟩:=(show ObjOk P w K H h a (.ins C dx fs) from hok a _ e)
 exact⟨mA,⟨ob,n,ne⟩,r,q,z,d⟩
end
structure Cls (K:W.Frag)(C:Addr):Prop where
 pg:W.plainGet K C Str.empty=true
 hd:W.hasDictIn K C=true
 po:W.plainOver K C=true
 sa:W.findIn K (.ref C) "__setattr__" = some (some (.builtin "object.__setattr__"))
theorem Cls.get {K:W.Frag}{C:Addr}(c:Cls K C)(f:Str):W.plainGet K C f=true:=c.pg
section
variable {X:Cx}{pins:gV}{σ:St}{H:Hp}{s:Shared}{A:Around}{E:fN}{Q:fN}{c:Value}{b:Bool}
inductive TyOf (K:W.Frag) (H:Hp):V->Value->Prop where
 | non:TyOf K H .non (.type "NoneType")
 | bl (x:Bool):TyOf K H (.bl x) (.type "bool")
 | int (i:Int):TyOf K H (.int i) (.type "int")
 | str (x:Str):TyOf K H (.str x) (.type "str")
 | flt (x:UInt64):TyOf K H (.flt x) (.type "float")
 | lst {a:Addr}{xs:List V}(e:H a=some (.lst xs)):TyOf K H (.ref a) (.type "list")
 | frz {a:Addr}{o:Obj}{xs:List V}(e:H a=some (.frz o (.lst xs))):TyOf K H (.ref a) (.type "list")
 | tup {a:Addr}{xs:List V}(e:H a=some (.tup xs)):TyOf K H (.ref a) (.type "tuple")
 | tupC {a:Addr}{xs:List V}(e:KTup K a xs):TyOf K H (.ref a) (.type "tuple")
 | dK {a:Addr}{kvs:List (Key×V)}(e:H a=some (.dK kvs)):TyOf K H (.ref a) (.type "dict")
 | dT {a:Addr}{kvs:List (List Key×V)}(e:H a=some (.dT kvs)):TyOf K H (.ref a) (.type "dict")
 | ins {a C dx:Addr}{fs:List (Str×V)}(e:H a=some (.ins C dx fs)) (cl:Cls K C) (ha:W.findIn K (.ref C) "__class__" = some (some (.builtin "object.__class__")))
   (hn:W.specialIn K (.builtin "object.__class__") "__get__" = some (some (.builtin "getset_descriptor.__get__"))) (htk:W.takesIn K (.builtin "object.__class__")=some true)
   (hm:W.mroIn K C (.type "object")=some true):TyOf K H (.ref a) (.ref C)
theorem Fi {x:V}{u t:Value}(I:Inv X pins σ H s)(rx:RelV x u)(ty:TyOf X.K H x t)(e:W.kitOne X.K t c=some b)(h:∀tk,Q (.bool b) { s with toks:=tk }):
  wpAny (model X.prog X.w) A (call (.builtin "isinstance") [u,c]) Q E s:=by
 cases ty with
 | non=>cases (show u=Value.none from rx);exact el W.kitx_none I.kIn gS e (λz=>nomatch z) h
 | bl y=>cases (show u=Value.bool y from rx);exact el W.kitx_bool I.kIn gS e (λz=>nomatch z) h
 | int i=>obtain⟨t,q⟩:=(show ∃t,u=Value.int i t from rx);cases q;exact el W.kitx_int I.kIn gS e (λz=>nomatch z) h
 | str y=>obtain⟨t,q⟩:=(show ∃t,u=Value.str y t from rx);cases q;exact el W.kitx_str I.kIn gS e (λz=>nomatch z) h
 | flt y=>obtain⟨t,q⟩:=(show ∃t,u=Value.float y t from rx);cases q;exact el W.kitx_float I.kIn gS e (λz=>nomatch z) h
 | @lst a xs ea=>
  cases (show u=Value.ref a from rx)
  obtain⟨_,_,n,_,h1⟩:=(show ObjOk X.prog X.w X.K H s.heap a (.lst xs) from I.hok a _ ea)
  exact el W.kitx_list I.kIn ⟨_,h1,rfl⟩ e (λz=>nomatch z) h
 | @frz a ob xs ea=>
  cases (show u=Value.ref a from rx)
  obtain⟨_,_,_,n,_,h1⟩:=(show ObjOk X.prog X.w X.K H s.heap a (.frz ob (.lst xs)) from I.hok a _ ea)
  exact el W.kitx_list I.kIn ⟨_,h1,rfl⟩ e (λz=>nomatch z) h
 | @tup a xs ea=>
  cases (show u=Value.ref a from rx)
  obtain⟨_,_,_,p⟩:=(show ObjOk X.prog X.w X.K H s.heap a (.tup xs) from I.hok a _ ea)
  obtain⟨o,h1,h2,_⟩:=p
  exact el W.kitx_tuple I.kIn ⟨o,h1,h2⟩ e (λz=>nomatch z) h
 | @tupC a xs e1=>
  cases (show u=Value.ref _ from rx)
  obtain⟨o,its,n,g1,g2,g3,_⟩:=e1
  exact el W.kitx_tuple I.kIn ⟨o,I.kIn _ o g1,g2⟩ e (λz=>nomatch z) h
 | @dK a kvs ea=>
  cases (show u=Value.ref a from rx)
  obtain⟨_,_,vs,_,p⟩:=(show ObjOk X.prog X.w X.K H s.heap a (.dK kvs) from I.hok a _ ea)
  obtain⟨o,es,ep,h1,h2,_⟩:=p
  exact el W.kitx_dict I.kIn ⟨o,h1,h2.1⟩ e (λz=>nomatch z) h
 | @dT a kvs ea=>
  cases (show u=Value.ref a from rx)
  obtain⟨_,_,xs,_,o,es,ep,h1,h2,_⟩:=(show ObjOk X.prog X.w X.K H s.heap a (.dT kvs) from I.hok a _ ea)
  exact el W.kitx_dict I.kIn ⟨o,h1,h2.1⟩ e (λz=>nomatch z) h
 | @ins a C dx fs ea cl ha hn htk hm=>
  cases (show u=Value.ref a from rx)
  obtain⟨mA,O,_⟩:=K1 I.hok ea
  obtain⟨od,J,_⟩:=O.look
  exact el (W.kitx_own (cl.get _) cl.hd ha hn htk hm) I.kIn J e (λz=>nomatch z) h
end
structure Room (k:Nat)(A:Around):Prop where
 hd:A.handled=none
 dp:A.depth+3*k+5 < recursionLimit
 un:A.units+16*k+200 < cLine
theorem Room.mono {j k:Nat}{A:Around}(r:Room k A)(h:j<=k):Room j A:=⟨r.hd,by have:=r.dp;omega,by have:=r.un;omega⟩
theorem Room.deeper {k:Nat}{A:Around}(r:Room (k+1) A)(env:Env):Room k (A.deeper env):=
 ⟨r.hd,by have:=r.dp;show A.depth+1+3*k+5 < _;omega,by have:=r.un;show A.units+3+16*k+200 < _;omega⟩
theorem Room.depth {k:Nat}{A:Around}(r:Room k A):A.depth < recursionLimit:=by have:=r.dp;omega
theorem Room.units {k:Nat}{A:Around}(r:Room k A):A.units+64 < cLine:=by have:=r.un;omega
theorem Room.units0 {k:Nat}{A:Around}(r:Room k A):A.units < cLine:=by have:=r.un;omega
def HW:TA:=λ_ H Q=>Q [] H
def J1 (ta:TE)(tr:TA):TA:=fun σ H Q=>ta σ H λx H1=>tr σ H1 λxs H2=>Q (x::xs) H2
section
variable {X:Cx}{e:Expr}{es:qo}{te:TE}{t:TA}{pos:Pos}
theorem di:PA X [] HW:=λ_ _ _ _ H Q I h=>io ⟨[],H,I,.nil,h⟩
theorem bZ (ha:PE X e te)(hr:PA X es t)(hs:starEach (e::es) X.env=(false,eval e X.env)::starEach es X.env:=by rfl):PA X (e::es) (J1 te t):=by
 intro pos pins s σ H Q I h
 rw[hs]
 show wpAny _ _ (spliced ((false,eval e X.env)::backTo pos (starEach es X.env))) _ _ s
 refine fk (thn (ha pins s σ H _ I h) ?_)
 rintro u s1 ⟨x,H1,I1,r1,q1⟩
 exact thn (hr pos pins s1 σ H1 _ I1 q1) λus s2 ⟨xs,H2,I2,r2,q2⟩=>⟨x::xs,H2,I2,.cons r1 r2,q2⟩
def Uw (t:TA):TE:=fun σ H Q=>t σ H λxs H1=>xs.length<=sizeLine/\∀p,H1 p=none->Q (.ref p) (upd H1 p (.tup xs))
def Pr (t:TA):TE:=fun σ H Q=>t σ H λxs H1=>xs.length<=sizeLine/\∀p,H1 p=none->Q (.ref p) (upd H1 p (.lst xs))
theorem Pu {x1}(h:PA X es t):PE X (.Tuple es x1 pos) (Uw t):=by
 intro pins s σ H Q I hq
 refine wpAny_Tuple_spliced (thn (h pos pins s σ H _ I hq) λus s1 ⟨xs,H1,I1,r,z,q⟩=>⟨by rw[← r.length];exact z,?_⟩)
 have hf:H1 s1.heap.objs.size=none:=I1.hok.fresh (aS _)
 refine⟨.ref s1.heap.objs.size,upd H1 s1.heap.objs.size (.tup xs),I1.laid (t':=s1.toks) (λb u e=>ae _ e) (aS _) ?_,rfl,q _ hf⟩
 exact⟨z,us,r,⟨_,am _ rfl,rfl,_,rfl⟩⟩
theorem yt (h:PA X es t):PE X (.List es pos) (Pr t):=by
 intro pins s σ H Q I hq
 refine wpAny_List_spliced (thn (h pos pins s σ H _ I hq) λus s1 ⟨xs,H1,I1,r,z,q⟩=>⟨by rw[← r.length];exact z,?_⟩)
 have hf:H1 s1.heap.objs.size=none:=I1.hok.fresh (aS _)
 refine⟨.ref s1.heap.objs.size,upd H1 s1.heap.objs.size (.lst xs),I1.laid (t':=s1.toks) (λb u e=>ae _ e) (aS _) ?_,rfl,q _ hf⟩
 exact⟨z,us,0,r,am _ rfl⟩
end
abbrev Sp:=List V->Hp->VK->XK->Prop
abbrev CXT:=List Env->Hp->Shared->XK->Value->Shared->Prop
structure Env0 (P:Program)(w:World)(K:W.Frag)(mg:Str->Option Value)(base:Heap)(A:Around)(outer:List Env)(s:Shared)(H:Hp):Prop where
 frames:A.frames=some outer
 mod:Mod K mg base
 bs:∀b o,base.get? b=some o->s.heap.get? b=some o/\H b=none
 bsz:base.objs.size<=s.heap.objs.size
 funs:s.heap.FunFrames base outer
 frf:∀b∈frs outer,H b=none
 hok:HOk P w K H s.heap
 bare:AllBare s.gens
def CE (outer:List Env)(P:Program)(w:World)(K:W.Frag)(H:Hp)(s:Shared)(Q:VK)(u:Value)(s':Shared):Prop:=
 ∃v H',s'.os=s.os/\AllBare s'.gens/\Un (frs outer) [] H H' s.heap s'.heap/\HOk P w K H' s'.heap/\RelV v u/\Q v H'
def CR (CX:CXT)(outer:List Env)(P:Program)(w:World)(K:W.Frag)(H:Hp)(s:Shared)(Q:VK)(E:XK)(r:Result)(s':Shared):Prop:=
 match r with
 | .ok (.ret u)=>CE outer P w K H s Q u s'
 | .ok _=>False
 | .error e=>CX outer H s E e s'
structure FnOk (P:Program)(w:World)(K:W.Frag)(mg:Str->Option Value)(base:Heap)(CX:CXT)(k:Nat)(f:Addr)(fd:FuncData)(ps:qr)(sp:Sp):Prop where
 len:∀vs H Q E,sp vs H Q E->vs.length=ps.length
 run:∀(A:Around) (outer:List Env) (s:Shared) (H:Hp) (args:Args) (us:qh) (vs:List V) (Q:VK) (E:XK),Room k A->Env0 P w K mg base A outer s H->BindsTo s fd args (ps.zip us)->Vals vs us->sp vs H Q E->
  codeAny (model P w) A (.call (.ref f) args) (CR CX outer P w K H s Q E) s
theorem FnOk.imp {P:Program}{w:World}{K:W.Frag}{mg:Str->Option Value}{base:Heap}{CX:CXT}{k:Nat}{f:Addr}{fd:FuncData}{ps:qr}{sp sp':Sp}(F:FnOk P w K mg base CX k f fd ps sp)
  (h:∀vs H Q E,sp' vs H Q E->sp vs H Q E):FnOk P w K mg base CX k f fd ps sp':=
 ⟨λvs H Q E q=>F.len vs H Q E (h _ _ _ _ q),λA outer s H args us vs Q E hr he hb hv hs=>F.run A outer s H args us vs Q E hr he hb hv (h _ _ _ _ hs)⟩
section
variable {X:Cx}{pins:gV}{σ:St}{H:Hp}{s s':Shared}
theorem Inv.env0 (I:Inv X pins σ H s):Env0 X.prog X.w X.K X.mg X.base X.A X.stack s H:=
 ⟨I.ok.frames,I.ok.mod,I.bs,f7 I.ok.bsz I.sz,I.stack,I.stkFree,I.hok,I.bare⟩
theorem Inv.after {Q:VK}{u:Value}(I:Inv X pins σ H s)(h:CE X.stack X.prog X.w X.K H s Q u s'):EP X pins σ Q u s':=by
 obtain⟨v,H',os,bare,un,hok,r,q⟩:=h
 obtain⟨hh,g,d,t,os'⟩:=s'
 obtain rfl:os'=s.os:=os
 exact⟨v,H',I.call (h':=hh) (g':=g) (d':=d) (t':=t) (ch:=[]) un hok bare (λb z=>absurd z (by simp)),r,q⟩
end
def J2 (sp:Sp)(dvs:List V)(E:XK)(t:TA):TE:=fun σ H Q=>t σ H λvs H1=>sp (vs++dvs) H1 Q E
def Binds (K:W.Frag)(fd:FuncData)(ps:qr)(ds:qh):Prop:=
 ∀(s:Shared) (us:qh),K.In s.heap->(us++ds).length=ps.length->BindsTo s fd ⟨us,[]⟩ (ps.zip (us++ds))
theorem Binds.all {K:W.Frag}{fd:FuncData}{ps:qr}(h:∀us:List Value,us.length=ps.length->bindArgs fd ⟨us,[]⟩=pure (ps.zip us)):Binds K fd ps []:=λs us _ hl=>by
 rw[bE] at hl ⊢
 exact .of_eq (h us hl)
def yu (CX:CXT)(X:Cx)(E:XK):Prop:=∀(pins:gV) (σ:St) (H:Hp) (s:Shared) (e:Value) (s':Shared),Inv X pins σ H s->CX X.stack H s E e s'->X.xe e s'
section
variable {X:Cx}{CX:CXT}{k:Nat}{f C:Addr}{fd:FuncData}{ps:qr}{sp:Sp}{dvs:List V}{ds:qh}{E:XK}{x m:Str}{p pos apos:Pos}{e o:Expr}{es:qo}{ta:TE}{t:TA}
theorem Px {pins:gV}{σ:St}{H:Hp}{s:Shared}{Q:VK}{us:qh}{vs:List V}(F:FnOk X.prog X.w X.K X.mg X.base CX k f fd ps sp)(hr:Room k X.A)(hb:Binds X.K fd ps ds)(hd:Vals dvs ds)(hx:yu CX X E)
  (I:Inv X pins σ H s) (r:Vals vs us) (h:sp (vs++dvs) H Q E):wpAny (model X.prog X.w) X.A (call (.ref f) us) (EP X pins σ Q) X.xe s:=by
 have r2:Vals (vs++dvs) (us++ds):=r.append hd
 have hl:(us++ds).length=ps.length:=by rw[← r2.length];exact F.len _ _ _ _ h
 refine wpAny_call (mv (F.run X.A X.stack s H ⟨us,[]⟩ (us++ds) (vs++dvs) Q E hr I.env0 (hb s us I.kIn hl) r2 h) λr s' hq=>?_)
 cases r with
 | error e=>exact hx pins σ H s e s' I hq
 | ok fl=>
  cases fl with
  | ret u=>exact I.after hq
  | next=>exact False.elim hq
  | brk=>exact False.elim hq
  | cont=>exact False.elim hq
theorem K3 (F:FnOk X.prog X.w X.K X.mg X.base CX k f fd ps sp)(hr:Room k X.A)(hg:Gl X x)(hm:X.mg x=some (.ref f))(hk:W.keepIn X.K (.ref f)=true)(hb:Binds X.K fd ps ds)(hd:Vals dvs ds)(hx:yu CX X E)
  (ha:PA X (e::es) t) (hdb:(x == ("__debug__" : Str))=false:=by decide) (he:starEach (e::es) X.env=(false,eval e X.env)::starEach es X.env:=by rfl) (hpl:(backTo pos (starEach es X.env)).any (·.1)=false:=by rfl):
  PE X (.Call (.Name x p) (e::es) [] pos) (J2 sp dvs E t):=by
 intro pins s σ H Q I h
 refine fS (pB I hg hm ?_ hdb)
 refine W.callWith_K (h₀:=X.base) I.ok.mod.kin hk (thn (ha pos pins s σ H _ I h) λus s1 ⟨vs,H1,I1,r,q⟩=>⟨I1.kIn,?_⟩) he hpl
 exact Px F hr hb hd hx I1 r q
end
structure FnScope (N P:qr)(sc:Scope):Prop where
 kind:sc.kind=.function
 co:sc.isCoroutine=false
 gen:sc.isGenerator=false
 nd:N.Nodup
 pre:N.take P.length=P
 par:∀x∈P,sc.names.lookup x=some .local\/sc.names.lookup x=some .cell
 nofree:∀y∈sc.names,y.2≠.free
theorem wI {kindOf:Str->Option NameKind}{x:Str}:∀{binds:List (Str×Value)}{m:Str->Option Value},(∀v,(x,v)∉binds)->bindL kindOf binds m x=m x
 | [],_,_=>rfl
 | (n,v)::r,m,h=>by
  unfold bindL
  rw[wI λw hw=>h w (ag _ hw)]
  split
  ·have:x≠n:=by rintro rfl;exact h v ai
   simp[this]
  ·rfl
theorem wJ {kindOf:Str->Option NameKind}{x:Str}:∀{binds:List (Str×Value)}{m:Str->Option Value},(∀v,(x,v)∉binds)->bindC kindOf binds m x=m x
 | [],_,_=>rfl
 | (n,v)::r,m,h=>by
  unfold bindC
  rw[wJ λw hw=>h w (ag _ hw)]
  split
  ·rfl
  ·have:x≠n:=by rintro rfl;exact h v ai
   simp[this]
theorem wK {kindOf:Str->Option NameKind}{x:Str}{v:Value}:∀{P:qr}{vs:qh}{i:Nat}{m:Str->Option Value},P.Nodup->P[i]?=some x->vs[i]?=some v->kindOf x=some .local->
  bindL kindOf (P.zip vs) m x=some v
 | [],_,_,_,_,h,_,_=>by simp at h
 | _::_,[],_,_,_,_,h,_=>by simp at h
 | p::P,w::vs,0,m,nd,h1,h2,hk=>by
  simp at h1 h2;subst h1;subst h2
  show bindL kindOf ((p,w)::P.zip vs) m p=_
  unfold bindL
  rw[wI λv hv=>(cm.mp nd).1 (eT hv).1,bp hk]
  simp
 | p::P,w::vs,i+1,m,nd,h1,h2,hk=>by
  show bindL kindOf ((p,w)::P.zip vs) m x=_
  unfold bindL
  exact wK (i:=i) (cm.mp nd).2 (by simpa using h1) (by simpa using h2) hk
theorem wL {kindOf:Str->Option NameKind}{x:Str}{v:Value}:∀{P:qr}{vs:qh}{i:Nat}{m:Str->Option Value},P.Nodup->P[i]?=some x->vs[i]?=some v->kindOf x≠some .local->
  bindC kindOf (P.zip vs) m x=some v
 | [],_,_,_,_,h,_,_=>by simp at h
 | _::_,[],_,_,_,_,h,_=>by simp at h
 | p::P,w::vs,0,m,nd,h1,h2,hk=>by
  simp at h1 h2;subst h1;subst h2
  show bindC kindOf ((p,w)::P.zip vs) m p=_
  unfold bindC
  rw[wJ λv hv=>(cm.mp nd).1 (eT hv).1,a9 hk]
  simp
 | p::P,w::vs,i+1,m,nd,h1,h2,hk=>by
  show bindC kindOf ((p,w)::P.zip vs) m x=_
  unfold bindC
  exact wL (i:=i) (cm.mp nd).2 (by simpa using h1) (by simpa using h2) hk
noncomputable def start (N:qr)(vs:List V):St:=vs.map some++List.replicate (N.length - vs.length) none
noncomputable def gR (CX:CXT)(P:Program)(w:World)(K:W.Frag)(mg:Str->Option Value)(base:Heap)(N:qr)(qual:Str)(scope:Scope)(f:Addr)(cd:Value)(A:Around)(outer:List Env)(s:Shared)(H:Hp)(E:XK):Cx where
 prog:=P
 w:=w
 K:=K
 mg:=mg
 base:=base
 A:=A.deeper (envOfC qual scope s.heap.objs.size f cd)
 N:=N
 s₀:=s
 H₀:=H
 env:=envOfC qual scope s.heap.objs.size f cd
 outer:=outer
 stack:=envOfC qual scope s.heap.objs.size f cd::outer
 ex:=[]
 calm:=true
 fn:=λ_=>true
 pn:=[]
 xe:=λe s'=>wpAny (model P w) (A.deeper (envOfC qual scope s.heap.objs.size f cd)) (leaving (envOfC qual scope s.heap.objs.size f cd) e) (λ_ s''=>CX outer H s E e s'') (λe' s''=>CX outer H s E e' s'') s'
theorem yw {sc:Scope}{n:Nat}{x:Str}(h:sc.names.lookup x=some .cell):∃c,(cellsFrom n sc.names []).lookup x=some c:=by
 have q:=oq sc.names n [] (.inl h)
 exact Option.isSome_iff_exists.mp q
theorem Fj {CX:CXT}{P:Program}{w:World}{K:W.Frag}{mg:Str->Option Value}{base:Heap}{N ps:qr}{qual:Str}{scope:Scope}{f:Addr}{cd:Value}{A:Around}{outer:List Env}{s s1:Shared}{H:Hp}{E:XK}{us:qh}{vs:List V}
  (S:FnScope N ps scope) (hd:A.handled=none) (e0:Env0 P w K mg base A outer s H) (hl:vs.length=ps.length) (r:Vals vs us)
  (x:InCallC s s.heap.objs.size (bindL (envOfC qual scope s.heap.objs.size f cd).kindOf (ps.zip us) λ_=>none) (cellsFrom (s.heap.objs.size+1) scope.names []) (bindC (envOfC qual scope s.heap.objs.size f cd).kindOf (ps.zip us) λ_=>none) s1):
  Inv (gR CX P w K mg base N qual scope f cd A outer s H E) [] (start N vs) H s1:=by
 have hpl:ps.length<=N.length:=by have:=ce List.length S.pre;rw[dQ] at this;omega
 obtain⟨h1,tk,rfl,hk⟩:=x.done
 have noA:∀b:Addr,b∉(gR CX P w K mg base N qual scope f cd A outer s H E).ex:=λb z=>absurd (show b∈([]:qA) from z) (by simp)
 refine⟨⟨e0.mod,S.kind,rfl,rfl,aS _,λy z c h1 h2=>?_,λy hy=>?_,λy c _ h=>?_,λ_=>hd,Around.frames_deeper e0.frames,.inr ⟨rfl,rfl⟩,λb z=>absurd z (noA b),e0.bs,e0.bsz,λb _ _=>noA b,λb z=>absurd z (noA b),e0.funs,e0.frf⟩,
  rfl,e0.bare,Un.kept hk,⟨_,x.toInCall.ns,λi y v h1 h2 h3=>?_⟩,λy c h=>⟨_,x.cell y c h⟩,e0.hok.fresh (aS _),λy c h=>?_,λp hp=>absurd (show p∈([]:gV) from hp) (by simp),e0.hok.kept hk,?_⟩
 ·exact name_of_addr x.apart (PySem.mem_of_lookup h1) (PySem.mem_of_lookup h2)
 ·have hy:scope.names.lookup y=some .cell\/scope.names.lookup y=some .free:=hy
  rcases hy with hy | hy
  ·exact yw hy
  ·exact absurd rfl (S.nofree _ (PySem.mem_of_lookup hy))
 ·exact kN (x.above y c (PySem.mem_of_lookup h))
 ·have hi:i < vs.length:=by
   unfold start at h2
   by_cases hi:i < vs.length
   ·exact hi
   ·rw[eK (by simpa using hi)] at h2
    rw[og] at h2
    split at h2 <;> cases h2
  have ha:vs[i]?=some v:=by
   unfold start at h2
   rw[hU (by simpa using hi),aE] at h2
   cases e:vs[i]? with
   | none=>rw[e] at h2;cases h2
   | some a=>rw[e] at h2;cases h2;rfl
  obtain⟨u,hu,rv⟩:=r.get ha
  have hp:ps[i]?=some y:=by
   rw[← S.pre,List.getElem?_take_of_lt (by omega)];exact h1
  have ndP:ps.Nodup:=by rw[← S.pre];exact S.nd.sublist (List.take_sublist _ _)
  refine⟨u,rv,?_⟩
  rcases S.par y (ax hp) with k | k
  ·exact .inl ⟨k,wK ndP hp hu k⟩
  ·obtain⟨c,e⟩:=yw (n:=s.heap.objs.size+1) k
   refine .inr ⟨.inl k,c,e,?_⟩
   have q:=x.cell y c e
   rw[wL ndP hp hu (by show scope.names.lookup y≠_;rw[k];decide)] at q
   exact q
 ·exact e0.hok.fresh (kN (x.above y c (PySem.mem_of_lookup h)))
 ·unfold start
  show _=N.length
  rw[a8,af,oD]
  omega
theorem J3 {CX:CXT}{P:Program}{w:World}{K:W.Frag}{mg:Str->Option Value}{base:Heap}{k:Nat}{f:Addr}{name qual:Str}{params:Arguments}{body:qk}{scope:Scope}{dV kV doc pm cdv ct oc:Value}{an od:Option Addr}
  {osl:Array (Option Value)}{N ps:qr}{sp:Sp}(lk:K.lookup f=some ⟨oc,od,.func (W.fnOf name qual params body scope dV kV doc pm an cdv ct),osl⟩) (hcd:W.codeIn K cdv qual=true) (S:FnScope N ps scope)
  (len:∀vs H Q E,sp vs H Q E->vs.length=ps.length)
  (hbody:∀(A:Around) (outer:List Env) (s:Shared) (H:Hp) (vs:List V) (Q:VK) (E:XK),Room k (A.deeper (envOfC qual scope s.heap.objs.size f cdv))->sp vs H Q E->
   ∃t,PSs (gR CX P w K mg base N qual scope f cdv A outer s H E) body t/\t { nx:=λ_ H'=>Q .non H',rt:=Q } (start N vs) H):
  FnOk P w K mg base CX (k+1) f (W.fnOf name qual params body scope dV kV doc pm an cdv ct) ps sp:=by
 refine⟨len,λA outer s H args us vs Q E hr e0 hb r hsp=>?_⟩
 have hl:=len _ _ _ _ hsp
 have KX:K.In s.heap:=e0.mod.kin.keeps λb o e=>(e0.bs b o e).1
 have lim:s.heap.NoLimit:=e0.mod.nolimit.keeps λb o e=>(e0.bs b o e).1
 have hkind:∀y∈ps.zip us,scope.names.lookup y.1=some .local\/(scope.names.lookup y.1=some .cell/\((cellsFrom (s.heap.objs.size+1) scope.names []).lookup y.1).isSome=true):=by
  rintro ⟨n,v⟩ hy
  rcases S.par n (eT hy).1 with q | q
  ·exact .inl q
  ·exact .inr ⟨q,oq _ _ _ (.inl q)⟩
 refine codeAny_call_function hr.depth (KX _ _ lk) rfl S.co S.gen rfl (W.codeRec_of KX hcd) (hb _ _ _ _ ?_)
 refine wpAny_newFunctionEnv_cells S.kind hkind λenv he s1 x=>?_
 subst he
 refine⟨lim.keeps x.toInCall.keep,codeAny_func ?_⟩
 obtain⟨t,ht,hq⟩:=hbody A outer s H vs Q E (hr.deeper _) hsp
 have I:Inv (gR CX P w K mg base N qual scope f cdv A outer s H E) [] (start N vs) H s1:=Fj S hr.hd e0 hl r x
 refine ef (ht [] s1 (start N vs) H _ I hq) (λfl s' hs=>?_) λe s' hs=>hs
 have fin:∀{σ':St}{H':Hp}{v:V}{u:Value},Inv (gR CX P w K mg base N qual scope f cdv A outer s H E) [] σ' H' s'->RelV v u->Q v H'->CE outer P w K H s Q u s':=
  λ{σ' H' v u} J rv q=>⟨v,H',J.os,J.bare,J.base,J.hok,rv,q⟩
 cases fl with
 | ret u=>
  obtain⟨v,σ',H',J,rv,q⟩:=hs
  exact fin J rv q
 | next=>
  obtain⟨σ',H',J,q⟩:=hs
  exact fin (v:=V.non) (u:=Value.none) J rfl q
 | brk=>
  obtain⟨_,_,_,q⟩:=hs
  exact False.elim q
 | cont=>
  obtain⟨_,_,_,q⟩:=hs
  exact False.elim q
section
variable {X:Cx}{x:Str}{p pos:Pos}{e:Expr}{es:qo}{t:TA}{id T:String}{r:List V->Hp->VK->Prop}
def tCB (r:List V->Hp->VK->Prop)(t:TA):TE:=fun σ H Q=>t σ H λvs H1=>r vs H1 Q
theorem yx (hc:CallR X (.builtin id) r)(hg:Gl X x)(hm:X.mg x=none)(hv:bootBuiltins x=some (.builtin id))(ha:PA X (e::es) t)(hn:x ≠ "__name__" := by decide)(hdb:(x == ("__debug__" : Str))=false:=by decide)
  (he:starEach (e::es) X.env=(false,eval e X.env)::starEach es X.env:=by rfl) (hpl:(backTo pos (starEach es X.env)).any (·.1)=false:=by rfl):PE X (.Call (.Name x p) (e::es) [] pos) (tCB r t):=by
 intro pins s σ H Q I h
 refine fS (d9 I hg hm hv ?_ hn hdb)
 exact PyProof.Rows.callWith_builtin1 (thn (ha pos pins s σ H _ I h) λus s1 ⟨vs,H1,I1,r1,q1⟩=>hc pins s1 σ H1 vs us Q I1 r1 q1) he hpl
theorem Fl (hc:CallR X (.type T) r)(hg:Gl X x)(hm:X.mg x=none)(hv:bootBuiltins x=some (.type T))(ha:PA X (e::es) t)(hn:x ≠ "__name__" := by decide)(hdb:(x == ("__debug__" : Str))=false:=by decide)
  (he:starEach (e::es) X.env=(false,eval e X.env)::starEach es X.env:=by rfl) (hpl:(backTo pos (starEach es X.env)).any (·.1)=false:=by rfl):PE X (.Call (.Name x p) (e::es) [] pos) (tCB r t):=by
 intro pins s σ H Q I h
 refine fS (d9 I hg hm hv ?_ hn hdb)
 exact bt (thn (ha pos pins s σ H _ I h) λus s1 ⟨vs,H1,I1,r1,q1⟩=>hc pins s1 σ H1 vs us Q I1 r1 q1) he hpl
end
section
variable {κ:Type}[DecidableEq κ]
noncomputable def iD (kvs:List (κ×V))(k:κ):Option V:=(kvs.find? λkv=>decide (kv.1=k)).map (·.2)
noncomputable def putK (kvs:List (κ×V))(k:κ)(v:V):List (κ×V):=
 if (kvs.any λkv=>decide (kv.1=k))=true then kvs.map (λkv=>if kv.1=k then (kv.1,v) else kv) else kvs++[(k,v)]
theorem mD {p:κ×V}{r:List (κ×V)}{k:κ}(e:p.1=k):iD (p::r) k=some p.2:=by simp[iD,em,e]
theorem mF {p:κ×V}{r:List (κ×V)}{k:κ}(e:¬ p.1=k):iD (p::r) k=iD r k:=by simp[iD,em,e]
theorem yz (k:κ):∀kvs:List (κ×V),(kvs.any λkv=>decide (kv.1=k))=(iD kvs k).isSome
 | []=>rfl
 | p::r=>by
  rw[fb]
  by_cases e:p.1=k
  ·simp only[mD e,ca e,Bool.true_or,Option.isSome_some]
  ·rw[mF e,bq e,Bool.false_or];exact yz k r
theorem tU (kvs:List (κ×V))(k:κ)(v:V):(putK kvs k v).length<=kvs.length+1:=by
 unfold putK
 split
 ·rw[af];omega
 ·rw[a8,bb,md];omega
theorem RelO.isSome_eq {o:Option V}{u:Option Value}(r:RelO o u):o.isSome=u.isSome:=by
 cases o with
 | none=>cases u with
  | none=>rfl
  | some _=>exact(show False from r).elim
 | some _=>cases u with
  | none=>exact(show False from r).elim
  | some _=>rfl
theorem RelO.getD {o:Option V}{u:Option Value}{d:V}{d':Value}(r:RelO o u)(rd:RelV d d'):RelV (o.getD d) (u.getD d'):=by
 cases o with
 | none=>cases u with
  | none=>exact rd
  | some _=>exact(show False from r).elim
 | some _=>cases u with
  | none=>exact(show False from r).elim
  | some _=>exact r
theorem KV.val {kvs:List (κ×V)}{vs:List (κ×Value)}(r:KV kvs vs)(k:κ):RelO (iD kvs k) (valueAt vs k):=by
 unfold KV at r
 induction r with
 | nil=>exact gS
 | @cons p q ps qs h t ih=>
  obtain⟨h1,h2⟩:=h
  by_cases e:p.1=k
  ·have e':q.1=k:=h1.symm.trans e
   have b:valueAt (q::qs) k=some q.2:=by simp[valueAt,em,e']
   rw[mD e,b];exact h2
  ·have e':¬ q.1=k:=λz=>e (h1.trans z)
   have b:valueAt (q::qs) k=valueAt qs k:=by simp[valueAt,em,e']
   rw[mF e,b];exact ih
theorem KV.any {kvs:List (κ×V)}{vs:List (κ×Value)}(r:KV kvs vs)(k:κ):(kvs.any λkv=>decide (kv.1=k))=vs.any λkv=>decide (kv.1=k):=by
 unfold KV at r
 induction r with
 | nil=>rfl
 | cons h t ih=>rw[fb,fb,ih,h.1]
theorem KV.repl {kvs:List (κ×V)}{vs:List (κ×Value)}(r:KV kvs vs)(k:κ){y:V}{u:Value}(ry:RelV y u):
  KV (kvs.map λkv=>if kv.1=k then (kv.1,y) else kv) (vs.map λkv=>if kv.1=k then (kv.1,u) else kv):=by
 unfold KV at r ⊢
 induction r with
 | nil=>exact .nil
 | @cons p q ps qs h t ih=>
  rw[av,av]
  refine .cons ?_ ih
  obtain⟨h1,h2⟩:=h
  by_cases e:p.1=k
  ·rw[bp e,bp (h1.symm.trans e)];exact⟨h1,ry⟩
  ·rw[a9 e,a9 (λz=>e (h1.trans z))];exact⟨h1,h2⟩
theorem KV.put {kvs:List (κ×V)}{vs:List (κ×Value)}(r:KV kvs vs)(k:κ){y:V}{u:Value}(ry:RelV y u):KV (putK kvs k y) (stored vs k u):=by
 unfold putK stored
 rw[r.any k]
 by_cases e:(vs.any λkv=>decide (kv.1=k))=true
 ·rw[bp e,bp e];exact r.repl k ry
 ·rw[a9 e,a9 e];exact Paired.snoc r ⟨rfl,ry⟩
theorem KV.length {kvs:List (κ×V)}{vs:List (κ×Value)}(r:KV kvs vs):kvs.length=vs.length:=gE r
end
theorem sW {P:Program}{w:World}{k:Key}{u:Value}(r:RelV (kV k) u):(jE P w).is k u=true:=by
 cases k with
 | inl i=>obtain⟨t,e⟩:=(show ∃t,u=Value.int i t from r);subst e;exact Aq P w i t
 | inr x=>obtain⟨t,e⟩:=(show ∃t,u=Value.str x t from r);subst e;exact Ar P w x t
theorem Fo {P:Program}{w:World}{k:Key}{u:Value}(r:RelV (kV k) u):(dg P w).is k u=true:=Es (sW (P:=P) (w:=w) r)
theorem Bp {P:Program}{w:World}:∀{ks:List Key}{us:qh},Vals (ks.map kV) us->ItemsAre (dg P w) ks us
 | [],_,r=>by rw[c9] at r;cases r;exact .nil
 | k::ks,_,r=>by
  rw[av] at r
  cases r with
  | cons h t=>exact .cons (Fo h) (Bp t)
theorem q_ {P:Program}{w:World}{ks:List Key}{vs:List V}{us:qh}(kt:q8 ks vs)(r:Vals vs us):ItemsAre (dg P w) ks us:=by
 rcases kt with rfl | ⟨x,b,rfl,rfl⟩
 ·exact Bp r
 ·cases r with
  | cons h1 t=>cases t with
   | cons h2 t=>
    cases t
    cases (show _=Value.bool b from h2)
    exact .cons (Fo (k:=.inr x) h1) (.cons (Ao b) .nil)
abbrev KT (K:PySem.W.Frag)(H:Hp):List (List Key×V)->List (List Key×Addr×Value)->Prop:=Paired λp q=>p.1=q.1/\CKey K H q.2.1 p.1/\RelV p.2 q.2.2
theorem KT.val {K:W.Frag}{H:Hp}{kvs:List (List Key×V)}{xs:List (List Key×Addr×Value)}(r:KT K H kvs xs)(k:List Key):RelO (iD kvs k) ((atKey xs k).map (·.2)):=by
 induction r with
 | nil=>exact gS
 | @cons p q ps qs h t ih=>
  obtain⟨h1,_,h2⟩:=h
  by_cases e:p.1=k
  ·have e':q.1=k:=h1.symm.trans e
   have b:atKey (q::qs) k=some q.2:=by simp[atKey,em,e']
   rw[mD e,b];exact h2
  ·have e':¬ q.1=k:=λz=>e (h1.trans z)
   have b:atKey (q::qs) k=atKey qs k:=by simp[atKey,em,e']
   rw[mF e,b];exact ih
theorem KT.repl {K:W.Frag}{H:Hp}{kvs:List (List Key×V)}{xs:List (List Key×Addr×Value)}(r:KT K H kvs xs)(k:List Key){y:V}{u:Value}(ry:RelV y u):
  KT K H (kvs.map λkv=>if kv.1=k then (kv.1,y) else kv) (xs.map (putAt k u)):=by
 induction r with
 | nil=>exact .nil
 | @cons p q ps qs h t ih=>
  rw[av,av]
  refine .cons ?_ ih
  obtain⟨h1,h2,h3⟩:=h
  unfold putAt
  by_cases e:p.1=k
  ·rw[bp e,bp (h1.symm.trans e)];exact⟨h1,h2,ry⟩
  ·rw[a9 e,a9 (λz=>e (h1.trans z))];exact⟨h1,h2,h3⟩
theorem KT.put {K:W.Frag}{H:Hp}{kvs:List (List Key×V)}{xs:List (List Key×Addr×Value)}(r:KT K H kvs xs)(k:List Key){b:Addr}{y:V}{u:Value}(hb:CKey K H b k)(ry:RelV y u):
  KT K H (putK kvs k y) (storedH xs k b u):=by
 have e:(kvs.any λkv=>decide (kv.1=k))=(atKey xs k).isSome:=by
  rw[yz,(r.val k).isSome_eq,kQ]
 unfold putK storedH
 rw[e]
 by_cases q:(atKey xs k).isSome=true
 ·rw[bp q,bp q];exact r.repl k ry
 ·rw[a9 q,a9 q];exact Paired.snoc r ⟨rfl,hb,ry⟩
theorem KT.keeps {K:W.Frag}{H H':Hp}{kvs:List (List Key×V)}{xs:List (List Key×Addr×Value)}(r:KT K H kvs xs)(ht:∀b ys,H b=some (.tup ys)->H' b=some (.tup ys)):KT K H' kvs xs:=
 Paired.mapP r λ_ _ z=>⟨z.1,z.2.1.keeps ht,z.2.2⟩
section
variable {P:Program}{w:World}{K:W.Frag}{H:Hp}{h:Heap}{a:Addr}
theorem J4 {u:HO}(ok:HOk P w K H h)(e:Rd H a u):ObjOk P w K H h a u:=e.ok ok
theorem nP {kvs:List (Key×V)}(ok:HOk P w K H h)(e:Rd H a (.dK kvs)):kvs.length<=sizeLine/\(a == sysModules)=false/\∃vs,KV kvs vs/\h.DictOf (jE P w) a vs:=
 show ObjOk P w K H h a (.dK kvs) from J4 ok e
theorem Tc {kvs:List (Key×V)}(ok:HOk P w K H h)(e:H a=some (.dK kvs)):kvs.length<=sizeLine/\(a == sysModules)=false/\∃vs,KV kvs vs/\h.DictOf (jE P w) a vs:=nP ok (.inl e)
theorem Py {ks:List Key}(ok:HOk P w K H h)(e:Og H a ks):(tupleKind (dg P w)).is h ks a:=by
 obtain⟨vs,e,kt⟩:=e
 obtain⟨_,its,r,o,h1,h2,n,h3⟩:=(show ObjOk P w K H h a (.tup vs) from ok a _ e)
 exact⟨o,its.toArray,n,h1,h2,h3,by simpa using q_ kt r⟩
theorem j7 {ks:List Key}(kin:K.In h)(ok:HOk P w K H h)(e:CKey K H a ks):(tupleKind (dg P w)).is h ks a:=by
 rcases e with e | ⟨vs,⟨o,its,n,e1,e2,e3,_,r⟩,kt⟩
 ·exact Py ok e
 ·exact⟨o,its,n,kin a o e1,e2,e3,q_ kt r⟩
theorem oM {kvs:List (List Key×V)}(kin:K.In h)(ok:HOk P w K H h)(e:Rd H a (.dT kvs)):kvs.length<=sizeLine/\(a == sysModules)=false/\∃xs,KT K H kvs xs/\DictE (tupleKind (dg P w)) h a xs:=by
 obtain⟨z,y,xs,r,o,es,ep,h1,h2,h3,h4,h5,h6⟩:=(show ObjOk P w K H h a (.dT kvs) from J4 ok e)
 subst h6
 refine⟨z,y,xs,r,o,es,h1,h2,h3,h4,λx hx=>?_,h5⟩
 have all:∀{l:List (List Key×V)}{m:List (List Key×Addr×Value)},KT K H l m->∀x∈m,(tupleKind (dg P w)).is h x.1 x.2.1:=by
  intro l m q
  induction q with
  | nil=>intro x hx;exact nomatch hx
  | cons hq t ih=>
   intro x hx
   rcases aw.mp hx with e | hx
   ·rw[e];exact j7 kin ok (by rw[← hq.1];exact hq.2.1)
   ·exact ih x hx
 exact all r x hx
theorem pY {kvs:List (List Key×V)}(kin:K.In h)(ok:HOk P w K H h)(e:Rd H a (.dT kvs)):kvs.length<=sizeLine/\(a == sysModules)=false /\
  ∃xs,KT K H kvs xs/\h.DictOfH (tupleKind (dg P w)) a xs:=let ⟨z,y,xs,r,q⟩:=oM kin ok e;⟨z,y,xs,r,q.of⟩
end
def DGet (K:W.Frag)(H:Hp)(a:Addr)(y:V)(r:Option V):Prop:=
 (∃kvs k,Rd H a (.dK kvs)/\y=kV k/\r=iD kvs k)\/∃kvs k b,Rd H a (.dT kvs)/\y=.ref b/\CKey K H b k/\r=iD kvs k
def DPut (K:W.Frag)(H:Hp)(a:Addr)(y v:V)(H':Hp):Prop:=
 (∃kvs k,H a=some (.dK kvs)/\y=kV k/\kvs.length < sizeLine/\H'=upd H a (.dK (putK kvs k v))) \/
 ∃kvs k b,H a=some (.dT kvs)/\y=.ref b/\CKey K H b k/\kvs.length < sizeLine/\H'=upd H a (.dT (putK kvs k v))
theorem DGet.k {K:W.Frag}{H:Hp}{a:Addr}{kvs:List (Key×V)}{k:Key}(e:H a=some (.dK kvs)):DGet K H a (kV k) (iD kvs k):=.inl ⟨kvs,k,.inl e,rfl,rfl⟩
theorem DGet.t {K:W.Frag}{H:Hp}{a b:Addr}{kvs:List (List Key×V)}{k:List Key}(e:H a=some (.dT kvs))(eb:CKey K H b k):DGet K H a (.ref b) (iD kvs k):=.inr ⟨kvs,k,b,.inl e,rfl,eb,rfl⟩
theorem DPut.k {K:W.Frag}{H:Hp}{a:Addr}{kvs:List (Key×V)}{k:Key}{v:V}(e:H a=some (.dK kvs))(hl:kvs.length < sizeLine):DPut K H a (kV k) v (upd H a (.dK (putK kvs k v))):=.inl ⟨kvs,k,e,rfl,hl,rfl⟩
theorem DPut.t {K:W.Frag}{H:Hp}{a b:Addr}{kvs:List (List Key×V)}{k:List Key}{v:V}(e:H a=some (.dT kvs))(eb:CKey K H b k)(hl:kvs.length < sizeLine):
  DPut K H a (.ref b) v (upd H a (.dT (putK kvs k v))):=.inr ⟨kvs,k,b,e,rfl,eb,hl,rfl⟩
section
variable {X:Cx}{pins:gV}{σ:St}{H:Hp}{s:Shared}{a:Addr}{y v:V}{u r:Value}{o:Option V}{A:Around}{E:fN}
theorem Inv.big (I:Inv X pins σ H s):sysModules < s.heap.objs.size:=by
 have h:mainGlobals < s.heap.objs.size:=(I.mod.glob.keeps I.bk).lt
 exact Nat.lt_trans (by decide) h
theorem Fp {Q:fN}(hu:A.units+1 < cLine)(I:Inv X pins σ H s)(g:DGet X.K H a y (some v))(ry:RelV y u)(h:∀w' s',Inv X pins σ H s'->RelV v w'->Q w' s'):
  wpAny (model X.prog X.w) A (getItem (.ref a) u) Q E s:=by
 rcases g with ⟨kvs,k,e,ey,l⟩ | ⟨kvs,k,b,e,ey,eb,l⟩
 ·subst ey
  obtain⟨z,hd,vs,rel,dd⟩:=nP I.hok e
  obtain⟨w',hw,rw'⟩:=RelO.some_of (v:=v) (o:=valueAt vs k) (by rw[l];exact rel.val k)
  exact wpAny_getItem_of (sW ry) dd.mapOf hw (h w' _ (I.tok _) rw')
 ·subst ey
  cases (show u=Value.ref b from ry)
  obtain⟨z,hd,xs,rel,dd⟩:=pY I.kIn I.hok e
  obtain⟨w',hw,rw'⟩:=RelO.some_of (v:=v) (o:=(atKey xs k).map (·.2)) (by rw[l];exact rel.val k)
  obtain⟨p,hp,hp2⟩:=eg.mp hw
  refine wpAny_getItem_heap (gX hu) (j7 I.kIn I.hok eb) dd hp ?_
  rw[hp2]
  exact h w' _ (I.tok _) rw'
theorem Ux {Q:fN}(hu:A.units+1 < cLine)(I:Inv X pins σ H s)(g:DGet X.K H a y o)(ry:RelV y u)(h:∀s',Inv X pins σ H s'->Q (.bool o.isSome) s'):
  wpAny (model X.prog X.w) A (compareOp .In u (.ref a)) Q E s:=by
 rcases g with ⟨kvs,k,e,ey,l⟩ | ⟨kvs,k,b,e,ey,eb,l⟩
 ·subst ey
  obtain⟨z,hd,vs,rel,dd⟩:=nP I.hok e
  refine wpAny_in_of (sW ry) hd dd.mapOf ?_
  rw[← (rel.val k).isSome_eq,← l]
  exact h _ (I.tok _)
 ·subst ey
  cases (show u=Value.ref b from ry)
  obtain⟨z,hd,xs,rel,dd⟩:=pY I.kIn I.hok e
  refine wpAny_in_heap (gX hu) (j7 I.kIn I.hok eb) hd dd ?_
  have q:=(rel.val k).isSome_eq
  rw[kQ] at q
  rw[← q,← l]
  exact h _ (I.tok _)
theorem K4 {Q:fN}(hu:A.units+1 < cLine)(I:Inv X pins σ H s)(g:DGet X.K H a y o)(ry:RelV y u)(h:∀s',Inv X pins σ H s'->Q (.bool (!o.isSome)) s'):
  wpAny (model X.prog X.w) A (compareOp .NotIn u (.ref a)) Q E s:=by
 rcases g with ⟨kvs,k,e,ey,l⟩ | ⟨kvs,k,b,e,ey,eb,l⟩
 ·subst ey
  obtain⟨z,hd,vs,rel,dd⟩:=nP I.hok e
  refine wpAny_notIn_of (sW ry) hd dd.mapOf ?_
  rw[← (rel.val k).isSome_eq,← l]
  exact h _ (I.tok _)
 ·subst ey
  cases (show u=Value.ref b from ry)
  obtain⟨z,hd,xs,rel,dd⟩:=pY I.kIn I.hok e
  refine wpAny_notIn_heap (gX hu) (j7 I.kIn I.hok eb) hd dd ?_
  have q:=(rel.val k).isSome_eq
  rw[kQ] at q
  rw[← q,← l]
  exact h _ (I.tok _)
theorem vK {h':Heap}{t':Nat}{ob:HO}(I:Inv X pins σ H s)(mu:Mut (H a))(hs:Heap.SameBut a s.heap h')(he:∃q,h'.get? a=some q)(new:ObjOk X.prog X.w X.K (upd H a ob) h' a ob):
  Inv X pins σ (upd H a ob) { s with heap:=h',toks:=t' }:=
 I.write (x:=a) (e:=a) mu (.inl rfl) (λb q hb z=>(hs.2 b hb).trans z) he new
theorem Pz {K:W.Frag}{P:Program}{w:World}{H':Hp}{h':Heap}{kvs:List (Key×V)}{vs:List (Key×Value)}(z:kvs.length<=sizeLine)(hd:(a == sysModules)=false)(rel:KV kvs vs)(dd:h'.DictOf (jE P w) a vs):
  ObjOk P w K H' h' a (.dK kvs):=⟨z,hd,vs,rel,dd⟩
theorem Fq {H':Hp}{Q:Unit->Shared->Prop}(hu:A.units+1 < cLine)(I:Inv X pins σ H s)(g:DPut X.K H a y v H')(ry:RelV y u)(rv:RelV v r)(h:∀s',Inv X pins σ H' s'->Q () s'):
  wpAny (model X.prog X.w) A (setItem (.ref a) u r) Q E s:=by
 rcases g with ⟨kvs,k,e,ey,l,eH⟩ | ⟨kvs,k,b,e,ey,eb,l,eH⟩
 ·subst ey eH
  obtain⟨z,hd,vs,rel,dd⟩:=Tc I.hok e
  have hz:vs.length<=sizeLine:=by rw[← rel.length];exact z
  have hl:(putK kvs k v).length<=sizeLine:=by have:=tU kvs k v;omega
  refine wpAny_setItem_pairs (hsz:=hz) (sW ry) dd λh' dd' hs=>h _ ?_
  have he:∃q,h'.get? a=some q:=let ⟨q,_,_,hq,_⟩:=dd';⟨q,hq⟩
  exact vK I (by rw[e];exact gS) hs he (Pz hl hd (rel.put k rv) dd')
 ·subst ey eH
  cases (show u=Value.ref b from ry)
  obtain⟨z,hd,xs,rel,dd⟩:=oM I.kIn I.hok (.inl e)
  have hz:xs.length<=sizeLine:=by rw[← gE rel];exact z
  have hl:(putK kvs k v).length<=sizeLine:=by have:=tU kvs k v;omega
  refine Hz (gX hu) (j7 I.kIn I.hok eb) dd hz λh' dd' hs=>h _ ?_
  obtain⟨q,es,hq,h2,h3,h4,_,h5⟩:=dd'
  refine vK I (by rw[e];exact gS) hs ⟨q,hq⟩ ⟨hl,hd,_,(rel.put k eb rv).keeps λc ys ec=>?_,q,es,_,hq,h2,h3,h4,h5,rfl⟩
  rw[aP (JV ec e (λz=>nomatch z))]
  exact ec
end
section
variable {X:Cx}{pins:gV}{σ:St}{H:Hp}{s:Shared}{a:Addr}{kvs:List (Key×V)}{k:Key}{u:Value}{A:Around}{E:fN}
theorem Td {Q:fN}(I:Inv X pins σ H s)(e:Rd H a (.dK kvs))(h:∀t s',Inv X pins σ H s'->Q (.int kvs.length t) s'):wpAny (model X.prog X.w) A (call (.builtin "len") [.ref a]) Q E s:=by
 obtain⟨z,hd,vs,rel,dd⟩:=nP I.hok e
 refine call_len_dict hd dd (by rw[← rel.length];rw[sizeLine_eq] at z;omega) ?_
 rw[← rel.length]
 exact h _ _ (I.tok _)
end
def HX (i:Expr):Prop:=∀ov iv,subscripted i false ov iv=operate [ov,iv] (getItem ov iv)
theorem K5 {prog:Program}{w:World}{A:Around}{E:fN}{s:Shared}{env:Env}{value slice:Expr}{pos:Pos}{T id:String}{Q:fN}
  (hl:typeLookup (.type T) "__getitem__" = pure (some (.builtin id))) (hs:HX slice)
  (h:wpAny (model prog w) A (eval value env) (λo s₁=>wpAny (model prog w) A (eval slice env) (λi s₂=>s₂.TypeIs o T/\wpAny (model prog w) A (getItem o i) Q E s₂) E s₁) E s):
  wpAny (model prog w) A (eval (.Subscript value slice pos) env) Q E s:=by
 refine Subscript_ (ef h (λo s₁ h₁=>ef h₁ (λi s₂ h₂=>?_) λ_ _ x=>x) λ_ _ x=>x)
 obtain⟨hT,h₂⟩:=h₂
 unfold subscriptTail
 refine ac ?_
 rw[getitemInPython_of_ne hT.not_modules]
 refine ac (gl hT hl ?_)
 have fin:wpAny (model prog w) A (subscripted slice false o i) (λr s₃=>wpAny (model prog w) A (letTemporaryGo value o r >>= λ_=>pure r) Q E s₃) E s₂:=by
  rw[hs o i]
  exact wpAny_operating (ef h₂ (λr s₃ h₃=>ac (wpAny_letTemporaryGo (al h₃))) λ_ _ x=>x)
 first
  | exact al (ac fin)
  | exact ac (al (ac fin))
  | exact ac fin
theorem Av {X:Cx}{pins:gV}{σ:St}{H:Hp}{s:Shared}{a:Addr}{y:V}{o:Option V}(I:Inv X pins σ H s)(g:DGet X.K H a y o):s.TypeIs (.ref a) "dict" := by
 rcases g with ⟨kvs,k,e,_,_⟩ | ⟨kvs,k,b,e,_,_,_⟩
 ·obtain⟨_,_,vs,_,dd⟩:=nP I.hok e
  exact dd.typeIs
 ·obtain⟨_,_,xs,_,dd⟩:=pY I.kIn I.hok e
  exact dd.typeIs
def Te (K:W.Frag)(td ty:TE):TE:=fun σ H Q=>td σ H λx H1=>ty σ H1 λy H2=>∃a v,x=.ref a/\DGet K H2 a y (some v)/\Q v H2
def Tf (K:W.Frag)(td ty tv:TE):TS:=λD σ H=>tv σ H λv H1=>td σ H1 λx H2=>ty σ H2 λy H3=>∃a H4,x=.ref a/\DPut K H3 a y v H4/\D.nx σ H4
section
variable {X:Cx}{o i e value:Expr}{pos pos' tpos:Pos}{td ty tv:TE}
theorem K6 (hu:X.A.units+1 < cLine)(ho:PE X o td)(hi:PE X i ty)(hs:HX i):PE X (.Subscript o i pos) (Te X.K td ty):=by
 intro pins s σ H Q I h
 refine K5 PySem.F.slot_dict_getitem.lookup hs (thn (ho pins s σ H _ I h) λu s1 ⟨x,H1,I1,rx,q1⟩=>thn (hi pins s1 σ H1 _ I1 q1) ?_)
 rintro iv s2 ⟨y,H2,I2,ry,a,v,ex,g,q2⟩
 subst ex
 obtain rfl:u=Value.ref a:=rx
 exact⟨Av I2 g,Fp hu I2 g ry λw' s3 I3 rw'=>⟨v,H2,I3,rw',q2⟩⟩
theorem K7 (hu:X.A.units+1 < cLine)(ho:PE X o td)(hi:PE X i ty)(hv:PE X value tv)(hs:swapsWith value (some (.Subscript o i pos')) pos.line X.env=pure false):
  PS X (.Assign [.Subscript o i pos'] value pos) (Tf X.K td ty tv):=by
 intro pins s σ H D I h
 refine wpAny_Assign_Subscript (thn (hv pins s σ H _ I h) λr s1 ⟨v,H1,I1,rv,q1⟩=>thn (ho pins s1 σ H1 _ I1 q1) λu s2 ⟨x,H2,I2,rx,q2⟩=>thn (hi pins s2 σ H2 _ I2 q2) ?_) hs
 rintro iv s3 ⟨y,H3,I3,ry,a,H4,ex,g,q3⟩
 subst ex
 obtain rfl:u=Value.ref a:=rx
 exact Fq hu I3 g ry rv λs4 I4=>⟨σ,H4,I4,q3⟩
end
theorem yC {P:Program}{w:World}{K:W.Frag}{H:Hp}(h:Heap)(hb:sysModules < h.objs.size):ObjOk P w K H (h.push { cls:=.type "dict",data:=.dict #[] }) h.objs.size (.dT []):=
 ⟨cK _,kw.mpr (fF (cb hb)),[],.nil,_,#[],0,am _ rfl,⟨rfl,rfl,rfl⟩,rfl,rfl,List.nodup_nil,rfl⟩
def PB:TE:=λ_ H Q=>∀p,H p=none->Q (.ref p) (upd H p (.dT []))
section
variable {X:Cx}{pos:Pos}
theorem HY:PE X (.Dict [] [] pos) PB:=λpins s σ H Q I h=>
 wpAny_Dict_empty ⟨.ref s.heap.objs.size,_,I.laid (a:=s.heap.objs.size) (o:=.dT []) (t':=s.toks) (λ_ _ q=>ae _ q) (aS _) (yC s.heap I.big),rfl,h _ (I.hok.fresh (aS _))⟩
end
structure M2 (X:Cx)(o:Expr)(m:Str)(apos:Pos)(e f:Expr)(cpos:Pos):Prop where
 base:attributeBase o m X.env (eval o X.env)=eval o X.env
 few:((backTo cpos (starEach [e,f] X.env)).all (λx=>!x.1)&&(backToKw cpos (keywordEach [] X.env)).all (λx=>x.1.isSome)
  && decide (([e,f]:qo).length+([]:List Keyword).length+(if ([]:List Keyword).isEmpty then 0 else 1) < 30))=true
 line:(apos.endLine == cpos.line)=true
 trees:backTo cpos (starEach [e,f] X.env)=[(false,eval e X.env),(false,eval f X.env)]
def IsD (H:Hp)(a:Addr):Prop:=(∃kvs,Rd H a (.dK kvs))\/∃kvs,Rd H a (.dT kvs)
theorem yD {X:Cx}{pins:gV}{σ:St}{H:Hp}{s:Shared}{a:Addr}(I:Inv X pins σ H s)(d:IsD H a):
  s.TypeIs (.ref a) "dict" /\ (∀b,Value.ref a=.ref b->∃ob,s.heap.get? b=some ob/\ob.dict=none)/\(a == sysModules)=false:=by
 rcases d with ⟨kvs,e⟩ | ⟨kvs,e⟩
 ·obtain⟨_,hd,vs,_,dd⟩:=nP I.hok e
  refine⟨dd.typeIs,λb q=>?_,hd⟩
  cases q
  obtain⟨ob,_,_,h1,h2,_⟩:=dd
  exact⟨ob,h1,h2.2.1⟩
 ·obtain⟨_,hd,xs,_,dd⟩:=pY I.kIn I.hok e
  refine⟨dd.typeIs,λb q=>?_,hd⟩
  cases q
  obtain⟨ob,_,_,h1,h2,_⟩:=dd
  exact⟨ob,h1,h2.2.1⟩
section
variable {X:Cx}{pins:gV}{σ:St}{H:Hp}{s:Shared}{a:Addr}{y d:V}{u r:Value}{o:Option V}{A:Around}{E:fN}
theorem PJ {Q:fN}(hu:A.units+1 < cLine)(I:Inv X pins σ H s)(g:DGet X.K H a y o)(ry:RelV y u)(rd:RelV d r)(h:∀w' s',Inv X pins σ H s'->RelV (o.getD d) w'->Q w' s'):
  wpAny (model X.prog X.w) A (call (.builtin "dict.get") [.ref a,u,r]) Q E s:=by
 rcases g with ⟨kvs,k,e,ey,l⟩ | ⟨kvs,k,b,e,ey,eb,l⟩
 ·subst ey
  obtain⟨z,hd,vs,rel,dd⟩:=nP I.hok e
  refine call_meetsIn hJ dd.typeIs kR (kG _ _ _) (meets_dict_get_default (jE X.prog X.w) a (sW ry) hd r) ⟨_,dd.mapOf,h _ _ (I.tok _) ?_⟩
  rw[l]
  exact(rel.val k).getD rd
 ·subst ey
  cases (show u=Value.ref b from ry)
  obtain⟨z,hd,xs,rel,dd⟩:=pY I.kIn I.hok e
  refine call_meetsIn hJ dd.typeIs kR (kG _ _ _) (oi (tupleKind (dg X.prog X.w)) a b hd r) ⟨gX hu,k,xs,j7 I.kIn I.hok eb,dd,h _ _ (I.tok _) ?_⟩
  rw[l]
  exact(rel.val k).getD rd
end
def PK (K:W.Frag)(td ty tx:TE):TE:=fun σ H Q=>td σ H λx H1=>∃a,x=.ref a/\IsD H1 a/\ty σ H1 λy H2=>tx σ H2 λz H3=>∃o,DGet K H3 a y o/\Q (o.getD z) H3
section
variable {X:Cx}{o e f:Expr}{apos cpos:Pos}{td ty tx:TE}
theorem H_ (hu:X.A.units+1 < cLine)(ho:PE X o td)(he:PE X e ty)(hf:PE X f tx)(m:M2 X o "get" apos e f cpos):PE X (.Call (.Attribute o "get" apos) [e,f] [] cpos) (PK X.K td ty tx):=by
 intro pins s σ H Q I h
 refine nE m.base m.few m.line oj hJ oI (thn (ho pins s σ H _ I h) ?_)
 rintro u s1 ⟨x,H1,I1,rx,a,ex,d,q1⟩
 subst ex
 obtain rfl:u=Value.ref a:=rx
 obtain⟨t1,t2,_⟩:=yD I1 d
 refine⟨t1,t2,?_⟩
 rw[m.trees]
 refine kT rfl (kg (fk (thn (he pins s1 σ H1 _ I1 q1) λiv s2 ⟨y,H2,I2,ry,q2⟩=>
  fk (thn (hf pins s2 σ H2 _ I2 q2) λfv s3 ⟨z,H3,I3,rz,ov,g,q3⟩=>io ?_))))
 exact PJ hu I3 g ry rz λw' s4 I4 rw'=>⟨_,H3,I4,rw',q3⟩
end
end L2
namespace HT
open PySem PyProof.Rows
def lexLt:List Int->List Int->Bool
 | [],[]=>false
 | [],_::_=>true
 | _::_,[]=>false
 | x::xs,y::ys=>if x=y then lexLt xs ys else decide (x < y)
theorem lexLt_cons (x y:Int)(xs ys:qv):lexLt (x::xs) (y::ys)=if x=y then lexLt xs ys else decide (x < y):=rfl
theorem Ia (A:Around)(s:Shared)(a:Int)(t:Tok)(c:Int)(u:Tok):∃e,SeqAt.EqAt A s (.int a t) (.int c u) e/\(e=true↔a=c):=
 ⟨(a == c),nc a t c u,by simp⟩
theorem Ib (A:Around)(s:Shared)(a:Int)(t:Tok)(c:Int)(u:Tok)(prog:Program)(w:World)(E:fN)(Q:fN)(h:Q (.bool (decide (a < c))) s):
  wpAny (model prog w) A (richCompare .Lt (.int a t) (.int c u)) Q E s:=
 (PyProof.Rows.lt_int h:wpAny (model prog w) A (compareOp .Lt (.int a t) (.int c u)) Q E s)
section
variable {prog:Program}{w:World}{A:Around}{E:fN}{s:Shared}
def sIx (n d:Nat):Option Int->Nat
 | none=>d
 | some v=>if v < 0 then (v+(n:Int)).toNat else min v.toNat n
theorem sIx_none (n d:Nat):sIx n d none=d:=rfl
theorem sIx_nat (n d k:Nat):sIx n d (some (k:Int))=min k n:=by
 show (if (k:Int) < 0 then ((k:Int)+(n:Int)).toNat else min (k:Int).toNat n)=min k n
 rw[a9 (by omega),ft]
theorem sIx_le (n d:Nat)(hd:d<=n)(o:Option Int):sIx n d o<=n:=by
 cases o with
 | none=>exact hd
 | some v=>
  show (if v < 0 then (v+(n:Int)).toNat else min v.toNat n)<=n
  by_cases hv:v < 0
  ·rw[bp hv];omega
  ·rw[a9 hv];exact lm _ _
end
end HT
namespace L2
open PySem PySem.Spec PyProof.Rows
abbrev TO:=St->Hp->(Option Int->Hp->Prop)->Prop
def PO (X:Cx)(e:Option Expr)(t:TO):Prop:=
 ∀(pins:gV) (s:Shared) (σ:St) (H:Hp) (Q:Option Int->Hp->Prop),Inv X pins σ H s->t σ H Q->
  wpAny (model X.prog X.w) X.A (evalPart e X.env) (λu s'=>∃o H',Inv X pins σ H' s'/\IsPart u o/\Q o H') X.xe s
def K8:TO:=λ_ H Q=>Q none H
def Tg (t:TE):TO:=fun σ H Q=>t σ H λx H1=>∃i,x=.int i/\Q (some i) H1
theorem intsAre_of {ns:qv}:∀{us:qh},Vals (ns.map V.int) us->IntsAre us ns:=by
 induction ns with
 | nil=>intro us r;rw[c9] at r;cases r;exact .nil
 | cons n ns ih=>
  intro us r
  rw[av] at r
  cases r with
  | cons r1 r2=>
   obtain⟨t,e⟩:=r1
   subst e
   exact .cons n t (ih r2)
section
variable {X:Cx}{e:Expr}{te:TE}{lo hi:Option Expr}{tl th:TO}{pos p2:Pos}
theorem K9:PO X none K8:=by
 intro pins s σ H Q I h
 rw[evalPart_none]
 exact al ⟨none,H,I,.none,h⟩
theorem K_ (h:PE X e te):PO X (some e) (Tg te):=by
 intro pins s σ H Q I hw
 rw[evalPart_some]
 refine thn (h pins s σ H _ I hw) ?_
 rintro u s1 ⟨x,H1,I1,r1,q1⟩
 obtain⟨i,rfl,q⟩:=q1
 obtain⟨t,rfl⟩:=r1
 exact⟨some i,H1,I1,.int i t,q⟩
def SlR (X:Cx)(r:V->Option Int->Option Int->Hp->VK->Prop):Prop:=
 ∀(pins:gV) (s:Shared) (σ:St) (H:Hp) (x:V) (v vl vu:Value) (lo hi:Option Int) (sl:Addr) (Q:VK),Inv X pins σ H s->RelV x v->s.heap.IsSliceOf sl vl vu .none->IsPart vl lo->IsPart vu hi->r x lo hi H Q->
  ∃T id,typeLookup (.type T) "__getitem__" = pure (some (.builtin id))/\s.TypeIs v T/\wpAny (model X.prog X.w) X.A (getItem v (.ref sl)) (EP X pins σ Q) X.xe s
theorem SlR.or {r r':V->Option Int->Option Int->Hp->VK->Prop}(h:SlR X r)(h':SlR X r'):SlR X (λx lo hi H Q=>r x lo hi H Q\/r' x lo hi H Q):=by
 intro pins s σ H x v vl vu lo hi sl Q I rx hs pl pu q
 rcases q with q | q
 ·exact h pins s σ H x v vl vu lo hi sl Q I rx hs pl pu q
 ·exact h' pins s σ H x v vl vu lo hi sl Q I rx hs pl pu q
def tSl (r:V->Option Int->Option Int->Hp->VK->Prop)(te:TE)(tl th:TO):TE:=fun σ H Q=>te σ H λx H1=>tl σ H1 λl H2=>th σ H2 λu H3=>r x l u H3 Q
theorem Ie {r:V->Option Int->Option Int->Hp->VK->Prop}(hr:SlR X r)(he:PE X e te)(hl:PO X lo tl)(hu:PO X hi th):PE X (.Subscript e (.Slice lo hi none p2) pos) (tSl r te tl th):=by
 intro pins s σ H Q I h
 refine Subscript_ (thn (he pins s σ H _ I h) ?_)
 rintro v s1 ⟨x,H1,I1,r1,q1⟩
 refine wpAny_Slice (thn (hl pins s1 σ H1 _ I1 q1) λvl s2 ⟨l,H2,I2,pl,q2⟩=>thn (hu pins s2 σ H2 _ I2 q2) ?_)
 rintro vu s3 ⟨u,H3,I3,pu,q3⟩
 rw[evalPart_none]
 refine al ?_
 have I4:Inv X pins σ H3 { s3 with heap:=s3.heap.push { cls:=.type "slice",data:=.fields #[vl,vu,.none] } }:=I3.kept (t':=s3.toks) λb ob q=>ae _ q
 obtain⟨T,id,hT,ht,hg⟩:=hr pins { s3 with heap:=s3.heap.push { cls:=.type "slice",data:=.fields #[vl,vu,.none] } } σ H3 x v vl vu l u s3.heap.objs.size Q I4 r1 (Heap.IsSliceOf.new ..) pl pu q3
 show wpAny (model X.prog X.w) X.A (subscriptTail e (.Slice lo hi none p2) v (.ref s3.heap.objs.size)) (EP X pins σ Q) X.xe { s3 with heap:=s3.heap.push { cls:=.type "slice",data:=.fields #[vl,vu,.none] } }
 exact tail_any (ops:=[.ref s3.heap.objs.size,v]) ht hT hg (by with_unfolding_all rfl)
def vL (xs:List V)(lo hi:Option Int):List V:=(xs.drop (HT.sIx xs.length 0 lo)).take (HT.sIx xs.length xs.length hi - HT.sIx xs.length 0 lo)
theorem Aw (xs:List V)(lo hi:Option Int):(vL xs lo hi).length<=xs.length:=by
 unfold vL
 rw[dQ,fq]
 omega
end
def ixN (n:Nat)(i:Int):Option Nat:=if 0<=i then (if i < n then some i.toNat else none) else if -(n:Int)<=i then some (i+n).toNat else none
def atI {α:Type}(xs:List α)(i:Int):Option α:=(ixN xs.length i).bind λj=>xs[j]?
theorem vM {n:Nat}{i:Int}{j:Nat}(h:ixN n i=some j):seqIndex? i n=some j/\j < n/\-(n:Int)<=i/\i < n:=by
 unfold ixN at h
 by_cases h0:0<=i
 ·rw[bp h0] at h
  by_cases h1:i < n
  ·rw[bp h1] at h
   have e:i.toNat=j:=bg h
   exact⟨by rw[seqIndex_of h0 h1,e],by omega,by omega,h1⟩
  ·rw[a9 h1] at h;cases h
 ·rw[a9 h0] at h
  by_cases h1:-(n:Int)<=i
  ·rw[bp h1] at h
   have e:(i+n).toNat=j:=bg h
   exact⟨by rw[seqIndex_neg (by omega) h1,e],by omega,h1,by omega⟩
  ·rw[a9 h1] at h;cases h
theorem vN {α:Type}{xs:List α}{i:Int}{v:α}(h:atI xs i=some v):∃j,seqIndex? i xs.length=some j/\xs[j]?=some v/\j < xs.length/\-(xs.length:Int)<=i/\i < xs.length:=by
 unfold atI at h
 cases e:ixN xs.length i with
 | none=>rw[e] at h;cases h
 | some j=>
  rw[e] at h
  obtain⟨h1,h2,h3,h4⟩:=vM e
  exact⟨j,h1,h,h2,h3,h4⟩
theorem La {α:Type}{xs:List α}{j:Nat}{v:α}(h:xs[j]?=some v):atI xs (j:Int)=some v:=by
 have hj:j < xs.length:=(ap.mp h).1
 have e:ixN xs.length (j:Int)=some j:=by
  unfold ixN
  rw[bp (by omega),bp (by omega)];simp
 unfold atI;rw[e];exact h
def vO (b:Expr):Prop:=∀o i,subscripted b false o i=operate [o,i] (getItem o i)
def IxR (X:Cx)(r:R2):Prop:=
 ∀(value slice:Expr) (pins:gV) (s:Shared) (σ:St) (H:Hp) (x y:V) (v u:Value) (Q:VK),Inv X pins σ H s->RelV x v->RelV y u->r x y H Q->
  subscripted slice false v u=operate [v,u] (getItem v u)->wpAny (model X.prog X.w) X.A (subscriptTail value slice v u) (EP X pins σ Q) X.xe s
def MtR (X:Cx)(id:String)(r:V->List V->Hp->VK->Prop):Prop:=
 ∀(pins:gV) (s:Shared) (σ:St) (H:Hp) (x:V) (xs:List V) (v:Value) (us:qh) (Q:VK),Inv X pins σ H s->RelV x v->Vals xs us->r x xs H Q->
  wpAny (model X.prog X.w) X.A (call (.builtin id) (v::us)) (EP X pins σ Q) X.xe s
section
variable {X:Cx}{a b:Expr}{ta tb:TE}{pos:Pos}
theorem IxR.or {r r':R2}(h:IxR X r)(h':IxR X r'):IxR X (λx y H Q=>r x y H Q\/r' x y H Q):=by
 intro value slice pins s σ H x y v u Q I rx ry q hs
 rcases q with q | q
 ·exact h value slice pins s σ H x y v u Q I rx ry q hs
 ·exact h' value slice pins s σ H x y v u Q I rx ry q hs
theorem J5 {r:R2}(hr:IxR X r)(ha:PE X a ta)(hb:PE X b tb)(hs:vO b):PE X (.Subscript a b pos) (tOp r ta tb):=by
 intro pins s σ H Q I h
 exact Subscript_ (HQ ha hb I h λv u s2 x y H2 I2 rx ry q=>hr a b pins s2 σ H2 x y v u Q I2 rx ry q (hs _ _))
def Ig (K:W.Frag):R2:=λx y H Q=>∃p xs i v,x=.ref p/\y=.int i/\SqL K H p xs/\atI xs i=some v/\Q v H
def PL (K:W.Frag):R2:=λx y H Q=>∃p xs i v,x=.ref p/\y=.int i/\SqT K H p xs/\atI xs i=some v/\Q v H
def PN:R2:=λx y H Q=>∃z i c,x=.str z/\y=.int i/\z.length<=sizeLine/\atI z.cps.toList i=some c/\Q (.str ⟨#[c]⟩) H
theorem ix_list:IxR X (Ig X.K):=by
 intro value slice pins s σ H x y v u Q I rx ry h hs
 obtain⟨p,xs,i,z,rfl,rfl,hq,he,q⟩:=h
 cases rx
 obtain⟨t,rfl⟩:=ry
 obtain⟨its,r,pl,hz⟩:=I.list hq
 obtain⟨j,h1,h2,h3,h4,h5⟩:=vN he
 obtain⟨w,ew,rw'⟩:=r.get h2
 have hl:=r.length
 have hn:=pF
 have fin:EP X pins σ Q w s:=⟨z,H,I,rw',q⟩
 by_cases h0:0<=i
 ·have hj:i.toNat=j:=by
   rw[seqIndex_of h0 h5] at h1
   exact bg h1
  exact item_listR pl.isList h0 (by omega) (by rw[hj];simpa using ew) fin hs
 ·have hj:(i+(its.toArray.size:Int)).toNat=j:=by
   rw[seqIndex_neg (by omega) h4] at h1
   rw[aT,← hl]
   exact bg h1
  exact subscriptTail_builtinR (x:=w) pl.isList.typeIs slot_list_getitem.lookup
   (wpAny_getItem_list_neg (Q:=λr s'=>r=w/\EP X pins σ Q r s') pl.isList (by omega) (by rw[aT] <;> omega) (by omega) (by rw[hj];simpa using ew) ⟨rfl,fin⟩) hs
theorem ix_tup:IxR X (PL X.K):=by
 intro value slice pins s σ H x y v u Q I rx ry h hs
 obtain⟨p,xs,i,z,rfl,rfl,hq,he,q⟩:=h
 cases rx
 obtain⟨t,rfl⟩:=ry
 obtain⟨its,r,pl,hz⟩:=I.tuple hq
 obtain⟨j,h1,h2,h3,h4,h5⟩:=vN he
 obtain⟨w,ew,rw'⟩:=r.get h2
 have hl:=r.length
 have hn:=pF
 have fin:EP X pins σ Q w s:=⟨z,H,I,rw',q⟩
 exact subscriptTail_builtinR (x:=w) pl.typeIs slot_tuple_getitem.lookup
  (getItem_tuple (j:=j) (Q:=λr s'=>r=w/\EP X pins σ Q r s') pl (by omega) (by omega) (by rw[aT,← hl];exact h1) (by simpa using ew) ⟨rfl,fin⟩) hs
theorem PQ:IxR X PN:=by
 intro value slice pins s σ H x y v u Q I rx ry h hs
 obtain⟨z,i,c,rfl,rfl,hz,he,q⟩:=h
 obtain⟨t,rfl⟩:=rx
 obtain⟨t',rfl⟩:=ry
 obtain⟨j,h1,h2,h3,h4,h5⟩:=vN he
 have hl:z.cps.toList.length=z.length:=by simp[Str.length]
 rw[hl] at h1 h4 h5
 have hn:=pF
 exact tail_any (typeIs_str s z t) slot_str_getitem.lookup (getItem_str (c:=c) (by
  have e1:decide (i < -(2 ^ 63:Int))=false:=bq (by omega)
  have e2:decide (i ≥ 2 ^ 63)=false:=bq (by omega)
  rw[e1,e2,Bool.or_false]) (by rw[h1];simpa using h2) ⟨.str ⟨#[c]⟩,H,I.tok _,⟨_,rfl⟩,q⟩) hs
def rIx (K:W.Frag):R2:=λx y H Q=>Ig K x y H Q\/PL K x y H Q\/PN x y H Q
theorem PX:IxR X (rIx X.K):=ix_list.or (ix_tup.or PQ)
theorem De (its:qh)(n j:Nat)(u:Value):Obj.mapSeq (·.setIfInBounds j u) { cls:=.type "list",data:=.seq its.toArray n }={ cls:=.type "list",data:=.seq (its.set j u).toArray n }:=by
 simp[Obj.mapSeq]
theorem Inv.lst {pins:gV}{σ:St}{H:Hp}{s:Shared}{p:Addr}{xs:List V}(I:Inv X pins σ H s)(h:H p=some (.lst xs)):
  ∃(its:qh) (n:Nat),Vals xs its/\s.heap.get? p=some { cls:=.type "list",data:=.seq its.toArray n }/\xs.length<=sizeLine:=by
 obtain⟨z,its,n,r,e⟩:=I.hok p _ h
 exact⟨its,n,r,e,z⟩
theorem Inv.lstUpd {pins:gV}{σ:St}{H:Hp}{s:Shared}{p:Addr}{xs ys:List V}{its its':qh}{n n':Nat}{f:Obj->Obj}(I:Inv X pins σ H s)(h:H p=some (.lst xs))
  (ho:s.heap.get? p=some { cls:=.type "list",data:=.seq its.toArray n }) (hf:f { cls:=.type "list",data:=.seq its.toArray n }={ cls:=.type "list",data:=.seq its'.toArray n' }) (r:Vals ys its') (hz:ys.length<=sizeLine) (t:Nat):
  Inv X pins σ (upd H p (.lst ys)) { s with heap:=s.heap.update p f,toks:=t }:=by
 have e:(s.heap.update p f).get? p=some { cls:=.type "list",data:=.seq its'.toArray n' }:=by
  rw[cw f ho (by rw[hf] <;> rfl),hf]
 refine I.write (x:=p) (e:=p) (by rw[h];trivial) (.inl rfl) (λb u hb q=>(de _ _ (fF hb)).trans q) ⟨_,e⟩ ?_
 exact⟨hz,its',n',r,e⟩
def Th:V->V->V->Hp->(Hp->Prop)->Prop:=λo i v H Q=>∃p xs k j,o=.ref p/\i=.int k/\H p=some (.lst xs)/\ixN xs.length k=some j/\Q (upd H p (.lst (xs.set j v)))
theorem set_list:OJ X Th:=by
 intro pins s σ H o i v ov iv u Q I ro ri rv h
 obtain⟨p,xs,k,j,rfl,rfl,hp,hj,q⟩:=h
 cases ro
 obtain⟨t,rfl⟩:=ri
 obtain⟨its,n,r,ho,hz⟩:=I.lst hp
 obtain⟨h1,h2,h3,h4⟩:=vM hj
 have hl:=r.length
 have hn:=pF
 have I':Inv X pins σ (upd H p (.lst (xs.set j v))) { s with heap:=s.heap.update p (Obj.mapSeq (·.setIfInBounds j u)) }:=
  I.lstUpd hp ho (De its n j u) (r.set rv j) (by rw[dL];exact hz) s.toks
 by_cases h0:0<=k
 ·have hk:k.toNat=j:=by
   rw[seqIndex_of h0 h4] at h1
   exact bg h1
  exact W.ki_setAt ho h0 (by omega) (by rw[aT,← hl];exact h4) (by rw[hk];exact⟨_,I',q⟩)
 ·have hk:(k+(its.toArray.size:Int)).toNat=j:=by
   rw[seqIndex_neg (by omega) h3] at h1
   rw[aT,← hl]
   exact bg h1
  exact W.ki_setBack ho (by omega) (by rw[aT,← hl];exact h3) (by omega) (by rw[hk];exact⟨_,I',q⟩)
theorem yE (lo hi:Option Int)(n:Nat):(sliceBounds lo hi none n).1=((HT.sIx n 0 lo:Nat):Int)/\(sliceBounds lo hi none n).2.1=((HT.sIx n n hi:Nat):Int)/\(sliceBounds lo hi none n).2.2=1:=by
 refine⟨?_,?_,rfl⟩
 ·cases lo with
  | none=>simp[sliceBounds,HT.sIx]
  | some i=>
   simp only[sliceBounds,HT.sIx,Option.getD_none,show (1:Int) > 0 by decide,gx]
   by_cases h:i < 0
   ·simp only[h,gx] <;> omega
   ·simp only[h,gu] <;> omega
 ·cases hi with
  | none=>simp[sliceBounds,HT.sIx]
  | some i=>
   simp only[sliceBounds,HT.sIx,Option.getD_none,show (1:Int) > 0 by decide,gx]
   by_cases h:i < 0
   ·simp only[h,gx] <;> omega
   ·simp only[h,gu] <;> omega
theorem xF (its:qh)(lo hi:Option Int):slicePick its.toArray lo hi none=((its.drop (HT.sIx its.length 0 lo)).take (HT.sIx its.length its.length hi - HT.sIx its.length 0 lo)).toArray:=by
 obtain⟨h1,h2,h3⟩:=yE lo hi its.toArray.size
 unfold slicePick
 rw[h1,h2,h3]
 simp only[sliceRange_one,pick_run,aT] <;> rfl
def P0 (K:W.Frag):V->Option Int->Option Int->Hp->VK->Prop:=λx lo hi H Q=>∃a xs,x=.ref a/\SqL K H a xs/\∀p,H p=none->Q (.ref p) (upd H p (.lst (vL xs lo hi)))
theorem sl_list:SlR X (P0 X.K):=by
 intro pins s σ H x v vl vu lo hi sl Q I rx hs pl pu h
 obtain⟨a,xs,rfl,hx,q⟩:=h
 cases rx
 obtain⟨its,r,ht,hz⟩:=I.list hx
 have hlen:=r.length
 refine⟨"list",_,slot_list_getitem.lookup,ht.isList.typeIs,?_⟩
 refine wpAny_getItem_list_slice ht.isList hs pl pu .none (by simp) ?_ (by rw[aT] <;> omega)
 rw[xF,← hlen]
 refine⟨.ref s.heap.objs.size,_,I.laid (t':=s.toks) (o:=.lst (vL xs lo hi)) (λb ob q=>ae _ q) (aS _) ?_,rfl,q _ (I.hok.fresh (aS _))⟩
 exact⟨f7 (Aw xs lo hi) hz,_,0,(r.drop (HT.sIx xs.length 0 lo)).take (HT.sIx xs.length xs.length hi - HT.sIx xs.length 0 lo),am _ rfl⟩
def je:V->Bool
 | .non=>true
 | .bl _=>true
 | .int _=>true
 | .str _=>true
 | _=>false
noncomputable def eqV:V->V->Bool
 | .non,.non=>true
 | .bl a,.bl b=>a == b
 | .bl a,.int b=>(if a then 1 else 0) == b
 | .int a,.bl b=>a == (if b then 1 else 0)
 | .int a,.int b=>a == b
 | .str a,.str b=>a == b
 | _,_=>false
theorem P_ {A:Around}{s:Shared}{y x:V}{u v:Value}(ry:RelV y u)(rx:RelV x v)(fy:je y=true)(fx:je x=true):SeqAt.EqAt A s u v (eqV y x):=by
 cases y with
 | non=>
  cases ry
  cases x with
  | non=>cases rx;exact SeqAt.EqAt.same _
  | bl b=>cases rx;exact SeqAt.EqAt.none_bool b
  | int b=>obtain⟨t,rfl⟩:=rx;exact SeqAt.EqAt.none_int b t
  | str b=>obtain⟨t,rfl⟩:=rx;exact SeqAt.EqAt.none_str b t
  | _=>exact absurd (show false=true from fx) be
 | bl a=>
  cases ry
  cases x with
  | non=>cases rx;exact SeqAt.EqAt.bool_none a
  | bl b=>cases rx;exact SeqAt.EqAt.bool_bool a b
  | int b=>obtain⟨t,rfl⟩:=rx;exact SeqAt.EqAt.bool_int a b t
  | str b=>obtain⟨t,rfl⟩:=rx;exact SeqAt.EqAt.bool_str a b t
  | _=>exact absurd (show false=true from fx) be
 | int a=>
  obtain⟨t',rfl⟩:=ry
  cases x with
  | non=>cases rx;exact SeqAt.EqAt.int_none a t'
  | bl b=>cases rx;exact SeqAt.EqAt.int_bool a t' b
  | int b=>obtain⟨t,rfl⟩:=rx;exact nc a t' b t
  | str b=>obtain⟨t,rfl⟩:=rx;exact mE a t' b t
  | _=>exact absurd (show false=true from fx) be
 | str a=>
  obtain⟨t',rfl⟩:=ry
  cases x with
  | non=>cases rx;exact SeqAt.EqAt.str_none a t'
  | bl b=>cases rx;exact SeqAt.EqAt.str_bool a t' b
  | int b=>obtain⟨t,rfl⟩:=rx;exact mI a t' b t
  | str b=>obtain⟨t,rfl⟩:=rx;exact SeqAt.EqAt.str_str a t' b t
  | _=>exact absurd (show false=true from fx) be
 | _=>exact absurd (show false=true from fy) be
def eqU (x:V)(u:Value):Bool:=match u with
 | .none=>eqV .non x
 | .bool b=>eqV (.bl b) x
 | .int i _=>eqV (.int i) x
 | .str z _=>eqV (.str z) x
 | _=>false
theorem Ft {x y:V}{u:Value}(r:RelV y u)(f:je y=true):eqU x u=eqV y x:=by
 cases y with
 | non=>cases r;rfl
 | bl b=>cases r;rfl
 | int i=>obtain⟨t,rfl⟩:=r;rfl
 | str z=>obtain⟨t,rfl⟩:=r;rfl
 | _=>exact absurd (show false=true from f) be
theorem pG {x:V}:∀{xs:List V}{us:qh},Vals xs us->xs.all je=true->us.any (eqU x)=xs.any λy=>eqV y x
 | _,_,.nil,_=>rfl
 | y::xs,u::us,.cons r t,f=>by
  rw[iA,bP] at f
  rw[fb,fb,Ft r f.1,pG t f.2]
theorem mG {A:Around}{s:Shared}{x:V}{v:Value}(rx:RelV x v)(fx:je x=true):∀{xs:List V}{us:qh},Vals xs us->xs.all je=true->∀u∈us,SeqAt.EqAt A s u v (eqU x u)
 | _,_,.nil,_=>λu hu=>by cases hu
 | y::xs,u::us,.cons r t,f=>λu' hu=>by
  rw[iA,bP] at f
  rcases aw.mp hu with rfl | hu
  ·rw[Ft r f.1];exact P_ r rx f.1 fx
  ·exact mG rx fx t f.2 u' hu
def inV (x:V)(xs:List V):Bool:=xs.any λy=>eqV y x
def rIn (K:W.Frag)(neg:Bool):R2:=λx y H Q=>∃p xs,y=.ref p/\(SqL K H p xs\/SqT K H p xs)/\je x=true/\xs.all je=true/\Q (.bl (if neg then !inV x xs else inV x xs)) H
theorem Fv:OpR X (compareOp .In) (rIn X.K false):=by
 intro pins s σ H x y v u Q I rx ry h
 obtain⟨p,xs,rfl,hq,fx,fs,q⟩:=h
 cases ry
 rcases hq with hq | hq
 ·obtain⟨its,r,pl,hz⟩:=I.list hq
  refine SeqAt.in_listAt (eqU x) pl.isList (λw hw=>mG rx fx r fs w (by simpa using hw)) ⟨.bl _,H,I,rfl,?_⟩
  rw[show its.toArray.any (eqU x)=its.any (eqU x) by simp,pG r fs]
  exact q
 ·obtain⟨its,r,pl,hz⟩:=I.tuple hq
  refine SeqAt.in_tupleAt (eqU x) pl (λw hw=>mG rx fx r fs w (by simpa using hw)) ⟨.bl _,H,I,rfl,?_⟩
  rw[show its.toArray.any (eqU x)=its.any (eqU x) by simp,pG r fs]
  exact q
theorem yF:OpR X (compareOp .NotIn) (rIn X.K true):=by
 intro pins s σ H x y v u Q I rx ry h
 obtain⟨p,xs,rfl,hq,fx,fs,q⟩:=h
 cases ry
 rcases hq with hq | hq
 ·obtain⟨its,r,pl,hz⟩:=I.list hq
  refine SeqAt.notIn_listAt (eqU x) pl.isList (λw hw=>mG rx fx r fs w (by simpa using hw)) ⟨.bl _,H,I,rfl,?_⟩
  rw[show its.toArray.any (eqU x)=its.any (eqU x) by simp,pG r fs]
  exact q
 ·obtain⟨its,r,pl,hz⟩:=I.tuple hq
  refine SeqAt.notIn_tupleAt (eqU x) pl (λw hw=>mG rx fx r fs w (by simpa using hw)) ⟨.bl _,H,I,rfl,?_⟩
  rw[show its.toArray.any (eqU x)=its.any (eqU x) by simp,pG r fs]
  exact q
theorem yG:OpR X (compareOp .NotIn) (λx y H Q=>∃i j,x=.str i/\y=.str j/\Q (.bl (!(!(Builtin.Str.occurrences j i 0 j.length 1).isEmpty))) H):=by
 intro pins s σ H x y v u Q I rx ry h
 obtain⟨i,j,rfl,rfl,q⟩:=h
 obtain⟨t,rfl⟩:=rx
 obtain⟨t',rfl⟩:=ry
 exact notIn_str ⟨.bl _,H,I,rfl,q⟩
theorem yH:CallR X (.builtin "len") (λxs H Q=>∃p ys,xs=[.ref p]/\(SqL X.K H p ys\/SqT X.K H p ys)/\Q (.int ys.length) H):=by
 intro pins s σ H xs us Q I r h
 obtain⟨p,ys,rfl,hq,q⟩:=h
 obtain⟨u,rfl,rx⟩:=vals1 r
 cases rx
 have hn:=pF
 rcases hq with hq | hq
 ·obtain⟨its,r',pl,hz⟩:=I.list hq
  have hlen:=r'.length
  exact Calls.call_len_list pl.isList (by simp only[aT] <;> omega) ⟨.int ys.length,H,I.tok _,⟨s.toks+1,by rw[aT,hlen]⟩,q⟩
 ·obtain⟨its,r',pl,hz⟩:=I.tuple hq
  have hlen:=r'.length
  exact len_tuple pl (by simp only[aT] <;> omega) ⟨.int ys.length,H,I.tok _,⟨s.toks+1,by rw[aT,hlen]⟩,q⟩
theorem yI:CallR X (.builtin "len") (λxs H Q=>∃z,xs=[.str z]/\z.length<=sizeLine/\Q (.int z.length) H):=by
 intro pins s σ H xs us Q I r h
 obtain⟨z,rfl,hz,q⟩:=h
 obtain⟨u,rfl,t,rfl⟩:=vals1 r
 have hn:=pF
 exact len_str (by omega) ⟨.int z.length,H,I.tok _,⟨_,rfl⟩,q⟩
theorem CallR.or {f:Value}{r r':List V->Hp->VK->Prop}(h:CallR X f r)(h':CallR X f r'):CallR X f (λxs H Q=>r xs H Q\/r' xs H Q):=by
 intro pins s σ H xs us Q I rs q
 rcases q with q | q
 ·exact h pins s σ H xs us Q I rs q
 ·exact h' pins s σ H xs us Q I rs q
theorem xG:CallR X (.type "tuple") (λxs H Q=>∃p ys,xs=[.ref p]/\((SqL X.K H p ys/\∀l,H l=none->Q (.ref l) (upd H l (.tup ys)))\/(SqT X.K H p ys/\Q (.ref p) H))):=by
 intro pins s σ H xs us Q I r h
 obtain⟨p,ys,rfl,h⟩:=h
 obtain⟨u,rfl,rx⟩:=vals1 r
 cases rx
 rcases h with ⟨hq,q⟩ | ⟨hq,q⟩
 ·obtain⟨its,r',pl,hz⟩:=I.list hq
  have hlen:=r'.length
  refine call_tuple_list pl.isList (λh' kp=>?_) (by simp only[aT] <;> omega)
  have I1:Inv X pins σ H { s with heap:=h' }:=I.kept (t':=s.toks) kp
  have I2:Inv X pins σ (upd H h'.objs.size (.tup ys)) { s with heap:=h'.push { cls:=.type "tuple",data:=.seq its.toArray } }:=
   I1.laid (t':=s.toks) (λb o e=>ae _ e) (aS _) (show ObjOk X.prog X.w X.K _ _ _ (.tup ys) from ⟨hz,its,r',IsTup.new _ _⟩)
  exact⟨.ref h'.objs.size,_,I2,rfl,q _ (I1.hok.fresh (aS _))⟩
 ·obtain⟨its,r',pl,hz⟩:=I.tuple hq
  exact call_tuple_same pl ⟨.ref p,H,I,rfl,q⟩
def tyV (K:W.Frag)(T:String)(x:V)(H:Hp):Prop:=match x with
 | .str _=>T = "str"
 | .int _=>T = "int"
 | .ref p=>(T = "list" /\ ∃xs,SqL K H p xs)\/(T = "tuple" /\ ∃o,K.lookup p=some o/\o.cls=.type "tuple" /\ o.dict=none) \/
   (T = "dict" /\ ((∃kvs,H p=some (.dK kvs))\/∃kvs,H p=some (.dT kvs)))\/(T = "set" /\ ∃S n,H p=some (.set S n))
 | _=>False
theorem Qa {pins:gV}{σ:St}{H:Hp}{s:Shared}{T:String}{x:V}{v:Value}(I:Inv X pins σ H s)(r:RelV x v)(ty:tyV X.K T x H):
  s.TypeIs v T/\∀a,v=.ref a->∃ob,s.heap.get? a=some ob/\ob.dict=none:=by
 cases x with
 | str z=>
  obtain⟨t,rfl⟩:=r
  cases (show T = "str" from ty)
  exact⟨typeIs_str s z t,λ_ e=>nomatch e⟩
 | int i=>
  obtain⟨t,rfl⟩:=r
  cases (show T = "int" from ty)
  exact⟨typeIs_int s i t,λ_ e=>nomatch e⟩
 | ref p=>
  cases r
  rcases ty with ⟨rfl,xs,hq⟩ | ⟨rfl,o,hk,hc,hd⟩ | ⟨rfl,hk⟩ | ⟨rfl,S,n,hk⟩
  ·obtain⟨its,_,pl,_⟩:=I.list hq
   refine⟨pl.isList.typeIs,λa e=>?_⟩
   cases e
   obtain⟨o,n,e,c,hd,_⟩:=pl
   exact⟨o,e,hd⟩
  ·refine⟨⟨o,I.kIn p o hk,hc⟩,λa e=>?_⟩
   cases e
   exact⟨o,I.kIn _ o hk,hd⟩
  ·have z:∃o,s.heap.get? p=some o/\o.ExactDict:=by
    rcases hk with ⟨kvs,hk⟩ | ⟨kvs,hk⟩
    ·obtain⟨_,_,_,_,o,_,_,e,ex,_⟩:=I.hok p _ hk
     exact⟨o,e,ex⟩
    ·obtain⟨_,_,_,_,o,_,_,e,ex,_⟩:=I.hok p _ hk
     exact⟨o,e,ex⟩
   obtain⟨o,e,ex⟩:=z
   refine⟨⟨o,e,ex.1⟩,λa e2=>?_⟩
   cases e2
   exact⟨o,e,ex.2.1⟩
  ·obtain⟨o,_,_,_,e,ex,_⟩:=I.hok p _ hk
   refine⟨⟨o,e,ex.1⟩,λa e2=>?_⟩
   cases e2
   exact⟨o,e,ex.2.1⟩
 | _=>exact False.elim ty
def tBM (K:W.Frag)(T:String)(r:V->List V->Hp->VK->Prop)(to:TE)(t:TA):TE:=fun σ H Q=>to σ H λx H1=>tyV K T x H1/\t σ H1 λxs H2=>r x xs H2 Q
variable {o e:Expr}{es:qo}{to:TE}{t:TA}{name:Str}{apos cpos:Pos}{T id:String}{r:V->List V->Hp->VK->Prop}
theorem uL (pa:PlainAttrs T)(slot:Slot T name id)(hty:typeOf (.builtin id)=pure (.type "method_descriptor"))(hm:MtR X id r)(ho:PE X o to)(ha:PA X (e::es) t)
  (hbase:attributeBase o name X.env (eval o X.env)=eval o X.env:=by rfl)
  (hfew:((backTo cpos (starEach (e::es) X.env)).all (λx=>!x.1)&&(backToKw cpos (keywordEach [] X.env)).all (λx=>x.1.isSome)
   && decide ((e::es).length+([]:List Keyword).length+(if ([]:List Keyword).isEmpty then 0 else 1) < 30))=true:=by rfl)
  (hline:(apos.endLine == cpos.line)=true:=by rfl) (hs:starEach (e::es) X.env=(false,eval e X.env)::starEach es X.env:=by rfl) (hplain:(backTo cpos (starEach es X.env)).any (·.1)=false:=by rfl):
  PE X (.Call (.Attribute o name apos) (e::es) [] cpos) (tBM X.K T r to t):=by
 intro pins s σ H Q I h
 refine wpAny_Call_method_late hbase hfew hline rfl (thn (ho pins s σ H _ I h) ?_)
 rintro v s1 ⟨x,H1,I1,r1,ty,q1⟩
 obtain⟨h1,h2⟩:=Qa I1 r1 ty
 refine⟨T,id,pa,slot,hty,h1,h2,?_⟩
 have hA:=ha cpos pins s1 σ H1 _ I1 q1
 rw[hs] at hA ⊢
 refine kT (by show (false||(backTo cpos (starEach es X.env)).any (·.1))=false;rw[hplain] <;> rfl) (kg ?_)
 exact thn hA λus s2 ⟨vs,H2,I2,r2,q2⟩=>hm pins s2 σ H2 x vs v us Q I2 r1 r2 q2
end
def MtM (X:Cx)(id:String)(r:V->List V->Hp->VK->Prop):Prop:=
 ∀(pins:gV) (s:Shared) (σ:St) (H:Hp) (x:V) (xs:List V) (v:Value) (us:qh) (Q:VK),Inv X pins σ H s->RelV x v->Vals xs us->r x xs H Q->
  wpAny (model X.prog X.w) X.A (call (.builtin id) (v::us)) (EP X pins σ Q) X.xe s
theorem Vals.one {x:V}{us:qh}(h:Vals [x] us):∃u,us=[u]/\RelV x u:=by
 cases h with
 | cons r t=>cases t;exact⟨_,rfl,r⟩
theorem Vals.reverse {xs:List V}{us:qh}(h:Vals xs us):Vals xs.reverse us.reverse:=by
 induction h with
 | nil=>exact .nil
 | cons r t ih=>rw[kU,kU];exact Vals.append ih (.cons r .nil)
theorem Vals.rep {xs:List V}{us:qh}(h:Vals xs us):∀k:Nat,Vals (List.replicate k xs).flatten (List.replicate k us).flatten
 | 0=>.nil
 | k+1=>by
  rw[dA,dA,fz,fz]
  exact Vals.append h (Vals.rep h k)
theorem foldl_rep (its:qh):∀(k:Nat) (acc:qh),
  List.foldl (λx1 x2=>x1++x2) acc.toArray (List.replicate k its.toArray)=(acc++(List.replicate k its).flatten).toArray
 | 0,acc=>by simp
 | k+1,acc=>by
  have e:acc.toArray++its.toArray=(acc++its).toArray:=by simp
  have e2:(acc++its)++(List.replicate k its).flatten=acc++(List.replicate (k+1) its).flatten:=by
   rw[dA,fz,dS]
  rw[← e2,← foldl_rep its k (acc++its),← e,dA,List.foldl_cons]
section
variable {X:Cx}{pins:gV}{σ:St}{H:Hp}{s:Shared}{l b:Addr}{xs ys zs:List V}
theorem Inv.lset {its its':qh}{n:Nat}{f:Array Value->Array Value}{t':Nat}(I:Inv X pins σ H s)(hH:H l=some (.lst xs))
  (e:s.heap.get? l=some { cls:=.type "list",data:=.seq its.toArray n }) (hf:f its.toArray=its'.toArray) (hv:Vals ys its') (hz:ys.length<=sizeLine):
  Inv X pins σ (upd H l (.lst ys)) { s with heap:=s.heap.update l (Obj.mapSeq f),toks:=t' }:=by
 have q:=PySem.IsL.update e f
 rw[hf] at q
 refine I.write (x:=l) (e:=l) (by rw[hH];exact trivial) (.inl rfl) (λb' u hb hu=>(de s.heap (Obj.mapSeq f) (fF hb)).trans hu) ⟨_,q⟩ ?_
 exact⟨hz,its',_,hv,q⟩
theorem Inv.lnew {its:qh}{t':Nat}(I:Inv X pins σ H s)(hv:Vals ys its)(hz:ys.length<=sizeLine):
  Inv X pins σ (upd H s.heap.objs.size (.lst ys)) { s with heap:=s.heap.push { cls:=.type "list",data:=.seq its.toArray },toks:=t' }:=
 I.laid (λ_ _ q=>ae _ q) (aS _) ⟨hz,its,0,hv,am _ rfl⟩
theorem Inv.fresh (I:Inv X pins σ H s):H s.heap.objs.size=none:=I.hok.fresh (aS _)
theorem Inv.lstM (I:Inv X pins σ H s)(hH:H l=some (.lst xs)):xs.length<=sizeLine/\∃(its:qh) (n:Nat),Vals xs its/\xs.length=its.length/\s.heap.get? l=some { cls:=.type "list",data:=.seq its.toArray n }:=by
 obtain⟨z,its,n,r,e⟩:=I.hok l _ hH
 exact⟨z,its,n,r,r.length,e⟩
theorem yJ {n:Nat}(h:n<=sizeLine):Builtin.List.listTooLong n=false:=by
 unfold Builtin.List.listTooLong
 exact bq (by omega)
end
section
variable {X:Cx}
def Lb:V->List V->Hp->VK->Prop:=λx vs H Q=>∃l xs y,x=.ref l/\vs=[y]/\H l=some (.lst xs)/\xs.length < sizeLine/\Q .non (upd H l (.lst (xs++[y])))
theorem nQ:MtM X "list.append" Lb:=by
 intro pins s σ H x vs v us Q I rx rv h
 obtain⟨l,xs,y,rfl,rfl,hH,hz,q⟩:=h
 cases rx
 obtain⟨u,rfl,ru⟩:=rv.one
 obtain⟨z,its,n,r,hl,e⟩:=I.lstM hH
 refine ot F.slot_list_append ⟨_,e,rfl⟩ F.entry_list_append (F.args_list_append_2 _ _) (PySem.list_append l its.toArray n u (by rw[aT];omega)) ⟨e,?_⟩
 refine⟨.non,_,I.lset (its':=its++[u]) hH e (by simp) (r.append (.cons ru .nil)) ?_,rfl,q⟩
 rw[a8,dy]
 omega
def Ld:V->List V->Hp->VK->Prop:=λx vs H Q=>∃l b xs zs,x=.ref l/\vs=[.ref b]/\H l=some (.lst xs)/\H b=some (.lst zs)/\xs.length+zs.length<=sizeLine/\Q .non (upd H l (.lst (xs++zs)))
theorem Fw:MtM X "list.extend" Ld:=by
 intro pins s σ H x vs v us Q I rx rv h
 obtain⟨l,b,xs,zs,rfl,rfl,hH,hB,hz,q⟩:=h
 cases rx
 obtain⟨u,rfl,ru⟩:=rv.one
 cases ru
 obtain⟨z,its,n,r,hl,e⟩:=I.lstM hH
 obtain⟨z2,its2,n2,r2,hl2,e2⟩:=I.lstM hB
 have hsz:its.toArray.size+its2.toArray.size<=sizeLine:=by rw[aT,aT];omega
 have hlong:¬ (!its.toArray.isEmpty&&Builtin.List.listTooLong (its.toArray.size+its2.toArray.size))=true:=by
  rw[yJ hsz,Bool.and_false]
  exact be
 refine ot F.slot_list_extend ⟨_,e,rfl⟩ F.entry_list_extend (F.args_list_extend_2 _ _)
  (AutoSeq1.list_extend_list_list_0 l its.toArray n b its2.toArray n2 hlong (by rw[aT];omega) (by omega)) ⟨e,e2,?_⟩
 refine⟨.non,_,I.lset (its':=its++its2) hH e (by simp) (r.append r2) ?_,rfl,q⟩
 rw[a8]
 omega
def Ih:R2:=λx y H Q=>∃l b xs zs,x=.ref l/\y=.ref b/\H l=some (.lst xs)/\H b=some (.lst zs)/\xs.length+zs.length<=sizeLine/\∀p,H p=none->Q (.ref p) (upd H p (.lst (xs++zs)))
theorem Fx:OpR X (binaryOp .Add) Ih:=by
 intro pins s σ H x y v u Q I rx ry h
 obtain⟨l,b,xs,zs,rfl,rfl,hH,hB,hz,q⟩:=h
 cases rx
 cases ry
 obtain⟨z,its,n,r,hl,e⟩:=I.lstM hH
 obtain⟨z2,its2,n2,r2,hl2,e2⟩:=I.lstM hB
 refine PySem.P.add_list e e2 ?_ (by rw[aT,aT];omega)
 have ea:its.toArray++its2.toArray=(its++its2).toArray:=by simp
 rw[ea]
 exact⟨.ref _,_,I.lnew (t':=s.toks) (r.append r2) (by rw[a8];omega),rfl,q _ I.fresh⟩
def Qc:R2:=λx y H Q=>∃l k xs,x=.ref l/\y=.int k/\H l=some (.lst xs)/\-(2 ^ 63)<=k/\k < 2 ^ 63/\xs.length*k.toNat<=sizeLine /\
 ∀p,H p=none->Q (.ref p) (upd H p (.lst (List.replicate k.toNat xs).flatten))
theorem len_rep {α:Type}(xs:List α)(k:Nat):(List.replicate k xs).flatten.length=k*xs.length:=by
 induction k with
 | zero=>simp
 | succ k ih=>rw[dA,fz,a8,ih,Nat.succ_mul,Nat.add_comm]
theorem Qd:OpR X (binaryOp .Mult) Qc:=by
 intro pins s σ H x y v u Q I rx ry h
 obtain⟨l,k,xs,rfl,rfl,hH,h1,h2,hz,q⟩:=h
 cases rx
 obtain⟨t,rfl⟩:=ry
 obtain⟨z,its,n,r,hl,e⟩:=I.lstM hH
 have hlen:its.toArray.size*k.toNat<=sizeLine:=by rw[aT,← hl];exact hz
 have hcap:¬ its.toArray.size*k.toNat > (2 ^ 63 - 1) / 8:=by
  have:(sizeLine:Nat)<=(2 ^ 63 - 1) / 8:=by decide
  omega
 have hfit:¬ (!Builtin.List.listFitsIndex k)=true:=by
  rw[fitsIndex_both h1 h2]
  exact be
 have hlong:¬ Builtin.List.listTooLong (its.toArray.size*k.toNat)=true:=by
  rw[yJ hlen]
  exact be
 have hnew:List.foldl (λx1 x2=>x1++x2) #[] (List.replicate (if its.toArray.isEmpty=true then 0 else k.toNat) its.toArray)=(List.replicate k.toNat its).flatten.toArray:=by
  have f0:∀m:Nat,List.foldl (λx1 x2=>x1++x2) #[] (List.replicate m its.toArray)=(List.replicate m its).flatten.toArray:=λm=>by
   have:=foldl_rep its m []
   rw[kF] at this
   exact this
  rw[f0]
  cases its with
  | nil=>simp
  | cons a r'=>rw[a9 (by simp)]
 refine wpAny_binaryOp_repeat_ref (T := "list") (U := "int") (by decide) ⟨_,e,rfl⟩ (λs'=>typeIs_int s' k t) noFill_list_mul F.fills_int_mul F.slot_int_rmul repeat_list F.slot_int_index.lookup
  (ot F.slot_int_rmul (typeIs_int s k t) F.entry_int_rmul (F.args_int_rmul_2 _ _) (int___rmul___int_list k t l its.toArray n)
   ⟨e,rfl,⟨_,e,rfl⟩,ot F.slot_list_mul ⟨_,e,rfl⟩ F.entry_list_mul (F.args_list_mul_2 _ _) (AutoListH.list___mul___list_int_3 l its.toArray n k t hfit hcap hlong) ⟨e,?_⟩⟩)
 rw[hnew]
 exact⟨.ref _,_,I.lnew (t':=s.toks) (r.rep k.toNat) (by rw[len_rep,Nat.mul_comm];exact hz),rfl,q _ I.fresh⟩
end
end L2
namespace Att
open PySem PySem.W PySem.Calls PyProof.Rows
theorem uM {P:Params}{h:Heap}:∀(ns:qv) (vs:qh),WellAll P h vs (ns.map WData.int)->IntsAre vs ns:=by
 intro ns
 induction ns with
 | nil=>
  intro vs w
  rw[c9] at w
  cases w
  exact .nil
 | cons n ns ih=>
  intro vs w
  rw[av] at w
  cases w with
  | cons a b=>
   cases a
   exact .cons _ _ (ih _ b)
theorem Fy {l:OpenLaw}{n:Nat}(hn:l.most=some n){P:Params}{h:Heap}{args:List WData}{vals:qh}
  (hpre:l.row.toRowW.claim.pre args=true) (hwl:WellAll P h vals args):
  ∃a vs ns,vals=[Value.ref a]/\args=[WData.list (ns.map WData.int)]/\h.get? a=some { cls:=.type "list",data:=.seq vs.toArray }/\IntsAre vs ns/\ns.length<=n:=by
 have hsh:WShape.hasAll [] args [.list .int]=true:=(pre_splitW hpre).1
 have hc:l.pre.holds [] { args:=args }=true:=(pre_splitW hpre).2
 obtain⟨d,r,rfl,h1,h2⟩:=hasAllW_cons hsh
 obtain rfl:=hasAllW_nil h2
 obtain⟨xs,rfl,h3⟩:=hasW_list h1
 obtain⟨ns,rfl⟩:=items_int h3
 have hlen:ns.length<=n:=by
  unfold OpenLaw.pre at hc
  have h4:(WTm.not (.lt (.lit (.int (n:Int))) (.len (.arg 0)))).holds [] { args:=[.list (ns.map .int)] }=true:=by
   have h4:=(holds_andW hc).1
   rw[hn] at h4
   exact h4
  have h5:=condW_of h4 (w_not (w_lt w_lit (w_len_list (w_arg rfl))))
  rw[af] at h5
  refine Nat.le_of_not_lt λq=>?_
  have q':(n:Int) < ((ns.length:Nat):Int):=by omega
  first
   | (rw[ca q'] at h5;exact absurd h5 (by decide))
   | (simp at h5;omega)
 cases hwl with
 | cons w1 w2=>
  cases w2
  cases w1 with
  | list ho hall=>exact⟨_,_,ns,rfl,rfl,ho,uM ns _ hall,hlen⟩
theorem Fz (l:OpenLaw)(args:List WData):l.row.toRowW.claim.post args (.bool true) args=true:=
 postW_of (r:=l.row.toRowW) (X:=(true == true))
  (show WShape.has [] (.bool true) .bool=true by first | rfl | decide | simp[WShape.has,WShape.arms,WShape.armsAll])
  (show (WTm.eq .res (.lit (.bool true))).value [] { args:=args,res:=some (.bool true),after:=args }=some (.bool (true == true)) from w_eq_bool (w_res rfl) w_lit) rfl
theorem attach_call {l:OpenLaw}{n:Nat}{q:Program}{loose:qr}{XP:(Str->Option Value)->Heap->Prop}{YP:World->Heap->Prop}{d:DefRec}
  (hn:l.most=some n) (hdf:d.params.defaults=[])
  (call:∀(w:World) (s₀ s₁:Shared) (mg mb:Str->Option Value) (fa:Addr) (o:Obj) (pm cd doc:Value) (a:Addr) (vs:qh) (ns:qv),
   Ground q loose [] XP w s₀ mg mb s₁.heap->YP w s₁.heap->
   s₁.heap.get? fa=some o->o.data=.func (docDef d.name d.params d.body d.scope pm cd doc)->s₁.heap.CodeRec cd d.name->mg d.name=some (.ref fa)->
   s₁.heap.get? a=some { cls:=.type "list",data:=.seq vs.toArray }->IntsAre vs ns->ns.length<=n->s₁.gens=#[]->
   codeAny (model l.prog w) callerA (.call (.ref fa) ⟨[.ref a],[]⟩) (λr s'=>r=.ok (.ret (.bool true))/\OldK s₁.heap s'.heap/\s'.os=s₁.os/\AllBare s'.gens) s₁):
  WalkO q loose XP YP l.row.toRowW d [] (λf vs=>PySem.call f vs):=by
 intro w s₀ s₁ mg mb G Y fa o pm cd doc dV kV ho hd hcd hD hmg hg args vals as hpre hlay hrd hwl hlo
 obtain rfl:dV=.none:=Dflts.none hD hdf
 obtain rfl:kV=.none:=Dflts.noKw hD
 obtain⟨a,vs,ns,rfl,rfl,hobj,hints,hlen⟩:=Fy hn hpre hwl
 refine enter_call (mv (call w s₀ s₁ mg mb fa o pm cd doc a vs ns G Y ho (fd_plain hd) hcd hmg hobj hints hlen hg) λr s' hq=>?_)
 obtain⟨rfl,h2,h3,h4⟩:=hq
 exact⟨.inl ⟨.bool true,.bool true,[],rfl,λ_=>rfl,.bool true,Fz l _,λ_=>⟨List.Pairwise.nil,λ_ hm=>(nomatch hm)⟩⟩,h2,h3,h4⟩
end Att
namespace L2
open PySem PySem.Spec PyProof.Rows
theorem wM:∀{vs:qh}{ns:qv},IntsAre vs ns->Vals (ns.map V.int) vs
 | _,_,.nil=>.nil
 | _,_,.cons n t h=>.cons ⟨t,rfl⟩ (wM h)
def Only (H:Hp):Prop:=∀b,H b=none\/∃o xs,H b=some (.frz o (.lst xs))
theorem Ii {P:Program}{w:World}{K:W.Frag}{mg mb:Str->Option Value}{CX:CXT}{k:Nat}{fa a:Addr}{fd:FuncData}{x:Str}{sp:Sp}{s₁:Shared}{vs:qh}{ns:qv}
  (KX:K.In s₁.heap) (hns:s₁.heap.Ns mainGlobals mg) (hb:s₁.heap.Ns builtinsNs mb) (hbb:∀x:Str,x ≠ "__name__" -> mb x=bootBuiltins x) (hlim:s₁.heap.NoLimit) (hg:s₁.gens=#[])
  (ha:s₁.heap.get? a=some { cls:=.type "list",data:=.seq vs.toArray }) (hi:IntsAre vs ns) (hl:ns.length<=sizeLine) (hr:Room k callerA)
  (F:∀base:Heap,K.In base->base.Ns mainGlobals mg->FnOk P w K mg base CX k fa fd [x] sp) (hbind:∀(s:Shared) (u:Value),BindsTo s fd ⟨[u],[]⟩ [(x,u)])
  (hsp:∀H:Hp,Only H->SqL K H a (ns.map V.int)->sp [.ref a] H (λv _=>v=.bl true) λ_ _ _=>False)
  (hCX:∀H e s',CX [] H s₁ (λ_ _ _=>False) e s'->False):
  codeAny (model P w) callerA (.call (.ref fa) ⟨[.ref a],[]⟩) (λr s'=>r=.ok (.ret (.bool true))/\OldK s₁.heap s'.heap/\s'.os=s₁.os/\AllBare s'.gens) s₁:=by
 have rv:=wM hi
 have lenV:=hi.length
 have core:∀H:Hp,Only H->SqL K H a (ns.map V.int)->HOk P w K H s₁.heap->(∀b,H b≠none->b=a)->(H a≠none->K.lookup a=none)->
   codeAny (model P w) callerA (.call (.ref fa) ⟨[.ref a],[]⟩) (λr s'=>r=.ok (.ret (.bool true))/\OldK s₁.heap s'.heap/\s'.os=s₁.os/\AllBare s'.gens) s₁:=by
  intro H hO hS hok hA hK
  have base_of:∀{b:Addr}{o:Obj},s₁.heap.get? b=some o->H b=none->(pU s₁.heap H).get? b=some o:=λe n=>HB e n
  have noA:∀{b:Addr}{o:Obj}{es:Array DictEntry}{ep:Nat},s₁.heap.get? b=some o->o.data=.dict es ep->H b=none:=λ{b o es ep} e d=>by
   cases q:H b with
   | none=>rfl
   | some u=>
    have e':b=a:=hA b (by rw[q];simp)
    subst e'
    rw[ha] at e;cases e
    have d':Data.seq vs.toArray _=Data.dict es ep:=d
    cases d'
  have nsK:∀{b:Addr}{m:Str->Option Value},s₁.heap.Ns b m->(pU s₁.heap H).Ns b m:=λ{b m} ⟨o,es,ep,e,d,r⟩=>⟨o,es,ep,base_of e (noA e d),d,r⟩
  have hKb:K.In (pU s₁.heap H):=λb o e=>base_of (KX b o e) (by
   cases q:H b with
   | none=>rfl
   | some u=>
    have e':b=a:=hA b (by rw[q];simp)
    subst e'
    rw[hK (by rw[q];simp)] at e;cases e)
  have hM:Mod K mg (pU s₁.heap H):=⟨hKb,nsK hns,⟨mb,nsK hb,hbb⟩,let ⟨mc,h1,h2⟩:=hlim;⟨mc,nsK h1,h2⟩⟩
  have e0:Env0 P w K mg (pU s₁.heap H) callerA [] s₁ H:=⟨rfl,hM,λb o e=>Ky e,Nat.le_of_eq (Eu _ _),trivial,λb hb=>absurd (show b∈([]:qA) from hb) (by simp),hok,.of_eq hg⟩
  refine mv ((F _ hKb (nsK hns)).run callerA [] s₁ H ⟨[.ref a],[]⟩ [.ref a] [.ref a] _ _ hr e0 (hbind s₁ (.ref a)) (.cons rfl .nil) (hsp H hO hS)) λr s' h=>?_
  cases r with
  | error e=>exact(hCX H e s' h).elim
  | ok fl=>
   cases fl with
   | next=>exact False.elim h
   | brk=>exact False.elim h
   | cont=>exact False.elim h
   | ret u=>
    obtain⟨v,H',os,bare,un,hok',r',q⟩:=h
    have q':v=.bl true:=q
    subst q'
    obtain rfl:u=Value.bool true:=r'
    refine⟨rfl,OldK.of_keep λb o e=>?_,os,bare⟩
    cases q:H b with
    | none=>exact un.keep b o e q (by intro z;exact absurd (show b∈([]:qA) from z) (by simp)) (by simp)
    | some u=>
     rcases hO b with z | ⟨ob,xs,z⟩
     ·rw[q] at z;cases z
     ·have z2:=un.frzs b ob _ z
      obtain⟨e1,_⟩:=hok b _ z
      obtain⟨e2,_⟩:=hok' b _ z2
      rw[e] at e1;cases e1
      exact e2
 cases hk:K.lookup a with
 | some o=>
  have e:=KX a o hk
  rw[ha] at e
  cases e
  refine core (λ_=>none) (λ_=>.inl rfl) (.inr ⟨_,vs.toArray,_,hk,rfl,rfl,rfl,by rw[aT,lenV];exact hl,by simpa using rv⟩) (λb u z=>by have z':(none:Option HO)=some u:=z;cases z') (λb z=>absurd rfl z) λz=>absurd rfl z
 | none=>
  refine core (λb=>if b=a then some (.frz { cls:=.type "list",data:=.seq vs.toArray } (.lst (ns.map V.int))) else none) (λb=>?_) (.inl (.inr ⟨{ cls:=.type "list",data:=.seq vs.toArray },bp rfl⟩)) (λb u z=>?_) (λb z=>?_) λ_=>hk
  ·by_cases hb:b=a
   ·exact .inr ⟨_,_,bp hb⟩
   ·exact .inl (a9 hb)
  ·by_cases hb:b=a
   ·have z':=(bp hb).symm.trans z
    cases z'
    subst hb
    exact⟨ha,by rw[af];exact hl,vs,_,rv,ha⟩
   ·have z':=(a9 hb).symm.trans z
    cases z'
  ·by_cases hb:b=a
   ·exact hb
   ·exact absurd (a9 hb) z
theorem walk_of {l:W.OpenLaw}{n k:Nat}{q:Program}{loose:qr}{XP:(Str->Option Value)->Heap->Prop}{YP:World->Heap->Prop}{d:DefRec}{K:Params->W.Frag}{CX:World->CXT}{sp:World->Sp}{x:Str}
  (hn:l.most=some n) (hn2:n<=sizeLine) (hdf:d.params.defaults=[]) (hr:Room k callerA)
  (hY:∀(w:World) (h:Heap),YP w h->(K w.params).In h)
  (F:∀(w:World) (mg:Str->Option Value) (fa:Addr) (h:Heap),(K w.params).In h->h.Ns mainGlobals mg->mg d.name=some (.ref fa)->
   ∃fd:FuncData,(∀(s:Shared) (u:Value),BindsTo s fd ⟨[u],[]⟩ [(x,u)]) /\
    ∀base:Heap,(K w.params).In base->base.Ns mainGlobals mg->FnOk l.prog w (K w.params) mg base (CX w) k fa fd [x] (sp w))
  (hsp:∀(w:World) (H:Hp) (a:Addr) (ns:qv),ns.length<=n->Only H->SqL (K w.params) H a (ns.map V.int)->sp w [.ref a] H (λv _=>v=.bl true) λ_ _ _=>False)
  (hCX:∀(w:World) (H:Hp) (s:Shared) (e:Value) (s':Shared),CX w [] H s (λ_ _ _=>False) e s'->False):
  W.WalkO q loose XP YP l.row.toRowW d [] (λf vs=>PySem.call f vs):=by
 refine Att.attach_call hn hdf λw s₀ s₁ mg mb fa o pm cd doc a vs ns G Y ho hd hcd hmg hobj hints hlen hg=>?_
 have KX:=hY w _ Y
 obtain⟨fd,hb,hF⟩:=F w mg fa _ KX G.T.g hmg
 exact Ii KX G.T.g G.T.b G.T.builtins G.T.nolimit hg hobj hints (f7 hlen hn2) hr hF hb (λH hO hS=>hsp w H a ns hlen hO hS) λH e s'=>hCX w H s₁ e s'
def ir (s:Stmt):Arguments:=match s with
 | .FunctionDef _ a _ _ _ _ _ _ _ _=>a
 | _=>{ posonlyargs:=[],args:=[],vararg:=none,kwonlyargs:=[],kw_defaults:=[],kwarg:=none,defaults:=[] }
def eY (s:Stmt):List Stmt:=match s with
 | .FunctionDef _ _ b _ _ _ _ _ _ _=>b
 | _=>[]
def aF (s:Stmt):Scope:=match s with
 | .FunctionDef _ _ _ _ _ _ sc _ _ _=>sc
 | _=>{ kind:=.function,names:=[],isGenerator:=false,isCoroutine:=false }
abbrev CX0:CXT:=λ_ _ _ _ _ _=>False
abbrev E0:XK:=λ_ _ _=>False
theorem Ti {X:Cx}:yu CX0 X E0:=λ_ _ _ _ _ _ _ h=>h.elim
structure Fun (K:W.Frag)(x qual:Str)(st:Stmt)(f:Addr)(fd:FuncData):Prop where
 ex:∃(oc:Value) (od:Option Addr) (kV doc pm:Value) (an:Option Addr) (cdv ct:Value) (osl:Array (Option Value)),
  fd=W.fnOf x qual (ir st) (eY st) (aF st) .none kV doc pm an cdv ct/\K.lookup f=some ⟨oc,od,.func fd,osl⟩/\W.codeIn K cdv qual=true
 kp:W.keepIn K (.ref f)=true
section
variable {P:Program}{w:World}{K:W.Frag}{mg:Str->Option Value}{base:Heap}
theorem Fun.ok {x qual:Str}{st:Stmt}{f:Addr}{fd:FuncData}{N ps:qr}{k:Nat}{sp:Sp}(F:Fun K x qual st f fd)(S:FnScope N ps (aF st))(len:∀vs H Q E,sp vs H Q E->vs.length=ps.length)
  (hbody:∀(cdv:Value) (A:Around) (outer:List Env) (s:Shared) (H:Hp) (vs:List V) (Q:VK) (E:XK),Room k (A.deeper (envOfC qual (aF st) s.heap.objs.size f cdv))->sp vs H Q E->
   ∃t,PSs (gR CX0 P w K mg base N qual (aF st) f cdv A outer s H E).nox (eY st) t/\t { nx:=λ_ H'=>Q .non H',rt:=Q } (start N vs) H):FnOk P w K mg base CX0 (k+1) f fd ps sp:=by
 obtain⟨oc,od,kV,doc,pm,an,cdv,ct,osl,rfl,lk,hcd⟩:=F.ex
 refine J3 lk hcd S len λA outer s H vs Q E hr hsp=>?_
 obtain⟨t,h,q⟩:=hbody cdv A outer s H vs Q E hr hsp
 exact⟨t,h.nox,q⟩
theorem Fun.binds {x qual:Str}{st:Stmt}{f:Addr}{fd:FuncData}{ps:qr}(F:Fun K x qual st f fd)
  (h:∀(kV doc pm:Value) (an:Option Addr) (cdv ct:Value) (us:qh),us.length=ps.length->bindArgs (W.fnOf x qual (ir st) (eY st) (aF st) .none kV doc pm an cdv ct) ⟨us,[]⟩=pure (ps.zip us)):Binds K fd ps []:=by
 obtain⟨oc,od,kV,doc,pm,an,cdv,ct,osl,rfl,lk,hcd⟩:=F.ex
 exact .all (h kV doc pm an cdv ct)
theorem fun_mk {x qual:Str}{st:Stmt}{f:Addr}{oc:Value}{od an:Option Addr}{osl:Array (Option Value)}{kV doc pm cdv ct:Value}(l:K.lookup f=some ⟨oc,od,.func (W.fnOf x qual (ir st) (eY st) (aF st) .none kV doc pm an cdv ct),osl⟩)
  (c:W.codeIn K cdv qual=true) (k:W.keepIn K (.ref f)=true):Fun K x qual st f (W.fnOf x qual (ir st) (eY st) (aF st) .none kV doc pm an cdv ct):=⟨⟨oc,od,kV,doc,pm,an,cdv,ct,osl,rfl,l,c⟩,k⟩
end
theorem nR {A:Around}{k:Nat}(hr:Room k A):A.units+1 < cLine:=ng (Nat.add_le_add_left (by decide:1<=64) _) hr.units
theorem FJ {n:Nat}(h:n<=1000):n < sizeLine:=ng h (by decide)
section
variable {X:Cx}
theorem pv (i:Nat){x:Str}{pos:Pos}(hN:X.N[i]?=some x:=by rfl)(hv:Vis X.env.scope x:=by first | exact g6 rfl | exact fm (g6 rfl) | exact fm (fm rfl))(hd:(x == ("__debug__" : Str))=false:=by decide)
  (hcd:(x == ("__classdict__" : Str))=false:=by decide):PE X (.Name x pos) (Oh i):=jL hN hv hd hcd
end
theorem Df {A B:Prop}(h:B):if false=true then A else B:=by
 rw[a9 be]
 exact h
theorem Dg {A B:Prop}(h:A):if true=true then A else B:=by
 rw[bp rfl]
 exact h
def Same (H H':Hp):Prop:=∀b o,H b=some o->H' b=some o
theorem Same.refl (H:Hp):Same H H:=λ_ _ h=>h
theorem Same.trans {H H1 H2:Hp}(a:Same H H1)(b:Same H1 H2):Same H H2:=λc o h=>b c o (a c o h)
theorem Same.free {H H':Hp}(e:Same H H'){l:Addr}(h:H' l=Option.none):H l=Option.none:=by
 cases q:H l with
 | none=>rfl
 | some o=>
  rw[e l o q] at h
  cases h
section
variable {X:Cx}
theorem FN:CallR X (.builtin "len") (λxs H Q=>∃a kvs,xs=[V.ref a]/\H a=some (.dK kvs)/\Q (.int kvs.length) H):=by
 intro pins s σ H xs us Q I r h
 obtain⟨a,kvs,rfl,ha,q⟩:=h
 obtain⟨u,rfl,ru⟩:=vals1 r
 cases ru
 exact Td I (.inl ha) λt s' I'=>⟨.int kvs.length,H,I',⟨t,rfl⟩,q⟩
end
theorem uc {α β:Type}{l:List α}{f:α->β->Sem (ForInStep β)}(g:α->β->β):∀(c:β),(∀x∈l,∀c,f x c=pure (.yield (g x c)))->
  forIn l c f=pure (l.foldl (λc x=>g x c) c):=by
 induction l with
 | nil=>intro c _;rfl
 | cons x l ih=>
  intro c h
  rw[i8,h x ai,pure_bind]
  exact ih _ λy hy=>h y (ag _ hy)
def iG (env:Env)(x:Str×NameKind)(c:List (Str×Addr)):List (Str×Addr):=if x.2=.free then (x.1,(env.cells.lookup x.1).getD 0)::c else c
def ud (env:Env)(names:List (Str×NameKind)):List (Str×Addr):=names.foldl (λc x=>iG env x c) []
theorem xH {scope:Scope}{env:Env}(h:∀x∈scope.names,x.2=.free->∃c,env.cells.lookup x.1=some c):closureFor scope env=pure (ud env scope.names):=by
 simp only[closureFor]
 rw[uc (iG env) [] (λx hx c=>by
  obtain⟨n,kind⟩:=x
  by_cases e:kind=.free
  ·subst e
   obtain⟨a,ha⟩:=h _ hx rfl
   have ha':env.cells.lookup n=some a:=ha
   simp[iG,cellOf,ha']
  ·have:(kind == NameKind.free)=false:=by simpa using e
   simp[iG,e,this])]
 rfl
theorem uN {env:Env}:∀(l:List (Str×NameKind)) (cs:List (Str×Addr)),(∀x∈l,x.2=.free->∃c,env.cells.lookup x.1=some c)->(∀y c,cs.lookup y=some c->env.cells.lookup y=some c)->
  ∀y c,(l.foldl (λc x=>iG env x c) cs).lookup y=some c->env.cells.lookup y=some c
 | [],cs,_,h2,y,c,e=>h2 y c e
 | x::r,cs,h1,h2,y,c,e=>by
  refine uN r (iG env x cs) (λz hz=>h1 z (ag _ hz)) (λz d q=>?_) y c e
  unfold iG at q
  by_cases k:x.2=.free
  ·rw[bp k] at q
   obtain⟨a,ha⟩:=h1 x ai k
   rw[cv] at q
   cases hb:z == x.1 with
   | true=>
    rw[hb] at q
    have ez:z=x.1:=by simpa using hb
    rw[ha] at q
    have q':a=d:=by simpa using q
    rw[ez,ha,q']
   | false=>
    rw[hb] at q
    exact h2 z d q
  ·rw[a9 k] at q
   exact h2 z d q
theorem mH {env:Env}{names:List (Str×NameKind)}(h:∀x∈names,x.2=.free->∃c,env.cells.lookup x.1=some c){y:Str}{c:Addr}(e:(ud env names).lookup y=some c):env.cells.lookup y=some c:=
 uN names [] h (λy c q=>by simp at q) y c e
theorem uO {env:Env}{y:Str}:∀(l:List (Str×NameKind)) (cs:List (Str×Addr)),((y,.free)∈l\/∃c,cs.lookup y=some c)->∃c,(l.foldl (λc x=>iG env x c) cs).lookup y=some c
 | [],cs,h=>by
  rcases h with h | h
  ·simp at h
  ·exact h
 | x::r,cs,h=>by
  refine uO r (iG env x cs) ?_
  rcases h with h | ⟨c,h⟩
  ·rcases aw.mp h with e | e
   ·refine .inr ⟨(env.cells.lookup y).getD 0,?_⟩
    rw[← e]
    simp[iG]
   ·exact .inl e
  ·refine .inr ?_
   unfold iG
   split
   ·rw[cv]
    split
    ·exact⟨_,rfl⟩
    ·exact⟨c,h⟩
   ·exact⟨c,h⟩
theorem FQ {env:Env}{names:List (Str×NameKind)}{y:Str}(h:(y,.free)∈names):∃c,(ud env names).lookup y=some c:=uO names [] (.inl h)
theorem mem_of_lookup {x:Str}{k:NameKind}:∀{l:List (Str×NameKind)},l.lookup x=some k->(x,k)∈l
 | [],h=>by simp at h
 | (n,j)::r,h=>by
  rw[cv] at h
  cases hb:x == n with
  | true=>
   rw[hb] at h
   have e:x=n:=by simpa using hb
   have e2:j=k:=by simpa using h
   rw[e,e2]
   exact ai
  | false=>
   rw[hb] at h
   exact ag _ (mem_of_lookup h)
theorem rm {env:Env}:∀{names:List (Str×NameKind)}{x:Str},names.lookup x=some .free->
  (names.map λ(n,k)=>if (k == NameKind.free&&env.scope.kind == .function&&env.kindOf n == some .cell) then (n,NameKind.cell) else (n,k)).lookup x=some .cell \/
  (names.map λ(n,k)=>if (k == NameKind.free&&env.scope.kind == .function&&env.kindOf n == some .cell) then (n,NameKind.cell) else (n,k)).lookup x=some .free
 | [],_,h=>by simp at h
 | (n,k)::r,x,h=>by
  have ih:=@rm env r x
  cases hx:x == n with
  | true=>
   simp only[cv,hx] at h
   cases h
   by_cases hc:(NameKind.free == NameKind.free&&env.scope.kind == .function&&env.kindOf n == some .cell)=true
   ·refine .inl ?_
    simp only[av,bp hc,cv,hx]
   ·refine .inr ?_
    simp only[av,a9 hc,cv,hx]
  | false=>
   simp only[cv,hx] at h
   have ih:=ih h
   by_cases hc:(k == NameKind.free&&env.scope.kind == .function&&env.kindOf n == some .cell)=true
   ·simp only[av,bp hc,cv,hx]
    exact ih
   ·simp only[av,a9 hc,cv,hx]
    exact ih
theorem pZ {env:Env}:∀{names:List (Str×NameKind)}{x:Str}{j:NameKind},(∀y∈names,y.2≠.cell)->(j=.cell\/j=.free)->
  (names.map λ(n,k)=>if (k == NameKind.free&&env.scope.kind == .function&&env.kindOf n == some .cell) then (n,NameKind.cell) else (n,k)).lookup x=some j->(x,.free)∈names
 | [],_,_,_,_,h=>by simp at h
 | (n,k)::r,x,j,hn,hj,h=>by
  have ih:=@pZ env r x j (λy hy=>hn y (ag _ hy)) hj
  cases hx:x == n with
  | true=>
   have e:x=n:=by simpa using hx
   subst e
   by_cases hc:(k == NameKind.free&&env.scope.kind == .function&&env.kindOf x == some .cell)=true
   ·have hk:k=.free:=by
     simp only[bP,ow] at hc
     exact hc.1.1
    subst hk
    exact ai
   ·simp only[av,a9 hc,cv,hx] at h
    have hk:k=j:=by simpa using h
    rcases hj with z | z
    ·exact absurd (hk.trans z) (hn (x,k) ai)
    ·rw[hk,z]
     exact ai
  | false=>
   by_cases hc:(k == NameKind.free&&env.scope.kind == .function&&env.kindOf n == some .cell)=true
   ·simp only[av,bp hc,cv,hx] at h
    exact ag _ (ih h)
   ·simp only[av,a9 hc,cv,hx] at h
    exact ag _ (ih h)
abbrev Cx.comp (X:Cx)(N:qr)(scope:Scope)(C:Addr)(s:Shared)(H:Hp)(fp:qA):Cx where
 prog:=X.prog
 w:=X.w
 K:=X.K
 mg:=X.mg
 base:=X.base
 A:=X.A
 N:=N
 s₀:=s
 H₀:=H
 env:=compEnvC scope (ud X.env scope.names) C X.env
 outer:=X.stack
 stack:=X.stack
 ex:=fp
 fn:=λ_=>false
 calm:=X.calm
 pn:=[]
 xe:=λ_ _=>False
noncomputable def xX (scope:Scope)(ON N:qr)(cap:List (Option Nat)):Bool:=
 cap.length == N.length&&(List.range N.length).all λj=>match cap[j]? with
  | some (some i)=>(match N[j]?,ON[i]? with
   | some x,some y=>x == y&&(scope.names.lookup x == some NameKind.free)
   | _,_=>false)
  | _=>true
structure CSc (osc scope:Scope)(ON N:qr)(cap:List (Option Nat)):Prop where
 kind:scope.kind=.function
 noc:∀y∈scope.names,y.2≠.cell
 loc:∀y∈scope.names,y.2=.local->scope.names.lookup y.1=some .local
 fr:∀y∈scope.names,y.2=.free->osc.names.lookup y.1=some .cell\/osc.names.lookup y.1=some .free
 cap:xX scope ON N cap=true
theorem CSc.at {osc scope:Scope}{ON N:qr}{cap:List (Option Nat)}(S:CSc osc scope ON N cap){j i:Nat}{x:Str}(h:cap[j]?=some (some i))(hx:N[j]?=some x):ON[i]?=some x/\scope.names.lookup x=some .free:=by
 have h0:=S.cap
 unfold xX at h0
 rw[bP] at h0
 have hj:j < N.length:=(ap.mp hx).1
 have h1:=cy.mp h0.2 j (b6.mpr hj)
 rw[h] at h1
 dsimp only at h1
 rw[hx] at h1
 cases hy:ON[i]? with
 | none=>rw[hy] at h1;simp at h1
 | some y=>
  rw[hy] at h1
  simp only[bP,ow] at h1
  exact⟨by rw[h1.1],h1.2⟩
theorem CSc.len {osc scope:Scope}{ON N:qr}{cap:List (Option Nat)}(S:CSc osc scope ON N cap):cap.length=N.length:=by
 have h0:=S.cap
 unfold xX at h0
 rw[bP,ow] at h0
 exact h0.1
def yK (σ:St):Option Nat->Option V
 | some i=>(σ[i]?).getD none
 | none=>none
noncomputable def fB (cap:List (Option Nat))(σ:St):St:=cap.map (yK σ)
def rn (X:Cx)(ifs:qo)(t:TT):Prop:=
 ∀(pins:gV) (s:Shared) (σ:St) (H:Hp) (Q:Bool->Hp->Prop),Inv X pins σ H s->t σ H Q->
  wpAny (model X.prog X.w) X.A (forIn ifs true λc r=>if r=true then do let ok ← isTrue c X.env (eval c X.env);pure (ForInStep.yield ok) else pure (ForInStep.yield r)) (TP X pins σ Q) X.xe s
def Uy:TT:=λ_ H Q=>Q true H
theorem Ij {X:Cx}:rn X [] Uy:=λ_ _ _ H _ I h=>wpAny_tests_nil ⟨H,I,h⟩
theorem p6 {X:Cx}{c:Expr}{t:TT}(h:PT X c t):rn X [c] t:=λpins s σ H Q I q=>wpAny_tests_one (h pins s σ H Q I q)
theorem nM {prog:Program}{w:World}{A:Around}{R:Result->Shared->Prop}{s:Shared}{elt target iter:Expr}{ifs:qo}{scope:Scope}{pos:Pos}{it acc:Value}{env:Env}(I:Nat->Shared->Prop)
  (turn:∀n s,I n s->wpAny (model prog w) A (pyNext it) (λr s₁=>match r with
   | none=>R (.ok .next) s₁
   | some v=>wpAny (model prog w) A (letOwnedTupleGo target it v) (λ_ s₁'=>wpAny (model prog w) A (assign target env v) (λ_ s₂=>
     wpAny (model prog w) A (forIn ifs true λc r=>if r=true then do let ok ← isTrue c env (eval c env);pure (ForInStep.yield ok) else pure (ForInStep.yield r)) (λok s₃=>
      if ok=true then wpAny (model prog w) A (eval elt env) (λx s₄=>
       wpAny (model prog w) A (call (.builtin "list.append") [acc,x]) (λ_ s₅=>∃m,m < n/\I m s₅) (λ_ _=>False) s₄) (λ_ _=>False) s₃
      else ∃m,m < n/\I m s₃) (λ_ _=>False) s₂) (λ_ _=>False) s₁') (λ_ _=>False) s₁) (λ_ _=>False) s)
  (n:Nat) (h:I n s):
  codeAny (model prog w) A (.compLoop (.ListComp elt [⟨target,iter,ifs,0⟩] scope pos) 0 it acc env) R s:=by
 refine codeAny_loop rfl I (λn s hI=>?_) n h
 show wpAny _ A ((compTurn (.ListComp elt [⟨target,iter,ifs,0⟩] scope pos) 0 it acc env).onRaise (λx=>do noteFrame x env;theTreesLotGoes x)) _ _ s
 refine wpAny_noted ?_
 rw[compTurn_list]
 refine ac (pS (ac (ef (turn n s hI) (λr s₁ h₁=>?_) λ_ _ h'=>h'.elim)))
 cases r with
 | none=>exact al h₁
 | some v=>
  refine ac (ef h₁ (λ_ s₁' h₁'=>?_) λ_ _ h'=>h'.elim)
  refine ac (ef h₁' (λ_ s₂ h₂=>ac (ef h₂ (λok s₃ h₃=>?_) λ_ _ h'=>h'.elim)) λ_ _ h'=>h'.elim)
  cases ok with
  | false=>exact al ⟨rfl,h₃⟩
  | true=>
   exact ac (ac (ef h₃ (λx s₄ h₄=>ac (ef h₄ (λ_ s₅ h₅=>al (al ⟨rfl,h₅⟩)) λ_ _ h'=>h'.elim)) λ_ _ h'=>h'.elim))
def Kp (σ σ2:St):Prop:=σ.length=σ2.length/\∀(i:Nat) (v:V),σ[i]?=some (some v)->σ2[i]?=some (some v)
structure TComp (wi:TI)(cap:List (Option Nat))(g:TG)(tt:TT)(te:TE)(σ:St)(H:Hp)(Q:VK):Prop where
 ex:wi σ H λJ H1=>∀D,H1 D=none->∃W:Nat->Nat->List V->Hp->Prop,
 (∃m,W 0 m [] (upd H1 D (.lst [])))/\∀i m ys H,W i m ys H->H D=some (.lst ys)/\((J.stop i H/\Q (.ref D) H) \/
  (J.go i H/\∃N:List V->Hp->Prop,(∀ys' H',N ys' H'->∃m',m' < m/\W (i+1) m' ys' H')/\∀x H',J.yld i H x H'->g x (fB cap σ) H' fun σ2 H2=>Kp (fB cap σ) σ2/\tt σ2 H2 λb H3=>
   if b=true then te σ2 H3 λy H4=>H4 D=some (.lst ys)/\ys.length < sizeLine/\N (ys++[y]) (upd H4 D (.lst (ys++[y]))) else N ys H3))
def xY (wi:TI)(cap:List (Option Nat))(g:TG)(tt:TT)(te:TE):TE:=fun σ H Q=>TComp wi cap g tt te σ H Q
section
variable {X:Cx}{tg iter elt:Expr}{ifs:qo}{scope osc:Scope}{ON N:qr}{cap:List (Option Nat)}{wi:TI}{g:TG}{tt:TT}{te:TE}{pos:Pos}
theorem Le {pins:gV}{σ:St}{H2:Hp}{s2:Shared}{fp:qA}{C:Addr}(I2:Inv X pins σ H2 s2)(S:CSc osc scope ON N cap)(hsc:X.env.scope=osc)(f2:∀b∈fp,j6 X pins H2 b)
  (hfp:∀b∈fp,b < s2.heap.objs.size) (hC:s2.heap.objs.size<=C):(X.comp N scope C s2 H2 fp).Ok:=by
 have hfr:∀x∈scope.names,x.2=.free->∃c,X.env.cells.lookup x.1=some c:=λx hx e=>I2.ok.has x.1 (by
  rcases S.fr x hx e with z | z
  ·exact .inl (by rw[Env.kindOf,hsc];exact z)
  ·exact .inr (by rw[Env.kindOf,hsc];exact z))
 refine⟨I2.mod,S.kind,I2.ok.glob,I2.ok.blt,hC,λx y c h1 h2=>I2.ok.inj x y c (mH hfr h1) (mH hfr h2),λx h=>?_,λx c h=>by simp at h,I2.ok.hd,I2.ok.frames,.inl rfl,λb hb=>⟨?_,λx c e=>?_⟩,λb o e=>I2.bs b o e,?_,λb o e hb=>?_,λb hb hz=>?_,I2.stack,I2.stkFree⟩
 ·have hm:(x,NameKind.free)∈scope.names:=by
   rcases h with h | h
   ·exact pZ (env:=X.env) S.noc (.inl rfl) h
   ·exact pZ (env:=X.env) S.noc (.inr rfl) h
  exact FQ hm
 ·exact cb (bv (hfp b hb) hC)
 ·exact(f2 b hb).2.2.2.2.1 x c (mH hfr e)
 ·exact f7 I2.ok.bsz I2.sz
 ·rcases(f2 b hb).2.2.2.1 with z | z
  ·exact I2.ok.noex b o e z
  ·exact absurd (bv (ay e) (f7 I2.ok.bsz z)) (dv _)
 ·obtain⟨_,f1,f3,_⟩:=f2 b hb
  rcases aw.mp (I2.stkSub b hz) with z | z
  ·exact f1 z
  ·exact f3 z
theorem wN {pins:gV}{s:Shared}{σ:St}{H:Hp}{Q:VK}{RR:Value->Addr->Result->Shared->Prop}{cqual:Str}(hc:X.calm=true)(S:CSc osc scope ON N cap)(hsc:X.env.scope=osc)(hN:X.N=ON)
  (hi:PI X tg iter wi) (hg:∀C s H fp,PG (X.comp N scope C s H fp) tg g) (ht:∀C s H fp,rn (X.comp N scope C s H fp) ifs tt) (he:∀C s H fp,PE (X.comp N scope C s H fp) elt te)
  (I:Inv X pins σ H s) (h:xY wi cap g tt te σ H Q)
  (fin:∀D C H' s',Inv X pins σ H' s'->j6 X pins H' C->(∃m,s'.heap.Ns C m)->Q (.ref D) H'->RR (.ref D) C (.ok .next) s'):
  wpAny (model X.prog X.w) X.A (eval iter X.env) (λx s₁=>wpAny (model X.prog X.w) X.A (pyIter x) (λitv s₂=>wpAny (model X.prog X.w) X.A (newList []) (λacc s₃=>
   wpAny (model X.prog X.w) X.A (newFunctionEnv scope X.env.globals (ud X.env scope.names) [] X.env.qual none .none (some X.env)) (λcenv s₄=>
    codeAny (model X.prog X.w) X.A (.compStart (.ListComp elt [⟨tg,iter,ifs,0⟩] scope pos) 0 itv acc { cenv with scope:=relabel scope X.env }) (RR acc cenv.locals) s₄) X.xe s₃) X.xe s₂) X.xe s₁) X.xe s:=by
 refine thn (hi pins s σ H _ I h.ex) λv s1 h1=>thn h1 λitv s2 h2=>?_
 obtain⟨it,fp,tn,J,H2,e,I2,T,st2,f2,q2⟩:=h2
 subst e
 refine c5 (wpAny_newFunctionEnv S.noc (by intro y hy;simp at hy) (λh₁ hns₁ hsb₁=>?_) S.kind)
 dsimp only at hns₁ hsb₁ ⊢
 generalize hH2:s2.heap.push { cls:=.type "list",dict:=none,data:=.seq ([]:qh).toArray }=P2 at hns₁ hsb₁ ⊢
 generalize hD:s2.heap.objs.size=D
 generalize hCe:P2.objs.size=C at hns₁ hsb₁ ⊢
 have hCD:C=D+1:=by rw[← hCe,← hH2,cq,hD]
 have hCle:s2.heap.objs.size<=C:=by rw[hCD,hD];exact Nat.le_succ _
 have hfp:∀b∈fp,b < s2.heap.objs.size:=λb hb=>by
  obtain⟨o,e,_⟩:=T.obj 0 _ st2 b hb
  exact ay e
 have below:∀b,b < s2.heap.objs.size->b≠C:=λb hb=>cb (bv hb hCle)
 have k1:∀b o,s2.heap.get? b=some o->h₁.get? b=some o:=λb o e=>hsb₁.extBut b o (below b (ay e)) (ae _ (hH2▸ae _ e))
 have hDC:D≠C:=by rw[hCD];exact cb (oa _)
 have gD:h₁.get? D=some { cls:=.type "list",dict:=none,data:=.seq ([]:qh).toArray }:=by
  refine hsb₁.extBut D _ hDC (ae _ ?_)
  rw[← hH2,← hD]
  exact am _ rfl
 have nD:H2 D=none:=I2.hok.fresh (by rw[hD];exact aS _)
 have nC:H2 C=none:=I2.hok.fresh hCle
 have hfr:∀x∈scope.names,x.2=.free->∃c,X.env.cells.lookup x.1=some c:=λx hx e=>I2.ok.has x.1 (by
  rcases S.fr x hx e with z | z
  ·exact .inl (by rw[Env.kindOf,hsc];exact z)
  ·exact .inr (by rw[Env.kindOf,hsc];exact z))
 obtain⟨W,⟨m0,w0⟩,turn⟩:=q2 D nD
 have IY:Inv (X.comp N scope C s2 H2 fp) [] (fB cap σ) (upd H2 D (.lst [])) { s2 with heap:=h₁,toks:=s2.toks+([]:List (Str×Value)).length }:=by
  have hp:s2.heap.objs.size<=D:=by rw[hD];exact aS _
  refine⟨Le I2 S hsc f2 hfp hCle,rfl,I2.bare,Un.laid k1 hp nD,⟨_,hns₁,λj x v e1 e2 e3=>?_⟩,λx c e=>?_,?_,λx c e=>?_,λp hp=>by simp at hp,I2.hok.laid k1 hp ⟨cK _,[],_,.nil,gD⟩,?_⟩
  ·have e2':(cap.map (yK σ))[j]?=some (some v):=e2
   rw[aE] at e2'
   cases q:cap[j]? with
   | none=>rw[q] at e2';cases e2'
   | some o=>
    rw[q] at e2'
    have e4:yK σ o=some v:=bg e2'
    cases o with
    | none=>cases e4
    | some i=>
     have hσ:σ[i]?=some (some v):=by
      have e5:(σ[i]?).getD none=some v:=e4
      cases z:σ[i]? with
      | none=>rw[z] at e5;cases e5
      | some w=>rw[z] at e5;exact ce some e5
     obtain⟨hx1,hx2⟩:=S.at q e1
     have hk:X.env.kindOf x=some .cell\/X.env.kindOf x=some .free:=by
      rcases S.fr _ (mem_of_lookup hx2) rfl with z | z
      ·exact .inl (by rw[Env.kindOf,hsc];exact z)
      ·exact .inr (by rw[Env.kindOf,hsc];exact z)
     obtain⟨m,hn,hl⟩:=I2.loc
     obtain⟨u,r,l⟩:=hl i x v (by rw[hN];exact hx1) hσ (by
      rcases hk with z | z
      ·exact .inr (.inl z)
      ·exact .inr (.inr z))
     refine⟨u,r,?_⟩
     rcases l with ⟨z,_⟩ | ⟨_,c,hc',hcell⟩
     ·rcases hk with y | y
      ·rw[y] at z;cases z
      ·rw[y] at z;cases z
     ·obtain⟨c',hc2⟩:=FQ (env:=X.env) (mem_of_lookup hx2)
      have e6:=mH hfr hc2
      rw[hc'] at e6
      have e7:c=c':=bg e6
      subst e7
      obtain⟨oc,ho,hd⟩:=hcell
      exact .inr ⟨rm (env:=X.env) hx2,c,hc2,⟨oc,k1 c oc ho,hd⟩⟩
  ·obtain⟨v,oc,ho,hd⟩:=I2.cell x c (mH hfr e)
   exact⟨v,oc,k1 c oc ho,hd⟩
  ·show upd H2 D (.lst []) C=none
   rw[aP (fF hDC)]
   exact nC
  ·have e':=mH hfr e
   obtain⟨v,oc,ho,hd⟩:=I2.cell x c e'
   show upd H2 D (.lst []) c=none
   rw[aP (λz=>absurd (ay ho) (by rw[z,hD];exact dv _))]
   exact I2.freeC x c e'
  ·show (cap.map (yK σ)).length=N.length
   rw[af]
   exact S.len
 have stat:∀{H':Hp},(∀b∈fp,H' b=none)->∀b∈fp,j6 (X.comp N scope C s2 H2 fp) [] H' b:=λhn b hb=>by
  obtain⟨_,f1,f3,f4,f5,f6⟩:=f2 b hb
  refine⟨hn b hb,below b (hfp b hb),λhz=>?_,.inl hb,λx c e=>f5 x c (mH hfr e),λp hp=>by simp at hp⟩
  rcases aw.mp (I2.stkSub b hz) with z | z
  ·exact f1 z
  ·exact f3 z
 have back:∀{σ':St}{H':Hp}{s':Shared},Inv (X.comp N scope C s2 H2 fp) [] σ' H' s'->Inv X pins σ H' s':=λ{σ' H' s'} I'=>
  I2.call' (ch:=fp) I'.os I'.base I'.hok I'.bare λb hb=>let ⟨_,f1,_,f4,f5,f6⟩:=f2 b hb;⟨f4,f1,f5,f6⟩
 have st1:tn 0 h₁:=T.keep 0 _ _ st2 λb _ o e=>k1 b o e
 have fr1:∀b∈fp,upd H2 D (.lst []) b=none:=λb hb=>by
  rw[aP (λz=>absurd (hfp b hb) (by rw[z,hD];exact dv _))]
  exact(f2 b hb).1
 have loop:codeAny (model X.prog X.w) X.A (.compLoop (.ListComp elt [⟨tg,iter,ifs,0⟩] scope pos) 0 (.ref it) (.ref D) (compEnvC scope (ud X.env scope.names) C X.env)) (RR (.ref D) C) { s2 with heap:=h₁,toks:=s2.toks+([]:List (Str×Value)).length }:=by
  refine nM (λn s'=>∃i ys H',Inv (X.comp N scope C s2 H2 fp) [] (fB cap σ) H' s'/\tn i s'.heap/\(∀b∈fp,H' b=none)/\W i n ys H') ?_ m0 ⟨0,[],_,IY,st1,fr1,w0⟩
  rintro n s3 ⟨i,ys,H3,I3,st3,fr3,w3⟩
  obtain⟨hDy,hturn⟩:=turn i n ys H3 w3
  rcases hturn with ⟨stop,qn⟩ | ⟨go,Nx,hNx,step⟩
  ·refine thn (T.done (X.comp N scope C s2 H2 fp) rfl rfl rfl hc i [] s3 (fB cap σ) H3 _ I3 (stat fr3) st3 stop) ?_
   rintro r s4 ⟨hr,I4⟩
   subst hr
   obtain⟨m,hm,_⟩:=I4.loc
   exact fin D C H3 s4 (back I4) (I2.fpOk hCle I4.free) ⟨m,hm⟩ qn
  ·refine thn (T.item (X.comp N scope C s2 H2 fp) rfl rfl rfl hc i [] s3 (fB cap σ) H3 _ I3 (stat fr3) st3 go) ?_
   rintro r s4 ⟨u,hr,h4⟩
   subst hr
   refine thn h4 ?_
   rintro _ s5 ⟨x,H5,I5,r5,y5,st5,fr5⟩
   have I5':=I5.pinned (stat fr5) (T.obj _ _ st5)
   refine thn (hg C s2 H2 fp _ s5 (fB cap σ) H5 x u _ I5' r5 (step x H5 y5)) ?_
   rintro _ s6 ⟨σ6,H6,I6,kp6,q6⟩
   refine thn (ht C s2 H2 fp _ s6 σ6 H6 _ I6 q6) ?_
   rintro b s7 ⟨H7,I7,q7⟩
   have again:∀{ys':List V}{H7:Hp}{s7:Shared},Inv (X.comp N scope C s2 H2 fp) ([]++q9 fp s5.heap) σ6 H7 s7->Nx ys' H7->∃m,m < n/\∃i ys H',Inv (X.comp N scope C s2 H2 fp) [] (fB cap σ) H' s7/\tn i s7.heap/\(∀b∈fp,H' b=none)/\W i m ys H':=λ{ys' H7 s7} I7 n7=>by
    obtain⟨m',hm,w7⟩:=hNx ys' H7 n7
    refine⟨m',hm,i+1,ys',H7,I7.unpinned.weak kp6.1 kp6.2,T.keep _ _ _ st5 λb hb o e=>(I7.pin (b,o) (c8 _ (c8 _ (lY hb e)))).1,λb hb=>?_,w7⟩
    obtain⟨o,e,d⟩:=T.obj _ _ st5 b hb
    exact(I7.pin (b,o) (c8 _ (c8 _ (lY hb e)))).2.1
   cases b with
   | false=>
    rw[a9 be] at q7 ⊢
    exact again I7 q7
   | true=>
    rw[bp rfl] at q7 ⊢
    refine thn (he C s2 H2 fp _ s7 σ6 H7 _ I7 q7) ?_
    rintro xv s8 ⟨y,H8,I8,r8,hD8,hl8,n8⟩
    refine thn (nQ (X:=X.comp N scope C s2 H2 fp) _ s8 σ6 H8 (.ref D) [y] (.ref D) [xv] (λ_ H9=>Nx (ys++[y]) H9) I8 rfl (.cons r8 .nil) ⟨D,ys,y,rfl,rfl,hD8,hl8,n8⟩) ?_
    rintro _ s9 ⟨_,H9,I9,_,n9⟩
    exact again I9 n9
 subst hD hCe
 exact codeAny_compStart_list loop (T.self _ 0 _ _ _ st1 loop)
theorem yL {pins:gV}{s:Shared}{σ:St}{H:Hp}(S:CSc osc scope ON N cap)(hsc:X.env.scope=osc)(I:Inv X pins σ H s):closureFor scope X.env=pure (ud X.env scope.names):=
 xH λx hx e=>I.ok.has x.1 (by
  rcases S.fr x hx e with z | z
  ·exact .inl (by rw[Env.kindOf,hsc];exact z)
  ·exact .inr (by rw[Env.kindOf,hsc];exact z))
theorem Inv.letgo {pins:gV}{s':Shared}{σ:St}{H':Hp}{C:Addr}{h':Heap}(I:Inv X pins σ H' s')(f:j6 X pins H' C)(hs:Heap.SameBut C s'.heap h'):Inv X pins σ H' { s' with heap:=h' }:=
 I.turned (t':=s'.toks) (it:=C) (λb o hb e=>(hs.2 b hb).trans e) f.1 f.2.1 f.2.2.2.1 f.2.2.2.2.1 f.2.2.2.2.2
theorem Lf (S:CSc osc scope ON N cap)(hi:PI X tg iter wi)(hg:∀C s H fp,PG (X.comp N scope C s H fp) tg g)(ht:∀C s H fp,rn (X.comp N scope C s H fp) ifs tt)(he:∀C s H fp,PE (X.comp N scope C s H fp) elt te)
  (hc:X.calm=true:=by rfl) (hsc:X.env.scope=osc:=by rfl) (hN:X.N=ON:=by rfl) (hs:∀x,foldedSetIterable iter X.env x=pure x:=by intro _;rfl):PE X (.ListComp elt [⟨tg,iter,ifs,0⟩] scope pos) (xY wi cap g tt te):=by
 intro pins s σ H Q I h
 rw[eval_ListComp]
 refine nN (use:=none) rfl hs (yL S hsc I) S.kind S.loc ?_
 refine wN (RR:=λacc C=>compPost (model X.prog X.w) X.A X.xe none (EP X pins σ Q) acc C) (cqual := "") hc S hsc hN hi hg ht he I h λD C H' s' I' f hm q=>?_
 obtain⟨m,hm⟩:=hm
 exact⟨m,hm,λh' hs'=>⟨.ref D,H',I'.letgo f hs',rfl,q⟩⟩
theorem Lg {i:Nat}{y:Str}{py spos:Pos}(S:CSc osc scope ON N cap)(hNd:X.N.Nodup)(hi':X.N[i]?=some y)(hy:Loc X.env.scope y)(hi:PI X tg iter wi)(hg:∀C s H fp,PG (X.comp N scope C s H fp) tg g)(ht:∀C s H fp,rn (X.comp N scope C s H fp) ifs tt)(he:∀C s H fp,PE (X.comp N scope C s H fp) elt te)
  (hsw:swapsWith (.ListComp elt [⟨tg,iter,ifs,0⟩] scope pos) (some (.Name y py)) spos.line X.env=pure true:=by rfl)
  (hc:X.calm=true:=by rfl) (hsc:X.env.scope=osc:=by rfl) (hN:X.N=ON:=by rfl) (hs:∀x,foldedSetIterable iter X.env x=pure x:=by intro _;rfl)
  (hf:X.fn y=true\/X.env.scope.names.lookup y=some .local:=by first | exact .inl rfl | exact .inr rfl | assumption):
  PS X (.Assign [.Name y py] (.ListComp elt [⟨tg,iter,ifs,0⟩] scope pos) spos) (HJ (xY wi cap g tt te) (sV i)):=by
 intro pins s σ H D0 I h
 rw[exec_Assign_Name_used _ _ _ _ hsw]
 refine ac (pS (ac ?_))
 show wpAny _ _ (do let _ ← comprehension (.ListComp elt [⟨tg,iter,ifs,0⟩] scope pos) scope X.env _ (newList []) false (eval iter X.env) (some (assign (.Name y py) X.env))) _ _ s
 refine ac (ef (nN (use:=some (assign (.Name y py) X.env)) (Q:=λ_ s'=>SP X pins D0 .next s') rfl hs (yL S hsc I) S.kind S.loc
  (wN (RR:=λacc C=>compPost (model X.prog X.w) X.A X.xe (some (assign (.Name y py) X.env)) (λ_ s'=>SP X pins D0 .next s') acc C) (cqual := "") hc S hsc hN hi hg ht he I h λD C H' s' I' f hm q=>?_))
  (λ_ s' hq=>al (al hq)) λ_ _ e=>e)
 obtain⟨m,hm⟩:=hm
 show wpAny _ _ (assign (.Name y py) X.env (.ref D)) _ _ s'
 refine wpAny_assign_Name (wH I' hNd hi' hy (v:=.ref D) rfl (λs'' I'' hch=>?_) hf)
 obtain⟨a,hsb,ha⟩:=hch
 have nCa:C≠a:=by
  rintro rfl
  rcases ha with z | z
  ·exact f.2.1 z
  ·exact f.2.2.2.2.1 y C z rfl
 refine⟨m,hm.sameBut hsb nCa,λh' hs'=>⟨_,H',I''.letgo f hs',q⟩⟩
end
section
variable {X:Cx}{pins:gV}{σ:St}{H H':Hp}{s:Shared}{h':Heap}
theorem Inv.turnedL {t':Nat}{ch:qA}{a:Addr}{o:HO}(I:Inv X pins σ H s)(k:∀b u,b∉ch->s.heap.get? b=some u->h'.get? b=some u)(ht:∀b u,s.heap.get? b=some u->∃u',h'.get? b=some u')(hf:∀b∈ch,j6 X pins H b)
  (hp:s.heap.objs.size<=a) (new:ObjOk X.prog X.w X.K (upd H a o) h' a o):Inv X pins σ (upd H a o) { s with heap:=h',toks:=t' }:=by
 have hn:H a=none:=I.hok.fresh hp
 have nch:∀b u,H b=some u->b∉ch:=λb u e hb=>by
  rw[(hf b hb).1] at e;cases e
 have na:∀b u,s.heap.get? b=some u->b≠a:=λb u e=>cb (bv (ay e) hp)
 have hhok:HOk X.prog X.w X.K (upd H a o) h':=λb u e=>by
  by_cases hb:b=a
  ·subst hb;rw[bc] at e;cases e;exact new
  ·rw[aP hb] at e
   refine(I.hok b u e).stay (λc v hc q=>k c v ?_ q) (λc q=>by rw[aP (bF q hn)];exact q) λc xs q=>by rw[aP (bF q hn)];exact q
   rcases hc with rfl | hc
   ·exact nch c u e
   ·exact nch c _ hc
 refine I.step (g':=s.gens) (d':=s.drawn) (ch:=ch) (λb hb=>let ⟨_,f1,_,f4,f5,f6⟩:=hf b hb;⟨f4,f1,f5,f6⟩) (λb o _ _ hc e _=>k b o hc e) (λb o _ _ hc e _=>⟨o.slots,k b o hc e⟩)
  (λb o _ e n=>by rw[aP (na b o e)];exact n) (λb o _ e=>ht b o e) (λb xs q=>by rw[aP (bF q hn)];exact q) (λb u xs q=>by rw[aP (bF q hn)];exact q)
  (λb ps q=>⟨#[],by rw[aP (bF q hn),q];simp⟩) (λm hm=>?_) hhok I.bare
 obtain⟨oL,es,ep,ho,r⟩:=hm
 have nL:X.env.locals∉ch:=λhb=>(hf _ hb).2.1 rfl
 exact⟨oL,es,ep,k _ oL nL ho,r⟩
end
def Its (x:Str):It:=⟨λi _=>i < x.cps.size,λi H v H'=>H'=H/\∃c,x.cps[i]?=some c/\v=.str ⟨#[c]⟩,λi _=>i=x.cps.size⟩
theorem yM {P:Program}{w:World}{K:W.Frag}{tg:Expr}(it:Addr)(x:Str)(t:Tok)(ty:String)(hty:["enumerate", "zip", "dict_itemiterator", "dict_reverseitemiterator", "odict_iterator", "itertools.zip_longest", "itertools.pairwise"].contains ty=false)
  (W:∀A:Around,A.handled=none->Walks P w A it [it] [it] x.cps.size (SignAt x) (λi h=>h.IsStrIter it ty x t i))
  (slf:∀(A:Around) (i:Nat) (s:Shared) (Q:fN) (E:fN),s.heap.IsStrIter it ty x t i->Q (.ref it) s->wpAny (model P w) A (pyIter (.ref it)) Q E s):
  Turn P w K tg (Its x) [it] it (λi h=>h.IsStrIter it ty x t i) where
 mem:=by simp
 obj:=λi h st b hb=>by
  have e:b=it:=by simpa using hb
  subst e
  obtain⟨o,e,c,d⟩:=st
  exact⟨o,e,λv z=>by rw[d] at z;cases z⟩
 keep:=λi h h' st k=>by
  obtain⟨o,e,r⟩:=st
  exact⟨o,k it (by simp) o e,r⟩
 item:=by
  intro X hP hw hK hc i pins s σ H E I hf st hg
  subst hP hw hK
  obtain⟨f0,f1,f2,f3,f4,f5⟩:=hf it (by simp)
  refine(W X.A (I.ok.hd hc)).item i s _ _ hg st λv h' tk hv st' kk=>?_
  obtain⟨c,u,hx,rfl⟩:=hv
  have I1:Inv X pins σ H { s with heap:=h',toks:=tk }:=I.turned (λb o hb e=>kk b o (by simpa using hb) e) f0 f1 f3 f4 f5
  obtain⟨o,e,cc,d⟩:=id st'
  exact⟨_,rfl,pX (s:={ s with heap:=h',toks:=tk }) e cc d hty ⟨.str ⟨#[c]⟩,H,I1,⟨u,rfl⟩,⟨rfl,c,hx,rfl⟩,st',λb hb=>(hf b hb).1⟩⟩
 done:=by
  intro X hP hw hK hc i pins s σ H E I hf st hg
  subst hP hw hK
  obtain⟨f0,f1,f2,f3,f4,f5⟩:=hf it (by simp)
  have hg':i=x.cps.size:=hg
  subst hg'
  exact(W X.A (I.ok.hd hc)).done s _ _ st λh' tk kk=>⟨rfl,I.turned (λb o hb e=>kk b o (by simpa using hb) e) f0 f1 f3 f4 f5⟩
 self:=slf
section
variable {X:Cx}{tg:Expr}
def Uz (tl:TE):TI:=fun σ H R=>tl σ H λx H1=>∃z,x=.str z/\R (Its z) H1
theorem Qe {l:Expr}{tl:TE}(hl:PE X l tl):PI X tg l (Uz tl):=by
 intro pins s σ H R I h
 refine thn (hl pins s σ H _ I h) ?_
 rintro v s1 ⟨x,H1,I1,r1,q1⟩
 obtain⟨z,e,q⟩:=q1
 subst e
 obtain⟨t,rfl⟩:=r1
 have fp:∀b∈[s1.heap.objs.size],j6 X pins H1 b:=λb hb=>by
  have e:b=s1.heap.objs.size:=by simpa using hb
  subst e
  exact I1.fpOk (aS _) (I1.hok.fresh (aS _))
 cases ha:z.cps.all (· < 128)
 ·exact wpAny_pyIter_wide ha ⟨s1.heap.objs.size,[s1.heap.objs.size],_,_,H1,rfl,I1.kept (t':=s1.toks) λb o e=>ae _ e,yM _ z t "str_iterator" (by decide) (λA hA=>Walks.strWide hA _ z t) (λA i s Q E st h=>wpAny_pyIter_striter_wide st h),⟨_,am _ rfl,rfl,rfl⟩,fp,q⟩
 ·exact wpAny_pyIter_ascii ha ⟨s1.heap.objs.size,[s1.heap.objs.size],_,_,H1,rfl,I1.kept (t':=s1.toks) λb o e=>ae _ e,yM _ z t "str_ascii_iterator" (by decide) (λA hA=>Walks.strAscii hA _ z t) (λA i s Q E st h=>wpAny_pyIter_striter_ascii st h),⟨_,am _ rfl,rfl,rfl⟩,fp,q⟩
end
section
variable {X:Cx}
theorem FT {bs:List Bool}{us:qh}(r:Vals (bs.map V.bl) us){i:Nat}{v:Value}(e:us[i]?=some v):∃b,bs[i]?=some b/\v=.bool b:=by
 have hl:=r.length
 rw[af] at hl
 have hi:i < us.length:=(ap.mp e).1
 have hb:bs[i]?=some bs[i]:=ar (by omega)
 obtain⟨u,h1,h2⟩:=r.get (i:=i) (x:=.bl bs[i]) (by rw[aE,hb] <;> rfl)
 rw[e] at h1
 cases h1
 exact⟨_,hb,h2⟩
theorem range_all {bs:List Bool}{n:Nat}(hn:n=bs.length):((List.range n).all λi=>(bs[i]?).getD true)=bs.all id:=by
 subst hn
 rw[ic]
 simp only[cy,b6,id]
 constructor
 ·intro h x hx
  obtain⟨i,hi,e⟩:=List.mem_iff_getElem.mp hx
  have:=h i hi
  rw[ar hi] at this
  rw[← e]
  exact this
 ·intro h i hi
  rw[ar hi]
  exact h _ (gI hi)
theorem kept_iter {h h':Heap}{o:Obj}(hk:∀b x,b∉[h.objs.size]->(h.push o).get? b=some x->h'.get? b=some x):∀b x,h.get? b=some x->h'.get? b=some x:=
 λb x e=>hk b x (λhm=>by rw[aI.mp hm] at e;exact dv _ (ay e)) (ae _ e)
theorem Ik (hc:X.calm=true:=by rfl):CallR X (.builtin "all") (λxs H Q=>∃(p:Addr) (bs:List Bool),xs=[.ref p]/\SqL X.K H p (bs.map V.bl)/\Q (.bl (bs.all id)) H):=by
 intro pins s σ H xs us Q I r h
 obtain⟨l,bs,rfl,hq,q⟩:=h
 obtain⟨u,rfl,rx⟩:=vals1 r
 cases rx
 obtain⟨its,r',pl,hz⟩:=I.list hq
 have hl:=pl.isList
 have hlen:=r'.length
 rw[af] at hlen
 have hlt:l < s.heap.objs.size:=by obtain⟨_,e,_⟩:=hl;exact ay e
 have hh:=I.ok.hd hc
 refine call_all_walk (eD hl ?_)
 refine⟨s.heap.objs.size,[s.heap.objs.size,l],[s.heap.objs.size],its.toArray.size,_,_,λi=>(bs[i]?).getD true,rfl,Walks.list (A:=X.A.in1) hh _ l (cb hlt) its.toArray,
  ⟨⟨_,am _ rfl,rfl,rfl⟩,hl.push _⟩,λi v s' Q' E' hP hQ=>?_,λh' tk hk=>?_⟩
 ·obtain⟨b,e,rfl⟩:=FT r' (i:=i) (v:=v) (by simpa using hP)
  simp only[e,Option.getD_some] at hQ
  exact fw hQ
 ·refine⟨.bl (bs.all id),H,I.kept (kept_iter hk),?_,q⟩
  rw[range_all (by simp[hlen])]
  rfl
mutual
inductive Dt (K:W.Frag) (H:Hp):V->PyData->Prop
 | non:Dt K H .non .none
 | bl (b:Bool):Dt K H (.bl b) (.bool b)
 | int (i:Int):Dt K H (.int i) (.int i)
 | str (x:Str):Dt K H (.str x) (.str x)
 | lst {a:Addr}{xs:List V}{ds:List PyData}:SqL K H a xs->Dts K H xs ds->Dt K H (.ref a) (.list ds)
 | tup {a:Addr}{xs:List V}{ds:List PyData}:SqT K H a xs->Dts K H xs ds->Dt K H (.ref a) (.tuple ds)
inductive Dts (K:W.Frag) (H:Hp):List V->List PyData->Prop
 | nil:Dts K H [] []
 | cons {x:V}{xs:List V}{d:PyData}{ds:List PyData}:Dt K H x d->Dts K H xs ds->Dts K H (x::xs) (d::ds)
end
mutual
theorem Dt.reads {pins:gV}{σ:St}{H:Hp}{s:Shared}(I:Inv X pins σ H s):∀{x:V}{d:PyData}{u:Value},Dt X.K H x d->RelV x u->∃as,Reads s.heap u d as
 | _,_,_,.non,r=>by cases r;exact⟨[],.none⟩
 | _,_,_,.bl b,r=>by cases r;exact⟨[],.bool b⟩
 | _,_,_,.int i,r=>by obtain⟨t,rfl⟩:=r;exact⟨[],.int i t⟩
 | _,_,_,.str x,r=>by obtain⟨t,rfl⟩:=r;exact⟨[],.str x t⟩
 | _,_,_,.lst hq hs,r=>by
  cases r
  obtain⟨its,rv,pl,_⟩:=I.list hq
  obtain⟨o,e,c,n,d⟩:=pl.isList
  obtain⟨as,ra⟩:=Dts.reads I hs rv
  exact⟨_,.list e c d (by simpa using ra)⟩
 | _,_,_,.tup hq hs,r=>by
  cases r
  obtain⟨its,rv,pl,_⟩:=I.tuple hq
  obtain⟨o,e,c,n,d⟩:=pl
  obtain⟨as,ra⟩:=Dts.reads I hs rv
  exact⟨_,.tuple e c d (by simpa using ra)⟩
theorem Dts.reads {pins:gV}{σ:St}{H:Hp}{s:Shared}(I:Inv X pins σ H s):∀{xs:List V}{ds:List PyData}{us:qh},Dts X.K H xs ds->Vals xs us->∃as,ReadsAll s.heap us ds as
 | _,_,_,.nil,r=>by cases r;exact⟨[],.nil⟩
 | _,_,_,.cons h hs,r=>by
  cases r with
  | cons r1 r2=>
   obtain⟨as,ra⟩:=Dt.reads I h r1
   obtain⟨bs,rb⟩:=Dts.reads I hs r2
   exact⟨_,.cons ra rb⟩
end
theorem Qf (hu:X.A.units+64 < cLine):OpR X (compareOp .Eq) (λx y H Q=>∃d e,Dt X.K H x d/\Dt X.K H y e/\SeqAt.shaped d=true/\SeqAt.shaped e=true/\Q (.bl (PyData.eqv d e)) H):=by
 intro pins s σ H x y v u Q I rx ry h
 obtain⟨d,e,h1,h2,s1,s2,q⟩:=h
 obtain⟨as,ra⟩:=h1.reads I rx
 obtain⟨bs,rb⟩:=h2.reads I ry
 exact eq_dataH ra rb s1 s2 hu ⟨.bl _,H,I,rfl,q⟩
theorem Qg (hu:X.A.units+64 < cLine):OpR X (compareOp .NotEq) (λx y H Q=>∃d e,Dt X.K H x d/\Dt X.K H y e/\SeqAt.shaped d=true/\SeqAt.shaped e=true/\Q (.bl (!PyData.eqv d e)) H):=by
 intro pins s σ H x y v u Q I rx ry h
 obtain⟨d,e,h1,h2,s1,s2,q⟩:=h
 obtain⟨as,ra⟩:=h1.reads I rx
 obtain⟨bs,rb⟩:=h2.reads I ry
 exact ne_dataH ra rb s1 s2 hu ⟨.bl _,H,I,rfl,q⟩
theorem Ax:CallR X (.builtin "isinstance") (λxs H Q=>∃x n t b,xs=[x,.ty n]/\TyOf X.K H x t/\W.kitOne X.K t (.type n)=some b/\Q (.bl b) H):=by
 intro pins s σ H xs us Q I r h
 obtain⟨x,n,t,b,rfl,ty,e,q⟩:=h
 obtain⟨u,w',rfl,r1,r2⟩:=vals2 r
 cases r2
 exact Fi I r1 ty e λtk=>⟨.bl b,H,I.tok _,rfl,q⟩
end
structure Cal (P:Program)(w:World)(K:W.Frag)(mg:Str->Option Value)(base:Heap)(k:Nat)(x:Str)(ps:qr)(sp:Sp):Prop where
 ex:∃f fd,FnOk P w K mg base CX0 k f fd ps sp/\Binds K fd ps []/\W.keepIn K (.ref f)=true/\mg x=some (.ref f)
theorem bf {P:Program}{w:World}{K:W.Frag}{mg:Str->Option Value}{base:Heap}{k:Nat}{x:Str}{ps:qr}{sp:Sp}{st:Stmt}{f:Addr}{fd:FuncData}(F:Fun K x x st f fd)
  (hm:mg x=some (.ref f)) (hb:Binds K fd ps []) (G:FnOk P w K mg base CX0 k f fd ps sp):Cal P w K mg base k x ps sp:=⟨f,fd,G,hb,F.kp,hm⟩
theorem Qh {X:Cx}{k j:Nat}{x:Str}{ps:qr}{sp:Sp}{p pos:Pos}{e:Expr}{es:qo}{t:TA}(c:Cal X.prog X.w X.K X.mg X.base k x ps sp)(hr:Room j X.A)(ha:PA X (e::es) t)(hle:k<=j:=by decide)(hg:Gl X x:=by rfl)
  (hdb:(x == ("__debug__" : Str))=false:=by decide) (he:starEach (e::es) X.env=(false,eval e X.env)::starEach es X.env:=by rfl) (hpl:(backTo pos (starEach es X.env)).any (·.1)=false:=by rfl):
  PE X (.Call (.Name x p) (e::es) [] pos) (J2 sp [] E0 t):=by
 obtain⟨f,fd,G,hb,kp,hm⟩:=c.ex
 exact K3 G (hr.mono hle) hg hm kp hb .nil Ti ha hdb he hpl
theorem bJ {H:Hp}{p:Addr}(h:H p=none)(o:HO):Same H (upd H p o):=λb u q=>by rw[aP (bF q h)];exact q
theorem Same.new {H H':Hp}{p:Addr}(s:Same H H')(h:H' p=none)(o:HO):Same H (upd H' p o):=s.trans (bJ h o)
theorem small {n:Nat}(h:n<=1000):n<=sizeLine:=kN (FJ h)
theorem jF {n:Nat}(h:n<=1000000):n < sizeLine:=ng h (by decide)
def rA (x:Str)(lo hi:Option Int):Str:=⟨((x.cps.toList.drop (HT.sIx x.length 0 lo)).take (HT.sIx x.length x.length hi - HT.sIx x.length 0 lo)).toArray⟩
theorem Lh (lo hi:Option Int)(n:Nat):Builtin.Str.strSliceIndices lo hi 1 n=(List.range (HT.sIx n n hi - HT.sIx n 0 lo)).map (HT.sIx n 0 lo+·):=by
 rw[← sliceRange_one]
 unfold Builtin.Str.strSliceIndices
 have cl:∀(o:Option Int) (d:Nat),d<=n->(match o with | none=>(d:Int) | some i=>let i:=if i < 0 then i+(n:Int) else i;if (1:Int) > 0 then max 0 (min i (n:Int)) else max (-1) (min i ((n:Int) - 1)))=((HT.sIx n d o:Nat):Int):=λo d hd=>by
  cases o with
  | none=>rfl
  | some i=>
   simp only[HT.sIx,show (1:Int) > 0 by decide,gx]
   by_cases h:i < 0
   ·simp only[h,gx] <;> omega
   ·simp only[h,gu] <;> omega
 have c1:=cl lo 0 (cK _)
 have c2:=cl hi n (aS _)
 simp only[show (1:Int) > 0 by decide,gx] at c1 c2 ⊢
 exact congr (ce sliceRange c1) c2▸rfl
theorem Il (x:Str)(t:Tok)(l u:Option (Int×Tok)){Q:fN}{s:Shared}(hl:x.length<=sizeLine)
  (h:∀t' s',(s'=s\/s'={ s with toks:=s.toks+1 })->Q (.str (rA x (l.map (·.1)) (u.map (·.1))) t') s'):(sliceMade x t l u none).post Q s:=by
 unfold sliceMade slicePicked
 have e:Builtin.Str.strSliceIndices (l.map (·.1)) (u.map (·.1)) ((((none:Option (Int×Tok)).map (·.1)).getD 1)) x.length=_:=Lh (l.map (·.1)) (u.map (·.1)) x.length
 rw[e]
 have hp:=pick_run x.cps (HT.sIx x.length 0 (l.map (·.1))) (HT.sIx x.length x.length (u.map (·.1)) - HT.sIx x.length 0 (l.map (·.1)))
 have hs:HT.sIx x.length x.length (u.map (·.1))<=x.length:=HT.sIx_le _ _ (aS _) _
 have hc:x.length=x.cps.toList.length:=by simp[Str.length]
 by_cases hw:((((none:Option (Int×Tok)).map (·.1)).getD 1 == 1&&((List.range (HT.sIx x.length x.length (u.map (·.1)) - HT.sIx x.length 0 (l.map (·.1)))).map (HT.sIx x.length 0 (l.map (·.1))+·)).length == x.length)=true)
 ·rw[bp hw]
  show Q (.str x t) s
  have hn:HT.sIx x.length x.length (u.map (·.1)) - HT.sIx x.length 0 (l.map (·.1))=x.length:=by
   have:=(bP _ _▸hw).2
   simpa using this
  have e2:rA x (l.map (·.1)) (u.map (·.1))=x:=by
   unfold rA
   rw[hn]
   by_cases h0:x.length=0
   ·have:x.cps.toList=[]:=lT (by omega)
    cases x with | mk c=>simp at this;subst this;simp
   ·have h1:HT.sIx x.length 0 (l.map (·.1))=0:=by omega
    rw[h1,iP,hc,kq]
  have:=h t s (.inl rfl)
  rw[e2] at this
  exact this
 ·rw[a9 hw,hp]
  refine⟨?_,h _ _ (.inr rfl)⟩
  show ((x.cps.toList.drop _).take _).toArray.size<=sizeLine
  rw[aT,dQ,fq,← hc]
  omega
section
variable {X:Cx}
def Qi:V->Option Int->Option Int->Hp->VK->Prop:=λx lo hi H Q=>∃z,x=.str z/\z.length<=sizeLine/\Q (.str (rA z lo hi)) H
theorem Qj:SlR X Qi:=by
 intro pins s σ H x v vl vu lo hi sl Q I rx hs pl pu h
 obtain⟨z,rfl,hz,q⟩:=h
 obtain⟨t,rfl⟩:=rx
 refine⟨"str",_,slot_str_getitem.lookup,typeIs_str s z t,?_⟩
 have part:∀{v:Value}{o:Option Int},IsPart v o->∃p:Option (Int×Tok),v=partValue p/\p.map (·.1)=o:=λp=>by
  cases p with
  | none=>exact⟨none,rfl,rfl⟩
  | int i t=>exact⟨some (i,t),rfl,rfl⟩
 obtain⟨l,rfl,rfl⟩:=part pl
 obtain⟨u,rfl,rfl⟩:=part pu
 refine wpAny_getItem_str_slice (l:=l) (u:=u) (st:=none) hs rfl (Il z t l u hz λt' s' hs'=>?_)
 rcases hs' with rfl | rfl
 ·exact⟨.str (rA z (l.map (·.1)) (u.map (·.1))),H,I,⟨t',rfl⟩,q⟩
 ·exact⟨.str (rA z (l.map (·.1)) (u.map (·.1))),H,I.tok _,⟨t',rfl⟩,q⟩
def Qk (K:W.Frag):V->Option Int->Option Int->Hp->VK->Prop:=λx lo hi H Q=>P0 K x lo hi H Q\/Qi x lo hi H Q
theorem Ql:SlR X (Qk X.K):=sl_list.or Qj
end
section
variable {X:Cx}{pins:gV}{σ:St}{H H':Hp}{s:Shared}{h':Heap}
theorem Inv.turnedM {t':Nat}{ch:qA}(I:Inv X pins σ H s)(k:∀b u,b∉ch->s.heap.get? b=some u->h'.get? b=some u)(hf:∀b∈ch,j6 X pins H b):Inv X pins σ H { s with heap:=h',toks:=t' }:=by
 have nch:∀b u,H b=some u->b∉ch:=λb u e hb=>by
  rw[(hf b hb).1] at e;cases e
 refine I.step (g':=s.gens) (d':=s.drawn) (ch:=ch) (λb hb=>let ⟨_,f1,_,f4,f5,f6⟩:=hf b hb;⟨f4,f1,f5,f6⟩) (λb o _ _ hc e _=>k b o hc e) (λb o _ _ hc e _=>⟨o.slots,k b o hc e⟩)
  (λ_ _ _ _ n=>n) (λb o hc e=>⟨o,k b o hc e⟩) (λ_ _ e=>e) (λ_ _ _ e=>e) (λb ps e=>⟨#[],by rw[e];simp⟩) (λm hm=>?_) (λb u e=>?_) I.bare
 ·obtain⟨oL,es,ep,ho,r⟩:=hm
  have nL:X.env.locals∉ch:=λhb=>(hf _ hb).2.1 rfl
  exact⟨oL,es,ep,k _ oL nL ho,r⟩
 ·refine(I.hok b u e).stay (λc v hc q=>k c v ?_ q) (λ_ q=>q) λ_ _ q=>q
  rcases hc with z | z
  ·rw[z];exact nch b u e
  ·exact nch c _ z
end
section
variable {X:Cx}
noncomputable def vP (n:Nat):List V:=(List.range n).map λi=>.int (i:Nat)
theorem yN:∀(n k:Nat) (l:qh),l.length=n->(∀(j:Nat) v,l[j]?=some v->∃t,v=.int ((k+j:Nat):Int) t)->Vals ((List.range' k n).map λi=>V.int (i:Nat)) l
 | 0,k,l,h,_=>by
  have:=lT h
  subst this
  exact .nil
 | n+1,k,l,h,hv=>by
  cases l with
  | nil=>cases h
  | cons v l=>
   rw[List.range'_succ,av]
   refine .cons ?_ (yN n (k+1) l (by simpa using h) λj u hu=>?_)
   ·obtain⟨t,e⟩:=hv 0 v rfl
    exact⟨t,e⟩
   ·obtain⟨t,e⟩:=hv (j+1) u (by simpa using hu)
    exact⟨t,by rw[e];congr 1;omega⟩
def Qm (ta:TA):TE:=fun σ H Q=>ta σ H λvs H1=>∃n:Nat,vs=[.int (n:Nat)]/\n<=1000000/\∀l,H1 l=none->Q (.ref l) (upd H1 l (.lst (vP n)))
theorem Im {a:Expr}{ta:TA}{p p2 pos pos2:Pos}(hg:Gl X "list")(hm:X.mg "list" = none)(hg2:Gl X "range")(hm2:X.mg "range" = none)(hc:X.calm=true)(ha:PA X [a] ta)(hs:starEach [a] X.env=[(false,eval a X.env)]:=by rfl)
  (hs2:starEach [.Call (.Name "range" p2) [a] [] pos2] X.env=(false,eval (.Call (.Name "range" p2) [a] [] pos2) X.env)::starEach [] X.env:=by rfl) (hpl:(backTo pos (starEach [] X.env)).any (·.1)=false:=by rfl):
  PE X (.Call (.Name "list" p) [.Call (.Name "range" p2) [a] [] pos2] [] pos) (Qm ta):=by
 intro pins s σ H Q I h
 refine fS (d9 I hg hm gy ?_ (by decide) (by decide))
 refine bt ?_ hs2 hpl
 rw[hs2]
 show wpAny _ _ (spliced ((false,eval (.Call (.Name "range" p2) [a] [] pos2) X.env)::backTo pos (starEach [] X.env))) _ _ s
 refine fk ?_
 refine Call_ (d9 I hg2 hm2 PyProof.Rows.boot_range (bt (thn (ha pos2 pins s σ H _ I h) ?_) hs rfl))
 rintro us s1 ⟨vs,H1,I1,r1,q1⟩
 obtain⟨n,e,hn,q⟩:=q1
 subst e
 cases r1 with
 | cons r rr=>
  cases rr
  obtain⟨t,rfl⟩:=r
  refine call_range_1 (io ?_)
  have h64:(2 ^ 62:Int)=4611686018427387904:=by decide
  refine call_list_range (n:=n) (I1.ok.hd hc) (IsRange.new ..) (small_one (by omega) (by omega) (by omega) (by omega)) (by rw[rangeSize_one];split <;> omega) (by omega) λh' tk acc' c' kp e it=>?_
  obtain⟨i1,i2⟩:=it
  have hv:Vals (vP n) acc'.toList:=by
   have:=yN n 0 acc'.toList (by simpa using i1) λj v hj=>by
    obtain⟨t,e⟩:=i2 j v (by simpa using hj)
    exact⟨t,by rw[e];congr 1;omega⟩
   unfold vP
   rw[List.range_eq_range']
   exact this
  have I2:=I1.laid (a:=s1.heap.objs.size+1) (o:=.lst (vP n)) (h':=h') (t':=tk) (λb o eb=>kp b o (ae _ eb)) (by omega)
   (show ObjOk X.prog X.w X.K _ h' _ (.lst (vP n)) from ⟨(by unfold vP;rw[af,ip];exact kN (jF hn)),acc'.toList,c',hv,by
    have:=e
    rw[cq] at this
    simpa using this⟩)
  refine⟨.ref (s1.heap.objs.size+1),_,I2,?_,q _ (I1.hok.fresh (by omega))⟩
  show Value.ref _=Value.ref _
  rw[cq]
end
theorem FW:typeLookup (.type "list_reverseiterator") "__len__" = pure none:=by rw[gi,eB];kernel_rfl
theorem Io:typeLookup (.type "list_reverseiterator") "__length_hint__" = pure (some (.builtin "list_reverseiterator.__length_hint__")):=by rw[gi,eB];kernel_rfl
section
variable {prog:Program}{w:World}{A:Around}{E:fN}{s:Shared}
theorem Dh {J l N:Addr}{items:qB}{c₀:Nat}{R:Result->Shared->Prop}(hh:A.handled=none)(hit:s.heap.IsRevIter J l ((items.size:Int) - 1))(hl:s.heap.IsList l items)(hlJ:l≠J)(hNJ:N≠J)(hNl:N≠l)(hn:items.size<=sizeLine)
  (hN:s.heap.get? N=some { cls:=.type "list",data:=.seq #[] c₀ })
  (hR:∀h' tk acc c,(∀b o,b≠J->b≠N->s.heap.get? b=some o->h'.get? b=some o)->h'.get? N=some { cls:=.type "list",dict:=none,data:=.seq acc c,slots:=#[] }->ItemsOf (λi v=>items[items.size - 1 - i]?=some v) acc items.size->R (.ok (.ret .none)) { s with heap:=h',toks:=tk }):
  wpAny (model prog w) A.in1 (Builtin.List.listExtendWith (.ref N) (.ref J) .none)
   (λfin s'=>match fin with | .done f=>R (.ok f) s' | .again c'=>c'.quiet=true/\codeAny (model prog w) A c' R s') (λe s'=>R (.error e) s') s:=by
 have W:=(Walks.listRev (prog:=prog) (w:=w) (A:=A.in1) hh J l hlJ items).toS
 have st0:(0:Nat)<=items.size/\s.heap.IsRevIter J l ((items.size:Int) - 1 - ((0:Nat):Int))/\s.heap.IsList l items:=⟨cK _,by simpa using hit,hl⟩
 unfold Builtin.List.listExtendWith
 have hr:Builtin.List.listSameRef (.ref N) (.ref J)=false:=by simp[Builtin.List.listSameRef,hNJ]
 refine ac (wpAny_typeOf hit.typeIs ?_);rw[a9 (by rw[hr];decide)]
 refine ac (l0 hit (ac (eP ?_)))
 unfold Builtin.List.listLengthHint
 refine ac (gl hit.typeIs FW ?_)
 show wpAny _ A.in1 (specialOf (Value.ref J) (Str.ofString "__length_hint__") >>= _) _ _ _
 refine ac (gl hit.typeIs Io ?_)
 (generalize hid:("list_reverseiterator.__length_hint__" : String)=nm;(fail_if_success (clear hid nm));wp_delta;rw[show splitId nm=some ("list_reverseiterator", "__length_hint__") from by subst hid;decide +kernel];subst hid)
 refine ac (fR (b:=true) hit.typeIs (by rw[ki];kernel_rfl) (al ?_))
 rw[a9 (by decide)]
 have hNf:N∉[J,l]:=by simp[hNJ,hNl]
 refine al ⟨lx iE _,codeAny_extend_loopS W hn N hNf .none items.size 0 _ _ _ rfl (cK _) st0 hN (ItemsOf.nil _) λs' acc c hm hN' it=>?_⟩
 rw[Moved.eq_with hm]
 exact hR s'.heap s'.toks acc c (λb o h1 h2 e=>hm.heap b o (by simp[h1,h2]) e) hN' it
theorem xJ {J l:Addr}{items:qB}{Q:fN}(hh:A.handled=none)(hit:s.heap.IsRevIter J l ((items.size:Int) - 1))(hl:s.heap.IsList l items)(hlJ:l≠J)(hn:items.size<=sizeLine)
  (hQ:∀h' tk acc c,(∀b o,b≠J->s.heap.get? b=some o->h'.get? b=some o)->h'.get? s.heap.objs.size=some { cls:=.type "list",dict:=none,data:=.seq acc c,slots:=#[] }->ItemsOf (λi v=>items[items.size - 1 - i]?=some v) acc items.size->Q (.ref s.heap.objs.size) { s with heap:=h',toks:=tk }):
  wpAny (model prog w) A (call (.type "list") [.ref J]) Q E s:=by
 have lt:∀{b:Addr}{o:Obj},s.heap.get? b=some o->b≠s.heap.objs.size:=λe=>cb (ay e)
 have nJ:J≠s.heap.objs.size:=let ⟨_,e,_⟩:=hit;lt e
 have nl:l≠s.heap.objs.size:=let ⟨_,e,_⟩:=hl;lt e
 refine callType_codes (Q₁:=λx t=>x=.ref s.heap.objs.size/\t={ s with heap:=s.heap.push { cls:=.type "list",data:=.seq #[] } }) F.called_list (F.typeCall_list_1 _) F.entry_list_init (code_list_new _ ⟨rfl,rfl⟩) λx t ht=>?_
 obtain⟨rfl,rfl⟩:=ht
 have hN:(s.heap.push { cls:=.type "list",data:=.seq #[] }).get? s.heap.objs.size=some { cls:=.type "list",data:=.seq #[] }:=am _ rfl
 refine⟨⟨_,hN,rfl⟩,F.args_list_init_2 _ _,?_⟩
 generalize hS:s.heap.objs.size=N at *
 have up:∀b o,b≠N->s.heap.get? b=some o->((s.heap.push { cls:=.type "list",data:=.seq #[] }).update N (Obj.mapSeq (λ_=>(#[]:qB)))).get? b=some o:=λb o hb e=>(de _ _ (fF hb)).trans (ae _ e)
 show wpAny _ A.in1.in1 (do let old ← Builtin.List.listItems (.ref N);Builtin.List.listUpdate (.ref N) (λ_=>#[]);letGo old.toList.reverse;Builtin.List.listExtendWith (.ref N) (.ref J) .none) _ _ _
 refine ac ?_;unfold Builtin.List.listItems
 refine ac (eI hN rfl (al ?_))
 show wpAny _ A.in1.in1 (updateSeq N (λ_=>#[]) >>= λ_=>letGo (#[]:qB).toList.reverse >>= λ_=>Builtin.List.listExtendWith (.ref N) (.ref J) .none) _ _ _
 refine ac (kC hN rfl (ac (lP ?_)))
 have hN2:=cw (Obj.mapSeq (λ_=>(#[]:qB))) hN rfl
 refine Dh (A:=A.in1) hh (hit.at λo e=>up J o nJ e) (hl.at λo e=>up l o nl e) hlJ (fF nJ) (fF nl) hn hN2 λh' tk acc c k e it=>⟨rfl,hQ h' tk acc c (λb o hb eb=>k b o hb (hS▸lt eb) (up b o (hS▸lt eb) eb)) e it⟩
end
def Itv (K:W.Frag)(a:Addr)(n:Nat):It:=
 ⟨λi H=>∃xs x,SqL K H a xs/\xs.length=n/\i < n/\xs[n - 1 - i]?=some x,λi H x H'=>H'=H/\∀xs,SqL K H a xs->xs[n - 1 - i]?=some x,λi _=>n=i⟩
theorem Ip {P:Program}{w:World}{K:W.Frag}{tg:Expr}(a it:Addr)(n:Nat):Turn P w K tg (Itv K a n) [it] it (λi h=>h.IsRevIter it a ((n:Int) - 1 - ((i:Nat):Int))) where
 mem:=by simp
 obj:=λi h st b hb=>by
  obtain⟨o,e,c,d⟩:=st
  exact⟨o,by rw[aI.mp hb];exact e,λv z=>by rw[d] at z;cases z⟩
 keep:=λi h h' st k=>st.at λo e=>k it ai o e
 item:=by
  intro X hP hw hK hc i pins s σ H E I hf st hg
  subst hP hw hK
  obtain⟨xs,x,hq,hlen,hlt,hx⟩:=hg
  obtain⟨its,rv,p,hz⟩:=I.list hq
  obtain⟨u,hu,ru⟩:=rv.get hx
  obtain⟨f0,f1,f2,f3,f4,f5⟩:=hf it ai
  have e1:(n:Int) - 1 - ((i:Nat):Int)=((n - 1 - i:Nat):Int):=by omega
  have st1:=st
  rw[e1] at st1
  refine wpAny_pyNext_rev_item st1 p.isList (x:=u) (by simpa using hu) λh' st' sb=>?_
  have e2:((n - 1 - i:Nat):Int) - 1=(n:Int) - 1 - ((i+1:Nat):Int):=by omega
  rw[e2] at st'
  obtain⟨o,e,c,d⟩:=id st'
  exact⟨u,rfl,pX (s:={ s with heap:=h' }) e c d (by decide) ⟨x,H,I.turned (t':=s.toks) (λb o hb q=>(sb.2 b hb).trans q) f0 f1 f3 f4 f5,ru,⟨rfl,λys hy=>by rw[I.list_inj hy hq];exact hx⟩,st',λb hb=>(hf b hb).1⟩⟩
 done:=by
  intro X hP hw hK hc i pins s σ H E I hf st hg
  subst hP hw hK
  obtain⟨f0,f1,f2,f3,f4,f5⟩:=hf it ai
  have hg':n=i:=hg
  have e1:(n:Int) - 1 - ((i:Nat):Int)=-1:=by omega
  rw[e1] at st
  exact wpAny_pyNext_rev_end (I.ok.hd hc) st λh' eb=>⟨rfl,I.turned (t':=s.toks) (λb o hb q=>eb b o hb q) f0 f1 f3 f4 f5⟩
 self:=λ_ _ _ _ _ st h=>l0 st h
section
variable {X:Cx}{tg:Expr}
def UG (K:W.Frag)(ta:TA):TI:=fun σ H R=>ta σ H λvs H1=>∃a xs,vs=[.ref a]/\SqL K H1 a xs/\R (Itv K a xs.length) H1
theorem Qn {l:Expr}{ta:TA}{p pos:Pos}(hg:Gl X "reversed")(hm:X.mg "reversed" = none)(ha:PA X [l] ta)(hb:bootBuiltins "reversed" = some (.type "reversed"))(hs:starEach [l] X.env=(false,eval l X.env)::starEach [] X.env:=by rfl)(hp:(backTo pos (starEach [] X.env)).any (·.1)=false:=by rfl):
  PI X tg (.Call (.Name "reversed" p) [l] [] pos) (UG X.K ta):=by
 intro pins s σ H R I h
 refine Call_ (d9 I hg hm hb (bt (thn (ha pos pins s σ H _ I h) ?_) hs hp))
 rintro us s1 ⟨vs,H1,I1,r1,q1⟩
 obtain⟨a,xs,e,hq,q⟩:=q1
 subst e
 obtain⟨u,rfl,ru⟩:=vals1 r1
 cases ru
 obtain⟨its,rv,p,hz⟩:=I1.list hq
 refine call_reversed_list p.isList ?_
 have hlen:=rv.length
 have ez:((its.toArray.size:Nat):Int) - 1=(xs.length:Int) - 1 - ((0:Nat):Int):=by rw[aT];omega
 rw[ez]
 refine l0 ⟨_,am _ rfl,rfl,rfl⟩ ⟨s1.heap.objs.size,[s1.heap.objs.size],_,_,H1,rfl,I1.kept (t':=s1.toks) λb o e=>ae _ e,Ip a _ xs.length,⟨_,am _ rfl,rfl,rfl⟩,λb hb=>?_,q⟩
 rw[aI.mp hb]
 exact I1.fpOk (aS _) (I1.hok.fresh (aS _))
theorem FZ {xs:List V}{its:qh}(r:Vals xs its)(acc:qh)(hl:acc.length=its.length)(h:∀(i:Nat) v,acc[i]?=some v->its[its.length - 1 - i]?=some v):Vals xs.reverse acc:=by
 have e:acc=its.reverse:=by
  refine jS λi=>?_
  rcases dc i acc.length with hi | hi
  ·have:=h i acc[i] (ar hi)
   rw[ar hi,oP (by omega),this]
  ·rw[bo hi,bo (by rw[iL];omega)]
 rw[e]
 exact r.reverse
def Qo (K:W.Frag)(ta:TA):TE:=fun σ H Q=>ta σ H λvs H1=>∃a xs,vs=[.ref a]/\SqL K H1 a xs/\∀l,H1 l=none->Q (.ref l) (upd H1 l (.lst xs.reverse))
theorem Ir {a:Expr}{ta:TA}{p p2 pos pos2:Pos}(hg:Gl X "list")(hm:X.mg "list" = none)(hg2:Gl X "reversed")(hm2:X.mg "reversed" = none)(hb:bootBuiltins "reversed" = some (.type "reversed"))(hc:X.calm=true)(ha:PA X [a] ta)(hs:starEach [a] X.env=(false,eval a X.env)::starEach [] X.env:=by rfl)(hp2:(backTo pos2 (starEach [] X.env)).any (·.1)=false:=by rfl)
  (hs2:starEach [.Call (.Name "reversed" p2) [a] [] pos2] X.env=(false,eval (.Call (.Name "reversed" p2) [a] [] pos2) X.env)::starEach [] X.env:=by rfl) (hpl:(backTo pos (starEach [] X.env)).any (·.1)=false:=by rfl):
  PE X (.Call (.Name "list" p) [.Call (.Name "reversed" p2) [a] [] pos2] [] pos) (Qo X.K ta):=by
 intro pins s σ H Q I h
 refine fS (d9 I hg hm gy (bt ?_ hs2 hpl) (by decide) (by decide))
 rw[hs2]
 show wpAny _ _ (spliced ((false,eval (.Call (.Name "reversed" p2) [a] [] pos2) X.env)::backTo pos (starEach [] X.env))) _ _ s
 refine fk (Call_ (d9 I hg2 hm2 hb (bt (thn (ha pos2 pins s σ H _ I h) ?_) hs hp2)))
 rintro us s1 ⟨vs,H1,I1,r1,q1⟩
 obtain⟨a,xs,e,hq,q⟩:=q1
 subst e
 obtain⟨u,rfl,ru⟩:=vals1 r1
 cases ru
 obtain⟨its,rv,pl,hz⟩:=I1.list hq
 have hlen:=rv.length
 have hlt:a≠s1.heap.objs.size:=let ⟨_,e,_⟩:=pl.isList;cb (ay e)
 refine call_reversed_list pl.isList (io ?_)
 refine xJ (I1.ok.hd hc) ⟨_,am _ rfl,rfl,rfl⟩ (pl.isList.at λo e=>ae _ e) hlt (by rw[aT];omega) λh' tk acc c k e it=>?_
 obtain⟨i1,i2⟩:=it
 rw[aT] at i1
 have hv:Vals xs.reverse acc.toList:=FZ rv acc.toList (by simpa using i1) λi v hi=>by
  have:=i2 i v (by simpa using hi)
  simpa using this
 have I2:=I1.laid (a:=s1.heap.objs.size+1) (o:=.lst xs.reverse) (h':=h') (t':=tk) (λb o eb=>k b o (cb (ay eb)) (ae _ eb)) (by omega)
  (show ObjOk X.prog X.w X.K _ h' _ (.lst xs.reverse) from ⟨(by rw[iL];exact hz),acc.toList,c,hv,by
   have:=e
   rw[cq] at this
   simpa using this⟩)
 refine⟨.ref (s1.heap.objs.size+1),_,I2,?_,q _ (I1.hok.fresh (by omega))⟩
 show Value.ref _=Value.ref _
 rw[cq]
end
section
variable {X:Cx}{tg:Expr}
def Qp (K:W.Frag):V->List V->Hp->VK->Prop:=λx vs H Q=>∃y d ds j,vs=[y]/\Dt K H x (.list ds)/\Dt K H y d/\PyData.canLayAll0 ds=true/\d.canLay0=true/\d.depth<=32/\(∃e,ds[j]?=some e/\PyData.eqv e d=true)/\(∀m e,m < j->ds[m]?=some e->PyData.eqv e d=false)/\j<=1000000/\Q (.int (j:Nat)) H
theorem Iu (hu:X.A.units+64 < cLine):MtR X "list.index" (Qp X.K):=by
 intro pins s σ H x vs v us Q I rx rv h
 obtain⟨y,d,ds,j,rfl,h1,h2,c1,c2,c3,⟨e0,hj,he⟩,hno,hj6,q⟩:=h
 obtain⟨u,rfl,ru⟩:=rv.one
 obtain⟨as,ra⟩:=h1.reads I rx
 obtain⟨bs,rb⟩:=h2.reads I ru
 cases ra with
 | @list a o its n _ as g1 g2 g3 g4=>
  have mp:=SeqAt.readsAll_map ds its.toList _ c1 g4
  have look:∀{m:Nat}{e:PyData},ds[m]?=some e->∃hm:m < its.size,SeqAt.readOf s.heap its[m]=e:=λ{m e} hm=>by
   rw[← mp,aE] at hm
   rcases dc m its.toList.length with z | z
   ·rw[ar z] at hm
    exact⟨by simpa using z,by simpa using hm⟩
   ·rw[bo z] at hm;cases hm
  obtain⟨hjl,hje⟩:=look hj
  obtain⟨cl,dd,da,sl⟩:=o
  simp only at g2 g3
  subst g2 g3
  refine ot F.slot_list_index ⟨_,g1,rfl⟩ F.entry_list_index (F.args_list_index_2 _ _) (SeqAt.list_indexAt a its n dd sl u (λz=>PyData.eqv (SeqAt.readOf s.heap z) d) j hjl (by omega) (by rw[hje];exact he) λm hm hmj=>?_) ⟨g1,SeqAt.items_eqAt g4 rb c1 c2 ?_,?_⟩
  ·have hmd:ds[m]?=some (SeqAt.readOf s.heap its[m]):=by
    rw[← mp,aE,ar (by simpa using hm)]
    simp
   exact hno m _ hmj hmd
  ·have hmin:min (PyData.depthAll ds) d.depth<=d.depth:=lm _ _
   show X.A.units+1+min (PyData.depthAll ds) d.depth < cLine
   omega
  ·exact⟨.int (j:Nat),H,I.tok _,⟨_,rfl⟩,q⟩
end
section
variable {prog:Program}{w:World}{A:Around}{E:fN}{s:Shared}
theorem nextT {it t:Addr}{i:Nat}{items:qB}{x:Value}{Q:fN}(hit:s.heap.IsTupleIter it t i)(ht:s.heap.IsTuple t items)(hx:items[i]?=some x)
  (hQ:∀h',h'.IsTupleIter it t (i+1)->Heap.SameBut it s.heap h'->Q x { s with heap:=h' }):wpAny (model prog w) A (Builtin.SmallTypes.nextOf (.ref it)) Q E s:=by
 obtain⟨o,eo,co,fo⟩:=id hit
 obtain⟨p,ep,_,np,dp⟩:=ht
 unfold Builtin.SmallTypes.nextOf
 refine ac (bX (name:=Str.ofString "__next__") hit.typeIs g9 (b9 g9 hit.typeIs mx ?_ (mf _)))
 show wpAny _ _ (field (.ref it) 0 >>= _) _ _ _
 refine ac (cp eo fo (x:=.ref t) rfl ?_)
 show wpAny _ _ (if (Value.ref t == Value.none)=true then _ else _) _ _ _
 rw[a9 (λz:(Value.ref t == Value.none)=true=>be z)]
 show wpAny _ _ (field (.ref it) 1 >>= _) _ _ _
 refine ac (cp eo fo (x:=.int i 0) rfl ?_)
 show wpAny _ _ (seqItems? (.ref t) >>= _) _ _ _
 refine ac (eI ep dp ?_);simp only[ft,hx]
 refine ac (gL eo fo (by simp) (al ⟨x,rfl,al (hQ _ ⟨_,cw _ eo (ja (fi fo _)),(nB ..).trans co,?_⟩ (cf ..))⟩))
 rw[fi fo]
 simp[rawInt]
theorem F_ {it t:Addr}{i:Nat}{items:qB}{Q:fN}(hh:A.handled=none)(hit:s.heap.IsTupleIter it t i)(ht:s.heap.IsTuple t items)(hx:items[i]?=none)
  (hE:∀h' e,Heap.ExtBut it s.heap h'->(∃o,h'.get? e=some o/\o.cls=.type "StopIteration")->E (.ref e) { s with heap:=h' }):wpAny (model prog w) A (Builtin.SmallTypes.nextOf (.ref it)) Q E s:=by
 obtain⟨o,eo,co,fo⟩:=id hit
 obtain⟨p,ep,_,np,dp⟩:=ht
 unfold Builtin.SmallTypes.nextOf
 refine ac (bX (name:=Str.ofString "__next__") hit.typeIs g9 (b9 g9 hit.typeIs mx ?_ (mf _)))
 show wpAny _ _ (field (.ref it) 0 >>= _) _ _ _
 refine ac (cp eo fo (x:=.ref t) rfl ?_)
 show wpAny _ _ (if (Value.ref t == Value.none)=true then _ else _) _ _ _
 rw[a9 (λz:(Value.ref t == Value.none)=true=>be z)]
 show wpAny _ _ (field (.ref it) 1 >>= _) _ _ _
 refine ac (cp eo fo (x:=.int i 0) rfl ?_)
 show wpAny _ _ (seqItems? (.ref t) >>= _) _ _ _
 refine ac (eI ep dp ?_);simp only[ft,hx]
 refine ac (li (ac (gL eo fo (by simp) ?_)))
 show wpAny _ _ (newExc (.type "StopIteration") [] >>= _) _ _ _
 refine ac ?_;simp only[newExc,newTuple]
 refine ac (c5 (ac (m:=firstArgMember _ _) (ij (a:=Value.none) (by first | rfl | (simp only[firstArgMember];rfl)) (c5 ?_ (by size_fits)))) (by size_fits))
 simp only[raiseNew]
 refine ac (nI ?_);rw[hh]
 refine ac (al (pd ?_))
 exact hE _ _ (((cf ..).extBut.push _).push _) ⟨_,am _ rfl,rfl⟩
theorem Qq (hh:A.handled=none)(it t:Addr)(hne:t≠it)(items:qB):Draws prog w A it [it,t] items.size (λi v=>items[i]?=some v) (λi h=>h.IsTupleIter it t i/\h.IsTuple t items) where
 live:=λi h st=>let ⟨o,e,_⟩:=st.1;⟨o,e⟩
 frame:=λi h h' st k=>⟨st.1.at λo e=>k it (by simp) o e,let ⟨o,e,c⟩:=st.2;⟨o,k t (by simp) o e,c⟩⟩
 item:=λi s Q E hi st hQ=>nextT st.1 st.2 (ck hi) λh' a b=>hQ _ h' s.toks (ck hi) ⟨a,let ⟨o,e,c⟩:=st.2;⟨o,(b.2 t hne).trans e,c⟩⟩ b
 done:=λs Q E st hE=>F_ hh st.1 st.2 (gv (aS _)) hE
structure ZA (z TI TO i1 i2:Addr)(fp1 fp2:qA):Prop where
 TIz:TI≠z
 TOz:TO≠z
 TIO:TI≠TO
 m1:i1∈fp1
 m2:i2∈fp2
 z1:z∉fp1
 z2:z∉fp2
 o1:TO∉fp1
 o2:TO∉fp2
 x12:i1∉fp2
 x21:i2∉fp1
variable {z TI TO i1 i2:Addr}{fp1 fp2:qA}{n1 n2:Nat}{P1 P2:Nat->Value->Prop}{St1 St2:Nat->Heap->Prop}
theorem ZA.i1z (D:ZA z TI TO i1 i2 fp1 fp2):i1≠z:=λe=>D.z1 (e▸D.m1)
theorem ZA.i2z (D:ZA z TI TO i1 i2 fp1 fp2):i2≠z:=λe=>D.z2 (e▸D.m2)
theorem ZA.i1o (D:ZA z TI TO i1 i2 fp1 fp2):i1≠TO:=λe=>D.o1 (e▸D.m1)
theorem ZA.i2o (D:ZA z TI TO i1 i2 fp1 fp2):i2≠TO:=λe=>D.o2 (e▸D.m2)
theorem fM {b:Addr}{h h':Heap}{fp:qA}(hs:Heap.SameBut b h h')(hb:b∉fp):∀c∈fp,∀o,h.get? c=some o->h'.get? c=some o:=λc hc o e=>(hs.2 c (λq=>hb (q▸hc))).trans e
theorem wO {k:Nat}{a b:Value}{Q:fN}(D:ZA z TI TO i1 i2 fp1 fp2)(D1:Draws prog w A i1 fp1 n1 P1 St1)(D2:Draws prog w A i2 fp2 n2 P2 St2)(hz:IsZip s.heap z TI TO .none)(hTI:IsPair s.heap TI (.ref i1) (.ref i2))(hTO:IsPair s.heap TO a b)
  (t1:St1 k s.heap) (t2:St2 k s.heap) (k1:k < n1) (k2:k < n2)
  (hQ:∀h' tk x y,P1 k x->P2 k y->IsZip h' z TI TO (rawInt s.heap.objs.size)->IsPair h' TO x y->St1 (k+1) h'->St2 (k+1) h'->IsPair h' s.heap.objs.size x y->h'.objs.size=s.heap.objs.size+1->
   (∀c o,c≠z->c≠TO->c≠i1->c≠i2->s.heap.get? c=some o->h'.get? c=some o)->Q (.ref s.heap.objs.size) { s with heap:=h',toks:=tk }):
  wpAny (model prog w) A (Builtin.«zip.__next__» ⟨[.ref z],[]⟩) (λfin s'=>∃v,fin=.done (.ret v)/\Q v s') E s:=by
 show wpAny _ _ (field (.ref z) 2 >>= _) _ _ _
 refine ac (cp hz rfl (x:=.bool false) rfl ?_)
 show wpAny _ _ (field (.ref z) 3 >>= _) _ _ _
 refine ac (cp hz rfl (x:=.ref TI) rfl (ac (eI hTI rfl ?_)))
 show wpAny _ _ (Builtin.SmallTypes.ownedTupleIsFree (.ref z) >>= _) _ _ _
 refine ac ?_;unfold Builtin.SmallTypes.ownedTupleIsFree
 refine ac (cp hz rfl (x:=.none) rfl (al ?_));simp only[gx]
 refine ac (li (ac (cp hz rfl (x:=.ref TO) rfl (ac (c6 hz (by simp) λg1 z1 s1=>?_)))))
 replace z1:IsZip g1 z TI TO .ellipsis:=z1
 refine ac ?_;simp only[ol,List.zipIdx_nil,i8,kK]
 refine ac (ac (nS ?_))
 show wpAny _ _ (Builtin.SmallTypes.nextOf (.ref i1) >>= _) _ _ _
 refine ac (D1.item k _ _ _ k1 (D1.frame k _ _ t1 (fM s1 D.z1)) λx g2 tk2 px u2 s2=>al ?_)
 have o2:IsPair g2 TO a b:=s2.extBut _ _ D.i1o.symm (s1.extBut _ _ D.TOz hTO)
 refine ac (eI o2 rfl (ac (l4 o2 λg3 o3 s3=>ac (lP (al ?_)))))
 replace o3:IsPair g3 TO x b:=o3
 refine ac (ac (nS ?_))
 show wpAny _ _ (Builtin.SmallTypes.nextOf (.ref i2) >>= _) _ _ _
 have v3:St2 k g3:=D2.frame k _ _ (D2.frame k _ _ (D2.frame k _ _ t2 (fM s1 D.z2)) (fM s2 D.x12)) (fM s3 D.o2)
 refine ac (D2.item k _ _ _ k2 v3 λy g4 tk4 py u4 s4=>al ?_)
 have o4:IsPair g4 TO x b:=s4.extBut _ _ D.i2o.symm o3
 refine ac (eI o4 rfl (ac (l4 o4 λg5 o5 s5=>ac (lP (al (al ?_))))))
 replace o5:IsPair g5 TO x y:=o5
 refine ac (eI o5 rfl (ac (pf ?_)))
 have sz:g5.objs.size=s.heap.objs.size:=by rw[s5.1,s4.1,s3.1,s2.1,s1.1]
 have z5:IsZip g5 z TI TO .ellipsis:=s5.extBut _ _ D.TOz.symm (s4.extBut _ _ D.i2z.symm (s3.extBut _ _ D.TOz.symm (s2.extBut _ _ D.i1z.symm z1)))
 have k5:∀c o,c≠z->c≠TO->c≠i1->c≠i2->s.heap.get? c=some o->g5.get? c=some o:=λc o c1 c2 c3 c4 e=>s5.extBut _ _ c2 (s4.extBut _ _ c4 (s3.extBut _ _ c2 (s2.extBut _ _ c3 (s1.extBut _ _ c1 e))))
 have w1:St1 (k+1) g5:=D1.frame _ _ _ (D1.frame _ _ _ (D1.frame _ _ _ u2 (fM s3 D.o1)) (fM s4 D.x21)) (fM s5 D.o1)
 have w2:St2 (k+1) g5:=D2.frame _ _ _ u4 (fM s5 D.o2)
 have lz:z < g5.objs.size:=ay z5
 show wpAny _ _ (Builtin.SmallTypes.ownedTupleHandOut (.ref z) (.ref g5.objs.size) >>= _) _ _ _
 refine ac ?_;unfold Builtin.SmallTypes.ownedTupleHandOut
 have z6:IsZip (g5.push { cls:=.type "tuple",data:=.seq #[x,y] }) z TI TO .ellipsis:=ae _ z5
 refine ac (c6 z6 (by simp) λg7 z7 s7=>?_)
 replace z7:IsZip g7 z TI TO (rawInt g5.objs.size):=z7
 refine c6 z7 (by simp) λg8 z8 s8=>?_
 replace z8:IsZip g8 z TI TO (rawInt g5.objs.size):=z8
 have up:∀c o,c≠z->g5.get? c=some o->g8.get? c=some o:=λc o c1 e=>s8.extBut _ _ c1 (s7.extBut _ _ c1 (ae _ e))
 have p8:IsPair g8 g5.objs.size x y:=s8.extBut _ _ (i0 lz) (s7.extBut _ _ (i0 lz) (am _ rfl))
 have y8:g8.objs.size=g5.objs.size+1:=by rw[s8.1,s7.1,cq]
 have fr:∀{fp:qA},z∉fp->∀c∈fp,∀o,g5.get? c=some o->g8.get? c=some o:=λhz' c hc o e=>up c o (λq=>hz' (q▸hc)) e
 rw[sz] at z8 p8 y8
 refine al ⟨_,rfl,?_⟩
 show Q (.ref g5.objs.size) _
 rw[sz]
 exact hQ g8 _ x y px py z8 (up _ _ D.TOz o5) (D1.frame _ _ _ w1 (fr D.z1)) (D2.frame _ _ _ w2 (fr D.z2)) p8 y8 λc o c1 c2 c3 c4 e=>up c o c1 (k5 c o c1 c2 c3 c4 e)
theorem yO {k:Nat}{a b:Value}{Q:Fin->Shared->Prop}(D:ZA z TI TO i1 i2 fp1 fp2)(D1:Draws prog w A i1 fp1 n1 P1 St1)(D2:Draws prog w A i2 fp2 n2 P2 St2)(hz:IsZip s.heap z TI TO .none)(hTI:IsPair s.heap TI (.ref i1) (.ref i2))(hTO:IsPair s.heap TO a b)
  (t1:St1 k s.heap) (t2:St2 k s.heap) (hk:k=n1\/(k < n1/\k=n2))
  (hE:∀h' tk e,(∀c o,c≠z->c≠TO->c≠i1->c≠i2->s.heap.get? c=some o->h'.get? c=some o)->(∃o,h'.get? e=some o/\o.cls=.type "StopIteration")->E (.ref e) { s with heap:=h',toks:=tk }):
  wpAny (model prog w) A (Builtin.«zip.__next__» ⟨[.ref z],[]⟩) Q E s:=by
 show wpAny _ _ (field (.ref z) 2 >>= _) _ _ _
 refine ac (cp hz rfl (x:=.bool false) rfl ?_)
 show wpAny _ _ (field (.ref z) 3 >>= _) _ _ _
 refine ac (cp hz rfl (x:=.ref TI) rfl (ac (eI hTI rfl ?_)))
 show wpAny _ _ (Builtin.SmallTypes.ownedTupleIsFree (.ref z) >>= _) _ _ _
 refine ac ?_;unfold Builtin.SmallTypes.ownedTupleIsFree
 refine ac (cp hz rfl (x:=.none) rfl (al ?_));simp only[gx]
 refine ac (li (ac (cp hz rfl (x:=.ref TO) rfl (ac (c6 hz (by simp) λg1 z1 s1=>?_)))))
 replace z1:IsZip g1 z TI TO .ellipsis:=z1
 refine ac ?_;simp only[ol,List.zipIdx_nil,i8,kK]
 refine ac (ac (nS ?_))
 show wpAny _ _ (Builtin.SmallTypes.nextOf (.ref i1) >>= _) _ _ _
 have v1:St1 k g1:=D1.frame k _ _ t1 (fM s1 D.z1)
 rcases hk with rfl | ⟨hk1,rfl⟩
 ·refine ac (D1.done _ _ _ v1 λg2 e s2 he=>?_)
  obtain⟨oe,hoe,hce⟩:=he
  have z2:IsZip g2 z TI TO .ellipsis:=s2 _ _ D.i1z.symm z1
  have hez:e≠z:=λq=>by subst q;rw[z2] at hoe;cases hoe;simp at hce
  exact c6 z2 (by simp) λg3 _ s3=>hE g3 _ e (λc o c1 _ c3 _ q=>s3.extBut _ _ c1 (s2 _ _ c3 (s1.extBut _ _ c1 q))) ⟨oe,s3.extBut _ _ hez hoe,hce⟩
 ·refine ac (D1.item k _ _ _ hk1 v1 λx g2 tk2 px u2 s2=>al ?_)
  have o2:IsPair g2 TO a b:=s2.extBut _ _ D.i1o.symm (s1.extBut _ _ D.TOz hTO)
  refine ac (eI o2 rfl (ac (l4 o2 λg3 o3 s3=>ac (lP (al ?_)))))
  refine ac (ac (nS ?_))
  show wpAny _ _ (Builtin.SmallTypes.nextOf (.ref i2) >>= _) _ _ _
  have v3:St2 k g3:=D2.frame k _ _ (D2.frame k _ _ (D2.frame k _ _ t2 (fM s1 D.z2)) (fM s2 D.x12)) (fM s3 D.o2)
  refine ac (D2.done _ _ _ v3 λg4 e s4 he=>?_)
  obtain⟨oe,hoe,hce⟩:=he
  have z4:IsZip g4 z TI TO .ellipsis:=s4 _ _ D.i2z.symm (s3.extBut _ _ D.TOz.symm (s2.extBut _ _ D.i1z.symm z1))
  have hez:e≠z:=λq=>by subst q;rw[z4] at hoe;cases hoe;simp at hce
  exact c6 z4 (by simp) λg5 _ s5=>hE g5 _ e (λc o c1 c2 c3 c4 q=>s5.extBut _ _ c1 (s4 _ _ c4 (s3.extBut _ _ c2 (s2.extBut _ _ c3 (s1.extBut _ _ c1 q))))) ⟨oe,s5.extBut _ _ hez hoe,hce⟩
end
inductive SK where | L | T
def SK.ty:SK->String
 | .L => "list_iterator"
 | .T => "tuple_iterator"
def SK.is (k:SK)(h:Heap)(a:Addr)(items:qB):Prop:=match k with
 | .L=>h.IsList a items
 | .T=>h.IsTuple a items
def SK.at (k:SK)(h:Heap)(it a:Addr)(i:Nat):Prop:=match k with
 | .L=>h.IsListIter it a i
 | .T=>h.IsTupleIter it a i
theorem SK.at_of {k:SK}{h:Heap}{it a:Addr}(e:h.get? it=some { cls:=.type k.ty,data:=.fields #[.ref a,.int 0 0] }):k.at h it a 0:=by
 cases k with
 | L=>exact⟨_,e,rfl,rfl⟩
 | T=>exact⟨_,e,rfl,rfl⟩
theorem SK.at_obj {k:SK}{h:Heap}{it a:Addr}{i:Nat}(st:k.at h it a i):∃o,h.get? it=some o/\∀v,o.data≠.cell v:=by
 cases k with
 | L=>obtain⟨o,e,c,d⟩:=st;exact⟨o,e,λv y=>by rw[d] at y;cases y⟩
 | T=>obtain⟨o,e,c,d⟩:=st;exact⟨o,e,λv y=>by rw[d] at y;cases y⟩
theorem SK.at_keep {k:SK}{h h':Heap}{it a:Addr}{i:Nat}(st:k.at h it a i)(q:∀o,h.get? it=some o->h'.get? it=some o):k.at h' it a i:=by
 cases k with
 | L=>exact Heap.IsListIter.at st q
 | T=>exact Heap.IsTupleIter.at st q
theorem SK.is_lt {k:SK}{h:Heap}{a:Addr}{items:qB}(p:k.is h a items):a < h.objs.size:=by
 cases k with
 | L=>obtain⟨o,e,_⟩:=p;exact ay e
 | T=>obtain⟨o,e,_⟩:=p;exact ay e
theorem SK.draws {prog:Program}{w:World}{A:Around}(k:SK)(hh:A.handled=none)(it a:Addr)(hne:a≠it)(items:qB):Draws prog w A it [it,a] items.size (λi v=>items[i]?=some v) (λi h=>k.at h it a i/\k.is h a items):=by
 cases k with
 | L=>exact Draws.list hh it a hne items
 | T=>exact Qq hh it a hne items
noncomputable def zh1 (k1:SK)(h:Heap)(l1:Addr):Heap:=h.push { cls:=.type k1.ty,data:=.fields #[.ref l1,.int 0 0] }
def zh2 (k1 k2:SK)(h:Heap)(l1 l2:Addr):Heap:=(zh1 k1 h l1).push { cls:=.type k2.ty,data:=.fields #[.ref l2,.int 0 0] }
noncomputable def zh3 (k1 k2:SK)(h:Heap)(l1 l2:Addr):Heap:=(zh2 k1 k2 h l1 l2).push { cls:=.type "tuple",data:=.seq #[.ref h.objs.size,.ref (zh1 k1 h l1).objs.size] }
noncomputable def zh4 (k1 k2:SK)(h:Heap)(l1 l2:Addr):Heap:=(zh3 k1 k2 h l1 l2).push { cls:=.type "tuple",data:=.seq #[.none,.none] }
noncomputable def zh5 (k1 k2:SK)(h:Heap)(l1 l2:Addr):Heap:=(zh4 k1 k2 h l1 l2).push { cls:=.type "zip",data:=.fields #[.none,.bool false,.bool false,.ref (zh2 k1 k2 h l1 l2).objs.size,.ref (zh3 k1 k2 h l1 l2).objs.size] }
theorem Qs (k1 k2:SK)(l1 l2:Addr)(xs ys:qB):Meets (Builtin.«zip.__new__» ⟨[.type "zip",.ref l1,.ref l2],[]⟩) (λ_ R s=>k1.is s.heap l1 xs/\k2.is s.heap l2 ys /\
   R (.ok (.ret (.ref (zh4 k1 k2 s.heap l1 l2).objs.size))) { s with heap:=zh5 k1 k2 s.heap l1 l2 }):=
 .of_wp λprog w A R s h=>by
  obtain⟨hp,g,d,tk,os⟩:=s
  obtain⟨q1,q2,h⟩:=h
  have hsub:=sub_zip
  cases k1 with
  | L=>
   have e1:Heap.IsList (Shared.heap ⟨hp,g,d,tk,os⟩) l1 xs:=q1
   cases k2 with
   | L=>
    have e2:Heap.IsList (Shared.heap ⟨hp.push { cls:=.type "list_iterator",data:=.fields #[.ref l1,.int 0 0] },g,d,tk,os⟩) l2 ys:=om q2 _
    wp_walk using eD e1,eD e2
    exact⟨_,rfl,h⟩
   | T=>
    have e2:Heap.IsTuple (Shared.heap ⟨hp.push { cls:=.type "list_iterator",data:=.fields #[.ref l1,.int 0 0] },g,d,tk,os⟩) l2 ys:=let ⟨o,e,c⟩:=q2;⟨o,ae _ e,c⟩
    wp_walk using eD e1,eJ e2
    exact⟨_,rfl,h⟩
  | T=>
   have e1:Heap.IsTuple (Shared.heap ⟨hp,g,d,tk,os⟩) l1 xs:=q1
   cases k2 with
   | L=>
    have e2:Heap.IsList (Shared.heap ⟨hp.push { cls:=.type "tuple_iterator",data:=.fields #[.ref l1,.int 0 0] },g,d,tk,os⟩) l2 ys:=om q2 _
    wp_walk using eJ e1,eD e2
    exact⟨_,rfl,h⟩
   | T=>
    have e2:Heap.IsTuple (Shared.heap ⟨hp.push { cls:=.type "tuple_iterator",data:=.fields #[.ref l1,.int 0 0] },g,d,tk,os⟩) l2 ys:=let ⟨o,e,c⟩:=q2;⟨o,ae _ e,c⟩
    wp_walk using eJ e1,eJ e2
    exact⟨_,rfl,h⟩
section
variable {prog:Program}{w:World}{A:Around}{E:fN}{s:Shared}
theorem Ga {k1 k2:SK}{l1 l2:Addr}{xs ys:qB}{Q:fN}(q1:k1.is s.heap l1 xs)(q2:k2.is s.heap l2 ys)
  (h:∀h',IsZip h' (s.heap.objs.size+4) (s.heap.objs.size+2) (s.heap.objs.size+3) .none->IsPair h' (s.heap.objs.size+2) (.ref s.heap.objs.size) (.ref (s.heap.objs.size+1))->
   IsPair h' (s.heap.objs.size+3) .none .none->k1.at h' s.heap.objs.size l1 0->k2.at h' (s.heap.objs.size+1) l2 0->h'.objs.size=s.heap.objs.size+5->
   (∀c o,s.heap.get? c=some o->h'.get? c=some o)->Q (.ref (s.heap.objs.size+4)) { s with heap:=h' }):
  wpAny (model prog w) A (call (.type "zip") [.ref l1,.ref l2]) Q E s:=by
 refine ox F.called_zip (by decide) (F.typeCall_zip_2 _ _) (F.newCall_zip_2 _ _) (λobj=>F.args_object_init_3 obj _ _) F.entry_zip_new (Qs k1 k2 l1 l2 xs ys) ⟨q1,q2,?_⟩
 have a1:(zh1 k1 s.heap l1).objs.size=s.heap.objs.size+1:=cq ..
 have a2:(zh2 k1 k2 s.heap l1 l2).objs.size=s.heap.objs.size+2:=(cq ..).trans (by rw[a1])
 have a3:(zh3 k1 k2 s.heap l1 l2).objs.size=s.heap.objs.size+3:=(cq ..).trans (by rw[a2])
 have a4:(zh4 k1 k2 s.heap l1 l2).objs.size=s.heap.objs.size+4:=(cq ..).trans (by rw[a3])
 have a5:(zh5 k1 k2 s.heap l1 l2).objs.size=s.heap.objs.size+5:=(cq ..).trans (by rw[a4])
 have b5:(zh5 k1 k2 s.heap l1 l2).get? (zh4 k1 k2 s.heap l1 l2).objs.size=some { cls:=.type "zip",data:=.fields #[.none,.bool false,.bool false,.ref (zh2 k1 k2 s.heap l1 l2).objs.size,.ref (zh3 k1 k2 s.heap l1 l2).objs.size] }:=am _ rfl
 have b4:(zh5 k1 k2 s.heap l1 l2).get? (zh3 k1 k2 s.heap l1 l2).objs.size=some { cls:=.type "tuple",data:=.seq #[.none,.none] }:=ae _ (am _ rfl)
 have b3:(zh5 k1 k2 s.heap l1 l2).get? (zh2 k1 k2 s.heap l1 l2).objs.size=some { cls:=.type "tuple",data:=.seq #[.ref s.heap.objs.size,.ref (zh1 k1 s.heap l1).objs.size] }:=ae _ (ae _ (am _ rfl))
 have b2:(zh5 k1 k2 s.heap l1 l2).get? (zh1 k1 s.heap l1).objs.size=some { cls:=.type k2.ty,data:=.fields #[.ref l2,.int 0 0] }:=ae _ (ae _ (ae _ (am _ rfl)))
 have b1:(zh5 k1 k2 s.heap l1 l2).get? s.heap.objs.size=some { cls:=.type k1.ty,data:=.fields #[.ref l1,.int 0 0] }:=ae _ (ae _ (ae _ (ae _ (am _ rfl))))
 rw[a2,a3,a4] at b5
 rw[a3] at b4
 rw[a1,a2] at b3
 rw[a1] at b2
 show _/\_
 rw[a4]
 exact⟨⟨_,b5,rfl⟩,h _ b5 b3 b4 (SK.at_of b1) (SK.at_of b2) a5 λc o x=>ae _ (ae _ (ae _ (ae _ (ae _ x))))⟩
end
def SK.sq (k:SK)(K:W.Frag)(H:Hp)(a:Addr)(xs:List V):Prop:=match k with
 | .L=>SqL K H a xs
 | .T=>SqT K H a xs
section
variable {X:Cx}{pins:gV}{σ:St}{H:Hp}{s:Shared}
theorem Inv.sk (I:Inv X pins σ H s){k:SK}{a:Addr}{xs:List V}(h:k.sq X.K H a xs):∃its:List Value,Vals xs its/\k.is s.heap a its.toArray:=by
 cases k with
 | L=>obtain⟨its,r,p,_⟩:=I.list h;exact⟨its,r,p.isList⟩
 | T=>obtain⟨its,r,p,_⟩:=I.tuple h;exact⟨its,r,p⟩
theorem Inv.sk_inj (I:Inv X pins σ H s){k:SK}{a:Addr}{xs ys:List V}(h:k.sq X.K H a xs)(h':k.sq X.K H a ys):xs=ys:=by
 cases k with
 | L=>exact I.list_inj h h'
 | T=>exact I.tuple_inj h h'
end
def Itk (K:W.Frag)(k1 k2:SK)(a b:Addr):It:=
  ⟨λi H=>∃xs x ys y,k1.sq K H a xs/\xs[i]?=some x/\k2.sq K H b ys/\ys[i]?=some y,
   λi H v H'=>∃t x y,H t=none/\v=.ref t/\H'=upd H t (.tup [x,y])/\(∀xs,k1.sq K H a xs->xs[i]?=some x)/\∀ys,k2.sq K H b ys->ys[i]?=some y,
   λi H=>∃xs ys,k1.sq K H a xs/\k2.sq K H b ys/\(xs.length=i\/(i < xs.length/\ys.length=i))⟩
def ZAt (k1 k2:SK)(z TI TO i1 i2 l1 l2:Addr)(i:Nat)(h:Heap):Prop:=IsZip h z TI TO .none/\IsPair h TI (.ref i1) (.ref i2)/\(∃a b,IsPair h TO a b)/\k1.at h i1 l1 i/\k2.at h i2 l2 i
theorem J6 {z TI TO i1 i2 l1 l2:Addr}(D:ZipApart z TI TO i1 i2 l1 l2):ZA z TI TO i1 i2 [i1,l1] [i2,l2] where
 TIz:=D.TIz
 TOz:=D.TOz
 TIO:=D.TITO
 m1:=by simp
 m2:=by simp
 z1:=by simp[D.i1z.symm,D.l1z.symm]
 z2:=by simp[D.i2z.symm,D.l2z.symm]
 o1:=by simp[D.TOi1,D.l1TO.symm]
 o2:=by simp[D.TOi2,D.l2TO.symm]
 x12:=by simp[D.i12,D.l2i1.symm]
 x21:=by simp[D.i12.symm,D.l1i2.symm]
theorem wQ {P:Program}{w:World}{K:W.Frag}{es:qo}{x1:Nat}{tpos:Pos}{k1 k2:SK}{z TI TO i1 i2 l1 l2:Addr}(D:ZipApart z TI TO i1 i2 l1 l2):Turn P w K (.Tuple es x1 tpos) (Itk K k1 k2 l1 l2) [z,TI,TO,i1,i2] z (ZAt k1 k2 z TI TO i1 i2 l1 l2) where
 mem:=by simp
 obj:=λi h st b hb=>by
  obtain⟨hz,hTI,⟨a,c,hTO⟩,s1,s2⟩:=st
  simp only[aw,br,eC] at hb
  rcases hb with rfl | rfl | rfl | rfl | rfl
  ·exact⟨_,hz,λv y=>by have y':Data.fields _=Data.cell v:=y;cases y'⟩
  ·exact⟨_,hTI,λv y=>by have y':Data.seq _ _=Data.cell v:=y;cases y'⟩
  ·exact⟨_,hTO,λv y=>by have y':Data.seq _ _=Data.cell v:=y;cases y'⟩
  ·exact(SK.at_obj s1)
  ·exact(SK.at_obj s2)
 keep:=λi h h' st k=>by
  obtain⟨hz,hTI,⟨a,c,hTO⟩,s1,s2⟩:=st
  exact⟨k z (by simp) _ hz,k TI (by simp) _ hTI,⟨a,c,k TO (by simp) _ hTO⟩,SK.at_keep s1 λo q=>k i1 (by simp) o q,SK.at_keep s2 λo q=>k i2 (by simp) o q⟩
 item:=by
  intro X hP hw hK hc i pins s σ H E I hf st hg
  subst hP hw hK
  obtain⟨xs,x,ys,y,hq1,hx,hq2,hy⟩:=hg
  obtain⟨hz,hTI,⟨a,b,hTO⟩,s1,s2⟩:=st
  obtain⟨its1,rv1,p1⟩:=I.sk hq1
  obtain⟨its2,rv2,p2⟩:=I.sk hq2
  obtain⟨u,hu,ru⟩:=rv1.get hx
  obtain⟨v,hv,rv⟩:=rv2.get hy
  have hh:=I.ok.hd hc
  have hT:s.TypeIs (.ref z) "zip" := ⟨_,hz,rfl⟩
  have hi1:i < its1.toArray.size:=by
   rcases dc i its1.length with q | q
   ·simpa using q
   ·rw[bo q] at hu;cases hu
  have hi2:i < its2.toArray.size:=by
   rcases dc i its2.length with q | q
   ·simpa using q
   ·rw[bo q] at hv;cases hv
  unfold pyNext
  refine ac (eR (bX (name:=Str.ofString "__next__") hT ei (b9 ei hT iO
   (wO (J6 D) (SK.draws (prog:=X.prog) (w:=X.w) (A:=X.A.in1) k1 hh i1 l1 D.l1i1 its1.toArray) (SK.draws (prog:=X.prog) (w:=X.w) (A:=X.A.in1) k2 hh i2 l2 D.l2i2 its2.toArray) hz hTI hTO ⟨s1,p1⟩ ⟨s2,p2⟩ hi1 hi2 λh' tk x' y' ex ey z1 t1 j1 j2 tp hsz hk=>al ⟨_,rfl,?_⟩) (im _))))
  have eu:x'=u:=bg (by rw[← ex,← hu];simp)
  have ev:y'=v:=bg (by rw[← ey,← hv];simp)
  subst eu ev
  refine nv (s:={ s with heap:=h',toks:=tk }) z1 λh2 z2 sb=>?_
  have lz:z < s.heap.objs.size:=ay hz
  have g2:h2.get? s.heap.objs.size=some { cls:=.type "tuple",data:=.seq #[x',y'] }:=(sb.2 _ (i0 lz)).trans tp
  have kp:∀c o,c∉[z,TO,i1,i2]->s.heap.get? c=some o->h2.get? c=some o:=λc o hb q=>by
   simp only[aw,br,eC,nK] at hb
   exact(sb.2 c hb.1).trans (hk c o hb.1 hb.2.1 hb.2.2.1 hb.2.2.2 q)
  have gTO:IsPair h2 TO x' y':=(sb.2 _ D.TOz).trans t1
  have g1:k1.at h2 i1 l1 (i+1):=SK.at_keep j1.1 λo e=>(sb.2 i1 D.i1z).trans e
  have g2':k2.at h2 i2 l2 (i+1):=SK.at_keep j2.1 λo e=>(sb.2 i2 D.i2z).trans e
  have ht2:∀c o,s.heap.get? c=some o->∃o',h2.get? c=some o':=λc o q=>by
   by_cases n1:c=z
   ·subst n1;exact⟨_,z2⟩
   ·by_cases n2:c=TO
    ·subst n2;exact⟨_,gTO⟩
    ·by_cases n3:c=i1
     ·subst n3;obtain⟨o',e',_⟩:=(SK.at_obj g1);exact⟨o',e'⟩
     ·by_cases n4:c=i2
      ·subst n4;obtain⟨o',e',_⟩:=(SK.at_obj g2');exact⟨o',e'⟩
      ·exact⟨o,kp c o (by simp[n1,n2,n3,n4]) q⟩
  have I2:Inv X pins σ (upd H s.heap.objs.size (.tup [x,y])) { s with heap:=h2,toks:=tk }:=
   I.turnedL (ch:=[z,TO,i1,i2]) kp ht2 (λb hb=>hf b (by simp only[aw,br,eC] at hb ⊢;rcases hb with e | e | e | e <;> simp[e])) (aS _)
    ⟨by show 2<=sizeLine;decide,[x',y'],.cons ru (.cons rv .nil),⟨_,g2,rfl,_,rfl⟩⟩
  refine⟨.ref s.heap.objs.size,_,I2,rfl,⟨s.heap.objs.size,x,y,I.fresh,rfl,rfl,λzs hy=>by rw[I.sk_inj hy hq1];exact hx,λzs hy'=>by rw[I.sk_inj hy' hq2];exact hy⟩,⟨z2,?_,⟨x',y',gTO⟩,g1,g2'⟩,λb hb=>?_⟩
  ·exact kp TI _ (by simp[D.TIz,D.TITO,D.TIi1,D.TIi2]) hTI
  ·have hb0:=(hf b hb).1
   rw[aP ?_]
   ·exact hb0
   ·have hlt:b < s.heap.objs.size:=by
     simp only[aw,br,eC] at hb
     rcases hb with rfl | rfl | rfl | rfl | rfl
     ·exact lz
     ·exact ay hTI
     ·exact ay hTO
     ·obtain⟨o,e1,_⟩:=(SK.at_obj s1);exact ay e1
     ·obtain⟨o,e1,_⟩:=(SK.at_obj s2);exact ay e1
    exact cb hlt
 done:=by
  intro X hP hw hK hc i pins s σ H E I hf st hg
  subst hP hw hK
  obtain⟨xs,ys,hq1,hq2,hl⟩:=hg
  obtain⟨hz,hTI,⟨a,b,hTO⟩,s1,s2⟩:=st
  obtain⟨its1,rv1,p1⟩:=I.sk hq1
  obtain⟨its2,rv2,p2⟩:=I.sk hq2
  have l1':=rv1.length
  have l2':=rv2.length
  have hh:=I.ok.hd hc
  have hT:s.TypeIs (.ref z) "zip" := ⟨_,hz,rfl⟩
  have hk:i=its1.toArray.size\/(i < its1.toArray.size/\i=its2.toArray.size):=by
   rw[aT,aT]
   omega
  unfold pyNext
  refine ac (eR (bX (name:=Str.ofString "__next__") hT ei (b9 ei hT iO
   (yO (J6 D) (SK.draws (prog:=X.prog) (w:=X.w) (A:=X.A.in1) k1 hh i1 l1 D.l1i1 its1.toArray) (SK.draws (prog:=X.prog) (w:=X.w) (A:=X.A.in1) k2 hh i2 l2 D.l2i2 its2.toArray) hz hTI hTO ⟨s1,p1⟩ ⟨s2,p2⟩ hk λh' tk e kp he=>?_) (im _))))
  obtain⟨o,ho,ho'⟩:=he
  refine ac (fR (T := "StopIteration") (b:=true) ⟨o,ho,ho'⟩ ke (al ⟨rfl,?_⟩))
  refine I.turnedM (ch:=[z,TO,i1,i2]) (λc o hb q=>?_) (λb hb=>hf b (by simp only[aw,br,eC] at hb ⊢;rcases hb with e | e | e | e <;> simp[e]))
  simp only[aw,br,eC,nK] at hb
  exact kp c o hb.1 hb.2.1 hb.2.2.1 hb.2.2.2 q
 self:=λA i s Q E st h=>nX st.1 h
section
variable {X:Cx}
def Tj (K:W.Frag)(k1 k2:SK)(ta:TA):TI:=fun σ H R=>ta σ H λvs H1=>∃a b,vs=[.ref a,.ref b]/\(∃xs,k1.sq K H1 a xs)/\(∃ys,k2.sq K H1 b ys)/\R (Itk K k1 k2 a b) H1
theorem Lj {k1 k2:SK}{l r:Expr}{ta:TA}{es:qo}{x1:Nat}{tpos p pos:Pos}(hg:Gl X "zip")(hm:X.mg "zip" = none)(ha:PA X [l,r] ta)(hs:starEach [l,r] X.env=(false,eval l X.env)::starEach [r] X.env:=by rfl)(hp:(backTo pos (starEach [r] X.env)).any (·.1)=false:=by rfl):
  PI X (.Tuple es x1 tpos) (.Call (.Name "zip" p) [l,r] [] pos) (Tj X.K k1 k2 ta):=by
 intro pins s σ H R I h
 refine Call_ (d9 I hg hm oQ (bt (thn (ha pos pins s σ H _ I h) ?_) hs hp))
 rintro us s1 ⟨vs,H1,I1,r1,q1⟩
 obtain⟨a,b,e,⟨xs,hq1⟩,⟨ys,hq2⟩,q⟩:=q1
 subst e
 obtain⟨u,v,rfl,ru,rv⟩:=vals2 r1
 cases ru
 cases rv
 obtain⟨its1,rv1,p1⟩:=I1.sk hq1
 obtain⟨its2,rv2,p2⟩:=I1.sk hq2
 refine Ga p1 p2 λh' hz hTI hTO hi1 hi2 hsz hk=>?_
 have I2:Inv X pins σ H1 { s1 with heap:=h' }:=I1.kept (t':=s1.toks) hk
 have D:=zipApart_new (SK.is_lt p1) (SK.is_lt p2)
 have st:ZAt k1 k2 (s1.heap.objs.size+4) (s1.heap.objs.size+2) (s1.heap.objs.size+3) s1.heap.objs.size (s1.heap.objs.size+1) a b 0 h':=⟨hz,hTI,⟨_,_,hTO⟩,hi1,hi2⟩
 refine(wQ (P:=X.prog) (w:=X.w) (K:=X.K) (es:=es) (x1:=x1) (tpos:=tpos) D).self X.A 0 { s1 with heap:=h' } _ _ st ?_
 refine⟨s1.heap.objs.size+4,_,_,_,H1,rfl,I2,wQ D,st,λc hb=>?_,q⟩
 have hb':s1.heap.objs.size<=c:=by
  simp only[aw,br,eC] at hb
  rcases hb with e | e | e | e | e <;> rw[e] <;> omega
 exact I1.fpOk hb' (I1.hok.fresh hb')
end
def rB (H:Hp)(L:List (Addr×HO)):Hp:=λa=>match L.lookup a with
 | some o=>some o
 | none=>H a
theorem sX {H:Hp}{L:List (Addr×HO)}{a:Addr}(h:L.lookup a=none):rB H L a=H a:=by unfold rB;rw[h]
theorem vQ {H:Hp}{L:List (Addr×HO)}{a:Addr}{o:HO}(h:L.lookup a=some o):rB H L a=some o:=by unfold rB;rw[h]
theorem nU {L:List (Addr×HO)}{a:Addr}(h:∀p∈L,p.1≠a):L.lookup a=none:=by
 induction L with
 | nil=>rfl
 | cons p L ih=>
  rw[cv,kw.mpr (fF (h p ai))]
  exact ih λq hq=>h q (ag _ hq)
theorem Inv.lays {X:Cx}{pins:gV}{σ:St}{H:Hp}{s:Shared}{h':Heap}{t':Nat}{L:List (Addr×HO)}(I:Inv X pins σ H s)(k:∀b u,s.heap.get? b=some u->h'.get? b=some u)(hp:∀p∈L,s.heap.objs.size<=p.1)
  (new:∀a o,L.lookup a=some o->ObjOk X.prog X.w X.K (rB H L) h' a o):Inv X pins σ (rB H L) { s with heap:=h',toks:=t' }:=by
 have hn:∀p∈L,H p.1=none:=λp q=>I.hok.fresh (hp p q)
 have old:∀b o,H b=some o->rB H L b=some o:=λb o e=>by
  rw[sX (nU λp q z=>by have:=hn p q;rw[z,e] at this;cases this)];exact e
 have there:∀b u,s.heap.get? b=some u->L.lookup b=none:=λb u e=>nU λp q z=>by
  have:=ay e
  rw[← z] at this
  exact absurd (bv this (hp p q)) (dv _)
 refine I.un ⟨λb u q _ _ _=>k b u q,λb u q _ _ _=>⟨u.slots,k b u q⟩,λb u q n _=>by rw[sX (there b u q)];exact n,λb u q _=>⟨u,k b u q⟩,λb xs q=>old b _ q,λb u xs q=>old b _ q,λb ps q=>⟨#[],by rw[old b _ q];simp⟩⟩ λb u e=>?_
 cases q:L.lookup b with
 | some o=>rw[vQ q] at e;cases e;exact new b _ q
 | none=>
  rw[sX q] at e
  exact(I.hok b u e).stay (λc v _ q=>k c v q) (λc q=>old c _ q) λc xs q=>old c _ q
inductive ZTs (H:Hp):List Addr->List V->List V->Prop
 | nil:ZTs H [] [] []
 | cons {t:Addr}{x y:V}{ts:qA}{xs ys:List V}:H t=some (.tup [x,y])->ZTs H ts xs ys->ZTs H (t::ts) (x::xs) (y::ys)
theorem Gb {H:Hp}:∀{ts:qA}{xs ys:List V},ts.length=xs.length->ys.length=xs.length->(∀(i:Nat) (t:Addr) (x y:V),ts[i]?=some t->xs[i]?=some x->ys[i]?=some y->H t=some (.tup [x,y]))->ZTs H ts xs ys
 | [],[],[],_,_,_=>.nil
 | t::ts,x::xs,y::ys,e1,e2,h=>.cons (h 0 t x y rfl rfl rfl) (Gb (p0 e1) (p0 e2) λi a b c=>h (i+1) a b c)
 | [],_::_,_,e,_,_=>nomatch e
 | _::_,[],_,e,_,_=>nomatch e
 | _,[],_::_,_,e,_=>nomatch e
 | _,_::_,[],_,e,_=>nomatch e
noncomputable def zL (ts:qA)(xs ys:List V):List (Addr×HO):=List.zipWith (λt (p:V×V)=>(t,.tup [p.1,p.2])) ts (xs.zip ys)
theorem Bq:∀{ts:qA}{xs ys:List V},ts.Nodup->∀(i:Nat) (t:Addr) (x y:V),ts[i]?=some t->xs[i]?=some x->ys[i]?=some y->(zL ts xs ys).lookup t=some (.tup [x,y])
 | [],_,_,_,i,t,x,y,h,_,_=>by simp at h
 | _::_,[],_,_,i,t,x,y,_,h,_=>by simp at h
 | _::_,_::_,[],_,i,t,x,y,_,_,h=>by simp at h
 | a::ts,b::xs,c::ys,nd,0,t,x,y,h1,h2,h3=>by
  cases h1;cases h2;cases h3
  show List.lookup a ((a,_)::zL ts xs ys)=_
  rw[cv,beq_self_eq_true]
 | a::ts,b::xs,c::ys,nd,i+1,t,x,y,h1,h2,h3=>by
  have h1:ts[i]?=some t:=h1
  have ne:t≠a:=λz=>(cm.mp nd).1 (z▸ax h1)
  show List.lookup t ((a,_)::zL ts xs ys)=_
  rw[cv,kw.mpr ne]
  exact Bq (xs:=xs) (ys:=ys) (cm.mp nd).2 i t x y h1 h2 h3
theorem yP {ts:qA}{xs ys:List V}{p:Addr×HO}(h:p∈zL ts xs ys):∃(i:Nat) (x y:V),ts[i]?=some p.1/\xs[i]?=some x/\ys[i]?=some y/\p.2=.tup [x,y]:=by
 obtain⟨i,hi⟩:=lc.mp h
 unfold zL at hi
 rw[lf] at hi
 cases q1:ts[i]? with
 | none=>rw[q1] at hi;cases hi
 | some t=>
  rw[q1] at hi
  cases q2:(xs.zip ys)[i]? with
  | none=>rw[q2] at hi;cases hi
  | some xy=>
   rw[q2] at hi
   cases hi
   rw[ny] at q2
   exact⟨i,xy.1,xy.2,q1,q2.1,q2.2,rfl⟩
theorem gU {L:List (Addr×HO)}{a:Addr}{o:HO}(h:L.lookup a=some o):(a,o)∈L:=by
 induction L with
 | nil=>cases h
 | cons p L ih=>
  rw[cv] at h
  split at h
  ·rename_i e
   cases h
   rw[ow] at e
   subst e
   exact ai
  ·exact ag _ (ih h)
theorem wR:∀ts:List Addr,Vals (ts.map V.ref) (ts.map Value.ref)
 | []=>.nil
 | _::ts=>.cons rfl (wR ts)
section
variable {X:Cx}{tg:Expr}
def Qt (K:W.Frag)(ta:TA):TE:=fun σ H Q=>ta σ H λvs H1=>∃a c xs ys,vs=[.ref a,.ref c]/\SqL K H1 a xs/\SqL K H1 c ys/\ys.length=xs.length /\
 ∀l ts H2,H1 l=none->(∀b o,H1 b=some o->H2 b=some o)->H2 l=some (.lst (ts.map V.ref))->ZTs H2 ts xs ys->Q (.ref l) H2
theorem Iv {a c:Expr}{ta:TA}{p p2 pos pos2:Pos}(hg:Gl X "list")(hm:X.mg "list" = none)(hg2:Gl X "zip")(hm2:X.mg "zip" = none)(hb:bootBuiltins "zip" = some (.type "zip"))(hc:X.calm=true)(ha:PA X [a,c] ta)(hs:starEach [a,c] X.env=(false,eval a X.env)::starEach [c] X.env:=by rfl)(hp2:(backTo pos2 (starEach [c] X.env)).any (·.1)=false:=by rfl)
  (hs2:starEach [.Call (.Name "zip" p2) [a,c] [] pos2] X.env=(false,eval (.Call (.Name "zip" p2) [a,c] [] pos2) X.env)::starEach [] X.env:=by rfl) (hpl:(backTo pos (starEach [] X.env)).any (·.1)=false:=by rfl):
  PE X (.Call (.Name "list" p) [.Call (.Name "zip" p2) [a,c] [] pos2] [] pos) (Qt X.K ta):=by
 intro pins s σ H Q I h
 refine fS (d9 I hg hm gy (bt ?_ hs2 hpl) (by decide) (by decide))
 rw[hs2]
 show wpAny _ _ (spliced ((false,eval (.Call (.Name "zip" p2) [a,c] [] pos2) X.env)::backTo pos (starEach [] X.env))) _ _ s
 refine fk (Call_ (d9 I hg2 hm2 hb (bt (thn (ha pos2 pins s σ H _ I h) ?_) hs hp2)))
 rintro us s1 ⟨vs,H1,I1,r1,q1⟩
 obtain⟨a,c,xs,ys,e,hq,hq2,hxy,q⟩:=q1
 subst e
 obtain⟨u,v,rfl,ru,rv⟩:=vals2 r1
 cases ru
 cases rv
 obtain⟨its,rv,pl,hz⟩:=I1.list hq
 obtain⟨its2,rv2,pl2,hz2⟩:=I1.list hq2
 have l1:=rv.length
 have l2:=rv2.length
 refine call_zip_2 pl.isList pl2.isList λg gz gTI gTO g1 g2 gsz gk=>io ?_
 have lt:∀{b:Addr},s1.heap.get? b≠none->∀n,b≠s1.heap.objs.size+n:=λ{b} hb n z=>hb (by rw[z];exact lS (kr _ _))
 have ma:s1.heap.get? a≠none:=let ⟨_,e,_⟩:=pl.isList;by rw[e];exact λz=>nomatch z
 have mc:s1.heap.get? c≠none:=let ⟨_,e,_⟩:=pl2.isList;by rw[e];exact λz=>nomatch z
 have nn:∀m n:Nat,m≠n->s1.heap.objs.size+m≠s1.heap.objs.size+n:=λm n h z=>h (Nat.add_left_cancel z)
 have D:ZipApart (s1.heap.objs.size+4) (s1.heap.objs.size+2) (s1.heap.objs.size+3) s1.heap.objs.size (s1.heap.objs.size+1) a c:=
  ⟨nn _ _ (by decide),nn _ _ (by decide),nn 0 _ (by decide),nn _ _ (by decide),nn _ _ (by decide),nn _ 0 (by decide),nn _ _ (by decide),nn _ 0 (by decide),nn _ _ (by decide),nn 0 _ (by decide),lt ma _,lt ma _,lt ma 0,lt ma _,lt mc _,lt mc _,lt mc 0,lt mc _⟩
 refine xx (s:={ s1 with heap:=g }) (I1.ok.hd hc) D (by rw[aT];omega) (by rw[aT,aT];omega) gz gTO gTI g1 g2 (pl.isList.at λo e=>gk _ _ e) (pl2.isList.at λo e=>gk _ _ e) λh' acc cc kk he it=>?_
 have he:h'.get? g.objs.size=some { cls:=.type "list",dict:=none,data:=.seq acc cc,slots:=#[] }:=he
 have it:ZIts h' its.toArray its2.toArray (g.objs.size+1) [s1.heap.objs.size+4,s1.heap.objs.size+3,s1.heap.objs.size,s1.heap.objs.size+1,g.objs.size] acc its.toArray.size:=it
 have kk:∀c o,c∉[s1.heap.objs.size+4,s1.heap.objs.size+3,s1.heap.objs.size,s1.heap.objs.size+1,g.objs.size]->g.get? c=some o->h'.get? c=some o:=kk
 obtain⟨i1,i2⟩:=it
 have esz:its.toArray.size=its.length:=aT ..
 rw[esz] at i1 i2
 have refs:∀v∈acc.toList,∃t,v=.ref t:=λv hv=>by
  obtain⟨i,hi⟩:=lc.mp hv
  have hlt:i < acc.size:=by have:=(ap.mp hi).1;rwa [ff] at this
  obtain⟨t,_,_,e,_⟩:=i2 i (by omega)
  rw[lh,e] at hi
  exact⟨t,(bg hi).symm⟩
 let ad:Value->Addr:=λv=>match v with | .ref t=>t | _=>0
 have ea:acc.toList=(acc.toList.map ad).map Value.ref:=by
  rw[df]
  refine(List.map_id _).symm.trans (ci λv hv=>?_)
  obtain⟨t,rfl⟩:=refs v hv
  rfl
 generalize htt:acc.toList.map ad=ts at ea
 have lts:ts.length=its.length:=by rw[← htt,af,ff,i1]
 have tat:∀(i:Nat) (t:Addr),ts[i]?=some t->acc[i]?=some (Value.ref t):=λi t h=>by rw[← lh,ea,aE,h];rfl
 have nd:ts.Nodup:=by
  rw[kl,List.pairwise_iff_getElem]
  intro i j hi hj hij z
  have a1:=tat i ts[i] (ar hi)
  have a2:=tat j ts[j] (ar hj)
  obtain⟨t,_,_,e,_,_,_,_,_,w⟩:=i2 j (by omega)
  rw[e] at a2
  have e2:t=ts[j]:=pE (bg a2)
  refine w i hij ?_
  rw[a1,z,e2]
 have fact:∀(i:Nat) (t:Addr),ts[i]?=some t->∃x y,its[i]?=some x/\its2[i]?=some y/\IsPair h' t x y/\g.objs.size+1<=t:=λi t h=>by
  have hi:i < its.length:=by have:=(ap.mp h).1;omega
  obtain⟨t',x,y,e,ex,ey,hp,hB,_,_⟩:=i2 i hi
  have:=tat i t h
  rw[e] at this
  have e2:t'=t:=pE (bg this)
  subst e2
  exact⟨x,y,by simpa using ex,by simpa using ey,hp,hB⟩
 have big:∀t∈ts,g.objs.size+1<=t:=λt ht=>by
  obtain⟨i,hi⟩:=lc.mp ht
  obtain⟨_,_,_,_,_,w⟩:=fact i t hi
  exact w
 have lk:∀(i:Nat) (t:Addr) (x y:V),ts[i]?=some t->xs[i]?=some x->ys[i]?=some y->(zL ts xs ys++[(g.objs.size,HO.lst (ts.map V.ref))]).lookup t=some (.tup [x,y]):=λi t x y h1 h2 h3=>by
  rw[List.lookup_append,Bq (xs:=xs) (ys:=ys) nd i t x y h1 h2 h3];rfl
 have ln:(zL ts xs ys++[(g.objs.size,HO.lst (ts.map V.ref))]).lookup g.objs.size=some (.lst (ts.map V.ref)):=by
  rw[List.lookup_append,nU λp hp z=>by
   obtain⟨i,_,_,e,_⟩:=yP hp
   have:=big _ (ax e)
   rw[z] at this
   exact absurd this (Nat.not_succ_le_self _)]
  simp
 have sz:s1.heap.objs.size<=g.objs.size:=by rw[gsz];exact kr _ _
 have hmem:∀p∈zL ts xs ys++[(g.objs.size,HO.lst (ts.map V.ref))],s1.heap.objs.size<=p.1:=λp hp=>by
  rcases b0.mp hp with hp | hp
  ·obtain⟨i,_,_,e,_⟩:=yP hp
   exact f7 sz (Nat.le_of_succ_le (big _ (ax e)))
  ·rw[aI.mp hp];exact sz
 have I2:Inv X pins σ (rB H1 (zL ts xs ys++[(g.objs.size,HO.lst (ts.map V.ref))])) { s1 with heap:=h' }:=I1.lays (t':=s1.toks) (λb u e=>kk b u (λz=>by
   simp only[aw,br,eC] at z
   have hb:=ay e
   rcases z with z | z | z | z | z <;> rw[z] at hb
   ·exact absurd hb (pV.mpr (kr _ _))
   ·exact absurd hb (pV.mpr (kr _ _))
   ·exact absurd hb (dv _)
   ·exact absurd hb (pV.mpr (kr _ _))
   ·exact absurd hb (pV.mpr sz)) (gk _ _ e)) hmem λb o lo=>by
  rcases b0.mp (gU lo) with hp | hp
  ·obtain⟨i,x,y,e1,e2,e3,e4⟩:=yP hp
   dsimp only at e1 e4
   subst e4
   obtain⟨u,v,f1,f2,f3,_⟩:=fact i b e1
   obtain⟨u',w1,w2⟩:=rv.get e2
   obtain⟨v',w3,w4⟩:=rv2.get e3
   rw[f1] at w1
   rw[f2] at w3
   cases w1
   cases w3
   exact⟨by show (2:Nat)<=sizeLine;decide,[u,v],.cons w2 (.cons w4 .nil),_,f3,rfl,_,rfl⟩
  ·cases aI.mp hp
   exact⟨by rw[af,lts,← l1];exact hz,acc.toList,cc,by
    rw[ea]
    exact wR ts,by simpa using he⟩
 refine⟨.ref g.objs.size,_,I2,rfl,q g.objs.size ts _ (I1.hok.fresh sz) (λb o e=>?_) (vQ ln) (Gb (by omega) hxy λi t x y h1 h2 h3=>vQ (lk i t x y h1 h2 h3))⟩
 rw[sX (nU λp hp z=>by
  have:=I1.hok.fresh (hmem p hp)
  rw[z,e] at this;cases this)]
 exact e
end
section
variable {X:Cx}{tg:Expr}{pins:gV}{σ:St}{H:Hp}{s:Shared}{apos cpos pos:Pos}{td ty tx tv:TE}{o e f:Expr}
theorem Qu {b:Addr}{vs:List V}{ks:List Key}(I:Inv X pins σ H s)(hq:SqT X.K H b vs)(kt:q8 ks vs):(tupleKind (dg X.prog X.w)).is s.heap ks b:=by
 obtain⟨its,r,⟨o,h1,h2,n,h3⟩,_⟩:=I.tuple hq
 exact⟨o,its.toArray,n,h1,h2,h3,by simpa using q_ kt r⟩
def Qv (K:W.Frag)(td ty tx:TE):TE:=fun σ H Q=>td σ H λx H1=>∃a,x=.ref a/\IsD H1 a/\ty σ H1 λy H2=>tx σ H2 λz H3=>∃kvs ks b vs,Rd H3 a (.dT kvs)/\y=.ref b/\SqT K H3 b vs/\q8 ks vs/\Q ((iD kvs ks).getD z) H3
theorem Iw (hu:X.A.units+1 < cLine)(ho:PE X o td)(he:PE X e ty)(hf:PE X f tx)(m:M2 X o "get" apos e f cpos):PE X (.Call (.Attribute o "get" apos) [e,f] [] cpos) (Qv X.K td ty tx):=by
 intro pins s σ H Q I h
 refine nE m.base m.few m.line oj hJ oI (thn (ho pins s σ H _ I h) ?_)
 rintro u s1 ⟨x,H1,I1,rx,a,ex,d,q1⟩
 subst ex
 cases (show u=Value.ref a from rx)
 obtain⟨t1,t2,_⟩:=yD I1 d
 refine⟨t1,t2,?_⟩
 rw[m.trees]
 refine kT rfl (kg (fk (thn (he pins s1 σ H1 _ I1 q1) λiv s2 ⟨y,H2,I2,ry,q2⟩=>fk (thn (hf pins s2 σ H2 _ I2 q2) λfv s3 ⟨z,H3,I3,rz,kvs,ks,b,vs,e1,e2,e3,e4,q3⟩=>io ?_))))
 subst e2
 cases (show iv=Value.ref b from ry)
 obtain⟨_,hd,xs,rel,dd⟩:=pY I3.kIn I3.hok e1
 exact call_meetsIn hJ dd.typeIs kR (kG _ _ _) (oi (tupleKind (dg X.prog X.w)) a b hd fv) ⟨gX hu,ks,xs,Qu I3 e3 e4,dd,⟨_,H3,I3.tok _,(rel.val ks).getD rz,q3⟩⟩
def Tn (K:W.Frag)(tk tv:TE):TE:=fun σ H Q=>∀p,H p=none->tk σ (upd H p (.dT [])) λy H1=>tv σ H1 λz H2=>H2 p=some (.dT [])/\∃b ks,y=.ref b/\CKey K H2 b ks/\Q (.ref p) (upd H2 p (.dT [(ks,z)]))
theorem Lk (hu:X.A.units+1 < cLine)(hk:PE X e ty)(hv:PE X f tv):PE X (.Dict [some e] [f] pos) (Tn X.K ty tv):=by
 intro pins s σ H Q I q
 have hn:=I.hok.fresh (aS s.heap.objs.size)
 have I1:=I.laid (a:=s.heap.objs.size) (o:=.dT []) (h':=s.heap.push { cls:=.type "dict",data:=.dict #[] }) (t':=s.toks) (λ_ _ q=>ae _ q) (aS _) (yC s.heap I.big)
 refine wpAny_Dict_any rfl rfl (λz=>nomatch z) (show (1:Nat)<=15 by decide) ?_
 refine pairTrees_cons_walk (thn (hk pins _ σ _ _ I1 (q _ hn)) λu s1 ⟨y,H1,I2,ry,q1⟩=>thn (hv pins s1 σ H1 _ I2 q1) λw2 s2 ⟨z,H2,I3,rz,e1,b,ks,e2,dk,q2⟩=>pairTrees_nil_walk ?_)
 subst e2
 cases (show u=Value.ref b from ry)
 obtain⟨_,hd,xs,rel,dd⟩:=oM I3.kIn I3.hok (.inl e1)
 cases rel
 unfold storeAll
 rw[i8]
 refine ac (ac (yj (show X.A.units < cLine from Nat.lt_of_succ_lt hu) (j7 I3.kIn I3.hok dk) dd (cK _) λh' dd' hs=>al ?_))
 show wpAny _ _ (forIn [] _ _) _ _ _
 rw[kK]
 refine al ?_
 obtain⟨o,es,hq,h2,h3,h4,_,h5⟩:=dd'
 have new:ObjOk X.prog X.w X.K (upd H2 s.heap.objs.size (.dT [(ks,z)])) h' s.heap.objs.size (.dT [(ks,z)]):=⟨by show (1:Nat)<=sizeLine;decide,hd,_,((KT.put (H:=H2) (kvs:=[]) .nil ks dk rz)).keeps λc ys ec=>by rw[aP (JV ec e1 (λz=>nomatch z))];exact ec,o,es,_,hq,h2,h3,h4,h5,rfl⟩
 exact⟨.ref s.heap.objs.size,_,vK (t':=s2.toks+(tupleKind (dg X.prog X.w)).draws ks) I3 (by rw[e1];exact gS) hs ⟨o,hq⟩ new,rfl,q2⟩
def Qw (K:W.Frag)(a:Addr)(n:Nat):It:=
 ⟨λi H=>∃kvs,Rd H a (.dT kvs)/\kvs.length=n/\i < n,λi H x H'=>H'=H/\∃kvs b ks y,Rd H a (.dT kvs)/\kvs[i]?=some (ks,y)/\x=.ref b/\CKey K H b ks,λi H=>∃kvs,Rd H a (.dT kvs)/\kvs.length=n/\n<=i⟩
theorem KT.get {K:W.Frag}{kvs:List (List Key×V)}{xs:List (List Key×Addr×Value)}(r:KT K H kvs xs):∀{i:Nat}{p:List Key×V},kvs[i]?=some p->∃b u,xs[i]?=some (p.1,b,u)/\CKey K H b p.1:=by
 induction r with
 | nil=>intro i p h;simp at h
 | @cons p q ps qs h t ih=>
  intro i p' e
  cases i with
  | zero=>
   cases e
   obtain⟨k,b,u⟩:=q
   obtain⟨h1,h2,_⟩:=h
   dsimp only at h1 h2
   exact⟨b,u,by rw[h1];rfl,h2⟩
  | succ i=>exact ih (i:=i) e
theorem Ln {P:Program}{w:World}{K:W.Frag}{tg:Expr}(a it:Addr)(n:Nat):Turn P w K tg (Qw K a n) [it] it (λi h=>h.IsKeyIter it a i n n) where
 mem:=ai
 obj:=λi h st b hb=>by
  obtain⟨o,e,c,d⟩:=st
  exact⟨o,by rw[aI.mp hb];exact e,λv z=>by rw[d] at z;cases z⟩
 keep:=λi h h' st k=>let ⟨o,e,c⟩:=st;⟨o,k it ai o e,c⟩
 item:=by
  intro X hP hw hK hc i pins s σ H E I hf st hg
  subst hP hw hK
  obtain⟨kvs,hq,hlen,hlt⟩:=hg
  obtain⟨f0,f1,f2,f3,f4,f5⟩:=hf it ai
  obtain⟨_,_,xs,rel,dd⟩:=oM I.kIn I.hok hq
  have hl:xs.length=n:=by rw[← gE rel];exact hlen
  obtain⟨p,hp⟩:∃p,kvs[i]?=some p:=⟨_,ar (by omega)⟩
  obtain⟨b,u,hx,dk⟩:=rel.get hp
  subst hl
  refine Sq st dd hx λh' st' sb=>?_
  obtain⟨o,e,c,d⟩:=id st'
  obtain⟨ks,y⟩:=p
  exact⟨.ref b,rfl,pX (s:={ s with heap:=h' }) e c d (by decide) ⟨.ref b,H,I.turned (t':=s.toks) (λb o hb q=>(sb.2 b hb).trans q) f0 f1 f3 f4 f5,rfl,⟨rfl,kvs,b,ks,y,hq,hp,rfl,dk⟩,st',λb hb=>(hf b hb).1⟩⟩
 done:=by
  intro X hP hw hK hc i pins s σ H E I hf st hg
  subst hP hw hK
  obtain⟨kvs,hq,hlen,hge⟩:=hg
  obtain⟨f0,f1,f2,f3,f4,f5⟩:=hf it ai
  obtain⟨_,_,xs,rel,dd⟩:=oM I.kIn I.hok hq
  have hl:xs.length=n:=by rw[← gE rel];exact hlen
  subst hl
  exact Uk (I.ok.hd hc) st dd hge λh' eb=>⟨rfl,I.turned (t':=s.toks) (λb o hb q=>eb b o hb q) f0 f1 f3 f4 f5⟩
 self:=λA i s Q E st h=>wpAny_pyIter_keyiter st h
def iDk (K:W.Frag)(tl:TE):TI:=fun σ H R=>tl σ H λx H1=>∃a kvs,x=.ref a/\Rd H1 a (.dT kvs)/\R (Qw K a kvs.length) H1
theorem Tp {l:Expr}{tl:TE}(hl:PE X l tl):PI X tg l (iDk X.K tl):=by
 intro pins s σ H R I h
 refine thn (hl pins s σ H _ I h) ?_
 rintro v s1 ⟨x,H1,I1,r1,q1⟩
 obtain⟨a,kvs,e,hq,q⟩:=q1
 subst e
 cases r1
 obtain⟨_,hd,xs,rel,dd⟩:=oM I1.kIn I1.hok hq
 have hl:xs.length=kvs.length:=(gE rel).symm
 refine Sh hd dd λh' eh=>?_
 subst eh
 rw[hl]
 refine⟨s1.heap.objs.size,[s1.heap.objs.size],_,_,H1,rfl,I1.kept (t':=s1.toks) λb o e=>ae _ e,Ln a _ kvs.length,⟨_,am _ rfl,rfl,rfl⟩,λb hb=>?_,q⟩
 rw[aI.mp hb]
 exact I1.fpOk (aS _) (I1.hok.fresh (aS _))
end
section
variable {prog:Program}{w:World}{κ:Type}[DecidableEq κ]{kd:HeapKind prog w κ}{A:Around}{E:fN}{s:Shared}{d a it vw:Addr}{xs:List (κ×Addr×Value)}{k:κ}{v ok ov:Value}
theorem yQ (kd:HeapKind prog w κ)(d:Addr)(hd:(d == sysModules)=false):
  MeetsIn prog w (Builtin.«dict.items» ⟨[.ref d],[]⟩) (λ_ R s=>(∃xs,DictE kd s.heap d xs) /\
   R (.ok (.ret (.ref s.heap.objs.size))) { s with heap:=s.heap.push { cls:=.type "dict_items",data:=.fields #[.ref d] } }):=
 .of_wp<|by
  rintro A R s ⟨⟨xs,m⟩,h⟩
  unfold Builtin.«dict.items»
  refine ac ?_
  unfold Builtin.Dict.noArgs
  refine ac (lb m.of.typeIs ?_)
  show wpAny _ _ (pure d) _ _ s
  refine al ?_
  show wpAny _ _ (Builtin.Dict.showsAll d >>= _) _ _ s
  unfold Builtin.Dict.showsAll
  rw[a9 (by rw[hd];decide)]
  exact ac (al (ac (c5 (al ⟨_,rfl,h⟩))))
theorem Qx {Q:fN}(hv:s.heap.IsItemsView vw d)(m:DictE kd s.heap d xs)
  (q:∀h',h'=s.heap.push { cls:=.type "dict_itemiterator",data:=.fields #[.none,.bool false,.ref d,.int 0 0,.int xs.length 0,.int xs.length 0,.none,.none] }->Q (.ref s.heap.objs.size) { s with heap:=h' }):wpAny (model prog w) A (pyIter (.ref vw)) Q E s:=by
 obtain⟨u,u1,u2,u3⟩:=id hv
 obtain⟨o,es,o1,o2,o3,o4,o5,o6⟩:=id m
 have sz:=ia o4
 refine jv hv.typeIs F.slot_dict_items_iter (b9 F.slot_dict_items_iter hv.typeIs F.entry_dict_items_iter ?_ (F.args_dict_items_iter_1 _))
 unfold Builtin.«dict_items.__iter__»
 refine ac (al (ac ?_))
 unfold Builtin.Dict_items.dictOf
 refine ac (cp u1 u3 (x:=.ref d) rfl (al (ac ?_)))
 unfold Builtin.Dict_items.newIterator
 refine ac (ii o1 o3 (ac (i7 o1 o3 ?_)))
 have own:Builtin.Dict_items.ownsTuple "dict_itemiterator" = true:=by decide
 simp only[own,gx]
 refine c5 (al ⟨_,rfl, "dict_itemiterator",_,⟨_,am _ rfl,rfl⟩,d6.lookup,?_⟩)
  (by simp only[sizeOk,Builtin.Dict_items.ownedTupleFields,aT,a8,bb,md,sizeLine_eq];omega)
 simpa [rawInt,sz,Builtin.Dict_items.ownedTupleFields] using q _ rfl
theorem Qy {i:Nat}{b:Addr}{Q:Option Value->Shared->Prop}(hi:IsItemIter s.heap it d i xs.length xs.length ok ov)(m:DictE kd s.heap d xs)(hx:xs[i]?=some (k,b,v))
  (q:∀h',IsItemIterOut h' it d (i+1) xs.length xs.length (.ref b) v s.heap.objs.size->h'.get? s.heap.objs.size=some { cls:=.type "tuple",data:=.seq #[.ref b,v] }->h'.objs.size=s.heap.objs.size+1->
   (∀c o,c≠it->s.heap.get? c=some o->h'.get? c=some o)->Q (some (.ref s.heap.objs.size)) { s with heap:=h' }):wpAny (model prog w) A (pyNext (.ref it)) Q E s:=by
 obtain⟨hp,g,dr,tk,os⟩:=s
 obtain⟨o,es,o1,o2,o3,o4,o5,o6⟩:=id m
 have ty:Shared.TypeIs ⟨hp,g,dr,tk,os⟩ (.ref it) "dict_itemiterator" := ⟨_,hi,rfl⟩
 have sz:=ia o4
 unfold pyNext
 refine ac (eR (bX (name:=Str.ofString "__next__") ty d6 (b9 d6 ty ls ?_ (k9 _))))
 refine ac (al (ac (ac ?_)))
 first | refine ac (fT ty (al ?_)) | refine ac (hV ty (al ?_))
 refine ac (mB hi rfl ?_)
 have own:Builtin.Dict_items.ownsTuple "dict_itemiterator" = true:=by decide
 simp only[own,gx]
 show wpAny _ _ (if (Value.ref d == Value.none)=true then _ else _) _ _ _
 rw[a9 (by intro z;cases z)]
 refine ac (al (ac (ii o1 o3 ?_)))
 rw[a9 (by rw[sz];simp)]
 refine ac (al (ac (i7 o1 o3 ?_)))
 rw[a9 (by simp)]
 refine al ?_
 have lt:i < es.size:=by rw[sz];exact(ap.mp hx).1
 have ee:es[i]=entryOfKey kd (k,b,v):=by
  have z:=entry_at o4 i
  rw[hx,ck lt] at z
  exact bg z
 have ek:es[i].key=.ref b:=by rw[ee];rfl
 have ev:es[i].val=v:=by rw[ee];rfl
 simp only[show ¬ ((i:Int) < 0) by omega,gu,ft,ck lt]
 refine ac ?_
 first | refine ac (fT ty (al ?_)) | refine ac (hV ty (al ?_))
 refine ac (kX ty ?_)
 show wpAny _ _ (setField (.ref it) 3 (rawInt ((i:Int)+1)) >>= _) _ _ ⟨hp,g,dr,tk,os⟩
 refine ac (c6 hi (by simp) λh1 e1 s1=>?_)
 have s1:Heap.SameBut it hp h1:=s1
 have e1:IsItemIter h1 it d (i+1) xs.length xs.length ok ov:=by
  have e:((i+1:Nat):Int)=(i:Int)+1:=by omega
  unfold IsItemIter;rw[e];simpa [rawInt] using e1
 have t1:Shared.TypeIs ⟨h1,g,dr,tk,os⟩ (.ref it) "dict_itemiterator" := ⟨_,e1,rfl⟩
 refine ac (eP (ac (kX t1 (ac (kX t1 ?_)))))
 show wpAny _ _ (Builtin.Dict_items.pairFromOwner (.ref it) 6 es[i].key es[i].val) _ _ ⟨h1,g,dr,tk,os⟩
 rw[ek,ev]
 unfold Builtin.Dict_items.pairFromOwner
 refine ac (pf ?_)
 have z1:h1.objs.size=hp.objs.size:=s1.1
 have il:it < hp.objs.size:=ay hi
 have e2:IsItemIter (h1.push { cls:=.type "tuple",data:=.seq #[.ref b,v] }) it d (i+1) xs.length xs.length ok ov:=ae _ e1
 have t2:(h1.push { cls:=.type "tuple",data:=.seq #[.ref b,v] }).get? hp.objs.size=some { cls:=.type "tuple",data:=.seq #[.ref b,v] }:=by rw[← z1];exact am _ rfl
 have z2:(h1.push { cls:=.type "tuple",data:=.seq #[.ref b,v] }).objs.size=hp.objs.size+1:=by rw[cq,z1]
 have k2:∀c o,c≠it->hp.get? c=some o->(h1.push { cls:=.type "tuple",data:=.seq #[.ref b,v] }).get? c=some o:=λc o hc e=>ae _ (s1.extBut c o hc e)
 generalize h1.push { cls:=.type "tuple",data:=.seq #[.ref b,v] }=h2 at e2 t2 z2 k2 ⊢
 show wpAny _ _ (Builtin.Dict_items.ownedTupleIsFree (.ref it) >>= _) _ _ ⟨h2,g,dr,tk,os⟩
 rw[z1]
 refine ac ?_
 unfold Builtin.Dict_items.ownedTupleIsFree
 refine ac (cp e2 rfl (x:=.none) rfl (al ?_))
 simp only[gx]
 refine ac (cp e2 rfl (x:=ok) rfl (ac (cp e2 rfl (x:=ov) rfl ?_)))
 refine ac (c6 e2 (by simp) λh3 e3 s3=>?_)
 have s3:Heap.SameBut it h2 h3:=s3
 have e3:IsItemIter h3 it d (i+1) xs.length xs.length (.ref b) ov:=e3
 refine ac (c6 e3 (by simp) λh4 e4 s4=>?_)
 have s4:Heap.SameBut it h3 h4:=s4
 have e4:IsItemIter h4 it d (i+1) xs.length xs.length (.ref b) v:=e4
 refine ac (c6 e4 (by simp) λh5 e5 s5=>?_)
 have s5:Heap.SameBut it h4 h5:=s5
 have e5:IsItemIterOut h5 it d (i+1) xs.length xs.length (.ref b) v hp.objs.size:=e5
 refine ac (c6 e5 (by simp) λh6 e6 s6=>?_)
 have s6:Heap.SameBut it h5 h6:=s6
 have e6:IsItemIterOut h6 it d (i+1) xs.length xs.length (.ref b) v hp.objs.size:=e6
 have kk:∀c o,c≠it->h2.get? c=some o->h6.get? c=some o:=λc o hc e=>s6.extBut c o hc (s5.extBut c o hc (s4.extBut c o hc (s3.extBut c o hc e)))
 refine ac (lP (al (al ⟨_,rfl,al (q h6 e6 (kk _ _ (i0 il) t2) ?_ λc o hc e=>kk c o hc (k2 c o hc e))⟩)))
 show h6.objs.size=hp.objs.size+1
 rw[s6.1,s5.1,s4.1,s3.1,z2]
theorem Tq {i:Nat}{Q:Option Value->Shared->Prop}(hh:A.handled=none)(hi:IsItemIter s.heap it d i xs.length xs.length ok ov)(m:DictE kd s.heap d xs)(hx:xs.length<=i)
  (q:∀h',Heap.ExtBut it s.heap h'->Q none { s with heap:=h' }):wpAny (model prog w) A (pyNext (.ref it)) Q E s:=by
 obtain⟨o,es,o1,o2,o3,o4,o5,o6⟩:=id m
 have ty:s.TypeIs (.ref it) "dict_itemiterator" := ⟨_,hi,rfl⟩
 have sz:=ia o4
 unfold pyNext
 refine ac (eR (bX (name:=Str.ofString "__next__") ty d6 (b9 d6 ty ls ?_ (k9 _))))
 refine ac (al (ac (ac ?_)))
 first | refine ac (fT ty (al ?_)) | refine ac (hV ty (al ?_))
 refine ac (mB hi rfl ?_)
 have own:Builtin.Dict_items.ownsTuple "dict_itemiterator" = true:=by decide
 simp only[own,gx]
 show wpAny _ _ (if (Value.ref d == Value.none)=true then _ else _) (λ_ _=>_) _ s
 rw[a9 (by intro z;cases z)]
 refine ac (al (ac (ii o1 o3 ?_)))
 rw[a9 (by rw[sz];simp)]
 refine ac (al (ac (i7 o1 o3 ?_)))
 rw[a9 (by simp)]
 refine al ?_
 simp only[show ¬ ((i:Int) < 0) by omega,gu,ft,gv (show es.size<=i by omega)]
 refine ac ?_
 first | refine ac (fT ty (al ?_)) | refine ac (hV ty (al ?_))
 show wpAny _ _ (setField (.ref it) 2 .none >>= λ_=>_) _ _ s
 refine ac (gL hi rfl (by simp) ?_)
 show wpAny _ _ (newExc (.type "StopIteration") [] >>= λ_=>_) _ _ _
 refine ac ?_
 simp only[newExc,newTuple]
 refine ac (c5 (ac (m:=firstArgMember _ _) (ij (a:=Value.none) (by first | rfl | (simp only[firstArgMember];rfl)) (c5 ?_ (by size_fits)))) (by size_fits))
 simp only[raiseNew]
 refine ac (nI ?_)
 rw[show A.in1.handled=none by exact hh]
 refine ac (al (pd ?_))
 refine ac (fR (b:=true) (T := "StopIteration") ⟨_,am _ rfl,rfl⟩ ke ?_)
 exact al (q _ (((cf ..).extBut.push _).push _))
end
section
variable {X:Cx}{tg:Expr}{pins:gV}{σ:St}{H:Hp}{s:Shared}{apos cpos pos:Pos}{td:TE}{o:Expr}
theorem KT.get2 {K:W.Frag}{kvs:List (List Key×V)}{xs:List (List Key×Addr×Value)}(r:KT K H kvs xs):∀{i:Nat}{p:List Key×V},kvs[i]?=some p->∃b u,xs[i]?=some (p.1,b,u)/\CKey K H b p.1/\RelV p.2 u:=by
 induction r with
 | nil=>intro i p h;simp at h
 | @cons p q ps qs h t ih=>
  intro i p' e
  cases i with
  | zero=>
   cases e
   obtain⟨k,b,u⟩:=q
   obtain⟨h1,h2,h3⟩:=h
   dsimp only at h1 h2 h3
   exact⟨b,u,by rw[h1];rfl,h2,h3⟩
  | succ i=>exact ih (i:=i) e
def Qz (K:W.Frag)(a:Addr)(n:Nat):It:=
 ⟨λi H=>∃kvs,Rd H a (.dT kvs)/\kvs.length=n/\i < n,λi H x H'=>∃t kvs b ks y,H t=none/\x=.ref t/\H'=upd H t (.tup [.ref b,y])/\Rd H a (.dT kvs)/\kvs[i]?=some (ks,y)/\CKey K H b ks,λi H=>∃kvs,Rd H a (.dT kvs)/\kvs.length=n/\n<=i⟩
def Lp (it a:Addr)(n i:Nat)(h:Heap):Prop:=∃ok ov,IsItemIter h it a i n n ok ov
theorem Lq {P:Program}{w:World}{K:W.Frag}{es:qo}{x1:Nat}{tpos:Pos}(a it:Addr)(n:Nat):Turn P w K (.Tuple es x1 tpos) (Qz K a n) [it] it (Lp it a n) where
 mem:=ai
 obj:=λi h st b hb=>by
  obtain⟨ok,ov,e⟩:=st
  exact⟨_,by rw[aI.mp hb];exact e,λv z=>by
   have z':Data.fields _=Data.cell v:=z
   cases z'⟩
 keep:=λi h h' st k=>let ⟨ok,ov,e⟩:=st;⟨ok,ov,k it ai _ e⟩
 item:=by
  intro X hP hw hK hc i pins s σ H E I hf st hg
  subst hP hw hK
  obtain⟨kvs,hq,hlen,hlt⟩:=hg
  obtain⟨ok,ov,st⟩:=st
  obtain⟨_,_,xs,rel,dd⟩:=oM I.kIn I.hok hq
  have hl:xs.length=n:=by rw[← gE rel];exact hlen
  obtain⟨p,hp⟩:∃p,kvs[i]?=some p:=⟨_,ar (by omega)⟩
  obtain⟨b,u,hx,dk,ru⟩:=rel.get2 hp
  subst hl
  have hil:it < s.heap.objs.size:=ay st
  refine Qy st dd hx λh' out htup hsz hk=>⟨_,rfl,?_⟩
  refine wpAny_letOwnedTupleGo_items (s:={ s with heap:=h' }) out λh2 he2 hs2=>?_
  have g2:h2.get? s.heap.objs.size=some { cls:=.type "tuple",data:=.seq #[.ref b,u] }:=(hs2.2 _ (i0 hil)).trans htup
  have k2:∀c o,c∉[it]->s.heap.get? c=some o->h2.get? c=some o:=λc o hc q=>by
   have h1:c≠it:=λz=>hc (by simp[z])
   exact(hs2.2 c h1).trans (hk c o h1 q)
  have ht2:∀c o,s.heap.get? c=some o->∃o',h2.get? c=some o':=λc o q=>by
   by_cases h1:c=it
   ·subst h1;exact⟨_,he2⟩
   ·exact⟨o,k2 c o (by simp[h1]) q⟩
  have I2:Inv X pins σ (upd H s.heap.objs.size (.tup [.ref b,p.2])) { s with heap:=h2 }:=
   I.turnedL (t':=s.toks) (ch:=[it]) k2 ht2 hf (aS _) ⟨by show 2<=sizeLine;decide,[.ref b,u],.cons rfl (.cons ru .nil),⟨_,g2,rfl,_,rfl⟩⟩
  refine⟨.ref s.heap.objs.size,_,I2,rfl,⟨s.heap.objs.size,kvs,b,p.1,p.2,I.fresh,rfl,rfl,hq,hp,dk⟩,⟨_,_,he2⟩,λc hc=>?_⟩
  have hc0:=(hf c hc).1
  rw[aP ?_]
  ·exact hc0
  ·rw[aI.mp hc];exact cb hil
 done:=by
  intro X hP hw hK hc i pins s σ H E I hf st hg
  subst hP hw hK
  obtain⟨kvs,hq,hlen,hge⟩:=hg
  obtain⟨ok,ov,st⟩:=st
  obtain⟨f0,f1,f2,f3,f4,f5⟩:=hf it ai
  obtain⟨_,_,xs,rel,dd⟩:=oM I.kIn I.hok hq
  have hl:xs.length=n:=by rw[← gE rel];exact hlen
  subst hl
  exact Tq (I.ok.hd hc) st dd hge λh' eb=>⟨rfl,I.turned (t':=s.toks) (λb o hb q=>eb b o hb q) f0 f1 f3 f4 f5⟩
 self:=λA i s Q E st h=>by
  obtain⟨ok,ov,st⟩:=st
  have hT:s.TypeIs (.ref it) "dict_itemiterator" := ⟨_,st,rfl⟩
  refine jv hT l5 (b9 l5 hT W.kcp_entry ?_ (F.args_dict_itemiterator_iter_1 _))
  show wpAny _ _ (ret (.ref it)) _ _ s
  exact al ⟨_,rfl, "dict_itemiterator",_,hT,d6.lookup,h⟩
noncomputable def iDi (K:W.Frag)(tl:TE):TI:=fun σ H R=>tl σ H λx H1=>∃a kvs,x=.ref a/\Rd H1 a (.dT kvs)/\R (Qz K a kvs.length) H1
theorem Tr {es:qo}{x1:Nat}{tpos:Pos}(ho:PE X o td)(hbase:attributeBase o "items" X.env (eval o X.env)=eval o X.env:=by rfl)(hline:(apos.endLine == cpos.line)=true:=by rfl):
  PI X (.Tuple es x1 tpos) (.Call (.Attribute o "items" apos) [] [] cpos) (iDi X.K td):=by
 intro pins s σ H R I h
 refine nE (T := "dict") (id := "dict.items") hbase rfl hline F.plainAttrs_dict F.slot_dict_items F.type_dict_items (thn (ho pins s σ H _ I h) ?_)
 rintro u s1 ⟨x,H1,I1,rx,a,kvs,ex,hq,q⟩
 subst ex
 cases (show u=Value.ref a from rx)
 obtain⟨t1,t2,_⟩:=yD I1 (.inr ⟨kvs,hq⟩)
 refine⟨t1,t2,?_⟩
 obtain⟨_,hd,xs,rel,dd⟩:=oM I1.kIn I1.hok hq
 have I2:Inv X pins σ H1 { s1 with heap:=s1.heap.push { cls:=.type "dict_items",data:=.fields #[.ref a] } }:=I1.kept (t':=s1.toks) λb o e=>ae _ e
 refine method_meetsIn F.slot_dict_items F.entry_dict_items rfl (PySem.evalArgs_none ⟨rfl,t1,F.args_dict_items_1 _,_,yQ (tupleKind (dg X.prog X.w)) a hd,⟨xs,dd⟩,?_⟩)
 obtain⟨_,hd2,ys,rel2,dd2⟩:=oM I2.kIn I2.hok hq
 have hl:ys.length=kvs.length:=(gE rel2).symm
 refine Qx ⟨_,am _ rfl,rfl,rfl⟩ dd2 λh' eh=>?_
 subst eh
 rw[hl]
 refine⟨_,[_],_,_,H1,rfl,I2.kept (t':=s1.toks) λb o e=>ae _ e,Lq a _ kvs.length,⟨_,_,am _ rfl⟩,λb hb=>?_,q⟩
 rw[aI.mp hb]
 exact I2.fpOk (aS _) (I2.hok.fresh (aS _))
end
theorem xK:Slot "reversed" "__init__" "object.__init__" :=
 .of (owner := "object") (n := "__init__") (by rw[gi,eB];kernel_rfl) (by decide +kernel) (by decide +kernel) (by decide +kernel)
  (by first | exact .inl (by decide +kernel) | exact .inr (by decide +kernel)) (by rw[ki];kernel_rfl)
theorem uP:TypeCalled "reversed" "reversed.__new__" "object.__init__" :=
 ⟨by decide +kernel,by decide +kernel,⟨_,_,F.mro_reversed⟩,madeBy_type F.mro_reversed F.lookup_reversed_new (by decide +kernel),by decide +kernel,by rw[ki];kernel_rfl,xK⟩
theorem wU:Manifest.owners.lookup (String.ofList ['d','e','s','r','e','v','e','r'].reverse)=some Manifest.sig_reversed:=by kernel_rfl
theorem slot_rvd_next:Slot "reversed" "__next__" "reversed.__next__" :=
 .of (owner := "reversed") (n := "__next__") (by rw[gi,eB];kernel_rfl) (by decide +kernel) (by decide +kernel) (by decide +kernel)
  (by first | exact .inl (by decide +kernel) | exact .inr (by decide +kernel)) (by rw[ki];kernel_rfl)
theorem pH:entryFor table "reversed.__next__" = some Builtin.«reversed.__next__»:=entryFor_of_tree (by kernel_rfl)
theorem nY (a:Value):argsOk "reversed.__next__" ⟨[a],[]⟩:=by
 unfold argsOk;rw[signature?_of (id := "reversed.__next__") (n:=['_','_','t','x','e','n','_','_']) (o:=['d','e','s','r','e','v','e','r']) (by kernel_rfl) wU];kernel_rfl
theorem qN:Slot "reversed" "__iter__" "reversed.__iter__" :=
 .of (owner := "reversed") (n := "__iter__") (by rw[gi,eB];kernel_rfl) (by decide +kernel) (by decide +kernel) (by decide +kernel)
  (by first | exact .inl (by decide +kernel) | exact .inr (by decide +kernel)) (by rw[ki];kernel_rfl)
theorem uQ (a:Value):argsOk "reversed.__iter__" ⟨[a],[]⟩:=by
 unfold argsOk;rw[signature?_of (id := "reversed.__iter__") (n:=['_','_','r','e','t','i','_','_']) (o:=['d','e','s','r','e','v','e','r']) (by kernel_rfl) wU];kernel_rfl
theorem vR:entryFor table "reversed.__iter__" = some Builtin.«dict_keyiterator.__iter__»:=
 entryFor_alias (id' := "dict_keyiterator.__iter__") (by kernel_rfl) (by first | rfl | decide +kernel | (unfold String.splitOn;simp +decide [String.splitOnAux])) (by decide +kernel) (by kernel_rfl)
theorem Gd:typeLookup (.type "tuple") "__reversed__" = pure none:=by rw[gi,eB];kernel_rfl
theorem Di:isSubtype (.type "tuple") (.type "dict")=pure false:=by rw[ki];kernel_rfl
def IsRvd (h:Heap)(a t:Addr)(i:Int):Prop:=∃o,h.get? a=some o/\o.cls=.type "reversed" /\ o.data=.fields #[.ref t,rawInt i]
theorem IsRvd.typeIs {s:Shared}{a l:Addr}{i:Int}(x:IsRvd s.heap a l i):s.TypeIs (.ref a) "reversed" := let ⟨o,ho,hc,_⟩:=x;⟨o,ho,hc⟩
theorem IsRvd.at {h h':Heap}{a l:Addr}{i:Int}(x:IsRvd h a l i)(e:∀o,h.get? a=some o->h'.get? a=some o):IsRvd h' a l i:=let ⟨o,ho,r⟩:=x;⟨o,e _ ho,r⟩
theorem J7 {n:Nat}(h:n<=sizeLine):(n:Int) < 2 ^ 63:=by
 have:sizeLine < 2 ^ 62:=by decide
 omega
section
variable {prog:Program}{w:World}{A:Around}{E:fN}{s:Shared}
theorem QB (t:Addr)(items:qB)(hz:(items.size:Int) < 2 ^ 63):Meets (Builtin.«reversed.__new__» ⟨[.type "reversed",.ref t],[]⟩) (λ_ R s=>IsTup s.heap t items /\
   R (.ok (.ret (.ref s.heap.objs.size))) { s with heap:=s.heap.push { cls:=.type "reversed",data:=.fields #[.ref t,rawInt ((items.size:Int) - 1)] },toks:=s.toks+1+1 }):=
 .of_wp λprog w A R s h=>by
  obtain⟨q1,h⟩:=h
  unfold Builtin.«reversed.__new__»
  refine ac (ij (newClass_reversed _) ?_)
  try dsimp only
  refine ac (ij (a:=()) (by first | rfl | kernel_rfl) ?_)
  refine ac (ij (a:=()) (by first | rfl | kernel_rfl) ?_)
  try dsimp only
  refine ac (gl q1.typeIs Gd ?_)
  try dsimp only
  refine ac ?_
  show wpAny _ _ (isInstance (.ref t) (.type "dict") >>= _) _ _ _
  refine ac (fR q1.typeIs Di ?_)
  rw[a9 (by decide)]
  refine ac (gl q1.typeIs F.slot_tuple_getitem.lookup ?_)
  dsimp only
  rw[bp (by decide +kernel)]
  refine al ?_
  rw[a9 (by decide)]
  refine ac (len_tuple q1 hz ?_)
  refine ac (ij (a:=some (items.size:Int)) rfl ?_)
  dsimp only
  refine ac ?_
  unfold Builtin.SmallTypes.newRecord
  exact c5 (al ⟨_,rfl,h⟩) (by size_fits)
theorem Iz {t:Addr}{items:qB}{Q:fN}(ht:IsTup s.heap t items)(hz:(items.size:Int) < 2 ^ 63)
  (h:Q (.ref s.heap.objs.size) { s with heap:=s.heap.push { cls:=.type "reversed",data:=.fields #[.ref t,rawInt ((items.size:Int) - 1)] },toks:=s.toks+1+1 }):wpAny (model prog w) A (call (.type "reversed") [.ref t]) Q E s:=
 ox uP (by decide) (F.typeCall_reversed_1 _) (F.newCall_reversed_1 _) (λobj=>F.args_object_init_2 obj _) F.entry_reversed_new (QB t items hz) ⟨ht,⟨_,am _ rfl,rfl⟩,h⟩
theorem IK {it t:Addr}{i:Nat}{items:qB}{x:Value}{Q:Option Value->Shared->Prop}(hit:IsRvd s.heap it t (i:Int))(ht:IsTup s.heap t items)(hz:(items.size:Int) < 2 ^ 63)(hx:items[i]?=some x)
  (hQ:∀h' tk,IsRvd h' it t ((i:Int) - 1)->Heap.SameBut it s.heap h'->Q (some x) { s with heap:=h',toks:=tk }):wpAny (model prog w) A (pyNext (.ref it)) Q E s:=by
 obtain⟨o,ho,hc,hd⟩:=id hit
 have hlt:i < items.size:=by
  rcases dc i items.size with z | z
  ·exact z
  ·rw[gv z] at hx;cases hx
 unfold pyNext
 refine ac (eR (bX (name:=Str.ofString "__next__") hit.typeIs slot_rvd_next
  (b9 slot_rvd_next hit.typeIs pH ?_ (nY _))))
 unfold Builtin.«reversed.__next__»
 refine ac (ij (a:=(Value.ref it,[])) rfl ?_)
 try dsimp only
 refine ac (cp ho hd (x:=.ref t) rfl ?_)
 refine ac (cp ho hd (x:=rawInt (i:Int)) rfl ?_)
 show wpAny _ _ (if (i:Int) < 0 then _ else _) _ _ s
 rw[a9 (by omega)]
 refine ac (gl ht.typeIs F.slot_tuple_getitem.lookup ?_)
 rw[a9 (by simp)]
 refine ac (wpAny_mkInt ?_)
 refine ac (eR (getItem_tuple (s:={ s with toks:=s.toks+1 }) ht (by omega) (by omega) (j:=i) ?_ hx ?_))
 ·exact(vM (n:=items.size) (i:=(i:Int)) (j:=i) (by unfold ixN;rw[bp (by omega),bp (by omega),ft])).1
 show wpAny _ _ (field (.ref it) 1 >>= _) _ _ _
 refine ac (cp ho hd (x:=rawInt (i:Int)) rfl ?_)
 show wpAny _ _ (setField (.ref it) 1 (rawInt ((i:Int) - 1)) >>= _) _ _ _
 refine ac (gL ho hd (by simp) ?_)
 refine al ⟨x,rfl,al (hQ _ _ ?_ (cf ..))⟩
 exact⟨_,cw _ ho (ja (fi hd _)),(nB ..).trans hc,by
  rw[fi hd];simp⟩
theorem Lr {it t:Addr}{Q:Option Value->Shared->Prop}(hh:A.handled=none)(hit:IsRvd s.heap it t (-1))
  (hQ:∀h',Heap.ExtBut it s.heap h'->Q none { s with heap:=h' }):wpAny (model prog w) A (pyNext (.ref it)) Q E s:=by
 obtain⟨o,ho,hc,hd⟩:=id hit
 unfold pyNext
 refine ac (eR (bX (name:=Str.ofString "__next__") hit.typeIs slot_rvd_next
  (b9 slot_rvd_next hit.typeIs pH ?_ (nY _))))
 unfold Builtin.«reversed.__next__»
 refine ac (ij (a:=(Value.ref it,[])) rfl ?_)
 try dsimp only
 refine ac (cp ho hd (x:=.ref t) rfl ?_)
 refine ac (cp ho hd (x:=rawInt (-1)) rfl ?_)
 show wpAny _ _ (if (-1:Int) < 0 then _ else _) _ _ s
 rw[bp (by decide)]
 refine ac (li ?_)
 refine ac ?_
 show wpAny _ _ (setField (.ref it) 1 (rawInt (-1)) >>= λ_=>setField (.ref it) 0 .none) _ _ _
 refine ac (gL ho hd (by simp) ?_)
 have ho2:=cw (λo=>o.mapFields λvs=>vs.setIfInBounds 1 (rawInt (-1))) ho (ja (fi hd _))
 refine gL ho2 (fi hd _) (by simp) ?_
 refine ac ?_
 show wpAny _ _ (newExc (.type "StopIteration") [] >>= _) _ _ _
 refine ac ?_
 simp only[newExc,newTuple]
 refine ac (c5 ?_ (by size_fits))
 refine ac (m:=firstArgMember _ _) (ij (a:=Value.none) (by first | rfl | (simp only[firstArgMember];rfl)) ?_)
 refine c5 ?_ (by size_fits)
 simp only[raiseNew]
 refine ac (nI ?_)
 first | rw[show A.in1.handled=none from hh] | rw[hh]
 refine ac (al (pd ?_))
 refine ac (fR (T := "StopIteration") (b:=true) ⟨_,am _ rfl,rfl⟩ ke ?_)
 exact al (hQ _ λb o hb e=>ae _ (ae _ ((de _ _ (fF hb)).trans ((de _ _ (fF hb)).trans e))))
theorem yR {it l:Addr}{i:Int}{Q:fN}(hit:IsRvd s.heap it l i)(h:Q (.ref it) s):wpAny (model prog w) A (pyIter (.ref it)) Q E s:=by
 refine jv hit.typeIs qN (b9 qN hit.typeIs vR ?_ (uQ _))
 show wpAny _ _ (ret (.ref it)) _ _ s
 exact al ⟨_,rfl, "reversed",_,hit.typeIs,slot_rvd_next.lookup,h⟩
end
def IV (K:W.Frag)(a:Addr)(n:Nat):It:=
 ⟨λi H=>∃xs x,SqT K H a xs/\xs.length=n/\i < n/\xs[n - 1 - i]?=some x,λi H x H'=>H'=H/\∀xs,SqT K H a xs->xs[n - 1 - i]?=some x,λi _=>n=i⟩
theorem I_ {P:Program}{w:World}{K:W.Frag}{tg:Expr}(a it:Addr)(n:Nat):Turn P w K tg (IV K a n) [it] it (λi h=>IsRvd h it a ((n:Int) - 1 - ((i:Nat):Int))) where
 mem:=by simp
 obj:=λi h st b hb=>by
  obtain⟨o,e,c,d⟩:=st
  exact⟨o,by rw[aI.mp hb];exact e,λv z=>by rw[d] at z;cases z⟩
 keep:=λi h h' st k=>st.at λo e=>k it ai o e
 item:=by
  intro X hP hw hK hc i pins s σ H E I hf st hg
  subst hP hw hK
  obtain⟨xs,x,hq,hlen,hlt,hx⟩:=hg
  obtain⟨its,rv,p,hz⟩:=I.tuple hq
  obtain⟨u,hu,ru⟩:=rv.get hx
  obtain⟨f0,f1,f2,f3,f4,f5⟩:=hf it ai
  have e1:(n:Int) - 1 - ((i:Nat):Int)=((n - 1 - i:Nat):Int):=by omega
  have st1:=st
  rw[e1] at st1
  refine IK st1 p (J7 (by simpa [rv.length] using hz)) (x:=u) (by simpa using hu) λh' tk st' sb=>?_
  have e2:((n - 1 - i:Nat):Int) - 1=(n:Int) - 1 - ((i+1:Nat):Int):=by omega
  rw[e2] at st'
  obtain⟨o,e,c,d⟩:=id st'
  exact⟨u,rfl,pX (s:={ s with heap:=h',toks:=tk }) e c d (by decide) ⟨x,H,I.turned (t':=tk) (λb o hb q=>(sb.2 b hb).trans q) f0 f1 f3 f4 f5,ru,⟨rfl,λys hy=>by rw[I.tuple_inj hy hq];exact hx⟩,st',λb hb=>(hf b hb).1⟩⟩
 done:=by
  intro X hP hw hK hc i pins s σ H E I hf st hg
  subst hP hw hK
  obtain⟨f0,f1,f2,f3,f4,f5⟩:=hf it ai
  have hg':n=i:=hg
  have e1:(n:Int) - 1 - ((i:Nat):Int)=-1:=by omega
  rw[e1] at st
  exact Lr (I.ok.hd hc) st λh' eb=>⟨rfl,I.turned (t':=s.toks) (λb o hb q=>eb b o hb q) f0 f1 f3 f4 f5⟩
 self:=λ_ _ _ _ _ st h=>yR st h
section
variable {X:Cx}{tg:Expr}
def UJ (K:W.Frag)(ta:TA):TI:=fun σ H R=>ta σ H λvs H1=>∃a xs,vs=[.ref a]/\SqT K H1 a xs/\R (IV K a xs.length) H1
theorem QC {l:Expr}{ta:TA}{p pos:Pos}(hg:Gl X "reversed")(hm:X.mg "reversed" = none)(ha:PA X [l] ta)(hb:bootBuiltins "reversed" = some (.type "reversed"))(hs:starEach [l] X.env=(false,eval l X.env)::starEach [] X.env:=by rfl)(hp:(backTo pos (starEach [] X.env)).any (·.1)=false:=by rfl):
  PI X tg (.Call (.Name "reversed" p) [l] [] pos) (UJ X.K ta):=by
 intro pins s σ H R I h
 refine Call_ (d9 I hg hm hb (bt (thn (ha pos pins s σ H _ I h) ?_) hs hp))
 rintro us s1 ⟨vs,H1,I1,r1,q1⟩
 obtain⟨a,xs,e,hq,q⟩:=q1
 subst e
 obtain⟨u,rfl,ru⟩:=vals1 r1
 cases ru
 obtain⟨its,rv,p,hz⟩:=I1.tuple hq
 refine Iz p (J7 (by simpa [rv.length] using hz)) ?_
 have hlen:=rv.length
 have ez:((its.toArray.size:Nat):Int) - 1=(xs.length:Int) - 1 - ((0:Nat):Int):=by rw[aT];omega
 rw[ez]
 refine yR ⟨_,am _ rfl,rfl,rfl⟩ ⟨s1.heap.objs.size,[s1.heap.objs.size],_,_,H1,rfl,I1.kept (t':=s1.toks+1+1) λb o e=>ae _ e,I_ a _ xs.length,⟨_,am _ rfl,rfl,rfl⟩,λb hb=>?_,q⟩
 rw[aI.mp hb]
 exact I1.fpOk (aS _) (I1.hok.fresh (aS _))
end
theorem Ge {prog:Program}{w:World}{A:Around}(hh:A.handled=none)(it:Addr)(x:Str)(t:Tok):Draws prog w A it [it] x.cps.size (λi v=>∃c u,x.cps[i]?=some c/\v=.str ⟨#[c]⟩ u) (λi h=>h.IsStrIter it (strIterType x) x t i):=by
 cases ha:x.cps.all (· < 128) with
 | false=>
  have e:strIterType x = "str_iterator" := by simp[strIterType,ha]
  rw[e]
  exact Draws.strWide hh it x t
 | true=>
  have e:strIterType x = "str_ascii_iterator" := by simp[strIterType,ha]
  rw[e]
  exact Draws.strAscii hh it x t
theorem rC {h:Heap}{it:Addr}{ty:String}{x:Str}{t:Tok}{i:Nat}(st:h.IsStrIter it ty x t i):∃o,h.get? it=some o/\∀v,o.data≠.cell v:=by
 obtain⟨o,e,c,d⟩:=st
 exact⟨o,e,λv y=>by rw[d] at y;cases y⟩
theorem uR {h h':Heap}{it:Addr}{ty:String}{x:Str}{t:Tok}{i:Nat}(st:h.IsStrIter it ty x t i)(q:∀o,h.get? it=some o->h'.get? it=some o):h'.IsStrIter it ty x t i:=by
 obtain⟨o,e,r⟩:=st
 exact⟨o,q o e,r⟩
def zs1 (h:Heap)(x:Str)(t:Tok):Heap:=h.push { cls:=.type (strIterType x),data:=.fields #[.str x t,.int 0 0] }
def zs2 (k2:SK)(h:Heap)(x:Str)(t:Tok)(l2:Addr):Heap:=(zs1 h x t).push { cls:=.type k2.ty,data:=.fields #[.ref l2,.int 0 0] }
def zs3 (k2:SK)(h:Heap)(x:Str)(t:Tok)(l2:Addr):Heap:=(zs2 k2 h x t l2).push { cls:=.type "tuple",data:=.seq #[.ref h.objs.size,.ref (zs1 h x t).objs.size] }
def zs4 (k2:SK)(h:Heap)(x:Str)(t:Tok)(l2:Addr):Heap:=(zs3 k2 h x t l2).push { cls:=.type "tuple",data:=.seq #[.none,.none] }
def zs5 (k2:SK)(h:Heap)(x:Str)(t:Tok)(l2:Addr):Heap:=(zs4 k2 h x t l2).push { cls:=.type "zip",data:=.fields #[.none,.bool false,.bool false,.ref (zs2 k2 h x t l2).objs.size,.ref (zs3 k2 h x t l2).objs.size] }
theorem Lw (k2:SK)(x:Str)(t:Tok)(l2:Addr)(ys:qB):Meets (Builtin.«zip.__new__» ⟨[.type "zip",.str x t,.ref l2],[]⟩) (λ_ R s=>k2.is s.heap l2 ys /\
   R (.ok (.ret (.ref (zs4 k2 s.heap x t l2).objs.size))) { s with heap:=zs5 k2 s.heap x t l2 }):=
 .of_wp λprog w A R s h=>by
  obtain⟨hp,g,d,tk,os⟩:=s
  obtain⟨q2,h⟩:=h
  have hsub:=sub_zip
  cases k2 with
  | L=>
   have e2:Heap.IsList (Shared.heap ⟨hp.push { cls:=.type (strIterType x),data:=.fields #[.str x t,.int 0 0] },g,d,tk,os⟩) l2 ys:=om q2 _
   wp_walk using wpAny_pyIter_strU,eD e2
   exact⟨_,rfl,h⟩
  | T=>
   have e2:Heap.IsTuple (Shared.heap ⟨hp.push { cls:=.type (strIterType x),data:=.fields #[.str x t,.int 0 0] },g,d,tk,os⟩) l2 ys:=let ⟨o,e,c⟩:=q2;⟨o,ae _ e,c⟩
   wp_walk using wpAny_pyIter_strU,eJ e2
   exact⟨_,rfl,h⟩
section
variable {prog:Program}{w:World}{A:Around}{E:fN}{s:Shared}
theorem Gf {k2:SK}{x:Str}{t:Tok}{l2:Addr}{ys:qB}{Q:fN}(q2:k2.is s.heap l2 ys)
  (h:∀h',IsZip h' (s.heap.objs.size+4) (s.heap.objs.size+2) (s.heap.objs.size+3) .none->IsPair h' (s.heap.objs.size+2) (.ref s.heap.objs.size) (.ref (s.heap.objs.size+1))->
   IsPair h' (s.heap.objs.size+3) .none .none->h'.IsStrIter s.heap.objs.size (strIterType x) x t 0->k2.at h' (s.heap.objs.size+1) l2 0->h'.objs.size=s.heap.objs.size+5->
   (∀c o,s.heap.get? c=some o->h'.get? c=some o)->Q (.ref (s.heap.objs.size+4)) { s with heap:=h' }):
  wpAny (model prog w) A (call (.type "zip") [.str x t,.ref l2]) Q E s:=by
 refine ox F.called_zip (by decide) (F.typeCall_zip_2 _ _) (F.newCall_zip_2 _ _) (λobj=>F.args_object_init_3 obj _ _) F.entry_zip_new (Lw k2 x t l2 ys) ⟨q2,?_⟩
 have a1:(zs1 s.heap x t).objs.size=s.heap.objs.size+1:=cq ..
 have a2:(zs2 k2 s.heap x t l2).objs.size=s.heap.objs.size+2:=(cq ..).trans (by rw[a1])
 have a3:(zs3 k2 s.heap x t l2).objs.size=s.heap.objs.size+3:=(cq ..).trans (by rw[a2])
 have a4:(zs4 k2 s.heap x t l2).objs.size=s.heap.objs.size+4:=(cq ..).trans (by rw[a3])
 have a5:(zs5 k2 s.heap x t l2).objs.size=s.heap.objs.size+5:=(cq ..).trans (by rw[a4])
 have b5:(zs5 k2 s.heap x t l2).get? (zs4 k2 s.heap x t l2).objs.size=some { cls:=.type "zip",data:=.fields #[.none,.bool false,.bool false,.ref (zs2 k2 s.heap x t l2).objs.size,.ref (zs3 k2 s.heap x t l2).objs.size] }:=am _ rfl
 have b4:(zs5 k2 s.heap x t l2).get? (zs3 k2 s.heap x t l2).objs.size=some { cls:=.type "tuple",data:=.seq #[.none,.none] }:=ae _ (am _ rfl)
 have b3:(zs5 k2 s.heap x t l2).get? (zs2 k2 s.heap x t l2).objs.size=some { cls:=.type "tuple",data:=.seq #[.ref s.heap.objs.size,.ref (zs1 s.heap x t).objs.size] }:=ae _ (ae _ (am _ rfl))
 have b2:(zs5 k2 s.heap x t l2).get? (zs1 s.heap x t).objs.size=some { cls:=.type k2.ty,data:=.fields #[.ref l2,.int 0 0] }:=ae _ (ae _ (ae _ (am _ rfl)))
 have b1:(zs5 k2 s.heap x t l2).get? s.heap.objs.size=some { cls:=.type (strIterType x),data:=.fields #[.str x t,.int 0 0] }:=ae _ (ae _ (ae _ (ae _ (am _ rfl))))
 rw[a2,a3,a4] at b5
 rw[a3] at b4
 rw[a1,a2] at b3
 rw[a1] at b2
 show _/\_
 rw[a4]
 exact⟨⟨_,b5,rfl⟩,h _ b5 b3 b4 ⟨_,b1,rfl,rfl⟩ (SK.at_of b2) a5 λc o x=>ae _ (ae _ (ae _ (ae _ (ae _ x))))⟩
end
def QD (K:W.Frag)(x:Str)(k2:SK)(b:Addr):It:=
  ⟨λi H=>∃c ys y,x.cps.toList[i]?=some c/\k2.sq K H b ys/\ys[i]?=some y,
   λi H v H'=>∃t c y,H t=none/\v=.ref t/\H'=upd H t (.tup [.str ⟨#[c]⟩,y])/\x.cps.toList[i]?=some c/\∀ys,k2.sq K H b ys->ys[i]?=some y,
   λi H=>∃ys,k2.sq K H b ys/\(x.cps.toList.length=i\/(i < x.cps.toList.length/\ys.length=i))⟩
def QF (x:Str)(t:Tok)(k2:SK)(z TI TO i1 i2 l2:Addr)(i:Nat)(h:Heap):Prop:=IsZip h z TI TO .none/\IsPair h TI (.ref i1) (.ref i2)/\(∃a b,IsPair h TO a b)/\h.IsStrIter i1 (strIterType x) x t i/\k2.at h i2 l2 i
theorem Gg {z TI TO i1 i2 l2:Addr}(D:ZipApart z TI TO i1 i2 l2 l2):ZA z TI TO i1 i2 [i1] [i2,l2] where
 TIz:=D.TIz
 TOz:=D.TOz
 TIO:=D.TITO
 m1:=by simp
 m2:=by simp
 z1:=by simp[D.i1z.symm]
 z2:=by simp[D.i2z.symm,D.l2z.symm]
 o1:=by simp[D.TOi1]
 o2:=by simp[D.TOi2,D.l2TO.symm]
 x12:=by simp[D.i12,D.l2i1.symm]
 x21:=by simp[D.i12.symm]
theorem wV {P:Program}{w:World}{K:W.Frag}{es:qo}{x1:Nat}{tpos:Pos}{tx:Str}{tt:Tok}{k2:SK}{z TI TO i1 i2 l2:Addr}(D:ZipApart z TI TO i1 i2 l2 l2):Turn P w K (.Tuple es x1 tpos) (QD K tx k2 l2) [z,TI,TO,i1,i2] z (QF tx tt k2 z TI TO i1 i2 l2) where
 mem:=by simp
 obj:=λi h st b hb=>by
  obtain⟨hz,hTI,⟨a,c,hTO⟩,s1,s2⟩:=st
  simp only[aw,br,eC] at hb
  rcases hb with rfl | rfl | rfl | rfl | rfl
  ·exact⟨_,hz,λv y=>by have y':Data.fields _=Data.cell v:=y;cases y'⟩
  ·exact⟨_,hTI,λv y=>by have y':Data.seq _ _=Data.cell v:=y;cases y'⟩
  ·exact⟨_,hTO,λv y=>by have y':Data.seq _ _=Data.cell v:=y;cases y'⟩
  ·exact(rC s1)
  ·exact(SK.at_obj s2)
 keep:=λi h h' st k=>by
  obtain⟨hz,hTI,⟨a,c,hTO⟩,s1,s2⟩:=st
  exact⟨k z (by simp) _ hz,k TI (by simp) _ hTI,⟨a,c,k TO (by simp) _ hTO⟩,uR s1 λo q=>k i1 (by simp) o q,SK.at_keep s2 λo q=>k i2 (by simp) o q⟩
 item:=by
  intro X hP hw hK hc i pins s σ H E I hf st hg
  subst hP hw hK
  obtain⟨c0,ys,y,hx,hq2,hy⟩:=hg
  obtain⟨hz,hTI,⟨a,b,hTO⟩,s1,s2⟩:=st
  obtain⟨its2,rv2,p2⟩:=I.sk hq2
  obtain⟨v,hv,rv⟩:=rv2.get hy
  have hh:=I.ok.hd hc
  have hT:s.TypeIs (.ref z) "zip" := ⟨_,hz,rfl⟩
  have hi1:i < tx.cps.size:=by
   rcases dc i tx.cps.toList.length with q | q
   ·simpa using q
   ·rw[bo q] at hx;cases hx
  have hi2:i < its2.toArray.size:=by
   rcases dc i its2.length with q | q
   ·simpa using q
   ·rw[bo q] at hv;cases hv
  unfold pyNext
  refine ac (eR (bX (name:=Str.ofString "__next__") hT ei (b9 ei hT iO
   (wO (Gg D) (Ge (prog:=X.prog) (w:=X.w) (A:=X.A.in1) hh i1 tx tt) (SK.draws (prog:=X.prog) (w:=X.w) (A:=X.A.in1) k2 hh i2 l2 D.l2i2 its2.toArray) hz hTI hTO s1 ⟨s2,p2⟩ hi1 hi2 λh' tk x' y' ex ey z1 t1 j1 j2 tp hsz hk=>al ⟨_,rfl,?_⟩) (im _))))
  obtain⟨c1,u1,ex,rfl⟩:=ex
  have ec:c1=c0:=bg (by rw[← ex,← hx];simp)
  subst ec
  have ev:y'=v:=bg (by rw[← ey,← hv];simp)
  subst ev
  refine nv (s:={ s with heap:=h',toks:=tk }) z1 λh2 z2 sb=>?_
  have lz:z < s.heap.objs.size:=ay hz
  have g2:h2.get? s.heap.objs.size=some { cls:=.type "tuple",data:=.seq #[.str ⟨#[c1]⟩ u1,y'] }:=(sb.2 _ (i0 lz)).trans tp
  have kp:∀c o,c∉[z,TO,i1,i2]->s.heap.get? c=some o->h2.get? c=some o:=λc o hb q=>by
   simp only[aw,br,eC,nK] at hb
   exact(sb.2 c hb.1).trans (hk c o hb.1 hb.2.1 hb.2.2.1 hb.2.2.2 q)
  have gTO:IsPair h2 TO (.str ⟨#[c1]⟩ u1) y':=(sb.2 _ D.TOz).trans t1
  have g1:h2.IsStrIter i1 (strIterType tx) tx tt (i+1):=uR j1 λo e=>(sb.2 i1 D.i1z).trans e
  have g2':k2.at h2 i2 l2 (i+1):=SK.at_keep j2.1 λo e=>(sb.2 i2 D.i2z).trans e
  have ht2:∀c o,s.heap.get? c=some o->∃o',h2.get? c=some o':=λc o q=>by
   by_cases n1:c=z
   ·subst n1;exact⟨_,z2⟩
   ·by_cases n2:c=TO
    ·subst n2;exact⟨_,gTO⟩
    ·by_cases n3:c=i1
     ·subst n3;obtain⟨o',e',_⟩:=(rC g1);exact⟨o',e'⟩
     ·by_cases n4:c=i2
      ·subst n4;obtain⟨o',e',_⟩:=(SK.at_obj g2');exact⟨o',e'⟩
      ·exact⟨o,kp c o (by simp[n1,n2,n3,n4]) q⟩
  have I2:Inv X pins σ (upd H s.heap.objs.size (.tup [.str ⟨#[c1]⟩,y])) { s with heap:=h2,toks:=tk }:=
   I.turnedL (ch:=[z,TO,i1,i2]) kp ht2 (λb hb=>hf b (by simp only[aw,br,eC] at hb ⊢;rcases hb with e | e | e | e <;> simp[e])) (aS _)
    ⟨by show 2<=sizeLine;decide,[.str ⟨#[c1]⟩ u1,y'],.cons ⟨u1,rfl⟩ (.cons rv .nil),⟨_,g2,rfl,_,rfl⟩⟩
  refine⟨.ref s.heap.objs.size,_,I2,rfl,⟨s.heap.objs.size,c1,y,I.fresh,rfl,rfl,hx,λzs hy'=>by rw[I.sk_inj hy' hq2];exact hy⟩,⟨z2,?_,⟨_,y',gTO⟩,g1,g2'⟩,λb hb=>?_⟩
  ·exact kp TI _ (by simp[D.TIz,D.TITO,D.TIi1,D.TIi2]) hTI
  ·have hb0:=(hf b hb).1
   rw[aP ?_]
   ·exact hb0
   ·have hlt:b < s.heap.objs.size:=by
     simp only[aw,br,eC] at hb
     rcases hb with rfl | rfl | rfl | rfl | rfl
     ·exact lz
     ·exact ay hTI
     ·exact ay hTO
     ·obtain⟨o,e1,_⟩:=(rC s1);exact ay e1
     ·obtain⟨o,e1,_⟩:=(SK.at_obj s2);exact ay e1
    exact cb hlt
 done:=by
  intro X hP hw hK hc i pins s σ H E I hf st hg
  subst hP hw hK
  obtain⟨ys,hq2,hl⟩:=hg
  obtain⟨hz,hTI,⟨a,b,hTO⟩,s1,s2⟩:=st
  obtain⟨its2,rv2,p2⟩:=I.sk hq2
  have l2':=rv2.length
  have hh:=I.ok.hd hc
  have hT:s.TypeIs (.ref z) "zip" := ⟨_,hz,rfl⟩
  have hk:i=tx.cps.size\/(i < tx.cps.size/\i=its2.toArray.size):=by
   have h8:its2.toArray.size=its2.length:=aT ..
   have h9:tx.cps.toList.length=tx.cps.size:=ff
   have hl2:tx.cps.toList.length=i\/(i < tx.cps.toList.length/\ys.length=i):=hl
   rw[h9] at hl2
   rcases hl2 with e | ⟨e1,e2⟩
   ·exact .inl e.symm
   ·exact .inr ⟨e1,by omega⟩
  unfold pyNext
  refine ac (eR (bX (name:=Str.ofString "__next__") hT ei (b9 ei hT iO
   (yO (Gg D) (Ge (prog:=X.prog) (w:=X.w) (A:=X.A.in1) hh i1 tx tt) (SK.draws (prog:=X.prog) (w:=X.w) (A:=X.A.in1) k2 hh i2 l2 D.l2i2 its2.toArray) hz hTI hTO s1 ⟨s2,p2⟩ hk λh' tk e kp he=>?_) (im _))))
  obtain⟨o,ho,ho'⟩:=he
  refine ac (fR (T := "StopIteration") (b:=true) ⟨o,ho,ho'⟩ ke (al ⟨rfl,?_⟩))
  refine I.turnedM (ch:=[z,TO,i1,i2]) (λc o hb q=>?_) (λb hb=>hf b (by simp only[aw,br,eC] at hb ⊢;rcases hb with e | e | e | e <;> simp[e]))
  simp only[aw,br,eC,nK] at hb
  exact kp c o hb.1 hb.2.1 hb.2.2.1 hb.2.2.2 q
 self:=λA i s Q E st h=>nX st.1 h
section
variable {X:Cx}
def Tt (K:W.Frag)(k2:SK)(ta:TA):TI:=fun σ H R=>ta σ H λvs H1=>∃x b,vs=[.str x,.ref b]/\(∃ys,k2.sq K H1 b ys)/\R (QD K x k2 b) H1
theorem Lx {k2:SK}{l r:Expr}{ta:TA}{es:qo}{x1:Nat}{tpos p pos:Pos}(hg:Gl X "zip")(hm:X.mg "zip" = none)(ha:PA X [l,r] ta)(hs:starEach [l,r] X.env=(false,eval l X.env)::starEach [r] X.env:=by rfl)(hp:(backTo pos (starEach [r] X.env)).any (·.1)=false:=by rfl):
  PI X (.Tuple es x1 tpos) (.Call (.Name "zip" p) [l,r] [] pos) (Tt X.K k2 ta):=by
 intro pins s σ H R I h
 refine Call_ (d9 I hg hm oQ (bt (thn (ha pos pins s σ H _ I h) ?_) hs hp))
 rintro us s1 ⟨vs,H1,I1,r1,q1⟩
 obtain⟨x,b,e,⟨ys,hq2⟩,q⟩:=q1
 subst e
 obtain⟨u,v,rfl,ru,rv⟩:=vals2 r1
 obtain⟨t,rfl⟩:=ru
 cases rv
 obtain⟨its2,rv2,p2⟩:=I1.sk hq2
 refine Gf p2 λh' hz hTI hTO hi1 hi2 hsz hk=>?_
 have I2:Inv X pins σ H1 { s1 with heap:=h' }:=I1.kept (t':=s1.toks) hk
 have D:=zipApart_new (SK.is_lt p2) (SK.is_lt p2)
 have st:QF x t k2 (s1.heap.objs.size+4) (s1.heap.objs.size+2) (s1.heap.objs.size+3) s1.heap.objs.size (s1.heap.objs.size+1) b 0 h':=⟨hz,hTI,⟨_,_,hTO⟩,hi1,hi2⟩
 refine(wV (P:=X.prog) (w:=X.w) (K:=X.K) (es:=es) (x1:=x1) (tpos:=tpos) D).self X.A 0 { s1 with heap:=h' } _ _ st ?_
 refine⟨s1.heap.objs.size+4,_,_,_,H1,rfl,I2,wV D,st,λc hb=>?_,q⟩
 have hb':s1.heap.objs.size<=c:=by
  simp only[aw,br,eC] at hb
  rcases hb with e | e | e | e | e <;> rw[e] <;> omega
 exact I1.fpOk hb' (I1.hok.fresh hb')
end
end L2
namespace HT
open PySem PyProof.Rows
section
open PySem.SeqAt
open PySem.AutoSeq1 (wpAny_loadPart')
open PySem.MeetsSeq PySem.MeetsSeq2 PySem.MeetsSeq3
theorem IntsAre.drop_cons {vs:qh}{x:Int}{ns:qv}(h:IntsAre vs (x::ns)):∃t ws,vs=.int x t::ws/\IntsAre ws ns:=by
 cases h with
 | cons a t h'=>exact⟨t,_,rfl,h'⟩
theorem IntsAre.drop_nil {vs:qh}(h:IntsAre vs []):vs=[]:=by
 cases h
 rfl
theorem vU {its:qB}{i:Nat}{v:Value}{ws:qh}(h:its.toList.drop i=v::ws):its[((i:Nat):Int).toNat]?=some v/\its.toList.drop (i+1)=ws/\i < its.size:=by
 have h1:its.toList[i]?=some v:=by
  have:=ce (λl=>l[0]?) h
  simpa using this
 have h2:i < its.toList.length:=by
  rcases dc i its.toList.length with z | z
  ·exact z
  ·rw[List.drop_of_length_le z] at h;cases h
 refine⟨by simpa using h1,?_,by simpa using h2⟩
 rw[← k6,h]
 rfl
theorem yS {its:qB}{i:Nat}(h:its.toList.drop i=[]):its[((i:Nat):Int).toNat]?=none/\its.size<=i:=by
 have h1:its.size<=i:=by
  have:=ce List.length h
  simp at this
  omega
 exact⟨by simp;omega,h1⟩
theorem QG (p q:Addr)(its jts:qB)(n n2:Nat)(dd dd2:Option Addr)(sl sl2:Array (Option Value)):∀(ns ms:qv) (i:Nat),i<=its.size->i<=jts.size->IntsAre (its.toList.drop i) ns->IntsAre (jts.toList.drop i) ms->
  Meets (Builtin.«list.__eq__.loop» ⟨[.ref p,.ref q,rawInt i,rawInt 0],[]⟩)
   (λA R s=>s.heap.get? p=some { cls:=.type "list",dict:=dd,data:=.seq its n,slots:=sl }/\s.heap.get? q=some { cls:=.type "list",dict:=dd2,data:=.seq jts n2,slots:=sl2 }/\R (.ok (.ret (.bool (lexLt ns ms)))) s):=by
 intro ns
 induction ns with
 | nil=>
  intro ms i i1 i2 hi hj prog w A R s h
  obtain⟨hp,g,d,tk,os⟩:=s;obtain⟨hl,hb,h⟩:=h
  have e1:=yS (IntsAre.drop_nil hi)
  wp_walk using cn hl,cn hb
  rw[e1.1]
  cases ms with
  | nil=>
   have e2:=yS (IntsAre.drop_nil hj)
   rw[e2.1]
   wp_walk using cn hl,cn hb
   show R (.ok (.ret (.bool (decide (its.size < jts.size))))) _
   rw[bq (by omega)]
   exact h
  | cons y ms=>
   obtain⟨t,ws,ew,_⟩:=IntsAre.drop_cons hj
   have e2:=vU ew
   rw[e2.1]
   wp_walk using cn hl,cn hb
   show R (.ok (.ret (.bool (decide (its.size < jts.size))))) _
   rw[ca (by omega)]
   exact h
 | cons x ns ih=>
  intro ms i i1 i2 hi hj prog w A R s h
  obtain⟨hp,g,d,tk,os⟩:=s;obtain⟨hl,hb,h⟩:=h
  obtain⟨t,vs,ev,hi'⟩:=IntsAre.drop_cons hi
  have e1:=vU ev
  wp_walk using cn hl,cn hb
  rw[e1.1]
  cases ms with
  | nil=>
   have e2:=yS (IntsAre.drop_nil hj)
   rw[e2.1]
   wp_walk using cn hl,cn hb
   show R (.ok (.ret (.bool (decide (its.size < jts.size))))) _
   rw[bq (by omega)]
   exact h
  | cons y ms=>
   obtain⟨u,ws,ew,hj'⟩:=IntsAre.drop_cons hj
   have e2:=vU ew
   rw[e2.1]
   rw[lexLt_cons] at h
   obtain⟨e,he,hiff⟩:=Ia A.in1 ⟨hp,g,d,tk,os⟩ x t y u
   refine ac (he prog w _ _ ?_)
   cases e with
   | true=>
    rw[bp (hiff.mp rfl)] at h
    have hc:((i:Int)+1)=((i+1:Nat):Int):=by omega
    wp_walk
    rw[hc]
    refine⟨lx plain_eq_loop _,l8 entry_eq_loop ?_⟩
    rw[kf plain_eq_loop _]
    exact ih ms (i+1) (by omega) (by omega) (by rw[e1.2.1];exact hi') (by rw[e2.2.1];exact hj') prog w A R _ ⟨hl,hb,h⟩
   | false=>
    rw[a9 (λz=>absurd (hiff.mpr z) be)] at h
    have hri:=Ib A.in1 ⟨hp,g,d,tk,os⟩ x t y u prog w
    wp_walk using cn hl,cn hb
    rw[e1.1,e2.1]
    wp_walk using hri
    exact h
theorem Ly (p q:Addr)(its jts:qB)(n n2:Nat)(dd dd2:Option Addr)(sl sl2:Array (Option Value))(ns ms:qv)(hi:IntsAre its.toList ns)(hj:IntsAre jts.toList ms):
  Meets (Builtin.«list.__lt__» ⟨[.ref p,.ref q],[]⟩)
   (λA R s=>s.heap.get? p=some { cls:=.type "list",dict:=dd,data:=.seq its n,slots:=sl }/\s.heap.get? q=some { cls:=.type "list",dict:=dd2,data:=.seq jts n2,slots:=sl2 }/\R (.ok (.ret (.bool (lexLt ns ms)))) s):=by
 intro prog w A R s h
 obtain⟨hp,g,d,tk,os⟩:=s;obtain⟨hl,hb,h⟩:=h
 have f3:=AutoSeq1.sub_list_list
 wp_walk using cn hl,cn hb
 refine⟨lx plain_eq_loop _,l8 entry_eq_loop ?_⟩
 rw[kf plain_eq_loop _]
 exact QG p q its jts n n2 dd dd2 sl sl2 ns ms 0 (cK _) (cK _) (by simpa using hi) (by simpa using hj) prog w A R _ ⟨hl,hb,h⟩
end
theorem lt_listInts {prog:Program}{w:World}{A:Around}{E:fN}{s:Shared}{p q:Addr}{its jts:qB}{ns ms:qv}{Q:fN}(hl:s.heap.IsList p its)(hb:s.heap.IsList q jts)(hi:IntsAre its.toList ns)(hj:IntsAre jts.toList ms)
  (hu:A.units < cLine) (h:Q (.bool (lexLt ns ms)) s):wpAny (model prog w) A (compareOp .Lt (.ref p) (.ref q)) Q E s:=by
 obtain⟨⟨c1,d1,o1,s1⟩,ho,hc,n,hd⟩:=id hl
 obtain⟨⟨c2,d2,o2,s2⟩,ho2,hc2,n2,hd2⟩:=id hb
 simp only at hc hd hc2 hd2
 subst hc hd hc2 hd2
 exact richCompare_meets_room (op:=.Lt) ⟨_,ho,rfl⟩ ⟨_,ho2,rfl⟩ PySem.F.slot_list_lt PySem.F.entry_list_lt (PySem.F.args_list_lt_2 _ _) (Ly p q its jts n n2 d1 d2 s1 s2 ns ms hi hj)
  ⟨ho,ho2,⟨(λx=>nomatch x),h⟩⟩ hu
end HT
namespace L2
open PySem PyProof.Rows
section
variable {X:Cx}
def Ja (K:W.Frag):R2:=λx y H Q=>∃a b ns ms,x=.ref a/\y=.ref b/\SqL K H a (ns.map V.int)/\SqL K H b (ms.map V.int)/\Q (.bl (HT.lexLt ns ms)) H
theorem QH (hu:X.A.units < cLine):OpR X (compareOp .Lt) (Ja X.K):=by
 intro pins s σ H x y v u Q I rx ry h
 obtain⟨a,b,ns,ms,rfl,rfl,ha,hb,q⟩:=h
 cases rx
 cases ry
 obtain⟨its,r1,p1,_⟩:=I.list ha
 obtain⟨jts,r2,p2,_⟩:=I.list hb
 exact HT.lt_listInts p1.isList p2.isList (intsAre_of r1) (intsAre_of r2) hu ⟨.bl (HT.lexLt ns ms),H,I,rfl,q⟩
end
end L2
namespace L2
open PySem PySem.Spec PyProof.Rows
def en1 (k:SK)(h:Heap)(l:Addr):Heap:=h.push { cls:=.type k.ty,data:=.fields #[.ref l,.int 0 0] }
noncomputable def en2 (k:SK)(h:Heap)(l:Addr):Heap:=(en1 k h l).push { cls:=.type "enumerate",data:=.fields #[.none,.bool false,.ref h.objs.size,rawInt 0,.none,.none] }
theorem Lz (k:SK)(l:Addr)(xs:qB):Meets (Builtin.«enumerate.__new__» ⟨[.type "enumerate",.ref l],[]⟩) (λ_ R s=>k.is s.heap l xs/\R (.ok (.ret (.ref (en1 k s.heap l).objs.size))) { s with heap:=en2 k s.heap l }):=
 .of_wp λprog w A R s h=>by
  obtain⟨hp,g,d,tk,os⟩:=s
  obtain⟨q1,h⟩:=h
  have hsub:=sub_enumerate
  cases k with
  | L=>
   have e1:Heap.IsList (Shared.heap ⟨hp,g,d,tk,os⟩) l xs:=q1
   wp_walk using eD e1
   refine wpAny_stack_any λst=>al ?_
   split
   ·rename_i c _ _ _ _ _
    cases (c == Value.type "enumerate") <;> (wp_walk using eD e1;exact⟨_,rfl,h⟩)
   ·wp_walk using eD e1
    exact⟨_,rfl,h⟩
  | T=>
   have e1:Heap.IsTuple (Shared.heap ⟨hp,g,d,tk,os⟩) l xs:=q1
   wp_walk using eJ e1
   refine wpAny_stack_any λst=>al ?_
   split
   ·rename_i c _ _ _ _ _
    cases (c == Value.type "enumerate") <;> (wp_walk using eJ e1;exact⟨_,rfl,h⟩)
   ·wp_walk using eJ e1
    exact⟨_,rfl,h⟩
theorem Dj {prog:Program}{w:World}{A:Around}{E:fN}{s:Shared}{k:SK}{l:Addr}{xs:qB}{Q:fN}(q1:k.is s.heap l xs)
  (h:∀h',IsEnum h' (s.heap.objs.size+1) s.heap.objs.size 0 .none->k.at h' s.heap.objs.size l 0->(∀b o,s.heap.get? b=some o->h'.get? b=some o)->Q (.ref (s.heap.objs.size+1)) { s with heap:=h' }):
  wpAny (model prog w) A (call (.type "enumerate") [.ref l]) Q E s:=by
 refine ox F.called_enumerate (by decide) (F.typeCall_enumerate_1 _) (F.newCall_enumerate_1 _) (λobj=>F.args_object_init_2 obj _) F.entry_enumerate_new (Lz k l xs) ⟨q1,?_⟩
 have hz:(en1 k s.heap l).objs.size=s.heap.objs.size+1:=cq ..
 show _/\_
 rw[hz]
 have he:IsEnum (en2 k s.heap l) (s.heap.objs.size+1) s.heap.objs.size 0 .none:=by
  have z:=am (en1 k s.heap l) (o:={ cls:=.type "enumerate",data:=.fields #[.none,.bool false,.ref s.heap.objs.size,rawInt 0,.none,.none] }) rfl
  rw[hz] at z
  exact z
 exact⟨⟨_,he,rfl⟩,h _ he (SK.at_of (ae _ (am _ rfl))) λb o x=>ae _ (ae _ x)⟩
def QJ (K:W.Frag)(k:SK)(a:Addr):It:=
 ⟨λi H=>∃xs x,k.sq K H a xs/\xs[i]?=some x,λi H v H'=>∃t x,H t=none/\v=.ref t/\H'=upd H t (.tup [.int (i:Nat),x])/\∀xs,k.sq K H a xs->xs[i]?=some x,λi H=>∃xs,k.sq K H a xs/\xs.length=i⟩
def EAt (k:SK)(e it a:Addr)(i:Nat)(h:Heap):Prop:=(∃old,IsEnum h e it (i:Nat) old)/\k.at h it a i
theorem Dk {P:Program}{w:World}{K:W.Frag}{es:qo}{x1:Nat}{tpos:Pos}(k:SK)(a e it:Addr)(hne:e≠it)(hae:a≠e)(hai:a≠it):Turn P w K (.Tuple es x1 tpos) (QJ K k a) [it,e] e (EAt k e it a) where
 mem:=by simp
 obj:=λi h st b hb=>by
  obtain⟨⟨old,he⟩,s1⟩:=st
  simp only[aw,br,eC] at hb
  rcases hb with rfl | rfl
  ·exact SK.at_obj s1
  ·exact⟨_,he,λv y=>by have y':Data.fields _=Data.cell v:=y;cases y'⟩
 keep:=λi h h' st kk=>by
  obtain⟨⟨old,he⟩,s1⟩:=st
  exact⟨⟨old,kk e (by simp) _ he⟩,SK.at_keep s1 λo q=>kk it (by simp) o q⟩
 item:=by
  intro X hP hw hK hc i pins s σ H E I hf st hg
  subst hP hw hK
  obtain⟨xs,x,hq,hx⟩:=hg
  obtain⟨⟨old,he⟩,s1⟩:=st
  obtain⟨its,rv,p1⟩:=I.sk hq
  obtain⟨u,hu,ru⟩:=rv.get hx
  have hh:=I.ok.hd hc
  have hi1:i < its.toArray.size:=by
   rcases dc i its.length with q | q
   ·simpa using q
   ·rw[bo q] at hu;cases hu
  refine wpAny_pyNext_enum_itemD (SK.draws (prog:=X.prog) (w:=X.w) (A:=X.A.in1) k hh it a hai its.toArray) he ⟨s1,p1⟩ hi1 hne (by simp[hne,hae.symm]) λx' h' tk ex heo j1 htup hsz hk=>⟨_,rfl,?_⟩
  have eu:x'=u:=bg (by rw[← ex,← hu];simp)
  subst eu
  refine wpAny_letOwnedTupleGo_enum (s:={ s with heap:=h',toks:=tk+1 }) heo λh2 he2 hs2=>?_
  have hel:e < s.heap.objs.size:=ay he
  have g2:h2.get? s.heap.objs.size=some { cls:=.type "tuple",data:=.seq #[.int i tk,x'] }:=(hs2.2 _ (i0 hel)).trans htup
  have k2:∀b o,b∉[it,e]->s.heap.get? b=some o->h2.get? b=some o:=λb o hb q=>by
   simp only[aw,br,eC,nK] at hb
   exact(hs2.2 b hb.2).trans (hk b o hb.2 hb.1 q)
  have g1:k.at h2 it a (i+1):=SK.at_keep j1.1 λo q=>(hs2.2 it (fF hne)).trans q
  have ht2:∀b o,s.heap.get? b=some o->∃o',h2.get? b=some o':=λb o q=>by
   by_cases n1:b=it
   ·subst n1;obtain⟨o',e',_⟩:=SK.at_obj g1;exact⟨o',e'⟩
   ·by_cases n2:b=e
    ·subst n2;exact⟨_,he2⟩
    ·exact⟨o,k2 b o (by simp[n1,n2]) q⟩
  have I2:Inv X pins σ (upd H s.heap.objs.size (.tup [.int (i:Nat),x])) { s with heap:=h2,toks:=tk+1 }:=
   I.turnedL (ch:=[it,e]) k2 ht2 hf (aS _) ⟨by show 2<=sizeLine;decide,[.int i tk,x'],.cons ⟨_,rfl⟩ (.cons ru .nil),⟨_,g2,rfl,_,rfl⟩⟩
  refine⟨.ref s.heap.objs.size,_,I2,rfl,⟨s.heap.objs.size,x,I.fresh,rfl,rfl,λys hy=>by rw[I.sk_inj hy hq];exact hx⟩,⟨⟨x',he2⟩,g1⟩,λb hb=>?_⟩
  have hb0:=(hf b hb).1
  rw[aP ?_]
  ·exact hb0
  ·simp only[aw,br,eC] at hb
   rcases hb with rfl | rfl
   ·obtain⟨o,e1,_⟩:=SK.at_obj s1;exact cb (ay e1)
   ·exact cb hel
 done:=by
  intro X hP hw hK hc i pins s σ H E I hf st hg
  subst hP hw hK
  obtain⟨xs,hq,hx⟩:=hg
  obtain⟨⟨old,he⟩,s1⟩:=st
  obtain⟨its,rv,p1⟩:=I.sk hq
  obtain⟨f0,f1,f2,f3,f4,f5⟩:=hf it (by simp)
  have hl:=rv.length
  have hi:i=its.toArray.size:=by rw[aT];omega
  rw[hi] at s1
  exact wpAny_pyNext_enum_endD (SK.draws (prog:=X.prog) (w:=X.w) (A:=X.A.in1) k (I.ok.hd hc) it a hai its.toArray) he ⟨s1,p1⟩ λh' eb=>⟨rfl,I.turned (t':=s.toks) (λb o hb q=>eb b o hb q) f0 f1 f3 f4 f5⟩
 self:=λA i s Q E st h=>by
  obtain⟨⟨old,he⟩,s1⟩:=st
  have hT:s.TypeIs (.ref e) "enumerate" := ⟨_,he,rfl⟩
  refine jv hT F.slot_enumerate_iter (b9 F.slot_enumerate_iter hT F.entry_enumerate_iter ?_ (F.args_enumerate_iter_1 _))
  show wpAny _ _ (ret (.ref e)) _ _ s
  exact al ⟨_,rfl, "enumerate",_,hT,F.slot_enumerate_next.lookup,h⟩
section
variable {X:Cx}
def QK (K:W.Frag)(k:SK)(ta:TA):TI:=fun σ H R=>ta σ H λvs H1=>∃a,vs=[.ref a]/\(∃xs,k.sq K H1 a xs)/\R (QJ K k a) H1
theorem Jb {k:SK}{l:Expr}{ta:TA}{es:qo}{x1:Nat}{tpos p pos:Pos}(hg:Gl X "enumerate")(hm:X.mg "enumerate" = none)(ha:PA X [l] ta)(hs:starEach [l] X.env=[(false,eval l X.env)]:=by rfl):
  PI X (.Tuple es x1 tpos) (.Call (.Name "enumerate" p) [l] [] pos) (QK X.K k ta):=by
 intro pins s σ H R I h
 refine Call_ (d9 I hg hm PyProof.Rows.boot_enumerate (bt (thn (ha pos pins s σ H _ I h) ?_) hs rfl))
 rintro us s1 ⟨vs,H1,I1,r1,q1⟩
 obtain⟨a,e,⟨xs,hq⟩,q⟩:=q1
 subst e
 obtain⟨u,rfl,ru⟩:=vals1 r1
 cases ru
 obtain⟨its,rv,p1⟩:=I1.sk hq
 refine Dj p1 λh' he hit hk=>?_
 have I2:Inv X pins σ H1 { s1 with heap:=h' }:=I1.kept (t':=s1.toks) hk
 have la:=SK.is_lt p1
 have st:EAt k (s1.heap.objs.size+1) s1.heap.objs.size a 0 h':=⟨⟨.none,he⟩,hit⟩
 have T:=Dk (P:=X.prog) (w:=X.w) (K:=X.K) (es:=es) (x1:=x1) (tpos:=tpos) k a (s1.heap.objs.size+1) s1.heap.objs.size (Nat.succ_ne_self _) (cb (jI la)) (cb la)
 refine T.self X.A 0 { s1 with heap:=h' } _ _ st ?_
 refine⟨s1.heap.objs.size+1,[s1.heap.objs.size,s1.heap.objs.size+1],_,_,H1,rfl,I2,T,st,λb hb=>?_,q⟩
 have hb':s1.heap.objs.size<=b:=by
  simp only[aw,br,eC] at hb
  rcases hb with z | z
  ·rw[z];exact aS _
  ·rw[z];exact Nat.le_succ _
 exact I1.fpOk hb' (I1.hok.fresh hb')
end
end L2
namespace MR
open PySem L2
inductive PV where
 | non | bl (b:Bool) | int (i:Int) | str (x:Str)
 | lst (xs:List PV) | frz (xs:List PV) | tup (xs:List PV) | ktp (xs:List PV)
 | dK (kvs:List (Key×PV)) | dT (kvs:List (List Key×PV))
 | obj (c:Nat) (fs:List (Str×PV))
structure MC where
 K:W.Frag
 cl:Nat->Addr
mutual
inductive Rep (C:MC) (A:Addr->Prop) (H:Hp):V->PV->Prop
 | non:Rep C A H .non .non
 | bl (b:Bool):Rep C A H (.bl b) (.bl b)
 | int (i:Int):Rep C A H (.int i) (.int i)
 | str (x:Str):Rep C A H (.str x) (.str x)
 | lst {a:Addr}{vs:List V}{xs:List PV}:H a=some (.lst vs)->A a->Reps C A H vs xs->Rep C A H (.ref a) (.lst xs)
 | lstF {a:Addr}{o:Obj}{vs:List V}{xs:List PV}:H a=some (.frz o (.lst vs))->Reps C A H vs xs->Rep C A H (.ref a) (.frz xs)
 | lstK {a:Addr}{vs:List V}{xs:List PV}:SqL C.K (λ_=>none) a vs->Reps C A H vs xs->Rep C A H (.ref a) (.frz xs)
 | tup {a:Addr}{vs:List V}{xs:List PV}:H a=some (.tup vs)->Reps C A H vs xs->Rep C A H (.ref a) (.tup xs)
 | tupC {a:Addr}{vs:List V}{xs:List PV}:KTup C.K a vs->Reps C A H vs xs->Rep C A H (.ref a) (.tup xs)
 | tupK {a:Addr}{vs:List V}{xs:List PV}:SqT C.K (λ_=>none) a vs->Reps C A H vs xs->Rep C A H (.ref a) (.ktp xs)
 | dK {a:Addr}{kv:List (Key×V)}{kvs:List (Key×PV)}:H a=some (.dK kv)->A a->RepK C A H kv kvs->Rep C A H (.ref a) (.dK kvs)
 | dT {a:Addr}{kv:List (List Key×V)}{kvs:List (List Key×PV)}:H a=some (.dT kv)->A a->RepT C A H kv kvs->Rep C A H (.ref a) (.dT kvs)
 | obj {a dx:Addr}{c:Nat}{f:List (Str×V)}{fs:List (Str×PV)}:H a=some (.ins (C.cl c) dx f)->A a->RepF C A H f fs->Rep C A H (.ref a) (.obj c fs)
inductive Reps (C:MC) (A:Addr->Prop) (H:Hp):List V->List PV->Prop
 | nil:Reps C A H [] []
 | cons {v:V}{p:PV}{vs:List V}{ps:List PV}:Rep C A H v p->Reps C A H vs ps->Reps C A H (v::vs) (p::ps)
inductive RepK (C:MC) (A:Addr->Prop) (H:Hp):List (Key×V)->List (Key×PV)->Prop
 | nil:RepK C A H [] []
 | cons {k:Key}{v:V}{p:PV}{vs:List (Key×V)}{ps:List (Key×PV)}:Rep C A H v p->RepK C A H vs ps->RepK C A H ((k,v)::vs) ((k,p)::ps)
inductive RepT (C:MC) (A:Addr->Prop) (H:Hp):List (List Key×V)->List (List Key×PV)->Prop
 | nil:RepT C A H [] []
 | cons {k:List Key}{v:V}{p:PV}{vs:List (List Key×V)}{ps:List (List Key×PV)}:Rep C A H v p->RepT C A H vs ps->RepT C A H ((k,v)::vs) ((k,p)::ps)
inductive RepF (C:MC) (A:Addr->Prop) (H:Hp):List (Str×V)->List (Str×PV)->Prop
 | nil:RepF C A H [] []
 | cons {k:Str}{v:V}{p:PV}{vs:List (Str×V)}{ps:List (Str×PV)}:Rep C A H v p->RepF C A H vs ps->RepF C A H ((k,v)::vs) ((k,p)::ps)
end
def Dl:HO->Bool
 | .lst _=>true
 | .dK _=>true
 | .dT _=>true
 | .ins _ _ _=>true
 | _=>false
def Ex (A:Addr->Prop)(H:Hp)(A':Addr->Prop)(H':Hp):Prop:=∀a o,H a=some o->(A a->H' a=some o/\A' a)/\(Dl o=false->H' a=some o)
theorem Ex.refl (A:Addr->Prop)(H:Hp):Ex A H A H:=λa o h=>⟨λq=>⟨h,q⟩,λ_=>h⟩
theorem Ex.trans {A B C:Addr->Prop}{H I J:Hp}(e:Ex A H B I)(f:Ex B I C J):Ex A H C J:=λa o h=>⟨λq=>by
 obtain⟨h1,q1⟩:=(e a o h).1 q
 exact(f a o h1).1 q1,λm=>(f a o ((e a o h).2 m)).2 m⟩
theorem Ex.of_same {A:Addr->Prop}{H H':Hp}(s:Same H H'):Ex A H A H':=λa o h=>⟨λq=>⟨s a o h,q⟩,λ_=>s a o h⟩
mutual
theorem Rep.ex {C:MC}{A A':Addr->Prop}{H H':Hp}(e:Ex A H A' H'):∀{v:V}{p:PV},Rep C A H v p->Rep C A' H' v p
 | _,_,.non=>.non
 | _,_,.bl b=>.bl b
 | _,_,.int i=>.int i
 | _,_,.str x=>.str x
 | _,_,.lst h q r=>.lst ((e _ _ h).1 q).1 ((e _ _ h).1 q).2 (Reps.ex e r)
 | _,_,.lstF h r=>.lstF ((e _ _ h).2 rfl) (Reps.ex e r)
 | _,_,.lstK h r=>.lstK h (Reps.ex e r)
 | _,_,.tup h r=>.tup ((e _ _ h).2 rfl) (Reps.ex e r)
 | _,_,.tupC h r=>.tupC h (Reps.ex e r)
 | _,_,.tupK h r=>.tupK h (Reps.ex e r)
 | _,_,.dK h q r=>.dK ((e _ _ h).1 q).1 ((e _ _ h).1 q).2 (RepK.ex e r)
 | _,_,.dT h q r=>.dT ((e _ _ h).1 q).1 ((e _ _ h).1 q).2 (RepT.ex e r)
 | _,_,.obj h q r=>.obj ((e _ _ h).1 q).1 ((e _ _ h).1 q).2 (RepF.ex e r)
theorem Reps.ex {C:MC}{A A':Addr->Prop}{H H':Hp}(e:Ex A H A' H'):∀{v:List V}{p:List PV},Reps C A H v p->Reps C A' H' v p
 | _,_,.nil=>.nil
 | _,_,.cons h t=>.cons (Rep.ex e h) (Reps.ex e t)
theorem RepK.ex {C:MC}{A A':Addr->Prop}{H H':Hp}(e:Ex A H A' H'):∀{v:List (Key×V)}{p:List (Key×PV)},RepK C A H v p->RepK C A' H' v p
 | _,_,.nil=>.nil
 | _,_,.cons h t=>.cons (Rep.ex e h) (RepK.ex e t)
theorem RepT.ex {C:MC}{A A':Addr->Prop}{H H':Hp}(e:Ex A H A' H'):∀{v:List (List Key×V)}{p:List (List Key×PV)},RepT C A H v p->RepT C A' H' v p
 | _,_,.nil=>.nil
 | _,_,.cons h t=>.cons (Rep.ex e h) (RepT.ex e t)
theorem RepF.ex {C:MC}{A A':Addr->Prop}{H H':Hp}(e:Ex A H A' H'):∀{v:List (Str×V)}{p:List (Str×PV)},RepF C A H v p->RepF C A' H' v p
 | _,_,.nil=>.nil
 | _,_,.cons h t=>.cons (Rep.ex e h) (RepF.ex e t)
end
theorem dq {A A':Addr->Prop}{H:Hp}(h:∀a o,H a=some o->A a->A' a):Ex A H A' H:=λa o e=>⟨λq=>⟨e,h a o e q⟩,λ_=>e⟩
theorem Reps.length {C:MC}{A:Addr->Prop}{H:Hp}:∀{vs:List V}{ps:List PV},Reps C A H vs ps->vs.length=ps.length
 | _,_,.nil=>rfl
 | _,_,.cons _ t=>by simp[Reps.length t]
theorem Reps.append {C:MC}{A:Addr->Prop}{H:Hp}:∀{vs us:List V}{ps qs:List PV},Reps C A H vs ps->Reps C A H us qs->Reps C A H (vs++us) (ps++qs)
 | _,_,_,_,.nil,h=>h
 | _,_,_,_,.cons h t,r=>.cons h (Reps.append t r)
theorem Reps.get {C:MC}{A:Addr->Prop}{H:Hp}:∀{vs:List V}{ps:List PV}{i:Nat}{p:PV},Reps C A H vs ps->ps[i]?=some p->∃v,vs[i]?=some v/\Rep C A H v p
 | _,_,_,_,.nil,e=>by simp at e
 | _,_,0,_,.cons h t,e=>by simp at e;subst e;exact⟨_,rfl,h⟩
 | _,_,i+1,p,.cons h t,e=>by
  obtain⟨v,e1,r⟩:=Reps.get (i:=i) (p:=p) t (by simpa using e)
  exact⟨v,by simpa using e1,r⟩
theorem Reps.drop {C:MC}{A:Addr->Prop}{H:Hp}:∀{vs:List V}{ps:List PV}(n:Nat),Reps C A H vs ps->Reps C A H (vs.drop n) (ps.drop n)
 | _,_,0,h=>by simpa using h
 | _,_,n+1,.nil=>by simpa using Reps.nil
 | _,_,n+1,.cons _ t=>by simpa using Reps.drop n t
theorem Reps.take {C:MC}{A:Addr->Prop}{H:Hp}:∀{vs:List V}{ps:List PV}(n:Nat),Reps C A H vs ps->Reps C A H (vs.take n) (ps.take n)
 | _,_,0,h=>by simpa using Reps.nil
 | _,_,n+1,.nil=>by simpa using Reps.nil
 | _,_,n+1,.cons h t=>by simpa using Reps.cons h (Reps.take n t)
theorem Reps.set {C:MC}{A:Addr->Prop}{H:Hp}{v:V}{p:PV}(r:Rep C A H v p):∀{vs:List V}{ps:List PV}(n:Nat),Reps C A H vs ps->Reps C A H (vs.set n v) (ps.set n p)
 | _,_,_,.nil=>.nil
 | _,_,0,.cons _ t=>.cons r t
 | _,_,n+1,.cons h t=>.cons h (Reps.set r n t)
theorem Reps.reverse {C:MC}{A:Addr->Prop}{H:Hp}:∀{vs:List V}{ps:List PV},Reps C A H vs ps->Reps C A H vs.reverse ps.reverse
 | _,_,.nil=>.nil
 | _,_,.cons h t=>by
  rw[kU,kU]
  exact(Reps.reverse t).append (.cons h .nil)
theorem vV {C:MC}{A:Addr->Prop}{H:Hp}{α:Type}(f:α->V)(g:α->PV)(h:∀x,Rep C A H (f x) (g x)):∀l:List α,Reps C A H (l.map f) (l.map g)
 | []=>.nil
 | x::l=>.cons (h x) (vV f g h l)
theorem RepK.val {C:MC}{A:Addr->Prop}{H:Hp}{k:Key}:∀{kv:List (Key×V)}{kvs:List (Key×PV)},RepK C A H kv kvs->(∃v p,iD kv k=some v/\(kvs.find? λx=>decide (x.1=k)).map (·.2)=some p/\Rep C A H v p)\/(iD kv k=none/\(kvs.find? λx=>decide (x.1=k)).map (·.2)=none)
 | _,_,.nil=>.inr ⟨rfl,rfl⟩
 | _,_,.cons (k:=k') (v:=v) (p:=p) h t=>by
  by_cases e:k'=k
  ·subst e
   exact .inl ⟨v,p,mD rfl,by simp,h⟩
  ·rw[mF e,oy (by simpa using e)]
   exact RepK.val t
theorem RepT.val {C:MC}{A:Addr->Prop}{H:Hp}{k:List Key}:∀{kv:List (List Key×V)}{kvs:List (List Key×PV)},RepT C A H kv kvs->(∃v p,iD kv k=some v/\(kvs.find? λx=>decide (x.1=k)).map (·.2)=some p/\Rep C A H v p)\/(iD kv k=none/\(kvs.find? λx=>decide (x.1=k)).map (·.2)=none)
 | _,_,.nil=>.inr ⟨rfl,rfl⟩
 | _,_,.cons (k:=k') (v:=v) (p:=p) h t=>by
  by_cases e:k'=k
  ·subst e
   exact .inl ⟨v,p,mD rfl,by simp,h⟩
  ·rw[mF e,oy (by simpa using e)]
   exact RepT.val t
def Top (C:MC)(A:Addr->Prop)(H:Hp)(a:Addr):PV->Prop
 | .lst xs=>∃vs,H a=some (.lst vs)/\Reps C A H vs xs
 | .dK kvs=>∃kv,H a=some (.dK kv)/\RepK C A H kv kvs
 | .dT kvs=>∃kv,H a=some (.dT kv)/\RepT C A H kv kvs
 | .obj c fs=>∃dx f,H a=some (.ins (C.cl c) dx f)/\RepF C A H f fs
 | _=>False
theorem Top.ex {C:MC}{A A':Addr->Prop}{H H':Hp}{a:Addr}{p:PV}(e:Ex A H A' H')(h:∀o,H a=some o->H' a=some o)(t:Top C A H a p):Top C A' H' a p:=by
 cases p with
 | lst xs=>obtain⟨vs,q,r⟩:=t;exact⟨vs,h _ q,r.ex e⟩
 | dK kvs=>obtain⟨vs,q,r⟩:=t;exact⟨vs,h _ q,r.ex e⟩
 | dT kvs=>obtain⟨vs,q,r⟩:=t;exact⟨vs,h _ q,r.ex e⟩
 | obj c fs=>obtain⟨dx,f,q,r⟩:=t;exact⟨dx,f,h _ q,r.ex e⟩
 | _=>exact t
theorem Top.live {C:MC}{A:Addr->Prop}{H:Hp}{a:Addr}{p:PV}(t:Top C A H a p):∃o,H a=some o/\Dl o=true:=by
 cases p with
 | lst xs=>obtain⟨vs,q,r⟩:=t;exact⟨_,q,rfl⟩
 | dK kvs=>obtain⟨vs,q,r⟩:=t;exact⟨_,q,rfl⟩
 | dT kvs=>obtain⟨vs,q,r⟩:=t;exact⟨_,q,rfl⟩
 | obj c fs=>obtain⟨dx,f,q,r⟩:=t;exact⟨_,q,rfl⟩
 | _=>exact t.elim
theorem Top.rep {C:MC}{A:Addr->Prop}{H:Hp}{a:Addr}{p:PV}(t:Top C A H a p)(h:A a):Rep C A H (.ref a) p:=by
 cases p with
 | lst xs=>obtain⟨vs,q,r⟩:=t;exact .lst q h r
 | dK kvs=>obtain⟨vs,q,r⟩:=t;exact .dK q h r
 | dT kvs=>obtain⟨vs,q,r⟩:=t;exact .dT q h r
 | obj c fs=>obtain⟨dx,f,q,r⟩:=t;exact .obj q h r
 | _=>exact t.elim
def RepB (C:MC)(A:Addr->Prop)(H:Hp)(v:V)(p:PV):Prop:=Rep C A H v p\/∃a,v=.ref a/\Top C A H a p
theorem RepB.ex {C:MC}{A A':Addr->Prop}{H H':Hp}{v:V}{p:PV}(e:Ex A H A' H')(s:Same H H')(h:RepB C A H v p):RepB C A' H' v p:=by
 rcases h with h | ⟨a,q,t⟩
 ·exact .inl (h.ex e)
 ·exact .inr ⟨a,q,t.ex e λo z=>s _ _ z⟩
section
variable {C:MC}{A:Addr->Prop}{H:Hp}{v:V}
theorem sqK {K:W.Frag}{a:Addr}{vs:List V}(h:SqL K (λ_=>none) a vs):SqL K H a vs:=by
 rcases h with (h | ⟨o,h⟩) | h
 ·cases h
 ·cases h
 ·exact .inr h
theorem ue {K:W.Frag}{a:Addr}{vs:List V}(h:SqT K (λ_=>none) a vs):SqT K H a vs:=by
 rcases h with (h | ⟨o,h⟩) | h
 ·cases h
 ·cases h
 ·exact .inr h
theorem RepB.lst {xs:List PV}(h:RepB C A H v (.lst xs)):∃a vs,v=.ref a/\H a=some (.lst vs)/\Reps C A H vs xs:=by
 rcases h with h | ⟨a,rfl,vs,q,r⟩
 ·cases h with
  | lst q _ r=>exact⟨_,_,rfl,q,r⟩
 ·exact⟨a,vs,rfl,q,r⟩
theorem RepB.frz {xs:List PV}(h:RepB C A H v (.frz xs)):∃a vs,v=.ref a/\SqL C.K H a vs/\Reps C A H vs xs:=by
 rcases h with h | ⟨a,rfl,t⟩
 ·cases h with
  | lstF q r=>exact⟨_,_,rfl,.inl (.inr ⟨_,q⟩),r⟩
  | lstK q r=>exact⟨_,_,rfl,sqK q,r⟩
 ·exact t.elim
def TupR (K:W.Frag)(H:Hp)(a:Addr)(vs:List V):Prop:=H a=some (.tup vs)\/KTup K a vs
theorem TupR.sq {K:W.Frag}{H:Hp}{a:Addr}{vs:List V}(h:TupR K H a vs):SqT K H a vs:=h.elim (λq=>SqT.of q) fm
theorem TupR.rep {C:MC}{A:Addr->Prop}{H:Hp}{a:Addr}{vs:List V}{xs:List PV}(h:TupR C.K H a vs)(r:Reps C A H vs xs):Rep C A H (.ref a) (.tup xs):=h.elim (λq=>.tup q r) λq=>.tupC q r
theorem TupR.ex {K:W.Frag}{A A':Addr->Prop}{H H':Hp}{a:Addr}{vs:List V}(h:TupR K H a vs)(e:Ex A H A' H'):TupR K H' a vs:=h.imp (λq=>(e _ _ q).2 rfl) id
theorem TupR.up {K:W.Frag}{H H':Hp}{a:Addr}{vs:List V}(h:TupR K H a vs)(s:Same H H'):TupR K H' a vs:=h.imp (λq=>s _ _ q) id
theorem TupR.key {K:W.Frag}{H:Hp}{a:Addr}{vs:List V}{ks:List Key}(h:TupR K H a vs)(k:q8 ks vs):CKey K H a ks:=h.imp (λq=>⟨vs,q,k⟩) λq=>⟨vs,q,k⟩
theorem RepB.tup {xs:List PV}(h:RepB C A H v (.tup xs)):∃a vs,v=.ref a/\TupR C.K H a vs/\Reps C A H vs xs:=by
 rcases h with h | ⟨a,rfl,t⟩
 ·cases h with
  | tup q r=>exact⟨_,_,rfl,.inl q,r⟩
  | tupC q r=>exact⟨_,_,rfl,.inr q,r⟩
 ·exact t.elim
theorem RepB.ktp {xs:List PV}(h:RepB C A H v (.ktp xs)):∃a vs,v=.ref a/\SqT C.K H a vs/\Reps C A H vs xs:=by
 rcases h with h | ⟨a,rfl,t⟩
 ·cases h with
  | tupK q r=>exact⟨_,_,rfl,ue q,r⟩
 ·exact t.elim
theorem RepB.dK {kvs:List (Key×PV)}(h:RepB C A H v (.dK kvs)):∃a kv,v=.ref a/\H a=some (.dK kv)/\RepK C A H kv kvs:=by
 rcases h with h | ⟨a,rfl,vs,q,r⟩
 ·cases h with
  | dK q _ r=>exact⟨_,_,rfl,q,r⟩
 ·exact⟨a,vs,rfl,q,r⟩
theorem RepB.dT {kvs:List (List Key×PV)}(h:RepB C A H v (.dT kvs)):∃a kv,v=.ref a/\H a=some (.dT kv)/\RepT C A H kv kvs:=by
 rcases h with h | ⟨a,rfl,vs,q,r⟩
 ·cases h with
  | dT q _ r=>exact⟨_,_,rfl,q,r⟩
 ·exact⟨a,vs,rfl,q,r⟩
theorem RepB.obj {c:Nat}{fs:List (Str×PV)}(h:RepB C A H v (.obj c fs)):∃a dx f,v=.ref a/\H a=some (.ins (C.cl c) dx f)/\RepF C A H f fs:=by
 rcases h with h | ⟨a,rfl,dx,vs,q,r⟩
 ·cases h with
  | obj q _ r=>exact⟨_,_,_,rfl,q,r⟩
 ·exact⟨a,dx,vs,rfl,q,r⟩
theorem RepB.int {i:Int}(h:RepB C A H v (.int i)):v=.int i:=by
 rcases h with h | ⟨a,rfl,t⟩
 ·cases h;rfl
 ·exact t.elim
theorem RepB.str {x:Str}(h:RepB C A H v (.str x)):v=.str x:=by
 rcases h with h | ⟨a,rfl,t⟩
 ·cases h;rfl
 ·exact t.elim
theorem RepB.bl {x:Bool}(h:RepB C A H v (.bl x)):v=.bl x:=by
 rcases h with h | ⟨a,rfl,t⟩
 ·cases h;rfl
 ·exact t.elim
theorem RepB.non (h:RepB C A H v .non):v=.non:=by
 rcases h with h | ⟨a,rfl,t⟩
 ·cases h;rfl
 ·exact t.elim
end
structure BX where
 C:MC
 A:Addr->Prop
 H0:Hp
 fx:Nat->Option V
abbrev Env:=List (Option PV)
abbrev qS:=Env->Option PV
def Bs (b:BX)(Ow:Addr->Prop)(a:Addr):Prop:=¬ Ow a/\(b.A a\/b.H0 a=none)
structure ER (b:BX)(Ow:Addr->Prop)(G:qf)(σ:St)(env:Env)(H:Hp):Prop where
 len:σ.length=env.length
 same:Same b.H0 H
 live:∀a,Ow a->∃o,H a=some o
 new:∀a,Ow a->b.H0 a=none
 val:∀i p,env[i]?=some (some p)->i∉G->∃v,σ[i]?=some (some v)/\Rep b.C (Bs b Ow) H v p
 own:∀i p,env[i]?=some (some p)->i∈G->∃a,σ[i]?=some (some (.ref a))/\Ow a/\Top b.C (Bs b Ow) H a p
 sep:∀i j a p q,env[i]?=some (some p)->i∈G->σ[i]?=some (some (.ref a))->env[j]?=some (some q)->j∈G->σ[j]?=some (some (.ref a))->i=j
 fix:∀i v,b.fx i=some v->σ[i]?=some (some v)
inductive Md where | val | own | bor
def Res (b:BX)(Ow:Addr->Prop)(H H':Hp)(m:Md)(v:V)(p:PV):Prop:=match m with
 | .val=>Rep b.C (Bs b Ow) H' v p
 | .own=>∃a,v=.ref a/\H a=none/\Top b.C (λc=>Bs b Ow c/\c≠a) H' a p
 | .bor=>RepB b.C (Bs b Ow) H' v p
def tM (b:BX)(G:qf)(m:Md)(f:qS):TE:=fun σ H Q=>∃Ow env p,ER b Ow G σ env H/\f env=some p/\∀v H',Same H H'->Res b Ow H H' m v p->Q v H'
def tMT (b:BX)(G:qf)(f:Env->Option Bool):TT:=fun σ H Q=>∃Ow env k,ER b Ow G σ env H/\f env=some k/\∀H',Same H H'->Q k H'
section
variable {b:BX}{Ow:Addr->Prop}{G:qf}{σ:St}{env:Env}{H H':Hp}
theorem ER.up (E:ER b Ow G σ env H)(s:Same H H'):ER b Ow G σ env H':=
 ⟨E.len,E.same.trans s,λa h=>let ⟨o,e⟩:=E.live a h;⟨o,s _ _ e⟩,E.new,λi p h n=>let ⟨v,e,r⟩:=E.val i p h n;⟨v,e,r.ex (.of_same s)⟩,
  λi p h n=>let ⟨a,e,w,t⟩:=E.own i p h n;⟨a,e,w,t.ex (.of_same s) λo z=>s _ _ z⟩,E.sep,E.fix⟩
theorem ER.fresh (E:ER b Ow G σ env H){a:Addr}(h:H a=none):Bs b Ow a:=
 ⟨λw=>(by obtain⟨o,e⟩:=E.live a w;rw[h] at e;cases e),.inr (E.same.free h)⟩
theorem Res.val {m:Md}{v:V}{p:PV}(E:ER b Ow G σ env H)(hm:m≠.bor)(r:Res b Ow H H' m v p):Res b Ow H H' .val v p:=by
 cases m with
 | val=>exact r
 | bor=>exact absurd rfl hm
 | own=>
  obtain⟨a,rfl,h,t⟩:=r
  have hw:Ex (λc=>Bs b Ow c/\c≠a) H' (Bs b Ow) H':=dq λ_ _ _ z=>z.1
  exact(t.ex hw λo z=>z).rep (E.fresh h)
theorem Res.bor {m:Md}{v:V}{p:PV}(r:Res b Ow H H' m v p):Res b Ow H H' .bor v p:=by
 cases m with
 | val=>exact .inl r
 | bor=>exact r
 | own=>
  obtain⟨a,rfl,h,t⟩:=r
  have hw:Ex (λc=>Bs b Ow c/\c≠a) H' (Bs b Ow) H':=dq λ_ _ _ z=>z.1
  exact .inr ⟨a,rfl,t.ex hw λo z=>z⟩
theorem Res.up {m:Md}{v:V}{p:PV}{H'':Hp}(r:Res b Ow H H' m v p)(s:Same H' H''):Res b Ow H H'' m v p:=by
 cases m with
 | val=>exact Rep.ex (.of_same s) r
 | bor=>exact RepB.ex (.of_same s) s r
 | own=>
  obtain⟨a,e,h,t⟩:=r
  exact⟨a,e,h,t.ex (.of_same s) λo z=>s _ _ z⟩
theorem Res.down {m:Md}{v:V}{p:PV}{H'':Hp}(s:Same H H')(r:Res b Ow H' H'' m v p):Res b Ow H H'' m v p:=by
 cases m with
 | val=>exact r
 | bor=>exact r
 | own=>
  obtain⟨a,e,h,t⟩:=r
  exact⟨a,e,s.free h,t⟩
end
theorem PE.imp {X:Cx}{e:Expr}{t u:TE}(h:PE X e t)(i:∀ σ H Q,u σ H Q->t σ H Q):PE X e u:=λpins s σ H Q I q=>h pins s σ H Q I (i σ H Q q)
theorem PT.imp {X:Cx}{e:Expr}{t u:TT}(h:PT X e t)(i:∀ σ H Q,u σ H Q->t σ H Q):PT X e u:=λpins s σ H Q I q=>h pins s σ H Q I (i σ H Q q)
theorem PS.imp {X:Cx}{e:Stmt}{t u:TS}(h:PS X e t)(i:∀D σ H,u D σ H->t D σ H):PS X e u:=λpins s σ H D I q=>h pins s σ H D I (i D σ H q)
theorem PE.or {X:Cx}{e:Expr}{t u:TE}(h:PE X e t)(h':PE X e u):PE X e (fun σ H Q=>t σ H Q\/u σ H Q):=λpins s σ H Q I q=>q.elim (h pins s σ H Q I) (h' pins s σ H Q I)
theorem OpR.or {X:Cx}{op:Value->Value->Sem Value}{r r':R2}(h:OpR X op r)(h':OpR X op r'):OpR X op (λx y H Q=>r x y H Q\/r' x y H Q):=λpins s σ H x y v u Q I rx ry q=>q.elim (h pins s σ H x y v u Q I rx ry) (h' pins s σ H x y v u Q I rx ry)
abbrev SE (X:Cx)(b:BX)(G:qf)(m:Md)(e:Expr)(f:qS):Prop:=PE X e (tM b G m f)
abbrev ST (X:Cx)(b:BX)(G:qf)(e:Expr)(f:Env->Option Bool):Prop:=PT X e (tMT b G f)
theorem SE.bor {X:Cx}{b:BX}{G:qf}{m:Md}{e:Expr}{f:qS}(h:SE X b G m e f):SE X b G .bor e f:=
 PE.imp h fun σ H Q ⟨Ow,env,p,E,hf,k⟩=>⟨Ow,env,p,E,hf,λv H' s r=>k v H' s r.bor⟩
theorem SE.val {X:Cx}{b:BX}{G:qf}{e:Expr}{f:qS}(h:SE X b G .own e f):SE X b G .val e f:=
 PE.imp h fun σ H Q ⟨Ow,env,p,E,hf,k⟩=>⟨Ow,env,p,E,hf,λv H' s r=>k v H' s (r.val E (by intro z;cases z))⟩
noncomputable def bC (p:PV)(env:Env):Option PV:=some p
@[simp] theorem V4 (p:PV)(env:Env):bC p env=(some p):=id rfl
noncomputable def bV (i:Nat)(env:Env):Option PV:=match env[i]? with | some o=>o | none=>none
@[simp] theorem V5 (i:Nat)(env:Env):bV i env=(match env[i]? with | some o=>o | none=>none):=id rfl
noncomputable def b1 (g:PV->Option PV)(f:qS)(env:Env):Option PV:=(f env).bind g
@[simp] theorem V6 (g:PV->Option PV)(f:qS)(env:Env):b1 g f env=((f env).bind g):=id rfl
noncomputable def b2 (g:PV->PV->Option PV)(f h:qS)(env:Env):Option PV:=(f env).bind λx=>(h env).bind λy=>g x y
@[simp] theorem V7 (g:PV->PV->Option PV)(f h:qS)(env:Env):b2 g f h env=((f env).bind λx=>(h env).bind λy=>g x y):=id rfl
noncomputable def b3 (g:PV->PV->PV->Option PV)(f h k:qS)(env:Env):Option PV:=(f env).bind λx=>(h env).bind λy=>(k env).bind λz=>g x y z
@[simp] theorem V8 (g:PV->PV->PV->Option PV)(f h k:qS)(env:Env):b3 g f h k env=((f env).bind λx=>(h env).bind λy=>(k env).bind λz=>g x y z):=id rfl
noncomputable def rD (f g:qS)(env:Env):Option PV:=(f env).bind λx=>match x with | .bl true=>g env | .bl false=>some (.bl false) | _=>none
@[simp] theorem Vb (f g:qS)(env:Env):rD f g env=((f env).bind λx=>match x with | .bl true=>g env | .bl false=>some (.bl false) | _=>none):=id rfl
noncomputable def bOr (f g:qS)(env:Env):Option PV:=(f env).bind λx=>match x with | .bl true=>some (.bl true) | .bl false=>g env | _=>none
@[simp] theorem Vv (f g:qS)(env:Env):bOr f g env=((f env).bind λx=>match x with | .bl true=>some (.bl true) | .bl false=>g env | _=>none):=id rfl
noncomputable def yU (f:qS)(env:Env):Option PV:=(f env).bind λx=>match x with | .bl c=>some (.bl (!c)) | _=>none
@[simp] theorem Vc (f:qS)(env:Env):yU f env=((f env).bind λx=>match x with | .bl c=>some (.bl (!c)) | _=>none):=id rfl
noncomputable def bIf (c:Env->Option Bool)(f g:qS)(env:Env):Option PV:=(c env).bind λx=>if x=true then f env else g env
@[simp] theorem Vw (c:Env->Option Bool)(f g:qS)(env:Env):bIf c f g env=((c env).bind λx=>if x=true then f env else g env):=id rfl
noncomputable def tV (f:qS)(env:Env):Option Bool:=(f env).bind λx=>match x with | .bl c=>some c | _=>none
@[simp] theorem V9 (f:qS)(env:Env):tV f env=((f env).bind λx=>match x with | .bl c=>some c | _=>none):=id rfl
noncomputable def tA (f g:Env->Option Bool)(env:Env):Option Bool:=(f env).bind λx=>if x=true then g env else some false
@[simp] theorem V_ (f g:Env->Option Bool)(env:Env):tA f g env=((f env).bind λx=>if x=true then g env else some false):=id rfl
noncomputable def tO (f g:Env->Option Bool)(env:Env):Option Bool:=(f env).bind λx=>if x=true then some true else g env
@[simp] theorem Wa (f g:Env->Option Bool)(env:Env):tO f g env=((f env).bind λx=>if x=true then some true else g env):=id rfl
noncomputable def tN (f:Env->Option Bool)(env:Env):Option Bool:=(f env).bind λx=>some (!x)
@[simp] theorem Wb (f:Env->Option Bool)(env:Env):tN f env=((f env).bind λx=>some (!x)):=id rfl
noncomputable def aD (env:Env):Option (List PV):=some []
@[simp] theorem Vd (env:Env):aD env=(some []):=id rfl
noncomputable def ak (f:qS)(g:Env->Option (List PV))(env:Env):Option (List PV):=(f env).bind λx=>(g env).bind λxs=>some (x::xs)
@[simp] theorem UL (f:qS)(g:Env->Option (List PV))(env:Env):ak f g env=((f env).bind λx=>(g env).bind λxs=>some (x::xs)):=id rfl
noncomputable def b_ (g:Env->Option (List PV))(env:Env):Option PV:=(g env).bind λxs=>if xs.length<=1000000 then some (.lst xs) else none
@[simp] theorem Ve (g:Env->Option (List PV))(env:Env):b_ g env=((g env).bind λxs=>if xs.length<=1000000 then some (.lst xs) else none):=id rfl
noncomputable def cI (g:Env->Option (List PV))(env:Env):Option PV:=(g env).bind λxs=>if xs.length<=1000000 then some (.tup xs) else none
@[simp] theorem Vf (g:Env->Option (List PV))(env:Env):cI g env=((g env).bind λxs=>if xs.length<=1000000 then some (.tup xs) else none):=id rfl
noncomputable def aM (m:List PV->Option PV)(g:Env->Option (List PV))(env:Env):Option PV:=(g env).bind m
@[simp] theorem UT (m:List PV->Option PV)(g:Env->Option (List PV))(env:Env):aM m g env=((g env).bind m):=id rfl
section
variable {b:BX}{G:qf}{m:Md}{σ:St}{H:Hp}{Q:VK}
def Op2 (b:BX)(m:Md)(r:R2)(g:PV->PV->Option PV):Prop:=∀(Ow:Addr->Prop) (H:Hp) (v1 v2:V) (p1 p2 p:PV) (Q:VK),(∀a,H a=none->Bs b Ow a)->RepB b.C (Bs b Ow) H v1 p1->RepB b.C (Bs b Ow) H v2 p2->g p1 p2=some p->
 (∀v H',Same H H'->Res b Ow H H' m v p->Q v H')->r v1 v2 H Q
theorem Dm {r:R2}{g:PV->PV->Option PV}{f1 f2:qS}(hr:Op2 b m r g)(h:tM b G m (b2 g f1 f2) σ H Q):tOp r (tM b G .bor f1) (tM b G .bor f2) σ H Q:=by
 obtain⟨Ow,env,p,E,hf,k⟩:=h
 unfold b2 at hf
 cases h1:f1 env with
 | none=>rw[h1] at hf;cases hf
 | some p1=>
  rw[h1] at hf
  cases h2:f2 env with
  | none=>rw[h2] at hf;cases hf
  | some p2=>
   rw[h2] at hf
   exact⟨Ow,env,p1,E,h1,λv1 H1 s1 r1=>⟨Ow,env,p2,E.up s1,h2,λv2 H2 s2 r2=>hr Ow H2 v1 v2 p1 p2 p Q (λa=>(E.up (s1.trans s2)).fresh) (r1.up s2) r2 hf λv H' s r=>k v H' (s1.trans (s2.trans s)) (r.down (s1.trans s2))⟩⟩
def Op1 (b:BX)(m:Md)(r:V->Hp->VK->Prop)(g:PV->Option PV):Prop:=∀(Ow:Addr->Prop) (H:Hp) (v1:V) (p1 p:PV) (Q:VK),(∀a,H a=none->Bs b Ow a)->RepB b.C (Bs b Ow) H v1 p1->g p1=some p->
 (∀v H',Same H H'->Res b Ow H H' m v p->Q v H')->r v1 H Q
theorem Dn {r:V->Hp->VK->Prop}{g:PV->Option PV}{f1:qS}(hr:Op1 b m r g)(h:tM b G m (b1 g f1) σ H Q):tM b G .bor f1 σ H λx H1=>r x H1 Q:=by
 obtain⟨Ow,env,p,E,hf,k⟩:=h
 unfold b1 at hf
 cases h1:f1 env with
 | none=>rw[h1] at hf;cases hf
 | some p1=>
  rw[h1] at hf
  exact⟨Ow,env,p1,E,h1,λv1 H1 s1 r1=>hr Ow H1 v1 p1 p Q (λa=>(E.up s1).fresh) r1 hf λv H' s r=>k v H' (s1.trans s) (r.down s1)⟩
end
@[simp] noncomputable def bA:PV->PV->Option PV
 | .int i,.int j=>some (.int (i+j))
 | .str x,.str y=>if x.length+y.length<=1000000 then some (.str (x++y)) else none
 | .lst xs,.lst ys=>if xs.length+ys.length<=1000000 then some (.lst (xs++ys)) else none
 | _,_=>none
@[simp] noncomputable def uf:PV->PV->Option PV
 | .lst xs,.lst ys=>if xs.length+ys.length<=1000000 then some (.lst (xs++ys)) else none
 | _,_=>none
@[simp] noncomputable def subV:PV->PV->Option PV
 | .int i,.int j=>some (.int (i - j))
 | _,_=>none
noncomputable def smI (i:Int):Bool:=@decide (-18446744073709551616 < i/\i < 18446744073709551616) (Classical.propDecidable _)
@[simp] noncomputable def jx:PV->PV->Option PV
 | .int i,.int j=>if (smI i||smI j)=true then some (.int (i*j)) else none
 | _,_=>none
@[simp] noncomputable def fJ:PV->PV->Option PV
 | .int i,.int j=>if 0 < j/\j < 1073741824 then some (.int (i / j)) else none
 | _,_=>none
@[simp] noncomputable def e_:PV->PV->Option PV
 | .int i,.int j=>if 0 < j then some (.int (i % j)) else none
 | _,_=>none
@[simp] noncomputable def vW:PV->PV->Option PV
 | .int i,.int j=>if 0<=j/\j<=1000000/\i.natAbs < 2 ^ 64 then some (.int (i ^ j.toNat)) else none
 | _,_=>none
@[simp] noncomputable def p7 (g:Int->Int->Bool):PV->PV->Option PV
 | .int i,.int j=>some (.bl (g i j))
 | _,_=>none
theorem gw {n:Nat}(h:n<=1000000):n<=sizeLine:=kN (jF h)
section
variable {b:BX}
theorem LC {g:Int->Int->Int}{f:PV->PV->Option PV}(hf:∀x y p,f x y=some p->∃i j,x=.int i/\y=.int j/\p=.int (g i j)):Op2 b .val (rI0 λi j=>.int (g i j)) f:=by
 intro Ow H v1 v2 p1 p2 p Q hn r1 r2 e k
 obtain⟨i,j,rfl,rfl,rfl⟩:=hf _ _ _ e
 rw[r1.int,r2.int]
 exact⟨i,j,rfl,rfl,k _ H (Same.refl _) (.int _)⟩
theorem Gh {g:Int->Int->Bool}:Op2 b .val (rI0 λi j=>.bl (g i j)) (p7 g):=by
 intro Ow H v1 v2 p1 p2 p Q hn r1 r2 e k
 unfold p7 at e
 split at e
 ·cases e
  rw[r1.int,r2.int]
  exact⟨_,_,rfl,rfl,k _ H (Same.refl _) (.bl _)⟩
 ·cases e
theorem QL:Op2 b .val (rI0 λi j=>.int (i - j)) subV:=LC λx y p e=>by
 unfold subV at e
 split at e
 ·cases e;exact⟨_,_,rfl,rfl,rfl⟩
 ·cases e
theorem QM:Op2 b .val (rI CMul λi j=>.int (i*j)) jx:=by
 intro Ow H v1 v2 p1 p2 p Q hn r1 r2 e k
 unfold jx at e
 split at e
 ·split at e
  ·rename_i h
   cases e
   rw[r1.int,r2.int]
   refine⟨_,_,rfl,rfl,?_,k _ H (Same.refl _) (.int _)⟩
   simp only[smI,Bool.or_eq_true,j3] at h
   exact h
  ·cases e
 ·cases e
theorem jn {i:Int}(h:-18446744073709551616 < i)(h':i < 18446744073709551616):smI i=true:=@ca _ (Classical.propDecidable _) ⟨h,h'⟩
theorem QQ:Op2 b .val (rI O9 λi j=>.int (i / j)) fJ:=by
 intro Ow H v1 v2 p1 p2 p Q hn r1 r2 e k
 unfold fJ at e
 split at e
 ·split at e
  ·rename_i h
   cases e
   rw[r1.int,r2.int]
   exact⟨_,_,rfl,rfl,h,k _ H (Same.refl _) (.int _)⟩
  ·cases e
 ·cases e
theorem QR:Op2 b .val (rI (λ_ j=>0 < j) λi j=>.int (i % j)) e_:=by
 intro Ow H v1 v2 p1 p2 p Q hn r1 r2 e k
 unfold e_ at e
 split at e
 ·split at e
  ·rename_i h
   cases e
   rw[r1.int,r2.int]
   exact⟨_,_,rfl,rfl,h,k _ H (Same.refl _) (.int _)⟩
  ·cases e
 ·cases e
theorem QS:Op2 b .val (rI O_ λi j=>.int (i ^ j.toNat)) vW:=by
 intro Ow H v1 v2 p1 p2 p Q hn r1 r2 e k
 unfold vW at e
 split at e
 ·split at e
  ·rename_i h
   cases e
   rw[r1.int,r2.int]
   exact⟨_,_,rfl,rfl,h,k _ H (Same.refl _) (.int _)⟩
  ·cases e
 ·cases e
end
theorem j8 {b:BX}{Ow:Addr->Prop}{H:Hp}{a:Addr}{vs:List V}{xs:List PV}(h:H a=none)(r:Reps b.C (Bs b Ow) H vs xs):Res b Ow H (upd H a (.lst vs)) .own (.ref a) (.lst xs):=by
 refine⟨a,rfl,h,vs,bc,r.ex λc o e=>?_⟩
 have hc:c≠a:=bF e h
 exact⟨λq=>⟨by rw[aP hc];exact e,q,hc⟩,λ_=>by rw[aP hc];exact e⟩
theorem vX {b:BX}{Ow:Addr->Prop}{H H0:Hp}{a:Addr}{vs:List V}{xs:List PV}(h:H a=none)(r:Reps b.C (Bs b Ow) H vs xs):Res b Ow H0 (upd H a (.tup vs)) .val (.ref a) (.tup xs):=
 Rep.tup bc (r.ex (.of_same (bJ h _)))
section
variable {b:BX}
theorem QT:Op2 b .val (λx y H Q=>(rI0 (λi j=>.int (i+j)) x y H Q\/∃i j,x=.str i/\y=.str j/\i.length+j.length<=sizeLine/\Q (.str (i++j)) H)\/Ih x y H Q) bA:=by
 intro Ow H v1 v2 p1 p2 p Q hn r1 r2 e k
 unfold bA at e
 split at e
 ·cases e
  rw[r1.int,r2.int]
  exact .inl (.inl ⟨_,_,rfl,rfl,k _ H (Same.refl _) (.int _)⟩)
 ·split at e
  ·rename_i h
   cases e
   rw[r1.str,r2.str]
   exact .inl (.inr ⟨_,_,rfl,rfl,gw h,k _ H (Same.refl _) (.str _)⟩)
  ·cases e
 ·split at e
  ·rename_i h
   cases e
   obtain⟨a,vs,rfl,ha,ra⟩:=r1.lst
   obtain⟨c,us,rfl,hc,rc⟩:=r2.lst
   exact .inr ⟨a,c,vs,us,rfl,rfl,ha,hc,gw (by rw[ra.length,rc.length];exact h),λq hq=>k _ _ (bJ hq _) (.lst bc (hn q hq) ((ra.append rc).ex (.of_same (bJ hq _))))⟩
  ·cases e
 ·cases e
theorem QV:Op2 b .own Ih uf:=by
 intro Ow H v1 v2 p1 p2 p Q hn r1 r2 e k
 unfold uf at e
 split at e
 ·split at e
  ·rename_i h
   cases e
   obtain⟨a,vs,rfl,ha,ra⟩:=r1.lst
   obtain⟨c,us,rfl,hc,rc⟩:=r2.lst
   refine⟨a,c,vs,us,rfl,rfl,ha,hc,gw (by rw[ra.length,rc.length];exact h),λq hq=>k _ _ (bJ hq _) (j8 hq (ra.append rc))⟩
  ·cases e
 ·cases e
end
section
variable {X:Cx}{b:BX}{G:qf}{m:Md}{e e1 e2:Expr}{f f1 f2:qS}{pos:Pos}
theorem au {i j pos}:SE X b G .val (.Constant (.int i) j pos) (bC (.int i)):=PE.imp Oi<|by rintro σ H Q ⟨Ow,env,p,E,hf,k⟩;cases hf;exact k _ H (Same.refl _) (.int i)
theorem fW {i j pos}:SE X b G .val (.Constant (.bool i) j pos) (bC (.bl i)):=PE.imp JW<|by rintro σ H Q ⟨Ow,env,p,E,hf,k⟩;cases hf;exact k _ H (Same.refl _) (.bl i)
theorem fX {i j pos}:SE X b G .val (.Constant (.str i) j pos) (bC (.str i)):=PE.imp Ol<|by rintro σ H Q ⟨Ow,env,p,E,hf,k⟩;cases hf;exact k _ H (Same.refl _) (.str i)
theorem cC {j pos}:SE X b G .val (.Constant .none j pos) (bC .non):=PE.imp Oj<|by rintro σ H Q ⟨Ow,env,p,E,hf,k⟩;cases hf;exact k _ H (Same.refl _) .non
theorem gA {i:Nat}{env:Env}{p:PV}(h:bV i env=some p):env[i]?=some (some p):=by
 unfold bV at h
 split at h
 ·rename_i o e;rw[e,h]
 ·cases h
theorem aa (i:Nat){x:Str}{pos:Pos}(hN:X.N[i]?=some x:=by rfl)(hv:Vis X.env.scope x:=by first | exact g6 rfl | exact fm (g6 rfl) | exact fm (fm rfl))(hG:i∉G:=by decide)(hd:(x == ("__debug__" : Str))=false:=by decide)
  (hcd:(x == ("__classdict__" : Str))=false:=by decide):SE X b G .val (.Name x pos) (bV i):=PE.imp (jL hN hv hd hcd)<|by
 rintro σ H Q ⟨Ow,env,p,E,hf,k⟩
 obtain⟨v,e,r⟩:=E.val i p (gA hf) hG
 exact⟨v,e,k v H (Same.refl _) r⟩
theorem oO (i:Nat){x:Str}{pos:Pos}(hN:X.N[i]?=some x:=by rfl)(hv:Vis X.env.scope x:=by first | exact g6 rfl | exact fm (g6 rfl) | exact fm (fm rfl))(hd:(x == ("__debug__" : Str))=false:=by decide)
  (hcd:(x == ("__classdict__" : Str))=false:=by decide):SE X b G .bor (.Name x pos) (bV i):=PE.imp (jL hN hv hd hcd)<|by
 rintro σ H Q ⟨Ow,env,p,E,hf,k⟩
 by_cases hG:i∈G
 ·obtain⟨a,e,_,t⟩:=E.own i p (gA hf) hG
  exact⟨_,e,k _ H (Same.refl _) (.inr ⟨a,rfl,t⟩)⟩
 ·obtain⟨v,e,r⟩:=E.val i p (gA hf) hG
  exact⟨v,e,k v H (Same.refl _) (.inl r)⟩
theorem uT {x:Str}{a:Addr}{q:PV}{pos:Pos}(hm:X.mg x=some (.ref a))(hr:∀A H,Rep b.C A H (.ref a) q)(hg:Gl X x:=by rfl)(hd:(x == ("__debug__" : Str))=false:=by decide):SE X b G .val (.Name x pos) (bC q):=
 PE.imp (KC hg hm (v:=.ref a) rfl hd)<|by rintro σ H Q ⟨Ow,env,p,E,hf,k⟩;cases hf;exact k _ H (Same.refl _) (hr _ _)
theorem nZ {op:Operator}{r:R2}{g:PV->PV->Option PV}(ho:OpR X (binaryOp op) r)(hr:Op2 b m r g){m1 m2:Md}(h1:SE X b G m1 e1 f1)(h2:SE X b G m2 e2 f2):SE X b G m (.BinOp e1 op e2 pos) (b2 g f1 f2):=
 PE.imp (S5 ho h1.bor h2.bor) fun σ H Q h=>Dm hr h
theorem bh {m1 m2:Md}(h1:SE X b G m1 e1 f1)(h2:SE X b G m2 e2 f2):SE X b G .val (.BinOp e1 .Add e2 pos) (b2 bA f1 f2):=nZ (OpR.or (OpR.or Pa Dd) Fx) QT h1 h2
theorem uU {m1 m2:Md}(h1:SE X b G m1 e1 f1)(h2:SE X b G m2 e2 f2):SE X b G .own (.BinOp e1 .Add e2 pos) (b2 uf f1 f2):=nZ Fx QV h1 h2
theorem uV {m1 m2:Md}(h1:SE X b G m1 e1 f1)(h2:SE X b G m2 e2 f2):SE X b G .val (.BinOp e1 .Sub e2 pos) (b2 subV f1 f2):=nZ Pb QL h1 h2
theorem jM {m1 m2:Md}(h1:SE X b G m1 e1 f1)(h2:SE X b G m2 e2 f2):SE X b G .val (.BinOp e1 .Mult e2 pos) (b2 jx f1 f2):=nZ Pg QM h1 h2
theorem ik {m1 m2:Md}(h1:SE X b G m1 e1 f1)(h2:SE X b G m2 e2 f2):SE X b G .val (.BinOp e1 .FloorDiv e2 pos) (b2 fJ f1 f2):=nZ KQ QQ h1 h2
theorem fY {m1 m2:Md}(h1:SE X b G m1 e1 f1)(h2:SE X b G m2 e2 f2):SE X b G .val (.BinOp e1 .Mod e2 pos) (b2 e_ f1 f2):=nZ Ph QR h1 h2
theorem QW {m1 m2:Md}(h1:SE X b G m1 e1 f1)(h2:SE X b G m2 e2 f2):SE X b G .val (.BinOp e1 .Pow e2 pos) (b2 vW f1 f2):=nZ Pj QS h1 h2
end
@[simp] noncomputable def eqS:PV->PV->Option Bool
 | .non,.non=>some true
 | .non,.int _=>some false | .int _,.non=>some false | .non,.bl _=>some false | .bl _,.non=>some false | .non,.str _=>some false | .str _,.non=>some false
 | .int i,.int j=>some (decide (i=j))
 | .bl i,.bl j=>some (decide (i=j))
 | .str i,.str j=>some (decide (i=j))
 | .int _,.str _=>some false | .str _,.int _=>some false | .bl _,.str _=>some false | .str _,.bl _=>some false
 | _,_=>none
mutual
noncomputable def toD:PV->Option PyData
 | .non=>some .none
 | .bl b=>some (.bool b)
 | .int i=>some (.int i)
 | .str x=>some (.str x)
 | .lst xs=>(fc xs).map .list
 | .frz xs=>(fc xs).map .list
 | .tup xs=>(fc xs).map .tuple
 | .ktp xs=>(fc xs).map .tuple
 | _=>none
noncomputable def fc:List PV->Option (List PyData)
 | []=>some []
 | x::xs=>match toD x,fc xs with
  | some d,some ds=>some (d::ds)
  | _,_=>none
end
noncomputable def eqD (x y:PV):Option Bool:=match toD x,toD y with
 | some d,some e=>if SeqAt.shaped d=true/\SeqAt.shaped e=true then some (PyData.eqv d e) else none
 | _,_=>none
noncomputable def eqP (x y:PV):Option Bool:=match eqS x y with
 | some k=>some k
 | none=>eqD x y
noncomputable def eqQ (x y:PV):Option PV:=(eqP x y).map .bl
@[simp] theorem Vx (x y:PV):eqQ x y=((eqP x y).map .bl):=id rfl
noncomputable def neQ (x y:PV):Option PV:=(eqP x y).map λk=>.bl (!k)
@[simp] theorem Vy (x y:PV):neQ x y=((eqP x y).map λk=>.bl (!k)):=id rfl
mutual
theorem Rep.dt {C:MC}{A:Addr->Prop}{H:Hp}:∀{v:V}{p:PV}{d:PyData},Rep C A H v p->toD p=some d->Dt C.K H v d
 | _,_,_,.non,e=>by simp only[toD] at e;cases e;exact .non
 | _,_,_,.bl b,e=>by simp only[toD] at e;cases e;exact .bl b
 | _,_,_,.int b,e=>by simp only[toD] at e;cases e;exact .int b
 | _,_,_,.str b,e=>by simp only[toD] at e;cases e;exact .str b
 | _,_,_,.lst (xs:=xs) h _ r,e=>by
  simp only[toD] at e
  cases q:fc xs with
  | none=>rw[q] at e;cases e
  | some ds=>rw[q] at e;cases e;exact .lst (SqL.of h) (Reps.dt r q)
 | _,_,_,.lstF (xs:=xs) h r,e=>by
  simp only[toD] at e
  cases q:fc xs with
  | none=>rw[q] at e;cases e
  | some ds=>rw[q] at e;cases e;exact .lst (.inl (.inr ⟨_,h⟩)) (Reps.dt r q)
 | _,_,_,.lstK (xs:=xs) h r,e=>by
  simp only[toD] at e
  cases q:fc xs with
  | none=>rw[q] at e;cases e
  | some ds=>rw[q] at e;cases e;exact .lst (sqK h) (Reps.dt r q)
 | _,_,_,.tup (xs:=xs) h r,e=>by
  simp only[toD] at e
  cases q:fc xs with
  | none=>rw[q] at e;cases e
  | some ds=>rw[q] at e;cases e;exact .tup (SqT.of h) (Reps.dt r q)
 | _,_,_,.tupC (xs:=xs) h r,e=>by
  simp only[toD] at e
  cases q:fc xs with
  | none=>rw[q] at e;cases e
  | some ds=>rw[q] at e;cases e;exact .tup (.inr h) (Reps.dt r q)
 | _,_,_,.tupK (xs:=xs) h r,e=>by
  simp only[toD] at e
  cases q:fc xs with
  | none=>rw[q] at e;cases e
  | some ds=>rw[q] at e;cases e;exact .tup (ue h) (Reps.dt r q)
 | _,_,_,.dK h _ r,e=>by simp only[toD] at e;cases e
 | _,_,_,.dT h _ r,e=>by simp only[toD] at e;cases e
 | _,_,_,.obj h _ r,e=>by simp only[toD] at e;cases e
theorem Reps.dt {C:MC}{A:Addr->Prop}{H:Hp}:∀{v:List V}{p:List PV}{d:List PyData},Reps C A H v p->fc p=some d->Dts C.K H v d
 | _,_,_,.nil,e=>by simp only[fc] at e;cases e;exact .nil
 | _,_,_,.cons (p:=p) (ps:=ps) h t,e=>by
  simp only[fc] at e
  cases q:toD p with
  | none=>rw[q] at e;cases e
  | some d=>
   cases q2:fc ps with
   | none=>rw[q,q2] at e;cases e
   | some ds=>rw[q,q2] at e;cases e;exact .cons (Rep.dt h q) (Reps.dt t q2)
end
theorem RepB.dt {C:MC}{A:Addr->Prop}{H:Hp}{v:V}{p:PV}{d:PyData}(h:RepB C A H v p)(e:toD p=some d):Dt C.K H v d:=by
 rcases h with h | ⟨a,rfl,t⟩
 ·exact h.dt e
 ·cases p with
  | lst xs=>
   obtain⟨vs,q,r⟩:=t
   exact(Rep.lst (A:=λ_=>True) q gS (r.ex (dq λ_ _ _ _=>gS))).dt e
  | dK kvs=>simp only[toD] at e;cases e
  | dT kvs=>simp only[toD] at e;cases e
  | obj c fs=>simp only[toD] at e;cases e
  | _=>exact t.elim
theorem yV {C:MC}{A:Addr->Prop}{H:Hp}{v u:V}{p q:PV}{k:Bool}(h:RepB C A H v p)(h':RepB C A H u q)(e:eqS p q=some k):HR v u=true/\decide (v=u)=k:=by
 unfold eqS at e
 split at e <;> first | cases e | skip
 ·rw[h.non,h'.non];exact⟨rfl,rfl⟩
 ·rw[h.non,h'.int];exact⟨rfl,rfl⟩
 ·rw[h.int,h'.non];exact⟨rfl,rfl⟩
 ·rw[h.non,h'.bl];exact⟨rfl,rfl⟩
 ·rw[h.bl,h'.non];exact⟨rfl,rfl⟩
 ·rw[h.non,h'.str];exact⟨rfl,rfl⟩
 ·rw[h.str,h'.non];exact⟨rfl,rfl⟩
 ·rw[h.int,h'.int];exact⟨rfl,by simp⟩
 ·rw[h.bl,h'.bl];exact⟨rfl,by simp⟩
 ·rw[h.str,h'.str];exact⟨rfl,by simp⟩
 ·rw[h.int,h'.str];exact⟨rfl,rfl⟩
 ·rw[h.str,h'.int];exact⟨rfl,rfl⟩
 ·rw[h.bl,h'.str];exact⟨rfl,rfl⟩
 ·rw[h.str,h'.bl];exact⟨rfl,rfl⟩
def QX (K:W.Frag):R2:=λx y H Q=>rEq x y H Q\/∃d e,Dt K H x d/\Dt K H y e/\SeqAt.shaped d=true/\SeqAt.shaped e=true/\Q (.bl (PyData.eqv d e)) H
def QZ (K:W.Frag):R2:=λx y H Q=>rNe x y H Q\/∃d e,Dt K H x d/\Dt K H y e/\SeqAt.shaped d=true/\SeqAt.shaped e=true/\Q (.bl (!PyData.eqv d e)) H
section
variable {b:BX}
theorem Tu:Op2 b .val (QX b.C.K) eqQ:=by
 intro Ow H v1 v2 p1 p2 p Q hn r1 r2 e k
 unfold eqQ eqP at e
 cases q:eqS p1 p2 with
 | some c=>
  rw[q] at e
  cases e
  obtain⟨h1,h2⟩:=yV r1 r2 q
  exact .inl ⟨h1,by rw[h2];exact k _ H (Same.refl _) (.bl c)⟩
 | none=>
  rw[q] at e
  simp only[eqD] at e
  cases q1:toD p1 with
  | none=>rw[q1] at e;cases e
  | some d=>
   cases q2:toD p2 with
   | none=>rw[q1,q2] at e;cases e
   | some d'=>
    rw[q1,q2] at e
    simp only at e
    split at e
    ·rename_i hs
     cases e
     exact .inr ⟨d,d',r1.dt q1,r2.dt q2,hs.1,hs.2,k _ H (Same.refl _) (.bl _)⟩
    ·cases e
theorem Tv:Op2 b .val (QZ b.C.K) neQ:=by
 intro Ow H v1 v2 p1 p2 p Q hn r1 r2 e k
 unfold neQ eqP at e
 cases q:eqS p1 p2 with
 | some c=>
  rw[q] at e
  cases e
  obtain⟨h1,h2⟩:=yV r1 r2 q
  exact .inl ⟨h1,by rw[h2];exact k _ H (Same.refl _) (.bl _)⟩
 | none=>
  rw[q] at e
  simp only[eqD] at e
  cases q1:toD p1 with
  | none=>rw[q1] at e;cases e
  | some d=>
   cases q2:toD p2 with
   | none=>rw[q1,q2] at e;cases e
   | some d'=>
    rw[q1,q2] at e
    simp only at e
    split at e
    ·rename_i hs
     cases e
     exact .inr ⟨d,d',r1.dt q1,r2.dt q2,hs.1,hs.2,k _ H (Same.refl _) (.bl _)⟩
    ·cases e
end
@[simp] noncomputable def keyOf:PV->Option Key
 | .int i=>some (.inl i)
 | .str x=>some (.inr x)
 | _=>none
@[simp] noncomputable def keysOf:List PV->Option (List Key)
 | []=>some []
 | x::xs=>match keyOf x,keysOf xs with
  | some k,some ks=>some (k::ks)
  | _,_=>none
@[simp] noncomputable def keysB:List PV->Option (List Key)
 | [.str x,.bl b]=>some [.inr x,.inl (if b=true then 1 else 0)]
 | xs=>keysOf xs
@[simp] def dD:PV->Bool
 | .non=>true
 | .bl _=>true
 | .int _=>true
 | .str _=>true
 | _=>false
noncomputable def eqF:PV->PV->Bool
 | .non,.non=>true
 | .bl a,.bl b=>a == b
 | .bl a,.int b=>(if a then 1 else 0) == b
 | .int a,.bl b=>a == (if b then 1 else 0)
 | .int a,.int b=>a == b
 | .str a,.str b=>a == b
 | _,_=>false
noncomputable def dj {κ:Type}[DecidableEq κ](kvs:List (κ×PV))(k:κ):Option PV:=(kvs.find? λx=>decide (x.1=k)).map (·.2)
def inD (x:PV)(ys:List PV):Option Bool:=match toD x,fc ys with
 | some d,some ds=>if PyData.canLayAll0 ds=true/\d.canLay0=true/\d.depth<=32 then some (ds.any λy=>PyData.eqv y d) else none
 | _,_=>none
theorem p_ {x:PV}{ys:List PV}{k:Bool}(h:inD x ys=some k):∃d ds,toD x=some d/\fc ys=some ds/\PyData.canLayAll0 ds=true/\d.canLay0=true/\d.depth<=32/\(ds.any λy=>PyData.eqv y d)=k:=by
 unfold inD at h
 split at h
 ·rename_i d ds h1 h2
  split at h
  ·rename_i hc
   exact⟨d,ds,h1,h2,hc.1,hc.2.1,hc.2.2,bg h⟩
  ·cases h
 ·cases h
noncomputable def inP:PV->PV->Option Bool
 | x,.lst ys=>if dD x=true/\ys.all dD=true then some (ys.any λy=>eqF y x) else inD x ys
 | x,.frz ys=>if dD x=true/\ys.all dD=true then some (ys.any λy=>eqF y x) else inD x ys
 | x,.ktp ys=>if dD x=true/\ys.all dD=true then some (ys.any λy=>eqF y x) else inD x ys
 | x,.tup ys=>if dD x=true/\ys.all dD=true then some (ys.any λy=>eqF y x) else inD x ys
 | .str x,.str y=>some (!(Builtin.Str.occurrences y x 0 y.length 1).isEmpty)
 | x,.dK kvs=>(keyOf x).map λk=>(dj kvs k).isSome
 | .tup xs,.dT kvs=>(keysB xs).map λk=>(dj kvs k).isSome
 | _,_=>none
theorem Reps.keys {C:MC}{A:Addr->Prop}{H:Hp}:∀{vs:List V}{ps:List PV}{ks:List Key},Reps C A H vs ps->keysOf ps=some ks->vs=ks.map kV
 | _,_,_,.nil,e=>by cases e;rfl
 | _,_,_,.cons (p:=p) (ps:=ps) h t,e=>by
  unfold keysOf at e
  cases q:keyOf p with
  | none=>rw[q] at e;cases e
  | some k=>
   cases q2:keysOf ps with
   | none=>rw[q,q2] at e;cases e
   | some ks=>
    rw[q,q2] at e
    cases e
    have ih:=Reps.keys t q2
    rw[av,ih]
    congr 1
    unfold keyOf at q
    split at q <;> cases q <;> cases h <;> rfl
theorem Reps.keysB {C:MC}{A:Addr->Prop}{H:Hp}{vs:List V}{ps:List PV}{ks:List Key}(r:Reps C A H vs ps)(e:keysB ps=some ks):q8 ks vs:=by
 unfold MR.keysB at e
 split at e
 ·cases e
  cases r with
  | cons h1 t=>cases t with
   | cons h2 t=>cases t;cases h1;cases h2;exact .inr ⟨_,_,rfl,rfl⟩
 ·exact .inl (r.keys e)
theorem RepB.key {C:MC}{A:Addr->Prop}{H:Hp}{v:V}{p:PV}{k:Key}(h:RepB C A H v p)(e:keyOf p=some k):v=kV k:=by
 unfold keyOf at e
 split at e
 ·cases e;exact h.int
 ·cases e;exact h.str
 ·cases e
theorem RepB.flat {C:MC}{A:Addr->Prop}{H:Hp}{v:V}{p:PV}(h:RepB C A H v p)(e:dD p=true):je v=true:=by
 unfold dD at e
 split at e
 ·rw[h.non];rfl
 ·rw[h.bl];rfl
 ·rw[h.int];rfl
 ·rw[h.str];rfl
 ·cases e
def fV:PV->V
 | .bl b=>.bl b
 | .int i=>.int i
 | .str x=>.str x
 | _=>.non
theorem RepB.fV {C:MC}{A:Addr->Prop}{H:Hp}{v:V}{p:PV}(h:RepB C A H v p)(e:dD p=true):v=fV p:=by
 cases p with
 | non=>exact h.non
 | bl b=>exact h.bl
 | int i=>exact h.int
 | str x=>exact h.str
 | _=>cases e
theorem Tw (p q:PV)(hp:dD p=true)(hq:dD q=true):L2.eqV (fV p) (fV q)=eqF p q:=by
 cases p <;> cases q <;> first | rfl | (cases hp;done) | (cases hq;done)
theorem Reps.flat {C:MC}{A:Addr->Prop}{H:Hp}{v:V}{p:PV}(h:RepB C A H v p)(e:dD p=true):∀{vs:List V}{ps:List PV},Reps C A H vs ps->ps.all dD=true->vs.all je=true/\inV v vs=ps.any λy=>eqF y p
 | _,_,.nil,_=>⟨rfl,rfl⟩
 | _,_,.cons (v:=v') (p:=p') (vs:=vs) (ps:=ps) q t,e'=>by
  rw[iA,bP] at e'
  obtain⟨h1,h2⟩:=Reps.flat h e t e'.2
  have hf:je v'=true:=RepB.flat (.inl q) e'.1
  refine⟨by rw[iA,hf,h1];rfl,?_⟩
  unfold inV at h2 ⊢
  rw[fb,fb,h2]
  have q1:=h.fV e
  have q2:=RepB.fV (.inl q) e'.1
  rw[q1,q2,Tw _ _ e'.1 e]
section
variable {X:Cx}
theorem Q0 (hu:X.A.units+1 < cLine):OpR X (compareOp .In) (λx y H Q=>∃a o,y=.ref a/\DGet X.K H a x o/\Q (.bl o.isSome) H):=by
 intro pins s σ H x y v u Q I rx ry h
 obtain⟨a,o,rfl,g,q⟩:=h
 obtain rfl:u=Value.ref a:=ry
 exact Ux hu I g rx λs3 I3=>⟨.bl o.isSome,H,I3,rfl,q⟩
def Do (K:W.Frag)(neg:Bool):R2:=λx y H Q=>∃d ds,(Dt K H y (.list ds)\/Dt K H y (.tuple ds))/\Dt K H x d/\PyData.canLayAll0 ds=true/\d.canLay0=true/\d.depth<=32/\Q (.bl (if neg then !(ds.any λy=>PyData.eqv y d) else ds.any λy=>PyData.eqv y d)) H
theorem Q3 (hu:X.A.units+64 < cLine):OpR X (compareOp .In) (Do X.K false):=by
 intro pins s σ H x y v u Q I rx ry h
 obtain⟨d,ds,h1,h2,c1,c2,c3,q⟩:=h
 have hm:min (PyData.depthAll ds) d.depth<=d.depth:=lm _ _
 obtain⟨as,ra⟩:=h2.reads I rx
 rcases h1 with h1 | h1
 ·obtain⟨bs,rb⟩:=h1.reads I ry
  exact PySem.SeqAt.in_list_reads rb ra c1 c2 (by omega) ⟨.bl _,H,I,rfl,q⟩
 ·obtain⟨bs,rb⟩:=h1.reads I ry
  exact PySem.SeqAt.in_tuple_reads rb ra c1 c2 (by omega) ⟨.bl _,H,I,rfl,q⟩
theorem Gi (hu:X.A.units+64 < cLine):OpR X (compareOp .NotIn) (Do X.K true):=by
 intro pins s σ H x y v u Q I rx ry h
 obtain⟨d,ds,h1,h2,c1,c2,c3,q⟩:=h
 have hm:min (PyData.depthAll ds) d.depth<=d.depth:=lm _ _
 obtain⟨as,ra⟩:=h2.reads I rx
 rcases h1 with h1 | h1
 ·obtain⟨bs,rb⟩:=h1.reads I ry
  exact PySem.SeqAt.notIn_list_reads rb ra c1 c2 (by omega) ⟨.bl _,H,I,rfl,q⟩
 ·obtain⟨bs,rb⟩:=h1.reads I ry
  exact PySem.SeqAt.notIn_tuple_reads rb ra c1 c2 (by omega) ⟨.bl _,H,I,rfl,q⟩
theorem Gj (hu:X.A.units+1 < cLine):OpR X (compareOp .NotIn) (λx y H Q=>∃a o,y=.ref a/\DGet X.K H a x o/\Q (.bl (!o.isSome)) H):=by
 intro pins s σ H x y v u Q I rx ry h
 obtain⟨a,o,rfl,g,q⟩:=h
 obtain rfl:u=Value.ref a:=ry
 exact K4 hu I g rx λs3 I3=>⟨.bl (!o.isSome),H,I3,rfl,q⟩
end
def Q4 (K:W.Frag):R2:=λx y H Q=>(rIn K false x y H Q\/∃i j,x=.str i/\y=.str j/\Q (.bl (!(Builtin.Str.occurrences j i 0 j.length 1).isEmpty)) H)\/(∃a o,y=.ref a/\DGet K H a x o/\Q (.bl o.isSome) H)\/Do K false x y H Q
def Br (K:W.Frag):R2:=λx y H Q=>(rIn K true x y H Q\/∃i j,x=.str i/\y=.str j/\Q (.bl (!(!(Builtin.Str.occurrences j i 0 j.length 1).isEmpty))) H)\/(∃a o,y=.ref a/\DGet K H a x o/\Q (.bl (!o.isSome)) H)\/Do K true x y H Q
noncomputable def inQ (x y:PV):Option PV:=(inP x y).map .bl
@[simp] theorem Vz (x y:PV):inQ x y=((inP x y).map .bl):=id rfl
noncomputable def pI (x y:PV):Option PV:=(inP x y).map λk=>.bl (!k)
@[simp] theorem Ug (x y:PV):pI x y=((inP x y).map λk=>.bl (!k)):=id rfl
theorem Gk {C:MC}{A:Addr->Prop}{H:Hp}{v1 v2:V}{p1 p2:PV}{k:Bool}(r1:RepB C A H v1 p1)(r2:RepB C A H v2 p2)(e:inP p1 p2=some k):
  (∃p xs,v2=.ref p/\(SqL C.K H p xs\/SqT C.K H p xs)/\je v1=true/\xs.all je=true/\inV v1 xs=k)\/(∃i j,v1=.str i/\v2=.str j/\(!(Builtin.Str.occurrences j i 0 j.length 1).isEmpty)=k)\/(∃a o,v2=.ref a/\DGet C.K H a v1 o/\o.isSome=k)\/∃d ds,(Dt C.K H v2 (.list ds)\/Dt C.K H v2 (.tuple ds))/\Dt C.K H v1 d/\PyData.canLayAll0 ds=true/\d.canLay0=true/\d.depth<=32/\(ds.any λy=>PyData.eqv y d)=k:=by
 unfold inP at e
 split at e
 ·split at e
  ·rename_i h
   cases e
   obtain⟨a,vs,rfl,ha,ra⟩:=r2.lst
   obtain⟨h1,h2⟩:=Reps.flat r1 h.1 ra h.2
   exact .inl ⟨a,vs,rfl,.inl (SqL.of ha),r1.flat h.1,h1,h2⟩
  ·obtain⟨d,ds,t1,t2,c1,c2,c3,c4⟩:=p_ e
   exact .inr (.inr (.inr ⟨d,ds,.inl (r2.dt (by simp[toD,t2])),r1.dt t1,c1,c2,c3,c4⟩))
 ·split at e
  ·rename_i h
   cases e
   obtain⟨a,vs,rfl,ha,ra⟩:=r2.frz
   obtain⟨h1,h2⟩:=Reps.flat r1 h.1 ra h.2
   exact .inl ⟨a,vs,rfl,.inl ha,r1.flat h.1,h1,h2⟩
  ·obtain⟨d,ds,t1,t2,c1,c2,c3,c4⟩:=p_ e
   exact .inr (.inr (.inr ⟨d,ds,.inl (r2.dt (by simp[toD,t2])),r1.dt t1,c1,c2,c3,c4⟩))
 ·split at e
  ·rename_i h
   cases e
   obtain⟨a,vs,rfl,ha,ra⟩:=r2.ktp
   obtain⟨h1,h2⟩:=Reps.flat r1 h.1 ra h.2
   exact .inl ⟨a,vs,rfl,.inr ha,r1.flat h.1,h1,h2⟩
  ·obtain⟨d,ds,t1,t2,c1,c2,c3,c4⟩:=p_ e
   exact .inr (.inr (.inr ⟨d,ds,.inr (r2.dt (by simp[toD,t2])),r1.dt t1,c1,c2,c3,c4⟩))
 ·split at e
  ·rename_i h
   cases e
   obtain⟨a,vs,rfl,ha,ra⟩:=r2.tup
   obtain⟨h1,h2⟩:=Reps.flat r1 h.1 ra h.2
   exact .inl ⟨a,vs,rfl,.inr ha.sq,r1.flat h.1,h1,h2⟩
  ·obtain⟨d,ds,t1,t2,c1,c2,c3,c4⟩:=p_ e
   exact .inr (.inr (.inr ⟨d,ds,.inr (r2.dt (by simp[toD,t2])),r1.dt t1,c1,c2,c3,c4⟩))
 ·cases e
  exact .inr (.inl ⟨_,_,r1.str,r2.str,rfl⟩)
 ·obtain⟨a,kv,rfl,ha,ra⟩:=r2.dK
  cases q:keyOf p1 with
  | none=>rw[q] at e;cases e
  | some ky=>
   rw[q] at e
   cases e
   rw[r1.key q]
   refine .inr (.inr (.inl ⟨a,_,rfl,DGet.k ha,?_⟩))
   unfold dj
   dsimp only
   rcases RepK.val (k:=ky) ra with ⟨v,p,h1,h2,_⟩ | ⟨h1,h2⟩
   ·rw[h1,h2];rfl
   ·rw[h1,h2];rfl
 ·rename_i xs kvs
  obtain⟨a,kv,rfl,ha,ra⟩:=r2.dT
  obtain⟨c,vs,rfl,hc,rc⟩:=r1.tup
  cases q:keysB xs with
  | none=>rw[q] at e;cases e
  | some ky=>
   rw[q] at e
   cases e
   refine .inr (.inr (.inl ⟨a,_,rfl,DGet.t ha (hc.key (rc.keysB q)),?_⟩))
   unfold dj
   dsimp only
   rcases RepT.val (k:=ky) ra with ⟨v,p,h1,h2,_⟩ | ⟨h1,h2⟩
   ·rw[h1,h2];rfl
   ·rw[h1,h2];rfl
 ·cases e
section
variable {b:BX}
theorem Tz:Op2 b .val (Q4 b.C.K) inQ:=by
 intro Ow H v1 v2 p1 p2 p Q hn r1 r2 e k
 unfold inQ at e
 cases q:inP p1 p2 with
 | none=>rw[q] at e;cases e
 | some c=>
  rw[q] at e
  cases e
  have fin:=k (.bl c) H (Same.refl _) (.bl c)
  rcases Gk r1 r2 q with ⟨a,xs,rfl,h1,h2,h3,h4⟩ | ⟨i,j,rfl,rfl,h1⟩ | ⟨a,o,rfl,h1,h2⟩ | ⟨d,ds,h1,h2,c1,c2,c3,h4⟩
  ·subst h4;exact .inl (.inl ⟨a,xs,rfl,h1,h2,h3,fin⟩)
  ·subst h1;exact .inl (.inr ⟨i,j,rfl,rfl,fin⟩)
  ·subst h2;exact .inr (.inl ⟨a,o,rfl,h1,fin⟩)
  ·subst h4;exact .inr (.inr ⟨d,ds,h1,h2,c1,c2,c3,fin⟩)
theorem Jc:Op2 b .val (Br b.C.K) pI:=by
 intro Ow H v1 v2 p1 p2 p Q hn r1 r2 e k
 unfold pI at e
 cases q:inP p1 p2 with
 | none=>rw[q] at e;cases e
 | some c=>
  rw[q] at e
  cases e
  have fin:=k (.bl (!c)) H (Same.refl _) (.bl _)
  rcases Gk r1 r2 q with ⟨a,xs,rfl,h1,h2,h3,h4⟩ | ⟨i,j,rfl,rfl,h1⟩ | ⟨a,o,rfl,h1,h2⟩ | ⟨d,ds,h1,h2,c1,c2,c3,h4⟩
  ·subst h4;exact .inl (.inl ⟨a,xs,rfl,h1,h2,h3,fin⟩)
  ·subst h1;exact .inl (.inr ⟨i,j,rfl,rfl,fin⟩)
  ·subst h2;exact .inr (.inl ⟨a,o,rfl,h1,fin⟩)
  ·subst h4;exact .inr (.inr ⟨d,ds,h1,h2,c1,c2,c3,fin⟩)
end
@[simp] def rE:PV->Bool
 | .non=>true
 | _=>false
noncomputable def isN (x y:PV):Option PV:=match y with
 | .non=>some (.bl (rE x))
 | _=>none
@[simp] theorem VB (x y:PV):isN x y=(match y with
 | .non=>some (.bl (rE x))
 | _=>none):=id rfl
noncomputable def jo (x y:PV):Option PV:=match y with
 | .non=>some (.bl (!rE x))
 | _=>none
@[simp] theorem Uh (x y:PV):jo x y=(match y with
 | .non=>some (.bl (!rE x))
 | _=>none):=id rfl
theorem RepB.isN {C:MC}{A:Addr->Prop}{H:Hp}{v:V}{p:PV}(h:RepB C A H v p):decide (v=.non)=rE p:=by
 cases p with
 | non=>rw[h.non];rfl
 | bl b=>rw[h.bl];rfl
 | int b=>rw[h.int];rfl
 | str b=>rw[h.str];rfl
 | lst b=>obtain⟨a,_,rfl,_⟩:=h.lst;rfl
 | frz b=>obtain⟨a,_,rfl,_⟩:=h.frz;rfl
 | tup b=>obtain⟨a,_,rfl,_⟩:=h.tup;rfl
 | ktp b=>obtain⟨a,_,rfl,_⟩:=h.ktp;rfl
 | dK b=>obtain⟨a,_,rfl,_⟩:=h.dK;rfl
 | dT b=>obtain⟨a,_,rfl,_⟩:=h.dT;rfl
 | obj c b=>obtain⟨a,_,_,rfl,_⟩:=h.obj;rfl
section
variable {b:BX}
theorem Q5:Op2 b .val (λx y H Q=>y=.non/\Q (.bl (decide (x=.non))) H) isN:=by
 intro Ow H v1 v2 p1 p2 p Q hn r1 r2 e k
 cases p2 with
 | non=>
  simp only[isN] at e
  cases e
  exact⟨r2.non,by rw[r1.isN];exact k _ H (Same.refl _) (.bl _)⟩
 | _=>simp only[isN] at e;cases e
theorem Gm:Op2 b .val (λx y H Q=>y=.non/\Q (.bl (!decide (x=.non))) H) jo:=by
 intro Ow H v1 v2 p1 p2 p Q hn r1 r2 e k
 cases p2 with
 | non=>
  simp only[jo] at e
  cases e
  exact⟨r2.non,by rw[r1.isN];exact k _ H (Same.refl _) (.bl _)⟩
 | _=>simp only[jo] at e;cases e
end
section
variable {X:Cx}{b:BX}{G:qf}{m:Md}{e e1 e2 e3:Expr}{f f1 f2 f3:qS}{pos:Pos}{m1 m2 m3:Md}
structure SC (X:Cx)(b:BX)(G:qf)(op:CmpOp)(e1 e2:Expr)(f:qS):Prop where
 pe:∀pos,SE X b G .val (.Compare e1 [op] [e2] pos) f
 pt:∀pos,ST X b G (.Compare e1 [op] [e2] pos) (tV f)
theorem kZ {op:CmpOp}{r:R2}{g:PV->PV->Option PV}(ho:OpR X (compareOp op) r)(hr:Op2 b .val r g)(h1:SE X b G m1 e1 f1)(h2:SE X b G m2 e2 f2)(hm:behindInMarks op e2=false):SC X b G op e1 e2 (b2 g f1 f2):=by
 refine⟨λpos=>PE.imp (KY ho h1.bor h2.bor hm) fun σ H Q h=>Dm hr h,λpos=>PT.imp (KZ ho h1.bor h2.bor hm) fun σ H Q h=>?_⟩
 obtain⟨Ow,env,c,E,hf,k⟩:=h
 unfold tV at hf
 cases q:b2 g f1 f2 env with
 | none=>rw[q] at hf;cases hf
 | some p=>
  rw[q] at hf
  refine Dm (Q:=λx H'=>∃k,x=.bl k/\_) hr ⟨Ow,env,p,E,q,λv H' s r=>?_⟩
  cases p with
  | bl d=>
   cases hf
   cases r
   exact⟨_,rfl,k H' s⟩
  | _=>cases hf
theorem gW {j:Nat}(hr:Room j X.A)(h1:SE X b G m1 e1 f1)(h2:SE X b G m2 e2 f2)(hK:X.K=b.C.K:=by rfl):SC X b G .Eq e1 e2 (b2 eqQ f1 f2):=kZ (r:=QX b.C.K) (by rw[← hK];exact OpR.or S7 (Qf hr.units)) Tu h1 h2 (lF _)
theorem k_ {j:Nat}(hr:Room j X.A)(h1:SE X b G m1 e1 f1)(h2:SE X b G m2 e2 f2)(hK:X.K=b.C.K:=by rfl):SC X b G .NotEq e1 e2 (b2 neQ f1 f2):=kZ (r:=QZ b.C.K) (by rw[← hK];exact OpR.or S8 (Qg hr.units)) Tv h1 h2 (lF _)
theorem TF (h1:SE X b G m1 e1 f1)(h2:SE X b G m2 e2 f2):SC X b G .Gt e1 e2 (b2 (p7 λi j=>decide (j < i)) f1 f2):=kZ S9 Gh h1 h2 (lF _)
theorem J8 (h1:SE X b G m1 e1 f1)(h2:SE X b G m2 e2 f2):SC X b G .GtE e1 e2 (b2 (p7 λi j=>decide (j<=i)) f1 f2):=kZ S_ Gh h1 h2 (lF _)
theorem Dp {j:Nat}(hr:Room j X.A)(h1:SE X b G m1 e1 f1)(h2:SE X b G m2 e2 f2)(hm:behindInMarks .In e2=false:=by rfl)(hK:X.K=b.C.K:=by rfl):SC X b G .In e1 e2 (b2 inQ f1 f2):=
 kZ (r:=Q4 b.C.K) (by rw[← hK];exact OpR.or (OpR.or Fv Fe) (OpR.or (Q0 (nR hr)) (Q3 hr.units))) Tz h1 h2 hm
theorem yW {j:Nat}(hr:Room j X.A)(h1:SE X b G m1 e1 f1)(h2:SE X b G m2 e2 f2)(hm:behindInMarks .NotIn e2=false:=by rfl)(hK:X.K=b.C.K:=by rfl):SC X b G .NotIn e1 e2 (b2 pI f1 f2):=
 kZ (r:=Br b.C.K) (by rw[← hK];exact OpR.or (OpR.or yF yG) (OpR.or (Gj (nR hr)) (Gi hr.units))) Jc h1 h2 hm
theorem xZ (h1:SE X b G m1 e1 f1)(h2:SE X b G m2 e2 f2):SC X b G .Is e1 e2 (b2 isN f1 f2):=kZ Pn Q5 h1 h2 (lF _)
theorem mJ (h1:SE X b G m1 e1 f1)(h2:SE X b G m2 e2 f2):SC X b G .IsNot e1 e2 (b2 jo f1 f2):=kZ KR Gm h1 h2 (lF _)
theorem iH {op:CmpOp}(h:SC X b G op e1 e2 f):SE X b G .val (.Compare e1 [op] [e2] pos) f:=h.pe pos
theorem bj {op:CmpOp}(h:SC X b G op e1 e2 f):ST X b G (.Compare e1 [op] [e2] pos) (tV f):=h.pt pos
noncomputable def lG (g g':Int->Int->Bool)(f1 f2 f3:qS)(env:Env):Option PV:=(f1 env).bind λx=>(f2 env).bind λy=>match x,y with
 | .int i,.int j=>if g i j=true then (f3 env).bind λz=>p7 g' y z else some (.bl false)
 | _,_=>none
@[simp] theorem Ui (g g':Int->Int->Bool)(f1 f2 f3:qS)(env:Env):lG g g' f1 f2 f3 env=((f1 env).bind λx=>(f2 env).bind λy=>match x,y with
 | .int i,.int j=>if g i j=true then (f3 env).bind λz=>p7 g' y z else some (.bl false)
 | _,_=>none):=id rfl
theorem Ay {g g':Int->Int->Bool}{f1 f2 f3:qS}{env:Env}{p:PV}(h:lG g g' f1 f2 f3 env=some p):
  ∃i j,f1 env=some (.int i)/\f2 env=some (.int j)/\((g i j=false/\p=.bl false)\/(g i j=true/\∃l,f3 env=some (.int l)/\p=.bl (g' j l))):=by
 unfold lG at h
 cases q1:f1 env with
 | none=>rw[q1] at h;cases h
 | some p1=>
  cases q2:f2 env with
  | none=>rw[q1,q2] at h;cases h
  | some p2=>
   rw[q1,q2] at h
   simp only[bS] at h
   split at h
   ·rename_i i j
    refine⟨i,j,rfl,rfl,?_⟩
    cases hg:g i j with
    | false=>
     rw[hg] at h
     cases h
     exact .inl ⟨rfl,rfl⟩
    | true=>
     rw[hg] at h
     simp only[gx] at h
     obtain⟨p3,q3,h⟩:=Option.bind_eq_some_iff.mp h
     cases p3 with
     | int l=>
      cases h
      exact .inr ⟨rfl,l,q3,rfl⟩
     | _=>cases h
   ·cases h
theorem mK {op}(h:SE X b G m e f):SE X b G m (.BoolOp op [e] pos) f:=Ou h
theorem uW {rest:qo}(h1:SE X b G .val e1 f1)(h2:SE X b G .val (.BoolOp .And (e2::rest) pos) f2):SE X b G .val (.BoolOp .And (e1::e2::rest) pos) (rD f1 f2):=
 PE.imp (Ov h1 h2)<|by
  rintro σ H Q ⟨Ow,env,p,E,hf,k⟩
  unfold rD at hf
  cases q1:f1 env with
  | none=>rw[q1] at hf;cases hf
  | some p1=>
   rw[q1] at hf
   refine⟨Ow,env,p1,E,q1,λv1 H1 s1 r1=>?_⟩
   cases p1 with
   | bl c=>
    cases r1
    refine⟨c,rfl,?_⟩
    cases c with
    | true=>exact⟨Ow,env,p,E.up s1,hf,λv H' s r=>k v H' (s1.trans s) r⟩
    | false=>cases hf;exact k _ H1 s1 (.bl false)
   | _=>cases hf
theorem x_ {rest:qo}(h1:SE X b G .val e1 f1)(h2:SE X b G .val (.BoolOp .Or (e2::rest) pos) f2):SE X b G .val (.BoolOp .Or (e1::e2::rest) pos) (bOr f1 f2):=
 PE.imp (Sx h1 h2)<|by
  rintro σ H Q ⟨Ow,env,p,E,hf,k⟩
  unfold bOr at hf
  cases q1:f1 env with
  | none=>rw[q1] at hf;cases hf
  | some p1=>
   rw[q1] at hf
   refine⟨Ow,env,p1,E,q1,λv1 H1 s1 r1=>?_⟩
   cases p1 with
   | bl c=>
    cases r1
    refine⟨c,rfl,?_⟩
    cases c with
    | false=>exact⟨Ow,env,p,E.up s1,hf,λv H' s r=>k v H' (s1.trans s) r⟩
    | true=>cases hf;exact k _ H1 s1 (.bl true)
   | _=>cases hf
theorem Gn (h1:SE X b G .val e1 f1):SE X b G .val (.UnaryOp .Not e1 pos) (yU f1):=
 PE.imp (Ox h1)<|by
  rintro σ H Q ⟨Ow,env,p,E,hf,k⟩
  unfold yU at hf
  cases q1:f1 env with
  | none=>rw[q1] at hf;cases hf
  | some p1=>
   rw[q1] at hf
   refine⟨Ow,env,p1,E,q1,λv1 H1 s1 r1=>?_⟩
   cases p1 with
   | bl c=>cases r1;cases hf;exact⟨c,rfl,k _ H1 s1 (.bl _)⟩
   | _=>cases hf
@[simp] noncomputable def qb:PV->Option PV
 | .int i=>some (.int (-i))
 | _=>none
theorem uX (h1:SE X b G m e1 f1):SE X b G .val (.UnaryOp .USub e1 pos) (b1 qb f1):=
 PE.imp (S6 Pk h1.bor) fun σ H Q h=>Dn (r:=rU λi=>.int (-i)) (λOw H v1 p1 p Q hn r1 e k=>by
  cases p1 <;> simp only[qb] at e <;> cases e
  exact⟨_,r1.int,k _ H (Same.refl _) (.int _)⟩) h
theorem dJ (h:SE X b G .val e f)(he:∀whole,isTrue e X.env whole=(do let v ← whole;standAt e.pos;holding [v] (truthy v)):=by intro _;rfl):ST X b G e (tV f):=
 PT.imp (Om h he)<|by
  rintro σ H Q ⟨Ow,env,c,E,hf,k⟩
  unfold tV at hf
  cases q1:f env with
  | none=>rw[q1] at hf;cases hf
  | some p1=>
   rw[q1] at hf
   refine⟨Ow,env,p1,E,q1,λv1 H1 s1 r1=>?_⟩
   cases p1 with
   | bl d=>cases r1;cases hf;exact⟨_,rfl,k H1 s1⟩
   | _=>cases hf
theorem dM {g:Env->Option Bool}(h:ST X b G e g):ST X b G (.UnaryOp .Not e pos) (tN g):=
 PT.imp (Ot h)<|by
  rintro σ H Q ⟨Ow,env,c,E,hf,k⟩
  unfold tN at hf
  cases q1:g env with
  | none=>rw[q1] at hf;cases hf
  | some p1=>rw[q1] at hf;cases hf;exact⟨Ow,env,p1,E,q1,λH' s=>k H' s⟩
abbrev SW (X:Cx)(b:BX)(G:qf)(e:Expr)(g:Env->Option Bool):Prop:=PW X e (tMT b G g)
theorem PW.imp {t u:TT}(h:PW X e t)(i:∀ σ H Q,u σ H Q->t σ H Q):PW X e u:=λwh pins s σ H Q I q=>h wh pins s σ H Q I (i σ H Q q)
variable {g1 g2:Env->Option Bool}
theorem j9 (h:ST X b G e g1):SW X b G (.BoolOp .And [e] pos) g1:=KH h
theorem mL (h:ST X b G e g1):SW X b G (.BoolOp .Or [e] pos) g1:=Oo h
theorem lH {rest:qo}(h1:ST X b G e1 g1)(h2:SW X b G (.BoolOp .And (e2::rest) pos) g2):SW X b G (.BoolOp .And (e1::e2::rest) pos) (tA g1 g2):=
 PW.imp (Oq h1 h2)<|by
  rintro σ H Q ⟨Ow,env,c,E,hf,k⟩
  unfold tA at hf
  cases q1:g1 env with
  | none=>rw[q1] at hf;cases hf
  | some p1=>
   rw[q1] at hf
   refine⟨Ow,env,p1,E,q1,λH1 s1=>?_⟩
   cases p1 with
   | true=>exact⟨Ow,env,c,E.up s1,hf,λH' s=>k H' (s1.trans s)⟩
   | false=>cases hf;exact k H1 s1
theorem n_ {rest:qo}(h1:ST X b G e1 g1)(h2:SW X b G (.BoolOp .Or (e2::rest) pos) g2):SW X b G (.BoolOp .Or (e1::e2::rest) pos) (tO g1 g2):=
 PW.imp (Ss h1 h2)<|by
  rintro σ H Q ⟨Ow,env,c,E,hf,k⟩
  unfold tO at hf
  cases q1:g1 env with
  | none=>rw[q1] at hf;cases hf
  | some p1=>
   rw[q1] at hf
   refine⟨Ow,env,p1,E,q1,λH1 s1=>?_⟩
   cases p1 with
   | false=>exact⟨Ow,env,c,E.up s1,hf,λH' s=>k H' (s1.trans s)⟩
   | true=>cases hf;exact k H1 s1
theorem SW.st (h:SW X b G e g1):ST X b G e g1:=h _
theorem Dq {c:Expr}(hc:ST X b G c g1)(h1:SE X b G m e1 f1)(h2:SE X b G m e2 f2):SE X b G m (.IfExp c e1 e2 pos) (bIf g1 f1 f2):=
 PE.imp (HD hc h1 h2)<|by
  rintro σ H Q ⟨Ow,env,p,E,hf,k⟩
  unfold bIf at hf
  cases q1:g1 env with
  | none=>rw[q1] at hf;cases hf
  | some c=>
   rw[q1] at hf
   refine⟨Ow,env,c,E,q1,λH1 s1=>?_⟩
   cases c with
   | true=>exact⟨Ow,env,p,E.up s1,hf,λv H' s r=>k v H' (s1.trans s) (r.down s1)⟩
   | false=>exact⟨Ow,env,p,E.up s1,hf,λv H' s r=>k v H' (s1.trans s) (r.down s1)⟩
end
def ArA (b:BX)(Ow:Addr->Prop)(L:Bool)(H:Hp)(a:Addr):Prop:=Bs b Ow a\/(L=true/\∃vs,H a=some (.lst vs))
def tMA (b:BX)(G:qf)(L:Bool)(g:Env->Option (List PV)):TA:=fun σ H Q=>∃Ow env ps,ER b Ow G σ env H/\g env=some ps/\∀vs H',Same H H'->Reps b.C (ArA b Ow L H') H' vs ps->Q vs H'
abbrev SA (X:Cx)(b:BX)(G:qf)(L:Bool)(es:qo)(g:Env->Option (List PV)):Prop:=PA X es (tMA b G L g)
theorem PA.imp {X:Cx}{es:qo}{t u:TA}(h:PA X es t)(i:∀ σ H Q,u σ H Q->t σ H Q):PA X es u:=λpos pins s σ H Q I q=>h pos pins s σ H Q I (i σ H Q q)
section
variable {X:Cx}{b:BX}{G:qf}{m m1 m2:Md}{L:Bool}{e e1 e2:Expr}{es:qo}{f f1 f2:qS}{g:Env->Option (List PV)}{pos p:Pos}
theorem az:SA X b G L [] aD:=PA.imp di<|by rintro σ H Q ⟨Ow,env,ps,E,hg,k⟩;cases hg;exact k [] H (Same.refl _) .nil
theorem aj (h1:SE X b G .val e f)(h2:SA X b G L es g)(hs:starEach (e::es) X.env=(false,eval e X.env)::starEach es X.env:=by rfl):SA X b G L (e::es) (ak f g):=
 PA.imp (bZ h1 h2 hs)<|by
  rintro σ H Q ⟨Ow,env,ps,E,hg,k⟩
  unfold ak at hg
  cases q1:f env with
  | none=>rw[q1] at hg;cases hg
  | some p1=>
   rw[q1] at hg
   cases q2:g env with
   | none=>rw[q2] at hg;cases hg
   | some ps'=>
    rw[q2] at hg
    cases hg
    exact⟨Ow,env,p1,E,q1,λv H1 s1 r1=>⟨Ow,env,ps',E.up s1,q2,λvs H2 s2 r2=>k (v::vs) H2 (s1.trans s2) (.cons (Rep.ex (λa o h=>⟨λq=>⟨s2 _ _ h,.inl q⟩,λ_=>s2 _ _ h⟩) r1) r2)⟩⟩
theorem yc {b:BX}{Ow:Addr->Prop}{H:Hp}{vs:List V}{ps:List PV}(h:Reps b.C (ArA b Ow false H) H vs ps):Reps b.C (Bs b Ow) H vs ps:=h.ex (dq λa o _ q=>q.elim id λz=>by cases z.1)
theorem bN (h:SA X b G false es g):SE X b G .own (.List es pos) (b_ g):=PE.imp (yt h)<|by
 rintro σ H Q ⟨Ow,env,p,E,hf,k⟩
 unfold b_ at hf
 cases q1:g env with
 | none=>rw[q1] at hf;cases hf
 | some ps=>
  rw[q1] at hf
  simp only[bS] at hf
  split at hf
  ·rename_i hl
   cases hf
   refine⟨Ow,env,ps,E,q1,λvs H1 s1 r=>⟨gw (by rw[r.length];exact hl),λq hq=>k _ _ (s1.trans (bJ hq _)) (Res.down s1 (j8 hq (yc r)))⟩⟩
  ·cases hf
theorem cg {x1}(h:SA X b G false es g):SE X b G .val (.Tuple es x1 pos) (cI g):=PE.imp (Pu h)<|by
 rintro σ H Q ⟨Ow,env,p,E,hf,k⟩
 unfold cI at hf
 cases q1:g env with
 | none=>rw[q1] at hf;cases hf
 | some ps=>
  rw[q1] at hf
  simp only[bS] at hf
  split at hf
  ·rename_i hl
   cases hf
   refine⟨Ow,env,ps,E,q1,λvs H1 s1 r=>⟨gw (by rw[r.length];exact hl),λq hq=>k _ _ (s1.trans (bJ hq _)) (vX hq (yc r))⟩⟩
  ·cases hf
theorem Dr:SE X b G .own (.Dict [] [] pos) (bC (.dT [])):=PE.imp HY<|by
 rintro σ H Q ⟨Ow,env,p,E,hf,k⟩ q hq
 cases hf
 exact k _ _ (bJ hq _) ⟨q,rfl,hq,[],bc,.nil⟩
@[simp] noncomputable def ixP:PV->PV->Option PV
 | .lst xs,.int i=>atI xs i
 | .frz xs,.int i=>atI xs i
 | .tup xs,.int i=>atI xs i
 | .ktp xs,.int i=>atI xs i
 | .str x,.int i=>if x.length<=1000000 then (atI x.cps.toList i).map λc=>.str ⟨#[c]⟩ else none
 | .dK kvs,y=>(keyOf y).bind λk=>dj kvs k
 | .dT kvs,.tup ys=>(keysB ys).bind λk=>dj kvs k
 | _,_=>none
theorem Reps.atI {C:MC}{A:Addr->Prop}{H:Hp}{vs:List V}{ps:List PV}{i:Int}{p:PV}(h:Reps C A H vs ps)(e:atI ps i=some p):∃v,L2.atI vs i=some v/\Rep C A H v p:=by
 unfold L2.atI at e ⊢
 rw[h.length]
 cases q:ixN ps.length i with
 | none=>rw[q] at e;cases e
 | some j=>rw[q] at e;exact h.get e
theorem aK {j:Nat}(hr:Room j X.A)(h1:SE X b G m1 e1 f1)(h2:SE X b G m2 e2 f2)(hs:vO e2:=by intro _ _;rfl)(hs':HX e2:=by intro _ _;rfl)(hK:X.K=b.C.K:=by rfl):SE X b G .val (.Subscript e1 e2 pos) (b2 ixP f1 f2):=by
 refine PE.imp (PE.or (J5 (r:=rIx b.C.K) (by rw[← hK];exact PX) h1.bor h2.bor hs) (K6 (nR hr) h1.bor h2.bor hs')) fun σ H Q h=>?_
 obtain⟨Ow,env,p,E,hf,k⟩:=h
 unfold b2 at hf
 cases q1:f1 env with
 | none=>rw[q1] at hf;cases hf
 | some p1=>
  rw[q1] at hf
  cases q2:f2 env with
  | none=>rw[q2] at hf;cases hf
  | some p2=>
   rw[q2] at hf
   simp only[bS] at hf
   have step:∀(R:V->V->Hp->VK->Prop),(∀H2 v1 v2,RepB b.C (Bs b Ow) H2 v1 p1->RepB b.C (Bs b Ow) H2 v2 p2->Same H H2->R v1 v2 H2 Q)->tM b G .bor f1 σ H λx H1=>tM b G .bor f2 σ H1 λy H2=>R x y H2 Q:=λR hR=>
    ⟨Ow,env,p1,E,q1,λv1 H1 s1 r1=>⟨Ow,env,p2,E.up s1,q2,λv2 H2 s2 r2=>hR H2 v1 v2 (Res.up (m:=.bor) r1 s2) r2 (s1.trans s2)⟩⟩
   unfold ixP at hf
   split at hf
   ·refine .inl (step _ λH2 v1 v2 r1 r2 s=>?_)
    obtain⟨a,vs,rfl,ha,ra⟩:=r1.lst
    obtain⟨v,hv,rv⟩:=ra.atI hf
    rw[r2.int]
    exact .inl ⟨a,vs,_,v,rfl,rfl,SqL.of ha,hv,k v H2 s rv⟩
   ·refine .inl (step _ λH2 v1 v2 r1 r2 s=>?_)
    obtain⟨a,vs,rfl,ha,ra⟩:=r1.frz
    obtain⟨v,hv,rv⟩:=ra.atI hf
    rw[r2.int]
    exact .inl ⟨a,vs,_,v,rfl,rfl,ha,hv,k v H2 s rv⟩
   ·refine .inl (step _ λH2 v1 v2 r1 r2 s=>?_)
    obtain⟨a,vs,rfl,ha,ra⟩:=r1.tup
    obtain⟨v,hv,rv⟩:=ra.atI hf
    rw[r2.int]
    exact .inr (.inl ⟨a,vs,_,v,rfl,rfl,ha.sq,hv,k v H2 s rv⟩)
   ·refine .inl (step _ λH2 v1 v2 r1 r2 s=>?_)
    obtain⟨a,vs,rfl,ha,ra⟩:=r1.ktp
    obtain⟨v,hv,rv⟩:=ra.atI hf
    rw[r2.int]
    exact .inr (.inl ⟨a,vs,_,v,rfl,rfl,ha,hv,k v H2 s rv⟩)
   ·split at hf
    ·rename_i x i hx
     cases q3:atI x.cps.toList i with
     | none=>rw[q3] at hf;cases hf
     | some c=>
      rw[q3] at hf
      cases hf
      refine .inl (step _ λH2 v1 v2 r1 r2 s=>?_)
      rw[r1.str,r2.int]
      exact .inr (.inr ⟨x,i,c,rfl,rfl,gw hx,q3,k _ H2 s (.str _)⟩)
    ·cases hf
   ·rename_i kvs
    cases q3:keyOf p2 with
    | none=>rw[q3] at hf;cases hf
    | some ky=>
     rw[q3] at hf
     simp only[bS] at hf
     refine .inr (step (λx y H2 Q=>∃a v,x=.ref a/\DGet X.K H2 a y (some v)/\Q v H2) λH2 v1 v2 r1 r2 s=>?_)
     obtain⟨a,kv,rfl,ha,ra⟩:=r1.dK
     rw[r2.key q3]
     unfold dj at hf
     rcases RepK.val (k:=ky) ra with ⟨v,p',h1,h2,rv⟩ | ⟨h1,h2⟩
     ·rw[h2] at hf
      cases hf
      exact⟨a,v,rfl,by rw[← h1];exact DGet.k ha,k v H2 s rv⟩
     ·rw[h2] at hf;cases hf
   ·rename_i kvs ys
    cases q3:keysB ys with
    | none=>rw[q3] at hf;cases hf
    | some ky=>
     rw[q3] at hf
     simp only[bS] at hf
     refine .inr (step (λx y H2 Q=>∃a v,x=.ref a/\DGet X.K H2 a y (some v)/\Q v H2) λH2 v1 v2 r1 r2 s=>?_)
     obtain⟨a,kv,rfl,ha,ra⟩:=r1.dT
     obtain⟨c,vs,rfl,hc,rc⟩:=r2.tup
     unfold dj at hf
     rcases RepT.val (k:=ky) ra with ⟨v,p',h1,h2,rv⟩ | ⟨h1,h2⟩
     ·rw[h2] at hf
      cases hf
      exact⟨a,v,rfl,by rw[← h1,hK];exact DGet.t ha (hc.key (rc.keysB q3)),k v H2 s rv⟩
     ·rw[h2] at hf;cases hf
   ·cases hf
noncomputable def fK (xs:List PV)(lo hi:Option Int):List PV:=(xs.drop (HT.sIx xs.length 0 lo)).take (HT.sIx xs.length xs.length hi - HT.sIx xs.length 0 lo)
theorem Reps.cut {C:MC}{A:Addr->Prop}{H:Hp}{vs:List V}{ps:List PV}(h:Reps C A H vs ps)(lo hi:Option Int):Reps C A H (vL vs lo hi) (fK ps lo hi):=by
 unfold vL fK
 rw[h.length]
 exact(h.drop _).take _
noncomputable def oN (env:Env):Option (Option Int):=some none
@[simp] theorem Wc (env:Env):oN env=(some none):=id rfl
noncomputable def oS (f:qS)(env:Env):Option (Option Int):=(f env).bind λp=>match p with | .int i=>some (some i) | _=>none
@[simp] theorem Wd (f:qS)(env:Env):oS f env=((f env).bind λp=>match p with | .int i=>some (some i) | _=>none):=id rfl
def tMO (b:BX)(G:qf)(f:Env->Option (Option Int)):TO:=fun σ H Q=>∃Ow env o,ER b Ow G σ env H/\f env=some o/\∀H',Same H H'->Q o H'
theorem PO.imp {x:Option Expr}{t u:TO}(h:PO X x t)(i:∀ σ H Q,u σ H Q->t σ H Q):PO X x u:=by
 intro pins s σ H Q I q
 exact h pins s σ H Q I (i σ H Q q)
abbrev SO (X:Cx)(b:BX)(G:qf)(e:Option Expr)(f:Env->Option (Option Int)):Prop:=PO X e (tMO b G f)
theorem pJ:SO X b G none oN:=PO.imp K9<|by rintro σ H Q ⟨Ow,env,o,E,hf,k⟩;cases hf;exact k H (Same.refl _)
theorem gB (h:SE X b G m e f):SO X b G (some e) (oS f):=PO.imp (K_ h.bor)<|by
 rintro σ H Q ⟨Ow,env,o,E,hf,k⟩
 unfold oS at hf
 cases q1:f env with
 | none=>rw[q1] at hf;cases hf
 | some p1=>
  rw[q1] at hf
  refine⟨Ow,env,p1,E,q1,λv H1 s1 r1=>?_⟩
  have r1':RepB b.C (Bs b Ow) H1 v p1:=r1
  cases p1 <;> simp only[bS] at hf <;> cases hf
  exact⟨_,r1'.int,k H1 s1⟩
noncomputable def bSl (f:qS)(lo hi:Env->Option (Option Int))(env:Env):Option PV:=(f env).bind λx=>(lo env).bind λl=>(hi env).bind λh=>match x with
 | .lst xs=>some (.lst (fK xs l h))
 | .frz xs=>some (.lst (fK xs l h))
 | .str x=>if x.length<=1000000 then some (.str (rA x l h)) else none
 | _=>none
@[simp] theorem VD (f:qS)(lo hi:Env->Option (Option Int))(env:Env):bSl f lo hi env=((f env).bind λx=>(lo env).bind λl=>(hi env).bind λh=>match x with
 | .lst xs=>some (.lst (fK xs l h))
 | .frz xs=>some (.lst (fK xs l h))
 | .str x=>if x.length<=1000000 then some (.str (rA x l h)) else none
 | _=>none):=id rfl
theorem oh {lo hi:Option Expr}{p2:Pos}{fl fh:Env->Option (Option Int)}(h1:SE X b G m e f)(hl:SO X b G lo fl)(hh:SO X b G hi fh)(hK:X.K=b.C.K:=by rfl):SE X b G .val (.Subscript e (.Slice lo hi none p2) pos) (bSl f fl fh):=by
 refine PE.imp (Ie (r:=Qk b.C.K) (by rw[← hK];exact Ql) h1.bor hl hh) fun σ H Q ⟨Ow,env,p,E,hf,k⟩=>?_
 unfold bSl at hf
 cases q1:f env with
 | none=>rw[q1] at hf;cases hf
 | some p1=>
  rw[q1] at hf
  cases q2:fl env with
  | none=>rw[q2] at hf;cases hf
  | some l=>
   rw[q2] at hf
   cases q3:fh env with
   | none=>rw[q3] at hf;cases hf
   | some h=>
    rw[q3] at hf
    refine⟨Ow,env,p1,E,q1,λv H1 s1 r1=>⟨Ow,env,l,E.up s1,q2,λH2 s2=>⟨Ow,env,h,E.up (s1.trans s2),q3,λH3 s3=>?_⟩⟩⟩
    have r1':RepB b.C (Bs b Ow) H3 v p1:=Res.up (m:=.bor) r1 (s2.trans s3)
    cases p1 <;> simp only[bS] at hf
    case lst xs=>
     cases hf
     obtain⟨a,vs,rfl,ha,ra⟩:=r1'.lst
     exact .inl ⟨a,vs,rfl,SqL.of ha,λq hq=>k _ _ (s1.trans (s2.trans (s3.trans (bJ hq _)))) (Res.val (m:=.own) E (λz=>nomatch z) (Res.down (s1.trans (s2.trans s3)) (j8 hq (ra.cut l h))))⟩
    case frz xs=>
     cases hf
     obtain⟨a,vs,rfl,ha,ra⟩:=r1'.frz
     exact .inl ⟨a,vs,rfl,ha,λq hq=>k _ _ (s1.trans (s2.trans (s3.trans (bJ hq _)))) (Res.val (m:=.own) E (λz=>nomatch z) (Res.down (s1.trans (s2.trans s3)) (j8 hq (ra.cut l h))))⟩
    case str x=>
     split at hf
     ·rename_i hx
      cases hf
      exact .inr ⟨x,r1'.str,gw hx,k _ _ (s1.trans (s2.trans s3)) (.str _)⟩
     ·cases hf
    all_goals cases hf
theorem yX {id:String}{x:Str}{r:List V->Hp->VK->Prop}{g:PV->Option PV}(hc:CallR X (.builtin id) r)(hr:Op1 b m (λv H Q=>r [v] H Q) g)(hm:X.mg x=none)(hv:bootBuiltins x=some (.builtin id))(h:SE X b G m1 e f)
  (hg:Gl X x:=by rfl) (hn:x ≠ "__name__" := by decide) (hdb:(x == ("__debug__" : Str))=false:=by decide) (he:starEach [e] X.env=(false,eval e X.env)::starEach [] X.env:=by rfl):
  SE X b G m (.Call (.Name x p) [e] [] pos) (b1 g f):=
 PE.imp (yx hc hg hm hv (bZ h.bor di he) hn hdb he rfl) fun σ H Q h=>Dn hr h
theorem Bt {id:String}{x:Str}{r:List V->Hp->VK->Prop}{g:PV->Option PV}(hc:CallR X (.type id) r)(hr:Op1 b m (λv H Q=>r [v] H Q) g)(hm:X.mg x=none)(hv:bootBuiltins x=some (.type id))(h:SE X b G m1 e f)
  (hg:Gl X x:=by rfl) (hn:x ≠ "__name__" := by decide) (hdb:(x == ("__debug__" : Str))=false:=by decide) (he:starEach [e] X.env=(false,eval e X.env)::starEach [] X.env:=by rfl):
  SE X b G m (.Call (.Name x p) [e] [] pos) (b1 g f):=
 PE.imp (Fl hc hg hm hv (bZ h.bor di he) hn hdb he rfl) fun σ H Q h=>Dn hr h
@[simp] noncomputable def lenV:PV->Option PV
 | .lst xs=>some (.int xs.length)
 | .frz xs=>some (.int xs.length)
 | .tup xs=>some (.int xs.length)
 | .ktp xs=>some (.int xs.length)
 | .str x=>if x.length<=1000000 then some (.int x.length) else none
 | .dK kvs=>some (.int kvs.length)
 | _=>none
theorem RepK.length {C:MC}{A:Addr->Prop}{H:Hp}:∀{vs:List (Key×V)}{ps:List (Key×PV)},RepK C A H vs ps->vs.length=ps.length
 | _,_,.nil=>rfl
 | _,_,.cons _ t=>by simp[RepK.length t]
theorem aY (hm:X.mg "len" = none)(h:SE X b G m1 e f)(hK:X.K=b.C.K:=by rfl)(hg:Gl X "len" := by rfl)(he:starEach [e] X.env=(false,eval e X.env)::starEach [] X.env:=by rfl):SE X b G .val (.Call (.Name "len" p) [e] [] pos) (b1 lenV f):=by
 refine yX (CallR.or (CallR.or yH yI) FN) (λOw H v1 p1 p Q hn r1 e k=>?_) hm PySem.boot_len h hg (by decide) (by decide) he
 rw[hK]
 cases p1 <;> simp only[lenV] at e
 case lst xs=>cases e;obtain⟨a,vs,rfl,ha,ra⟩:=r1.lst;exact .inl (.inl ⟨a,vs,rfl,.inl (SqL.of ha),by rw[ra.length];exact k _ H (Same.refl _) (.int _)⟩)
 case frz xs=>cases e;obtain⟨a,vs,rfl,ha,ra⟩:=r1.frz;exact .inl (.inl ⟨a,vs,rfl,.inl ha,by rw[ra.length];exact k _ H (Same.refl _) (.int _)⟩)
 case tup xs=>cases e;obtain⟨a,vs,rfl,ha,ra⟩:=r1.tup;exact .inl (.inl ⟨a,vs,rfl,.inr ha.sq,by rw[ra.length];exact k _ H (Same.refl _) (.int _)⟩)
 case ktp xs=>cases e;obtain⟨a,vs,rfl,ha,ra⟩:=r1.ktp;exact .inl (.inl ⟨a,vs,rfl,.inr ha,by rw[ra.length];exact k _ H (Same.refl _) (.int _)⟩)
 case str x=>
  split at e
  ·rename_i hx
   cases e
   rw[r1.str]
   exact .inl (.inr ⟨x,rfl,gw hx,k _ H (Same.refl _) (.int _)⟩)
  ·cases e
 case dK kvs=>cases e;obtain⟨a,vs,rfl,ha,ra⟩:=r1.dK;exact .inr ⟨a,vs,rfl,ha,by rw[ra.length];exact k _ H (Same.refl _) (.int _)⟩
 all_goals cases e
@[simp] noncomputable def Ds:PV->Option PV
 | .int i=>some (.int i)
 | .bl k=>some (.int (if k then 1 else 0))
 | _=>none
theorem LK (hm:X.mg "int" = none)(h:SE X b G m1 e f)(hg:Gl X "int" := by rfl)(he:starEach [e] X.env=(false,eval e X.env)::starEach [] X.env:=by rfl):SE X b G .val (.Call (.Name "int" p) [e] [] pos) (b1 Ds f):=by
 refine Bt Ff (λOw H v1 p1 p Q hn r1 e k=>?_) hm o0 h hg (by decide) (by decide) he
 cases p1 <;> simp only[Ds] at e <;> cases e
 ·rw[r1.bl];exact .inr ⟨_,rfl,k _ H (Same.refl _) (.int _)⟩
 ·rw[r1.int];exact .inl ⟨_,rfl,k _ H (Same.refl _) (.int _)⟩
@[simp] def bools:List PV->Option (List Bool)
 | []=>some []
 | .bl c::r=>(bools r).map (c::·)
 | _::_=>none
theorem Reps.bools {C:MC}{A:Addr->Prop}{H:Hp}:∀{vs:List V}{ps:List PV}{bs:List Bool},Reps C A H vs ps->bools ps=some bs->vs=bs.map V.bl
 | _,_,_,.nil,e=>by cases e;rfl
 | _,_,_,.cons (p:=p) (ps:=ps) h t,e=>by
  cases p <;> simp only[MR.bools] at e <;> first | cases e | skip
  rename_i c
  cases q:MR.bools ps with
  | none=>rw[q] at e;cases e
  | some bs=>rw[q] at e;cases e;cases h;rw[Reps.bools t q];rfl
@[simp] noncomputable def yZ:PV->Option PV
 | .lst xs=>(bools xs).map λbs=>.bl (bs.all id)
 | _=>none
theorem Gp (hm:X.mg "all" = none)(h:SE X b G m1 e f)(hcm:X.calm=true:=by rfl)(hg:Gl X "all" := by rfl)(he:starEach [e] X.env=(false,eval e X.env)::starEach [] X.env:=by rfl):SE X b G .val (.Call (.Name "all" p) [e] [] pos) (b1 yZ f):=by
 refine yX (Ik hcm) (λOw H v1 p1 p Q hn r1 e k=>?_) hm PyProof.Rows.boot_all h hg (by decide) (by decide) he
 cases p1 <;> simp only[yZ] at e <;> first | cases e | skip
 rename_i xs
 cases q:bools xs with
 | none=>rw[q] at e;cases e
 | some bs=>
  rw[q] at e
  cases e
  obtain⟨a,vs,rfl,ha,ra⟩:=r1.lst
  have hv:=ra.bools q
  subst hv
  exact⟨a,bs,rfl,SqL.of ha,k _ H (Same.refl _) (.bl _)⟩
def Ret (C:MC)(A:Addr->Prop)(H:Hp)(ro:Bool)(H':Hp)(v:V)(p:PV):Prop:=match ro with
 | true=>∃a,v=.ref a/\H a=none/\Top C (λc=>(A c\/H c=none)/\c≠a) H' a p
 | false=>Rep C (λc=>A c\/H c=none) H' v p
def spM (C:MC)(m:List PV->Option PV)(ro:Bool):Sp:=λvs H Q _=>∃A ps p,Reps C A H vs ps/\m ps=some p/\∀v H',Same H H'->Ret C A H ro H' v p->Q v H'
def Q6:Bool->Md
 | true=>.own
 | false=>.val
theorem Ret.res {Ow:Addr->Prop}{σ:St}{env:Env}{H H1 H':Hp}{ro:Bool}{v:V}{q:PV}(E:ER b Ow G σ env H)(s:Same H H1)(r:Ret b.C (Bs b Ow) H1 ro H' v q):Res b Ow H H' (Q6 ro) v q:=by
 cases ro with
 | true=>
  obtain⟨a,rfl,h,t⟩:=r
  exact⟨a,rfl,s.free h,t.ex (dq λc o _ z=>⟨z.1.elim id λw=>(E.up s).fresh w,z.2⟩) λo z=>z⟩
 | false=>exact Rep.ex (dq λc o _ z=>z.elim id λw=>(E.up s).fresh w) r
theorem LQ {k j:Nat}{x:Str}{ps:qr}{mi:List PV->Option PV}{ro:Bool}(c:Cal X.prog X.w X.K X.mg X.base k x ps (spM b.C mi ro))(hr:Room j X.A)(ha:SA X b G false (e::es) g)(hle:k<=j:=by decide)(hg:Gl X x:=by rfl)
  (hdb:(x == ("__debug__" : Str))=false:=by decide) (he:starEach (e::es) X.env=(false,eval e X.env)::starEach es X.env:=by rfl) (hpl:(backTo pos (starEach es X.env)).any (·.1)=false:=by rfl):
  SE X b G (Q6 ro) (.Call (.Name x p) (e::es) [] pos) (aM mi g):=by
 refine PE.imp (Qh c hr ha hle hg hdb he hpl) ?_
 rintro σ H Q ⟨Ow,env,q,E,hf,kk⟩
 unfold aM at hf
 cases q1:g env with
 | none=>rw[q1] at hf;cases hf
 | some qs=>
  rw[q1] at hf
  refine⟨Ow,env,qs,E,q1,λvs H1 s1 r=>?_⟩
  dsimp only
  rw[bE]
  exact⟨Bs b Ow,qs,q,yc r,hf,λv H' s' rr=>kk v H' (s1.trans s') (Ret.res E s1 rr)⟩
theorem aG {k j:Nat}{x:Str}{ps:qr}{mi:List PV->Option PV}(c:Cal X.prog X.w X.K X.mg X.base k x ps (spM b.C mi false))(hr:Room j X.A)(ha:SA X b G false (e::es) g)(hle:k<=j:=by decide)(hg:Gl X x:=by rfl)
  (hdb:(x == ("__debug__" : Str))=false:=by decide) (he:starEach (e::es) X.env=(false,eval e X.env)::starEach es X.env:=by rfl) (hpl:(backTo pos (starEach es X.env)).any (·.1)=false:=by rfl):
  SE X b G .val (.Call (.Name x p) (e::es) [] pos) (aM mi g):=LQ c hr ha hle hg hdb he hpl
end
section
variable {b:BX}{Ow:Addr->Prop}{G:qf}{σ:St}{env:Env}{H H':Hp}
theorem ER.set (E:ER b Ow G σ env H){i:Nat}{v:V}{p:PV}(hi:i∉G)(r:Rep b.C (Bs b Ow) H v p)(hx:b.fx i=none):ER b Ow G (σ.set i (some v)) (env.set i (some p)) H:=by
 refine⟨by rw[dL,dL];exact E.len,E.same,E.live,E.new,λj q e n=>?_,λj q e n=>?_,λj k a q q' e1 n1 s1 e2 n2 s2=>?_,λk w hw=>?_⟩
 ·by_cases hj:i=j
  ·subst hj
   rw[k7] at e
   split at e
   ·split at e
    ·rename_i hl
     have:=bg (bg e)
     subst this
     exact⟨v,by rw[cr (by rw[E.len];exact hl)],r⟩
    ·cases e
   ·exact absurd rfl ‹_›
  ·rw[a7 hj] at e ⊢
   exact E.val j q e n
 ·have hj:i≠j:=λz=>hi (z▸n)
  rw[a7 hj] at e ⊢
  exact E.own j q e n
 ·have hj:i≠j:=λz=>hi (z▸n1)
  have hk:i≠k:=λz=>hi (z▸n2)
  rw[a7 hj] at e1 s1
  rw[a7 hk] at e2 s2
  exact E.sep j k a q q' e1 n1 s1 e2 n2 s2
 ·by_cases hk:i=k
  ·subst hk;rw[hx] at hw;cases hw
  ·rw[a7 hk];exact E.fix k w hw
theorem ER.setO (E:ER b Ow G σ env H){i:Nat}{a:Addr}{p:PV}{H0:Hp}{G':qf}(hG:∀j,j∈G'↔(j∈G\/j=i))(s0:Same H0 H)(hn:H0 a=none)(hE0:ER b Ow G σ env H0)(t:Top b.C (λc=>Bs b Ow c/\c≠a) H a p)(hx:b.fx i=none):
  ER b (λc=>Ow c\/c=a) G' (σ.set i (some (.ref a))) (env.set i (some p)) H/\Ex (Bs b Ow) H0 (Bs b λc=>Ow c\/c=a) H:=by
 have hx0:Ex (Bs b Ow) H0 (Bs b λc=>Ow c\/c=a) H:=λc o h=>⟨λq=>⟨s0 _ _ h,λz=>z.elim q.1 (bF h hn),q.2⟩,λ_=>s0 _ _ h⟩
 have ht:Top b.C (Bs b λc=>Ow c\/c=a) H a p:=t.ex (dq λc o _ q=>⟨λz=>z.elim q.1.1 q.2,q.1.2⟩) λo z=>z
 refine⟨⟨by rw[dL,dL];exact E.len,E.same,λc w=>w.elim (E.live c) λz=>by subst z;obtain⟨o,h,_⟩:=t.live;exact⟨o,h⟩,λc w=>w.elim (E.new c) λz=>by subst z;exact hE0.same.free hn,λj q e n=>?_,λj q e n=>?_,λj k c q q' e1 n1 s1 e2 n2 s2=>?_,λk w hw=>?_⟩,hx0⟩
 ·have hj:i≠j:=λz=>n ((hG j).mpr (.inr z.symm))
  rw[a7 hj] at e ⊢
  obtain⟨v,h1,h2⟩:=hE0.val j q e λz=>n ((hG j).mpr (.inl z))
  exact⟨v,h1,h2.ex hx0⟩
 ·by_cases hj:i=j
  ·subst hj
   rw[k7] at e
   split at e
   ·split at e
    ·rename_i hl
     have:=bg (bg e)
     subst this
     exact⟨a,by rw[cr (by rw[E.len];exact hl)],.inr rfl,ht⟩
    ·cases e
   ·exact absurd rfl ‹_›
  ·rw[a7 hj] at e ⊢
   have nG:j∈G:=((hG j).mp n).elim id λz=>absurd z.symm hj
   obtain⟨c,h1,h2,h3⟩:=hE0.own j q e nG
   exact⟨c,h1,.inl h2,h3.ex hx0 λo z=>s0 _ _ z⟩
 ·have old:∀{j:Nat}{q:PV},i≠j->j∈G'->env[j]?=some (some q)->σ[j]?=some (some (.ref c))->c≠a:=λ{j q} hj n e s=>by
   have nG:j∈G:=((hG j).mp n).elim id λz=>absurd z.symm hj
   obtain⟨c',h1,h2,h3⟩:=hE0.own j q e nG
   rw[s] at h1
   cases h1
   obtain⟨o,h4,_⟩:=h3.live
   exact bF h4 hn
  by_cases hj:i=j
  ·by_cases hk:i=k
   ·exact hj.symm.trans hk
   ·subst hj
    rw[a7 hk] at e2 s2
    have hl:i < σ.length:=by
     by_cases hl:i < σ.length
     ·exact hl
     ·rw[bo (by rw[dL];omega)] at s1;cases s1
    rw[cr hl] at s1
    cases s1
    exact absurd rfl (old hk n2 e2 s2)
  ·by_cases hk:i=k
   ·subst hk
    rw[a7 hj] at e1 s1
    have hl:i < σ.length:=by
     by_cases hl:i < σ.length
     ·exact hl
     ·rw[bo (by rw[dL];omega)] at s2;cases s2
    rw[cr hl] at s2
    cases s2
    exact absurd rfl (old hj n1 e1 s1)
   ·rw[a7 hj] at e1 s1
    rw[a7 hk] at e2 s2
    have g1:j∈G:=((hG j).mp n1).elim id λz=>absurd z.symm hj
    have g2:k∈G:=((hG k).mp n2).elim id λz=>absurd z.symm hk
    exact E.sep j k c q q' e1 g1 s1 e2 g2 s2
 ·by_cases hk:i=k
  ·subst hk;rw[hx] at hw;cases hw
  ·rw[a7 hk];exact E.fix k w hw
theorem ER.write (E:ER b Ow G σ env H){i:Nat}{a:Addr}{p p':PV}{o':HO}(hi:i∈G)(hσ:σ[i]?=some (some (.ref a)))(he:env[i]?=some (some p))(hw:Ow a)(t:Top b.C (Bs b Ow) H a p)(t':Top b.C (Bs b Ow) (upd H a o') a p'):
  ER b Ow G σ (env.set i (some p')) (upd H a o')/\Ex (Bs b Ow) H (Bs b Ow) (upd H a o'):=by
 obtain⟨o,ho,hm⟩:=t.live
 have hx:Ex (Bs b Ow) H (Bs b Ow) (upd H a o'):=λc u h=>⟨λq=>⟨by rw[aP (λz:c=a=>q.1 (z▸hw))];exact h,q⟩,λm=>by
  have hc:c≠a:=λz=>by subst z;rw[ho] at h;cases h;rw[hm] at m;cases m
  rw[aP hc];exact h⟩
 refine⟨⟨by rw[dL];exact E.len,λc u h=>?_,λc w=>?_,E.new,λj q e n=>?_,λj q e n=>?_,λj k c q q' e1 n1 s1 e2 n2 s2=>?_,E.fix⟩,hx⟩
 ·have hc:c≠a:=bF h (E.new a hw)
  rw[aP hc];exact E.same c u h
 ·by_cases hc:c=a
  ·subst hc;exact⟨o',bc⟩
  ·obtain⟨u,h⟩:=E.live c w
   exact⟨u,by rw[aP hc];exact h⟩
 ·have hj:i≠j:=λz=>n (z▸hi)
  rw[a7 hj] at e
  obtain⟨v,h1,h2⟩:=E.val j q e n
  exact⟨v,h1,h2.ex hx⟩
 ·by_cases hj:i=j
  ·subst hj
   rw[k7] at e
   split at e
   ·split at e
    ·have:=bg (bg e)
     subst this
     exact⟨a,hσ,hw,t'⟩
    ·cases e
   ·exact absurd rfl ‹_›
  ·rw[a7 hj] at e
   obtain⟨c,h1,h2,h3⟩:=E.own j q e n
   have hc:c≠a:=λz=>by subst z;exact hj (E.sep i j c p q he hi hσ e n h1)
   exact⟨c,h1,h2,h3.ex hx λu z=>by rw[aP hc];exact z⟩
 ·have back:∀{j:Nat}{q:PV},(env.set i (some p'))[j]?=some (some q)->∃q,env[j]?=some (some q):=λ{j q} e=>by
   by_cases hj:i=j
   ·subst hj;exact⟨p,he⟩
   ·rw[a7 hj] at e;exact⟨q,e⟩
  obtain⟨r1,e1'⟩:=back e1
  obtain⟨r2,e2'⟩:=back e2
  exact E.sep j k c r1 r2 e1' n1 s1 e2' n2 s2
theorem ER.weak {G':qf}(E:ER b Ow G σ env H)(h:∀j,j∈G'->j∈G):∃Ow',ER b Ow' G' σ env H/\Ex (Bs b Ow) H (Bs b Ow') H:=by
 refine⟨λa=>Ow a/\∃j q,j∈G'/\env[j]?=some (some q)/\σ[j]?=some (some (.ref a)),?_⟩
 have hx:Ex (Bs b Ow) H (Bs b λa=>Ow a/\∃j q,j∈G'/\env[j]?=some (some q)/\σ[j]?=some (some (.ref a))) H:=dq λc o _ q=>⟨λz=>q.1 z.1,q.2⟩
 refine⟨⟨E.len,E.same,λa w=>E.live a w.1,λa w=>E.new a w.1,λi p e n=>?_,λi p e n=>?_,λi j a p q e1 n1 s1 e2 n2 s2=>E.sep i j a p q e1 (h i n1) s1 e2 (h j n2) s2,E.fix⟩,hx⟩
 ·by_cases hi:i∈G
  ·obtain⟨a,h1,h2,h3⟩:=E.own i p e hi
   refine⟨_,h1,(h3.ex hx λo z=>z).rep ⟨λz=>?_,.inr (E.new a h2)⟩⟩
   obtain⟨_,j,q,hj,e',s'⟩:=z
   have:=E.sep i j a p q e hi h1 e' (h j hj) s'
   subst this
   exact n hj
  ·obtain⟨v,h1,h2⟩:=E.val i p e hi
   exact⟨v,h1,h2.ex hx⟩
 ·obtain⟨a,h1,h2,h3⟩:=E.own i p e (h i n)
  exact⟨a,h1,⟨h2,i,p,n,e,h1⟩,h3.ex hx λo z=>z⟩
theorem ER.forget (E:ER b Ow G σ env H)(i:Nat):ER b Ow G σ (env.set i none) H:=by
 have back:∀{j:Nat}{q:PV},(env.set i none)[j]?=some (some q)->env[j]?=some (some q):=λ{j q} e=>by
  by_cases hj:i=j
  ·subst hj
   rw[k7] at e
   split at e
   ·split at e <;> cases e
   ·exact absurd rfl ‹_›
  ·rw[a7 hj] at e;exact e
 exact⟨by rw[dL];exact E.len,E.same,E.live,E.new,λj q e n=>E.val j q (back e) n,λj q e n=>E.own j q (back e) n,λj k a q q' e1 n1 s1 e2 n2 s2=>E.sep j k a q q' (back e1) n1 s1 (back e2) n2 s2,E.fix⟩
@[simp] noncomputable def clr:List Nat->Env->Env
 | [],env=>env
 | i::r,env=>clr r (env.set i none)
theorem ER.clr:∀{ds:qf}{env:Env},ER b Ow G σ env H->ER b Ow G σ (clr ds env) H
 | [],_,E=>E
 | i::r,env,E=>ER.clr (ds:=r) (E.forget i)
end
inductive Out where
 | nx (e:Env) | bk (e:Env) | ct (e:Env) | rt (p:PV)
def Post (b:BX)(Ow:Addr->Prop)(H:Hp)(G L:qf)(ro:Bool)(D:Ends):Out->Prop
 | .nx e=>∀Ow' σ' H',ER b Ow' G σ' e H'->Ex (Bs b Ow) H (Bs b Ow') H'->D.nx σ' H'
 | .bk e=>∀Ow' σ' H',ER b Ow' L σ' e H'->Ex (Bs b Ow) H (Bs b Ow') H'->D.bk σ' H'
 | .ct e=>∀Ow' σ' H',ER b Ow' L σ' e H'->Ex (Bs b Ow) H (Bs b Ow') H'->D.ct σ' H'
 | .rt p=>∀v H',Same b.H0 H'->Ret b.C b.A b.H0 ro H' v p->D.rt v H'
def tS (b:BX)(G G' L:qf)(ro:Bool)(f:Env->Option Out):TS:=λD σ H=>∃Ow env out,ER b Ow G σ env H/\f env=some out/\Post b Ow H G' L ro D out
abbrev SS (X:Cx)(b:BX)(G G' L:qf)(ro:Bool)(st:Stmt)(f:Env->Option Out):Prop:=PS X st (tS b G G' L ro f)
abbrev SSs (X:Cx)(b:BX)(G G' L:qf)(ro:Bool)(st:qk)(f:Env->Option Out):Prop:=PSs X st (tS b G G' L ro f)
theorem PSs.imp {X:Cx}{e:qk}{t u:TS}(h:PSs X e t)(i:∀D σ H,u D σ H->t D σ H):PSs X e u:=λpins s σ H D I q=>h pins s σ H D I (i D σ H q)
theorem PS.or {X:Cx}{e:Stmt}{t u:TS}(h:PS X e t)(h':PS X e u):PS X e (λD σ H=>t D σ H\/u D σ H):=λpins s σ H D I q=>q.elim (h pins s σ H D I) (h' pins s σ H D I)
theorem Post.ex {b:BX}{Ow Ow1:Addr->Prop}{H H1:Hp}{G L:qf}{ro:Bool}{D:Ends}{o:Out}(e:Ex (Bs b Ow) H (Bs b Ow1) H1)(h:Post b Ow H G L ro D o):Post b Ow1 H1 G L ro D o:=by
 cases o with
 | nx e'=>exact λOw' σ' H' E x=>h Ow' σ' H' E (e.trans x)
 | bk e'=>exact λOw' σ' H' E x=>h Ow' σ' H' E (e.trans x)
 | ct e'=>exact λOw' σ' H' E x=>h Ow' σ' H' E (e.trans x)
 | rt p=>exact h
noncomputable def sNx (env:Env):Option Out:=some (.nx env)
@[simp] theorem VF (env:Env):sNx env=(some (.nx env)):=id rfl
noncomputable def sNo (env:Env):Option Out:=none
@[simp] theorem VG (env:Env):sNo env=(none):=id rfl
noncomputable def aB (f g:Env->Option Out)(env:Env):Option Out:=(f env).bind λo=>match o with | .nx e=>g e | o=>some o
@[simp] theorem Vg (f g:Env->Option Out)(env:Env):aB f g env=((f env).bind λo=>match o with | .nx e=>g e | o=>some o):=id rfl
noncomputable def aJ (i:Nat)(f:qS)(env:Env):Option Out:=(f env).bind λp=>some (.nx (env.set i (some p)))
@[simp] theorem Vh (i:Nat)(f:qS)(env:Env):aJ i f env=((f env).bind λp=>some (.nx (env.set i (some p)))):=id rfl
noncomputable def aW (f:qS)(env:Env):Option Out:=(f env).bind λp=>some (.rt p)
@[simp] theorem Vi (f:qS)(env:Env):aW f env=((f env).bind λp=>some (.rt p)):=id rfl
noncomputable def sIf (c:Env->Option Bool)(f g:Env->Option Out)(env:Env):Option Out:=(c env).bind λk=>if k=true then f env else g env
@[simp] theorem VH (c:Env->Option Bool)(f g:Env->Option Out)(env:Env):sIf c f g env=((c env).bind λk=>if k=true then f env else g env):=id rfl
noncomputable def Du (f:qS)(env:Env):Option Out:=(f env).bind λ_=>some (.nx env)
@[simp] theorem UV (f:qS)(env:Env):Du f env=((f env).bind λ_=>some (.nx env)):=id rfl
noncomputable def cN (g:PV->PV->Option PV)(i:Nat)(f:qS)(env:Env):Option Out:=(bV i env).bind λx=>(f env).bind λp=>(g x p).bind λy=>some (.nx (env.set i (some y)))
@[simp] theorem UW (g:PV->PV->Option PV)(i:Nat)(f:qS)(env:Env):cN g i f env=((bV i env).bind λx=>(f env).bind λp=>(g x p).bind λy=>some (.nx (env.set i (some y)))):=id rfl
noncomputable def uY (g:PV->PV->PV->Option PV)(i:Nat)(f h:qS)(env:Env):Option Out:=(bV i env).bind λx=>(f env).bind λp=>(h env).bind λq=>(g x p q).bind λy=>some (.nx (env.set i (some y)))
@[simp] theorem U0 (g:PV->PV->PV->Option PV)(i:Nat)(f h:qS)(env:Env):uY g i f h env=((bV i env).bind λx=>(f env).bind λp=>(h env).bind λq=>(g x p q).bind λy=>some (.nx (env.set i (some y)))):=id rfl
@[simp] noncomputable def gC:PV->PV->Option PV
 | .lst xs,p=>if xs.length < 1000000 then some (.lst (xs++[p])) else none
 | _,_=>none
noncomputable def oR {κ:Type}[DecidableEq κ](kvs:List (κ×PV))(k:κ)(v:PV):List (κ×PV):=
 if (kvs.any λkv=>decide (kv.1=k))=true then kvs.map (λkv=>if kv.1=k then (kv.1,v) else kv) else kvs++[(k,v)]
@[simp] noncomputable def qd:PV->PV->PV->Option PV
 | .dK kvs,k,v=>(keyOf k).bind λk=>if kvs.length < 1000000 then some (.dK (oR kvs k v)) else none
 | .dT kvs,.tup ks,v=>(keysB ks).bind λk=>if kvs.length < 1000000 then some (.dT (oR kvs k v)) else none
 | .lst xs,.int i,v=>(ixN xs.length i).map λj=>.lst (xs.set j v)
 | _,_,_=>none
section
variable {X:Cx}{b:BX}{G G' G1 L:qf}{ro:Bool}{st:Stmt}{rest:qk}{f g:Env->Option Out}{e e1 e2:Expr}{h h1 h2:qS}{m m1 m2:Md}{pos:Pos}
theorem bK:SSs X b G G L ro [] sNx:=PSs.imp Bk<|by rintro D σ H ⟨Ow,env,o,E,hf,k⟩;cases hf;exact k Ow σ H E (Ex.refl _ _)
theorem ao (a:SS X b G G1 L ro st f)(c:SSs X b G1 G' L ro rest g):SSs X b G G' L ro (st::rest) (aB f g):=PSs.imp (pW a c)<|by
 rintro D σ H ⟨Ow,env,o,E,hf,k⟩
 unfold aB at hf
 cases q:f env with
 | none=>rw[q] at hf;cases hf
 | some o1=>
  rw[q] at hf
  refine⟨Ow,env,o1,E,q,?_⟩
  cases o1 with
  | nx e'=>exact λOw' σ' H' E' x=>⟨Ow',e',o,E',hf,k.ex x⟩
  | bk e'=>cases hf;exact k
  | ct e'=>cases hf;exact k
  | rt p=>cases hf;exact k
theorem aC (a:SS X b G G' L ro st f):SSs X b G G' L ro [st] f:=vI a
theorem d_ (c:SSs X b G1 G' L ro rest g)(hs:∀j,j∈G1->j∈G:=by decide):SSs X b G G' L ro rest g:=PSs.imp c<|by
 rintro D σ H ⟨Ow,env,o,E,hf,k⟩
 obtain⟨Ow',E',x⟩:=E.weak hs
 exact⟨Ow',env,o,E',hf,k.ex x⟩
theorem Q8:SS X b G G' L ro st sNo:=PS.imp HF<|by rintro D σ H ⟨Ow,env,o,E,hf,k⟩;cases hf
theorem aq {α β:Type}{x:Option α}{k:α->Option β}{y:β}(h:x.bind k=some y):∃a,x=some a/\k a=some y:=by
 cases x with
 | none=>cases h
 | some a=>exact⟨a,rfl,h⟩
theorem Q9 {i:Nat}{D:Ends}{σ:St}{H:Hp}(hi:i∉G)(hx:b.fx i=none)(q:tS b G G L ro (aJ i h) D σ H):tM b G .val h σ H λv H1=>D.nx (σ.set i (some v)) H1:=by
 obtain⟨Ow,env,o,E,hf,k⟩:=q
 obtain⟨p,hp,e⟩:=aq hf
 cases e
 exact⟨Ow,env,p,E,hp,λv H' s r=>k Ow _ H' ((E.up s).set hi r hx) (.of_same s)⟩
theorem TJ {i:Nat}{D:Ends}{σ:St}{H:Hp}(hG:∀j,j∈G'↔(j∈G\/j=i))(hx:b.fx i=none)(q:tS b G G' L ro (aJ i h) D σ H):tM b G .own h σ H λv H1=>D.nx (σ.set i (some v)) H1:=by
 obtain⟨Ow,env,o,E,hf,k⟩:=q
 obtain⟨p,hp,e⟩:=aq hf
 cases e
 refine⟨Ow,env,p,E,hp,?_⟩
 rintro v H' s ⟨a,ev,hn,t⟩
 subst ev
 obtain⟨E',x⟩:=(E.up s).setO hG s hn E t hx
 exact k _ _ H' E' x
theorem aN (i:Nat){x:Str}{pos':Pos}(nd:X.N.Nodup)(he:SE X b G .val e h)(hG:i∉G:=by decide)(hx:b.fx i=none:=by first | rfl | assumption)(hi:X.N[i]?=some x:=by rfl)(hl:Loc X.env.scope x:=by first | exact g6 rfl | exact fm rfl)
  (hs:swapsWith e (some (.Name x pos')) pos.line X.env=pure false:=by rfl) (hf:X.fn x=true\/X.env.scope.names.lookup x=some .local:=by first | exact .inl rfl | exact .inr rfl | assumption):SS X b G G L ro (.Assign [.Name x pos'] e pos) (aJ i h):=
 PS.imp (uJ nd hi hl he hs hf) λD σ H q=>Q9 hG hx q
theorem cV (i:Nat){x:Str}{pos':Pos}(nd:X.N.Nodup)(he:SE X b G .own e h)(hG:i∈G:=by decide)(hx:b.fx i=none:=by first | rfl | assumption)(hi:X.N[i]?=some x:=by rfl)(hl:Loc X.env.scope x:=by first | exact g6 rfl | exact fm rfl)
  (hs:swapsWith e (some (.Name x pos')) pos.line X.env=pure false:=by rfl) (hf:X.fn x=true\/X.env.scope.names.lookup x=some .local:=by first | exact .inl rfl | exact .inr rfl | assumption):SS X b G G L ro (.Assign [.Name x pos'] e pos) (aJ i h):=
 PS.imp (uJ nd hi hl he hs hf) λD σ H q=>TJ (λj=>⟨.inl,λz=>z.elim id λy=>y▸hG⟩) hx q
theorem aQ (he:SE X b G .val e h):SS X b G G' L false (.Return (some e) pos) (aW h):=PS.imp (Oz he)<|by
 rintro D σ H ⟨Ow,env,o,E,hf,k⟩
 obtain⟨p,hp,z1⟩:=aq hf
 clear hf
 cases z1
 exact⟨Ow,env,p,E,hp,λv H' s r=>k v H' (E.same.trans s) (Rep.ex (dq λc o _ q=>q.2) r)⟩
theorem cJ {c:Expr}{k:Env->Option Bool}{sa sb:qk}(hc:ST X b G c k)(ha:SSs X b G G' L ro sa f)(hb:SSs X b G G' L ro sb g):SS X b G G' L ro (.If c sa sb pos) (sIf k f g):=PS.imp (JX hc ha hb)<|by
 rintro D σ H ⟨Ow,env,o,E,hf,kk⟩
 obtain⟨p,hp,z1⟩:=aq hf
 clear hf
 refine⟨Ow,env,p,E,hp,λH' s=>?_⟩
 cases p with
 | true=>exact Dg ⟨Ow,env,o,E.up s,z1,kk.ex (.of_same s)⟩
 | false=>exact Df ⟨Ow,env,o,E.up s,z1,kk.ex (.of_same s)⟩
theorem Q_ (he:SE X b G m e h)(hs:swapsWith e none pos.line X.env=pure false:=by rfl):SS X b G G L ro (.Expr e pos) (Du h):=PS.imp (pC he.bor hs)<|by
 rintro D σ H ⟨Ow,env,o,E,hf,k⟩
 obtain⟨p,hp,z1⟩:=aq hf
 clear hf
 cases z1
 exact⟨Ow,env,p,E,hp,λv H' s r=>k Ow σ H' (E.up s) (.of_same s)⟩
theorem gY (i:Nat){x:Str}{p1 apos cpos:Pos}(he:SE X b G .val e h)(hi:i∈G:=by decide)(hN:X.N[i]?=some x:=by rfl)(hv:Vis X.env.scope x:=by first | exact g6 rfl | exact fm (g6 rfl) | exact fm (fm rfl))(hd:(x == ("__debug__" : Str))=false:=by decide)
  (hcd:(x == ("__classdict__" : Str))=false:=by decide) (hbase:attributeBase (.Name x p1) "append" X.env (eval (.Name x p1) X.env)=eval (.Name x p1) X.env:=by rfl)
  (hfew:((backTo cpos (starEach [e] X.env)).all (λx=>!x.1)&&(backToKw cpos (keywordEach [] X.env)).all (λx=>x.1.isSome)
   && decide ([e].length+([]:List Keyword).length+(if ([]:List Keyword).isEmpty then 0 else 1) < 30))=true:=by rfl)
  (hline:(apos.endLine == cpos.line)=true:=by rfl) (hs:starEach [e] X.env=(false,eval e X.env)::starEach [] X.env:=by rfl):
  SS X b G G L ro (.Expr (.Call (.Attribute (.Name x p1) "append" apos) [e] [] cpos) pos) (cN gC i h):=
 PS.imp (pC (uL gd kz kA nQ (jL hN hv hd hcd) (bZ he di hs) hbase hfew hline hs rfl))<|by
  rintro D σ H ⟨Ow,env,o,E,hf,k⟩
  obtain⟨px,hpx,z1⟩:=aq hf
  clear hf
  obtain⟨p,hp,z2⟩:=aq z1
  clear z1
  obtain⟨y,hy,z3⟩:=aq z2
  clear z2
  cases z3
  obtain⟨a,ea,w,t⟩:=E.own i px (gA hpx) hi
  cases px <;> simp only[gC] at hy <;> first | cases hy | skip
  rename_i xs
  split at hy
  ·rename_i hl
   cases hy
   obtain⟨vs,ha,ra⟩:=id t
   refine⟨_,ea,.inl ⟨rfl,_,SqL.of ha⟩,Ow,env,p,E,hp,λv H' s r=>?_⟩
   refine⟨a,vs,v,rfl,rfl,s _ _ ha,jF (by rw[ra.length];omega),?_⟩
   have ra':Reps b.C (Bs b Ow) (upd H' a (.lst (vs++[v]))) (vs++[v]) (xs++[p]):=by
    refine(ra.ex (.of_same s)).append (.cons r .nil) |>.ex λc o h=>⟨λq=>⟨by rw[aP (λz:c=a=>q.1 (z▸w))];exact h,q⟩,λm=>?_⟩
    have hc:c≠a:=λz=>by subst z;rw[s _ _ ha] at h;cases h;cases m
    rw[aP hc];exact h
   obtain⟨E',x⟩:=(E.up s).write hi ea (gA hpx) w (t.ex (.of_same s) λo z=>s _ _ z) (o':=.lst (vs++[v])) (p':=.lst (xs++[p])) ⟨_,bc,ra'⟩
   exact k Ow σ _ E' ((Ex.of_same s).trans x)
  ·cases hy
theorem RepK.put {C:MC}{A:Addr->Prop}{H:Hp}{k:Key}{v:V}{p:PV}(r:Rep C A H v p){kv:List (Key×V)}{kvs:List (Key×PV)}(t:RepK C A H kv kvs):RepK C A H (putK kv k v) (oR kvs k p):=by
 have hany:∀{kv:List (Key×V)}{kvs:List (Key×PV)},RepK C A H kv kvs->(kv.any λx=>decide (x.1=k))=(kvs.any λx=>decide (x.1=k)):=by
  intro kv kvs t
  induction kv generalizing kvs with
  | nil=>cases t;rfl
  | cons x l ih=>cases t with | cons h t=>rw[fb,fb,ih t]
 have hmap:∀{kv:List (Key×V)}{kvs:List (Key×PV)},RepK C A H kv kvs->RepK C A H (kv.map λx=>if x.1=k then (x.1,v) else x) (kvs.map λx=>if x.1=k then (x.1,p) else x):=by
  intro kv kvs t
  induction kv generalizing kvs with
  | nil=>cases t;exact .nil
  | cons x l ih=>
   cases t with
   | cons h t=>
    rw[av,av]
    rename_i k' v' p' ps'
    by_cases e:k'=k
    ·simp only[e,gx];exact .cons r (ih t)
    ·simp only[e,gu];exact .cons h (ih t)
 have happ:∀{kv:List (Key×V)}{kvs:List (Key×PV)},RepK C A H kv kvs->RepK C A H (kv++[(k,v)]) (kvs++[(k,p)]):=by
  intro kv kvs t
  induction kv generalizing kvs with
  | nil=>cases t;exact .cons r .nil
  | cons x l ih=>cases t with | cons h t=>exact .cons h (ih t)
 unfold putK oR
 rw[hany t]
 split
 ·exact hmap t
 ·exact happ t
theorem RepT.put {C:MC}{A:Addr->Prop}{H:Hp}{k:List Key}{v:V}{p:PV}(r:Rep C A H v p){kv:List (List Key×V)}{kvs:List (List Key×PV)}(t:RepT C A H kv kvs):RepT C A H (putK kv k v) (oR kvs k p):=by
 have hany:∀{kv:List (List Key×V)}{kvs:List (List Key×PV)},RepT C A H kv kvs->(kv.any λx=>decide (x.1=k))=(kvs.any λx=>decide (x.1=k)):=by
  intro kv kvs t
  induction kv generalizing kvs with
  | nil=>cases t;rfl
  | cons x l ih=>cases t with | cons h t=>rw[fb,fb,ih t]
 have hmap:∀{kv:List (List Key×V)}{kvs:List (List Key×PV)},RepT C A H kv kvs->RepT C A H (kv.map λx=>if x.1=k then (x.1,v) else x) (kvs.map λx=>if x.1=k then (x.1,p) else x):=by
  intro kv kvs t
  induction kv generalizing kvs with
  | nil=>cases t;exact .nil
  | cons x l ih=>
   cases t with
   | cons h t=>
    rw[av,av]
    rename_i k' v' p' ps'
    by_cases e:k'=k
    ·simp only[e,gx];exact .cons r (ih t)
    ·simp only[e,gu];exact .cons h (ih t)
 have happ:∀{kv:List (List Key×V)}{kvs:List (List Key×PV)},RepT C A H kv kvs->RepT C A H (kv++[(k,v)]) (kvs++[(k,p)]):=by
  intro kv kvs t
  induction kv generalizing kvs with
  | nil=>cases t;exact .cons r .nil
  | cons x l ih=>cases t with | cons h t=>exact .cons h (ih t)
 unfold putK oR
 rw[hany t]
 split
 ·exact hmap t
 ·exact happ t
theorem RepT.length {C:MC}{A:Addr->Prop}{H:Hp}:∀{vs:List (List Key×V)}{ps:List (List Key×PV)},RepT C A H vs ps->vs.length=ps.length
 | _,_,.nil=>rfl
 | _,_,.cons _ t=>by simp[RepT.length t]
theorem qe {Ow:Addr->Prop}{H:Hp}{a:Addr}{o o':HO}(w:Ow a)(ha:H a=some o)(hm:Dl o=true):Ex (Bs b Ow) H (Bs b Ow) (upd H a o'):=λc u h=>⟨λq=>⟨by rw[aP (λz:c=a=>q.1 (z▸w))];exact h,q⟩,λm=>by
 have hc:c≠a:=λz=>by subst z;rw[ha] at h;cases h;rw[hm] at m;cases m
 rw[aP hc];exact h⟩
theorem Dv (i:Nat){x:Str}{p1 p2:Pos}{j:Nat}(hr:Room j X.A)(hk:SE X b G .val e1 h1)(hv':SE X b G .val e2 h2)(hi:i∈G:=by decide)(hN:X.N[i]?=some x:=by rfl)(hv:Vis X.env.scope x:=by first | exact g6 rfl | exact fm (g6 rfl) | exact fm (fm rfl))(hd:(x == ("__debug__" : Str))=false:=by decide)
  (hcd:(x == ("__classdict__" : Str))=false:=by decide) (hs:swapsWith e2 (some (.Subscript (.Name x p1) e1 p2)) pos.line X.env=pure false:=by rfl) (hs2:swapsWithSole [.Subscript (.Name x p1) e1 p2] e2 pos.line X.env=pure false:=by rfl) (hw:swappedStores [.Subscript (.Name x p1) e1 p2] e2 X.env=pure none:=by rfl)
  (ha1:(assignEach [.Subscript (.Name x p1) e1 p2] X.env).map (·.2)=[assign (.Subscript (.Name x p1) e1 p2) X.env]:=by rfl)
  (ha:∀v,assign (.Subscript (.Name x p1) e1 p2) X.env v=(do
   let ov ← holding [v] (eval (.Name x p1) X.env)
   let iv ← holding [v,ov] (eval e1 X.env)
   standAt p2
   holding [v,ov,iv] (setItem ov iv v)
   release [v,ov,iv] []):=by intro _;rfl) (hK:X.K=b.C.K:=by rfl):SS X b G G L ro (.Assign [.Subscript (.Name x p1) e1 p2] e2 pos) (uY qd i h1 h2):=by
 refine PS.imp (PS.or (K7 (nR hr) (jL hN hv hd hcd) hk hv' hs) (Ew hv' (O5 (jL hN hv hd hcd) hk set_list ha) hs2 hw ha1)) ?_
 rintro D σ H ⟨Ow,env,o,E,hf,k⟩
 obtain⟨px,hpx,z1⟩:=aq hf
 clear hf
 obtain⟨pk,hpk,z2⟩:=aq z1
 clear z1
 obtain⟨pv,hpv,z3⟩:=aq z2
 clear z2
 obtain⟨y,hy,z4⟩:=aq z3
 clear z3
 cases z4
 obtain⟨a,ea,w,t⟩:=E.own i px (gA hpx) hi
 have fin:∀{H2:Hp}{o':HO},Same H H2->Top b.C (Bs b Ow) (upd H2 a o') a y->D.nx σ (upd H2 a o'):=λ{H2 o'} s t'=>by
  obtain⟨E',x⟩:=(E.up s).write hi ea (gA hpx) w (t.ex (.of_same s) λo z=>s _ _ z) t'
  exact k Ow σ _ E' ((Ex.of_same s).trans x)
 unfold qd at hy
 split at hy
 ·obtain⟨ky,hky,hy⟩:=aq hy
  split at hy
  ·rename_i hl
   cases hy
   obtain⟨kv,ha,ra⟩:=id t
   refine .inl ⟨Ow,env,pv,E,hpv,λv H1 s1 r1=>⟨_,ea,Ow,env,pk,E.up s1,hpk,λu H2 s2 r2=>?_⟩⟩
   have s:=s1.trans s2
   have eu:=RepB.key (.inl r2) hky
   subst eu
   refine⟨a,_,rfl,DPut.k (s _ _ ha) (jF (by rw[ra.length];omega)),fin s ⟨_,bc,?_⟩⟩
   exact(RepK.put (k:=ky) (Rep.ex (.of_same s2) r1) (ra.ex (.of_same s))).ex (qe w (s _ _ ha) rfl)
  ·cases hy
 ·obtain⟨ky,hky,hy⟩:=aq hy
  split at hy
  ·rename_i hl
   cases hy
   obtain⟨kv,ha,ra⟩:=id t
   refine .inl ⟨Ow,env,pv,E,hpv,λv H1 s1 r1=>⟨_,ea,Ow,env,_,E.up s1,hpk,λu H2 s2 r2=>?_⟩⟩
   have s:=s1.trans s2
   obtain⟨c,us,rfl,hc,rc⟩:=RepB.tup (.inl r2)
   refine⟨a,_,rfl,DPut.t (s _ _ ha) (by rw[hK];exact hc.key (rc.keysB hky)) (jF (by rw[ra.length];omega)),fin s ⟨_,bc,?_⟩⟩
   exact(RepT.put (k:=ky) (Rep.ex (.of_same s2) r1) (ra.ex (.of_same s))).ex (qe w (s _ _ ha) rfl)
  ·cases hy
 ·rename_i xs n
  cases q:ixN xs.length n with
  | none=>rw[q] at hy;cases hy
  | some jj=>
   rw[q] at hy
   cases hy
   obtain⟨vs,ha,ra⟩:=id t
   refine .inr ⟨Ow,env,pv,E,hpv,λv H1 s1 r1=>⟨_,ea,Ow,env,_,E.up s1,hpk,λu H2 s2 r2=>?_⟩⟩
   have s:=s1.trans s2
   have eu:=RepB.int (.inl r2)
   subst eu
   refine⟨a,vs,n,jj,rfl,rfl,s _ _ ha,by rw[ra.length];exact q,fin s ⟨_,bc,?_⟩⟩
   exact(Reps.set (Rep.ex (.of_same s2) r1) jj (ra.ex (.of_same s))).ex (qe w (s _ _ ha) rfl)
 ·cases hy
def IW (b:BX)(Ow:Addr->Prop)(fr:Bool)(H1:Hp)(J:It)(ps:List PV):Prop:=∀Ow' H,(fr=false->Same H1 H)->Ex (Bs b Ow) H1 (Bs b Ow') H->(∀a,H a=none->Bs b Ow' a)->
 (∀i p,ps[i]?=some p->J.go i H/\∀x H',J.yld i H x H'->Same H H'/\Rep b.C (Bs b Ow') H' x p)/\J.stop ps.length H
def tMI (b:BX)(G:qf)(fr:Bool)(g:Env->Option (List PV)):TI:=fun σ H R=>∃Ow env ps,ER b Ow G σ env H/\g env=some ps/\∀J H1,Same H H1->IW b Ow fr H1 J ps->R J H1
abbrev SI (X:Cx)(b:BX)(G:qf)(fr:Bool)(tg it:Expr)(g:Env->Option (List PV)):Prop:=PI X tg it (tMI b G fr g)
theorem PI.imp {tg it:Expr}{t u:TI}(h:PI X tg it t)(i:∀ σ H R,u σ H R->t σ H R):PI X tg it u:=λpins s σ H R I q=>h pins s σ H R I (i σ H R q)
theorem PI.or {tg it:Expr}{t u:TI}(h:PI X tg it t)(h':PI X tg it u):PI X tg it (fun σ H R=>t σ H R\/u σ H R):=λpins s σ H R I q=>q.elim (h pins s σ H R I) (h' pins s σ H R I)
def chV (x:Str):List PV:=x.cps.toList.map λc=>.str ⟨#[c]⟩
@[simp] noncomputable def itV:PV->Option (List PV)
 | .lst xs=>some xs
 | .frz xs=>some xs
 | .tup xs=>some xs
 | .ktp xs=>some xs
 | .str x=>some (chV x)
 | _=>none
noncomputable def iV (f:qS)(env:Env):Option (List PV):=(f env).bind itV
@[simp] theorem We (f:qS)(env:Env):iV f env=((f env).bind itV):=id rfl
theorem vY {Ow:Addr->Prop}{fr:Bool}{H1:Hp}{a:Addr}{vs:List V}{xs:List PV}(hq:∀Ow' H,(fr=false->Same H1 H)->Ex (Bs b Ow) H1 (Bs b Ow') H->SqL b.C.K H a vs/\Reps b.C (Bs b Ow') H vs xs):IW b Ow fr H1 (Itl b.C.K a) xs:=by
 intro Ow' H h0 h1 hn
 obtain⟨q,r⟩:=hq Ow' H h0 h1
 refine⟨λi p hp=>?_,⟨vs,q,by rw[r.length];exact aS _⟩⟩
 obtain⟨v,hv,rv⟩:=r.get hp
 refine⟨⟨vs,v,q,hv⟩,λx H' y=>?_⟩
 obtain⟨e,y⟩:=y
 subst e
 have e2:=y vs q
 rw[hv] at e2
 cases e2
 exact⟨Same.refl _,rv⟩
theorem Gq {Ow:Addr->Prop}{fr:Bool}{H1:Hp}{a:Addr}{vs:List V}{xs:List PV}(hq:∀Ow' H,(fr=false->Same H1 H)->Ex (Bs b Ow) H1 (Bs b Ow') H->SqT b.C.K H a vs/\Reps b.C (Bs b Ow') H vs xs):IW b Ow fr H1 (Itt b.C.K a) xs:=by
 intro Ow' H h0 h1 hn
 obtain⟨q,r⟩:=hq Ow' H h0 h1
 refine⟨λi p hp=>?_,⟨vs,q,by rw[r.length];exact aS _⟩⟩
 obtain⟨v,hv,rv⟩:=r.get hp
 refine⟨⟨vs,v,q,hv⟩,λx H' y=>?_⟩
 obtain⟨e,y⟩:=y
 subst e
 have e2:=y vs q
 rw[hv] at e2
 cases e2
 exact⟨Same.refl _,rv⟩
theorem Ra {Ow:Addr->Prop}{fr:Bool}{H1:Hp}{x:Str}:IW b Ow fr H1 (Its x) (chV x):=by
 intro Ow' H h0 h1 hn
 refine⟨λi p hp=>?_,by show (chV x).length=x.cps.size;unfold chV;rw[af,ff]⟩
 unfold chV at hp
 rw[aE] at hp
 cases q:x.cps.toList[i]? with
 | none=>rw[q] at hp;cases hp
 | some c=>
  rw[q] at hp
  cases hp
  have hc:x.cps[i]?=some c:=by rw[← lh];exact q
  refine⟨(Array.getElem?_eq_some_iff.mp hc).1,λv H' y=>?_⟩
  obtain⟨e,c',h',ev⟩:=y
  subst e
  rw[hc] at h'
  cases h'
  subst ev
  exact⟨Same.refl _,.str _⟩
theorem gZ {tg:Expr}{fr:Bool}(he:SE X b G m e h)(hm:fr=true->m≠.bor)(hK:X.K=b.C.K:=by rfl):SI X b G fr tg e (iV h):=by
 have hPI:=PI.or (tg:=tg) (PI.or (KJ he) (O7 he)) (Qe he)
 refine PI.imp hPI ?_
 rintro σ H R ⟨Ow,env,ps,E,hg,k⟩
 rw[hK]
 obtain⟨p,hp,hps⟩:=aq hg
 have keep:∀{H1 Ow' H2}{v:V},Same H H1->Res b Ow H H1 m v p->(fr=false->Same H1 H2)->Ex (Bs b Ow) H1 (Bs b Ow') H2->RepB b.C (Bs b Ow') H2 v p:=λ{H1 Ow' H2 v} s r h0 h1=>by
  cases fr with
  | false=>exact RepB.ex h1 (h0 rfl) r.bor
  | true=>exact .inl (Rep.ex h1 (r.val E (hm rfl)))
 unfold itV at hps
 split at hps
 ·cases hps
  refine .inl (.inl ⟨Ow,env,_,E,hp,λv H1 s r=>?_⟩)
  have r1:RepB b.C (Bs b Ow) H1 v (.lst _):=r.bor
  obtain⟨a,vs,rfl,ha,ra⟩:=r1.lst
  refine⟨a,rfl,⟨vs,SqL.of ha⟩,k _ _ s (vY (vs:=vs) λOw' H2 h0 h1=>?_)⟩
  obtain⟨a',vs',e',ha',ra'⟩:=(keep s r h0 h1).lst
  cases e'
  have:H2 a=some (.lst vs):=by
   cases fr with
   | false=>exact h0 rfl _ _ ha
   | true=>
    have rv:Rep b.C (Bs b Ow) H1 (.ref a) (.lst _):=r.val E (hm rfl)
    cases rv with
    | lst q1 q2 q3=>rw[ha] at q1;cases q1;exact((h1 _ _ ha).1 q2).1
  rw[ha'] at this
  cases this
  exact⟨SqL.of ha',ra'⟩
 ·cases hps
  refine .inl (.inl ⟨Ow,env,_,E,hp,λv H1 s r=>?_⟩)
  have r1:Rep b.C (Bs b Ow) H1 v (.frz _):=(by rcases r.bor with z | ⟨_,_,z⟩;exact z;exact z.elim)
  cases r1 with
  | lstF q1 q3=>exact⟨_,rfl,⟨_,.inl (.inr ⟨_,q1⟩)⟩,k _ _ s (vY λOw' H2 h0 h1=>⟨.inl (.inr ⟨_,(h1 _ _ q1).2 rfl⟩),q3.ex h1⟩)⟩
  | lstK q1 q3=>exact⟨_,rfl,⟨_,sqK q1⟩,k _ _ s (vY λOw' H2 h0 h1=>⟨sqK q1,q3.ex h1⟩)⟩
 ·cases hps
  refine .inl (.inr ⟨Ow,env,_,E,hp,λv H1 s r=>?_⟩)
  have r1:RepB b.C (Bs b Ow) H1 v (.tup _):=r.bor
  obtain⟨a,vs,rfl,ha,ra⟩:=r1.tup
  exact⟨a,rfl,⟨vs,ha.sq⟩,k _ _ s (Gq (vs:=vs) λOw' H2 h0 h1=>⟨(ha.ex h1).sq,ra.ex h1⟩)⟩
 ·cases hps
  refine .inl (.inr ⟨Ow,env,_,E,hp,λv H1 s r=>?_⟩)
  have r1:RepB b.C (Bs b Ow) H1 v (.ktp _):=r.bor
  rcases r1 with r1 | ⟨_,_,t⟩
  ·cases r1 with
   | tupK q1 q3=>exact⟨_,rfl,⟨_,ue q1⟩,k _ _ s (Gq λOw' H2 h0 h1=>⟨ue q1,q3.ex h1⟩)⟩
  ·exact t.elim
 ·cases hps
  refine .inr ⟨Ow,env,_,E,hp,λv H1 s r=>?_⟩
  have r1:RepB b.C (Bs b Ow) H1 v (.str _):=r.bor
  exact⟨_,r1.str,k _ _ s Ra⟩
 ·cases hps
noncomputable def rgI (i:Int):Bool:=@decide (-4611686018427387904<=i/\i < 4611686018427387904) (Classical.propDecidable _)
theorem iI {i:Int}(h:-4611686018427387904<=i)(h':i < 4611686018427387904):rgI i=true:=@ca _ (Classical.propDecidable _) ⟨h,h'⟩
theorem pK {i:Int}(h:rgI i=true):-(2 ^ 62)<=i/\i < 2 ^ 62:=by
 simp only[rgI,j3] at h
 exact h
noncomputable def cZ (lo hi:Int):List PV:=(List.range (hi - lo).toNat).map λi=>.int (lo+(i:Nat))
noncomputable def iR1 (f:qS)(env:Env):Option (List PV):=(f env).bind λp=>match p with
 | .int j=>if rgI j=true then some (cZ 0 j) else none
 | _=>none
@[simp] theorem VJ (f:qS)(env:Env):iR1 f env=((f env).bind λp=>match p with
 | .int j=>if rgI j=true then some (cZ 0 j) else none
 | _=>none):=id rfl
noncomputable def iR2 (f g:qS)(env:Env):Option (List PV):=(f env).bind λp=>(g env).bind λq=>match p,q with
 | .int i,.int j=>if (rgI i&&rgI j)=true then some (cZ i j) else none
 | _,_=>none
@[simp] theorem VL (f g:qS)(env:Env):iR2 f g env=((f env).bind λp=>(g env).bind λq=>match p,q with
 | .int i,.int j=>if (rgI i&&rgI j)=true then some (cZ i j) else none
 | _,_=>none):=id rfl
theorem Gr {Ow:Addr->Prop}{fr:Bool}{H1:Hp}{lo hi:Int}:IW b Ow fr H1 (Itr lo (hi - lo).toNat) (cZ lo hi):=by
 intro Ow' H h0 h1 hn
 have hl:(cZ lo hi).length=(hi - lo).toNat:=by unfold cZ;rw[af,ip]
 refine⟨λi p hp=>?_,by show (hi - lo).toNat<=(cZ lo hi).length;rw[hl];exact aS _⟩
 have hi':i < (hi - lo).toNat:=by rw[← hl];exact(ap.mp hp).1
 refine⟨hi',λx H' y=>?_⟩
 obtain⟨e,ex⟩:=y
 subst e ex
 unfold cZ at hp
 rw[aE,fE hi'] at hp
 cases hp
 exact⟨Same.refl _,.int _⟩
theorem lZ {tg:Expr}{fr:Bool}{p pos:Pos}(hm:X.mg "range" = none)(he:SE X b G m e h)(hg:Gl X "range" := by rfl)(hs:starEach [e] X.env=[(false,eval e X.env)]:=by rfl)(hs':starEach [e] X.env=(false,eval e X.env)::starEach [] X.env:=by rfl):SI X b G fr tg (.Call (.Name "range" p) [e] [] pos) (iR1 h):=by
 refine PI.imp (Ez hg hm (bZ he.bor di hs') hs) ?_
 rintro σ H R ⟨Ow,env,ps,E,hf,k⟩
 obtain⟨p1,hp,hps⟩:=aq hf
 refine⟨Ow,env,p1,E,hp,λv H1 s r=>?_⟩
 have r1:RepB b.C (Bs b Ow) H1 v p1:=r
 cases p1 <;> simp only at hps <;> first | cases hps | skip
 rename_i j
 split at hps
 ·rename_i hj
  cases hps
  have hw:IW b Ow fr H1 (Itr 0 (j - 0).toNat) (cZ 0 j):=Gr
  rw[Int.sub_zero] at hw
  exact⟨j,by rw[r1.int],(pK hj).1,(pK hj).2,k _ _ s hw⟩
 ·cases hps
theorem TQ {tg:Expr}{fr:Bool}{p pos:Pos}(hm:X.mg "range" = none)(he:SE X b G m1 e1 h1)(he2:SE X b G m2 e2 h2)(hg:Gl X "range" := by rfl)(hs:starEach [e1,e2] X.env=[(false,eval e1 X.env),(false,eval e2 X.env)]:=by rfl)(hs2:starEach [e2] X.env=[(false,eval e2 X.env)]:=by rfl)
  (hs':starEach [e1,e2] X.env=(false,eval e1 X.env)::starEach [e2] X.env:=by rfl) (hs2':starEach [e2] X.env=(false,eval e2 X.env)::starEach [] X.env:=by rfl):SI X b G fr tg (.Call (.Name "range" p) [e1,e2] [] pos) (iR2 h1 h2):=by
 refine PI.imp (EY hg hm (bZ he.bor (bZ he2.bor di hs2') hs') hs hs2) ?_
 rintro σ H R ⟨Ow,env,ps,E,hf,k⟩
 obtain⟨p1,hp,hps1⟩:=aq hf
 clear hf
 obtain⟨p2,hp2,hps⟩:=aq hps1
 clear hps1
 refine⟨Ow,env,p1,E,hp,λv H1 s r=>⟨Ow,env,p2,E.up s,hp2,λv2 H2 s2 r2=>?_⟩⟩
 have r1:RepB b.C (Bs b Ow) H1 v p1:=r
 have r2':RepB b.C (Bs b Ow) H2 v2 p2:=r2
 cases p1 <;> cases p2 <;> simp only at hps <;> first | cases hps | skip
 rename_i i j
 split at hps
 ·rename_i hj
  cases hps
  exact⟨i,j,by rw[r1.int,r2'.int],(by rw[bP] at hj;exact⟨(pK hj.1).1,(pK hj.1).2,(pK hj.2).1,(pK hj.2).2⟩),k _ _ (s.trans s2) Gr⟩
 ·cases hps
noncomputable def fC (n:Nat):List PV->List PV
 | []=>[]
 | x::xs=>.tup [.int (n:Nat),x]::fC (n+1) xs
theorem wW {p:PV}:∀{xs:List PV}{n i:Nat},(fC n xs)[i]?=some p->∃x,xs[i]?=some x/\p=.tup [.int ((n+i:Nat):Int),x]
 | [],n,i,e=>by simp[fC] at e
 | x::xs,n,0,e=>by
  simp[fC] at e
  exact⟨x,rfl,by rw[← e];rfl⟩
 | x::xs,n,i+1,e=>by
  simp only[fC,kH] at e
  obtain⟨y,h1,h2⟩:=wW e
  exact⟨y,by simpa using h1,by rw[h2,Nat.add_right_comm,Nat.add_assoc]⟩
theorem rG:∀{xs:List PV}{n:Nat},(fC n xs).length=xs.length
 | [],_=>rfl
 | x::xs,n=>by simp[fC,rG (xs:=xs)]
end
noncomputable def gN (i:Nat)(p:PV)(env:Env):Option Env:=some (env.set i (some p))
@[simp] theorem Wf (i:Nat)(p:PV)(env:Env):gN i p env=(some (env.set i (some p))):=id rfl
@[simp] noncomputable def gNs:List Nat->List PV->Env->Option Env
 | [],[],env=>some env
 | i::is,p::ps,env=>gNs is ps (env.set i (some p))
 | _,_,_=>none
noncomputable def gT (is:qf)(p:PV)(env:Env):Option Env:=match p with
 | .tup xs=>gNs is xs env
 | _=>none
@[simp] theorem Wg (is:qf)(p:PV)(env:Env):gT is p env=(match p with
 | .tup xs=>gNs is xs env
 | _=>none):=id rfl
def tMG (b:BX)(G:qf)(g:PV->Env->Option Env):TG:=λv σ H Q=>∃Ow env p env',ER b Ow G σ env H/\Rep b.C (Bs b Ow) H v p/\g p env=some env'/\∀ σ',ER b Ow G σ' env' H->Q σ' H
def U3 (b:BX)(G:qf)(is:qf):TGs:=λvs σ H Q=>∃Ow env ps env',ER b Ow G σ env H/\Reps b.C (Bs b Ow) H vs ps/\gNs is ps env=some env'/\∀ σ',ER b Ow G σ' env' H->Q σ' H
abbrev SG (X:Cx)(b:BX)(G:qf)(tg:Expr)(g:PV->Env->Option Env):Prop:=PG X tg (tMG b G g)
abbrev SGs (X:Cx)(b:BX)(G:qf)(tgs:qo)(is:qf):Prop:=PGs X tgs (U3 b G is)
theorem PG.imp {X:Cx}{tg:Expr}{t u:TG}(h:PG X tg t)(i:∀v σ H Q,u v σ H Q->t v σ H Q):PG X tg u:=λpins s σ H v w Q I r q=>h pins s σ H v w Q I r (i v σ H Q q)
theorem PGs.imp {X:Cx}{tg:qo}{t u:TGs}(h:PGs X tg t)(i:∀v σ H Q,u v σ H Q->t v σ H Q):PGs X tg u:=λpins s σ H v w Q I r q=>h pins s σ H v w Q I r (i v σ H Q q)
section
variable {X:Cx}{b:BX}{G G' L:qf}{ro:Bool}{pos:Pos}
theorem gj (i:Nat){x:Str}(nd:X.N.Nodup)(hG:i∉G:=by decide)(hx:b.fx i=none:=by first | rfl | assumption)(hi:X.N[i]?=some x:=by rfl)(hl:Loc X.env.scope x:=by first | exact g6 rfl | exact fm rfl)
  (hf:X.fn x=true\/X.env.scope.names.lookup x=some .local:=by first | exact .inl rfl | exact .inr rfl | assumption):SG X b G (.Name x pos) (gN i):=
 PG.imp (vJ nd hi hl hf)<|by rintro v σ H Q ⟨Ow,env,p,env',E,r,e,k⟩;cases e;exact k _ (E.set hG r hx)
theorem cW:SGs X b G [] []:=PGs.imp mz<|by
 rintro vs σ H Q ⟨Ow,env,ps,env',E,r,e,k⟩
 cases ps with
 | nil=>cases r;cases e;exact⟨rfl,k σ E⟩
 | cons p ps=>cases e
theorem aX (i:Nat){x:Str}{es:qo}{is:qf}{p1:Pos}(nd:X.N.Nodup)(h2:SGs X b G es is)(hG:i∉G:=by decide)(hx:b.fx i=none:=by first | rfl | assumption)(hi:X.N[i]?=some x:=by rfl)(hl:Loc X.env.scope x:=by first | exact g6 rfl | exact fm rfl)
  (hf:X.fn x=true\/X.env.scope.names.lookup x=some .local:=by first | exact .inl rfl | exact .inr rfl | assumption) (hs:(assignEach (.Name x p1::es) X.env).map (·.2)=assign (.Name x p1) X.env::(assignEach es X.env).map (·.2):=by rfl):SGs X b G (.Name x p1::es) (i::is):=
 PGs.imp (eZ (vJ nd hi hl hf) h2 hs)<|by
  rintro vs σ H Q ⟨Ow,env,ps,env',E,r,e,k⟩
  cases ps with
  | nil=>cases e
  | cons p ps=>
   cases r with
   | cons r1 r2=>exact⟨_,_,rfl,Ow,env.set i (some p),ps,env',E.set hG r1 hx,r2,e,k⟩
theorem vZ:∀{is:qf}{ps:List PV}{env env':Env},gNs is ps env=some env'->ps.length=is.length
 | [],[],_,_,_=>rfl
 | i::is,p::ps,env,env',e=>by simp[vZ (is:=is) (ps:=ps) e]
 | [],_::_,_,_,e=>by cases e
 | _::_,[],_,_,e=>by cases e
theorem iJ {es:qo}{k:Nat}{is:qf}(h:SGs X b G es is)(hc:X.calm=true:=by rfl)(hn:(assignEach es X.env).length=is.length:=by rfl)(hst:(assignEach es X.env).findIdx? (·.1)=none:=by rfl)(hK:X.K=b.C.K:=by rfl):SG X b G (.Tuple es k pos) (gT is):=
 PG.imp (pD hc h hn hst)<|by
  rintro v σ H Q ⟨Ow,env,p,env',E,r,e,k⟩
  cases p <;> simp only[gT] at e <;> first | cases e | skip
  rename_i xs
  obtain⟨a,vs,rfl,ha,ra⟩:=RepB.tup (.inl r)
  rw[hK]
  exact⟨a,vs,rfl,ha.sq,by rw[ra.length];exact vZ e,Ow,env,xs,env',E,ra,e,k⟩
noncomputable def bY (g:PV->Env->Option Env)(ds:qf)(body:Env->Option Out):List PV->Env->Option Out
 | [],env=>some (.nx env)
 | x::xs,env=>(g x env).bind λe1=>(body e1).bind λo=>match o with
  | .nx e=>bY g ds body xs (clr ds e)
  | .ct e=>bY g ds body xs (clr ds e)
  | .bk e=>some (.nx (clr ds e))
  | .rt p=>some (.rt p)
noncomputable def cj (g:PV->Env->Option Env)(src:Env->Option (List PV))(ds:qf)(body:Env->Option Out)(env:Env):Option Out:=(src env).bind λxs=>bY g ds body xs (clr ds env)
@[simp] theorem Vj (g:PV->Env->Option Env)(src:Env->Option (List PV))(ds:qf)(body:Env->Option Out)(env:Env):cj g src ds body env=((src env).bind λxs=>bY g ds body xs (clr ds env)):=id rfl
theorem bW {tg it:Expr}{body:qk}{g:PV->Env->Option Env}{src:Env->Option (List PV)}{f:Env->Option Out}(ds:qf)(hi:SI X b G true tg it src)(hg:SG X b G tg g)(hb:SSs X b G G G ro body f)(hp:PassesOwn (model X.prog X.w) X.A X.env X.xe)(hc:X.calm=true:=by rfl)
  (hs:∀x,foldedSetIterable it X.env x=pure x:=by intro _;rfl):SS X b G G L ro (.For tg it body [] pos) (cj g src ds f):=by
 refine PS.imp (Fb hp hc hi hg hb hs) ?_
 rintro D σ H ⟨Ow,env,out,E,hf,k⟩
 obtain⟨ps,hps,hl⟩:=aq hf
 refine⟨Ow,env,ps,E,hps,λJ H1 s1 iw=>?_⟩
 refine⟨λi m σ2 H2=>m=ps.length - i/\i<=ps.length/\∃Ow2 env2,ER b Ow2 G σ2 env2 H2/\Ex (Bs b Ow) H1 (Bs b Ow2) H2/\bY g ds f (ps.drop i) env2=some out,⟨ps.length,by simp,cK _,Ow,clr ds env,(E.up s1).clr,Ex.refl _ _,by simpa using hl⟩,?_⟩
 rintro i m σ2 H2 ⟨rfl,hi,Ow2,env2,E2,x2,l2⟩
 obtain⟨w1,w2⟩:=iw Ow2 H2 (λz=>by cases z) x2 λa=>E2.fresh
 have xk:Ex (Bs b Ow) H (Bs b Ow2) H2:=(Ex.of_same s1).trans x2
 by_cases hlt:i < ps.length
 ·rw[ed hlt] at l2
  obtain⟨e1,he1,l2⟩:=aq l2
  obtain⟨o,ho,l2⟩:=aq l2
  obtain⟨g1,g2⟩:=w1 i ps[i] (ar hlt)
  refine .inr ⟨g1,fun σ' H'=>i+1<=ps.length/\∃Ow2 env2,ER b Ow2 G σ' env2 H'/\Ex (Bs b Ow) H1 (Bs b Ow2) H'/\bY g ds f (ps.drop (i+1)) env2=some out,fun σ' H' q=>⟨ps.length - (i+1),by omega,rfl,q⟩,λx H' y=>?_⟩
  obtain⟨s3,r3⟩:=g2 x H' y
  refine⟨Ow2,env2,_,e1,E2.up s3,r3,he1,fun σ3 E3=>⟨Ow2,e1,o,E3,ho,?_⟩⟩
  cases o with
  | nx e'=>exact λOw' σ' H'' E' x'=>⟨hlt,Ow',_,E'.clr,x2.trans ((Ex.of_same s3).trans x'),l2⟩
  | ct e'=>exact λOw' σ' H'' E' x'=>⟨hlt,Ow',_,E'.clr,x2.trans ((Ex.of_same s3).trans x'),l2⟩
  | bk e'=>cases l2;exact λOw' σ' H'' E' x'=>k Ow' σ' H'' E'.clr (xk.trans ((Ex.of_same s3).trans x'))
  | rt p=>cases l2;exact k
 ·have e:i=ps.length:=by omega
  subst e
  rw[ku] at l2
  cases l2
  exact .inl ⟨w2,k Ow2 σ2 H2 E2 xk⟩
noncomputable def lg (c:Env->Option Bool)(ds:qf)(body:Env->Option Out):Nat->Env->Option Out
 | 0,_=>none
 | n+1,env=>(c env).bind λk=>if k=true then (body env).bind λo=>match o with
   | .nx e=>lg c ds body n (clr ds e)
   | .ct e=>lg c ds body n (clr ds e)
   | .bk e=>some (.nx (clr ds e))
   | .rt p=>some (.rt p)
  else some (.nx env)
noncomputable def rH (n:Nat)(c:Env->Option Bool)(ds:qf)(body:Env->Option Out)(env:Env):Option Out:=lg c ds body n (clr ds env)
@[simp] theorem Gs (n:Nat)(c:Env->Option Bool)(ds:qf)(body:Env->Option Out)(env:Env):rH n c ds body env=(lg c ds body n (clr ds env)):=id rfl
theorem LR {c:Expr}{body:qk}{t:Env->Option Bool}{f:Env->Option Out}(n:Nat)(ds:qf)(hc:ST X b G c t)(hb:SSs X b G G G ro body f)(hp:PassesOwn (model X.prog X.w) X.A X.env X.xe):SS X b G G L ro (.While c body [] pos) (rH n t ds f):=by
 refine PS.imp (HN hp hc hb) ?_
 rintro D σ H ⟨Ow,env,out,E,hf,k⟩
 refine⟨λm σ2 H2=>∃Ow2 env2,ER b Ow2 G σ2 env2 H2/\Ex (Bs b Ow) H (Bs b Ow2) H2/\lg t ds f m env2=some out,⟨n,Ow,clr ds env,E.clr,Ex.refl _ _,hf⟩,?_⟩
 rintro m σ2 H2 ⟨Ow2,env2,E2,x2,l2⟩
 cases m with
 | zero=>cases l2
 | succ m=>
  obtain⟨kk,hk,l2⟩:=aq l2
  refine⟨Ow2,env2,kk,E2,hk,λH3 s3=>?_⟩
  cases kk with
  | false=>cases l2;exact Df (k Ow2 σ2 H3 (E2.up s3) (x2.trans (.of_same s3)))
  | true=>
   refine Dg ⟨fun σ' H'=>∃Ow2 env2,ER b Ow2 G σ' env2 H'/\Ex (Bs b Ow) H (Bs b Ow2) H'/\lg t ds f m env2=some out,fun σ' H' q=>⟨m,oa m,q⟩,?_⟩
   obtain⟨o,ho,l2⟩:=aq l2
   refine⟨Ow2,env2,o,E2.up s3,ho,?_⟩
   cases o with
   | nx e'=>exact λOw' σ' H'' E' x'=>⟨Ow',_,E'.clr,x2.trans ((Ex.of_same s3).trans x'),l2⟩
   | ct e'=>exact λOw' σ' H'' E' x'=>⟨Ow',_,E'.clr,x2.trans ((Ex.of_same s3).trans x'),l2⟩
   | bk e'=>cases l2;exact λOw' σ' H'' E' x'=>k Ow' σ' H'' E'.clr (x2.trans ((Ex.of_same s3).trans x'))
   | rt p=>cases l2;exact k
end
noncomputable def jN (cap:List (Option Nat))(env:Env):Env:=cap.map λo=>match o with | some i=>(env[i]?).getD none | none=>none
@[simp] theorem Vk (cap:List (Option Nat))(env:Env):jN cap env=(cap.map λo=>match o with | some i=>(env[i]?).getD none | none=>none):=id rfl
noncomputable def j_ (cap:List (Option Nat))(G:qf):List Nat:=(List.range cap.length).filter λj=>match cap[j]? with | some (some i)=>decide (i∈G) | _=>false
def BX.in (b:BX):BX:={ b with fx:=λ_=>none }
noncomputable def eO (env:Env)(g:PV->Env->Option Env)(t:Env->Option Bool)(f:qS):List PV->Option (List PV)
 | []=>some []
 | x::xs=>(g x env).bind λe=>(t e).bind λk=>if k=true then (f e).bind λy=>(eO env g t f xs).bind λys=>some (y::ys) else eO env g t f xs
noncomputable def eQ (cap:List (Option Nat))(src:Env->Option (List PV))(g:PV->Env->Option Env)(t:Env->Option Bool)(f:qS)(env:Env):Option PV:=(src env).bind λxs=>if xs.length<=1000000 then (eO (jN cap env) g t f xs).bind λys=>some (.lst ys) else none
@[simp] theorem U4 (cap:List (Option Nat))(src:Env->Option (List PV))(g:PV->Env->Option Env)(t:Env->Option Bool)(f:qS)(env:Env):eQ cap src g t f env=((src env).bind λxs=>if xs.length<=1000000 then (eO (jN cap env) g t f xs).bind λys=>some (.lst ys) else none):=id rfl
noncomputable def fD (env:Env):Option Bool:=some true
@[simp] theorem U5 (env:Env):fD env=(some true):=id rfl
theorem capG_mem {cap:List (Option Nat)}{G:qf}{j:Nat}:j∈j_ cap G↔∃i,cap[j]?=some (some i)/\i∈G:=by
 unfold j_
 rw[gp,b6]
 constructor
 ·rintro ⟨h1,h2⟩
  split at h2
  ·rename_i i e;exact⟨i,e,by simpa using h2⟩
  ·cases h2
 ·rintro ⟨i,e,h⟩
  refine⟨(ap.mp e).1,?_⟩
  rw[e];simpa using h
theorem qg {cap:List (Option Nat)}{env:Env}{j:Nat}{p:PV}(h:(jN cap env)[j]?=some (some p)):∃i,cap[j]?=some (some i)/\env[i]?=some (some p):=by
 unfold jN at h
 rw[aE] at h
 cases q:cap[j]? with
 | none=>rw[q] at h;cases h
 | some o=>
  rw[q] at h
  cases o with
  | none=>cases h
  | some i=>
   refine⟨i,rfl,?_⟩
   have h':(env[i]?).getD none=some p:=by simpa using h
   cases q2:env[i]? with
   | none=>rw[q2] at h';cases h'
   | some o=>rw[q2] at h';simp at h';rw[h']
theorem ou {cap:List (Option Nat)}{σ:St}{j i:Nat}{v:V}(h:cap[j]?=some (some i))(e:σ[i]?=some (some v)):(fB cap σ)[j]?=some (some v):=by
 unfold fB
 rw[aE,h]
 simp[yK,e]
noncomputable def rJ (cap:List (Option Nat)):Bool:=(List.range cap.length).all λj=>(List.range cap.length).all λk=>match cap[j]?,cap[k]? with
 | some (some i),some (some i')=>decide (i=i'->j=k)
 | _,_=>true
theorem Gu {cap:List (Option Nat)}(h:rJ cap=true){j k i:Nat}(h1:cap[j]?=some (some i))(h2:cap[k]?=some (some i)):j=k:=by
 have a:=cy.mp h j (b6.mpr (ap.mp h1).1)
 have c:=cy.mp a k (b6.mpr (ap.mp h2).1)
 rw[h1,h2] at c
 simpa using c
theorem ER.cap {b:BX}{Ow:Addr->Prop}{G:qf}{σ:St}{env:Env}{H:Hp}{cap:List (Option Nat)}(E:ER b Ow G σ env H)(hc:rJ cap=true):ER b.in Ow (j_ cap G) (fB cap σ) (jN cap env) H:=by
 refine⟨by unfold fB jN;rw[af,af],E.same,E.live,E.new,λj p e n=>?_,λj p e n=>?_,λj k a p q e1 n1 s1 e2 n2 s2=>?_,λk v z=>by cases z⟩
 ·obtain⟨i,h1,h2⟩:=qg e
  obtain⟨v,h3,h4⟩:=E.val i p h2 λz=>n (capG_mem.mpr ⟨i,h1,z⟩)
  exact⟨v,ou h1 h3,h4⟩
 ·obtain⟨i,h1,h2⟩:=qg e
  obtain⟨i',h1',hG⟩:=capG_mem.mp n
  rw[h1] at h1';cases h1'
  obtain⟨a,h3,h4,h5⟩:=E.own i p h2 hG
  exact⟨a,ou h1 h3,h4,h5⟩
 ·obtain⟨i,h1,h2⟩:=qg e1
  obtain⟨i',h1',hG⟩:=capG_mem.mp n1
  rw[h1] at h1';cases h1'
  obtain⟨k',h3,h4⟩:=qg e2
  obtain⟨k'',h3',hG2⟩:=capG_mem.mp n2
  rw[h3] at h3';cases h3'
  obtain⟨c,g1,_,_⟩:=E.own i p h2 hG
  obtain⟨c2,g2,_,_⟩:=E.own k' q h4 hG2
  have t1:=ou (cap:=cap) h1 g1
  have t2:=ou (cap:=cap) h3 g2
  rw[s1] at t1;cases t1
  rw[s2] at t2;cases t2
  have:=E.sep i k' _ p q h2 hG g1 h4 hG2 g2
  subst this
  exact Gu hc h1 h3
theorem ER.more {b:BX}{Ow:Addr->Prop}{G:qf}{σ:St}{env:Env}{H H':Hp}{D:Addr}(E:ER b Ow G σ env H)(hD:H D=none)(s:Same H H')(hl:∃o,H' D=some o):ER b (λc=>Ow c\/c=D) G σ env H'/\Ex (Bs b Ow) H (Bs b λc=>Ow c\/c=D) H':=by
 have hx:Ex (Bs b Ow) H (Bs b λc=>Ow c\/c=D) H':=λc o h=>⟨λq=>⟨s _ _ h,λz=>z.elim q.1 (bF h hD),q.2⟩,λ_=>s _ _ h⟩
 exact⟨⟨E.len,E.same.trans s,λc w=>w.elim (λz=>let ⟨o,h⟩:=E.live c z;⟨o,s _ _ h⟩) λz=>by subst z;exact hl,λc w=>w.elim (E.new c) λz=>by subst z;exact E.same.free hD,λi p e n=>let ⟨v,h1,h2⟩:=E.val i p e n;⟨v,h1,h2.ex hx⟩,
  λi p e n=>let ⟨a,h1,h2,h3⟩:=E.own i p e n;⟨a,h1,.inl h2,h3.ex hx λo z=>s _ _ z⟩,E.sep,E.fix⟩,hx⟩
structure TgOk (K:W.Frag)(cap:List (Option Nat))(g:TG)(gm:PV->Env->Option Env):Prop where
 go:∀(b:BX) (Ow:Addr->Prop) (G:qf) (σ:St) (env e:Env) (H:Hp) (v:V) (p:PV) (Q:St->Hp->Prop),b.C.K=K->(∀i,b.fx i=none)->ER b Ow (j_ cap G) (fB cap σ) (jN cap env) H->Rep b.C (Bs b Ow) H v p->gm p (jN cap env)=some e->
  (∀ σ',Kp (fB cap σ) σ'->ER b Ow (j_ cap G) σ' e H->Q σ' H)->g v (fB cap σ) H Q
theorem Gv {σ σ':St}{i:Nat}{v:V}(h:Kp σ σ')(hn:∀w,σ[i]?≠some (some w)):Kp σ (σ'.set i (some v)):=by
 refine⟨by rw[dL];exact h.1,λj w e=>?_⟩
 by_cases hj:i=j
 ·subst hj;exact absurd e (hn w)
 ·rw[a7 hj];exact h.2 j w e
theorem Bu (σ:St):Kp σ σ:=⟨rfl,λ_ _ e=>e⟩
theorem uZ {cap:List (Option Nat)}{σ:St}{i:Nat}(h:cap[i]?=some none)(w:V):(fB cap σ)[i]?≠some (some w):=by
 unfold fB
 rw[aE,h]
 intro z;cases z
theorem wX {cap:List (Option Nat)}{G:qf}{i:Nat}(h:cap[i]?=some none):i∉j_ cap G:=λz=>by
 obtain⟨k,e,_⟩:=capG_mem.mp z
 rw[h] at e;cases e
theorem ug {K:W.Frag}{cap:List (Option Nat)}(i:Nat)(h:cap[i]?=some none:=by rfl):TgOk K cap (sV i) (gN i):=
 ⟨λb Ow G σ env e H v p Q hK hx E r he k=>by
  cases he
  exact k _ (Gv (Bu _) (uZ h)) (E.set (wX h) r (hx _))⟩
def y_:List Nat->TGs
 | []=>O3
 | i::is=>JZ (sV i) (y_ is)
theorem za {K:W.Frag}{cap:List (Option Nat)}(is:qf)(h:(is.all λi=>decide (cap[i]?=some none))=true:=by rfl):TgOk K cap (O4 K is.length (y_ is)) (gT is):=
 ⟨λb Ow G σ env e H v p Q hK hx E r he k=>by
  subst hK
  cases p <;> simp only[gT] at he <;> first | cases he | skip
  rename_i xs
  obtain⟨a,vs,rfl,ha,ra⟩:=RepB.tup (.inl r)
  refine⟨a,vs,rfl,ha.sq,by rw[ra.length];exact vZ he,?_⟩
  have gen:∀(is:qf) (vs:List V) (xs:List PV) (σ1:St) (env1:Env),(is.all λi=>decide (cap[i]?=some none))=true->Kp (fB cap σ) σ1->ER b Ow (j_ cap G) σ1 env1 H->Reps b.C (Bs b Ow) H vs xs->gNs is xs env1=some e->y_ is vs σ1 H Q:=by
   intro is
   induction is with
   | nil=>
    intro vs xs σ1 env1 _ kp E1 r1 e1
    cases xs with
    | nil=>cases r1;cases e1;exact⟨rfl,k σ1 kp E1⟩
    | cons x xs=>cases e1
   | cons i is ih=>
    intro vs xs σ1 env1 hall kp E1 r1 e1
    cases xs with
    | nil=>cases e1
    | cons x xs=>
     cases r1 with
     | cons r2 r3=>
      rw[iA,bP] at hall
      have hi:cap[i]?=some none:=by simpa using hall.1
      exact⟨_,_,rfl,ih _ xs _ _ hall.2 (Gv kp (uZ hi)) (E1.set (wX hi) r2 (hx _)) r3 e1⟩
  exact gen is vs xs _ _ h (Bu _) E ra he⟩
section
variable {X:Cx}{b:BX}{G L:qf}{ro:Bool}{pos:Pos}{tg iter elt:Expr}{ifs:qo}{scope osc:Scope}{ON N:qr}{cap:List (Option Nat)}{src:Env->Option (List PV)}{g:TG}{gm:PV->Env->Option Env}{t:Env->Option Bool}{f:qS}
theorem J9 {σ:St}{H:Hp}{Q:VK}(tgo:TgOk b.C.K cap g gm)(hc:rJ cap=true)(h:tM b G .own (eQ cap src gm t f) σ H Q):
  xY (tMI b G false src) cap g (tMT b.in (j_ cap G) t) (tM b.in (j_ cap G) .val f) σ H Q:=by
 obtain⟨Ow,env,p,E,hf,k⟩:=h
 obtain⟨xs,hxs,hf⟩:=aq hf
 split at hf
 ·rename_i hlen
  obtain⟨ys,hys,hf⟩:=aq hf
  cases hf
  refine⟨Ow,env,xs,E,hxs,λJ H1 s1 iw D hD=>?_⟩
  have E1:=E.up s1
  have nD:H D=none:=s1.free hD
  refine⟨λi m vs H2=>m=xs.length - i/\i<=xs.length/\Same H1 H2/\H2 D=some (.lst vs)/\vs.length<=i/\∃done rest,Reps b.C (Bs b λc=>Ow c\/c=D) H2 vs done/\eO (jN cap env) gm t f (xs.drop i)=some rest/\done++rest=ys,
   ⟨xs.length,by simp,cK _,bJ hD _,bc,aS _,[],ys,.nil,by simpa using hys,rfl⟩,?_⟩
  rintro i m vs H2 ⟨rfl,hi,s2,d2,hv,done,rest,rd,cl,hdone⟩
  refine⟨d2,?_⟩
  obtain⟨E2,x2⟩:=E1.more hD s2 ⟨_,d2⟩
  obtain⟨w1,w2⟩:=iw _ H2 (λ_=>s2) x2 λa=>E2.fresh
  by_cases hlt:i < xs.length
  ·rw[ed hlt] at cl
   obtain⟨e1,he1,cl⟩:=aq cl
   obtain⟨kk,hk,cl⟩:=aq cl
   obtain⟨g1,g2⟩:=w1 i xs[i] (ar hlt)
   refine .inr ⟨g1,λvs' H'=>i+1<=xs.length/\Same H1 H'/\H' D=some (.lst vs')/\vs'.length<=i+1/\∃done rest,Reps b.C (Bs b λc=>Ow c\/c=D) H' vs' done/\eO (jN cap env) gm t f (xs.drop (i+1))=some rest/\done++rest=ys,λvs' H' q=>⟨xs.length - (i+1),by omega,rfl,q⟩,λx H' y=>?_⟩
   obtain⟨s3,r3⟩:=g2 x H' y
   have E3:=(E2.up s3).cap hc
   refine tgo.go b.in _ G σ env e1 H' x _ _ rfl (λ_=>rfl) E3 r3 he1 fun σ3 kp E4=>⟨kp,_,e1,kk,E4,hk,λH4 s4=>?_⟩
   have d4:H4 D=some (.lst vs):=s4 _ _ (s3 _ _ d2)
   have s24:Same H2 H4:=s3.trans s4
   cases kk with
   | false=>
    refine Df ⟨hlt,s2.trans s24,d4,Nat.le_succ_of_le hv,done,rest,rd.ex (.of_same s24),?_,hdone⟩
    simpa using cl
   | true=>
    simp only[gx] at cl
    obtain⟨y1,hy1,cl⟩:=aq cl
    obtain⟨ys1,hys1,cl⟩:=aq cl
    cases cl
    refine Dg ⟨_,e1,y1,E4.up s4,hy1,λv5 H5 s5 r5=>⟨s5 _ _ d4,jF (by omega),hlt,?_,bc,by rw[a8];show vs.length+1<=i+1;omega,done++[y1],ys1,?_,hys1,by rw[dS];exact hdone⟩⟩
    ·exact λc o h=>by rw[aP (bF h hD)];exact s5 _ _ (s24 _ _ (s2 _ _ h))
    ·have r5':Rep b.C (Bs b λc=>Ow c\/c=D) H5 v5 y1:=r5
     refine((rd.ex (.of_same (s24.trans s5))).append (.cons r5' .nil)).ex ?_
     exact qe (b:=b) (Ow:=λc=>Ow c\/c=D) (.inr rfl) (s5 _ _ d4) rfl
  ·have e:i=xs.length:=by omega
   subst e
   rw[ku] at cl
   cases cl
   rw[bE] at hdone
   subst hdone
   refine .inl ⟨w2,k _ H2 (s1.trans s2) ⟨D,rfl,nD,vs,d2,rd.ex (dq λc o _ q=>⟨⟨λz=>q.1 (.inl z),q.2⟩,λz=>q.1 (.inr z)⟩)⟩⟩
 ·cases hf
theorem iM {X:Cx}:rn X [] (tMT b G fD):=by rintro pins s σ H Q I ⟨Ow,env,k,E,hf,kk⟩;cases hf;exact Ij pins s σ H Q I (kk H (Same.refl _))
theorem jf (S:CSc osc scope ON N cap)(tgo:TgOk b.C.K cap g gm)(hi:SI X b G false tg iter src)(hg:∀C s H fp,PG (X.comp N scope C s H fp) tg g)(ht:∀C s H fp,rn (X.comp N scope C s H fp) ifs (tMT b.in (j_ cap G) t))(he:∀C s H fp,SE (X.comp N scope C s H fp) b.in (j_ cap G) .val elt f)
  (hci:rJ cap=true:=by rfl) (hc:X.calm=true:=by rfl) (hsc:X.env.scope=osc:=by rfl) (hN:X.N=ON:=by rfl) (hs:∀x,foldedSetIterable iter X.env x=pure x:=by intro _;rfl):SE X b G .own (.ListComp elt [⟨tg,iter,ifs,0⟩] scope pos) (eQ cap src gm t f):=
 PE.imp (Lf S hi hg ht he hc hsc hN hs) fun σ H Q h=>J9 tgo hci h
theorem zb (i:Nat){y:Str}{py spos:Pos}(nd:X.N.Nodup)(S:CSc osc scope ON N cap)(tgo:TgOk b.C.K cap g gm)(hi:SI X b G false tg iter src)(hg:∀C s H fp,PG (X.comp N scope C s H fp) tg g)(ht:∀C s H fp,rn (X.comp N scope C s H fp) ifs (tMT b.in (j_ cap G) t))(he:∀C s H fp,SE (X.comp N scope C s H fp) b.in (j_ cap G) .val elt f)
  (hG:i∉G:=by decide) (hx:b.fx i=none:=by first | rfl | assumption) (hi':X.N[i]?=some y:=by rfl) (hy:Loc X.env.scope y:=by first | exact g6 rfl | exact fm rfl) (hci:rJ cap=true:=by rfl)
  (hsw:swapsWith (.ListComp elt [⟨tg,iter,ifs,0⟩] scope pos) (some (.Name y py)) spos.line X.env=pure true:=by rfl)
  (hc:X.calm=true:=by rfl) (hsc:X.env.scope=osc:=by rfl) (hN:X.N=ON:=by rfl) (hs:∀x,foldedSetIterable iter X.env x=pure x:=by intro _;rfl)
  (hf:X.fn y=true\/X.env.scope.names.lookup y=some .local:=by first | exact .inl rfl | exact .inr rfl | assumption):
  SS X b G G L ro (.Assign [.Name y py] (.ListComp elt [⟨tg,iter,ifs,0⟩] scope pos) spos) (aJ i (eQ cap src gm t f)):=
 PS.imp (Lg S nd hi' hy hi hg ht he hsw hc hsc hN hs hf) λD σ H q=>J9 tgo hci (by
  obtain⟨Ow,env,p,E,hf,k⟩:=Q9 hG hx q
  exact⟨Ow,env,p,E,hf,λv H' s r=>k v H' s (r.val E (by intro z;cases z))⟩)
end
noncomputable def bI (n k:Nat)(ro:Bool)(f:Env->Option Out)(ps:List PV):Option PV:=if ps.length=k then (f (ps.map some++List.replicate (n - k) none)).bind λo=>match o with
 | .nx _=>if ro=true then none else some .non
 | .rt p=>some p
 | _=>none
 else none
@[simp] theorem Vl (n k:Nat)(ro:Bool)(f:Env->Option Out)(ps:List PV):bI n k ro f ps=(if ps.length=k then (f (ps.map some++List.replicate (n - k) none)).bind λo=>match o with
 | .nx _=>if ro=true then none else some .non
 | .rt p=>some p
 | _=>none
 else none):=id rfl
theorem zc {C:MC}{A:Addr->Prop}{H:Hp}{N:qr}{vs:List V}{ps:List PV}{G:qf}(r:Reps C A H vs ps)(hG:∀i,i∈G->ps.length<=i)(hn:ps.length<=N.length):ER ⟨C,A,H,λ_=>none⟩ (λ_=>False) G (L2.start N vs) (ps.map some++List.replicate (N.length - ps.length) none) H:=by
 have hl:=r.length
 have old:∀i p,(ps.map some++List.replicate (N.length - ps.length) none)[i]?=some (some p)->ps[i]?=some p:=λi p e=>by
  by_cases hi:i < ps.length
  ·rw[hU (by rw[af];exact hi),aE] at e
   cases q:ps[i]? with
   | none=>rw[q] at e;cases e
   | some p'=>rw[q] at e;cases e;rfl
  ·rw[eK (by rw[af];omega),og] at e
   split at e <;> cases e
 refine⟨?_,Same.refl _,λa w=>w.elim,λa w=>w.elim,λi p e n=>?_,λi p e n=>?_,λi j a p q e1 n1 s1 e2 n2 s2=>?_,λk v z=>by cases z⟩
 ·unfold L2.start
  simp only[a8,af,oD]
  omega
 ·obtain⟨v,hv,rv⟩:=r.get (old i p e)
  refine⟨v,?_,rv.ex (dq λa o _ q=>⟨λz=>z,.inl q⟩)⟩
  unfold L2.start
  have hi:i < vs.length:=(ap.mp hv).1
  rw[hU (by rw[af];exact hi),aE,hv]
  rfl
 ·have h1:=(ap.mp (old i p e)).1
  have h2:=hG i n
  omega
 ·have h1:=(ap.mp (old i p e1)).1
  have h2:=hG i n1
  omega
theorem Bv {X:Cx}{C:MC}{N:qr}{n k:Nat}{G G' L:qf}{ro:Bool}{body:qk}{f:Env->Option Out}(hN:N.length=n)(hk:k<=n)(hG:(G.all λi=>decide (k<=i))=true)(hb:∀A H,SSs X ⟨C,A,H,λ_=>none⟩ G G' L ro body f)
  {vs:List V}{H:Hp}{Q:VK}{E:XK}(h:spM C (bI n k ro f) ro vs H Q E):∃t,PSs X body t/\t { nx:=λ_ H'=>Q .non H',rt:=Q } (L2.start N vs) H:=by
 obtain⟨A,ps,p,r,hm,kk⟩:=h
 refine⟨_,hb A H,?_⟩
 unfold bI at hm
 split at hm
 ·rename_i hl
  obtain⟨o,ho,hm⟩:=aq hm
  refine⟨_,_,o,zc (N:=N) (G:=G) r (λi hi=>by rw[hl];simpa using cy.mp hG i hi) (by omega),by rw[hN,hl];exact ho,?_⟩
  cases o with
  | nx e=>
   cases ro with
   | true=>cases hm
   | false=>cases hm;exact λOw' σ' H' E' _=>kk .non H' E'.same .non
  | rt q=>cases hm;exact λv H' s rr=>kk v H' s rr
  | bk e=>cases hm
  | ct e=>cases hm
 ·cases hm
theorem L_ {C:MC}{n k:Nat}{f:Env->Option Out}{ro ro':Bool}{vs:List V}{H:Hp}{Q:VK}{E:XK}(h:spM C (bI n k ro' f) ro vs H Q E):vs.length=k:=by
 obtain⟨A,ps,p,r,hm,kk⟩:=h
 unfold bI at hm
 split at hm
 ·rename_i hl;rw[r.length];exact hl
 ·cases hm
section
variable {X:Cx}{b:BX}{G:qf}{pos p:Pos}{e:Expr}{es:qo}{g:Env->Option (List PV)}
@[simp] noncomputable def tyN:PV->Option String
 | .non=>some "NoneType"
 | .bl _=>some "bool"
 | .int _=>some "int"
 | .str _=>some "str"
 | .lst _=>some "list"
 | .tup _=>some "tuple"
 | .dK _=>some "dict"
 | .dT _=>some "dict"
 | _=>none
noncomputable def uh (tb:List (String×Bool))(p:PV):Option PV:=(tyN p).bind λt=>(tb.lookup t).bind λk=>some (.bl k)
@[simp] theorem Vm (tb:List (String×Bool))(p:PV):uh tb p=((tyN p).bind λt=>(tb.lookup t).bind λk=>some (.bl k)):=id rfl
theorem RepB.ty {C:MC}{A:Addr->Prop}{H:Hp}{v:V}{p:PV}{t:String}(r:RepB C A H v p)(h:tyN p=some t):TyOf C.K H v (.type t):=by
 cases p <;> simp only[tyN] at h <;> cases h
 ·rw[r.non];exact .non
 ·rw[r.bl];exact .bl _
 ·rw[r.int];exact .int _
 ·rw[r.str];exact .str _
 ·obtain⟨a,vs,rfl,ha,_⟩:=r.lst;exact .lst ha
 ·obtain⟨a,vs,rfl,ha,_⟩:=r.tup;exact ha.elim (λq=>.tup q) λq=>.tupC q
 ·obtain⟨a,vs,rfl,ha,_⟩:=r.dK;exact .dK ha
 ·obtain⟨a,vs,rfl,ha,_⟩:=r.dT;exact .dT ha
theorem gU {α β:Type}[BEq α][LawfulBEq α]{x:α}{y:β}:∀{l:List (α×β)},l.lookup x=some y->(x,y)∈l
 | [],h=>by cases h
 | (a,c)::r,h=>by
  rw[cv] at h
  cases q:x == a with
  | true=>rw[q] at h;cases h;have:=eq_of_beq q;subst this;exact ai
  | false=>rw[q] at h;exact ag _ (gU h)
theorem rK {m:Md}{f:qS}{n:Str}{n':String}{p1:Pos}(tb:List (String×Bool))(hk:∀t k,(t,k)∈tb->W.kitOne X.K (.type t) (.type n')=some k)(hm:X.mg "isinstance" = none)(hmn:X.mg n=none)(hbn:bootBuiltins n=some (.type n'))(h:SE X b G m e f)(hK:X.K=b.C.K:=by rfl)(hg:Gl X "isinstance" := by rfl)(hgn:Gl X n:=by rfl)
  (hbi:bootBuiltins "isinstance" = some (.builtin "isinstance"):=by decide +kernel) (hn1:n ≠ "__name__" := by decide) (hd:(n == ("__debug__" : Str))=false:=by decide)
  (he:starEach [e,.Name n p1] X.env=(false,eval e X.env)::starEach [.Name n p1] X.env:=by rfl) (he2:starEach [.Name n p1] X.env=(false,eval (.Name n p1) X.env)::starEach [] X.env:=by rfl) (hpl:(backTo pos (starEach [.Name n p1] X.env)).any (·.1)=false:=by rfl):
  SE X b G .val (.Call (.Name "isinstance" p) [e,.Name n p1] [] pos) (b1 (uh tb) f):=by
 refine PE.imp (yx Ax hg hm hbi (bZ h.bor (bZ (KD (v:=.ty n') hgn hmn hbn rfl hn1 hd) di he2) he) (by decide) (by decide) he hpl) ?_
 rintro σ H Q ⟨Ow,env,q,E,hf,kk⟩
 obtain⟨p1,hp1,hf⟩:=aq hf
 obtain⟨t,ht,hf⟩:=aq hf
 obtain⟨k,hk',hf⟩:=aq hf
 cases hf
 refine⟨Ow,env,p1,E,hp1,λv H1 s r=>?_⟩
 have r1:RepB b.C (Bs b Ow) H1 v p1:=r
 exact⟨v,n',.type t,k,rfl,by rw[hK];exact r1.ty ht,hk t k (gU hk'),kk _ H1 s (.bl k)⟩
end
section
variable {X:Cx}{b:BX}{G G' L:qf}{ro:Bool}{pos:Pos}
noncomputable def jy (xs ys:List PV):List PV:=List.zipWith (λx y=>.tup [x,y]) xs ys
end
end MR
namespace MR
open PySem L2
section
variable {X:Cx}{b:BX}{G G' L:qf}{ro:Bool}{pos p:Pos}{m m1 m2:Md}{e e1 e2:Expr}{f f1 f2 h:qS}
@[simp] noncomputable def ul:PV->PV->Option PV
 | .lst xs,.lst ys=>if xs.length+ys.length<=1000000 then some (.lst (xs++ys)) else none
 | _,_=>none
theorem Gw {x y z:PV}(e:ul x y=some z):∃xs ys,x=.lst xs/\y=.lst ys/\xs.length+ys.length<=1000000/\z=.lst (xs++ys):=by
 unfold ul at e
 split at e
 ·split at e
  ·cases e;exact⟨_,_,rfl,rfl,‹_›,rfl⟩
  ·cases e
 ·cases e
theorem yd (i:Nat){x:Str}{p1 apos cpos:Pos}(he:SE X b G .val e h)(hi:i∈G:=by decide)(hN:X.N[i]?=some x:=by rfl)(hv:Vis X.env.scope x:=by first | exact g6 rfl | exact fm (g6 rfl) | exact fm (fm rfl))(hd:(x == ("__debug__" : Str))=false:=by decide)
  (hcd:(x == ("__classdict__" : Str))=false:=by decide) (hbase:attributeBase (.Name x p1) "extend" X.env (eval (.Name x p1) X.env)=eval (.Name x p1) X.env:=by rfl)
  (hfew:((backTo cpos (starEach [e] X.env)).all (λx=>!x.1)&&(backToKw cpos (keywordEach [] X.env)).all (λx=>x.1.isSome)
   && decide ([e].length+([]:List Keyword).length+(if ([]:List Keyword).isEmpty then 0 else 1) < 30))=true:=by rfl)
  (hline:(apos.endLine == cpos.line)=true:=by rfl) (hs:starEach [e] X.env=(false,eval e X.env)::starEach [] X.env:=by rfl):
  SS X b G G L ro (.Expr (.Call (.Attribute (.Name x p1) "extend" apos) [e] [] cpos) pos) (cN ul i h):=
 PS.imp (pC (uL gd PySem.F.slot_list_extend PySem.F.type_list_extend Fw (jL hN hv hd hcd) (bZ he di hs) hbase hfew hline hs rfl))<|by
  rintro D σ H ⟨Ow,env,o,E,hf,k⟩
  obtain⟨px,hpx,z1⟩:=aq hf
  clear hf
  obtain⟨p,hp,z2⟩:=aq z1
  clear z1
  obtain⟨y,hy,z3⟩:=aq z2
  clear z2
  cases z3
  obtain⟨xs,ys,rfl,rfl,hl,rfl⟩:=Gw hy
  obtain⟨a,ea,w,t⟩:=E.own i _ (gA hpx) hi
  obtain⟨vs,ha,ra⟩:=id t
  refine⟨_,ea,.inl ⟨rfl,_,SqL.of ha⟩,Ow,env,_,E,hp,λv H' s r=>?_⟩
  cases r with
  | @lst c us _ q1 q2 q3=>
   refine⟨a,c,vs,us,rfl,rfl,s _ _ ha,q1,gw (by rw[ra.length,q3.length];exact hl),?_⟩
   have ra':Reps b.C (Bs b Ow) (upd H' a (.lst (vs++us))) (vs++us) (xs++ys):=by
    refine(ra.ex (.of_same s)).append q3 |>.ex λc o h=>⟨λq=>⟨by rw[aP (λz:c=a=>q.1 (z▸w))];exact h,q⟩,λm=>?_⟩
    have hc:c≠a:=λz=>by subst z;rw[s _ _ ha] at h;cases h;cases m
    rw[aP hc];exact h
   obtain⟨E',x⟩:=(E.up s).write hi ea (gA hpx) w (t.ex (.of_same s) λo z=>s _ _ z) (o':=.lst (vs++us)) (p':=.lst (xs++ys)) ⟨_,bc,ra'⟩
   exact k Ow σ _ E' ((Ex.of_same s).trans x)
@[simp] noncomputable def zf:PV->PV->Option PV
 | .lst xs,.int k=>if -1000000<=k/\k<=1000000/\xs.length*k.toNat<=1000000 then some (.lst (List.replicate k.toNat xs).flatten) else none
 | _,_=>none
theorem Reps.repl {C:MC}{A:Addr->Prop}{H:Hp}{vs:List V}{ps:List PV}(h:Reps C A H vs ps):∀n:Nat,Reps C A H (List.replicate n vs).flatten (List.replicate n ps).flatten
 | 0=>.nil
 | n+1=>by
  rw[dA,dA,fz,fz]
  exact h.append (Reps.repl h n)
theorem Rb:Op2 b .own Qc zf:=by
 intro Ow H v1 v2 p1 p2 p Q hn r1 r2 e k
 unfold zf at e
 split at e
 ·split at e
  ·rename_i h
   cases e
   obtain⟨a,vs,rfl,ha,ra⟩:=r1.lst
   have e2:=r2.int
   subst e2
   have h63:(2 ^ 63:Int)=9223372036854775808:=by decide
   exact⟨a,_,vs,rfl,rfl,ha,by omega,by omega,gw (by rw[ra.length];exact h.2.2),λq hq=>k _ _ (bJ hq _) (j8 hq (ra.repl _))⟩
  ·cases e
 ·cases e
theorem Gx (h1:SE X b G m1 e1 f1)(h2:SE X b G m2 e2 f2):SE X b G .own (.BinOp e1 .Mult e2 pos) (b2 zf f1 f2):=nZ Qd Rb h1 h2
@[simp] noncomputable def u0:PV->Option PV
 | .lst xs=>some (.tup xs)
 | .frz xs=>some (.tup xs)
 | .tup xs=>some (.tup xs)
 | _=>none
theorem zg (hm:X.mg "tuple" = none)(h:SE X b G m1 e f)(hK:X.K=b.C.K:=by rfl)(hg:Gl X "tuple" := by rfl)(he:starEach [e] X.env=(false,eval e X.env)::starEach [] X.env:=by rfl):SE X b G .val (.Call (.Name "tuple" p) [e] [] pos) (b1 u0 f):=by
 refine Bt xG (λOw H v1 p1 p Q hn r1 e k=>?_) hm on h hg (by decide) (by decide) he
 rw[hK]
 cases p1 <;> simp only[u0] at e <;> cases e
 case lst xs=>obtain⟨a,vs,rfl,ha,ra⟩:=r1.lst;exact⟨a,vs,rfl,.inl ⟨SqL.of ha,λl hl=>k _ _ (bJ hl _) (vX hl ra)⟩⟩
 case frz xs=>obtain⟨a,vs,rfl,ha,ra⟩:=r1.frz;exact⟨a,vs,rfl,.inl ⟨ha,λl hl=>k _ _ (bJ hl _) (vX hl ra)⟩⟩
 case tup xs=>obtain⟨a,vs,rfl,ha,ra⟩:=r1.tup;exact⟨a,vs,rfl,.inr ⟨ha.sq,k _ _ (Same.refl _) (ha.rep ra)⟩⟩
@[simp] noncomputable def ye:PV->Option PV
 | .int j=>if 0<=j/\j<=1000000 then some (.lst (cZ 0 j)) else none
 | _=>none
@[simp] noncomputable def u5:PV->Option PV
 | .lst xs=>some (.lst xs.reverse)
 | _=>none
def lJ (d:PyData):List PyData->Nat->Option Nat
 | [],_=>none
 | e::es,n=>if PyData.eqv e d=true then some n else lJ d es (n+1)
noncomputable def idxV (xs:List PV)(y:PV):Option Nat:=match toD y,fc xs with
 | some d,some ds=>if d.canLay0=true/\PyData.canLayAll0 ds=true/\d.depth<=32/\ds.length<=1000000 then lJ d ds 0 else none
 | _,_=>none
@[simp] noncomputable def jq:PV->PV->Option PV
 | .lst xs,y=>(idxV xs y).map λn=>.int (n:Nat)
 | _,_=>none
noncomputable def um (g:PV->Env->Option Env)(f:qS)(env:Env):Option Out:=(f env).bind λp=>(g p env).bind λe=>some (.nx e)
@[simp] theorem Vn (g:PV->Env->Option Env)(f:qS)(env:Env):um g f env=((f env).bind λp=>(g p env).bind λe=>some (.nx e)):=id rfl
theorem Dw {tg:Expr}{g:PV->Env->Option Env}(he:SE X b G .val e h)(hg:SG X b G tg g)(hs:swapsWithSole [tg] e pos.line X.env=pure false:=by rfl)(hw:swappedStores [tg] e X.env=pure none:=by rfl)
  (h1:(assignEach [tg] X.env).map (·.2)=[assign tg X.env]:=by rfl):SS X b G G L ro (.Assign [tg] e pos) (um g h):=
 PS.imp (Ew he hg hs hw h1)<|by
  rintro D σ H ⟨Ow,env,o,E,hf,k⟩
  obtain⟨p,hp,z1⟩:=aq hf
  clear hf
  obtain⟨env',he',z2⟩:=aq z1
  clear z1
  cases z2
  exact⟨Ow,env,p,E,hp,λv H' s r=>⟨Ow,env,p,env',E.up s,r,he',fun σ' E'=>k Ow σ' H' E' (.of_same s)⟩⟩
end
section
variable {X:Cx}{b:BX}{G G' L:qf}{ro:Bool}{pos p p2 pos2:Pos}{m m1 m2:Md}{e e1 e2:Expr}{f f1 f2 h:qS}
theorem Dy {x q:PV}(e:ye x=some q):∃n:Nat,x=.int (n:Nat)/\n<=1000000/\q=.lst (cZ 0 (n:Nat)):=by
 unfold ye at e
 split at e
 ·split at e
  ·rename_i j hj
   cases e
   have ej:j=((j.toNat:Nat):Int):=by omega
   exact⟨j.toNat,by rw[← ej],by omega,by rw[← ej]⟩
  ·cases e
 ·cases e
theorem Jd (hm:X.mg "list" = none)(hm2:X.mg "range" = none)(h:SE X b G m1 e f)(hc:X.calm=true:=by rfl)(hg:Gl X "list" := by rfl)(hg2:Gl X "range" := by rfl)(hs:starEach [e] X.env=[(false,eval e X.env)]:=by rfl)(hs':starEach [e] X.env=(false,eval e X.env)::starEach [] X.env:=by rfl)
  (hs2:starEach [.Call (.Name "range" p2) [e] [] pos2] X.env=(false,eval (.Call (.Name "range" p2) [e] [] pos2) X.env)::starEach [] X.env:=by rfl) (hpl:(backTo pos (starEach [] X.env)).any (·.1)=false:=by rfl):
  SE X b G .own (.Call (.Name "list" p) [.Call (.Name "range" p2) [e] [] pos2] [] pos) (b1 ye f):=by
 refine PE.imp (Im hg hm hg2 hm2 hc (bZ h.bor di hs') hs hs2 hpl) ?_
 rintro σ H Q ⟨Ow,env,q,E,hf,k⟩
 obtain⟨x,hx,hf⟩:=aq hf
 obtain⟨n,rfl,hn,rfl⟩:=Dy hf
 refine⟨Ow,env,_,E,hx,λv H1 s r=>?_⟩
 have r1:RepB b.C (Bs b Ow) H1 v (.int (n:Nat)):=r
 refine⟨n,by rw[r1.int],hn,λl hl=>k _ _ (s.new hl _) (Res.down s (j8 hl ?_))⟩
 have rr:Reps b.C (Bs b Ow) H1 ((List.range n).map λi=>V.int (i:Nat)) ((List.range n).map λi=>PV.int (i:Nat)):=vV _ _ (λi=>.int _) _
 have e1:cZ 0 (n:Nat)=(List.range n).map λi=>PV.int (i:Nat):=by unfold cZ;simp
 rw[e1]
 exact rr
theorem Dz {x q:PV}(e:u5 x=some q):∃xs,x=.lst xs/\q=.lst xs.reverse:=by
 unfold u5 at e
 split at e
 ·cases e;exact⟨_,rfl,rfl⟩
 ·cases e
theorem zj (hm:X.mg "list" = none)(hm2:X.mg "reversed" = none)(h:SE X b G m1 e f)(hb:bootBuiltins "reversed" = some (.type "reversed"):=by decide +kernel)(hK:X.K=b.C.K:=by rfl)(hc:X.calm=true:=by rfl)(hg:Gl X "list" := by rfl)(hg2:Gl X "reversed" := by rfl)(hs':starEach [e] X.env=(false,eval e X.env)::starEach [] X.env:=by rfl)(hp2:(backTo pos2 (starEach [] X.env)).any (·.1)=false:=by rfl)
  (hs2:starEach [.Call (.Name "reversed" p2) [e] [] pos2] X.env=(false,eval (.Call (.Name "reversed" p2) [e] [] pos2) X.env)::starEach [] X.env:=by rfl) (hpl:(backTo pos (starEach [] X.env)).any (·.1)=false:=by rfl):
  SE X b G .own (.Call (.Name "list" p) [.Call (.Name "reversed" p2) [e] [] pos2] [] pos) (b1 u5 f):=by
 refine PE.imp (Ir hg hm hg2 hm2 hb hc (bZ h.bor di hs') hs' hp2 hs2 hpl) ?_
 rintro σ H Q ⟨Ow,env,q,E,hf,k⟩
 rw[hK]
 obtain⟨x,hx,hf⟩:=aq hf
 obtain⟨xs,rfl,rfl⟩:=Dz hf
 refine⟨Ow,env,_,E,hx,λv H1 s r=>?_⟩
 have r1:RepB b.C (Bs b Ow) H1 v (.lst xs):=r
 obtain⟨a,vs,rfl,ha,ra⟩:=r1.lst
 exact⟨a,vs,rfl,SqL.of ha,λl hl=>k _ _ (s.new hl _) (Res.down s (j8 hl ra.reverse))⟩
theorem tW {d:PyData}:∀{ds:List PyData}{k n:Nat},lJ d ds k=some n->∃j,n=k+j/\(∃e,ds[j]?=some e/\PyData.eqv e d=true)/\∀m e,m < j->ds[m]?=some e->PyData.eqv e d=false
 | [],k,n,h=>by cases h
 | e::ds,k,n,h=>by
  unfold lJ at h
  cases q:PyData.eqv e d with
  | true=>
   rw[bp q] at h
   cases h
   exact⟨0,rfl,⟨e,rfl,q⟩,λm e hm=>by omega⟩
  | false=>
   rw[a9 (by rw[q];decide)] at h
   obtain⟨j,h1,⟨e',h2,h3⟩,h4⟩:=tW h
   refine⟨j+1,by omega,⟨e',by simpa using h2,h3⟩,λm e1 hm he=>?_⟩
   cases m with
   | zero=>simp at he;rw[← he];exact q
   | succ m=>exact h4 m e1 (by omega) (by simpa using he)
theorem Az {x y q:PV}(e:jq x y=some q):∃xs d ds j,x=.lst xs/\toD y=some d/\fc xs=some ds/\d.canLay0=true/\PyData.canLayAll0 ds=true/\d.depth<=32/\(∃e,ds[j]?=some e/\PyData.eqv e d=true)/\(∀m e,m < j->ds[m]?=some e->PyData.eqv e d=false)/\ds.length<=1000000/\q=.int (j:Nat):=by
 unfold jq at e
 split at e
 ·rename_i xs
  unfold idxV at e
  split at e
  ·rename_i d ds h1 h2
   split at e
   ·rename_i hc
    cases q2:lJ d ds 0 with
    | none=>rw[q2] at e;cases e
    | some n=>
     rw[q2] at e
     cases e
     obtain⟨j,e1,e2,e3⟩:=tW q2
     rw[iq] at e1
     subst e1
     exact⟨_,d,ds,n,rfl,h1,h2,hc.1,hc.2.1,hc.2.2.1,e2,e3,hc.2.2.2,rfl⟩
   ·cases e
  ·cases e
 ·cases e
theorem zm {j:Nat}{apos cpos:Pos}{o:Expr}{fo:qS}(hr:Room j X.A)(ho:SE X b G m1 o fo)(h:SE X b G m2 e f)(hK:X.K=b.C.K:=by rfl)(hbase:attributeBase o "index" X.env (eval o X.env)=eval o X.env:=by rfl)
  (hfew:((backTo cpos (starEach [e] X.env)).all (λx=>!x.1)&&(backToKw cpos (keywordEach [] X.env)).all (λx=>x.1.isSome)
   && decide ([e].length+([]:List Keyword).length+(if ([]:List Keyword).isEmpty then 0 else 1) < 30))=true:=by rfl)
  (hline:(apos.endLine == cpos.line)=true:=by rfl) (hs:starEach [e] X.env=(false,eval e X.env)::starEach [] X.env:=by rfl):
  SE X b G .val (.Call (.Attribute o "index" apos) [e] [] cpos) (b2 jq fo f):=by
 refine PE.imp (uL gd PySem.F.slot_list_index PySem.F.type_list_index (Iu hr.units) ho.bor (bZ h.bor di hs) hbase hfew hline hs rfl) ?_
 rintro σ H Q ⟨Ow,env,q,E,hf,k⟩
 rw[hK]
 obtain⟨x,hx,z1⟩:=aq hf
 clear hf
 obtain⟨y,hy,z2⟩:=aq z1
 clear z1
 obtain⟨xs,d,ds,jj,rfl,t1,t2,c1,c2,c3,w1,w2,w3,rfl⟩:=Az z2
 refine⟨Ow,env,_,E,hx,λv H1 s r=>?_⟩
 have r1:RepB b.C (Bs b Ow) H1 v (.lst xs):=r
 obtain⟨a,vs,rfl,ha,ra⟩:=r1.lst
 refine⟨.inl ⟨rfl,_,SqL.of ha⟩,Ow,env,y,E.up s,hy,λv2 H2 s2 r2=>?_⟩
 have r2':RepB b.C (Bs b Ow) H2 v2 y:=r2
 have r1':RepB b.C (Bs b Ow) H2 (.ref a) (.lst xs):=RepB.ex (.of_same s2) s2 r1
 have hlen:jj<=1000000:=by
  obtain⟨e,he,_⟩:=w1
  rcases dc jj ds.length with z | z
  ·omega
  ·rw[bo z] at he;cases he
 exact⟨v2,d,ds,jj,rfl,r1'.dt (by simp[toD,t2]),r2'.dt t1,c2,c1,c3,w1,w2,hlen,k _ H2 (s.trans s2) (.int _)⟩
end
end MR
namespace MR
theorem zp {α:Type}{n:Nat}{us:List α}(hl:us.length=n+1):∃a r,us=a::r/\r.length=n:=by
 cases us with
 | nil=>cases hl
 | cons a r=>exact⟨a,r,rfl,p0 hl⟩
@[elab_as_elim] theorem len0 {α:Type}{P:List α->Prop}(us:List α)(hl:us.length=0)(h:P []):P us:=by
 cases us with
 | nil=>exact h
 | cons a r=>cases hl
@[elab_as_elim] theorem Rc {α:Type}{P:List α->Prop}(us:List α)(hl:us.length=1)(h:∀a,P [a]):P us:=by
 obtain⟨a,r,rfl,hr⟩:=zp hl
 exact len0 (P:=λr=>P (a::r)) r hr (h a)
@[elab_as_elim] theorem Rf {α:Type}{P:List α->Prop}(us:List α)(hl:us.length=2)(h:∀a b,P [a,b]):P us:=by
 obtain⟨a,r,rfl,hr⟩:=zp hl
 exact Rc (P:=λr=>P (a::r)) r hr (h a)
@[elab_as_elim] theorem Rg {α:Type}{P:List α->Prop}(us:List α)(hl:us.length=3)(h:∀a b c,P [a,b,c]):P us:=by
 obtain⟨a,r,rfl,hr⟩:=zp hl
 exact Rf (P:=λr=>P (a::r)) r hr (h a)
@[elab_as_elim] theorem Rh {α:Type}{P:List α->Prop}(us:List α)(hl:us.length=4)(h:∀a b c d,P [a,b,c,d]):P us:=by
 obtain⟨a,r,rfl,hr⟩:=zp hl
 exact Rg (P:=λr=>P (a::r)) r hr (h a)
@[elab_as_elim] theorem U6 {α:Type}{P:List α->Prop}(us:List α)(hl:us.length=5)(h:∀a b c d e,P [a,b,c,d,e]):P us:=by
 obtain⟨a,r,rfl,hr⟩:=zp hl
 exact Rh (P:=λr=>P (a::r)) r hr (h a)
end MR
namespace MR
open PySem L2
@[simp] def jl:PV->Option (List PV)
 | .lst xs=>some xs
 | .frz xs=>some xs
 | .tup xs=>some xs
 | .ktp xs=>some xs
 | _=>none
def kd:PV->SK
 | .tup _=>.T
 | .ktp _=>.T
 | _=>.L
def iZ2 (f g:qS)(env:Env):Option (List PV):=(f env).bind λp=>(g env).bind λq=>(jl p).bind λxs=>(jl q).bind λys=>some (jy xs ys)
@[simp] theorem VM (f g:qS)(env:Env):iZ2 f g env=((f env).bind λp=>(g env).bind λq=>(jl p).bind λxs=>(jl q).bind λys=>some (jy xs ys)):=id rfl
section
variable {X:Cx}{b:BX}{G G' L:qf}{ro:Bool}{pos p:Pos}{m m1 m2:Md}{e e1 e2:Expr}
theorem mO {Ow:Addr->Prop}{σ:St}{env:Env}{H H2:Hp}{fr:Bool}{v:V}{p:PV}{xs:List PV}(E:ER b Ow G σ env H)(r:Res b Ow H H2 m v p)(hmd:fr=true->m≠.bor)(hs:jl p=some xs):
  ∃a vs,v=.ref a/\SK.sq (kd p) b.C.K H2 a vs/\Reps b.C (Bs b Ow) H2 vs xs/\∀Ow' H3,(fr=false->Same H2 H3)->Ex (Bs b Ow) H2 (Bs b Ow') H3->SK.sq (kd p) b.C.K H3 a vs/\Reps b.C (Bs b Ow') H3 vs xs:=by
 have b1:RepB b.C (Bs b Ow) H2 v p:=r.bor
 unfold jl at hs
 split at hs
 ·cases hs
  obtain⟨a,vs,rfl,ha,ra⟩:=b1.lst
  refine⟨a,vs,rfl,SqL.of ha,ra,λOw' H3 h0 hx=>?_⟩
  have hq:H3 a=some (.lst vs):=by
   cases fr with
   | false=>exact h0 rfl _ _ ha
   | true=>
    have rv:Rep b.C (Bs b Ow) H2 (.ref a) (.lst _):=r.val E (hmd rfl)
    cases rv with
    | lst q1 q2 q3=>rw[ha] at q1;cases q1;exact((hx _ _ ha).1 q2).1
  exact⟨SqL.of hq,ra.ex hx⟩
 ·cases hs
  have r1:Rep b.C (Bs b Ow) H2 v (.frz _):=(by rcases b1 with z | ⟨_,_,z⟩;exact z;exact z.elim)
  cases r1 with
  | lstF q1 q3=>exact⟨_,_,rfl,.inl (.inr ⟨_,q1⟩),q3,λOw' H3 h0 hx=>⟨.inl (.inr ⟨_,(hx _ _ q1).2 rfl⟩),q3.ex hx⟩⟩
  | lstK q1 q3=>exact⟨_,_,rfl,sqK q1,q3,λOw' H3 h0 hx=>⟨sqK q1,q3.ex hx⟩⟩
 ·cases hs
  obtain⟨a,vs,rfl,ha,ra⟩:=b1.tup
  exact⟨a,vs,rfl,ha.sq,ra,λOw' H3 h0 hx=>⟨(ha.ex hx).sq,ra.ex hx⟩⟩
 ·cases hs
  have r1:Rep b.C (Bs b Ow) H2 v (.ktp _):=(by rcases b1 with z | ⟨_,_,z⟩;exact z;exact z.elim)
  cases r1 with
  | tupK q1 q3=>exact⟨_,_,rfl,ue q1,q3,λOw' H3 h0 hx=>⟨ue q1,q3.ex hx⟩⟩
 ·cases hs
theorem PI.all {α:Type}{tg iter:Expr}{wi:α->TI}(h:∀a,PI X tg iter (wi a)):PI X tg iter (fun σ H R=>∃a,wi a σ H R):=λpins s σ H R I ⟨a,q⟩=>h a pins s σ H R I q
theorem Ma {fr:Bool}{h1 h2:qS}{es:qo}{x1:Nat}{tpos:Pos}(hm:X.mg "zip" = none)(he:SE X b G m1 e1 h1)(he2:SE X b G m2 e2 h2)(hmd:fr=true->m1≠.bor)(hmd2:fr=true->m2≠.bor)(hK:X.K=b.C.K:=by rfl)(hg:Gl X "zip" := by rfl)
  (hs:starEach [e1,e2] X.env=(false,eval e1 X.env)::starEach [e2] X.env:=by rfl) (hs2:starEach [e2] X.env=(false,eval e2 X.env)::starEach [] X.env:=by rfl) (hp:(backTo pos (starEach [e2] X.env)).any (·.1)=false:=by rfl):
  SI X b G fr (.Tuple es x1 tpos) (.Call (.Name "zip" p) [e1,e2] [] pos) (iZ2 h1 h2):=by
 refine PI.imp (PI.all λk:SK×SK=>Lj (k1:=k.1) (k2:=k.2) hg hm (bZ he (bZ he2 di hs2) hs) hs hp) ?_
 rintro σ H R ⟨Ow,env,ps,E,hf,k⟩
 rw[hK]
 obtain⟨p1,hp1,z1⟩:=aq hf
 clear hf
 obtain⟨p2,hp2,z2⟩:=aq z1
 clear z1
 obtain⟨xs,hxs,z3⟩:=aq z2
 clear z2
 obtain⟨ys,hys,z4⟩:=aq z3
 clear z3
 cases z4
 refine⟨(kd p1,kd p2),Ow,env,p1,E,hp1,λv H1 s r=>⟨Ow,env,p2,E.up s,hp2,λv2 H2 s2 r2=>?_⟩⟩
 obtain⟨a,vs,rfl,qa,ra,ka⟩:=mO (fr:=fr) E (Res.up r s2) hmd hxs
 obtain⟨c,us,rfl,qc,rc,kc⟩:=mO (fr:=fr) (E.up s) r2 hmd2 hys
 refine⟨a,c,rfl,⟨vs,qa⟩,⟨us,qc⟩,k _ _ (s.trans s2) λOw' H3 h0 hx hn=>?_⟩
 obtain⟨qa',ra'⟩:=ka Ow' H3 h0 hx
 obtain⟨qc',rc'⟩:=kc Ow' H3 h0 hx
 have l1:=ra'.length
 have l2:=rc'.length
 refine⟨λi p hp'=>?_,⟨vs,us,qa',qc',?_⟩⟩
 ·unfold jy at hp'
  rw[lf] at hp'
  cases qx:xs[i]? with
  | none=>rw[qx] at hp';simp at hp'
  | some x=>
   cases qy:ys[i]? with
   | none=>rw[qx,qy] at hp';simp at hp'
   | some y=>
    rw[qx,qy] at hp'
    cases hp'
    obtain⟨v,hv,rv⟩:=ra'.get qx
    obtain⟨u,hu,ru⟩:=rc'.get qy
    refine⟨⟨vs,v,us,u,qa',hv,qc',hu⟩,λz H' yl=>?_⟩
    obtain⟨t,x',y',ht,e1,e2,y1,y2⟩:=yl
    subst e1 e2
    have e3:=y1 vs qa'
    have e4:=y2 us qc'
    rw[hv] at e3
    rw[hu] at e4
    cases e3
    cases e4
    exact⟨bJ ht _,.tup bc (.cons (rv.ex (.of_same (bJ ht _))) (.cons (ru.ex (.of_same (bJ ht _))) .nil))⟩
 ·unfold jy
  rw[pr]
  omega
end
end MR
namespace L2
open PySem PySem.Spec PyProof PyProof.Rows
section
variable {X:Cx}
theorem Je (hc:X.calm=true:=by rfl):CallR X (.builtin "sum") (λxs H Q=>∃(p:Addr) (ns:qv),xs=[.ref p]/\SqL X.K H p (ns.map V.int)/\Q (.int ns.sum) H):=by
 intro pins s σ H xs us Q I r h
 obtain⟨l,ns,rfl,hq,q⟩:=h
 obtain⟨u,rfl,rx⟩:=vals1 r
 cases rx
 obtain⟨its,r',pl,hz⟩:=I.list hq
 have hi:=intsAre_of r'
 obtain⟨ys,hy⟩:=hi.allInts.items
 have hl:s.heap.IsList l (intItems ys):=hy▸pl.isList
 refine sum_intListG (I.ok.hd hc) hl λh' tk t' hk=>⟨.int ns.sum,H,I.kept hk,⟨t',?_⟩,q⟩
 have e1:ns=ys.toList.map (·.1):=by
  rw[← nums_intItems,← hy]
  exact(show numsOf its.toArray.toList=ns from hi.numsOf).symm
 rw[preSum_eq,fe (by simp),← e1]
end
end L2
namespace MR
open PySem L2
section
variable {X:Cx}{b:BX}{G G' L:qf}{pos p p2 pos2:Pos}{m m1 m2:Md}{e:Expr}{f:qS}
@[simp] noncomputable def intsP:List PV->Option (List Int)
 | []=>some []
 | .int c::r=>(intsP r).map (c::·)
 | _::_=>none
theorem Reps.intsP {C:MC}{A:Addr->Prop}{H:Hp}:∀{vs:List V}{ps:List PV}{bs:qv},Reps C A H vs ps->intsP ps=some bs->vs=bs.map V.int
 | _,_,_,.nil,e=>by cases e;rfl
 | _,_,_,.cons (p:=p) (ps:=ps) h t,e=>by
  cases p <;> simp only[MR.intsP] at e <;> first | cases e | skip
  rename_i c
  cases q:MR.intsP ps with
  | none=>rw[q] at e;cases e
  | some bs=>rw[q] at e;cases e;cases h;rw[Reps.intsP t q];rfl
@[simp] noncomputable def oU:PV->Option PV
 | .lst xs=>(intsP xs).map λns=>.int ns.sum
 | _=>none
theorem u6 (hm:X.mg "sum" = none)(h:SE X b G m1 e f)(hcm:X.calm=true:=by rfl)(hK:X.K=b.C.K:=by rfl)(hg:Gl X "sum" := by rfl)(he:starEach [e] X.env=(false,eval e X.env)::starEach [] X.env:=by rfl):SE X b G .val (.Call (.Name "sum" p) [e] [] pos) (b1 oU f):=by
 refine yX (Je hcm) (λOw H v1 p1 p Q hn r1 e k=>?_) hm PyProof.Rows.boot_sum h hg (by decide) (by decide) he
 rw[hK]
 cases p1 <;> simp only[oU] at e <;> first | cases e | skip
 rename_i xs
 obtain⟨a,vs,rfl,ha,ra⟩:=r1.lst
 cases q:MR.intsP xs with
 | none=>rw[q] at e;cases e
 | some ns=>
  rw[q] at e
  cases e
  have hv:=ra.intsP q
  subst hv
  exact⟨a,ns,rfl,SqL.of ha,k _ H (Same.refl _) (.int _)⟩
end
section
variable {X:Cx}{b:BX}{G G' L:qf}{ro:Bool}{pos p p2 pos2:Pos}{m m1 m2:Md}{e:Expr}{h:qS}
noncomputable def DG (f:qS)(env:Env):Option (List PV):=(f env).bind λp=>(jl p).bind λxs=>some xs.reverse
@[simp] theorem Vo (f:qS)(env:Env):DG f env=((f env).bind λp=>(jl p).bind λxs=>some xs.reverse):=id rfl
def U7 (K:W.Frag)(k:SK)(a:Addr)(n:Nat):It:=match k with
 | .L=>Itv K a n
 | .T=>IV K a n
def U8 (K:W.Frag)(k:SK)(ta:TA):TI:=fun σ H R=>ta σ H λvs H1=>∃a xs,vs=[.ref a]/\k.sq K H1 a xs/\R (U7 K k a xs.length) H1
theorem Ri {tg l:Expr}{ta:TA}{p pos:Pos}(k:SK)(hg:Gl X "reversed")(hm:X.mg "reversed" = none)(ha:PA X [l] ta)(hb:bootBuiltins "reversed" = some (.type "reversed"))(hs:starEach [l] X.env=(false,eval l X.env)::starEach [] X.env:=by rfl)(hp:(backTo pos (starEach [] X.env)).any (·.1)=false:=by rfl):
  PI X tg (.Call (.Name "reversed" p) [l] [] pos) (U8 X.K k ta):=by
 cases k with
 | L=>exact Qn hg hm ha hb hs hp
 | T=>exact QC hg hm ha hb hs hp
theorem Bw {fr:Bool}{tg:Expr}(hm:X.mg "reversed" = none)(he:SE X b G m1 e h)(hmd:fr=true->m1≠.bor)(hb:bootBuiltins "reversed" = some (.type "reversed"):=by decide +kernel)(hK:X.K=b.C.K:=by rfl)(hg:Gl X "reversed" := by rfl)(hs:starEach [e] X.env=(false,eval e X.env)::starEach [] X.env:=by rfl)(hp:(backTo pos (starEach [] X.env)).any (·.1)=false:=by rfl):
  SI X b G fr tg (.Call (.Name "reversed" p) [e] [] pos) (DG h):=by
 refine PI.imp (PI.all λk:SK=>Ri k hg hm (bZ he di hs) hb hs hp) ?_
 rintro σ H R ⟨Ow,env,ps,E,hf,k⟩
 rw[hK]
 obtain⟨x,hx,z1⟩:=aq hf
 clear hf
 obtain⟨xs,hxs,z2⟩:=aq z1
 clear z1
 cases z2
 refine⟨kd x,Ow,env,x,E,hx,λv H1 s r=>?_⟩
 obtain⟨a,vs,rfl,qa,ra,ka⟩:=mO (fr:=fr) E r hmd hxs
 refine⟨a,vs,rfl,qa,k _ _ s λOw' H2 h0 h1 hn=>?_⟩
 obtain⟨q2,r2⟩:=ka Ow' H2 h0 h1
 have hlen:=r2.length
 have go:∀i p,xs.reverse[i]?=some p->∃u,i < vs.length/\vs[vs.length - 1 - i]?=some u/\Rep b.C (Bs b Ow') H2 u p:=λi p hp'=>by
  rcases dc i xs.length with z | z
  ·rw[oP z] at hp'
   obtain⟨u,hu,ru⟩:=r2.get hp'
   rw[← hlen] at hu
   exact⟨u,by omega,hu,ru⟩
  ·rw[bo (by simpa using z)] at hp'
   cases hp'
 cases hk:kd x with
 | L=>
  rw[hk] at q2
  refine⟨λi p hp'=>?_,?_⟩
  ·obtain⟨u,hi,hu,ru⟩:=go i p hp'
   refine⟨⟨vs,u,q2,rfl,hi,hu⟩,λy H' yl=>?_⟩
   obtain⟨e1,e2⟩:=yl
   subst e1
   have e3:=e2 vs q2
   rw[hu] at e3
   cases e3
   exact⟨Same.refl _,ru⟩
  ·show vs.length=xs.reverse.length
   rw[iL]
   exact hlen
 | T=>
  rw[hk] at q2
  refine⟨λi p hp'=>?_,?_⟩
  ·obtain⟨u,hi,hu,ru⟩:=go i p hp'
   refine⟨⟨vs,u,q2,rfl,hi,hu⟩,λy H' yl=>?_⟩
   obtain⟨e1,e2⟩:=yl
   subst e1
   have e3:=e2 vs q2
   rw[hu] at e3
   cases e3
   exact⟨Same.refl _,ru⟩
  ·show vs.length=xs.reverse.length
   rw[iL]
   exact hlen
end
@[simp] def Rj:PV->Option (List PV)
 | .str x=>some (chV x)
 | p=>jl p
noncomputable def iZ3 (f g:qS)(env:Env):Option (List PV):=(f env).bind λp=>(g env).bind λq=>(Rj p).bind λxs=>(jl q).bind λys=>some (jy xs ys)
@[simp] theorem VN (f g:qS)(env:Env):iZ3 f g env=((f env).bind λp=>(g env).bind λq=>(Rj p).bind λxs=>(jl q).bind λys=>some (jy xs ys)):=id rfl
section
variable {X:Cx}{b:BX}{G G' L:qf}{ro:Bool}{pos p:Pos}{m m1 m2:Md}{e e1 e2:Expr}
theorem mC {fr:Bool}{h1 h2:qS}{es:qo}{x1:Nat}{tpos:Pos}(hm:X.mg "zip" = none)(he:SE X b G m1 e1 h1)(he2:SE X b G m2 e2 h2)(hmd:fr=true->m1≠.bor)(hmd2:fr=true->m2≠.bor)(hK:X.K=b.C.K:=by rfl)(hg:Gl X "zip" := by rfl)
  (hs:starEach [e1,e2] X.env=(false,eval e1 X.env)::starEach [e2] X.env:=by rfl) (hs2:starEach [e2] X.env=(false,eval e2 X.env)::starEach [] X.env:=by rfl) (hp:(backTo pos (starEach [e2] X.env)).any (·.1)=false:=by rfl):
  SI X b G fr (.Tuple es x1 tpos) (.Call (.Name "zip" p) [e1,e2] [] pos) (iZ3 h1 h2):=by
 have A:=Ma (fr:=fr) (es:=es) (x1:=x1) (tpos:=tpos) (p:=p) (pos:=pos) hm he he2 hmd hmd2 hK hg hs hs2 hp
 have B:=PI.all λk:SK=>Lx (X:=X) (k2:=k) (es:=es) (x1:=x1) (tpos:=tpos) (p:=p) (pos:=pos) hg hm (bZ he (bZ he2 di hs2) hs) hs hp
 intro pins s0 σ H R I q
 obtain⟨Ow,env,ps,E,hf,k⟩:=q
 obtain⟨p1,hp1,z1⟩:=aq hf
 obtain⟨p2,hp2,z2⟩:=aq z1
 obtain⟨xs,hxs,z3⟩:=aq z2
 obtain⟨ys,hys,z4⟩:=aq z3
 by_cases hst:∃x,p1=.str x
 ·obtain⟨x,rfl⟩:=hst
  cases z4
  cases hxs
  refine B pins s0 σ H R I ?_
  rw[hK]
  refine⟨kd p2,Ow,env,.str x,E,hp1,λv H1 s r=>⟨Ow,env,p2,E.up s,hp2,λv2 H2 s2 r2=>?_⟩⟩
  have r1:RepB b.C (Bs b Ow) H1 v (.str x):=r.bor
  have ev:=r1.str
  subst ev
  obtain⟨c,us,rfl,qc,rc,kc⟩:=mO (fr:=fr) (E.up s) r2 hmd2 hys
  refine⟨x,c,rfl,⟨us,qc⟩,k _ _ (s.trans s2) λOw' H3 h0 hx hn=>?_⟩
  obtain⟨qc',rc'⟩:=kc Ow' H3 h0 hx
  have l2:=rc'.length
  have l1:(chV x).length=x.cps.toList.length:=by unfold chV;rw[af]
  refine⟨λi p hp'=>?_,⟨us,qc',?_⟩⟩
  ·unfold jy at hp'
   rw[lf] at hp'
   cases qx:x.cps.toList[i]? with
   | none=>
    have:(chV x)[i]?=none:=by unfold chV;rw[aE,qx];rfl
    rw[this] at hp';simp at hp'
   | some c0=>
    have qx':(chV x)[i]?=some (.str ⟨#[c0]⟩):=by unfold chV;rw[aE,qx];rfl
    cases qy:ys[i]? with
    | none=>rw[qx',qy] at hp';simp at hp'
    | some y=>
     rw[qx',qy] at hp'
     cases hp'
     obtain⟨u,hu,ru⟩:=rc'.get qy
     refine⟨⟨c0,us,u,qx,qc',hu⟩,λz H' yl=>?_⟩
     obtain⟨t,c',y',ht,e1,e2,y1,y2⟩:=yl
     subst e1 e2
     have e4:=y2 us qc'
     rw[qx] at y1
     rw[hu] at e4
     cases y1
     cases e4
     exact⟨bJ ht _,.tup bc (.cons (.str _) (.cons (ru.ex (.of_same (bJ ht _))) .nil))⟩
  ·unfold jy
   rw[pr,l1]
   omega
 ·refine A pins s0 σ H R I ⟨Ow,env,ps,E,?_,k⟩
  have hxs':jl p1=some xs:=by
   cases p1 <;> first | exact hxs | exact absurd ⟨_,rfl⟩ hst
  show ((h1 env).bind λp=>(h2 env).bind λq=>(jl p).bind λxs=>(jl q).bind λys=>some (jy xs ys))=some ps
  rw[hp1]
  simp only[bS]
  rw[hp2]
  simp only[bS]
  rw[hxs',bS,hys]
  exact z4
end
section
variable {X:Cx}{b:BX}{G:qf}{pos:Pos}{m1 m2 m3:Md}{e1 e2 e3:Expr}{f1 f2 f3:qS}
theorem qi {op op':CmpOp}{g g':Int->Int->Bool}(ho:OpR X (compareOp op) (rI0 λi j=>.bl (g i j)))(ho':OpR X (compareOp op') (rI0 λi j=>.bl (g' i j)))(h1:SE X b G m1 e1 f1)(h2:SE X b G m2 e2 f2)(h3:SE X b G m3 e3 f3)
  (hm:lastMarks [op,op'] [e2,e3]=false:=by with_unfolding_all rfl):ST X b G (.Compare e1 [op,op'] [e2,e3] pos) (tV (lG g g' f1 f2 f3)):=
 PT.imp (HS ho ho' h1.bor h2.bor h3.bor hm)<|by
  rintro σ H Q ⟨Ow,env,c,E,hf,k⟩
  obtain⟨p,hf,hc0⟩:=aq hf
  obtain⟨i,j,q1,q2,hc⟩:=Ay hf
  refine⟨Ow,env,_,E,q1,λv1 H1 s1 r1=>⟨Ow,env,_,E.up s1,q2,λv2 H2 s2 r2=>?_⟩⟩
  have r1':RepB b.C (Bs b Ow) H2 v1 (.int i):=Res.up (m:=.bor) r1 s2
  have r2':RepB b.C (Bs b Ow) H2 v2 (.int j):=r2
  rw[r1'.int,r2'.int]
  refine⟨i,j,rfl,rfl,g i j,rfl,?_⟩
  rcases hc with ⟨hc,rfl⟩ | ⟨hc,l,q3,rfl⟩
  ·rw[hc]
   simp only[fI,gu]
   cases hc0
   exact⟨_,rfl,k H2 (s1.trans s2)⟩
  ·rw[hc]
   simp only[gx]
   refine⟨Ow,env,_,E.up (s1.trans s2),q3,λv3 H3 s3 r3=>?_⟩
   have r3':RepB b.C (Bs b Ow) H3 v3 (.int l):=r3
   rw[r3'.int]
   cases hc0
   exact⟨_,_,rfl,rfl,_,rfl,k H3 (s1.trans (s2.trans s3))⟩
end
section
variable {X:Cx}{b:BX}{G G' L:qf}{pos p p2 pos2:Pos}{m m1 m2:Md}{e1 e2:Expr}{f1 f2:qS}
@[simp] noncomputable def jO:PV->PV->Option PV
 | .int i,.int j=>some (.bl (decide (i < j)))
 | .lst xs,.lst ys=>(intsP xs).bind λns=>(intsP ys).bind λms=>some (.bl (HT.lexLt ns ms))
 | _,_=>none
theorem Rk:Op2 b .val (λx y H Q=>rI0 (λi j=>.bl (decide (i < j))) x y H Q\/Ja b.C.K x y H Q) jO:=by
 intro Ow H v1 v2 p1 p2 p Q hn r1 r2 e k
 unfold jO at e
 split at e
 ·cases e
  rw[r1.int,r2.int]
  exact .inl ⟨_,_,rfl,rfl,k _ H (Same.refl _) (.bl _)⟩
 ·rename_i xs ys
  obtain⟨a,vs,rfl,ha,ra⟩:=r1.lst
  obtain⟨c,ws,rfl,hc,rc⟩:=r2.lst
  obtain⟨ns,q1,e⟩:=aq e
  obtain⟨ms,q2,e⟩:=aq e
  cases e
  have h1:=ra.intsP q1
  have h2:=rc.intsP q2
  subst h1 h2
  exact .inr ⟨a,c,ns,ms,rfl,rfl,SqL.of ha,SqL.of hc,k _ H (Same.refl _) (.bl _)⟩
 ·cases e
theorem pL {j:Nat}(hr:Room j X.A)(h1:SE X b G m1 e1 f1)(h2:SE X b G m2 e2 f2)(hK:X.K=b.C.K:=by rfl):SC X b G .Lt e1 e2 (b2 jO f1 f2):=
 kZ (r:=λx y H Q=>rI0 (λi j=>.bl (decide (i < j))) x y H Q\/Ja b.C.K x y H Q) (by rw[← hK];exact OpR.or uK (QH hr.units0)) Rk h1 h2 (lF _)
end
noncomputable def iE2 (f:qS)(env:Env):Option (List PV):=(f env).bind λp=>(jl p).bind λxs=>some (fC 0 xs)
@[simp] theorem VR (f:qS)(env:Env):iE2 f env=((f env).bind λp=>(jl p).bind λxs=>some (fC 0 xs)):=id rfl
section
variable {X:Cx}{b:BX}{G G' L:qf}{ro:Bool}{pos p:Pos}{m m1 m2:Md}{e e1 e2:Expr}
theorem jz {fr:Bool}{h:qS}{es:qo}{x1:Nat}{tpos:Pos}(hm:X.mg "enumerate" = none)(he:SE X b G m e h)(hmd:fr=true->m≠.bor)(hK:X.K=b.C.K:=by rfl)(hg:Gl X "enumerate" := by rfl)(hs:starEach [e] X.env=[(false,eval e X.env)]:=by rfl)(hs':starEach [e] X.env=(false,eval e X.env)::starEach [] X.env:=by rfl):
  SI X b G fr (.Tuple es x1 tpos) (.Call (.Name "enumerate" p) [e] [] pos) (iE2 h):=by
 refine PI.imp (PI.all λk:SK=>Jb (k:=k) hg hm (bZ he di hs') hs) ?_
 rintro σ H R ⟨Ow,env,ps,E,hf,k⟩
 rw[hK]
 obtain⟨p1,hp1,z1⟩:=aq hf
 clear hf
 obtain⟨xs,hxs,z4⟩:=aq z1
 clear z1
 cases z4
 refine⟨kd p1,Ow,env,p1,E,hp1,λv H1 s r=>?_⟩
 obtain⟨a,vs,rfl,qa,ra,ka⟩:=mO (fr:=fr) E r hmd hxs
 refine⟨a,rfl,⟨vs,qa⟩,k _ _ s λOw' H3 h0 hx hn=>?_⟩
 obtain⟨qa',ra'⟩:=ka Ow' H3 h0 hx
 refine⟨λi p hp'=>?_,⟨vs,qa',by rw[rG,ra'.length]⟩⟩
 obtain⟨x,hx',rfl⟩:=wW hp'
 obtain⟨v,hv,rv⟩:=ra'.get hx'
 refine⟨⟨vs,v,qa',hv⟩,λy H' yl=>?_⟩
 obtain⟨t,x',ht,e1,e2,yl⟩:=yl
 subst e1 e2
 have e3:=yl vs qa'
 rw[hv] at e3
 cases e3
 refine⟨bJ ht _,.tup bc (.cons ?_ (.cons (rv.ex (.of_same (bJ ht _))) .nil))⟩
 rw[iq]
 exact .int _
end
end MR
namespace HT
open PySem PyProof.Rows
def Rm (A:Around)(s:Shared)(x y:Value)(r:Bool):Prop:=∀(prog:Program) (w:World) (E Q:fN),Q (.bool r) s->wpAny (model prog w) A (richCompare .Lt x y) Q E s
section
open PySem.SeqAt
open PySem.AutoSeq1 (wpAny_loadPart')
open PySem.MeetsSeq PySem.MeetsSeq2 PySem.MeetsSeq3
theorem zq (l b:Addr)(x1 x2 y1 y2:Value)(n n2:Nat)(dd dd2:Option Addr)(sl sl2:Array (Option Value))(e1 e2 r1 r2:Bool):
  Meets (Builtin.«tuple.__lt__» ⟨[.ref l,.ref b],[]⟩)
   (λA R s=>s.heap.get? l=some { cls:=.type "tuple",dict:=dd,data:=.seq #[x1,x2] n,slots:=sl }/\s.heap.get? b=some { cls:=.type "tuple",dict:=dd2,data:=.seq #[y1,y2] n2,slots:=sl2 } /\
    EqAt A.in1 s x1 y1 e1/\(e1=true->EqAt A.in1 s x2 y2 e2)/\(e1=false->Rm A.in1 s x1 y1 r1)/\(e1=true->e2=false->Rm A.in1 s x2 y2 r2) /\
    R (.ok (.ret (.bool (if e1=true then (if e2=true then false else r2) else r1)))) s):=
 .of_wp λprog w A R s h=>by
  obtain⟨hp,g,d,tk,os⟩:=s;obtain⟨hl,hb,q1,q2,q3,q4,h⟩:=h
  have f2:=AutoSeq1.sub_tuple_tuple
  wp_walk using cn hl,cn hb,wpAny_forIn_list _ (λrest b s'=>b.1=none/\s'=⟨hp,g,d,tk,os⟩/\(rest=[(x1,y1),(x2,y2)]\/(rest=[(x2,y2)]/\e1=true)\/(rest=[]/\e1=true/\e2=true))) _
  case turn=>
   rintro ⟨y,x⟩ rest b s' ⟨hb',rfl,hz⟩
   rcases hz with hz | ⟨hz,he1⟩ | ⟨hz,_⟩
   ·injection hz with hyx hrest
    injection hyx with hy hx
    subst hy hx
    refine ac (q1 prog w _ _ ?_)
    cases e1 with
    | true=>
     wp_walk
     exact⟨rfl,rfl,.inr (.inl ⟨hrest,rfl⟩)⟩
    | false=>
     have hri:=q3 rfl prog w
     wp_walk using hri
     exact⟨_,rfl,by simpa using h⟩
   ·injection hz with hyx hrest
    injection hyx with hy hx
    subst hy hx he1
    refine ac (q2 rfl prog w _ _ ?_)
    cases e2 with
    | true=>
     wp_walk
     exact⟨rfl,rfl,.inr (.inr ⟨hrest,rfl,rfl⟩)⟩
    | false=>
     have hri:=q4 rfl rfl prog w
     wp_walk using hri
     exact⟨_,rfl,by simpa using h⟩
   ·cases hz
  case fin=>
   rintro ⟨b1,b2⟩ s' ⟨hb',rfl,hz⟩
   simp only at hb'
   subst hb'
   rcases hz with hz | ⟨hz,he1⟩ | ⟨_,he1,he2⟩
   ·cases hz
   ·cases hz
   ·subst he1 he2
    wp_walk
    exact⟨_,rfl,by simpa [Builtin.Tuple.tupleCompareSizes] using h⟩
  case h=>
   exact⟨rfl,rfl,.inl rfl⟩
end
theorem A_ {vs:qh}{ns ms:qv}(h1:IntsAre vs ns)(h2:IntsAre vs ms):ns=ms:=by
 induction h1 generalizing ms with
 | nil=>cases h2;rfl
 | cons n t _ ih=>cases h2 with | cons _ _ h=>rw[ih h]
theorem zr {vs:qh}{ns:qv}(h:IntsAre vs ns):∀{j:Nat}{v:Value},vs[j]?=some v->∃a t,v=.int a t/\ns[j]?=some a:=by
 induction h with
 | nil=>intro j v e;simp at e
 | cons n t _ ih=>
  intro j v e
  cases j with
  | zero=>simp at e;exact⟨n,t,e.symm,by simp⟩
  | succ j=>obtain⟨a,u,h1,h2⟩:=ih (j:=j) (v:=v) (by simpa using e);exact⟨a,u,h1,by simpa using h2⟩
theorem tY {its:qB}{ns:qv}(h:IntsAre its.toList ns){j:Nat}(hj:j < its.size):∃a t,its[j]=.int a t/\ns[j]?=some a:=
 zr h (by simp[hj])
section
variable {A:Around}{s:Shared}
theorem qO {p q:Addr}{its jts:qB}{ns ms:qv}(hl:s.heap.IsList p its)(hb:s.heap.IsList q jts)(hi:IntsAre its.toList ns)(hj:IntsAre jts.toList ms)(hu:A.units < cLine):SeqAt.EqAt A s (.ref p) (.ref q) (decide (ns=ms)):=by
 by_cases hpq:p=q
 ·subst hpq
  have e:its=jts:=by
   obtain⟨o,ho,hc,n,hd⟩:=hl
   obtain⟨o2,ho2,hc2,n2,hd2⟩:=hb
   rw[ho] at ho2
   cases ho2
   rw[hd] at hd2
   cases hd2
   rfl
  subst e
  have e2:ns=ms:=A_ hi hj
  rw[ca e2]
  exact SeqAt.EqAt.same _
 ·refine SeqAt.EqAt.of_refs hpq ?_
  have z1:its.size=ns.length:=by rw[← hi.length];simp
  have z2:jts.size=ms.length:=by rw[← hj.length];simp
  by_cases hs:its.size=jts.size
  ·have key:∀(e:Nat->Bool),(∀j (h1:j < its.size) (h2:j < jts.size),SeqAt.EqAt A.in1 s its[j] jts[j] (e j))->((List.range its.size).all e=decide (ns=ms))->SeqAt.RcAt A s (.ref p) (.ref q) (decide (ns=ms)):=λe he hh=>hh▸SeqAt.RcAt.lists hl hb hs hu he
   refine key (λj=>decide (ns[j]?=ms[j]?)) (λj h1 h2=>?_) ?_
   ·obtain⟨a,t,ha,na⟩:=tY hi h1
    obtain⟨c,u,hc,mc⟩:=tY hj h2
    rw[ha,hc,na,mc]
    have:=nc (A:=A.in1) (s:=s) a t c u
    have e:(a == c)=decide (some a=some c):=by by_cases z:a=c <;> simp[z]
    rw[← e]
    exact this
   ·have:((List.range its.size).all λj=>decide (ns[j]?=ms[j]?))=true↔ns=ms:=by
     rw[cy]
     constructor
     ·intro hh
      apply jS
      intro i
      by_cases hi':i < its.size
      ·simpa using hh i (b6.mpr hi')
      ·rw[bo (by omega),bo (by omega)]
     ·rintro rfl x _
      simp
    cases q:((List.range its.size).all λj=>decide (ns[j]?=ms[j]?)) with
    | true=>exact(ca (this.mp q)).symm
    | false=>exact(bq λz=>by rw[this.mpr z] at q;cases q).symm
  ·rw[bq (λz=>hs (by rw[z1,z2,z]))]
   exact SeqAt.RcAt.lists_lengths hl hb (by simpa using hs) hu
end
def ltTwo (n1 n2 m1 m2:qv):Bool:=if n1=m1 then lexLt n2 m2 else lexLt n1 m1
theorem u9:∀ns:List Int,lexLt ns ns=false
 | []=>rfl
 | x::xs=>by rw[lexLt_cons,bp rfl];exact u9 xs
theorem lt_twoLists {prog:Program}{w:World}{A:Around}{E:fN}{s:Shared}{l b a1 a2 b1 b2:Addr}{i1 i2 j1 j2:qB}{n1 n2 m1 m2:qv}{Q:fN}
  (hl:IsTup s.heap l #[.ref a1,.ref a2]) (hb:IsTup s.heap b #[.ref b1,.ref b2]) (h1:s.heap.IsList a1 i1) (h2:s.heap.IsList a2 i2) (h3:s.heap.IsList b1 j1) (h4:s.heap.IsList b2 j2)
  (r1:IntsAre i1.toList n1) (r2:IntsAre i2.toList n2) (r3:IntsAre j1.toList m1) (r4:IntsAre j2.toList m2) (hu:A.units+1 < cLine) (h:Q (.bool (ltTwo n1 n2 m1 m2)) s):wpAny (model prog w) A (compareOp .Lt (.ref l) (.ref b)) Q E s:=by
 obtain⟨⟨cls,dd,data,sl⟩,ho,hc,n,hd⟩:=id hl
 obtain⟨⟨cls2,dd2,data2,sl2⟩,ho2,hc2,n2',hd2⟩:=id hb
 simp only at hc hd hc2 hd2
 subst hc hd hc2 hd2
 have e:(if decide (n1=m1)=true then (if decide (n2=m2)=true then false else lexLt n2 m2) else lexLt n1 m1)=ltTwo n1 n2 m1 m2:=by
  unfold ltTwo
  by_cases q:n1=m1
  ·rw[bp (ca q),bp q]
   by_cases q2:n2=m2
   ·rw[bp (ca q2),q2,u9]
   ·rw[a9 (by simpa using q2)]
  ·rw[a9 (by simpa using q),a9 q]
 refine richCompare_meets_room (op:=.Lt) ⟨_,ho,rfl⟩ ⟨_,ho2,rfl⟩ PySem.F.slot_tuple_lt PySem.F.entry_tuple_lt (PySem.F.args_tuple_lt_2 _ _) (zq l b (.ref a1) (.ref a2) (.ref b1) (.ref b2) n n2' dd dd2 sl sl2 (decide (n1=m1)) (decide (n2=m2)) (lexLt n1 m1) (lexLt n2 m2))
  ⟨ho,ho2,qO h1 h3 r1 r3 ?_,λ_=>qO h2 h4 r2 r4 ?_,λ_ prog w E Q q=>?_,λ_ _ prog w E Q q=>?_,?_⟩ (Nat.lt_of_succ_lt hu)
 ·exact hu
 ·exact hu
 ·exact lt_listInts (A:=A.in1) h1 h3 r1 r3 hu q
 ·exact lt_listInts (A:=A.in1) h2 h4 r2 r4 hu q
 ·rw[e]
  exact(show Value.bool (ltTwo n1 n2 m1 m2)≠Value.notImplemented/\Q (.bool (ltTwo n1 n2 m1 m2)) s from ⟨(λx=>nomatch x),h⟩)
end HT
namespace L2
open PySem PyProof.Rows
section
variable {X:Cx}
def DK (K:W.Frag):R2:=λx y H Q=>∃a b a1 a2 b1 b2 n1 n2 m1 m2,x=.ref a/\y=.ref b/\SqT K H a [.ref a1,.ref a2]/\SqT K H b [.ref b1,.ref b2]/\SqL K H a1 (n1.map V.int)/\SqL K H a2 (n2.map V.int)/\SqL K H b1 (m1.map V.int)/\SqL K H b2 (m2.map V.int)/\Q (.bl (HT.ltTwo n1 n2 m1 m2)) H
theorem Gy {a b:Addr}{its:qh}(r:Vals [.ref a,.ref b] its):its=[.ref a,.ref b]:=by
 cases r with
 | cons r1 r=>
  cases r with
  | cons r2 r=>
   cases r
   cases r1
   cases r2
   rfl
theorem Mf (hu:X.A.units+1 < cLine):OpR X (compareOp .Lt) (DK X.K):=by
 intro pins s σ H x y v u Q I rx ry h
 obtain⟨a,b,a1,a2,b1,b2,n1,n2,m1,m2,rfl,rfl,ha,hb,g1,g2,g3,g4,q⟩:=h
 cases rx
 cases ry
 obtain⟨its,r1,p1,_⟩:=I.tuple ha
 obtain⟨jts,r2,p2,_⟩:=I.tuple hb
 cases Gy r1
 cases Gy r2
 obtain⟨i1,k1,o1,_⟩:=I.list g1
 obtain⟨i2,k2,o2,_⟩:=I.list g2
 obtain⟨i3,k3,o3,_⟩:=I.list g3
 obtain⟨i4,k4,o4,_⟩:=I.list g4
 exact HT.lt_twoLists p1 p2 o1.isList o2.isList o3.isList o4.isList (intsAre_of k1) (intsAre_of k2) (intsAre_of k3) (intsAre_of k4) hu ⟨.bl _,H,I,rfl,q⟩
end
end L2
namespace MR
open PySem L2
inductive Inn (C:MC) (A:Addr->Prop) (H:Hp):List Addr->List (List PV)->Prop
 | nil:Inn C A H [] []
 | cons {c:Addr}{cs:qA}{us:List V}{ys:List PV}{yss:List (List PV)}:H c=some (.lst us)->Reps C A H us ys->Inn C A H cs yss->Inn C A H (c::cs) (ys::yss)
theorem Inn.ex {C:MC}{A A':Addr->Prop}{H H':Hp}(e:Ex A H A' H'):∀{cs:qA}{yss:List (List PV)},(∀c∈cs,H' c=H c)->Inn C A H cs yss->Inn C A' H' cs yss
 | _,_,_,.nil=>.nil
 | _,_,h,.cons q r t=>.cons ((h _ ai).trans q) (r.ex e) (Inn.ex e (λc hc=>h c (ag _ hc)) t)
theorem Inn.live {C:MC}{A:Addr->Prop}{H:Hp}:∀{cs:qA}{yss:List (List PV)},Inn C A H cs yss->∀c∈cs,∃us,H c=some (.lst us)
 | _,_,.nil,c,hc=>by cases hc
 | _,_,.cons q r t,c,hc=>by
  rcases aw.mp hc with z | z
  ·subst z;exact⟨_,q⟩
  ·exact Inn.live t c z
theorem Inn.length {C:MC}{A:Addr->Prop}{H:Hp}:∀{cs:qA}{yss:List (List PV)},Inn C A H cs yss->cs.length=yss.length
 | _,_,.nil=>rfl
 | _,_,.cons q r t=>by rw[bb,bb,Inn.length t]
theorem Inn.reps {C:MC}{A A':Addr->Prop}{H:Hp}(e:Ex A H A' H):∀{cs:qA}{yss:List (List PV)},(∀c∈cs,A' c)->Inn C A H cs yss->Reps C A' H (cs.map V.ref) (yss.map PV.lst)
 | _,_,_,.nil=>.nil
 | _,_,h,.cons q r t=>.cons (.lst q (h _ ai) (r.ex e)) (Inn.reps e (λc hc=>h c (ag _ hc)) t)
theorem Inn.get {C:MC}{A:Addr->Prop}{H:Hp}:∀{cs:qA}{yss:List (List PV)}{j:Nat}{ys:List PV},Inn C A H cs yss->yss[j]?=some ys->∃c us,cs[j]?=some c/\H c=some (.lst us)/\Reps C A H us ys
 | _,_,_,_,.nil,e=>by simp at e
 | _,_,0,_,.cons q r t,e=>by simp at e;subst e;exact⟨_,_,rfl,q,r⟩
 | _,_,j+1,_,.cons q r t,e=>by
  obtain⟨c,us,h1,h2,h3⟩:=Inn.get t (j:=j) (by simpa using e)
  exact⟨c,us,by simpa using h1,h2,h3⟩
theorem Inn.set {C:MC}{A:Addr->Prop}{H H':Hp}{us:List V}{ys:List PV}(e:Ex A H A H')(r':Reps C A H' us ys):∀{cs:qA}{yss:List (List PV)}{j:Nat}{c:Addr},cs.Nodup->cs[j]?=some c->H' c=some (.lst us)->(∀x∈cs,x≠c->H' x=H x)->Inn C A H cs yss->Inn C A H' cs (yss.set j ys)
 | _,_,_,_,_,h,_,_,.nil=>by simp at h
 | _,_,0,_,nd,h,hc,k,.cons q r t=>by
  simp at h
  subst h
  rw[cm] at nd
  exact .cons hc r' (Inn.ex e (λx hx=>k x (ag _ hx) λz=>nd.1 (z▸hx)) t)
 | _,_,j+1,_,nd,h,hc,k,.cons q r t=>by
  rw[cm] at nd
  have h':=h
  rw[kH] at h'
  have hm:=ax h'
  exact .cons ((k _ ai λz=>nd.1 (z▸hm)).trans q) (r.ex e) (Inn.set e r' (j:=j) nd.2 h' hc (λx hx=>k x (ag _ hx)) t)
theorem Inn.snoc {C:MC}{A:Addr->Prop}{H:Hp}{c:Addr}{us:List V}{ys:List PV}(q:H c=some (.lst us))(r:Reps C A H us ys):∀{cs:qA}{yss:List (List PV)},Inn C A H cs yss->Inn C A H (cs++[c]) (yss++[ys])
 | _,_,.nil=>.cons q r .nil
 | _,_,.cons q' r' t=>.cons q' r' (Inn.snoc q r t)
noncomputable def bn (b:BX)(i:Nat)(a:Addr)(cs:qA)(H:Hp):BX:=⟨b.C,λx=>b.A x/\x∉a::cs,λx=>if x∈a::cs then H x else b.H0 x,λj=>if j=i then some (.ref a) else b.fx j⟩
def KN (b:BX)(Ow:Addr->Prop)(a:Addr)(cs:qA)(x:Addr):Prop:=Bs b Ow x/\x∉a::cs
theorem TV {b:BX}{i:Nat}{a:Addr}{cs:qA}{H H':Hp}(h:∀x∈a::cs,H' x=H x):bn b i a cs H'=bn b i a cs H:=by
 unfold bn
 congr 1
 funext x
 by_cases hx:x∈a::cs
 ·rw[bp hx,bp hx,h x hx]
 ·rw[a9 hx,a9 hx]
theorem ju {b:BX}{i:Nat}{a:Addr}{cs:qA}{H:Hp}{Ow:Addr->Prop}(lv:∀x∈a::cs,∃o,H x=some o){x:Addr}:Bs (bn b i a cs H) Ow x↔KN b Ow a cs x:=by
 constructor
 ·rintro ⟨n,(⟨h,z⟩ | h)⟩
  ·exact⟨⟨n,.inl h⟩,z⟩
  ·have h':(if x∈a::cs then H x else b.H0 x)=none:=h
   by_cases hx:x∈a::cs
   ·rw[bp hx] at h'
    obtain⟨o,e⟩:=lv x hx
    rw[h'] at e;cases e
   ·rw[a9 hx] at h'
    exact⟨⟨n,.inr h'⟩,hx⟩
 ·rintro ⟨⟨n,(h | h)⟩,z⟩
  ·exact⟨n,.inl ⟨h,z⟩⟩
  ·exact⟨n,.inr (by show (if x∈a::cs then H x else b.H0 x)=none;rw[a9 z];exact h)⟩
structure EN (b:BX)(Ow:Addr->Prop)(G:qf)(i:Nat)(σ:St)(env:Env)(H:Hp)(a:Addr)(cs:qA)(yss:List (List PV)):Prop where
 val:env[i]?=some (some (.lst (yss.map PV.lst)))
 top:H a=some (.lst (cs.map V.ref))
 nd:(a::cs).Nodup
 new:∀x∈a::cs,b.H0 x=none
 inn:Inn b.C (KN b Ow a cs) H cs yss
 er:ER (bn b i a cs H) Ow G σ (env.set i none) H
section
variable {b:BX}{Ow:Addr->Prop}{G:qf}{i:Nat}{σ:St}{env:Env}{H H':Hp}{a:Addr}{cs:qA}{yss:List (List PV)}
theorem EN.live (E:EN b Ow G i σ env H a cs yss):∀x∈a::cs,∃o,H x=some o:=λx hx=>by
 rcases aw.mp hx with z | z
 ·subst z;exact⟨_,E.top⟩
 ·obtain⟨us,h⟩:=E.inn.live x z;exact⟨_,h⟩
theorem EN.slot (E:EN b Ow G i σ env H a cs yss):σ[i]?=some (some (.ref a)):=E.er.fix i (.ref a) (by show (if i=i then _ else _)=_;rw[bp rfl])
theorem EN.not_ow (E:EN b Ow G i σ env H a cs yss):∀x∈a::cs,¬ Ow x:=λx hx w=>by
 have h:=E.er.new x w
 have h':(if x∈a::cs then H x else b.H0 x)=none:=h
 rw[bp hx] at h'
 obtain⟨o,e⟩:=E.live x hx
 rw[h'] at e;cases e
theorem EN.of {Ow':Addr->Prop}{σ':St}{e:Env}(E:EN b Ow G i σ env H a cs yss)(E':ER (bn b i a cs H) Ow' G σ' e H')(x:Ex (Bs (bn b i a cs H) Ow) H (Bs (bn b i a cs H) Ow') H'):
  EN b Ow' G i σ' (e.set i (some (.lst (yss.map PV.lst)))) H' a cs yss/\Ex (KN b Ow a cs) H (KN b Ow' a cs) H':=by
 have st:∀y∈a::cs,H' y=H y:=λy hy=>by
  obtain⟨o,h⟩:=E.live y hy
  rw[h]
  exact E'.same y o (by show (if y∈a::cs then H y else b.H0 y)=some o;rw[bp hy];exact h)
 have lv':∀y∈a::cs,∃o,H' y=some o:=λy hy=>by rw[st y hy];exact E.live y hy
 have x':Ex (KN b Ow a cs) H (KN b Ow' a cs) H':=λc o hc=>⟨λq=>by
  obtain⟨h1,h2⟩:=(x c o hc).1 ((ju E.live).mpr q)
  exact⟨h1,(ju E.live).mp h2⟩,(x c o hc).2⟩
 have hl:i < e.length:=by
  have h:=E'.fix i (.ref a) (by show (if i=i then _ else _)=_;rw[bp rfl])
  rw[← E'.len]
  rcases dc i σ'.length with z | z
  ·exact z
  ·rw[bo z] at h;cases h
 refine⟨⟨by rw[cr hl],by rw[st a ai];exact E.top,E.nd,E.new,E.inn.ex x' λc hc=>st c (ag _ hc),?_⟩,x'⟩
 rw[TV st,oz]
 exact E'.forget i
theorem EN.up (E:EN b Ow G i σ env H a cs yss)(s:Same H H'):EN b Ow G i σ env H' a cs yss:=by
 have h:=(E.of (E.er.up s) (.of_same s)).1
 rw[oz] at h
 have hl:i < env.length:=by
  rcases dc i env.length with z | z
  ·exact z
  ·have:=E.val;rw[bo z] at this;cases this
 have e:env.set i (some (.lst (yss.map PV.lst)))=env:=by
  refine jS λj=>?_
  by_cases hj:i=j
  ·subst hj;rw[cr hl,E.val]
  ·rw[a7 hj]
 rw[e] at h
 exact h
theorem EN.out (E:EN b Ow G i σ env H a cs yss)(hi:i∉G)(hx:b.fx i=none):ER b Ow G σ env H:=by
 have no:=E.not_ow
 have w:Ex (KN b Ow a cs) H (Bs b Ow) H:=dq λc o _ q=>q.1
 have w':Ex (Bs (bn b i a cs H) Ow) H (Bs b Ow) H:=dq λc o _ q=>((ju E.live).mp q).1
 have back:∀{j:Nat}{q:PV},i≠j->env[j]?=some (some q)->(env.set i none)[j]?=some (some q):=λ{j q} hj e=>by rw[a7 hj];exact e
 refine⟨by rw[E.er.len,dL],λc o h=>E.er.same c o ?_,E.er.live,λc z=>?_,λj q e n=>?_,λj q e n=>?_,λj k c q q' e1 n1 s1 e2 n2 s2=>?_,λk v hv=>E.er.fix k v ?_⟩
 ·have hc:c∉a::cs:=λz=>by rw[E.new c z] at h;cases h
  show (if c∈a::cs then H c else b.H0 c)=some o
  rw[a9 hc];exact h
 ·have h:=E.er.new c z
  have h':(if c∈a::cs then H c else b.H0 c)=none:=h
  rw[a9 λy=>no c y z] at h'
  exact h'
 ·by_cases hj:i=j
  ·subst hj
   rw[E.val] at e
   cases e
   have ha:Bs b Ow a:=⟨no a ai,.inr (E.new a ai)⟩
   exact⟨_,E.slot,.lst E.top ha (E.inn.reps w λc hc=>⟨no c (ag _ hc),.inr (E.new c (ag _ hc))⟩)⟩
  ·obtain⟨v,h1,h2⟩:=E.er.val j q (back hj e) n
   exact⟨v,h1,h2.ex w'⟩
 ·have hj:i≠j:=λz=>hi (z▸n)
  obtain⟨c,h1,h2,h3⟩:=E.er.own j q (back hj e) n
  exact⟨c,h1,h2,h3.ex w' λo z=>z⟩
 ·have hj:i≠j:=λz=>hi (z▸n1)
  have hk:i≠k:=λz=>hi (z▸n2)
  exact E.er.sep j k c q q' (back hj e1) n1 s1 (back hk e2) n2 s2
 ·show (if k=i then some (V.ref a) else b.fx k)=some v
  rw[a9 λz=>by rw[z,hx] at hv;cases hv]
  exact hv
end
def tNe (b:BX)(G:qf)(i:Nat)(f:Env->Option Out):TS:=λD σ H=>∃Ow env a cs yss env',EN b Ow G i σ env H a cs yss/\f env=some (.nx env') /\
 ∀Ow' σ' H' cs' yss',EN b Ow' G i σ' env' H' a cs' yss'->(∀x∈cs,x∈cs')->Ex (KN b Ow a cs) H (KN b Ow' a cs') H'->D.nx σ' H'
abbrev NS (X:Cx)(b:BX)(G:qf)(i:Nat)(st:Stmt)(f:Env->Option Out):Prop:=PS X st (tNe b G i f)
abbrev NSs (X:Cx)(b:BX)(G:qf)(i:Nat)(st:qk)(f:Env->Option Out):Prop:=PSs X st (tNe b G i f)
noncomputable def hid (i:Nat)(f:Env->Option Out)(env:Env):Option Out:=(f (env.set i none)).bind λo=>match o with
 | .nx e=>some (.nx (e.set i (env.getD i none)))
 | _=>none
@[simp] theorem VV (i:Nat)(f:Env->Option Out)(env:Env):hid i f env=((f (env.set i none)).bind λo=>match o with
 | .nx e=>some (.nx (e.set i (env.getD i none)))
 | _=>none):=id rfl
noncomputable def nIf (i:Nat)(c:Env->Option Bool)(f g:Env->Option Out)(env:Env):Option Out:=(c (env.set i none)).bind λk=>if k=true then f env else g env
@[simp] theorem zu (i:Nat)(c:Env->Option Bool)(f g:Env->Option Out)(env:Env):nIf i c f g env=((c (env.set i none)).bind λk=>if k=true then f env else g env):=id rfl
def gH (i:Nat)(g:PV->Env->Option Env)(p:PV)(env:Env):Option Env:=(g p (env.set i none)).map λe=>e.set i (env.getD i none)
@[simp] theorem Wh (i:Nat)(g:PV->Env->Option Env)(p:PV)(env:Env):gH i g p env=((g p (env.set i none)).map λe=>e.set i (env.getD i none)):=id rfl
noncomputable def onx (f:Env->Option Out)(env:Env):Option Out:=(f env).bind λo=>match o with
 | .nx e=>some (.nx e)
 | _=>none
@[simp] theorem Rn (f:Env->Option Out)(env:Env):onx f env=((f env).bind λo=>match o with
 | .nx e=>some (.nx e)
 | _=>none):=id rfl
noncomputable def DN (i:Nat)(g:PV->Env->Option Env)(src:Env->Option (List PV))(ds:qf)(f:Env->Option Out)(env:Env):Option Out:=(src (env.set i none)).bind λxs=>bY (gH i g) ds (onx f) xs (clr ds env)
@[simp] theorem Mg (i:Nat)(g:PV->Env->Option Env)(src:Env->Option (List PV))(ds:qf)(f:Env->Option Out)(env:Env):DN i g src ds f env=((src (env.set i none)).bind λxs=>bY (gH i g) ds (onx f) xs (clr ds env)):=id rfl
@[simp] noncomputable def apV:PV->PV->PV->Option PV
 | .lst ws,.int k,p=>(ixN ws.length k).bind λj=>(ws[j]?).bind λw=>match w with
  | .lst ys=>if ys.length < 1000000 then some (.lst (ws.set j (.lst (ys++[p])))) else none
  | _=>none
 | _,_,_=>none
noncomputable def uo (i:Nat)(f h:qS)(env:Env):Option Out:=(bV i env).bind λx=>(f (env.set i none)).bind λk=>(h (env.set i none)).bind λp=>(apV x k p).bind λy=>some (.nx (env.set i (some y)))
@[simp] theorem Vp (i:Nat)(f h:qS)(env:Env):uo i f h env=((bV i env).bind λx=>(f (env.set i none)).bind λk=>(h (env.set i none)).bind λp=>(apV x k p).bind λy=>some (.nx (env.set i (some y)))):=id rfl
@[simp] noncomputable def newV:PV->Option PV
 | .lst ws=>if ws.length < 1000000 then some (.lst (ws++[.lst []])) else none
 | _=>none
noncomputable def uq (i:Nat)(env:Env):Option Out:=(bV i env).bind λx=>(newV x).bind λy=>some (.nx (env.set i (some y)))
@[simp] theorem Vq (i:Nat)(env:Env):uq i env=((bV i env).bind λx=>(newV x).bind λy=>some (.nx (env.set i (some y)))):=id rfl
section
variable {X:Cx}{b:BX}{G G' L:qf}{ro:Bool}{i:Nat}{st:Stmt}{rest:qk}{f g:Env->Option Out}{e e1 e2:Expr}{h h1 h2:qS}{m m1 m2:Md}{pos:Pos}
theorem zx {env:Env}{i:Nat}{p:PV}(h:env[i]?=some (some p)):env.getD i none=some p:=by rw[bi,h];rfl
theorem J_:NSs X b G i [] sNx:=PSs.imp Bk<|by rintro D σ H ⟨Ow,env,a,cs,yss,env',E,hf,k⟩;cases hf;exact k Ow σ H cs yss E (λ_ z=>z) (Ex.refl _ _)
theorem jr (x:NS X b G i st f)(c:NSs X b G i rest g):NSs X b G i (st::rest) (aB f g):=PSs.imp (pW x c)<|by
 rintro D σ H ⟨Ow,env,a,cs,yss,env',E,hf,k⟩
 unfold aB at hf
 cases q:f env with
 | none=>rw[q] at hf;cases hf
 | some o1=>
  rw[q] at hf
  cases o1 with
  | nx e'=>exact⟨Ow,env,a,cs,yss,e',E,q,λOw1 σ1 H1 cs1 yss1 E1 s1 x1=>⟨Ow1,e',a,cs1,yss1,env',E1,hf,λOw2 σ2 H2 cs2 yss2 E2 s2 x2=>k Ow2 σ2 H2 cs2 yss2 E2 (λz hz=>s2 z (s1 z hz)) (x1.trans x2)⟩⟩
  | bk e'=>cases hf
  | ct e'=>cases hf
  | rt p=>cases hf
theorem DP (x:NS X b G i st f):NSs X b G i [st] f:=vI x
theorem jP (x:∀a cs H,SS X (bn b i a cs H) G G [] false st f):NS X b G i st (hid i f):=by
 rintro pins s σ H D I ⟨Ow,env,a,cs,yss,env',E,hf,k⟩
 obtain⟨o,ho,z⟩:=aq hf
 refine x a cs H pins s σ H D I ⟨Ow,env.set i none,o,E.er,ho,?_⟩
 cases o with
 | nx e'=>
  rw[zx E.val] at z
  cases z
  intro Ow' σ' H' E' x'
  obtain⟨E2,x2⟩:=E.of E' x'
  exact k Ow' σ' H' cs yss E2 (λ_ z=>z) x2
 | bk e'=>cases z
 | ct e'=>cases z
 | rt p=>cases z
theorem Ro {c:Expr}{k:Env->Option Bool}{sa sb:qk}(hc:∀a cs H,ST X (bn b i a cs H) G c k)(ha:NSs X b G i sa f)(hb:NSs X b G i sb g):NS X b G i (.If c sa sb pos) (nIf i k f g):=by
 rintro pins s σ H D I ⟨Ow,env,a,cs,yss,env',E,hf,kk⟩
 obtain⟨p,hp,z1⟩:=aq hf
 refine JX (hc a cs H) ha hb pins s σ H D I ⟨Ow,env.set i none,p,E.er,hp,λH' s'=>?_⟩
 have go:∀{f:Env->Option Out},f env=some (.nx env')->tNe b G i f D σ H':=λ{f} hz=>⟨Ow,env,a,cs,yss,env',E.up s',hz,λOw2 σ2 H2 cs2 yss2 E2 s2 x2=>kk Ow2 σ2 H2 cs2 yss2 E2 s2 ((Ex.of_same s').trans x2)⟩
 cases p with
 | true=>exact Dg (go z1)
 | false=>exact Df (go z1)
end
section
variable {X:Cx}{b:BX}{G G' L:qf}{ro:Bool}{i:Nat}{st:Stmt}{rest:qk}{f g:Env->Option Out}{e e1 e2:Expr}{h h1 h2:qS}{m m1 m2:Md}{pos:Pos}
def tGN (b:BX)(G:qf)(i:Nat)(g:PV->Env->Option Env):TG:=λv σ H Q=>∃a cs H0,tMG (bn b i a cs H0) G g v σ H Q
theorem Bx:∀{ds:qf}{env:Env}{i:Nat},i∉ds->(clr ds env)[i]?=env[i]?
 | [],_,_,_=>rfl
 | d::ds,env,i,h=>by
  rw[aw,nK] at h
  show (clr ds (env.set d none))[i]?=_
  rw[Bx h.2,a7 (fF h.1)]
theorem By:∀{ds:qf}{env:Env}{i:Nat}{v:Option PV},i∉ds->(clr ds env).set i v=clr ds (env.set i v)
 | [],_,_,_,_=>rfl
 | d::ds,env,i,v,h=>by
  rw[aw,nK] at h
  show (clr ds (env.set d none)).set i v=clr ds ((env.set i v).set d none)
  rw[By h.2,List.set_comm _ _ (fF h.1)]
theorem EN.clr {Ow:Addr->Prop}{σ:St}{env:Env}{H:Hp}{a:Addr}{cs:qA}{yss:List (List PV)}{ds:qf}(E:EN b Ow G i σ env H a cs yss)(hd:i∉ds):EN b Ow G i σ (clr ds env) H a cs yss:=
 ⟨by rw[Bx hd];exact E.val,E.top,E.nd,E.new,E.inn,by rw[By hd];exact E.er.clr⟩
theorem TX {tg it:Expr}{body:qk}{g:PV->Env->Option Env}{src:Env->Option (List PV)}{f:Env->Option Out}(ds:qf)(hi:∀a cs H,SI X (bn b i a cs H) G true tg it src)(hg:∀a cs H,SG X (bn b i a cs H) G tg g)(hb:NSs X b G i body f)
  (hp:PassesOwn (model X.prog X.w) X.A X.env X.xe) (hd:i∉ds:=by decide) (hc:X.calm=true:=by rfl) (hs:∀x,foldedSetIterable it X.env x=pure x:=by intro _;rfl):NS X b G i (.For tg it body [] pos) (DN i g src ds f):=by
 rintro pins s σ H D I ⟨Ow,env,a,cs,yss,env',E,hf,k⟩
 obtain⟨ps,hps,hl⟩:=aq hf
 have hgN:PG X tg (tGN b G i g):=λpins s σ H v w Q I r ⟨a,cs,H0,q⟩=>hg a cs H0 pins s σ H v w Q I r q
 refine Fb hp hc (hi a cs H) hgN hb hs pins s σ H D I ⟨Ow,env.set i none,ps,E.er,hps,λJ H1 s1 iw=>?_⟩
 refine⟨λn m σ2 H2=>m=ps.length - n/\n<=ps.length/\∃Ow2 env2 cs2 yss2,EN b Ow2 G i σ2 env2 H2 a cs2 yss2/\(∀x∈cs,x∈cs2)/\Ex (KN b Ow a cs) H1 (KN b Ow2 a cs2) H2/\bY (gH i g) ds (onx f) (ps.drop n) env2=some (.nx env'),⟨ps.length,by simp,cK _,Ow,clr ds env,cs,yss,(E.up s1).clr hd,λ_ z=>z,Ex.refl _ _,by simpa using hl⟩,?_⟩
 rintro n m σ2 H2 ⟨rfl,hn,Ow2,env2,cs2,yss2,E2,sub2,x2,l2⟩
 have sub':∀x,x∉a::cs2->x∉a::cs:=λx hx z=>hx (by
  rcases aw.mp z with q | q
  ·rw[q];exact ai
  ·exact ag _ (sub2 x q))
 have into:∀x,KN b Ow2 a cs2 x->Bs (bn b i a cs H) (λy=>Ow2 y\/y∈a::cs2) x:=λx q=>by
  have z:=(ju (i:=i) E.live (Ow:=Ow2)).mpr ⟨q.1,sub' x q.2⟩
  exact⟨λy=>y.elim q.1.1 q.2,z.2⟩
 have outof:∀x,Bs (bn b i a cs H) (λy=>Ow2 y\/y∈a::cs2) x->KN b Ow2 a cs2 x:=λx q=>by
  have z:=(ju (i:=i) E.live (Ow:=λy=>Ow2 y\/y∈a::cs2)).mp q
  exact⟨⟨λy=>z.1.1 (.inl y),z.1.2⟩,λy=>z.1.1 (.inr y)⟩
 obtain⟨w1,w2⟩:=iw (λy=>Ow2 y\/y∈a::cs2) H2 (λz=>by cases z) (λc o hc=>⟨λq=>by
  obtain⟨h1,h2⟩:=(x2 c o hc).1 ((ju E.live).mp q)
  exact⟨h1,into c h2⟩,(x2 c o hc).2⟩) λc hc=>into c ((ju E2.live).mp (E2.er.fresh hc))
 have xk:Ex (KN b Ow a cs) H (KN b Ow2 a cs2) H2:=(Ex.of_same s1).trans x2
 by_cases hlt:n < ps.length
 ·rw[ed hlt] at l2
  obtain⟨e1,he1,l2⟩:=aq l2
  obtain⟨o,ho,l2⟩:=aq l2
  obtain⟨e0,he0,rfl⟩:=eg.mp he1
  obtain⟨o',ho',hz⟩:=aq ho
  obtain⟨g1,g2⟩:=w1 n ps[n] (ar hlt)
  refine .inr ⟨g1,fun σ' H'=>n+1<=ps.length/\∃Ow2 env2 cs2 yss2,EN b Ow2 G i σ' env2 H' a cs2 yss2/\(∀x∈cs,x∈cs2)/\Ex (KN b Ow a cs) H1 (KN b Ow2 a cs2) H'/\bY (gH i g) ds (onx f) (ps.drop (n+1)) env2=some (.nx env'),fun σ' H' q=>⟨ps.length - (n+1),by omega,rfl,q⟩,λx H' y=>?_⟩
  obtain⟨s3,r3⟩:=g2 x H' y
  have E3:=E2.up s3
  have r3':Rep b.C (Bs (bn b i a cs2 H') Ow2) H' x ps[n]:=r3.ex (dq λc o _ q=>(ju E3.live).mpr (outof c q))
  refine⟨a,cs2,H',Ow2,env2.set i none,ps[n],e0,E3.er,r3',he0,fun σ3 E4=>?_⟩
  obtain⟨E5,x5⟩:=E3.of E4 (Ex.refl _ _)
  rw[zx E2.val] at ho'
  cases o' with
  | nx e'=>
   cases hz
   exact⟨Ow2,_,a,cs2,yss2,e',E5,ho',λOw6 σ6 H6 cs6 yss6 E6 s6 x6=>⟨hlt,Ow6,_,cs6,yss6,E6.clr hd,λz hz=>s6 z (sub2 z hz),x2.trans ((Ex.of_same s3).trans (x5.trans x6)),l2⟩⟩
  | bk e'=>cases hz
  | ct e'=>cases hz
  | rt p=>cases hz
 ·have e:n=ps.length:=by omega
  subst e
  rw[ku] at l2
  cases l2
  exact .inl ⟨w2,k Ow2 σ2 H2 cs2 yss2 E2 sub2 xk⟩
end
section
variable {X:Cx}{b:BX}{G G' L:qf}{ro:Bool}{i:Nat}{st:Stmt}{rest:qk}{f g:Env->Option Out}{e e1 e2:Expr}{h h1 h2:qS}{m m1 m2:Md}{pos:Pos}
theorem EN.rebase {Ow:Addr->Prop}{σ:St}{env:Env}{H H':Hp}{a:Addr}{cs cs':qA}{yss yss':List (List PV)}(E:EN b Ow G i σ env H a cs yss)(sub:∀x∈cs,x∈cs')(hx:∀x o,H x=some o->x∉a::cs'->H' x=some o)(hnew:∀x∈a::cs',x∉a::cs->H x=none)
  (nd':(a::cs').Nodup) (nw':∀x∈a::cs',b.H0 x=none) (top':H' a=some (.lst (cs'.map V.ref))) (inn':Inn b.C (KN b Ow a cs') H' cs' yss'):
  EN b Ow G i σ (env.set i (some (.lst (yss'.map PV.lst)))) H' a cs' yss'/\Ex (KN b Ow a cs) H (KN b Ow a cs') H':=by
 have lv':∀x∈a::cs',∃o,H' x=some o:=λx hx'=>by
  rcases aw.mp hx' with z | z
  ·subst z;exact⟨_,top'⟩
  ·obtain⟨us,q⟩:=inn'.live x z;exact⟨_,q⟩
 have sub':∀x∈a::cs,x∈a::cs':=λx hx'=>by
  rcases aw.mp hx' with z | z
  ·rw[z];exact ai
  ·exact ag _ (sub x z)
 have no:=E.not_ow
 have no':∀x∈a::cs',¬ Ow x:=λx hx' w=>by
  by_cases z:x∈a::cs
  ·exact no x z w
  ·obtain⟨o,q⟩:=E.er.live x w
   rw[hnew x hx' z] at q;cases q
 have mutN:∀x∈a::cs,∃us,H x=some (.lst us):=λx hx'=>by
  rcases aw.mp hx' with z | z
  ·subst z;exact⟨_,E.top⟩
  ·exact E.inn.live x z
 have out:∀x o,H x=some o->x∉a::cs->x∉a::cs':=λx o q z y=>by rw[hnew x y z] at q;cases q
 have xk:Ex (KN b Ow a cs) H (KN b Ow a cs') H':=λc o hc=>⟨λq=>⟨hx c o hc (out c o hc q.2),q.1,out c o hc q.2⟩,λmm=>hx c o hc (out c o hc λz=>by
  obtain⟨us,q⟩:=mutN c z
  rw[hc] at q;cases q;cases mm)⟩
 have xb:Ex (Bs (bn b i a cs H) Ow) H (Bs (bn b i a cs' H') Ow) H':=λc o hc=>⟨λq=>by
  obtain⟨z1,z2⟩:=(xk c o hc).1 ((ju E.live).mp q)
  exact⟨z1,(ju lv').mpr z2⟩,(xk c o hc).2⟩
 have hl:i < env.length:=by
  rcases dc i env.length with z | z
  ·exact z
  ·have:=E.val;rw[bo z] at this;cases this
 refine⟨⟨by rw[cr hl],top',nd',nw',inn',?_⟩,xk⟩
 rw[oz]
 refine⟨E.er.len,λc o hc=>?_,λc w=>?_,λc w=>?_,λj q eq n=>?_,λj q eq n=>?_,E.er.sep,E.er.fix⟩
 ·have hc':(if c∈a::cs' then H' c else b.H0 c)=some o:=hc
  by_cases z:c∈a::cs'
  ·rw[bp z] at hc';exact hc'
  ·rw[a9 z] at hc'
   refine hx c o (E.er.same c o ?_) z
   show (if c∈a::cs then H c else b.H0 c)=some o
   rw[a9 λy=>z (sub' c y)];exact hc'
 ·obtain⟨o,q⟩:=E.er.live c w
  exact⟨o,hx c o q λz=>no' c z w⟩
 ·show (if c∈a::cs' then H' c else b.H0 c)=none
  rw[a9 λz=>no' c z w]
  have q:=E.er.new c w
  have q':(if c∈a::cs then H c else b.H0 c)=none:=q
  rw[a9 λz=>no c z w] at q'
  exact q'
 ·obtain⟨v,z1,z2⟩:=E.er.val j q eq n
  exact⟨v,z1,z2.ex xb⟩
 ·obtain⟨c,z1,z2,z3⟩:=E.er.own j q eq n
  exact⟨c,z1,z2,z3.ex xb λo y=>hx c o y λz=>no' c z z2⟩
theorem Ka (i:Nat){x:Str}{p1 spos apos cpos:Pos}(he1:∀a cs H,SE X (bn b i a cs H) G m1 e1 h1)(he2:∀a cs H,SE X (bn b i a cs H) G .val e2 h2)(hN:X.N[i]?=some x:=by rfl)(hv:Vis X.env.scope x:=by first | exact g6 rfl | exact fm (g6 rfl) | exact fm (fm rfl))(hd:(x == ("__debug__" : Str))=false:=by decide)
  (hcd:(x == ("__classdict__" : Str))=false:=by decide) (hpi:vO e1:=by intro _ _;rfl) (hbase:attributeBase (.Subscript (.Name x p1) e1 spos) "append" X.env (eval (.Subscript (.Name x p1) e1 spos) X.env)=eval (.Subscript (.Name x p1) e1 spos) X.env:=by rfl)
  (hfew:((backTo cpos (starEach [e2] X.env)).all (λx=>!x.1)&&(backToKw cpos (keywordEach [] X.env)).all (λx=>x.1.isSome)
   && decide ([e2].length+([]:List Keyword).length+(if ([]:List Keyword).isEmpty then 0 else 1) < 30))=true:=by rfl)
  (hline:(apos.endLine == cpos.line)=true:=by rfl) (hs:starEach [e2] X.env=(false,eval e2 X.env)::starEach [] X.env:=by rfl) (hK:X.K=b.C.K:=by rfl):
  NS X b G i (.Expr (.Call (.Attribute (.Subscript (.Name x p1) e1 spos) "append" apos) [e2] [] cpos) pos) (uo i h1 h2):=by
 rintro pins s σ H D I ⟨Ow,env,a,cs,yss,env',E,hf,kk⟩
 obtain⟨px,hpx,z1⟩:=aq hf
 clear hf
 obtain⟨pk,hpk,z2⟩:=aq z1
 clear z1
 obtain⟨p,hp,z3⟩:=aq z2
 clear z2
 obtain⟨y,hy,z4⟩:=aq z3
 clear z3
 cases z4
 have hpx':=gA hpx
 rw[E.val] at hpx'
 cases hpx'
 cases pk <;> simp only[apV] at hy <;> first | cases hy | skip
 rename_i k
 obtain⟨j,hj,z5⟩:=aq hy
 clear hy
 obtain⟨w,hw,z6⟩:=aq z5
 clear z5
 rw[aE] at hw
 obtain⟨ys,hys,rfl⟩:=eg.mp hw
 simp only at z6
 split at z6
 ·rename_i hlt
  cases z6
  obtain⟨c,us,hc,hHc,hr⟩:=E.inn.get hys
  have hcm:c∈cs:=ax hc
  have hat:atI (cs.map V.ref) k=some (.ref c):=by
   unfold atI
   rw[af] at hj ⊢
   rw[E.inn.length,hj]
   simp[hc]
  refine pC (uL gd kz kA nQ (J5 (r:=Ig X.K) ix_list (jL hN hv hd hcd) ((he1 a cs H).bor) hpi) (bZ (he2 a cs H) di hs) hbase hfew hline hs rfl) rfl pins s σ H D I ?_
  refine⟨_,E.slot,Ow,env.set i none,.int k,E.er,hpk,λv H1 s1 r1=>?_⟩
  refine⟨a,_,k,_,rfl,RepB.int r1,SqL.of (s1 _ _ E.top),hat,.inl ⟨rfl,_,SqL.of (s1 _ _ hHc)⟩,Ow,env.set i none,p,E.er.up s1,hp,λv2 H2 s2 r2=>?_⟩
  have hHc2:=s2 _ _ (s1 _ _ hHc)
  refine⟨c,us,v2,rfl,rfl,hHc2,jF (by rw[hr.length];omega),?_⟩
  have E2:=E.up (s1.trans s2)
  have hac:a≠c:=λz=>(cm.mp E.nd).1 (z▸hcm)
  have ndc:=(cm.mp E.nd).2
  have xc:Ex (KN b Ow a cs) H2 (KN b Ow a cs) (upd H2 c (.lst (us++[v2]))):=λd o hd=>⟨λq=>⟨by rw[aP (λz:d=c=>q.2 (z▸ag _ hcm))];exact hd,q⟩,λmm=>by
   have hdc:d≠c:=λz=>by subst z;rw[hHc2] at hd;cases hd;cases mm
   rw[aP hdc];exact hd⟩
  have rr:Reps b.C (KN b Ow a cs) H2 (us++[v2]) (ys++[p]):=by
   have r2':Rep b.C (Bs (bn b i a cs H) Ow) H2 v2 p:=r2
   exact((hr.ex (.of_same (s1.trans s2)))).append (.cons (r2'.ex (dq λc o _ q=>(ju E.live).mp q)) .nil)
  have inn':=Inn.set xc (rr.ex xc) ndc hc bc (λz hz hne=>aP hne) E2.inn
  obtain⟨E3,x3⟩:=E2.rebase (cs':=cs) (H':=upd H2 c (.lst (us++[v2]))) (λ_ z=>z) (λz o hz hn=>by rw[aP (λq:z=c=>hn (q▸ag _ hcm))];exact hz) (λz h1 h2=>absurd h1 h2) E.nd E.new (by rw[aP hac];exact E2.top) inn'
  rw[List.map_set] at E3
  exact kk Ow σ _ cs _ E3 (λ_ z=>z) ((Ex.of_same (s1.trans s2)).trans x3)
 ·cases z6
end
def tEm:Nat->TA
 | 0=>HW
 | n+1=>J1 (Pr HW) (tEm n)
theorem BJ:∀(n:Nat){σ:St}{H:Hp}{Q:List V->Hp->Prop},(∀(cs:qA) (H2:Hp),cs.length=n->cs.Nodup->(∀c∈cs,H c=none/\H2 c=some (.lst []))->(∀x,x∉cs->H2 x=H x)->Q (cs.map V.ref) H2)->tEm n σ H Q
 | 0,σ,H,Q,h=>h [] H rfl .nil (λc hc=>by cases hc) λ_ _=>rfl
 | n+1,σ,H,Q,h=>by
  refine⟨cK _,λp hp=>?_⟩
  refine BJ n λcs H2 hl nd hc ho=>?_
  have np:p∉cs:=λz=>by
   have:=(hc p z).1
   rw[bc] at this;cases this
  refine h (p::cs) H2 (by rw[bb,hl]) (cm.mpr ⟨np,nd⟩) (λc hcm=>?_) λx hx=>?_
  ·rcases aw.mp hcm with z | z
   ·subst z;exact⟨hp,by rw[ho c np,bc]⟩
   ·have hne:c≠p:=λq=>np (q▸z)
    refine⟨?_,(hc c z).2⟩
    have:=(hc c z).1
    rw[aP hne] at this
    exact this
  ·rw[aw,nK] at hx
   rw[ho x hx.2,aP hx.1]
noncomputable def yf (i n:Nat)(env:Env):Option Out:=if i < env.length/\n<=1000 then some (.nx (env.set i (some (.lst (List.replicate n (.lst [])))))) else none
@[simp] theorem Jf (i n:Nat)(env:Env):yf i n env=if i < env.length/\n<=1000 then some (.nx (env.set i (some (.lst (List.replicate n (.lst [])))))) else none:=id rfl
section
variable {X:Cx}{b:BX}{G G' L:qf}{ro:Bool}{i n:Nat}{st:Stmt}{es:qo}{rest:qk}{f g:Env->Option Out}{e e1 e2:Expr}{h h1 h2:qS}{m m1 m2:Md}{pos:Pos}
theorem Gz:PA X [] (tEm 0):=di
theorem BK {p:Pos}(hr:PA X es (tEm n))(hs:starEach (.List [] p::es) X.env=(false,eval (.List [] p) X.env)::starEach es X.env:=by rfl):PA X (.List [] p::es) (tEm (n+1)):=bZ (yt di) hr hs
theorem Kc (i:Nat){x:Str}{p1 lpos apos cpos:Pos}(hN:X.N[i]?=some x:=by rfl)(hv:Vis X.env.scope x:=by first | exact g6 rfl | exact fm (g6 rfl) | exact fm (fm rfl))(hd:(x == ("__debug__" : Str))=false:=by decide)
  (hcd:(x == ("__classdict__" : Str))=false:=by decide) (hbase:attributeBase (.Name x p1) "append" X.env (eval (.Name x p1) X.env)=eval (.Name x p1) X.env:=by rfl)
  (hfew:((backTo cpos (starEach [.List [] lpos] X.env)).all (λx=>!x.1)&&(backToKw cpos (keywordEach [] X.env)).all (λx=>x.1.isSome)
   && decide ([Expr.List [] lpos].length+([]:List Keyword).length+(if ([]:List Keyword).isEmpty then 0 else 1) < 30))=true:=by rfl)
  (hline:(apos.endLine == cpos.line)=true:=by rfl) (hs:starEach [.List [] lpos] X.env=(false,eval (.List [] lpos) X.env)::starEach [] X.env:=by rfl):
  NS X b G i (.Expr (.Call (.Attribute (.Name x p1) "append" apos) [.List [] lpos] [] cpos) pos) (uq i):=by
 rintro pins s σ H D I ⟨Ow,env,a,cs,yss,env',E,hf,kk⟩
 obtain⟨px,hpx,z1⟩:=aq hf
 clear hf
 obtain⟨y,hy,z4⟩:=aq z1
 clear z1
 cases z4
 have hpx':=gA hpx
 rw[E.val] at hpx'
 cases hpx'
 simp only[newV,af] at hy
 split at hy
 ·rename_i hlt
  cases hy
  refine pC (uL gd kz kA nQ (jL hN hv hd hcd) (BK Gz hs) hbase hfew hline hs rfl) rfl pins s σ H D I ?_
  refine⟨_,E.slot,.inl ⟨rfl,_,SqL.of E.top⟩,cK _,λc hc=>?_⟩
  have hca:a≠c:=λz=>by have:=E.top;rw[z,hc] at this;cases this
  refine⟨a,_,_,rfl,rfl,by rw[aP hca];exact E.top,jF (by rw[af,E.inn.length];omega),?_⟩
  have hcn:c∉a::cs:=λz=>by obtain⟨o,q⟩:=E.live c z;rw[hc] at q;cases q
  have hcs:c∉cs:=λz=>hcn (ag _ z)
  have nd1:=cm.mp E.nd
  have hH:∀z o,H z=some o->z≠a->(upd (upd H c (.lst [])) a (.lst (cs.map V.ref++[.ref c]))) z=some o:=λz o hz hza=>by
   rw[aP hza,aP (bF hz hc)];exact hz
  have hHc:(upd (upd H c (.lst [])) a (.lst (cs.map V.ref++[.ref c]))) c=some (.lst []):=by rw[aP (fF hca),bc]
  have xc:Ex (KN b Ow a cs) H (KN b Ow a (cs++[c])) (upd (upd H c (.lst [])) a (.lst (cs.map V.ref++[.ref c]))):=λd o hd=>⟨λq=>(by
   have hda:d≠a:=λz=>q.2 (z▸ai)
   refine⟨hH d o hd hda,q.1,λz=>?_⟩
   rcases aw.mp z with z | z
   ·exact hda z
   ·rcases b0.mp z with z | z
    ·exact q.2 (ag _ z)
    ·rw[aI] at z;rw[z,hc] at hd;cases hd),λmm=>hH d o hd λz=>by subst z;rw[E.top] at hd;cases hd;cases mm⟩
  have inn':Inn b.C (KN b Ow a (cs++[c])) (upd (upd H c (.lst [])) a (.lst (cs.map V.ref++[.ref c]))) (cs++[c]) (yss++[[]]):=
   Inn.snoc hHc .nil (E.inn.ex xc λd hdm=>by
    obtain⟨us,q⟩:=E.inn.live d hdm
    rw[q]
    exact hH d _ q λz=>nd1.1 (z▸hdm))
  have hb0:b.H0 c=none:=by
   have:=E.er.same.free hc
   have q:(if c∈a::cs then H c else b.H0 c)=none:=this
   rw[a9 hcn] at q
   exact q
  obtain⟨E3,x3⟩:=E.rebase (cs':=cs++[c]) (H':=upd (upd H c (.lst [])) a (.lst (cs.map V.ref++[.ref c]))) (λz hz=>gc _ hz) (λz o hz hn=>hH z o hz λq=>hn (q▸ai)) (λz hz hn=>by
   rcases aw.mp hz with q | q
   ·exact absurd (q▸ai) hn
   ·rcases b0.mp q with q | q
    ·exact absurd (ag _ q) hn
    ·rw[aI] at q;rw[q];exact hc) (by
   rw[cm,jp]
   refine⟨λz=>?_,nd1.2,by simp,λd hd1 d' hd2 z=>?_⟩
   ·rcases b0.mp z with z | z
    ·exact nd1.1 z
    ·rw[aI] at z;exact hca z
   ·rw[aI] at hd2;subst hd2 z;exact hcs hd1) (λz hz=>by
   rcases aw.mp hz with q | q
   ·rw[q];exact E.new a ai
   ·rcases b0.mp q with q | q
    ·exact E.new z (ag _ q)
    ·rw[aI] at q;rw[q];exact hb0) (by rw[bc,cS];rfl) inn'
  rw[cS] at E3
  exact kk Ow σ _ _ _ E3 (λz hz=>gc _ hz) x3
 ·cases hy
def tNi (b:BX)(G:qf)(i:Nat)(f:Env->Option Out):TS:=λD σ H=>∃Ow env env',ER b Ow G σ env H/\f env=some (.nx env') /\
 ∀ σ' H' a cs yss,EN b Ow G i σ' env' H' a cs yss->Ex (Bs b Ow) H (KN b Ow a cs) H'->D.nx σ' H'
theorem EN.start {Ow:Addr->Prop}{σ:St}{env:Env}{H H2:Hp}{a:Addr}{cs:qA}(E:ER b Ow G σ env H)(hl:i < env.length)(nd:cs.Nodup)(hc:∀c∈cs,H c=none/\H2 c=some (.lst []))(ho:∀x,x∉cs->H2 x=H x)(ha:H2 a=none)(hG:i∉G)(hxi:b.fx i=none):
  EN b Ow G i (σ.set i (some (.ref a))) (env.set i (some (.lst (List.replicate cs.length (.lst []))))) (upd H2 a (.lst (cs.map V.ref))) a cs (List.replicate cs.length [])/\Ex (Bs b Ow) H (KN b Ow a cs) (upd H2 a (.lst (cs.map V.ref))):=by
 have nac:a∉cs:=λz=>by rw[(hc a z).2] at ha;cases ha
 have hHa:H a=none:=by rw[← ho a nac];exact ha
 have hnone:∀x∈a::cs,H x=none:=λx hx=>by
  rcases aw.mp hx with z | z
  ·rw[z];exact hHa
  ·exact(hc x z).1
 have st:∀x o,H x=some o->(upd H2 a (.lst (cs.map V.ref))) x=some o:=λx o q=>by
  have z:x∉a::cs:=λy=>by rw[hnone x y] at q;cases q
  rw[aw,nK] at z
  rw[aP z.1,ho x z.2];exact q
 have lv':∀x∈a::cs,∃o,(upd H2 a (.lst (cs.map V.ref))) x=some o:=λx hx=>by
  rcases aw.mp hx with z | z
  ·rw[z];exact⟨_,bc⟩
  ·rw[aP (λq:x=a=>nac (q▸z))];exact⟨_,(hc x z).2⟩
 have xk:Ex (Bs b Ow) H (KN b Ow a cs) (upd H2 a (.lst (cs.map V.ref))):=λc o q=>⟨λw=>⟨st c o q,w,λy=>by rw[hnone c y] at q;cases q⟩,λ_=>st c o q⟩
 have xb:Ex (Bs b Ow) H (Bs (bn b i a cs (upd H2 a (.lst (cs.map V.ref)))) Ow) (upd H2 a (.lst (cs.map V.ref))):=λc o q=>⟨λw=>⟨st c o q,(ju lv').mpr ((xk c o q).1 w).2⟩,λ_=>st c o q⟩
 have nw:∀x∈a::cs,b.H0 x=none:=λx hx=>E.same.free (hnone x hx)
 have now:∀x∈a::cs,¬ Ow x:=λx hx w=>by obtain⟨o,q⟩:=E.live x w;rw[hnone x hx] at q;cases q
 have inn:∀ds:List Addr,(∀c∈ds,c∈cs)->Inn b.C (KN b Ow a cs) (upd H2 a (.lst (cs.map V.ref))) ds (List.replicate ds.length []):=λds=>by
  induction ds with
  | nil=>exact λ_=>.nil
  | cons d ds ih=>
   intro hd
   have hdc:=hd d ai
   exact .cons (by rw[aP (λq:d=a=>nac (q▸hdc))];exact(hc d hdc).2) .nil (ih λc z=>hd c (ag _ z))
 have back:∀{j:Nat}{q:PV},(env.set i none)[j]?=some (some q)->i≠j/\env[j]?=some (some q):=λ{j q} e=>by
  by_cases hj:i=j
  ·subst hj
   rw[cr hl] at e;cases e
  ·rw[a7 hj] at e;exact⟨hj,e⟩
 refine⟨⟨by rw[cr hl,List.map_replicate],bc,cm.mpr ⟨nac,nd⟩,nw,inn cs λ_ z=>z,?_⟩,xk⟩
 rw[oz]
 refine⟨by rw[dL,dL];exact E.len,λc o q=>?_,λc w=>?_,λc w=>?_,λj q e n=>?_,λj q e n=>?_,λj k c q q' e1 n1 s1 e2 n2 s2=>?_,λk v hv=>?_⟩
 ·have q':(if c∈a::cs then (upd H2 a (.lst (cs.map V.ref))) c else b.H0 c)=some o:=q
  by_cases z:c∈a::cs
  ·rw[bp z] at q';exact q'
  ·rw[a9 z] at q';exact st c o (E.same c o q')
 ·obtain⟨o,q⟩:=E.live c w
  exact⟨o,st c o q⟩
 ·show (if c∈a::cs then (upd H2 a (.lst (cs.map V.ref))) c else b.H0 c)=none
  rw[a9 λz=>now c z w];exact E.new c w
 ·obtain⟨hj,e'⟩:=back e
  obtain⟨v,z1,z2⟩:=E.val j q e' n
  exact⟨v,by rw[a7 hj];exact z1,z2.ex xb⟩
 ·obtain⟨hj,e'⟩:=back e
  obtain⟨c,z1,z2,z3⟩:=E.own j q e' n
  exact⟨c,by rw[a7 hj];exact z1,z2,z3.ex xb λo y=>st c o y⟩
 ·obtain⟨hj,e1'⟩:=back e1
  obtain⟨hk,e2'⟩:=back e2
  rw[a7 hj] at s1
  rw[a7 hk] at s2
  exact E.sep j k c q q' e1' n1 s1 e2' n2 s2
 ·have hv':(if k=i then some (V.ref a) else b.fx k)=some v:=hv
  by_cases hk:k=i
  ·rw[bp hk] at hv'
   cases hv'
   rw[hk,cr (by rw[E.len];exact hl)]
  ·rw[a9 hk] at hv'
   rw[a7 (fF hk)]
   exact E.fix k v hv'
theorem Rp (i:Nat){x:Str}{pos' lpos:Pos}(nd:X.N.Nodup)(he:PA X es (tEm n))(hG:i∉G:=by decide)(hx:b.fx i=none:=by first | rfl | assumption)(hi:X.N[i]?=some x:=by rfl)(hl:Loc X.env.scope x:=by first | exact g6 rfl | exact fm rfl)
  (hs:swapsWith (.List es lpos) (some (.Name x pos')) pos.line X.env=pure false:=by rfl) (hf:X.fn x=true\/X.env.scope.names.lookup x=some .local:=by first | exact .inl rfl | exact .inr rfl | assumption):PS X (.Assign [.Name x pos'] (.List es lpos) pos) (tNi b G i (yf i n)):=
 PS.imp (uJ nd hi hl (yt he) hs hf)<|by
  rintro D σ H ⟨Ow,env,env',E,hz,k⟩
  rw[Jf] at hz
  split at hz
  ·rename_i hle
   cases hz
   refine BJ n λcs H2 hlen nd hc ho=>⟨gw (by rw[af];omega),λa ha=>?_⟩
   obtain⟨E1,x1⟩:=EN.start E hle.1 nd hc ho ha hG hx
   rw[hlen] at E1
   exact k _ _ a cs _ E1 x1
  ·cases hz
def PostK (b:BX)(A:Addr->Prop)(H:Hp)(G L:qf)(ro:Bool)(D:Ends):Out->Prop
 | .nx e=>∀Ow' σ' H',ER b Ow' G σ' e H'->Ex A H (Bs b Ow') H'->D.nx σ' H'
 | .bk e=>∀Ow' σ' H',ER b Ow' L σ' e H'->Ex A H (Bs b Ow') H'->D.bk σ' H'
 | .ct e=>∀Ow' σ' H',ER b Ow' L σ' e H'->Ex A H (Bs b Ow') H'->D.ct σ' H'
 | .rt p=>∀v H',Same b.H0 H'->Ret b.C b.A b.H0 ro H' v p->D.rt v H'
def tNX (b:BX)(G G' L:qf)(ro:Bool)(i:Nat)(f:Env->Option Out):TS:=λD σ H=>∃Ow env a cs yss out,EN b Ow G i σ env H a cs yss/\f env=some out/\PostK b (KN b Ow a cs) H G' L ro D out
abbrev NXs (X:Cx)(b:BX)(G G' L:qf)(ro:Bool)(i:Nat)(st:qk)(f:Env->Option Out):Prop:=PSs X st (tNX b G G' L ro i f)
theorem PostK.ex {A A':Addr->Prop}{H H':Hp}{D:Ends}{o:Out}(e:Ex A H A' H')(p:PostK b A H G L ro D o):PostK b A' H' G L ro D o:=by
 cases o with
 | nx e'=>exact λOw' σ' H2 E x=>p Ow' σ' H2 E (e.trans x)
 | bk e'=>exact λOw' σ' H2 E x=>p Ow' σ' H2 E (e.trans x)
 | ct e'=>exact λOw' σ' H2 E x=>p Ow' σ' H2 E (e.trans x)
 | rt p'=>exact p
theorem Mh (c:SSs X b G G' L ro rest g)(hG:i∉G:=by decide)(hx:b.fx i=none:=by first | rfl | assumption):NXs X b G G' L ro i rest g:=PSs.imp c<|by
 rintro D σ H ⟨Ow,env,a,cs,yss,out,E,hf,k⟩
 refine⟨Ow,env,out,E.out hG hx,hf,?_⟩
 have w:Ex (KN b Ow a cs) H (Bs b Ow) H:=dq λc o _ q=>q.1
 have k':=PostK.ex w k
 cases out with
 | nx e'=>exact k'
 | bk e'=>exact k'
 | ct e'=>exact k'
 | rt p'=>exact k'
theorem v4 (x:NS X b G i st f)(c:NXs X b G G' L ro i rest g):NXs X b G G' L ro i (st::rest) (aB (onx f) g):=PSs.imp (pW x c)<|by
 rintro D σ H ⟨Ow,env,a,cs,yss,out,E,hf,k⟩
 unfold aB at hf
 obtain⟨o,ho,hz⟩:=aq hf
 obtain⟨o',ho',hz'⟩:=aq ho
 cases o' with
 | nx e'=>
  cases hz'
  exact⟨Ow,env,a,cs,yss,e',E,ho',λOw1 σ1 H1 cs1 yss1 E1 s1 x1=>⟨Ow1,e',a,cs1,yss1,out,E1,hz,k.ex x1⟩⟩
 | bk e'=>cases hz'
 | ct e'=>cases hz'
 | rt p'=>cases hz'
theorem Mi (x:PS X st (tNi b G i f))(c:NXs X b G G' L ro i rest g):SSs X b G G' L ro (st::rest) (aB (onx f) g):=PSs.imp (pW x c)<|by
 rintro D σ H ⟨Ow,env,out,E,hf,k⟩
 unfold aB at hf
 obtain⟨o,ho,hz⟩:=aq hf
 obtain⟨o',ho',hz'⟩:=aq ho
 cases o' with
 | nx e'=>
  cases hz'
  refine⟨Ow,env,e',E,ho',fun σ1 H1 a cs yss E1 x1=>⟨Ow,e',a,cs,yss,out,E1,hz,?_⟩⟩
  cases out with
  | nx e''=>exact λOw' σ' H2 E2 x2=>k Ow' σ' H2 E2 (x1.trans x2)
  | bk e''=>exact λOw' σ' H2 E2 x2=>k Ow' σ' H2 E2 (x1.trans x2)
  | ct e''=>exact λOw' σ' H2 E2 x2=>k Ow' σ' H2 E2 (x1.trans x2)
  | rt p'=>exact k
 | bk e'=>cases hz'
 | ct e'=>cases hz'
 | rt p'=>cases hz'
end
@[simp] noncomputable def lq:PV->PV->PV->Option PV
 | .dK kvs,y,z=>(keyOf y).map λk=>(dj kvs k).getD z
 | .dT kvs,.tup ys,z=>(keysB ys).map λk=>(dj kvs k).getD z
 | _,_,_=>none
section
variable {X:Cx}{b:BX}{G:qf}{apos cpos:Pos}{m1 m2:Md}{e1 e2 e3:Expr}{f1 f2 f3:qS}
theorem v6 {j:Nat}(hr:Room j X.A)(h1:SE X b G m1 e1 f1)(h2:SE X b G m2 e2 f2)(h3:SE X b G .val e3 f3)(m:M2 X e1 "get" apos e2 e3 cpos:=by exact⟨rfl,rfl,rfl,rfl⟩)(hK:X.K=b.C.K:=by rfl):SE X b G .val (.Call (.Attribute e1 "get" apos) [e2,e3] [] cpos) (b3 lq f1 f2 f3):=by
 refine PE.imp (H_ (nR hr) h1.bor h2.bor h3 m) fun σ H Q h=>?_
 obtain⟨Ow,env,p,E,hf,k⟩:=h
 obtain⟨p1,q1,z1⟩:=aq hf
 clear hf
 obtain⟨p2,q2,z2⟩:=aq z1
 clear z1
 obtain⟨p3,q3,hf⟩:=aq z2
 clear z2
 refine⟨Ow,env,p1,E,q1,λv1 H1 s1 r1=>?_⟩
 unfold lq at hf
 split at hf
 ·rename_i kvs
  obtain⟨ky,hk,e⟩:=eg.mp hf
  obtain⟨a,kv,rfl,ha,ra⟩:=r1.dK
  refine⟨a,rfl,.inl ⟨kv,.inl ha⟩,Ow,env,p2,E.up s1,q2,λv2 H2 s2 r2=>⟨Ow,env,p3,(E.up s1).up s2,q3,λv3 H3 s3 r3=>?_⟩⟩
  have r2':RepB b.C (Bs b Ow) H2 v2 p2:=r2
  rw[r2'.key hk]
  have ha3:=s3 _ _ (s2 _ _ ha)
  refine⟨_,DGet.k ha3,k _ H3 ((s1.trans s2).trans s3) ?_⟩
  unfold dj at e
  rcases RepK.val (k:=ky) ra with ⟨v,p',g1,g2,rv⟩ | ⟨g1,g2⟩
  ·rw[g2] at e
   rw[g1,← e]
   exact rv.ex (.of_same (s2.trans s3))
  ·rw[g2] at e
   rw[g1,← e]
   exact r3
 ·rename_i kvs ys
  obtain⟨ky,hk,e⟩:=eg.mp hf
  obtain⟨a,kv,rfl,ha,ra⟩:=r1.dT
  refine⟨a,rfl,.inr ⟨kv,.inl ha⟩,Ow,env,_,E.up s1,q2,λv2 H2 s2 r2=>⟨Ow,env,p3,(E.up s1).up s2,q3,λv3 H3 s3 r3=>?_⟩⟩
  have r2':RepB b.C (Bs b Ow) H2 v2 (.tup ys):=r2
  obtain⟨c,vs,rfl,hc,rc⟩:=r2'.tup
  have ha3:=s3 _ _ (s2 _ _ ha)
  refine⟨_,DGet.t ha3 (by rw[hK];exact(hc.up s3).key (rc.keysB hk)),k _ H3 ((s1.trans s2).trans s3) ?_⟩
  unfold dj at e
  rcases RepT.val (k:=ky) ra with ⟨v,p',g1,g2,rv⟩ | ⟨g1,g2⟩
  ·rw[g2] at e
   rw[g1,← e]
   exact rv.ex (.of_same (s2.trans s3))
  ·rw[g2] at e
   rw[g1,← e]
   exact r3
 ·cases hf
end
end MR
namespace MR
open PySem L2
@[simp] noncomputable def sY:PV->PV->Option PV
 | .lst xs,.lst ys=>if ys.length=xs.length then some (.lst (List.zipWith (λa c=>.tup [a,c]) xs ys)) else none
 | _,_=>none
@[simp] noncomputable def lr:PV->PV->Option PV
 | .tup ys,v=>if dD v=true then (keysB ys).map λk=>.dT [(k,v)] else none
 | .ktp ys,v=>if dD v=true then (keysB ys).map λk=>.dT [(k,v)] else none
 | _,_=>none
def kP:Key->PV
 | .inl i=>.int i
 | .inr x=>.str x
@[simp] noncomputable def u_:PV->Option (List PV)
 | .dT kvs=>if (kvs.all λkv=>kv.1.length != 2)=true then some (kvs.map λkv=>.tup (kv.1.map kP)) else none
 | _=>none
noncomputable def iK (f:qS)(env:Env):Option (List PV):=(f env).bind u_
@[simp] theorem Wi (f:qS)(env:Env):iK f env=((f env).bind u_):=id rfl
@[simp] noncomputable def lu:PV->PV->PV->Option PV
 | .dT kvs,.ktp ys,z=>(keysB ys).map λk=>(dj kvs k).getD z
 | _,_,_=>none
section
variable {X:Cx}{b:BX}{G:qf}{apos cpos p p2 pos pos2:Pos}{m m1 m2:Md}{e e1 e2 e3:Expr}{f f1 f2 f3:qS}
theorem Jg {C:MC}{A A':Addr->Prop}{H H':Hp}{ts:qA}{vs us:List V}{xs ys:List PV}(z:ZTs H' ts vs us)(ex:Ex A H A' H')(r1:Reps C A H vs xs)(r2:Reps C A H us ys):Reps C A' H' (ts.map V.ref) (List.zipWith (λa c=>.tup [a,c]) xs ys):=by
 induction z generalizing xs ys with
 | nil=>cases r1;exact .nil
 | cons h t ih=>
  cases r1 with
  | cons a1 b1=>cases r2 with
   | cons a2 b2=>exact .cons (.tup h (.cons (Rep.ex ex a1) (.cons (Rep.ex ex a2) .nil))) (ih b1 b2)
theorem Jh (hm:X.mg "list" = none)(hm2:X.mg "zip" = none)(h1:SE X b G m1 e1 f1)(h2:SE X b G m2 e2 f2)(hb:bootBuiltins "zip" = some (.type "zip"):=by decide +kernel)(hK:X.K=b.C.K:=by rfl)(hc:X.calm=true:=by rfl)(hg:Gl X "list" := by rfl)(hg2:Gl X "zip" := by rfl)
  (hs:starEach [e1,e2] X.env=(false,eval e1 X.env)::starEach [e2] X.env:=by rfl) (hs1:starEach [e2] X.env=(false,eval e2 X.env)::starEach [] X.env:=by rfl) (hp2:(backTo pos2 (starEach [e2] X.env)).any (·.1)=false:=by rfl)
  (hs2:starEach [.Call (.Name "zip" p2) [e1,e2] [] pos2] X.env=(false,eval (.Call (.Name "zip" p2) [e1,e2] [] pos2) X.env)::starEach [] X.env:=by rfl) (hpl:(backTo pos (starEach [] X.env)).any (·.1)=false:=by rfl):
  SE X b G .own (.Call (.Name "list" p) [.Call (.Name "zip" p2) [e1,e2] [] pos2] [] pos) (b2 sY f1 f2):=by
 refine PE.imp (Iv hg hm hg2 hm2 hb hc (bZ h1.bor (bZ h2.bor di hs1) hs) hs hp2 hs2 hpl) ?_
 rintro σ H Q ⟨Ow,env,q,E,hf,k⟩
 rw[hK]
 obtain⟨x,hx,z1⟩:=aq hf
 clear hf
 obtain⟨y,hy,hf⟩:=aq z1
 clear z1
 unfold sY at hf
 split at hf
 ·rename_i xs ys
  split at hf
  ·rename_i hl
   cases hf
   refine⟨Ow,env,_,E,hx,λv H1 s1 r1=>⟨Ow,env,_,E.up s1,hy,λu H2 s2 r2=>?_⟩⟩
   have r1':RepB b.C (Bs b Ow) H1 v (.lst xs):=r1
   have r1':RepB b.C (Bs b Ow) H2 v (.lst xs):=Res.up (m:=.bor) r1 s2
   have r2':RepB b.C (Bs b Ow) H2 u (.lst ys):=r2
   obtain⟨a,vs,rfl,ha,ra⟩:=r1'.lst
   obtain⟨c,us,rfl,hc,rc⟩:=r2'.lst
   have s:=s1.trans s2
   refine⟨a,c,vs,us,rfl,SqL.of ha,SqL.of hc,by rw[ra.length,rc.length];exact hl,λl ts H3 hl0 kp hl2 z=>?_⟩
   have hn:H l=none:=by
    cases q:H l with
    | none=>rfl
    | some o=>have:=s _ _ q;rw[hl0] at this;cases this
   have ex:Ex (Bs b Ow) H2 (λc=>Bs b Ow c/\c≠l) H3:=λc o e=>⟨λq=>⟨kp _ _ e,q,λw=>by rw[w,hl0] at e;cases e⟩,λ_=>kp _ _ e⟩
   exact k _ _ (s.trans kp) ⟨l,rfl,hn,_,hl2,Jg z ex ra rc⟩
  ·cases hf
 ·cases hf
theorem zy {C:MC}{A A':Addr->Prop}{H H':Hp}{v:V}{q:PV}(r:Rep C A H v q)(h:dD q=true):Rep C A' H' v q:=by
 cases r with
 | non=>exact .non
 | bl b=>exact .bl b
 | int i=>exact .int i
 | str x=>exact .str x
 | _=>cases h
theorem DQ {j:Nat}(hr:Room j X.A)(h1:SE X b G .val e1 f1)(h2:SE X b G .val e2 f2)(hK:X.K=b.C.K:=by rfl):SE X b G .own (.Dict [some e1] [e2] pos) (b2 lr f1 f2):=by
 refine PE.imp (Lk (nR hr) h1 h2) ?_
 rintro σ H Q ⟨Ow,env,q,E,hf,k⟩ l hl
 obtain⟨x,hx,z1⟩:=aq hf
 clear hf
 obtain⟨y,hy,hf⟩:=aq z1
 clear z1
 unfold lr at hf
 split at hf
 ·rename_i ys
  split at hf
  ·rename_i hfl
   obtain⟨ks,hk,e⟩:=eg.mp hf
   subst e
   have s0:=bJ hl (.dT [])
   refine⟨Ow,env,_,E.up s0,hx,λv H1 s1 r1=>⟨Ow,env,_,(E.up s0).up s1,hy,λu H2 s2 r2=>⟨s2 _ _ (s1 _ _ bc),?_⟩⟩⟩
   have r1':RepB b.C (Bs b Ow) H1 v (.tup ys):=.inl r1
   obtain⟨c,vs,rfl,hc,rc⟩:=r1'.tup
   refine⟨c,ks,rfl,(by rw[hK];exact(hc.up s2).key (rc.keysB hk)),k _ _ (λa o e=>?_) ⟨l,rfl,hl,_,bc,.cons (zy r2 hfl) .nil⟩⟩
   rw[aP (bF e hl)]
   exact s2 _ _ (s1 _ _ (s0 _ _ e))
  ·cases hf
 ·rename_i ys
  split at hf
  ·rename_i hfl
   obtain⟨ks,hk,e⟩:=eg.mp hf
   subst e
   have s0:=bJ hl (.dT [])
   refine⟨Ow,env,_,E.up s0,hx,λv H1 s1 r1=>⟨Ow,env,_,(E.up s0).up s1,hy,λu H2 s2 r2=>⟨s2 _ _ (s1 _ _ bc),?_⟩⟩⟩
   have r1':Rep b.C (Bs b Ow) H1 v (.ktp ys):=r1
   cases r1' with
   | @tupK c vs _ w1 w3=>
    have hc:KTup b.C.K c vs:=by
     rcases w1 with (z | ⟨o,z⟩) | z
     ·cases z
     ·cases z
     ·exact z
    refine⟨c,ks,rfl,(by rw[hK];exact .inr ⟨vs,hc,w3.keysB hk⟩),k _ _ (λa o e=>?_) ⟨l,rfl,hl,_,bc,.cons (zy r2 hfl) .nil⟩⟩
    rw[aP (bF e hl)]
    exact s2 _ _ (s1 _ _ (s0 _ _ e))
  ·cases hf
 ·cases hf
theorem v7 {j:Nat}(hr:Room j X.A)(h1:SE X b G m1 e1 f1)(h2:SE X b G m2 e2 f2)(h3:SE X b G .val e3 f3)(m:M2 X e1 "get" apos e2 e3 cpos:=by exact⟨rfl,rfl,rfl,rfl⟩)(hK:X.K=b.C.K:=by rfl):SE X b G .val (.Call (.Attribute e1 "get" apos) [e2,e3] [] cpos) (b3 lu f1 f2 f3):=by
 refine PE.imp (Iw (nR hr) h1.bor h2.bor h3 m) fun σ H Q h=>?_
 obtain⟨Ow,env,p,E,hf,k⟩:=h
 obtain⟨p1,q1,z1⟩:=aq hf
 clear hf
 obtain⟨p2,q2,z2⟩:=aq z1
 clear z1
 obtain⟨p3,q3,hf⟩:=aq z2
 clear z2
 refine⟨Ow,env,p1,E,q1,λv1 H1 s1 r1=>?_⟩
 unfold lu at hf
 split at hf
 ·rename_i kvs ys
  obtain⟨ky,hk,e⟩:=eg.mp hf
  have r1':RepB b.C (Bs b Ow) H1 v1 (.dT kvs):=r1
  obtain⟨a,kv,rfl,ha,ra⟩:=r1'.dT
  refine⟨a,rfl,.inr ⟨kv,.inl ha⟩,Ow,env,_,E.up s1,q2,λv2 H2 s2 r2=>⟨Ow,env,p3,(E.up s1).up s2,q3,λv3 H3 s3 r3=>?_⟩⟩
  have r2':RepB b.C (Bs b Ow) H2 v2 (.ktp ys):=r2
  rcases r2' with r2' | ⟨_,_,t⟩
  ·cases r2' with
   | tupK w1 w3=>
    refine⟨kv,ky,_,_,.inl (s3 _ _ (s2 _ _ ha)),rfl,by rw[hK];exact ue w1,w3.keysB hk,k _ H3 ((s1.trans s2).trans s3) ?_⟩
    unfold dj at e
    rcases RepT.val (k:=ky) ra with ⟨v,p',g1,g2,rv⟩ | ⟨g1,g2⟩
    ·rw[g2] at e
     rw[g1,← e]
     exact rv.ex (.of_same (s2.trans s3))
    ·rw[g2] at e
     rw[g1,← e]
     exact r3
  ·exact t.elim
 ·cases hf
theorem BL {K:W.Frag}{H:Hp}{a:Addr}{ks:List Key}(c:CKey K H a ks):∃us,TupR K H a us/\q8 ks us:=c.elim (λ⟨vs,e,k⟩=>⟨vs,.inl e,k⟩) λ⟨vs,e,k⟩=>⟨vs,.inr e,k⟩
theorem sZ {C:MC}{A:Addr->Prop}{H:Hp}:∀ks:List Key,Reps C A H (ks.map kV) (ks.map kP)
 | []=>.nil
 | .inl i::ks=>.cons (.int i) (sZ ks)
 | .inr x::ks=>.cons (.str x) (sZ ks)
theorem BR {C:MC}{A:Addr->Prop}{H:Hp}:∀{kv:List (List Key×V)}{kvs:List (List Key×PV)},RepT C A H kv kvs->kv.map (·.1)=kvs.map (·.1)
 | _,_,.nil=>rfl
 | _,_,.cons _ t=>by rw[av,av,BR t]
theorem TY {tg:Expr}(he:SE X b G m e f)(hK:X.K=b.C.K:=by rfl):SI X b G false tg e (iK f):=by
 refine PI.imp (Tp he) ?_
 rintro σ H R ⟨Ow,env,ps,E,hg,k⟩
 obtain⟨q,hq,hps⟩:=aq hg
 unfold u_ at hps
 split at hps
 ·rename_i kvs
  split at hps
  ·rename_i hall
   cases hps
   refine⟨Ow,env,_,E,hq,λv H1 s r=>?_⟩
   have r1:RepB b.C (Bs b Ow) H1 v (.dT kvs):=r.bor
   obtain⟨a,kv,rfl,ha,ra⟩:=r1.dT
   have hks:=BR ra
   have hlen:kv.length=kvs.length:=ra.length
   refine⟨a,kv,rfl,.inl ha,k _ _ s λOw' H2 h0 h1 hn=>?_⟩
   have ha2:H2 a=some (.dT kv):=h0 rfl _ _ ha
   refine⟨λi p hp=>?_,⟨kv,.inl ha2,rfl,by rw[af,hlen];exact aS _⟩⟩
   have hi:i < kvs.length:=by have:=(ap.mp hp).1;rwa [af] at this
   refine⟨⟨kv,.inl ha2,rfl,by omega⟩,λx H' y=>?_⟩
   obtain⟨e',kv',c,ks,y,hr',hi',ex,dk⟩:=y
   subst e' ex
   have ekv:kv'=kv:=by
    rcases hr' with z | ⟨o,z⟩
    ·rw[ha2] at z;cases z;rfl
    ·rw[ha2] at z;cases z
   subst ekv
   have ek:(kvs.map (·.1))[i]?=some ks:=by rw[← hks,aE,hi'];rfl
   rw[aE] at ek hp
   cases qq:kvs[i]? with
   | none=>rw[qq] at ek;cases ek
   | some w=>
    rw[qq] at ek hp
    cases ek
    cases hp
    have nl:w.1.length≠2:=by
     have:=cy.mp hall w (ax qq)
     simpa using this
    obtain⟨us,hu,kt⟩:=BL (hK▸dk)
    rcases kt with rfl | ⟨x,t,z,_⟩
    ·exact⟨Same.refl _,hu.rep (sZ _)⟩
    ·have z:w.1=_:=z
     rw[z] at nl;exact absurd rfl nl
  ·cases hps
 ·cases hps
end
@[simp] noncomputable def mQ:PV->Option (List PV)
 | .dT kvs=>if (kvs.all λkv=>kv.1.length != 2)=true then some (kvs.map λkv=>.tup [.tup (kv.1.map kP),kv.2]) else none
 | _=>none
noncomputable def iDi (f:qS)(env:Env):Option (List PV):=(f env).bind mQ
@[simp] theorem V0 (f:qS)(env:Env):iDi f env=((f env).bind mQ):=id rfl
section
variable {X:Cx}{b:BX}{G:qf}{apos cpos:Pos}{m:Md}{e:Expr}{f:qS}
theorem RepT.get {C:MC}{A:Addr->Prop}{H:Hp}:∀{vs:List (List Key×V)}{ps:List (List Key×PV)}{i:Nat}{w:List Key×PV},RepT C A H vs ps->ps[i]?=some w->∃v,vs[i]?=some (w.1,v)/\Rep C A H v w.2
 | _,_,i,w,.nil,h=>by simp at h
 | _,_,0,w,.cons r t,h=>by simp at h;subst h;exact⟨_,rfl,r⟩
 | _,_,i+1,w,.cons r t,h=>by
  obtain⟨v,h1,h2⟩:=RepT.get (i:=i) t (by simpa using h)
  exact⟨v,by simpa using h1,h2⟩
theorem Kd {fr:Bool}{es:qo}{x1:Nat}{tpos:Pos}(he:SE X b G m e f)(hmd:fr=true->m≠.bor)(hK:X.K=b.C.K:=by rfl)(hbase:attributeBase e "items" X.env (eval e X.env)=eval e X.env:=by rfl)(hline:(apos.endLine == cpos.line)=true:=by rfl):
  SI X b G fr (.Tuple es x1 tpos) (.Call (.Attribute e "items" apos) [] [] cpos) (iDi f):=by
 refine PI.imp (Tr he hbase hline) ?_
 rintro σ H R ⟨Ow,env,ps,E,hg,k⟩
 obtain⟨q,hq,hps⟩:=aq hg
 unfold mQ at hps
 split at hps
 ·rename_i kvs
  split at hps
  ·rename_i hall
   cases hps
   refine⟨Ow,env,_,E,hq,λv H1 s r=>?_⟩
   have r1:RepB b.C (Bs b Ow) H1 v (.dT kvs):=r.bor
   obtain⟨a,kv,rfl,ha,ra⟩:=r1.dT
   have hlen:kv.length=kvs.length:=ra.length
   refine⟨a,kv,rfl,.inl ha,k _ _ s λOw' H2 h0 h1 hn=>?_⟩
   have hh:H2 a=some (.dT kv)/\RepT b.C (Bs b Ow') H2 kv kvs:=by
    refine⟨?_,ra.ex h1⟩
    cases fr with
    | false=>exact h0 rfl _ _ ha
    | true=>
     have rv:Rep b.C (Bs b Ow) H1 (.ref a) (.dT kvs):=r.val E (hmd rfl)
     cases rv with
     | dT q1 q2 q3=>rw[ha] at q1;cases q1;exact((h1 _ _ ha).1 q2).1
   obtain⟨ha2,ra2⟩:=hh
   refine⟨λi p hp=>?_,⟨kv,.inl ha2,rfl,by rw[af,hlen];exact aS _⟩⟩
   have hi:i < kvs.length:=by have:=(ap.mp hp).1;rwa [af] at this
   refine⟨⟨kv,.inl ha2,rfl,by omega⟩,λx H' y=>?_⟩
   obtain⟨t,kv',c,ks,y,ht,ex,eH,hr',hi',dk⟩:=y
   subst ex eH
   have ekv:kv'=kv:=by
    rcases hr' with z | ⟨o,z⟩
    ·rw[ha2] at z;cases z;rfl
    ·rw[ha2] at z;cases z
   subst ekv
   rw[aE] at hp
   cases qq:kvs[i]? with
   | none=>rw[qq] at hp;cases hp
   | some w=>
    rw[qq] at hp
    cases hp
    obtain⟨v',hv',rv'⟩:=RepT.get ra2 qq
    rw[hi'] at hv'
    cases hv'
    have nl:w.1.length≠2:=by
     have:=cy.mp hall w (ax qq)
     simpa using this
    obtain⟨us,hu,kt⟩:=BL (hK▸dk)
    have sn:=bJ ht (HO.tup [.ref c,y])
    rcases kt with rfl | ⟨x,t',z,_⟩
    ·exact⟨sn,.tup bc (.cons ((hu.up sn).rep (sZ _)) (.cons (rv'.ex (.of_same sn)) .nil))⟩
    ·have z:w.1=_:=z
     rw[z] at nl;exact absurd rfl nl
  ·cases hps
 ·cases hps
end
section
variable {X:Cx}{b:BX}{G G' L:qf}{pos p p2 pos2:Pos}{m m1 m2:Md}{e1 e2:Expr}{f1 f2:qS}
@[simp] noncomputable def qj:PV->PV->Option PV
 | .tup [.lst xs,.lst xs'],.tup [.lst ys,.lst ys']=>(intsP xs).bind λns=>(intsP xs').bind λns'=>(intsP ys).bind λms=>(intsP ys').bind λms'=>some (.bl (HT.ltTwo ns ns' ms ms'))
 | _,_=>none
theorem zz {C:MC}{A:Addr->Prop}{H:Hp}{vs:List V}{xs ys:List PV}(r:Reps C A H vs [.lst xs,.lst ys]):∃a c us ws,vs=[.ref a,.ref c]/\H a=some (.lst us)/\H c=some (.lst ws)/\Reps C A H us xs/\Reps C A H ws ys:=by
 cases r with
 | cons r1 r=>
  cases r with
  | cons r2 r=>
   cases r
   cases r1 with
   | lst h1 _ q1=>
    cases r2 with
    | lst h2 _ q2=>exact⟨_,_,_,_,rfl,h1,h2,q1,q2⟩
theorem Rq:Op2 b .val (DK b.C.K) qj:=by
 intro Ow H v1 v2 p1 p2 p Q hn r1 r2 e k
 unfold qj at e
 split at e
 ·obtain⟨ns,q1,e⟩:=aq e
  obtain⟨ns',q2,e⟩:=aq e
  obtain⟨ms,q3,e⟩:=aq e
  obtain⟨ms',q4,e⟩:=aq e
  cases e
  obtain⟨a,vs,rfl,ha,ra⟩:=r1.tup
  obtain⟨c,ws,rfl,hc,rc⟩:=r2.tup
  obtain⟨a1,a2,us,us',rfl,h1,h2,w1,w2⟩:=zz ra
  obtain⟨c1,c2,xs,xs',rfl,h3,h4,w3,w4⟩:=zz rc
  have z1:=w1.intsP q1
  have z2:=w2.intsP q2
  have z3:=w3.intsP q3
  have z4:=w4.intsP q4
  subst z1 z2 z3 z4
  exact⟨a,c,a1,a2,c1,c2,ns,ns',ms,ms',rfl,rfl,ha.sq,hc.sq,SqL.of h1,SqL.of h2,SqL.of h3,SqL.of h4,k _ H (Same.refl _) (.bl _)⟩
 ·cases e
theorem Rr {j:Nat}(hr:Room j X.A)(h1:SE X b G m1 e1 f1)(h2:SE X b G m2 e2 f2)(hK:X.K=b.C.K:=by rfl):SC X b G .Lt e1 e2 (b2 qj f1 f2):=
 kZ (r:=DK b.C.K) (by rw[← hK];exact Mf (nR hr)) Rq h1 h2 (lF _)
end
end MR
namespace My
open PySem L2 MR
@[simp] theorem Vr (i j:Int):eqP (.int i) (.int j)=some (decide (i=j)):=rfl
@[simp] theorem Vs (i j:Str):eqP (.str i) (.str j)=some (decide (i=j)):=rfl
@[simp] theorem V1 (i j:Bool):eqP (.bl i) (.bl j)=some (decide (i=j)):=rfl
theorem Mj {α β:Type}(f:α->β)(xs:List α)(i:Int):atI (xs.map f) i=(atI xs i).map f:=by
 unfold atI
 rw[af]
 cases ixN xs.length i with
 | none=>rfl
 | some j=>simp
theorem bO {α:Type}{xs:List α}{k:Nat}{x:α}(h:xs[k]?=some x):atI xs (k:Int)=some x:=La h
section
variable {α:Type}{env:MR.Env}{g:PV->MR.Env->Option MR.Env}{t:MR.Env->Option Bool}{f:MR.Env->Option PV}
theorem fZ (c h:α->PV):∀(ys:List α),(∀y∈ys,∃e,g (c y) env=some e/\f e=some (h y))->eO env g fD f (ys.map c)=some (ys.map h)
 | [],_=>rfl
 | y::ys,hh=>by
  obtain⟨e,h1,h2⟩:=hh y ai
  have ih:=fZ c h ys λz hz=>hh z (ag _ hz)
  simp[eO,h1,h2,ih]
theorem iQ (c h:α->PV)(p:α->Bool):∀(ys:List α),(∀y∈ys,∃e,g (c y) env=some e/\t e=some (p y)/\(p y=true->f e=some (h y)))->eO env g t f (ys.map c)=some ((ys.filter p).map h)
 | [],_=>rfl
 | y::ys,hh=>by
  obtain⟨e,h1,h2,h3⟩:=hh y ai
  have ih:=iQ c h p ys λz hz=>hh z (ag _ hz)
  cases hp:p y with
  | true=>simp[eO,h1,h2,h3 hp,ih,hp]
  | false=>simp[eO,h1,h2,ih,hp]
end
theorem iR {α:Type}(c:α->PV):∀(ys:List α) (n:Nat),fC n (ys.map c)=(ys.zipIdx n).map λy=>.tup [.int (y.2:Nat),c y.1]
 | [],_=>rfl
 | y::ys,n=>by simp[fC,iR c ys]
section
variable {α:Type}(a b c d e f g h:α)(l:List α)
@[simp] theorem at0:atI (a::l) 0=some a:=bO (k:=0) rfl
@[simp] theorem at1:atI (a::b::l) 1=some b:=bO (k:=1) rfl
@[simp] theorem at2:atI (a::b::c::l) 2=some c:=bO (k:=2) rfl
@[simp] theorem at3:atI (a::b::c::d::l) 3=some d:=bO (k:=3) rfl
end
@[simp] noncomputable def nxt (ds:qf):Option Out->Option MR.Env
 | some (.nx e)=>some (clr ds e)
 | some (.ct e)=>some (clr ds e)
 | _=>none
noncomputable def turn (g:PV->MR.Env->Option MR.Env)(ds:qf)(body:MR.Env->Option Out)(x:PV)(env:MR.Env):Option MR.Env:=(g x env).bind λe=>nxt ds (body e)
theorem aV (g:PV->MR.Env->Option MR.Env)(ds:qf)(body:MR.Env->Option Out)(x:PV)(env:MR.Env):turn g ds body x env=(g x env).bind λe=>nxt ds (body e):=id rfl
theorem eU {g:PV->MR.Env->Option MR.Env}{ds:qf}{body:MR.Env->Option Out}{x:PV}{xs:List PV}{env env':MR.Env}(h:turn g ds body x env=some env'):bY g ds body (x::xs) env=bY g ds body xs env':=by
 unfold turn at h
 obtain⟨e,h1,h2⟩:=aq h
 unfold nxt at h2
 split at h2
 ·rename_i q;cases h2;simp[bY,h1,q]
 ·rename_i q;cases h2;simp[bY,h1,q]
 ·cases h2
theorem bM {f g:MR.Env->Option Out}{env e:MR.Env}(h:f env=some (.nx e)):aB f g env=g e:=by simp[h]
theorem Ml {f g:MR.Env->Option Out}{env:MR.Env}{p:PV}(h:f env=some (.rt p)):aB f g env=some (.rt p):=by simp[h]
theorem dZ (n:Nat):cZ 0 (n:Int)=(List.range n).map λk=>PV.int (k:Nat):=by
 unfold cZ
 simp
def cell (ns:qv)(k:Nat):Int:=ns.getD k 0
noncomputable def mixed (c k:Int):Int:=(c*48271+k*k*69621+5) % 2147483647
theorem Ji (c k:Int):0<=mixed c k:=mh _ (by decide)
end My
namespace L2
open PySem PySem.Spec PyProof.Rows
theorem ObjOk.there {P:Program}{w:World}{K:W.Frag}{H:Hp}{h:Heap}{a:Addr}{o:HO}(x:ObjOk P w K H h a o):∃u,h.get? a=some u:=by
 cases o with
 | lst xs=>obtain⟨_,_,_,_,e⟩:=x;exact⟨_,e⟩
 | tup xs=>obtain⟨_,_,_,_,e,_⟩:=x;exact⟨_,e⟩
 | dK kvs=>obtain⟨_,_,_,_,o,_,_,e,_⟩:=x;exact⟨_,e⟩
 | dT kvs=>obtain⟨_,_,_,_,o,_,_,e,_⟩:=x;exact⟨_,e⟩
 | set S n=>obtain⟨o,_,_,_,e,_⟩:=x;exact⟨_,e⟩
 | ins C dx fs=>obtain⟨_,_,_,e,_⟩:=x;exact⟨_,e⟩
 | own y=>exact x
 | xd fs=>obtain⟨_,⟨_,_,_,e,_⟩,_⟩:=x;exact⟨_,e⟩
 | rng lo hi=>obtain⟨_,_,_,e⟩:=x;exact⟨_,e⟩
 | frz ob u=>obtain⟨e,_⟩:=x;exact⟨_,e⟩
 | tbl ps=>exact⟨_,(show h.get? a=some _ from x)⟩
 | met f y=>exact⟨_,(show h.get? a=some _ from x)⟩
 | ext φ=>exact x.2.1
def Grd (B h₀ h:Heap)(H:Hp)(l:List Env):Prop:=∀b o,h.get? b=some o->B.get? b=none->b∈frs l\/(h₀.get? b=none/\H b=none)
structure Lies (X:Cx)(pins:gV)(σ:St)(H:Hp)(C:Value)(e:Value)(s:Shared):Prop where
 inv:Inv X pins σ H s
 ex:∃a a0 B,e=.ref a/\Heap.FlyingW B X.stack a C a0 s.heap/\X.s₀.heap.get? a=none/\H a=none/\(∀p∈X.pn++pins,B.get? p.1=some p.2)/\Grd B X.s₀.heap s.heap H X.stack
def CXW (P:Program)(w:World)(K:W.Frag):CXT:=λouter H s E e s'=>∃a C a0 B H',e=.ref a/\s'.os=s.os/\AllBare s'.gens/\Un (frs outer) [] H H' s.heap s'.heap/\HOk P w K H' s'.heap /\
 Heap.FlyingW B outer a C a0 s'.heap/\s.heap.get? a=none/\H' a=none/\Grd B s.heap s'.heap H' outer/\E C none H'
section
variable {P:Program}{w:World}{K:W.Frag}{mg:Str->Option Value}{base:Heap}{N:qr}{qual:Str}{scope:Scope}{f:Addr}{cd:Value}{A:Around}{outer:List Env}{s:Shared}{H:Hp}{E:XK}{CX:CXT}
variable {pins:gV}{σ:St}{H1:Hp}{s1:Shared}
theorem wY {b:Addr}{env:Env}{outer:List Env}{L:Addr}(hf:env.frame=some L)(h:b∈frs (env::outer)):b=L\/b∈frs outer:=by
 unfold frs at h ⊢
 rw[iF,hf] at h
 exact aw.mp h
theorem BV (I:Inv (gR CX P w K mg base N qual scope f cd A outer s H E) pins σ H1 s1){B h2:Heap}(bs:∀b o,B.get? b=some o->s1.heap.get? b=some o)(st:B.StaysIn h2)
  (gr:Grd B s.heap s1.heap H1 (envOfC qual scope s.heap.objs.size f cd::outer)) (up:s1.heap.UpToSlots h2):
  Un (frs outer) [] H H1 s.heap h2/\HOk P w K H1 h2/\Grd B s.heap h2 H1 outer:=by
 have u:Un (frs outer) [] H H1 s.heap s1.heap:=I.base
 have kept:∀b o,s1.heap.get? b=some o->b∉frs (envOfC qual scope s.heap.objs.size f cd::outer)->(s.heap.get? b≠none\/H1 b≠none)->h2.get? b=some o:=λb o e n1 n2=>by
  cases q:B.get? b with
  | none=>exact((gr b o e q).elim n1 λz=>n2.elim (λy=>y z.1) λy=>y z.2).elim
  | some o'=>
   have:=bs b o' q
   rw[e] at this
   cases this
   exact st b o q
 have old:∀b o,s.heap.get? b=some o->b∉frs outer->b∉frs (envOfC qual scope s.heap.objs.size f cd::outer):=λb o e n z=>by
  rcases wY rfl z with y | y
  ·subst y;exact absurd (ay e) (dv _)
  ·exact n y
 have fr:∀b o,s1.heap.get? b=some o->b∈frs (envOfC qual scope s.heap.objs.size f cd::outer)->∃sl,h2.get? b=some { o with slots:=sl }:=λb o e hb=>by
  obtain⟨_,o',e',hd⟩:=I.stack.mem hb
  rw[e] at e'
  cases e'
  exact up b o e hd
 refine⟨⟨λb o q n hb hx=>?_,λb o q n hb hx=>?_,u.free,λb o q hx=>?_,u.tups,u.frzs,u.tbls⟩,λb v q=>?_,λb o q n=>?_⟩
 ·exact kept b o (u.keep b o q n hb hx) (old b o q hb) (.inl (by rw[q];exact λz=>nomatch z))
 ·obtain⟨sl,e1⟩:=u.slot b o q n hb hx
  obtain⟨sl',e2⟩:=fr b _ e1 (by unfold frs at hb ⊢;rw[iF];exact ag _ hb)
  exact⟨sl',e2⟩
 ·obtain⟨o',e1⟩:=u.there b o q hx
  by_cases hb:b∈frs (envOfC qual scope s.heap.objs.size f cd::outer)
  ·obtain⟨sl,e2⟩:=fr b o' e1 hb
   exact⟨_,e2⟩
  ·exact⟨o',kept b o' e1 hb (.inl (by rw[q];exact λz=>nomatch z))⟩
 ·refine(I.hok b v q).stay (λc x hc r=>?_) (λ_ q=>q) λ_ _ q=>q
  have hn:H1 c≠none:=by
   rcases hc with rfl | hc
   ·rw[q];exact λz=>nomatch z
   ·rw[hc];exact λz=>nomatch z
  exact kept c x r (λz=>hn (I.stkFree c z)) (.inr hn)
 ·cases e1:s1.heap.get? b with
  | some o'=>
   rcases gr b o' e1 n with z | z
   ·rcases wY rfl z with y | y
    ·subst y;exact .inr ⟨lS (aS _),I.free⟩
    ·exact .inl y
   ·exact .inr z
  | none=>
   refine .inr ⟨?_,?_⟩
   ·cases q2:s.heap.get? b with
    | none=>rfl
    | some o2=>
     obtain⟨_,e2⟩:=u.there b o2 q2 (by simp)
     rw[e1] at e2;cases e2
   ·cases q2:H1 b with
    | none=>rfl
    | some v=>
     obtain⟨_,e2⟩:=(I.hok b v q2).there
     rw[e1] at e2;cases e2
theorem DR {C e:Value}(L:Lies (gR (CXW P w K) P w K mg base N qual scope f cd A outer s H E) pins σ H1 C e s1)(hE:E C none H1):(gR (CXW P w K) P w K mg base N qual scope f cd A outer s H E).xe e s1:=by
 obtain⟨a,a0,B,rfl,fl,na,nH,np,gr⟩:=L.ex
 have I:=L.inv
 show wpAny (model P w) (A.deeper (envOfC qual scope s.heap.objs.size f cd)) (leaving (envOfC qual scope s.heap.objs.size f cd) (.ref a)) (λ_ s''=>CXW P w K outer H s E (.ref a) s'') (λe' s''=>CXW P w K outer H s E e' s'') s1
 refine wpAny_leaves_onW I.ok.frames rfl fl λh2 fl2 up=>?_
 obtain⟨u2,hok2,gr2⟩:=BV I (λb o q=>fl.1 b o q) fl2.1 gr up
 exact⟨a,C,a0,B,H1,rfl,I.os,I.bare,u2,hok2,fl2,na,nH,gr2,hE⟩
theorem lies_of {X:Cx}(I:Inv X pins σ H1 s1)(hex:X.ex=[]){Q:XK}{e:Value}{s2:Shared}(h:CXW X.prog X.w X.K X.stack H1 s1 Q e s2):∃C H2,Lies X pins σ H2 C e s2/\Q C none H2:=by
 obtain⟨a,C,a0,B,H2,rfl,os,bare,un,hok,fl,na,nH,gr,hQ⟩:=h
 have there:∀b o,X.s₀.heap.get? b=some o->∃o',s1.heap.get? b=some o':=λb o q=>I.base.there b o q (by rw[hex];simp)
 have fresh:∀b,s1.heap.get? b=none->X.s₀.heap.get? b=none:=λb q=>by
  cases z:X.s₀.heap.get? b with
  | none=>rfl
  | some o=>obtain⟨_,y⟩:=there b o z;rw[q] at y;cases y
 refine⟨C,H2,⟨I.call' os un hok bare (λb z=>nomatch z),a,a0,B,rfl,fl,fresh a na,nH,λp hp=>?_,λb o q n=>?_⟩,hQ⟩
 ·obtain⟨e1,n1,nl,nf,_⟩:=I.pin p hp
  have nfr:p.1∉frs X.stack:=λz=>(aw.mp (I.stkSub _ z)).elim nl nf
  have e2:=un.keep p.1 p.2 e1 n1 nfr (by simp)
  cases q:B.get? p.1 with
  | none=>
   rcases gr p.1 p.2 e2 q with z | z
   ·exact absurd z nfr
   ·rw[e1] at z;cases z.1
  | some o=>
   have:=fl.1 _ _ q
   rw[e2] at this
   cases this
   rfl
 ·rcases gr b o q n with z | z
  ·exact .inl z
  ·exact .inr ⟨fresh b z.1,z.2⟩
end
theorem Mm {K:W.Frag}{h:Heap}{C:Addr}{bmB:qh}{newId:String}(KI:K.In h)(q:W.excIn K C bmB newId=true):
  ∃(bm:qh) (N:Addr) (nm qn:Str) (bs:qh) (hdd:Bool) (sn:qr) (su:qh) (ab:Bool) (co:Option Bool) (dd:Option Addr) (k0 k1 k2 k3 k5:Option Value) (mN:Str->Option Value),
   h.get? C=some (excClassObj nm qn C N bs bm hdd sn su ab co dd k0 k1 k2 k3 k5 newId)/\h.Ns N mN/\mN "__init__" = none/\OwnTail h bmB bm:=by
 unfold W.excIn at q
 split at q
 ·rename_i dd cdd sl lk
  split at q
  ·rename_i C1 bm k0 k1 k2 k3 nw k5 hmro hsl
   simp only[bP,ow,Bool.not_eq_true'] at q
   obtain⟨⟨⟨⟨⟨r1,r2⟩,hdel⟩,htl⟩,hns⟩,hini⟩:=q
   subst r1 r2
   cases cdd with
   | mk nm bs mro ns qn hdd sn su ab co del=>
    have e1:mro=.ref C1::bm:=hmro
    have e2:del=false:=hdel
    subst e1 e2
    have e3:sl=#[k0,k1,k2,k3,some (.builtin nw),k5]:=by cases sl with | mk l=>exact ce Array.mk hsl
    subst e3
    exact⟨bm,ns,nm,qn,bs,hdd,sn,su,ab,co,dd,k0,k1,k2,k3,k5,_,KI _ _ lk,.of_isNs (W.isNs_of_in KI hns),W.nsMap_none_of_in KI hns hini,W.tail_of_in KI htl⟩
  ·cases q
 ·cases q
abbrev RX:=List (Addr×Obj)->St->Hp->Prop
def XE (X:Cx)(r:RX)(e:Expr):Prop:=∀(pins:gV) (s:Shared) (σ:St) (H:Hp),Inv X pins σ H s->r pins σ H->wpAny (model X.prog X.w) X.A (eval e X.env) (λ_ _=>False) X.xe s
def XS (X:Cx)(r:RX)(st:Stmt):Prop:=∀(pins:gV) (s:Shared) (σ:St) (H:Hp),Inv X pins σ H s->r pins σ H->wpAny (model X.prog X.w) X.A (exec st X.env) (λ_ _=>False) X.xe s
def XSs (X:Cx)(r:RX)(st:qk):Prop:=∀(pins:gV) (s:Shared) (σ:St) (H:Hp),Inv X pins σ H s->r pins σ H->wpAny (model X.prog X.w) X.A (execs st X.env) (λ_ _=>False) X.xe s
structure CalX (P:Program)(w:World)(K:W.Frag)(mg:Str->Option Value)(base:Heap)(k:Nat)(x:Str)(ps:qr)(sp:Sp):Prop where
 ex:∃f fd,FnOk P w K mg base (CXW P w K) k f fd ps sp/\Binds K fd ps []/\W.keepIn K (.ref f)=true/\mg x=some (.ref f)
theorem Mp {P:Program}{w:World}{K:W.Frag}{mg:Str->Option Value}{base:Heap}{k:Nat}{x:Str}{ps:qr}{sp:Sp}{st:Stmt}{f:Addr}{fd:FuncData}(F:Fun K x x st f fd)
  (hm:mg x=some (.ref f)) (hb:Binds K fd ps []) (G:FnOk P w K mg base (CXW P w K) k f fd ps sp):CalX P w K mg base k x ps sp:=⟨f,fd,G,hb,F.kp,hm⟩
section
variable {X:Cx}{r r':RX}{e:Expr}{st:Stmt}{rest:qk}{pos:Pos}
theorem Mq (h:XE X r e)(hs:swapsWith e none pos.line X.env=pure false:=by rfl):XS X r (.Expr e pos):=λpins s σ H I q=>
 wpAny_Expr_any (thn (h pins s σ H I q) λ_ _ z=>z.elim) I.quiet hs
theorem ur (h:XS X r st):XSs X r (st::rest):=λpins s σ H I q=>ll (thn (h pins s σ H I q) λ_ _ z=>z.elim)
end
end L2
namespace MR
open PySem L2
def spX (C:MC)(mi:List PV->Option PV)(ro:Bool)(xi:List PV->Option Nat):Sp:=λvs H Q E=>spM C mi ro vs H Q E\/∃A ps c,Reps C A H vs ps/\xi ps=some c/\∀H',Same H H'->E (.ref (C.cl c)) none H'
def tX (b:BX)(G:qf)(W:List (Addr×Obj)->St->Hp->Nat->Prop)(xf:Env->Option Nat):RX:=λpins σ H=>∃Ow env c,ER b Ow G σ env H/\xf env=some c/\W pins σ H c
def WD (b:BX)(E:XK):List (Addr×Obj)->St->Hp->Nat->Prop:=λ_ _ _ c=>∀H1,Same b.H0 H1->E (.ref (b.C.cl c)) none H1
def WT (X:Cx)(b:BX):List (Addr×Obj)->St->Hp->Nat->Prop:=λpins σ H c=>∀H1 e s,Same H H1->Lies X pins σ H1 (.ref (b.C.cl c)) e s->X.xe e s
structure WOk (X:Cx)(b:BX)(W:List (Addr×Obj)->St->Hp->Nat->Prop):Prop where
 up:∀pins σ H H1 c,Same H H1->W pins σ H c->W pins σ H1 c
 go:∀pins σ H c H1 e s,Same b.H0 H->W pins σ H c->Same H H1->Lies X pins σ H1 (.ref (b.C.cl c)) e s->X.xe e s
 ex:X.ex=[]
theorem T3 {X:Cx}{b:BX}(h:X.ex=[]):WOk X b (WT X b):=⟨λpins σ H H1 c s w H2 e s' s2 L=>w H2 e s' (s.trans s2) L,λpins σ H c H1 e s _ w s1 L=>w H1 e s s1 L,h⟩
theorem T4 {P:Program}{w:World}{K:W.Frag}{mg:Str->Option Value}{base:Heap}{N:qr}{qual:Str}{scope:Scope}{f:Addr}{cd:Value}{A:Around}{outer:List PySem.Env}{s:Shared}{H:Hp}{E:XK}{b:BX}:
  WOk (gR (CXW P w K) P w K mg base N qual scope f cd A outer s H E) b (WD b E):=⟨λpins σ H H1 c s w=>w,λpins σ H c H1 e s s0 w s1 L=>DR L (w H1 (s0.trans s1)),rfl⟩
noncomputable def DX (ga:Env->Option (List PV))(xi:List PV->Option Nat)(env:Env):Option Nat:=(ga env).bind xi
@[simp] theorem U9 (ga:Env->Option (List PV))(xi:List PV->Option Nat)(env:Env):DX ga xi env=((ga env).bind xi):=id rfl
noncomputable def xIf (c:Env->Option Bool)(f g:Env->Option Nat)(env:Env):Option Nat:=(c env).bind λk=>if k=true then f env else g env
@[simp] theorem V2 (c:Env->Option Bool)(f g:Env->Option Nat)(env:Env):xIf c f g env=((c env).bind λk=>if k=true then f env else g env):=id rfl
noncomputable def Jj (f:Env->Option Out)(g:Env->Option Nat)(env:Env):Option Nat:=(f env).bind λo=>match o with
 | .nx e=>g e
 | _=>none
@[simp] theorem Vt (f:Env->Option Out)(g:Env->Option Nat)(env:Env):Jj f g env=((f env).bind λo=>match o with
 | .nx e=>g e
 | _=>none):=id rfl
noncomputable def xNo (env:Env):Option Nat:=none
@[simp] theorem V3 (env:Env):xNo env=none:=id rfl
section
variable {X:Cx}{b:BX}{G G1 L:qf}{ro:Bool}{W:List (Addr×Obj)->St->Hp->Nat->Prop}{e:Expr}{es:qo}{st:Stmt}{rest sa sb:qk}{pos p:Pos}{f g:Env->Option Nat}
theorem Mr (wo:WOk X b W){k j:Nat}{x:Str}{ps:qr}{mi:List PV->Option PV}{rc:Bool}{xi:List PV->Option Nat}{ga:Env->Option (List PV)}(c:CalX X.prog X.w X.K X.mg X.base k x ps (spX b.C mi rc xi))(hr:Room j X.A)(ha:SA X b G false (e::es) ga)
  (hle:k<=j:=by decide) (hgl:Gl X x:=by rfl) (hdb:(x == ("__debug__" : Str))=false:=by decide) (he:starEach (e::es) X.env=(false,eval e X.env)::starEach es X.env:=by rfl) (hpl:(backTo pos (starEach es X.env)).any (·.1)=false:=by rfl):
  XE X (tX b G W (DX ga xi)) (.Call (.Name x p) (e::es) [] pos):=by
 intro pins s σ H I ⟨Ow,env,c0,E,hx,hW⟩
 obtain⟨fa,fd,F,hb,kp,hm⟩:=c.ex
 obtain⟨qs,hga,hxi⟩:=aq hx
 refine fS (pB I hgl hm ?_ hdb)
 refine PySem.W.callWith_K (h₀:=X.base) I.ok.mod.kin kp (thn (ha pos pins s σ H (λvs H1=>Same H H1/\Reps b.C (ArA b Ow false H1) H1 vs qs) I ⟨Ow,env,qs,E,hga,λvs H1 s1 rr=>⟨s1,rr⟩⟩) λus s1 ⟨vs,H1,I1,r,sm,rr⟩=>⟨I1.kIn,?_⟩) he hpl
 have hsp:spX b.C mi rc xi vs H1 (λ_ _=>False) (λC d H2=>C=.ref (b.C.cl c0)/\Same H1 H2):=.inr ⟨Bs b Ow,qs,c0,yc rr,hxi,λH' s'=>⟨rfl,s'⟩⟩
 have hl:us.length=ps.length:=by rw[← r.length];exact F.len _ _ _ _ hsp
 have hbb:=hb s1 us I1.kIn (by rw[bE];exact hl)
 rw[bE] at hbb
 refine wpAny_call (mv (F.run X.A X.stack s1 H1 ⟨us,[]⟩ us vs _ _ (hr.mono hle) I1.env0 hbb r hsp) λres s' hq=>?_)
 cases res with
 | error ex=>
  have hq':CXW X.prog X.w X.K X.stack H1 s1 (λC d H2=>C=.ref (b.C.cl c0)/\Same H1 H2) ex s':=hq
  obtain⟨C,H2,Li,hC,s2⟩:=lies_of I1 wo.ex hq'
  subst hC
  exact wo.go pins σ H c0 H2 ex s' E.same hW (sm.trans s2) Li
 | ok fl=>
  cases fl with
  | ret u=>obtain⟨_,_,_,_,_,_,_,z⟩:=hq;exact z.elim
  | next=>exact hq.elim
  | brk=>exact hq.elim
  | cont=>exact hq.elim
theorem T5 (wo:WOk X b W){c:Expr}{k:Env->Option Bool}(hc:ST X b G c k)(ha:XSs X (tX b G W f) sa)(hb:XSs X (tX b G W g) sb):XS X (tX b G W (xIf k f g)) (.If c sa sb pos):=by
 intro pins s σ H I ⟨Ow,env,c0,E,hx,hW⟩
 obtain⟨kk,hk,hx⟩:=aq hx
 refine wpAny_If (thn (hc pins s σ H (λd H1=>d=kk/\Same H H1) I ⟨Ow,env,kk,E,hk,λH1 s1=>⟨rfl,s1⟩⟩) ?_)
 rintro d s1 ⟨H1,I1,hd,sm⟩
 subst hd
 cases d with
 | true=>exact ha pins s1 σ H1 I1 ⟨Ow,env,c0,E.up sm,hx,wo.up _ _ _ _ _ sm hW⟩
 | false=>exact hb pins s1 σ H1 I1 ⟨Ow,env,c0,E.up sm,hx,wo.up _ _ _ _ _ sm hW⟩
theorem Rt:XSs X (tX b G W xNo) rest:=λpins s σ H I ⟨Ow,env,c0,E,hx,hW⟩=>nomatch hx
theorem Jk {E0:XK}{h:Env->Option Out}(a:SS X b G G1 L ro st h)(c:XSs X (tX b G1 (WD b E0) g) rest):XSs X (tX b G (WD b E0) (Jj h g)) (st::rest):=by
 intro pins s σ H I ⟨Ow,env,c0,E,hx,hW⟩
 obtain⟨o,ho,hx⟩:=aq hx
 cases o with
 | nx e1=>
  refine ll (thn (a pins s σ H { nx:=fun σ1 H1=>tX b G1 (WD b E0) g pins σ1 H1,rt:=λ_ _=>False } I ⟨Ow,env,_,E,ho,λOw' σ' H' E' _=>⟨Ow',e1,c0,E',hx,hW⟩⟩) λfl s1 hs=>?_)
  cases fl with
  | next=>obtain⟨σ1,H1,I1,q⟩:=hs;exact c pins s1 σ1 H1 I1 q
  | ret u=>obtain⟨_,_,_,_,_,q⟩:=hs;exact q.elim
  | brk=>obtain⟨_,_,_,q⟩:=hs;exact q.elim
  | cont=>obtain⟨_,_,_,q⟩:=hs;exact q.elim
 | rt v=>cases hx
 | bk e1=>cases hx
 | ct e1=>cases hx
end
end MR
namespace MR
open PySem L2 PyProof.Rows PySem.Spec
noncomputable def zA (ga:Env->Option (List PV))(c:Nat)(env:Env):Option Nat:=(ga env).bind λqs=>if qs.length<=1000 then some c else none
@[simp] theorem Uj (ga:Env->Option (List PV))(c:Nat)(env:Env):zA ga c env=((ga env).bind λqs=>if qs.length<=1000 then some c else none):=id rfl
section
variable {P:Program}{w:World}{K:W.Frag}{mg:Str->Option Value}{base:Heap}{N:qr}{qual:Str}{scope:Scope}{f:Addr}{cd:Value}{A:Around}{outer:List PySem.Env}{s:Shared}{H:Hp}{E:XK}
theorem Jl (c:Nat){b:BX}{G:qf}{e:Expr}{es:qo}{x:Str}{np cpos pos:Pos}{ga:Env->Option (List PV)}{B newId initId:String}{bmB:qh}(FB:ExcBaseFacts B newId initId bmB)
  (hC:W.excIn K (b.C.cl c) bmB newId=true) (hm:mg x=some (.ref (b.C.cl c))) (ha:SA (gR (CXW P w K) P w K mg base N qual scope f cd A outer s H E) b G false (e::es) ga)
  (hgl:Gl (gR (CXW P w K) P w K mg base N qual scope f cd A outer s H E) x:=by rfl) (hdb:(x == ("__debug__" : Str))=false:=by decide)
  (he:starEach (e::es) (envOfC qual scope s.heap.objs.size f cd)=(false,eval e (envOfC qual scope s.heap.objs.size f cd))::starEach es (envOfC qual scope s.heap.objs.size f cd):=by rfl)
  (hpl:(backTo cpos (starEach es (envOfC qual scope s.heap.objs.size f cd))).any (·.1)=false:=by rfl):
  XS (gR (CXW P w K) P w K mg base N qual scope f cd A outer s H E) (tX b G (WD b E) (zA ga c)) (.Raise (some (.Call (.Name x np) (e::es) [] cpos)) none pos):=by
 intro pins s1 σ H1 I ⟨Ow,env,c0,Er,hx,hW⟩
 obtain⟨qs,hga,hx⟩:=aq hx
 split at hx
 ·rename_i hql
  cases hx
  obtain⟨bm,Nn,nm,qn,bs,hdd,sn,su,ab,co,dd,k0,k1,k2,k3,k5,mN,hCo,hN,hni,T⟩:=Mm I.ok.mod.kin hC
  refine wpAny_Raise_call_subT (C:=b.C.cl c) (nm:=nm) (q:=qn) (N:=Nn) (bs:=bs) (bm:=bm) (hdct:=hdd) (sn:=sn) (sub:=su) (ab:=ab) (col:=co) (dd:=dd) (k0:=k0) (k1:=k1) (k2:=k2) (k3:=k3) (k5:=k5)
   FB (mN:=mN) (T.hasType FB.hasBase) (I.ok.hd rfl) ?_ hni (pB I hgl hm ⟨rfl,?_⟩ hdb)
  ·show (backTo cpos (starEach (e::es) (envOfC qual scope s.heap.objs.size f cd))).any (·.1)=false
   rw[he]
   show (false||(backTo cpos (starEach es (envOfC qual scope s.heap.objs.size f cd))).any (·.1))=false
   rw[hpl];rfl
  have h1:=ha cpos pins s1 σ H1 (λvs H2=>Same H1 H2/\vs.length<=1000) I ⟨Ow,env,qs,Er,hga,λvs H2 s2 rr=>⟨s2,by rw[rr.length];exact hql⟩⟩
  have h2:wpAny (model P w) (A.deeper (envOfC qual scope s.heap.objs.size f cd)) (spliced (backTo cpos (starEach (e::es) (envOfC qual scope s.heap.objs.size f cd)))) _ _ s1:=h1
  show wpAny (model P w) (A.deeper (envOfC qual scope s.heap.objs.size f cd)) (evalArgs (.ref (b.C.cl c)) true (backTo cpos (starEach (e::es) (envOfC qual scope s.heap.objs.size f cd))) []) _ _ s1
  rw[he] at h2 ⊢
  refine kg (ef h2 (λus s2 ⟨vs,H2,I2,r,sm,hl⟩=>⟨rfl,by rw[← r.length];exact small hl,I2.bk _ _ hCo,hN.keeps I2.bk,T.keeps I2.bk,λh' ex hmk=>?_⟩) λ_ _ y=>y)
  show wpAny (model P w) (A.deeper (envOfC qual scope s.heap.objs.size f cd)) (leaving (envOfC qual scope s.heap.objs.size f cd) (.ref ex)) (λ_ s''=>CXW P w K outer H s E (.ref ex) s'') (λe' s''=>CXW P w K outer H s E e' s'') { s2 with heap:=h' }
  refine wpAny_leaves_madeW (base:=W.hideAll s2.heap (frs (envOfC qual scope s.heap.objs.size f cd::outer))) (h:=s2.heap) I2.ok.frames rfl (λb o q=>mM _ q) (W.funFrames_hide I2.stack λen hen a hfa=>nb.mpr ⟨en,hen,hfa⟩) hmk λh3 t fl tup nt up=>?_
  have gr:Grd (W.hideAll s2.heap (frs (envOfC qual scope s.heap.objs.size f cd::outer))) s.heap s2.heap H2 (envOfC qual scope s.heap.objs.size f cd::outer):=λa o q n=>by
   by_cases ha:a∈frs (envOfC qual scope s.heap.objs.size f cd::outer)
   ·exact .inl ha
   ·rw[pp _ q ha] at n;cases n
  obtain⟨u2,hok2,gr2⟩:=BV I2 (λa o q=>mM _ q) fl.1 gr ((Heap.UpToSlots.of_keeps hmk.keeps).trans up)
  have nw:=hmk.new
  have na:s.heap.get? ex=none:=by
   cases z:s.heap.get? ex with
   | none=>rfl
   | some o=>
    obtain⟨_,y⟩:=I2.base.there ex o z (λz=>nomatch z)
    rw[nw] at y;cases y
  have nH:H2 ex=none:=by
   cases z:H2 ex with
   | none=>rfl
   | some o=>
    obtain⟨_,y⟩:=(I2.hok ex o z).there
    rw[nw] at y;cases y
  exact⟨ex,.ref (b.C.cl c),.ref t,_,H2,rfl,I2.os,I2.bare,u2,hok2,fl,na,nH,gr2,hW H2 (Er.same.trans sm)⟩
 ·cases hx
noncomputable def v8 (n k:Nat)(f:Env->Option Nat)(ps:List PV):Option Nat:=if ps.length=k then f (ps.map some++List.replicate (n - k) none) else none
@[simp] theorem Vu (n k:Nat)(f:Env->Option Nat)(ps:List PV):v8 n k f ps=(if ps.length=k then f (ps.map some++List.replicate (n - k) none) else none):=id rfl
theorem Ms {C:MC}{n k:Nat}{ro:Bool}{g:Env->Option Out}{xf:Env->Option Nat}{ps:qr}(hk:ps.length=k){vs:List V}{H:Hp}{Q:VK}{E:XK}(h:spX C (bI n k ro g) ro (v8 n k xf) vs H Q E):vs.length=ps.length:=by
 rcases h with ⟨A,qs,p,r,hm,_⟩ | ⟨A,qs,c,r,hm,_⟩
 ·unfold bI at hm
  split at hm
  ·rename_i hl;rw[r.length,hl,hk]
  ·cases hm
 ·unfold v8 at hm
  split at hm
  ·rename_i hl;rw[r.length,hl,hk]
  ·cases hm
theorem Jm {C:MC}{n k:Nat}{G G' L:qf}{ro:Bool}{body:qk}{g:Env->Option Out}{xf:Env->Option Nat}(hN:N.length=n)(hk:k<=n)(hG:(G.all λi=>decide (k<=i))=true)
  (hb:∀B H',SSs (gR (CXW P w K) P w K mg base N qual scope f cd A outer s H E).nox ⟨C,B,H',λ_=>none⟩ G G' L ro body g)
  (hx:∀B H',XSs (gR (CXW P w K) P w K mg base N qual scope f cd A outer s H E) (tX ⟨C,B,H',λ_=>none⟩ G (WD ⟨C,B,H',λ_=>none⟩ E) xf) body)
  {vs:List V}{Q:VK}(h:spX C (bI n k ro g) ro (v8 n k xf) vs H Q E):∃t,PSs (gR (CXW P w K) P w K mg base N qual scope f cd A outer s H E) body t/\t { nx:=λ_ H'=>Q .non H',rt:=Q } (L2.start N vs) H:=by
 rcases h with h | ⟨B,ps,c,r,hm,kk⟩
 ·obtain⟨t,h1,h2⟩:=Bv (X:=(gR (CXW P w K) P w K mg base N qual scope f cd A outer s H E).nox) hN hk hG hb h
  exact⟨t,h1.nox,h2⟩
 ·refine⟨λ_ σ H'=>tX ⟨C,B,H,λ_=>none⟩ G (WD ⟨C,B,H,λ_=>none⟩ E) xf [] σ H',λpins s1 σ H1 D I q=>?_,?_⟩
  ·obtain⟨Ow,env,c0,Er,hx1,hW⟩:=q
   exact ef (hx B H pins s1 σ H1 I ⟨Ow,env,c0,Er,hx1,hW⟩) (λ_ _ z=>z.elim) λ_ _ z=>z
  ·unfold v8 at hm
   split at hm
   ·rename_i hl
    exact⟨_,_,c,zc (N:=N) (G:=G) r (λi hi=>by rw[hl];simpa using cy.mp hG i hi) (by omega),by rw[hN,hl];exact hm,λH1 s1=>kk H1 s1⟩
   ·cases hm
end
section
variable {P:Program}{w:World}{K:W.Frag}{mg:Str->Option Value}{base:Heap}
theorem Mt {x qual:Str}{st:Stmt}{f:Addr}{fd:FuncData}{N ps:qr}{k:Nat}{sp:Sp}(F:Fun K x qual st f fd)(S:FnScope N ps (aF st))(len:∀vs H Q E,sp vs H Q E->vs.length=ps.length)
  (hbody:∀(cdv:Value) (A:Around) (outer:List PySem.Env) (s:Shared) (H:Hp) (vs:List V) (Q:VK) (E:XK),Room k (A.deeper (envOfC qual (aF st) s.heap.objs.size f cdv))->sp vs H Q E->
   ∃t,PSs (gR (CXW P w K) P w K mg base N qual (aF st) f cdv A outer s H E) (eY st) t/\t { nx:=λ_ H'=>Q .non H',rt:=Q } (start N vs) H):FnOk P w K mg base (CXW P w K) (k+1) f fd ps sp:=by
 obtain⟨oc,od,kV,doc,pm,an,cdv,ct,osl,rfl,lk,hcd⟩:=F.ex
 exact J3 lk hcd S len λA outer s H vs Q E hr hsp=>hbody cdv A outer s H vs Q E hr hsp
theorem Mu {C:MC}{k:Nat}{f:Addr}{fd:FuncData}{ps:qr}{mi:List PV->Option PV}{ro:Bool}{xi:List PV->Option Nat}(F:FnOk P w K mg base (CXW P w K) k f fd ps (spX C mi ro xi)):FnOk P w K mg base CX0 k f fd ps (spM C mi ro):=by
 refine⟨λvs H Q E h=>F.len vs H Q E (.inl h),λA outer s H args us vs Q E hr e0 hb hv hs=>?_⟩
 refine mv (F.run A outer s H args us vs Q E0 hr e0 hb hv (.inl hs)) λr s' h=>?_
 cases r with
 | ok fl=>cases fl <;> exact h
 | error e=>
  obtain⟨_,_,_,_,_,_,_,_,_,_,_,_,_,_,z⟩:=(show CXW P w K outer H s E0 e s' from h)
  exact z.elim
theorem Jo {C:MC}{k:Nat}{x:Str}{ps:qr}{mi:List PV->Option PV}{ro:Bool}{xi:List PV->Option Nat}(c:CalX P w K mg base k x ps (spX C mi ro xi)):Cal P w K mg base k x ps (spM C mi ro):=by
 obtain⟨f,fd,F,hb,kp,hm⟩:=c.ex
 exact⟨f,fd,Mu F,hb,kp,hm⟩
end
end MR
namespace L2
open PySem PySem.Spec PyProof.Rows
def Cx.hd1 (X:Cx)(a:Addr):Cx:={ X with A:=X.A.mark (some (.ref a)),calm:=false,xe:=λ_ _=>False }
section
variable {X:Cx}{pins:gV}{σ:St}{H:Hp}{s:Shared}
theorem Inv.mark1 (I:Inv X pins σ H s)(a:Addr):Inv (X.hd1 a) pins σ H s:=
 ⟨⟨I.ok.mod,I.ok.kind,I.ok.glob,I.ok.blt,I.ok.above,I.ok.inj,I.ok.has,I.ok.cab,(λz=>nomatch z),I.ok.frames,I.ok.stk,I.ok.exf,I.ok.bs,I.ok.bsz,I.ok.noex,I.ok.exfs,I.ok.funs,I.ok.frf⟩,I.os,I.bare,I.base,I.loc,I.cell,I.free,I.freeC,I.pin,I.hok,I.len⟩
theorem Inv.unmark1 (ok:X.Ok){a:Addr}(I:Inv (X.hd1 a) pins σ H s):Inv X pins σ H s:=⟨ok,I.os,I.bare,I.base,I.loc,I.cell,I.free,I.freeC,I.pin,I.hok,I.len⟩
theorem BW (I:Inv X pins σ H s)(hex:X.ex=[]){B h2:Heap}(bs:∀b o,B.get? b=some o->s.heap.get? b=some o)(st:B.StaysIn h2)(gr:Grd B X.s₀.heap s.heap H X.stack)(up:s.heap.UpToSlots h2)
  (pn:∀p∈X.pn++pins,B.get? p.1=some p.2):Inv X pins σ H { s with heap:=h2 }:=by
 have u:=I.base
 have kept:∀b o,s.heap.get? b=some o->b∉frs X.stack->(X.s₀.heap.get? b≠none\/H b≠none)->h2.get? b=some o:=λb o e n1 n2=>by
  cases q:B.get? b with
  | none=>exact((gr b o e q).elim n1 λz=>n2.elim (λy=>y z.1) λy=>y z.2).elim
  | some o'=>
   have:=bs b o' q
   rw[e] at this
   cases this
   exact st b o q
 have old:∀b o,X.s₀.heap.get? b=some o->b∉X.fs->b∉frs X.stack:=λb o e n z=>by
  rcases aw.mp (I.stkSub b z) with y | y
  ·subst y;exact absurd (bv (ay e) I.ok.above) (dv _)
  ·exact n y
 have cells:∀c v,s.heap.IsCell c v->h2.IsCell c v:=by
  rintro c v ⟨o,ho,hd⟩
  obtain⟨sl,e⟩:=up c o ho λvs z=>by rw[hd] at z;cases z
  exact⟨_,e,hd⟩
 refine⟨I.ok,I.os,I.bare,⟨λb o q n hb hx=>?_,λb o q n hb hx=>?_,u.free,λb o q hx=>?_,u.tups,u.frzs,u.tbls⟩,?_,λx c e=>?_,I.free,I.freeC,λp hp=>?_,λb v q=>?_,I.len⟩
 ·exact kept b o (u.keep b o q n hb hx) (old b o q hb) (.inl (by rw[q];exact λz=>nomatch z))
 ·obtain⟨sl,e1⟩:=u.slot b o q n hb hx
  obtain⟨_,o',e',hd⟩:=I.funs.mem hb
  rw[e1] at e'
  cases e'
  obtain⟨sl',e2⟩:=up b _ e1 hd
  exact⟨sl',e2⟩
 ·obtain⟨o',e1⟩:=u.there b o q hx
  by_cases hb:b∈frs X.stack
  ·obtain⟨_,o2,e2,hd⟩:=I.stack.mem hb
   rw[e1] at e2
   cases e2
   obtain⟨sl,e3⟩:=up b _ e1 hd
   exact⟨_,e3⟩
  ·exact⟨o',kept b o' e1 hb (.inl (by rw[q];exact λz=>nomatch z))⟩
 ·obtain⟨m,hn,hl⟩:=I.loc
  refine⟨m,up.ns hn,λi x v e1 e2 e3=>?_⟩
  obtain⟨w',r,l⟩:=hl i x v e1 e2 e3
  refine⟨w',r,?_⟩
  rcases l with l | ⟨k,c,e,z⟩
  ·exact .inl l
  ·exact .inr ⟨k,c,e,cells c _ z⟩
 ·obtain⟨v,z⟩:=I.cell x c e
  exact⟨v,cells c v z⟩
 ·obtain⟨_,n,nl,nf,d⟩:=I.pin p hp
  exact⟨st _ _ (pn p hp),n,nl,nf,d⟩
 ·refine(I.hok b v q).stay (λc x hc r=>?_) (λ_ q=>q) λ_ _ q=>q
  have hn:H c≠none:=by
   rcases hc with rfl | hc
   ·rw[q];exact λz=>nomatch z
   ·rw[hc];exact λz=>nomatch z
  exact kept c x r (λz=>hn (I.stkFree c z)) (.inr hn)
end
end L2
namespace MR
open PySem L2 PyProof.Rows PySem.Spec
theorem Mv {X:Cx}{b:BX}{G:qf}{body:qk}{tn:TS}{xf:Env->Option Nat}{cx wn:Str}{Cc:Addr}{iw jj:Nat}{kb:Bool}{np p1 p2 p3 hp pos:Pos}(hX:∀e s,X.xe e s->False)(hex:X.ex=[])(hst:X.stack=X.env::X.outer)(hfr:X.env.frame=some X.env.locals)(nd:X.N.Nodup)
  (hw:X.N[iw]?=some wn) (hwl:Loc X.env.scope wn) (hgl:Gl X cx) (hm:X.mg cx=some (.ref Cc)) (h1:PSs X body tn) (h2:∀E',XSs (X.wish E') (tX b G (WT (X.wish E') b) xf) body)
  (hd:(cx == ("__debug__" : Str))=false:=by decide)
  (hsw:swapsWith (.Constant (.bool kb) jj p2) (some (.Name wn p1)) p3.line X.env=pure false:=by rfl) (hfn:X.fn wn=true\/X.env.scope.names.lookup wn=some .local:=by first | exact .inl rfl | exact .inr rfl | assumption):
  PS X (.Try body [.ExceptHandler (some (.Name cx np)) none [.Assign [.Name wn p1] (.Constant (.bool kb) jj p2) p3] hp] [] [] pos) (λD σ H=>tn D σ H\/∃Ow env c,ER b Ow G σ env H/\xf env=some c/\W.exmOne X.K (.ref (b.C.cl c)) (.ref Cc)=some true /\
   ∀H1,Same H H1->D.nx (σ.set iw (some (.bl kb))) H1):=by
 intro pins s σ H D I q
 rcases q with q | ⟨Ow,env,c,E,hxf,hexm,kk⟩
 ·refine wpAny_Try_except (ef (h1 pins s σ H D I q) (λf s1 hs=>?_) λe s1 hs=>(hX e s1 hs).elim)
  cases f with
  | next=>exact kD hs
  | ret u=>exact hs
  | brk=>exact hs
  | cont=>exact hs
 ·refine wpAny_Try_except (ef (h2 (λe s₁=>wpAny (model X.prog X.w) X.A (noteFrame e X.env) (λ_ s₂=>wpAny (model X.prog X.w) X.A (setFlight e none) (λ_ s₃=>wpAny (model X.prog X.w) X.A (handleBy e X.env [.ExceptHandler (some (.Name cx np)) none [.Assign [.Name wn p1] (.Constant (.bool kb) jj p2) p3] hp]) (SP X pins D) X.xe s₃) X.xe s₂) X.xe s₁) pins s σ H (I.wish _) ⟨Ow,env,c,E,hxf,λH1 ex s1 sm Li=>?_⟩) (λ_ _ z=>z.elim) λ_ _ z=>z)
  obtain⟨a,a0,B,rfl,fl,na,nH,pn,gr⟩:=Li.ex
  have I1:Inv X pins σ H1 s1:=Li.inv.wish X.xe
  have fl:Heap.FlyingW B X.stack a (.ref (b.C.cl c)) a0 s1.heap:=fl
  have pn:∀p∈X.pn++pins,B.get? p.1=some p.2:=pn
  have gr:Grd B X.s₀.heap s1.heap H1 X.stack:=gr
  rw[hst] at fl
  have ok:=I.ok
  have frm:X.A.frames=some (X.env::X.outer):=by rw[← hst];exact ok.frames
  show wpAny (model X.prog X.w) X.A (noteFrame (.ref a) X.env) _ X.xe s1
  refine wpAny_looks_onW frm hfr fl λh4 held4 up4=>?_
  refine wpAny_landsW held4 λh5 fl5 up5=>?_
  have up45:=up4.trans up5
  have I5:Inv X pins σ H1 { s1 with heap:=h5 }:=BW I1 hex (λb o q=>fl.1 b o q) fl5.1 gr up45 pn
  obtain⟨oe,vs,hoe,hoc,hod,_⟩:=fl5.first
  refine wpAny_handleBy_cons (codeAny_handlers_test ?_) (by intro q;cases q)
  refine pB (X:=X.hd1 a) (I5.mark1 a) hgl hm ?_ hd
  have LT:W.Looks (model X.prog X.w) h5 (typeOf (.ref a)) (.ref (b.C.cl c)):=hoc▸(W.Looks.ld hoe).andThen .now
  refine W.Looks.here (W.exm_one I5.kIn LT hexm) ?_
  show codeAny (model X.prog X.w) (X.A.mark (some (.ref a))) (.handlers (.ref a) [.ExceptHandler none none [.Assign [.Name wn p1] (.Constant (.bool kb) jj p2) p3] hp] X.env) _ { s1 with heap:=h5 }
  refine codeAny_handlers_suite ?_
  refine lands_againW fl5 λh6 fl6 up6=>?_
  have I6:Inv X pins σ H1 { s1 with heap:=h6 }:=BW I1 hex (λb o q=>fl.1 b o q) fl6.1 gr (up45.trans up6) pn
  have I7:=I6.mark1 a
  have st:=vI (uJ (X:=X.hd1 a) (pos':=p1) (pos:=p3) nd hw hwl (JW (X:=X.hd1 a) (b:=kb) (j:=jj) (pos:=p2)) hsw hfn)
  refine ef (st pins _ _ _ { nx:=fun σ9 H9=>σ9=σ.set iw (some (.bl kb))/\H9=H1,rt:=λ_ _=>False } I7 ⟨rfl,rfl⟩) (λf s9 hs=>?_) λ_ _ z=>z.elim
  cases f with
  | next=>
   obtain⟨σ9,H9,I9,e1,e2⟩:=hs
   subst e1 e2
   exact⟨_,_,I9.unmark1 ok,kk _ sm⟩
  | ret u=>obtain⟨_,_,_,_,_,z⟩:=hs;exact z.elim
  | brk=>obtain⟨_,_,_,z⟩:=hs;exact z.elim
  | cont=>obtain⟨_,_,_,z⟩:=hs;exact z.elim
noncomputable def DY (f:Env->Option Out)(xf:Env->Option Nat)(c0 iw:Nat)(v:PV)(env:Env):Option Out:=match xf env with
 | some c=>if c=c0/\iw < env.length then some (.nx (env.set iw (some v))) else none
 | none=>f env
@[simp] theorem Jp (f:Env->Option Out)(xf:Env->Option Nat)(c0 iw:Nat)(v:PV)(env:Env):DY f xf c0 iw v env=(match xf env with
 | some c=>if c=c0/\iw < env.length then some (.nx (env.set iw (some v))) else none
 | none=>f env):=id rfl
theorem Ru {X:Cx}{b:BX}{G L:qf}{body:qk}{f:Env->Option Out}{xf:Env->Option Nat}{cx wn:Str}{Cc:Addr}(iw c0:Nat){jj:Nat}{kb:Bool}{np p1 p2 p3 hp pos:Pos}(nd:X.N.Nodup)
  (hm:X.mg cx=some (.ref Cc)) (hexm:W.exmOne X.K (.ref (b.C.cl c0)) (.ref Cc)=some true) (h1:SSs X b G G L false body f) (h2:∀E',XSs (X.wish E') (tX b G (WT (X.wish E') b) xf) body)
  (hG:iw∉G:=by decide) (hfx:b.fx iw=none:=by first | rfl | assumption)
  (hX:∀e s,X.xe e s->False:=by exact λ_ _ z=>z) (hex:X.ex=[]:=by rfl) (hst:X.stack=X.env::X.outer:=by rfl) (hfr:X.env.frame=some X.env.locals:=by rfl)
  (hw:X.N[iw]?=some wn:=by rfl) (hwl:Loc X.env.scope wn:=by first | exact g6 rfl | exact fm rfl) (hgl:Gl X cx:=by rfl)
  (hd:(cx == ("__debug__" : Str))=false:=by decide)
  (hsw:swapsWith (.Constant (.bool kb) jj p2) (some (.Name wn p1)) p3.line X.env=pure false:=by rfl) (hfn:X.fn wn=true\/X.env.scope.names.lookup wn=some .local:=by first | exact .inl rfl | exact .inr rfl | assumption):
  SS X b G G L false (.Try body [.ExceptHandler (some (.Name cx np)) none [.Assign [.Name wn p1] (.Constant (.bool kb) jj p2) p3] hp] [] [] pos) (DY f xf c0 iw (.bl kb)):=by
 intro pins s σ H D I ⟨Ow,env,o,E,hq,kk⟩
 refine Mv hX hex hst hfr nd hw hwl hgl hm h1 h2 hd hsw hfn pins s σ H D I ?_
 rw[Jp] at hq
 cases q:xf env with
 | some c=>
  rw[q] at hq
  have hq:(if c=c0/\iw < env.length then some (Out.nx (env.set iw (some (.bl kb)))) else none)=some o:=hq
  by_cases hc:c=c0/\iw < env.length
  ·rw[bp hc] at hq
   cases hq
   obtain⟨hc,hl⟩:=hc
   subst hc
   exact .inr ⟨Ow,env,c,E,q,hexm,λH1 sm=>kk Ow _ _ ((E.up sm).set hG (.bl kb) hfx) (Ex.of_same sm)⟩
  ·rw[a9 hc] at hq
   cases hq
 | none=>
  rw[q] at hq
  exact .inl ⟨Ow,env,o,E,hq,kk⟩
end MR
namespace MR
open PySem L2
theorem PS.nox {X:Cx}{st:Stmt}{t:TS}(h:PS X.nox st t):PS X st t:=λpins s σ H D I hw=>ef (h pins s σ H D (I.wish _) hw) (λ_ _ q=>q.unwish) λ_ _ z=>z.elim
end MR
namespace MR
open PySem L2 PyProof.Rows PySem.Spec
theorem csc {osc scope:Scope}{ON N:qr}{cap:List (Option Nat)}(h1:scope.kind=.function:=by rfl)(h2:∀y∈scope.names,y.2≠.cell:=by decide +kernel)(h3:∀y∈scope.names,y.2=.local->scope.names.lookup y.1=some .local:=by decide +kernel)
  (h4:∀y∈scope.names,y.2=.free->osc.names.lookup y.1=some .cell\/osc.names.lookup y.1=some .free:=by decide +kernel) (h5:xX scope ON N cap=true:=by decide +kernel):CSc osc scope ON N cap:=⟨h1,h2,h3,h4,h5⟩
theorem fsc {N P:qr}{sc:Scope}(h1:sc.kind=.function:=by rfl)(h2:sc.isCoroutine=false:=by rfl)(h3:sc.isGenerator=false:=by rfl)(h4:N.Nodup:=by decide +kernel)(h5:N.take P.length=P:=by rfl)
  (h6:∀x∈P,sc.names.lookup x=some .local\/sc.names.lookup x=some .cell:=by decide +kernel) (h7:∀y∈sc.names,y.2≠.free:=by decide +kernel):FnScope N P sc:=⟨h1,h2,h3,h4,h5,h6,h7⟩
theorem iT {X:Cx}{N:qr}{scope:Scope}{C s H fp}{x:Str}{pos:Pos}(i:Nat)(hN:N.Nodup:=by decide +kernel)(hi:N[i]?=some x:=by rfl)(hx:Loc (X.comp N scope C s H fp).env.scope x:=by exact g6 rfl)
  (hf:(X.comp N scope C s H fp).fn x=true\/(X.comp N scope C s H fp).env.scope.names.lookup x=some .local:=by first | exact .inl rfl | exact .inr rfl | assumption):PG (X.comp N scope C s H fp) (.Name x pos) (sV i):=vJ hN hi hx hf
section
variable {P:Program}{w:World}{K:W.Frag}{mg:Str->Option Value}{base:Heap}
theorem fok {x qual:Str}{st:Stmt}{f:Addr}{fd:FuncData}{N ps:qr}{k n kk:Nat}{C:MC}{G G' L:qf}{ro:Bool}{g:Env->Option Out}(F:Fun K x qual st f fd)(S:FnScope N ps (aF st))
  (hb:∀(cdv:Value) (A:Around) (outer:List PySem.Env) (s:Shared) (H:Hp) (E:XK),Room k (A.deeper (envOfC qual (aF st) s.heap.objs.size f cdv))->∀B H',SSs (gR CX0 P w K mg base N qual (aF st) f cdv A outer s H E).nox ⟨C,B,H',λ_=>none⟩ G G' L ro (eY st) g)
  (hp:kk=ps.length:=by rfl) (hN:N.length=n:=by rfl) (hk:kk<=n:=by decide) (hG:(G.all λi=>decide (kk<=i))=true:=by decide):FnOk P w K mg base CX0 (k+1) f fd ps (spM C (bI n kk ro g) ro):=
 F.ok S (λvs H Q E h=>(L_ h).trans hp) λcdv A outer s H vs Q E hr h=>Bv hN hk hG (λB H'=>hb cdv A outer s H E hr B H') h
end
end MR
namespace L2
open PySem MR
section
variable {K:W.Frag}{x q:Str}{st:Stmt}{f:Addr}{fd:FuncData}{ps:qr}(F:Fun K x q st f fd)
include F
theorem Fun.bd1 (hl:ps.length=1:=by rfl)(h:∀k d p n c t a,bindArgs (W.fnOf x q (ir st) (eY st) (aF st) .none k d p n c t) ⟨[a],[]⟩=pure (ps.zip [a]):=by intros;rfl):Binds K fd ps []:=F.binds λk d p n c t us e=>Rc us (e.trans hl) (h k d p n c t)
theorem Fun.bd2 (hl:ps.length=2:=by rfl)(h:∀k d p n c t a b,bindArgs (W.fnOf x q (ir st) (eY st) (aF st) .none k d p n c t) ⟨[a,b],[]⟩=pure (ps.zip [a,b]):=by intros;rfl):Binds K fd ps []:=F.binds λk d p n c t us e=>Rf us (e.trans hl) (h k d p n c t)
theorem Fun.bd3 (hl:ps.length=3:=by rfl)(h:∀k d p n c t a b g,bindArgs (W.fnOf x q (ir st) (eY st) (aF st) .none k d p n c t) ⟨[a,b,g],[]⟩=pure (ps.zip [a,b,g]):=by intros;rfl):Binds K fd ps []:=F.binds λk d p n c t us e=>Rg us (e.trans hl) (h k d p n c t)
theorem Fun.bd4 (hl:ps.length=4:=by rfl)(h:∀k d p n c t a b g i,bindArgs (W.fnOf x q (ir st) (eY st) (aF st) .none k d p n c t) ⟨[a,b,g,i],[]⟩=pure (ps.zip [a,b,g,i]):=by intros;rfl):Binds K fd ps []:=F.binds λk d p n c t us e=>Rh us (e.trans hl) (h k d p n c t)
theorem Fun.bd5 (hl:ps.length=5:=by rfl)(h:∀k d p n c t a b g i j,bindArgs (W.fnOf x q (ir st) (eY st) (aF st) .none k d p n c t) ⟨[a,b,g,i,j],[]⟩=pure (ps.zip [a,b,g,i,j]):=by intros;rfl):Binds K fd ps []:=F.binds λk d p n c t us e=>U6 us (e.trans hl) (h k d p n c t)
end
end L2
namespace My
open PySem L2 MR
noncomputable def dU:PV:=.ktp [.int 0,.int 0,.int 0]
noncomputable def tb_bool:List (String×Bool):=[("bool",true),("int",false)]
def tb_int:List (String×Bool):=[("int",true)]
def tb_list:List (String×Bool):=[("list",true)]
def tb_tuple:List (String×Bool):=[("tuple",true)]
def qP:=(aW (b2 e_ (b2 bA (b2 bA (b2 jx (bV 0) (bC (.int 48271))) (b2 jx (b2 jx (bV 1) (bV 1)) (bC (.int 69621)))) (bC (.int 5))) (bC (.int 2147483647))))
def cA:=bI 2 2 false qP
def dN:=(aJ 3 (b2 bA (bV 3) (b2 ixP (bC (.str "u-x")) (b2 e_ (b2 fJ (bV 0) (b2 bA (b2 bA (bC (.int 7)) (b2 jx (bC (.int 5)) (bV 2))) (b2 jx (bC (.int 11)) (bV 4)))) (bC (.int 3))))))
def dO:=(aB (aJ 3 (bC (.str ""))) (aB (cj (gN 4) (iR1 (b2 bA (bC (.int 1)) (b2 e_ (b2 fJ (bV 0) (b2 bA (bC (.int 4)) (b2 jx (bC (.int 3)) (bV 2)))) (bC (.int 4))))) [4] dN) (sIf (tV (b2 pI (bV 3) (bV 1))) (cN gC 1 (bV 3)) sNx)))
def mR:=(aB (aJ 1 (b_ aD)) (aB (cj (gN 2) (iR1 (b2 bA (bC (.int 1)) (b2 e_ (bV 0) (bC (.int 4))))) [2,3,4] dO) (aW (b1 u0 (bV 1)))))
def dF:=bI 5 1 false mR
def jQ:=(aB (aJ 4 (aM cA (ak (bV 3) (ak (bV 2) aD)))) (cN gC 1 (cI (ak (aM dF (ak (b2 fJ (bV 4) (bC (.int 2))) aD)) (ak (b2 eqQ (b2 e_ (bV 4) (bC (.int 2))) (bC (.int 1))) aD)))))
def qQ:=(aB (aJ 1 (b_ aD)) (aB (cj (gT [2,3]) (iE2 (bV 0)) [2,3,4] jQ) (aW (b1 u0 (bV 1)))))
def fO:=bI 5 1 false qQ
def kh:=(cI (ak (bV 1) (ak (bV 2) (ak (bV 0) aD))))
def gF:=(cN ul 1 (eQ [none,some 2,some 4] (iR2 (bC (.int 1)) (b1 lenV (bV 5))) (gN 0) fD kh))
def kj:=(aB (cN gC 1 (cI (ak (bV 2) (ak (bC (.int 0)) (ak (bC (.int 0)) aD))))) (cj (gT [4,5]) (iE2 (b2 ixP (bV 3) (bC (.int 0)))) [4,5] gF))
def rM:=(aB (aJ 1 (b_ aD)) (aB (cj (gT [2,3]) (iE2 (bV 0)) [2,3,4,5] kj) (aW (bV 1))))
def iU:=bI 6 1 false rM
def mU:=(aW (cI (ak (b1 lenV (bV 0)) (ak (bC (.int 0)) (ak (bC (.int 0)) aD)))))
def dm:=bI 1 1 false mU
def jR:=(aB (aJ 3 (b2 ixP (bV 1) (bC (.int 0)))) (aB (aJ 4 (b2 bA (b2 ixP (bV 1) (bC (.int 2))) (bC (.int 1)))) (aB (sIf (tV (b2 jO (bV 4) (b1 lenV (b2 ixP (b2 ixP (b2 ixP (bV 0) (bV 3)) (bC (.int 0))) (b2 ixP (bV 1) (bC (.int 1))))))) (aW (cI (ak (bV 3) (ak (b2 ixP (bV 1) (bC (.int 1))) (ak (bV 4) aD))))) sNx) (aB (sIf (tA (tV (b2 ixP (b2 ixP (bV 0) (bV 3)) (bC (.int 1)))) (tN (tV (bV 2)))) (aW (bC .non)) sNx) (aW (cI (ak (b2 bA (bV 3) (bC (.int 1))) (ak (bC (.int 0)) (ak (bC (.int 0)) aD)))))))))
def dW:=bI 5 3 false jR
def lK:=(aW (bOr (b2 eqQ (bV 0) (bV 1)) (b2 eqQ (bV 0) (bC (.str "x")))))
def dB:=bI 2 2 false lK
def d7:=(aB (aJ 10 (aM dW (ak (bV 0) (ak (cI (ak (bV 4) (ak (bV 9) (ak (bV 5) aD)))) (ak (bV 3) aD))))) (sIf (tA (tV (b2 jo (bV 10) (bC .non))) (tV (aM dB (ak (b2 ixP (b2 ixP (bV 6) (bV 9)) (bV 5)) (ak (bV 2) aD))))) (cN gC 8 (cI (ak (bV 9) (ak (bV 10) aD)))) sNx))
def lw:=(aB (sIf (tV (b2 eqQ (bV 1) (aM dm (ak (bV 0) aD)))) (aW (b_ aD)) sNx) (aB (aJ 4 (b2 ixP (bV 1) (bC (.int 0)))) (aB (aJ 5 (b2 ixP (bV 1) (bC (.int 2)))) (aB (aJ 6 (b2 ixP (b2 ixP (bV 0) (bV 4)) (bC (.int 0)))) (aB (aJ 7 (bIf (tV (b2 eqQ (bV 5) (bC (.int 0)))) (b1 ye (b1 lenV (bV 6))) (b_ (ak (b2 ixP (bV 1) (bC (.int 1))) aD)))) (aB (aJ 8 (b_ aD)) (aB (cj (gN 9) (iV (bV 7)) [9,10] d7) (aW (bV 8)))))))))
def cL:=bI 11 4 false lw
def lL:=(cI (ak (bV 2) (ak (bV 1) aD)))
def lM:=(cN ul 3 (eQ [none,none,some 4] (iV (aM cL (ak (bV 0) (ak (bV 4) (ak (bV 1) (ak (bV 2) aD)))))) (gT [0,1]) fD lL))
def tZ:=(aB (aJ 3 (b_ aD)) (aB (cj (gN 4) (iV (aM iU (ak (bV 0) aD))) [4] lM) (aW (bV 3))))
def dI:=bI 5 3 false tZ
def pM:=(uY qd 1 (cI (ak (bV 2) (ak (bV 3) aD))) (aM dI (ak (bV 0) (ak (bV 2) (ak (bV 3) aD)))))
def pN:=(cj (gN 3) (iV (cI (ak (bC (.bl false)) (ak (bC (.bl true)) aD)))) [3] pM)
def rN:=(aB (aJ 1 (bC (.dT []))) (aB (cj (gN 2) (iV (cI (ak (bC (.str "u")) (ak (bC (.str "-")) aD)))) [2,3] pN) (aW (bV 1))))
def iW:=bI 4 1 false rN
def km:=(cI (ak (bV 0) (ak (bV 0) aD)))
def iY:=(aW (bIf (tV (b2 isN (bV 1) (bC .non))) (eQ [none] (iK (bV 3)) (gN 0) fD km) (b2 ixP (bV 0) (cI (ak (b2 ixP (bV 1) (bC (.int 1))) (ak (bV 2) aD))))))
def dR:=bI 4 4 false iY
def du:=(sIf (tV (b2 inQ (bV 7) (bV 3))) (uY qd 4 (bV 6) (b2 bA (b3 lq (bV 4) (bV 6) (bC (.int 0))) (b2 ixP (bV 3) (bV 7)))) sNx)
def jm:=(cj (gT [6,7]) (iV (aM dR (ak (bV 0) (ak (bV 5) (ak (bV 2) (ak (bV 3) aD)))))) [6,7] du)
def oA:=(aB (aJ 4 (bC (.dT []))) (aB (cj (gN 5) (iV (bV 1)) [5,6,7] jm) (aW (bV 4))))
def f9:=bI 8 4 false oA
def jT:=(cN ul 1 (bV 2))
def qR:=(aB (aJ 1 (b_ aD)) (aB (cj (gN 2) (iV (bV 0)) [2] jT) (aW (bV 1))))
def bQ:=bI 3 1 false qR
def iZ:=(cN ul 1 (b2 uf (b2 zf (b_ (ak (bC (.bl false)) aD)) (b2 subV (b1 lenV (bV 2)) (bC (.int 1)))) (b_ (ak (bC (.bl true)) aD))))
def l_:=(aB (aJ 1 (b_ aD)) (aB (cj (gN 2) (iV (bV 0)) [2] iZ) (aW (bV 1))))
def cO:=bI 3 1 false l_
def fL:=(aB (aJ 3 (aM f9 (ak (bV 2) (ak (bV 5) (ak (bV 6) (ak (bV 3) aD)))))) (cN gC 4 (bV 3)))
def jG:=(aB (aJ 2 (aM iW (ak (bV 1) aD))) (aB (aJ 3 (b2 lr (aM dm (ak (bV 1) aD)) (bC (.int 1)))) (aB (aJ 4 (b_ (ak (bV 3) aD))) (aB (cj (gT [5,6]) (DG (b2 sY (aM bQ (ak (bV 0) aD)) (aM cO (ak (bV 0) aD)))) [5,6] fL) (aW (b1 u5 (bV 4)))))))
def a_:=bI 7 2 false jG
def mV:=(aW (b3 lu (b2 ixP (aM a_ (ak (bV 0) (ak (bV 1) aD))) (bC (.int 0))) (bC dU) (bC (.int 0))))
def fj:=bI 2 2 false mV
def cF:=(cN gC 2 (cI (ak (b2 ixP (bV 6) (bV 7)) (ak (rD (bV 5) (b2 eqQ (b2 bA (bV 7) (bC (.int 1))) (b1 lenV (bV 6)))) aD))))
def cG:=(aB (um (gT [4,5]) (b2 ixP (bV 0) (bV 3))) (aB (aJ 6 (b2 ixP (bV 4) (b2 ixP (bV 1) (bV 3)))) (cj (gN 7) (iR1 (b1 lenV (bV 6))) [7] cF)))
def lO:=(aB (aJ 2 (b_ aD)) (aB (cj (gN 3) (iR1 (b1 lenV (bV 0))) [3,6,7,4,5] cG) (aW (bV 2))))
def cP:=bI 8 2 false lO
def eE:=(b2 ixP (bV 1) (b2 e_ (b2 bA (b2 fJ (bV 2) (bC (.int 16))) (bV 0)) (bC (.int 4))))
def eF:=(tV (b2 eqQ (b2 e_ (b2 fJ (bV 2) (b2 ixP (b_ (ak (bC (.int 1)) (ak (bC (.int 2)) (ak (bC (.int 4)) (ak (bC (.int 8)) aD))))) (bV 0))) (bC (.int 2))) (bC (.int 1))))
def eG:=(bV 0)
def eN:=(tV (b2 jo (bV 0) (bC .non)))
def gb:=(aB (aJ 2 (b_ (ak (cI (ak (bC (.int 0)) (ak (bC (.str "u")) aD))) (ak (cI (ak (bC (.int 0)) (ak (bC (.str "-")) aD))) (ak (cI (ak (bC (.int 1)) (ak (bC (.str "-")) aD))) (ak (bC .non) aD)))))) (aB (aJ 3 (eQ [none,some 2,some 0] (iR1 (bC (.int 4))) (gN 0) eF eE)) (aB (sIf (tN (tV (bV 1))) (aJ 3 (eQ [none] (iV (bV 3)) (gN 0) eN eG)) sNx) (aW (bV 3)))))
def dX:=bI 4 2 false gb
def mW:=(aB (aJ 3 (aM dX (ak (bV 0) (ak (bV 1) aD)))) (aB (sIf (tV (b2 inQ (bV 2) (bV 3))) (aW (bV 3)) sNx) (aB (aJ 4 (b2 e_ (b2 fJ (bV 0) (bC (.int 64))) (b2 bA (b1 lenV (bV 3)) (bC (.int 1))))) (aW (b2 uf (b2 uf (bSl (bV 3) oN (oS (bV 4))) (b_ (ak (bV 2) aD))) (bSl (bV 3) (oS (bV 4)) oN))))))
def bR:=bI 5 3 false mW
def cQ:=(aB (hid 3 (aJ 7 (aM cA (ak (bV 2) (ak (b2 bA (b2 jx (bC (.int 7)) (bV 6)) (bC (.int 3))) aD))))) (aB (nIf 3 (tA (tV (b2 eqQ (b2 e_ (bV 7) (bC (.int 7))) (bC (.int 1)))) (tV (b2 jO (b2 bA (b1 lenV (bV 4)) (b1 lenV (bV 5))) (b2 bA (bC (.int 58)) (bV 6))))) (aB (uo 3 (b1 qb (bC (.int 1))) (aM bR (ak (b2 fJ (bV 7) (bC (.int 7))) (ak (bC (.bl true)) (ak (bC .non) aD))))) (aB (hid 3 (cN gC 4 (bC .non))) (uq 3))) sNx) (aB (hid 3 (um (gT [8,9]) (b2 ixP (bV 5) (bV 6)))) (aB (hid 3 (sIf (tV (b2 eqQ (bV 8) (bC (.str "x")))) (aJ 8 (b2 ixP (b_ (ak (bC (.str "u")) (ak (bC (.str "-")) aD))) (b2 e_ (b2 fJ (bV 7) (bC (.int 7))) (bC (.int 2))))) sNx)) (aB (hid 3 (aJ 10 (cI (ak (b1 Ds (rD (b2 eqQ (bV 8) (bC (.str "-"))) (b2 eqQ (b2 e_ (b2 fJ (bV 7) (bC (.int 14))) (bC (.int 4))) (bC (.int 1))))) (ak (bV 8) aD))))) (aB (hid 3 (aJ 11 (bOr (bV 9) (bOr (b2 eqQ (b2 bA (bV 6) (bC (.int 1))) (b1 lenV (bV 5))) (b2 eqQ (b2 e_ (b2 fJ (bV 7) (bC (.int 56))) (bC (.int 3))) (bC (.int 0))))))) (aB (uo 3 (b1 qb (bC (.int 1))) (aM bR (ak (b2 fJ (bV 7) (bC (.int 168))) (ak (bV 11) (ak (bV 10) aD))))) (aB (hid 3 (cN gC 4 (bV 10))) (nIf 3 (tA (tV (bV 11)) (tV (b2 jO (b2 bA (bV 6) (bC (.int 1))) (b1 lenV (bV 5))))) (uq 3) sNx)))))))))
def lA:=(aB (onx (yf 3 1)) (aB (onx (hid 3 (aJ 4 (b_ aD)))) (aB (onx (hid 3 (aJ 5 (aM cP (ak (bV 0) (ak (bV 1) aD)))))) (aB (onx (DN 3 (gN 6) (iR1 (b1 lenV (bV 5))) [6,7,10,11,8,9] cQ)) (aW (b_ (ak (bV 3) (ak (bV 4) aD))))))))
def jt:=bI 12 3 false lA
def dG:=(aB (aJ 3 (b2 subV (bV 3) (b2 ixP (bV 0) (bV 2)))) (aJ 2 (b2 bA (bV 2) (bC (.int 1)))))
def cB:=(tV (b2 (p7 λi j=>decide (j<=i)) (bV 3) (b2 ixP (bV 0) (bV 2))))
def rO:=(aB (aJ 2 (bC (.int 0))) (aB (aJ 3 (bV 1)) (aB (rH 1000000 cB [] dG) (aW (cI (ak (bV 2) (ak (bV 3) aD)))))))
def cz:=bI 4 2 false rO
def jU:=(uY qd 4 (bV 8) (b2 bA (b3 lq (bV 4) (bV 8) (bC (.int 0))) (bV 6)))
def mX:=(cj (gT [7,8]) (iV (aM cL (ak (bV 0) (ak (bV 5) (ak (b2 ixP (bV 2) (bC (.int 1))) (ak (bV 3) aD)))))) [7,8] jU)
def ql:=(aB (sIf (tV (b2 isN (bV 2) (bC .non))) (aW (bV 1)) sNx) (aB (aJ 4 (bC (.dT []))) (aB (cj (gT [5,6]) (iDi (bV 1)) [5,6,7,8] mX) (aW (bV 4)))))
def cu:=bI 9 4 false ql
def rP:=(aM dB (ak (bV 0) (ak (b2 ixP (bV 1) (bC (.int 0))) aD)))
def tu:=(aB (sIf (tV (b2 neQ (b1 lenV (bV 2)) (b1 lenV (bV 0)))) (aW (bC (.bl false))) sNx) (aB (sIf (tN (tV (b1 yZ (eQ [none,none] (iZ3 (bV 0) (bV 2)) (gT [0,1]) fD rP)))) (aW (bC (.bl false))) sNx) (aW (bOr (b2 ixP (b2 ixP (bV 2) (b1 qb (bC (.int 1)))) (bC (.int 1))) (yU (bV 1))))))
def jg:=bI 3 3 false tu
def cM:=(aB (aJ 6 (b2 bA (bV 2) (b1 lenV (bV 5)))) (cN gC 4 (bIf (tV (aM jg (ak (bV 5) (ak (b2 ixP (bV 0) (bC (.int 1))) (ak (bSl (bV 1) (oS (bV 2)) (oS (bV 6))) aD))))) (b2 ixP (bV 3) (bV 6)) (bC (.int 0)))))
def jV:=(aB (aJ 4 (b_ aD)) (aB (cj (gN 5) (iV (b2 ixP (bV 0) (bC (.int 0)))) [5,6] cM) (aW (bV 4))))
def aU:=bI 7 4 false jV
def iz:=(b1 oU (aM aU (ak (bV 1) (ak (bV 2) (ak (bV 0) (ak (bV 3) aD))))))
def fG:=(aB (aJ 2 (eQ [none,some 4,some 1,some 2] (iR1 (b2 bA (b1 lenV (bV 1)) (bC (.int 1)))) (gN 0) fD iz)) (cN gC 3 (bV 2)))
def lU:=(aB (aJ 2 (b2 uf (b2 zf (b_ (ak (bC (.int 0)) aD)) (b1 lenV (bV 1))) (b_ (ak (bC (.int 1)) aD)))) (aB (aJ 3 (b_ (ak (bV 2) aD))) (aB (cj (gN 4) (DG (bV 0)) [4] fG) (aW (b1 u5 (bV 3))))))
def cD:=bI 5 2 false lU
def jW:=(aB (aJ 9 (aM cz (ak (aM aU (ak (bV 8) (ak (bV 1) (ak (bV 5) (ak (b2 ixP (bV 3) (b2 bA (bV 7) (bC (.int 1)))) aD))))) (ak (bV 6) aD)))) (aB (cN gC 4 (b2 ixP (bV 9) (bC (.int 0)))) (aB (aJ 5 (b2 bA (bV 5) (b1 lenV (b2 ixP (b2 ixP (bV 8) (bC (.int 0))) (b2 ixP (bV 9) (bC (.int 0))))))) (aJ 6 (b2 ixP (bV 9) (bC (.int 1)))))))
def vd:=(aB (aJ 3 (aM cD (ak (bV 0) (ak (bV 1) aD)))) (aB (aJ 4 (b_ aD)) (aB (aJ 5 (bC (.int 0))) (aB (aJ 6 (bV 2)) (aB (cj (gT [7,8]) (iE2 (bV 0)) [7,8,9] jW) (aW (bV 4)))))))
def jX:=bI 10 3 false vd
def gG:=(b2 jx (bV 1) (b3 lq (bV 2) (bV 0) (bC (.int 0))))
def gJ:=(aB (aJ 7 (aM cu (ak (bV 0) (ak (bV 1) (ak (bV 6) (ak (bV 3) aD)))))) (cN gC 5 (b1 oU (eQ [none,none,some 4] (iDi (bV 7)) (gT [0,1]) fD gG))))
def j5:=(aB (aJ 5 (b_ aD)) (aB (cj (gN 6) (iV (bV 2)) [6,7] gJ) (aW (bV 5))))
def bu:=bI 8 5 false j5
def mY:=(cI (ak (b2 ixP (bV 0) (bC (.int 1))) (ak (bV 1) aD)))
def mZ:=(tV (b2 jo (bV 0) (bC .non)))
def mj:=(aW (eQ [none,none] (iZ3 (bV 1) (aM cO (ak (bV 0) aD))) (gT [0,1]) mZ mY))
def cR:=bI 2 2 false mj
def iC:=(aB (aJ 10 (aM cz (ak (aM bu (ak (bV 1) (ak (bV 6) (ak (bV 9) (ak (b2 ixP (bV 4) (bV 8)) (ak (b2 ixP (bV 3) (b2 bA (bV 8) (bC (.int 1)))) aD)))))) (ak (bV 7) aD)))) (aB (aJ 11 (b2 ixP (bV 9) (b2 ixP (bV 10) (bC (.int 0))))) (aB (cN gC 5 (bV 11)) (aB (aJ 6 (aM cu (ak (bV 1) (ak (bV 6) (ak (bV 11) (ak (b2 ixP (bV 4) (bV 8)) aD)))))) (aJ 7 (b2 ixP (bV 10) (bC (.int 1))))))))
def qT:=(aB (aJ 3 (aM a_ (ak (bV 0) (ak (bV 1) aD)))) (aB (sIf (tN (tV (lG (λi j=>decide (i<=j)) (λi j=>decide (i < j)) (bC (.int 0)) (bV 2) (b3 lu (b2 ixP (bV 3) (bC (.int 0))) (bC dU) (bC (.int 0)))))) sNo sNx) (aB (aJ 4 (aM cO (ak (bV 0) aD))) (aB (aJ 5 (b_ aD)) (aB (aJ 6 (b2 lr (bC dU) (bC (.int 1)))) (aB (aJ 7 (bV 2)) (aB (cj (gT [8,9]) (iE2 (aM bQ (ak (bV 0) aD))) [8,9,10,11] iC) (aW (cI (ak (bV 5) (ak (aM jX (ak (bV 1) (ak (aM cR (ak (bV 0) (ak (bV 5) aD))) (ak (bV 7) aD)))) aD)))))))))))
def cT:=bI 12 3 false qT
def qU:=(Jj (aJ 3 (aM a_ (ak (bV 0) (ak (bV 1) aD)))) (xIf (tN (tV (lG (λi j=>decide (i<=j)) (λi j=>decide (i < j)) (bC (.int 0)) (bV 2) (b3 lu (b2 ixP (bV 3) (bC (.int 0))) (bC dU) (bC (.int 0)))))) (zA (ak (bC (.str "there is no reading of this number")) aD) 11) xNo))
def fQ:=v8 12 3 qU
def g_:=(aB (aJ 5 (b1 lenV (bV 2))) (aB (sIf (tO (tV (b2 (p7 λi j=>decide (j<=i)) (bV 5) (b1 lenV (bV 1)))) (tV (b2 pI (b2 ixP (bV 1) (bV 5)) (bV 4)))) (aW (bC .non)) sNx) (cN gC 2 (b2 jq (bV 4) (b2 ixP (bV 1) (bV 5))))))
def jA:=(cj (gN 4) (iV (bV 3)) [4,5] g_)
def pO:=(aB (aJ 2 (b_ aD)) (aB (cj (gN 3) (iV (bV 0)) [3,4,5] jA) (aB (sIf (tV (b2 neQ (b1 lenV (bV 2)) (b1 lenV (bV 1)))) (aW (bC .non)) sNx) (aW (bV 2)))))
def gK:=bI 6 2 false pO
def fU:=(aB (sIf (tV (b2 jo (b2 ixP (bV 1) (bV 3)) (bC .non))) (cN gC 2 (cI (ak (b2 ixP (b2 ixP (bV 1) (bV 3)) (bC (.int 1))) (ak (b2 eqQ (b2 bA (bV 5) (bC (.int 1))) (b1 lenV (bV 4))) aD)))) sNx) (aJ 3 (b2 bA (bV 3) (bC (.int 1)))))
def lQ:=(cj (gN 5) (iR1 (b1 lenV (bV 4))) [5] fU)
def t6:=(aB (aJ 2 (b_ aD)) (aB (aJ 3 (bC (.int 0))) (aB (cj (gN 4) (iV (bV 0)) [4,5] lQ) (aW (bV 2)))))
def iu:=bI 6 2 false t6
def qW:=(aW (rD (b1 (uh tb_int) (bV 0)) (yU (b1 (uh tb_bool) (bV 0)))))
def dC:=bI 1 1 false qW
def jh:=(sIf (tO (tN (tV (aM dC (ak (bV 5) aD)))) (tN (tV (lG (λi j=>decide (i<=j)) (λi j=>decide (i < j)) (bC (.int 0)) (bV 5) (b1 lenV (b2 ixP (bV 6) (bC (.int 0)))))))) (aW (bC .non)) sNx)
def dH:=(sIf (tO (tA (tV (b2 neQ (b2 ixP (bV 11) (bC (.int 0))) (bC (.str "x")))) (tV (b2 neQ (b2 ixP (bV 11) (bC (.int 0))) (b2 ixP (bV 10) (bC (.int 0)))))) (tA (tV (b2 ixP (bV 11) (bC (.int 1)))) (tN (tV (b2 ixP (bV 10) (bC (.int 1))))))) (aW (bC .non)) sNx)
def rQ:=(aB (sIf (tO (tN (tV (b1 (uh tb_tuple) (bV 2)))) (tO (tV (b2 neQ (b1 lenV (bV 2)) (bC (.int 2)))) (tN (tV (b1 (uh tb_list) (b2 ixP (bV 2) (bC (.int 0)))))))) (aW (bC .non)) sNx) (aB (um (gT [3,4]) (bV 2)) (aB (sIf (tO (tN (tV (b1 (uh tb_list) (bV 4)))) (tV (b2 neQ (b1 lenV (bV 4)) (b1 lenV (bV 1))))) (aW (bC .non)) sNx) (aB (cj (gT [5,6]) (iZ3 (bV 4) (bV 1)) [5,6] jh) (aB (aJ 7 (aM gK (ak (bV 0) (ak (bV 3) aD)))) (aB (sIf (tV (b2 isN (bV 7) (bC .non))) (aW (bC .non)) sNx) (aB (aJ 8 (aM iu (ak (bV 0) (ak (bV 3) aD)))) (aB (aJ 9 (aM cP (ak (bV 1) (ak (bV 4) aD)))) (aB (sIf (tV (b2 neQ (b1 lenV (bV 8)) (b1 lenV (bV 9)))) (aW (bC .non)) sNx) (aB (cj (gT [10,11]) (iZ3 (bV 8) (bV 9)) [10,11] dH) (aW (cI (ak (bV 7) (ak (bV 4) aD))))))))))))))
def gM:=bI 12 3 false rQ
def jY:=(aB (sIf (tV (b2 jO (bV 1) (b1 lenV (bV 0)))) (aW (b2 ixP (bV 0) (bV 1))) sNx) (aW (bC (.int 0))))
def bw:=bI 2 2 false jY
def lV:=(Du (aM cT (ak (bV 0) (ak (bV 1) (ak (bV 2) aD)))))
def lW:=(DX (ak (bV 0) (ak (bV 1) (ak (bV 2) aD))) fQ)
def oE:=(aB (aJ 3 (bC (.bl false))) (aB (DY lV lW 11 3 (.bl true)) (aW (bV 3))))
def dY:=bI 4 3 false oE
def ji:=(b2 inQ (bV 1) (bV 0))
def fu:=(aB (aJ 2 (aM bQ (ak (bV 0) aD))) (aB (sIf (tV (b2 neQ (b1 lenV (bV 1)) (b1 lenV (bV 2)))) (aW (bC (.bl false))) sNx) (aW (b1 yZ (eQ [none,none] (iZ3 (bV 2) (bV 1)) (gT [0,1]) fD ji)))))
def gO:=bI 3 2 false fu
def jw:=(aB (sIf (tN (tV (lG (λi j=>decide (i<=j)) (λi j=>decide (i < j)) (bC (.int 0)) (bV 5) (b1 lenV (b2 ixP (bV 4) (bC (.int 0))))))) (aW (bC (.bl false))) sNx) (aB (aJ 6 (b2 ixP (b2 ixP (bV 4) (bC (.int 0))) (bV 5))) (aB (aJ 7 (b2 bA (bV 3) (b1 lenV (bV 6)))) (aB (sIf (tN (tV (aM jg (ak (bV 6) (ak (b2 ixP (bV 4) (bC (.int 1))) (ak (bSl (bV 1) (oS (bV 3)) (oS (bV 7))) aD)))))) (aW (bC (.bl false))) sNx) (aJ 3 (bV 7))))))
def t7:=(aB (sIf (tV (b2 neQ (b1 lenV (bV 2)) (b1 lenV (bV 0)))) (aW (bC (.bl false))) sNx) (aB (aJ 3 (bC (.int 0))) (aB (cj (gT [4,5]) (iZ3 (bV 0) (bV 2)) [4,5,6,7] jw) (aW (b2 eqQ (bV 3) (b1 lenV (bV 1)))))))
def iy:=bI 8 3 false t7
def vf:=(aB (aJ 3 (b2 ixP (bV 2) (bC (.int 0)))) (aW (rD (aM gO (ak (bV 0) (ak (bV 3) aD))) (aM iy (ak (bV 1) (ak (aM cR (ak (bV 0) (ak (bV 3) aD))) (ak (b2 ixP (bV 2) (bC (.int 1))) aD)))))))
def jZ:=bI 4 3 false vf
def fH:=(aB (aJ 8 (b2 ixP (bV 0) (bV 6))) (aB (aJ 9 (aM aU (ak (bV 8) (ak (bV 1) (ak (bV 5) (ak (b2 ixP (bV 3) (b2 bA (bV 6) (bC (.int 1)))) aD)))))) (aB (aJ 4 (b2 bA (bV 4) (b1 oU (bSl (bV 9) oN (oS (bV 7)))))) (aJ 5 (b2 bA (bV 5) (b1 lenV (b2 ixP (b2 ixP (bV 8) (bC (.int 0))) (bV 7))))))))
def lX:=(aB (aJ 3 (aM cD (ak (bV 0) (ak (bV 1) aD)))) (aB (aJ 4 (bC (.int 0))) (aB (aJ 5 (bC (.int 0))) (aB (cj (gT [6,7]) (iE2 (bV 2)) [6,7,8,9] fH) (aW (bV 4))))))
def dz:=bI 10 3 false lX
def jk:=(aB (aJ 10 (bSl (bV 9) oN (oS (b2 jq (bV 9) (b2 ixP (bV 5) (bV 8)))))) (aB (aJ 7 (b2 bA (bV 7) (b1 oU (aM bu (ak (bV 1) (ak (bV 6) (ak (bV 10) (ak (b2 ixP (bV 4) (bV 8)) (ak (b2 ixP (bV 3) (b2 bA (bV 8) (bC (.int 1)))) aD))))))))) (aJ 6 (aM cu (ak (bV 1) (ak (bV 6) (ak (b2 ixP (bV 5) (bV 8)) (ak (b2 ixP (bV 4) (bV 8)) aD))))))))
def rR:=(aB (sIf (tN (tV (aM jZ (ak (bV 0) (ak (bV 1) (ak (bV 2) aD)))))) sNo sNx) (aB (aJ 3 (aM a_ (ak (bV 0) (ak (bV 1) aD)))) (aB (aJ 4 (aM cO (ak (bV 0) aD))) (aB (aJ 5 (b2 ixP (bV 2) (bC (.int 0)))) (aB (aJ 6 (b2 lr (bC dU) (bC (.int 1)))) (aB (aJ 7 (bC (.int 0))) (aB (cj (gT [8,9]) (iE2 (aM bQ (ak (bV 0) aD))) [8,9,10] jk) (aW (b2 bA (bV 7) (aM dz (ak (bV 1) (ak (aM cR (ak (bV 0) (ak (bV 5) aD))) (ak (b2 ixP (bV 2) (bC (.int 1))) aD)))))))))))))
def gP:=bI 11 3 false rR
def qm:=(b2 e_ (aM cA (ak (aM bw (ak (bV 1) (ak (bC (.int 0)) aD))) (ak (bV 0) aD))) (b1 lenV (b2 ixP (b2 ixP (bV 2) (bV 0)) (bC (.int 0)))))
def qp:=(sIf (tN (tV (aM dY (ak (bV 3) (ak (bV 1) (ak (bV 6) aD)))))) (aW (bC (.bl false))) sNx)
def ut:=(bV 0)
def uv:=(tV (b2 jO (bV 0) (bV 1)))
def qt:=(aB (aJ 9 (aM cT (ak (bV 3) (ak (bV 1) (ak (bV 8) aD))))) (aB (aJ 10 (aM gM (ak (bV 3) (ak (bV 1) (ak (bV 9) aD))))) (aB (sIf (tO (tV (b2 isN (bV 10) (bC .non))) (tV (b2 neQ (aM gP (ak (bV 3) (ak (bV 1) (ak (bV 9) aD)))) (bV 8)))) (aW (bC (.bl false))) sNx) (aB (sIf (tA (tV (b2 jo (bV 7) (bC .non))) (tA (tV (b2 (p7 λi j=>decide (j < i)) (bV 8) (b2 ixP (bV 7) (bC (.int 0))))) (tN (tV (b2 qj (b2 ixP (bV 7) (bC (.int 1))) (bV 10)))))) (aW (bC (.bl false))) sNx) (aJ 7 (cI (ak (bV 8) (ak (bV 10) aD))))))))
def vg:=(aB (aJ 1 (aM fO (ak (b2 bA (bSl (bV 0) (oS (bC (.int 4))) (oS (bC (.int 7)))) (bSl (b_ (ak (bC (.int 0)) aD)) (oS (b2 fJ (b1 lenV (bV 0)) (bC (.int 5)))) oN)) aD))) (aB (aJ 2 (eQ [none,some 0,some 1] (iR1 (b1 lenV (bV 1))) (gN 0) fD qm)) (aB (aJ 3 (b2 ixP (aM jt (ak (bV 1) (ak (bV 2) (ak (aM bw (ak (bV 0) (ak (bC (.int 1)) aD))) aD)))) (bC (.int 0)))) (aB (aJ 4 (aM fj (ak (bV 3) (ak (bV 1) aD)))) (aB (sIf (tO (tN (tV (aM dC (ak (bV 4) aD)))) (tV (b2 jO (bV 4) (bC (.int 1))))) (aW (bC (.bl false))) sNx) (aB (aJ 5 (b2 e_ (b2 bA (b2 jx (aM bw (ak (bV 0) (ak (bC (.int 2)) aD))) (b2 vW (bC (.int 10)) (bC (.int 18)))) (aM bw (ak (bV 0) (ak (bC (.int 3)) aD)))) (bV 4))) (aB (cj (gN 6) (iV (b_ (ak (bV 4) (ak (b2 bA (bV 4) (bV 5)) (ak (b2 subV (b1 qb (bC (.int 1))) (bV 5)) aD))))) [6] qp) (aB (aJ 7 (bC .non)) (aB (cj (gN 8) (iV (eQ [none,some 4] (iV (b_ (ak (bC (.int 0)) (ak (bV 5) (ak (b2 bA (bV 5) (bC (.int 1))) (ak (b2 subV (bV 4) (bC (.int 1))) aD)))))) (gN 0) uv ut)) [8,9,10] qt) (aW (bC (.bl true))))))))))))
def vh:=bI 11 1 false vg
theorem bz {α S:Type}{g:PV->MR.Env->Option MR.Env}{ds:qf}{body:MR.Env->Option Out}(c:α->PV)(E:S->MR.Env)(I:List α->S->Prop)(hh:∀y ys s,I (y::ys) s->∃s',I ys s'/\turn g ds body (c y) (E s)=some (E s')):∀(ys:List α) (s:S),I ys s->
  ∃s',I [] s'/\bY g ds body (ys.map c) (E s)=some (.nx (E s'))
 | [],s,i=>⟨s,i,rfl⟩
 | y::ys,s,i=>by
  obtain⟨s1,i1,h1⟩:=hh y ys s i
  obtain⟨s2,i2,h2⟩:=bz c E I hh ys s1 i1
  exact⟨s2,i2,by rw[av,eU h1,h2]⟩
theorem uw (c k:Int)(h:smI k=true):cA [.int c,.int k]=some (.int (mixed c k)):=by
 have h1:smI 48271=true:=jn (by decide) (by decide)
 have h2:smI 69621=true:=jn (by decide) (by decide)
 simp[cA,qP,h,h1,h2,mixed]
theorem BZ {k:Nat}(h:k < 1000):smI (k:Int)=true:=jn (by omega) (by omega)
theorem Jq (x:Str)(cs:qr):inP (.str x) (.lst (cs.map .str))=some (decide (x∈cs)):=by
 have h1:(cs.map PV.str).all dD=true:=by rw[i6,cy];exact λ_ _=>rfl
 have h2:((cs.map PV.str).any λy=>eqF y (.str x))=decide (x∈cs):=by
  rw[List.any_map]
  induction cs with
  | nil=>simp
  | cons c r ih=>
   rw[fb,ih (by rw[i6,cy];exact λ_ _=>rfl)]
   by_cases e:x=c
   ·subst e;simp[eqF]
   ·have e':¬ c=x:=λz=>e z.symm
    simp[eqF,e,e']
 simp[inP,dD,h1,h2]
structure PatOk (p:Str):Prop where
 ge:1<=p.length
 le:p.length<=4
 cs:∀c∈p.cps.toList,c=117\/c=45\/c=120
structure PatsOk (ps:qr):Prop where
 ne:ps≠[]
 le:ps.length<=4
 ok:∀p∈ps,PatOk p
 nd:ps.Nodup
theorem T6 {i:Int}(h0:0<=i)(h1:i < 3):∃c,(c=117\/c=45\/c=120)/\atI (("u-x" : Str).cps.toList) i=some c:=by
 have e:("u-x" : Str).cps.toList=[117,45,120]:=by decide +kernel
 obtain⟨k,rfl⟩:∃k:Nat,i=k:=⟨i.toNat,by omega⟩
 rw[e]
 have hk:k=0\/k=1\/k=2:=by omega
 rcases hk with rfl | rfl | rfl
 ·exact⟨117,.inl rfl,rfl⟩
 ·exact⟨45,.inr (.inl rfl),rfl⟩
 ·exact⟨120,.inr (.inr rfl),rfl⟩
theorem Rv:("u-x" : Str).length<=1000000:=by decide +kernel
theorem Jr (a b:Str):(a++b).length=a.length+b.length:=by
 show (a.cps++b.cps).size=_
 rw[Array.size_append]
 rfl
theorem D_ {n k:Int}(hn:0<=n)(hk0:0<=k)(hk:k < 4){L:PV}{j:Nat}(hj:j < 4){x:Str}(hx:x.length < 1000):
  ∃c,(c=117\/c=45\/c=120)/\turn (gN 4) [4] dN (.int j) [some (.int n),some L,some (.int k),some (.str x),none]=some [some (.int n),some L,some (.int k),some (.str (x++⟨#[c]⟩)),none]:=by
 obtain⟨c,hc,h⟩:=T6 (i:=n / (7+5*k+11*(j:Int)) % 3) (by omega) (by omega)
 have h5:smI 5=true:=jn (by decide) (by decide)
 have h11:smI 11=true:=jn (by decide) (by decide)
 have hd:0 < 7+5*k+11*(j:Int)/\7+5*k+11*(j:Int) < 1073741824:=by omega
 have hl:x.length+(⟨#[c]⟩:Str).length<=1000000:=by
  have:(⟨#[c]⟩:Str).length=1:=rfl
  omega
 refine⟨c,hc,?_⟩
 simp[aV,dN,h,h5,h11,hd,Rv,hl]
theorem GC {n k:Int}(hn:0<=n)(hk0:0<=k)(hk:k < 4){L:PV}{t:Nat}(ht:1<=t)(ht4:t<=4):
  ∃x,PatOk x/\bY (gN 4) [4] dN (cZ 0 (t:Int)) [some (.int n),some L,some (.int k),some (.str ("" : Str)),none]=some (.nx [some (.int n),some L,some (.int k),some (.str x),none]):=by
 have e0:("" : Str).length=0:=by decide +kernel
 have e1:("" : Str).cps.toList=[]:=by decide +kernel
 obtain⟨x,⟨i1,i2,_⟩,h⟩:=bz (g:=gN 4) (ds:=[4]) (body:=dN) (λj:Nat=>PV.int (j:Nat)) (λx:Str=>[some (.int n),some L,some (.int k),some (.str x),none])
  (λr x=>x.length+r.length=t/\(∀c∈x.cps.toList,c=117\/c=45\/c=120)/\∀j∈r,j < 4)
  (by
   rintro j r x ⟨i1,i2,i3⟩
   simp only[bb] at i1
   obtain⟨c,hc,h⟩:=D_ (L:=L) hn hk0 hk (i3 j ai) (x:=x) (by omega)
   refine⟨x++⟨#[c]⟩,⟨?_,?_,λz hz=>i3 z (ag _ hz)⟩,h⟩
   ·have:(⟨#[c]⟩:Str).length=1:=rfl
    rw[Jr]
    omega
   ·intro d hd
    have:(x++(⟨#[c]⟩:Str)).cps.toList=x.cps.toList++[c]:=by
     show (x.cps++#[c]).toList=_
     simp
    rw[this] at hd
    rcases b0.mp hd with z | z
    ·exact i2 d z
    ·rw[aI] at z;rw[z];exact hc)
  (List.range t) ("" : Str) ⟨by simp[e0],(by rw[e1];exact λc hc=>by cases hc),(λj hj=>by have:=b6.mp hj;omega)⟩
 simp only[md,p5] at i1
 exact⟨x,⟨by omega,by omega,i2⟩,by rw[dZ];exact h⟩
theorem GD {n:Int}(hn:0<=n){L:qr}(hL:L.length < 1000){k:Nat}(hk:k < 4):
  ∃x,PatOk x/\turn (gN 2) [2,3,4] dO (.int k) [some (.int n),some (.lst (L.map .str)),none,none,none]=some [some (.int n),some (.lst ((if x∈L then L else L++[x]).map .str)),none,none,none]:=by
 obtain⟨t,ht,et⟩:∃t:Nat,(1<=t/\t<=4)/\1+n / (4+3*(k:Int)) % 4=t:=⟨(1+n / (4+3*(k:Int)) % 4).toNat,by omega,by omega⟩
 obtain⟨x,hx,h⟩:=GC (n:=n) (k:=k) (L:=.lst (L.map .str)) hn (by omega) (by omega) ht.1 ht.2
 have h3:smI 3=true:=jn (by decide) (by decide)
 have hd:0 < 4+3*(k:Int)/\4+3*(k:Int) < 1073741824:=by omega
 have hr:rgI (t:Int)=true:=iI (by omega) (by omega)
 have hin:=Jq x L
 have hl:L.length < 1000000:=by omega
 refine⟨x,hx,?_⟩
 by_cases hm:x∈L
 ·simp[aV,dO,h3,hd,et,hr,h,hin,hm,hl]
 ·simp[aV,dO,h3,hd,et,hr,h,hin,hm,hl]
theorem oV {n:Int}(hn:0<=n):∃ps,PatsOk ps/\dF [.int n]=some (.tup (ps.map .str)):=by
 obtain⟨t,ht,et⟩:∃t:Nat,(1<=t/\t<=4)/\1+n % 4=t:=⟨(1+n % 4).toNat,by omega,by omega⟩
 obtain⟨L,⟨i1,i2,i3,i4,_⟩,h⟩:=bz (g:=gN 2) (ds:=[2,3,4]) (body:=dO) (λk:Nat=>PV.int (k:Nat)) (λL:List Str=>[some (.int n),some (.lst (L.map .str)),none,none,none])
  (λr L=>(∀p∈L,PatOk p)/\L.Nodup/\L.length+r.length<=t/\(r.length=t\/L≠[])/\∀k∈r,k < 4)
  (by
   rintro k r L ⟨i1,i2,i3,i4,i5⟩
   simp only[bb] at i3 i4
   obtain⟨x,hx,h⟩:=GD hn (L:=L) (by omega) (i5 k ai)
   refine⟨_,⟨?_,?_,?_,.inr ?_,λz hz=>i5 z (ag _ hz)⟩,h⟩
   ·intro p hp
    split at hp
    ·exact i1 p hp
    ·rcases b0.mp hp with z | z
     ·exact i1 p z
     ·rw[aI] at z;rw[z];exact hx
   ·split
    ·exact i2
    ·rename_i hm
     rw[jp]
     exact⟨i2,by simp,λa ha b hb e=>by rw[aI] at hb;subst hb e;exact hm ha⟩
   ·split
    ·omega
    ·rw[a8,dy];omega
   ·split
    ·rename_i hm
     intro e
     rw[e] at hm
     cases hm
    ·simp)
  (List.range t) [] ⟨(λp hp=>by cases hp),by simp,by simp,.inl (by simp),(λk hk=>by have:=b6.mp hk;omega)⟩
 have hr:rgI (t:Int)=true:=iI (by omega) (by omega)
 have hn':(0:Int) < 4:=by decide
 rw[← dZ] at h
 simp only[c9] at h
 refine⟨L,⟨?_,?_,i1,i2⟩,?_⟩
 ·rcases i4 with z | z
  ·simp at z;omega
  ·exact z
 ·simp at i3;omega
 ·simp[dF,mR,et,hr,h]
noncomputable def pats (n:Nat):List Str:=(oV (n:=(n:Int)) (by omega)).choose
theorem Mw (n:Nat):PatsOk (pats n):=(oV (n:=(n:Int)) (by omega)).choose_spec.1
theorem Mx (n:Nat):dF [.int n]=some (.tup ((pats n).map .str)):=(oV (n:=(n:Int)) (by omega)).choose_spec.2
abbrev Slot:=List Str×Bool
abbrev qE:=List Slot
def slP (s:Slot):PV:=.tup [.tup (s.1.map .str),.bl s.2]
def mP (m:qE):PV:=.tup (m.map slP)
def bG (m:qE):Prop:=∀s∈m,PatsOk s.1
theorem Js (cs:qv)(hc:cs.length < 1000):∃m,bG m/\m.length=cs.length/\fO [.lst (cs.map .int)]=some (mP m):=by
 obtain⟨m,⟨i1,i2,_⟩,h⟩:=bz (g:=gT [2,3]) (ds:=[2,3,4]) (body:=jQ) (λy:Int×Nat=>PV.tup [.int (y.2:Nat),.int y.1]) (λm:List Slot=>[some (.lst (cs.map .int)),some (.lst (m.map slP)),none,none,none])
  (λr m=>bG m/\m.length+r.length=cs.length/\∀y∈r,y.2 < 1000)
  (by
   rintro y r m ⟨i1,i2,i3⟩
   simp only[bb] at i2
   have h1:=uw y.1 y.2 (BZ (i3 y ai))
   have h0:=Ji y.1 y.2
   obtain⟨q,eq⟩:∃q:Nat,mixed y.1 y.2 / 2=q:=⟨(mixed y.1 y.2 / 2).toNat,by omega⟩
   have h2:=Mx q
   have hl:m.length < 1000000:=by omega
   refine⟨m++[(pats q,decide (mixed y.1 y.2 % 2=1))],⟨?_,by simp;omega,λz hz=>i3 z (ag _ hz)⟩,?_⟩
   ·intro s hs
    rcases b0.mp hs with z | z
    ·exact i1 s z
    ·rw[aI] at z;rw[z];exact Mw q
   ·simp[aV,jQ,h1,eq,h2,hl,slP])
  cs.zipIdx [] ⟨(λs hs=>by cases hs),by simp,(λy hy=>by
   have:=List.snd_lt_of_mem_zipIdx hy
   omega)⟩
 simp only[md,p5] at i2
 refine⟨m,i1,i2,?_⟩
 have en:fC 0 (cs.map .int)=cs.zipIdx.map λy:Int×Nat=>PV.tup [.int (y.2:Nat),.int y.1]:=iR _ _ _
 simp only[c9] at h
 simp[fO,qQ,en,h,mP]
abbrev Sg:=Str×Bool
abbrev qV:=List Sg
def sgP (e:Sg):PV:=.tup [.str e.1,.bl e.2]
def aR (r:qV):PV:=.lst (r.map sgP)
def stands (x mark:Str):Bool:=decide (x=mark)||decide (x=("x" : Str))
theorem jB {α β:Type}(f:α->PV)(g:β->PV):∀(xs:List α) (ys:List β),jy (xs.map f) (ys.map g)=(xs.zip ys).map λz=>.tup [f z.1,g z.2]
 | [],ys=>by simp[jy]
 | x::xs,[]=>by simp[jy]
 | x::xs,y::ys=>by
  have:=jB f g xs ys
  unfold jy at this ⊢
  simp only[av,List.zipWith_cons_cons,eM,this]
theorem rT {α:Type}(f:α->Bool):∀l:List α,bools (l.map λz=>PV.bl (f z))=some (l.map f)
 | []=>rfl
 | w::ws=>by simp[rT f ws]
noncomputable def m5 (p:Str)(part:qV):Bool:=(p.cps.toList.zip part).all λz=>stands ⟨#[z.1]⟩ z.2.1
def m6 (part:qV):Bool:=(part.getLast?.map (·.2)).getD false
def fit (p:Str)(cut:Bool)(part:qV):Bool:=decide (part.length=p.length)&&(m5 p part&&(m6 part||!cut))
theorem GF {α:Type}{xs:List α}(h:xs≠[]):atI xs (-1)=xs.getLast?:=by
 unfold atI ixN
 have hl:0 < xs.length:=iN.mpr h
 rw[a9 (by decide),bp (by omega),nz]
 show xs[(-1+(xs.length:Int)).toNat]?=_
 congr 1
 omega
theorem wZ (x mark:Str):dB [.str x,.str mark]=some (.bl (stands x mark)):=by
 unfold stands
 by_cases h:x=mark
 ·simp[dB,lK,h]
 ·simp[dB,lK,h]
theorem vm {p:Str}(hp:PatOk p)(cut:Bool)(part:qV):jg [.str p,.bl cut,aR part]=some (.bl (fit p cut part)):=by
 have h1:p.length<=1000000:=by have:=hp.le;omega
 have hv:chV p=p.cps.toList.map λc=>PV.str ⟨#[c]⟩:=rfl
 by_cases hlen:part.length=p.length
 ·have hle:(p.cps.toList.zip part).length<=1000000:=by
   rw[i9]
   have:p.cps.toList.length=p.length:=ff
   omega
  have hz:=jB (λc:Nat=>PV.str ⟨#[c]⟩) sgP p.cps.toList part
  have hc:=fZ (env:=[none,none]) (g:=gT [0,1]) (f:=rP) (λz:Nat×Sg=>PV.tup [.str ⟨#[z.1]⟩,sgP z.2]) (λz=>PV.bl (stands ⟨#[z.1]⟩ z.2.1)) (p.cps.toList.zip part) (λz hz=>⟨[some (.str ⟨#[z.1]⟩),some (sgP z.2)],rfl,by simp[rP,sgP,wZ]⟩)
  have hb:=rT (λz:Nat×Sg=>stands ⟨#[z.1]⟩ z.2.1) (p.cps.toList.zip part)
  have hne:part≠[]:=λe=>by
   rw[e] at hlen
   have:=hp.ge
   simp at hlen
   omega
  obtain⟨e,he⟩:∃e,part.getLast?=some e:=by
   rw[List.getLast?_eq_some_getLast hne]
   exact⟨_,rfl⟩
  have ha:atI (part.map sgP) (-1)=some (.tup [.str e.1,.bl e.2]):=by
   rw[Mj,GF hne,he]
   rfl
  have hl:m6 part=e.2:=by unfold m6;rw[he];rfl
  have hi:((part.length:Int)=(p.length:Int)):=by omega
  have hall:((p.cps.toList.zip part).map λz:Nat×Sg=>stands ⟨#[z.1]⟩ z.2.1).all id=m5 p part:=by
   unfold m5
   rw[i6]
   rfl
  unfold fit
  rw[hl,ca hlen,ly,← hall]
  generalize (p.cps.toList.zip part)=zs at *
  cases hm:(zs.map λz:Nat×Sg=>stands ⟨#[z.1]⟩ z.2.1).all id with
  | false=>simp[jg,tu,aR,h1,hi,hv,hz,hle,hc,hb,hm]
  | true=>
   cases cut <;> cases h2:e.2 <;> simp[jg,tu,aR,h1,hi,hv,hz,hle,hc,hb,hm,ha,h2]
 ·have hi:¬ ((part.length:Int)=(p.length:Int)):=by omega
  unfold fit
  rw[bq hlen,mT]
  simp[jg,tu,aR,h1,hi]
def seg (row:qV)(a n:Nat):List Sg:=(row.drop a).take n
theorem fit_le {row:qV}{p:Str}{cut:Bool}{a:Nat}(hp:PatOk p)(h:fit p cut (seg row a p.length)=true):a+p.length<=row.length:=by
 unfold fit at h
 rw[bP] at h
 have h1:=kM h.1
 have:=hp.ge
 unfold seg at h1
 rw[dQ,fq] at h1
 omega
theorem B_ {row:qV}{a n:Nat}(h:a<=row.length):fK (row.map sgP) (some (a:Int)) (some ((a:Int)+(n:Int)))=(seg row a n).map sgP:=by
 have e:(a:Int)+(n:Int)=((a+n:Nat):Int):=by omega
 rw[e]
 unfold fK
 rw[HT.sIx_nat,HT.sIx_nat,af,oC h]
 unfold seg
 rw[← pT,← kB]
 congr 1
 by_cases hq:a+n<=row.length
 ·rw[oC hq,show a+n - a=n by omega]
 ·rw[Nat.min_eq_right (by omega),fe (by rw[fq];exact aS _),fe (by rw[fq];omega)]
noncomputable def ways (row:qV):List Slot->Nat->Int
 | [],a=>if a=row.length then 1 else 0
 | s::m,a=>(s.1.map λp=>if fit p s.2 (seg row a p.length)=true then ways row m (a+p.length) else 0).sum
def d8 (row:qV)(s:Slot)(m:qE)(a:Nat)(p:Str):Int:=if fit p s.2 (seg row a p.length)=true then ways row m (a+p.length) else 0
theorem jH (row:qV)(s:Slot)(m:qE)(a:Nat):ways row (s::m) a=(s.1.map (d8 row s m a)).sum:=rfl
noncomputable def bhP (row:qV)(m:qE):List PV:=(List.range (row.length+1)).map λa=>PV.int (ways row m a)
theorem Rw {row:qV}{m:qE}{a:Nat}(h:a<=row.length):atI (bhP row m) (a:Int)=some (.int (ways row m a)):=by
 refine bO ?_
 unfold bhP
 rw[aE,fE (by omega)]
 rfl
theorem Jt {row:qV}{s:Slot}{m:qE}{a:Nat}{p:Str}(hp:PatOk p)(ha:a<=row.length){L:qv}(hL:L.length < 1000):
  turn (gN 5) [5,6] cM (.str p) [some (slP s),some (aR row),some (.int a),some (.lst (bhP row m)),some (.lst (L.map .int)),none,none]=
   some [some (slP s),some (aR row),some (.int a),some (.lst (bhP row m)),some (.lst ((L++[d8 row s m a p]).map .int)),none,none]:=by
 have h1:p.length<=1000000:=by have:=hp.le;omega
 have hc:=B_ (n:=p.length) ha
 have hf:=vm hp s.2 (seg row a p.length)
 have hl:L.length < 1000000:=by omega
 unfold aR at hf
 unfold d8
 cases hq:fit p s.2 (seg row a p.length) with
 | false=>
  rw[hq] at hf
  simp[aV,cM,slP,aR,h1,hc,hf,hl]
 | true=>
  rw[hq] at hf
  have h2:=Rw (m:=m) (fit_le hp hq)
  have e:((a+p.length:Nat):Int)=(a:Int)+(p.length:Int):=by omega
  rw[e] at h2
  simp[aV,cM,slP,aR,h1,hc,hf,h2,hl]
theorem GJ {row:qV}{s:Slot}{m:qE}{a:Nat}(hs:PatsOk s.1)(ha:a<=row.length):
  aU [slP s,aR row,.int a,.lst (bhP row m)]=some (.lst ((s.1.map (d8 row s m a)).map .int)):=by
 obtain⟨L,⟨d,e1,e2⟩,lp⟩:=bz (g:=gN 5) (ds:=[5,6]) (body:=cM) PV.str (λL:List Int=>[some (slP s),some (aR row),some (.int a),some (.lst (bhP row m)),some (.lst (L.map .int)),none,none])
  (λr L=>∃d,s.1=d++r/\L=d.map (d8 row s m a))
  (by
   rintro p r L ⟨d,e1,e2⟩
   have hd:L.length < 1000:=by
    have h1:=ce List.length e1
    have:=hs.le
    rw[e2,af]
    simp at h1
    omega
   exact⟨L++[d8 row s m a p],⟨d++[p],by rw[e1];simp,by rw[e2];simp⟩,Jt (hs.ok p (by rw[e1];simp)) ha hd⟩)
  s.1 [] ⟨[],rfl,rfl⟩
 rw[bE] at e1
 rw[e2,← e1] at lp
 simp only[c9] at lp
 have hsl:slP s=.tup [.tup (s.1.map .str),.bl s.2]:=rfl
 rw[hsl] at lp ⊢
 generalize s.1.map (d8 row s m a)=R at *
 generalize aR row=RP at *
 generalize bhP row m=BP at *
 simp[aU,jV,lp]
theorem oF:∀l:List Int,intsP (l.map PV.int)=some l
 | []=>rfl
 | w::ws=>by simp[oF ws]
theorem GK {row:qV}{s:Slot}{m:qE}(hs:PatsOk s.1):eO [none,some (slP s),some (aR row),some (.lst (bhP row m))] (gN 0) fD iz (cZ 0 ((row.length+1:Nat):Int))=some (bhP row (s::m)):=by
 rw[dZ]
 unfold bhP
 refine fZ _ _ _ λa ha=>⟨[some (.int (a:Nat)),some (slP s),some (aR row),some (.lst (bhP row m))],rfl,?_⟩
 have h1:=GJ (row:=row) (m:=m) hs (a:=a) (by have:=b6.mp ha;omega)
 have h2:=oF (s.1.map (d8 row s m a))
 rw[jH]
 generalize s.1.map (d8 row s m a)=R at *
 simp[iz,h1,h2]
def Ls (row:qV):List Slot->List PV
 | []=>[.lst (bhP row [])]
 | s::d=>Ls row d++[.lst (bhP row (s::d))]
theorem GQ (row:qV):∀d:List Slot,(Ls row d).length=d.length+1
 | []=>rfl
 | s::d=>by simp[Ls,GQ row d]
theorem Rx (row:qV):bhP row []=List.replicate row.length (.int 0)++[.int 1]:=by
 unfold bhP
 rw[List.range_succ,cS]
 congr 1
 ·rw[pb]
  refine⟨by simp,λx hx=>?_⟩
  obtain⟨a,ha,rfl⟩:=db.mp hx
  have:¬ a=row.length:=by have:=b6.mp ha;omega
  simp[ways,this]
 ·simp[ways]
theorem Ju {row:qV}{s:Slot}{d:qE}(hs:PatsOk s.1)(hr:row.length < 1000)(hd:d.length < 1000){M:PV}:
  turn (gN 4) [4] fG (slP s) [some M,some (aR row),some (.lst (bhP row d)),some (.lst (Ls row d)),none]=some [some M,some (aR row),some (.lst (bhP row (s::d))),some (.lst (Ls row (s::d))),none]:=by
 have h1:=GK (row:=row) (m:=d) hs
 have h2:rgI ((row.length+1:Nat):Int)=true:=iI (by omega) (by omega)
 have h3:(cZ 0 ((row.length+1:Nat):Int)).length<=1000000:=by rw[dZ];simp;omega
 have h4:(Ls row d).length < 1000000:=by rw[GQ];omega
 have e:((row.length+1:Nat):Int)=(row.length:Int)+1:=by omega
 rw[e] at h1 h2 h3
 have hl:(row.map sgP).length=row.length:=af ..
 have hL:Ls row (s::d)=Ls row d++[.lst (bhP row (s::d))]:=rfl
 rw[hL]
 generalize bhP row (s::d)=B2 at *
 generalize Ls row d=L0 at *
 unfold aR at h1 ⊢
 generalize row.map sgP=RP at *
 generalize slP s=SP at *
 generalize bhP row d=B1 at *
 simp[aV,fG,hl,h1,h2,h3,h4]
theorem GR {row:qV}{m:qE}(hm:bG m)(hr:row.length < 1000)(hl:m.length < 1000):cD [mP m,aR row]=some (.lst (Ls row m).reverse):=by
 obtain⟨d,e1,lp⟩:=bz (g:=gN 4) (ds:=[4]) (body:=fG) slP (λd:List Slot=>[some (mP m),some (aR row),some (.lst (bhP row d)),some (.lst (Ls row d)),none])
  (λr d=>m=r.reverse++d)
  (λs r d e1=>by
   have hd:d.length < 1000:=by have:=ce List.length e1;simp at this;omega
   have hs:s∈m:=by rw[e1];simp
   exact⟨s::d,by rw[e1];simp,Ju (hm s hs) hr hd⟩)
  m.reverse [] (by simp)
 simp only[List.reverse_nil,kF] at e1
 rw[← e1] at lp
 have h0:Ls row []=[.lst (bhP row [])]:=rfl
 rw[h0,Rx] at lp
 have hmP:mP m=.tup (m.map slP):=rfl
 rw[oo] at lp
 have hlen:(row.map sgP).length=row.length:=af ..
 have hsum:row.length+1<=1000000:=by omega
 have hlm:(row.length:Int)<=1000000:=by omega
 have hlm2:row.length<=1000000:=by omega
 rw[hmP] at lp ⊢
 unfold aR at lp ⊢
 generalize Ls row m=R at *
 generalize row.map sgP=RP at *
 generalize bhP row m=B1 at *
 simp[cD,lU,lp,hlen,hsum,hlm,hlm2]
theorem rY {α:Type}{g:PV->MR.Env->Option MR.Env}{ds:qf}{body:MR.Env->Option Out}{env:MR.Env}{v:PV}(c:α->PV)(q:α->Bool):∀(ys:List α),(∀y∈ys,∃e,g (c y) env=some e/\(q y=true->nxt ds (body e)=some env)/\(q y=false->body e=some (.rt v)))->
  bY g ds body (ys.map c) env=some (if ys.all q=true then .nx env else .rt v)
 | [],_=>rfl
 | y::ys,h=>by
  obtain⟨e,h1,h2,h3⟩:=h y ai
  have ih:=rY c q ys λz hz=>h z (ag _ hz)
  rw[av,iA]
  cases hq:q y with
  | true=>
   have ht:turn g ds body (c y) env=some env:=by unfold turn;rw[h1];exact h2 hq
   rw[eU ht,ih,ly]
  | false=>simp[bY,h1,h3 hq]
def gq (p:Str)(j:Nat):Str:=⟨#[p.cps.toList.getD j 0]⟩
def b7 (row:qV)(k:Nat):Sg:=row.getD k (⟨#[]⟩,false)
theorem GX {p:Str}{j:Nat}(h:j < p.length):atI p.cps.toList (j:Int)=some (p.cps.toList.getD j 0):=by
 have h':j < p.cps.toList.length:=by simpa [Str.length] using h
 refine bO ?_
 rw[bi,ar h']
 rfl
theorem Ry {row:qV}{k:Nat}(h:k < row.length):atI (row.map sgP) (k:Int)=some (sgP (b7 row k)):=by
 refine bO ?_
 rw[aE,ar h]
 simp[b7,h]
theorem Ca {row:qV}{a n:Nat}(h:a+n<=row.length):(seg row a n).length=n:=by
 unfold seg
 rw[dQ,fq]
 omega
theorem Ba {row:qV}{p:Str}{a:Nat}(h:a+p.length<=row.length):m5 p (seg row a p.length)=(List.range p.length).all λj=>stands (gq p j) (b7 row (a+j)).1:=by
 have hl:p.cps.toList.length=p.length:=ff
 have hs:=Ca h
 have e:p.cps.toList.zip (seg row a p.length)=(List.range p.length).map λj=>(p.cps.toList.getD j 0,b7 row (a+j)):=by
  refine jS λj=>?_
  rcases dc j p.length with hj | hj
  ·rw[aE,fE hj,ny.mpr ⟨?_,?_⟩]
   rotate_left
   ·exact(p.cps.toList.getD j 0,b7 row (a+j))
   ·rw[bi,ar (by omega)];rfl
   ·unfold seg b7
    rw[List.getElem?_take,bp hj,nh,ar (by omega)]
    simp[show a+j < row.length by omega]
   rfl
  ·rw[bo (by rw[i9];omega),bo (by simp;omega)]
 unfold m5
 rw[e,i6]
 rfl
theorem Jv {row:qV}{a n:Nat}(h:a+n<=row.length)(hn:1<=n):m6 (seg row a n)=(b7 row (a+n - 1)).2:=by
 unfold m6
 rw[nz,Ca h]
 unfold seg b7
 rw[List.getElem?_take,bp (by omega),nh,bi,show a+(n - 1)=a+n - 1 by omega,ar (by omega)]
 rfl
noncomputable def aA:Nat->PV
 | 0=>.tup [.int 0,.str "u"]
 | 1=>.tup [.int 0,.str "-"]
 | 2=>.tup [.int 1,.str "-"]
 | _=>.non
theorem lt4 {i:Nat}(h:i < 4):i=0\/i=1\/i=2\/i=3:=by omega
theorem Mz {i:Int}(h0:0<=i)(h1:i < 4):atI [PV.tup [.int 0,.str "u"],.tup [.int 0,.str "-"],.tup [.int 1,.str "-"],.non] i=some (aA i.toNat):=by
 obtain⟨k,rfl⟩:∃k:Nat,i=k:=⟨i.toNat,by omega⟩
 have hk:k < 4:=by omega
 rcases lt4 hk with rfl | rfl | rfl | rfl <;> rfl
theorem Rz {k:Nat}(h:k < 4):atI [PV.int 1,.int 2,.int 4,.int 8] (k:Int)=some (.int (2 ^ k)):=by
 rcases lt4 h with rfl | rfl | rfl | rfl <;> rfl
noncomputable def lB:PV:=.lst [.tup [.int 0,.str "u"],.tup [.int 0,.str "-"],.tup [.int 1,.str "-"],.non]
def mq (n:Int)(k:Nat):Nat:=((n / 16+k) % 4).toNat
def i_ (n:Int)(k:Nat):Bool:=decide (n / 2 ^ k % 2=1)
theorem ce1 (n:Int){k:Nat}(h:k < 4):eE [some (.int k),some lB,some (.int n)]=some (aA (mq n k)):=by
 have h1:=Mz (i:=(n / 16+k) % 4) (by omega) (by omega)
 simp[eE,lB,h1,mq]
theorem cc2 (n:Int){k:Nat}(h:k < 4):eF [some (.int k),some lB,some (.int n)]=some (i_ n k):=by
 have h1:=Rz h
 have h2:(0:Int) < 2 ^ k/\(2:Int) ^ k < 1073741824:=by rcases lt4 h with rfl | rfl | rfl | rfl <;> decide
 simp[eF,h1,h2,i_]
def C4 (is:qf):Prop:=∀i∈is,i < 4
def aH (is:qf):PV:=.lst (is.map aA)
theorem MF (n:Int):(((List.range 4).filter (i_ n)).map (mq n)).Nodup:=by
 refine List.pairwise_map.mpr ((List.nodup_range.filter (i_ n)).imp_of_mem λ{a b} ha hb ne e=>?_)
 have h1:a < 4:=by simpa using (gp.mp ha).1
 have h2:b < 4:=by simpa using (gp.mp hb).1
 unfold mq at e
 omega
theorem RB (is:qf){v:Int}(h0:0<=v)(h1:v<=is.length):fK (is.map aA) none (some v)=(is.take v.toNat).map aA/\fK (is.map aA) (some v) none=(is.drop v.toNat).map aA:=by
 have e:HT.sIx (is.map aA).length (is.map aA).length (some v)=v.toNat:=by
  simp only[HT.sIx,af];rw[a9 (by omega)];omega
 have e':HT.sIx (is.map aA).length 0 (some v)=v.toNat:=by
  simp only[HT.sIx,af];rw[a9 (by omega)];omega
 have e0:HT.sIx (is.map aA).length 0 none=0:=rfl
 have e1:HT.sIx (is.map aA).length (is.map aA).length none=(is.map aA).length:=rfl
 unfold fK
 rw[e,e',e0,e1]
 refine⟨by simp[kB],?_⟩
 rw[pT]
 exact fe (by simp)
theorem Ea (n:Int)(last:Bool):∃is,C4 is/\(is.length<=4/\is.Nodup)/\dX [.int n,.bl last]=some (aH is):=by
 have hmem:∀{k},k∈(List.range 4).filter (i_ n)->k < 4:=λ{k} h=>by simpa using (gp.mp h).1
 have nd:=MF n
 have l1:(((List.range 4).filter (i_ n)).map (mq n)).length<=4:=by
  have:=pc (i_ n) (List.range 4)
  simpa using this
 have o1:C4 (((List.range 4).filter (i_ n)).map (mq n)):=λp hp=>by
  obtain⟨k,hk,rfl⟩:=db.mp hp
  unfold mq;omega
 have c1:eO [none,some lB,some (.int n)] (gN 0) eF eE ((List.range 4).map λk=>PV.int (k:Nat))=some ((((List.range 4).filter (i_ n)).map (mq n)).map aA):=by
  rw[df]
  exact iQ _ _ (i_ n) (List.range 4) λk hk=>⟨_,rfl,cc2 n (by simpa using hk),λ_=>ce1 n (by simpa using hk)⟩
 generalize ((List.range 4).filter (i_ n)).map (mq n)=is at *
 have c2:eO [none] (gN 0) eN eG (is.map aA)=some ((is.filter λi=>!decide (i=3)).map aA):=by
  exact iQ (env:=[none]) (g:=gN 0) (t:=eN) (f:=eG) aA aA (λi=>!decide (i=3)) is λi hi=>⟨_,rfl,by rcases lt4 (o1 i hi) with rfl | rfl | rfl | rfl <;> simp[eN,aA],λ_=>by simp[eG]⟩
 have r4:cZ 0 4=(List.range 4).map λk=>PV.int (k:Nat):=dZ 4
 have hs1:aJ 2 (b_ (ak (cI (ak (bC (.int 0)) (ak (bC (.str "u")) aD))) (ak (cI (ak (bC (.int 0)) (ak (bC (.str "-")) aD))) (ak (cI (ak (bC (.int 1)) (ak (bC (.str "-")) aD))) (ak (bC .non) aD))))) [some (.int n),some (.bl last),none,none]=some (.nx [some (.int n),some (.bl last),some lB,none]):=by
  simp[lB]
 have hs2:aJ 3 (eQ [none,some 2,some 0] (iR1 (bC (.int 4))) (gN 0) eF eE) [some (.int n),some (.bl last),some lB,none]=some (.nx [some (.int n),some (.bl last),some lB,some (aH is)]):=by
  have hr:rgI 4=true:=iI (by decide) (by decide)
  have hl:is.length<=1000000:=by omega
  simp[hr,r4,c1,hl,aH]
 have hlen:is.length<=1000000:=by omega
 cases last with
 | true=>
  refine⟨is,o1,⟨l1,nd⟩,?_⟩
  have hb:gb [some (.int n),some (.bl true),none,none]=some (.rt (aH is)):=by
   unfold gb
   rw[bM hs1,bM hs2]
   simp
  simp[dX,hb]
 | false=>
  refine⟨is.filter λi=>!decide (i=3),λi hi=>o1 i (gp.mp hi).1,⟨f7 (pc _ _) l1,nd.filter _⟩,?_⟩
  have hs3:sIf (tN (tV (bV 1))) (aJ 3 (eQ [none] (iV (bV 3)) (gN 0) eN eG)) sNx [some (.int n),some (.bl false),some lB,some (aH is)]=some (.nx [some (.int n),some (.bl false),some lB,some (aH (is.filter λi=>!decide (i=3)))]):=by
   unfold aH
   simp[itV,c2,hlen]
  have hb:gb [some (.int n),some (.bl false),none,none]=some (.rt (aH (is.filter λi=>!decide (i=3)))):=by
   unfold gb
   rw[bM hs1,bM hs2,bM hs3]
   simp
  simp[dX,hb]
noncomputable def jC:Nat->PyData
 | 0=>.tuple [.int 0,.str "u"]
 | 1=>.tuple [.int 0,.str "-"]
 | 2=>.tuple [.int 1,.str "-"]
 | _=>.none
theorem v9 (i:Nat):toD (aA i)=some (jC i):=by
 unfold aA jC
 split <;> simp[toD,fc]
theorem Ke:¬ (("u" : Str) = "-"):=by decide
theorem v_ {i j:Nat}(hi:i < 4)(hj:j < 4):PyData.eqv (jC i) (jC j)=decide (i=j):=by
 have h1:=Ke
 have h2:¬ (("-" : Str) = "u"):=λe=>h1 e.symm
 rcases lt4 hi with rfl | rfl | rfl | rfl <;> rcases lt4 hj with rfl | rfl | rfl | rfl <;> simp[jC,PyData.eqv,PyData.eqvAll,h1,h2]
theorem ux (i:Nat):(jC i).canLay0=true/\(jC i).depth<=32:=by
 have h1:PyData.strOk ("u" : Str)=true:=by decide +kernel
 have h2:PyData.strOk ("-" : Str)=true:=by decide +kernel
 unfold jC
 split <;> simp[PyData.canLay0,PyData.canLayAll0,PyData.depth,PyData.depthAll,h1,h2]
theorem rZ:∀is:List Nat,fc (is.map aA)=some (is.map jC)/\PyData.canLayAll0 (is.map jC)=true
 | []=>⟨rfl,rfl⟩
 | i::is=>by
  obtain⟨h1,h2⟩:=rZ is
  exact⟨by simp[fc,v9,h1],by simp[PyData.canLayAll0,(ux i).1,h2]⟩
theorem Cd {i:Nat}(hi:i < 4):∀{is:qf},C4 is->((is.map jC).any λy=>PyData.eqv y (jC i))=decide (i∈is)
 | [],_=>by simp
 | j::is,h=>by
  have ih:=Cd hi (is:=is) λk hk=>h k (ag _ hk)
  rw[av,fb,ih,v_ (h j ai) hi]
  by_cases e:i=j
  ·subst e;simp
  ·have e':¬ j=i:=λz=>e z.symm
   simp[e,e']
theorem wg {i:Nat}(hi:i < 4){is:qf}(h:C4 is):inP (aA i) (aH is)=some (decide (i∈is)):=by
 have hD:inD (aA i) (is.map aA)=some (decide (i∈is)):=by
  obtain⟨h1,h2⟩:=rZ is
  have h3:=Cd hi h
  have h4:=ux i
  unfold inD
  rw[v9,h1]
  simp only
  rw[bp ⟨h2,h4.1,h4.2⟩,h3]
 unfold aH
 show (if dD (aA i)=true/\(is.map aA).all dD=true then some ((is.map aA).any λy=>eqF y (aA i)) else inD (aA i) (is.map aA))=_
 split
 ·rename_i hf
  have hi3:i=3:=by
   have:=hf.1
   rcases lt4 hi with rfl | rfl | rfl | rfl <;> simp[aA] at this ⊢
  subst hi3
  have hall:∀j∈is,j=3:=λj hj=>by
   have:=cy.mp hf.2 (aA j) (db.mpr ⟨j,hj,rfl⟩)
   rcases lt4 (h j hj) with rfl | rfl | rfl | rfl <;> simp[aA] at this ⊢
  cases is with
  | nil=>simp
  | cons j is=>
   have:=hall j ai
   subst this
   simp[aA,eqF]
 ·exact hD
theorem Ce (n:Int)(last:Bool){i:Nat}(hi:i < 4):∃is,C4 is/\(is.length<=9/\is.Nodup)/\i∈is/\bR [.int n,.bl last,aA i]=some (aH is):=by
 obtain⟨is,h1,⟨h2,nd⟩,h3⟩:=Ea n last
 have hin:=wg hi h1
 by_cases hm:i∈is
 ·refine⟨is,h1,⟨by omega,nd⟩,hm,?_⟩
  rw[ca hm] at hin
  generalize aH is=SP at *
  generalize aA i=OP at *
  simp[bR,mW,h3,hin]
 ·rw[bq hm] at hin
  have hv0:0<=n / 64 % ((is.length:Int)+1):=mh _ (by omega)
  have hv1:n / 64 % ((is.length:Int)+1)<=is.length:=by have:=nr (n / 64) (show (0:Int) < (is.length:Int)+1 by omega);omega
  obtain⟨q3,q6⟩:=RB is hv0 hv1
  have q1:(is.take (n / 64 % ((is.length:Int)+1)).toNat).length<=is.length:=List.length_take_le' _ _
  have q4:(is.drop (n / 64 % ((is.length:Int)+1)).toNat).length<=is.length:=by rw[fq];omega
  have hnd:(is.take (n / 64 % ((is.length:Int)+1)).toNat++i::is.drop (n / 64 % ((is.length:Int)+1)).toNat).Nodup:=by
   have p:(is.take (n / 64 % ((is.length:Int)+1)).toNat++i::is.drop (n / 64 % ((is.length:Int)+1)).toNat).Perm (i::is):=by
    refine List.perm_middle.trans (List.Perm.cons i ?_)
    rw[List.take_append_drop]
   exact p.nodup_iff.mpr (cm.mpr ⟨hm,nd⟩)
  have q2:∀x∈is.take (n / 64 % ((is.length:Int)+1)).toNat,x∈is:=λx hx=>l6 hx
  have q5:∀x∈is.drop (n / 64 % ((is.length:Int)+1)).toNat,x∈is:=λx hx=>List.mem_of_mem_drop hx
  generalize is.take (n / 64 % ((is.length:Int)+1)).toNat=d1 at *
  generalize is.drop (n / 64 % ((is.length:Int)+1)).toNat=d2 at *
  refine⟨d1++i::d2,λk hk=>?_,⟨by simp;omega,hnd⟩,by simp,?_⟩
  ·rcases b0.mp hk with z | z
   ·exact h1 k (q2 k z)
   ·rcases aw.mp z with z | z
    ·rw[z];exact hi
    ·exact h1 k (q5 k z)
  ·have hpos:(0:Int) < (is.length:Int)+1:=by omega
   have l1:d1.length+1<=1000000:=by omega
   have l2:d1.length+1+d2.length<=1000000:=by omega
   have e:aH (d1++i::d2)=.lst (d1.map aA++[aA i]++d2.map aA):=by simp[aH]
   rw[e]
   unfold aH at h3 hin
   have hl:(is.map aA).length=is.length:=af ..
   have hl1:(d1.map aA).length=d1.length:=af ..
   have hl2:(d2.map aA).length=d2.length:=af ..
   generalize is.map aA=SP at *
   generalize d1.map aA=D1 at *
   generalize d2.map aA=D2 at *
   generalize aA i=OP at *
   simp[bR,mW,h3,hin,hl,hl1,hl2,hpos,q3,q6,l1,l2]
def FtV:List Slot->List Nat->Prop
 | [],fs=>fs=[]
 | s::m,fs=>∃f p gs,fs=f::gs/\s.1[f]?=some p/\FtV m gs
theorem FtV.length:∀{m:qE}{fs:qf},FtV m fs->fs.length=m.length
 | [],fs,h=>by rw[show fs=[] from h];rfl
 | s::m,fs,⟨f,p,gs,h1,h2,h3⟩=>by rw[h1,bb,FtV.length h3,bb]
noncomputable def bT (s:Slot)(p:Str):List Sg:=(List.range p.length).map λj=>(gq p j,s.2&&decide (j+1=p.length))
def bB:List Slot->List Nat->List Sg
 | s::m,f::fs=>bT s (s.1.getD f ⟨#[]⟩)++bB m fs
 | _,_=>[]
noncomputable def fP (fs:qf):PV:=.lst (fs.map λf=>.int (f:Nat))
def mkE (M F:PV)(R:qV)(k:Nat)(s:Slot)(p:Str):MR.Env:=[some M,some F,some (aR R),some (.int k),some (.tup (s.1.map .str)),some (.bl s.2),some (.str p),none]
theorem MJ {M F:PV}{R:qV}{k:Nat}{s:Slot}{p:Str}(hp:PatOk p){j:Nat}(hj:j < p.length)(hR:R.length < 1000):
  turn (gN 7) [7] cF (.int j) (mkE M F R k s p)=some (mkE M F (R++[(gq p j,s.2&&decide (j+1=p.length))]) k s p):=by
 have h2:=GX hj
 have h3:p.length<=1000000:=by have:=hp.le;omega
 have h4:R.length < 1000000:=by omega
 have hji:((j:Int)+1=(p.length:Int))↔j+1=p.length:=by omega
 have hl:(R.map sgP).length=R.length:=af ..
 have e:aR (R++[(gq p j,s.2&&decide (j+1=p.length))])=.lst (R.map sgP++[.tup [.str ⟨#[p.cps.toList.getD j 0]⟩,.bl (s.2&&decide (j+1=p.length))]]):=by simp[aR,sgP,gq]
 unfold mkE
 rw[e]
 unfold aR
 generalize p.cps.toList.getD j 0=c at *
 generalize R.map sgP=RP at *
 by_cases hq:j+1=p.length
 ·cases hs:s.2 <;> simp[aV,cF,h2,h3,h4,hl,hji,hq]
 ·cases hs:s.2 <;> simp[aV,cF,h2,h3,h4,hl,hji,hq]
theorem RC {M F:PV}{R:qV}{k:Nat}{s:Slot}{p:Str}(hp:PatOk p)(hR:R.length < 900):
  bY (gN 7) [7] cF (cZ 0 (p.length:Int)) (mkE M F R k s p)=some (.nx (mkE M F (R++bT s p) k s p)):=by
 obtain⟨R',⟨d,e1,e2⟩,lp⟩:=bz (g:=gN 7) (ds:=[7]) (body:=cF) (λj:Nat=>PV.int (j:Nat)) (λR':List Sg=>mkE M F R' k s p)
  (λr R'=>∃d,List.range p.length=d++r/\R'=R++d.map λj=>(gq p j,s.2&&decide (j+1=p.length)))
  (by
   rintro j r R' ⟨d,e1,e2⟩
   have hlt:j < p.length:=b6.mp (by rw[e1];simp)
   have hd:d.length<=p.length:=by
    have:=ce List.length e1
    simp at this
    omega
   have hp4:=hp.le
   exact⟨R'++[(gq p j,s.2&&decide (j+1=p.length))],⟨d++[j],by rw[e1];simp,by rw[e2];simp⟩,MJ hp hlt (by rw[e2];simp;omega)⟩)
  (List.range p.length) R ⟨[],rfl,by simp⟩
 rw[bE] at e1
 rw[e2,← e1] at lp
 rw[dZ]
 exact lp
noncomputable def moE (m:qE)(F:PV)(R:qV):MR.Env:=[some (mP m),some F,some (aR R),none,none,none,none,none]
theorem MK {m:qE}{fs:qf}{R:qV}{k f:Nat}{s:Slot}{p:Str}(hk:m[k]?=some s)(hf:fs[k]?=some f)(hp:s.1[f]?=some p)(ok:PatOk p)(hR:R.length < 900):
  turn (gN 3) [3,6,7,4,5] cG (.int k) (moE m (fP fs) R)=some (moE m (fP fs) (R++bT s p)):=by
 have lp:=RC (M:=mP m) (F:=fP fs) (R:=R) (k:=k) (s:=s) ok hR
 have a1:atI (m.map slP) (k:Int)=some (.tup [.tup (s.1.map .str),.bl s.2]):=by
  have:atI (m.map slP) (k:Int)=some (slP s):=bO (by simp[hk])
  exact this
 have a2:atI (fs.map λf=>PV.int (f:Nat)) (k:Int)=some (.int (f:Nat)):=bO (by simp[hf])
 have a3:atI (s.1.map PV.str) (f:Int)=some (.str p):=bO (by simp[hp])
 have h3:p.length<=1000000:=by have:=ok.le;omega
 have hrg:rgI (p.length:Int)=true:=iI (by omega) (by have:=ok.le;omega)
 have s1:um (gT [4,5]) (b2 ixP (bV 0) (bV 3)) [some (mP m),some (fP fs),some (aR R),some (.int k),none,none,none,none]=some (.nx [some (mP m),some (fP fs),some (aR R),some (.int k),some (.tup (s.1.map .str)),some (.bl s.2),none,none]):=by
  unfold mP
  simp[a1]
 have s2:aJ 6 (b2 ixP (bV 4) (b2 ixP (bV 1) (bV 3))) [some (mP m),some (fP fs),some (aR R),some (.int k),some (.tup (s.1.map .str)),some (.bl s.2),none,none]=some (.nx (mkE (mP m) (fP fs) R k s p)):=by
  unfold mkE fP
  simp[a2,a3]
 have s3:cj (gN 7) (iR1 (b1 lenV (bV 6))) [7] cF (mkE (mP m) (fP fs) R k s p)=some (.nx (mkE (mP m) (fP fs) (R++bT s p) k s p)):=by
  generalize cF=B at *
  unfold mkE at lp ⊢
  simp[hrg,h3,lp]
 have s4:cG [some (mP m),some (fP fs),some (aR R),some (.int k),none,none,none,none]=some (.nx (mkE (mP m) (fP fs) (R++bT s p) k s p)):=by
  unfold cG
  rw[bM s1,bM s2]
  exact s3
 unfold moE
 unfold mkE at s4
 generalize cG=B at *
 rw[aV]
 simp[s4]
theorem sr {n y:Nat}{d r:qf}(e:List.range n=d++y::r):y=d.length/\y < n:=by
 have h1:y < n:=b6.mp (by rw[e];simp)
 have h2:(List.range n)[d.length]?=some y:=by rw[e];simp
 have h3:d.length < n:=by
  have:=ce List.length e
  simp at this
  omega
 rw[fE h3] at h2
 cases h2
 exact⟨rfl,h1⟩
theorem eV (s:Slot)(p:Str):(bT s p).length=p.length:=by simp[bT]
theorem zB {m:qE}{fs:qf}(hm:bG m)(hf:FtV m fs)(hl:m.length < 100):cP [mP m,fP fs]=some (aR (bB m fs))/\(bB m fs).length<=4*m.length:=by
 obtain⟨R,⟨d,m',fs',e1,e2,e3,e4,e5,e6,e7⟩,lp⟩:=bz (g:=gN 3) (ds:=[3,6,7,4,5]) (body:=cG) (λk:Nat=>PV.int (k:Nat)) (λR:List Sg=>moE m (fP fs) R)
  (λr R=>∃d m' fs',List.range m.length=d++r/\m.drop d.length=m'/\fs.drop d.length=fs'/\FtV m' fs'/\R++bB m' fs'=bB m fs/\r.length=m'.length/\R.length<=4*d.length)
  (by
   rintro k r R ⟨d,m',fs',e1,e2,e3,e4,e5,e6,e7⟩
   obtain⟨hk,hlt⟩:=sr e1
   cases m' with
   | nil=>simp at e6
   | cons s m'=>
    obtain⟨f,p,gs,h1,h2,h3⟩:=e4
    have hs?:m[d.length]?=some s:=by
     have:=ce (λl=>l[0]?) e2
     simpa using this
    have hf?:fs[d.length]?=some f:=by
     have:=ce (λl=>l[0]?) (e3.trans h1)
     simpa using this
    have ok:=(hm s (ax hs?)).ok p (ax h2)
    have hp4:=ok.le
    refine⟨R++bT s p,⟨d++[k],m',gs,by rw[e1];simp,?_,?_,h3,?_,by simp at e6;omega,by simp[eV];omega⟩,MK (by rw[hk];exact hs?) (by rw[hk];exact hf?) h2 ok (by omega)⟩
    ·rw[a8,dy,← k6,e2];rfl
    ·rw[a8,dy,← k6,e3,h1];rfl
    ·rw[← e5,h1]
     show R++bT s p++bB m' gs=R++(bT s (s.1.getD f ⟨#[]⟩)++bB m' gs)
     rw[bi,h2,dS]
     rfl)
  (List.range m.length) [] ⟨[],m,fs,rfl,rfl,rfl,hf,rfl,by simp,aS _⟩
 have hm':m'=[]:=List.length_eq_zero_iff.mp (by simpa using e6.symm)
 subst hm'
 have hR:R=bB m fs:=by rw[← e5];simp[bB]
 subst hR
 rw[bE] at e1
 have hd:d.length=m.length:=by rw[← e1,ip]
 refine⟨?_,by omega⟩
 rw[← dZ] at lp
 have hrg:rgI (m.length:Int)=true:=iI (by omega) (by omega)
 have s1:aJ 2 (b_ aD) [some (mP m),some (fP fs),none,none,none,none,none,none]=some (.nx (moE m (fP fs) [])):=by
  unfold moE aR
  simp
 have s2:cj (gN 3) (iR1 (b1 lenV (bV 0))) [3,6,7,4,5] cG (moE m (fP fs) [])=some (.nx (moE m (fP fs) (bB m fs))):=by
  generalize cG=B at *
  unfold moE at lp ⊢
  unfold mP at lp ⊢
  simp[hrg,lp]
 have hb:lO [some (mP m),some (fP fs),none,none,none,none,none,none]=some (.rt (aR (bB m fs))):=by
  unfold lO
  rw[bM s1,bM s2]
  simp[moE]
 simp[cP,hb]
def wdP (w:List (List Nat)):PV:=.lst (w.map aH)
def grP (g:dn):PV:=.lst (g.map wdP)
def bL (i:Nat):Str:=if i=0 then "u" else "-"
def cU:List (List Nat)->List Nat->Bool
 | [],[]=>true
 | is::O,i::S=>decide (i∈is)&&cU O S
 | _,_=>false
def rfB:List Sg->List Sg->Bool
 | [],[]=>true
 | a::A,b::B=>(stands a.1 b.1&&(!a.2||b.2))&&rfB A B
 | _,_=>false
noncomputable def aZ (S:qf)(es:List Bool):List Sg:=(S.zip es).flatMap λy=>if y.1=3 then [] else [(bL y.1,y.2)]
def cY (n:Nat):List Bool:=(List.range n).map λi=>decide (i+1=n)
noncomputable def bx (g:dn):List Bool:=g.flatMap λw=>cY w.length
theorem kE:∀{O1 O2:List (List Nat)}{S1 S2:qf},cU O1 S1=true->cU O2 S2=true->cU (O1++O2) (S1++S2)=true
 | [],O2,[],S2,_,h=>h
 | is::O,O2,i::S,S2,h1,h2=>by
  simp only[cU,bP] at h1
  show (decide (i∈is)&&cU (O++O2) (S++S2))=true
  rw[h1.1,kE h1.2 h2]
  rfl
 | [],_,_::_,_,h,_=>by simp[cU] at h
 | _::_,_,[],_,h,_=>by simp[cU] at h
theorem jb:∀{O:List (List Nat)}{S:qf},cU O S=true->S.length=O.length
 | [],[],_=>rfl
 | is::O,i::S,h=>by
  simp only[cU,bP] at h
  rw[bb,jb h.2,bb]
 | [],_::_,h=>by simp[cU] at h
 | _::_,[],h=>by simp[cU] at h
theorem pP:∀{A1 A2 B1 B2:qV},rfB A1 B1=true->rfB A2 B2=true->rfB (A1++A2) (B1++B2)=true
 | [],_,[],_,_,h=>h
 | a::A,A2,b::B,B2,h1,h2=>by
  simp only[rfB,bP] at h1
  show ((stands a.1 b.1&&(!a.2||b.2))&&rfB (A++A2) (B++B2))=true
  rw[pP h1.2 h2]
  simp only[Bool.and_true,bP]
  exact h1.1
 | [],_,_::_,_,h,_=>by simp[rfB] at h
 | _::_,_,[],_,h,_=>by simp[rfB] at h
theorem jJ (S T:qf)(es fs:List Bool)(h:S.length=es.length):aZ (S++T) (es++fs)=aZ S es++aZ T fs:=by
 unfold aZ
 rw[List.zip_append h,List.flatMap_append]
theorem uy (m:Nat):cY (m+1)=List.replicate m false++[true]:=by
 unfold cY
 rw[List.range_succ,cS]
 congr 1
 ·rw[pb]
  refine⟨by simp,λx hx=>?_⟩
  obtain⟨i,hi,rfl⟩:=db.mp hx
  have:=b6.mp hi
  simp
  omega
 ·simp
theorem oG (n:Nat):(cY n).length=n:=by simp[cY]
theorem cX:∀g:List (List (List Nat)),(bx g).length=g.flatten.length
 | []=>rfl
 | w::g=>by
  have:=cX g
  show (cY w.length++bx g).length=(w++g.flatten).length
  rw[a8,a8,oG,this]
theorem qu (g:dn)(w:List (List Nat)):bx (g++[w])=bx g++cY w.length:=by simp[bx]
def opn (S:qf):List Sg:=S.map λi=>(bL i,false)
theorem sy:∀(S:qf),(∀i∈S,i≠3)->aZ S (List.replicate S.length false)=opn S
 | [],_=>rfl
 | i::S,h=>by
  have ih:=sy S λj hj=>h j (ag _ hj)
  have hi:=h i ai
  unfold aZ opn at *
  rw[bb,dA,eM,gg,ih]
  simp[hi]
theorem zE {S:qf}(h:∀i∈S,i≠3):aZ (S++[3]) (cY (S.length+1))=opn S:=by
 rw[uy,jJ _ _ _ _ (by simp),sy S h]
 simp[aZ]
theorem Bb {S:qf}{i:Nat}(h:∀i∈S,i≠3)(hi:i≠3):aZ (S++[i]) (cY (S.length+1))=opn S++[(bL i,true)]:=by
 rw[uy,jJ _ _ _ _ (by simp),sy S h]
 simp[aZ,hi]
def C4g (g:dn):Prop:=∀w∈g,∀is∈w,C4 is/\is.length<=9/\is.Nodup
structure Opn (g0:dn)(w:List (List Nat))(S:qf)(d:qV):Prop where
 ne:∀v∈g0,v≠[]
 c4:C4g (g0++[w])
 s4:C4 S
 fit:∃S0 Sw d0 dw,S=S0++Sw/\d=d0++dw/\cU g0.flatten S0=true/\rfB d0 (aZ S0 (bx g0))=true/\cU w Sw=true/\(∀i∈Sw,i≠3)/\rfB dw (opn Sw)=true
structure Fin (g:dn)(S:qf)(d:qV):Prop where
 ne:∀v∈g,v≠[]
 c4:C4g g
 s4:C4 S
 ins:cU g.flatten S=true
 rf:rfB d (aZ S (bx g))=true
theorem wj {g0:dn}{w:List (List Nat)}{is:qf}(h:C4g (g0++[w]))(hi:C4 is)(hl:is.length<=9/\is.Nodup):C4g (g0++[w++[is]]):=λv hv js hj=>by
 rcases b0.mp hv with z | z
 ·exact h v (gc _ z) js hj
 ·rw[aI] at z
  subst z
  rcases b0.mp hj with y | y
  ·exact h w (by simp) js y
  ·rw[aI] at y;subst y;exact⟨hi,hl⟩
theorem Cg {g:dn}(h:C4g g):C4g (g++[[]]):=λv hv js hj=>by
 rcases b0.mp hv with z | z
 ·exact h v z js hj
 ·rw[aI] at z;subst z;cases hj
theorem wu {S:qf}{i:Nat}(h:C4 S)(hi:i < 4):C4 (S++[i]):=λj hj=>by
 rcases b0.mp hj with z | z
 ·exact h j z
 ·rw[aI] at z;rw[z];exact hi
theorem Opn.none {g0:dn}{w:List (List Nat)}{S:qf}{d:qV}{is:qf}(h:Opn g0 w S d)(hi:C4 is)(hl:is.length<=9/\is.Nodup)(hm:3∈is):Opn (g0++[w++[is]]) [] (S++[3]) d:=by
 obtain⟨S0,Sw,d0,dw,e1,e2,e3,e4,e5,e6,e7⟩:=h.fit
 have hlw:=jb e5
 have hl0:=jb e3
 refine⟨λv hv=>?_,Cg (wj h.c4 hi hl),wu h.s4 (by decide),S0++Sw++[3],[],d,[],by rw[e1];simp,by simp,?_,?_,rfl,(λi hi=>by cases hi),rfl⟩
 ·rcases b0.mp hv with z | z
  ·exact h.ne v z
  ·rw[aI] at z;subst z;simp
 ·have hf:(g0++[w++[is]]).flatten=g0.flatten++(w++[is]):=by simp
  rw[hf,dS]
  exact kE e3 (kE e5 (by simp[cU,hm]))
 ·rw[qu,dS,jJ _ _ _ _ (by rw[cX,hl0]),e2]
  refine pP e4 ?_
  rw[a8,dy,← hlw,zE e6]
  exact e7
theorem Opn.more {g0:dn}{w:List (List Nat)}{S:qf}{d:qV}{is:qf}{i:Nat}{a:Sg}(h:Opn g0 w S d)(hi:C4 is)(hl:is.length<=9/\is.Nodup)(hm:i∈is)(h3:i≠3)(hs:stands a.1 (bL i)=true)(hc:a.2=false):Opn g0 (w++[is]) (S++[i]) (d++[a]):=by
 obtain⟨S0,Sw,d0,dw,e1,e2,e3,e4,e5,e6,e7⟩:=h.fit
 refine⟨h.ne,wj h.c4 hi hl,wu h.s4 (hi i hm),S0,Sw++[i],d0,dw++[a],by rw[e1];simp,by rw[e2];simp,e3,e4,kE e5 (by simp[cU,hm]),λj hj=>?_,?_⟩
 ·rcases b0.mp hj with z | z
  ·exact e6 j z
  ·rw[aI] at z;rw[z];exact h3
 ·have:opn (Sw++[i])=opn Sw++[(bL i,false)]:=by simp[opn]
  rw[this]
  exact pP e7 (by simp[rfB,hs,hc])
theorem Opn.fin {g0:dn}{w:List (List Nat)}{S:qf}{d:qV}{is:qf}{i:Nat}{a:Sg}(h:Opn g0 w S d)(hi:C4 is)(hl:is.length<=9/\is.Nodup)(hm:i∈is)(h3:i≠3)(hs:stands a.1 (bL i)=true):Fin (g0++[w++[is]]) (S++[i]) (d++[a]):=by
 obtain⟨S0,Sw,d0,dw,e1,e2,e3,e4,e5,e6,e7⟩:=h.fit
 have hlw:=jb e5
 have hl0:=jb e3
 refine⟨λv hv=>?_,wj h.c4 hi hl,wu h.s4 (hi i hm),?_,?_⟩
 ·rcases b0.mp hv with z | z
  ·exact h.ne v z
  ·rw[aI] at z;subst z;simp
 ·have hf:(g0++[w++[is]]).flatten=g0.flatten++(w++[is]):=by simp
  rw[hf,e1,dS]
  exact kE e3 (kE e5 (by simp[cU,hm]))
 ·rw[qu,e1,e2,dS,dS,jJ _ _ _ _ (by rw[cX,hl0])]
  refine pP e4 ?_
  rw[a8,dy,← hlw,Bb e6 h3]
  exact pP e7 (by simp[rfB,hs])
theorem Fin.opn {g:dn}{S:qf}{d:qV}(h:Fin g S d):Opn g [] S d:=
 ⟨h.ne,Cg h.c4,h.s4,S,[],d,[],by simp,by simp,h.ins,h.rf,rfl,(λi hi=>by cases hi),rfl⟩
theorem MN (A ys:List PV)(p:PV)(h:ys.length < 1000000):apV (.lst (A++[.lst ys])) (.int (-1)) p=some (.lst (A++[.lst (ys++[p])])):=by
 have e1:ixN (A++[PV.lst ys]).length (-1)=some A.length:=by
  unfold ixN
  rw[a9 (by decide),bp (by simp;omega)]
  congr 1
  simp
  omega
 have e2:(A++[PV.lst ys])[A.length]?=some (.lst ys):=by simp
 have e3:(A++[PV.lst ys]).set A.length (.lst (ys++[p]))=A++[.lst (ys++[p])]:=by simp
 simp only[apV]
 rw[e1]
 simp only[bS]
 rw[e2]
 simp only[bS]
 rw[bp h,e3]
theorem Ci (g0:dn)(w:List (List Nat)):grP (g0++[w])=.lst (g0.map wdP++[.lst (w.map aH)]):=by simp[grP,wdP]
theorem Kf {g0:dn}{w:List (List Nat)}{is:qf}(h:w.length < 1000):apV (grP (g0++[w])) (.int (-1)) (aH is)=some (grP (g0++[w++[is]])):=by
 rw[Ci,Ci,MN _ _ _ (by rw[af];omega)]
 simp
theorem GZ {g:dn}(h:g.length < 1000):newV (grP g)=some (grP (g++[[]])):=by
 have:g.length < 1000000:=by omega
 unfold grP
 simp only[newV]
 rw[bp (by rw[af];exact this)]
 simp[wdP]
def ftE (M F:PV)(n:Int)(g:dn)(S:qf)(mk:qV)(x6 x7 x8 x9 x10 x11:Option PV):MR.Env:=[some M,some F,some (.int n),some (grP g),some (aH S),some (aR mk),x6,x7,x8,x9,x10,x11]
section
variable {M F:PV}{n:Int}{mk:qV}{k:Nat}
theorem MT {g:dn}{S:qf}(hk:k < 100):
  hid 3 (aJ 7 (aM cA (ak (bV 2) (ak (b2 bA (b2 jx (bC (.int 7)) (bV 6)) (bC (.int 3))) aD)))) (ftE M F n g S mk (some (.int k)) none none none none none)=some (.nx (ftE M F n g S mk (some (.int k)) (some (.int (mixed n (7*(k:Int)+3)))) none none none none)):=by
 have h1:=uw n (7*(k:Int)+3) (jn (by omega) (by omega))
 have h7:smI 7=true:=jn (by decide) (by decide)
 unfold ftE
 generalize grP g=GP at *
 simp[h1,h7]
theorem RG {g0:dn}{w:List (List Nat)}{S:qf}{m:Int}{d:qV}(h:Opn g0 w S d)(hw:w.length < 900)(hg:g0.length < 900)(hS:S.length < 900):
  ∃g0' w' S',Opn g0' w' S' d/\w'.length<=w.length/\g0'.length<=g0.length+1/\S'.length<=S.length+1 /\
  nIf 3 (tA (tV (b2 eqQ (b2 e_ (bV 7) (bC (.int 7))) (bC (.int 1)))) (tV (b2 jO (b2 bA (b1 lenV (bV 4)) (b1 lenV (bV 5))) (b2 bA (bC (.int 58)) (bV 6))))) (aB (uo 3 (b1 qb (bC (.int 1))) (aM bR (ak (b2 fJ (bV 7) (bC (.int 7))) (ak (bC (.bl true)) (ak (bC .non) aD))))) (aB (hid 3 (cN gC 4 (bC .non))) (uq 3))) sNx (ftE M F n (g0++[w]) S mk (some (.int k)) (some (.int m)) none none none none)=
   some (.nx (ftE M F n (g0'++[w']) S' mk (some (.int k)) (some (.int m)) none none none none)):=by
 have l1:(S.map aA).length=S.length:=af ..
 have l2:(mk.map sgP).length=mk.length:=af ..
 by_cases hc:m % 7=1/\(S.length:Int)+(mk.length:Int) < 58+(k:Int)
 ·obtain⟨is,i1,i2,i3,i4⟩:=Ce (m / 7) true (i:=3) (by decide)
  have i4':bR [.int (m / 7),.bl true,.non]=some (aH is):=i4
  have a1:=Kf (g0:=g0) (is:=is) (by omega:w.length < 1000)
  have a2:=GZ (g:=g0++[w++[is]]) (by simp;omega)
  refine⟨g0++[w++[is]],[],S++[3],h.none i1 i2 i3,cK _,by simp,by simp,?_⟩
  have s1:uo 3 (b1 qb (bC (.int 1))) (aM bR (ak (b2 fJ (bV 7) (bC (.int 7))) (ak (bC (.bl true)) (ak (bC .non) aD)))) (ftE M F n (g0++[w]) S mk (some (.int k)) (some (.int m)) none none none none)=some (.nx (ftE M F n (g0++[w++[is]]) S mk (some (.int k)) (some (.int m)) none none none none)):=by
   unfold ftE
   generalize grP (g0++[w])=G1 at *
   generalize grP (g0++[w++[is]])=G2 at *
   generalize aH is=SP at *
   generalize bR=mw at *
   simp[i4',a1,-apV]
  have s2:hid 3 (cN gC 4 (bC .non)) (ftE M F n (g0++[w++[is]]) S mk (some (.int k)) (some (.int m)) none none none none)=some (.nx (ftE M F n (g0++[w++[is]]) (S++[3]) mk (some (.int k)) (some (.int m)) none none none none)):=by
   have hl:S.length < 1000000:=by omega
   have e:aH (S++[3])=.lst (S.map aA++[.non]):=by simp[aH,aA]
   unfold ftE
   rw[e]
   unfold aH
   generalize grP (g0++[w++[is]])=G2 at *
   simp[hl]
  have s3:uq 3 (ftE M F n (g0++[w++[is]]) (S++[3]) mk (some (.int k)) (some (.int m)) none none none none)=some (.nx (ftE M F n (g0++[w++[is]]++[[]]) (S++[3]) mk (some (.int k)) (some (.int m)) none none none none)):=by
   unfold ftE
   generalize grP (g0++[w++[is]]++[[]])=G3 at *
   generalize grP (g0++[w++[is]])=G2 at *
   simp[a2,-newV]
  rw[zu]
  have hcond:tA (tV (b2 eqQ (b2 e_ (bV 7) (bC (.int 7))) (bC (.int 1)))) (tV (b2 jO (b2 bA (b1 lenV (bV 4)) (b1 lenV (bV 5))) (b2 bA (bC (.int 58)) (bV 6)))) ((ftE M F n (g0++[w]) S mk (some (.int k)) (some (.int m)) none none none none).set 3 none)=some true:=by
   unfold ftE aH aR
   simp[hc.1,hc.2,l1,l2]
  rw[hcond,bS,bp rfl,bM s1,bM s2]
  exact s3
 ·refine⟨g0,w,S,h,aS _,by omega,by omega,?_⟩
  rw[zu]
  have hcond:tA (tV (b2 eqQ (b2 e_ (bV 7) (bC (.int 7))) (bC (.int 1)))) (tV (b2 jO (b2 bA (b1 lenV (bV 4)) (b1 lenV (bV 5))) (b2 bA (bC (.int 58)) (bV 6)))) ((ftE M F n (g0++[w]) S mk (some (.int k)) (some (.int m)) none none none none).set 3 none)=some false:=by
   unfold ftE aH aR
   by_cases h1:m % 7=1
   ·have h2:¬ (S.length:Int)+(mk.length:Int) < 58+(k:Int):=λz=>hc ⟨h1,z⟩
    simp[h1,h2,l1,l2]
   ·simp[h1,l1,l2]
  rw[hcond,bS,a9 (by decide)]
  rfl
end
def Jw (mk:qV):Prop:=∀a∈mk,a.1=("u" : Str)\/a.1=("-" : Str)\/a.1=("x" : Str)
theorem u_x:¬ (("u" : Str) = "x"):=by decide
theorem d_x:¬ (("-" : Str) = "x"):=by decide
theorem Opn.lens {g0:dn}{w:List (List Nat)}{S:qf}{d:qV}(h:Opn g0 w S d):w.length<=S.length/\g0.length<=S.length:=by
 obtain⟨S0,Sw,d0,dw,e1,e2,e3,e4,e5,e6,e7⟩:=h.fit
 have h1:=jb e5
 have h2:=jb e3
 have h3:∀l:List (List (List Nat)),(∀v∈l,v≠[])->l.length<=l.flatten.length:=λl=>by
  induction l with
  | nil=>exact λ_=>aS _
  | cons v l ih=>
   intro hl
   have:=ih λu hu=>hl u (ag _ hu)
   have hv:=iN.mpr (hl v ai)
   simp only[fz,a8,bb]
   omega
 have h4:=h3 g0 h.ne
 rw[e1,a8]
 omega
section
variable {M F:PV}{n m:Int}{mk:qV}{k:Nat}{g:dn}{S:qf}
theorem T7 (hk:k < mk.length):hid 3 (um (gT [8,9]) (b2 ixP (bV 5) (bV 6))) (ftE M F n g S mk (some (.int k)) (some (.int m)) none none none none)=some (.nx (ftE M F n g S mk (some (.int k)) (some (.int m)) (some (.str (b7 mk k).1)) (some (.bl (b7 mk k).2)) none none)):=by
 have h1:atI (mk.map sgP) (k:Int)=some (.tup [.str (b7 mk k).1,.bl (b7 mk k).2]):=Ry hk
 unfold ftE aR
 generalize grP g=GP at *
 generalize mk.map sgP=RP at *
 generalize b7 mk k=a at *
 simp[h1]
theorem RJ {x:Str}{c:Option PV}(hx:x=("u" : Str)\/x=("-" : Str)\/x=("x" : Str)):∃y:Str,(y=("u" : Str)\/y=("-" : Str))/\stands x y=true /\
  hid 3 (sIf (tV (b2 eqQ (bV 8) (bC (.str "x")))) (aJ 8 (b2 ixP (b_ (ak (bC (.str "u")) (ak (bC (.str "-")) aD))) (b2 e_ (b2 fJ (bV 7) (bC (.int 7))) (bC (.int 2))))) sNx) (ftE M F n g S mk (some (.int k)) (some (.int m)) (some (.str x)) c none none)=some (.nx (ftE M F n g S mk (some (.int k)) (some (.int m)) (some (.str y)) c none none)):=by
 have h1:=u_x
 have h2:=d_x
 unfold ftE
 generalize grP g=GP at *
 rcases hx with rfl | rfl | rfl
 ·exact⟨"u",.inl rfl,by simp[stands],by simp[h1]⟩
 ·exact⟨"-",.inr rfl,by simp[stands],by simp[h2]⟩
 ·have:m / 7 % 2=0\/m / 7 % 2=1:=by omega
  rcases this with e | e
  ·exact⟨"u",.inl rfl,by simp[stands],by simp[e]⟩
  ·exact⟨"-",.inr rfl,by simp[stands],by simp[e]⟩
theorem T8 {y:Str}{c:Option PV}(hy:y=("u" : Str)\/y=("-" : Str)):∃i,i < 3/\bL i=y /\
  hid 3 (aJ 10 (cI (ak (b1 Ds (rD (b2 eqQ (bV 8) (bC (.str "-"))) (b2 eqQ (b2 e_ (b2 fJ (bV 7) (bC (.int 14))) (bC (.int 4))) (bC (.int 1))))) (ak (bV 8) aD)))) (ftE M F n g S mk (some (.int k)) (some (.int m)) (some (.str y)) c none none)=some (.nx (ftE M F n g S mk (some (.int k)) (some (.int m)) (some (.str y)) c (some (aA i)) none)):=by
 have h1:=Ke
 unfold ftE
 generalize grP g=GP at *
 rcases hy with rfl | rfl
 ·exact⟨0,by decide,rfl,by simp[h1,aA]⟩
 ·by_cases hm:m / 14 % 4=1
  ·exact⟨2,by decide,rfl,by simp[hm,aA]⟩
  ·exact⟨1,by decide,rfl,by simp[hm,aA]⟩
theorem RK {y:Str}{cut:Bool}{o:PV}(hk:k < mk.length):hid 3 (aJ 11 (bOr (bV 9) (bOr (b2 eqQ (b2 bA (bV 6) (bC (.int 1))) (b1 lenV (bV 5))) (b2 eqQ (b2 e_ (b2 fJ (bV 7) (bC (.int 56))) (bC (.int 3))) (bC (.int 0)))))) (ftE M F n g S mk (some (.int k)) (some (.int m)) (some (.str y)) (some (.bl cut)) (some o) none)=
  some (.nx (ftE M F n g S mk (some (.int k)) (some (.int m)) (some (.str y)) (some (.bl cut)) (some o) (some (.bl (cut||(decide (k+1=mk.length)||decide (m / 56 % 3=0))))))):=by
 have l2:(mk.map sgP).length=mk.length:=af ..
 have e:(((k:Int)+1)=(mk.length:Int))↔k+1=mk.length:=by omega
 unfold ftE aR
 generalize grP g=GP at *
 generalize mk.map sgP=RP at *
 cases cut with
 | true=>simp
 | false=>
  by_cases h1:k+1=mk.length
  ·have h1':=e.mpr h1
   simp[l2,h1,h1']
  ·have h1':¬ ((k:Int)+1)=(mk.length:Int):=λz=>h1 (e.mp z)
   by_cases h2:m / 56 % 3=0 <;> simp[l2,h1,h1',h2]
theorem T9 {g0:dn}{w:List (List Nat)}{x8 x9:Option PV}{o:Nat}{last:Bool}{is:qf}(h1:bR [.int (m / 168),.bl last,aA o]=some (aH is))(hw:w.length < 900):
  uo 3 (b1 qb (bC (.int 1))) (aM bR (ak (b2 fJ (bV 7) (bC (.int 168))) (ak (bV 11) (ak (bV 10) aD)))) (ftE M F n (g0++[w]) S mk (some (.int k)) (some (.int m)) x8 x9 (some (aA o)) (some (.bl last)))=some (.nx (ftE M F n (g0++[w++[is]]) S mk (some (.int k)) (some (.int m)) x8 x9 (some (aA o)) (some (.bl last)))):=by
 have a1:=Kf (g0:=g0) (is:=is) (by omega:w.length < 1000)
 unfold ftE
 generalize grP (g0++[w])=G1 at *
 generalize grP (g0++[w++[is]])=G2 at *
 generalize aH is=SP at *
 generalize aA o=OP at *
 generalize bR=mw at *
 simp[h1,a1,-apV]
theorem T_ {x8 x9:Option PV}{o:Nat}{last:PV}(hS:S.length < 900):
  hid 3 (cN gC 4 (bV 10)) (ftE M F n g S mk (some (.int k)) (some (.int m)) x8 x9 (some (aA o)) (some last))=some (.nx (ftE M F n g (S++[o]) mk (some (.int k)) (some (.int m)) x8 x9 (some (aA o)) (some last))):=by
 have hl:S.length < 1000000:=by omega
 have e:aH (S++[o])=.lst (S.map aA++[aA o]):=by simp[aH]
 unfold ftE
 rw[e]
 unfold aH
 generalize grP g=G2 at *
 generalize aA o=OP at *
 simp[hl]
theorem Ua {x8 x9 x10:Option PV}{last:Bool}(hg:g.length < 1000):
  nIf 3 (tA (tV (bV 11)) (tV (b2 jO (b2 bA (bV 6) (bC (.int 1))) (b1 lenV (bV 5))))) (uq 3) sNx (ftE M F n g S mk (some (.int k)) (some (.int m)) x8 x9 x10 (some (.bl last)))=some (.nx (ftE M F n (if (last&&decide (k+1 < mk.length))=true then g++[[]] else g) S mk (some (.int k)) (some (.int m)) x8 x9 x10 (some (.bl last)))):=by
 have l2:(mk.map sgP).length=mk.length:=af ..
 have a2:=GZ hg
 have e:(((k:Int)+1) < (mk.length:Int))↔k+1 < mk.length:=by omega
 rw[zu]
 have hcond:tA (tV (bV 11)) (tV (b2 jO (b2 bA (bV 6) (bC (.int 1))) (b1 lenV (bV 5)))) ((ftE M F n g S mk (some (.int k)) (some (.int m)) x8 x9 x10 (some (.bl last))).set 3 none)=some (last&&decide (k+1 < mk.length)):=by
  unfold ftE aR
  cases last with
  | false=>simp
  | true=>
   by_cases h:k+1 < mk.length
   ·have h':=e.mpr h
    simp[l2,h,h']
   ·have h':¬ ((k:Int)+1) < (mk.length:Int):=λz=>h (e.mp z)
    simp[l2,h,h']
 rw[hcond,bS]
 cases hb:(last&&decide (k+1 < mk.length)) with
 | true=>
  rw[bp rfl,bp rfl]
  unfold ftE
  generalize grP (g++[[]])=G3 at *
  generalize grP g=G2 at *
  simp[a2,-newV]
 | false=>
  rw[a9 (by decide),a9 (by decide)]
  rfl
end
theorem Jx {M F:PV}{n:Int}{mk:qV}{k:Nat}{g0:dn}{w:List (List Nat)}{S:qf}(hmk:Jw mk)(hk:k < mk.length)(hL:mk.length < 100)(hS:S.length<=2*k)(h:Opn g0 w S (mk.take k)):
  ∃g' S',S'.length<=2*(k+1)/\(k+1 < mk.length->∃g1 w1,g'=g1++[w1]/\Opn g1 w1 S' (mk.take (k+1)))/\(k+1=mk.length->Fin g' S' mk) /\
   turn (gH 3 (gN 6)) [6,7,10,11,8,9] (onx cQ) (.int k) (ftE M F n (g0++[w]) S mk none none none none none none)=some (ftE M F n g' S' mk none none none none none none):=by
 have ha:b7 mk k∈mk:=by
  unfold b7
  rw[bi,ar hk]
  exact gI _
 have htk:mk.take (k+1)=mk.take k++[b7 mk k]:=by
  rw[k8]
  unfold b7
  rw[bi,ar hk]
  rfl
 obtain⟨hl1,hl2⟩:=h.lens
 have s1:=MT (M:=M) (F:=F) (n:=n) (mk:=mk) (k:=k) (g:=g0++[w]) (S:=S) (by omega)
 generalize mixed n (7*(k:Int)+3)=m at s1
 obtain⟨g1,w1,S1,o1,b1,b2',b3,s2⟩:=RG (M:=M) (F:=F) (n:=n) (mk:=mk) (k:=k) (m:=m) h (by omega) (by omega) (by omega)
 obtain⟨hl3,hl4⟩:=o1.lens
 have s3:=T7 (M:=M) (F:=F) (n:=n) (m:=m) (g:=g1++[w1]) (S:=S1) hk
 obtain⟨y,hy,hst,s4⟩:=RJ (M:=M) (F:=F) (n:=n) (m:=m) (mk:=mk) (k:=k) (g:=g1++[w1]) (S:=S1) (c:=some (.bl (b7 mk k).2)) (hmk _ ha)
 obtain⟨i,hi,him,s5⟩:=T8 (M:=M) (F:=F) (n:=n) (m:=m) (mk:=mk) (k:=k) (g:=g1++[w1]) (S:=S1) (c:=some (.bl (b7 mk k).2)) hy
 have s6:=RK (M:=M) (F:=F) (n:=n) (m:=m) (g:=g1++[w1]) (S:=S1) (y:=y) (cut:=(b7 mk k).2) (o:=aA i) hk
 obtain⟨is,i1,i2,i3,i4⟩:=Ce (m / 168) ((b7 mk k).2||(decide (k+1=mk.length)||decide (m / 56 % 3=0))) (i:=i) (by omega)
 have s7:=T9 (M:=M) (F:=F) (n:=n) (mk:=mk) (k:=k) (S:=S1) (g0:=g1) (w:=w1) (x8:=some (.str y)) (x9:=some (.bl (b7 mk k).2)) i4 (by omega)
 have s8:=T_ (M:=M) (F:=F) (n:=n) (m:=m) (mk:=mk) (k:=k) (g:=g1++[w1++[is]]) (S:=S1) (x8:=some (.str y)) (x9:=some (.bl (b7 mk k).2)) (o:=i) (last:=.bl ((b7 mk k).2||(decide (k+1=mk.length)||decide (m / 56 % 3=0)))) (by omega)
 have s9:=Ua (M:=M) (F:=F) (n:=n) (m:=m) (mk:=mk) (k:=k) (g:=g1++[w1++[is]]) (S:=S1++[i]) (x8:=some (.str y)) (x9:=some (.bl (b7 mk k).2)) (x10:=some (aA i)) (last:=(b7 mk k).2||(decide (k+1=mk.length)||decide (m / 56 % 3=0))) (by simp;omega)
 rw[← him] at hst
 have fin:=o1.fin i1 i2 i3 (by omega) hst
 have hb:cQ (ftE M F n (g0++[w]) S mk (some (.int k)) none none none none none)=some (.nx (ftE M F n (if (((b7 mk k).2||(decide (k+1=mk.length)||decide (m / 56 % 3=0)))&&decide (k+1 < mk.length))=true then g1++[w1++[is]]++[[]] else g1++[w1++[is]]) (S1++[i]) mk (some (.int k)) (some (.int m)) (some (.str y)) (some (.bl (b7 mk k).2)) (some (aA i)) (some (.bl ((b7 mk k).2||(decide (k+1=mk.length)||decide (m / 56 % 3=0))))))):=by
  unfold cQ
  rw[bM s1,bM s2,bM s3,bM s4,bM s5,bM s6,bM s7,bM s8]
  exact s9
 rw[← htk] at fin
 have tn:∀g',cQ (ftE M F n (g0++[w]) S mk (some (.int k)) none none none none none)=some (.nx (ftE M F n g' (S1++[i]) mk (some (.int k)) (some (.int m)) (some (.str y)) (some (.bl (b7 mk k).2)) (some (aA i)) (some (.bl ((b7 mk k).2||(decide (k+1=mk.length)||decide (m / 56 % 3=0)))))))->turn (gH 3 (gN 6)) [6,7,10,11,8,9] (onx cQ) (.int k) (ftE M F n (g0++[w]) S mk none none none none none none)=some (ftE M F n g' (S1++[i]) mk none none none none none none):=λg' hh=>by
  generalize cQ=B at *
  unfold ftE at hh ⊢
  generalize grP (g0++[w])=G1 at *
  generalize grP g'=G2 at *
  rw[aV]
  simp[hh]
 have hS1:(S1++[i]).length<=2*(k+1):=by simp;omega
 by_cases hlt:k+1 < mk.length
 ·cases hla:((b7 mk k).2||(decide (k+1=mk.length)||decide (m / 56 % 3=0))) with
  | true=>
   rw[hla] at hb
   rw[bp (by simp[hlt])] at hb
   rw[← hla] at hb
   exact⟨_,_,hS1,λ_=>⟨g1++[w1++[is]],[],rfl,fin.opn⟩,λz=>by omega,tn _ hb⟩
  | false=>
   rw[hla] at hb
   rw[a9 (by simp)] at hb
   rw[← hla] at hb
   have hc:(b7 mk k).2=false:=by
    cases hq:(b7 mk k).2 with
    | false=>rfl
    | true=>rw[hq] at hla;simp at hla
   have mo:=o1.more i1 i2 i3 (by omega) hst hc
   rw[← htk] at mo
   exact⟨_,_,hS1,λ_=>⟨g1,w1++[is],rfl,mo⟩,λz=>by omega,tn _ hb⟩
 ·have heq:k+1=mk.length:=by omega
  rw[a9 (by simp[hlt])] at hb
  refine⟨_,_,hS1,λz=>absurd z hlt,λ_=>?_,tn _ hb⟩
  rw[heq,kq] at fin
  exact fin
theorem RL {m:qE}{fs:qf}{n:Int}(hm:bG m)(hf:FtV m fs)(hl:m.length < 20)(hmk:Jw (bB m fs))(hne:bB m fs≠[]):∃g S,Fin g S (bB m fs)/\S.length<=200/\jt [mP m,fP fs,.int n]=some (.lst [grP g,aH S]):=by
 obtain⟨h1,h2⟩:=zB hm hf (by omega)
 generalize bB m fs=mk at *
 have hpos:0 < mk.length:=iN.mpr hne
 obtain⟨⟨g,S⟩,⟨d,e1,e2,e3,e4⟩,lp⟩:=bz (g:=gH 3 (gN 6)) (ds:=[6,7,10,11,8,9]) (body:=onx cQ) (λk:Nat=>PV.int (k:Nat)) (λz:List (List (List Nat))×List Nat=>ftE (mP m) (fP fs) n z.1 z.2 mk none none none none none none)
  (λr z=>∃d,List.range mk.length=d++r/\z.2.length<=2*d.length/\(d.length < mk.length->∃g0 w,z.1=g0++[w]/\Opn g0 w z.2 (mk.take d.length))/\(d.length=mk.length->Fin z.1 z.2 mk))
  (by
   rintro k r z ⟨d,e1,e2,e3,e4⟩
   obtain⟨hk,hlt⟩:=sr e1
   obtain⟨g0,w,q1,q2⟩:=e3 (by omega)
   obtain⟨g,S⟩:=z
   simp only at q1 q2 e2
   subst q1 hk
   obtain⟨g',S',t1,t2,t3,t4⟩:=Jx (M:=mP m) (F:=fP fs) (n:=n) hmk hlt (by omega) e2 q2
   exact⟨(g',S'),⟨d++[d.length],by rw[e1];simp,by simpa using t1,by simpa using t2,by simpa using t3⟩,t4⟩)
  (List.range mk.length) ([[]],[]) ⟨[],rfl,aS _,λ_=>⟨[],[],rfl,⟨(λv hv=>by cases hv),(λv hv=>by simp at hv;subst hv;exact λis hi=>by cases hi),(λi hi=>by cases hi),[],[],[],[],rfl,by simp,rfl,rfl,rfl,(λi hi=>by cases hi),rfl⟩⟩,λz=>by simp at z;omega⟩
 rw[bE] at e1
 have hd:d.length=mk.length:=by rw[← e1,ip]
 have hfin:=e4 hd
 simp only at hfin e2 lp
 refine⟨g,S,hfin,by omega,?_⟩
 have hrg:rgI (mk.length:Int)=true:=iI (by omega) (by omega)
 have s1:onx (yf 3 1) [some (mP m),some (fP fs),some (.int n),none,none,none,none,none,none,none,none,none]=some (.nx [some (mP m),some (fP fs),some (.int n),some (grP [[]]),none,none,none,none,none,none,none,none]):=by
  simp[grP,wdP]
 have s2:onx (hid 3 (aJ 4 (b_ aD))) [some (mP m),some (fP fs),some (.int n),some (grP [[]]),none,none,none,none,none,none,none,none]=some (.nx [some (mP m),some (fP fs),some (.int n),some (grP [[]]),some (aH []),none,none,none,none,none,none,none]):=by
  simp[aH]
 have s3:onx (hid 3 (aJ 5 (aM cP (ak (bV 0) (ak (bV 1) aD))))) [some (mP m),some (fP fs),some (.int n),some (grP [[]]),some (aH []),none,none,none,none,none,none,none]=some (.nx (ftE (mP m) (fP fs) n [[]] [] mk none none none none none none)):=by
  unfold ftE
  generalize grP [[]]=G1
  generalize cP=mm at *
  simp[h1]
 have s4:onx (DN 3 (gN 6) (iR1 (b1 lenV (bV 5))) [6,7,10,11,8,9] cQ) (ftE (mP m) (fP fs) n [[]] [] mk none none none none none none)=some (.nx (ftE (mP m) (fP fs) n g S mk none none none none none none)):=by
  rw[← dZ] at lp
  have hle:iR1 (b1 lenV (bV 5)) ((ftE (mP m) (fP fs) n [[]] [] mk none none none none none none).set 3 none)=some (cZ 0 (mk.length:Int)):=by
   unfold ftE aR
   simp[hrg]
  have hcl:clr [6,7,10,11,8,9] (ftE (mP m) (fP fs) n [[]] [] mk none none none none none none)=ftE (mP m) (fP fs) n [[]] [] mk none none none none none none:=rfl
  rw[Rn,Mg,hle,bS,hcl,lp]
  rfl
 have hb:lA [some (mP m),some (fP fs),some (.int n),none,none,none,none,none,none,none,none,none]=some (.rt (.lst [grP g,aH S])):=by
  unfold lA
  rw[bM s1,bM s2,bM s3,bM s4]
  unfold ftE
  simp
 unfold jt
 generalize lA=B at *
 simp[hb]
theorem tD {g:dn}(hm:g.flatten.length < 1000):bQ [grP g]=some (.lst (g.flatten.map aH)):=by
 obtain⟨L,⟨d,h1,h2⟩,h3⟩:=bz (g:=gN 2) (ds:=[2]) (body:=jT) wdP (λL:List (List Nat)=>[some (grP g),some (.lst (L.map aH)),none]) (λr L=>∃d,g=d++r/\L=d.flatten)
  (by
   rintro w r L ⟨d,h1,h2⟩
   refine⟨L++w,⟨d++[w],by rw[h1];simp,by rw[h2];simp⟩,?_⟩
   have hs:L.length+w.length<=1000000:=by
    have e:g.flatten.length=L.length+(w.length+r.flatten.length):=by rw[h1,h2];simp
    omega
   simp[aV,jT,wdP,hs])
  g [] ⟨[],rfl,rfl⟩
 rw[bE] at h1
 subst h1 h2
 have e:grP g=.lst (g.map wdP):=rfl
 simp only[c9] at h3
 rw[e] at h3 ⊢
 simp[bQ,qR,itV,h3]
theorem zF:∀(O:List (List Nat)) (S:qf),cU O S=(decide (S.length=O.length)&&(O.zip S).all λz=>decide (z.2∈z.1))
 | [],[]=>by simp[cU]
 | [],_::_=>by simp[cU]
 | _::_,[]=>by simp[cU]
 | is::O,i::S=>by
  rw[cU,zF O S]
  simp only[eM,iA,bb,Nat.add_right_cancel_iff]
  by_cases h:S.length=O.length
  ·simp[h]
  ·simp[h]
theorem Cj {g:dn}(h:C4g g):∀is∈g.flatten,C4 is:=λis hi=>by
 obtain⟨w,hw,hi⟩:=List.mem_flatten.mp hi
 exact(h w hw is hi).1
theorem Ub {g:dn}{S:qf}(hg:C4g g)(hS:C4 S)(hm:g.flatten.length < 1000):gO [grP g,aH S]=some (.bl (cU g.flatten S)):=by
 have h1:=tD hm
 have hO:=Cj hg
 rw[zF]
 generalize g.flatten=O at *
 have l1:(S.map aA).length=S.length:=af ..
 have l2:(O.map aH).length=O.length:=af ..
 have s1:aJ 2 (aM bQ (ak (bV 0) aD)) [some (grP g),some (aH S),none]=some (.nx [some (grP g),some (aH S),some (.lst (O.map aH))]):=by
  generalize bQ=mo at *
  simp[h1]
 by_cases hl:S.length=O.length
 ·rw[ca hl,ly]
  have hz:=jB aH aA O S
  have hc:=fZ (env:=[none,none]) (g:=gT [0,1]) (f:=ji) (λz:List Nat×Nat=>PV.tup [aH z.1,aA z.2]) (λz=>PV.bl (decide (z.2∈z.1))) (O.zip S) (λz hz'=>by
   have hz2:=eT hz'
   have:=wg (hS _ hz2.2) (hO _ hz2.1)
   exact⟨[some (aH z.1),some (aA z.2)],rfl,by simp[ji,this]⟩)
  have hb:=rT (λz:List Nat×Nat=>decide (z.2∈z.1)) (O.zip S)
  have hle:(O.zip S).length<=1000000:=by rw[i9];omega
  have hli:(S.length:Int)=(O.length:Int):=by omega
  have hall:((O.zip S).map λz:List Nat×Nat=>decide (z.2∈z.1)).all id=(O.zip S).all λz=>decide (z.2∈z.1):=by rw[i6];rfl
  have s2:sIf (tV (b2 neQ (b1 lenV (bV 1)) (b1 lenV (bV 2)))) (aW (bC (.bl false))) sNx [some (grP g),some (aH S),some (.lst (O.map aH))]=some (.nx [some (grP g),some (aH S),some (.lst (O.map aH))]):=by
   unfold aH
   simp[hl]
  have s3:aW (b1 yZ (eQ [none,none] (iZ3 (bV 2) (bV 1)) (gT [0,1]) fD ji)) [some (grP g),some (aH S),some (.lst (O.map aH))]=some (.rt (.bl ((O.zip S).all λz=>decide (z.2∈z.1)))):=by
   have e:aH S=.lst (S.map aA):=rfl
   rw[e,← hall]
   generalize O.zip S=ZS at *
   simp[hz,hle,hc,hb]
  have hfb:fu [some (grP g),some (aH S),none]=some (.rt (.bl ((O.zip S).all λz=>decide (z.2∈z.1)))):=by
   unfold fu
   rw[bM s1,bM s2]
   exact s3
  unfold gO
  generalize fu=B at *
  simp[hfb]
 ·rw[bq hl,mT]
  have s2:sIf (tV (b2 neQ (b1 lenV (bV 1)) (b1 lenV (bV 2)))) (aW (bC (.bl false))) sNx [some (grP g),some (aH S),some (.lst (O.map aH))]=some (.rt (.bl false)):=by
   have hli:¬ (S.length:Int)=(O.length:Int):=by omega
   unfold aH
   simp[hl,hli]
  have hfb:fu [some (grP g),some (aH S),none]=some (.rt (.bl false)):=by
   unfold fu
   rw[bM s1,Ml s2]
  unfold gO
  generalize fu=B at *
  simp[hfb]
theorem Ck (x:PV):∀n:Nat,(List.replicate n [x]).flatten=List.replicate n x
 | 0=>rfl
 | n+1=>by rw[dA,fz,Ck x n,dA];rfl
theorem G4 {GP:PV}{L:List Bool}{w:List (List Nat)}(hw:w≠[])(hl:w.length < 1000)(hL:L.length < 1000):turn (gN 2) [2] iZ (wdP w) [some GP,some (.lst (L.map PV.bl)),none]=some [some GP,some (.lst ((L++cY w.length).map PV.bl)),none]:=by
 obtain⟨m,hm1⟩:∃m,w.length=m+1:=⟨w.length - 1,by cases w with | nil=>exact absurd rfl hw | cons a l=>simp⟩
 have q1:-1000000<=(m:Int)/\(m:Int)<=1000000/\m<=1000000:=by omega
 have q2:m+1<=1000000:=by omega
 have q3:L.length+(m+1)<=1000000:=by omega
 have q4:((m:Int)+1 - 1)=m:=by omega
 rw[hm1,uy]
 simp[aV,iZ,wdP,hm1,q4,q1,q2,q3,Ck]
theorem tE {g:dn}(hg:∀w∈g,w≠[])(hm:g.flatten.length < 1000):cO [grP g]=some (.lst ((bx g).map .bl)):=by
 obtain⟨L,⟨d,h1,h2⟩,h3⟩:=bz (g:=gN 2) (ds:=[2]) (body:=iZ) wdP (λL:List Bool=>[some (grP g),some (.lst (L.map PV.bl)),none]) (λr L=>∃d,g=d++r/\L=bx d)
  (by
   rintro w r L ⟨d,h1,h2⟩
   have hw:=hg w (by rw[h1];simp)
   have e:g.flatten.length=d.flatten.length+(w.length+r.flatten.length):=by rw[h1];simp
   have hL:L.length=d.flatten.length:=by rw[h2,cX]
   exact⟨L++cY w.length,⟨d++[w],by rw[h1];simp,by rw[h2];simp[bx]⟩,G4 hw (by omega) (by omega)⟩)
  g [] ⟨[],rfl,rfl⟩
 rw[bE] at h1
 subst h1 h2
 have e:grP g=.lst (g.map wdP):=rfl
 simp only[c9] at h3
 generalize hlb:iZ=B at h3
 have hb:l_ [some (grP g),none,none]=some (.rt (.lst ((bx g).map .bl))):=by
  unfold l_
  rw[hlb]
  rw[e] at h3 ⊢
  simp[itV,h3]
 unfold cO
 generalize l_=B2 at *
 simp[hb]
theorem ww {g:dn}{S:qf}(hg:∀w∈g,w≠[])(hS:C4 S)(hm:g.flatten.length < 1000):cR [grP g,aH S]=some (aR (aZ S (bx g))):=by
 have h1:=tE hg hm
 have hlen:(bx g).length < 1000:=by rw[cX];exact hm
 generalize bx g=es at *
 have hz:=jB aA PV.bl S es
 have hle:(S.zip es).length<=1000000:=by rw[i9];omega
 have hc:=iQ (env:=[none,none]) (g:=gT [0,1]) (t:=mZ) (f:=mY) (λz:Nat×Bool=>PV.tup [aA z.1,.bl z.2]) (λz=>PV.tup [.str (bL z.1),.bl z.2]) (λz=>!decide (z.1=3)) (S.zip es) (λz hz'=>by
  have h4:=hS _ (eT hz').1
  refine⟨[some (aA z.1),some (.bl z.2)],rfl,?_,λhq=>?_⟩
  ·rcases lt4 h4 with e | e | e | e <;> simp[mZ,e,aA]
  ·rcases lt4 h4 with e | e | e | e <;> simp[mY,e,aA,bL] at hq ⊢)
 have hr:((S.zip es).filter λz:Nat×Bool=>!decide (z.1=3)).map (λz=>PV.tup [.str (bL z.1),.bl z.2])=(aZ S es).map sgP:=by
  unfold aZ
  generalize S.zip es=ZS
  induction ZS with
  | nil=>rfl
  | cons z ZS ih=>
   rw[gg,cS,← ih]
   by_cases e:z.1=3
   ·simp[e]
   ·simp[e,sgP]
 rw[hr] at hc
 have e:aH S=.lst (S.map aA):=rfl
 have hb:mj [some (grP g),some (aH S)]=some (.rt (aR (aZ S es))):=by
  unfold mj aR
  rw[e]
  generalize cO=me at *
  generalize S.zip es=ZS at *
  simp[h1,hz,hle,hc]
 unfold cR
 generalize mj=B at *
 simp[hb]
theorem wy:∀{A B:qV},rfB A B=true->A.length=B.length
 | [],[],_=>rfl
 | a::A,b::B,h=>by
  simp only[rfB,bP] at h
  rw[bb,wy h.2,bb]
 | [],_::_,h=>by simp[rfB] at h
 | _::_,[],h=>by simp[rfB] at h
theorem RM {A B:qV}(h:A.length≠B.length):rfB A B=false:=by
 cases q:rfB A B with
 | false=>rfl
 | true=>exact absurd (wy q) h
theorem sE:∀(A B T:qV),rfB (A++B) T=(rfB A (T.take A.length)&&rfB B (T.drop A.length))
 | [],B,T=>by simp[rfB]
 | a::A,B,[]=>by simp[rfB]
 | a::A,B,b::T=>by
  show ((stands a.1 b.1&&(!a.2||b.2))&&rfB (A++B) T)=(((stands a.1 b.1&&(!a.2||b.2))&&rfB A (T.take A.length))&&rfB B (T.drop A.length))
  rw[sE A B T,pi,pi,pi]
def Eb (A B:qV)(k:Nat):Bool:=stands (b7 A k).1 (b7 B k).1&&(!(b7 A k).2||(b7 B k).2)
theorem w5:∀{A B:qV},A.length=B.length->rfB A B=(List.range B.length).all (Eb A B)
 | [],[],_=>rfl
 | a::A,b::B,h=>by
  have ih:=w5 (A:=A) (B:=B) (by simpa using h)
  rw[rfB,ih,bb,List.range_succ_eq_map,iA,i6]
  rfl
 | [],_::_,h=>by simp at h
 | _::_,[],h=>by simp at h
theorem oW (s:Slot)(p:Str){k:Nat}(h:k < p.length):b7 (bT s p) k=(gq p k,s.2&&decide (k+1=p.length)):=by
 unfold b7 bT
 rw[bi,aE,fE h]
 rfl
theorem zG {s:Slot}{p:Str}(hp:PatOk p)(part:qV):fit p s.2 part=rfB (bT s p) part:=by
 by_cases hl:part.length=p.length
 ·have h1:=Ba (row:=part) (p:=p) (a:=0) (by omega)
  have h2:seg part 0 p.length=part:=by unfold seg;rw[iP,← hl,kq]
  have h3:=Jv (row:=part) (a:=0) (n:=p.length) (by omega) hp.ge
  rw[h2] at h1 h3
  rw[w5 (by rw[eV,hl]),hl]
  unfold fit
  rw[ca hl,ly,h1,h3,ic,bP,cy,cy]
  have hge:=hp.ge
  constructor
  ·rintro ⟨q1,q2⟩ k hk
   have hk':=b6.mp hk
   unfold Eb
   rw[oW s p hk']
   have:=q1 k hk
   rw[iq] at this
   simp only[this,ly]
   by_cases hke:k+1=p.length
   ·have:0+p.length - 1=k:=by omega
    rw[this] at q2
    cases hc:s.2 <;> simp_all
   ·simp[hke]
  ·intro q
   refine⟨λk hk=>?_,?_⟩
   ·have:=q k hk
    unfold Eb at this
    rw[oW s p (b6.mp hk),bP] at this
    rw[iq]
    exact this.1
   ·have:=q (p.length - 1) (b6.mpr (by omega))
    unfold Eb at this
    rw[oW s p (by omega),bP] at this
    have h4:p.length - 1+1=p.length:=by omega
    have h5:0+p.length - 1=p.length - 1:=by omega
    rw[h5]
    cases hc:s.2 with
    | false=>simp
    | true=>
     have h6:=this.2
     simp only[hc,h4,decide_true,Bool.and_self,Bool.not_true,Bool.false_or] at h6
     rw[h6]
     rfl
 ·rw[RM (by rw[eV];exact λz=>hl z.symm)]
  unfold fit
  rw[bq hl,mT]
theorem RN (a b c d e f:Int):eqP (.tup [.int a,.int b,.int c]) (.tup [.int d,.int e,.int f])=some (decide (a=d/\b=e/\c=f)):=by
 have h1:∀x y z:Int,SeqAt.shaped (.tuple [.int x,.int y,.int z])=true:=λx y z=>by
  simp[SeqAt.shaped,PyData.canLay0,PyData.canLayAll0,PyData.depth,PyData.depthAll]
 simp[eqP,eqS,eqD,toD,fc,h1,PyData.eqv,PyData.eqvAll,Bool.decide_and]
 rfl
def stP (a b c:Nat):PV:=.tup [.int a,.int b,.int c]
def bhS (s:Slot)(slot k i:Nat)(p:Str)(ends:Bool):PV:=if i+1 < p.length then stP slot k (i+1) else if (s.2&&!ends)=true then .non else stP (slot+1) 0 0
theorem Cm {m:qE}{slot:Nat}{s:Slot}(h:m[slot]?=some s):atI (m.map slP) (slot:Int)=some (slP s):=bO (by simp[h])
theorem G5 {s:Slot}{k:Nat}{p:Str}(h:s.1[k]?=some p):atI (s.1.map PV.str) (k:Int)=some (.str p):=bO (by simp[h])
theorem G6 {m:qE}{slot k i:Nat}{s:Slot}{p:Str}{ends:Bool}(hs:m[slot]?=some s)(hp:s.1[k]?=some p)(ok:PatOk p):
  dW [mP m,stP slot k i,.bl ends]=some (bhS s slot k i p ends):=by
 have h1:=Cm hs
 have h2:=G5 hp
 have h3:p.length<=1000000:=by have:=ok.le;omega
 have h4:((i:Int)+1 < (p.length:Int))↔i+1 < p.length:=by omega
 unfold bhS
 by_cases h5:i+1 < p.length
 ·simp[dW,jR,mP,stP,h1,slP,h2,h3,h4,h5]
 ·have h6:(if i+1 < p.length then stP slot k (i+1) else if (s.2&&!ends)=true then PV.non else stP (slot+1) 0 0)=(if (s.2&&!ends)=true then PV.non else stP (slot+1) 0 0):=a9 h5
  rw[h6]
  cases hc:s.2 <;> cases ends <;> simp[dW,jR,mP,stP,h1,slP,h2,h3,h4,h5,hc]
def mvK (s:Slot)(slot i:Nat)(mark:Str)(ends:Bool)(k:Nat):List PV:=
 if stands (gq (s.1.getD k ⟨#[]⟩) i) mark=true/\rE (bhS s slot k i (s.1.getD k ⟨#[]⟩) ends)=false then [.tup [.int k,bhS s slot k i (s.1.getD k ⟨#[]⟩) ends]] else []
theorem tG {s:Slot}{k:Nat}{p:Str}(h:s.1[k]?=some p):s.1.getD k ⟨#[]⟩=p:=by rw[bi,h];rfl
theorem Jy (s:Slot)(slot k i:Nat)(p:Str)(ends:Bool):(bhS s slot k i p ends=.non/\¬ i+1 < p.length/\s.2=true/\ends=false)\/(∃a b c:Nat,bhS s slot k i p ends=stP a b c/\((i+1 < p.length/\a=slot/\b=k/\c=i+1)\/(¬ i+1 < p.length/\(s.2=false\/ends=true)/\a=slot+1/\b=0/\c=0))):=by
 unfold bhS
 by_cases h:i+1 < p.length
 ·exact .inr ⟨_,_,_,bp h,.inl ⟨h,rfl,rfl,rfl⟩⟩
 ·rw[a9 h]
  by_cases h':(s.2&&!ends)=true
  ·rw[bp h']
   simp at h'
   exact .inl ⟨rfl,h,h'.1,h'.2⟩
  ·rw[a9 h']
   refine .inr ⟨_,_,_,rfl,.inr ⟨h,?_,rfl,rfl,rfl⟩⟩
   cases hs:s.2 <;> cases ends <;> simp_all
theorem M3 {m:qE}{slot k i:Nat}{s:Slot}{p mark:Str}{ends:Bool}{S N:PV}{L:List PV}(hs:m[slot]?=some s)(hp:s.1[k]?=some p)(ok:PatOk p)(hi:i < p.length)(hL:L.length < 1000):
  turn (gN 9) [9,10] d7 (.int k) [some (mP m),some S,some (.str mark),some (.bl ends),some (.int slot),some (.int i),some (.tup (s.1.map .str)),some N,some (.lst L),none,none]=
   some [some (mP m),some S,some (.str mark),some (.bl ends),some (.int slot),some (.int i),some (.tup (s.1.map .str)),some N,some (.lst (L++mvK s slot i mark ends k)),none,none]:=by
 have h1:=G6 (i:=i) (ends:=ends) hs hp ok
 have h2:=G5 hp
 have h3:p.length<=1000000:=by have:=ok.le;omega
 have h4:=GX hi
 have h5:=wZ (gq p i) mark
 have hl:L.length < 1000000:=by omega
 unfold gq at h5
 unfold mvK
 rw[tG hp]
 rcases Jy s slot k i p ends with ⟨e,_⟩ | ⟨a,b,c,e,_⟩
 ·rw[e] at h1
  simp only[stP] at h1
  simp[aV,d7,h1,e]
 ·rw[e] at h1 ⊢
  simp only[stP] at h1
  unfold gq
  cases hq:stands ⟨#[p.cps.toList.getD i 0]⟩ mark with
  | true=>
   rw[hq] at h5
   simp[aV,d7,h1,h2,h3,h4,h5,hl,stP,-List.getD_eq_getElem?_getD]
  | false=>
   rw[hq] at h5
   simp[aV,d7,h1,h2,h3,h4,h5,hl,stP,-List.getD_eq_getElem?_getD]
theorem M4 (s:Slot)(slot i:Nat)(mark:Str)(ends:Bool)(k:Nat):(mvK s slot i mark ends k).length<=1:=by unfold mvK;split <;> simp
theorem Cp {m:qE}{slot i:Nat}{s:Slot}{mark:Str}{ends:Bool}{S N:PV}(hs:m[slot]?=some s)(ok:PatsOk s.1)(ks:qf)(hk:∀k∈ks,∃p,s.1[k]?=some p/\i < p.length)(hl:ks.length < 1000):
  bY (gN 9) [9,10] d7 (ks.map λk=>PV.int (k:Nat)) [some (mP m),some S,some (.str mark),some (.bl ends),some (.int slot),some (.int i),some (.tup (s.1.map .str)),some N,some (.lst []),none,none]=
   some (.nx [some (mP m),some S,some (.str mark),some (.bl ends),some (.int slot),some (.int i),some (.tup (s.1.map .str)),some N,some (.lst (ks.flatMap (mvK s slot i mark ends))),none,none]):=by
 obtain⟨L,⟨d,e1,e2,_⟩,h⟩:=bz (g:=gN 9) (ds:=[9,10]) (body:=d7) (λk:Nat=>PV.int (k:Nat))
  (λL:List PV=>[some (mP m),some S,some (.str mark),some (.bl ends),some (.int slot),some (.int i),some (.tup (s.1.map .str)),some N,some (.lst L),none,none])
  (λr L=>∃d,ks=d++r/\L=d.flatMap (mvK s slot i mark ends)/\L.length<=d.length)
  (by
   rintro k r L ⟨d,e1,e2,e3⟩
   obtain⟨p,hp,hi⟩:=hk k (by rw[e1];simp)
   have hd:d.length < 1000:=by have:=ce List.length e1;simp at this;omega
   have hm:p∈s.1:=ax hp
   refine⟨L++mvK s slot i mark ends k,⟨d++[k],by rw[e1];simp,by rw[e2];simp,?_⟩,M3 hs hp (ok.ok p hm) hi (by omega)⟩
   have:=M4 s slot i mark ends k
   simp;omega)
  ks [] ⟨[],rfl,rfl,aS _⟩
 rw[bE] at e1
 subst e1 e2
 exact h
structure StOk (m:qE)(slot pat i:Nat):Prop where
 le:slot<=m.length
 fin:slot=m.length->pat=0/\i=0
 mid:∀s,m[slot]?=some s->(i=0/\pat=0)\/∃p,s.1[pat]?=some p/\0 < i/\i < p.length
noncomputable def mvs (m:qE)(slot pat i:Nat)(mark:Str)(ends:Bool):List PV:=match m[slot]? with
 | none=>[]
 | some s=>if i=0 then (List.range s.1.length).flatMap (mvK s slot i mark ends) else mvK s slot i mark ends pat
theorem zH {m:qE}(hm:bG m)(hl:m.length < 1000){slot pat i:Nat}(st:StOk m slot pat i)(mark:Str)(ends:Bool):
  cL [mP m,stP slot pat i,.str mark,.bl ends]=some (.lst (mvs m slot pat i mark ends)):=by
 have he:dm [mP m]=some (.tup [.int m.length,.int 0,.int 0]):=by simp[dm,mU,mP]
 have hq:=RN slot pat i m.length 0 0
 unfold mvs
 by_cases hf:slot=m.length
 ·obtain⟨rfl,rfl⟩:=st.fin hf
  subst hf
  have:m[m.length]?=none:=by simp
  rw[this]
  simp at hq
  simp[cL,lw,he,stP,hq]
 ·have hlt:slot < m.length:=by have:=st.le;omega
  obtain⟨s,hs⟩:∃s,m[slot]?=some s:=⟨m[slot],ar hlt⟩
  rw[hs]
  have hne:¬ ((slot:Int)=m.length/\(pat:Int)=0/\(i:Int)=0):=λz=>hf (by omega)
  rw[bq hne] at hq
  have ok:=hm s (ax hs)
  have h1:=Cm hs
  by_cases hi:i=0
  ·subst hi
   have lp:=Cp (S:=stP slot pat 0) (N:=.lst ((List.range s.1.length).map λk=>PV.int (k:Nat))) (mark:=mark) (ends:=ends) (i:=0) hs ok (List.range s.1.length) (λk hk=>by
    have hk':=b6.mp hk
    have:=(ok.ok _ (gI hk')).ge
    exact⟨s.1[k],ar hk',by omega⟩) (by have:=ok.le;simp;omega)
   have hr:=dZ s.1.length
   have hb:0<=(s.1.length:Int)/\(s.1.length:Int)<=1000000:=by have:=ok.le;omega
   simp only[gx]
   have e1:mP m=.tup (m.map slP):=rfl
   have e2:stP slot pat 0=.tup [.int slot,.int pat,.int 0]:=rfl
   rw[e1,e2] at lp ⊢
   rw[e1] at he
   simp at hq lp
   simp[cL,lw,he,hq,h1,slP,hr,hb,itV,lp]
  ·rcases st.mid s hs with z | ⟨p,hp,hp1,hp2⟩
   ·exact absurd z.1 hi
   ·have lp:=Cp (S:=stP slot pat i) (N:=.lst [.int pat]) (mark:=mark) (ends:=ends) (i:=i) hs ok [pat] (λk hk=>by
     rw[aI] at hk
     subst hk
     exact⟨p,hp,hp2⟩) (by simp)
    simp only[a9 hi]
    have e1:mP m=.tup (m.map slP):=rfl
    have e2:stP slot pat i=.tup [.int slot,.int pat,.int i]:=rfl
    rw[e1,e2] at lp ⊢
    rw[e1] at he
    have hi':¬ (i:Int)=0:=by omega
    simp at lp
    simp[cL,lw,he,hq,h1,slP,itV,lp,hi,hi']
abbrev Sta:=Nat×Nat×Nat
def bhT (s:Slot)(slot k i:Nat)(p:Str)(ends:Bool):Option Sta:=if i+1 < p.length then some (slot,k,i+1) else if (s.2&&!ends)=true then none else some (slot+1,0,0)
noncomputable def mvT (s:Slot)(slot i:Nat)(mark:Str)(ends:Bool)(k:Nat):List (Nat×Sta):=
 if stands (gq (s.1.getD k ⟨#[]⟩) i) mark=true then (bhT s slot k i (s.1.getD k ⟨#[]⟩) ends).toList.map λt=>(k,t) else []
noncomputable def b8 (m:qE)(t:Sta)(mark:Str)(ends:Bool):List (Nat×Sta):=match m[t.1]? with
 | none=>[]
 | some s=>if t.2.2=0 then (List.range s.1.length).flatMap (mvT s t.1 0 mark ends) else mvT s t.1 t.2.2 mark ends t.2.1
noncomputable def mids (j k:Nat)(p:Str):List Sta:=(List.range (p.length - 1)).map λi=>(j,k,1+i)
noncomputable def kI (j:Nat)(s:Slot):List Sta:=(j,0,0)::s.1.zipIdx.flatMap λy=>mids j y.2 y.1
def sts (m:qE):List Sta:=m.zipIdx.flatMap λy=>kI y.2 y.1
noncomputable def stp (m:qE)(mark:Str)(e:Bool):List (Sta×Sta):=(sts m).flatMap λt=>(b8 m t mark e).map λy=>(t,y.2)
noncomputable def opM (m:qE)(o:Nat)(e:Bool)(f:Sta->Int)(t:Sta):Int:=if o=3 then f t else ((stp m (bL o) e).map λy=>if y.1=t then f y.2 else 0).sum
noncomputable def opr (m:qE)(x:List Nat×Bool)(f:Sta->Int)(t:Sta):Int:=(x.1.map λo=>opM m o x.2 f t).sum
def fin (m:qE)(t:Sta):Int:=if t=(m.length,0,0) then 1 else 0
noncomputable def cnt (m:qE)(O:List (List Nat×Bool)):Sta->Int:=O.foldr (opr m) (fin m)
theorem cnt_nil (m:qE):cnt m []=fin m:=rfl
theorem cnt_cons (m:qE)(x:List Nat×Bool)(O:List (List Nat×Bool)):cnt m (x::O)=opr m x (cnt m O):=rfl
theorem wz (m:qE)(A B:List (List Nat×Bool)):cnt m (A++B)=A.foldr (opr m) (cnt m B):=by unfold cnt;rw[List.foldr_append]
theorem wA {α:Type}(f g:α->Int):∀l:List α,(l.map λa=>f a+g a).sum=(l.map f).sum+(l.map g).sum
 | []=>rfl
 | a::l=>by simp only[av,eA,wA f g l];omega
theorem m7 {α:Type}:∀l:List α,(l.map λ_=>(0:Int)).sum=0
 | []=>rfl
 | _::l=>by simp[m7 l]
theorem sG {α:Type}{f:α->Int}:∀{l:List α},(∀a∈l,0<=f a)->0<=(l.map f).sum
 | [],_=>kn _
 | a::l,h=>by
  have h1:=h a ai
  have h2:=sG (f:=f) (l:=l) λb hb=>h b (ag _ hb)
  simp only[av,eA];omega
theorem zJ {α:Type}{f g:α->Int}:∀{l:List α},(∀a∈l,f a<=g a)->(l.map f).sum<=(l.map g).sum
 | [],_=>kn _
 | a::l,h=>by
  have h1:=h a ai
  have h2:=zJ (f:=f) (g:=g) (l:=l) λb hb=>h b (ag _ hb)
  simp only[av,eA];omega
theorem vo {α:Type}{f:α->Int}{a:α}:∀{l:List α},(∀a∈l,0<=f a)->a∈l->f a<=(l.map f).sum
 | b::l,h,ha=>by
  have h1:=h b ai
  have h2:=sG (f:=f) (l:=l) λb hb=>h b (ag _ hb)
  simp only[av,eA]
  rcases aw.mp ha with rfl | ha
  ·omega
  ·have:=vo (f:=f) (l:=l) (λb hb=>h b (ag _ hb)) ha
   omega
theorem M5 (m:qE)(o:Nat)(e:Bool)(f g:Sta->Int)(t:Sta):opM m o e (λt=>f t+g t) t=opM m o e f t+opM m o e g t:=by
 unfold opM
 split
 ·rfl
 ·rw[← wA]
  congr 1
  refine ci λy _=>?_
  split <;> simp
theorem Jz (m:qE)(o:Nat)(e:Bool)(t:Sta):opM m o e (λ_=>0) t=0:=by
 unfold opM
 split
 ·rfl
 ·have:(λy:Sta×Sta=>if y.1=t then (0:Int) else 0)=λ_=>0:=by funext y;split <;> rfl
  rw[this,m7]
theorem M6 (m:qE)(x:List Nat×Bool)(f g:Sta->Int)(t:Sta):opr m x (λt=>f t+g t) t=opr m x f t+opr m x g t:=by
 unfold opr
 rw[← wA]
 congr 1
 exact ci λo _=>M5 m o x.2 f g t
theorem JB (m:qE)(x:List Nat×Bool)(t:Sta):opr m x (λ_=>0) t=0:=by
 unfold opr
 have:(λo=>opM m o x.2 (λ_=>0) t)=λ_=>(0:Int):=by funext o;exact Jz m o x.2 t
 rw[this,m7]
theorem Cq (m:qE)(x:List Nat×Bool){α:Type}(F:α->Sta->Int)(t:Sta):∀L:List α,opr m x (λt=>(L.map λo=>F o t).sum) t=(L.map λo=>opr m x (F o) t).sum
 | []=>JB m x t
 | a::L=>by
  have e:(λt=>((a::L).map λo=>F o t).sum)=λt=>F a t+(L.map λo=>F o t).sum:=by funext t;simp
  rw[e,M6,Cq m x F t L]
  simp
theorem zK (m:qE){α:Type}(F:α->Sta->Int)(L:List α):∀(A:List (List Nat×Bool)) (t:Sta),A.foldr (opr m) (λt=>(L.map λo=>F o t).sum) t=(L.map λo=>A.foldr (opr m) (F o) t).sum
 | [],t=>rfl
 | x::A,t=>by
  rw[List.foldr_cons]
  have e:A.foldr (opr m) (λt=>(L.map λo=>F o t).sum)=λt=>(L.map λo=>A.foldr (opr m) (F o) t).sum:=by funext u;exact zK m F L A u
  rw[e,Cq]
  rfl
theorem G7 (m:qE)(A B:List (List Nat×Bool))(os:qf)(e:Bool)(t:Sta):cnt m (A++(os,e)::B) t=(os.map λo=>cnt m (A++([o],e)::B) t).sum:=by
 rw[wz,cnt_cons]
 have e1:opr m (os,e) (cnt m B)=λt=>(os.map λo=>opM m o e (cnt m B) t).sum:=rfl
 rw[e1,zK]
 congr 1
 refine ci λo _=>?_
 have e2:opr m ([o],e) (cnt m B)=opM m o e (cnt m B):=by funext u;simp[opr]
 rw[wz,cnt_cons,e2]
theorem G8 {m:qE}{o:Nat}{e:Bool}{f:Sta->Int}(h:∀t,0<=f t)(t:Sta):0<=opM m o e f t:=by
 unfold opM
 split
 ·exact h t
 ·exact sG λy _=>by split;exact h _;exact kn _
theorem RT {m:qE}{o:Nat}{e:Bool}{f g:Sta->Int}(h:∀t,f t<=g t)(t:Sta):opM m o e f t<=opM m o e g t:=by
 unfold opM
 split
 ·exact h t
 ·exact zJ λy _=>by split;exact h _;exact kn _
theorem zM (m:qE):∀(O:List (List Nat×Bool)) (t:Sta),0<=cnt m O t
 | [],t=>by rw[cnt_nil];unfold fin;split <;> omega
 | x::O,t=>by rw[cnt_cons];exact sG λo _=>G8 (zM m O) t
theorem Cr {m:qE}:∀{O:List (List Nat)}{S:qf}{es:List Bool},cU O S=true->∀t,cnt m ((S.map λi=>[i]).zip es) t<=cnt m (O.zip es) t
 | [],[],es,_,t=>by simp
 | is::O,i::S,[],_,t=>by simp
 | is::O,i::S,e::es,h,t=>by
  simp only[cU,bP,j3] at h
  rw[av,eM,eM,cnt_cons,cnt_cons]
  have h1:opr m ([i],e) (cnt m ((S.map λi=>[i]).zip es)) t=opM m i e (cnt m ((S.map λi=>[i]).zip es)) t:=by simp[opr]
  rw[h1]
  refine p9 (RT (Cr h.2) t) ?_
  exact vo (f:=λo=>opM m o e (cnt m (O.zip es)) t) (λo _=>G8 (zM m _) t) h.1
 | [],_::_,_,h,_=>by simp[cU] at h
 | _::_,[],_,h,_=>by simp[cU] at h
theorem mem_mids {j k:Nat}{p:Str}{t:Sta}:t∈mids j k p↔∃i,1<=i/\i < p.length/\t=(j,k,i):=by
 unfold mids
 rw[db]
 constructor
 ·rintro ⟨i,hi,rfl⟩
  rw[b6] at hi
  exact⟨1+i,by omega,by omega,rfl⟩
 ·rintro ⟨i,h1,h2,rfl⟩
  exact⟨i - 1,by rw[b6];omega,by rw[show 1+(i - 1)=i by omega]⟩
theorem mem_stsS {j:Nat}{s:Slot}{t:Sta}:t∈kI j s↔t=(j,0,0)\/∃k p i,s.1[k]?=some p/\1<=i/\i < p.length/\t=(j,k,i):=by
 unfold kI
 rw[aw,iS]
 refine or_congr Iff.rfl ⟨?_,?_⟩
 ·rintro ⟨⟨p,k⟩,hy,ht⟩
  obtain⟨i,h1,h2,rfl⟩:=mem_mids.mp ht
  exact⟨k,p,i,by simpa using gt.mp hy,h1,h2,rfl⟩
 ·rintro ⟨k,p,i,hk,h1,h2,rfl⟩
  exact⟨(p,k),gt.mpr hk,mem_mids.mpr ⟨i,h1,h2,rfl⟩⟩
theorem mem_sts {m:qE}{t:Sta}:t∈sts m↔∃s,m[t.1]?=some s/\(t.2=(0,0)\/∃p,s.1[t.2.1]?=some p/\1<=t.2.2/\t.2.2 < p.length):=by
 unfold sts
 rw[iS]
 constructor
 ·rintro ⟨⟨s,j⟩,hy,ht⟩
  have hj:m[j]?=some s:=by simpa using gt.mp hy
  rcases mem_stsS.mp ht with rfl | ⟨k,p,i,hk,h1,h2,rfl⟩
  ·exact⟨s,hj,.inl rfl⟩
  ·exact⟨s,hj,.inr ⟨p,hk,h1,h2⟩⟩
 ·rintro ⟨s,hs,h⟩
  obtain⟨j,k,i⟩:=t
  refine⟨(s,j),gt.mpr hs,mem_stsS.mpr ?_⟩
  rcases h with h | ⟨p,h1,h2,h3⟩
  ·cases h;exact .inl rfl
  ·exact .inr ⟨k,p,i,h1,h2,h3,rfl⟩
theorem M7 (j k:Nat)(p:Str):(mids j k p).Nodup:=by
 unfold mids
 rw[kl,List.pairwise_map]
 refine(kl.mp List.nodup_range).imp λh e=>h ?_
 have:=ce (λt:Sta=>t.2.2) e
 simp at this
 exact this
theorem wB {α β:Type}(f:α->Nat->List β)(c:β->Nat):∀(l:List α) (k:Nat),(∀a n,(f a n).Nodup)->(∀a n b,b∈f a n->c b=n)->((l.zipIdx k).flatMap λy=>f y.1 y.2).Nodup
 | [],k,_,_=>by simp
 | a::l,k,h1,h2=>by
  rw[ol,gg,jp]
  refine⟨h1 a k,wB f c l (k+1) h1 h2,λx hx y hy e=>?_⟩
  subst e
  obtain⟨⟨a',n⟩,hz,hb⟩:=iS.mp hy
  have h3:=h2 _ _ _ hx
  have h4:=h2 _ _ _ hb
  have h5:=List.mem_zipIdx hz
  dsimp only at h4 h5
  omega
theorem M8 (j:Nat)(s:Slot):(kI j s).Nodup:=by
 unfold kI
 rw[cm]
 refine⟨λh=>?_,wB (λp k=>mids j k p) (λt=>t.2.1) s.1 0 (λp k=>M7 j k p) λp k t ht=>by obtain⟨i,_,_,rfl⟩:=mem_mids.mp ht;rfl⟩
 obtain⟨y,_,ht⟩:=iS.mp h
 obtain⟨i,h1,_,e⟩:=mem_mids.mp ht
 have:=ce (λt:Sta=>t.2.2) e
 simp at this
 omega
theorem RV (m:qE):(sts m).Nodup:=wB (λs j=>kI j s) (λt=>t.1) m 0 (λs j=>M8 j s) λs j t ht=>by
 rcases mem_stsS.mp ht with rfl | ⟨k,p,i,_,_,_,rfl⟩ <;> rfl
theorem uz {f:Sta->Int}{t:Sta}:∀{l:List Sta},l.Nodup->(l.map λu=>if u=t then f u else 0).sum=if t∈l then f t else 0
 | [],_=>by simp
 | a::l,h=>by
  rw[cm] at h
  rw[av,eA,uz h.2]
  by_cases e:a=t
  ·subst e;simp[h.1]
  ·have:¬ t=a:=λz=>e z.symm
   simp[e,this]
theorem uA {α β:Type}(f:α->List β)(g:β->Int):∀l:List α,((l.flatMap f).map g).sum=(l.map λa=>((f a).map g).sum).sum
 | []=>rfl
 | a::l=>by simp[gg,uA f g l]
theorem G9 {m:qE}{o:Nat}{e:Bool}{f:Sta->Int}{t:Sta}(h:o≠3):opM m o e f t=if t∈sts m then ((b8 m t (bL o) e).map λy=>f y.2).sum else 0:=by
 unfold opM stp
 rw[a9 h,uA]
 have e1:(λa:Sta=>(((b8 m a (bL o) e).map λy=>(a,y.2)).map λy=>if y.1=t then f y.2 else 0).sum)=λa=>if a=t then ((b8 m a (bL o) e).map λy=>f y.2).sum else 0:=by
  funext a
  rw[df]
  by_cases q:a=t
  ·subst q;simp[Function.comp_def]
  ·simp only[Function.comp_def,a9 q];exact m7 _
 rw[e1,uz (f:=λa=>((b8 m a (bL o) e).map λy=>f y.2).sum) (RV m)]
noncomputable def cs (m:qE):List Sg->Sta->Int
 | [],t=>fin m t
 | b::R,t=>if t∈sts m then ((b8 m t b.1 b.2).map λy=>cs m R y.2).sum else 0
theorem zN {m:qE}:∀(S:qf) (es:List Bool) (t:Sta),cnt m ((S.map λi=>[i]).zip es) t=cs m (aZ S es) t
 | [],es,t=>by simp[aZ,cs,cnt_nil]
 | i::S,[],t=>by simp[aZ,cs,cnt_nil]
 | i::S,e::es,t=>by
  rw[av,eM,cnt_cons]
  have h1:opr m ([i],e) (cnt m ((S.map λi=>[i]).zip es)) t=opM m i e (cnt m ((S.map λi=>[i]).zip es)) t:=by simp[opr]
  have h2:cnt m ((S.map λi=>[i]).zip es)=cs m (aZ S es):=by funext u;exact zN S es u
  rw[h1,h2]
  by_cases h3:i=3
  ·subst h3
   have:aZ (3::S) (e::es)=aZ S es:=by simp[aZ]
   rw[this];simp[opM]
  ·have:aZ (i::S) (e::es)=(bL i,e)::aZ S es:=by simp[aZ,h3]
   rw[this,G9 h3]
   rfl
def pwA (m:qE)(j:Nat):List Sg->List Sg->Int
 | [],R=>cs m R (j+1,0,0)
 | _::_,[]=>0
 | a::A,b::R=>if (stands a.1 b.1&&(!a.2||b.2))=true then pwA m j A R else 0
theorem G_ {m:qE}{j:Nat}:∀(A R:qV),pwA m j A R=if rfB A (R.take A.length)=true then cs m (R.drop A.length) (j+1,0,0) else 0
 | [],R=>by simp[pwA,rfB]
 | a::A,[]=>by simp[pwA,rfB]
 | a::A,b::R=>by
  rw[pwA,G_ A R]
  cases h:(stands a.1 b.1&&(!a.2||b.2)) <;> simp[rfB,h]
theorem oX (s:Slot)(p:Str){i:Nat}(h:i < p.length):(bT s p).drop i=(gq p i,s.2&&decide (i+1=p.length))::(bT s p).drop (i+1):=by
 have hl:i < (bT s p).length:=by rw[eV];exact h
 rw[ed hl]
 congr 1
 simp[bT]
theorem zO {m:qE}{j k i:Nat}{s:Slot}{p:Str}{b:Sg}{R:qV}(hk:s.1[k]?=some p)(hi:i < p.length)(ih:i+1 < p.length->cs m R (j,k,i+1)=pwA m j ((bT s p).drop (i+1)) R):
  ((mvT s j i b.1 b.2 k).map λy=>cs m R y.2).sum=pwA m j ((bT s p).drop i) (b::R):=by
 rw[oX s p hi,pwA]
 unfold mvT bhT
 rw[tG hk]
 cases hst:stands (gq p i) b.1 with
 | false=>simp
 | true=>
  by_cases hlt:i+1 < p.length
  ·have:¬ i+1=p.length:=by omega
   simp[hlt,this,ih hlt]
  ·have he:i+1=p.length:=by omega
   have hd:(bT s p).drop (i+1)=[]:=by rw[pj,eV];omega
   rw[hd]
   cases hc:s.2 <;> cases hb:b.2 <;> simp[he,pwA]
theorem Ha {m:qE}{j k:Nat}{s:Slot}{p:Str}(hs:m[j]?=some s)(hk:s.1[k]?=some p):∀(R:qV) (i:Nat),1<=i->i < p.length->cs m R (j,k,i)=pwA m j ((bT s p).drop i) R
 | [],i,h1,h2=>by
  rw[oX s p h2,pwA,cs,fin,a9]
  intro z
  have:=ce (λt:Sta=>t.2.2) z
  simp at this
  omega
 | b::R,i,h1,h2=>by
  rw[cs,bp (mem_sts.mpr ⟨s,hs,.inr ⟨p,hk,h1,h2⟩⟩)]
  unfold b8
  rw[hs]
  dsimp only
  rw[a9 (by omega)]
  exact zO hk h2 λh3=>Ha hs hk R (i+1) (by omega) h3
theorem Cu {m:qE}{j:Nat}{s:Slot}(hs:m[j]?=some s)(ok:PatsOk s.1)(R:qV):cs m R (j,0,0)=(s.1.map λp=>if fit p s.2 (R.take p.length)=true then cs m (R.drop p.length) (j+1,0,0) else 0).sum:=by
 have e0:∀p∈s.1,(if fit p s.2 (R.take p.length)=true then cs m (R.drop p.length) (j+1,0,0) else 0)=pwA m j (bT s p) R:=λp hp=>by
  rw[G_,zG (ok.ok p hp),eV]
 rw[ci e0]
 have hj:j < m.length:=(ap.mp hs).1
 cases R with
 | nil=>
  rw[cs,fin,a9 (λz=>by have:=ce (λt:Sta=>t.1) z;simp at this;omega)]
  have e1:∀p∈s.1,pwA m j (bT s p) []=0:=λp hp=>by
   have h:=(ok.ok p hp).ge
   have:=oX s p (i:=0) (by omega)
   rw[iP] at this
   rw[this,pwA]
  rw[ci e1,m7]
 | cons b R=>
  rw[cs,bp (mem_sts.mpr ⟨s,hs,.inl rfl⟩)]
  unfold b8
  rw[hs]
  dsimp only
  rw[bp rfl,uA]
  have e2:s.1=(List.range s.1.length).map λk=>s.1.getD k ⟨#[]⟩:=by
   refine jS λi=>?_
   by_cases h:i < s.1.length
   ·simp[h]
   ·simp[h]
  conv=>rhs;rw[e2]
  rw[df]
  congr 1
  refine ci λk hk=>?_
  rw[b6] at hk
  have hp:s.1[k]?=some (s.1.getD k ⟨#[]⟩):=by rw[bi,ar hk];rfl
  have okp:=ok.ok _ (ax hp)
  have:=zO (m:=m) (j:=j) (b:=b) (R:=R) hp (i:=0) (by have:=okp.ge;omega) λh=>Ha hs hp R 1 (by omega) h
  rw[iP] at this
  exact this
theorem Hb {m:qE}(R:qV):cs m R (m.length,0,0)=if R=[] then 1 else 0:=by
 cases R with
 | nil=>simp[cs,fin]
 | cons b R=>
  rw[cs,a9 (λz=>by obtain⟨s,h,_⟩:=mem_sts.mp z;simp at h)]
  simp
theorem Cv {m:qE}(hm:bG m){R:qV}:∀(n j a:Nat),m.length - j=n->j<=m.length->a<=R.length->cs m (R.drop a) (j,0,0)=ways R (m.drop j) a
 | 0,j,a,h,hj,ha=>by
  have e:j=m.length:=by omega
  subst e
  rw[Hb,ku]
  unfold ways
  have:R.drop a=[]↔a=R.length:=by rw[pj];omega
  simp[this]
 | n+1,j,a,h,hj,ha=>by
  have hlt:j < m.length:=by omega
  have hs:m[j]?=some m[j]:=ar hlt
  have ok:=hm _ (gI hlt)
  rw[Cu hs ok,ed hlt]
  unfold ways
  congr 1
  refine ci λp hp=>?_
  show (if fit p m[j].2 ((R.drop a).take p.length)=true then _ else _)=if fit p m[j].2 (seg R a p.length)=true then _ else _
  by_cases hf:fit p m[j].2 (seg R a p.length)=true
  ·have hle:=fit_le (ok.ok p hp) hf
   rw[bp hf,bp (show fit p m[j].2 ((R.drop a).take p.length)=true from hf),List.drop_drop]
   exact Cv hm n (j+1) (a+p.length) (by omega) hlt hle
  ·rw[a9 hf,a9 (show ¬ fit p m[j].2 ((R.drop a).take p.length)=true from hf)]
theorem M9 {m:qE}(hm:bG m)(R:qV):cs m R (0,0,0)=ways R m 0:=by
 have:=Cv hm (R:=R) m.length 0 0 rfl (cK _) (cK _)
 simpa using this
def bD (t:Sta):PV:=stP t.1 t.2.1 t.2.2
def eX (y:Sta×Sta):PV:=.tup [bD y.1,bD y.2]
def mvP (y:Nat×Sta):PV:=.tup [.int (y.1:Nat),bD y.2]
theorem Kg (s:Slot)(slot i:Nat)(mark:Str)(ends:Bool)(k:Nat):mvK s slot i mark ends k=(mvT s slot i mark ends k).map mvP:=by
 unfold mvK mvT bhS bhT
 generalize s.1.getD k ⟨#[]⟩=p
 cases h1:stands (gq p i) mark <;> by_cases h2:i+1 < p.length <;> cases h3:(s.2&&!ends) <;> simp[h2,mvP,bD,stP]
theorem Kh (m:qE)(t:Sta)(mark:Str)(ends:Bool):mvs m t.1 t.2.1 t.2.2 mark ends=(b8 m t mark ends).map mvP:=by
 unfold mvs b8
 split
 ·rename_i h;(try simp only[h]);rfl
 ·rename_i s h
  try simp only[h]
  split
  ·rename_i h0
   rw[h0,List.map_flatMap]
   congr 1
   funext k
   exact Kg s t.1 0 mark ends k
  ·exact Kg s t.1 t.2.2 mark ends t.2.1
theorem uB (j k:Nat)(p:Str):(mids j k p).length=p.length - 1:=by simp[mids]
theorem JC {M:PV}{j:Nat}{s:Slot}{y:Str×Nat}{L:List Sta}(ok:PatOk y.1)(hL:L.length < 9000):
  turn (gT [4,5]) [4,5] gF (.tup [.int (y.2:Nat),.str y.1]) [some M,some (.lst (L.map bD)),some (.int j),some (slP s),none,none]=some [some M,some (.lst ((L++mids j y.2 y.1).map bD)),some (.int j),some (slP s),none,none]:=by
 obtain⟨p,k⟩:=y
 have ok:PatOk p:=ok
 have h1:rgI ((p.length:Nat):Int)=true:=iI (by omega) (by have:=ok.le;omega)
 have h0:rgI 1=true:=iI (by omega) (by omega)
 have h2:eO [none,some (.int j),some (.int k)] (gN 0) fD kh (cZ 1 (p.length:Int))=some ((mids j k p).map bD):=by
  have e:cZ 1 (p.length:Int)=(List.range (p.length - 1)).map λi=>PV.int (1+(i:Nat)):=by
   unfold cZ
   have:((p.length:Int) - 1).toNat=p.length - 1:=by omega
   rw[this]
  rw[e]
  unfold mids
  rw[df]
  exact fZ _ _ _ λi _=>⟨[some (.int (1+(i:Nat))),some (.int j),some (.int k)],rfl,by simp[kh,bD,stP]⟩
 have h3:p.length<=1000000:=by have:=ok.le;omega
 have h4:(cZ 1 (p.length:Int)).length<=1000000:=by
  unfold cZ
  rw[af,ip]
  have:=ok.le;omega
 have h5:L.length+(mids j k p).length<=1000000:=by rw[uB];have:=ok.le;omega
 simp[aV,gF,h0,h1,h2,h3,h4,h5,slP,jN]
theorem M_ {M:PV}{j:Nat}{s:Slot}(ok:PatsOk s.1){L:List Sta}(hL:L.length < 8000):
  bY (gT [4,5]) [4,5] gF (fC 0 (s.1.map .str)) [some M,some (.lst (L.map bD)),some (.int j),some (slP s),none,none]=some (.nx [some M,some (.lst ((L++s.1.zipIdx.flatMap λy=>mids j y.2 y.1).map bD)),some (.int j),some (slP s),none,none]):=by
 have en:fC 0 (s.1.map .str)=s.1.zipIdx.map λy:Str×Nat=>PV.tup [.int (y.2:Nat),.str y.1]:=iR _ _ _
 rw[en]
 obtain⟨L',⟨d,e1,e2,e3⟩,h⟩:=bz (g:=gT [4,5]) (ds:=[4,5]) (body:=gF) (λy:Str×Nat=>PV.tup [.int (y.2:Nat),.str y.1]) (λL:List Sta=>[some M,some (.lst (L.map bD)),some (.int j),some (slP s),none,none])
  (λr L'=>∃d,s.1.zipIdx=d++r/\L'=(L++d.flatMap λy=>mids j y.2 y.1)/\L'.length<=L.length+4*d.length)
  (by
   rintro y r L' ⟨d,e1,e2,e3⟩
   have hm:y∈s.1.zipIdx:=by rw[e1];simp
   have okp:PatOk y.1:=ok.ok _ (ko hm)
   have hd:d.length+r.length+1=s.1.length:=by have:=ce List.length e1;simp at this;omega
   have h4:=ok.le
   refine⟨L'++mids j y.2 y.1,⟨d++[y],by rw[e1];simp,by rw[e2];simp,?_⟩,JC okp (by omega)⟩
   have:=uB j y.2 y.1
   have:=okp.le
   simp;omega)
  s.1.zipIdx L ⟨[],rfl,by simp,by simp⟩
 rw[bE] at e1
 rw[h,e2,← e1]
theorem JD (j:Nat){s:Slot}(ok:PatsOk s.1):(kI j s).length<=17:=by
 unfold kI
 have:∀(l:List (Str×Nat)),(∀y∈l,PatOk y.1)->(l.flatMap λy=>mids j y.2 y.1).length<=4*l.length:=λl=>by
  induction l with
  | nil=>simp
  | cons y l ih=>
   intro h
   have h1:=ih λz hz=>h z (ag _ hz)
   have h2:=(h y ai).le
   have h3:=uB j y.2 y.1
   rw[gg,a8,bb]
   omega
 have h1:=this s.1.zipIdx λy hy=>ok.ok _ (ko hy)
 have h2:=ok.le
 rw[List.length_zipIdx] at h1
 rw[bb]
 omega
theorem w6 {m:qE}(hm:bG m)(hl:m.length < 100):iU [mP m]=some (.lst ((sts m).map bD))/\(sts m).length<=17*m.length:=by
 have en:fC 0 (m.map slP)=m.zipIdx.map λy:Slot×Nat=>PV.tup [.int (y.2:Nat),slP y.1]:=iR _ _ _
 obtain⟨L',⟨d,e1,e2,e3⟩,h⟩:=bz (g:=gT [2,3]) (ds:=[2,3,4,5]) (body:=kj) (λy:Slot×Nat=>PV.tup [.int (y.2:Nat),slP y.1]) (λL:List Sta=>[some (mP m),some (.lst (L.map bD)),none,none,none,none])
  (λr L'=>∃d,m.zipIdx=d++r/\L'=(d.flatMap λy=>kI y.2 y.1)/\L'.length<=17*d.length)
  (by
   rintro y r L' ⟨d,e1,e2,e3⟩
   have hmm:y∈m.zipIdx:=by rw[e1];simp
   have ok:PatsOk y.1.1:=hm _ (ko hmm)
   have hd:d.length+r.length+1=m.length:=by have:=ce List.length e1;simp at this;omega
   have h4:=JD y.2 ok
   refine⟨L'++kI y.2 y.1,⟨d++[y],by rw[e1];simp,by rw[e2];simp,by simp;omega⟩,?_⟩
   have h5:=M_ (M:=mP m) (j:=y.2) ok (L:=L'++[(y.2,0,0)]) (by simp;omega)
   have e5:(L'++[(y.2,0,0)]).map bD=L'.map bD++[.tup [.int (y.2:Nat),.int 0,.int 0]]:=by simp[bD,stP]
   rw[e5] at h5
   have e6:L'++[(y.2,0,0)]++(y.1.1.zipIdx.flatMap λz=>mids y.2 z.2 z.1)=L'++kI y.2 y.1:=by simp[kI]
   rw[e6] at h5
   have hl':L'.length < 1000000:=by omega
   obtain⟨⟨ps,c⟩,j⟩:=y
   dsimp only at h5 ⊢
   simp only[slP] at h5
   generalize (L'++kI j (ps,c)).map bD=R at *
   simp[aV,kj,slP,hl',h5])
  m.zipIdx [] ⟨[],rfl,rfl,by simp⟩
 rw[bE] at e1
 have e7:L'=sts m:=by rw[e2,← e1];rfl
 subst e7
 refine⟨?_,by rw[← e1] at e3;simpa using e3⟩
 simp only[c9] at h
 simp[iU,rM,mP] at h ⊢
 simp[en,h]
theorem zQ (m:qE)(hm:bG m)(t:Sta)(mark:Str)(e:Bool):(b8 m t mark e).length<=4:=by
 have h1:∀(s:Slot) (slot i k:Nat),(mvT s slot i mark e k).length<=1:=λs slot i k=>by
  unfold mvT
  split
  ·cases bhT s slot k i (s.1.getD k ⟨#[]⟩) e <;> simp
  ·simp
 unfold b8
 split
 ·simp
 ·rename_i s h
  have ok:=hm s (ax h)
  split
  ·have:∀l:List Nat,(l.flatMap (mvT s t.1 0 mark e)).length<=l.length:=λl=>by
    induction l with
    | nil=>simp
    | cons k l ih=>have:=h1 s t.1 0 k;rw[gg,a8,bb];omega
   have h2:=this (List.range s.1.length)
   have h3:=ok.le
   rw[ip] at h2
   omega
  ·have:=h1 s t.1 t.2.2 t.2.1;omega
theorem Hc {m:qE}{t:Sta}(h:t∈sts m):StOk m t.1 t.2.1 t.2.2:=by
 obtain⟨s,hs,h⟩:=mem_sts.mp h
 have hlt:=(ap.mp hs).1
 refine⟨by omega,λz=>by omega,λs' hs'=>?_⟩
 rw[hs] at hs'
 cases hs'
 rcases h with h | ⟨p,h1,h2,h3⟩
 ·rw[h];exact .inl ⟨rfl,rfl⟩
 ·exact .inr ⟨p,h1,by omega,h3⟩
theorem qw {m:qE}(hm:bG m)(hl:m.length < 100)(mark:Str)(e:Bool):dI [mP m,.str mark,.bl e]=some (.lst ((stp m mark e).map eX))/\(stp m mark e).length<=68*m.length:=by
 obtain⟨h1,h2⟩:=w6 hm hl
 obtain⟨L',⟨d,e1,e2,e3⟩,h⟩:=bz (g:=gN 4) (ds:=[4]) (body:=lM) bD (λL:List (Sta×Sta)=>[some (mP m),some (.str mark),some (.bl e),some (.lst (L.map eX)),none])
  (λr L'=>∃d,sts m=d++r/\L'=(d.flatMap λt=>(b8 m t mark e).map λy=>(t,y.2))/\L'.length<=4*d.length)
  (by
   rintro t r L' ⟨d,e1,e2,e3⟩
   have hmm:t∈sts m:=by rw[e1];simp
   have hd:d.length+r.length+1=(sts m).length:=by have:=ce List.length e1;simp at this;omega
   have h3:=zH hm (by omega) (Hc hmm) mark e
   rw[Kh] at h3
   have h4:=zQ m hm t mark e
   refine⟨L'++(b8 m t mark e).map λy=>(t,y.2),⟨d++[t],by rw[e1];simp,by rw[e2];simp,by simp;omega⟩,?_⟩
   have h5:eO [none,none,some (bD t)] (gT [0,1]) fD lL ((b8 m t mark e).map mvP)=some (((b8 m t mark e).map λy=>(t,y.2)).map eX):=by
    rw[df]
    exact fZ _ _ _ λy _=>⟨[some (.int (y.1:Nat)),some (bD y.2),some (bD t)],rfl,by simp[lL,eX]⟩
   have h6:L'.length+((b8 m t mark e).map λy=>(t,y.2)).length<=1000000:=by rw[af];omega
   have h7:((b8 m t mark e).map mvP).length<=1000000:=by rw[af];omega
   have h3:cL [mP m,bD t,.str mark,.bl e]=some (.lst ((b8 m t mark e).map mvP)):=h3
   rw[cS]
   have h8:(L'.map eX).length+(((b8 m t mark e).map λy=>(t,y.2)).map eX).length<=1000000:=by simpa using h6
   generalize ((b8 m t mark e).map λy=>(t,y.2)).map eX=R at *
   generalize (b8 m t mark e).map mvP=V at *
   generalize L'.map eX=W at *
   generalize bD t=S at *
   generalize mP m=M at *
   simp[aV,lM,h3,h5,h7,h8,jN])
  (sts m) [] ⟨[],rfl,rfl,by simp⟩
 rw[bE] at e1
 have e7:L'=stp m mark e:=by rw[e2,← e1];rfl
 subst e7
 refine⟨?_,by rw[← e1] at e3;omega⟩
 simp only[c9] at h
 simp[dI,tZ,h1,h]
def kS (t:Sta):List Key:=[.inl (t.1:Nat),.inl (t.2.1:Nat),.inl (t.2.2:Nat)]
theorem kS_inj {t u:Sta}:kS t=kS u↔t=u:=by
 obtain⟨a,b,c⟩:=t
 obtain⟨d,e,f⟩:=u
 simp[kS]
 omega
abbrev Dc:=List (Sta×Int)
def dE (y:Sta×Int):List Key×PV:=(kS y.1,.int y.2)
def dP (d:Dc):PV:=.dT (d.map dE)
def ks (d:Dc):List Sta:=d.map (·.1)
def look (d:Dc)(t:Sta):Option Int:=(d.find? λy=>decide (y.1=t)).map (·.2)
def val (d:Dc)(t:Sta):Int:=(look d t).getD 0
noncomputable def jc (d:Dc)(t:Sta)(v:Int):Dc:=if t∈ks d then d.map λy=>if y.1=t then (t,v) else y else d++[(t,v)]
theorem pQ (t:Sta):∀d:Dc,dj (d.map dE) (kS t)=(look d t).map .int
 | []=>rfl
 | y::d=>by
  have ih:=pQ t d
  unfold dj look at ih ⊢
  rw[av,em,em]
  by_cases h:y.1=t
  ·subst h;simp[dE]
  ·have h':¬ (dE y).1=kS t:=λz=>h (kS_inj.mp z)
   simp only[bq h,bq h']
   exact ih
theorem gU {t:Sta}:∀{d:Dc},(look d t).isSome=decide (t∈ks d)
 | []=>by simp[look,ks]
 | y::d=>by
  have ih:=gU (t:=t) (d:=d)
  unfold look ks at ih ⊢
  rw[em]
  by_cases h:y.1=t
  ·subst h;simp
  ·have h':¬ t=y.1:=λz=>h z.symm
   simp only[bq h,av,aw,h',false_or]
   exact ih
theorem zR {d:Dc}{t:Sta}(h:t∉ks d):val d t=0:=by
 have:=gU (d:=d) (t:=t)
 rw[bq h] at this
 unfold val
 cases q:look d t with
 | none=>rfl
 | some v=>rw[q] at this;cases this
theorem JF (d:Dc)(t:Sta)(v:Int)(u:Sta)(h:t∉ks d):look (d++[(t,v)]) u=if u=t then some v else look d u:=by
 unfold look
 rw[List.find?_append]
 by_cases e:u=t
 ·subst e
  have:d.find? (λy=>decide (y.1=u))=none:=by
   rw[List.find?_eq_none]
   intro y hy
   simp only[j3]
   exact λz=>h (z▸pw hy)
  simp[this]
 ·have e':¬ t=u:=λz=>e z.symm
  simp[e,e']
theorem uC (t:Sta)(v:Int)(u:Sta):∀d:Dc,t∈ks d->look (d.map λy=>if y.1=t then (t,v) else y) u=if u=t then some v else look d u
 | [],h=>by simp[ks] at h
 | y::d,h=>by
  unfold look
  rw[av,em,em]
  by_cases hy:y.1=t
  ·rw[bp hy]
   by_cases e:u=t
   ·subst e;simp
   ·have e1:¬ t=u:=λz=>e z.symm
    have e2:¬ y.1=u:=λz=>e1 (hy.symm.trans z)
    simp only[bq e1,bq e2,a9 e]
    by_cases hm:t∈ks d
    ·have:=uC t v u d hm
     unfold look at this
     rw[this,a9 e]
    ·have:(d.map λy=>if y.1=t then (t,v) else y)=d:=by
      conv=>rhs;rw[← List.map_id d]
      refine ci λz hz=>?_
      have hz':¬ z.1=t:=λw=>hm (w▸pw hz)
      rw[a9 hz']
      rfl
     rw[this]
  ·rw[a9 hy]
   have hm:t∈ks d:=by
    unfold ks at h ⊢
    rw[av,aw] at h
    exact h.resolve_left λz=>hy z.symm
   have ih:=uC t v u d hm
   unfold look at ih
   by_cases e2:y.1=u
   ·have e:¬ u=t:=λz=>hy (e2.trans z)
    simp[e2,e]
   ·simp only[bq e2]
    exact ih
theorem JG (d:Dc)(t:Sta)(v:Int)(u:Sta):look (jc d t v) u=if u=t then some v else look d u:=by
 unfold jc
 split
 ·rename_i h;exact uC t v u d h
 ·rename_i h;exact JF d t v u h
theorem Nb (d:Dc)(t:Sta)(v:Int)(u:Sta):val (jc d t v) u=if u=t then v else val d u:=by
 unfold val
 rw[JG]
 split <;> rfl
theorem Hd (d:Dc)(t:Sta)(v:Int):ks (jc d t v)=if t∈ks d then ks d else ks d++[t]:=by
 unfold jc
 split
 ·unfold ks
  rw[df]
  refine ci λy _=>?_
  show (if y.1=t then (t,v) else y).1=y.1
  split
  ·rename_i h;exact h.symm
  ·rfl
 ·unfold ks;simp
theorem RW (d:Dc)(t:Sta)(v:Int):oR (d.map dE) (kS t) (.int v)=(jc d t v).map dE:=by
 unfold oR jc
 have e:((d.map dE).any λkv=>decide (kv.1=kS t))=decide (t∈ks d):=by
  rw[List.any_map]
  have:(decide (t∈ks d))=d.any λy=>decide (y.1=t):=by
   rw[ic,j3,List.any_eq_true]
   unfold ks
   rw[db]
   exact⟨λ⟨y,hy,e⟩=>⟨y,hy,ca e⟩,λ⟨y,hy,e⟩=>⟨y,hy,kM e⟩⟩
  rw[this]
  congr 1
  funext y
  simp only[pz,dE]
  exact decide_eq_decide.mpr kS_inj
 rw[e]
 by_cases h:t∈ks d
 ·rw[bp (ca h),bp h,df,df]
  refine ci λy _=>?_
  simp only[pz]
  by_cases q:y.1=t
  ·rw[bp q];subst q;simp[dE]
  ·rw[a9 q]
   have:¬ (dE y).1=kS t:=λz=>q (kS_inj.mp z)
   rw[a9 this]
 ·rw[bq h,a9 h]
  simp[dE]
structure DOk (m:qE)(d:Dc):Prop where
 nd:(ks d).Nodup
 sub:∀t∈ks d,t∈sts m\/t=(m.length,0,0)
theorem zT {α:Type}[DecidableEq α]:∀{l u:List α},l.Nodup->(∀x∈l,x∈u)->l.length<=u.length
 | [],_,_,_=>cK _
 | a::l,u,h,s=>by
  rw[cm] at h
  have ha:a∈u:=s a ai
  have:=zT (l:=l) (u:=u.erase a) h.2 λx hx=>(List.mem_erase_of_ne (show x≠a from λz=>h.1 (z▸hx))).mpr (s x (ag _ hx))
  rw[List.length_erase_of_mem ha] at this
  have hp:=List.length_pos_of_mem ha
  rw[bb]
  omega
theorem DOk.len {m:qE}{d:Dc}(h:DOk m d)(hm:bG m)(hl:m.length < 100):d.length < 5000:=by
 have h1:(ks d).length<=(sts m++[(m.length,0,0)]).length:=zT h.nd λt ht=>by
  rcases h.sub t ht with z | z
  ·exact gc _ z
  ·rw[z];simp
 have h2:=(w6 hm hl).2
 unfold ks at h1
 simp at h1
 omega
theorem DOk.put {m:qE}{d:Dc}(h:DOk m d){t:Sta}(ht:t∈sts m\/t=(m.length,0,0))(v:Int):DOk m (jc d t v):=by
 constructor
 ·rw[Hd]
  split
  ·exact h.nd
  ·rename_i hn
   rw[jp]
   exact⟨h.nd,by simp,λx hx y hy e=>hn (by rw[aI] at hy;rw[← hy,← e];exact hx)⟩
 ·rw[Hd]
  split
  ·exact h.sub
  ·intro u hu
   rcases b0.mp hu with z | z
   ·exact h.sub u z
   ·rw[aI] at z;rw[z];exact ht
theorem oH (t:Sta):keysB [.int (t.1:Nat),.int (t.2.1:Nat),.int (t.2.2:Nat)]=some (kS t):=by simp[kS]
theorem U_ (d:Dc)(t:Sta):inP (bD t) (dP d)=some (decide (t∈ks d)):=by
 have h1:=oH t
 have h2:=pQ t d
 have h3:=gU (d:=d) (t:=t)
 unfold bD stP dP
 show (keysB [.int (t.1:Nat),.int (t.2.1:Nat),.int (t.2.2:Nat)]).map (λk=>(dj (d.map dE) k).isSome)=_
 rw[h1,ml,h2,kQ,h3]
theorem Ec (d:Dc)(t:Sta):lq (dP d) (bD t) (.int 0)=some (.int (val d t)):=by
 have h1:=oH t
 have h2:=pQ t d
 unfold bD stP dP
 show (keysB [.int (t.1:Nat),.int (t.2.1:Nat),.int (t.2.2:Nat)]).map (λk=>(dj (d.map dE) k).getD (.int 0))=_
 rw[h1,ml,h2]
 unfold val
 cases look d t <;> rfl
theorem Va {d:Dc}{t:Sta}(h:t∈ks d):ixP (dP d) (bD t)=some (.int (val d t)):=by
 have h1:=oH t
 have h2:=pQ t d
 have h3:=gU (d:=d) (t:=t)
 unfold bD stP dP
 show (keysB [.int (t.1:Nat),.int (t.2.1:Nat),.int (t.2.2:Nat)]).bind (λk=>dj (d.map dE) k)=_
 rw[h1,bS,h2]
 unfold val
 rw[ca h] at h3
 cases q:look d t with
 | none=>rw[q] at h3;cases h3
 | some v=>rfl
theorem Kl {d:Dc}(t:Sta)(v:Int)(h:d.length < 5000):qd (dP d) (bD t) (.int v)=some (dP (jc d t v)):=by
 have h1:=oH t
 have h2:=RW d t v
 unfold bD stP dP
 show (keysB [.int (t.1:Nat),.int (t.2.1:Nat),.int (t.2.2:Nat)]).bind (λk=>if (d.map dE).length < 1000000 then some (PV.dT (oR (d.map dE) k (.int v))) else none)=_
 rw[h1,bS,bp (by rw[af];omega),h2]
def stL (m:qE)(mark:Str)(e:Bool):PV:=.lst ((stp m mark e).map eX)
noncomputable def gf (m:qE):PV:=.dT [([.inr "u",.inl 0],stL m "u" false),([.inr "u",.inl 1],stL m "u" true),([.inr "-",.inl 0],stL m "-" false),([.inr "-",.inl 1],stL m "-" true)]
theorem RZ {m:qE}(hm:bG m)(hl:m.length < 100):iW [mP m]=some (gf m):=by
 have a1:dI [mP m,.str "u",.bl false]=some (stL m "u" false):=(qw hm hl _ _).1
 have a2:dI [mP m,.str "u",.bl true]=some (stL m "u" true):=(qw hm hl _ _).1
 have a3:dI [mP m,.str "-",.bl false]=some (stL m "-" false):=(qw hm hl _ _).1
 have a4:dI [mP m,.str "-",.bl true]=some (stL m "-" true):=(qw hm hl _ _).1
 unfold gf
 generalize stL m "u" false=L1 at *
 generalize stL m "u" true=L2 at *
 generalize stL m "-" false=L3 at *
 generalize stL m "-" true=L4 at *
 generalize mP m=M at *
 have hne:¬ (("u" : Str) = "-"):=by decide
 simp[iW,rN,pN,pM,bY,a1,a2,a3,a4,oR,hne,clr]
noncomputable def wk (m:qE)(o:Nat)(e:Bool)(b:Dc):List (Sta×Sta):=if o=3 then (ks b).map λt=>(t,t) else stp m (bL o) e
theorem Nf (b:Dc):u_ (dP b)=some ((ks b).map bD):=by
 have h:((b.map dE).all λkv=>kv.1.length != 2)=true:=by
  rw[i6,cy]
  intro y _
  rfl
 unfold dP
 show (if ((b.map dE).all λkv=>kv.1.length != 2)=true then some ((b.map dE).map λkv=>PV.tup (kv.1.map kP)) else none)=_
 rw[bp h]
 unfold ks
 rw[df,df]
 rfl
theorem Hf {m:qE}{o:Nat}(ho:o < 4)(e:Bool){b:Dc}(hb:b.length < 5000):dR [gf m,aA o,.bl e,dP b]=some (.lst ((wk m o e b).map eX)):=by
 have hne:¬ (("u" : Str) = "-"):=by decide
 have hne':¬ (("-" : Str) = "u"):=by decide
 have h1:=Nf b
 have h2:eO [none] (gN 0) fD km ((ks b).map bD)=some (((ks b).map λt=>(t,t)).map eX):=by
  rw[df]
  exact fZ _ _ _ λt _=>⟨[some (bD t)],rfl,by simp[km,eX]⟩
 have h3:((ks b).map bD).length<=1000000:=by unfold ks;simp;omega
 unfold wk
 rcases lt4 ho with rfl | rfl | rfl | rfl
 ·cases e <;> simp[dR,iY,aA,gf,dj,bL,stL,hne]
 ·cases e <;> simp[dR,iY,aA,gf,dj,bL,stL,hne,hne']
 ·cases e <;> simp[dR,iY,aA,gf,dj,bL,stL,hne,hne']
 ·rw[bp rfl]
  generalize ((ks b).map λt=>(t,t)).map eX=R at *
  generalize (ks b).map bD=V at *
  generalize dP b=B at *
  simp[dR,iY,aA,h1,h2,h3,jN,-u_]
def tH (b:Dc)(d:Dc)(y:Sta×Sta):Dc:=if y.2∈ks b then jc d y.1 (val d y.1+val b y.2) else d
theorem JH {SP OP EP o:PV}{b d:Dc}{y:Sta×Sta}(hd:d.length < 5000):
  turn (gT [6,7]) [6,7] du (eX y) [some SP,some OP,some EP,some (dP b),some (dP d),some o,none,none]=some [some SP,some OP,some EP,some (dP b),some (dP (tH b d y)),some o,none,none]:=by
 have h1:=U_ b y.2
 have h2:=Ec d y.1
 unfold tH
 by_cases h:y.2∈ks b
 ·have h3:=Va h
  have h4:=Kl y.1 (val d y.1+val b y.2) hd
  rw[ca h] at h1
  rw[bp h]
  unfold eX
  generalize dP (jc d y.1 (val d y.1+val b y.2))=R at *
  generalize dP b=B at *
  generalize dP d=D at *
  generalize bD y.1=S1 at *
  generalize bD y.2=S2 at *
  simp[aV,du,h1,h2,h3,h4,-lq,-ixP,-qd]
 ·rw[bq h] at h1
  rw[a9 h]
  unfold eX
  generalize dP b=B at *
  generalize dP d=D at *
  generalize bD y.1=S1 at *
  generalize bD y.2=S2 at *
  simp[aV,du,h1,-lq,-ixP,-qd]
theorem JK (b d:Dc)(y:Sta×Sta)(t:Sta):val (tH b d y) t=val d t+if y.1=t then val b y.2 else 0:=by
 unfold tH
 by_cases h:y.2∈ks b
 ·rw[bp h,Nb]
  by_cases e:t=y.1
  ·subst e;simp
  ·have e':¬ y.1=t:=λz=>e z.symm
   simp[e,e']
 ·rw[a9 h,zR h]
  simp
theorem Ng {SP OP EP o:PV}{m:qE}(hm:bG m)(hl:m.length < 100){b d:Dc}(hd:DOk m d)(P:List (Sta×Sta))(hP:∀y∈P,y.1∈sts m\/y.1=(m.length,0,0)):
  ∃d',DOk m d'/\(∀t,val d' t=val d t+(P.map λy=>if y.1=t then val b y.2 else 0).sum) /\
   bY (gT [6,7]) [6,7] du (P.map eX) [some SP,some OP,some EP,some (dP b),some (dP d),some o,none,none]=some (.nx [some SP,some OP,some EP,some (dP b),some (dP d'),some o,none,none]):=by
 obtain⟨d',⟨q,e1,e2,e3⟩,h⟩:=bz (g:=gT [6,7]) (ds:=[6,7]) (body:=du) eX (λd:Dc=>[some SP,some OP,some EP,some (dP b),some (dP d),some o,none,none])
  (λr d'=>∃q,P=q++r/\DOk m d'/\∀t,val d' t=val d t+(q.map λy=>if y.1=t then val b y.2 else 0).sum)
  (by
   rintro y r d' ⟨q,e1,e2,e3⟩
   refine⟨tH b d' y,⟨q++[y],by rw[e1];simp,?_,λt=>?_⟩,JH (e2.len hm hl)⟩
   ·unfold tH
    split
    ·exact e2.put (hP y (by rw[e1];simp)) _
    ·exact e2
   ·rw[JK,e3 t,cS,mn]
    simp
    omega)
  P d ⟨[],rfl,hd,λt=>by simp⟩
 rw[bE] at e1
 subst e1
 exact⟨d',e2,e3,h⟩
theorem Nh {b:Dc}(h:(ks b).Nodup)(t:Sta):(((ks b).map λt=>(t,t)).map λy=>if y.1=t then val b y.2 else 0).sum=val b t:=by
 rw[df]
 have e:((λy:Sta×Sta=>if y.1=t then val b y.2 else 0)∘λt=>(t,t))=λu=>if u=t then val b u else 0:=rfl
 rw[e,uz h]
 split
 ·rfl
 ·rename_i hn;exact(zR hn).symm
theorem R0 {m:qE}{b:Dc}(hb:DOk m b)(o:Nat)(e:Bool)(t:Sta):((wk m o e b).map λy=>if y.1=t then val b y.2 else 0).sum=opM m o e (val b) t:=by
 unfold wk opM
 split
 ·exact Nh hb.nd t
 ·rfl
theorem Uc {m:qE}{b:Dc}(hb:DOk m b)(o:Nat)(e:Bool):∀y∈wk m o e b,y.1∈sts m\/y.1=(m.length,0,0):=λy hy=>by
 unfold wk at hy
 split at hy
 ·obtain⟨t,ht,rfl⟩:=db.mp hy
  exact hb.sub t ht
 ·unfold stp at hy
  obtain⟨t,ht,hy⟩:=iS.mp hy
  obtain⟨z,_,rfl⟩:=db.mp hy
  exact .inl ht
theorem JL {m:qE}(hm:bG m)(hl:m.length < 100){os:qf}(ho:C4 os)(e:Bool){b:Dc}(hb:DOk m b):
  ∃d,DOk m d/\(∀t,val d t=opr m (os,e) (val b) t)/\f9 [gf m,aH os,.bl e,dP b]=some (dP d):=by
 obtain⟨d,⟨q,e1,e2,e3⟩,h⟩:=bz (g:=gN 5) (ds:=[5,6,7]) (body:=jm) aA (λd:Dc=>[some (gf m),some (aH os),some (.bl e),some (dP b),some (dP d),none,none,none])
  (λr d'=>∃q,os=q++r/\DOk m d'/\∀t,val d' t=(q.map λo=>opM m o e (val b) t).sum)
  (by
   rintro o r d' ⟨q,e1,e2,e3⟩
   have h1:=Hf (m:=m) (ho o (by rw[e1];simp)) e (b:=b) (hb.len hm hl)
   obtain⟨d2,f1,f2,f3⟩:=Ng (SP:=gf m) (OP:=aH os) (EP:=.bl e) (o:=aA o) hm hl (b:=b) e2 (wk m o e b) (Uc hb o e)
   refine⟨d2,⟨q++[o],by rw[e1];simp,f1,λt=>?_⟩,?_⟩
   ·rw[f2 t,e3 t,R0 hb,cS,mn]
    simp
   ·generalize (wk m o e b).map eX=W at *
    generalize gf m=SP at *
    generalize aH os=OP at *
    generalize dP b=B at *
    generalize dP d'=D1 at *
    generalize dP d2=D2 at *
    generalize aA o=OO at *
    simp[aV,jm,h1,f3])
  os [] ⟨[],rfl,⟨by simp[ks],by simp[ks]⟩,λt=>by simp[val,look]⟩
 rw[bE] at e1
 subst e1
 refine⟨d,e2,e3,?_⟩
 have h0:dP []=.dT []:=rfl
 rw[h0] at h
 unfold aH at h ⊢
 generalize gf m=SP at *
 generalize os.map aA=OP at *
 generalize dP b=B at *
 generalize dP d=D1 at *
 simp[f9,oA,h]
def zP (x:List Nat×Bool):PV:=.tup [aH x.1,.bl x.2]
theorem Km:∀(xs:List (List Nat)) (es:List Bool),List.zipWith (λa c=>PV.tup [a,c]) (xs.map aH) (es.map PV.bl)=(xs.zip es).map zP
 | [],_=>by simp
 | _::_,[]=>by simp
 | x::xs,e::es=>by simp[Km xs es,zP]
theorem tK (ns:qv)(k:Nat):bw [.frz (ns.map PV.int),.int k]=some (.int (cell ns k)):=by
 by_cases h:k < ns.length
 ·have h1:atI (ns.map PV.int) (k:Int)=some (.int ns[k]):=bO (by simp[h])
  simp[bw,jY,h,h1,cell]
 ·simp[bw,jY,h,cell]
def m8 (c:Int)(m:qE)(k:Nat):Nat:=(mixed c k % (((m.getD k ([],false)).1.length:Nat):Int)).toNat
theorem Cw {c:Int}{m:qE}(hm:bG m){k:Nat}{s:Slot}(hk:m[k]?=some s):m8 c m k < s.1.length/\((m8 c m k:Nat):Int)=mixed c k % (s.1.length:Int):=by
 have hg:m.getD k ([],false)=s:=by rw[bi,hk];rfl
 have hpos:0 < s.1.length:=iN.mpr (hm s (ax hk)).ne
 unfold m8
 rw[hg]
 have q1:=mh (mixed c k) (b:=(s.1.length:Int)) (by omega)
 have q2:=nr (mixed c k) (b:=(s.1.length:Int)) (by omega)
 omega
theorem Hg:∀{m:qE}{fs:qf},fs.length=m.length->(∀(k:Nat) (s:Slot) (f:Nat),m[k]?=some s->fs[k]?=some f->f < s.1.length)->FtV m fs
 | [],[],_,_=>rfl
 | [],_::_,h,_=>by simp at h
 | _::_,[],h,_=>by simp at h
 | s::m,f::fs,h,hh=>by
  have hf:=hh 0 s f rfl rfl
  exact⟨f,s.1[f],fs,rfl,ar hf,Hg (by simpa using h) λk t g h1 h2=>hh (k+1) t g (by simpa using h1) (by simpa using h2)⟩
theorem Ni {c:Int}{m:qE}(hm:bG m):FtV m ((List.range m.length).map (m8 c m)):=Hg (by simp) λk s f h1 h2=>by
 have hlt:k < m.length:=by
  rcases dc k m.length with z | z
  ·exact z
  ·rw[bo z] at h1;cases h1
 rw[aE,fE hlt] at h2
 cases h2
 exact(Cw hm h1).1
theorem Hh {P:PV}{m:qE}{c:Int}(hm:bG m)(hl:m.length < 100)(c0:bw [P,.int 0]=some (.int c)):
  eO [none,some P,some (mP m)] (gN 0) fD qm (cZ 0 (m.length:Int))=some (((List.range m.length).map (m8 c m)).map λf=>PV.int (f:Nat)):=by
 rw[dZ,df]
 refine fZ _ _ _ λk hk=>⟨[some (.int (k:Nat)),some P,some (mP m)],rfl,?_⟩
 have hlt:=b6.mp hk
 have hks:m[k]?=some m[k]:=ar hlt
 have hpos:0 < m[k].1.length:=iN.mpr (hm _ (ax hks)).ne
 have h1:=uw c k (BZ (by omega))
 have a1:atI (m.map slP) (k:Int)=some (.tup [.tup (m[k].1.map .str),.bl m[k].2]):=by
  have:atI (m.map slP) (k:Int)=some (slP m[k]):=bO (by simp[hks])
  exact this
 have e:=(Cw (c:=c) hm hks).2
 have hpos':(0:Int) < (m[k].1.length:Int):=by omega
 show qm _=some (.int ((m8 c m k:Nat):Int))
 rw[e]
 generalize m[k]=s at *
 unfold mP
 simp[qm,c0,h1,a1,hpos,hpos']
theorem str1 {c:Nat}(h:c=117\/c=45\/c=120):(⟨#[c]⟩:Str)=("u" : Str)\/(⟨#[c]⟩:Str)=("-" : Str)\/(⟨#[c]⟩:Str)=("x" : Str):=by
 rcases h with rfl | rfl | rfl
 ·exact .inl (by decide +kernel)
 ·exact .inr (.inl (by decide +kernel))
 ·exact .inr (.inr (by decide +kernel))
theorem zU:∀{m:qE}{fs:qf},bG m->FtV m fs->Jw (bB m fs)/\(m≠[]->bB m fs≠[])
 | [],fs,_,h=>by
  have e:fs=[]:=h
  subst e
  exact⟨λa ha=>by simp[bB] at ha,λz=>absurd rfl z⟩
 | s::m,fs,hm,⟨f,p,gs,h1,h2,h3⟩=>by
  subst h1
  have ih:=(zU (m:=m) (λt ht=>hm t (ag _ ht)) h3).1
  have hp:s.1.getD f ⟨#[]⟩=p:=by rw[bi,h2];rfl
  have ok:=(hm s ai).ok p (ax h2)
  have e:bB (s::m) (f::gs)=bT s p++bB m gs:=by
   show bT s (s.1.getD f ⟨#[]⟩)++_=_
   rw[hp]
  rw[e]
  refine⟨λa ha=>?_,λ_ z=>?_⟩
  ·rcases b0.mp ha with y | y
   ·unfold bT at y
    obtain⟨j,hj,rfl⟩:=db.mp y
    have hj':=b6.mp hj
    refine str1 (ok.cs _ ?_)
    have h':j < p.cps.toList.length:=by simpa [Str.length] using hj'
    rw[bi,ar h']
    exact gI _
   ·exact ih a y
  ·have:=ce List.length z
   rw[a8,eV] at this
   have:=ok.ge
   simp at *
   omega
theorem vp {i:Nat}(hi:i < 4):∀{is:qf}(k:Nat),C4 is->i∈is->∃j,is[j]?=some i/\lJ (jC i) (is.map jC) k=some (k+j)
 | x::is,k,h4,hm=>by
  have hx:=h4 x ai
  by_cases e:x=i
  ·subst e
   exact⟨0,rfl,by simp[lJ,v_ hx hx]⟩
  ·have hm':i∈is:=(aw.mp hm).resolve_left λz=>e z.symm
   obtain⟨j,h1,h2⟩:=vp hi (k+1) (λy hy=>h4 y (ag _ hy)) hm'
   refine⟨j+1,by simpa using h1,?_⟩
   simp[lJ,v_ hx hi,e,h2]
   omega
theorem vq {i:Nat}(hi:i < 4){is:qf}(h4:C4 is)(hm:i∈is)(hl:is.length<=1000):∃j:Nat,is[j]?=some i/\jq (aH is) (aA i)=some (.int j):=by
 obtain⟨j,h1,h2⟩:=vp hi 0 h4 hm
 refine⟨j,h1,?_⟩
 obtain⟨t1,t2⟩:=rZ is
 have t3:=v9 i
 obtain⟨l1,l2⟩:=ux i
 have l3:(is.map jC).length<=1000000:=by simp;omega
 rw[iq] at h2
 unfold aH
 simp only[jq,idxV,t1,t3,bp (⟨l1,t2,l2,l3⟩:_/\_/\_/\_),h2,ml]
theorem Ko (m:qE):∀(R:qV) (t:Sta),0<=cs m R t
 | [],t=>by rw[cs,fin];split <;> omega
 | b::R,t=>by
  rw[cs]
  split
  ·exact sG λy _=>Ko m R y.2
  ·exact kn _
theorem Hi {m:qE}(hm:bG m):∀(n j:Nat) (fs:qf) (R:qV),m.length - j=n->j<=m.length->FtV (m.drop j) fs->rfB (bB (m.drop j) fs) R=true->1<=cs m R (j,0,0)
 | 0,j,fs,R,h,hj,hf,hr=>by
  have e:j=m.length:=by omega
  subst e
  rw[ku] at hf hr
  rw[Hb]
  have:R=[]:=by
   cases R with
   | nil=>rfl
   | cons b R=>cases fs <;> simp[bB,rfB] at hr
  rw[bp this]
  omega
 | n+1,j,fs,R,h,hj,hf,hr=>by
  have hlt:j < m.length:=by omega
  rw[ed hlt] at hf hr
  obtain⟨f,p,gs,rfl,h2,h3⟩:=hf
  have hs:m[j]?=some m[j]:=ar hlt
  have ok:=hm _ (gI hlt)
  have hp:p∈m[j].1:=ax h2
  rw[Cu hs ok]
  have e:bB (m[j]::m.drop (j+1)) (f::gs)=bT m[j] p++bB (m.drop (j+1)) gs:=by
   show bT m[j] (m[j].1.getD f ⟨#[]⟩)++_=_
   rw[tG h2]
  rw[e,sE,bP,eV] at hr
  have hfit:fit p m[j].2 (R.take p.length)=true:=by rw[zG (ok.ok p hp)];exact hr.1
  have ih:=Hi hm n (j+1) gs (R.drop p.length) (by omega) hlt h3 hr.2
  have:=vo (f:=λp=>if fit p m[j].2 (R.take p.length)=true then cs m (R.drop p.length) (j+1,0,0) else 0) (λq _=>by split;exact Ko m _ _;exact kn _) hp
  have this:(if fit p m[j].2 (R.take p.length)=true then cs m (R.drop p.length) (j+1,0,0) else 0)<=_:=this
  rw[bp hfit] at this
  omega
theorem qz:∀l:List Int,(∀x∈l,0<=x)->0<=l.sum
 | [],_=>kn _
 | x::l,h=>by
  have h1:=qz l λz hz=>h z (ag _ hz)
  have h2:=h x ai
  rw[eA]
  omega
theorem t8 (row:qV):∀(m:qE) (a:Nat),0<=ways row m a
 | [],a=>by unfold ways;split <;> decide
 | s::m,a=>by
  rw[jH]
  refine qz _ λx hx=>?_
  obtain⟨p,_,rfl⟩:=db.mp hx
  unfold d8
  split
  ·exact t8 row m _
  ·decide
def pick:List Int->Int->Nat×Int
 | [],n=>(0,n)
 | c::cs,n=>if c<=n then ((pick cs (n - c)).1+1,(pick cs (n - c)).2) else (0,n)
theorem jK:∀(cs:qv) (n:Int),0<=n->n < cs.sum->(∀x∈cs,0<=x)->
  ∃c,cs[(pick cs n).1]?=some c/\0<=(pick cs n).2/\(pick cs n).2 < c/\n=(cs.take (pick cs n).1).sum+(pick cs n).2
 | [],n,h0,h1,_=>by simp at h1;omega
 | c::cs,n,h0,h1,hn=>by
  rw[eA] at h1
  by_cases h:c<=n
  ·obtain⟨d,a1,a2,a3,a4⟩:=jK cs (n - c) (by omega) (by omega) λx hx=>hn x (ag _ hx)
   rw[pick,bp h]
   refine⟨d,by simpa using a1,a2,a3,?_⟩
   rw[kx,eA]
   omega
  ·rw[pick,a9 h]
   exact⟨c,rfl,h0,by omega,by simp⟩
theorem sH:∀(cs:qv) (f g:Nat) (c:Int),cs[f]?=some c->f < g->(∀x∈cs,0<=x)->(cs.take f).sum+c<=(cs.take g).sum
 | [],f,g,c,h,_,_=>by simp at h
 | d::cs,0,0,c,h,hg,hn=>absurd hg (dv _)
 | d::cs,0,g+1,c,h,_,hn=>by
  simp at h
  subst h
  have:=qz (cs.take g) λx hx=>hn x (ag _ (l6 hx))
  rw[kx,eA]
  simp
  omega
 | d::cs,f+1,0,c,h,hg,hn=>absurd hg (Nat.not_lt_zero _)
 | d::cs,f+1,g+1,c,h,hg,hn=>by
  have:=sH cs f g c (by simpa using h) (by omega) λx hx=>hn x (ag _ hx)
  rw[kx,eA,kx,eA]
  omega
section
variable (row:qV)
noncomputable def bU (s:Slot)(m:qE)(a:Nat):List Int:=s.1.map (d8 row s m a)
def oY (s:Slot)(f:Nat):Nat:=(s.1.getD f ⟨#[]⟩).length
noncomputable def num:List Slot->Nat->List Nat->Int
 | s::m,a,f::fs=>((bU row s m a).take f).sum+num m (a+oY s f) fs
 | _,_,_=>0
def gn:List Slot->Nat->Int->List Nat
 | [],_,_=>[]
 | s::m,a,n=>(pick (bU row s m a) n).1::gn m (a+oY s (pick (bU row s m a) n).1) (pick (bU row s m a) n).2
def oZ:List Slot->Nat->List Nat->Prop
 | [],a,fs=>fs=[]/\a=row.length
 | s::m,a,fs=>∃f p gs,fs=f::gs/\s.1[f]?=some p/\fit p s.2 (seg row a p.length)=true/\oZ m (a+p.length) gs
end
variable {row:qV}
theorem Bc (s:Slot)(m:qE)(a:Nat)(p:Str):0<=d8 row s m a p:=by
 unfold d8
 split
 ·exact t8 _ m _
 ·decide
theorem o7 (s:Slot)(m:qE)(a:Nat):∀x∈bU row s m a,0<=x:=by
 intro x hx
 obtain⟨p,_,rfl⟩:=db.mp hx
 exact Bc s m a p
theorem tL {s:Slot}{f:Nat}{p:Str}(h:s.1[f]?=some p):oY s f=p.length:=by
 unfold oY
 rw[bi,h]
 rfl
theorem yg:∀{m:qE}{a:Nat}{n:Int},0<=n->n < ways row m a->oZ row m a (gn row m a n)/\num row m a (gn row m a n)=n
 | [],a,n,h0,h1=>by
  unfold ways at h1
  split at h1
  ·rename_i h
   refine⟨⟨rfl,h⟩,?_⟩
   show (0:Int)=n
   omega
  ·omega
 | s::m,a,n,h0,h1=>by
  have hsum:ways row (s::m) a=(bU row s m a).sum:=jH row s m a
  have hn:=o7 (row:=row) s m a
  obtain⟨c,a1,a2,a3,a4⟩:=jK (bU row s m a) n h0 (by omega) hn
  have hft:gn row (s::m) a n=(pick (bU row s m a) n).1::gn row m (a+oY s (pick (bU row s m a) n).1) (pick (bU row s m a) n).2:=rfl
  rw[hft]
  generalize pick (bU row s m a) n=z at *
  obtain⟨f,r⟩:=z
  simp only at a1 a2 a3 a4 ⊢
  have hp:∃p,s.1[f]?=some p/\c=d8 row s m a p:=by
   unfold bU at a1
   rw[aE] at a1
   cases hq:s.1[f]? with
   | none=>rw[hq] at a1;cases a1
   | some p=>rw[hq] at a1;cases a1;exact⟨p,rfl,rfl⟩
  obtain⟨p,hp,rfl⟩:=hp
  have hpl:=tL hp
  have hfit:fit p s.2 (seg row a p.length)=true:=by
   cases hq:fit p s.2 (seg row a p.length) with
   | true=>rfl
   | false=>unfold d8 at a3;rw[hq,a9 (by decide)] at a3;omega
  have hw:d8 row s m a p=ways row m (a+p.length):=by unfold d8;rw[bp hfit]
  obtain⟨i1,i2⟩:=yg (m:=m) (a:=a+p.length) (n:=r) a2 (by omega)
  rw[hpl]
  refine⟨⟨f,p,_,rfl,hp,hfit,i1⟩,?_⟩
  show ((bU row s m a).take f).sum+num row m (a+oY s f) _=n
  rw[hpl,i2]
  omega
theorem Kq:∀{m:qE}{a:Nat}{n k:Int},0<=n->n < k->k < ways row m a->HT.lexLt ((gn row m a n).map λf:Nat=>(f:Int)) ((gn row m a k).map λf:Nat=>(f:Int))=true
 | [],a,n,k,h0,h1,h2=>by
  unfold ways at h2
  split at h2 <;> omega
 | s::m,a,n,k,h0,h1,h2=>by
  have hsum:ways row (s::m) a=(bU row s m a).sum:=jH row s m a
  have hn:=o7 (row:=row) s m a
  obtain⟨c,a1,a2,a3,a4⟩:=jK (bU row s m a) n h0 (by omega) hn
  obtain⟨d,b1,b2,b3,b4⟩:=jK (bU row s m a) k (by omega) (by omega) hn
  have hf1:gn row (s::m) a n=(pick (bU row s m a) n).1::gn row m (a+oY s (pick (bU row s m a) n).1) (pick (bU row s m a) n).2:=rfl
  have hf2:gn row (s::m) a k=(pick (bU row s m a) k).1::gn row m (a+oY s (pick (bU row s m a) k).1) (pick (bU row s m a) k).2:=rfl
  rw[hf1,hf2]
  generalize pick (bU row s m a) n=z at *
  generalize pick (bU row s m a) k=y at *
  obtain⟨f,r⟩:=z
  obtain⟨g,t⟩:=y
  simp only at a1 a2 a3 a4 b1 b2 b3 b4 ⊢
  rw[av,av,HT.lexLt_cons]
  by_cases hfg:f=g
  ·subst hfg
   rw[bp rfl]
   have hp:∃p,s.1[f]?=some p/\d=d8 row s m a p:=by
    unfold bU at b1
    rw[aE] at b1
    cases hq:s.1[f]? with
    | none=>rw[hq] at b1;cases b1
    | some p=>rw[hq] at b1;cases b1;exact⟨p,rfl,rfl⟩
   obtain⟨p,hp,rfl⟩:=hp
   have hpl:=tL hp
   have hfit:fit p s.2 (seg row a p.length)=true:=by
    cases hq:fit p s.2 (seg row a p.length) with
    | true=>rfl
    | false=>unfold d8 at b3;rw[hq,a9 (by decide)] at b3;omega
   have hw:d8 row s m a p=ways row m (a+p.length):=by unfold d8;rw[bp hfit]
   rw[hpl]
   exact Kq a2 (by omega) (by omega)
  ·rw[a9 (by omega)]
   refine ca ?_
   rcases dc f g with z | z
   ·omega
   ·have:=sH _ g f d b1 (by omega) hn
    omega
def h_ (cs:qv):PV:=.lst (cs.map .int)
theorem vy {N:PV}{cs:qv}:∀(ds:qv) (j:Nat) (t:Int) (k:Nat),cs.drop j=ds->0<=t->t < ds.sum->ds.length < k->
  lg cB [] dG k [some (h_ cs),some N,some (.int j),some (.int t)]=some (.nx [some (h_ cs),some N,some (.int ((j+(pick ds t).1:Nat):Int)),some (.int (pick ds t).2)])
 | [],j,t,k,_,h0,h1,_=>by simp at h1;omega
 | c::ds,j,t,0,_,_,_,hk=>by simp at hk
 | c::ds,j,t,k+1,hd,h0,h1,hk=>by
  have hc:cs[j]?=some c:=by
   have:=ce (λl=>l[0]?) hd
   simpa using this
  have hat:atI (cs.map PV.int) (j:Int)=some (.int c):=bO (by simp[hc])
  have hd':cs.drop (j+1)=ds:=by rw[← k6,hd];rfl
  rw[eA] at h1
  by_cases h:c<=t
  ·have ih:=vy (N:=N) ds (j+1) (t - c) k hd' (by omega) (by omega) (by simp at hk;omega)
   have e1:cB [some (h_ cs),some N,some (.int j),some (.int t)]=some true:=by simp[cB,h_,hat,h]
   have e2:dG [some (h_ cs),some N,some (.int j),some (.int t)]=some (.nx [some (h_ cs),some N,some (.int ((j+1:Nat):Int)),some (.int (t - c))]):=by simp[dG,h_,hat]
   have e3:pick (c::ds) t=((pick ds (t - c)).1+1,(pick ds (t - c)).2):=by rw[pick,bp h]
   rw[lg,e1,bS,bp rfl,e2,bS]
   show lg cB [] dG k [some (h_ cs),some N,some (.int ((j+1:Nat):Int)),some (.int (t - c))]=_
   rw[ih,e3]
   have:j+1+(pick ds (t - c)).1=j+((pick ds (t - c)).1+1):=by omega
   rw[this]
  ·have e1:cB [some (h_ cs),some N,some (.int j),some (.int t)]=some false:=by simp[cB,h_,hat,h]
   have e3:pick (c::ds) t=(0,t):=by rw[pick,a9 h]
   rw[lg,e1,bS,a9 (by decide),e3]
   rfl
theorem xg {cs:qv}{t:Int}(h0:0<=t)(h1:t < cs.sum)(hl:cs.length < 1000):cz [h_ cs,.int t]=some (.tup [.int ((pick cs t).1:Nat),.int (pick cs t).2]):=by
 have lp:=vy (N:=.int t) cs 0 t 1000000 rfl h0 h1 (by omega)
 rw[iq] at lp
 have lp:rH 1000000 cB [] dG [some (h_ cs),some (.int t),some (.int 0),some (.int t)]=_:=(Gs ..).trans lp
 unfold cz rO
 generalize rH 1000000 cB [] dG=W at *
 generalize h_ cs=CP at *
 simp[lp]
theorem zV (row:qV):∀(m:qE) (k:Nat),k<=m.length->(Ls row m).reverse[k]?=some (.lst (bhP row (m.drop k)))
 | [],0,_=>rfl
 | [],k+1,h=>by simp at h
 | s::m,0,_=>by simp[Ls]
 | s::m,k+1,h=>by
  have ih:=zV row m k (by simpa using h)
  have e:(Ls row (s::m)).reverse=.lst (bhP row (s::m))::(Ls row m).reverse:=by simp[Ls]
  rw[e,kH,ih]
  rfl
theorem Nj {m:qE}{d r:List (Slot×Nat)}{y:Slot×Nat}(e:m.zipIdx=d++y::r):y.2=d.length/\m[d.length]?=some y.1/\m.drop (d.length+1)=r.map (·.1)/\d.length < m.length:=by
 have h1:m=d.map (·.1)++y.1::r.map (·.1):=by
  have:=ce (List.map Prod.fst) e
  rw[cS,av] at this
  rw[← this,cE]
 have hl:d.length < m.length:=by rw[h1];simp
 have h2:m.zipIdx[d.length]?=some y:=by rw[e];simp
 rw[l7,iq] at h2
 have h3:m[d.length]?=some y.1:=by
  rw[h1]
  rw[eK (by simp)]
  simp
 rw[h3] at h2
 have h2':(y.1,d.length)=y:=bg h2
 have h4:y.2=d.length:=(ce Prod.snd h2').symm
 refine⟨h4,h3,?_,hl⟩
 have h5:m.drop (d.length+1)=(d.map (·.1)++y.1::r.map (·.1)).drop (d.length+1):=ce _ h1
 rw[h5,List.drop_append]
 simp
theorem Hj {row:qV}{s:Slot}{m:qE}{a:Nat}{n:Int}(hs:PatsOk s.1)(h0:0<=n)(h1:n < ways row (s::m) a):∃p,s.1[(pick (bU row s m a) n).1]?=some p/\a+p.length<=row.length/\0<=(pick (bU row s m a) n).2/\(pick (bU row s m a) n).2 < ways row m (a+p.length)/\fit p s.2 (seg row a p.length)=true:=by
 have hsum:ways row (s::m) a=(bU row s m a).sum:=jH row s m a
 have hn:=o7 (row:=row) s m a
 obtain⟨c,a1,a2,a3,a4⟩:=jK (bU row s m a) n h0 (by omega) hn
 generalize pick (bU row s m a) n=z at *
 obtain⟨f,r⟩:=z
 simp only at a1 a2 a3 a4 ⊢
 have hp:∃p,s.1[f]?=some p/\c=d8 row s m a p:=by
  unfold bU at a1
  rw[aE] at a1
  cases hq:s.1[f]? with
  | none=>rw[hq] at a1;cases a1
  | some p=>rw[hq] at a1;cases a1;exact⟨p,rfl,rfl⟩
 obtain⟨p,hp,rfl⟩:=hp
 have hfit:fit p s.2 (seg row a p.length)=true:=by
  cases hq:fit p s.2 (seg row a p.length) with
  | true=>rfl
  | false=>unfold d8 at a3;rw[hq,a9 (by decide)] at a3;omega
 have hw:d8 row s m a p=ways row m (a+p.length):=by unfold d8;rw[bp hfit]
 exact⟨p,hp,fit_le (hs.ok p (ax hp)) hfit,a2,by omega,hfit⟩
def faE (M R N:PV)(BY:List PV)(fs:qf)(a:Nat)(t:Int):MR.Env:=[some M,some R,some N,some (.lst BY),some (fP fs),some (.int a),some (.int t),none,none,none]
theorem Nk {M R N:PV}{BY B cs:List PV}{fs:qf}{a k f:Nat}{t r:Int}{s:Slot}{p:Str}{C:PV}(hby:atI BY ((k:Int)+1)=some (.lst B))(hcb:aU [slP s,R,.int a,.lst B]=some C)(hch:cz [C,.int t]=some (.tup [.int (f:Nat),.int r]))
  (hp:s.1[f]?=some p) (hpl:p.length<=4) (hfs:fs.length < 1000):turn (gT [7,8]) [7,8,9] jW (.tup [.int (k:Nat),slP s]) (faE M R N BY fs a t)=some (faE M R N BY (fs++[f]) (a+p.length) r):=by
 have a3:atI (s.1.map PV.str) (f:Int)=some (.str p):=bO (by simp[hp])
 have h3:p.length<=1000000:=by omega
 have h4:fs.length < 1000000:=by omega
 have e1:((a+p.length:Nat):Int)=(a:Int)+(p.length:Int):=by omega
 unfold jW
 generalize cz=mc at *
 generalize aU=mp at *
 unfold slP at *
 unfold faE fP
 rw[e1]
 simp[aV,hby,hcb,hch,a3,h3,h4]
theorem Hk {row:qV}{s:Slot}{m:qE}{a:Nat}(hs:PatsOk s.1)(ha:a<=row.length):aU [slP s,aR row,.int a,.lst (bhP row m)]=some (h_ (bU row s m a)):=GJ hs ha
theorem JM {row:qV}{s:Slot}{m:qE}{a:Nat}(hs:PatsOk s.1):(bU row s m a).length < 1000:=by
 have:=hs.le
 unfold bU
 rw[af]
 omega
theorem uD (row:qV):∀(m:qE) (a:Nat) (n:Int),(gn row m a n).length=m.length
 | [],_,_=>rfl
 | s::m,a,n=>by
  show ((_:Nat)::gn row m _ _).length=_
  rw[bb,uD row m]
  rfl
theorem Np {row:qV}{m:qE}{n:Int}(hm:bG m)(hr:row.length < 1000)(hl:m.length < 100)(h0:0<=n)(h1:n < ways row m 0):jX [mP m,aR row,.int n]=some (fP (gn row m 0 n)):=by
 obtain⟨⟨fs,a,t⟩,⟨d,e1,e2,e3⟩,lp⟩:=bz (g:=gT [7,8]) (ds:=[7,8,9]) (body:=jW) (λy:Slot×Nat=>PV.tup [.int (y.2:Nat),slP y.1]) (λz:List Nat×Nat×Int=>faE (mP m) (aR row) (.int n) (Ls row m).reverse z.1 z.2.1 z.2.2)
  (λr z=>∃d,m.zipIdx=d++r/\z.1++gn row (r.map (·.1)) z.2.1 z.2.2=gn row m 0 n/\z.2.1<=row.length/\0<=z.2.2/\z.2.2 < ways row (r.map (·.1)) z.2.1)
  (by
   rintro y r z ⟨d,e1,e2,e3,e4,e5⟩
   obtain⟨fs,a,t⟩:=z
   obtain⟨s,k⟩:=y
   simp only[av] at e2 e3 e4 e5
   obtain⟨q1,q2,q3,q4⟩:=Nj e1
   simp only at q1 q2
   subst q1
   have hs:=hm s (ax q2)
   obtain⟨p,b1,b2,b3,b4,b5⟩:=Hj hs e4 e5
   have hsum:ways row (s::r.map (·.1)) a=(bU row s (r.map (·.1)) a).sum:=jH row s _ a
   have hby:atI (Ls row m).reverse ((d.length:Int)+1)=some (.lst (bhP row (r.map (·.1)))):=by
    have:=bO (zV row m (d.length+1) (by omega))
    rw[q3] at this
    exact this
   have hch:=xg (cs:=bU row s (r.map (·.1)) a) e4 (by omega) (JM hs)
   have hf:fs.length < 1000:=by
    have:=ce List.length e2
    rw[a8,uD,uD] at this
    omega
   refine⟨(fs++[(pick (bU row s (r.map (·.1)) a) t).1],a+p.length,(pick (bU row s (r.map (·.1)) a) t).2),⟨d++[(s,d.length)],by rw[e1];simp,?_,b2,b3,b4⟩,Nk (cs:=[]) hby (Hk hs e3) hch b1 (hs.ok p (ax b1)).le hf⟩
   simp only
   rw[← e2,dS]
   congr 1
   show _=(pick (bU row s (r.map (·.1)) a) t).1::gn row (r.map (·.1)) (a+oY s (pick (bU row s (r.map (·.1)) a) t).1) (pick (bU row s (r.map (·.1)) a) t).2
   rw[tL b1]
   rfl)
  m.zipIdx ([],0,n) ⟨[],rfl,by simp[cE],cK _,h0,by simpa [cE] using h1⟩
 simp only[c9,gn,bE] at e2
 subst e2
 have hcs:=GR hm hr (by omega:m.length < 1000)
 have en:fC 0 (m.map slP)=m.zipIdx.map λy:Slot×Nat=>PV.tup [.int (y.2:Nat),slP y.1]:=iR _ _ _
 rw[← en] at lp
 have e9:fP []=.lst []:=rfl
 unfold faE at lp
 have z0:((0:Nat):Int)=0:=rfl
 simp only[e9,z0] at lp
 unfold mP at *
 generalize hF:fP (gn row m 0 n)=FF at *
 have hF':∃l,FF=.lst l:=⟨_,hF.symm⟩
 obtain⟨l,rfl⟩:=hF'
 generalize (Ls row m).reverse=LL at *
 generalize aR row=RR at *
 generalize m.map slP=MM at *
 simp[jX,vd,hcs,lp]
theorem zW:∀l:List Int,oU (.lst (l.map PV.int))=some (.int l.sum):=λl=>by
 have:=oF l
 simp[this]
theorem JN (cs:qv)(f:Nat):fK (cs.map PV.int) none (some (f:Int))=(cs.take f).map PV.int:=by
 unfold fK
 rw[HT.sIx_nat,HT.sIx_none,af,iP,Nat.sub_zero,← kB]
 congr 1
 rcases Nat.le_total f cs.length with h | h
 ·rw[oC h]
 ·rw[Nat.min_eq_right h,fe (aS _),fe h]
def nuE (M R F:PV)(BY:List PV)(n:Int)(a:Nat):MR.Env:=[some M,some R,some F,some (.lst BY),some (.int n),some (.int a),none,none,none,none]
theorem Nq {m:qE}{R F:PV}{BY B:List PV}{cs:qv}{a k f:Nat}{n:Int}{s:Slot}{p:Str}(hk:m[k]?=some s)(hby:atI BY ((k:Int)+1)=some (.lst B))(hcb:aU [slP s,R,.int a,.lst B]=some (h_ cs))
  (hp:s.1[f]?=some p) (hpl:p.length<=4):turn (gT [6,7]) [6,7,8,9] fH (.tup [.int (k:Nat),.int (f:Nat)]) (nuE (mP m) R F BY n a)=some (nuE (mP m) R F BY (n+(cs.take f).sum) (a+p.length)):=by
 have a1:atI (m.map slP) (k:Int)=some (.tup [.tup (s.1.map .str),.bl s.2]):=by
  have:atI (m.map slP) (k:Int)=some (slP s):=bO (by simp[hk])
  exact this
 have a3:atI (s.1.map PV.str) (f:Int)=some (.str p):=bO (by simp[hp])
 have h3:p.length<=1000000:=by omega
 have e1:((a+p.length:Nat):Int)=(a:Int)+(p.length:Int):=by omega
 have hct:=JN cs f
 have hsm:=oF (cs.take f)
 unfold fH
 generalize aU=mp at *
 replace hcb:mp [.tup [.tup (s.1.map .str),.bl s.2],R,.int a,.lst B]=some (.lst (cs.map .int)):=hcb
 unfold nuE mP
 rw[e1]
 generalize (cs.take f).map PV.int=TP at *
 simp[aV,a1,hby,hcb,hct,hsm,a3,h3]
theorem uE {row:qV}:∀{m:qE}{a:Nat}{fs:qf},oZ row m a fs->fs.length=m.length
 | [],a,fs,⟨h,_⟩=>by rw[h];rfl
 | s::m,a,fs,⟨f,p,gs,h1,h2,h3,h4⟩=>by rw[h1,bb,uE h4,bb]
theorem JP {m:qf}{d r:List (Nat×Nat)}{y:Nat×Nat}(e:m.zipIdx=d++y::r):y.2=d.length/\d.length < m.length:=by
 have h1:m=d.map (·.1)++y.1::r.map (·.1):=by
  have:=ce (List.map Prod.fst) e
  rw[cS,av] at this
  rw[← this,cE]
 have hl:d.length < m.length:=by rw[h1];simp
 have h2:m.zipIdx[d.length]?=some y:=by rw[e];simp
 rw[l7,iq] at h2
 have h3:m[d.length]?=some y.1:=by
  rw[h1]
  rw[eK (by simp)]
  simp
 rw[h3] at h2
 have h2':(y.1,d.length)=y:=bg h2
 exact⟨(ce Prod.snd h2').symm,hl⟩
theorem Hl {row:qV}{m:qE}{fs:qf}(hm:bG m)(hr:row.length < 1000)(hl:m.length < 100)(hf:oZ row m 0 fs):dz [mP m,aR row,fP fs]=some (.int (num row m 0 fs)):=by
 have hlen:=uE hf
 obtain⟨⟨n,a⟩,⟨d,m',e1,e2,e3,e4,e5⟩,lp⟩:=bz (g:=gT [6,7]) (ds:=[6,7,8,9]) (body:=fH) (λy:Nat×Nat=>PV.tup [.int (y.2:Nat),.int (y.1:Nat)]) (λz:Int×Nat=>nuE (mP m) (aR row) (fP fs) (Ls row m).reverse z.1 z.2)
  (λr z=>∃d m',fs.zipIdx=d++r/\m.drop d.length=m'/\z.2<=row.length/\oZ row m' z.2 (r.map (·.1))/\z.1+num row m' z.2 (r.map (·.1))=num row m 0 fs)
  (by
   rintro y r z ⟨d,m',e1,e2,e3,e4,e5⟩
   obtain⟨n,a⟩:=z
   obtain⟨f,k⟩:=y
   simp only[av] at e3 e4 e5
   obtain⟨q1,q4⟩:=JP e1
   simp only at q1
   subst q1
   cases m' with
   | nil=>have:=uE e4;simp at this
   | cons s m'=>
    have hs?:m[d.length]?=some s:=by
     have:=ce (λl=>l[0]?) e2
     simpa using this
    have hd':m.drop (d.length+1)=m':=by rw[← k6,e2];rfl
    have hs:=hm s (ax hs?)
    obtain⟨f',p,gs,h1,h2,h3,h4⟩:=e4
    cases h1
    have hle:=fit_le (hs.ok p (ax h2)) h3
    have hby:atI (Ls row m).reverse ((d.length:Int)+1)=some (.lst (bhP row m')):=by
     have:=bO (zV row m (d.length+1) (by omega))
     rw[hd'] at this
     exact this
    refine⟨(n+((bU row s m' a).take f).sum,a+p.length),⟨d++[(f,d.length)],m',by rw[e1];simp,by simp[hd'],hle,h4,?_⟩,Nq hs? hby (Hk hs e3) h2 (hs.ok p (ax h2)).le⟩
    rw[← e5]
    show _=n+(((bU row s m' a).take f).sum+num row m' (a+oY s f) (r.map (·.1)))
    rw[tL h2]
    simp only
    omega)
  fs.zipIdx (0,0) ⟨[],m,rfl,rfl,cK _,by simpa [cE] using hf,by simp[cE]⟩
 have hn:n=num row m 0 fs:=by
  rw[← e5]
  have:num row m' a []=0:=by unfold num;cases m' <;> rfl
  simp only[c9]
  omega
 subst hn
 have hcs:=GR hm hr (by omega:m.length < 1000)
 have en:fC 0 (fs.map λf:Nat=>PV.int (f:Nat))=fs.zipIdx.map λy:Nat×Nat=>PV.tup [.int (y.2:Nat),.int (y.1:Nat)]:=iR _ _ _
 rw[← en] at lp
 unfold nuE at lp
 unfold fP at *
 generalize (Ls row m).reverse=LL at *
 generalize aR row=RR at *
 generalize fs.map (λf:Nat=>PV.int (f:Nat))=FF at *
 generalize mP m=MM at *
 generalize num row m 0 fs=NN at *
 simp at lp
 simp[dz,lX,hcs,lp]
def wt (d:Dc)(f:Sta->Int):Int:=(d.map λy=>y.2*f y.1).sum
theorem zX (y:Sta×Int)(d:Dc)(t:Sta):val (y::d) t=if y.1=t then y.2 else val d t:=by
 unfold val look
 by_cases h:y.1=t <;> simp[em,h]
theorem Cy (y:Sta×Int)(d:Dc)(f:Sta->Int):wt (y::d) f=y.2*f y.1+wt d f:=by simp[wt]
theorem R1 (d e:Dc)(f:Sta->Int):wt (d++e) f=wt d f+wt e f:=by simp[wt]
theorem Hm (t:Sta)(w:Int):∀d:Dc,t∉ks d->(d.map λy=>if y.1=t then (t,w) else y)=d
 | [],_=>rfl
 | y::d,h=>by
  unfold ks at h
  rw[av,aw,nK] at h
  rw[av,Hm t w d h.2,a9 λz=>h.1 z.symm]
theorem Hn (t:Sta)(w:Int)(f:Sta->Int):∀d:Dc,(ks d).Nodup->t∈ks d->wt (d.map λy=>if y.1=t then (t,w) else y) f=wt d f+(w - val d t)*f t
 | [],_,h=>by simp[ks] at h
 | y::d,hn,h=>by
  have hn':y.1∉ks d/\(ks d).Nodup:=by unfold ks at hn ⊢;rw[av,cm] at hn;exact hn
  rw[av,Cy,Cy,zX]
  by_cases e:y.1=t
  ·rw[bp e,bp e,Hm t w d (e▸hn'.1)]
   subst e
   simp only[Int.sub_mul]
   omega
  ·rw[a9 e,a9 e]
   have hm:t∈ks d:=by
    unfold ks at h ⊢
    rw[av,aw] at h
    exact h.resolve_left λz=>e z.symm
   rw[Hn t w f d hn'.2 hm]
   omega
theorem R3 {d:Dc}(h:(ks d).Nodup)(t:Sta)(v:Int)(f:Sta->Int):wt (jc d t (val d t+v)) f=wt d f+v*f t:=by
 unfold jc
 split
 ·rename_i hm
  rw[Hn t _ f d h hm]
  have:val d t+v - val d t=v:=by omega
  rw[this]
 ·rename_i hm
  rw[R1,zR hm]
  simp[wt]
def NN (d:Dc):Prop:=∀y∈d,0<=y.2
theorem NN.val {d:Dc}(h:NN d)(t:Sta):0<=val d t:=by
 induction d with
 | nil=>simp[My.val,look]
 | cons y d ih=>
  rw[zX]
  split
  ·exact h y ai
  ·exact ih λz hz=>h z (ag _ hz)
theorem NN.put {d:Dc}(h:NN d)(t:Sta){v:Int}(hv:0<=v):NN (jc d t v):=λy hy=>by
 unfold jc at hy
 split at hy
 ·obtain⟨z,hz,rfl⟩:=db.mp hy
  split
  ·exact hv
  ·exact h z hz
 ·rcases b0.mp hy with z | z
  ·exact h y z
  ·rw[aI] at z;rw[z];exact hv
def pot (m:qE)(t:Sta):Int:=if t.2.2=0 then 4 ^ (m.length - t.1) else 4 ^ (m.length - t.1 - 1)
theorem wC (m:qE)(t:Sta):1<=pot m t:=by
 unfold pot
 have:∀n:Nat,(1:Int)<=4 ^ n:=λn=>by
  induction n with
  | zero=>decide
  | succ n ih=>rw[oB];omega
 split <;> exact this _
theorem R4 (s:Slot)(slot i:Nat)(mark:Str)(e:Bool)(k:Nat):(mvT s slot i mark e k).length<=1:=by
 unfold mvT
 split
 ·cases bhT s slot k i (s.1.getD k ⟨#[]⟩) e <;> simp
 ·simp
theorem Kr {m:qE}{s:Slot}{slot i k:Nat}{mark:Str}{e:Bool}{p:Str}(hs:m[slot]?=some s)(hp:s.1[k]?=some p){y:Nat×Sta}(h:y∈mvT s slot i mark e k):(y.2∈sts m\/y.2=(m.length,0,0))/\pot m y.2=4 ^ (m.length - slot - 1):=by
 have hlt:=(ap.mp hs).1
 unfold mvT at h
 split at h
 ·rw[tG hp] at h
  obtain⟨t,ht,rfl⟩:=db.mp h
  unfold bhT at ht
  split at ht
  ·rename_i hi
   simp at ht
   subst ht
   refine⟨.inl (mem_sts.mpr ⟨s,hs,.inr ⟨p,hp,by simp,hi⟩⟩),?_⟩
   simp[pot]
  ·split at ht
   ·simp at ht
   ·simp at ht
    subst ht
    refine⟨?_,?_⟩
    ·by_cases z:slot+1 < m.length
     ·exact .inl (mem_sts.mpr ⟨m[slot+1],ar z,.inl rfl⟩)
     ·have:slot+1=m.length:=by omega
      exact .inr (by rw[this])
    ·have:m.length - (slot+1)=m.length - slot - 1:=by omega
     simp[pot,this]
 ·simp at h
theorem Ho {m:qE}{t:Sta}{mark:Str}{e:Bool}(ht:t∈sts m\/t=(m.length,0,0)){y:Nat×Sta}(h:y∈b8 m t mark e):(y.2∈sts m\/y.2=(m.length,0,0))/\pot m y.2=4 ^ (m.length - t.1 - 1):=by
 unfold b8 at h
 cases q:m[t.1]? with
 | none=>rw[q] at h;simp at h
 | some s=>
  rw[q] at h
  simp only at h
  split at h
  ·obtain⟨k,hk,hy⟩:=iS.mp h
   have hk':=b6.mp hk
   exact Kr q (ar hk') hy
  ·rename_i h0
   have hlt:=(ap.mp q).1
   rcases ht with ht | ht
   ·obtain⟨s',hs',hh⟩:=mem_sts.mp ht
    rw[q] at hs'
    cases hs'
    rcases hh with z | ⟨p,hp,_⟩
    ·rw[z] at h0;exact absurd rfl h0
    ·exact Kr q hp h
   ·rw[ht] at hlt;simp at hlt
theorem JQ {m:qE}(hm:bG m){t:Sta}{mark:Str}{e:Bool}(ht:t∈sts m\/t=(m.length,0,0)):((b8 m t mark e).map λy=>pot m y.2).sum<=pot m t:=by
 have h1:(b8 m t mark e).map (λy=>pot m y.2)=(b8 m t mark e).map λ_=>(4:Int) ^ (m.length - t.1 - 1):=ci λy hy=>(Ho ht hy).2
 rw[h1]
 have h2:∀(l:List (Nat×Sta)) (c:Int),(l.map λ_=>c).sum=l.length*c:=λl c=>by
  induction l with
  | nil=>simp
  | cons a l ih=>
   rw[av,eA,ih,bb]
   have e9:((l.length+1:Nat):Int)=(l.length:Int)+1:=by omega
   rw[e9,Int.add_mul]
   omega
 rw[h2]
 have h3:=zQ m hm t mark e
 have hp:∀n:Nat,(1:Int)<=4 ^ n:=λn=>by
  induction n with
  | zero=>decide
  | succ n ih=>rw[oB];omega
 have hc:=hp (m.length - t.1 - 1)
 cases q:m[t.1]? with
 | none=>
  have:b8 m t mark e=[]:=by unfold b8;rw[q]
  rw[this]
  have:=wC m t
  simp
  omega
 | some s=>
  have hlt:=(ap.mp q).1
  unfold pot
  by_cases h0:t.2.2=0
  ·rw[bp h0]
   have e4:m.length - t.1=(m.length - t.1 - 1)+1:=by omega
   have e5:(4:Int) ^ (m.length - t.1)=4 ^ (m.length - t.1 - 1)*4:=by conv=>lhs;rw[e4,oB]
   rw[e5,Int.mul_comm]
   exact iX (by omega) (by omega)
  ·rw[a9 h0]
   have hle:(b8 m t mark e).length<=1:=by
    unfold b8
    rw[q]
    simp only[a9 h0]
    exact R4 ..
   have:((b8 m t mark e).length:Int)*4 ^ (m.length - t.1 - 1)<=1*4 ^ (m.length - t.1 - 1):=Int.mul_le_mul_of_nonneg_right (by omega) (by omega)
   omega
theorem Hq {m:qE}{o:Nat}{e:Bool}{f:Sta->Int}{t:Sta}(h:o≠3)(ht:t∈sts m\/t=(m.length,0,0)):opM m o e f t=((b8 m t (bL o) e).map λy=>f y.2).sum:=by
 rw[G9 h]
 split
 ·rfl
 ·rename_i hn
  have e1:=ht.resolve_left hn
  have:b8 m t (bL o) e=[]:=by
   unfold b8
   rw[e1,bo (aS _)]
  rw[this]
  rfl
structure DW (m:qE)(d:Dc):Prop extends DOk m d where
 nn:NN d
 bd:wt d (pot m)<=4 ^ m.length
theorem Ud {d:Dc}(h:NN d){f g:Sta->Int}(hh:∀y∈d,f y.1<=g y.1):wt d f<=wt d g:=by
 unfold wt
 exact zJ λy hy=>iX (hh y hy) (h y hy)
theorem DW.small {m:qE}{d:Dc}(h:DW m d)(hl:m.length < 12){y:Sta×Int}(hy:y∈d):smI y.2=true:=by
 have h1:y.2*pot m y.1<=wt d (pot m):=vo (f:=λy:Sta×Int=>y.2*pot m y.1) (λz hz=>Int.mul_nonneg (h.nn z hz) (by have:=wC m z.1;omega)) hy
 have h2:y.2*1<=y.2*pot m y.1:=iX (wC m y.1) (h.nn y hy)
 have h3:=h.bd
 have h4:(4:Int) ^ m.length<=4 ^ 12:=by
  have:∀k n:Nat,(4:Int) ^ n<=4 ^ (n+k):=λk n=>by
   induction k with
   | zero=>exact kn _
   | succ k ih=>
    have hp:(0:Int)<=4 ^ (n+k):=Int.pow_nonneg (by decide)
    rw[← Nat.add_assoc,oB]
    omega
  have:=this (12 - m.length) m.length
  rwa [show m.length+(12 - m.length)=12 by omega] at this
 have h5:(4:Int) ^ 12=16777216:=by decide
 have h6:=h.nn y hy
 exact jn (by omega) (by omega)
def itP (y:Sta×Int):PV:=.tup [bD y.1,.int y.2]
theorem Cz (d:Dc):mQ (dP d)=some (d.map itP):=by
 have h:((d.map dE).all λkv=>kv.1.length != 2)=true:=by
  rw[i6,cy]
  intro y _
  simp[dE,kS]
 have e:(d.map dE).map (λkv=>PV.tup [.tup (kv.1.map kP),kv.2])=d.map itP:=by
  rw[df]
  refine ci λy _=>?_
  simp[dE,kS,kP,itP,bD,stP]
 unfold dP
 simp only[mQ,bp h,e]
theorem Nr {M W O E S:PV}{m:qE}(hm:bG m)(hl:m.length < 100){n:Int}(hn:0<=n){a:Dc}(ha:DOk m a)(hna:NN a)(L:List (Nat×Sta))(hL:∀y∈L,y.2∈sts m\/y.2=(m.length,0,0)):
  ∃a',DOk m a'/\NN a'/\(∀f,wt a' f=wt a f+n*(L.map λy=>f y.2).sum) /\
   bY (gT [7,8]) [7,8] jU (L.map mvP) [some M,some W,some O,some E,some (dP a),some S,some (.int n),none,none]=some (.nx [some M,some W,some O,some E,some (dP a'),some S,some (.int n),none,none]):=by
 obtain⟨a',⟨q,e1,e2,e3,e4⟩,h⟩:=bz (g:=gT [7,8]) (ds:=[7,8]) (body:=jU) mvP (λa:Dc=>[some M,some W,some O,some E,some (dP a),some S,some (.int n),none,none])
  (λr a'=>∃q,L=q++r/\DOk m a'/\NN a'/\∀f,wt a' f=wt a f+n*(q.map λy=>f y.2).sum)
  (by
   rintro y r a' ⟨q,e1,e2,e3,e4⟩
   refine⟨jc a' y.2 (val a' y.2+n),⟨q++[y],by rw[e1];simp,e2.put (hL y (by rw[e1];simp)) _,e3.put _ (by have:=e3.val y.2;omega),λf=>?_⟩,?_⟩
   ·rw[R3 e2.nd,e4 f,cS,mn]
    simp only[av,c9,eA,List.sum_nil,Int.mul_add]
    omega
   ·have h1:=Ec a' y.2
    have h2:=Kl (d:=a') y.2 (val a' y.2+n) (e2.len hm hl)
    unfold mvP
    generalize dP (jc a' y.2 (val a' y.2+n))=D2 at *
    generalize dP a'=D1 at *
    generalize bD y.2=S2 at *
    simp[aV,jU,h1,h2,-lq,-qd])
  L a ⟨[],rfl,ha,hna,λf=>by simp⟩
 rw[bE] at e1
 subst e1
 exact⟨a',e2,e3,e4,h⟩
theorem Nt {m:qE}{o:Nat}{e:Bool}(h:o≠3)(f:Sta->Int)(d:Dc)(hd:∀t∈ks d,t∈sts m\/t=(m.length,0,0)):wt d (opM m o e f)=(d.map λy=>y.2*((b8 m y.1 (bL o) e).map λz=>f z.2).sum).sum:=by
 unfold wt
 congr 1
 refine ci λy hy=>?_
 rw[Hq h (hd y.1 (db.mpr ⟨y,hy,rfl⟩))]
theorem Hr {o:Nat}(h:o < 4)(h3:o≠3):∃n:Int,aA o=.tup [.int n,.str (bL o)]:=by
 rcases lt4 h with e | e | e | e
 ·subst e;exact⟨0,rfl⟩
 ·subst e;exact⟨0,rfl⟩
 ·subst e;exact⟨1,rfl⟩
 ·exact absurd e h3
theorem wD {m:qE}(hm:bG m)(hl:m.length < 100){d:Dc}(hd:DW m d){o:Nat}(ho:o < 4)(e:Bool):
  ∃d',DW m d'/\(∀f,wt d' f=wt d (opM m o e f))/\cu [mP m,dP d,aA o,.bl e]=some (dP d'):=by
 by_cases h3:o=3
 ·subst h3
  refine⟨d,hd,λf=>?_,?_⟩
  ·have:opM m 3 e f=f:=by funext t;simp[opM]
   rw[this]
  ·have e0:aA 3=.non:=rfl
   rw[e0]
   unfold dP
   generalize mP m=M at *
   simp[cu,ql]
 ·obtain⟨n0,hopt⟩:=Hr ho h3
  obtain⟨a',⟨q,e1,e2,e3,e4⟩,h⟩:=bz (g:=gT [5,6]) (ds:=[5,6,7,8]) (body:=mX) itP (λa:Dc=>[some (mP m),some (dP d),some (aA o),some (.bl e),some (dP a),none,none,none,none])
   (λr a'=>∃q,d=q++r/\DOk m a'/\NN a'/\∀f,wt a' f=(q.map λy=>y.2*((b8 m y.1 (bL o) e).map λz=>f z.2).sum).sum)
   (by
    rintro y r a' ⟨q,e1,e2,e3,e4⟩
    have hy:y∈d:=by rw[e1];simp
    have hst:=hd.sub y.1 (db.mpr ⟨y,hy,rfl⟩)
    have hmv:cL [mP m,bD y.1,.str (bL o),.bl e]=some (.lst ((b8 m y.1 (bL o) e).map mvP)):=by
     rw[← Kh]
     refine zH hm (by omega) ?_ (bL o) e
     rcases hst with z | z
     ·exact Hc z
     ·rw[z]
      exact⟨aS _,λ_=>⟨rfl,rfl⟩,λs hs=>by simp at hs⟩
    obtain⟨a2,f1,f2,f3,f4⟩:=Nr (M:=mP m) (W:=dP d) (O:=aA o) (E:=.bl e) (S:=bD y.1) hm hl (hd.nn y hy) e2 e3 (b8 m y.1 (bL o) e) λz hz=>(Ho hst hz).1
    refine⟨a2,⟨q++[y],by rw[e1];simp,f1,f2,λf=>?_⟩,?_⟩
    ·rw[f3 f,e4 f,cS,mn]
     simp
    ·rw[hopt] at f4 ⊢
     unfold itP
     generalize (b8 m y.1 (bL o) e).map mvP=V at *
     generalize dP a'=D1 at *
     generalize dP a2=D2 at *
     generalize dP d=D0 at *
     generalize bD y.1=S1 at *
     generalize mP m=M at *
     simp[aV,mX,hmv,f4])
   d [] ⟨[],rfl,⟨by simp[ks],by simp[ks]⟩,λy hy=>by simp at hy,λf=>by simp[wt]⟩
  rw[bE] at e1
  subst e1
  have hw:∀f,wt a' f=wt d (opM m o e f):=λf=>by rw[e4 f,Nt h3 f d hd.sub]
  refine⟨a',⟨e2,e3,?_⟩,hw,?_⟩
  ·rw[hw]
   refine p9 (Ud hd.nn λy hy=>?_) hd.bd
   have hst:=hd.sub y.1 (db.mpr ⟨y,hy,rfl⟩)
   rw[Hq h3 hst]
   exact JQ hm hst
  ·have h0:dP []=.dT []:=rfl
   rw[h0] at h
   have hi:=Cz d
   rw[hopt] at h ⊢
   generalize d.map itP=IP at *
   generalize hD:dP d=D0 at *
   have hDn:rE D0=false:=by subst hD;rfl
   generalize dP a'=D2 at *
   generalize mP m=M at *
   simp[cu,ql,h,hi,-mQ]
theorem Hs {m:qE}(hm:bG m)(hl:m.length < 12){d b:Dc}(hd:DW m d){os:qf}(ho:C4 os)(hol:os.length < 1000)(e:Bool):
  bu [mP m,dP d,aH os,.bl e,dP b]=some (h_ (os.map λo=>wt d (opM m o e (val b)))):=by
 obtain⟨L,⟨q,e1,e2⟩,h⟩:=bz (g:=gN 6) (ds:=[6,7]) (body:=gJ) aA (λL:List Int=>[some (mP m),some (dP d),some (aH os),some (.bl e),some (dP b),some (.lst (L.map .int)),none,none])
  (λr L=>∃q,os=q++r/\L=q.map λo=>wt d (opM m o e (val b)))
  (by
   rintro o r L ⟨q,e1,e2⟩
   obtain⟨d',w1,w2,w3⟩:=wD hm (by omega) hd (ho o (by rw[e1];simp)) e
   have hLl:(L.map PV.int).length < 1000000:=by
    have:=ce List.length e1
    rw[e2]
    simp at this ⊢
    omega
   refine⟨L++[wt d (opM m o e (val b))],⟨q++[o],by rw[e1];simp,by rw[e2];simp⟩,?_⟩
   have hc:eO [none,none,some (dP b)] (gT [0,1]) fD gG (d'.map itP)=some (d'.map λy=>PV.int (y.2*val b y.1)):=by
    refine fZ _ _ _ λy hy=>⟨[some (bD y.1),some (.int y.2),some (dP b)],rfl,?_⟩
    have h1:=Ec b y.1
    have h2:=w1.small hl hy
    generalize dP b=B at *
    generalize bD y.1=S1 at *
    simp[gG,h1,h2,-lq]
   have hs:oU (.lst (d'.map λy=>PV.int (y.2*val b y.1)))=some (.int (wt d (opM m o e (val b)))):=by
    rw[← w2]
    have:=zW (d'.map λy=>y.2*val b y.1)
    rw[df] at this
    exact this
   have hi:=Cz d'
   have hdl:(d'.map itP).length<=1000000:=by have:=w1.toDOk.len hm (by omega);rw[af];omega
   rw[cS]
   generalize wt d (opM m o e (val b))=v at *
   generalize (d'.map λy=>PV.int (y.2*val b y.1))=VP at *
   generalize d'.map itP=IP at *
   generalize L.map PV.int=LP at *
   generalize dP d'=D1 at *
   generalize dP d=D0 at *
   generalize dP b=B at *
   generalize aH os=OP at *
   generalize aA o=OO at *
   generalize mP m=M at *
   simp[aV,gJ,w3,hi,hc,hs,hLl,hdl,-mQ,-oU])
  os [] ⟨[],rfl,rfl⟩
 rw[bE] at e1
 subst e1
 rw[e2] at h
 unfold h_
 unfold aH at h ⊢
 simp only[c9] at h
 generalize (os.map λo=>wt d (opM m o e (val b))).map PV.int=R at *
 generalize os.map aA=OP at *
 generalize dP d=D0 at *
 generalize dP b=B at *
 generalize mP m=M at *
 simp[bu,j5,h]
abbrev Sy:=List Nat×Bool
def Nm (m:qE)(O:List Sy):Int:=cnt m O (0,0,0)
noncomputable def cts (m:qE)(A:List Sy)(x:Sy)(B:List Sy):List Int:=x.1.map λo=>Nm m (A++([o],x.2)::B)
def one (x:Sy)(f:Nat):Sy:=([x.1.getD f 0],x.2)
def plc (m:qE):List Sy->List Sy->Int->List Nat
 | _,[],_=>[]
 | A,x::B,n=>(pick (cts m A x B) n).1::plc m (A++[one x (pick (cts m A x B) n).1]) B (pick (cts m A x B) n).2
def rst (m:qE):List Sy->List Sy->Int->Int
 | _,[],n=>n
 | A,x::B,n=>rst m (A++[one x (pick (cts m A x B) n).1]) B (pick (cts m A x B) n).2
def nmb (m:qE):List Sy->List Sy->List Nat->Int
 | A,x::B,f::fs=>((cts m A x B).take f).sum+nmb m (A++[one x f]) B fs
 | _,_,_=>0
def codes:List Sy->List Nat->List Nat
 | x::B,f::fs=>x.1.getD f 0::codes B fs
 | _,_=>[]
def ones:List Sy->List Nat->List Sy
 | x::B,f::fs=>one x f::ones B fs
 | _,_=>[]
def InP:List Sy->List Nat->Prop
 | [],fs=>fs=[]
 | x::B,fs=>∃f o gs,fs=f::gs/\x.1[f]?=some o/\InP B gs
theorem Ht (m:qE)(A:List Sy)(x:Sy)(B:List Sy):∀c∈cts m A x B,0<=c:=λc hc=>by
 unfold cts at hc
 obtain⟨o,_,rfl⟩:=db.mp hc
 exact zM ..
theorem CG (m:qE)(A:List Sy)(x:Sy)(B:List Sy):(cts m A x B).sum=Nm m (A++x::B):=(G7 m A B x.1 x.2 (0,0,0)).symm
theorem jd {x:Sy}{f o:Nat}(h:x.1[f]?=some o):x.1.getD f 0=o:=by rw[bi,h];rfl
theorem qC {m:qE}{A:List Sy}{x:Sy}{B:List Sy}{n:Int}(h0:0<=n)(h1:n < Nm m (A++x::B)):∃o,x.1[(pick (cts m A x B) n).1]?=some o/\0<=(pick (cts m A x B) n).2/\(pick (cts m A x B) n).2 < Nm m ((A++[one x (pick (cts m A x B) n).1])++B) /\
  n=((cts m A x B).take (pick (cts m A x B) n).1).sum+(pick (cts m A x B) n).2:=by
 obtain⟨c,a1,a2,a3,a4⟩:=jK (cts m A x B) n h0 (by rw[CG];exact h1) (Ht m A x B)
 generalize pick (cts m A x B) n=z at *
 obtain⟨f,r⟩:=z
 simp only at a1 a2 a3 a4 ⊢
 unfold cts at a1
 rw[aE] at a1
 cases hq:x.1[f]? with
 | none=>rw[hq] at a1;cases a1
 | some o=>
  rw[hq] at a1
  cases a1
  refine⟨o,rfl,a2,?_,a4⟩
  have:(A++[one x f])++B=A++([o],x.2)::B:=by unfold one;rw[jd hq];simp
  rw[this]
  exact a3
theorem zY {m:qE}:∀(O A:List Sy) (n:Int),0<=n->n < Nm m (A++O)->InP O (plc m A O n)/\0<=rst m A O n/\rst m A O n < Nm m (A++ones O (plc m A O n))/\nmb m A O (plc m A O n)+rst m A O n=n
 | [],A,n,h0,h1=>⟨rfl,h0,by simpa [rst,ones,plc] using h1,by simp[nmb,rst]⟩
 | x::B,A,n,h0,h1=>by
  obtain⟨o,b1,b2,b3,b4⟩:=qC h0 h1
  obtain⟨i1,i2,i3,i4⟩:=zY B (A++[one x (pick (cts m A x B) n).1]) (pick (cts m A x B) n).2 b2 b3
  have e1:plc m A (x::B) n=(pick (cts m A x B) n).1::plc m (A++[one x (pick (cts m A x B) n).1]) B (pick (cts m A x B) n).2:=rfl
  have e2:rst m A (x::B) n=rst m (A++[one x (pick (cts m A x B) n).1]) B (pick (cts m A x B) n).2:=rfl
  rw[e1,e2]
  refine⟨⟨_,o,_,rfl,b1,i1⟩,i2,?_,?_⟩
  ·have:A++ones (x::B) ((pick (cts m A x B) n).1::plc m (A++[one x (pick (cts m A x B) n).1]) B (pick (cts m A x B) n).2)=(A++[one x (pick (cts m A x B) n).1])++ones B (plc m (A++[one x (pick (cts m A x B) n).1]) B (pick (cts m A x B) n).2):=by simp[ones]
   rw[this]
   exact i3
  ·show ((cts m A x B).take _).sum+nmb m _ B _+_=n
   omega
theorem InP.len:∀{O:List Sy}{fs:qf},InP O fs->fs.length=O.length
 | [],fs,h=>by rw[show fs=[] from h];rfl
 | x::B,fs,⟨f,o,gs,e,_,h⟩=>by rw[e,bb,bb,InP.len h]
theorem Hu {m:qE}:∀(O A:List Sy) (n k:Int),0<=n->n < k->k < Nm m (A++O)->
  (HT.lexLt ((plc m A O n).map λf:Nat=>(f:Int)) ((plc m A O k).map λf:Nat=>(f:Int))=true/\plc m A O n≠plc m A O k)\/(plc m A O n=plc m A O k/\rst m A O n < rst m A O k)
 | [],A,n,k,_,h,_=>.inr ⟨rfl,h⟩
 | x::B,A,n,k,h0,h,h1=>by
  obtain⟨o,b1,b2,b3,b4⟩:=qC (m:=m) (A:=A) (x:=x) (B:=B) (n:=n) h0 (by omega)
  obtain⟨o',c1,c2,c3,c4⟩:=qC (m:=m) (A:=A) (x:=x) (B:=B) (n:=k) (by omega) h1
  have e1:∀n,plc m A (x::B) n=(pick (cts m A x B) n).1::plc m (A++[one x (pick (cts m A x B) n).1]) B (pick (cts m A x B) n).2:=λ_=>rfl
  have e2:∀n,rst m A (x::B) n=rst m (A++[one x (pick (cts m A x B) n).1]) B (pick (cts m A x B) n).2:=λ_=>rfl
  rw[e1,e1,e2,e2]
  have hct:∀(f o:Nat),x.1[f]?=some o->(cts m A x B)[f]?=some (Nm m ((A++[one x f])++B)):=λf o ho=>by
   unfold cts
   rw[aE,ho]
   have:(A++[one x f])++B=A++([o],x.2)::B:=by unfold one;rw[jd ho];simp
   rw[this]
   rfl
  have t1:=hct _ _ b1
  have t2:=hct _ _ c1
  have nn:=Ht m A x B
  generalize pick (cts m A x B) n=z at *
  generalize pick (cts m A x B) k=z' at *
  obtain⟨f,r⟩:=z
  obtain⟨f',r'⟩:=z'
  simp only at b1 b2 b3 b4 c1 c2 c3 c4 t1 t2 ⊢
  rcases Nat.lt_trichotomy f f' with hf | hf | hf
  ·refine .inl ⟨?_,λz=>?_⟩
   ·rw[av,av,HT.lexLt_cons,a9 (by omega)]
    exact ca (by omega)
   ·injection z with z1 z2
    omega
  ·subst hf
   rcases Hu B (A++[one x f]) r r' b2 (by omega) c3 with ⟨z1,z2⟩ | ⟨z1,z2⟩
   ·refine .inl ⟨?_,λz=>?_⟩
    ·rw[av,av,HT.lexLt_cons,bp rfl]
     exact z1
    ·injection z with _ z3
     exact z2 z3
   ·exact .inr ⟨by rw[z1],z2⟩
  ·have:=sH (cts m A x B) f' f _ t2 hf nn
   omega
theorem zZ:∀(xs:List (List Nat)) (es:List Bool) (fs:qf),ones (xs.zip es) fs=((codes (xs.zip es) fs).map λi=>[i]).zip es
 | [],es,fs=>by cases fs <;> simp[ones,codes]
 | x::xs,[],fs=>by cases fs <;> simp[ones,codes]
 | x::xs,e::es,[]=>by simp[ones,codes]
 | x::xs,e::es,f::fs=>by simp[ones,codes,zZ xs es fs,one]
theorem xj:∀{O:List Sy}{fs:qf},InP O fs->(codes O fs).length=O.length
 | [],fs,h=>by rw[show fs=[] from h];rfl
 | x::B,fs,⟨f,o,gs,e,_,h⟩=>by rw[e];simp[codes,xj h]
theorem uF:∀{O:List Sy}{fs:qf}{k:Nat}{x:Sy},InP O fs->O[k]?=some x->∃f o,fs[k]?=some f/\x.1[f]?=some o/\(codes O fs)[k]?=some o
 | [],_,k,x,_,h=>by simp at h
 | x::B,fs,0,y,⟨f,o,gs,e,h1,h2⟩,h=>by
  simp at h
  subst h e
  refine⟨f,o,rfl,h1,?_⟩
  show some (x.1.getD f 0)=some o
  rw[jd h1]
 | x::B,fs,k+1,y,⟨f,o,gs,e,h1,h2⟩,h=>by
  subst e
  obtain⟨f',o',a1,a2,a3⟩:=uF (k:=k) h2 (by simpa using h)
  exact⟨f',o',by simpa using a1,a2,by simpa [codes] using a3⟩
theorem xm:∀{xs:List (List Nat)}{es:List Bool}{fs:qf},es.length=xs.length->InP (xs.zip es) fs->cU xs (codes (xs.zip es) fs)=true
 | [],[],fs,_,h=>by rw[show fs=[] from h];rfl
 | [],_::_,_,h,_=>by simp at h
 | _::_,[],_,h,_=>by simp at h
 | x::xs,e::es,fs,hl,⟨f,o,gs,e1,h1,h2⟩=>by
  subst e1
  have ih:=xm (xs:=xs) (es:=es) (by simpa using hl) h2
  have hg:x.getD f 0=o:=by rw[bi,show x[f]?=some o from h1];rfl
  have hm:o∈x:=ax h1
  show (decide (x.getD f 0∈x)&&cU xs (codes (xs.zip es) gs))=true
  rw[hg,ih,ca hm];rfl
def AlD (m:qE):List Sy->List Dc->Prop
 | [],L=>∃d,L=[d]/\DOk m d/\val d=cnt m []
 | x::q,L=>∃d L',L=d::L'/\DOk m d/\val d=cnt m (x::q)/\AlD m q L'
theorem AlD.hd {m:qE}:∀{q:List Sy}{L:List Dc},AlD m q L->∃d L',L=d::L'/\DOk m d/\val d=cnt m q
 | [],L,⟨d,e,h1,h2⟩=>⟨d,[],e,h1,h2⟩
 | _::_,L,⟨d,L',e,h1,h2,_⟩=>⟨d,L',e,h1,h2⟩
theorem AlD.at {m:qE}:∀{O:List Sy}{L:List Dc}{k:Nat},AlD m O L->k<=O.length->∃d,L[k]?=some d/\DOk m d/\val d=cnt m (O.drop k)
 | [],L,k,⟨d,e,h1,h2⟩,hk=>by
  have:k=0:=by simpa using hk
  subst this e
  exact⟨d,rfl,h1,h2⟩
 | x::q,L,0,⟨d,L',e,h1,h2,_⟩,hk=>by subst e;exact⟨d,rfl,h1,h2⟩
 | x::q,L,k+1,⟨d,L',e,_,_,h⟩,hk=>by
  subst e
  obtain⟨d',a1,a2,a3⟩:=AlD.at (k:=k) h (by simpa using hk)
  exact⟨d',by simpa using a1,a2,by simpa using a3⟩
theorem AlD.len {m:qE}:∀{O:List Sy}{L:List Dc},AlD m O L->L.length=O.length+1
 | [],L,⟨d,e,_⟩=>by subst e;rfl
 | x::q,L,⟨d,L',e,_,_,h⟩=>by subst e;simp[AlD.len h]
theorem qD {m:qE}(hm:bG m)(hl:m.length < 100){g:dn}(hg:∀w∈g,w≠[])(h4:∀is∈g.flatten,C4 is)(hf:g.flatten.length < 1000):
  ∃L:List Dc,AlD m (g.flatten.zip (bx g)) L/\a_ [grP g,mP m]=some (.lst (L.map dP)):=by
 have h1:=RZ hm hl
 have h2:=tD hf
 have h3:=tE hg hf
 have hend:dm [mP m]=some (bD (m.length,0,0)):=by simp[dm,mU,mP,bD,stP]
 have hd0:DOk m [((m.length,0,0),1)]:=⟨by simp[ks],λt ht=>.inr (by simpa [ks] using ht)⟩
 have hO:∀x∈g.flatten.zip (bx g),C4 x.1:=λx hx=>h4 _ (eT hx).1
 have hOl:(g.flatten.zip (bx g)).length < 1000:=by rw[i9];omega
 generalize hOO:g.flatten.zip (bx g)=O at *
 obtain⟨L,⟨q,e1,e2⟩,h⟩:=bz (g:=gT [5,6]) (ds:=[5,6]) (body:=fL) zP (λL:List Dc=>[some (grP g),some (mP m),some (gf m),some (dP (L.headD [])),some (.lst (L.reverse.map dP)),none,none])
  (λr L=>∃q,O=r.reverse++q/\AlD m q L)
  (by
   rintro x r L ⟨q,e1,e2⟩
   have hq:r.length+1+q.length=O.length:=by have:=ce List.length e1;simp at this;omega
   have hlen:=e2.len
   obtain⟨d,L',e3,a1,a2⟩:=e2.hd
   obtain⟨d2,f1,f2,f3⟩:=JL hm hl (hO x (by rw[e1];simp)) x.2 a1
   have hL:(L.reverse.map dP).length < 1000000:=by rw[af,iL];omega
   refine⟨d2::L,⟨x::q,by rw[e1];simp,d2,L,rfl,f1,?_,e2⟩,?_⟩
   ·funext t
    rw[f2 t,cnt_cons,a2]
   ·have e4:L.headD []=d:=by rw[e3];rfl
    have e5:(d2::L).headD []=d2:=rfl
    have e6:(d2::L).reverse.map dP=L.reverse.map dP++[dP d2]:=by simp
    rw[e4,e5,e6]
    unfold zP
    generalize L.reverse.map dP=LP at *
    generalize gf m=SP at *
    generalize grP g=GP at *
    generalize mP m=MP at *
    generalize dP d2=D2 at *
    generalize dP d=D1 at *
    generalize aH x.1=OP at *
    simp[aV,fL,f3,hL])
  O.reverse [[((m.length,0,0),1)]] ⟨[],by simp,[((m.length,0,0),1)],rfl,hd0,by
   funext t
   simp[val,look,cnt_nil,fin]
   by_cases q:t=(m.length,0,0)
   ·simp[q]
   ·have:¬ (m.length,0,0)=t:=λz=>q z.symm
    simp[q,this]⟩
 simp only[List.reverse_nil,kF] at e1
 subst e1
 refine⟨L,e2,?_⟩
 have hz:sY (.lst (g.flatten.map aH)) (.lst ((bx g).map .bl))=some (.lst (O.map zP)):=by
  have:((bx g).map PV.bl).length=(g.flatten.map aH).length:=by rw[af,af,cX]
  simp only[sY,bp this,Km,hOO]
 have hr:(O.map zP).reverse=O.reverse.map zP:=by rw[oo]
 rw[← hr] at h
 have hdc:lr (bD (m.length,0,0)) (.int 1)=some (dP [((m.length,0,0),1)]):=by simp[bD,stP,dP,dE,kS]
 have hrv:(L.reverse.map dP).reverse=L.map dP:=by rw[oo,List.reverse_reverse]
 have h00:([[((m.length,0,0),(1:Int))]]:List Dc).reverse.map dP=[dP [((m.length,0,0),1)]]:=rfl
 have h01:([[((m.length,0,0),(1:Int))]]:List Dc).headD []=[((m.length,0,0),1)]:=rfl
 rw[h00,h01] at h
 rw[← hrv]
 generalize gf m=SP at *
 generalize grP g=GP at *
 generalize mP m=MP at *
 generalize dP [((m.length,0,0),1)]=D0 at *
 generalize bD (m.length,0,0)=S0 at *
 generalize dP (L.headD [])=D1 at *
 generalize L.reverse.map dP=LP at *
 generalize O.map zP=OP at *
 generalize g.flatten.map aH=Z1 at *
 generalize (bx g).map PV.bl=Z2 at *
 simp[a_,jG,h1,h2,h3,hend,hdc,hz,h,-sY,-lr]
theorem z9 {α:Type}{m:List α}{d r:List (α×Nat)}{y:α×Nat}(e:m.zipIdx=d++y::r):y.2=d.length/\m[d.length]?=some y.1/\m.drop (d.length+1)=r.map (·.1)/\d.length < m.length:=by
 have h1:m=d.map (·.1)++y.1::r.map (·.1):=by
  have:=ce (List.map Prod.fst) e
  rw[cS,av] at this
  rw[← this,cE]
 have hl:d.length < m.length:=by rw[h1];simp
 have h2:m.zipIdx[d.length]?=some y:=by rw[e];simp
 rw[l7,iq] at h2
 have h3:m[d.length]?=some y.1:=by
  rw[h1]
  rw[eK (by simp)]
  simp
 rw[h3] at h2
 have h2':(y.1,d.length)=y:=bg h2
 have h4:y.2=d.length:=(ce Prod.snd h2').symm
 refine⟨h4,h3,?_,hl⟩
 have h5:m.drop (d.length+1)=(d.map (·.1)++y.1::r.map (·.1)).drop (d.length+1):=ce _ h1
 rw[h5,List.drop_append]
 simp
def WtA (m:qE)(A:List Sy)(d:Dc):Prop:=∀f,wt d f=A.foldr (opr m) f (0,0,0)
theorem CJ (m:qE)(o:Nat)(e:Bool)(f:Sta->Int):opr m ([o],e) f=opM m o e f:=by funext t;simp[opr]
theorem WtA.start (m:qE):WtA m [] [((0,0,0),1)]:=λf=>by simp[wt]
theorem WtA.snoc {m:qE}{A:List Sy}{d d':Dc}{o:Nat}{e:Bool}(h:WtA m A d)(hw:∀f,wt d' f=wt d (opM m o e f)):WtA m (A++[([o],e)]) d':=λf=>by
 rw[hw,h,List.foldr_append]
 simp only[List.foldr_cons,List.foldr_nil,CJ]
theorem WtA.nums {m:qE}{A:List Sy}{d b:Dc}{B:List Sy}{e:Bool}(h:WtA m A d)(hb:val b=cnt m B)(os:qf):(os.map λo=>wt d (opM m o e (val b)))=cts m A (os,e) B:=by
 unfold cts
 refine ci λo _=>?_
 rw[h,hb]
 unfold Nm
 rw[wz,cnt_cons,CJ]
theorem DW.start {m:qE}(hne:m≠[]):DW m [((0,0,0),1)]:=by
 refine⟨⟨by simp[ks],λt ht=>.inl ?_⟩,λy hy=>?_,by simp[wt,pot]⟩
 ·have:t=(0,0,0):=by simpa [ks] using ht
  subst this
  obtain⟨s,m',e⟩:∃s m',m=s::m':=by cases m with | nil=>exact absurd rfl hne | cons s m'=>exact⟨s,m',rfl⟩
  exact mem_sts.mpr ⟨s,by rw[e];rfl,.inl rfl⟩
 ·rw[aI] at hy;rw[hy];decide
def rdE (G M N:PV)(BY ES:List PV)(S:qf)(d:Dc)(t:Int):MR.Env:=[some G,some M,some N,some (.lst BY),some (.lst ES),some (aH S),some (dP d),some (.int t),none,none,none,none]
theorem Nu {G M N:PV}{BY ES:List PV}{S:qf}{d d' b:Dc}{t r:Int}{k f o:Nat}{os:qf}{e:Bool}{C:PV}(hes:atI ES (k:Int)=some (.bl e))(hby:atI BY ((k:Int)+1)=some (dP b))
  (hcb:bu [M,dP d,aH os,.bl e,dP b]=some C) (hch:cz [C,.int t]=some (.tup [.int (f:Nat),.int r])) (ho:os[f]?=some o) (hw:cu [M,dP d,aA o,.bl e]=some (dP d')) (hS:S.length < 1000):
  turn (gT [8,9]) [8,9,10,11] iC (.tup [.int (k:Nat),aH os]) (rdE G M N BY ES S d t)=some (rdE G M N BY ES (S++[o]) d' r):=by
 have a3:atI (os.map aA) (f:Int)=some (aA o):=bO (by simp[ho])
 have h4:(S.map aA).length < 1000000:=by rw[af];omega
 have e1:aH (S++[o])=.lst (S.map aA++[aA o]):=by simp[aH]
 unfold iC rdE
 rw[e1]
 unfold aH at hcb ⊢
 generalize cz=mc at *
 generalize bu=mp at *
 generalize cu=mw at *
 generalize dP d=D0 at *
 generalize dP d'=D1 at *
 generalize dP b=B at *
 generalize aA o=OO at *
 generalize os.map aA=OP at *
 generalize S.map aA=SP at *
 simp[aV,hes,hby,hcb,hch,a3,h4,hw]
structure TOk (g:dn):Prop where
 ne:∀w∈g,w≠[]
 c4g:C4g g
 le:g.flatten.length < 900
theorem TOk.c4 {g:dn}(h:TOk g):∀is∈g.flatten,C4 is:=Cj h.c4g
theorem TOk.l9 {g:dn}(h:TOk g):∀is∈g.flatten,is.length<=9/\is.Nodup:=λis hi=>by
 obtain⟨w,hw,hi⟩:=List.mem_flatten.mp hi
 exact(h.c4g w hw is hi).2
def aO (g:dn):List Sy:=g.flatten.zip (bx g)
theorem qF (g:dn):(aO g).length=g.flatten.length:=by
 unfold aO
 rw[i9,cX]
 omega
theorem z_ (g:dn):(aO g).map (·.1)=g.flatten:=by
 unfold aO
 exact List.map_fst_zip (by rw[cX];exact aS _)
theorem JR (g:dn):(aO g).map (·.2)=bx g:=by
 unfold aO
 exact List.map_snd_zip (by rw[cX];exact aS _)
theorem qG:∀(T:qf) (es:List Bool),(aZ T es).length<=es.length
 | [],es=>by simp[aZ]
 | _::_,[]=>by simp[aZ]
 | i::T,e::es=>by
  have ih:=qG T es
  unfold aZ at ih ⊢
  rw[eM,gg,a8,bb]
  by_cases h:i=3 <;> simp only[h,gx,gu] <;> simp <;> simp at ih <;> omega
theorem Aa:∀{O:List Sy}{fs:qf},InP O fs->(∀x∈O,C4 x.1)->C4 (codes O fs)
 | [],fs,h,_=>by rw[show fs=[] from h];intro i hi;simp[codes] at hi
 | x::B,fs,⟨f,o,gs,e,h1,h2⟩,hh=>by
  subst e
  have ih:=Aa h2 λy hy=>hh y (ag _ hy)
  intro i hi
  have e1:codes (x::B) (f::gs)=x.1.getD f 0::codes B gs:=rfl
  rw[e1,jd h1,aw] at hi
  rcases hi with z | z
  ·rw[z];exact hh x ai o (ax h1)
  ·exact ih i z
def rS (m:qE)(g:dn)(n:Int):List Nat:=codes (aO g) (plc m [] (aO g) n)
def rW (m:qE)(g:dn)(n:Int):List Sg:=aZ (rS m g n) (bx g)
def rF (m:qE)(g:dn)(n:Int):List Nat:=gn (rW m g n) m 0 (rst m [] (aO g) n)
def rdP (m:qE)(g:dn)(n:Int):PV:=.tup [aH (rS m g n),fP (rF m g n)]
structure RdOk (m:qE)(g:dn)(n:Int):Prop where
 inp:InP (aO g) (plc m [] (aO g) n)
 c4:C4 (rS m g n)
 len:(rS m g n).length=g.flatten.length
 ins:cU g.flatten (rS m g n)=true
 wl:(rW m g n).length < 1000
 r0:0<=rst m [] (aO g) n
 r1:rst m [] (aO g) n < ways (rW m g n) m 0
 nm:nmb m [] (aO g) (plc m [] (aO g) n)+rst m [] (aO g) n=n
theorem Ks {m:qE}(hm:bG m){g:dn}(hg:TOk g){n:Int}(h0:0<=n)(h1:n < Nm m (aO g)):RdOk m g n:=by
 obtain⟨a1,a2,a3,a4⟩:=zY (m:=m) (aO g) [] n h0 (by simpa using h1)
 have hcs:∀x∈aO g,C4 x.1:=λx hx=>hg.c4 _ (eT hx).1
 refine⟨a1,Aa a1 hcs,by unfold rS;rw[xj a1,qF],xm (cX g) a1,?_,a2,?_,a4⟩
 ·unfold rW
  have:=qG (rS m g n) (bx g)
  have h2:=cX g
  have h3:=hg.le
  omega
 ·unfold rW
  rw[← M9 hm,← zN]
  rw[kF] at a3
  have e:=zZ g.flatten (bx g) (plc m [] (aO g) n)
  have e2:ones (aO g) (plc m [] (aO g) n)=((rS m g n).map λi=>[i]).zip (bx g):=e
  rw[e2] at a3
  exact a3
theorem sI (d:Dc):lu (dP d) dU (.int 0)=some (.int (val d (0,0,0))):=by
 have:=pQ (0,0,0) d
 unfold dP dU
 show (keysB [.int 0,.int 0,.int 0]).map (λk=>(dj (d.map dE) k).getD (.int 0))=_
 have hk:keysB [.int 0,.int 0,.int 0]=some (kS (0,0,0)):=by simp[kS]
 rw[hk,ml,this]
 unfold val
 cases look d (0,0,0) <;> rfl
theorem xn:lr dU (.int 1)=some (dP [((0,0,0),1)]):=by simp[dU,dP,dE,kS]
theorem xq (g:dn):fC 0 (g.flatten.map aH)=(aO g).zipIdx.map λy:Sy×Nat=>PV.tup [.int (y.2:Nat),aH y.1.1]:=by
 have e:g.flatten.map aH=(aO g).map λx=>aH x.1:=by
  conv=>lhs;rw[← z_ g]
  rw[df]
  rfl
 rw[e]
 exact iR _ _ _
theorem xu {g:dn}{k:Nat}{x:Sy}(h:(aO g)[k]?=some x):atI ((bx g).map PV.bl) (k:Int)=some (.bl x.2):=by
 refine bO ?_
 rw[← JR g,df,aE,h]
 rfl
theorem Nv {m:qE}(hm:bG m)(hl:m.length < 12)(hne:m≠[]){g:dn}(hg:TOk g){n:Int}(h0:0<=n)(h1:n < Nm m (aO g)):
  cT [grP g,mP m,.int n]=some (rdP m g n):=by
 have ok:=Ks hm hg h0 h1
 have hgl:=hg.le
 obtain⟨L,aL,hby⟩:=qD hm (by omega) hg.ne hg.c4 (by omega)
 have aL:AlD m (aO g) L:=aL
 obtain⟨dh,L',eL,dh1,dh2⟩:=aL.hd
 have hO:∀x∈aO g,C4 x.1/\x.1.length<=9:=λx hx=>⟨hg.c4 _ (eT hx).1,(hg.l9 _ (eT hx).1).1⟩
 have hOl:=qF g
 obtain⟨⟨S,d,t⟩,⟨q,A,e1,e2,e3,e4,e5,e6,e7,e8⟩,lp⟩:=bz (g:=gT [8,9]) (ds:=[8,9,10,11]) (body:=iC) (λy:Sy×Nat=>PV.tup [.int (y.2:Nat),aH y.1.1])
  (λz:List Nat×Dc×Int=>rdE (grP g) (mP m) (.int n) (L.map dP) ((bx g).map PV.bl) z.1 z.2.1 z.2.2)
  (λr z=>∃q A,(aO g).zipIdx=q++r/\DW m z.2.1/\WtA m A z.2.1/\0<=z.2.2/\z.2.2 < Nm m (A++r.map (·.1))/\z.1.length=q.length/\z.1++codes (r.map (·.1)) (plc m A (r.map (·.1)) z.2.2)=rS m g n/\rst m A (r.map (·.1)) z.2.2=rst m [] (aO g) n)
  (by
   rintro y r z ⟨q,A,e1,e2,e3,e4,e5,e6,e7,e8⟩
   obtain⟨S,d,t⟩:=z
   obtain⟨x,k⟩:=y
   simp only[av] at e2 e3 e4 e5 e6 e7 e8
   obtain⟨q1,q2,q3,q4⟩:=z9 e1
   simp only at q1 q2
   subst q1
   obtain⟨hx4,hx9⟩:=hO x (ax q2)
   obtain⟨b,b1,b2,b3⟩:=aL.at (k:=q.length+1) (by omega)
   rw[q3] at b3
   have hbk:atI (L.map dP) ((q.length:Int)+1)=some (dP b):=bO (k:=q.length+1) (by rw[aE,b1];rfl)
   obtain⟨o,p1,p2,p3,p4⟩:=qC e4 e5
   have hcb:=Hs hm hl e2 hx4 (by omega) x.2 (b:=b)
   rw[e3.nums b3 x.1] at hcb
   have hct:(cts m A x (r.map (·.1))).length < 1000:=by unfold cts;rw[af];omega
   have hch:=xg (cs:=cts m A x (r.map (·.1))) e4 (by rw[CG];exact e5) hct
   obtain⟨d',w1,w2,w3⟩:=wD hm (by omega) e2 (hx4 o (ax p1)) x.2
   have hS:S.length < 1000:=by omega
   have hone:one x (pick (cts m A x (r.map (·.1))) t).1=([o],x.2):=by unfold one;rw[jd p1]
   refine⟨(S++[o],d',(pick (cts m A x (r.map (·.1))) t).2),⟨q++[(x,q.length)],A++[([o],x.2)],by rw[e1];simp,w1,e3.snoc w2,p2,by rw[← hone];exact p3,by simp[e6],?_,?_⟩,Nu (xu q2) hbk hcb hch p1 w3 hS⟩
   ·simp only
    rw[← e7,dS]
    congr 1
    show _=x.1.getD (pick (cts m A x (r.map (·.1))) t).1 0::codes (r.map (·.1)) (plc m (A++[one x (pick (cts m A x (r.map (·.1))) t).1]) (r.map (·.1)) (pick (cts m A x (r.map (·.1))) t).2)
    rw[jd p1,hone]
    rfl
   ·simp only
    rw[← e8,← hone]
    rfl)
  (aO g).zipIdx ([],[((0,0,0),1)],n) ⟨[],[],rfl,DW.start hne,WtA.start m,h0,by simpa [cE] using h1,rfl,by simp[cE,rS],by simp[cE]⟩
 simp only[c9,plc,codes,rst,bE] at e7 e8
 subst e7 e8
 have hsd:=ww hg.ne ok.c4 (show g.flatten.length < 1000 by omega)
 have hft:=Np hm ok.wl (by omega:m.length < 100) ok.r0 ok.r1
 have hop:=tD (g:=g) (show g.flatten.length < 1000 by omega)
 have hen:=tE hg.ne (show g.flatten.length < 1000 by omega)
 have hval:val dh (0,0,0)=Nm m (aO g):=by rw[dh2];rfl
 have hsg:=sI dh
 rw[hval] at hsg
 have hL0:atI (L.map dP) 0=some (dP dh):=by rw[eL];exact bO (k:=0) rfl
 have hsd:cR [grP g,aH (rS m g n)]=some (aR (rW m g n)):=hsd
 have hst:=xn
 rw[← xq] at lp
 unfold rdP rF
 unfold rdE at lp
 have e9:aH []=.lst []:=rfl
 simp only[e9] at lp
 unfold aH fP at *
 generalize (gn (rW m g n) m 0 (rst m [] (aO g) n)).map (λf:Nat=>PV.int (f:Nat))=FF at *
 generalize aR (rW m g n)=RR at *
 generalize (rS m g n).map aA=SS at *
 generalize (g.flatten.map λis=>PV.lst (is.map aA))=FP at *
 generalize grP g=GP at *
 generalize mP m=MP at *
 generalize L.map dP=LP at *
 generalize (bx g).map PV.bl=EP at *
 generalize dP [((0,0,0),1)]=D0 at *
 generalize dP dh=DH at *
 generalize dP d=D1 at *
 simp[cT,qT,hby,hL0,hsg,h0,h1,hen,hst,hop,lp,hsd,hft,-lu,-lr]
def itF (fs:qf):List Int:=fs.map λf:Nat=>(f:Int)
def arE (M F:PV)(R:qV)(a:Nat):MR.Env:=[some M,some (aR R),some F,some (.int (a:Nat)),none,none,none,none]
theorem Hv {M F:PV}{R:qV}:∀{m:qE}{a:Nat}{fs:qf},bG m->oZ R m a fs->a<=R.length->
  bY (gT [4,5]) [4,5,6,7] jw ((m.zip fs).map λz=>PV.tup [slP z.1,.int (z.2:Nat)]) (arE M F R a)=some (.nx (arE M F R R.length))
 | [],a,fs,_,⟨h1,h2⟩,_=>by subst h1 h2;rfl
 | s::m,a,fs,hm,⟨f,p,gs,e,h1,h2,h3⟩,ha=>by
  subst e
  have ok:=(hm s ai).ok p (ax h1)
  have hlt:=(ap.mp h1).1
  have hat:atI (s.1.map PV.str) (f:Int)=some (.str p):=bO (by rw[aE,h1];rfl)
  have hft:=vm ok s.2 (seg R a p.length)
  rw[h2] at hft
  have hcut:=B_ (n:=p.length) ha
  have hp4:p.length<=1000000:=by have:=ok.le;omega
  have hsl:slP s=.tup [.tup (s.1.map .str),.bl s.2]:=rfl
  have hln:(s.1.map PV.str).length=s.1.length:=af ..
  have c1:(0:Int)<=(f:Int):=by omega
  have c2:(f:Int) < (s.1.length:Int):=by omega
  have ht:turn (gT [4,5]) [4,5,6,7] jw (.tup [slP s,.int (f:Nat)]) (arE M F R a)=some (arE M F R (a+p.length)):=by
   have e1:((a+p.length:Nat):Int)=(a:Int)+(p.length:Int):=by omega
   unfold arE aR at *
   rw[e1,hsl]
   generalize R.map sgP=RP at *
   generalize s.1.map PV.str=SP at *
   generalize (seg R a p.length).map sgP=GP at *
   simp[aV,jw,hat,hft,hcut,hp4,hln,c1,c2]
  show bY _ _ _ (PV.tup [slP s,.int (f:Nat)]::(m.zip gs).map λz=>PV.tup [slP z.1,.int (z.2:Nat)]) _=_
  rw[eU ht]
  exact Hv (λt h=>hm t (ag _ h)) h3 (fit_le ok h2)
theorem CK {R:qV}:∀{m:qE}{a:Nat}{fs:qf},bG m->oZ R m a fs->FtV m fs/\rfB (bB m fs) (R.drop a)=true
 | [],a,fs,_,⟨h1,h2⟩=>by subst h1 h2;exact⟨rfl,by simp[bB,rfB]⟩
 | s::m,a,fs,hm,⟨f,p,gs,e,h1,h2,h3⟩=>by
  subst e
  obtain⟨i1,i2⟩:=CK (λt ht=>hm t (ag _ ht)) h3
  refine⟨⟨f,p,gs,rfl,h1,i1⟩,?_⟩
  have hg:s.1.getD f ⟨#[]⟩=p:=by rw[bi,h1];rfl
  show rfB (bT s (s.1.getD f ⟨#[]⟩)++bB m gs) (R.drop a)=true
  rw[hg,sE,eV,List.drop_drop,i2,Bool.and_true]
  have ok:=(hm s ai).ok p (ax h1)
  rw[← zG ok]
  exact h2
theorem Ab {R:qV}:∀{m:qE}{a:Nat}{fs:qf},oZ R m a fs->fs.length=m.length
 | [],a,fs,⟨h1,_⟩=>by rw[h1];rfl
 | s::m,a,fs,⟨f,p,gs,e,_,_,h3⟩=>by rw[e,bb,bb,Ab h3]
theorem Ny {m:qE}(hm:bG m){R:qV}{fs:qf}(h:oZ R m 0 fs):iy [mP m,aR R,fP fs]=some (.bl true):=by
 have lp:=Hv (M:=mP m) (F:=fP fs) hm h (cK _)
 have hz:=jB slP (λf:Nat=>PV.int (f:Nat)) m fs
 rw[← hz] at lp
 have l1:(fs.map λf:Nat=>PV.int (f:Nat)).length=m.length:=by rw[af,Ab h]
 have l2:(m.map slP).length=m.length:=af ..
 have l3:(R.map sgP).length=R.length:=af ..
 have z0:((0:Nat):Int)=0:=rfl
 unfold arE mP fP aR at *
 rw[z0] at lp
 generalize m.map slP=MP at *
 generalize fs.map (λf:Nat=>PV.int (f:Nat))=FP at *
 generalize R.map sgP=RP at *
 simp[iy,t7,l1,l2,l3,lp]
theorem Nz {m:qE}(hm:bG m){g:dn}(hg:TOk g){n:Int}(ok:RdOk m g n):jZ [grP g,mP m,rdP m g n]=some (.bl true):=by
 have h1:=Ub hg.c4g ok.c4 (by have:=hg.le;omega)
 rw[ok.ins] at h1
 have h2:cR [grP g,aH (rS m g n)]=some (aR (rW m g n)):=ww hg.ne ok.c4 (by have:=hg.le;omega)
 have hft:=(yg (row:=rW m g n) ok.r0 ok.r1).1
 have h3:iy [mP m,aR (rW m g n),fP (rF m g n)]=some (.bl true):=Ny hm hft
 unfold rdP
 generalize fP (rF m g n)=FF at *
 generalize aR (rW m g n)=RR at *
 generalize aH (rS m g n)=SS at *
 generalize grP g=GP at *
 generalize mP m=MP at *
 simp[jZ,vf,h1,h2,h3]
def nrE (G M RD:PV)(BY ES:List PV)(S:qf)(d:Dc)(v:Int):MR.Env:=[some G,some M,some RD,some (.lst BY),some (.lst ES),some (aH S),some (dP d),some (.int v),none,none,none]
theorem NB {G M RD:PV}{BY ES:List PV}{S:qf}{d d' b:Dc}{v:Int}{k f o:Nat}{os:qf}{e:Bool}{cs:qv}(hes:atI ES (k:Int)=some (.bl e))(hby:atI BY ((k:Int)+1)=some (dP b))(hS:atI (S.map aA) (k:Int)=some (aA o))
  (hix:jq (aH os) (aA o)=some (.int (f:Nat))) (hcut:fK (os.map aA) none (some (f:Int))=(os.take f).map aA) (hcb:bu [M,dP d,aH (os.take f),.bl e,dP b]=some (h_ cs)) (hw:cu [M,dP d,aA o,.bl e]=some (dP d')):
  turn (gT [8,9]) [8,9,10] jk (.tup [.int (k:Nat),aH os]) (nrE G M RD BY ES S d v)=some (nrE G M RD BY ES S d' (v+cs.sum)):=by
 have hsum:=zW cs
 unfold jk nrE
 unfold h_ at hcb
 unfold aH at hcb hix ⊢
 generalize bu=mp at *
 generalize cu=mw at *
 generalize dP d=D0 at *
 generalize dP d'=D1 at *
 generalize dP b=B at *
 generalize aA o=OO at *
 generalize (os.take f).map aA=OT at *
 generalize os.map aA=OP at *
 generalize S.map aA=SP at *
 generalize cs.map PV.int=CP at *
 simp[aV,hes,hby,hcb,hS,hix,hcut,hw,hsum,-jq,-oU]
theorem Hw (os:qf)(f:Nat):fK (os.map aA) none (some (f:Int))=(os.take f).map aA:=by
 unfold fK
 have e0:HT.sIx (os.map aA).length 0 none=0:=rfl
 have e1:HT.sIx (os.map aA).length (os.map aA).length (some (f:Int))=min f os.length:=by rw[af];exact HT.sIx_nat _ _ f
 rw[e0,e1,iP,Nat.sub_zero,kB]
 rw[List.take_eq_take_iff]
 simp
theorem NK {m:qE}(hm:bG m)(hl:m.length < 12)(hne:m≠[]){g:dn}(hg:TOk g){n:Int}(ok:RdOk m g n):
  gP [grP g,mP m,rdP m g n]=some (.int n):=by
 have hgl:=hg.le
 obtain⟨L,aL,hby⟩:=qD hm (by omega) hg.ne hg.c4 (by omega)
 have aL:AlD m (aO g) L:=aL
 have hO:∀x∈aO g,C4 x.1/\x.1.length<=9/\x.1.Nodup:=λx hx=>⟨hg.c4 _ (eT hx).1,hg.l9 _ (eT hx).1⟩
 have hOl:=qF g
 obtain⟨⟨d,v⟩,⟨q,A,e1,e2,e3,e4,e5⟩,lp⟩:=bz (g:=gT [8,9]) (ds:=[8,9,10]) (body:=jk) (λy:Sy×Nat=>PV.tup [.int (y.2:Nat),aH y.1.1])
  (λz:Dc×Int=>nrE (grP g) (mP m) (rdP m g n) (L.map dP) ((bx g).map PV.bl) (rS m g n) z.1 z.2)
  (λr z=>∃q A,(aO g).zipIdx=q++r/\DW m z.1/\WtA m A z.1/\z.2+nmb m A (r.map (·.1)) ((plc m [] (aO g) n).drop q.length)=nmb m [] (aO g) (plc m [] (aO g) n)/\InP (r.map (·.1)) ((plc m [] (aO g) n).drop q.length))
  (by
   rintro y r z ⟨q,A,e1,e2,e3,e4,e5⟩
   obtain⟨d,v⟩:=z
   obtain⟨x,k⟩:=y
   simp only[av] at e2 e3 e4 e5
   obtain⟨q1,q2,q3,q4⟩:=z9 e1
   simp only at q1 q2
   subst q1
   obtain⟨hx4,hx9,hxn⟩:=hO x (ax q2)
   obtain⟨b,b1,b2,b3⟩:=aL.at (k:=q.length+1) (by omega)
   rw[q3] at b3
   have hbk:atI (L.map dP) ((q.length:Int)+1)=some (dP b):=bO (k:=q.length+1) (by rw[aE,b1];rfl)
   obtain⟨f,o,c1,c2,c3⟩:=uF ok.inp q2
   obtain⟨f',o',gs,d1,d2,d3⟩:=e5
   have hdf:(plc m [] (aO g) n).drop q.length=f::(plc m [] (aO g) n).drop (q.length+1):=by
    have:=(ap.mp c1)
    obtain⟨w1,w2⟩:=this
    rw[ed w1,w2]
   rw[hdf] at d1
   injection d1 with d4 d5
   subst d4 d5
   have hS:atI ((rS m g n).map aA) (q.length:Int)=some (aA o):=bO (by rw[aE];unfold rS;rw[c3];rfl)
   have ho4:=hx4 o (ax c2)
   obtain⟨j,j1,j2⟩:=vq ho4 hx4 (ax c2) (by omega)
   have hj:j=f:=(List.getElem?_inj (ap.mp j1).1 hxn).mp (by rw[j1,c2])
   subst hj
   have hcb:=Hs hm hl e2 (os:=x.1.take j) (λi hi=>hx4 i (l6 hi)) (by rw[dQ];omega) x.2 (b:=b)
   rw[e3.nums b3 (x.1.take j)] at hcb
   have hct:cts m A (x.1.take j,x.2) (r.map (·.1))=(cts m A x (r.map (·.1))).take j:=by unfold cts;rw[kB]
   rw[hct] at hcb
   obtain⟨d',w1,w2,w3⟩:=wD hm (by omega) e2 ho4 x.2
   have hone:one x j=([o],x.2):=by unfold one;rw[jd c2]
   refine⟨(d',v+((cts m A x (r.map (·.1))).take j).sum),⟨q++[(x,q.length)],A++[([o],x.2)],by rw[e1];simp,w1,e3.snoc w2,?_,?_⟩,NB (xu q2) hbk hS j2 (Hw x.1 j) hcb w3⟩
   ·simp only
    rw[← e4,hdf,a8,dy,← hone]
    show _=v+(((cts m A x (r.map (·.1))).take j).sum+nmb m (A++[one x j]) (r.map (·.1)) _)
    omega
   ·rw[a8,dy]
    exact d3)
  (aO g).zipIdx ([((0,0,0),1)],0) ⟨[],[],rfl,DW.start hne,WtA.start m,by simp[cE],by simpa [cE] using ok.inp⟩
 have hv:v=nmb m [] (aO g) (plc m [] (aO g) n):=by
  rw[← e4]
  simp only[c9]
  have:∀fs,nmb m A [] fs=0:=λfs=>by cases fs <;> rfl
  rw[this]
  omega
 have hsd:cR [grP g,aH (rS m g n)]=some (aR (rW m g n)):=ww hg.ne ok.c4 (show g.flatten.length < 1000 by omega)
 obtain⟨f1,f2⟩:=yg (row:=rW m g n) ok.r0 ok.r1
 have hnf:dz [mP m,aR (rW m g n),fP (rF m g n)]=some (.int (rst m [] (aO g) n)):=by
  have:=Hl hm ok.wl (by omega:m.length < 100) f1
  rw[f2] at this
  exact this
 have hsum:=ok.nm
 have hop:=tD (g:=g) (show g.flatten.length < 1000 by omega)
 have hen:=tE hg.ne (show g.flatten.length < 1000 by omega)
 have hlets:=Nz hm hg ok
 have hst:=xn
 rw[← hv] at hsum
 rw[← xq] at lp
 unfold nrE rdP at lp
 unfold rdP at *
 generalize fP (rF m g n)=FF at *
 generalize aR (rW m g n)=RR at *
 generalize aH (rS m g n)=SS at *
 generalize g.flatten.map aH=FP at *
 generalize grP g=GP at *
 generalize mP m=MP at *
 generalize L.map dP=LP at *
 generalize (bx g).map PV.bl=EP at *
 generalize dP [((0,0,0),1)]=D0 at *
 generalize dP d=D1 at *
 simp[gP,rR,hlets,hby,hen,hst,hop,lp,hsd,hnf,hsum,-lr]
theorem NP {m:qE}(hm:bG m)(hl:m.length < 12){g:dn}(hg:TOk g){n:Int}(h:¬ (0<=n/\n < Nm m (aO g))):fQ [grP g,mP m,.int n]=some 11:=by
 have hgl:=hg.le
 obtain⟨L,aL,hby⟩:=qD hm (by omega) hg.ne hg.c4 (by omega)
 obtain⟨dh,L',eL,dh1,dh2⟩:=aL.hd
 have hsg:=sI dh
 have hval:val dh (0,0,0)=Nm m (aO g):=by rw[dh2];rfl
 rw[hval] at hsg
 have hL0:atI (L.map dP) 0=some (dP dh):=by rw[eL];exact bO (k:=0) rfl
 unfold fQ qU
 generalize a_=mc at *
 generalize grP g=GP at *
 generalize mP m=MP at *
 generalize L.map dP=LP at *
 generalize dP dh=DH at *
 generalize dU=CS at *
 by_cases h0:0<=n
 ·have h1:¬ n < Nm m (aO g):=λz=>h ⟨h0,z⟩
  simp[hby,hL0,hsg,h0,h1,-lu]
 ·simp[hby,hL0,hsg,h0,-lu]
theorem R5 {m:qE}(hm:bG m)(hl:m.length < 12){g:dn}(hg:TOk g){n:Int}(h:¬ (0<=n/\n < Nm m (aO g))):dY [grP g,mP m,.int n]=some (.bl true):=by
 have h1:=NP hm hl hg h
 unfold dY oE lW
 generalize lV=TB at *
 generalize fQ=X at *
 generalize grP g=GP at *
 generalize mP m=MP at *
 simp[h1]
structure PlO (g:dn)(S fs:qf):Prop where
 at_:∀(k:Nat) (x:qf),g.flatten[k]?=some x->∃f o:Nat,fs[k]?=some f/\x[f]?=some o/\S[k]?=some o/\C4 x/\x.length<=9/\x.Nodup
 fl:fs.length=g.flatten.length
 sl:S.length=g.flatten.length
def lpE (GP:PV)(S fs:qf)(x3:Option PV):MR.Env:=[some GP,some (aH S),some (fP fs),x3,none,none]
theorem NQ {GP:PV}{S P x:qf}{x3:Option PV}{f o:Nat}(hP:P.length < 1000)(hS:S[P.length]?=some o)(hx:x[f]?=some o)(h4:C4 x)(h9:x.length<=9)(hn:x.Nodup):
  turn (gN 4) [4,5] g_ (aH x) (lpE GP S P x3)=some (lpE GP S (P++[f]) x3):=by
 have hm:=ax hx
 have ho:=h4 o hm
 obtain⟨j,j1,j2⟩:=vq ho h4 hm (by omega)
 have hj:j=f:=(List.getElem?_inj (ap.mp j1).1 hn).mp (by rw[j1,hx])
 subst hj
 have hin:=wg ho h4
 rw[ca hm] at hin
 have hlt:=(ap.mp hS).1
 have hlt':¬ ((S.length:Int)<=(P.length:Int)):=by omega
 have ha:atI (S.map aA) (P.length:Int)=some (aA o):=bO (by rw[aE,hS];rfl)
 have e1:fP (P++[j])=.lst (P.map (λf:Nat=>PV.int (f:Nat))++[.int (j:Nat)]):=by simp[fP]
 have hl1:(P.map (λf:Nat=>PV.int (f:Nat))).length=P.length:=af ..
 have hl2:(S.map aA).length=S.length:=af ..
 have hl3:P.length < 1000000:=by omega
 unfold lpE
 rw[e1]
 have e2:fP P=.lst (P.map λf:Nat=>PV.int (f:Nat)):=rfl
 rw[e2]
 have e3:aH S=.lst (S.map aA):=rfl
 rw[e3]
 unfold g_
 generalize aH x=XP at *
 generalize aA o=OO at *
 generalize P.map (λf:Nat=>PV.int (f:Nat))=PP at *
 generalize S.map aA=SP at *
 simp[aV,hl1,hl2,hlt,hlt',ha,hin,j2,hl3,-jq]
theorem CN {GP:PV}{S fs:qf}{x3:Option PV}:∀(w:List (List Nat)) (k:Nat),k+w.length < 1000->(∀(j:Nat) (x:qf),w[j]?=some x->∃f o:Nat,fs[k+j]?=some f/\x[f]?=some o/\S[k+j]?=some o/\C4 x/\x.length<=9/\x.Nodup)->
  bY (gN 4) [4,5] g_ (w.map aH) (lpE GP S (fs.take k) x3)=some (.nx (lpE GP S (fs.take (k+w.length)) x3))
 | [],k,_,_=>rfl
 | x::w,k,hk,h=>by
  obtain⟨f,o,h1,h2,h3,h4,h5,h6⟩:=h 0 x rfl
  rw[p5] at h1 h3
  have hlt:=(ap.mp h1).1
  have hlen:(fs.take k).length=k:=by rw[dQ];omega
  rw[bb] at hk
  have ht:=NQ (GP:=GP) (S:=S) (P:=fs.take k) (x:=x) (x3:=x3) (f:=f) (o:=o) (by omega) (by rw[hlen];exact h3) h2 h4 h5 h6
  have e:fs.take k++[f]=fs.take (k+1):=by
   rw[k8,h1]
   rfl
  rw[e] at ht
  rw[av,eU ht,CN w (k+1) (by omega) λj y hj=>by
   have:=h (j+1) y (by simpa using hj)
   rwa [show k+(j+1)=k+1+j by omega] at this]
  rw[bb,show k+1+w.length=k+(w.length+1) by omega]
theorem R6 {g:dn}{S fs:qf}(h:PlO g S fs)(hb:g.flatten.length < 900):gK [grP g,aH S]=some (fP fs):=by
 obtain⟨k,⟨q,e1,e2⟩,lp⟩:=bz (g:=gN 3) (ds:=[3,4,5]) (body:=jA) wdP (λk:Nat=>lpE (grP g) S (fs.take k) none)
  (λr k=>∃q,g=q++r/\k=q.flatten.length)
  (by
   rintro w r k ⟨q,e1,e2⟩
   have hfl:g.flatten=q.flatten++(w++r.flatten):=by rw[e1];simp
   have hlen:q.flatten.length+(w.length+r.flatten.length)=g.flatten.length:=by rw[hfl];simp
   subst e2
   have hw:=CN (GP:=grP g) (S:=S) (fs:=fs) (x3:=some (wdP w)) w q.flatten.length (by omega) λj x hj=>by
    refine h.at_ _ x ?_
    rw[hfl,eK (by omega),show q.flatten.length+j - q.flatten.length=j by omega,hU (ap.mp hj).1]
    exact hj
   refine⟨q.flatten.length+w.length,⟨q++[w],by rw[e1];simp,by simp⟩,?_⟩
   have e6:wdP w=.lst (w.map aH):=rfl
   rw[e6] at hw ⊢
   unfold lpE at hw ⊢
   generalize w.map aH=WP at *
   generalize fP (fs.take q.flatten.length)=P1 at *
   generalize fP (fs.take (q.flatten.length+w.length))=P2 at *
   generalize grP g=GP at *
   generalize aH S=SP at *
   simp[aV,jA,hw])
  g 0 ⟨[],rfl,rfl⟩
 rw[bE] at e1
 subst e1 e2
 have e3:fs.take g.flatten.length=fs:=by rw[← h.fl,kq]
 rw[e3] at lp
 have e4:fP (fs.take 0)=.lst []:=rfl
 have e5:grP g=.lst (g.map wdP):=rfl
 have hl1:(fs.map λf:Nat=>PV.int (f:Nat)).length=fs.length:=af ..
 have hl2:(S.map aA).length=S.length:=af ..
 have hl3:fs.length=S.length:=by rw[h.fl,h.sl]
 unfold lpE at lp
 rw[e4] at lp
 rw[e5] at lp ⊢
 unfold fP aH at lp ⊢
 generalize g.map wdP=GP at *
 generalize fs.map (λf:Nat=>PV.int (f:Nat))=FP at *
 generalize S.map aA=SP at *
 simp[gK,pO,lp,hl1,hl2,hl3]
def lrE (GP:PV)(S:qf)(R:qV)(a:Nat)(x4:Option PV):MR.Env:=[some GP,some (aH S),some (aR R),some (.int (a:Nat)),x4,none]
def qH (o:Nat)(e:Bool):List Sg:=if o=3 then [] else [(bL o,e)]
theorem Ed {S:qf}{es:List Bool}(h:S.length=es.length)(o:Nat)(e:Bool):aZ (S++[o]) (es++[e])=aZ S es++qH o e:=by
 rw[jJ S [o] es [e] h]
 congr 1
 simp[aZ,qH]
theorem NT {GP:PV}{S:qf}{R:qV}{a j o:Nat}{w:List (List Nat)}(hS:S[a]?=some o)(ho:o < 4)(hR:R.length < 1000):
  turn (gN 5) [5] fU (.int (j:Nat)) (lrE GP S R a (some (wdP w)))=some (lrE GP S (R++qH o (decide (j+1=w.length))) (a+1) (some (wdP w))):=by
 have ha:atI (S.map aA) (a:Int)=some (aA o):=bO (by rw[aE,hS];rfl)
 have hl2:(w.map aH).length=w.length:=af ..
 have hR2:(R.map sgP).length < 1000000:=by rw[af];omega
 have hjj:decide ((j:Int)+1=(w.length:Int))=decide (j+1=w.length):=by by_cases z:j+1=w.length <;> simp[z] <;> omega
 have e6:wdP w=.lst (w.map aH):=rfl
 have e3:aH S=.lst (S.map aA):=rfl
 have e7:((a+1:Nat):Int)=(a:Int)+1:=by omega
 unfold lrE
 rw[e6,e3,e7]
 by_cases h3:o=3
 ·subst h3
  have e0:aA 3=.non:=rfl
  rw[e0] at ha
  have e8:R++qH 3 (decide (j+1=w.length))=R:=by simp[qH]
  rw[e8]
  generalize S.map aA=SP at *
  generalize aR R=RP at *
  generalize w.map aH=WP at *
  simp[aV,fU,ha]
 ·obtain⟨n0,hopt⟩:=Hr ho h3
  rw[hopt] at ha
  have e8:aR (R++qH o (decide (j+1=w.length)))=.lst (R.map sgP++[.tup [.str (bL o),.bl (decide (j+1=w.length))]]):=by simp[qH,h3,aR,sgP]
  have e9:aR R=.lst (R.map sgP):=rfl
  rw[e8,e9,← hjj]
  generalize S.map aA=SP at *
  generalize R.map sgP=RP at *
  generalize w.map aH=WP at *
  simp[aV,fU,ha,hl2,hR2]
theorem Ef (n:Nat){j:Nat}(h:j < n):(cY n).take (j+1)=(cY n).take j++[decide (j+1=n)]:=by
 rw[k8]
 congr 1
 unfold cY
 rw[aE,fE h]
 rfl
theorem NZ {GP:PV}{S:qf}(hS:C4 S){R:qV}{a:Nat}{w:List (List Nat)}(ha:a+w.length<=S.length)(hR:R.length+w.length < 1000):
  bY (gN 5) [5] fU (cZ 0 (w.length:Int)) (lrE GP S R a (some (wdP w)))=some (.nx (lrE GP S (R++aZ ((S.drop a).take w.length) (cY w.length)) (a+w.length) (some (wdP w)))):=by
 rw[dZ]
 have key:∀r q:List Nat,List.range w.length=q++r->bY (gN 5) [5] fU (r.map λk:Nat=>PV.int (k:Nat)) (lrE GP S (R++aZ ((S.drop a).take q.length) ((cY w.length).take q.length)) (a+q.length) (some (wdP w)))=some (.nx (lrE GP S (R++aZ ((S.drop a).take w.length) (cY w.length)) (a+w.length) (some (wdP w)))):=λr=>by
  induction r with
  | nil=>
   intro q e
   rw[bE] at e
   have hq:q.length=w.length:=by rw[← e];simp
   have he:(cY w.length).take w.length=cY w.length:=fe (by rw[oG];exact aS _)
   rw[hq,he]
   rfl
  | cons j r ih=>
   intro q e
   obtain⟨hj,hlt⟩:=sr e
   subst hj
   have hlt2:a+q.length < S.length:=by omega
   have hSo:S[a+q.length]?=some S[a+q.length]:=ar hlt2
   have ho:=hS _ (gI hlt2)
   have hRl:(R++aZ ((S.drop a).take q.length) ((cY w.length).take q.length)).length < 1000:=by
    have:=qG ((S.drop a).take q.length) ((cY w.length).take q.length)
    rw[dQ,oG] at this
    rw[a8]
    omega
   have ht:=NT (GP:=GP) (S:=S) (j:=q.length) (w:=w) hSo ho hRl
   have e1:(S.drop a).take (q.length+1)=(S.drop a).take q.length++[S[a+q.length]]:=by
    rw[k8,nh,hSo]
    rfl
   have hl:((S.drop a).take q.length).length=((cY w.length).take q.length).length:=by
    rw[dQ,dQ,fq,oG]
    omega
   have e2:=Ed hl S[a+q.length] (decide (q.length+1=w.length))
   rw[← e1,← Ef w.length hlt] at e2
   rw[dS,← e2] at ht
   have:=ih (q++[q.length]) (by rw[e];simp)
   rw[a8,dy] at this
   rw[av,eU ht]
   exact this
 have:=key (List.range w.length) [] rfl
 have e0:R++aZ ((S.drop a).take ([]:qf).length) ((cY w.length).take ([]:qf).length)=R:=by simp[aZ]
 rw[e0] at this
 exact this
theorem R7 {g:dn}{S:qf}(hS:C4 S)(hl:S.length=g.flatten.length)(hb:g.flatten.length < 900):iu [grP g,aH S]=some (aR (aZ S (bx g))):=by
 obtain⟨q',⟨e1⟩,lp⟩:=bz (g:=gN 4) (ds:=[4,5]) (body:=lQ) wdP (λq:List (List (List Nat))=>lrE (grP g) S (aZ (S.take q.flatten.length) (bx q)) q.flatten.length none)
  (λr q=>g=q++r/\True)
  (by
   rintro w r q ⟨e1,_⟩
   have hfl:g.flatten=q.flatten++(w++r.flatten):=by rw[e1];simp
   have hlen:q.flatten.length+(w.length+r.flatten.length)=g.flatten.length:=by rw[hfl];simp
   have hRl:(aZ (S.take q.flatten.length) (bx q)).length+w.length < 1000:=by
    have:=qG (S.take q.flatten.length) (bx q)
    rw[cX] at this
    omega
   have hw:=NZ (GP:=grP g) hS (R:=aZ (S.take q.flatten.length) (bx q)) (a:=q.flatten.length) (w:=w) (by omega) hRl
   have e2:aZ (S.take q.flatten.length) (bx q)++aZ ((S.drop q.flatten.length).take w.length) (cY w.length)=aZ (S.take (q++[w]).flatten.length) (bx (q++[w])):=by
    rw[qu,List.flatten_append,a8,List.take_add,← jJ]
    ·simp
    ·rw[dQ,cX];omega
   have e3:q.flatten.length+w.length=(q++[w]).flatten.length:=by simp
   rw[e2,e3] at hw
   refine⟨q++[w],⟨by rw[e1];simp,trivial⟩,?_⟩
   have e6:wdP w=.lst (w.map aH):=rfl
   have hl6:(w.map aH).length=w.length:=af ..
   have hrg:rgI (w.length:Int)=true:=iI (by omega) (by omega)
   have hw6:w.length<=1000000:=by omega
   rw[e6] at hw ⊢
   unfold lrE at hw ⊢
   generalize w.map aH=WP at *
   generalize aR (aZ (S.take q.flatten.length) (bx q))=P1 at *
   generalize aR (aZ (S.take (q++[w]).flatten.length) (bx (q++[w])))=P2 at *
   generalize grP g=GP at *
   generalize aH S=SP at *
   generalize ((q++[w]).flatten.length:Int)=n2 at hw ⊢
   generalize (q.flatten.length:Int)=n1 at hw ⊢
   simp[aV,lQ,hl6,hrg,hw6,hw])
  g [] ⟨rfl,trivial⟩
 rw[bE] at e1
 subst e1
 have e3:S.take g.flatten.length=S:=by rw[← hl,kq]
 rw[e3] at lp
 have e4:aR (aZ (S.take ([]:dn).flatten.length) (bx []))=.lst []:=rfl
 have e5:grP g=.lst (g.map wdP):=rfl
 unfold lrE at lp
 rw[e4] at lp
 rw[e5] at lp ⊢
 have e7:(([]:dn).flatten.length:Int)=0:=rfl
 rw[e7] at lp
 unfold aR at lp ⊢
 generalize g.map wdP=GP at *
 generalize (aZ S (bx g)).map sgP=FP at *
 generalize aH S=SP at *
 simp[iu,t6,lp]
theorem CQ:∀{m:qE}{fs:qf},FtV m fs->∀z∈fs.zip m,z.1 < z.2.1.length
 | [],fs,h,z,hz=>by rw[show fs=[] from h] at hz;simp at hz
 | s::m,fs,⟨f,p,gs,e,h1,h2⟩,z,hz=>by
  subst e
  rw[eM,aw] at hz
  rcases hz with rfl | hz
  ·exact(ap.mp h1).1
  ·exact CQ h2 z hz
theorem CT:∀{A R:qV},rfB A R=true->∀z∈R.zip A,stands z.2.1 z.1.1=true/\(z.2.2=true->z.1.2=true)
 | [],R,_,z,hz=>by simp at hz
 | a::A,[],_,z,hz=>by simp at hz
 | a::A,b::B,h,z,hz=>by
  simp only[rfB,bP] at h
  rw[eM,aw] at hz
  rcases hz with rfl | hz
  ·refine⟨h.1.1,λq=>?_⟩
   have:=h.1.2
   simp only at q
   rw[q] at this
   simpa using this
  ·exact CT h.2 z hz
theorem R8 {m:qE}{g:dn}(hg:TOk g){n:Int}(ok:RdOk m g n):PlO g (rS m g n) (plc m [] (aO g) n):=by
 refine⟨λk x hx=>?_,by rw[ok.inp.len,qF],ok.len⟩
 have h1:((aO g).map (·.1))[k]?=some x:=by rw[z_];exact hx
 rw[aE] at h1
 cases q:(aO g)[k]? with
 | none=>rw[q] at h1;cases h1
 | some y=>
  rw[q] at h1
  cases h1
  obtain⟨f,o,c1,c2,c3⟩:=uF ok.inp q
  exact⟨f,o,c1,c2,c3,hg.c4 _ (ax hx),hg.l9 _ (ax hx)⟩
theorem Ac (n:Int):dC [.int n]=some (.bl true):=by simp[dC,qW,tyN,tb_int,tb_bool,List.lookup]
def rkE (G M RD S F:PV)(x7 x8 x9:Option PV):MR.Env:=[some G,some M,some RD,some S,some F,none,none,x7,x8,x9,none,none]
theorem N5 {G M RD S F:PV}{m:qE}{fs:qf}(hf:FtV m fs):bY (gT [5,6]) [5,6] jh (jy (fs.map λf:Nat=>PV.int (f:Nat)) (m.map slP)) (rkE G M RD S F none none none)=some (.nx (rkE G M RD S F none none none)):=by
 rw[jB (λf:Nat=>PV.int (f:Nat)) slP fs m]
 have:=rY (g:=gT [5,6]) (ds:=[5,6]) (body:=jh) (env:=rkE G M RD S F none none none) (v:=.non) (λz:Nat×Slot=>PV.tup [.int (z.1:Nat),slP z.2]) (λ_=>true) (fs.zip m) λz hz=>by
  have hlt:=CQ hf z hz
  obtain⟨f,s⟩:=z
  simp only at hlt
  refine⟨[some G,some M,some RD,some S,some F,some (.int (f:Nat)),some (slP s),none,none,none,none,none],rfl,λ_=>?_,λh=>by cases h⟩
  have h0:(0:Int)<=(f:Int):=by omega
  have h1:(f:Int) < (s.1.length:Int):=by omega
  have hl:(s.1.map PV.str).length=s.1.length:=af ..
  have hw:=Ac (f:Int)
  unfold rkE slP
  generalize s.1.map PV.str=SP at *
  unfold jh
  generalize dC=mw at *
  simp[hw,h0,h1,hl]
 rw[this]
 have:(fs.zip m).all (λ_=>true)=true:=by simp
 rw[bp this]
theorem N6 {G M RD S F:PV}{x7 x8 x9:Option PV}{A R:qV}(h:rfB A R=true):bY (gT [10,11]) [10,11] dH (jy (R.map sgP) (A.map sgP)) (rkE G M RD S F x7 x8 x9)=some (.nx (rkE G M RD S F x7 x8 x9)):=by
 rw[jB sgP sgP R A]
 have:=rY (g:=gT [10,11]) (ds:=[10,11]) (body:=dH) (env:=rkE G M RD S F x7 x8 x9) (v:=.non) (λz:Sg×Sg=>PV.tup [sgP z.1,sgP z.2]) (λ_=>true) (R.zip A) λz hz=>by
  obtain⟨h1,h2⟩:=CT h z hz
  obtain⟨⟨t1,t2⟩,⟨d1,d2⟩⟩:=z
  simp only at h1 h2
  refine⟨[some G,some M,some RD,some S,some F,none,none,x7,x8,x9,some (sgP (t1,t2)),some (sgP (d1,d2))],rfl,λ_=>?_,λh=>by cases h⟩
  unfold rkE sgP
  unfold stands at h1
  by_cases e1:d1=("x" : Str)
  ·cases d2 with
   | false=>simp[dH,e1]
   | true=>rw[h2 rfl];simp[dH,e1]
  ·have e2:d1=t1:=by simpa [e1] using h1
   subst e2
   cases d2 with
   | false=>simp[dH,e1]
   | true=>rw[h2 rfl];simp[dH,e1]
 rw[this]
 have:(R.zip A).all (λ_=>true)=true:=by simp
 rw[bp this]
def rkP (m:qE)(g:dn)(n:Int):PV:=.tup [fP (plc m [] (aO g) n),fP (rF m g n)]
theorem N7 {m:qE}(hm:bG m)(hl:m.length < 12){g:dn}(hg:TOk g){n:Int}(ok:RdOk m g n):gM [grP g,mP m,rdP m g n]=some (rkP m g n):=by
 have hft:oZ (rW m g n) m 0 (rF m g n):=(yg (row:=rW m g n) ok.r0 ok.r1).1
 obtain⟨fv,rf⟩:=CK hm hft
 rw[iP] at rf
 have hfl:=fv.length
 have mk:=(zB hm fv (by omega)).1
 have hpl:=R6 (R8 hg ok) hg.le
 have hrw:iu [grP g,aH (rS m g n)]=some (aR (rW m g n)):=R7 (g:=g) ok.c4 ok.len hg.le
 have hlen:=wy rf
 have l1:=N5 (G:=grP g) (M:=mP m) (RD:=rdP m g n) (S:=aH (rS m g n)) (F:=fP (rF m g n)) fv
 have l2:=N6 (G:=grP g) (M:=mP m) (RD:=rdP m g n) (S:=aH (rS m g n)) (F:=fP (rF m g n)) (x7:=some (fP (plc m [] (aO g) n))) (x8:=some (aR (rW m g n))) (x9:=some (aR (bB m (rF m g n)))) rf
 have z1:((rF m g n).map λf:Nat=>PV.int (f:Nat)).length=m.length:=by rw[af];exact hfl
 have z2:(m.map slP).length=m.length:=af ..
 have z3:((rW m g n).map sgP).length=((bB m (rF m g n)).map sgP).length:=by rw[af,af,hlen]
 unfold rkP rkE rdP fP mP aR aH at *
 generalize (rF m g n).map (λf:Nat=>PV.int (f:Nat))=FP at *
 generalize (plc m [] (aO g) n).map (λf:Nat=>PV.int (f:Nat))=PP at *
 generalize (rS m g n).map aA=SP at *
 generalize (bB m (rF m g n)).map sgP=AP at *
 generalize (rW m g n).map sgP=RP at *
 generalize m.map slP=MP at *
 generalize grP g=GP at *
 simp[gM,rQ,tb_tuple,tb_list,tyN,List.lookup,z1,z2,z3,l1,l2,hpl,hrw,mk]
theorem Ue {m:qE}{g:dn}{q k:Int}(h0:0<=q)(h:q < k)(h1:k < Nm m (aO g))(ok:RdOk m g k):HT.ltTwo (itF (plc m [] (aO g) q)) (itF (rF m g q)) (itF (plc m [] (aO g) k)) (itF (rF m g k))=true:=by
 have inj:∀{a b:qf},itF a=itF b->a=b:=λ{a b} e=>by
  unfold itF at e
  exact(List.map_inj_right λx y z=>by have z:(x:Int)=(y:Int):=z;omega).mp e
 rcases Hu (m:=m) (aO g) [] q k h0 h (by simpa using h1) with ⟨z1,z2⟩ | ⟨z1,z2⟩
 ·unfold HT.ltTwo
  rw[a9 λe=>z2 (inj e)]
  exact z1
 ·unfold HT.ltTwo
  rw[bp (by rw[z1])]
  have eS:rS m g q=rS m g k:=by unfold rS;rw[z1]
  have eW:rW m g q=rW m g k:=by unfold rW;rw[eS]
  unfold itF rF
  rw[eW]
  exact Kq (zY (m:=m) (aO g) [] q h0 (by simp only[kF];omega)).2.1 z2 ok.r1
theorem Hx (ns:qv)(hn:ns.length<=63):∃cs:List Int,1<=cs.length/\cs.length < 12/\bA (.lst (fK (ns.map PV.int) (some 4) (some 7))) (.lst (fK [PV.int 0] (some ((ns.length:Int) / 5)) none))=some (.lst (cs.map .int)):=by
 have e1:fK (ns.map PV.int) (some 4) (some 7)=((ns.drop (min 4 ns.length)).take (min 7 ns.length - min 4 ns.length)).map PV.int:=by
  unfold fK
  have e1:HT.sIx (ns.map PV.int).length 0 (some 4)=min 4 ns.length:=by rw[af];exact HT.sIx_nat _ _ 4
  have e2:HT.sIx (ns.map PV.int).length (ns.map PV.int).length (some 7)=min 7 ns.length:=by rw[af];exact HT.sIx_nat _ _ 7
  rw[e1,e2,kB,pT]
 obtain⟨q,eq⟩:∃q:Nat,(ns.length:Int) / 5=q:=⟨ns.length / 5,by omega⟩
 have e2:fK [PV.int 0] (some ((ns.length:Int) / 5)) none=(([0]:qv).drop (min q 1)).map PV.int:=by
  rw[eq]
  unfold fK
  rw[HT.sIx_nat,HT.sIx_none]
  have hh:[PV.int 0].length=1:=rfl
  rw[hh]
  rcases(show min q 1=0\/min q 1=1 by omega) with z | z <;> rw[z] <;> rfl
 rw[e1,e2]
 have hl:((ns.drop (min 4 ns.length)).take (min 7 ns.length - min 4 ns.length)).length=min 7 ns.length - min 4 ns.length:=by
  rw[dQ,fq];omega
 have hl2:(([0]:qv).drop (min q 1)).length=1 - min q 1:=by simp
 refine⟨(ns.drop (min 4 ns.length)).take (min 7 ns.length - min 4 ns.length)++([0]:qv).drop (min q 1),by rw[a8,hl,hl2];omega,by rw[a8,hl,hl2];omega,?_⟩
 generalize (ns.drop (min 4 ns.length)).take (min 7 ns.length - min 4 ns.length)=A at *
 generalize ([0]:qv).drop (min q 1)=B at *
 have:A.length+B.length<=1000000:=by omega
 simp[this]
theorem JS {m:qE}(hm:bG m)(hl:m.length < 12){g:dn}(hg:TOk g):fj [grP g,mP m]=some (.int (Nm m (aO g))):=by
 obtain⟨L,aL,h⟩:=qD hm (by omega) hg.ne hg.c4 (by have:=hg.le;omega)
 obtain⟨d,L',e,_,e2⟩:=aL.hd
 have h2:=sI d
 have h3:atI (L.map dP) 0=some (dP d):=by rw[e];exact bO (k:=0) rfl
 have e3:val d (0,0,0)=Nm m (aO g):=by rw[e2];rfl
 rw[e3] at h2
 generalize L.map dP=LP at *
 generalize dP d=D at *
 generalize grP g=GP at *
 generalize mP m=MP at *
 simp[fj,mV,h,h3,h2,-lu]
theorem JT (fs:qf):intsP (fs.map λf:Nat=>PV.int (f:Nat))=some (itF fs):=by
 unfold itF
 induction fs with
 | nil=>rfl
 | cons f fs ih=>simp[ih]
def ahP (m:qE)(g:dn):Option Int->PV
 | none=>.non
 | some k=>.tup [.int k,rkP m g k]
def lwE (P M F G:PV)(N D:Int)(ah:PV):MR.Env:=[some P,some M,some F,some G,some (.int N),some (.int D),none,some ah,none,none,none]
theorem R9 {m:qE}{g:dn}{q k:Int}(h0:0<=q)(h:q < k)(h1:k < Nm m (aO g))(ok:RdOk m g k):qj (rkP m g q) (rkP m g k)=some (.bl true):=by
 have h2:=Ue h0 h h1 ok
 unfold rkP fP
 simp only[qj,JT,bS,h2]
theorem N8 {P F:PV}{D:Int}{m:qE}(hm:bG m)(hl:m.length < 12)(hne:m≠[]){g:dn}(hg:TOk g){k:Int}(h0:0<=k)(h1:k < Nm m (aO g)){ah:Option Int}(hah:∀q,ah=some q->0<=q):
  turn (gN 8) [8,9,10] qt (.int k) (lwE P (mP m) F (grP g) (Nm m (aO g)) D (ahP m g ah))=some (lwE P (mP m) F (grP g) (Nm m (aO g)) D (ahP m g (some k))):=by
 have ok:=Ks hm hg h0 h1
 have a1:=Nv hm hl hne hg h0 h1
 have a2:=N7 hm hl hg ok
 have a3:=NK hm hl hne hg ok
 have a4:∀q,ah=some q->q < k->qj (rkP m g q) (rkP m g k)=some (.bl true):=λq e h=>R9 (hah q e) h h1 ok
 have hrk:rkP m g k=.tup [fP (plc m [] (aO g) k),fP (rF m g k)]:=rfl
 have hno:rE (rkP m g k)=false:=rfl
 unfold qt lwE
 generalize cT=m1 at *
 generalize gM=m2 at *
 generalize gP=m3 at *
 generalize rdP m g k=RD at *
 generalize grP g=GP at *
 generalize mP m=MP at *
 cases ah with
 | none=>
  simp only[ahP]
  rw[hrk] at a2 ⊢
  generalize fP (plc m [] (aO g) k)=Z1 at *
  generalize fP (rF m g k)=Z2 at *
  simp[aV,a1,a2,a3]
 | some q=>
  have a5:=a4 q rfl
  simp only[ahP]
  by_cases hq:q < k
  ·have a6:=a5 hq
   generalize rkP m g q=RQ at *
   rw[hrk] at a2 a6 ⊢
   generalize fP (plc m [] (aO g) k)=Z1 at *
   generalize fP (rF m g k)=Z2 at *
   simp[aV,a1,a2,a3,a6,hq,-qj]
  ·generalize rkP m g q=RQ at *
   rw[hrk] at a2 ⊢
   generalize fP (plc m [] (aO g) k)=Z1 at *
   generalize fP (rF m g k)=Z2 at *
   simp[aV,a1,a2,a3,hq,-qj]
theorem Hy {P F:PV}{D:Int}{m:qE}(hm:bG m)(hl:m.length < 12)(hne:m≠[]){g:dn}(hg:TOk g):∀(ks:qv) (ah:Option Int),(∀k∈ks,0<=k/\k < Nm m (aO g))->(∀q,ah=some q->0<=q)->
  ∃ah',bY (gN 8) [8,9,10] qt (ks.map PV.int) (lwE P (mP m) F (grP g) (Nm m (aO g)) D (ahP m g ah))=some (.nx (lwE P (mP m) F (grP g) (Nm m (aO g)) D (ahP m g ah')))
 | [],ah,_,_=>⟨ah,rfl⟩
 | k::ks,ah,hk,hah=>by
  obtain⟨h0,h1⟩:=hk k ai
  have ht:=N8 (P:=P) (F:=F) (D:=D) hm hl hne hg h0 h1 hah
  obtain⟨ah',h⟩:=Hy (P:=P) (F:=F) (D:=D) hm hl hne hg ks (some k) (λj hj=>hk j (ag _ hj)) λq e=>by cases e;exact h0
  exact⟨ah',by rw[av,eU ht];exact h⟩
theorem N_ {P F:PV}{N D n:Int}{m:qE}(hm:bG m)(hl:m.length < 12){g:dn}(hg:TOk g)(h:¬ (0<=n/\n < Nm m (aO g))):
  turn (gN 6) [6] qp (.int n) [some P,some (mP m),some F,some (grP g),some (.int N),some (.int D),none,none,none,none,none]=some [some P,some (mP m),some F,some (grP g),some (.int N),some (.int D),none,none,none,none,none]:=by
 have a1:=R5 hm hl hg h
 unfold qp
 generalize dY=mr at *
 generalize grP g=GP at *
 generalize mP m=MP at *
 simp[aV,a1]
theorem law_true (ns:qv)(hn:ns.length<=63):vh [.frz (ns.map PV.int)]=some (.bl true):=by
 obtain⟨cs0,hc0,hc1,hc2⟩:=Hx ns hn
 obtain⟨m,hm,hml,h1⟩:=Js cs0 (by omega)
 have hl:m.length < 12:=by omega
 have hne:m≠[]:=λz=>by rw[z] at hml;simp at hml;omega
 have c0:bw [.frz (ns.map PV.int),.int 0]=some (.int (cell ns 0)):=tK ns 0
 have c1:bw [.frz (ns.map PV.int),.int 1]=some (.int (cell ns 1)):=tK ns 1
 have c2:bw [.frz (ns.map PV.int),.int 2]=some (.int (cell ns 2)):=tK ns 2
 have c3:bw [.frz (ns.map PV.int),.int 3]=some (.int (cell ns 3)):=tK ns 3
 have hfc:=Hh hm (by omega) c0
 have hrg:rgI (m.length:Int)=true:=iI (by omega) (by omega)
 have hfo:=Ni (c:=cell ns 0) hm
 generalize (List.range m.length).map (m8 (cell ns 0) m)=fs at *
 have hle:(cZ 0 (m.length:Int)).length<=1000000:=by rw[dZ];simp;omega
 obtain⟨mk1,mk2⟩:=zU hm hfo
 obtain⟨g,S,fin0,hSl,hfit⟩:=RL (n:=cell ns 1) hm hfo (by omega) mk1 (mk2 hne)
 have hSe:=jb fin0.ins
 have hT:TOk g:=⟨fin0.ne,fin0.c4,by omega⟩
 have hbare:1<=cnt m ((S.map λi=>[i]).zip (bx g)) (0,0,0):=by
  rw[zN]
  exact Hi hm m.length 0 fs _ rfl (cK _) (by simpa using hfo) (by simpa using fin0.rf)
 have hN:1<=Nm m (aO g):=p9 hbare (Cr fin0.ins _)
 have r1:=JS hm hl hT
 have hw:=Ac (Nm m (aO g))
 have hN1:¬ Nm m (aO g) < 1:=by omega
 have hNp:0 < Nm m (aO g):=by omega
 obtain⟨D,hD⟩:∃D,(cell ns 2*1000000000000000000+cell ns 3) % Nm m (aO g)=D:=⟨_,rfl⟩
 have hD0:0<=D:=by rw[← hD];exact mh _ (by omega)
 have hD1:D < Nm m (aO g):=by rw[← hD];exact nr _ hNp
 have hpow:vW (.int 10) (.int 18)=some (.int 1000000000000000000):=by simp
 have hmul:jx (.int (cell ns 2)) (.int 1000000000000000000)=some (.int (cell ns 2*1000000000000000000)):=by
  have:smI 1000000000000000000=true:=jn (by decide) (by decide)
  simp[this]
 generalize hP:PV.frz (ns.map PV.int)=P at c0 c1 c2 c3 hfc
 have ht:∀n,¬ (0<=n/\n < Nm m (aO g))->_:=λn h=>N_ (P:=P) (F:=fP fs) (N:=Nm m (aO g)) (D:=D) (n:=n) hm hl hT h
 have hlp3:bY (gN 6) [6] qp [.int (Nm m (aO g)),.int (Nm m (aO g)+D),.int (-1 - D)] [some P,some (mP m),some (fP fs),some (grP g),some (.int (Nm m (aO g))),some (.int D),none,none,none,none,none]=some (.nx [some P,some (mP m),some (fP fs),some (grP g),some (.int (Nm m (aO g))),some (.int D),none,none,none,none,none]):=by
  rw[eU (ht _ (by omega)),eU (ht _ (by omega)),eU (ht _ (by omega))]
  rfl
 have hcp:=iQ (env:=[none,some (.int (Nm m (aO g)))]) (g:=gN 0) (t:=uv) (f:=ut) PV.int PV.int (λk=>decide (k < Nm m (aO g))) [0,D,D+1,Nm m (aO g) - 1] λk _=>⟨[some (.int k),some (.int (Nm m (aO g)))],rfl,by simp[uv],λ_=>by simp[ut]⟩
 obtain⟨ah',lp⟩:=Hy (P:=P) (F:=fP fs) (D:=D) hm hl hne hT ([0,D,D+1,Nm m (aO g) - 1].filter λk=>decide (k < Nm m (aO g))) none (λk hk=>by
  obtain⟨k1,k2⟩:=gp.mp hk
  have k2:=kM k2
  refine⟨?_,k2⟩
  simp only[aw,br,eC] at k1
  omega) λq e=>by cases e
 generalize ([0,D,D+1,Nm m (aO g) - 1].filter λk=>decide (k < Nm m (aO g))).map PV.int=KP at *
 simp only[av,c9] at hcp
 have hA:ahP m g none=.non:=rfl
 rw[hA] at lp
 generalize ahP m g ah'=A2 at *
 have s1:aJ 1 (aM fO (ak (b2 bA (bSl (bV 0) (oS (bC (.int 4))) (oS (bC (.int 7)))) (bSl (b_ (ak (bC (.int 0)) aD)) (oS (b2 fJ (b1 lenV (bV 0)) (bC (.int 5)))) oN)) aD)) [some P,none,none,none,none,none,none,none,none,none,none]=some (.nx [some P,some (mP m),none,none,none,none,none,none,none,none,none]):=by
  subst hP
  simp at hc2
  simp[hc2,h1]
 have hb:vg [some P,none,none,none,none,none,none,none,none,none,none]=some (.rt (.bl true)):=by
  unfold vg
  rw[bM s1]
  unfold lwE at lp
  unfold fP mP at *
  generalize fs.map (λf:Nat=>PV.int (f:Nat))=FP at *
  generalize hMP:m.map slP=MP at *
  have hml2:MP.length=m.length:=by rw[← hMP];exact af ..
  generalize grP g=GP at *
  generalize aH S=SP at *
  generalize Nm m (aO g)=NN at *
  simp[hrg,hle,hfc,hml2,c1,hfit,r1,hw,hN1,c2,c3,hpow,hmul,hNp,hD,hlp3,hcp,lp,-vW,-jx]
 unfold vh
 generalize vg=B at *
 simp[hb]
def top (i:Nat):Stmt:=PySem.Challenge.pw_lilt_k43_whole_readings_by_numbers.main.body.getD i (.Pass ⟨0,0,0,0⟩)
abbrev m9:Stmt:=top 37
abbrev j0:Stmt:=top 38
abbrev m_:Stmt:=top 39
abbrev lC:Stmt:=top 6
abbrev o8:Stmt:=top 5
abbrev kJ:Stmt:=top 8
abbrev nj:Stmt:=top 7
abbrev qI:Stmt:=top 9
abbrev my:Stmt:=top 25
abbrev o9:Stmt:=top 26
abbrev lD:Stmt:=top 27
abbrev kO:Stmt:=top 28
abbrev nq:Stmt:=top 19
abbrev sJ:Stmt:=top 20
abbrev ie:Stmt:=top 29
abbrev j4:Stmt:=top 32
abbrev nu:Stmt:=top 42
abbrev gQ:Stmt:=top 40
abbrev o_:Stmt:=top 41
abbrev qJ:Stmt:=top 43
abbrev ph:Stmt:=top 15
abbrev sO:Stmt:=top 30
abbrev vz:Stmt:=top 11
abbrev iB:Stmt:=top 13
abbrev ig:Stmt:=top 14
abbrev sS:Stmt:=top 16
abbrev gh:Stmt:=top 31
abbrev oJ:Stmt:=top 22
abbrev nA:Stmt:=top 33
abbrev lR:Stmt:=top 45
abbrev qK:Stmt:=top 46
abbrev nF:Stmt:=top 44
abbrev pq:Stmt:=top 47
abbrev kW:Stmt:=top 36
abbrev kY:Stmt:=top 48
abbrev lE:Stmt:=top 21
abbrev qL:Stmt:=top 12
abbrev sU:Stmt:=top 24
abbrev jD:Stmt:=top 17
abbrev pA:Stmt:=top 34
abbrev oK:Stmt:=top 49
abbrev Ku:List Str:=["_law_script", "_law_metre_here", "_law_feet", "_law_grid", "_law_many", "_law_drawn", "_law_number", "_law_ahead", "_law_k", "_law_reading", "_law_place"]
theorem xM:FnScope ["_law_cell", "_law_k"] ["_law_cell", "_law_k"] (aF m9):=fsc
theorem sc__law_patterns:FnScope ["_law_n", "_law_found", "_law_k", "_law_marks_here", "_law_j"] ["_law_n"] (aF j0):=fsc
theorem sc__law_metre:FnScope ["_law_cells", "_law_metre_here", "_law_k", "_law_cell", "_law_n"] ["_law_cells"] (aF m_):=fsc
theorem sc_states_of:FnScope ["metre", "states", "slot", "told", "number", "pattern"] ["metre"] (aF lC):=fsc
theorem Ad:FnScope ["metre"] ["metre"] (aF o8):=fsc
theorem sc_state_behind:FnScope ["metre", "state", "ends", "slot", "behind"] ["metre", "state", "ends"] (aF kJ):=fsc
theorem xN:FnScope ["sign", "mark"] ["sign", "mark"] (aF nj):=fsc
theorem sc_moves_of:FnScope ["metre", "state", "mark", "ends", "slot", "at", "patterns", "numbers", "moves", "number", "reached"] ["metre", "state", "mark", "ends"] (aF qI):=fsc
theorem sc_steps_by:FnScope ["metre", "mark", "ends", "steps", "state"] ["metre", "mark", "ends"] (aF my):=fsc
theorem sc_all_steps:FnScope ["metre", "steps", "mark", "ends"] ["metre"] (aF o9):=fsc
theorem Ae:FnScope ["steps", "option", "ends", "states"] ["steps", "option", "ends", "states"] (aF lD):=fsc
theorem sc_counts_ahead:FnScope ["steps", "options", "ends", "behind", "counts", "option", "state", "reached"] ["steps", "options", "ends", "behind"] (aF kO):=fsc
theorem sc_options_in:FnScope ["table", "listed", "word"] ["table"] (aF nq):=fsc
theorem sc_ends_in:FnScope ["table", "listed", "word"] ["table"] (aF sJ):=fsc
theorem sc_counts_by_syllable:FnScope ["table", "metre", "steps", "behind", "backwards", "options", "ends"] ["table", "metre"] (aF ie):=fsc
theorem uG:FnScope ["table", "metre"] ["table", "metre"] (aF j4):=fsc
theorem sc__law_marks:FnScope ["_law_metre_here", "_law_feet", "_law_marks_here", "_law_k", "_law_patterns_here", "_law_cut", "_law_pattern", "_law_j"] ["_law_metre_here", "_law_feet"] (aF nu):=fsc
theorem sc__law_options:FnScope ["_law_n", "_law_last", "_law_some", "_law_found"] ["_law_n", "_law_last"] (aF gQ):=fsc
theorem sc__law_with:FnScope ["_law_n", "_law_last", "_law_option", "_law_some", "_law_at"] ["_law_n", "_law_last", "_law_option"] (aF o_):=fsc
theorem sc__law_fit:FnScope ["_law_metre_here", "_law_feet", "_law_n", "_law_grid", "_law_saying", "_law_marks_here", "_law_k", "_law_m", "_law_mark", "_law_cut", "_law_option", "_law_last"] ["_law_metre_here", "_law_feet", "_law_n"] (aF qJ):=fsc
theorem sc_chosen_by:FnScope ["counts", "number", "chosen", "rest"] ["counts", "number"] (aF ph):=fsc
theorem sc_ways_on:FnScope ["metre", "ways", "option", "ends", "reached", "state", "many", "pattern", "later"] ["metre", "ways", "option", "ends"] (aF sO):=fsc
theorem Oa:FnScope ["pattern", "cut", "part"] ["pattern", "cut", "part"] (aF vz):=fsc
theorem sc_counts_by_pattern:FnScope ["slot", "row", "start", "behind", "counts", "pattern", "place"] ["slot", "row", "start", "behind"] (aF iB):=fsc
theorem sc_counts_by_slot:FnScope ["metre", "row", "behind", "backwards", "slot"] ["metre", "row"] (aF ig):=fsc
theorem sc_feet_at:FnScope ["metre", "row", "number", "by_slot", "feet", "start", "rest", "at", "slot", "found"] ["metre", "row", "number"] (aF sS):=fsc
theorem sc_counts_by_option:FnScope ["metre", "ways", "options", "ends", "behind", "counts", "option", "reached"] ["metre", "ways", "options", "ends", "behind"] (aF gh):=fsc
theorem Eg:FnScope ["table", "saying"] ["table", "saying"] (aF oJ):=fsc
theorem sc_reading_at:FnScope ["table", "metre", "number", "by_syllable", "ends", "saying", "ways", "rest", "at", "options", "found", "option"] ["table", "metre", "number"] (aF nA):=fsc
theorem sc__law_places:FnScope ["_law_grid", "_law_saying", "_law_places_here", "_law_word", "_law_options_here", "_law_at"] ["_law_grid", "_law_saying"] (aF lR):=fsc
theorem sc__law_row:FnScope ["_law_grid", "_law_saying", "_law_row_here", "_law_at", "_law_word", "_law_k"] ["_law_grid", "_law_saying"] (aF qK):=fsc
theorem xO:FnScope ["_law_found"] ["_law_found"] (aF nF):=fsc
theorem sc__law_rank:FnScope ["_law_grid", "_law_metre_here", "_law_reading", "_law_saying", "_law_feet", "_law_number", "_law_slot", "_law_places_here", "_law_row_here", "_law_marks_here", "_law_told", "_law_due"] ["_law_grid", "_law_metre_here", "_law_reading"] (aF pq):=fsc
theorem vA:FnScope ["_law_script", "_law_k"] ["_law_script", "_law_k"] (aF kW):=fsc
theorem sc__law_refused:FnScope ["_law_grid", "_law_metre_here", "_law_number", "_law_refused_here"] ["_law_grid", "_law_metre_here", "_law_number"] (aF kY):=fsc
theorem sc_is_saying:FnScope ["table", "saying", "syllables"] ["table", "saying"] (aF lE):=fsc
theorem sc_are_feet:FnScope ["metre", "row", "feet", "start", "slot", "number", "pattern", "behind"] ["metre", "row", "feet"] (aF qL):=fsc
theorem sc_lets_by:FnScope ["table", "metre", "reading", "saying"] ["table", "metre", "reading"] (aF sU):=fsc
theorem sc_number_of_feet:FnScope ["metre", "row", "feet", "by_slot", "number", "start", "at", "chosen", "slot", "counts"] ["metre", "row", "feet"] (aF jD):=fsc
theorem sc_number_of:FnScope ["table", "metre", "reading", "by_syllable", "ends", "saying", "ways", "number", "at", "options", "ahead"] ["table", "metre", "reading"] (aF pA):=fsc
theorem sc_law:FnScope ["_law_script", "_law_metre_here", "_law_feet", "_law_grid", "_law_many", "_law_drawn", "_law_number", "_law_ahead", "_law_k", "_law_reading", "_law_place"] ["_law_script"] (aF oK):=fsc
structure Adr where
 a0:Nat:=0
 a_START:Addr
structure Q7 (P:Program)(w:World)(K:W.Frag)(mg:Str->Option Value)(base:Heap)(cl:Nat->Addr)(A:Adr):Prop
section
variable (P:Program)(w:World)(K:W.Frag)(mg:Str->Option Value)(base:Heap)(cl:Nat->Addr)(A:Adr)
structure Tx__law_mixed:Prop where
 q:Q7 P w K mg base cl A
structure Tx__law_patterns:Prop where
 q:Q7 P w K mg base cl A
 z_range:mg "range" = none
 z_tuple:mg "tuple" = none
structure Tx__law_metre:Prop where
 q:Q7 P w K mg base cl A
 z_enumerate:mg "enumerate" = none
 z_tuple:mg "tuple" = none
 c__law_mixed:Cal P w K mg base 1 "_law_mixed" ["_law_cell", "_law_k"] (spM ⟨K,cl⟩ cA false)
 c__law_patterns:Cal P w K mg base 1 "_law_patterns" ["_law_n"] (spM ⟨K,cl⟩ dF false)
structure Tx_states_of:Prop where
 q:Q7 P w K mg base cl A
 z_enumerate:mg "enumerate" = none
 z_len:mg "len" = none
 z_range:mg "range" = none
structure Tx_end_state:Prop where
 q:Q7 P w K mg base cl A
 z_len:mg "len" = none
structure Tx_state_behind:Prop where
 q:Q7 P w K mg base cl A
 z_len:mg "len" = none
structure Tx_stands_for:Prop where
 q:Q7 P w K mg base cl A
structure Tx_moves_of:Prop where
 q:Q7 P w K mg base cl A
 z_len:mg "len" = none
 z_list:mg "list" = none
 z_range:mg "range" = none
 c_end_state:Cal P w K mg base 1 "end_state" ["metre"] (spM ⟨K,cl⟩ dm false)
 c_stands_for:Cal P w K mg base 1 "stands_for" ["sign", "mark"] (spM ⟨K,cl⟩ dB false)
 c_state_behind:Cal P w K mg base 1 "state_behind" ["metre", "state", "ends"] (spM ⟨K,cl⟩ dW false)
structure Tx_steps_by:Prop where
 q:Q7 P w K mg base cl A
 c_moves_of:Cal P w K mg base 2 "moves_of" ["metre", "state", "mark", "ends"] (spM ⟨K,cl⟩ cL false)
 c_states_of:Cal P w K mg base 1 "states_of" ["metre"] (spM ⟨K,cl⟩ iU false)
structure Tx_all_steps:Prop where
 q:Q7 P w K mg base cl A
 c_steps_by:Cal P w K mg base 3 "steps_by" ["metre", "mark", "ends"] (spM ⟨K,cl⟩ dI false)
structure Tx_walked_by:Prop where
 q:Q7 P w K mg base cl A
structure Tx_counts_ahead:Prop where
 q:Q7 P w K mg base cl A
 c_walked_by:Cal P w K mg base 1 "walked_by" ["steps", "option", "ends", "states"] (spM ⟨K,cl⟩ dR false)
structure Tx_options_in:Prop where
 q:Q7 P w K mg base cl A
structure Tx_ends_in:Prop where
 q:Q7 P w K mg base cl A
 z_len:mg "len" = none
structure Tx_counts_by_syllable:Prop where
 q:Q7 P w K mg base cl A
 z_list:mg "list" = none
 z_reversed:mg "reversed" = none
 z_zip:mg "zip" = none
 c_all_steps:Cal P w K mg base 4 "all_steps" ["metre"] (spM ⟨K,cl⟩ iW false)
 c_counts_ahead:Cal P w K mg base 2 "counts_ahead" ["steps", "options", "ends", "behind"] (spM ⟨K,cl⟩ f9 false)
 c_end_state:Cal P w K mg base 1 "end_state" ["metre"] (spM ⟨K,cl⟩ dm false)
 c_ends_in:Cal P w K mg base 1 "ends_in" ["table"] (spM ⟨K,cl⟩ cO false)
 c_options_in:Cal P w K mg base 1 "options_in" ["table"] (spM ⟨K,cl⟩ bQ false)
structure Tx_many_readings:Prop where
 q:Q7 P w K mg base cl A
 g_START:mg "START" = some (.ref A.a_START)
 r_START:∀(B:Addr->Prop) (H:Hp),Rep ⟨K,cl⟩ B H (.ref A.a_START) dU
 c_counts_by_syllable:Cal P w K mg base 5 "counts_by_syllable" ["table", "metre"] (spM ⟨K,cl⟩ a_ false)
structure Tx__law_marks:Prop where
 q:Q7 P w K mg base cl A
 z_len:mg "len" = none
 z_range:mg "range" = none
structure Tx__law_options:Prop where
 q:Q7 P w K mg base cl A
 z_range:mg "range" = none
structure Tx__law_with:Prop where
 q:Q7 P w K mg base cl A
 z_len:mg "len" = none
 c__law_options:Cal P w K mg base 1 "_law_options" ["_law_n", "_law_last"] (spM ⟨K,cl⟩ dX false)
structure Tx__law_fit:Prop where
 q:Q7 P w K mg base cl A
 z_int:mg "int" = none
 z_len:mg "len" = none
 z_range:mg "range" = none
 c__law_marks:Cal P w K mg base 1 "_law_marks" ["_law_metre_here", "_law_feet"] (spM ⟨K,cl⟩ cP false)
 c__law_mixed:Cal P w K mg base 1 "_law_mixed" ["_law_cell", "_law_k"] (spM ⟨K,cl⟩ cA false)
 c__law_with:Cal P w K mg base 2 "_law_with" ["_law_n", "_law_last", "_law_option"] (spM ⟨K,cl⟩ bR false)
structure Tx_chosen_by:Prop where
 q:Q7 P w K mg base cl A
structure Tx_ways_on:Prop where
 q:Q7 P w K mg base cl A
 c_moves_of:Cal P w K mg base 2 "moves_of" ["metre", "state", "mark", "ends"] (spM ⟨K,cl⟩ cL false)
structure Tx_fits:Prop where
 q:Q7 P w K mg base cl A
 z_all:mg "all" = none
 z_len:mg "len" = none
 z_zip:mg "zip" = none
 c_stands_for:Cal P w K mg base 1 "stands_for" ["sign", "mark"] (spM ⟨K,cl⟩ dB false)
structure Tx_counts_by_pattern:Prop where
 q:Q7 P w K mg base cl A
 z_len:mg "len" = none
 c_fits:Cal P w K mg base 2 "fits" ["pattern", "cut", "part"] (spM ⟨K,cl⟩ jg false)
structure Tx_counts_by_slot:Prop where
 q:Q7 P w K mg base cl A
 z_len:mg "len" = none
 z_list:mg "list" = none
 z_range:mg "range" = none
 z_reversed:mg "reversed" = none
 z_sum:mg "sum" = none
 c_counts_by_pattern:Cal P w K mg base 3 "counts_by_pattern" ["slot", "row", "start", "behind"] (spM ⟨K,cl⟩ aU false)
structure Tx_feet_at:Prop where
 q:Q7 P w K mg base cl A
 z_enumerate:mg "enumerate" = none
 z_len:mg "len" = none
 c_chosen_by:Cal P w K mg base 1 "chosen_by" ["counts", "number"] (spM ⟨K,cl⟩ cz false)
 c_counts_by_pattern:Cal P w K mg base 3 "counts_by_pattern" ["slot", "row", "start", "behind"] (spM ⟨K,cl⟩ aU false)
 c_counts_by_slot:Cal P w K mg base 4 "counts_by_slot" ["metre", "row"] (spM ⟨K,cl⟩ cD false)
structure Tx_counts_by_option:Prop where
 q:Q7 P w K mg base cl A
 z_sum:mg "sum" = none
 c_ways_on:Cal P w K mg base 3 "ways_on" ["metre", "ways", "option", "ends"] (spM ⟨K,cl⟩ cu false)
structure Tx_said_of:Prop where
 q:Q7 P w K mg base cl A
 z_zip:mg "zip" = none
 c_ends_in:Cal P w K mg base 1 "ends_in" ["table"] (spM ⟨K,cl⟩ cO false)
structure Tx_reading_at:Prop where
 q:Q7 P w K mg base cl A
 z_enumerate:mg "enumerate" = none
 g_START:mg "START" = some (.ref A.a_START)
 r_START:∀(B:Addr->Prop) (H:Hp),Rep ⟨K,cl⟩ B H (.ref A.a_START) dU
 c_chosen_by:Cal P w K mg base 1 "chosen_by" ["counts", "number"] (spM ⟨K,cl⟩ cz false)
 c_counts_by_option:Cal P w K mg base 4 "counts_by_option" ["metre", "ways", "options", "ends", "behind"] (spM ⟨K,cl⟩ bu false)
 c_counts_by_syllable:Cal P w K mg base 5 "counts_by_syllable" ["table", "metre"] (spM ⟨K,cl⟩ a_ false)
 c_ends_in:Cal P w K mg base 1 "ends_in" ["table"] (spM ⟨K,cl⟩ cO false)
 c_feet_at:Cal P w K mg base 5 "feet_at" ["metre", "row", "number"] (spM ⟨K,cl⟩ jX false)
 c_options_in:Cal P w K mg base 1 "options_in" ["table"] (spM ⟨K,cl⟩ bQ false)
 c_said_of:Cal P w K mg base 2 "said_of" ["table", "saying"] (spM ⟨K,cl⟩ cR false)
 c_ways_on:Cal P w K mg base 3 "ways_on" ["metre", "ways", "option", "ends"] (spM ⟨K,cl⟩ cu false)
 e_NoReading:W.excIn K (cl 11) [.type "ValueError",.type "Exception",.type "BaseException",.type "object"] "ValueError.__new__" = true
 m_NoReading:mg "NoReading" = some (.ref (cl 11))
structure Tx__law_places:Prop where
 q:Q7 P w K mg base cl A
 z_len:mg "len" = none
structure Tx__law_row:Prop where
 q:Q7 P w K mg base cl A
 z_len:mg "len" = none
 z_range:mg "range" = none
structure Tx__law_whole:Prop where
 q:Q7 P w K mg base cl A
 z_bool:mg "bool" = none
 z_int:mg "int" = none
 z_isinstance:mg "isinstance" = none
 is_bool:∀t k,(t,k)∈tb_bool->W.kitOne K (.type t) (.type "bool")=some k
 is_int:∀t k,(t,k)∈tb_int->W.kitOne K (.type t) (.type "int")=some k
structure Tx__law_rank:Prop where
 q:Q7 P w K mg base cl A
 z_isinstance:mg "isinstance" = none
 z_len:mg "len" = none
 z_list:mg "list" = none
 z_tuple:mg "tuple" = none
 z_zip:mg "zip" = none
 is_list:∀t k,(t,k)∈tb_list->W.kitOne K (.type t) (.type "list")=some k
 is_tuple:∀t k,(t,k)∈tb_tuple->W.kitOne K (.type t) (.type "tuple")=some k
 c__law_marks:Cal P w K mg base 1 "_law_marks" ["_law_metre_here", "_law_feet"] (spM ⟨K,cl⟩ cP false)
 c__law_places:Cal P w K mg base 1 "_law_places" ["_law_grid", "_law_saying"] (spM ⟨K,cl⟩ gK false)
 c__law_row:Cal P w K mg base 1 "_law_row" ["_law_grid", "_law_saying"] (spM ⟨K,cl⟩ iu false)
 c__law_whole:Cal P w K mg base 1 "_law_whole" ["_law_found"] (spM ⟨K,cl⟩ dC false)
structure Tx__law_cell_at:Prop where
 q:Q7 P w K mg base cl A
 z_len:mg "len" = none
structure Tx__law_refused:Prop where
 q:Q7 P w K mg base cl A
 c_reading_at:Cal P w K mg base 6 "reading_at" ["table", "metre", "number"] (spM ⟨K,cl⟩ cT false)
 m_NoReading:mg "NoReading" = some (.ref (cl 11))
 x_reading_at:CalX P w K mg base 6 "reading_at" ["table", "metre", "number"] (spX ⟨K,cl⟩ cT false fQ)
 xm_NoReading_NoReading:W.exmOne K (.ref (cl 11)) (.ref (cl 11))=some true
structure Tx_is_saying:Prop where
 q:Q7 P w K mg base cl A
 z_all:mg "all" = none
 z_len:mg "len" = none
 z_zip:mg "zip" = none
 c_options_in:Cal P w K mg base 1 "options_in" ["table"] (spM ⟨K,cl⟩ bQ false)
structure Tx_are_feet:Prop where
 q:Q7 P w K mg base cl A
 z_len:mg "len" = none
 z_zip:mg "zip" = none
 c_fits:Cal P w K mg base 2 "fits" ["pattern", "cut", "part"] (spM ⟨K,cl⟩ jg false)
structure Tx_lets_by:Prop where
 q:Q7 P w K mg base cl A
 c_are_feet:Cal P w K mg base 3 "are_feet" ["metre", "row", "feet"] (spM ⟨K,cl⟩ iy false)
 c_is_saying:Cal P w K mg base 2 "is_saying" ["table", "saying"] (spM ⟨K,cl⟩ gO false)
 c_said_of:Cal P w K mg base 2 "said_of" ["table", "saying"] (spM ⟨K,cl⟩ cR false)
structure Tx_number_of_feet:Prop where
 q:Q7 P w K mg base cl A
 z_enumerate:mg "enumerate" = none
 z_len:mg "len" = none
 z_sum:mg "sum" = none
 c_counts_by_pattern:Cal P w K mg base 3 "counts_by_pattern" ["slot", "row", "start", "behind"] (spM ⟨K,cl⟩ aU false)
 c_counts_by_slot:Cal P w K mg base 4 "counts_by_slot" ["metre", "row"] (spM ⟨K,cl⟩ cD false)
structure Tx_number_of:Prop where
 q:Q7 P w K mg base cl A
 z_enumerate:mg "enumerate" = none
 z_sum:mg "sum" = none
 g_START:mg "START" = some (.ref A.a_START)
 r_START:∀(B:Addr->Prop) (H:Hp),Rep ⟨K,cl⟩ B H (.ref A.a_START) dU
 c_counts_by_option:Cal P w K mg base 4 "counts_by_option" ["metre", "ways", "options", "ends", "behind"] (spM ⟨K,cl⟩ bu false)
 c_counts_by_syllable:Cal P w K mg base 5 "counts_by_syllable" ["table", "metre"] (spM ⟨K,cl⟩ a_ false)
 c_ends_in:Cal P w K mg base 1 "ends_in" ["table"] (spM ⟨K,cl⟩ cO false)
 c_lets_by:Cal P w K mg base 4 "lets_by" ["table", "metre", "reading"] (spM ⟨K,cl⟩ jZ false)
 c_number_of_feet:Cal P w K mg base 5 "number_of_feet" ["metre", "row", "feet"] (spM ⟨K,cl⟩ dz false)
 c_options_in:Cal P w K mg base 1 "options_in" ["table"] (spM ⟨K,cl⟩ bQ false)
 c_said_of:Cal P w K mg base 2 "said_of" ["table", "saying"] (spM ⟨K,cl⟩ cR false)
 c_ways_on:Cal P w K mg base 3 "ways_on" ["metre", "ways", "option", "ends"] (spM ⟨K,cl⟩ cu false)
structure Tx_law:Prop where
 q:Q7 P w K mg base cl A
 z_len:mg "len" = none
 z_range:mg "range" = none
 c__law_cell_at:Cal P w K mg base 1 "_law_cell_at" ["_law_script", "_law_k"] (spM ⟨K,cl⟩ bw false)
 c__law_fit:Cal P w K mg base 3 "_law_fit" ["_law_metre_here", "_law_feet", "_law_n"] (spM ⟨K,cl⟩ jt false)
 c__law_metre:Cal P w K mg base 2 "_law_metre" ["_law_cells"] (spM ⟨K,cl⟩ fO false)
 c__law_mixed:Cal P w K mg base 1 "_law_mixed" ["_law_cell", "_law_k"] (spM ⟨K,cl⟩ cA false)
 c__law_rank:Cal P w K mg base 2 "_law_rank" ["_law_grid", "_law_metre_here", "_law_reading"] (spM ⟨K,cl⟩ gM false)
 c__law_refused:Cal P w K mg base 7 "_law_refused" ["_law_grid", "_law_metre_here", "_law_number"] (spM ⟨K,cl⟩ dY false)
 c__law_whole:Cal P w K mg base 1 "_law_whole" ["_law_found"] (spM ⟨K,cl⟩ dC false)
 c_many_readings:Cal P w K mg base 6 "many_readings" ["table", "metre"] (spM ⟨K,cl⟩ fj false)
 c_number_of:Cal P w K mg base 6 "number_of" ["table", "metre", "reading"] (spM ⟨K,cl⟩ gP false)
 c_reading_at:Cal P w K mg base 6 "reading_at" ["table", "metre", "number"] (spM ⟨K,cl⟩ cT false)
end
section
variable {P:Program}{w:World}{K:W.Frag}{mg:Str->Option Value}{base:Heap}{cl:Nat->Addr}{A:Adr}{f:Addr}{fd:FuncData}
theorem xP (F:Fun K "_law_mixed" "_law_mixed" m9 f fd)(T:Tx__law_mixed P w K mg base cl A):FnOk P w K mg base CX0 1 f fd ["_law_cell", "_law_k"] (spM ⟨K,cl⟩ cA false):=by
 refine fok F xM (G:=[]) (G':=[]) (L:=[]) λ_ _ _ _ _ _ hr _ _=>?_
 exact(aC (aQ (fY (bh (bh (jM (aa 0) au) (jM (jM (aa 1) (aa 1)) au)) au) au)))
theorem uH (F:Fun K "_law_patterns" "_law_patterns" j0 f fd)(T:Tx__law_patterns P w K mg base cl A):FnOk P w K mg base CX0 1 f fd ["_law_n"] (spM ⟨K,cl⟩ dF false):=by
 refine fok F sc__law_patterns (G:=[1]) (G':=[1]) (L:=[]) λ_ _ _ _ _ _ hr _ _=>?_
 exact(ao (cV 1 sc__law_patterns.nd (bN az)) (ao (bW [2,3,4] (lZ T.z_range (bh au (fY (aa 0) au))) (gj 2 sc__law_patterns.nd) (ao (aN 3 sc__law_patterns.nd fX) (ao (bW [4] (lZ T.z_range (bh au (fY (ik (aa 0) (bh au (jM au (aa 2)))) au))) (gj 4 sc__law_patterns.nd) (aC (aN 3 sc__law_patterns.nd (bh (aa 3) (aK hr fX (fY (ik (aa 0) (bh (bh au (jM au (aa 2))) (jM au (aa 4)))) au))))) ba) (aC (cJ (bj (yW hr (aa 3) (oO 1))) (aC (gY 1 (aa 3))) bK)))) ba) (aC (aQ (zg T.z_tuple (oO 1))))))
theorem xQ (F:Fun K "_law_metre" "_law_metre" m_ f fd)(T:Tx__law_metre P w K mg base cl A):FnOk P w K mg base CX0 2 f fd ["_law_cells"] (spM ⟨K,cl⟩ fO false):=by
 refine fok F sc__law_metre (G:=[1]) (G':=[1]) (L:=[]) λ_ _ _ _ _ _ hr _ _=>?_
 exact(ao (cV 1 sc__law_metre.nd (bN az)) (ao (bW [2,3,4] (jz T.z_enumerate (aa 0) (λ_=>by intro z;cases z)) (iJ (aX 2 sc__law_metre.nd (aX 3 sc__law_metre.nd cW))) (ao (aN 4 sc__law_metre.nd (aG T.c__law_mixed hr (aj (aa 3) (aj (aa 2) az)))) (aC (gY 1 (cg (aj (aG T.c__law_patterns hr (aj (ik (aa 4) au) az)) (aj (iH (gW hr (fY (aa 4) au) au)) az)))))) ba) (aC (aQ (zg T.z_tuple (oO 1))))))
theorem Af (F:Fun K "states_of" "states_of" lC f fd)(T:Tx_states_of P w K mg base cl A):FnOk P w K mg base CX0 1 f fd ["metre"] (spM ⟨K,cl⟩ iU false):=by
 refine fok F sc_states_of (G:=[1]) (G':=[]) (L:=[]) λ_ _ _ _ _ _ hr _ _=>?_
 exact(ao (cV 1 sc_states_of.nd (bN az)) (ao (bW [2,3,4,5] (jz T.z_enumerate (aa 0) (λ_=>by intro z;cases z)) (iJ (aX 2 sc_states_of.nd (aX 3 sc_states_of.nd cW))) (ao (gY 1 (cg (aj (aa 2) (aj au (aj au az))))) (aC (bW [4,5] (jz T.z_enumerate (aK hr (aa 3) au) (λ_=>by intro z;cases z)) (iJ (aX 4 sc_states_of.nd (aX 5 sc_states_of.nd cW))) (aC (yd 1 (SE.val (jf (osc:=(aF lC)) (ON:=["metre", "states", "slot", "told", "number", "pattern"]) (N:=["at", "slot", "number"]) (cap:=[none,some 2,some 4]) csc (ug 0) (TQ T.z_range au (aY T.z_len (aa 5))) (λ_ _ _ _=>iT 0) (λ_ _ _ _=>iM) (λ_ _ _ _=>(cg (aj (aa 1) (aj (aa 2) (aj (aa 0) az))))))))) ba))) ba) (d_ (G1:=[]) (aC (aQ (aa 1))))))
theorem Ag (F:Fun K "end_state" "end_state" o8 f fd)(T:Tx_end_state P w K mg base cl A):FnOk P w K mg base CX0 1 f fd ["metre"] (spM ⟨K,cl⟩ dm false):=by
 refine fok F Ad (G:=[]) (G':=[]) (L:=[]) λ_ _ _ _ _ _ hr _ _=>?_
 exact(aC (aQ (cg (aj (aY T.z_len (aa 0)) (aj au (aj au az))))))
theorem vB (F:Fun K "state_behind" "state_behind" kJ f fd)(T:Tx_state_behind P w K mg base cl A):FnOk P w K mg base CX0 1 f fd ["metre", "state", "ends"] (spM ⟨K,cl⟩ dW false):=by
 refine fok F sc_state_behind (G:=[]) (G':=[]) (L:=[]) λ_ _ _ _ _ _ hr _ _=>?_
 exact(ao (aN 3 sc_state_behind.nd (aK hr (aa 1) au)) (ao (aN 4 sc_state_behind.nd (bh (aK hr (aa 1) au) au)) (ao (cJ (bj (pL hr (aa 4) (aY T.z_len (aK hr (aK hr (aK hr (aa 0) (aa 3)) au) (aK hr (aa 1) au))))) (aC (aQ (cg (aj (aa 3) (aj (aK hr (aa 1) au) (aj (aa 4) az)))))) bK) (ao (cJ (SW.st (lH (dJ (aK hr (aK hr (aa 0) (aa 3)) au)) (j9 (dM (dJ (aa 2)))))) (aC (aQ cC)) bK) (aC (aQ (cg (aj (bh (aa 3) au) (aj au (aj au az))))))))))
theorem xR (F:Fun K "stands_for" "stands_for" nj f fd)(T:Tx_stands_for P w K mg base cl A):FnOk P w K mg base CX0 1 f fd ["sign", "mark"] (spM ⟨K,cl⟩ dB false):=by
 refine fok F xN (G:=[]) (G':=[]) (L:=[]) λ_ _ _ _ _ _ hr _ _=>?_
 exact(aC (aQ (x_ (iH (gW hr (aa 0) (aa 1))) (mK (iH (gW hr (aa 0) fX))))))
theorem Bd (F:Fun K "moves_of" "moves_of" qI f fd)(T:Tx_moves_of P w K mg base cl A):FnOk P w K mg base CX0 2 f fd ["metre", "state", "mark", "ends"] (spM ⟨K,cl⟩ cL false):=by
 refine fok F sc_moves_of (G:=[8]) (G':=[]) (L:=[]) λ_ _ _ _ _ _ hr _ _=>?_
 exact(ao (cJ (bj (gW hr (aa 1) (aG T.c_end_state hr (aj (aa 0) az)))) (aC (aQ (SE.val (bN az)))) bK) (ao (aN 4 sc_moves_of.nd (aK hr (aa 1) au)) (ao (aN 5 sc_moves_of.nd (aK hr (aa 1) au)) (ao (aN 6 sc_moves_of.nd (aK hr (aK hr (aa 0) (aa 4)) au)) (ao (aN 7 sc_moves_of.nd (Dq (bj (gW hr (aa 5) au)) (SE.val (Jd T.z_list T.z_range (aY T.z_len (aa 6)))) (SE.val (bN (aj (aK hr (aa 1) au) az))))) (ao (cV 8 sc_moves_of.nd (bN az)) (ao (bW [9,10] (gZ (aa 7) (λ_=>by intro z;cases z)) (gj 9 sc_moves_of.nd) (ao (aN 10 sc_moves_of.nd (aG T.c_state_behind hr (aj (aa 0) (aj (cg (aj (aa 4) (aj (aa 9) (aj (aa 5) az)))) (aj (aa 3) az))))) (aC (cJ (SW.st (lH (bj (mJ (aa 10) cC)) (j9 (dJ (aG T.c_stands_for hr (aj (aK hr (aK hr (aa 6) (aa 9)) (aa 5)) (aj (aa 2) az))))))) (aC (gY 8 (cg (aj (aa 9) (aj (aa 10) az))))) bK))) ba) (d_ (G1:=[]) (aC (aQ (aa 8)))))))))))
theorem Be (F:Fun K "steps_by" "steps_by" my f fd)(T:Tx_steps_by P w K mg base cl A):FnOk P w K mg base CX0 3 f fd ["metre", "mark", "ends"] (spM ⟨K,cl⟩ dI false):=by
 refine fok F sc_steps_by (G:=[3]) (G':=[]) (L:=[]) λ_ _ _ _ _ _ hr _ _=>?_
 exact(ao (cV 3 sc_steps_by.nd (bN az)) (ao (bW [4] (gZ (aG T.c_states_of hr (aj (aa 0) az)) (λ_=>by intro z;cases z)) (gj 4 sc_steps_by.nd) (aC (yd 3 (SE.val (jf (osc:=(aF my)) (ON:=["metre", "mark", "ends", "steps", "state"]) (N:=["pattern", "reached", "state"]) (cap:=[none,none,some 4]) csc (za [0,1]) (gZ (aG T.c_moves_of hr (aj (aa 0) (aj (aa 4) (aj (aa 1) (aj (aa 2) az))))) (λz=>by cases z)) (λ_ _ _ _=>pD rfl (eZ (iT 0) (eZ (iT 1) mz))) (λ_ _ _ _=>iM) (λ_ _ _ _=>(cg (aj (aa 2) (aj (aa 1) az)))))))) ba) (d_ (G1:=[]) (aC (aQ (aa 3))))))
theorem Ah (F:Fun K "all_steps" "all_steps" o9 f fd)(T:Tx_all_steps P w K mg base cl A):FnOk P w K mg base CX0 4 f fd ["metre"] (spM ⟨K,cl⟩ iW false):=by
 refine fok F sc_all_steps (G:=[1]) (G':=[]) (L:=[]) λ_ _ _ _ _ _ hr _ _=>?_
 exact(ao (cV 1 sc_all_steps.nd Dr) (ao (bW [2,3] (gZ (cg (aj fX (aj fX az))) (λ_=>by intro z;cases z)) (gj 2 sc_all_steps.nd) (aC (bW [3] (gZ (cg (aj fW (aj fW az))) (λ_=>by intro z;cases z)) (gj 3 sc_all_steps.nd) (aC (Dv 1 hr (cg (aj (aa 2) (aj (aa 3) az))) (aG T.c_steps_by hr (aj (aa 0) (aj (aa 2) (aj (aa 3) az)))))) ba)) ba) (d_ (G1:=[]) (aC (aQ (aa 1))))))
theorem Ai (F:Fun K "walked_by" "walked_by" lD f fd)(T:Tx_walked_by P w K mg base cl A):FnOk P w K mg base CX0 1 f fd ["steps", "option", "ends", "states"] (spM ⟨K,cl⟩ dR false):=by
 refine fok F Ae (G:=[]) (G':=[]) (L:=[]) λ_ _ _ _ _ _ hr _ _=>?_
 exact(aC (aQ (Dq (bj (xZ (aa 1) cC)) (SE.val (jf (osc:=(aF lD)) (ON:=["steps", "option", "ends", "states"]) (N:=["state"]) (cap:=[none]) csc (ug 0) (TY (aa 3)) (λ_ _ _ _=>iT 0) (λ_ _ _ _=>iM) (λ_ _ _ _=>(cg (aj (aa 0) (aj (aa 0) az)))))) (aK hr (aa 0) (cg (aj (aK hr (aa 1) au) (aj (aa 2) az)))))))
theorem vC (F:Fun K "counts_ahead" "counts_ahead" kO f fd)(T:Tx_counts_ahead P w K mg base cl A):FnOk P w K mg base CX0 2 f fd ["steps", "options", "ends", "behind"] (spM ⟨K,cl⟩ f9 false):=by
 refine fok F sc_counts_ahead (G:=[4]) (G':=[]) (L:=[]) λ_ _ _ _ _ _ hr _ _=>?_
 exact(ao (cV 4 sc_counts_ahead.nd Dr) (ao (bW [5,6,7] (gZ (aa 1) (λ_=>by intro z;cases z)) (gj 5 sc_counts_ahead.nd) (aC (bW [6,7] (gZ (aG T.c_walked_by hr (aj (aa 0) (aj (aa 5) (aj (aa 2) (aj (aa 3) az))))) (λ_=>by intro z;cases z)) (iJ (aX 6 sc_counts_ahead.nd (aX 7 sc_counts_ahead.nd cW))) (aC (cJ (bj (Dp hr (aa 7) (aa 3))) (aC (Dv 4 hr (aa 6) (bh (v6 hr (oO 4) (aa 6) au) (aK hr (aa 3) (aa 7))))) bK)) ba)) ba) (d_ (G1:=[]) (aC (aQ (aa 4))))))
theorem xT (F:Fun K "options_in" "options_in" nq f fd)(T:Tx_options_in P w K mg base cl A):FnOk P w K mg base CX0 1 f fd ["table"] (spM ⟨K,cl⟩ bQ false):=by
 refine fok F sc_options_in (G:=[1]) (G':=[]) (L:=[]) λ_ _ _ _ _ _ hr _ _=>?_
 exact(ao (cV 1 sc_options_in.nd (bN az)) (ao (bW [2] (gZ (aa 0) (λ_=>by intro z;cases z)) (gj 2 sc_options_in.nd) (aC (yd 1 (aa 2))) ba) (d_ (G1:=[]) (aC (aQ (aa 1))))))
theorem Eh (F:Fun K "ends_in" "ends_in" sJ f fd)(T:Tx_ends_in P w K mg base cl A):FnOk P w K mg base CX0 1 f fd ["table"] (spM ⟨K,cl⟩ cO false):=by
 refine fok F sc_ends_in (G:=[1]) (G':=[]) (L:=[]) λ_ _ _ _ _ _ hr _ _=>?_
 exact(ao (cV 1 sc_ends_in.nd (bN az)) (ao (bW [2] (gZ (aa 0) (λ_=>by intro z;cases z)) (gj 2 sc_ends_in.nd) (aC (yd 1 (SE.val (uU (Gx (bN (aj fW az)) (uV (aY T.z_len (aa 2)) au)) (bN (aj fW az)))))) ba) (d_ (G1:=[]) (aC (aQ (aa 1))))))
theorem pR (F:Fun K "counts_by_syllable" "counts_by_syllable" ie f fd)(T:Tx_counts_by_syllable P w K mg base cl A):FnOk P w K mg base CX0 5 f fd ["table", "metre"] (spM ⟨K,cl⟩ a_ false):=by
 refine fok F sc_counts_by_syllable (G:=[4]) (G':=[4]) (L:=[]) λ_ _ _ _ _ _ hr _ _=>?_
 exact(ao (aN 2 sc_counts_by_syllable.nd (aG T.c_all_steps hr (aj (aa 1) az))) (ao (aN 3 sc_counts_by_syllable.nd (SE.val (DQ hr (aG T.c_end_state hr (aj (aa 1) az)) au))) (ao (cV 4 sc_counts_by_syllable.nd (bN (aj (aa 3) az))) (ao (bW [5,6] (Bw T.z_reversed (Jh T.z_list T.z_zip (aG T.c_options_in hr (aj (aa 0) az)) (aG T.c_ends_in hr (aj (aa 0) az))) (λ_=>by intro z;cases z)) (iJ (aX 5 sc_counts_by_syllable.nd (aX 6 sc_counts_by_syllable.nd cW))) (ao (aN 3 sc_counts_by_syllable.nd (aG T.c_counts_ahead hr (aj (aa 2) (aj (aa 5) (aj (aa 6) (aj (aa 3) az)))))) (aC (gY 4 (aa 3)))) ba) (aC (aQ (SE.val (zj T.z_list T.z_reversed (oO 4)))))))))
theorem uI (F:Fun K "many_readings" "many_readings" j4 f fd)(T:Tx_many_readings P w K mg base cl A):FnOk P w K mg base CX0 6 f fd ["table", "metre"] (spM ⟨K,cl⟩ fj false):=by
 refine fok F uG (G:=[]) (G':=[]) (L:=[]) λ_ _ _ _ _ _ hr _ _=>?_
 exact(aC (aQ (v7 hr (aK hr (aG T.c_counts_by_syllable hr (aj (aa 0) (aj (aa 1) az))) au) (uT T.g_START (T.r_START)) au)))
theorem xU (F:Fun K "_law_marks" "_law_marks" nu f fd)(T:Tx__law_marks P w K mg base cl A):FnOk P w K mg base CX0 1 f fd ["_law_metre_here", "_law_feet"] (spM ⟨K,cl⟩ cP false):=by
 refine fok F sc__law_marks (G:=[2]) (G':=[]) (L:=[]) λ_ _ _ _ _ _ hr _ _=>?_
 exact(ao (cV 2 sc__law_marks.nd (bN az)) (ao (bW [3,6,7,4,5] (lZ T.z_range (aY T.z_len (aa 0))) (gj 3 sc__law_marks.nd) (ao (Dw (aK hr (aa 0) (aa 3)) (iJ (aX 4 sc__law_marks.nd (aX 5 sc__law_marks.nd cW)))) (ao (aN 6 sc__law_marks.nd (aK hr (aa 4) (aK hr (aa 1) (aa 3)))) (aC (bW [7] (lZ T.z_range (aY T.z_len (aa 6))) (gj 7 sc__law_marks.nd) (aC (gY 2 (cg (aj (aK hr (aa 6) (aa 7)) (aj (uW (aa 5) (mK (iH (gW hr (bh (aa 7) au) (aY T.z_len (aa 6)))))) az))))) ba)))) ba) (d_ (G1:=[]) (aC (aQ (aa 2))))))
theorem vD (F:Fun K "_law_options" "_law_options" gQ f fd)(T:Tx__law_options P w K mg base cl A):FnOk P w K mg base CX0 1 f fd ["_law_n", "_law_last"] (spM ⟨K,cl⟩ dX false):=by
 refine fok F sc__law_options (G:=[]) (G':=[]) (L:=[]) λ_ _ _ _ _ _ hr _ _=>?_
 exact(ao (aN 2 sc__law_options.nd (SE.val (bN (aj (cg (aj au (aj fX az))) (aj (cg (aj au (aj fX az))) (aj (cg (aj au (aj fX az))) (aj cC az))))))) (ao (zb 3 sc__law_options.nd (osc:=(aF gQ)) (ON:=["_law_n", "_law_last", "_law_some", "_law_found"]) (N:=["_law_k", "_law_some", "_law_n"]) (cap:=[none,some 2,some 0]) csc (ug 0) (lZ T.z_range au) (λ_ _ _ _=>iT 0) (λ_ _ _ _=>p6 (bj (gW hr (fY (ik (aa 2) (aK hr (bN (aj au (aj au (aj au (aj au az))))) (aa 0))) au) au))) (λ_ _ _ _=>(aK hr (aa 1) (fY (bh (ik (aa 2) au) (aa 0)) au)))) (ao (cJ (dM (dJ (aa 1))) (aC (zb 3 sc__law_options.nd (osc:=(aF gQ)) (ON:=["_law_n", "_law_last", "_law_some", "_law_found"]) (N:=["_law_option"]) (cap:=[none]) csc (ug 0) (gZ (aa 3) (λz=>by cases z)) (λ_ _ _ _=>iT 0) (λ_ _ _ _=>p6 (bj (mJ (aa 0) cC))) (λ_ _ _ _=>(aa 0)))) bK) (aC (aQ (aa 3))))))
theorem Aj (F:Fun K "_law_with" "_law_with" o_ f fd)(T:Tx__law_with P w K mg base cl A):FnOk P w K mg base CX0 2 f fd ["_law_n", "_law_last", "_law_option"] (spM ⟨K,cl⟩ bR false):=by
 refine fok F sc__law_with (G:=[]) (G':=[]) (L:=[]) λ_ _ _ _ _ _ hr _ _=>?_
 exact(ao (aN 3 sc__law_with.nd (aG T.c__law_options hr (aj (aa 0) (aj (aa 1) az)))) (ao (cJ (bj (Dp hr (aa 2) (aa 3))) (aC (aQ (aa 3))) bK) (ao (aN 4 sc__law_with.nd (fY (ik (aa 0) au) (bh (aY T.z_len (aa 3)) au))) (aC (aQ (SE.val (uU (uU (oh (aa 3) pJ (gB (aa 4))) (bN (aj (aa 2) az))) (oh (aa 3) (gB (aa 4)) pJ))))))))
theorem Bf (F:Fun K "_law_fit" "_law_fit" qJ f fd)(T:Tx__law_fit P w K mg base cl A):FnOk P w K mg base CX0 3 f fd ["_law_metre_here", "_law_feet", "_law_n"] (spM ⟨K,cl⟩ jt false):=by
 refine fok F sc__law_fit (G:=[4]) (G':=[]) (L:=[]) λ_ _ _ _ _ _ hr _ _=>?_
 exact(Mi (Rp 3 sc__law_fit.nd (BK Gz)) (v4 (jP λ_ _ _=>(cV 4 sc__law_fit.nd (bN az))) (v4 (jP λ_ _ _=>(aN 5 sc__law_fit.nd (aG T.c__law_marks hr (aj (aa 0) (aj (aa 1) az))))) (v4 (TX [6,7,10,11,8,9] (λ_ _ _=>(lZ T.z_range (aY T.z_len (aa 5)))) (λ_ _ _=>(gj 6 sc__law_fit.nd)) (jr (jP λ_ _ _=>(aN 7 sc__law_fit.nd (aG T.c__law_mixed hr (aj (aa 2) (aj (bh (jM au (aa 6)) au) az))))) (jr (Ro (λ_ _ _=>(SW.st (lH (bj (gW hr (fY (aa 7) au) au)) (j9 (bj (pL hr (bh (aY T.z_len (oO 4)) (aY T.z_len (aa 5))) (bh au (aa 6)))))))) (jr (Ka 3 (λ_ _ _=>(uX au)) (λ_ _ _=>(aG T.c__law_with hr (aj (ik (aa 7) au) (aj fW (aj cC az)))))) (jr (jP λ_ _ _=>(gY 4 cC)) (DP (Kc 3)))) J_) (jr (jP λ_ _ _=>(Dw (aK hr (aa 5) (aa 6)) (iJ (aX 8 sc__law_fit.nd (aX 9 sc__law_fit.nd cW))))) (jr (jP λ_ _ _=>(cJ (bj (gW hr (aa 8) fX)) (aC (aN 8 sc__law_fit.nd (aK hr (bN (aj fX (aj fX az))) (fY (ik (aa 7) au) au)))) bK)) (jr (jP λ_ _ _=>(aN 10 sc__law_fit.nd (cg (aj (LK T.z_int (uW (iH (gW hr (aa 8) fX)) (mK (iH (gW hr (fY (ik (aa 7) au) au) au))))) (aj (aa 8) az))))) (jr (jP λ_ _ _=>(aN 11 sc__law_fit.nd (x_ (aa 9) (x_ (iH (gW hr (bh (aa 6) au) (aY T.z_len (aa 5)))) (mK (iH (gW hr (fY (ik (aa 7) au) au) au))))))) (jr (Ka 3 (λ_ _ _=>(uX au)) (λ_ _ _=>(aG T.c__law_with hr (aj (ik (aa 7) au) (aj (aa 11) (aj (aa 10) az)))))) (jr (jP λ_ _ _=>(gY 4 (aa 10))) (DP (Ro (λ_ _ _=>(SW.st (lH (dJ (aa 11)) (j9 (bj (pL hr (bh (aa 6) au) (aY T.z_len (aa 5)))))))) (DP (Kc 3)) J_)))))))))) ba) (Mh (d_ (G1:=[]) (aC (aQ (SE.val (bN (aj (aa 3) (aj (aa 4) az))))))))))))
theorem Ak (F:Fun K "chosen_by" "chosen_by" ph f fd)(T:Tx_chosen_by P w K mg base cl A):FnOk P w K mg base CX0 1 f fd ["counts", "number"] (spM ⟨K,cl⟩ cz false):=by
 refine fok F sc_chosen_by (G:=[]) (G':=[]) (L:=[]) λ_ _ _ _ _ _ hr _ _=>?_
 exact(ao (aN 2 sc_chosen_by.nd au) (ao (aN 3 sc_chosen_by.nd (aa 1)) (ao (LR 1000000 [] (bj (J8 (aa 3) (aK hr (aa 0) (aa 2)))) (ao (aN 3 sc_chosen_by.nd (uV (aa 3) (aK hr (aa 0) (aa 2)))) (aC (aN 2 sc_chosen_by.nd (bh (aa 2) au)))) ba) (aC (aQ (cg (aj (aa 2) (aj (aa 3) az))))))))
theorem Ei (F:Fun K "ways_on" "ways_on" sO f fd)(T:Tx_ways_on P w K mg base cl A):FnOk P w K mg base CX0 3 f fd ["metre", "ways", "option", "ends"] (spM ⟨K,cl⟩ cu false):=by
 refine fok F sc_ways_on (G:=[4]) (G':=[]) (L:=[]) λ_ _ _ _ _ _ hr _ _=>?_
 exact(ao (cJ (bj (xZ (aa 2) cC)) (aC (aQ (aa 1))) bK) (ao (cV 4 sc_ways_on.nd Dr) (ao (bW [5,6,7,8] (Kd (aa 1) (λ_=>by intro z;cases z)) (iJ (aX 5 sc_ways_on.nd (aX 6 sc_ways_on.nd cW))) (aC (bW [7,8] (gZ (aG T.c_moves_of hr (aj (aa 0) (aj (aa 5) (aj (aK hr (aa 2) au) (aj (aa 3) az))))) (λ_=>by intro z;cases z)) (iJ (aX 7 sc_ways_on.nd (aX 8 sc_ways_on.nd cW))) (aC (Dv 4 hr (aa 8) (bh (v6 hr (oO 4) (aa 8) au) (aa 6)))) ba)) ba) (d_ (G1:=[]) (aC (aQ (aa 4)))))))
theorem Ob (F:Fun K "fits" "fits" vz f fd)(T:Tx_fits P w K mg base cl A):FnOk P w K mg base CX0 2 f fd ["pattern", "cut", "part"] (spM ⟨K,cl⟩ jg false):=by
 refine fok F Oa (G:=[]) (G':=[]) (L:=[]) λ_ _ _ _ _ _ hr _ _=>?_
 exact(ao (cJ (bj (k_ hr (aY T.z_len (aa 2)) (aY T.z_len (aa 0)))) (aC (aQ fW)) bK) (ao (cJ (dM (dJ (Gp T.z_all (jf (osc:=(aF vz)) (ON:=["pattern", "cut", "part"]) (N:=["sign", "said"]) (cap:=[none,none]) csc (za [0,1]) (mC T.z_zip (aa 0) (aa 2) (λz=>by cases z) (λz=>by cases z)) (λ_ _ _ _=>pD rfl (eZ (iT 0) (eZ (iT 1) mz))) (λ_ _ _ _=>iM) (λ_ _ _ _=>(aG T.c_stands_for hr (aj (aa 0) (aj (aK hr (aa 1) au) az)))))))) (aC (aQ fW)) bK) (aC (aQ (x_ (aK hr (aK hr (aa 2) (uX au)) au) (mK (Gn (aa 1))))))))
theorem qM (F:Fun K "counts_by_pattern" "counts_by_pattern" iB f fd)(T:Tx_counts_by_pattern P w K mg base cl A):FnOk P w K mg base CX0 3 f fd ["slot", "row", "start", "behind"] (spM ⟨K,cl⟩ aU false):=by
 refine fok F sc_counts_by_pattern (G:=[4]) (G':=[]) (L:=[]) λ_ _ _ _ _ _ hr _ _=>?_
 exact(ao (cV 4 sc_counts_by_pattern.nd (bN az)) (ao (bW [5,6] (gZ (aK hr (aa 0) au) (λ_=>by intro z;cases z)) (gj 5 sc_counts_by_pattern.nd) (ao (aN 6 sc_counts_by_pattern.nd (bh (aa 2) (aY T.z_len (aa 5)))) (aC (gY 4 (Dq (dJ (aG T.c_fits hr (aj (aa 5) (aj (aK hr (aa 0) au) (aj (oh (aa 1) (gB (aa 2)) (gB (aa 6))) az))))) (aK hr (aa 3) (aa 6)) au)))) ba) (d_ (G1:=[]) (aC (aQ (aa 4))))))
theorem tQ (F:Fun K "counts_by_slot" "counts_by_slot" ig f fd)(T:Tx_counts_by_slot P w K mg base cl A):FnOk P w K mg base CX0 4 f fd ["metre", "row"] (spM ⟨K,cl⟩ cD false):=by
 refine fok F sc_counts_by_slot (G:=[3]) (G':=[3]) (L:=[]) λ_ _ _ _ _ _ hr _ _=>?_
 exact(ao (aN 2 sc_counts_by_slot.nd (SE.val (uU (Gx (bN (aj au az)) (aY T.z_len (aa 1))) (bN (aj au az))))) (ao (cV 3 sc_counts_by_slot.nd (bN (aj (aa 2) az))) (ao (bW [4] (Bw T.z_reversed (aa 0) (λ_=>by intro z;cases z)) (gj 4 sc_counts_by_slot.nd) (ao (aN 2 sc_counts_by_slot.nd (SE.val (jf (osc:=(aF ig)) (ON:=["metre", "row", "behind", "backwards", "slot"]) (N:=["start", "slot", "row", "behind"]) (cap:=[none,some 4,some 1,some 2]) csc (ug 0) (lZ T.z_range (bh (aY T.z_len (aa 1)) au)) (λ_ _ _ _=>iT 0) (λ_ _ _ _=>iM) (λ_ _ _ _=>(u6 T.z_sum (aG T.c_counts_by_pattern hr (aj (aa 1) (aj (aa 2) (aj (aa 0) (aj (aa 3) az)))))))))) (aC (gY 3 (aa 2)))) ba) (aC (aQ (SE.val (zj T.z_list T.z_reversed (oO 3))))))))
theorem Ej (F:Fun K "feet_at" "feet_at" sS f fd)(T:Tx_feet_at P w K mg base cl A):FnOk P w K mg base CX0 5 f fd ["metre", "row", "number"] (spM ⟨K,cl⟩ jX false):=by
 refine fok F sc_feet_at (G:=[4]) (G':=[]) (L:=[]) λ_ _ _ _ _ _ hr _ _=>?_
 exact(ao (aN 3 sc_feet_at.nd (aG T.c_counts_by_slot hr (aj (aa 0) (aj (aa 1) az)))) (ao (cV 4 sc_feet_at.nd (bN az)) (ao (aN 5 sc_feet_at.nd au) (ao (aN 6 sc_feet_at.nd (aa 2)) (ao (bW [7,8,9] (jz T.z_enumerate (aa 0) (λ_=>by intro z;cases z)) (iJ (aX 7 sc_feet_at.nd (aX 8 sc_feet_at.nd cW))) (ao (aN 9 sc_feet_at.nd (aG T.c_chosen_by hr (aj (aG T.c_counts_by_pattern hr (aj (aa 8) (aj (aa 1) (aj (aa 5) (aj (aK hr (aa 3) (bh (aa 7) au)) az))))) (aj (aa 6) az)))) (ao (gY 4 (aK hr (aa 9) au)) (ao (aN 5 sc_feet_at.nd (bh (aa 5) (aY T.z_len (aK hr (aK hr (aa 8) au) (aK hr (aa 9) au))))) (aC (aN 6 sc_feet_at.nd (aK hr (aa 9) au)))))) ba) (d_ (G1:=[]) (aC (aQ (aa 4)))))))))
theorem qX (F:Fun K "counts_by_option" "counts_by_option" gh f fd)(T:Tx_counts_by_option P w K mg base cl A):FnOk P w K mg base CX0 4 f fd ["metre", "ways", "options", "ends", "behind"] (spM ⟨K,cl⟩ bu false):=by
 refine fok F sc_counts_by_option (G:=[5]) (G':=[]) (L:=[]) λ_ _ _ _ _ _ hr _ _=>?_
 exact(ao (cV 5 sc_counts_by_option.nd (bN az)) (ao (bW [6,7] (gZ (aa 2) (λ_=>by intro z;cases z)) (gj 6 sc_counts_by_option.nd) (ao (aN 7 sc_counts_by_option.nd (aG T.c_ways_on hr (aj (aa 0) (aj (aa 1) (aj (aa 6) (aj (aa 3) az)))))) (aC (gY 5 (u6 T.z_sum (jf (osc:=(aF gh)) (ON:=["metre", "ways", "options", "ends", "behind", "counts", "option", "reached"]) (N:=["state", "many", "behind"]) (cap:=[none,none,some 4]) csc (za [0,1]) (Kd (aa 7) (λz=>by cases z)) (λ_ _ _ _=>pD rfl (eZ (iT 0) (eZ (iT 1) mz))) (λ_ _ _ _=>iM) (λ_ _ _ _=>(jM (aa 1) (v6 hr (aa 2) (aa 0) au)))))))) ba) (d_ (G1:=[]) (aC (aQ (aa 5))))))
theorem Ek (F:Fun K "said_of" "said_of" oJ f fd)(T:Tx_said_of P w K mg base cl A):FnOk P w K mg base CX0 2 f fd ["table", "saying"] (spM ⟨K,cl⟩ cR false):=by
 refine fok F Eg (G:=[]) (G':=[]) (L:=[]) λ_ _ _ _ _ _ hr _ _=>?_
 exact(aC (aQ (SE.val (jf (osc:=(aF oJ)) (ON:=["table", "saying"]) (N:=["option", "ends"]) (cap:=[none,none]) csc (za [0,1]) (mC T.z_zip (aa 1) (aG T.c_ends_in hr (aj (aa 0) az)) (λz=>by cases z) (λz=>by cases z)) (λ_ _ _ _=>pD rfl (eZ (iT 0) (eZ (iT 1) mz))) (λ_ _ _ _=>p6 (bj (mJ (aa 0) cC))) (λ_ _ _ _=>(cg (aj (aK hr (aa 0) au) (aj (aa 1) az))))))))
theorem wF {f:Addr}{fd:FuncData}(F:Fun K "reading_at" "reading_at" nA f fd)(T:Tx_reading_at P w K mg base cl A):FnOk P w K mg base (CXW P w K) 6 f fd ["table", "metre", "number"] (spX ⟨K,cl⟩ cT false fQ):=by
 refine Mt F sc_reading_at (λvs H Q E h=>Ms rfl h) (λcdv A' outer s H vs Q E hr h=>Jm (G:=[5]) (G':=[]) (L:=[]) (N:=["table", "metre", "number", "by_syllable", "ends", "saying", "ways", "rest", "at", "options", "found", "option"]) rfl (by decide) (by decide) (λB H'=>?_) (λB H'=>?_) h)
 ·exact(ao (aN 3 sc_reading_at.nd (aG T.c_counts_by_syllable hr (aj (aa 0) (aj (aa 1) az)))) (ao (cJ (dM (qi xW uK au (aa 2) (v7 hr (aK hr (aa 3) au) (uT T.g_START (T.r_START)) au))) (aC Q8) bK) (ao (aN 4 sc_reading_at.nd (aG T.c_ends_in hr (aj (aa 0) az))) (ao (cV 5 sc_reading_at.nd (bN az)) (ao (aN 6 sc_reading_at.nd (SE.val (DQ hr (uT T.g_START (T.r_START)) au))) (ao (aN 7 sc_reading_at.nd (aa 2)) (ao (bW [8,9,10,11] (jz T.z_enumerate (aG T.c_options_in hr (aj (aa 0) az)) (λ_=>by intro z;cases z)) (iJ (aX 8 sc_reading_at.nd (aX 9 sc_reading_at.nd cW))) (ao (aN 10 sc_reading_at.nd (aG T.c_chosen_by hr (aj (aG T.c_counts_by_option hr (aj (aa 1) (aj (aa 6) (aj (aa 9) (aj (aK hr (aa 4) (aa 8)) (aj (aK hr (aa 3) (bh (aa 8) au)) az)))))) (aj (aa 7) az)))) (ao (aN 11 sc_reading_at.nd (aK hr (aa 9) (aK hr (aa 10) au))) (ao (gY 5 (aa 11)) (ao (aN 6 sc_reading_at.nd (aG T.c_ways_on hr (aj (aa 1) (aj (aa 6) (aj (aa 11) (aj (aK hr (aa 4) (aa 8)) az)))))) (aC (aN 7 sc_reading_at.nd (aK hr (aa 10) au))))))) ba) (d_ (G1:=[]) (aC (aQ (cg (aj (aa 5) (aj (aG T.c_feet_at hr (aj (aa 1) (aj (aG T.c_said_of hr (aj (aa 0) (aj (aa 5) az))) (aj (aa 7) az)))) az)))))))))))))
 ·exact(Jk (L:=[]) (ro:=false) (PS.nox (aN 3 sc_reading_at.nd (aG T.c_counts_by_syllable hr (aj (aa 0) (aj (aa 1) az))))) (ur (T5 T4 (dM (qi xW uK au (aa 2) (v7 hr (aK hr (aa 3) au) (uT T.g_START (T.r_START)) au))) (ur (Jl 11 PySem.F.excBase_ValueError T.e_NoReading T.m_NoReading (aj fX az))) Rt)))
theorem wG (F:Fun K "_law_places" "_law_places" lR f fd)(T:Tx__law_places P w K mg base cl A):FnOk P w K mg base CX0 1 f fd ["_law_grid", "_law_saying"] (spM ⟨K,cl⟩ gK false):=by
 refine fok F sc__law_places (G:=[2]) (G':=[]) (L:=[]) λ_ _ _ _ _ _ hr _ _=>?_
 exact(ao (cV 2 sc__law_places.nd (bN az)) (ao (bW [3,4,5] (gZ (aa 0) (λ_=>by intro z;cases z)) (gj 3 sc__law_places.nd) (aC (bW [4,5] (gZ (aa 3) (λ_=>by intro z;cases z)) (gj 4 sc__law_places.nd) (ao (aN 5 sc__law_places.nd (aY T.z_len (oO 2))) (ao (cJ (SW.st (n_ (bj (J8 (aa 5) (aY T.z_len (aa 1)))) (mL (bj (yW hr (aK hr (aa 1) (aa 5)) (aa 4)))))) (aC (aQ cC)) bK) (aC (gY 2 (zm hr (aa 4) (aK hr (aa 1) (aa 5))))))) ba)) ba) (ao (cJ (bj (k_ hr (aY T.z_len (oO 2)) (aY T.z_len (aa 1)))) (aC (aQ cC)) bK) (d_ (G1:=[]) (aC (aQ (aa 2)))))))
theorem Bg (F:Fun K "_law_row" "_law_row" qK f fd)(T:Tx__law_row P w K mg base cl A):FnOk P w K mg base CX0 1 f fd ["_law_grid", "_law_saying"] (spM ⟨K,cl⟩ iu false):=by
 refine fok F sc__law_row (G:=[2]) (G':=[]) (L:=[]) λ_ _ _ _ _ _ hr _ _=>?_
 exact(ao (cV 2 sc__law_row.nd (bN az)) (ao (aN 3 sc__law_row.nd au) (ao (bW [4,5] (gZ (aa 0) (λ_=>by intro z;cases z)) (gj 4 sc__law_row.nd) (aC (bW [5] (lZ T.z_range (aY T.z_len (aa 4))) (gj 5 sc__law_row.nd) (ao (cJ (bj (mJ (aK hr (aa 1) (aa 3)) cC)) (aC (gY 2 (cg (aj (aK hr (aK hr (aa 1) (aa 3)) au) (aj (iH (gW hr (bh (aa 5) au) (aY T.z_len (aa 4)))) az))))) bK) (aC (aN 3 sc__law_row.nd (bh (aa 3) au)))) ba)) ba) (d_ (G1:=[]) (aC (aQ (aa 2)))))))
theorem xV (F:Fun K "_law_whole" "_law_whole" nF f fd)(T:Tx__law_whole P w K mg base cl A):FnOk P w K mg base CX0 1 f fd ["_law_found"] (spM ⟨K,cl⟩ dC false):=by
 refine fok F xO (G:=[]) (G':=[]) (L:=[]) λ_ _ _ _ _ _ hr _ _=>?_
 exact(aC (aQ (uW (rK tb_int T.is_int T.z_isinstance T.z_int o0 (aa 0)) (mK (Gn (rK tb_bool T.is_bool T.z_isinstance T.z_bool PyProof.Rows.boot_bool (aa 0)))))))
theorem Al (F:Fun K "_law_rank" "_law_rank" pq f fd)(T:Tx__law_rank P w K mg base cl A):FnOk P w K mg base CX0 2 f fd ["_law_grid", "_law_metre_here", "_law_reading"] (spM ⟨K,cl⟩ gM false):=by
 refine fok F sc__law_rank (G:=[]) (G':=[]) (L:=[]) λ_ _ _ _ _ _ hr _ _=>?_
 exact(ao (cJ (SW.st (n_ (dM (dJ (rK tb_tuple T.is_tuple T.z_isinstance T.z_tuple on (aa 2)))) (n_ (bj (k_ hr (aY T.z_len (aa 2)) au)) (mL (dM (dJ (rK tb_list T.is_list T.z_isinstance T.z_list gy (aK hr (aa 2) au)))))))) (aC (aQ cC)) bK) (ao (Dw (aa 2) (iJ (aX 3 sc__law_rank.nd (aX 4 sc__law_rank.nd cW)))) (ao (cJ (SW.st (n_ (dM (dJ (rK tb_list T.is_list T.z_isinstance T.z_list gy (aa 4)))) (mL (bj (k_ hr (aY T.z_len (aa 4)) (aY T.z_len (aa 1))))))) (aC (aQ cC)) bK) (ao (bW [5,6] (mC T.z_zip (aa 4) (aa 1) (λ_=>by intro z;cases z) (λ_=>by intro z;cases z)) (iJ (aX 5 sc__law_rank.nd (aX 6 sc__law_rank.nd cW))) (aC (cJ (SW.st (n_ (dM (dJ (aG T.c__law_whole hr (aj (aa 5) az)))) (mL (dM (qi xW uK au (aa 5) (aY T.z_len (aK hr (aa 6) au))))))) (aC (aQ cC)) bK)) ba) (ao (aN 7 sc__law_rank.nd (aG T.c__law_places hr (aj (aa 0) (aj (aa 3) az)))) (ao (cJ (bj (xZ (aa 7) cC)) (aC (aQ cC)) bK) (ao (aN 8 sc__law_rank.nd (aG T.c__law_row hr (aj (aa 0) (aj (aa 3) az)))) (ao (aN 9 sc__law_rank.nd (aG T.c__law_marks hr (aj (aa 1) (aj (aa 4) az)))) (ao (cJ (bj (k_ hr (aY T.z_len (aa 8)) (aY T.z_len (aa 9)))) (aC (aQ cC)) bK) (ao (bW [10,11] (mC T.z_zip (aa 8) (aa 9) (λ_=>by intro z;cases z) (λ_=>by intro z;cases z)) (iJ (aX 10 sc__law_rank.nd (aX 11 sc__law_rank.nd cW))) (aC (cJ (SW.st (n_ (SW.st (lH (bj (k_ hr (aK hr (aa 11) au) fX)) (j9 (bj (k_ hr (aK hr (aa 11) au) (aK hr (aa 10) au)))))) (mL (SW.st (lH (dJ (aK hr (aa 11) au)) (j9 (dM (dJ (aK hr (aa 10) au))))))))) (aC (aQ cC)) bK)) ba) (aC (aQ (cg (aj (aa 7) (aj (aa 4) az)))))))))))))))
theorem vG (F:Fun K "_law_cell_at" "_law_cell_at" kW f fd)(T:Tx__law_cell_at P w K mg base cl A):FnOk P w K mg base CX0 1 f fd ["_law_script", "_law_k"] (spM ⟨K,cl⟩ bw false):=by
 refine fok F vA (G:=[]) (G':=[]) (L:=[]) λ_ _ _ _ _ _ hr _ _=>?_
 exact(ao (cJ (bj (pL hr (aa 1) (aY T.z_len (aa 0)))) (aC (aQ (aK hr (aa 0) (aa 1)))) bK) (aC (aQ au)))
theorem vH (F:Fun K "_law_refused" "_law_refused" kY f fd)(T:Tx__law_refused P w K mg base cl A):FnOk P w K mg base CX0 7 f fd ["_law_grid", "_law_metre_here", "_law_number"] (spM ⟨K,cl⟩ dY false):=by
 refine fok F sc__law_refused (G:=[]) (G':=[]) (L:=[]) λ_ _ _ _ _ _ hr _ _=>?_
 exact(ao (aN 3 sc__law_refused.nd fW) (ao (Ru 3 11 sc__law_refused.nd T.m_NoReading T.xm_NoReading_NoReading (aC (Q_ (aG T.c_reading_at hr (aj (aa 0) (aj (aa 1) (aj (aa 2) az)))))) (λ_=>(ur (Mq (Mr (T3 rfl) T.x_reading_at hr (aj (aa 0) (aj (aa 1) (aj (aa 2) az)))))))) (aC (aQ (aa 3)))))
theorem Am (F:Fun K "is_saying" "is_saying" lE f fd)(T:Tx_is_saying P w K mg base cl A):FnOk P w K mg base CX0 2 f fd ["table", "saying"] (spM ⟨K,cl⟩ gO false):=by
 refine fok F sc_is_saying (G:=[]) (G':=[]) (L:=[]) λ_ _ _ _ _ _ hr _ _=>?_
 exact(ao (aN 2 sc_is_saying.nd (aG T.c_options_in hr (aj (aa 0) az))) (ao (cJ (bj (k_ hr (aY T.z_len (aa 1)) (aY T.z_len (aa 2)))) (aC (aQ fW)) bK) (aC (aQ (Gp T.z_all (jf (osc:=(aF lE)) (ON:=["table", "saying", "syllables"]) (N:=["options", "option"]) (cap:=[none,none]) csc (za [0,1]) (mC T.z_zip (aa 2) (aa 1) (λz=>by cases z) (λz=>by cases z)) (λ_ _ _ _=>pD rfl (eZ (iT 0) (eZ (iT 1) mz))) (λ_ _ _ _=>iM) (λ_ _ _ _=>(iH (Dp hr (aa 1) (aa 0))))))))))
theorem Bh (F:Fun K "are_feet" "are_feet" qL f fd)(T:Tx_are_feet P w K mg base cl A):FnOk P w K mg base CX0 3 f fd ["metre", "row", "feet"] (spM ⟨K,cl⟩ iy false):=by
 refine fok F sc_are_feet (G:=[]) (G':=[]) (L:=[]) λ_ _ _ _ _ _ hr _ _=>?_
 exact(ao (cJ (bj (k_ hr (aY T.z_len (aa 2)) (aY T.z_len (aa 0)))) (aC (aQ fW)) bK) (ao (aN 3 sc_are_feet.nd au) (ao (bW [4,5,6,7] (mC T.z_zip (aa 0) (aa 2) (λ_=>by intro z;cases z) (λ_=>by intro z;cases z)) (iJ (aX 4 sc_are_feet.nd (aX 5 sc_are_feet.nd cW))) (ao (cJ (dM (qi xW uK au (aa 5) (aY T.z_len (aK hr (aa 4) au)))) (aC (aQ fW)) bK) (ao (aN 6 sc_are_feet.nd (aK hr (aK hr (aa 4) au) (aa 5))) (ao (aN 7 sc_are_feet.nd (bh (aa 3) (aY T.z_len (aa 6)))) (ao (cJ (dM (dJ (aG T.c_fits hr (aj (aa 6) (aj (aK hr (aa 4) au) (aj (oh (aa 1) (gB (aa 3)) (gB (aa 7))) az)))))) (aC (aQ fW)) bK) (aC (aN 3 sc_are_feet.nd (aa 7))))))) ba) (aC (aQ (iH (gW hr (aa 3) (aY T.z_len (aa 1)))))))))
theorem El (F:Fun K "lets_by" "lets_by" sU f fd)(T:Tx_lets_by P w K mg base cl A):FnOk P w K mg base CX0 4 f fd ["table", "metre", "reading"] (spM ⟨K,cl⟩ jZ false):=by
 refine fok F sc_lets_by (G:=[]) (G':=[]) (L:=[]) λ_ _ _ _ _ _ hr _ _=>?_
 exact(ao (aN 3 sc_lets_by.nd (aK hr (aa 2) au)) (aC (aQ (uW (aG T.c_is_saying hr (aj (aa 0) (aj (aa 3) az))) (mK (aG T.c_are_feet hr (aj (aa 1) (aj (aG T.c_said_of hr (aj (aa 0) (aj (aa 3) az))) (aj (aK hr (aa 2) au) az)))))))))
theorem tR (F:Fun K "number_of_feet" "number_of_feet" jD f fd)(T:Tx_number_of_feet P w K mg base cl A):FnOk P w K mg base CX0 5 f fd ["metre", "row", "feet"] (spM ⟨K,cl⟩ dz false):=by
 refine fok F sc_number_of_feet (G:=[]) (G':=[]) (L:=[]) λ_ _ _ _ _ _ hr _ _=>?_
 exact(ao (aN 3 sc_number_of_feet.nd (aG T.c_counts_by_slot hr (aj (aa 0) (aj (aa 1) az)))) (ao (aN 4 sc_number_of_feet.nd au) (ao (aN 5 sc_number_of_feet.nd au) (ao (bW [6,7,8,9] (jz T.z_enumerate (aa 2) (λ_=>by intro z;cases z)) (iJ (aX 6 sc_number_of_feet.nd (aX 7 sc_number_of_feet.nd cW))) (ao (aN 8 sc_number_of_feet.nd (aK hr (aa 0) (aa 6))) (ao (aN 9 sc_number_of_feet.nd (aG T.c_counts_by_pattern hr (aj (aa 8) (aj (aa 1) (aj (aa 5) (aj (aK hr (aa 3) (bh (aa 6) au)) az)))))) (ao (aN 4 sc_number_of_feet.nd (bh (aa 4) (u6 T.z_sum (oh (aa 9) pJ (gB (aa 7)))))) (aC (aN 5 sc_number_of_feet.nd (bh (aa 5) (aY T.z_len (aK hr (aK hr (aa 8) au) (aa 7))))))))) ba) (aC (aQ (aa 4)))))))
theorem An (F:Fun K "number_of" "number_of" pA f fd)(T:Tx_number_of P w K mg base cl A):FnOk P w K mg base CX0 6 f fd ["table", "metre", "reading"] (spM ⟨K,cl⟩ gP false):=by
 refine fok F sc_number_of (G:=[]) (G':=[]) (L:=[]) λ_ _ _ _ _ _ hr _ _=>?_
 exact(ao (cJ (dM (dJ (aG T.c_lets_by hr (aj (aa 0) (aj (aa 1) (aj (aa 2) az)))))) (aC Q8) bK) (ao (aN 3 sc_number_of.nd (aG T.c_counts_by_syllable hr (aj (aa 0) (aj (aa 1) az)))) (ao (aN 4 sc_number_of.nd (aG T.c_ends_in hr (aj (aa 0) az))) (ao (aN 5 sc_number_of.nd (aK hr (aa 2) au)) (ao (aN 6 sc_number_of.nd (SE.val (DQ hr (uT T.g_START (T.r_START)) au))) (ao (aN 7 sc_number_of.nd au) (ao (bW [8,9,10] (jz T.z_enumerate (aG T.c_options_in hr (aj (aa 0) az)) (λ_=>by intro z;cases z)) (iJ (aX 8 sc_number_of.nd (aX 9 sc_number_of.nd cW))) (ao (aN 10 sc_number_of.nd (oh (aa 9) pJ (gB (zm hr (aa 9) (aK hr (aa 5) (aa 8)))))) (ao (aN 7 sc_number_of.nd (bh (aa 7) (u6 T.z_sum (aG T.c_counts_by_option hr (aj (aa 1) (aj (aa 6) (aj (aa 10) (aj (aK hr (aa 4) (aa 8)) (aj (aK hr (aa 3) (bh (aa 8) au)) az))))))))) (aC (aN 6 sc_number_of.nd (aG T.c_ways_on hr (aj (aa 1) (aj (aa 6) (aj (aK hr (aa 5) (aa 8)) (aj (aK hr (aa 4) (aa 8)) az))))))))) ba) (aC (aQ (bh (aa 7) (aG T.c_number_of_feet hr (aj (aa 1) (aj (aG T.c_said_of hr (aj (aa 0) (aj (aa 5) az))) (aj (aK hr (aa 2) au) az))))))))))))))
theorem R_ (F:Fun K "law" "law" oK f fd)(T:Tx_law P w K mg base cl A):FnOk P w K mg base CX0 8 f fd ["_law_script"] (spM ⟨K,cl⟩ vh false):=by
 refine fok F sc_law (G:=[]) (G':=[]) (L:=[]) λ_ _ _ _ _ _ hr _ _=>?_
 exact(ao (aN 1 sc_law.nd (aG T.c__law_metre hr (aj (bh (oh (aa 0) (gB au) (gB au)) (oh (bN (aj au az)) (gB (ik (aY T.z_len (aa 0)) au)) pJ)) az))) (ao (zb 2 sc_law.nd (osc:=(aF oK)) (ON:=Ku) (N:=["_law_k", "_law_script", "_law_metre_here"]) (cap:=[none,some 0,some 1]) csc (ug 0) (lZ T.z_range (aY T.z_len (aa 1))) (λ_ _ _ _=>iT 0) (λ_ _ _ _=>iM) (λ_ _ _ _=>(fY (aG T.c__law_mixed hr (aj (aG T.c__law_cell_at hr (aj (aa 1) (aj au az))) (aj (aa 0) az))) (aY T.z_len (aK hr (aK hr (aa 2) (aa 0)) au))))) (ao (aN 3 sc_law.nd (aK hr (aG T.c__law_fit hr (aj (aa 1) (aj (aa 2) (aj (aG T.c__law_cell_at hr (aj (aa 0) (aj au az))) az)))) au)) (ao (aN 4 sc_law.nd (aG T.c_many_readings hr (aj (aa 3) (aj (aa 1) az)))) (ao (cJ (SW.st (n_ (dM (dJ (aG T.c__law_whole hr (aj (aa 4) az)))) (mL (bj (pL hr (aa 4) au))))) (aC (aQ fW)) bK) (ao (aN 5 sc_law.nd (fY (bh (jM (aG T.c__law_cell_at hr (aj (aa 0) (aj au az))) (QW au au)) (aG T.c__law_cell_at hr (aj (aa 0) (aj au az)))) (aa 4))) (ao (bW [6] (gZ (bN (aj (aa 4) (aj (bh (aa 4) (aa 5)) (aj (uV (uX au) (aa 5)) az)))) (λ_=>by intro z;cases z)) (gj 6 sc_law.nd) (aC (cJ (dM (dJ (aG T.c__law_refused hr (aj (aa 3) (aj (aa 1) (aj (aa 6) az)))))) (aC (aQ fW)) bK)) ba) (ao (aN 7 sc_law.nd cC) (ao (bW [8,9,10] (gZ (jf (osc:=(aF oK)) (ON:=Ku) (N:=["_law_number", "_law_many"]) (cap:=[none,some 4]) csc (ug 0) (gZ (bN (aj au (aj (aa 5) (aj (bh (aa 5) au) (aj (uV (aa 4) au) az))))) (λz=>by cases z)) (λ_ _ _ _=>iT 0) (λ_ _ _ _=>p6 (bj (pL hr (aa 0) (aa 1)))) (λ_ _ _ _=>(aa 0))) (λ_=>by intro z;cases z)) (gj 8 sc_law.nd) (ao (aN 9 sc_law.nd (aG T.c_reading_at hr (aj (aa 3) (aj (aa 1) (aj (aa 8) az))))) (ao (aN 10 sc_law.nd (aG T.c__law_rank hr (aj (aa 3) (aj (aa 1) (aj (aa 9) az))))) (ao (cJ (SW.st (n_ (bj (xZ (aa 10) cC)) (mL (bj (k_ hr (aG T.c_number_of hr (aj (aa 3) (aj (aa 1) (aj (aa 9) az)))) (aa 8)))))) (aC (aQ fW)) bK) (ao (cJ (SW.st (lH (bj (mJ (aa 7) cC)) (lH (bj (TF (aa 8) (aK hr (aa 7) au))) (j9 (dM (bj (Rr hr (aK hr (aa 7) au) (aa 10)))))))) (aC (aQ fW)) bK) (aC (aN 7 sc_law.nd (cg (aj (aa 8) (aj (aa 10) az))))))))) ba) (aC (aQ fW)))))))))))
end
def yh (K:W.Frag):Sp:=λvs H Q _=>∃(a:Addr) (ns:qv),vs=[V.ref a]/\Only H/\SqL K H a (ns.map V.int)/\ns.length<=63/\∀J,Q (.bl true) J
theorem Sd {K:W.Frag}{cl:Nat->Addr}{vs:List V}{H:Hp}{Q:VK}{E:XK}(h:yh K vs H Q E):spM ⟨K,cl⟩ vh false vs H Q E:=by
 obtain⟨a,ns,rfl,ho,hs,hl,k⟩:=h
 have ri:Reps ⟨K,cl⟩ (λ_=>True) H (ns.map V.int) (ns.map PV.int):=vV _ _ (λi=>.int i) ns
 refine⟨λ_=>True,[.frz (ns.map PV.int)],.bl true,.cons ?_ .nil,law_true ns hl,λv H' s r=>?_⟩
 ·rcases hs with (hs | ⟨o,hs⟩) | hs
  ·rcases ho a with z | ⟨o,xs,z⟩
   ·rw[z] at hs;cases hs
   ·rw[z] at hs;cases hs
  ·exact .lstF hs ri
  ·exact .lstK (.inr hs) ri
 ·cases r
  exact k _
theorem all_mk {l:W.OpenLaw}{w:World}{K:W.Frag}{h:Heap}{mg:Str->Option Value}{fa:Addr}(X:K.In h)(G:h.Ns mainGlobals mg)(hfa:mg "law" = some (.ref fa))
  (aC_NoReading:W.nsIn K mainGlobals "NoReading" = some (some (.ref C_NoReading)))
  (a_0:W.nsIn K mainGlobals "_law_mixed" = some (some (.ref f_0)))
  (F_0:Fun K "_law_mixed" "_law_mixed" m9 f_0 d_0)
  (a_1:W.nsIn K mainGlobals "_law_patterns" = some (some (.ref f_1)))
  (F_1:Fun K "_law_patterns" "_law_patterns" j0 f_1 d_1)
  (a_2:W.nsIn K mainGlobals "_law_metre" = some (some (.ref f_2)))
  (F_2:Fun K "_law_metre" "_law_metre" m_ f_2 d_2)
  (a_3:W.nsIn K mainGlobals "states_of" = some (some (.ref f_3)))
  (F_3:Fun K "states_of" "states_of" lC f_3 d_3)
  (a_4:W.nsIn K mainGlobals "end_state" = some (some (.ref f_4)))
  (F_4:Fun K "end_state" "end_state" o8 f_4 d_4)
  (a_5:W.nsIn K mainGlobals "state_behind" = some (some (.ref f_5)))
  (F_5:Fun K "state_behind" "state_behind" kJ f_5 d_5)
  (a_6:W.nsIn K mainGlobals "stands_for" = some (some (.ref f_6)))
  (F_6:Fun K "stands_for" "stands_for" nj f_6 d_6)
  (a_7:W.nsIn K mainGlobals "moves_of" = some (some (.ref f_7)))
  (F_7:Fun K "moves_of" "moves_of" qI f_7 d_7)
  (a_8:W.nsIn K mainGlobals "steps_by" = some (some (.ref f_8)))
  (F_8:Fun K "steps_by" "steps_by" my f_8 d_8)
  (a_9:W.nsIn K mainGlobals "all_steps" = some (some (.ref f_9)))
  (F_9:Fun K "all_steps" "all_steps" o9 f_9 d_9)
  (a_10:W.nsIn K mainGlobals "walked_by" = some (some (.ref f_10)))
  (F_10:Fun K "walked_by" "walked_by" lD f_10 d_10)
  (a_11:W.nsIn K mainGlobals "counts_ahead" = some (some (.ref f_11)))
  (F_11:Fun K "counts_ahead" "counts_ahead" kO f_11 d_11)
  (a_12:W.nsIn K mainGlobals "options_in" = some (some (.ref f_12)))
  (F_12:Fun K "options_in" "options_in" nq f_12 d_12)
  (a_13:W.nsIn K mainGlobals "ends_in" = some (some (.ref f_13)))
  (F_13:Fun K "ends_in" "ends_in" sJ f_13 d_13)
  (a_14:W.nsIn K mainGlobals "counts_by_syllable" = some (some (.ref f_14)))
  (F_14:Fun K "counts_by_syllable" "counts_by_syllable" ie f_14 d_14)
  (a_15:W.nsIn K mainGlobals "many_readings" = some (some (.ref f_15)))
  (F_15:Fun K "many_readings" "many_readings" j4 f_15 d_15)
  (a_16:W.nsIn K mainGlobals "_law_marks" = some (some (.ref f_16)))
  (F_16:Fun K "_law_marks" "_law_marks" nu f_16 d_16)
  (a_17:W.nsIn K mainGlobals "_law_options" = some (some (.ref f_17)))
  (F_17:Fun K "_law_options" "_law_options" gQ f_17 d_17)
  (a_18:W.nsIn K mainGlobals "_law_with" = some (some (.ref f_18)))
  (F_18:Fun K "_law_with" "_law_with" o_ f_18 d_18)
  (a_19:W.nsIn K mainGlobals "_law_fit" = some (some (.ref f_19)))
  (F_19:Fun K "_law_fit" "_law_fit" qJ f_19 d_19)
  (a_20:W.nsIn K mainGlobals "chosen_by" = some (some (.ref f_20)))
  (F_20:Fun K "chosen_by" "chosen_by" ph f_20 d_20)
  (a_21:W.nsIn K mainGlobals "ways_on" = some (some (.ref f_21)))
  (F_21:Fun K "ways_on" "ways_on" sO f_21 d_21)
  (a_22:W.nsIn K mainGlobals "fits" = some (some (.ref f_22)))
  (F_22:Fun K "fits" "fits" vz f_22 d_22)
  (a_23:W.nsIn K mainGlobals "counts_by_pattern" = some (some (.ref f_23)))
  (F_23:Fun K "counts_by_pattern" "counts_by_pattern" iB f_23 d_23)
  (a_24:W.nsIn K mainGlobals "counts_by_slot" = some (some (.ref f_24)))
  (F_24:Fun K "counts_by_slot" "counts_by_slot" ig f_24 d_24)
  (a_25:W.nsIn K mainGlobals "feet_at" = some (some (.ref f_25)))
  (F_25:Fun K "feet_at" "feet_at" sS f_25 d_25)
  (a_26:W.nsIn K mainGlobals "counts_by_option" = some (some (.ref f_26)))
  (F_26:Fun K "counts_by_option" "counts_by_option" gh f_26 d_26)
  (a_27:W.nsIn K mainGlobals "said_of" = some (some (.ref f_27)))
  (F_27:Fun K "said_of" "said_of" oJ f_27 d_27)
  (a_28:W.nsIn K mainGlobals "reading_at" = some (some (.ref f_28)))
  (F_28:Fun K "reading_at" "reading_at" nA f_28 d_28)
  (a_29:W.nsIn K mainGlobals "_law_places" = some (some (.ref f_29)))
  (F_29:Fun K "_law_places" "_law_places" lR f_29 d_29)
  (a_30:W.nsIn K mainGlobals "_law_row" = some (some (.ref f_30)))
  (F_30:Fun K "_law_row" "_law_row" qK f_30 d_30)
  (a_31:W.nsIn K mainGlobals "_law_whole" = some (some (.ref f_31)))
  (F_31:Fun K "_law_whole" "_law_whole" nF f_31 d_31)
  (a_32:W.nsIn K mainGlobals "_law_rank" = some (some (.ref f_32)))
  (F_32:Fun K "_law_rank" "_law_rank" pq f_32 d_32)
  (a_33:W.nsIn K mainGlobals "_law_cell_at" = some (some (.ref f_33)))
  (F_33:Fun K "_law_cell_at" "_law_cell_at" kW f_33 d_33)
  (a_34:W.nsIn K mainGlobals "_law_refused" = some (some (.ref f_34)))
  (F_34:Fun K "_law_refused" "_law_refused" kY f_34 d_34)
  (a_35:W.nsIn K mainGlobals "is_saying" = some (some (.ref f_35)))
  (F_35:Fun K "is_saying" "is_saying" lE f_35 d_35)
  (a_36:W.nsIn K mainGlobals "are_feet" = some (some (.ref f_36)))
  (F_36:Fun K "are_feet" "are_feet" qL f_36 d_36)
  (a_37:W.nsIn K mainGlobals "lets_by" = some (some (.ref f_37)))
  (F_37:Fun K "lets_by" "lets_by" sU f_37 d_37)
  (a_38:W.nsIn K mainGlobals "number_of_feet" = some (some (.ref f_38)))
  (F_38:Fun K "number_of_feet" "number_of_feet" jD f_38 d_38)
  (a_39:W.nsIn K mainGlobals "number_of" = some (some (.ref f_39)))
  (F_39:Fun K "number_of" "number_of" pA f_39 d_39)
  (a_40:W.nsIn K mainGlobals "law" = some (some (.ref f_40)))
  (F_40:Fun K "law" "law" oK f_40 d_40)
  (z_all:W.nsIn K mainGlobals "all" = some none)
  (z_bool:W.nsIn K mainGlobals "bool" = some none)
  (z_enumerate:W.nsIn K mainGlobals "enumerate" = some none)
  (z_int:W.nsIn K mainGlobals "int" = some none)
  (z_isinstance:W.nsIn K mainGlobals "isinstance" = some none)
  (z_len:W.nsIn K mainGlobals "len" = some none)
  (z_list:W.nsIn K mainGlobals "list" = some none)
  (z_range:W.nsIn K mainGlobals "range" = some none)
  (z_reversed:W.nsIn K mainGlobals "reversed" = some none)
  (z_sum:W.nsIn K mainGlobals "sum" = some none)
  (z_tuple:W.nsIn K mainGlobals "tuple" = some none)
  (z_zip:W.nsIn K mainGlobals "zip" = some none)
  (g_START:W.nsIn K mainGlobals "START" = some (some (.ref a_START)))
  (lk_START:K.lookup a_START=some ⟨.type "tuple",o_START,.seq #[.int 0 t_START_0,.int 0 t_START_1,.int 0 t_START_2] n_START,sl_START⟩)
  (is_bool:∀t k,(t,k)∈tb_bool->W.kitOne K (.type t) (.type "bool")=some k)
  (is_int:∀t k,(t,k)∈tb_int->W.kitOne K (.type t) (.type "int")=some k)
  (is_list:∀t k,(t,k)∈tb_list->W.kitOne K (.type t) (.type "list")=some k)
  (is_tuple:∀t k,(t,k)∈tb_tuple->W.kitOne K (.type t) (.type "tuple")=some k)
  (xi_NoReading:W.excIn K C_NoReading [.type "ValueError",.type "Exception",.type "BaseException",.type "object"] "ValueError.__new__" = true)
  (xm_NoReading_NoReading:W.exmOne K (.ref C_NoReading) (.ref C_NoReading)=some true):
  ∃fd:FuncData,(∀(s:Shared) (v:Value),BindsTo s fd ⟨[v],[]⟩ [("_law_script",v)])/\∀base:Heap,K.In base->base.Ns mainGlobals mg->FnOk l.prog w K mg base CX0 8 fa fd ["_law_script"] (yh K):=by
 have mo {x:Str}{v:Value}(h:W.nsIn K mainGlobals x=some (some v)):mg x=some v:=W.mg_of X G h
 have e:=hfa.symm.trans (mo a_40)
 cases e
 replace z_all:=fA X G z_all
 replace z_bool:=fA X G z_bool
 replace z_enumerate:=fA X G z_enumerate
 replace z_int:=fA X G z_int
 replace z_isinstance:=fA X G z_isinstance
 replace z_len:=fA X G z_len
 replace z_list:=fA X G z_list
 replace z_range:=fA X G z_range
 replace z_reversed:=fA X G z_reversed
 replace z_sum:=fA X G z_sum
 replace z_tuple:=fA X G z_tuple
 replace z_zip:=fA X G z_zip
 obtain⟨_,_,kV_40,dc_40,pm_40,an_40,cd_40,ct_40,_,rfl,_,_⟩:=F_40.ex
 refine⟨W.fnOf "law" "law" (ir oK) (eY oK) (aF oK) .none kV_40 dc_40 pm_40 an_40 cd_40 ct_40,λs v=>.of_eq rfl,λbase _ _=>?_⟩
 let cl:Nat->Addr:=λn=>match n with | 11=>C_NoReading | _=>0
 let A:Adr:={ a_START:=a_START }
 have r_START:∀(B:Addr->Prop) (H:Hp),Rep ⟨K,cl⟩ B H (.ref a_START) dU:=λB H=>.tupK (vs:=[V.int 0,V.int 0,V.int 0]) (.inr ⟨_,_,_,lk_START,rfl,rfl,(by show 3<=sizeLine;decide),(.cons ⟨_,rfl⟩ (.cons ⟨_,rfl⟩ (.cons ⟨_,rfl⟩ .nil)))⟩) (.cons (.int _) (.cons (.int _) (.cons (.int _) .nil)))
 have q7:Q7 l.prog w K mg base cl A:=⟨⟩
 have k__law_mixed:=bf F_0 (mo a_0) F_0.bd2 (xP F_0 ⟨q7⟩)
 have k__law_patterns:=bf F_1 (mo a_1) F_1.bd1 (uH F_1 ⟨q7,z_range,z_tuple⟩)
 have k__law_metre:=bf F_2 (mo a_2) F_2.bd1 (xQ F_2 ⟨q7,z_enumerate,z_tuple,k__law_mixed,k__law_patterns⟩)
 have k_states_of:=bf F_3 (mo a_3) F_3.bd1 (Af F_3 ⟨q7,z_enumerate,z_len,z_range⟩)
 have k_end_state:=bf F_4 (mo a_4) F_4.bd1 (Ag F_4 ⟨q7,z_len⟩)
 have k_state_behind:=bf F_5 (mo a_5) F_5.bd3 (vB F_5 ⟨q7,z_len⟩)
 have k_stands_for:=bf F_6 (mo a_6) F_6.bd2 (xR F_6 ⟨q7⟩)
 have k_moves_of:=bf F_7 (mo a_7) F_7.bd4 (Bd F_7 ⟨q7,z_len,z_list,z_range,k_end_state,k_stands_for,k_state_behind⟩)
 have k_steps_by:=bf F_8 (mo a_8) F_8.bd3 (Be F_8 ⟨q7,k_moves_of,k_states_of⟩)
 have k_all_steps:=bf F_9 (mo a_9) F_9.bd1 (Ah F_9 ⟨q7,k_steps_by⟩)
 have k_walked_by:=bf F_10 (mo a_10) F_10.bd4 (Ai F_10 ⟨q7⟩)
 have k_counts_ahead:=bf F_11 (mo a_11) F_11.bd4 (vC F_11 ⟨q7,k_walked_by⟩)
 have k_options_in:=bf F_12 (mo a_12) F_12.bd1 (xT F_12 ⟨q7⟩)
 have k_ends_in:=bf F_13 (mo a_13) F_13.bd1 (Eh F_13 ⟨q7,z_len⟩)
 have k_counts_by_syllable:=bf F_14 (mo a_14) F_14.bd2 (pR F_14 ⟨q7,z_list,z_reversed,z_zip,k_all_steps,k_counts_ahead,k_end_state,k_ends_in,k_options_in⟩)
 have k_many_readings:=bf F_15 (mo a_15) F_15.bd2 (uI F_15 ⟨q7,mo g_START,r_START,k_counts_by_syllable⟩)
 have k__law_marks:=bf F_16 (mo a_16) F_16.bd2 (xU F_16 ⟨q7,z_len,z_range⟩)
 have k__law_options:=bf F_17 (mo a_17) F_17.bd2 (vD F_17 ⟨q7,z_range⟩)
 have k__law_with:=bf F_18 (mo a_18) F_18.bd3 (Aj F_18 ⟨q7,z_len,k__law_options⟩)
 have k__law_fit:=bf F_19 (mo a_19) F_19.bd3 (Bf F_19 ⟨q7,z_int,z_len,z_range,k__law_marks,k__law_mixed,k__law_with⟩)
 have k_chosen_by:=bf F_20 (mo a_20) F_20.bd2 (Ak F_20 ⟨q7⟩)
 have k_ways_on:=bf F_21 (mo a_21) F_21.bd4 (Ei F_21 ⟨q7,k_moves_of⟩)
 have k_fits:=bf F_22 (mo a_22) F_22.bd3 (Ob F_22 ⟨q7,z_all,z_len,z_zip,k_stands_for⟩)
 have k_counts_by_pattern:=bf F_23 (mo a_23) F_23.bd4 (qM F_23 ⟨q7,z_len,k_fits⟩)
 have k_counts_by_slot:=bf F_24 (mo a_24) F_24.bd2 (tQ F_24 ⟨q7,z_len,z_list,z_range,z_reversed,z_sum,k_counts_by_pattern⟩)
 have k_feet_at:=bf F_25 (mo a_25) F_25.bd3 (Ej F_25 ⟨q7,z_enumerate,z_len,k_chosen_by,k_counts_by_pattern,k_counts_by_slot⟩)
 have k_counts_by_option:=bf F_26 (mo a_26) F_26.bd5 (qX F_26 ⟨q7,z_sum,k_ways_on⟩)
 have k_said_of:=bf F_27 (mo a_27) F_27.bd2 (Ek F_27 ⟨q7,z_zip,k_ends_in⟩)
 have kx_reading_at:=Mp F_28 (mo a_28) F_28.bd3 (wF F_28 ⟨q7,z_enumerate,mo g_START,r_START,k_chosen_by,k_counts_by_option,k_counts_by_syllable,k_ends_in,k_feet_at,k_options_in,k_said_of,k_ways_on,xi_NoReading,mo aC_NoReading⟩)
 have k_reading_at:=Jo kx_reading_at
 have k__law_places:=bf F_29 (mo a_29) F_29.bd2 (wG F_29 ⟨q7,z_len⟩)
 have k__law_row:=bf F_30 (mo a_30) F_30.bd2 (Bg F_30 ⟨q7,z_len,z_range⟩)
 have k__law_whole:=bf F_31 (mo a_31) F_31.bd1 (xV F_31 ⟨q7,z_bool,z_int,z_isinstance,is_bool,is_int⟩)
 have k__law_rank:=bf F_32 (mo a_32) F_32.bd3 (Al F_32 ⟨q7,z_isinstance,z_len,z_list,z_tuple,z_zip,is_list,is_tuple,k__law_marks,k__law_places,k__law_row,k__law_whole⟩)
 have k__law_cell_at:=bf F_33 (mo a_33) F_33.bd2 (vG F_33 ⟨q7,z_len⟩)
 have k__law_refused:=bf F_34 (mo a_34) F_34.bd3 (vH F_34 ⟨q7,k_reading_at,mo aC_NoReading,kx_reading_at,xm_NoReading_NoReading⟩)
 have k_is_saying:=bf F_35 (mo a_35) F_35.bd2 (Am F_35 ⟨q7,z_all,z_len,z_zip,k_options_in⟩)
 have k_are_feet:=bf F_36 (mo a_36) F_36.bd3 (Bh F_36 ⟨q7,z_len,z_zip,k_fits⟩)
 have k_lets_by:=bf F_37 (mo a_37) F_37.bd3 (El F_37 ⟨q7,k_are_feet,k_is_saying,k_said_of⟩)
 have k_number_of_feet:=bf F_38 (mo a_38) F_38.bd3 (tR F_38 ⟨q7,z_enumerate,z_len,z_sum,k_counts_by_pattern,k_counts_by_slot⟩)
 have k_number_of:=bf F_39 (mo a_39) F_39.bd3 (An F_39 ⟨q7,z_enumerate,z_sum,mo g_START,r_START,k_counts_by_option,k_counts_by_syllable,k_ends_in,k_lets_by,k_number_of_feet,k_options_in,k_said_of,k_ways_on⟩)
 have G_40:=R_ F_40 ⟨q7,z_len,z_range,k__law_cell_at,k__law_fit,k__law_metre,k__law_mixed,k__law_rank,k__law_refused,k__law_whole,k_many_readings,k_number_of,k_reading_at⟩
 exact G_40.imp λvs H Q E h=>Sd h
theorem walk {l:W.OpenLaw}{q:Program}{loose:qr}{XP:(Str->Option Value)->Heap->Prop}{YP:World->Heap->Prop}{d:DefRec}{K:Params->W.Frag}(hn:l.most=some 63)(hdf:d.params.defaults=[])
  (hY:∀(w:World) (h:Heap),YP w h->(K w.params).In h)
  (F:∀(w:World) (mg:Str->Option Value) (fa:Addr) (h:Heap),(K w.params).In h->h.Ns mainGlobals mg->mg d.name=some (.ref fa)->
   ∃fd:FuncData,(∀(s:Shared) (u:Value),BindsTo s fd ⟨[u],[]⟩ [("_law_script",u)])/\∀base:Heap,(K w.params).In base->base.Ns mainGlobals mg->FnOk l.prog w (K w.params) mg base CX0 8 fa fd ["_law_script"] (yh (K w.params))):
  W.WalkO q loose XP YP l.row.toRowW d [] (λf vs=>PySem.call f vs):=
 L2.walk_of (n:=63) (k:=8) (x := "_law_script") (CX:=λ_=>CX0) (sp:=λw=>yh (K w.params)) hn (by decide) hdf ⟨rfl,by decide,by decide⟩ hY F (λ_ _ a ns hl hO hS=>⟨a,ns,rfl,hO,hS,hl,λ_=>rfl⟩) λ_ _ _ _ _ z=>z
end My
open PySem PySem.W PyProof.Rows
end
namespace PySem.W.Fast
def tw16234164804609296372:=()
def tw4501364697175030096:=()
def tw6547048260328049341:=()
def tw758608526964505704:=()
def tw5711226700277786493:=()
def tw3541521989552958159:=()
def tw3027425871930576781:=()
def tw1146940459443237006:=()
def tw11591229522867135471:=()
def tw7036625757871786743:=()
def tw12346351488402185112:=()
def tw13649580602813433954:=()
def tw9896325148565922596:=()
def tw9883842582551655095:=()
def tw14861490184562377324:=()
def tw4073852984285390584:=()
def tw8328824017319546632:=()
def tw8557400789300328446:=()
def tw10559280377821008883:=()
def tw13147604711324023046:=()
def tw148463260816897945:=()
def tw13081834886199353607:=()
def tw671579326468725772:=()
def tw12440560686709649340:=()
def tw227044709503620806:=()
def tw1884204413233295858:=()
def tw2849187977836921574:=()
def tw13052088426064951757:=()
def tw262496496709509394:=()
def tw13238704150459116778:=()
def tw3680243734422359366:=()
def tw12840040948739290276:=()
def tw5739509422644779099:=()
def tw2007280728886425208:=()
def tw8055782721140086054:=()
def tw15050782956955993413:=()
def tw3074653093118729273:=()
def tw5244457160368391542:=()
def tw6474539461696530886:=()
def tw6606501295734114571:=()
def tw14898553112392375149:=()
def tw5287555632510692946:=()
def tw3449999472835178033:=()
def tw3279755462632107866:=()
def tw13251927883267898599:=()
def tw17934932435060165537:=()
def tw4147289573453260562:=()
def tw3167577885881338220:=()
def tw16970004626673687422:=()
def tw12904355643996611960:=()
def tw8632931830835633121:=()
def tw1443654269592632084:=()
def tw15565562024053093355:=()
def tw8318522729519107904:=()
def tw17527007488673472850:=()
def tw17360392675442647317:=()
def tw17210695382969111165:=()
def tw7792909926474104876:=()
def tw9322686631042427920:=()
def tw6333586757736575374:=()
def tw3106351410900299330:=()
def tw12162319406516535867:=()
def tw14486544900525572356:=()
def tw8519444116968483054:=()
def tw459917648405750385:=()
def tw14141682863885798633:=()
def tw4205664981099054602:=()
def tw15002752258880709555:=()
def tw9552875339917401663:=()
def tw15144239517772553319:=()
def tw12559783174284591660:=()
def tw4124835674507450461:=()
def tw1548287459106690988:=()
def tw13186269011590971554:=()
def tw16086028206601553051:=()
def tw15890451206476162130:=()
def tw12958589948473582021:=()
def tw11654726745436223355:=()
def tw13903106519323587962:=()
def tw8989336453970747433:=()
def tw7715610519172440705:=()
def tw3118279751289445078:=()
def tw18420600858456611433:=()
def tw5134921870436056909:=()
def tw11070512927634350444:=()
def tw3048629427151333906:=()
def tw5819011401931903900:=()
def tw10746549003938655509:=()
def tw30659393320934142:=()
def tw17693038824178966473:=()
def tw1290135433897702807:=()
def tw863608083653634401:=()
def tw3896295627205831016:=()
def tw732004009752548536:=()
def tw8984213950652177523:=()
def tw13575353906787354612:=()
def tw13575584363791002026:=()
def tw3083071519845525346:=()
def tw6999326502075460751:=()
def tw7511511603331691100:=()
def tw8083273272131157368:=()
def tw1697658601136790447:=()
def tw584301359972806839:=()
def tw2081723269077263269:=()
def tw3540391400749030133:=()
def tw17340175930249482173:=()
def tw7897545043360990095:=()
def tw769444857252068907:=()
def tw8517688420131267072:=()
def tw4188781730359695789:=()
def tw7210752085846052040:=()
def tw10457125475635395320:=()
def tw15226796047135492240:=()
def tw9187783573577833087:=()
def tw13764435810623815469:=()
def tw16400760158939639608:=()
def tw8445335712758683275:=()
def tw15744939768620304750:=()
def tw2305454378490962318:=()
def tw10227887443612439807:=()
def tw7558320275501102705:=()
def tw852796264822435992:=()
def tw5749903334159922517:=()
def tw2432991084029230675:=()
def tw4190249418543334098:=()
def tw11237138389869804854:=()
def tw15148394585760074077:=()
def tw2620024222271662195:=()
def tw16397820766192800370:=()
def tw3204780668393818890:=()
def tw8656336384988092133:=()
def tw4009527299882739680:=()
def tw11517625711148846826:=()
def tw2949019565303661451:=()
def tw4346253205754073475:=()
def tw3923848974036148264:=()
def tw10108040298022820028:=()
end PySem.W.Fast
set_option maxRecDepth 100000 in
set_option maxHeartbeats 0 in
theorem PySem.Challenge.cw_lilt_k43_whole_readings_by_numbers_holds : PySem.Challenge.rw_lilt_k43_whole_readings_by_numbers.Holds := by
 w_on;o_law;k_head;(case hw=>w_witness2)
 k_fill
 refine My.walk (l:=PySem.Challenge.rw_lilt_k43_whole_readings_by_numbers) rfl rfl (λw h Y=>W.kIn_of Y) ?F
 case F=>
  intro w mg fa h KX G hmg
  refine' My.all_mk KX G hmg ?aC_NoReading ?a_0 ?F_0 ?a_1 ?F_1 ?a_2 ?F_2 ?a_3 ?F_3 ?a_4 ?F_4 ?a_5 ?F_5 ?a_6 ?F_6 ?a_7 ?F_7 ?a_8 ?F_8 ?a_9 ?F_9 ?a_10 ?F_10 ?a_11 ?F_11 ?a_12 ?F_12 ?a_13 ?F_13 ?a_14 ?F_14 ?a_15 ?F_15 ?a_16 ?F_16 ?a_17 ?F_17 ?a_18 ?F_18 ?a_19 ?F_19 ?a_20 ?F_20 ?a_21 ?F_21 ?a_22 ?F_22 ?a_23 ?F_23 ?a_24 ?F_24 ?a_25 ?F_25 ?a_26 ?F_26 ?a_27 ?F_27 ?a_28 ?F_28 ?a_29 ?F_29 ?a_30 ?F_30 ?a_31 ?F_31 ?a_32 ?F_32 ?a_33 ?F_33 ?a_34 ?F_34 ?a_35 ?F_35 ?a_36 ?F_36 ?a_37 ?F_37 ?a_38 ?F_38 ?a_39 ?F_39 ?a_40 ?F_40 ?z_all ?z_bool ?z_enumerate ?z_int ?z_isinstance ?z_len ?z_list ?z_range ?z_reversed ?z_sum ?z_tuple ?z_zip ?g_START ?lk_START ?is_bool ?is_int ?is_list ?is_tuple ?xi_NoReading ?xm_NoReading_NoReading
  (case aC_NoReading | a_0 | a_1 | a_2 | a_3 | a_4 | a_5 | a_6 | a_7 | a_8 | a_9 | a_10 | a_11 | a_12 | a_13 | a_14 | a_15 | a_16 | a_17 | a_18 | a_19 | a_20 | a_21 | a_22 | a_23 | a_24 | a_25 | a_26 | a_27 | a_28 | a_29 | a_30 | a_31 | a_32 | a_33 | a_34 | a_35 | a_36 | a_37 | a_38 | a_39 | a_40 | z_all | z_bool | z_enumerate | z_int | z_isinstance | z_len | z_list | z_range | z_reversed | z_sum | z_tuple | z_zip | g_START | lk_START=>k_is)
  (case F_0 | F_1 | F_2 | F_3 | F_4 | F_5 | F_6 | F_7 | F_8 | F_9 | F_10 | F_11 | F_12 | F_13 | F_14 | F_15 | F_16 | F_17 | F_18 | F_19 | F_20 | F_21 | F_22 | F_23 | F_24 | F_25 | F_26 | F_27 | F_28 | F_29 | F_30 | F_31 | F_32 | F_33 | F_34 | F_35 | F_36 | F_37 | F_38 | F_39 | F_40=>refine' L2.fun_mk ?l ?c ?k;(case l=>k_is);(case c=>k_is);(case k=>k_is))
  (case is_bool=>intro t k hm;simp only[My.tb_bool,aw,br,eC,nV] at hm;rcases hm with ⟨rfl,rfl⟩ | ⟨rfl,rfl⟩ <;> first | rfl | k_is)
  (case is_int=>intro t k hm;simp only[My.tb_int,aw,br,eC,nV] at hm;rcases hm with ⟨rfl,rfl⟩ <;> first | rfl | k_is)
  (case is_list=>intro t k hm;simp only[My.tb_list,aw,br,eC,nV] at hm;rcases hm with ⟨rfl,rfl⟩ <;> first | rfl | k_is)
  (case is_tuple=>intro t k hm;simp only[My.tb_tuple,aw,br,eC,nV] at hm;rcases hm with ⟨rfl,rfl⟩ <;> first | rfl | k_is)
  (case xi_NoReading=>k_exc)
  (case xm_NoReading_NoReading=>kts_exm)
