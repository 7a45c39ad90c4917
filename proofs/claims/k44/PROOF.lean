import PyProof.Rows.All
import Wide.All
import OpenK.AllK
import Wide.FinOn
import Lean
import PyProof.EqAt
import PyProof.EqKinds
import PyProof.TupleCall
import PyProof.ZipIter
import PyProof.ListStr
import KE.KRevIter
import PyProof.Rows.Range3
import PyProof.DictWalks
import PyProof.Rows.TupDisplay
import PyProof.DictItems
import KE.KPairComp
import KE.KIntText
import PyProof.WalkInts
import KE.RegKTryMore
import PySem.Challenge.RW_lilt_k44_whole_each_has_a_number
set_option Elab.async false
set_option linter.all false
set_option compiler.extract_closed false
set_option maxRecDepth 100000
set_option maxHeartbeats 4000000
abbrev dn:=List (List (List Nat))
abbrev dx:=PySem.Value->PySem.Shared->Prop
abbrev fN:=List (PySem.Addr×PySem.Obj)
abbrev gV:=List Nat
abbrev mA:=List PySem.Value
abbrev rk:=List PySem.Stmt
abbrev rl:=List PySem.Expr
abbrev rp:=List PySem.Str
abbrev rq:=List Int
abbrev rL:=List PySem.Addr
abbrev rV:=Array PySem.Value
abbrev ac:=@PySem.wpAny_bind
abbrev ae:=@PySem.Heap.get?_push_of_some
abbrev af:=@List.length_map
abbrev ag:=@List.mem_cons_of_mem
abbrev ah:=@List.mem_cons_self
abbrev ai:=@PySem.wpAny_pure
abbrev al:=@List.getElem?_eq_getElem
abbrev am:=@PySem.Heap.get?_push_size
abbrev ap:=@List.map_cons
abbrev ar:=@List.getElem?_map
abbrev av:=@List.mem_cons
abbrev aw:=@List.getElem?_eq_some_iff
abbrev ax:=@List.mem_of_getElem?
abbrev ay:=@List.getElem?_set_ne
abbrev aE:=@List.mem_singleton
abbrev aI:=@PySem.Heap.lt_size
abbrev aS:=@List.length_append
abbrev aT:=@Nat.le_refl
abbrev a6:=@List.size_toArray
abbrev a7:=@if_neg
abbrev a8:=@List.getD_eq_getElem?_getD
abbrev a9:=@Option.some.inj
abbrev ba:=@decide_eq_false
abbrev bb:=@PySem.PassesOwn.never
abbrev be:=@if_pos
abbrev bg:=@List.length_cons
abbrev bi:=@Bool.false_ne_true
abbrev bo:=@List.getElem?_eq_none
abbrev bp:=@Bool.and_eq_true
abbrev bq:=@List.append_nil
abbrev br:=@List.mem_append
abbrev bt:=@List.not_mem_nil
abbrev bv:=@PyProof.Rows.callWith_type1
abbrev bE:=@Option.bind_some
abbrev bP:=@decide_eq_true
abbrev bS:=@Nat.lt_of_lt_of_le
abbrev bX:=@PySem.wpAny_callSpecial?_slot
abbrev b6:=@List.mem_range
abbrev b9:=@congrArg
abbrev cb:=@PySem.wpAny_call_entry
abbrev cf:=@Nat.ne_of_lt
abbrev ci:=@List.map_congr_left
abbrev ck:=@List.getElem?_set_self
abbrev cm:=@PySem.Heap.SameBut.update
abbrev cp:=@Array.getElem?_eq_getElem
abbrev cq:=@List.all_eq_true
abbrev cr:=@List.nodup_cons
abbrev cv:=@PySem.wpAny_loadPart'
abbrev cw:=@List.length_singleton
abbrev cy:=@PySem.wpAny_field
abbrev cE:=@PySem.Heap.size_push
abbrev cK:=@List.lookup_cons
abbrev cS:=@List.map_append
abbrev c5:=@PySem.Heap.get?_update_self
abbrev c6:=@Nat.zero_le
abbrev c8:=@List.length_set
abbrev db:=@List.zipIdx_map_fst
abbrev dc:=@List.mem_map
abbrev de:=@List.map_map
abbrev df:=@PySem.wpAny_holding
abbrev dv:=@List.length_take
abbrev dy:=@PySem.wpAny_newObj_type
abbrev dA:=@PySem.wpAny_setField_rec
abbrev dL:=@List.mem_append_right
abbrev dQ:=@List.length_pos_iff
abbrev dS:=@List.sum_cons
abbrev d6:=@List.of_mem_zip
abbrev ed:=@List.map_nil
abbrev ef:=@Nat.lt_or_ge
abbrev eg:=@PySem.Heap.get?_update_other
abbrev ei:=@List.append_assoc
abbrev el:=@List.take_of_length_le
abbrev em:=@Nat.lt_irrefl
abbrev eA:=@List.replicate_succ
abbrev eB:=@Or.inr
abbrev eC:=@PySem.wpAny_pyIter_list
abbrev eD:=@decide_eq_true_eq
abbrev eI:=@PySem.F.slot_dict_itemiterator_next
abbrev eJ:=@List.drop_eq_getElem_cons
abbrev eK:=@Option.map_eq_some_iff
abbrev eM:=@PySem.F.slot_zip_next
abbrev eP:=@List.find?_cons
abbrev eR:=@List.getElem_mem
abbrev eS:=@Array.length_toList
abbrev eT:=@PySem.builtinLookup_eq_fast
abbrev eW:=@PySem.wpAny_mono
abbrev fb:=@PySem.F.plainAttrs_list
abbrev fe:=@Bool.false_eq_true
abbrev ff:=@PySem.wpAny_seqItems
abbrev fg:=@or_false
abbrev fi:=@PySem.wpAny_pyIter_tuple
abbrev fk:=@List.getElem?_append_right
abbrev fm:=@List.mem_of_mem_take
abbrev fw:=@PySem.wpAny_attempt
abbrev fz:=@PySem.W.kia_one
abbrev fA:=@List.any_cons
abbrev fE:=@List.length_drop
abbrev fF:=@Int.toNat_natCast
abbrev fR:=@List.drop_zero
abbrev fS:=@PySem.F.slot_dict_keyiterator_next
abbrev fT:=@PySem.Obj.data_mapFields
abbrev f7:=@PySem.Calls.spliced_cons
abbrev f8:=@List.zip_cons_cons
abbrev gc:=@Or.inl
abbrev gd:=@Bool.true_and
abbrev gg:=@of_decide_eq_true
abbrev gi:=@Nat.le_trans
abbrev gl:=@PySem.wpAny_truthy_bool
abbrev gp:=@List.flatten_cons
abbrev gt:=@List.take_succ_cons
abbrev gu:=@List.getElem?_range
abbrev gv:=@PySem.wpAny_specialOf
abbrev gx:=@Ne.symm
abbrev gy:=@PySem.wpAny_isInstance
abbrev gE:=@PySem.wpAny_Call_Name_kw
abbrev gI:=@PySem.wpAny_typeNameOfWhole_itemiter
abbrev gS:=@PySem.F.slot_list_append
abbrev gX:=@PySem.F.type_list_append
abbrev g6:=@PySem.wpAny_typeNameOfWhole_keyiter
abbrev g9:=@List.mem_append_left
abbrev hJ:=@List.flatMap_cons
abbrev hU:=@PySem.typeLookup_type
abbrev hV:=@List.nil_append
abbrev ia:=@List.mem_zipIdx_iff_getElem?
abbrev ib:=@if_false
abbrev ic:=@Array.getElem?_eq_none
abbrev ii:=@PySem.Paired.length
abbrev ij:=@List.all_cons
abbrev im:=@PySem.wpAny_setField
abbrev io:=@True.intro
abbrev ip:=@PySem.tupleKind_room_in1
abbrev iq:=@PySem.F.slot_tuple_iterator_next
abbrev ix:=@PySem.F.slot_dict_get
abbrev iA:=@List.getElem?_zip_eq_some
abbrev iE:=@PySem.wpAny_typeNameOf_itemiter
abbrev iF:=@PySem.size_of_entries
abbrev iL:=@List.mem_filter
abbrev iN:=@PySem.wpAny_passesOwn
abbrev iO:=@Bool.eq_iff_iff
abbrev iP:=@List.length_zip
abbrev iS:=@PySem.wpAny_dictEntries
abbrev iX:=@PySem.wpAny_of_eq
abbrev i0:=@PySem.F.args_zip_next_1
abbrev i6:=@Nat.le_of_lt
abbrev i7:=@PySem.Calls.spliced_nil
abbrev i8:=@List.length_range
abbrev i9:=@Nat.zero_add
abbrev ja:=@PySem.wpAny_typeNameOf_keyiter
abbrev jp:=@List.map_take
abbrev jv:=@PySem.F.plain_extend_loop
abbrev jI:=@List.filterMap_cons
abbrev jS:=@List.length_reverse
abbrev j3:=@PySem.F.entry_zip_next
abbrev ke:=@Bool.false_and
abbrev kf:=@List.mem_flatMap
abbrev kg:=@Int.mul_le_mul_of_nonneg_left
abbrev ki:=@Nat.ne_of_gt
abbrev kl:=@PyProof.Rows.boot_list
abbrev kn:=@List.all_map
abbrev ko:=@PySem.wpAny_dictEpoch
abbrev kq:=@List.forIn_cons
abbrev kr:=@PySem.Obj.isFreed_of_fields
abbrev ku:=@Array.getElem?_toList
abbrev kw:=@List.nodup_append
abbrev kx:=@PySem.wpAny_pyIter_slot
abbrev kz:=@Nat.lt_succ_of_lt
abbrev kA:=@if_true
abbrev kB:=@List.ext_getElem?
abbrev kC:=@List.getElem?_set
abbrev kD:=@PySem.isSubtype_stop
abbrev kF:=@PySem.Around.under_plainId
abbrev kG:=@PySem.Calls.evalArgs_plain
abbrev kH:=@PySem.isSubtype_type
abbrev kK:=@List.nodup_iff_pairwise_ne
abbrev kL:=@List.fst_mem_of_mem_zipIdx
abbrev kM:=@Nat.min_le_right
abbrev kN:=@PySem.Heap.IsList.push
abbrev kQ:=@Nat.le_add_right
abbrev kR:=@List.drop_length
abbrev kT:=@List.getElem?_append_left
abbrev kU:=@beq_eq_false_iff_ne
abbrev kX:=@PySem.wpAny_updateSeq
abbrev k6:=@PySem.wpAny_execs_nil
abbrev k7:=@List.length_nil
abbrev k8:=@PySem.F.args_dict_get_3
abbrev k9:=@List.length_eq_zero_iff
abbrev lb:=@List.getElem?_cons_succ
abbrev lc:=@List.forIn_nil
abbrev lf:=@Array.getElem?_push_lt
abbrev lh:=@Option.isSome_map
abbrev li:=@PySem.F.entry_dict_get
abbrev lj:=@PySem.Calls.callWith_builtin
abbrev ll:=@List.reverse_cons
abbrev lm:=@Bool.and_false
abbrev ls:=@PySem.wpAny_isOneOf_itemiter
abbrev lx:=@List.tail_drop
abbrev ly:=@PySem.F.args_dict_itemiterator_next_1
abbrev lI:=@PySem.wpAny_notOrdered_dict
abbrev lP:=@List.mem_iff_getElem?
abbrev lS:=@List.getElem?_zipWith
abbrev lT:=@PySem.wpAny_rule
abbrev l0:=@PySem.F.args_dict_keyiterator_next_1
abbrev l4:=@PySem.F.entry_dict_itemiterator_next
abbrev l5:=@PySem.plainId_quiet
abbrev l6:=@PySem.F.entry_dict_keyiterator_next
abbrev l7:=@PySem.wpAny_letGo
abbrev l8:=@PySem.Heap.get?_none_of_le
abbrev mh:=@List.eq_nil_of_length_eq_zero
abbrev mr:=@PySem.wpAny_pyIter_revIter
abbrev mv:=@PySem.wpAny_updateSeq_pair
abbrev mx:=@PySem.F.slot_dict_itemiterator_iter
abbrev mB:=@List.getElem?_zipIdx
abbrev mE:=@PySem.codeAny_builtin
abbrev mI:=@PySem.F.args_tuple_iterator_next_1
abbrev mM:=@Int.emod_nonneg
abbrev mS:=@Nat.min_eq_left
abbrev mT:=@Option.map_some
abbrev nb:=@List.sum_append
abbrev ng:=@PySem.codeAny_mono
abbrev nh:=@PySem.F.entry_tuple_iterator_next
abbrev nr:=@PySem.wpAny_fieldsOf
abbrev nv:=@PySem.SeqAt.EqAt.int_str
abbrev ny:=@PySem.SeqAt.EqAt.str_int
abbrev nz:=@PySem.W.of_hideAll
abbrev nB:=@PySem.Calls.Name_function_global
abbrev nE:=@List.mem_filterMap
abbrev nI:=@PySem.SeqAt.EqAt.int_int
abbrev nK:=@Nat.lt_of_le_of_lt
abbrev nN:=@Int.emod_lt_of_pos
abbrev nS:=@PySem.wpAny_letOwnedTupleGo_zip
abbrev nV:=@List.getLast?_eq_getElem?
abbrev nX:=@PySem.Obj.cls_mapFields
abbrev oa:=@PySem.wpAny_Call_method
abbrev og:=@Int.le_refl
abbrev oi:=@PySem.wpAny_handled
abbrev oj:=@not_or
abbrev ol:=@PySem.wpAny_standAt
abbrev om:=@PySem.wpAny_comprehension_free
abbrev on:=@PySem.wpAny_onRaise
abbrev oo:=@List.map_drop
abbrev oq:=@PySem.wpAny_pyIter_zip
abbrev ot:=@Nat.lt_succ_self
abbrev ow:=@PySem.wpAny_execs_cons
abbrev ox:=@List.getElem?_replicate
abbrev oy:=@PySem.meetsH_dict_get_default
abbrev oz:=@PySem.F.plainAttrs_dict
abbrev oB:=@List.take_length
abbrev oC:=@List.zipIdx_cons
abbrev oD:=@List.map_reverse
abbrev oI:=@PySem.W.cellsFrom_some
abbrev oP:=@PySem.call_meets
abbrev oQ:=@beq_iff_eq
abbrev o0:=@PySem.callType_new
abbrev pd:=@List.find?_cons_of_neg
abbrev pi:=@List.set_set
abbrev pj:=@List.length_pos_of_mem
abbrev po:=@Nat.sub_zero
abbrev pp:=@Int.pow_succ
abbrev pr:=@List.length_replicate
abbrev pw:=@PySem.F.type_dict_get
abbrev pE:=@List.getElem?_reverse
abbrev pS:=@PyProof.Rows.boot_zip
abbrev pT:=@PyProof.Rows.boot_int
abbrev pV:=@List.eq_replicate_iff
abbrev p0:=@List.length_filter_le
abbrev p5:=@List.dropLast_eq_take
abbrev p9:=@PySem.wpAny_throw
abbrev qf:=@PySem.wpAny_newTuple
abbrev qh:=@List.range_eq_range'
abbrev qk:=@List.mem_of_mem_drop
abbrev qo:=@Bool.and_assoc
abbrev qr:=@List.drop_drop
abbrev qv:=@List.drop_eq_nil_iff
abbrev qA:=@List.length_dropLast
abbrev qB:=@PySem.W.hideAll_get
abbrev qE:=@List.length_zipWith
abbrev qS:=@List.mem_map_of_mem
abbrev qV:=@Function.comp_apply
abbrev q0:=@PySem.Value.ref.inj
abbrev re:=@Nat.not_lt
abbrev rg:=@Nat.succ.inj
abbrev rh:=@List.map_set
abbrev rj:=@List.map_id
noncomputable section
namespace L2
open PySem PySem.Spec PyProof.Rows
variable {h:Heap}{Q:Unit->Shared->Prop}{i:Nat}{b:Addr}
section
variable {prog:Program}{w:World}{κ:Type}[DecidableEq κ]{kd:HeapKind prog w κ}{A:Around}{E:dx}{s:Shared}{d a it:Addr}{xs:List (κ×Addr×Value)}{k:κ}{v:Value}
def EM (kd:HeapKind prog w κ)(h:Heap)(d:Addr)(xs:List (κ×Addr×Value)):Prop:=
 ∃o es,h.get? d=some o/\o.ExactDict/\o.data=.dict es xs.length/\es.toList=xs.map (entryOfKey kd)/\(∀x∈xs,kd.is h x.1 x.2.1)/\(xs.map (·.1)).Nodup
theorem EM.of (m:EM kd h d xs):h.DictOfH kd d xs:=let ⟨o,es,q⟩:=m;⟨o,es,_,q⟩
theorem yV (hu:kd.room A)(hk:kd.is s.heap k a)(m:EM kd s.heap d xs)(hz:xs.length<=sizeLine)
  (q:∀h',EM kd h' d (storedH xs k a v)->Heap.SameBut d s.heap h'->Q () { s with heap:=h',toks:=s.toks+kd.draws k }):wpAny (model prog w) A (dictSet d (.ref a) v) Q E s:=by
 obtain⟨o,es,o1,o2,o3,o4,o5,o6⟩:=m
 unfold dictSet
 try with_reducible refine df ?_
 refine ac (kd.pyHash hu hk ?_)
 unfold dictSetHashed
 try with_reducible refine df ?_
 refine ac (wpAny_dictFind_heap (s:={ s with toks:=s.toks+kd.draws k }) hu hk o1 o3 o4 o5 o6 (λno=>?_) λj p hj=>?_)
 ·have nk:k∉xs.map (·.1):=not_mem_keys_of_get no
  have e:=storedH_new (atKey_none_of_get no) a v
  rw[e] at q
  refine ac (lT (wpAny_updateDictKeys (hz:=by have:=iF o4;omega) (s:={ s with toks:=s.toks+kd.draws k }) o1 o3 (q _ ⟨_,_,c5 _ o1 (Obj.isFreed_of_dict (Obj.data_mapDictKeys o3 _)),o2.mapDictKeys _,by rw[aS];exact Obj.data_mapDictKeys o3 _,?_,λx hx=>?_,?_⟩ (cm ..))))
  ·simp[o4,entryOfKey]
  ·rcases br.mp hx with z | z
   ·exact kd.keeps (o5 x z) o1 o3 (cm ..)
   ·rw[aE.mp z];exact kd.keeps hk o1 o3 (cm ..)
  ·rw[cS]
   exact kw.mpr ⟨o6,by simp,λx hx y hy z=>nk (by rw[ap,ed,aE] at hy;have hy:y=k:=hy;subst hy z;exact hx)⟩
 ·have e:=storedH_old (atKey_of_get o6 hj) a v
  rw[e] at q
  refine ac (lT (ac (wpAny_updateDict (s:={ s with toks:=s.toks+kd.draws k }) o1 o3 (wpAny_point (q _ ⟨_,_,c5 _ o1 (Obj.isFreed_of_dict (Obj.data_mapDict o3 _)),o2.mapDict _,by rw[af];exact Obj.data_mapDict o3 _,?_,λx hx=>?_,?_⟩ (cm ..))))))
  ·have y:=modify_map_putAt (entryOfKey kd) (λe:DictEntry=>{ e with val:=v }) k v (λ_ _=>rfl) o6 hj
   rw[← o4] at y
   cases es
   simpa using y
  ·obtain⟨y,hy,rfl⟩:=dc.mp hx
   unfold putAt
   split <;> exact kd.keeps (o5 y hy) o1 o3 (cm ..)
  ·rw[keys_map_putAt];exact o6
theorem Jy (hu:kd.room A.in1)(hk:kd.is s.heap k a)(m:EM kd s.heap d xs)(hz:xs.length<=sizeLine)
  (q:∀h',EM kd h' d (storedH xs k a v)->Heap.SameBut d s.heap h'->Q () { s with heap:=h',toks:=s.toks+kd.draws k }):wpAny (model prog w) A (setItem (.ref d) (.ref a) v) Q E s:=by
 have ty:=m.of.typeIs
 unfold setItem
 try with_reducible refine df ?_
 refine ac (wpAny_sequenceKey ty (by decide) (ac (bX (name:=Str.ofString "__setitem__") ty slot_dict_setitem (cb slot_dict_setitem ty entry_dict_setitem ?_ (args_dict_setitem _ _ _)))))
 show wpAny _ _ (Builtin.Dict.notOrdered "__setitem__" ⟨[.ref d,.ref a,v],[]⟩ >>= _) _ _ s
 refine ac (lI ty ?_)
 show wpAny _ _ (dictSet d (.ref a) v >>= λ_=>_) _ _ s
 exact ac (yV hu hk m hz λh' m' HA=>ai ⟨.none,rfl,ai (q h' m' HA)⟩)
theorem Ur {Q:dx}(hd:(d == sysModules)=false)(m:EM kd s.heap d xs)
  (q:∀h',h'=s.heap.push { cls:=.type "dict_keyiterator",data:=.fields #[.ref d,.int 0 0,.int xs.length 0,.int xs.length 0] }->Q (.ref s.heap.objs.size) { s with heap:=h' }):wpAny (model prog w) A (pyIter (.ref d)) Q E s:=by
 obtain⟨o,es,o1,o2,o3,o4,o5,o6⟩:=id m
 have ty:=m.of.typeIs
 have sz:=iF o4
 refine kx ty F.slot_dict_iter (cb F.slot_dict_iter ty F.entry_dict_iter ?_ (F.args_dict_iter_1 _))
 unfold Builtin.«dict.__iter__» Builtin.Dict.dictSlotNone
 refine ac (ac (lI ty ?_))
 show wpAny _ _ (pure (Value.ref d)) (λ_ _=>_) _ s
 refine ai ?_
 show wpAny _ _ (Builtin.Dict.showsAll d >>= λ_=>_) _ _ s
 unfold Builtin.Dict.showsAll
 rw[a7 (by rw[hd];decide)]
 refine ac (ai (ac (iS o1 o3 (ac (ko o1 o3 (ac (dy (ai ⟨_,rfl, "dict_keyiterator",_,⟨_,am _ rfl,rfl⟩,fS.lookup,?_⟩))))))))
 simpa [rawInt,sz] using q _ rfl
theorem Us {Q:Option Value->Shared->Prop}(hi:s.heap.IsKeyIter it d i xs.length xs.length)(m:EM kd s.heap d xs)(hx:xs[i]?=some (k,b,v))
  (q:∀h',h'.IsKeyIter it d (i+1) xs.length xs.length->Heap.SameBut it s.heap h'->Q (some (.ref b)) { s with heap:=h' }):wpAny (model prog w) A (pyNext (.ref it)) Q E s:=by
 obtain⟨p,p1,p2,p3⟩:=id hi
 obtain⟨o,es,o1,o2,o3,o4,o5,o6⟩:=id m
 have ty:=hi.typeIs
 have sz:=iF o4
 unfold pyNext
 refine ac (fw (bX (name:=Str.ofString "__next__") ty fS (cb fS ty l6 ?_ (l0 _))))
 refine ac (ai (ac (ac ?_)))
 first | refine ac (g6 ty (ai ?_)) | refine ac (ja ty (ai ?_))
 refine ac (nr p1 p3 ?_)
 have own:Builtin.Dict_items.ownsTuple "dict_keyiterator" = false:=by decide
 simp only[own,fe,ib]
 show wpAny _ _ (if (Value.ref d == Value.none)=true then _ else _) (λ_ _=>_) _ s
 rw[a7 (by intro z;cases z)]
 refine ac (ai (ac (iS o1 o3 ?_)))
 rw[a7 (by rw[sz];simp)]
 refine ac (ai (ac (ko o1 o3 ?_)))
 rw[a7 (by simp)]
 refine ai ?_
 have lt:i < es.size:=by rw[sz];exact(aw.mp hx).1
 have ek:es[i].key=.ref b:=by
  have z:=entry_at o4 i
  rw[hx,cp lt] at z
  rw[a9 z];rfl
 simp only[show ¬ ((i:Int) < 0) by omega,ib,fF,cp lt]
 refine ac ?_
 first | refine ac (g6 ty (ai ?_)) | refine ac (ja ty (ai ?_))
 refine ac (wpAny_isOneOf_keyiter ty ?_)
 show wpAny _ _ (setField (.ref it) 1 (rawInt ((i:Int)+1)) >>= λ_=>_) _ _ s
 refine ac (im p1 p3 (by simp) ?_)
 have JJ:(s.heap.update it (Obj.mapFields (·.setIfInBounds 1 (rawInt ((i:Int)+1))))).IsKeyIter it d (i+1) xs.length xs.length:=
  ⟨_,c5 _ p1 (kr (fT p3 _)),(nX ..).trans p2,by rw[fT p3];simp[rawInt]⟩
 refine ac (df (ac (wpAny_isOneOf_keyiter (s:={ s with heap:=s.heap.update it (Obj.mapFields (·.setIfInBounds 1 (rawInt ((i:Int)+1)))) }) JJ.typeIs ?_)))
 show wpAny _ _ (pure es[i].key) (λ_ _=>_) _ _
 rw[ek]
 exact ai (ai ⟨_,rfl,ai (q _ JJ (cm ..))⟩)
theorem VR {Q:Option Value->Shared->Prop}(hh:A.handled=none)(hi:s.heap.IsKeyIter it d i xs.length xs.length)(m:EM kd s.heap d xs)(hx:xs.length<=i)
  (q:∀h',Heap.ExtBut it s.heap h'->Q none { s with heap:=h' }):wpAny (model prog w) A (pyNext (.ref it)) Q E s:=by
 obtain⟨p,p1,p2,p3⟩:=id hi
 obtain⟨o,es,o1,o2,o3,o4,o5,o6⟩:=id m
 have ty:=hi.typeIs
 have sz:=iF o4
 unfold pyNext
 refine ac (fw (bX (name:=Str.ofString "__next__") ty fS (cb fS ty l6 ?_ (l0 _))))
 refine ac (ai (ac (ac ?_)))
 first | refine ac (g6 ty (ai ?_)) | refine ac (ja ty (ai ?_))
 refine ac (nr p1 p3 ?_)
 have own:Builtin.Dict_items.ownsTuple "dict_keyiterator" = false:=by decide
 simp only[own,fe,ib]
 show wpAny _ _ (if (Value.ref d == Value.none)=true then _ else _) (λ_ _=>_) _ s
 rw[a7 (by intro z;cases z)]
 refine ac (ai (ac (iS o1 o3 ?_)))
 rw[a7 (by rw[sz];simp)]
 refine ac (ai (ac (ko o1 o3 ?_)))
 rw[a7 (by simp)]
 refine ai ?_
 simp only[show ¬ ((i:Int) < 0) by omega,ib,fF,ic (show es.size<=i by omega)]
 refine ac ?_
 first | refine ac (g6 ty (ai ?_)) | refine ac (ja ty (ai ?_))
 show wpAny _ _ (setField (.ref it) 0 .none >>= λ_=>_) _ _ s
 refine ac (im p1 p3 (by simp) ?_)
 show wpAny _ _ (newExc (.type "StopIteration") [] >>= λ_=>_) _ _ _
 refine ac ?_
 simp only[newExc,newTuple]
 refine ac (dy (ac (m:=firstArgMember _ _) (iX (a:=Value.none) (by first | rfl | (simp only[firstArgMember];rfl)) (dy ?_ (by size_fits)))) (by size_fits))
 simp only[raiseNew]
 refine ac (oi ?_)
 rw[show A.in1.handled=none by exact hh]
 refine ac (ai (p9 ?_))
 refine ac (gy (b:=true) (T := "StopIteration") ⟨_,am _ rfl,rfl⟩ kD ?_)
 exact ai (q _ (((cm ..).extBut.push _).push _))
end
abbrev uA (h:Heap)(z TI TO T:Addr)(f:Bool):Prop:=h.get? z=some { cls:=.type "zip",dict:=none,data:=.fields #[rawInt T,.bool f,.bool false,.ref TI,.ref TO],slots:=#[] }
variable {h':Heap}{n:Nat}{R:Result->Shared->Prop}
section
variable {prog:Program}{w:World}{A:Around}{E:dx}{s:Shared}{z TI TO T i1 i2 l1 l2:Addr}{k:Nat}{xs ys:rV}{x y:Value}{f:Bool}{oT:Obj}
theorem Cv {Q:Bool->Shared->Prop}(hz:uA s.heap z TI TO T f)(hT:s.heap.get? T=some oT)(q:∀h',uA h' z TI TO T true->Heap.SameBut z s.heap h'->Q false { s with heap:=h' }):wpAny (model prog w) A (Builtin.SmallTypes.ownedTupleIsFree (.ref z)) Q E s:=by
 unfold Builtin.SmallTypes.ownedTupleIsFree
 refine ac (cy hz rfl (x:=rawInt T) rfl ?_)
 have hl:∀{R:Option Obj->Shared->Prop},R (some oT) s->wpAny (model prog w) A (loadIfAlive T) R E s:=λ{R} hr Γ p _=>by
  show Sem.wp _ _ (.loadIfAlive T _) _ _ p s
  rw[Sem.wp_loadIfAlive,hT]
  exact hr
 refine ac (hl ?_)
 have hf:(Option.isNone (some oT))=false:=rfl
 simp only[hf,fe,ib]
 refine ac (cy hz rfl (x:=.bool f) rfl ?_)
 cases f with
 | true=>
  rw[a7 (by decide)]
  exact ai (q s.heap hz ⟨rfl,λ_ _=>rfl⟩)
 | false=>
  rw[be (by decide)]
  exact ac (dA hz (by simp) λh1 hz1 s1=>ai (q h1 hz1 s1))
theorem MN {Q:Option Value->Shared->Prop}(D:ZipApart z TI TO i1 i2 l1 l2)(hz:uA s.heap z TI TO T f)(hT:s.heap.get? T=some oT)(EX:IsPair s.heap TI (.ref i1) (.ref i2))
  (h1:s.heap.IsListIter i1 l1 k) (h2:s.heap.IsListIter i2 l2 k) (JO:s.heap.IsList l1 xs) (HE:s.heap.IsList l2 ys) (hx:xs[k]?=some x) (hy:ys[k]?=some y)
  (q:∀h',uA h' z TI TO T true->h'.IsListIter i1 l1 (k+1)->h'.IsListIter i2 l2 (k+1)->IsPair h' s.heap.objs.size x y->
   (∀c o,c≠z->c≠i1->c≠i2->s.heap.get? c=some o->h'.get? c=some o)->h'.objs.size=s.heap.objs.size+1->Q (some (.ref s.heap.objs.size)) { s with heap:=h' }):wpAny (model prog w) A (pyNext (.ref z)) Q E s:=by
 have ty:s.TypeIs (.ref z) "zip" := ⟨_,hz,rfl⟩
 unfold pyNext
 refine ac (fw (bX (name:=Str.ofString "__next__") ty eM (cb eM ty j3 ?_ (i0 _))))
 show wpAny _ _ (field (.ref z) 2 >>= λ_=>_) _ _ _
 refine ac (cy hz rfl (x:=.bool false) rfl ?_)
 show wpAny _ _ (field (.ref z) 3 >>= λ_=>_) _ _ _
 refine ac (cy hz rfl (x:=.ref TI) rfl (ac (ff EX rfl ?_)))
 show wpAny _ _ (Builtin.SmallTypes.ownedTupleIsFree (.ref z) >>= λ_=>_) _ _ _
 refine ac (Cv hz hT λg1 z1 u1=>?_)
 simp only[fe,ib]
 have e1:g1.IsListIter i1 l1 k:=h1.extBut u1.extBut D.i1z
 have e2:g1.IsListIter i2 l2 k:=h2.extBut u1.extBut D.i2z
 have e3:g1.IsList l1 xs:=JO.extBut u1.extBut D.l1z
 have e4:g1.IsList l2 ys:=HE.extBut u1.extBut D.l2z
 refine ac ?_
 rw[← Array.forIn_toList];simp only[kq,lc]
 refine ac (ac (df ?_))
 show wpAny _ _ (Builtin.SmallTypes.nextOf (.ref i1) >>= λ_=>_) _ _ _
 refine ac (wpAny_nextOf_list_item (s:={ s with heap:=g1 }) e1 e3 hx λg2 z2 u2=>ai (ai ?_))
 refine ac (ac (df ?_))
 show wpAny _ _ (Builtin.SmallTypes.nextOf (.ref i2) >>= λ_=>_) _ _ _
 refine ac (wpAny_nextOf_list_item (s:={ s with heap:=g2 }) (e2.extBut u2.extBut D.i12.symm) (e4.extBut u2.extBut D.l2i1) hy λg3 z3 u3=>ai (ai (ai ?_)))
 have sz:g3.objs.size=s.heap.objs.size:=by rw[u3.1,u2.1,u1.1]
 refine ac (qf (hsz:=by show (2:Nat)<=sizeLine;decide) ?_)
 have up:∀c o,c≠z->c≠i1->c≠i2->s.heap.get? c=some o->(g3.push { cls:=.type "tuple",data:=.seq #[x,y] }).get? c=some o:=λc o c1 c2 c3 e=>ae _ (u3.extBut _ _ c3 (u2.extBut _ _ c2 (u1.extBut _ _ c1 e)))
 refine ai ⟨_,rfl,ai ?_⟩
 show Q (some (.ref g3.objs.size)) _
 rw[sz]
 refine q _ (ae _ (u3.extBut _ _ D.i2z.symm (u2.extBut _ _ D.i1z.symm z1))) ((z2.extBut u3.extBut D.i12).at λo e=>ae _ e) (z3.at λo e=>ae _ e) (by rw[← sz];exact am _ rfl) up (by rw[cE,sz])
theorem Ql {Q:Option Value->Shared->Prop}(hh:A.handled=none)(D:ZipApart z TI TO i1 i2 l1 l2)(hz:uA s.heap z TI TO T f)(hT:s.heap.get? T=some oT)(EX:IsPair s.heap TI (.ref i1) (.ref i2))
  (h1:s.heap.IsListIter i1 l1 k) (JO:s.heap.IsList l1 xs) (hx:xs[k]?=none)
  (q:∀h',(∀c o,c≠z->c≠i1->c≠i2->s.heap.get? c=some o->h'.get? c=some o)->Q none { s with heap:=h' }):wpAny (model prog w) A (pyNext (.ref z)) Q E s:=by
 have ty:s.TypeIs (.ref z) "zip" := ⟨_,hz,rfl⟩
 unfold pyNext
 refine ac (fw (bX (name:=Str.ofString "__next__") ty eM (cb eM ty j3 ?_ (i0 _))))
 show wpAny _ _ (field (.ref z) 2 >>= λ_=>_) _ _ _
 refine ac (cy hz rfl (x:=.bool false) rfl ?_)
 show wpAny _ _ (field (.ref z) 3 >>= λ_=>_) _ _ _
 refine ac (cy hz rfl (x:=.ref TI) rfl (ac (ff EX rfl ?_)))
 show wpAny _ _ (Builtin.SmallTypes.ownedTupleIsFree (.ref z) >>= λ_=>_) _ _ _
 refine ac (Cv hz hT λg1 z1 u1=>?_)
 simp only[fe,ib]
 refine ac ?_
 rw[← Array.forIn_toList];simp only[kq,lc]
 refine ac (ac (df ?_))
 show wpAny _ _ (Builtin.SmallTypes.nextOf (.ref i1) >>= λ_=>_) _ _ _
 refine ac (wpAny_nextOf_list_end (s:={ s with heap:=g1 }) hh (h1.extBut u1.extBut D.i1z) (JO.extBut u1.extBut D.l1z) hx λg2 e u2 he=>?_)
 obtain⟨o,ho,hc⟩:=he
 refine ac (gy (b:=true) (T := "StopIteration") ⟨o,ho,hc⟩ kD ?_)
 exact ai (q _ λc o c1 c2 c3 e=>u2 _ _ c2 (u1.extBut _ _ c1 e))
def IG (h:Heap)(xs ys:rV)(B:Addr)(W:rL)(acc:rV)(n:Nat):Prop:=
 acc.size=n/\∀i,i < n->∃t x y,acc[i]?=some (.ref t)/\xs[i]?=some x/\ys[i]?=some y/\IsPair h t x y/\B<=t/\t∉W/\∀j,j < i->acc[j]?≠some (.ref t)
theorem IG.keep {B:Addr}{W:rL}{acc:rV}(q:IG h xs ys B W acc n)(k:∀c o,c∉W->h.get? c=some o->h'.get? c=some o):IG h' xs ys B W acc n:=
 ⟨q.1,λi hi=>let ⟨t,x,y,a,b,c,d,e,f,g⟩:=q.2 i hi;⟨t,x,y,a,b,c,k _ _ f d,e,f,g⟩⟩
theorem IG.push {h:Heap}{B t:Addr}{W:rL}{acc:rV}{n:Nat}{x y:Value}(q:IG h xs ys B W acc n)(hx:xs[n]?=some x)(hy:ys[n]?=some y)(ht:IsPair h t x y)(hB:B<=t)(hW:t∉W)(hw:∀j,j < n->acc[j]?≠some (.ref t)):IG h xs ys B W (acc.push (.ref t)) (n+1):=by
 obtain⟨q1,q2⟩:=q
 refine⟨by rw[Array.size_push,q1],λi hi=>?_⟩
 rcases ef i n with h1 | h1
 ·obtain⟨t',x',y',a,b,c,d,e,f,g⟩:=q2 i h1
  exact⟨t',x',y',by rw[lf (by omega)];rw[cp (by omega)] at a;exact a,b,c,d,e,f,λj hj=>by rw[lf (by omega),← cp (by omega)];exact g j hj⟩
 ·have e:i=n:=by omega
  subst e
  exact⟨t,x,y,by rw[← q1];exact Array.getElem?_push_size,hx,hy,ht,hB,hW,λj hj=>by rw[lf (by omega),← cp (by omega)];exact hw j hj⟩
theorem MT {N B:Addr}{res:Value}{a b:Value}(hh:A.handled=none)(D:ZipApart z TI TO i1 i2 l1 l2)(hn:xs.size<=sizeLine)(hxy:ys.size=xs.size)(n1:N≠z)(n2:N≠TI)(n3:N≠TO)(n4:N≠i1)(n5:N≠i2)(n6:N≠l1)(n7:N≠l2)
  (lz:z < B) (lTO:TO < B) (li1:i1 < B) (li2:i2 < B) (lN:N < B):
  ∀(m k:Nat) (s:Shared) (acc:rV) (c:Nat),xs.size - k=m->k<=xs.size->B<=s.heap.objs.size->((k=0/\IsZip s.heap z TI TO .none/\IsPair s.heap TO a b)\/∃T f oT,uA s.heap z TI TO T f/\s.heap.get? T=some oT/\T∉[z,TO,i1,i2,N])->
  IsPair s.heap TI (.ref i1) (.ref i2)->s.heap.IsListIter i1 l1 k->s.heap.IsListIter i2 l2 k->s.heap.IsList l1 xs->s.heap.IsList l2 ys->
  s.heap.get? N=some { cls:=.type "list",dict:=none,data:=.seq acc c,slots:=#[] }->IG s.heap xs ys B [z,TO,i1,i2,N] acc k->
  (∀h' IH c',(∀c o,c∉[z,TO,i1,i2,N]->s.heap.get? c=some o->h'.get? c=some o)->h'.get? N=some { cls:=.type "list",dict:=none,data:=.seq IH c',slots:=#[] }->IG h' xs ys B [z,TO,i1,i2,N] IH xs.size->R (.ok (.ret res)) { s with heap:=h' })->
  codeAny (model prog w) A (.builtin "list.extend.loop" ⟨[.ref N,.ref z,res],[]⟩) R s:=by
 have ni:∀{c:Addr},c∉[z,TO,i1,i2,N]->c≠z/\c≠TO/\c≠i1/\c≠i2/\c≠N:=λ{c} h=>by simpa using h
 intro m
 induction m with
 | zero=>
  intro k s acc c hm hk hB hZ EX h1 h2 JO HE hN hI q
  have e:k=xs.size:=by omega
  subst e
  have ex:xs[xs.size]?=none:=ic (aT _)
  refine mE F.entry_extend_loop ?_
  rw[kF jv _]
  show wpAny _ A.in1 (pyNext (.ref z) >>= λ_=>_) _ _ s
  rcases hZ with ⟨_,hz,FX⟩ | ⟨T,f,oT,hz,hT,_⟩
  ·refine ac (wpAny_pyNext_zip_end hh D hz EX FX h1 h2 JO HE (.inl ex) λh' k'=>ai ?_)
   have kk:∀c o,c∉[z,TO,i1,i2,N]->s.heap.get? c=some o->h'.get? c=some o:=λc o hc e=>let ⟨a,b,c,d,_⟩:=ni hc;k' _ _ a b c d e
   exact q h' acc c kk (k' _ _ n1 n3 n4 n5 hN) (hI.keep kk)
  ·refine ac (Ql hh D hz hT EX h1 JO ex λh' k'=>ai ?_)
   have kk:∀c o,c∉[z,TO,i1,i2,N]->s.heap.get? c=some o->h'.get? c=some o:=λc o hc e=>let ⟨a,b,c,d,_⟩:=ni hc;k' _ _ a c d e
   exact q h' acc c kk (k' _ _ n1 n4 n5 hN) (hI.keep kk)
 | succ m ih=>
  intro k s acc c hm hk hB hZ EX h1 h2 JO HE hN hI q
  have lt:k < xs.size:=by omega
  have ex:xs[k]?=some xs[k]:=cp lt
  have ey:ys[k]?=some (ys[k]'(by omega)):=cp (by omega)
  refine mE F.entry_extend_loop ?_
  rw[kF jv _]
  show wpAny _ A.in1 (pyNext (.ref z) >>= λ_=>_) _ _ s
  have big:∀c,c < B->s.heap.objs.size≠c:=λc hc e=>absurd (bS hc hB) (by rw[e];exact em _)
  have nW:s.heap.objs.size∉[z,TO,i1,i2,N]:=by
   simp only[av,bt,fg,oj]
   exact⟨big _ lz,big _ lTO,big _ li1,big _ li2,big _ lN⟩
  have go:∀h',(∀c o,c∉[z,TO,i1,i2,N]->s.heap.get? c=some o->h'.get? c=some o)->h'.get? N=some { cls:=.type "list",dict:=none,data:=.seq acc c,slots:=#[] }->IsPair h' TI (.ref i1) (.ref i2)->h'.IsListIter i1 l1 (k+1)->h'.IsListIter i2 l2 (k+1)->
    h'.IsList l1 xs->h'.IsList l2 ys->IsPair h' s.heap.objs.size xs[k] (ys[k]'(by omega))->h'.objs.size=s.heap.objs.size+1->(∃T f oT,uA h' z TI TO T f/\h'.get? T=some oT/\T∉[z,TO,i1,i2,N])->
    wpAny (model prog w) A.in1 (updateSeq N (·.push (.ref s.heap.objs.size)) >>= λ_=>pure (Fin.again (.builtin "list.extend.loop" ⟨[.ref N,.ref z,res],[]⟩)))
     (λfin s'=>match fin with | .done f=>R (.ok f) s' | .again c'=>c'.quiet=true/\codeAny (model prog w) A c' R s') (λe s'=>R (.error e) s') { s with heap:=h' }:=by
   intro h' kk hN' hTI' NX VQ hl1' hl2' hp hsz hZ'
   have up:∀c o,c≠N->h'.get? c=some o->(h'.update N (Obj.mapSeq (·.push (.ref s.heap.objs.size)))).get? c=some o:=λc o hc e=>(eg _ _ (gx hc)).trans e
   have usz:(h'.update N (Obj.mapSeq (·.push (.ref s.heap.objs.size)))).objs.size=h'.objs.size:=(cm h' N _).1
   refine ac (kX (s:={ s with heap:=h' }) hN' rfl (ai ⟨l5 jv _,ih (k+1) { s with heap:=h'.update N (Obj.mapSeq (·.push (.ref s.heap.objs.size))) } (acc.push (.ref s.heap.objs.size)) _ (by omega) lt (by show B<=Array.size _;rw[usz,hsz];exact Nat.le_succ_of_le hB) (.inr ?_) (up _ _ n2.symm hTI') (NX.at λo e=>up _ o n4.symm e) (VQ.at λo e=>up _ o n5.symm e) (hl1'.at λo e=>up _ o n6.symm e) (hl2'.at λo e=>up _ o n7.symm e) (c5 _ hN' rfl) ?_ λh2 acc2 c2 k2 e2 i2=>?_⟩) (by rw[hI.1];omega) (by show (acc.push _).size<=sizeLine+1;rw[Array.size_push,hI.1];omega))
   ·obtain⟨T,f,oT,a1,a2,a3⟩:=hZ'
    exact⟨T,f,oT,up _ _ n1.symm a1,up _ _ (ni a3).2.2.2.2 a2,a3⟩
   ·exact((hI.keep kk).push ex ey hp hB nW λj hj e=>by
     obtain⟨t',_,_,a1,_,_,a2,_⟩:=hI.2 j hj
     rw[a1] at e
     have e':t'=s.heap.objs.size:=q0 (a9 e)
     exact absurd (aI a2) (by rw[e'];exact em _)).keep λc o hc e=>up c o (ni hc).2.2.2.2 e
   ·exact q h2 acc2 c2 (λc o hc e=>k2 c o hc (up c o (ni hc).2.2.2.2 (kk c o hc e))) e2 i2
  rcases hZ with ⟨_,hz,FX⟩ | ⟨T,f,oT,hz,hT,nT⟩
  ·refine ac (wpAny_pyNext_zip_item D hz EX FX h1 h2 JO HE ex ey λh' z1 z2 z3 z4 z5 z6 k'=>?_)
   exact go h' (λc o hc e=>let ⟨a,b,c,d,_⟩:=ni hc;k' _ _ a b c d e) (k' _ _ n1 n3 n4 n5 hN) (k' _ _ D.TIz D.TITO D.TIi1 D.TIi2 EX) z3 z4 (JO.at λo e=>k' _ o D.l1z D.l1TO D.l1i1 D.l1i2 e) (HE.at λo e=>k' _ o D.l2z D.l2TO D.l2i1 D.l2i2 e) z5 z6 ⟨_,false,_,z1,z5,nW⟩
  ·refine ac (MN D hz hT EX h1 h2 JO HE ex ey λh' z1 z3 z4 z5 k' z6=>?_)
   obtain⟨b1,b2,b3,b4,b5⟩:=ni nT
   exact go h' (λc o hc e=>let ⟨a,b,c,d,_⟩:=ni hc;k' _ _ a c d e) (k' _ _ n1 n4 n5 hN) (k' _ _ D.TIz D.TIi1 D.TIi2 EX) z3 z4 (JO.at λo e=>k' _ o D.l1z D.l1i1 D.l1i2 e) (HE.at λo e=>k' _ o D.l2z D.l2i1 D.l2i2 e) z5 z6 ⟨T,true,oT,z1,k' _ _ b1 b3 b4 hT,nT⟩
theorem Gj:typeLookup (.type "zip") "__len__" = pure none:=by rw[hU,eT];kernel_rfl
theorem Ej:typeLookup (.type "zip") "__length_hint__" = pure none:=by rw[hU,eT];kernel_rfl
theorem ym {Q:dx}{a b:Value}(hh:A.handled=none)(D:ZipApart z TI TO i1 i2 l1 l2)(hn:xs.size<=sizeLine)(hxy:ys.size=xs.size)(hz:IsZip s.heap z TI TO .none)(FX:IsPair s.heap TO a b)(EX:IsPair s.heap TI (.ref i1) (.ref i2))
  (h1:s.heap.IsListIter i1 l1 0) (h2:s.heap.IsListIter i2 l2 0) (JO:s.heap.IsList l1 xs) (HE:s.heap.IsList l2 ys)
  (q:∀h' acc c,(∀c o,c∉[z,TO,i1,i2,s.heap.objs.size]->s.heap.get? c=some o->h'.get? c=some o)->h'.get? s.heap.objs.size=some { cls:=.type "list",dict:=none,data:=.seq acc c,slots:=#[] }->
   IG h' xs ys (s.heap.objs.size+1) [z,TO,i1,i2,s.heap.objs.size] acc xs.size->Q (.ref s.heap.objs.size) { s with heap:=h' }):wpAny (model prog w) A (call (.type "list") [.ref z]) Q E s:=by
 refine callType_codes (Q₁:=λx t=>x=.ref s.heap.objs.size/\t={ s with heap:=s.heap.push { cls:=.type "list",data:=.seq #[] } }) F.called_list (F.typeCall_list_1 _) F.entry_list_init (code_list_new _ ⟨rfl,rfl⟩) λx t ht=>?_
 obtain⟨rfl,rfl⟩:=ht
 have hN:(s.heap.push { cls:=.type "list",data:=.seq #[] }).get? s.heap.objs.size=some { cls:=.type "list",data:=.seq #[] }:=am _ rfl
 refine⟨⟨_,hN,rfl⟩,F.args_list_init_2 _ _,?_⟩
 have lt:∀{b:Addr}{o:Obj},s.heap.get? b=some o->b < s.heap.objs.size:=λe=>aI e
 have ne:∀{b:Addr}{o:Obj},s.heap.get? b=some o->b≠s.heap.objs.size:=λe=>cf (aI e)
 have m1:∃o,s.heap.get? i1=some o:=let ⟨o,e,_⟩:=h1;⟨o,e⟩
 have m2:∃o,s.heap.get? i2=some o:=let ⟨o,e,_⟩:=h2;⟨o,e⟩
 have m3:∃o,s.heap.get? l1=some o:=let ⟨o,e,_⟩:=JO;⟨o,e⟩
 have m4:∃o,s.heap.get? l2=some o:=let ⟨o,e,_⟩:=HE;⟨o,e⟩
 obtain⟨o1,m1⟩:=m1
 obtain⟨o2,m2⟩:=m2
 obtain⟨o3,m3⟩:=m3
 obtain⟨o4,m4⟩:=m4
 have psz:(s.heap.push { cls:=.type "list",data:=.seq #[] }).objs.size=s.heap.objs.size+1:=cE ..
 show wpAny _ A.in1.in1 (do let old ← Builtin.List.listItems (.ref s.heap.objs.size);Builtin.List.listUpdate (.ref s.heap.objs.size) (λ_=>#[]);letGo old.toList.reverse;Builtin.List.listExtendWith (.ref s.heap.objs.size) (.ref z) .none) _ _ _
 refine ac ?_;unfold Builtin.List.listItems
 refine ac (ff hN rfl (ai ?_))
 show wpAny _ A.in1.in1 (updateSeq s.heap.objs.size (λ_=>#[]) >>= λ_=>letGo (#[]:rV).toList.reverse >>= λ_=>Builtin.List.listExtendWith (.ref s.heap.objs.size) (.ref z) .none) _ _ _
 refine ac (kX hN rfl (ac (l7 ?_)))
 have g1:=c5 (Obj.mapSeq (λ_=>(#[]:rV))) hN rfl
 generalize hS:s.heap.objs.size=N at *
 have up:∀b o,b≠N->s.heap.get? b=some o->((s.heap.push { cls:=.type "list",data:=.seq #[] }).update N (Obj.mapSeq (λ_=>(#[]:rV)))).get? b=some o:=λb o hb e=>(eg _ _ (gx hb)).trans (ae _ e)
 have usz:((s.heap.push { cls:=.type "list",data:=.seq #[] }).update N (Obj.mapSeq (λ_=>(#[]:rV)))).objs.size=N+1:=by rw[(cm (s.heap.push { cls:=.type "list",data:=.seq #[] }) N _).1,psz]
 generalize (s.heap.push { cls:=.type "list",data:=.seq #[] }).update N (Obj.mapSeq (λ_=>(#[]:rV)))=G1 at *
 have zn:z≠N:=ne hz
 have tz:(⟨G1,s.gens,s.drawn,s.toks,s.os⟩:Shared).TypeIs (.ref z) "zip" := ⟨_,up _ _ zn hz,rfl⟩
 unfold Builtin.List.listExtendWith
 refine ac (wpAny_typeOf tz ?_)
 have r1:Builtin.List.listSameRef (.ref N) (.ref z)=false:=by simp[Builtin.List.listSameRef,zn.symm]
 have r2:(Value.type "zip" == Value.type "list")=false:=by decide
 have r3:(Value.type "zip" == Value.type "tuple")=false:=by decide
 simp only[r1,r2,r3,Bool.or_false,fe,ib]
 refine ac (oq (up _ _ zn hz) (ac (df ?_)))
 unfold Builtin.List.listLengthHint
 refine ac (gv tz Gj ?_)
 show wpAny _ A.in1.in1 (specialOf (Value.ref z) (Str.ofString "__length_hint__") >>= λ_=>_) _ _ _
 refine ac (gv tz Ej (ai ?_))
 show wpAny _ A.in1.in1 (rule "list.extend.makes-room" >>= λ_=>Builtin.List.listTouch (.ref N) >>= λ_=>again (.builtin "list.extend.loop" ⟨[.ref N,.ref z,.none],[]⟩)) _ _ _
 refine ac (lT (ac ?_))
 show wpAny _ A.in1.in1 (updateSeq N (·.push .none) >>= λ_=>updateSeq N (·.pop)) _ _ _
 refine ac (kX g1 rfl ?_)
 have g2:=c5 (Obj.mapSeq (·.push Value.none)) g1 rfl
 refine kX (hz:=by seq_fits) g2 rfl ?_
 have g3:=c5 (Obj.mapSeq (·.pop)) g2 rfl
 have TN:∀b o,b≠N->s.heap.get? b=some o->((G1.update N (Obj.mapSeq (·.push Value.none))).update N (Obj.mapSeq (·.pop))).get? b=some o:=λb o hb e=>(eg _ _ (gx hb)).trans ((eg _ _ (gx hb)).trans (up b o hb e))
 have usz2:((G1.update N (Obj.mapSeq (·.push Value.none))).update N (Obj.mapSeq (·.pop))).objs.size=N+1:=by rw[(cm _ N _).1,(cm G1 N _).1,usz]
 generalize (G1.update N (Obj.mapSeq (·.push Value.none))).update N (Obj.mapSeq (·.pop))=G2 at *
 refine ai ⟨l5 jv _,MT (A:=A.in1) (a:=a) (b:=b) (show A.in1.handled=none from hh) D hn hxy zn.symm (ne EX).symm (ne FX).symm (ne m1).symm (ne m2).symm (ne m3).symm (ne m4).symm (kz (lt hz)) (kz (lt FX)) (kz (lt m1)) (kz (lt m2)) (ot N) xs.size 0 _ #[] _ rfl (c6 _) (Nat.le_of_eq usz2.symm) (.inl ⟨rfl,TN _ _ zn hz,TN _ _ (ne FX) FX⟩) (TN _ _ (ne EX) EX)
  (h1.at λo e=>TN _ o (ne m1) e) (h2.at λo e=>TN _ o (ne m2) e) (JO.at λo e=>TN _ o (ne m3) e) (HE.at λo e=>TN _ o (ne m4) e) g3 ⟨rfl,λi hi=>absurd hi (Nat.not_lt_zero _)⟩ λh' acc c kk e it=>?_⟩
 exact⟨rfl,q h' acc c (λc o hc e=>kk c o hc (TN c o (λz=>hc (by simp[z])) e)) e it⟩
end
abbrev Key:=Sum Int Str
noncomputable def o8:Key->Value->Bool
 | .inl k,v=>Value.isInt k v
 | .inr x,v=>Value.isStrOf x v
noncomputable def Qm (w:World):Key->Int
 | .inl k=>hashInt k
 | .inr x=>hashStr w x
theorem cF:∀{k:Key}{v:Value},o8 k v=true->(∃i t,k=Sum.inl i/\v=Value.int i t)\/(∃x t,k=Sum.inr x/\v=Value.str x t)
 | .inl i,v,h=>by
  obtain⟨t,e⟩:=Value.isInt_shape (k:=i) (v:=v) h
  exact .inl ⟨i,t,rfl,e⟩
 | .inr x,v,h=>by
  obtain⟨t,e⟩:=Value.isStrOf_shape (x:=x) (v:=v) h
  exact .inr ⟨x,t,rfl,e⟩
theorem Gk (i:Int)(t:Tok):o8 (.inl i) (.int i t)=true:=by simp[o8,Value.isInt]
theorem Gm (x:Str)(t:Tok):o8 (.inr x) (.str x t)=true:=by simp[o8,Value.isStrOf]
theorem rR (a b:Int):decide ((Sum.inl a:Key)=Sum.inl b)=(a == b):=by
 by_cases e:a=b
 ·subst e;simp
 ·have h:¬ (Sum.inl a:Key)=Sum.inl b:=λq=>e (Sum.inl.inj q)
  rw[ba h]
  exact(kU.mpr e).symm
theorem Gn (a b:Str):decide ((Sum.inr a:Key)=Sum.inr b)=decide (a=b):=by
 by_cases e:a=b
 ·subst e;simp
 ·have h:¬ (Sum.inr a:Key)=Sum.inr b:=λq=>e (Sum.inr.inj q)
  rw[ba h,ba e]
theorem yW (a:Int)(b:Str):decide ((Sum.inl a:Key)=Sum.inr b)=false:=ba (λq=>nomatch q)
theorem yX (a:Str)(b:Int):decide ((Sum.inr a:Key)=Sum.inl b)=false:=ba (λq=>nomatch q)
def iQ (prog:Program)(w:World):PySem.KeyKind prog w Key where
 is:=o8
 hash:=Qm w
 inj:=λv a b ha hb=>by
  rcases cF ha with ⟨i,t,rfl,rfl⟩ | ⟨x,t,rfl,rfl⟩
  ·rcases cF hb with ⟨j,u,rfl,e⟩ | ⟨y,u,rfl,e⟩
   ·injection e with e1 _;rw[e1]
   ·exact nomatch e
  ·rcases cF hb with ⟨j,u,rfl,e⟩ | ⟨y,u,rfl,e⟩
   ·exact nomatch e
   ·injection e with e1 _;rw[e1]
 byValue:=λk v h=>by
  rcases cF h with ⟨i,t,rfl,rfl⟩ | ⟨x,t,rfl,rfl⟩ <;> rfl
 pyHash:=λhv h=>by
  rcases cF hv with ⟨i,t,rfl,rfl⟩ | ⟨x,t,rfl,rfl⟩
  ·exact wpAny_pyHash_int h
  ·exact wpAny_pyHash_str h
 eqBool:=λhu hv h=>by
  rcases cF hu with ⟨i,t,rfl,rfl⟩ | ⟨x,t,rfl,rfl⟩
  ·rcases cF hv with ⟨j,u,rfl,rfl⟩ | ⟨y,u,rfl,rfl⟩
   ·rw[rR] at h;exact wpAny_eqBool_int h
   ·rw[yW] at h;exact nv i t y u _ _ _ _ h
  ·rcases cF hv with ⟨j,u,rfl,rfl⟩ | ⟨y,u,rfl,rfl⟩
   ·rw[yX] at h;exact ny x t j u _ _ _ _ h
   ·rw[Gn] at h;exact wpAny_eqBool_str h
 «strs»:=λk x t v h=>by
  rcases cF h with ⟨i,u,rfl,e⟩ | ⟨y,u,rfl,e⟩
  ·exact nomatch e
  ·injection e with e1 _
   subst e1
   cases v <;> rfl
noncomputable def rT:Key->Value->Bool
 | .inl k,.bool b=>decide (k=if b=true then 1 else 0)
 | k,v=>o8 k v
theorem cY {k:Key}{v:Value}(h:rT k v=true):(∃b,k=Sum.inl (if b=true then 1 else 0)/\v=Value.bool b)\/(∃i t,k=Sum.inl i/\v=Value.int i t)\/(∃x t,k=Sum.inr x/\v=Value.str x t):=by
 unfold rT at h
 split at h
 ·exact .inl ⟨_,b9 _ (gg h),rfl⟩
 ·exact .inr (cF h)
theorem Gp {k:Key}{v:Value}(h:o8 k v=true):rT k v=true:=by
 rcases cF h with ⟨i,t,rfl,rfl⟩ | ⟨x,t,rfl,rfl⟩ <;> exact h
theorem BV (b:Bool):rT (.inl (if b=true then 1 else 0)) (.bool b)=true:=bP rfl
theorem Qn (a b:Bool):decide ((Sum.inl (if a=true then 1 else 0):Key)=Sum.inl (if b=true then 1 else 0))=(a == b):=by
 rw[rR];cases a <;> cases b <;> rfl
variable {w:World}{A:Around}{E:dx}{s:Shared}
theorem Gq {prog:Program}(b:Bool){Q:Int->Shared->Prop}(h:Q (hashInt (if b=true then 1 else 0)) { s with toks:=s.toks+1 }):
  wpAny (model prog w) A (pyHash (.bool b)) Q E s:=by
 refine W.pyHash_slot (s:=s) (T := "bool") (by cases b <;> exact PySem.typeIs_bool s _) PySem.F.slot_bool_hash entry_int_hash (args_int_hash _) (by rw[beq_builtin_none]) (.inl rfl) ?_
 have e:reduceHash (rawHash (if b=true then 1 else 0))=hashInt (if b=true then 1 else 0):=by cases b <;> decide
 show wpAny _ _ (do ret (← mkInt (rawHash (if b=true then 1 else 0)))) _ _ s
 refine eW (wpAny_ret_mkInt (Q:=λv s'=>∃t,v=.int (rawHash (if b=true then 1 else 0)) t/\s'={ s with toks:=s.toks+1 }) ⟨_,rfl,rfl⟩) (λfin s' hq=>?_) λ_ _ x=>x
 obtain⟨v,rfl,t,rfl,rfl⟩:=hq
 exact⟨_,_,rfl,by rw[e];exact h⟩
def cZ (prog:Program)(w:World):PySem.KeyKind prog w Key where
 is:=rT
 hash:=Qm w
 inj:=λv a b ha hb=>by
  rcases cY ha with ⟨c,rfl,rfl⟩ | ⟨i,t,rfl,rfl⟩ | ⟨x,t,rfl,rfl⟩ <;> rcases cY hb with ⟨d,rfl,e⟩ | ⟨j,u,rfl,e⟩ | ⟨y,u,rfl,e⟩ <;> cases e <;> rfl
 byValue:=λk v h=>by
  rcases cY h with ⟨c,rfl,rfl⟩ | ⟨i,t,rfl,rfl⟩ | ⟨x,t,rfl,rfl⟩ <;> rfl
 pyHash:=λhv h=>by
  rcases cY hv with ⟨c,rfl,rfl⟩ | ⟨i,t,rfl,rfl⟩ | ⟨x,t,rfl,rfl⟩
  ·exact Gq c h
  ·exact wpAny_pyHash_int h
  ·exact wpAny_pyHash_str h
 eqBool:=λhu hv h=>by
  rcases cY hu with ⟨c,rfl,rfl⟩ | ⟨i,t,rfl,rfl⟩ | ⟨x,t,rfl,rfl⟩
  ·rcases cY hv with ⟨d,rfl,rfl⟩ | ⟨j,u,rfl,rfl⟩ | ⟨y,u,rfl,rfl⟩
   ·rw[Qn] at h;exact SeqAt.EqAt.bool_bool _ _ _ _ _ _ h
   ·rw[rR] at h;exact SeqAt.EqAt.bool_int _ _ _ _ _ _ _ h
   ·rw[yW] at h;exact SeqAt.EqAt.bool_str _ _ _ _ _ _ _ h
  ·rcases cY hv with ⟨d,rfl,rfl⟩ | ⟨j,u,rfl,rfl⟩ | ⟨y,u,rfl,rfl⟩
   ·rw[rR] at h;exact SeqAt.EqAt.int_bool _ _ _ _ _ _ _ h
   ·rw[rR] at h;exact wpAny_eqBool_int h
   ·rw[yW] at h;exact nv i t y u _ _ _ _ h
  ·rcases cY hv with ⟨d,rfl,rfl⟩ | ⟨j,u,rfl,rfl⟩ | ⟨y,u,rfl,rfl⟩
   ·rw[yX] at h;exact SeqAt.EqAt.str_bool _ _ _ _ _ _ _ h
   ·rw[yX] at h;exact ny x t j u _ _ _ _ h
   ·rw[Gn] at h;exact wpAny_eqBool_str h
 «strs»:=λk x t v h=>by
  rcases cY h with ⟨c,rfl,e⟩ | ⟨i,u,rfl,e⟩ | ⟨y,u,rfl,e⟩
  ·exact nomatch e
  ·exact nomatch e
  ·injection e with e1 _
   subst e1
   cases v <;> rfl
theorem BW (prog:Program)(w:World)(i:Int)(t:Tok):(iQ prog w).is (.inl i) (.int i t)=true:=Gk i t
theorem BZ (prog:Program)(w:World)(x:Str)(t:Tok):(iQ prog w).is (.inr x) (.str x t)=true:=Gm x t
inductive V where
 | CY | bl (b:Bool) | int (i:Int) | str (x:Str) | NY (b:Array UInt8) | Yg (b:UInt64) | ref (a:Addr) | ty (n:String)
 deriving DecidableEq
def RelV:V->Value->Prop
 | .CY,u=>u=Value.none
 | .bl b,u=>u=Value.bool b
 | .int i,u=>∃t,u=Value.int i t
 | .str x,u=>∃t,u=Value.str x t
 | .NY b,u=>∃t,u=Value.bytes b t
 | .Yg b,u=>∃t,u=Value.float b t
 | .ref a,u=>u=Value.ref a
 | .ty n,u=>u=Value.type n
abbrev Vals:List V->List Value->Prop:=Paired RelV
theorem Vals.length {xs:List V}{us:mA}(r:Vals xs us):xs.length=us.length:=ii r
theorem Vals.get:∀{xs:List V}{us:mA}{i:Nat}{x:V},Vals xs us->xs[i]?=some x->∃u,us[i]?=some u/\RelV x u
 | _,_,_,_,.nil,e=>by simp at e
 | _,_,0,_,.cons r _,e=>by simp at e;subst e;exact⟨_,rfl,r⟩
 | _,_,i+1,x,.cons _ t,e=>by
  obtain⟨u,h1,h2⟩:=Vals.get (i:=i) (x:=x) t (by simpa using e)
  exact⟨u,by simpa using h1,h2⟩
theorem Vals.set {x:V}{u:Value}(r:RelV x u):∀{xs:List V}{us:mA}(i:Nat),Vals xs us->Vals (xs.set i x) (us.set i u)
 | _,_,_,.nil=>.nil
 | _,_,0,.cons _ t=>.cons r t
 | _,_,i+1,.cons q t=>.cons q (Vals.set r i t)
theorem Vals.append:∀{xs ys:List V}{us ws:mA},Vals xs us->Vals ys ws->Vals (xs++ys) (us++ws)
 | _,_,_,_,.nil,s=>s
 | _,_,_,_,.cons r t,s=>.cons r (Vals.append t s)
theorem Vals.take:∀{xs:List V}{us:mA}(n:Nat),Vals xs us->Vals (xs.take n) (us.take n)
 | _,_,0,_=>.nil
 | _,_,_+1,.nil=>.nil
 | _,_,n+1,.cons r t=>.cons r (Vals.take n t)
theorem Vals.drop:∀{xs:List V}{us:mA}(n:Nat),Vals xs us->Vals (xs.drop n) (us.drop n)
 | _,_,0,r=>r
 | _,_,_+1,.nil=>.nil
 | _,_,n+1,.cons _ t=>Vals.drop n t
def II:Option V->Option Value->Prop
 | some v,some u=>RelV v u
 | none,none=>True
 | _,_=>False
def KV {κ:Type}:List (κ×V)->List (κ×Value)->Prop:=Paired λ(p:κ×V) (q:κ×Value)=>p.1=q.1/\RelV p.2 q.2
noncomputable def kV:Key->V
 | .inl i=>.int i
 | .inr x=>.str x
inductive HO where
 | lst (xs:List V)
 | tup (xs:List V)
 | dK (kvs:List (Key×V)) | dT (kvs:List (List Key×V))
 | set (S:Int->Bool) (n:Nat)
 | own (x:Addr)
 | rng (lo hi:Int)
 | EA (o:Obj) (u:HO)
 | TR (ps:rV)
 | ext (φ:Heap->Prop)
abbrev Hp:=Addr->Option HO
def upd (H:Hp)(a:Addr)(o:HO):Hp:=λb=>if b=a then some o else H b
variable {H:Hp}{a:Addr}
theorem bc {o:HO}:upd H a o a=some o:=by unfold upd;rw[be rfl]
theorem aP {o:HO}(h:b≠a):upd H a o b=H b:=by unfold upd;rw[a7 h]
theorem Lx {o u:HO}(h:H a=some o)(h':H b=some u)(d:o≠u):a≠b:=by
 intro e;subst e;rw[h] at h';exact d (a9 h')
theorem bI {o:HO}(h:H a=some o)(h':H b=none):a≠b:=by
 intro e;subst e;rw[h] at h';cases h'
def rY (ks:List Key)(vs:List V):Prop:=vs=ks.map kV\/∃x b,ks=[.inr x,.inl (if b=true then 1 else 0)]/\vs=[.str x,.bl b]
abbrev Qo (H:Hp)(b:Addr)(ks:List Key):Prop:=∃vs,H b=some (.tup vs)/\rY ks vs
def N0 (K:W.Frag)(a:Addr)(xs:List V):Prop:=∃(o:Obj) (CL:rV) (n:Nat),K.lookup a=some o/\o.cls=.type "tuple" /\ o.data=.seq CL n/\CL.size<=sizeLine/\Vals xs CL.toList
def FE (K:W.Frag)(H:Hp)(b:Addr)(ks:List Key):Prop:=Qo H b ks\/∃vs,N0 K b vs/\rY ks vs
variable {K:W.Frag}{H':Hp}
theorem FE.keeps {ks:List Key}(c:FE K H b ks)(ht:∀b ys,H b=some (.tup ys)->H' b=some (.tup ys)):FE K H' b ks:=c.imp (λ⟨vs,e,k⟩=>⟨vs,ht _ _ e,k⟩) id
section
variable (P:Program)(w:World)(K:W.Frag)
def Dx (H:Hp)(h:Heap)(a:Addr):HO->Prop
 | .lst xs=>xs.length<=sizeLine/\∃(CL:mA) (n:Nat),Vals xs CL/\h.get? a=some { cls:=.type "list",data:=.seq CL.toArray n }
 | .tup xs=>xs.length<=sizeLine/\∃CL:List Value,Vals xs CL/\IsTup h a CL.toArray
 | .dK kvs=>kvs.length<=sizeLine/\(a == sysModules)=false/\∃vs,KV kvs vs/\h.DictOf (iQ P w) a vs
 | .dT kvs=>kvs.length<=sizeLine/\(a == sysModules)=false/\∃xs:List (List Key×Addr×Value),
   Paired (λ(p:List Key×V) (q:List Key×Addr×Value)=>p.1=q.1/\FE K H q.2.1 p.1/\RelV p.2 q.2.2) kvs xs /\
   ∃o es ep,h.get? a=some o/\o.ExactDict/\o.data=.dict es ep/\es.toList=xs.map (entryOfKey (tupleKind (cZ P w)))/\(xs.map (·.1)).Nodup/\ep=xs.length
 | .set S n=>h.SetOf (intKind P w) a S n
 | .own _=>∃o,h.get? a=some o
 | .rng lo hi=>∃t u v,h.get? a=some { cls:=.type "range",data:=.fields #[.int lo t,.int hi u,.int 1 v] }
 | .EA o u=>h.get? a=some o/\Dx H h a u
 | .TR ps=>h.get? a=some { cls:=.none,data:=.fields ps }
 | .ext φ=>φ h/\(∃o,h.get? a=some o)/\∀h1 h2:Heap,φ h1->(∀o,h1.get? a=some o->h2.get? a=some o)->φ h2
def F4 (H:Hp)(h:Heap):Prop:=∀a o,H a=some o->Dx P w K H h a o
end
section
variable {P:Program}{w:World}{K:W.Frag}{H H':Hp}{h h':Heap}{a:Addr}{o:HO}
theorem Dx.lt (x:Dx P w K H h a o):a < h.objs.size:=by
 cases o with
 | lst xs=>obtain⟨_,_,_,_,e⟩:=x;exact aI e
 | tup xs=>obtain⟨_,_,_,p⟩:=x;exact p.lt
 | dK kvs=>obtain⟨_,_,_,_,o,_,_,e,_⟩:=x;exact aI e
 | dT kvs=>obtain⟨_,_,_,_,o,_,_,e,_⟩:=x;exact aI e
 | set S n=>obtain⟨o,_,_,_,e,_⟩:=x;exact aI e
 | own y=>obtain⟨_,e⟩:=x;exact aI e
 | rng lo hi=>obtain⟨_,_,_,e⟩:=x;exact aI e
 | EA ob u=>obtain⟨e,_⟩:=x;exact aI e
 | TR ps=>exact aI (show h.get? a=some _ from x)
 | ext φ=>obtain⟨_,⟨_,e⟩,_⟩:=x;exact aI e
theorem Paired.VS {α β:Type}{F G:α->β->Prop}:∀{l₁:List α}{l₂:List β},Paired F l₁ l₂->(∀a b,F a b->G a b)->Paired G l₁ l₂
 | _,_,.nil,_=>.nil
 | _,_,.cons r t,f=>.cons (f _ _ r) (Paired.VS t f)
theorem Dx.IJ (x:Dx P w K H h a o)(k:∀b u,(b=a\/H b=some (.own a))->h.get? b=some u->h'.get? b=some u)
  (ho:∀b,H b=some (.own a)->H' b=some (.own a)) (ht:∀b xs,H b=some (.tup xs)->H' b=some (.tup xs)):Dx P w K H' h' a o:=by
 induction o with
 | lst xs=>obtain⟨z,CL,n,r,e⟩:=x;exact⟨z,CL,n,r,k _ _ (.inl rfl) e⟩
 | tup xs=>obtain⟨z,CL,r,ob,e,c⟩:=x;exact⟨z,CL,r,ob,k _ _ (.inl rfl) e,c⟩
 | dK kvs=>obtain⟨z,y,vs,r,ob,es,ep,e,c⟩:=x;exact⟨z,y,vs,r,ob,es,ep,k _ _ (.inl rfl) e,c⟩
 | dT kvs=>
  obtain⟨z,y,xs,r,ob,es,ep,e,c⟩:=x
  exact⟨z,y,xs,Paired.VS r λp q z=>⟨z.1,z.2.1.keeps ht,z.2.2⟩,ob,es,ep,k _ _ (.inl rfl) e,c⟩
 | set S n=>obtain⟨ob,es,ep,t,e,c⟩:=x;exact⟨ob,es,ep,t,k _ _ (.inl rfl) e,c⟩
 | own y=>obtain⟨ob,e⟩:=x;exact⟨ob,k _ _ (.inl rfl) e⟩
 | rng lo hi=>obtain⟨t,u,v,e⟩:=x;exact⟨t,u,v,k _ _ (.inl rfl) e⟩
 | EA ob u ih=>obtain⟨e,q⟩:=x;exact⟨k _ _ (.inl rfl) e,ih q⟩
 | TR ps=>
  have e:h.get? a=some { cls:=.none,data:=.fields ps }:=x
  show h'.get? a=some { cls:=.none,data:=.fields ps }
  exact k a _ (.inl rfl) e
 | ext φ=>obtain⟨p,⟨o,e⟩,st⟩:=x;exact⟨st _ _ p λo q=>k _ _ (.inl rfl) q,⟨o,k _ _ (.inl rfl) e⟩,st⟩
theorem F4.lt (x:F4 P w K H h)(e:H a=some o):a < h.objs.size:=(x a o e).lt
theorem F4.fresh (x:F4 P w K H h)(e:h.objs.size<=a):H a=none:=by
 cases q:H a with
 | none=>rfl
 | some u=>exact absurd (bS (x.lt q) e) (em _)
theorem F4.kept (x:F4 P w K H h)(k:∀b u,h.get? b=some u->h'.get? b=some u):F4 P w K H h':=λa o e=>
 (x a o e).IJ (λb u _ q=>k b u q) (λ_ q=>q) λ_ _ q=>q
theorem F4.laid (x:F4 P w K H h)(k:∀b u,h.get? b=some u->h'.get? b=some u)(hp:h.objs.size<=a)(new:Dx P w K (upd H a o) h' a o):F4 P w K (upd H a o) h':=λb u e=>by
 have hn:=x.fresh hp
 by_cases hb:b=a
 ·subst hb;rw[bc] at e;cases e;exact new
 ·rw[aP hb] at e
  exact(x b u e).IJ (λc v _ q=>k c v q) (λc q=>by rw[aP (bI q hn)];exact q) λc xs q=>by rw[aP (bI q hn)];exact q
end
def Rd (H:Hp)(a:Addr)(u:HO):Prop:=H a=some u\/∃o,H a=some (.EA o u)
variable {P:Program}
theorem Rd.ok {u:HO}(r:Rd H a u)(x:F4 P w K H h):Dx P w K H h a u:=by
 rcases r with r | ⟨o,r⟩
 ·exact x a u r
 ·obtain⟨_,q⟩:=x a _ r
  exact q
def YJ:Option HO->Prop
 | some (.lst _)=>True
 | some (.dK _)=>True
 | some (.dT _)=>True
 | some (.set _ _)=>True
 | some (.ext _)=>True
 | _=>False
section
variable {P:Program}{w:World}{K:W.Frag}{H:Hp}{h h':Heap}{x e:Addr}{o':HO}
theorem F4.write (ok:F4 P w K H h)(mu:YJ (H x))(he:e=x\/H e=some (.own x))(k:∀b u,b≠e->h.get? b=some u->h'.get? b=some u)(TU:∃u,h'.get? e=some u)
  (new:Dx P w K (upd H x o') h' x o'):F4 P w K (upd H x o') h':=λb u q=>by
 have YK:∀c y,H c=some (.own y)->c≠x:=λc y r z=>by subst z;rw[r] at mu;exact mu
 have ntup:∀c xs,H c=some (.tup xs)->c≠x:=λc xs r z=>by subst z;rw[r] at mu;exact mu
 by_cases hb:b=x
 ·subst hb;rw[bc] at q;cases q;exact new
 ·rw[aP hb] at q
  by_cases VT:b=e
  ·have q':H b=some (.own x):=by
    rcases he with z | z
    ·exact absurd (VT.trans z) hb
    ·rw[VT];exact z
   rw[q] at q';cases q'
   obtain⟨v,hv⟩:=TU
   exact⟨v,by rw[VT];exact hv⟩
  ·refine(ok b u q).IJ (λc v hc r=>k c v ?_ r) (λc r=>by rw[aP (YK c b r)];exact r) λc xs r=>by rw[aP (ntup c xs r)];exact r
   rcases hc with rfl | hc
   ·exact VT
   ·rintro rfl
    rcases he with z | z
    ·exact YK c b hc z
    ·rw[hc] at z;cases z;exact hb rfl
end
structure Un (fs ex:rL)(H H':Hp)(h h':Heap):Prop where
 keep:∀b o,h.get? b=some o->H b=none->b∉fs->b∉ex->h'.get? b=some o
 slot:∀b o,h.get? b=some o->H b=none->b∈fs->b∉ex->∃sl,h'.get? b=some { o with slots:=sl }
 free:∀b o,h.get? b=some o->H b=none->b∉ex->H' b=none
 there:∀b o,h.get? b=some o->b∉ex->∃o',h'.get? b=some o'
 IL:∀b xs,H b=some (.tup xs)->H' b=some (.tup xs)
 HV:∀b o u,H b=some (.EA o u)->H' b=some (.EA o u)
 IM:∀b ps,H b=some (.TR ps)->∃more,H' b=some (.TR (ps++more))
section
variable {fs FG ex ex':rL}{H H1 H2:Hp}{h h1 h2 h':Heap}{a x e:Addr}{o:HO}
theorem Un.any (u:Un fs ex H H1 h h1){ob:Obj}(q:h.get? b=some ob)(n:H b=none)(hx:b∉ex):∃sl,h1.get? b=some { ob with slots:=sl }:=by
 by_cases hb:b∈fs
 ·exact u.slot b ob q n hb hx
 ·exact⟨ob.slots,u.keep b ob q n hb hx⟩
theorem Un.kept (k:∀b u,h.get? b=some u->h'.get? b=some u):Un fs ex H H h h':=
 ⟨λb ob q _ _ _=>k b ob q,λb ob q _ _ _=>⟨ob.slots,k b ob q⟩,λ_ _ _ n _=>n,λb ob q _=>⟨ob,k b ob q⟩,λ_ _ q=>q,λ_ _ _ q=>q,λ_ ps q=>⟨#[],by rw[q];simp⟩⟩
theorem Un.refl:Un fs ex H H h h:=Un.kept λ_ _ q=>q
theorem Un.laid (k:∀b u,h.get? b=some u->h'.get? b=some u)(hp:h.objs.size<=a)(hn:H a=none):Un fs ex H (upd H a o) h h' where
 keep:=λb u q _ _ _=>k b u q
 slot:=λb u q _ _ _=>⟨u.slots,k b u q⟩
 free:=λb u q n _=>by rw[aP (cf (bS (aI q) hp))];exact n
 there:=λb u q _=>⟨u,k b u q⟩
 IL:=λb xs q=>by rw[aP (bI q hn)];exact q
 HV:=λb u xs q=>by rw[aP (bI q hn)];exact q
 IM:=λb ps q=>⟨#[],by rw[aP (bI q hn),q];simp⟩
theorem Un.write (mu:YJ (H x))(he:e=x\/H e=some (.own x))(k:∀b u,b≠e->h.get? b=some u->h'.get? b=some u)(TU:∃u,h'.get? e=some u):Un fs ex H (upd H x o) h h':=by
 have hx:∀b,H b=none->b≠x:=λb n z=>by subst z;rw[n] at mu;exact mu
 have hb:∀b,H b=none->b≠e:=λb n z=>by
  subst z
  rcases he with r | r
  ·exact hx b n r
  ·rw[n] at r;cases r
 have hm:∀b u,H b=some u->¬ YJ (some u)->b≠x:=λb u q nm z=>by subst z;rw[q] at mu;exact nm mu
 refine⟨λb u q n _ _=>k b u (hb b n) q,λb u q n _ _=>⟨u.slots,k b u (hb b n) q⟩,λb u q n _=>by rw[aP (hx b n)];exact n,λb u q _=>?_,
  λb xs q=>by rw[aP (hm b _ q λz=>z)];exact q,λb u xs q=>by rw[aP (hm b _ q λz=>z)];exact q,λb ps q=>⟨#[],by rw[aP (hm b _ q λz=>z),q];simp⟩⟩
 by_cases VT:b=e
 ·subst VT;exact TU
 ·exact⟨u,k b u VT q⟩
end
noncomputable def trk (h:Heap)(H:Hp):List Addr:=(List.range h.objs.size).filter λa=>(H a).isSome
noncomputable def qJ (h:Heap)(H:Hp):Heap:=W.hideAll h (trk h H)
theorem Gr (h:Heap)(H:Hp):(qJ h H).objs.size=h.objs.size:=W.hideAll_size _ _
variable {o:Obj}
theorem Jz (e:h.get? b=some o)(n:H b=none):(qJ h H).get? b=some o:=
 qB _ e λhm=>by
  have q:(H b).isSome=true:=(iL.mp hm).2
  rw[n] at q;simp at q
theorem M3 (e:(qJ h H).get? b=some o):h.get? b=some o/\H b=none:=by
 have e':h.get? b=some o:=nz (trk h H) e
 refine⟨e',?_⟩
 cases q:H b with
 | none=>rfl
 | some x=>
  have hm:b∈trk h H:=iL.mpr ⟨b6.mpr (aI e'),by simp[q]⟩
  have z:(qJ h H).get? b=none:=W.hideAll_none (trk h H) hm
  rw[z] at e;cases e
noncomputable def M4 (g h:Heap)(L:Addr):List (Addr×Obj):=(List.range h.objs.size).filterMap λa=>if a=L\/(g.get? a).isSome=true then none else (h.get? a).map λo=>(a,o)
noncomputable def rest (g h:Heap)(L d:Addr):List (Addr×Obj):=(M4 g h L).filter λp=>decide (p.1≠d)
structure Mod (K:W.Frag)(mg:Str->Option Value)(base:Heap):Prop where
 N1:K.In base
 glob:base.Ns mainGlobals mg
 blt:∃mb,base.Ns builtinsNs mb/\∀x:Str,x ≠ "__name__" -> mb x=bootBuiltins x
 nolimit:base.NoLimit
structure Cx where
 prog:Program
 w:World
 K:W.Frag
 mg:Str->Option Value
 base:Heap
 A:Around
 N:List Str
 s₀:Shared
 H₀:Hp
 env:Env
 outer:List Env
 stack:List Env
 ex:List Addr
 fn:Str->Bool
 calm:Bool
 pn:List (Addr×Obj)
 xe:Value->Shared->Prop
noncomputable def F8 (l:List Env):List Addr:=l.filterMap (·.frame)
abbrev Cx.fs (X:Cx):List Addr:=F8 X.outer
def MB (sc:Scope)(x:Str):Prop:=sc.names.lookup x=some .local\/sc.names.lookup x=some .cell\/sc.names.lookup x=some .free
def Loc (sc:Scope)(x:Str):Prop:=sc.names.lookup x=some .local\/sc.names.lookup x=some .cell
def Look (env:Env)(h:Heap)(m:Str->Option Value)(x:Str)(u:Value):Prop:=
 (env.kindOf x=some .local/\m x=some u)\/((env.kindOf x=some .cell\/env.kindOf x=some .free)/\∃c,env.cells.lookup x=some c/\h.IsCell c (some u))
structure Cx.Ok (X:Cx):Prop where
 mod:Mod X.K X.mg X.base
 kind:X.env.scope.kind=.function
 glob:X.env.globals=mainGlobals
 blt:X.env.builtins=builtinsNs
 above:X.s₀.heap.objs.size<=X.env.locals
 inj:∀x y c,X.env.cells.lookup x=some c->X.env.cells.lookup y=some c->x=y
 has:∀x,(X.env.kindOf x=some .cell\/X.env.kindOf x=some .free)->∃c,X.env.cells.lookup x=some c
 Yh:∀x c,X.fn x=true->X.env.cells.lookup x=some c->X.s₀.heap.objs.size<=c
 hd:X.calm=true->X.A.handled=none
 frames:X.A.frames=some X.stack
 YL:X.stack=X.outer\/(X.stack=X.env::X.outer/\X.env.frame=some X.env.locals)
 exf:∀b∈X.ex,b≠X.env.locals/\∀x c,X.env.cells.lookup x=some c->c≠b
 bs:∀b o,X.base.get? b=some o->X.s₀.heap.get? b=some o/\X.H₀ b=none
 RH:X.base.objs.size<=X.s₀.heap.objs.size
 MD:∀b o,X.base.get? b=some o->b∉X.ex
 N2:∀b∈X.ex,b∉X.fs
 GW:X.s₀.heap.FunFrames X.base X.outer
 VU:∀b∈X.fs,X.H₀ b=none
structure Inv (X:Cx)(CI:fN)(σ:List (Option V))(H:Hp)(s:Shared):Prop where
 ok:X.Ok
 os:s.os=X.s₀.os
 bare:AllBare s.gens
 base:Un X.fs X.ex X.H₀ H X.s₀.heap s.heap
 loc:∃m,s.heap.Ns X.env.locals m/\∀(i:Nat) (x:Str) (v:V),X.N[i]?=some x->σ[i]?=some (some v)->MB X.env.scope x->∃u,RelV v u/\Look X.env s.heap m x u
 cell:∀x c,X.env.cells.lookup x=some c->∃v,s.heap.IsCell c v
 free:H X.env.locals=none
 EO:∀x c,X.env.cells.lookup x=some c->H c=none
 pin:∀p∈X.pn++CI,s.heap.get? p.1=some p.2/\H p.1=none/\p.1≠X.env.locals/\p.1∉X.fs/\∀v,p.2.data≠.cell v
 C8:F4 X.prog X.w X.K H s.heap
 len:σ.length=X.N.length
variable {g':Array GenState}{t':Nat}{d':Drawn}{ch:rL}{σ':List (Option V)}{x:Str}{M:Model}{v:V}{u:Value}
section
variable {X:Cx}{CI:fN}{σ:List (Option V)}{H H':Hp}{s:Shared}{h':Heap}
theorem Cx.Ok.nofr (ok:X.Ok)(e:X.base.get? b=some o):b∉X.fs:=λhb=>by
 have:=(ok.GW.mem hb).1
 rw[e] at this;cases this
theorem Inv.bs (I:Inv X CI σ H s):∀b o,X.base.get? b=some o->s.heap.get? b=some o/\H b=none:=λb o e=>
 ⟨I.base.keep b o (I.ok.bs b o e).1 (I.ok.bs b o e).2 (I.ok.nofr e) (I.ok.MD b o e),I.base.free b o (I.ok.bs b o e).1 (I.ok.bs b o e).2 (I.ok.MD b o e)⟩
theorem Inv.bk (I:Inv X CI σ H s):∀b o,X.base.get? b=some o->s.heap.get? b=some o:=λb o e=>(I.bs b o e).1
theorem Inv.mod (I:Inv X CI σ H s):Mod X.K X.mg X.base:=I.ok.mod
theorem Inv.EZ (I:Inv X CI σ H s):X.K.In s.heap:=I.ok.mod.N1.keeps I.bk
theorem Inv.lt (I:Inv X CI σ H s):X.env.locals < s.heap.objs.size:=let ⟨_,hn,_⟩:=I.loc;hn.lt
theorem Inv.sz (I:Inv X CI σ H s):X.s₀.heap.objs.size<=s.heap.objs.size:=gi I.ok.above (i6 I.lt)
theorem Inv.nofs (I:Inv X CI σ H s)(h:s.heap.objs.size<=a):a∉X.fs:=λhb=>by
 obtain⟨_,o,ho,_⟩:=I.ok.GW.mem hb
 exact absurd (bS (aI ho) (gi I.sz h)) (em _)
theorem Inv.VW (I:Inv X CI σ H s):∀x c,X.env.cells.lookup x=some c->c≠X.env.locals:=λx c e z=>by
 obtain⟨v,o,ho,hd⟩:=I.cell x c e
 obtain⟨m,⟨o',es,ep,ID,Yi,_⟩,_⟩:=I.loc
 rw[z,ID] at ho;cases ho;rw[Yi] at hd;cases hd
theorem Inv.GW (I:Inv X CI σ H s):s.heap.FunFrames X.base X.outer:=by
 have all:∀(l:List Env),(∀b∈F8 l,b∈X.fs)->X.s₀.heap.FunFrames X.base l->s.heap.FunFrames X.base l:=by
  intro l
  induction l with
  | nil=>intro _ _;trivial
  | cons env r ih=>
   intro hs hl
   obtain⟨hk,⟨L,o,hf,hn,ho,hd⟩,hr⟩:=hl
   have hL:L∈X.fs:=hs L (by unfold F8;rw[jI,hf];exact ah)
   obtain⟨sl,e⟩:=I.base.slot L o ho (I.ok.VU L hL) hL λz=>I.ok.N2 L z hL
   exact⟨hk,⟨L,_,hf,hn,e,hd⟩,ih (λb hb=>hs b (by unfold F8;rw[jI,hf];exact ag _ hb)) hr⟩
 exact all X.outer (λ_ hb=>hb) I.ok.GW
theorem Inv.stack (I:Inv X CI σ H s):s.heap.FunFrames X.base X.stack:=by
 rcases I.ok.YL with e | ⟨e,hf⟩
 ·rw[e];exact I.GW
 ·rw[e]
  obtain⟨m,hn,_⟩:=I.loc
  refine .cons (by rw[I.ok.kind];decide) hf hn ?_ I.GW
  exact l8 (gi I.ok.RH I.ok.above)
theorem Inv.GY (I:Inv X CI σ H s):∀b∈F8 X.stack,b∈X.env.locals::X.fs:=λb hb=>by
 rcases I.ok.YL with e | ⟨e,hf⟩
 ·rw[e] at hb;exact ag _ hb
 ·rw[e] at hb
  unfold F8 at hb
  rw[jI,hf] at hb
  exact hb
theorem Inv.HK (I:Inv X CI σ H s):∀b∈F8 X.stack,H b=none:=λb hb=>by
 rcases av.mp (I.GY b hb) with e | hb
 ·rw[e];exact I.free
 ·obtain⟨_,o,ho,_⟩:=I.ok.GW.mem hb
  exact I.base.free b o ho (I.ok.VU b hb) λz=>I.ok.N2 b z hb
theorem Inv.step (I:Inv X CI σ H s)
  (IE:∀b∈ch,(b∈X.ex\/X.s₀.heap.objs.size<=b)/\b≠X.env.locals/\(∀x c,X.env.cells.lookup x=some c->c≠b)/\∀p∈X.pn++CI,p.1≠b)
  (keep:∀b o,b≠X.env.locals->b∉X.fs->b∉ch->s.heap.get? b=some o->H b=none->h'.get? b=some o)
  (slot:∀b o,b≠X.env.locals->b∈X.fs->b∉ch->s.heap.get? b=some o->H b=none->∃sl,h'.get? b=some { o with slots:=sl }) (free:∀b o,b∉ch->s.heap.get? b=some o->H b=none->H' b=none)
  (there:∀b o,b∉ch->s.heap.get? b=some o->∃o',h'.get? b=some o')
  (IL:∀b xs,H b=some (.tup xs)->H' b=some (.tup xs)) (HV:∀b o u,H b=some (.EA o u)->H' b=some (.EA o u)) (IM:∀b ps,H b=some (.TR ps)->∃more,H' b=some (.TR (ps++more)))
  (ns:∀m,s.heap.Ns X.env.locals m->h'.Ns X.env.locals m) (C8:F4 X.prog X.w X.K H' h') (hg:AllBare g'):
  Inv X CI σ H' { s with heap:=h',gens:=g',drawn:=d',toks:=t' }:=by
 have neL:∀b o,X.s₀.heap.get? b=some o->b≠X.env.locals:=λb o e=>cf (bS (aI e) I.ok.above)
 have neC:∀b o,X.s₀.heap.get? b=some o->b∉X.ex->b∉ch:=λb o e hx hb=>by
  rcases(IE b hb).1 with z | z
  ·exact hx z
  ·exact absurd (bS (aI e) z) (em _)
 have cellK:∀x c,X.env.cells.lookup x=some c->∀v,s.heap.IsCell c v->h'.IsCell c v:=by
  rintro x c e v ⟨o,ho,hd⟩
  have N3:c∉ch:=λz=>(IE c z).2.2.1 x c e rfl
  by_cases hc:c∈X.fs
  ·obtain⟨sl,q⟩:=slot c o (I.VW x c e) hc N3 ho (I.EO x c e)
   exact⟨_,q,hd⟩
  ·exact⟨o,keep c o (I.VW x c e) hc N3 ho (I.EO x c e),hd⟩
 refine⟨I.ok,I.os,hg,⟨λb o e n hb hx=>?_,λb o e n hb hx=>?_,λb o e n hx=>?_,λb o e hx=>?_,λb xs e=>IL b xs (I.base.IL b xs e),λb o xs e=>HV b o xs (I.base.HV b o xs e),λb ps e=>?_⟩,?_,λx c e=>?_,?_,λx c e=>?_,λp hp=>?_,C8,I.len⟩
 ·exact keep b o (neL b o e) hb (neC b o e hx) (I.base.keep b o e n hb hx) (I.base.free b o e n hx)
 ·obtain⟨sl,e1⟩:=I.base.slot b o e n hb hx
  obtain⟨YM,e2⟩:=slot b _ (neL b o e) hb (neC b o e hx) e1 (I.base.free b o e n hx)
  exact⟨YM,e2⟩
 ·obtain⟨o',e1⟩:=I.base.there b o e hx
  exact free b o' (neC b o e hx) e1 (I.base.free b o e n hx)
 ·obtain⟨o',e1⟩:=I.base.there b o e hx
  exact there b o' (neC b o e hx) e1
 ·obtain⟨m1,e1⟩:=I.base.IM b ps e
  obtain⟨m2,e2⟩:=IM b _ e1
  exact⟨m1++m2,by rw[e2,Array.append_assoc]⟩
 ·obtain⟨m,hn,hl⟩:=I.loc
  refine⟨m,ns m hn,λi x v e1 e2 e3=>?_⟩
  obtain⟨u,r,l⟩:=hl i x v e1 e2 e3
  refine⟨u,r,?_⟩
  rcases l with l | ⟨k,c,e,z⟩
  ·exact .inl l
  ·exact .inr ⟨k,c,e,cellK x c e _ z⟩
 ·obtain⟨v,z⟩:=I.cell x c e
  exact⟨v,cellK x c e v z⟩
 ·obtain⟨m,⟨o,_,_,ho,_⟩,_⟩:=I.loc
  exact free _ o (λz=>(IE _ z).2.1 rfl) ho I.free
 ·obtain⟨v,o,ho,hd⟩:=I.cell x c e
  exact free c o (λz=>(IE c z).2.2.1 x c e rfl) ho (I.EO x c e)
 ·obtain⟨e,n,ne,nf,d⟩:=I.pin p hp
  have N3:p.1∉ch:=λz=>(IE p.1 z).2.2.2 p hp rfl
  exact⟨keep p.1 p.2 ne nf N3 e n,free p.1 p.2 N3 e n,ne,nf,d⟩
theorem Inv.un (I:Inv X CI σ H s)(u:Un X.fs [] H H' s.heap h')(C8:F4 X.prog X.w X.K H' h'):Inv X CI σ H' { s with heap:=h',toks:=t' }:=by
 obtain⟨m,⟨o,es,ep,ho,r⟩,_⟩:=id I.loc
 obtain⟨sl,hL⟩:=u.any ho I.free (by simp)
 exact I.step (g':=s.gens) (d':=s.drawn) (ch:=[]) (λ_ z=>nomatch z) (λb o _ hb _ e n=>u.keep b o e n hb (by simp)) (λb o _ hb _ e n=>u.slot b o e n hb (by simp)) (λb o _ e n=>u.free b o e n (by simp)) (λb o _ e=>u.there b o e (by simp)) u.IL u.HV u.IM (λm' hm=>by
  obtain⟨o',es',ep',ID,r'⟩:=hm
  rw[ho] at ID;cases ID
  exact⟨_,es',ep',hL,r'⟩) C8 I.bare
theorem Inv.call (I:Inv X CI σ H s)(u:Un (F8 X.stack) ch H H' s.heap h')(C8:F4 X.prog X.w X.K H' h')(hg:AllBare g')
  (IE:∀b∈ch,(b∈X.ex\/X.s₀.heap.objs.size<=b)/\b≠X.env.locals/\(∀x c,X.env.cells.lookup x=some c->c≠b)/\∀p∈X.pn++CI,p.1≠b):
  Inv X CI σ H' { s with heap:=h',gens:=g',drawn:=d',toks:=t' }:=by
 obtain⟨m,⟨o,es,ep,ho,r⟩,_⟩:=id I.loc
 obtain⟨sl,hL⟩:=u.any ho I.free λz=>(IE _ z).2.1 rfl
 exact I.step (ch:=ch) IE (λb o hL hb hc e n=>u.keep b o e n (λz=>(av.mp (I.GY b z)).elim hL hb) hc) (λb o _ _ hc e n=>u.any e n hc) (λb o hc e n=>u.free b o e n hc) (λb o hc e=>u.there b o e hc) u.IL u.HV u.IM (λm' hm=>by
  obtain⟨o',es',ep',ID,r'⟩:=hm
  rw[ho] at ID;cases ID
  exact⟨_,es',ep',hL,r'⟩) C8 hg
theorem Inv.turned {it:Addr}(I:Inv X CI σ H s)(k:∀b o,b≠it->s.heap.get? b=some o->h'.get? b=some o)(hn:H it=none)(hL:it≠X.env.locals)
  (h1:it∈X.ex\/X.s₀.heap.objs.size<=it) (h2:∀x c,X.env.cells.lookup x=some c->c≠it) (h3:∀p∈X.pn++CI,p.1≠it):Inv X CI σ H { s with heap:=h',toks:=t' }:=by
 have nit:∀b u,H b=some u->b≠it:=λb u e z=>by rw[z,hn] at e;cases e
 refine I.step (g':=s.gens) (d':=s.drawn) (ch:=[it]) (λb hb=>?_) (λb o _ _ hc e _=>k b o (λz=>hc (by simp[z])) e) (λb o _ _ hc e _=>⟨o.slots,k b o (λz=>hc (by simp[z])) e⟩) (λ_ _ _ _ n=>n)
  (λb o hc e=>⟨o,k b o (λz=>hc (by simp[z])) e⟩) (λ_ _ e=>e) (λ_ _ _ e=>e) (λb ps e=>⟨#[],by rw[e];simp⟩) (λm hm=>?_) (λb u e=>?_) I.bare
 ·have e:b=it:=by simpa using hb
  subst e
  exact⟨h1,hL,h2,h3⟩
 ·obtain⟨o,es,ep,ho,r⟩:=hm
  exact⟨o,es,ep,k _ o (gx hL) ho,r⟩
 ·refine(I.C8 b u e).IJ (λc v hc q=>k c v ?_ q) (λ_ q=>q) λ_ _ q=>q
  rcases hc with z | z
  ·rw[z];exact nit b u e
  ·exact nit c _ z
theorem Inv.tok (I:Inv X CI σ H s)(t:Nat):Inv X CI σ H { s with toks:=t }:=I.un (h':=s.heap) (t':=t) Un.refl I.C8
theorem Inv.kept {t':Nat}(I:Inv X CI σ H s)(k:∀b u,s.heap.get? b=some u->h'.get? b=some u):Inv X CI σ H { s with heap:=h',toks:=t' }:=I.un (Un.kept k) (I.C8.kept k)
theorem Inv.laid {a:Addr}{o:HO}{t':Nat}(I:Inv X CI σ H s)(k:∀b u,s.heap.get? b=some u->h'.get? b=some u)(hp:s.heap.objs.size<=a)(new:Dx X.prog X.w X.K (upd H a o) h' a o):
  Inv X CI σ (upd H a o) { s with heap:=h',toks:=t' }:=I.un (Un.laid k hp (I.C8.fresh hp)) (I.C8.laid k hp new)
theorem Inv.write {x e:Addr}{o:HO}{t':Nat}(I:Inv X CI σ H s)(mu:YJ (H x))(he:e=x\/H e=some (.own x))(k:∀b u,b≠e->s.heap.get? b=some u->h'.get? b=some u)(TU:∃u,h'.get? e=some u)
  (new:Dx X.prog X.w X.K (upd H x o) h' x o):Inv X CI σ (upd H x o) { s with heap:=h',toks:=t' }:=I.un (Un.write mu he k TU) (I.C8.write mu he k TU new)
theorem Inv.weak (I:Inv X CI σ H s)(hl:σ'.length=σ.length)(w:∀(i:Nat) v,σ'[i]?=some (some v)->σ[i]?=some (some v)):Inv X CI σ' H s:=
 ⟨I.ok,I.os,I.bare,I.base,let ⟨m,hn,hl'⟩:=I.loc;⟨m,hn,λi x v e1 e2 e3=>hl' i x v e1 (w i v e2) e3⟩,I.cell,I.free,I.EO,I.pin,I.C8,hl.trans I.len⟩
theorem Inv.L8 {TZ:fN}(I:Inv X CI σ H s)(h:∀p∈TZ,s.heap.get? p.1=some p.2/\H p.1=none/\p.1≠X.env.locals/\p.1∉X.fs/\∀v,p.2.data≠.cell v):Inv X TZ σ H s:=
 ⟨I.ok,I.os,I.bare,I.base,I.loc,I.cell,I.free,I.EO,λp hp=>(br.mp hp).elim (λz=>I.pin p (g9 _ z)) (h p),I.C8,I.len⟩
theorem yZ {N:rp}(hN:N.Nodup){j:Nat}(a:N[i]?=some x)(b:N[j]?=some x):i=j:=by
 obtain⟨h1,e1⟩:=aw.mp a
 obtain⟨h2,e2⟩:=aw.mp b
 exact(List.getElem_inj hN).mp (e1.trans e2.symm)
theorem xq (I:Inv X CI σ H s)(hN:X.N.Nodup)(hi:X.N[i]?=some x)(hx:Loc X.env.scope x)(r:RelV v u)
  (h:∀s',Inv X CI (σ.set i (some v)) H s'->(∃a,Heap.SameBut a s.heap s'.heap/\(a=X.env.locals\/X.env.cells.lookup x=some a))->Q () s') (hf:X.fn x=true\/X.env.scope.names.lookup x=some .local:=by first | exact .inl rfl | exact .inr rfl | assumption):wpAny M A (storeName X.env x u) Q E s:=by
 obtain⟨m,hn,hl⟩:=id I.loc
 have hcls:(X.env.scope.kind == .class||(X.env.scope.kind == .module&&X.env.locals != X.env.globals))=false:=by rw[I.ok.kind];rfl
 have hiσ:i < σ.length:=by rw[I.len];exact(aw.mp hi).1
 have VW:=I.VW
 have tracked:∀{a:Addr}{h':Heap},(∃o,s.heap.get? a=some o/\H a=none)->Heap.SameBut a s.heap h'->F4 X.prog X.w X.K H h':=λ{a h'} ha hs b ob e=>by
  obtain⟨_,_,T1⟩:=ha
  refine(I.C8 b ob e).IJ (λc w' hc q=>(hs.2 c ?_).trans q) (λ_ q=>q) λ_ _ q=>q
  rintro rfl
  rcases hc with rfl | hc
  ·rw[T1] at e;cases e
  ·rw[T1] at hc;cases hc
 rcases hx with hk | hk
 ·refine wpAny_storeName_local hk hn (λh' YN hs=>?_) hcls
  obtain⟨oL,_,_,hoL,_⟩:=id hn
  refine h _ ⟨I.ok,I.os,I.bare,⟨λb o e n hb hx=>?_,λb o e n hb hx=>?_,I.base.free,λb o e hx=>?_,I.base.IL,I.base.HV,I.base.IM⟩,⟨_,YN,λj y v' e1 e2 e3=>?_⟩,λy c e=>?_,I.free,I.EO,λp hp=>?_,tracked ⟨oL,hoL,I.free⟩ hs,by simpa using I.len⟩ ⟨_,hs,.inl rfl⟩
  ·exact(hs.2 b (cf (bS (aI e) I.ok.above))).trans (I.base.keep b o e n hb hx)
  ·obtain⟨sl,e1⟩:=I.base.slot b o e n hb hx
   exact⟨sl,(hs.2 b (cf (bS (aI e) I.ok.above))).trans e1⟩
  ·obtain⟨o',e1⟩:=I.base.there b o e hx
   exact⟨o',(hs.2 b (cf (bS (aI e) I.ok.above))).trans e1⟩
  ·by_cases hj:j=i
   ·subst hj
    rw[hi] at e1;cases e1
    rw[ck hiσ] at e2
    cases e2
    exact⟨u,r,.inl ⟨hk,by simp⟩⟩
   ·rw[ay (gx hj)] at e2
    obtain⟨u',r',q⟩:=hl j y v' e1 e2 e3
    refine⟨u',r',?_⟩
    rcases q with ⟨k,e⟩ | ⟨k,c,e,z⟩
    ·refine .inl ⟨k,?_⟩
     have:y≠x:=λe=>hj (yZ hN e1 (e▸hi))
     simp[this,e]
    ·exact .inr ⟨k,c,e,z.sameBut hs (VW y c e)⟩
  ·obtain⟨w',z⟩:=I.cell y c e
   exact⟨w',z.sameBut hs (VW y c e)⟩
  ·obtain⟨e,n,ne,nf,d⟩:=I.pin p hp
   exact⟨(hs.2 p.1 ne).trans e,n,ne,nf,d⟩
 ·have RI:X.fn x=true:=by
   rcases hf with z | z
   ·exact z
   ·rw[z] at hk;cases hk
  obtain⟨c,hc⟩:=I.ok.has x (.inl hk)
  obtain⟨w',z⟩:=I.cell x c hc
  refine wpAny_storeName_cell I.ok.kind hk hc z (λh' ME hs=>?_)
  obtain⟨oc,hoc,hocd⟩:=id z
  refine h { s with heap:=h' } ⟨I.ok,I.os,I.bare,⟨λb o e n hb hx=>?_,λb o e n hb hx=>?_,I.base.free,λb o e hx=>?_,I.base.IL,I.base.HV,I.base.IM⟩,⟨m,hn.sameBut hs (gx (VW x c hc)),λj y v' e1 e2 e3=>?_⟩,λy c' e=>?_,I.free,I.EO,λp hp=>?_,tracked ⟨oc,hoc,I.EO x c hc⟩ hs,by simpa using I.len⟩ ⟨c,hs,.inr hc⟩
  ·exact(hs.2 b (cf (bS (aI e) (I.ok.Yh x c RI hc)))).trans (I.base.keep b o e n hb hx)
  ·obtain⟨sl,e1⟩:=I.base.slot b o e n hb hx
   exact⟨sl,(hs.2 b (cf (bS (aI e) (I.ok.Yh x c RI hc)))).trans e1⟩
  ·obtain⟨o',e1⟩:=I.base.there b o e hx
   exact⟨o',(hs.2 b (cf (bS (aI e) (I.ok.Yh x c RI hc)))).trans e1⟩
  ·by_cases hj:j=i
   ·subst hj
    rw[hi] at e1;cases e1
    rw[ck hiσ] at e2
    cases e2
    exact⟨u,r,.inr ⟨.inl hk,c,hc,ME⟩⟩
   ·rw[ay (gx hj)] at e2
    obtain⟨u',r',q⟩:=hl j y v' e1 e2 e3
    refine⟨u',r',?_⟩
    rcases q with q | ⟨k,c',e,z'⟩
    ·exact .inl q
    ·refine .inr ⟨k,c',e,z'.sameBut hs ?_⟩
     rintro rfl
     exact hj (yZ hN e1 (I.ok.inj _ _ _ e hc▸hi))
  ·by_cases hcc:c'=c
   ·subst hcc;exact⟨_,ME⟩
   ·obtain⟨w2,z2⟩:=I.cell y c' e
    exact⟨w2,z2.sameBut hs hcc⟩
  ·obtain⟨e,n,ne,nf,d⟩:=I.pin p hp
   refine⟨(hs.2 p.1 ?_).trans e,n,ne,nf,d⟩
   intro q
   rw[q,hoc] at e
   have q':oc=p.2:=a9 e
   exact d w' (by rw[← q'];exact hocd)
theorem y_ (I:Inv X CI σ H s)(hN:X.N.Nodup)(hi:X.N[i]?=some x)(hx:Loc X.env.scope x)(r:RelV v u)
  (h:∀s',Inv X CI (σ.set i (some v)) H s'->Q () s') (hf:X.fn x=true\/X.env.scope.names.lookup x=some .local:=by first | exact .inl rfl | exact .inr rfl | assumption):wpAny M A (storeName X.env x u) Q E s:=
 xq I hN hi hx r (λs' I' _=>h s' I') hf
theorem Inv.T2 {s':Shared}(I:Inv X CI σ H s)(ho:s'.os=s.os)(u:Un (F8 X.stack) ch H H' s.heap s'.heap)(C8:F4 X.prog X.w X.K H' s'.heap)(hg:AllBare s'.gens)
  (IE:∀b∈ch,(b∈X.ex\/X.s₀.heap.objs.size<=b)/\b≠X.env.locals/\(∀x c,X.env.cells.lookup x=some c->c≠b)/\∀p∈X.pn++CI,p.1≠b):Inv X CI σ H' s':=by
 obtain⟨h',g',d',t',o'⟩:=s'
 have e:o'=s.os:=ho
 subst e
 exact I.call (g':=g') (t':=t') (d':=d') u C8 hg IE
end
abbrev XK:=Value->Option Addr->Hp->Prop
abbrev St:=List (Option V)
abbrev VK:=V->Hp->Prop
abbrev TE:=St->Hp->VK->Prop
abbrev TT:=St->Hp->(Bool->Hp->Prop)->Prop
abbrev TA:=St->Hp->(List V->Hp->Prop)->Prop
structure Ends where
 nx:St->Hp->Prop
 rt:VK
 bk:St->Hp->Prop:=λ_ _=>False
 ct:St->Hp->Prop:=λ_ _=>False
abbrev TS:=Ends->St->Hp->Prop
def EP (X:Cx)(CI:fN)(σ:St)(Q:VK)(u:Value)(s':Shared):Prop:=∃v H',Inv X CI σ H' s'/\RelV v u/\Q v H'
def TP (X:Cx)(CI:fN)(σ:St)(Q:Bool->Hp->Prop)(b:Bool)(s':Shared):Prop:=∃H',Inv X CI σ H' s'/\Q b H'
def AP (X:Cx)(CI:fN)(σ:St)(Q:List V->Hp->Prop)(us:mA)(s':Shared):Prop:=∃vs H',Inv X CI σ H' s'/\Vals vs us/\Q vs H'
def SP (X:Cx)(CI:fN)(D:Ends)(f:Flow)(s':Shared):Prop:=
 match f with
 | .next=>∃ σ' H',Inv X CI σ' H' s'/\D.nx σ' H'
 | .brk=>∃ σ' H',Inv X CI σ' H' s'/\D.bk σ' H'
 | .cont=>∃ σ' H',Inv X CI σ' H' s'/\D.ct σ' H'
 | .ret u=>∃v σ' H',Inv X CI σ' H' s'/\RelV v u/\D.rt v H'
def PE (X:Cx)(e:Expr)(t:TE):Prop:=
 ∀(CI:fN) (s:Shared) (σ:St) (H:Hp) (Q:VK),Inv X CI σ H s->t σ H Q->wpAny (model X.prog X.w) X.A (eval e X.env) (EP X CI σ Q) X.xe s
def PT (X:Cx)(e:Expr)(t:TT):Prop:=
 ∀(CI:fN) (s:Shared) (σ:St) (H:Hp) (Q:Bool->Hp->Prop),Inv X CI σ H s->t σ H Q->wpAny (model X.prog X.w) X.A (isTrue e X.env (eval e X.env)) (TP X CI σ Q) X.xe s
def PW (X:Cx)(e:Expr)(t:TT):Prop:=
 ∀(whole:Sem Value) (CI:fN) (s:Shared) (σ:St) (H:Hp) (Q:Bool->Hp->Prop),Inv X CI σ H s->t σ H Q->wpAny (model X.prog X.w) X.A (isTrue e X.env whole) (TP X CI σ Q) X.xe s
def PA (X:Cx)(es:rl)(t:TA):Prop:=
 ∀(pos:Pos) (CI:fN) (s:Shared) (σ:St) (H:Hp) (Q:List V->Hp->Prop),Inv X CI σ H s->t σ H Q->wpAny (model X.prog X.w) X.A (spliced (backTo pos (starEach es X.env))) (AP X CI σ Q) X.xe s
def PS (X:Cx)(st:Stmt)(t:TS):Prop:=
 ∀(CI:fN) (s:Shared) (σ:St) (H:Hp) (D:Ends),Inv X CI σ H s->t D σ H->wpAny (model X.prog X.w) X.A (exec st X.env) (SP X CI D) X.xe s
def Fu (X:Cx)(st:rk)(t:TS):Prop:=
 ∀(CI:fN) (s:Shared) (σ:St) (H:Hp) (D:Ends),Inv X CI σ H s->t D σ H->wpAny (model X.prog X.w) X.A (execs st X.env) (SP X CI D) X.xe s
theorem DB {α:Type}{t:Sem α}{Q Q':α->Shared->Prop}(h:wpAny M A t Q E s)(hQ:∀a s,Q a s->Q' a s):wpAny M A t Q' E s:=eW h hQ λ_ _ x=>x
variable {pos:Pos}{CI:fN}{σ:St}{e c:Expr}
section
variable {X:Cx}
def Qp (i:Nat):TE:=fun σ H Q=>∃v,σ[i]?=some (some v)/\Q v H
def tC (v:V):TE:=λ_ H Q=>Q v H
theorem gR (hN:X.N[i]?=some x)(hv:MB X.env.scope x)(hd:(x == ("__debug__" : Str))=false:=by decide)(FH:(x == ("__classdict__" : Str))=false:=by decide):PE X (.Name x pos) (Qp i):=by
 intro CI s σ H Q I h
 obtain⟨v,e,h⟩:=h
 obtain⟨m,hn,hl⟩:=I.loc
 obtain⟨u,r,l⟩:=hl i x v hN e hv
 have fin:EP X CI σ Q u s:=⟨v,H,I,r,h⟩
 rcases l with ⟨hk,hm⟩ | ⟨hk,c,hc,L9⟩
 ·exact wpAny_Name (wpAny_loadName_local I.ok.kind hk hn hm fin) hd
 ·rcases hk with hk | hk
  ·exact wpAny_Name (wpAny_loadName_cell I.ok.kind hk hc L9 fin) hd
  ·exact wpAny_Name (wpAny_loadName_free I.ok.kind hk hc L9 fin FH) hd
theorem u_ {i j pos}:PE X (.Constant (.int i) j pos) (tC (.int i)):=λ_ _ _ H _ I h=>wpAny_Constant_int ⟨.int i,H,I.tok _,⟨_,rfl⟩,h⟩
theorem Ly {b j pos}:PE X (.Constant (.bool b) j pos) (tC (.bl b)):=λ_ _ _ H _ I h=>Constant_bool ⟨.bl b,H,I,rfl,h⟩
theorem za {j pos}:PE X (.Constant .none j pos) (tC .CY):=λ_ _ _ H _ I h=>Constant_none ⟨.CY,H,I,rfl,h⟩
theorem Qq {x j pos}:PE X (.Constant (.str x) j pos) (tC (.str x)):=λ_ _ _ H _ I h=>Calls.Constant_str ⟨.str x,H,I.tok _,⟨_,rfl⟩,h⟩
def Gl (X:Cx)(x:Str):Prop:=X.env.kindOf x=some .globalImplicit
theorem qb {Q:dx}(I:Inv X CI σ H s)(hg:Gl X x)(hm:X.mg x=some u)(h:Q u s)
  (hd:(x == ("__debug__" : Str))=false:=by decide):wpAny (model X.prog X.w) X.A (eval (.Name x pos) X.env) Q E s:=
 nB I.ok.kind hg (Calls.loadGlobal_global (by rw[I.ok.glob];exact I.mod.glob.keeps I.bk) hm h) hd
theorem dZ {Q:dx}(I:Inv X CI σ H s)(hg:Gl X x)(hm:X.mg x=none)(hv:bootBuiltins x=some u)(h:Q u s)
  (hn:x ≠ "__name__" := by decide) (hd:(x == ("__debug__" : Str))=false:=by decide):wpAny (model X.prog X.w) X.A (eval (.Name x pos) X.env) Q E s:=by
 obtain⟨mb,h1,h2⟩:=I.mod.blt
 exact nB I.ok.kind hg (Calls.loadGlobal_builtin (by rw[I.ok.glob];exact I.mod.glob.keeps I.bk) hm (by rw[I.ok.blt];exact h1.keeps I.bk) ((h2 x hn).trans hv) h) hd
theorem M5 (hg:Gl X x)(hm:X.mg x=some u)(r:RelV v u)(hd:(x == ("__debug__" : Str))=false:=by decide):PE X (.Name x pos) (tC v):=
 λ_ _ _ H _ I h=>qb I hg hm ⟨v,H,I,r,h⟩ hd
theorem M6 (hg:Gl X x)(hm:X.mg x=none)(hv:bootBuiltins x=some u)(r:RelV v u)(hn:x ≠ "__name__" := by decide)(hd:(x == ("__debug__" : Str))=false:=by decide):PE X (.Name x pos) (tC v):=
 λ_ _ _ H _ I h=>dZ I hg hm hv ⟨v,H,I,r,h⟩ hn hd
variable {a b:Expr}{ta tb:TE}{pos:Pos}
def tB (t:TE):TT:=fun σ H Q=>t σ H λx H1=>∃c,x=.bl c/\Q c H1
theorem Qs {t:TE}(h:PE X e t)(he:∀whole,isTrue e X.env whole=(do let v ← whole;standAt e.pos;holding [v] (truthy v)):=by intro _;rfl):PT X e (tB t):=by
 intro CI s σ H Q I hw
 refine isTrue_plain (DB (h CI s σ H _ I hw) ?_) (he _)
 rintro v s1 ⟨x,H1,I1,r1,q1⟩
 obtain⟨d,rfl,q⟩:=q1
 cases r1
 exact gl ⟨H1,I1,q⟩
variable {tA tB':TT}{rest:rl}
def VV (t u:TT):TT:=fun σ H Q=>t σ H λc H1=>if c=true then u σ H1 Q else Q false H1
def tOr (t u:TT):TT:=fun σ H Q=>t σ H λc H1=>if c=true then Q true H1 else u σ H1 Q
def V0 (t:TT):TT:=fun σ H Q=>t σ H λc H1=>Q (!c) H1
theorem M7 (ha:PT X a tA):PW X (.BoolOp .And [a] pos) tA:=by
 intro wh CI s σ H Q I h
 refine isTrue_and (DB (ha CI s σ H Q I h) λc s1 e=>?_)
 cases c with
 | true=>exact isTrue_and_nil e
 | false=>exact e
theorem Qt (ha:PT X a tA):PW X (.BoolOp .Or [a] pos) tA:=by
 intro wh CI s σ H Q I h
 refine isTrue_or (DB (ha CI s σ H Q I h) λc s1 e=>?_)
 cases c with
 | false=>exact isTrue_or_nil e
 | true=>exact e
theorem Qu (ha:PT X a tA)(hb:PW X (.BoolOp .And (b::rest) pos) tB'):PW X (.BoolOp .And (a::b::rest) pos) (VV tA tB'):=by
 intro wh CI s σ H Q I h
 refine isTrue_and (DB (ha CI s σ H _ I h) ?_)
 rintro c s1 ⟨H1,I1,q1⟩
 cases c with
 | true=>exact hb wh CI s1 σ H1 Q I1 q1
 | false=>exact⟨H1,I1,q1⟩
theorem Ut (ha:PT X a tA)(hb:PW X (.BoolOp .Or (b::rest) pos) tB'):PW X (.BoolOp .Or (a::b::rest) pos) (tOr tA tB'):=by
 intro wh CI s σ H Q I h
 refine isTrue_or (DB (ha CI s σ H _ I h) ?_)
 rintro c s1 ⟨H1,I1,q1⟩
 cases c with
 | true=>exact⟨H1,I1,q1⟩
 | false=>exact hb wh CI s1 σ H1 Q I1 q1
theorem Qv (ha:PT X a tA):PT X (.UnaryOp .Not a pos) (V0 tA):=by
 intro CI s σ H Q I h
 exact isTrue_not (ha CI s σ H (λc H1=>Q (!c) H1) I h)
def Uu (ta tb:TE):TE:=fun σ H Q=>ta σ H λx H1=>∃c,x=.bl c/\if c=true then tb σ H1 Q else Q (.bl false) H1
def V1 (ta tb:TE):TE:=fun σ H Q=>ta σ H λx H1=>∃c,x=.bl c/\if c=true then Q (.bl true) H1 else tb σ H1 Q
def Uv (ta:TE):TE:=fun σ H Q=>ta σ H λx H1=>∃c,x=.bl c/\Q (.bl (!c)) H1
theorem Qw {op}{t:TE}(h:PE X a t):PE X (.BoolOp op [a] pos) t:=λCI s σ H Q I hw=>BoolOp_one (h CI s σ H Q I hw)
theorem Qx (ha:PE X a ta)(hb:PE X (.BoolOp .And (b::rest) pos) tb):PE X (.BoolOp .And (a::b::rest) pos) (Uu ta tb):=by
 intro CI s σ H Q I h
 refine BoolOp_and (DB (ha CI s σ H _ I h) ?_)
 rintro v s1 ⟨x,H1,I1,r1,q1⟩
 obtain⟨c,rfl,q1⟩:=q1
 cases r1
 refine gl ?_
 cases c with
 | true=>exact hb CI s1 σ H1 Q I1 q1
 | false=>exact⟨.bl false,H1,I1,rfl,q1⟩
theorem Uw (ha:PE X a ta)(hb:PE X (.BoolOp .Or (b::rest) pos) tb):PE X (.BoolOp .Or (a::b::rest) pos) (V1 ta tb):=by
 intro CI s σ H Q I h
 refine BoolOp_or (DB (ha CI s σ H _ I h) ?_)
 rintro v s1 ⟨x,H1,I1,r1,q1⟩
 obtain⟨c,rfl,q1⟩:=q1
 cases r1
 refine gl ?_
 cases c with
 | false=>exact hb CI s1 σ H1 Q I1 q1
 | true=>exact⟨.bl true,H1,I1,rfl,q1⟩
theorem Qy (ha:PE X a ta):PE X (.UnaryOp .Not a pos) (Uv ta):=by
 intro CI s σ H Q I h
 refine UnaryOp_ (DB (ha CI s σ H _ I h) ?_)
 rintro v s1 ⟨x,H1,I1,r1,q1⟩
 obtain⟨c,rfl,q1⟩:=q1
 cases r1
 exact not_of (gl ⟨.bl (!c),H1,I1,rfl,q1⟩)
def tIf (t:TT)(ta tb:TE):TE:=fun σ H Q=>t σ H λc H1=>if c=true then ta σ H1 Q else tb σ H1 Q
theorem JB (hc:PT X c tA)(ha:PE X a ta)(hb:PE X b tb):PE X (.IfExp c a b pos) (tIf tA ta tb):=by
 intro CI s σ H Q I h
 refine wpAny_IfExp (DB (hc CI s σ H _ I h) ?_)
 rintro d s1 ⟨H1,I1,q1⟩
 cases d with
 | true=>exact ha CI s1 σ H1 Q I1 q1
 | false=>exact hb CI s1 σ H1 Q I1 q1
end
def DL (K:W.Frag)(H:Hp)(a:Addr)(xs:List V):Prop:=
 Rd H a (.lst xs) \/
  ∃(o:Obj) (CL:rV) (n:Nat),K.lookup a=some o/\o.cls=.type "list" /\ o.dict=none/\o.data=.seq CL n/\CL.size<=sizeLine/\Vals xs CL.toList
def FI (K:W.Frag)(H:Hp)(a:Addr)(xs:List V):Prop:=
 Rd H a (.tup xs) \/
  ∃(o:Obj) (CL:rV) (n:Nat),K.lookup a=some o/\o.cls=.type "tuple" /\ o.data=.seq CL n/\CL.size<=sizeLine/\Vals xs CL.toList
noncomputable def V2:Value->Option V
 | .none=>some .CY
 | .bool b=>some (.bl b)
 | .int i _=>some (.int i)
 | .str x _=>some (.str x)
 | .bytes b _=>some (.NY b)
 | .float b _=>some (.Yg b)
 | .ref a=>some (.ref a)
 | .type n=>some (.ty n)
 | _=>none
theorem RelV.abs {x:V}(r:RelV x u):V2 u=some x:=by
 cases x with
 | CY=>cases r;rfl
 | bl _=>cases r;rfl
 | int _=>obtain⟨t,rfl⟩:=r;rfl
 | str _=>obtain⟨t,rfl⟩:=r;rfl
 | NY _=>obtain⟨t,rfl⟩:=r;rfl
 | Yg _=>obtain⟨t,rfl⟩:=r;rfl
 | ref _=>cases r;rfl
 | ty _=>cases r;rfl
variable {y:V}
theorem RelV.inj {x:V}(r:RelV x u)(q:RelV y u):x=y:=a9 (r.abs.symm.trans q.abs)
theorem Vals.inj:∀{xs ys:List V}{us:mA},Vals xs us->Vals ys us->xs=ys
 | _,_,_,.nil,.nil=>rfl
 | _,_,_,.cons r t,.cons r' t'=>by rw[r.inj r',Vals.inj t t']
section
variable {X:Cx}{CI:fN}{σ:St}{H:Hp}{s:Shared}{a:Addr}{xs ys:List V}
theorem DL.of (h:H a=some (.lst xs)):DL K H a xs:=.inl (.inl h)
theorem FI.of (h:H a=some (.tup xs)):FI K H a xs:=.inl (.inl h)
theorem Inv.list (I:Inv X CI σ H s)(h:DL X.K H a xs):∃CL:List Value,Vals xs CL/\PlainL s.heap a CL.toArray/\xs.length<=sizeLine:=by
 rcases h with h | ⟨o,CL,n,hk,hc,hd,hs,hz,r⟩
 ·obtain⟨z,CL,n,r,e⟩:=h.ok I.C8
  exact⟨CL,r,⟨_,n,e,rfl,rfl,rfl⟩,z⟩
 ·refine⟨CL.toList,r,⟨o,n,I.EZ a o hk,hc,hd,by simpa using hs⟩,?_⟩
  have e:=r.length
  simp only[eS] at e
  omega
theorem Inv.tuple (I:Inv X CI σ H s)(h:FI X.K H a xs):∃CL:List Value,Vals xs CL/\IsTup s.heap a CL.toArray/\xs.length<=sizeLine:=by
 rcases h with h | ⟨o,CL,n,hk,hc,hs,hz,r⟩
 ·obtain⟨z,CL,r,p⟩:=h.ok I.C8
  exact⟨CL,r,p,z⟩
 ·refine⟨CL.toList,r,⟨o,I.EZ a o hk,hc,n,by simpa using hs⟩,?_⟩
  have e:=r.length
  simp only[eS] at e
  omega
theorem Inv.HZ (I:Inv X CI σ H s)(h:DL X.K H a xs)(h':DL X.K H a ys):xs=ys:=by
 obtain⟨CL,r,⟨o,n,e,_,_,d⟩,_⟩:=I.list h
 obtain⟨its',r',⟨o',n',e',_,_,d'⟩,_⟩:=I.list h'
 rw[e] at e';cases e'
 rw[d] at d'
 injection d' with d1 _
 have:CL=its':=by simpa using b9 Array.toList d1
 subst this
 exact r.inj r'
theorem Inv.G0 (I:Inv X CI σ H s)(h:FI X.K H a xs)(h':FI X.K H a ys):xs=ys:=by
 obtain⟨CL,r,⟨o,e,_,n,d⟩,_⟩:=I.tuple h
 obtain⟨its',r',⟨o',e',_,n',d'⟩,_⟩:=I.tuple h'
 rw[e] at e';cases e'
 rw[d] at d'
 injection d' with d1 _
 have:CL=its':=by simpa using b9 Array.toList d1
 subst this
 exact r.inj r'
end
abbrev Cx.F5 (X:Cx)(E:dx):Cx:={ X with xe:=E }
abbrev Cx.UA (X:Cx):Cx:=X.F5 λ_ _=>False
theorem Cx.Ok.F5 {X:Cx}(ok:X.Ok)(E:dx):(X.F5 E).Ok:=
 ⟨ok.mod,ok.kind,ok.glob,ok.blt,ok.above,ok.inj,ok.has,ok.Yh,ok.hd,ok.frames,ok.YL,ok.exf,ok.bs,ok.RH,ok.MD,ok.N2,ok.GW,ok.VU⟩
variable {X:Cx}
theorem Cx.Ok.unwish (ok:(X.F5 E).Ok):X.Ok:=
 ⟨ok.mod,ok.kind,ok.glob,ok.blt,ok.above,ok.inj,ok.has,ok.Yh,ok.hd,ok.frames,ok.YL,ok.exf,ok.bs,ok.RH,ok.MD,ok.N2,ok.GW,ok.VU⟩
section
variable {X:Cx}{CI:fN}{σ:St}{H:Hp}{s:Shared}{E:dx}
theorem Inv.F5 (I:Inv X CI σ H s)(E:dx):Inv (X.F5 E) CI σ H s:=⟨I.ok.F5 E,I.os,I.bare,I.base,I.loc,I.cell,I.free,I.EO,I.pin,I.C8,I.len⟩
theorem Inv.unwish (I:Inv (X.F5 E) CI σ H s):Inv X CI σ H s:=⟨I.ok.unwish,I.os,I.bare,I.base,I.loc,I.cell,I.free,I.EO,I.pin,I.C8,I.len⟩
theorem SP.unwish {D:Ends}{f:Flow}{s':Shared}(h:SP (X.F5 E) CI D f s'):SP X CI D f s':=by
 cases f with
 | next=>obtain⟨σ',H',I,q⟩:=h;exact⟨σ',H',I.unwish,q⟩
 | brk=>obtain⟨σ',H',I,q⟩:=h;exact⟨σ',H',I.unwish,q⟩
 | cont=>obtain⟨σ',H',I,q⟩:=h;exact⟨σ',H',I.unwish,q⟩
 | ret u=>obtain⟨v,σ',H',I,r,q⟩:=h;exact⟨v,σ',H',I.unwish,r,q⟩
theorem Fu.UA {st:rk}{t:TS}(h:Fu X.UA st t):Fu X st t:=λCI s σ H D I hw=>
 eW (h CI s σ H D (I.F5 _) hw) (λ_ _ q=>q.unwish) λ_ _ z=>False.elim z
end
section
variable {X:Cx}{st:Stmt}{rest:rk}{t u:TS}{e:Expr}{te:TE}{pos:Pos}
def Ux:TS:=λD σ H=>D.nx σ H
def V3 (t u:TS):TS:=λD σ H=>t { D with nx:=u D } σ H
theorem vZ:Fu X [] Ux:=λ_ _ σ H _ I h=>k6 ⟨σ,H,I,h⟩
theorem ik (h1:PS X st t)(h2:Fu X rest u):Fu X (st::rest) (V3 t u):=by
 intro CI s σ H D I h
 refine ow (DB (h1 CI s σ H { D with nx:=u D } I h) λf s1 q=>?_)
 cases f with
 | next=>
  obtain⟨σ',H',I',q⟩:=q
  exact h2 CI s1 σ' H' D I' q
 | ret v=>exact q
 | brk=>exact q
 | cont=>exact q
theorem qd (h1:PS X st t):Fu X [st] t:=by
 intro CI s σ H D I h
 refine ow (DB (h1 CI s σ H D I h) λf s1 q=>?_)
 cases f with
 | next=>exact k6 q
 | ret v=>exact q
 | brk=>exact q
 | cont=>exact q
theorem Inv.quiet (I:Inv X CI σ H s):interactive X.env=false:=by simp[interactive,I.ok.kind]
def Uy (te:TE):TS:=λD σ H=>te σ H λ_ H1=>D.nx σ H1
theorem m8 (he:PE X e te)(hs:swapsWith e none pos.line X.env=pure false:=by rfl):PS X (.Expr e pos) (Uy te):=by
 intro CI s σ H D I h
 exact wpAny_Expr_any (DB (he CI s σ H _ I h) λv s1 ⟨x,H1,I1,r1,q1⟩=>⟨σ,H1,I1,q1⟩) I.quiet hs
def V4 (te:TE):TS:=λD σ H=>te σ H D.rt
theorem vd (he:PE X e te):PS X (.Return (some e) pos) (V4 te):=by
 intro CI s σ H D I h
 exact wpAny_Return_some (DB (he CI s σ H _ I h) λv s1 ⟨x,H1,I1,r1,q1⟩=>⟨x,σ,H1,I1,r1,q1⟩)
def V5 (c:TT)(t u:TS):TS:=λD σ H=>c σ H λb H1=>if b=true then t D σ H1 else u D σ H1
theorem Ek {a b:rk}{tc:TT}(hc:PT X c tc)(ha:Fu X a t)(hb:Fu X b u):PS X (.If c a b pos) (V5 tc t u):=by
 intro CI s σ H D I h
 refine wpAny_If (DB (hc CI s σ H _ I h) ?_)
 rintro d s1 ⟨H1,I1,q1⟩
 cases d with
 | true=>exact ha CI s1 σ H1 D I1 q1
 | false=>exact hb CI s1 σ H1 D I1 q1
def Qz:TS:=λ_ _ _=>False
theorem JC:PS X st Qz:=λ_ _ _ _ _ _ h=>h.elim
end
abbrev TG:=V->St->Hp->(St->Hp->Prop)->Prop
abbrev NA:=List V->St->Hp->(St->Hp->Prop)->Prop
def PG (X:Cx)(target:Expr)(t:TG):Prop:=
 ∀(CI:fN) (s:Shared) (σ:St) (H:Hp) (v:V) (u:Value) (Q:St->Hp->Prop),Inv X CI σ H s->RelV v u->t v σ H Q->
  wpAny (model X.prog X.w) X.A (assign target X.env u) (λ_ s'=>∃ σ' H',Inv X CI σ' H' s'/\Q σ' H') X.xe s
def N4 (X:Cx)(ts:rl)(t:NA):Prop:=
 ∀(CI:fN) (s:Shared) (σ:St) (H:Hp) (vs:List V) (us:mA) (Q:St->Hp->Prop),Inv X CI σ H s->Vals vs us->t vs σ H Q->
  wpAny (model X.prog X.w) X.A (assignInOrder ((assignEach ts X.env).map (·.2)) us) (λ_ s'=>∃ σ' H',Inv X CI σ' H' s'/\Q σ' H') X.xe s
abbrev JD:=V->V->V->Hp->(Hp->Prop)->Prop
def QB (X:Cx)(t:JD):Prop:=
 ∀(CI:fN) (s:Shared) (σ:St) (H:Hp) (o i v:V) (ov iv u:Value) (Q:Hp->Prop),Inv X CI σ H s->RelV o ov->RelV i iv->RelV v u->t o i v H Q->
  wpAny (model X.prog X.w) X.A (setItem ov iv u) (λ_ s'=>∃H',Inv X CI σ H' s'/\Q H') X.xe s
variable {tg:Expr}
section
variable {X:Cx}{pos:Pos}
def t7 (i:Nat):TG:=λv σ H Q=>Q (σ.set i (some v)) H
theorem v6 (hN:X.N.Nodup)(hi:X.N[i]?=some x)(hx:Loc X.env.scope x)(hf:X.fn x=true\/X.env.scope.names.lookup x=some .local:=by first | exact .inl rfl | exact .inr rfl | assumption):PG X (.Name x pos) (t7 i):=by
 intro CI s σ H v u Q I r h
 exact wpAny_assign_Name (y_ I hN hi hx r (λs' I'=>⟨_,H,I',h⟩) hf)
def QC:NA:=λvs σ H Q=>vs=[]/\Q σ H
def Lz (t:TG)(u:NA):NA:=λvs σ H Q=>∃v r,vs=v::r/\t v σ H fun σ' H'=>u r σ' H' Q
theorem m9:N4 X [] QC:=by
 intro CI s σ H vs us Q I r h
 obtain⟨e,h⟩:=h
 subst e
 cases r
 exact assignInOrder_nil ⟨σ,H,I,h⟩
theorem fj {es:rl}{t:TG}{u:NA}(h1:PG X e t)(h2:N4 X es u)
  (hs:(assignEach (e::es) X.env).map (·.2)=assign e X.env::(assignEach es X.env).map (·.2):=by rfl):N4 X (e::es) (Lz t u):=by
 intro CI s σ H vs us Q I r h
 obtain⟨v,vr,e1,h⟩:=h
 subst e1
 cases r with
 | cons r rr=>
  rw[hs]
  refine assignInOrder_cons (DB (h1 CI s σ H _ _ _ I r h) ?_)
  rintro _ s1 ⟨σ1,H1,I1,q1⟩
  exact h2 CI s1 σ1 H1 _ _ Q I1 rr q1
def QD (K:W.Frag)(n:Nat)(t:NA):TG:=λv σ H Q=>∃a xs,v=.ref a/\FI K H a xs/\xs.length=n/\t xs σ H Q
theorem qe {es:rl}{k:Nat}{t:NA}(hc:X.calm=true)(h:N4 X es t)
  (hn:(assignEach es X.env).length=n:=by rfl) (F6:(assignEach es X.env).findIdx? (·.1)=none:=by rfl):PG X (.Tuple es k pos) (QD X.K n t):=by
 intro CI s σ H v u Q I r hw
 obtain⟨a,xs,e1,hq,hl,hw⟩:=hw
 subst e1
 cases r
 obtain⟨CL,rv,ht,hz⟩:=I.tuple hq
 refine assign_Tuple_tuple (I.ok.hd hc) ht (by simp[hn,← hl,rv.length]) F6 λh' hx=>?_
 have I1:Inv X CI σ H { s with heap:=h' }:=I.kept (t':=s.toks) λb o e=>hx b o (cf (aI e)) e
 exact h CI _ σ H xs _ Q I1 (by simpa using rv) hw
def V6 (to ti:TE)(t:JD):TG:=λv σ H Q=>to σ H λo H1=>ti σ H1 λi H2=>t o i v H2 λH3=>Q σ H3
theorem QF {o i:Expr}{to ti:TE}{t:JD}(ho:PE X o to)(hi:PE X i ti)(hs:QB X t)
  (ha:∀v,assign (.Subscript o i pos) X.env v=(do
   let ov ← holding [v] (eval o X.env)
   let iv ← holding [v,ov] (eval i X.env)
   standAt pos
   holding [v,ov,iv] (setItem ov iv v)
   release [v,ov,iv] []):=by intro _;rfl):PG X (.Subscript o i pos) (V6 to ti t):=by
 intro CI s σ H v u Q I r h
 rw[ha]
 refine ac (df (DB (ho CI s σ H _ I h) ?_))
 rintro ov s1 ⟨x,H1,I1,r1,q1⟩
 refine ac (df (DB (hi CI s1 σ H1 _ I1 q1) ?_))
 rintro iv s2 ⟨y,H2,I2,r2,q2⟩
 refine ac (ol (ac (df (DB (hs CI s2 σ H2 x y v ov iv u _ I2 r1 r2 r q2) ?_))))
 rintro _ s3 ⟨H3,I3,q3⟩
 exact wpAny_release ⟨σ,H3,I3,q3⟩
def JF (te:TE)(g:TG):TS:=λD σ H=>te σ H λx H1=>g x σ H1 D.nx
theorem Gs {te:TE}{g:TG}(he:PE X e te)(hg:PG X tg g)(hs:swapsWithSole [tg] e pos.line X.env=pure false:=by rfl)(hw:swappedStores [tg] e X.env=pure none:=by rfl)
  (h1:(assignEach [tg] X.env).map (·.2)=[assign tg X.env]:=by rfl):PS X (.Assign [tg] e pos) (JF te g):=by
 intro CI s σ H D I h
 refine wpAny_Assign_stores (DB (he CI s σ H _ I h) ?_) hs hw
 rintro v s1 ⟨x,H1,I1,r1,q1⟩
 rw[h1]
 exact DB (hg CI s1 σ H1 x v _ I1 r1 q1) λ_ s2 q=>q
theorem rZ {te:TE}{pos':Pos}(hN:X.N.Nodup)(hi:X.N[i]?=some x)(hx:Loc X.env.scope x)(he:PE X e te)(hs:swapsWith e (some (.Name x pos')) pos.line X.env=pure false:=by rfl)(hf:X.fn x=true\/X.env.scope.names.lookup x=some .local:=by first | exact .inl rfl | exact .inr rfl | assumption):
  PS X (.Assign [.Name x pos'] e pos) (JF te (t7 i)):=by
 intro CI s σ H D I h
 refine wpAny_Assign_Name (DB (he CI s σ H _ I h) ?_) hs
 rintro v s1 ⟨y,H1,I1,r1,q1⟩
 exact y_ I1 hN hi hx r1 (λs2 I2=>⟨_,H1,I2,q1⟩) hf
end
variable {body:rk}
section
variable {X:Cx}{pos:Pos}
def QG (c:TT)(tb:TS):TS:=λD σ H=>∃W:Nat->St->Hp->Prop,(∃m,W m σ H)/\∀m σ H,W m σ H->
 c σ H λb H1=>if b=true then ∃N:St->Hp->Prop,(∀ σ' H',N σ' H'->∃m',m' < m/\W m' σ' H')/\tb { D with nx:=N,ct:=N,bk:=D.nx } σ H1 else D.nx σ H1
theorem JG {tc:TT}{tb:TS}(hp:PassesOwn (model X.prog X.w) X.A X.env X.xe)(hc:PT X c tc)(hb:Fu X body tb):PS X (.While c body [] pos) (QG tc tb):=by
 intro CI s σ H D I h
 obtain⟨W,⟨m0,w0⟩,turn⟩:=h
 refine wpAny_While (codeAny_whileLoop (λn s'=>∃ σ' H',Inv X CI σ' H' s'/\W n σ' H') ?_ m0 ⟨σ,H,I,w0⟩)
 rintro n s1 ⟨σ1,H1,I1,w1⟩
 refine iN hp (DB (hc CI s1 σ1 H1 _ I1 (turn n σ1 H1 w1)) ?_)
 rintro b s2 ⟨H2,I2,q2⟩
 cases b with
 | true=>
  obtain⟨N,hN,q2⟩:=q2
  rw[be rfl]
  refine iN hp (DB (hb CI s2 σ1 H2 _ I2 q2) λf s3 q3=>?_)
  cases f with
  | next=>
   obtain⟨σ3,H3,I3,n3⟩:=q3
   obtain⟨m',hm,w3⟩:=hN σ3 H3 n3
   exact⟨m',hm,σ3,H3,I3,w3⟩
  | cont=>
   obtain⟨σ3,H3,I3,n3⟩:=q3
   obtain⟨m',hm,w3⟩:=hN σ3 H3 n3
   exact⟨m',hm,σ3,H3,I3,w3⟩
  | brk=>exact q3
  | ret v=>exact q3
 | false=>
  rw[a7 bi]
  exact k6 ⟨σ1,H2,I2,q2⟩
end
structure It where
 go:Nat->Hp->Prop
 yld:Nat->Hp->V->Hp->Prop
 stop:Nat->Hp->Prop
def lr (X:Cx)(CI:fN)(H:Hp)(b:Addr):Prop:=
 H b=none/\b≠X.env.locals/\b∉X.fs/\(b∈X.ex\/X.s₀.heap.objs.size<=b)/\(∀x c,X.env.cells.lookup x=some c->c≠b)/\∀p∈X.pn++CI,p.1≠b
theorem Inv.HG (I:Inv X CI σ H s)(hb:s.heap.objs.size<=b)(hn:H' b=none):lr X CI H' b:=by
 refine⟨hn,ki (bS I.lt hb),I.nofs hb,.inr (gi I.sz hb),λx c e z=>?_,λp hp z=>?_⟩
 ·obtain⟨v,q⟩:=I.cell x c e
  exact absurd (bS q.lt (by rw[z];exact hb)) (em _)
 ·exact absurd (bS (aI (I.pin p hp).1) (by rw[z];exact hb)) (em _)
structure Turn (P:Program)(w:World)(K:W.Frag)(tg:Expr)(J:It)(fp:rL)(it:Addr)(tn:Nat->Heap->Prop):Prop where
 mem:it∈fp
 obj:∀i h,tn i h->∀b∈fp,∃o,h.get? b=some o/\∀v,o.data≠.cell v
 keep:∀i h h',tn i h->(∀b∈fp,∀o,h.get? b=some o->h'.get? b=some o)->tn i h'
 item:∀(X:Cx),X.prog=P->X.w=w->X.K=K->X.calm=true->∀(i:Nat) (CI:fN) (s:Shared) (σ:St) (H:Hp) (E:dx),Inv X CI σ H s->(∀b∈fp,lr X CI H b)->tn i s.heap->J.go i H->
  wpAny (model P w) X.A (pyNext (.ref it)) (λr s1=>∃u,r=some u /\
   wpAny (model P w) X.A (letOwnedTupleGo tg (.ref it) u) (λ_ s2=>∃x H',Inv X CI σ H' s2/\RelV x u/\J.yld i H x H'/\tn (i+1) s2.heap/\∀b∈fp,H' b=none) E s1) E s
 done:∀(X:Cx),X.prog=P->X.w=w->X.K=K->X.calm=true->∀(i:Nat) (CI:fN) (s:Shared) (σ:St) (H:Hp) (E:dx),Inv X CI σ H s->(∀b∈fp,lr X CI H b)->tn i s.heap->J.stop i H->
  wpAny (model P w) X.A (pyNext (.ref it)) (λr s1=>r=none/\Inv X CI σ H s1) E s
 self:∀(A:Around) (i:Nat) (s:Shared) (Q:dx) (E:dx),tn i s.heap->Q (.ref it) s->wpAny (model P w) A (pyIter (.ref it)) Q E s
abbrev TI:=St->Hp->(It->Hp->Prop)->Prop
def PIE (X:Cx)(CI:fN)(σ:St)(tg:Expr)(R:It->Hp->Prop)(YO:Value)(s2:Shared):Prop:=
 ∃(it:Addr) (fp:rL) (tn:Nat->Heap->Prop) (J:It) (H':Hp),YO=.ref it/\Inv X CI σ H' s2/\Turn X.prog X.w X.K tg J fp it tn/\tn 0 s2.heap/\(∀b∈fp,lr X CI H' b)/\R J H'
def PI (X:Cx)(tg iter:Expr)(wi:TI):Prop:=
 ∀(CI:fN) (s:Shared) (σ:St) (H:Hp) (R:It->Hp->Prop),Inv X CI σ H s->wi σ H R->
  wpAny (model X.prog X.w) X.A (eval iter X.env) (λv s1=>wpAny (model X.prog X.w) X.A (pyIter v) (PIE X CI σ tg R) X.xe s1) X.xe s
theorem qK {it:Addr}{n:String}{vs:rV}(ho:s.heap.get? it=some o)(hc:o.cls=.type n)(hd:o.data=.fields vs)
    (hn:["enumerate","zip","dict_itemiterator","dict_reverseitemiterator","odict_iterator","itertools.zip_longest","itertools.pairwise"].contains n=false) (hQ:Q () s):wpAny M A (letOwnedTupleGo tg (.ref it) u) Q E s:=by
  unfold letOwnedTupleGo
  cases tg <;> first
    | exact ai hQ
    | (cases u <;> first
        | exact ai hQ
        | (refine ac (wpAny_load ho ?_)
           rw[hc,hd]
           show wpAny M A (if (["enumerate","zip","dict_itemiterator","dict_reverseitemiterator","odict_iterator","itertools.zip_longest","itertools.pairwise"].contains n&&vs[0]? == some (rawInt _))=true then _ else _) Q E s
           rw[a7 (by intro h;rw[hn,ke] at h;cases h)]
           exact ai hQ))
def Itl (K:W.Frag)(a:Addr):It:=
 ⟨λi H=>∃xs x,DL K H a xs/\xs[i]?=some x,λi H x H'=>H'=H/\∀xs,DL K H a xs->xs[i]?=some x,λi H=>∃xs,DL K H a xs/\xs.length<=i⟩
def Itt (K:W.Frag)(a:Addr):It:=
 ⟨λi H=>∃xs x,FI K H a xs/\xs[i]?=some x,λi H x H'=>H'=H/\∀xs,FI K H a xs->xs[i]?=some x,λi H=>∃xs,FI K H a xs/\xs.length<=i⟩
def Yj (lo:Int)(n:Nat):It:=⟨λi _=>i < n,λi H x H'=>H'=H/\x=.int (lo+i),λi _=>n<=i⟩
theorem Gu (a it:Addr):Turn P w K tg (Itl K a) [it] it (λi h=>h.IsListIter it a i) where
 mem:=by simp
 obj:=λi h st b hb=>by
  have e:b=it:=by simpa using hb
  subst e
  obtain⟨o,e,c,d⟩:=st
  exact⟨o,e,λv z=>by rw[d] at z;cases z⟩
 keep:=λi h h' st k=>st.at λo e=>k it (by simp) o e
 item:=by
  intro X hP hw hK hc i CI s σ H E I hf st hg
  subst hP hw hK
  obtain⟨xs,x,hq,hx⟩:=hg
  obtain⟨CL,rv,p,hz⟩:=I.list hq
  obtain⟨u,hu,ru⟩:=rv.get hx
  obtain⟨f0,f1,f2,f3,f4,f5⟩:=hf it (by simp)
  refine wpAny_pyNext_list_item st p.isList (x:=u) (by simpa using hu) λh' IF sb=>?_
  have I1:Inv X CI σ H { s with heap:=h' }:=I.turned (t':=s.toks) (λb o hb e=>(sb.2 b hb).trans e) f0 f1 f3 f4 f5
  obtain⟨o,e,c,d⟩:=id IF
  exact⟨u,rfl,qK (s:={ s with heap:=h' }) e c d (by decide) ⟨x,H,I1,ru,⟨rfl,λys hy=>by rw[I.HZ hy hq];exact hx⟩,IF,λb hb=>(hf b hb).1⟩⟩
 done:=by
  intro X hP hw hK hc i CI s σ H E I hf st hg
  subst hP hw hK
  obtain⟨xs,hq,hx⟩:=hg
  obtain⟨CL,rv,p,hz⟩:=I.list hq
  obtain⟨f0,f1,f2,f3,f4,f5⟩:=hf it (by simp)
  have hl:=rv.length
  exact wpAny_pyNext_list_end (I.ok.hd hc) st p.isList (by simp;omega) λh' eb=>⟨rfl,I.turned (t':=s.toks) (λb o hb e=>eb b o hb e) f0 f1 f3 f4 f5⟩
 self:=λ_ _ _ _ _ st h=>wpAny_pyIter_listiter st h
theorem El (a it:Addr):Turn P w K tg (Itt K a) [it] it (λi h=>h.IsTupleIter it a i) where
 mem:=by simp
 obj:=λi h st b hb=>by
  have e:b=it:=by simpa using hb
  subst e
  obtain⟨o,e,c,d⟩:=st
  exact⟨o,e,λv z=>by rw[d] at z;cases z⟩
 keep:=λi h h' st k=>st.at λo e=>k it (by simp) o e
 item:=by
  intro X hP hw hK hc i CI s σ H E I hf st hg
  subst hP hw hK
  obtain⟨xs,x,hq,hx⟩:=hg
  obtain⟨CL,rv,p,hz⟩:=I.tuple hq
  obtain⟨u,hu,ru⟩:=rv.get hx
  obtain⟨f0,f1,f2,f3,f4,f5⟩:=hf it (by simp)
  refine wpAny_pyNext_tuple_item st (show s.heap.IsTuple a CL.toArray from p) (x:=u) (by simpa using hu) λh' IF sb=>?_
  have I1:Inv X CI σ H { s with heap:=h' }:=I.turned (t':=s.toks) (λb o hb e=>(sb.2 b hb).trans e) f0 f1 f3 f4 f5
  obtain⟨o,e,c,d⟩:=id IF
  exact⟨u,rfl,qK (s:={ s with heap:=h' }) e c d (by decide) ⟨x,H,I1,ru,⟨rfl,λys hy=>by rw[I.G0 hy hq];exact hx⟩,IF,λb hb=>(hf b hb).1⟩⟩
 done:=by
  intro X hP hw hK hc i CI s σ H E I hf st hg
  subst hP hw hK
  obtain⟨xs,hq,hx⟩:=hg
  obtain⟨CL,rv,p,hz⟩:=I.tuple hq
  obtain⟨f0,f1,f2,f3,f4,f5⟩:=hf it (by simp)
  have hl:=rv.length
  exact wpAny_pyNext_tuple_end (I.ok.hd hc) st (show s.heap.IsTuple a CL.toArray from p) (by simp;omega) λh' eb=>⟨rfl,I.turned (t':=s.toks) (λb o hb e=>eb b o hb e) f0 f1 f3 f4 f5⟩
 self:=λ_ _ _ _ _ st h=>wpAny_pyIter_tupleiter st h
theorem Em (it:Addr)(lo:Int)(n:Nat):Turn P w K tg (Yj lo n) [it] it (λi h=>IsRangeIter h it (lo+(i:Nat)*1) ((n:Int) - (i:Nat)) 1) where
 mem:=by simp
 obj:=λi h st b hb=>by
  have e:b=it:=by simpa using hb
  subst e
  exact⟨_,st,λv z=>by
   have z':Data.fields _=Data.cell v:=z
   cases z'⟩
 keep:=λi h h' st k=>k it (by simp) _ st
 item:=by
  intro X hP hw hK hc i CI s σ H E I hf st hg
  subst hP hw hK
  obtain⟨f0,f1,f2,f3,f4,f5⟩:=hf it (by simp)
  have W:=Walks.range (prog:=X.prog) (w:=X.w) (I.ok.hd hc) it lo 1 n
  refine W.item i s _ _ hg st λv h' tk hv IF kk=>?_
  obtain⟨t,rfl⟩:=hv
  have I1:Inv X CI σ H { s with heap:=h',toks:=tk }:=I.turned (λb o hb e=>kk b o (by simpa using hb) e) f0 f1 f3 f4 f5
  refine⟨_,rfl,qK (s:={ s with heap:=h',toks:=tk }) (n := "range_iterator") IF rfl rfl (by decide) ⟨.int (lo+i),H,I1,⟨t,?_⟩,⟨rfl,rfl⟩,IF,λb hb=>(hf b hb).1⟩⟩
  rw[Int.mul_one]
 done:=by
  intro X hP hw hK hc i CI s σ H E I hf st hg
  subst hP hw hK
  obtain⟨f0,f1,f2,f3,f4,f5⟩:=hf it (by simp)
  exact wpAny_pyNext_range_end (I.ok.hd hc) st (by have:n<=i:=hg;omega) λh' eb=>⟨rfl,I.turned (t':=s.toks) (λb o hb e=>eb b o hb e) f0 f1 f3 f4 f5⟩
 self:=λ_ _ _ _ _ st h=>wpAny_pyIter_rangeiter st h
variable {fp:rL}
section
variable {X:Cx}{tg:Expr}
def Uz (K:W.Frag)(tl:TE):TI:=fun σ H R=>tl σ H λx H1=>∃a,x=.ref a/\(∃xs,DL K H1 a xs)/\R (Itl K a) H1
def V7 (K:W.Frag)(tl:TE):TI:=fun σ H R=>tl σ H λx H1=>∃a,x=.ref a/\(∃xs,FI K H1 a xs)/\R (Itt K a) H1
theorem M8 {l:Expr}{tl:TE}(hl:PE X l tl):PI X tg l (Uz X.K tl):=by
 intro CI s σ H R I h
 refine DB (hl CI s σ H _ I h) ?_
 rintro v s1 ⟨x,H1,I1,r1,q1⟩
 obtain⟨a,e,⟨xs,hq⟩,q⟩:=q1
 subst e
 cases r1
 obtain⟨CL,rv,p,hz⟩:=I1.list hq
 refine eC p.isList ?_
 refine⟨s1.heap.objs.size,[s1.heap.objs.size],_,_,H1,rfl,I1.kept (t':=s1.toks) λb o e=>ae _ e,Gu a _,⟨_,am _ rfl,rfl,rfl⟩,λb hb=>?_,q⟩
 have e:b=s1.heap.objs.size:=by simpa using hb
 subst e
 exact I1.HG (aT _) (I1.C8.fresh (aT _))
theorem QH {l:Expr}{tl:TE}(hl:PE X l tl):PI X tg l (V7 X.K tl):=by
 intro CI s σ H R I h
 refine DB (hl CI s σ H _ I h) ?_
 rintro v s1 ⟨x,H1,I1,r1,q1⟩
 obtain⟨a,e,⟨xs,hq⟩,q⟩:=q1
 subst e
 cases r1
 obtain⟨CL,rv,p,hz⟩:=I1.tuple hq
 refine fi (show s1.heap.IsTuple a CL.toArray from p) ?_
 refine⟨s1.heap.objs.size,[s1.heap.objs.size],_,_,H1,rfl,I1.kept (t':=s1.toks) λb o e=>ae _ e,El a _,⟨_,am _ rfl,rfl,rfl⟩,λb hb=>?_,q⟩
 have e:b=s1.heap.objs.size:=by simpa using hb
 subst e
 exact I1.HG (aT _) (I1.C8.fresh (aT _))
theorem zb {R:It->Hp->Prop}{lo hi:Int}{t u v:Tok}{tk:Nat}(I:Inv X CI σ H s)(h1:-(2 ^ 62)<=lo)(h2:lo < 2 ^ 62)(h3:-(2 ^ 62)<=hi)(h4:hi < 2 ^ 62)
  (q:R (Yj lo (hi - lo).toNat) H):wpAny (model X.prog X.w) X.A (pyIter (.ref s.heap.objs.size)) (PIE X CI σ tg R) E { s with heap:=s.heap.push { cls:=.type "range",data:=.fields #[.int lo t,.int hi u,.int 1 v] },toks:=tk }:=by
 refine wpAny_pyIter_range (IsRange.new ..) (small_one h1 h2 h3 h4) ?_
 have I1:Inv X CI σ H { s with heap:=s.heap.push { cls:=.type "range",data:=.fields #[.int lo t,.int hi u,.int 1 v] },toks:=tk }:=I.kept λb o e=>ae _ e
 refine⟨(s.heap.push { cls:=.type "range",data:=.fields #[.int lo t,.int hi u,.int 1 v] }).objs.size,[(s.heap.push { cls:=.type "range",data:=.fields #[.int lo t,.int hi u,.int 1 v] }).objs.size],_,_,H,rfl,
  I1.kept (t':=tk) λb o e=>ae _ e,Em _ lo (hi - lo).toNat,?_,λb hb=>?_,q⟩
 ·have e1:lo+((0:Nat):Int)*1=lo:=by simp
  have e2:(((hi - lo).toNat:Nat):Int) - ((0:Nat):Int)=Builtin.Range.rangeSize lo hi 1:=by rw[rangeSize_one];split <;> omega
  show IsRangeIter _ _ (lo+((0:Nat):Int)*1) ((((hi - lo).toNat:Nat):Int) - ((0:Nat):Int)) 1
  rw[e1,e2]
  exact am _ rfl
 ·have e:b=(s.heap.push { cls:=.type "range",data:=.fields #[.int lo t,.int hi u,.int 1 v] }).objs.size:=by simpa using hb
  subst e
  exact I1.HG (aT _) (I1.C8.fresh (aT _))
def UG (ta:TA):TI:=fun σ H R=>ta σ H λvs H1=>∃j:Int,vs=[.int j]/\-(2 ^ 62)<=j/\j < 2 ^ 62/\R (Yj 0 j.toNat) H1
def UJ (ta:TA):TI:=fun σ H R=>ta σ H λvs H1=>∃i j:Int,vs=[.int i,.int j]/\(-(2 ^ 62)<=i/\i < 2 ^ 62/\-(2 ^ 62)<=j/\j < 2 ^ 62)/\R (Yj i (j - i).toNat) H1
theorem Gv {a:Expr}{ta:TA}{p:Pos}(hg:Gl X "range")(hm:X.mg "range" = none)(ha:PA X [a] ta)(hs:starEach [a] X.env=[(false,eval a X.env)]:=by rfl):PI X tg (.Call (.Name "range" p) [a] [] pos) (UG ta):=by
 intro CI s σ H R I h
 refine Call_ (dZ I hg hm boot_range (bv (DB (ha pos CI s σ H _ I h) ?_) hs rfl))
 rintro us s1 ⟨vs,H1,I1,r1,q1⟩
 obtain⟨j,e,q1,q2,q⟩:=q1
 subst e
 cases r1 with
 | cons r rr=>
  cases rr
  obtain⟨t,rfl⟩:=r
  exact call_range_1 (zb I1 (by omega) (by omega) q1 q2 (by simpa using q))
theorem Gw {a b:Expr}{ta:TA}{p:Pos}(hg:Gl X "range")(hm:X.mg "range" = none)(ha:PA X [a,b] ta)(hs:starEach [a,b] X.env=[(false,eval a X.env),(false,eval b X.env)]:=by rfl)(Fh:starEach [b] X.env=[(false,eval b X.env)]:=by rfl):
  PI X tg (.Call (.Name "range" p) [a,b] [] pos) (UJ ta):=by
 intro CI s σ H R I h
 refine Call_ (dZ I hg hm boot_range (bv (DB (ha pos CI s σ H _ I h) λus s1 ⟨vs,H1,I1,r1,q1⟩=>?_) (by rw[hs,Fh]) (by rw[Fh];rfl)))
 obtain⟨i,j,e,⟨q1,q2,q3,q4⟩,q⟩:=q1
 subst e
 cases r1 with
 | cons r rr=>
  cases rr with
  | cons r' rr=>
   cases rr
   obtain⟨t,rfl⟩:=r
   obtain⟨t',rfl⟩:=r'
   exact call_range_2 (zb I1 q1 q2 q3 q4 q)
def V8 (wi:TI)(g:TG)(tb:TS):TS:=λD σ H=>wi σ H λJ H1=>∃W:Nat->Nat->St->Hp->Prop,(∃m,W 0 m σ H1)/\∀i m σ H,W i m σ H->
 (J.stop i H/\D.nx σ H)\/(J.go i H/\∃N:St->Hp->Prop,(∀ σ' H',N σ' H'->∃m',m' < m/\W (i+1) m' σ' H')/\∀x H',J.yld i H x H'->g x σ H' fun σ2 H2=>tb { D with nx:=N,ct:=N,bk:=D.nx } σ2 H2)
noncomputable def sr (fp:rL)(h:Heap):List (Addr×Obj):=fp.filterMap λb=>(h.get? b).map λo=>(b,o)
theorem mW (hb:b∈fp)(e:h.get? b=some o):(b,o)∈sr fp h:=nE.mpr ⟨b,hb,by rw[e];rfl⟩
theorem Gx {p:Addr×Obj}(hp:p∈sr fp h):p.1∈fp/\h.get? p.1=some p.2:=by
 obtain⟨b,hb,e⟩:=nE.mp hp
 cases q:h.get? b with
 | none=>rw[q] at e;cases e
 | some o=>
  rw[q] at e
  have e':(b,o)=p:=a9 e
  subst e'
  exact⟨hb,q⟩
theorem Inv.pinned (I:Inv X CI σ H s)(hf:∀b∈fp,lr X CI H b)(ho:∀b∈fp,∃o,s.heap.get? b=some o/\∀v,o.data≠.cell v):Inv X (CI++sr fp s.heap) σ H s:=
 I.L8 λp hp=>(br.mp hp).elim (λz=>I.pin p (dL _ z)) λz=>by
  obtain⟨hb,e⟩:=Gx z
  obtain⟨f0,f1,f2,_⟩:=hf p.1 hb
  obtain⟨o,e',d⟩:=ho p.1 hb
  rw[e] at e';cases e'
  exact⟨e,f0,f1,f2,d⟩
theorem Inv.GG {pl:fN}(I:Inv X (CI++pl) σ H s):Inv X CI σ H s:=I.L8 λp hp=>I.pin p (dL _ (g9 _ hp))
theorem Gy {iter:Expr}{wi:TI}{g:TG}{tb:TS}(hp:PassesOwn (model X.prog X.w) X.A X.env X.xe)(hc:X.calm=true)(hi:PI X tg iter wi)(hg:PG X tg g)(hb:Fu X body tb)
  (hs:∀x,foldedSetIterable iter X.env x=pure x:=by intro _;rfl):PS X (.For tg iter body [] pos) (V8 wi g tb):=by
 intro CI s σ H D I h
 refine wpAny_For (DB (hi CI s σ H _ I h) λv s1 h1=>DB h1 λYO s2 h2=>?_) hs
 obtain⟨it,fp,tn,J,H2,e,I2,T,st2,f2,W,⟨m0,w0⟩,turn⟩:=h2
 subst e
 have LJ:∀{H':Hp},(∀b∈fp,H' b=none)->∀b∈fp,lr X CI H' b:=λhn b hb=>⟨hn b hb,(f2 b hb).2⟩
 refine codeAny_forLoop_any (λn s'=>∃i σ' H',Inv X CI σ' H' s'/\tn i s'.heap/\(∀b∈fp,H' b=none)/\W i n σ' H') ?_ m0 ⟨0,σ,H2,I2,st2,λb hb=>(f2 b hb).1,w0⟩
 rintro n s3 ⟨i,σ3,H3,I3,YQ,YR,w3⟩
 rcases turn i n σ3 H3 w3 with ⟨stop,qn⟩ | ⟨go,N,hN,step⟩
 ·refine iN hp (DB (T.done X rfl rfl rfl hc i CI s3 σ3 H3 X.xe I3 (LJ YR) YQ stop) ?_)
  rintro r s4 ⟨hr,I4⟩
  subst hr
  exact k6 ⟨σ3,H3,I4,qn⟩
 ·refine iN hp (DB (T.item X rfl rfl rfl hc i CI s3 σ3 H3 X.xe I3 (LJ YR) YQ go) ?_)
  rintro r s4 ⟨u,hr,h4⟩
  subst hr
  refine iN hp (DB h4 ?_)
  rintro _ s5 ⟨x,H5,I5,r5,y5,VX,fr5⟩
  have I5':=I5.pinned (LJ fr5) (T.obj _ _ VX)
  refine iN hp (DB (hg _ s5 σ3 H5 x u _ I5' r5 (step x H5 y5)) ?_)
  rintro _ s6 ⟨σ6,H6,I6,q6⟩
  refine iN hp (DB (hb _ s6 σ6 H6 _ I6 q6) λf s7 q7=>?_)
  have again:∀{σ7:St}{H7:Hp},Inv X (CI++sr fp s5.heap) σ7 H7 s7->N σ7 H7->∃m,m < n/\∃i σ' H',Inv X CI σ' H' s7/\tn i s7.heap/\(∀b∈fp,H' b=none)/\W i m σ' H':=λ{σ7 H7} I7 n7=>by
   obtain⟨m',hm,w7⟩:=hN σ7 H7 n7
   refine⟨m',hm,i+1,σ7,H7,I7.GG,T.keep _ _ _ VX λb hb o e=>(I7.pin (b,o) (dL _ (dL _ (mW hb e)))).1,λb hb=>?_,w7⟩
   obtain⟨o,e,d⟩:=T.obj _ _ VX b hb
   exact(I7.pin (b,o) (dL _ (dL _ (mW hb e)))).2.1
  cases f with
  | next=>obtain⟨σ7,H7,I7,n7⟩:=q7;exact again I7 n7
  | cont=>obtain⟨σ7,H7,I7,n7⟩:=q7;exact again I7 n7
  | brk=>obtain⟨σ7,H7,I7,q7⟩:=q7;exact⟨σ7,H7,I7.GG,q7⟩
  | ret v=>obtain⟨x7,σ7,H7,I7,r7,q7⟩:=q7;exact⟨x7,σ7,H7,I7.GG,r7,q7⟩
end
abbrev R2:=V->V->Hp->VK->Prop
def D5 (X:Cx)(f:Value->Value->Sem Value)(r:R2):Prop:=
 ∀(CI:fN) (s:Shared) (σ:St) (H:Hp) (x y:V) (v u:Value) (Q:VK),Inv X CI σ H s->RelV x v->RelV y u->r x y H Q->
  wpAny (model X.prog X.w) X.A (f v u) (EP X CI σ Q) X.xe s
def UnR (X:Cx)(f:Value->Sem Value)(r:V->Hp->VK->Prop):Prop:=
 ∀(CI:fN) (s:Shared) (σ:St) (H:Hp) (x:V) (v:Value) (Q:VK),Inv X CI σ H s->RelV x v->r x H Q->
  wpAny (model X.prog X.w) X.A (f v) (EP X CI σ Q) X.xe s
def DU (X:Cx)(f:Value)(r:List V->Hp->VK->Prop):Prop:=
 ∀(CI:fN) (s:Shared) (σ:St) (H:Hp) (xs:List V) (us:mA) (Q:VK),Inv X CI σ H s->Vals xs us->r xs H Q->
  wpAny (model X.prog X.w) X.A (call f us) (EP X CI σ Q) X.xe s
def YS (r:R2)(ta tb:TE):TE:=fun σ H Q=>ta σ H λx H1=>tb σ H1 λy H2=>r x y H2 Q
def tUn (r:V->Hp->VK->Prop)(ta:TE):TE:=fun σ H Q=>ta σ H λx H1=>r x H1 Q
def rI (C:Int->Int->Prop)(g:Int->Int->V):R2:=λx y H Q=>∃i j,x=.int i/\y=.int j/\C i j/\Q (g i j) H
def LM (g:Int->Int->V):R2:=λx y H Q=>∃i j,x=.int i/\y=.int j/\Q (g i j) H
def rU (g:Int->V):V->Hp->VK->Prop:=λx H Q=>∃i,x=.int i/\Q (g i) H
variable {g:Int->Int->Int}
section
variable {X:Cx}{a b c:Expr}{ta tb tc:TE}{pos:Pos}
theorem JH (ha:PE X a ta)(hb:PE X b tb){R:V->V->Hp->Prop}(I:Inv X CI σ H s)
  (h:ta σ H λx H1=>tb σ H1 λy H2=>R x y H2){Q:dx}{f:Value->Value->Sem Value}
  (hf:∀v u s2 x y H2,Inv X CI σ H2 s2->RelV x v->RelV y u->R x y H2->wpAny (model X.prog X.w) X.A (f v u) Q X.xe s2):
  wpAny (model X.prog X.w) X.A (eval a X.env) (λv s₁=>wpAny (model X.prog X.w) X.A (eval b X.env) (λu s₂=>wpAny (model X.prog X.w) X.A (f v u) Q X.xe s₂) X.xe s₁) X.xe s:=by
 refine DB (ha CI s σ H _ I h) ?_
 rintro v s1 ⟨x,H1,I1,r1,q1⟩
 refine DB (hb CI s1 σ H1 _ I1 q1) ?_
 rintro u s2 ⟨y,H2,I2,r2,q2⟩
 exact hf v u s2 x y H2 I2 r1 r2 q2
theorem UL {op:Operator}{r:R2}(ho:D5 X (binaryOp op) r)(ha:PE X a ta)(hb:PE X b tb):PE X (.BinOp a op b pos) (YS r ta tb):=by
 intro CI s σ H Q I h
 exact wpAny_BinOp (JH ha hb I h λv u s2 x y H2 I2 rx ry q=>ho CI s2 σ H2 x y v u Q I2 rx ry q)
theorem UT {op:UnaryOp}{r:V->Hp->VK->Prop}(ho:UnR X (unaryOp op) r)(ha:PE X a ta):PE X (.UnaryOp op a pos) (tUn r ta):=by
 intro CI s σ H Q I h
 exact UnaryOp_ (DB (ha CI s σ H _ I h) λv s1 ⟨x,H1,I1,r1,q1⟩=>ho CI s1 σ H1 x v Q I1 r1 q1)
theorem opI {f:Value->Value->Sem Value}{C:Int->Int->Prop}
  (rule:∀(i j:Int) (t u:Tok) (s:Shared) (Q:dx) (E:dx),C i j->Q (.int (g i j) s.toks) { s with toks:=s.toks+1 }->wpAny (model X.prog X.w) X.A (f (.int i t) (.int j u)) Q E s):
  D5 X f (rI C λi j=>.int (g i j)):=by
 intro CI s σ H x y v u Q I rx ry h
 obtain⟨i,j,rfl,rfl,hc,q⟩:=h
 obtain⟨t,rfl⟩:=rx
 obtain⟨t',rfl⟩:=ry
 exact rule i j t t' s _ _ hc ⟨.int (g i j),H,I.tok _,⟨_,rfl⟩,q⟩
theorem QJ {f:Value->Value->Sem Value}
  (rule:∀(i j:Int) (t u:Tok) (s:Shared) (Q:dx) (E:dx),Q (.int (g i j) s.toks) { s with toks:=s.toks+1 }->wpAny (model X.prog X.w) X.A (f (.int i t) (.int j u)) Q E s):
  D5 X f (LM λi j=>.int (g i j)):=by
 intro CI s σ H x y v u Q I rx ry h
 obtain⟨i,j,rfl,rfl,q⟩:=h
 obtain⟨t,rfl⟩:=rx
 obtain⟨t',rfl⟩:=ry
 exact rule i j t t' s _ _ ⟨.int (g i j),H,I.tok _,⟨_,rfl⟩,q⟩
theorem JK {f:Value->Value->Sem Value}{g:Int->Int->Bool}
  (rule:∀(i j:Int) (t u:Tok) (s:Shared) (Q:dx) (E:dx),Q (.bool (g i j)) s->wpAny (model X.prog X.w) X.A (f (.int i t) (.int j u)) Q E s):
  D5 X f (LM λi j=>.bl (g i j)):=by
 intro CI s σ H x y v u Q I rx ry h
 obtain⟨i,j,rfl,rfl,q⟩:=h
 obtain⟨t,rfl⟩:=rx
 obtain⟨t',rfl⟩:=ry
 exact rule i j t t' s _ _ ⟨.bl (g i j),H,I,rfl,q⟩
def QK (i j:Int):Prop:=0 < j/\j < 1073741824
def QL (i j:Int):Prop:=0<=j/\j<=1000000/\i.natAbs < 2 ^ 64
def RO (i j:Int):Prop:=(-(2 ^ 64) < i/\i < 2 ^ 64)\/(-(2 ^ 64) < j/\j < 2 ^ 64)
theorem RO.ok {i j:Int}(h:RO i j):IntMulOk i j:=by
 rcases h with ⟨h1,h2⟩ | ⟨h1,h2⟩
 ·exact .of_left (intBits_le_64 h1 h2)
 ·exact .of_right (intBits_le_64 h1 h2)
theorem QM:D5 X (binaryOp .Add) (LM λi j=>.int (i+j)):=QJ λ_ _ _ _ _ _ _ q=>add_int q
theorem QQ:D5 X (binaryOp .Sub) (LM λi j=>.int (i - j)):=QJ λ_ _ _ _ _ _ _ q=>sub_int q
theorem QR:D5 X (binaryOp .Mult) (rI RO λi j=>.int (i*j)):=opI λ_ _ _ _ _ _ _ hc q=>mul_int q hc.ok
theorem M9:D5 X (binaryOp .FloorDiv) (rI QK λi j=>.int (i / j)):=opI λi j _ _ _ _ _ hc q=>by
 have h1:(0:Int) < j:=hc.1
 have h2:j < 1073741824:=hc.2
 exact floordiv_int (by omega) (by rw[Int.fdiv_eq_ediv_of_nonneg i (by omega)];exact q) (.inl (PyProof.noPylong_small (by omega)))
theorem QS:D5 X (binaryOp .Mod) (rI (λ_ j=>0 < j) λi j=>.int (i % j)):=opI λi j _ _ _ _ _ hc q=>by
 have h1:(0:Int) < j:=hc
 exact mod_int' (by omega) (by rw[Int.fmod_eq_emod_of_nonneg i (by omega)];exact q)
theorem QT:D5 X (binaryOp .Pow) (rI QL λi j=>.int (i ^ j.toNat)):=opI λ_ _ _ _ _ _ _ hc q=>pow_int_small hc.1 hc.2.1 hc.2.2 q
theorem unI {f:Value->Sem Value}{g:Int->Int}
  (rule:∀(i:Int) (t:Tok) (s:Shared) (Q:dx) (E:dx),Q (.int (g i) s.toks) { s with toks:=s.toks+1 }->wpAny (model X.prog X.w) X.A (f (.int i t)) Q E s):
  UnR X f (rU λi=>.int (g i)):=by
 intro CI s σ H x v Q I rx h
 obtain⟨i,rfl,q⟩:=h
 obtain⟨t,rfl⟩:=rx
 exact rule i t s _ _ ⟨.int (g i),H,I.tok _,⟨_,rfl⟩,q⟩
theorem QV:UnR X (unaryOp .USub) (rU λi=>.int (-i)):=unI λ_ _ _ _ _ q=>neg_int q
end
noncomputable def JL:V->V->Bool
 | .CY,.CY=>true | .CY,.int _=>true | .int _,.CY=>true | .CY,.bl _=>true | .bl _,.CY=>true | .CY,.str _=>true | .str _,.CY=>true
 | .int _,.int _=>true | .bl _,.bl _=>true | .str _,.str _=>true | .NY _,.NY _=>true
 | .int _,.str _=>true | .str _,.int _=>true | .bl _,.str _=>true | .str _,.bl _=>true
 | _,_=>false
def rEq:R2:=λx y H Q=>JL x y=true/\Q (.bl (decide (x=y))) H
def rNe:R2:=λx y H Q=>JL x y=true/\Q (.bl (!decide (x=y))) H
theorem Cw {i j:Int}:decide (V.int i=V.int j)=(i == j):=by
 rw[iO]
 simp
theorem Gz {i j:Bool}:decide (V.bl i=V.bl j)=(i == j):=by
 rw[iO]
 simp
theorem Cy {i j:Str}:decide (V.str i=V.str j)=(i == j):=by
 rw[iO]
 simp
theorem Cz {i j:Array UInt8}:decide (V.NY i=V.NY j)=(i.toList == j.toList):=by
 rw[iO]
 cases i
 cases j
 simp
variable {op:CmpOp}{us:mA}
section
variable {X:Cx}{a b c:Expr}{ta tb tc:TE}{pos:Pos}
theorem bK {Q:VK}{k k':Bool}(I:Inv X CI σ H s)(q:Q (.bl k) H)(e:k=k'):EP X CI σ Q (.bool k') s:=by
 subst e
 exact⟨.bl k,H,I,rfl,q⟩
theorem UV:D5 X (compareOp .Eq) rEq:=by
 intro CI s σ H x y v u Q I rx ry h
 obtain⟨hs,q⟩:=h
 cases x with
 | CY=>
  cases rx
  cases y with
  | CY=>cases ry;exact PySem.EqNone.eq_none_none (bK I q (by simp))
  | bl j=>cases ry;exact PySem.EqNone.eq_none_bool (bK I q (by simp))
  | int j=>obtain⟨t',rfl⟩:=ry;exact PySem.EqNone.eq_none_int (bK I q (by simp))
  | str j=>obtain⟨t',rfl⟩:=ry;exact PySem.EqNone.eq_none_str (bK I q (by simp))
  | _=>exact absurd (show false=true from hs) bi
 | bl i=>
  cases rx
  cases y with
  | CY=>cases ry;exact PySem.EqNone.eq_bool_none (bK I q (by simp))
  | bl j=>cases ry;exact eq_bool (bK I q Gz)
  | str j=>obtain⟨t',rfl⟩:=ry;exact PySem.EqMixed.eq_bool_str (bK I q (by simp))
  | _=>exact absurd (show false=true from hs) bi
 | int i=>
  obtain⟨t,rfl⟩:=rx
  cases y with
  | CY=>cases ry;exact PySem.EqNone.eq_int_none (bK I q (by simp))
  | int j=>obtain⟨t',rfl⟩:=ry;exact eq_int (bK I q Cw)
  | str j=>obtain⟨t',rfl⟩:=ry;exact PySem.EqMixed.eq_int_str (bK I q (by simp))
  | _=>exact absurd (show false=true from hs) bi
 | str i=>
  obtain⟨t,rfl⟩:=rx
  cases y with
  | CY=>cases ry;exact PySem.EqNone.eq_str_none (bK I q (by simp))
  | bl j=>cases ry;exact PySem.EqMixed.eq_str_bool (bK I q (by simp))
  | int j=>obtain⟨t',rfl⟩:=ry;exact PySem.EqMixed.eq_str_int (bK I q (by simp))
  | str j=>obtain⟨t',rfl⟩:=ry;exact eq_str (bK I q Cy)
  | _=>exact absurd (show false=true from hs) bi
 | NY i=>
  obtain⟨t,rfl⟩:=rx
  cases y with
  | NY j=>obtain⟨t',rfl⟩:=ry;exact W.eq_bytes (bK I q Cz)
  | _=>exact absurd (show false=true from hs) bi
 | _=>cases y <;> exact absurd (show false=true from hs) bi
theorem UW:D5 X (compareOp .NotEq) rNe:=by
 intro CI s σ H x y v u Q I rx ry h
 obtain⟨hs,q⟩:=h
 cases x with
 | CY=>
  cases rx
  cases y with
  | CY=>cases ry;exact PySem.EqNone.ne_none_none (bK I q (by simp))
  | bl j=>cases ry;exact PySem.EqNone.ne_none_bool (bK I q (by simp))
  | int j=>obtain⟨t',rfl⟩:=ry;exact PySem.EqNone.ne_none_int (bK I q (by simp))
  | str j=>obtain⟨t',rfl⟩:=ry;exact PySem.EqNone.ne_none_str (bK I q (by simp))
  | _=>exact absurd (show false=true from hs) bi
 | bl i=>
  cases rx
  cases y with
  | CY=>cases ry;exact PySem.EqNone.ne_bool_none (bK I q (by simp))
  | bl j=>cases ry;exact ne_bool (bK I q (b9 not Gz))
  | str j=>obtain⟨t',rfl⟩:=ry;exact PySem.EqMixed.ne_bool_str (bK I q (by simp))
  | _=>exact absurd (show false=true from hs) bi
 | int i=>
  obtain⟨t,rfl⟩:=rx
  cases y with
  | CY=>cases ry;exact PySem.EqNone.ne_int_none (bK I q (by simp))
  | int j=>obtain⟨t',rfl⟩:=ry;exact ne_int (bK I q (b9 not Cw))
  | str j=>obtain⟨t',rfl⟩:=ry;exact PySem.EqMixed.ne_int_str (bK I q (by simp))
  | _=>exact absurd (show false=true from hs) bi
 | str i=>
  obtain⟨t,rfl⟩:=rx
  cases y with
  | CY=>cases ry;exact PySem.EqNone.ne_str_none (bK I q (by simp))
  | bl j=>cases ry;exact PySem.EqMixed.ne_str_bool (bK I q (by simp))
  | int j=>obtain⟨t',rfl⟩:=ry;exact PySem.EqMixed.ne_str_int (bK I q (by simp))
  | str j=>obtain⟨t',rfl⟩:=ry;exact ne_str (bK I q (b9 not Cy))
  | _=>exact absurd (show false=true from hs) bi
 | NY i=>
  obtain⟨t,rfl⟩:=rx
  cases y with
  | NY j=>obtain⟨t',rfl⟩:=ry;exact W.ne_bytes (bK I q (b9 not Cz))
  | _=>exact absurd (show false=true from hs) bi
 | _=>cases y <;> exact absurd (show false=true from hs) bi
theorem yH:D5 X (compareOp .Lt) (LM λi j=>.bl (decide (i < j))):=JK λ_ _ _ _ _ _ _ q=>lt_int q
theorem En:D5 X (compareOp .LtE) (LM λi j=>.bl (decide (i<=j))):=JK λ_ _ _ _ _ _ _ q=>le_int q
theorem U0:D5 X (compareOp .GtE) (LM λi j=>.bl (decide (j<=i))):=JK λ_ _ _ _ _ _ _ q=>ge_int q
theorem GC:D5 X (compareOp .In) (λx y H Q=>∃i j,x=.str i/\y=.str j/\Q (.bl (!(Builtin.Str.occurrences j i 0 j.length 1).isEmpty)) H):=by
 intro CI s σ H x y v u Q I rx ry h
 obtain⟨i,j,rfl,rfl,q⟩:=h
 obtain⟨t,rfl⟩:=rx
 obtain⟨t',rfl⟩:=ry
 exact in_str (bK I q rfl)
theorem QW:D5 X (compareOp .Is) (λx y H Q=>y=.CY/\Q (.bl (decide (x=.CY))) H):=by
 intro CI s σ H x y v u Q I rx ry h
 obtain⟨rfl,q⟩:=h
 cases ry
 refine is_none_gen (bK I q ?_)
 cases x <;> first
  | (cases rx;rfl)
  | (obtain⟨t,rfl⟩:=rx;rfl)
theorem M_:D5 X (compareOp .IsNot) (λx y H Q=>y=.CY/\Q (.bl (!decide (x=.CY))) H):=by
 intro CI s σ H x y v u Q I rx ry h
 obtain⟨rfl,q⟩:=h
 cases ry
 refine isnot_none_gen (bK I q ?_)
 cases x <;> first
  | (cases rx;rfl)
  | (obtain⟨t,rfl⟩:=rx;rfl)
theorem D5.or {f:Value->Value->Sem Value}{r r':R2}(h:D5 X f r)(h':D5 X f r'):D5 X f (λx y H Q=>r x y H Q\/r' x y H Q):=by
 intro CI s σ H x y v u Q I rx ry q
 rcases q with q | q
 ·exact h CI s σ H x y v u Q I rx ry q
 ·exact h' CI s σ H x y v u Q I rx ry q
theorem nq (b:Expr)(h:op≠.In:=by decide)(h2:op≠.NotIn:=by decide):behindInMarks op b=false:=by
 have e1:(op == CmpOp.In)=false:=by cases op <;> first | rfl | exact absurd rfl h
 have e2:(op == CmpOp.NotIn)=false:=by cases op <;> first | rfl | exact absurd rfl h2
 cases b <;> simp[behindInMarks,e1,e2]
theorem Nb {r:R2}(ho:D5 X (compareOp op) r)(ha:PE X a ta)(hb:PE X b tb)(hm:behindInMarks op b=false):PE X (.Compare a [op] [b] pos) (YS r ta tb):=by
 intro CI s σ H Q I h
 exact wpAny_Compare1 (JH ha hb I h λv u s2 x y H2 I2 rx ry q=>ho CI s2 σ H2 x y v u Q I2 rx ry q) hm
def LC (t:TE):TT:=fun σ H Q=>t σ H λx H'=>∃k,x=.bl k/\Q k H'
theorem Nf {r:R2}(ho:D5 X (compareOp op) r)(ha:PE X a ta)(hb:PE X b tb)(hm:behindInMarks op b=false):PT X (.Compare a [op] [b] pos) (LC (YS r ta tb)):=by
 intro CI s σ H Q I h
 refine wpAny_isTrue_Compare1 (DB (ha CI s σ H _ I h) λv s1 ⟨x,H1,I1,r1,q1⟩=>DB (hb CI s1 σ H1 _ I1 q1) λu s2 ⟨y,H2,I2,r2,q2⟩=>
  DB (ho CI s2 σ H2 x y v u _ I2 r1 r2 q2) λc s3 ⟨z,H3,I3,r3,k,e,q3⟩=>?_) hm
 subst e
 cases r3
 exact gl ⟨H3,I3,q3⟩
def QX (r r':R2)(ta tb tc:TE):TE:=fun σ H Q=>ta σ H λx H1=>tb σ H1 λy H2=>r x y H2 λz H3=>∃k,z=.bl k /\
 (if k=true then tc σ H3 λw' H4=>r' y w' H4 Q else Q (.bl false) H3)
theorem JM {VY:CmpOp}{r r':R2}(ho:D5 X (compareOp op) r)(ID:D5 X (compareOp VY) r')(ha:PE X a ta)(hb:PE X b tb)(hc:PE X c tc)
  (hm:lastMarks [op,VY] [b,c]=false:=by with_unfolding_all rfl):PT X (.Compare a [op,VY] [b,c] pos) (LC (QX r r' ta tb tc)):=by
 intro CI s σ H Q I h
 refine isTrue_chain (DB (ha CI s σ H _ I h) λv s1 ⟨x,H1,I1,r1,q1⟩=>test_link (DB (hb CI s1 σ H1 _ I1 q1) λu s2 ⟨y,H2,I2,r2,q2⟩=>
  DB (ho CI s2 σ H2 x y v u _ I2 r1 r2 q2) λd s3 ⟨z,H3,I3,r3,k,e,q3⟩=>?_)) hm
 subst e
 cases r3
 refine gl ?_
 cases k with
 | false=>
  obtain⟨k',e',q'⟩:=q3
  cases e'
  exact ite_ff ⟨H3,I3,q'⟩
 | true=>
  refine ite_tt (test_last (DB (hc CI s3 σ H3 _ I3 q3) λw' s4 ⟨z',H4,I4,r4,q4⟩=>DB (ID CI s4 σ H4 y z' u w' _ I4 r2 r4 q4) ?_))
  rintro d' s5 ⟨z2,H5,I5,r5,k2,e2,q5⟩
  subst e2
  cases r5
  exact gl ⟨H5,I5,q5⟩
theorem qg:(sizeLine:Nat) < 2 ^ 63:=by rw[sizeLine_eq];decide
theorem Eo:D5 X (binaryOp .Add) (λx y H Q=>∃i j,x=.str i/\y=.str j/\i.length+j.length<=sizeLine/\Q (.str (i++j)) H):=by
 intro CI s σ H x y v u Q I rx ry h
 obtain⟨i,j,rfl,rfl,hz,q⟩:=h
 obtain⟨t,rfl⟩:=rx
 obtain⟨t',rfl⟩:=ry
 exact add_str (λt' tk=>⟨.str (i++j),H,I.tok _,⟨_,rfl⟩,q⟩) hz
theorem vals1 {x:V}(r:Vals [x] us):∃u,us=[u]/\RelV x u:=by
 cases r with
 | cons r1 r2=>cases r2;exact⟨_,rfl,r1⟩
theorem vals2 {x:V}(r:Vals [x,y] us):∃u w',us=[u,w']/\RelV x u/\RelV y w':=by
 cases r with
 | cons r1 r2=>
  cases r2 with
  | cons r3 r4=>cases r4;exact⟨_,_,rfl,r1,r3⟩
theorem GD:DU X (.type "int") (λxs H Q=>(∃i,xs=[.int i]/\Q (.int i) H)\/∃k,xs=[.bl k]/\Q (.int (if k then 1 else 0)) H):=by
 intro CI s σ H xs us Q I r h
 rcases h with ⟨i,rfl,q⟩ | ⟨k,rfl,q⟩
 ·obtain⟨u,rfl,t,rfl⟩:=vals1 r
  exact call_int_int ⟨.int i,H,I,⟨_,rfl⟩,q⟩
 ·obtain⟨u,rfl,r1⟩:=vals1 r
  cases r1
  exact call_int_bool ⟨.int (if k then 1 else 0),H,I.tok _,⟨_,rfl⟩,q⟩
end
theorem II.some_of {o:Option Value}(r:II (some v) o):∃u,o=some u/\RelV v u:=by
 cases o with
 | none=>exact(show False from r).elim
 | some u=>exact⟨u,rfl,r⟩
section
variable {X:Cx}{CI:fN}{σ:St}{H:Hp}{s:Shared}{A:Around}{E:dx}{Q:dx}{c:Value}{b:Bool}
inductive GH (K:W.Frag) (H:Hp):V->Value->Prop where
 | CY:GH K H .CY (.type "NoneType")
 | bl (x:Bool):GH K H (.bl x) (.type "bool")
 | int (i:Int):GH K H (.int i) (.type "int")
 | str (x:Str):GH K H (.str x) (.type "str")
 | Yg (x:UInt64):GH K H (.Yg x) (.type "float")
 | lst {a:Addr}{xs:List V}(e:H a=some (.lst xs)):GH K H (.ref a) (.type "list")
 | EA {a:Addr}{o:Obj}{xs:List V}(e:H a=some (.EA o (.lst xs))):GH K H (.ref a) (.type "list")
 | tup {a:Addr}{xs:List V}(e:H a=some (.tup xs)):GH K H (.ref a) (.type "tuple")
 | KL {a:Addr}{xs:List V}(e:N0 K a xs):GH K H (.ref a) (.type "tuple")
 | dK {a:Addr}{kvs:List (Key×V)}(e:H a=some (.dK kvs)):GH K H (.ref a) (.type "dict")
 | dT {a:Addr}{kvs:List (List Key×V)}(e:H a=some (.dT kvs)):GH K H (.ref a) (.type "dict")
theorem GF {x:V}{t:Value}(I:Inv X CI σ H s)(rx:RelV x u)(ty:GH X.K H x t)(e:W.kitOne X.K t c=some b)(h:∀tk,Q (.bool b) { s with toks:=tk }):
  wpAny (model X.prog X.w) A (call (.builtin "isinstance") [u,c]) Q E s:=by
 cases ty with
 | CY=>cases (show u=Value.none from rx);exact fz W.kitx_none I.EZ io e (λz=>nomatch z) h
 | bl y=>cases (show u=Value.bool y from rx);exact fz W.kitx_bool I.EZ io e (λz=>nomatch z) h
 | int i=>obtain⟨t,q⟩:=(show ∃t,u=Value.int i t from rx);cases q;exact fz W.kitx_int I.EZ io e (λz=>nomatch z) h
 | str y=>obtain⟨t,q⟩:=(show ∃t,u=Value.str y t from rx);cases q;exact fz W.kitx_str I.EZ io e (λz=>nomatch z) h
 | Yg y=>obtain⟨t,q⟩:=(show ∃t,u=Value.float y t from rx);cases q;exact fz W.kitx_float I.EZ io e (λz=>nomatch z) h
 | @lst a xs ea=>
  cases (show u=Value.ref a from rx)
  obtain⟨_,_,n,_,h1⟩:=(show Dx X.prog X.w X.K H s.heap a (.lst xs) from I.C8 a _ ea)
  exact fz W.kitx_list I.EZ ⟨_,h1,rfl⟩ e (λz=>nomatch z) h
 | @EA a ob xs ea=>
  cases (show u=Value.ref a from rx)
  obtain⟨_,_,_,n,_,h1⟩:=(show Dx X.prog X.w X.K H s.heap a (.EA ob (.lst xs)) from I.C8 a _ ea)
  exact fz W.kitx_list I.EZ ⟨_,h1,rfl⟩ e (λz=>nomatch z) h
 | @tup a xs ea=>
  cases (show u=Value.ref a from rx)
  obtain⟨_,_,_,p⟩:=(show Dx X.prog X.w X.K H s.heap a (.tup xs) from I.C8 a _ ea)
  obtain⟨o,h1,h2,_⟩:=p
  exact fz W.kitx_tuple I.EZ ⟨o,h1,h2⟩ e (λz=>nomatch z) h
 | @KL a xs e1=>
  cases (show u=Value.ref _ from rx)
  obtain⟨o,CL,n,g1,g2,g3,_⟩:=e1
  exact fz W.kitx_tuple I.EZ ⟨o,I.EZ _ o g1,g2⟩ e (λz=>nomatch z) h
 | @dK a kvs ea=>
  cases (show u=Value.ref a from rx)
  obtain⟨_,_,vs,_,p⟩:=(show Dx X.prog X.w X.K H s.heap a (.dK kvs) from I.C8 a _ ea)
  obtain⟨o,es,ep,h1,h2,_⟩:=p
  exact fz W.kitx_dict I.EZ ⟨o,h1,h2.1⟩ e (λz=>nomatch z) h
 | @dT a kvs ea=>
  cases (show u=Value.ref a from rx)
  obtain⟨_,_,xs,_,o,es,ep,h1,h2,_⟩:=(show Dx X.prog X.w X.K H s.heap a (.dT kvs) from I.C8 a _ ea)
  exact fz W.kitx_dict I.EZ ⟨o,h1,h2.1⟩ e (λz=>nomatch z) h
end
structure DD (k:Nat)(A:Around):Prop where
 hd:A.handled=none
 dp:A.depth+3*k+5 < recursionLimit
 un:A.units+16*k+200 < cLine
theorem DD.mono {j k:Nat}(r:DD k A)(h:j<=k):DD j A:=⟨r.hd,by have:=r.dp;omega,by have:=r.un;omega⟩
theorem DD.deeper {k:Nat}{A:Around}(r:DD (k+1) A)(env:Env):DD k (A.deeper env):=
 ⟨r.hd,by have:=r.dp;show A.depth+1+3*k+5 < _;omega,by have:=r.un;show A.units+3+16*k+200 < _;omega⟩
theorem DD.depth {k:Nat}{A:Around}(r:DD k A):A.depth < recursionLimit:=by have:=r.dp;omega
theorem DD.units {k:Nat}{A:Around}(r:DD k A):A.units+64 < cLine:=by have:=r.un;omega
theorem DD.VZ {k:Nat}(r:DD k A):A.units < cLine:=by have:=r.un;omega
def JN:TA:=λ_ H Q=>Q [] H
def LK (ta:TE)(tr:TA):TA:=fun σ H Q=>ta σ H λx H1=>tr σ H1 λxs H2=>Q (x::xs) H2
section
variable {X:Cx}{e:Expr}{es:rl}{te:TE}{t:TA}{pos:Pos}
theorem cI:PA X [] JN:=λ_ _ _ _ H Q I h=>i7 ⟨[],H,I,.nil,h⟩
theorem bN (ha:PE X e te)(hr:PA X es t)(hs:starEach (e::es) X.env=(false,eval e X.env)::starEach es X.env:=by rfl):PA X (e::es) (LK te t):=by
 intro pos CI s σ H Q I h
 rw[hs]
 show wpAny _ _ (spliced ((false,eval e X.env)::backTo pos (starEach es X.env))) _ _ s
 refine f7 (DB (ha CI s σ H _ I h) ?_)
 rintro u s1 ⟨x,H1,I1,r1,q1⟩
 exact DB (hr pos CI s1 σ H1 _ I1 q1) λus s2 ⟨xs,H2,I2,r2,q2⟩=>⟨x::xs,H2,I2,.cons r1 r2,q2⟩
def V9 (t:TA):TE:=fun σ H Q=>t σ H λxs H1=>xs.length<=sizeLine/\∀p,H1 p=none->Q (.ref p) (upd H1 p (.tup xs))
def QZ (t:TA):TE:=fun σ H Q=>t σ H λxs H1=>xs.length<=sizeLine/\∀p,H1 p=none->Q (.ref p) (upd H1 p (.lst xs))
theorem GJ {x1}(h:PA X es t):PE X (.Tuple es x1 pos) (V9 t):=by
 intro CI s σ H Q I hq
 refine wpAny_Tuple_spliced (DB (h pos CI s σ H _ I hq) λus s1 ⟨xs,H1,I1,r,z,q⟩=>⟨by rw[← r.length];exact z,?_⟩)
 have hf:H1 s1.heap.objs.size=none:=I1.C8.fresh (aT _)
 refine⟨.ref s1.heap.objs.size,upd H1 s1.heap.objs.size (.tup xs),I1.laid (t':=s1.toks) (λb u e=>ae _ e) (aT _) ?_,rfl,q _ hf⟩
 exact⟨z,us,r,⟨_,am _ rfl,rfl,_,rfl⟩⟩
theorem zc (h:PA X es t):PE X (.List es pos) (QZ t):=by
 intro CI s σ H Q I hq
 refine wpAny_List_spliced (DB (h pos CI s σ H _ I hq) λus s1 ⟨xs,H1,I1,r,z,q⟩=>⟨by rw[← r.length];exact z,?_⟩)
 have hf:H1 s1.heap.objs.size=none:=I1.C8.fresh (aT _)
 refine⟨.ref s1.heap.objs.size,upd H1 s1.heap.objs.size (.lst xs),I1.laid (t':=s1.toks) (λb u e=>ae _ e) (aT _) ?_,rfl,q _ hf⟩
 exact⟨z,us,0,r,am _ rfl⟩
end
abbrev Sp:=List V->Hp->VK->XK->Prop
abbrev N9:=List Env->Hp->Shared->XK->Value->Shared->Prop
structure RS (P:Program)(w:World)(K:W.Frag)(mg:Str->Option Value)(base:Heap)(A:Around)(outer:List Env)(s:Shared)(H:Hp):Prop where
 frames:A.frames=some outer
 mod:Mod K mg base
 bs:∀b o,base.get? b=some o->s.heap.get? b=some o/\H b=none
 RH:base.objs.size<=s.heap.objs.size
 GW:s.heap.FunFrames base outer
 VU:∀b∈F8 outer,H b=none
 C8:F4 P w K H s.heap
 bare:AllBare s.gens
def CE (outer:List Env)(P:Program)(w:World)(K:W.Frag)(H:Hp)(s:Shared)(Q:VK)(u:Value)(s':Shared):Prop:=
 ∃v H',s'.os=s.os/\AllBare s'.gens/\Un (F8 outer) [] H H' s.heap s'.heap/\F4 P w K H' s'.heap/\RelV v u/\Q v H'
def CR (CX:N9)(outer:List Env)(P:Program)(w:World)(K:W.Frag)(H:Hp)(s:Shared)(Q:VK)(E:XK)(r:Result)(s':Shared):Prop:=
 match r with
 | .ok (.ret u)=>CE outer P w K H s Q u s'
 | .ok _=>False
 | .error e=>CX outer H s E e s'
structure EC (P:Program)(w:World)(K:W.Frag)(mg:Str->Option Value)(base:Heap)(CX:N9)(k:Nat)(f:Addr)(fd:FuncData)(ps:rp)(sp:Sp):Prop where
 len:∀vs H Q E,sp vs H Q E->vs.length=ps.length
 run:∀(A:Around) (outer:List Env) (s:Shared) (H:Hp) (args:Args) (us:mA) (vs:List V) (Q:VK) (E:XK),DD k A->RS P w K mg base A outer s H->BindsTo s fd args (ps.zip us)->Vals vs us->sp vs H Q E->
  codeAny (model P w) A (.call (.ref f) args) (CR CX outer P w K H s Q E) s
variable {mg:Str->Option Value}{base:Heap}{CX:N9}{fd:FuncData}
theorem EC.imp {k:Nat}{f:Addr}{ps:rp}{sp sp':Sp}(F:EC P w K mg base CX k f fd ps sp)
  (h:∀vs H Q E,sp' vs H Q E->sp vs H Q E):EC P w K mg base CX k f fd ps sp':=
 ⟨λvs H Q E q=>F.len vs H Q E (h _ _ _ _ q),λA outer s H args us vs Q E hr he hb hv hs=>F.run A outer s H args us vs Q E hr he hb hv (h _ _ _ _ hs)⟩
section
variable {X:Cx}{CI:fN}{σ:St}{H:Hp}{s s':Shared}
theorem Inv.YT (I:Inv X CI σ H s):RS X.prog X.w X.K X.mg X.base X.A X.stack s H:=
 ⟨I.ok.frames,I.ok.mod,I.bs,gi I.ok.RH I.sz,I.stack,I.HK,I.C8,I.bare⟩
theorem Inv.after {Q:VK}(I:Inv X CI σ H s)(h:CE X.stack X.prog X.w X.K H s Q u s'):EP X CI σ Q u s':=by
 obtain⟨v,H',os,bare,un,C8,r,q⟩:=h
 obtain⟨hh,g,d,t,os'⟩:=s'
 obtain rfl:os'=s.os:=os
 exact⟨v,H',I.call (h':=hh) (g':=g) (d':=d) (t':=t) (ch:=[]) un C8 bare (λb z=>absurd z (by simp)),r,q⟩
end
def LQ (sp:Sp)(UB:List V)(E:XK)(t:TA):TE:=fun σ H Q=>t σ H λvs H1=>sp (vs++UB) H1 Q E
def Binds (K:W.Frag)(fd:FuncData)(ps:rp)(ds:mA):Prop:=
 ∀(s:Shared) (us:mA),K.In s.heap->(us++ds).length=ps.length->BindsTo s fd ⟨us,[]⟩ (ps.zip (us++ds))
theorem Binds.all {ps:rp}(h:∀us:List Value,us.length=ps.length->bindArgs fd ⟨us,[]⟩=pure (ps.zip us)):Binds K fd ps []:=λs us _ hl=>by
 rw[bq] at hl ⊢
 exact .of_eq (h us hl)
def zf (CX:N9)(X:Cx)(E:XK):Prop:=∀(CI:fN) (σ:St) (H:Hp) (s:Shared) (e:Value) (s':Shared),Inv X CI σ H s->CX X.stack H s E e s'->X.xe e s'
section
variable {X:Cx}{CX:N9}{k:Nat}{f C:Addr}{fd:FuncData}{ps:rp}{sp:Sp}{UB:List V}{ds:mA}{E:XK}{x m:Str}{p pos apos:Pos}{e o:Expr}{es:rl}{ta:TE}{t:TA}
theorem Q0 {Q:VK}{vs:List V}(F:EC X.prog X.w X.K X.mg X.base CX k f fd ps sp)(hr:DD k X.A)(hb:Binds X.K fd ps ds)(hd:Vals UB ds)(hx:zf CX X E)
  (I:Inv X CI σ H s) (r:Vals vs us) (h:sp (vs++UB) H Q E):wpAny (model X.prog X.w) X.A (call (.ref f) us) (EP X CI σ Q) X.xe s:=by
 have r2:Vals (vs++UB) (us++ds):=r.append hd
 have hl:(us++ds).length=ps.length:=by rw[← r2.length];exact F.len _ _ _ _ h
 refine wpAny_call (ng (F.run X.A X.stack s H ⟨us,[]⟩ (us++ds) (vs++UB) Q E hr I.YT (hb s us I.EZ hl) r2 h) λr s' hq=>?_)
 cases r with
 | error e=>exact hx CI σ H s e s' I hq
 | ok fl=>
  cases fl with
  | ret u=>exact I.after hq
  | next=>exact False.elim hq
  | brk=>exact False.elim hq
  | cont=>exact False.elim hq
theorem Ng (F:EC X.prog X.w X.K X.mg X.base CX k f fd ps sp)(hr:DD k X.A)(hg:Gl X x)(hm:X.mg x=some (.ref f))(hk:W.keepIn X.K (.ref f)=true)(hb:Binds X.K fd ps ds)(hd:Vals UB ds)(hx:zf CX X E)
  (ha:PA X (e::es) t) (Ic:(x == ("__debug__" : Str))=false:=by decide) (he:starEach (e::es) X.env=(false,eval e X.env)::starEach es X.env:=by rfl) (FA:(backTo pos (starEach es X.env)).any (·.1)=false:=by rfl):
  PE X (.Call (.Name x p) (e::es) [] pos) (LQ sp UB E t):=by
 intro CI s σ H Q I h
 refine gE (qb I hg hm ?_ Ic)
 refine W.callWith_K (h₀:=X.base) I.ok.mod.N1 hk (DB (ha pos CI s σ H _ I h) λus s1 ⟨vs,H1,I1,r,q⟩=>⟨I1.EZ,?_⟩) he FA
 exact Q0 F hr hb hd hx I1 r q
end
structure CO (N P:rp)(sc:Scope):Prop where
 kind:sc.kind=.function
 co:sc.isCoroutine=false
 gen:sc.isGenerator=false
 nd:N.Nodup
 pre:N.take P.length=P
 par:∀x∈P,sc.names.lookup x=some .local\/sc.names.lookup x=some .cell
 WA:∀y∈sc.names,y.2≠.free
theorem xu {kindOf:Str->Option NameKind}{x:Str}:∀{binds:List (Str×Value)}{m:Str->Option Value},(∀v,(x,v)∉binds)->bindL kindOf binds m x=m x
 | [],_,_=>rfl
 | (n,v)::r,m,h=>by
  unfold bindL
  rw[xu λw hw=>h w (ag _ hw)]
  split
  ·have:x≠n:=by rintro rfl;exact h v ah
   simp[this]
  ·rfl
theorem xx {kindOf:Str->Option NameKind}{x:Str}:∀{binds:List (Str×Value)}{m:Str->Option Value},(∀v,(x,v)∉binds)->bindC kindOf binds m x=m x
 | [],_,_=>rfl
 | (n,v)::r,m,h=>by
  unfold bindC
  rw[xx λw hw=>h w (ag _ hw)]
  split
  ·rfl
  ·have:x≠n:=by rintro rfl;exact h v ah
   simp[this]
theorem xF {kindOf:Str->Option NameKind}{x:Str}{v:Value}:∀{P:rp}{vs:mA}{i:Nat}{m:Str->Option Value},P.Nodup->P[i]?=some x->vs[i]?=some v->kindOf x=some .local->
  bindL kindOf (P.zip vs) m x=some v
 | [],_,_,_,_,h,_,_=>by simp at h
 | _::_,[],_,_,_,_,h,_=>by simp at h
 | p::P,w::vs,0,m,nd,h1,h2,hk=>by
  simp at h1 h2;subst h1;subst h2
  show bindL kindOf ((p,w)::P.zip vs) m p=_
  unfold bindL
  rw[xu λv hv=>(cr.mp nd).1 (d6 hv).1,be hk]
  simp
 | p::P,w::vs,i+1,m,nd,h1,h2,hk=>by
  show bindL kindOf ((p,w)::P.zip vs) m x=_
  unfold bindL
  exact xF (i:=i) (cr.mp nd).2 (by simpa using h1) (by simpa using h2) hk
theorem xG {kindOf:Str->Option NameKind}{x:Str}{v:Value}:∀{P:rp}{vs:mA}{i:Nat}{m:Str->Option Value},P.Nodup->P[i]?=some x->vs[i]?=some v->kindOf x≠some .local->
  bindC kindOf (P.zip vs) m x=some v
 | [],_,_,_,_,h,_,_=>by simp at h
 | _::_,[],_,_,_,_,h,_=>by simp at h
 | p::P,w::vs,0,m,nd,h1,h2,hk=>by
  simp at h1 h2;subst h1;subst h2
  show bindC kindOf ((p,w)::P.zip vs) m p=_
  unfold bindC
  rw[xx λv hv=>(cr.mp nd).1 (d6 hv).1,a7 hk]
  simp
 | p::P,w::vs,i+1,m,nd,h1,h2,hk=>by
  show bindC kindOf ((p,w)::P.zip vs) m x=_
  unfold bindC
  exact xG (i:=i) (cr.mp nd).2 (by simpa using h1) (by simpa using h2) hk
def start (N:rp)(vs:List V):St:=vs.map some++List.replicate (N.length - vs.length) none
def ir (CX:N9)(P:Program)(w:World)(K:W.Frag)(mg:Str->Option Value)(base:Heap)(N:rp)(qual:Str)(scope:Scope)(f:Addr)(cd:Value)(A:Around)(outer:List Env)(s:Shared)(H:Hp)(E:XK):Cx where
 prog:=P
 w:=w
 K:=K
 mg:=mg
 base:=base
 A:=A.deeper (envOfC qual scope s.heap.objs.size f cd)
 N:=N
 s₀:=s
 H₀:=H
 env:=envOfC qual scope s.heap.objs.size f cd
 outer:=outer
 stack:=envOfC qual scope s.heap.objs.size f cd::outer
 ex:=[]
 calm:=true
 fn:=λ_=>true
 pn:=[]
 xe:=λe s'=>wpAny (model P w) (A.deeper (envOfC qual scope s.heap.objs.size f cd)) (leaving (envOfC qual scope s.heap.objs.size f cd) e) (λ_ NC=>CX outer H s E e NC) (λe' NC=>CX outer H s E e' NC) s'
theorem zg {sc:Scope}(h:sc.names.lookup x=some .cell):∃c,(cellsFrom n sc.names []).lookup x=some c:=by
 have q:=oI sc.names n [] (.inl h)
 exact Option.isSome_iff_exists.mp q
variable {scope:Scope}
theorem GK {N ps:rp}{qual:Str}{f:Addr}{cd:Value}{outer:List Env}{s1:Shared}{E:XK}{vs:List V}
  (S:CO N ps scope) (hd:A.handled=none) (e0:RS P w K mg base A outer s H) (hl:vs.length=ps.length) (r:Vals vs us)
  (x:InCallC s s.heap.objs.size (bindL (envOfC qual scope s.heap.objs.size f cd).kindOf (ps.zip us) λ_=>none) (cellsFrom (s.heap.objs.size+1) scope.names []) (bindC (envOfC qual scope s.heap.objs.size f cd).kindOf (ps.zip us) λ_=>none) s1):
  Inv (ir CX P w K mg base N qual scope f cd A outer s H E) [] (start N vs) H s1:=by
 have FA:ps.length<=N.length:=by have:=b9 List.length S.pre;rw[dv] at this;omega
 obtain⟨h1,tk,rfl,hk⟩:=x.done
 have YU:∀b:Addr,b∉(ir CX P w K mg base N qual scope f cd A outer s H E).ex:=λb z=>absurd (show b∈([]:rL) from z) (by simp)
 refine⟨⟨e0.mod,S.kind,rfl,rfl,aT _,λy z c h1 h2=>?_,λy hy=>?_,λy c _ h=>?_,λ_=>hd,Around.frames_deeper e0.frames,.inr ⟨rfl,rfl⟩,λb z=>absurd z (YU b),e0.bs,e0.RH,λb _ _=>YU b,λb z=>absurd z (YU b),e0.GW,e0.VU⟩,
  rfl,e0.bare,Un.kept hk,⟨_,x.toInCall.ns,λi y v h1 h2 h3=>?_⟩,λy c h=>⟨_,x.cell y c h⟩,e0.C8.fresh (aT _),λy c h=>?_,λp hp=>absurd (show p∈([]:fN) from hp) (by simp),e0.C8.kept hk,?_⟩
 ·exact name_of_addr x.apart (PySem.mem_of_lookup h1) (PySem.mem_of_lookup h2)
 ·have hy:scope.names.lookup y=some .cell\/scope.names.lookup y=some .free:=hy
  rcases hy with hy | hy
  ·exact zg hy
  ·exact absurd rfl (S.WA _ (PySem.mem_of_lookup hy))
 ·exact i6 (x.above y c (PySem.mem_of_lookup h))
 ·have hi:i < vs.length:=by
   unfold start at h2
   by_cases hi:i < vs.length
   ·exact hi
   ·rw[fk (by simpa using hi)] at h2
    rw[ox] at h2
    split at h2 <;> cases h2
  have ha:vs[i]?=some v:=by
   unfold start at h2
   rw[kT (by simpa using hi),ar] at h2
   cases e:vs[i]? with
   | none=>rw[e] at h2;cases h2
   | some a=>rw[e] at h2;cases h2;rfl
  obtain⟨u,hu,rv⟩:=r.get ha
  have hp:ps[i]?=some y:=by
   rw[← S.pre,List.getElem?_take_of_lt (by omega)];exact h1
  have ndP:ps.Nodup:=by rw[← S.pre];exact S.nd.sublist (List.take_sublist _ _)
  refine⟨u,rv,?_⟩
  rcases S.par y (ax hp) with k | k
  ·exact .inl ⟨k,xF ndP hp hu k⟩
  ·obtain⟨c,e⟩:=zg (n:=s.heap.objs.size+1) k
   refine .inr ⟨.inl k,c,e,?_⟩
   have q:=x.cell y c e
   rw[xG ndP hp hu (by show scope.names.lookup y≠_;rw[k];decide)] at q
   exact q
 ·exact e0.C8.fresh (i6 (x.above y c (PySem.mem_of_lookup h)))
 ·unfold start
  show _=N.length
  rw[aS,af,pr]
  omega
theorem LR {k:Nat}{f:Addr}{name qual:Str}{params:Arguments}{dV kV doc pm FK ct oc:Value}{an od:Option Addr}
  {RU:Array (Option Value)}{N ps:rp}{sp:Sp}(lk:K.lookup f=some ⟨oc,od,.func (W.fnOf name qual params body scope dV kV doc pm an FK ct),RU⟩) (FH:W.codeIn K FK qual=true) (S:CO N ps scope)
  (len:∀vs H Q E,sp vs H Q E->vs.length=ps.length)
  (KO:∀(A:Around) (outer:List Env) (s:Shared) (H:Hp) (vs:List V) (Q:VK) (E:XK),DD k (A.deeper (envOfC qual scope s.heap.objs.size f FK))->sp vs H Q E->
   ∃t,Fu (ir CX P w K mg base N qual scope f FK A outer s H E) body t/\t { nx:=λ_ H'=>Q .CY H',rt:=Q } (start N vs) H):
  EC P w K mg base CX (k+1) f (W.fnOf name qual params body scope dV kV doc pm an FK ct) ps sp:=by
 refine⟨len,λA outer s H args us vs Q E hr e0 hb r MG=>?_⟩
 have hl:=len _ _ _ _ MG
 have KX:K.In s.heap:=e0.mod.N1.keeps λb o e=>(e0.bs b o e).1
 have lim:s.heap.NoLimit:=e0.mod.nolimit.keeps λb o e=>(e0.bs b o e).1
 have YV:∀y∈ps.zip us,scope.names.lookup y.1=some .local\/(scope.names.lookup y.1=some .cell/\((cellsFrom (s.heap.objs.size+1) scope.names []).lookup y.1).isSome=true):=by
  rintro ⟨n,v⟩ hy
  rcases S.par n (d6 hy).1 with q | q
  ·exact .inl q
  ·exact .inr ⟨q,oI _ _ _ (.inl q)⟩
 refine codeAny_call_function hr.depth (KX _ _ lk) rfl S.co S.gen rfl (W.codeRec_of KX FH) (hb _ _ _ _ ?_)
 refine wpAny_newFunctionEnv_cells S.kind YV λenv he s1 x=>?_
 subst he
 refine⟨lim.keeps x.toInCall.keep,codeAny_func ?_⟩
 obtain⟨t,ht,hq⟩:=KO A outer s H vs Q E (hr.deeper _) MG
 have I:Inv (ir CX P w K mg base N qual scope f FK A outer s H E) [] (start N vs) H s1:=GK S hr.hd e0 hl r x
 refine eW (ht [] s1 (start N vs) H _ I hq) (λfl s' hs=>?_) λe s' hs=>hs
 have fin:∀{σ':St}{H':Hp}{v:V}{u:Value},Inv (ir CX P w K mg base N qual scope f FK A outer s H E) [] σ' H' s'->RelV v u->Q v H'->CE outer P w K H s Q u s':=
  λ{σ' H' v u} J rv q=>⟨v,H',J.os,J.bare,J.base,J.C8,rv,q⟩
 cases fl with
 | ret u=>
  obtain⟨v,σ',H',J,rv,q⟩:=hs
  exact fin J rv q
 | next=>
  obtain⟨σ',H',J,q⟩:=hs
  exact fin (v:=V.CY) (u:=Value.none) J rfl q
 | brk=>
  obtain⟨_,_,_,q⟩:=hs
  exact False.elim q
 | cont=>
  obtain⟨_,_,_,q⟩:=hs
  exact False.elim q
section
variable {X:Cx}{x:Str}{p pos:Pos}{e:Expr}{es:rl}{t:TA}{id T:String}{r:List V->Hp->VK->Prop}
def tCB (r:List V->Hp->VK->Prop)(t:TA):TE:=fun σ H Q=>t σ H λvs H1=>r vs H1 Q
theorem zj (hc:DU X (.builtin id) r)(hg:Gl X x)(hm:X.mg x=none)(hv:bootBuiltins x=some (.builtin id))(ha:PA X (e::es) t)(hn:x ≠ "__name__" := by decide)(Ic:(x == ("__debug__" : Str))=false:=by decide)
  (he:starEach (e::es) X.env=(false,eval e X.env)::starEach es X.env:=by rfl) (FA:(backTo pos (starEach es X.env)).any (·.1)=false:=by rfl):PE X (.Call (.Name x p) (e::es) [] pos) (tCB r t):=by
 intro CI s σ H Q I h
 refine gE (dZ I hg hm hv ?_ hn Ic)
 exact PyProof.Rows.callWith_builtin1 (DB (ha pos CI s σ H _ I h) λus s1 ⟨vs,H1,I1,r1,q1⟩=>hc CI s1 σ H1 vs us Q I1 r1 q1) he FA
theorem GQ (hc:DU X (.type T) r)(hg:Gl X x)(hm:X.mg x=none)(hv:bootBuiltins x=some (.type T))(ha:PA X (e::es) t)(hn:x ≠ "__name__" := by decide)(Ic:(x == ("__debug__" : Str))=false:=by decide)
  (he:starEach (e::es) X.env=(false,eval e X.env)::starEach es X.env:=by rfl) (FA:(backTo pos (starEach es X.env)).any (·.1)=false:=by rfl):PE X (.Call (.Name x p) (e::es) [] pos) (tCB r t):=by
 intro CI s σ H Q I h
 refine gE (dZ I hg hm hv ?_ hn Ic)
 exact bv (DB (ha pos CI s σ H _ I h) λus s1 ⟨vs,H1,I1,r1,q1⟩=>hc CI s1 σ H1 vs us Q I1 r1 q1) he FA
end
section
variable {κ:Type}[DecidableEq κ]
noncomputable def jc (kvs:List (κ×V))(k:κ):Option V:=(kvs.find? λkv=>decide (kv.1=k)).map (·.2)
noncomputable def putK (kvs:List (κ×V))(k:κ)(v:V):List (κ×V):=
 if (kvs.any λkv=>decide (kv.1=k))=true then kvs.map (λkv=>if kv.1=k then (kv.1,v) else kv) else kvs++[(k,v)]
theorem nu {p:κ×V}{r:List (κ×V)}{k:κ}(e:p.1=k):jc (p::r) k=some p.2:=by simp[jc,eP,e]
theorem nA {p:κ×V}{r:List (κ×V)}{k:κ}(e:¬ p.1=k):jc (p::r) k=jc r k:=by simp[jc,eP,e]
theorem zm (k:κ):∀kvs:List (κ×V),(kvs.any λkv=>decide (kv.1=k))=(jc kvs k).isSome
 | []=>rfl
 | p::r=>by
  rw[fA]
  by_cases e:p.1=k
  ·simp only[nu e,bP e,Bool.true_or,Option.isSome_some]
  ·rw[nA e,ba e,Bool.false_or];exact zm k r
theorem uv (kvs:List (κ×V))(k:κ)(v:V):(putK kvs k v).length<=kvs.length+1:=by
 unfold putK
 split
 ·rw[af];omega
 ·rw[aS,bg,k7];omega
theorem II.E9 {o:Option V}{u:Option Value}(r:II o u):o.isSome=u.isSome:=by
 cases o with
 | none=>cases u with
  | none=>rfl
  | some _=>exact(show False from r).elim
 | some _=>cases u with
  | none=>exact(show False from r).elim
  | some _=>rfl
theorem II.getD {o:Option V}{u:Option Value}{d:V}{d':Value}(r:II o u)(rd:RelV d d'):RelV (o.getD d) (u.getD d'):=by
 cases o with
 | none=>cases u with
  | none=>exact rd
  | some _=>exact(show False from r).elim
 | some _=>cases u with
  | none=>exact(show False from r).elim
  | some _=>exact r
theorem KV.val {kvs:List (κ×V)}{vs:List (κ×Value)}(r:KV kvs vs)(k:κ):II (jc kvs k) (valueAt vs k):=by
 unfold KV at r
 induction r with
 | nil=>exact io
 | @cons p q ps qs h t ih=>
  obtain⟨h1,h2⟩:=h
  by_cases e:p.1=k
  ·have e':q.1=k:=h1.symm.trans e
   have b:valueAt (q::qs) k=some q.2:=by simp[valueAt,eP,e']
   rw[nu e,b];exact h2
  ·have e':¬ q.1=k:=λz=>e (h1.trans z)
   have b:valueAt (q::qs) k=valueAt qs k:=by simp[valueAt,eP,e']
   rw[nA e,b];exact ih
theorem KV.any {kvs:List (κ×V)}{vs:List (κ×Value)}(r:KV kvs vs)(k:κ):(kvs.any λkv=>decide (kv.1=k))=vs.any λkv=>decide (kv.1=k):=by
 unfold KV at r
 induction r with
 | nil=>rfl
 | cons h t ih=>rw[fA,fA,ih,h.1]
theorem KV.MH {kvs:List (κ×V)}{vs:List (κ×Value)}(r:KV kvs vs)(k:κ)(ry:RelV y u):
  KV (kvs.map λkv=>if kv.1=k then (kv.1,y) else kv) (vs.map λkv=>if kv.1=k then (kv.1,u) else kv):=by
 unfold KV at r ⊢
 induction r with
 | nil=>exact .nil
 | @cons p q ps qs h t ih=>
  rw[ap,ap]
  refine .cons ?_ ih
  obtain⟨h1,h2⟩:=h
  by_cases e:p.1=k
  ·rw[be e,be (h1.symm.trans e)];exact⟨h1,ry⟩
  ·rw[a7 e,a7 (λz=>e (h1.trans z))];exact⟨h1,h2⟩
theorem KV.put {kvs:List (κ×V)}{vs:List (κ×Value)}(r:KV kvs vs)(k:κ)(ry:RelV y u):KV (putK kvs k y) (stored vs k u):=by
 unfold putK stored
 rw[r.any k]
 by_cases e:(vs.any λkv=>decide (kv.1=k))=true
 ·rw[be e,be e];exact r.MH k ry
 ·rw[a7 e,a7 e];exact Paired.snoc r ⟨rfl,ry⟩
theorem KV.length {kvs:List (κ×V)}{vs:List (κ×Value)}(r:KV kvs vs):kvs.length=vs.length:=ii r
end
theorem t8 {k:Key}(r:RelV (kV k) u):(iQ P w).is k u=true:=by
 cases k with
 | inl i=>obtain⟨t,e⟩:=(show ∃t,u=Value.int i t from r);subst e;exact BW P w i t
 | inr x=>obtain⟨t,e⟩:=(show ∃t,u=Value.str x t from r);subst e;exact BZ P w x t
theorem GR {k:Key}(r:RelV (kV k) u):(cZ P w).is k u=true:=Gp (t8 (P:=P) (w:=w) r)
theorem CG {P:Program}{w:World}:∀{ks:List Key}{us:mA},Vals (ks.map kV) us->ItemsAre (cZ P w) ks us
 | [],_,r=>by rw[ed] at r;cases r;exact .nil
 | k::ks,_,r=>by
  rw[ap] at r
  cases r with
  | cons h t=>exact .cons (GR h) (CG t)
theorem sy {ks:List Key}{vs:List V}(kt:rY ks vs)(r:Vals vs us):ItemsAre (cZ P w) ks us:=by
 rcases kt with rfl | ⟨x,b,rfl,rfl⟩
 ·exact CG r
 ·cases r with
  | cons h1 t=>cases t with
   | cons h2 t=>
    cases t
    cases (show _=Value.bool b from h2)
    exact .cons (GR (k:=.inr x) h1) (.cons (BV b) .nil)
abbrev KT (K:PySem.W.Frag)(H:Hp):List (List Key×V)->List (List Key×Addr×Value)->Prop:=Paired λp q=>p.1=q.1/\FE K H q.2.1 p.1/\RelV p.2 q.2.2
variable {kvs:List (List Key×V)}{xs:List (List Key×Addr×Value)}
theorem KT.val (r:KT K H kvs xs)(k:List Key):II (jc kvs k) ((atKey xs k).map (·.2)):=by
 induction r with
 | nil=>exact io
 | @cons p q ps qs h t ih=>
  obtain⟨h1,_,h2⟩:=h
  by_cases e:p.1=k
  ·have e':q.1=k:=h1.symm.trans e
   have b:atKey (q::qs) k=some q.2:=by simp[atKey,eP,e']
   rw[nu e,b];exact h2
  ·have e':¬ q.1=k:=λz=>e (h1.trans z)
   have b:atKey (q::qs) k=atKey qs k:=by simp[atKey,eP,e']
   rw[nA e,b];exact ih
theorem KT.MH (r:KT K H kvs xs)(k:List Key)(ry:RelV y u):
  KT K H (kvs.map λkv=>if kv.1=k then (kv.1,y) else kv) (xs.map (putAt k u)):=by
 induction r with
 | nil=>exact .nil
 | @cons p q ps qs h t ih=>
  rw[ap,ap]
  refine .cons ?_ ih
  obtain⟨h1,h2,h3⟩:=h
  unfold putAt
  by_cases e:p.1=k
  ·rw[be e,be (h1.symm.trans e)];exact⟨h1,h2,ry⟩
  ·rw[a7 e,a7 (λz=>e (h1.trans z))];exact⟨h1,h2,h3⟩
theorem KT.put (r:KT K H kvs xs)(k:List Key)(hb:FE K H b k)(ry:RelV y u):
  KT K H (putK kvs k y) (storedH xs k b u):=by
 have e:(kvs.any λkv=>decide (kv.1=k))=(atKey xs k).isSome:=by
  rw[zm,(r.val k).E9,lh]
 unfold putK storedH
 rw[e]
 by_cases q:(atKey xs k).isSome=true
 ·rw[be q,be q];exact r.MH k ry
 ·rw[a7 q,a7 q];exact Paired.snoc r ⟨rfl,hb,ry⟩
theorem KT.keeps {K:W.Frag}{H H':Hp}{kvs:List (List Key×V)}{xs:List (List Key×Addr×Value)}(r:KT K H kvs xs)(ht:∀b ys,H b=some (.tup ys)->H' b=some (.tup ys)):KT K H' kvs xs:=
 Paired.VS r λ_ _ z=>⟨z.1,z.2.1.keeps ht,z.2.2⟩
section
variable {P:Program}{w:World}{K:W.Frag}{H:Hp}{h:Heap}{a:Addr}
theorem L_ {u:HO}(ok:F4 P w K H h)(e:Rd H a u):Dx P w K H h a u:=e.ok ok
theorem o9 {kvs:List (Key×V)}(ok:F4 P w K H h)(e:Rd H a (.dK kvs)):kvs.length<=sizeLine/\(a == sysModules)=false/\∃vs,KV kvs vs/\h.DictOf (iQ P w) a vs:=
 show Dx P w K H h a (.dK kvs) from L_ ok e
theorem Ma {kvs:List (Key×V)}(ok:F4 P w K H h)(e:H a=some (.dK kvs)):kvs.length<=sizeLine/\(a == sysModules)=false/\∃vs,KV kvs vs/\h.DictOf (iQ P w) a vs:=o9 ok (.inl e)
theorem Q3 {ks:List Key}(ok:F4 P w K H h)(e:Qo H a ks):(tupleKind (cZ P w)).is h ks a:=by
 obtain⟨vs,e,kt⟩:=e
 obtain⟨_,CL,r,o,h1,h2,n,h3⟩:=(show Dx P w K H h a (.tup vs) from ok a _ e)
 exact⟨o,CL.toArray,n,h1,h2,h3,by simpa using sy kt r⟩
theorem lA {ks:List Key}(N1:K.In h)(ok:F4 P w K H h)(e:FE K H a ks):(tupleKind (cZ P w)).is h ks a:=by
 rcases e with e | ⟨vs,⟨o,CL,n,e1,e2,e3,_,r⟩,kt⟩
 ·exact Q3 ok e
 ·exact⟨o,CL,n,N1 a o e1,e2,e3,sy kt r⟩
theorem pJ (N1:K.In h)(ok:F4 P w K H h)(e:Rd H a (.dT kvs)):kvs.length<=sizeLine/\(a == sysModules)=false/\∃xs,KT K H kvs xs/\EM (tupleKind (cZ P w)) h a xs:=by
 obtain⟨z,y,xs,r,o,es,ep,h1,h2,h3,h4,h5,h6⟩:=(show Dx P w K H h a (.dT kvs) from L_ ok e)
 subst h6
 refine⟨z,y,xs,r,o,es,h1,h2,h3,h4,λx hx=>?_,h5⟩
 have all:∀{l:List (List Key×V)}{m:List (List Key×Addr×Value)},KT K H l m->∀x∈m,(tupleKind (cZ P w)).is h x.1 x.2.1:=by
  intro l m q
  induction q with
  | nil=>intro x hx;exact nomatch hx
  | cons hq t ih=>
   intro x hx
   rcases av.mp hx with e | hx
   ·rw[e];exact lA N1 ok (by rw[← hq.1];exact hq.2.1)
   ·exact ih x hx
 exact all r x hx
theorem qL (N1:K.In h)(ok:F4 P w K H h)(e:Rd H a (.dT kvs)):kvs.length<=sizeLine/\(a == sysModules)=false /\
  ∃xs,KT K H kvs xs/\h.DictOfH (tupleKind (cZ P w)) a xs:=let ⟨z,y,xs,r,q⟩:=pJ N1 ok e;⟨z,y,xs,r,q.of⟩
end
def ED (K:W.Frag)(H:Hp)(a:Addr)(y:V)(r:Option V):Prop:=
 (∃kvs k,Rd H a (.dK kvs)/\y=kV k/\r=jc kvs k)\/∃kvs k b,Rd H a (.dT kvs)/\y=.ref b/\FE K H b k/\r=jc kvs k
def KP (K:W.Frag)(H:Hp)(a:Addr)(y v:V)(H':Hp):Prop:=
 (∃kvs k,H a=some (.dK kvs)/\y=kV k/\kvs.length < sizeLine/\H'=upd H a (.dK (putK kvs k v))) \/
 ∃kvs k b,H a=some (.dT kvs)/\y=.ref b/\FE K H b k/\kvs.length < sizeLine/\H'=upd H a (.dT (putK kvs k v))
theorem ED.k {K:W.Frag}{H:Hp}{a:Addr}{kvs:List (Key×V)}{k:Key}(e:H a=some (.dK kvs)):ED K H a (kV k) (jc kvs k):=.inl ⟨kvs,k,.inl e,rfl,rfl⟩
theorem ED.t {k:List Key}(e:H a=some (.dT kvs))(eb:FE K H b k):ED K H a (.ref b) (jc kvs k):=.inr ⟨kvs,k,b,.inl e,rfl,eb,rfl⟩
theorem KP.k {K:W.Frag}{H:Hp}{a:Addr}{kvs:List (Key×V)}{k:Key}{v:V}(e:H a=some (.dK kvs))(hl:kvs.length < sizeLine):KP K H a (kV k) v (upd H a (.dK (putK kvs k v))):=.inl ⟨kvs,k,e,rfl,hl,rfl⟩
theorem KP.t {k:List Key}(e:H a=some (.dT kvs))(eb:FE K H b k)(hl:kvs.length < sizeLine):
  KP K H a (.ref b) v (upd H a (.dT (putK kvs k v))):=.inr ⟨kvs,k,b,e,rfl,eb,hl,rfl⟩
section
variable {X:Cx}{CI:fN}{σ:St}{H:Hp}{s:Shared}{a:Addr}{y v:V}{u r:Value}{o:Option V}{A:Around}{E:dx}
theorem Inv.big (I:Inv X CI σ H s):sysModules < s.heap.objs.size:=by
 have h:mainGlobals < s.heap.objs.size:=(I.mod.glob.keeps I.bk).lt
 exact Nat.lt_trans (by decide) h
theorem GX {Q:dx}(hu:A.units+1 < cLine)(I:Inv X CI σ H s)(g:ED X.K H a y (some v))(ry:RelV y u)(h:∀w' s',Inv X CI σ H s'->RelV v w'->Q w' s'):
  wpAny (model X.prog X.w) A (getItem (.ref a) u) Q E s:=by
 rcases g with ⟨kvs,k,e,ey,l⟩ | ⟨kvs,k,b,e,ey,eb,l⟩
 ·subst ey
  obtain⟨z,hd,vs,rel,dd⟩:=o9 I.C8 e
  obtain⟨w',hw,MI⟩:=II.some_of (v:=v) (o:=valueAt vs k) (by rw[l];exact rel.val k)
  exact wpAny_getItem_of (t8 ry) dd.mapOf hw (h w' _ (I.tok _) MI)
 ·subst ey
  cases (show u=Value.ref b from ry)
  obtain⟨z,hd,xs,rel,dd⟩:=qL I.EZ I.C8 e
  obtain⟨w',hw,MI⟩:=II.some_of (v:=v) (o:=(atKey xs k).map (·.2)) (by rw[l];exact rel.val k)
  obtain⟨p,hp,Kj⟩:=eK.mp hw
  refine wpAny_getItem_heap (ip hu) (lA I.EZ I.C8 eb) dd hp ?_
  rw[Kj]
  exact h w' _ (I.tok _) MI
theorem V_ {Q:dx}(hu:A.units+1 < cLine)(I:Inv X CI σ H s)(g:ED X.K H a y o)(ry:RelV y u)(h:∀s',Inv X CI σ H s'->Q (.bool o.isSome) s'):
  wpAny (model X.prog X.w) A (compareOp .In u (.ref a)) Q E s:=by
 rcases g with ⟨kvs,k,e,ey,l⟩ | ⟨kvs,k,b,e,ey,eb,l⟩
 ·subst ey
  obtain⟨z,hd,vs,rel,dd⟩:=o9 I.C8 e
  refine wpAny_in_of (t8 ry) hd dd.mapOf ?_
  rw[← (rel.val k).E9,← l]
  exact h _ (I.tok _)
 ·subst ey
  cases (show u=Value.ref b from ry)
  obtain⟨z,hd,xs,rel,dd⟩:=qL I.EZ I.C8 e
  refine wpAny_in_heap (ip hu) (lA I.EZ I.C8 eb) hd dd ?_
  have q:=(rel.val k).E9
  rw[lh] at q
  rw[← q,← l]
  exact h _ (I.tok _)
theorem Nh {Q:dx}(hu:A.units+1 < cLine)(I:Inv X CI σ H s)(g:ED X.K H a y o)(ry:RelV y u)(h:∀s',Inv X CI σ H s'->Q (.bool (!o.isSome)) s'):
  wpAny (model X.prog X.w) A (compareOp .NotIn u (.ref a)) Q E s:=by
 rcases g with ⟨kvs,k,e,ey,l⟩ | ⟨kvs,k,b,e,ey,eb,l⟩
 ·subst ey
  obtain⟨z,hd,vs,rel,dd⟩:=o9 I.C8 e
  refine wpAny_notIn_of (t8 ry) hd dd.mapOf ?_
  rw[← (rel.val k).E9,← l]
  exact h _ (I.tok _)
 ·subst ey
  cases (show u=Value.ref b from ry)
  obtain⟨z,hd,xs,rel,dd⟩:=qL I.EZ I.C8 e
  refine wpAny_notIn_heap (ip hu) (lA I.EZ I.C8 eb) hd dd ?_
  have q:=(rel.val k).E9
  rw[lh] at q
  rw[← q,← l]
  exact h _ (I.tok _)
theorem v7 {ob:HO}(I:Inv X CI σ H s)(mu:YJ (H a))(hs:Heap.SameBut a s.heap h')(he:∃q,h'.get? a=some q)(new:Dx X.prog X.w X.K (upd H a ob) h' a ob):
  Inv X CI σ (upd H a ob) { s with heap:=h',toks:=t' }:=
 I.write (x:=a) (e:=a) mu (.inl rfl) (λb q hb z=>(hs.2 b hb).trans z) he new
theorem Q4 {kvs:List (Key×V)}{vs:List (Key×Value)}(z:kvs.length<=sizeLine)(hd:(a == sysModules)=false)(rel:KV kvs vs)(dd:h'.DictOf (iQ P w) a vs):
  Dx P w K H' h' a (.dK kvs):=⟨z,hd,vs,rel,dd⟩
theorem GZ (hu:A.units+1 < cLine)(I:Inv X CI σ H s)(g:KP X.K H a y v H')(ry:RelV y u)(rv:RelV v r)(h:∀s',Inv X CI σ H' s'->Q () s'):
  wpAny (model X.prog X.w) A (setItem (.ref a) u r) Q E s:=by
 rcases g with ⟨kvs,k,e,ey,l,eH⟩ | ⟨kvs,k,b,e,ey,eb,l,eH⟩
 ·subst ey eH
  obtain⟨z,hd,vs,rel,dd⟩:=Ma I.C8 e
  have hz:vs.length<=sizeLine:=by rw[← rel.length];exact z
  have hl:(putK kvs k v).length<=sizeLine:=by have:=uv kvs k v;omega
  refine wpAny_setItem_pairs (hsz:=hz) (t8 ry) dd λh' Yk hs=>h _ ?_
  have he:∃q,h'.get? a=some q:=let ⟨q,_,_,hq,_⟩:=Yk;⟨q,hq⟩
  exact v7 I (by rw[e];exact io) hs he (Q4 hl hd (rel.put k rv) Yk)
 ·subst ey eH
  cases (show u=Value.ref b from ry)
  obtain⟨z,hd,xs,rel,dd⟩:=pJ I.EZ I.C8 (.inl e)
  have hz:xs.length<=sizeLine:=by rw[← ii rel];exact z
  have hl:(putK kvs k v).length<=sizeLine:=by have:=uv kvs k v;omega
  refine Jy (ip hu) (lA I.EZ I.C8 eb) dd hz λh' Yk hs=>h _ ?_
  obtain⟨q,es,hq,h2,h3,h4,_,h5⟩:=Yk
  refine v7 I (by rw[e];exact io) hs ⟨q,hq⟩ ⟨hl,hd,_,(rel.put k eb rv).keeps λc ys ec=>?_,q,es,_,hq,h2,h3,h4,h5,rfl⟩
  rw[aP (Lx ec e (λz=>nomatch z))]
  exact ec
end
section
variable {X:Cx}{CI:fN}{σ:St}{H:Hp}{s:Shared}{a:Addr}{kvs:List (Key×V)}{k:Key}{u:Value}{A:Around}{E:dx}
theorem U3 {Q:dx}(I:Inv X CI σ H s)(e:Rd H a (.dK kvs))(h:∀t s',Inv X CI σ H s'->Q (.int kvs.length t) s'):wpAny (model X.prog X.w) A (call (.builtin "len") [.ref a]) Q E s:=by
 obtain⟨z,hd,vs,rel,dd⟩:=o9 I.C8 e
 refine call_len_dict hd dd (by rw[← rel.length];rw[sizeLine_eq] at z;omega) ?_
 rw[← rel.length]
 exact h _ _ (I.tok _)
end
def JP (i:Expr):Prop:=∀ov iv,subscripted i false ov iv=operate [ov,iv] (getItem ov iv)
theorem Ni {prog:Program}{env:Env}{value slice:Expr}{T id:String}{Q:dx}
  (hl:typeLookup (.type T) "__getitem__" = pure (some (.builtin id))) (hs:JP slice)
  (h:wpAny (model prog w) A (eval value env) (λo s₁=>wpAny (model prog w) A (eval slice env) (λi s₂=>s₂.TypeIs o T/\wpAny (model prog w) A (getItem o i) Q E s₂) E s₁) E s):
  wpAny (model prog w) A (eval (.Subscript value slice pos) env) Q E s:=by
 refine Subscript_ (eW h (λo s₁ h₁=>eW h₁ (λi s₂ h₂=>?_) λ_ _ x=>x) λ_ _ x=>x)
 obtain⟨hT,h₂⟩:=h₂
 unfold subscriptTail
 refine ac ?_
 rw[getitemInPython_of_ne hT.not_modules]
 refine ac (gv hT hl ?_)
 have fin:wpAny (model prog w) A (subscripted slice false o i) (λr s₃=>wpAny (model prog w) A (letTemporaryGo value o r >>= λ_=>pure r) Q E s₃) E s₂:=by
  rw[hs o i]
  exact wpAny_operating (eW h₂ (λr s₃ h₃=>ac (wpAny_letTemporaryGo (ai h₃))) λ_ _ x=>x)
 first
  | exact ai (ac fin)
  | exact ac (ai (ac fin))
  | exact ac fin
theorem B_ {o:Option V}(I:Inv X CI σ H s)(g:ED X.K H a y o):s.TypeIs (.ref a) "dict" := by
 rcases g with ⟨kvs,k,e,_,_⟩ | ⟨kvs,k,b,e,_,_,_⟩
 ·obtain⟨_,_,vs,_,dd⟩:=o9 I.C8 e
  exact dd.typeIs
 ·obtain⟨_,_,xs,_,dd⟩:=qL I.EZ I.C8 e
  exact dd.typeIs
def U4 (K:W.Frag)(td ty:TE):TE:=fun σ H Q=>td σ H λx H1=>ty σ H1 λy H2=>∃a v,x=.ref a/\ED K H2 a y (some v)/\Q v H2
def U5 (K:W.Frag)(td ty tv:TE):TS:=λD σ H=>tv σ H λv H1=>td σ H1 λx H2=>ty σ H2 λy H3=>∃a H4,x=.ref a/\KP K H3 a y v H4/\D.nx σ H4
section
variable {X:Cx}{o i e value:Expr}{pos pos' tpos:Pos}{td ty tv:TE}
theorem Nj (hu:X.A.units+1 < cLine)(ho:PE X o td)(hi:PE X i ty)(hs:JP i):PE X (.Subscript o i pos) (U4 X.K td ty):=by
 intro CI s σ H Q I h
 refine Ni PySem.F.slot_dict_getitem.lookup hs (DB (ho CI s σ H _ I h) λu s1 ⟨x,H1,I1,rx,q1⟩=>DB (hi CI s1 σ H1 _ I1 q1) ?_)
 rintro iv s2 ⟨y,H2,I2,ry,a,v,ex,g,q2⟩
 subst ex
 obtain rfl:u=Value.ref a:=rx
 exact⟨B_ I2 g,GX hu I2 g ry λw' s3 I3 MI=>⟨v,H2,I3,MI,q2⟩⟩
theorem Nk (hu:X.A.units+1 < cLine)(ho:PE X o td)(hi:PE X i ty)(hv:PE X value tv)(hs:swapsWith value (some (.Subscript o i pos')) pos.line X.env=pure false):
  PS X (.Assign [.Subscript o i pos'] value pos) (U5 X.K td ty tv):=by
 intro CI s σ H D I h
 refine wpAny_Assign_Subscript (DB (hv CI s σ H _ I h) λr s1 ⟨v,H1,I1,rv,q1⟩=>DB (ho CI s1 σ H1 _ I1 q1) λu s2 ⟨x,H2,I2,rx,q2⟩=>DB (hi CI s2 σ H2 _ I2 q2) ?_) hs
 rintro iv s3 ⟨y,H3,I3,ry,a,H4,ex,g,q3⟩
 subst ex
 obtain rfl:u=Value.ref a:=rx
 exact GZ hu I3 g ry rv λs4 I4=>⟨σ,H4,I4,q3⟩
end
theorem zp (h:Heap)(hb:sysModules < h.objs.size):Dx P w K H (h.push { cls:=.type "dict",data:=.dict #[] }) h.objs.size (.dT []):=
 ⟨c6 _,kU.mpr (gx (cf hb)),[],.nil,_,#[],0,am _ rfl,⟨rfl,rfl,rfl⟩,rfl,rfl,List.nodup_nil,rfl⟩
def Q5:TE:=λ_ H Q=>∀p,H p=none->Q (.ref p) (upd H p (.dT []))
section
variable {X:Cx}{pos:Pos}
theorem JQ:PE X (.Dict [] [] pos) Q5:=λCI s σ H Q I h=>
 wpAny_Dict_empty ⟨.ref s.heap.objs.size,_,I.laid (a:=s.heap.objs.size) (o:=.dT []) (t':=s.toks) (λ_ _ q=>ae _ q) (aT _) (zp s.heap I.big),rfl,h _ (I.C8.fresh (aT _))⟩
end
structure M2 (X:Cx)(o:Expr)(m:Str)(apos:Pos)(e f:Expr)(C5:Pos):Prop where
 base:attributeBase o m X.env (eval o X.env)=eval o X.env
 few:((backTo C5 (starEach [e,f] X.env)).all (λx=>!x.1)&&(backToKw C5 (keywordEach [] X.env)).all (λx=>x.1.isSome)
  && decide (([e,f]:rl).length+([]:List Keyword).length+(if ([]:List Keyword).isEmpty then 0 else 1) < 30))=true
 line:(apos.endLine == C5.line)=true
 trees:backTo C5 (starEach [e,f] X.env)=[(false,eval e X.env),(false,eval f X.env)]
def IsD (H:Hp)(a:Addr):Prop:=(∃kvs,Rd H a (.dK kvs))\/∃kvs,Rd H a (.dT kvs)
theorem zq (I:Inv X CI σ H s)(d:IsD H a):
  s.TypeIs (.ref a) "dict" /\ (∀b,Value.ref a=.ref b->∃ob,s.heap.get? b=some ob/\ob.dict=none)/\(a == sysModules)=false:=by
 rcases d with ⟨kvs,e⟩ | ⟨kvs,e⟩
 ·obtain⟨_,hd,vs,_,dd⟩:=o9 I.C8 e
  refine⟨dd.typeIs,λb q=>?_,hd⟩
  cases q
  obtain⟨ob,_,_,h1,h2,_⟩:=dd
  exact⟨ob,h1,h2.2.1⟩
 ·obtain⟨_,hd,xs,_,dd⟩:=qL I.EZ I.C8 e
  refine⟨dd.typeIs,λb q=>?_,hd⟩
  cases q
  obtain⟨ob,_,_,h1,h2,_⟩:=dd
  exact⟨ob,h1,h2.2.1⟩
section
variable {X:Cx}{CI:fN}{σ:St}{H:Hp}{s:Shared}{a:Addr}{y d:V}{u r:Value}{o:Option V}{A:Around}{E:dx}
theorem Q6 {Q:dx}(hu:A.units+1 < cLine)(I:Inv X CI σ H s)(g:ED X.K H a y o)(ry:RelV y u)(rd:RelV d r)(h:∀w' s',Inv X CI σ H s'->RelV (o.getD d) w'->Q w' s'):
  wpAny (model X.prog X.w) A (call (.builtin "dict.get") [.ref a,u,r]) Q E s:=by
 rcases g with ⟨kvs,k,e,ey,l⟩ | ⟨kvs,k,b,e,ey,eb,l⟩
 ·subst ey
  obtain⟨z,hd,vs,rel,dd⟩:=o9 I.C8 e
  refine call_meetsIn ix dd.typeIs li (k8 _ _ _) (meets_dict_get_default (iQ X.prog X.w) a (t8 ry) hd r) ⟨_,dd.mapOf,h _ _ (I.tok _) ?_⟩
  rw[l]
  exact(rel.val k).getD rd
 ·subst ey
  cases (show u=Value.ref b from ry)
  obtain⟨z,hd,xs,rel,dd⟩:=qL I.EZ I.C8 e
  refine call_meetsIn ix dd.typeIs li (k8 _ _ _) (oy (tupleKind (cZ X.prog X.w)) a b hd r) ⟨ip hu,k,xs,lA I.EZ I.C8 eb,dd,h _ _ (I.tok _) ?_⟩
  rw[l]
  exact(rel.val k).getD rd
end
def Q7 (K:W.Frag)(td ty tx:TE):TE:=fun σ H Q=>td σ H λx H1=>∃a,x=.ref a/\IsD H1 a/\ty σ H1 λy H2=>tx σ H2 λz H3=>∃o,ED K H3 a y o/\Q (o.getD z) H3
section
variable {X:Cx}{o e f:Expr}{apos C5:Pos}{td ty tx:TE}
theorem JR (hu:X.A.units+1 < cLine)(ho:PE X o td)(he:PE X e ty)(hf:PE X f tx)(m:M2 X o "get" apos e f C5):PE X (.Call (.Attribute o "get" apos) [e,f] [] C5) (Q7 X.K td ty tx):=by
 intro CI s σ H Q I h
 refine oa m.base m.few m.line oz ix pw (DB (ho CI s σ H _ I h) ?_)
 rintro u s1 ⟨x,H1,I1,rx,a,ex,d,q1⟩
 subst ex
 obtain rfl:u=Value.ref a:=rx
 obtain⟨t1,t2,_⟩:=zq I1 d
 refine⟨t1,t2,?_⟩
 rw[m.trees]
 refine lj rfl (kG (f7 (DB (he CI s1 σ H1 _ I1 q1) λiv s2 ⟨y,H2,I2,ry,q2⟩=>
  f7 (DB (hf CI s2 σ H2 _ I2 q2) λfv s3 ⟨z,H3,I3,rz,ov,g,q3⟩=>i7 ?_))))
 exact Q6 hu I3 g ry rz λw' s4 I4 MI=>⟨_,H3,I4,MI,q3⟩
end
end L2
namespace HT
open PySem PyProof.Rows
noncomputable def lexLt:List Int->List Int->Bool
 | [],[]=>false
 | [],_::_=>true
 | _::_,[]=>false
 | x::xs,y::ys=>if x=y then lexLt xs ys else decide (x < y)
theorem D8 (x y:Int)(xs ys:rq):lexLt (x::xs) (y::ys)=if x=y then lexLt xs ys else decide (x < y):=rfl
theorem JS (A:Around)(s:Shared)(a:Int)(t:Tok)(c:Int)(u:Tok):∃e,SeqAt.EqAt A s (.int a t) (.int c u) e/\(e=true↔a=c):=
 ⟨(a == c),nI a t c u,by simp⟩
theorem JT (A:Around)(s:Shared)(a:Int)(t:Tok)(c:Int)(u:Tok)(prog:Program)(w:World)(E:dx)(Q:dx)(h:Q (.bool (decide (a < c))) s):
  wpAny (model prog w) A (richCompare .Lt (.int a t) (.int c u)) Q E s:=
 (PyProof.Rows.lt_int h:wpAny (model prog w) A (compareOp .Lt (.int a t) (.int c u)) Q E s)
section
variable {prog:Program}{w:World}{A:Around}{E:dx}{s:Shared}
noncomputable def D9 (n d:Nat):Option Int->Nat
 | none=>d
 | some v=>if v < 0 then (v+(n:Int)).toNat else min v.toNat n
theorem KS (n d:Nat):D9 n d none=d:=rfl
theorem EE (n d k:Nat):D9 n d (some (k:Int))=min k n:=by
 show (if (k:Int) < 0 then ((k:Int)+(n:Int)).toNat else min (k:Int).toNat n)=min k n
 rw[a7 (by omega),fF]
theorem WB (n d:Nat)(hd:d<=n)(o:Option Int):D9 n d o<=n:=by
 cases o with
 | none=>exact hd
 | some v=>
  show (if v < 0 then (v+(n:Int)).toNat else min v.toNat n)<=n
  by_cases hv:v < 0
  ·rw[be hv];omega
  ·rw[a7 hv];exact kM _ _
end
end HT
namespace L2
open PySem PySem.Spec PyProof.Rows
abbrev TO:=St->Hp->(Option Int->Hp->Prop)->Prop
def PO (X:Cx)(e:Option Expr)(t:TO):Prop:=
 ∀(CI:fN) (s:Shared) (σ:St) (H:Hp) (Q:Option Int->Hp->Prop),Inv X CI σ H s->t σ H Q->
  wpAny (model X.prog X.w) X.A (evalPart e X.env) (λu s'=>∃o H',Inv X CI σ H' s'/\IsPart u o/\Q o H') X.xe s
def Np:TO:=λ_ H Q=>Q none H
def U6 (t:TE):TO:=fun σ H Q=>t σ H λx H1=>∃i,x=.int i/\Q (some i) H1
theorem intsAre_of {ns:rq}:∀{us:mA},Vals (ns.map V.int) us->IntsAre us ns:=by
 induction ns with
 | nil=>intro us r;rw[ed] at r;cases r;exact .nil
 | cons n ns ih=>
  intro us r
  rw[ap] at r
  cases r with
  | cons r1 r2=>
   obtain⟨t,e⟩:=r1
   subst e
   exact .cons n t (ih r2)
variable {r r':V->Option Int->Option Int->Hp->VK->Prop}
section
variable {X:Cx}{e:Expr}{te:TE}{lo hi:Option Expr}{tl th:TO}{pos p2:Pos}
theorem Nq:PO X none Np:=by
 intro CI s σ H Q I h
 rw[evalPart_none]
 exact ai ⟨none,H,I,.none,h⟩
theorem Nr (h:PE X e te):PO X (some e) (U6 te):=by
 intro CI s σ H Q I hw
 rw[evalPart_some]
 refine DB (h CI s σ H _ I hw) ?_
 rintro u s1 ⟨x,H1,I1,r1,q1⟩
 obtain⟨i,rfl,q⟩:=q1
 obtain⟨t,rfl⟩:=r1
 exact⟨some i,H1,I1,.int i t,q⟩
def UC (X:Cx)(r:V->Option Int->Option Int->Hp->VK->Prop):Prop:=
 ∀(CI:fN) (s:Shared) (σ:St) (H:Hp) (x:V) (v vl vu:Value) (lo hi:Option Int) (sl:Addr) (Q:VK),Inv X CI σ H s->RelV x v->s.heap.IsSliceOf sl vl vu .none->IsPart vl lo->IsPart vu hi->r x lo hi H Q->
  ∃T id,typeLookup (.type T) "__getitem__" = pure (some (.builtin id))/\s.TypeIs v T/\wpAny (model X.prog X.w) X.A (getItem v (.ref sl)) (EP X CI σ Q) X.xe s
theorem UC.or (h:UC X r)(h':UC X r'):UC X (λx lo hi H Q=>r x lo hi H Q\/r' x lo hi H Q):=by
 intro CI s σ H x v vl vu lo hi sl Q I rx hs pl pu q
 rcases q with q | q
 ·exact h CI s σ H x v vl vu lo hi sl Q I rx hs pl pu q
 ·exact h' CI s σ H x v vl vu lo hi sl Q I rx hs pl pu q
def tSl (r:V->Option Int->Option Int->Hp->VK->Prop)(te:TE)(tl th:TO):TE:=fun σ H Q=>te σ H λx H1=>tl σ H1 λl H2=>th σ H2 λu H3=>r x l u H3 Q
theorem JV (hr:UC X r)(he:PE X e te)(hl:PO X lo tl)(hu:PO X hi th):PE X (.Subscript e (.Slice lo hi none p2) pos) (tSl r te tl th):=by
 intro CI s σ H Q I h
 refine Subscript_ (DB (he CI s σ H _ I h) ?_)
 rintro v s1 ⟨x,H1,I1,r1,q1⟩
 refine wpAny_Slice (DB (hl CI s1 σ H1 _ I1 q1) λvl s2 ⟨l,H2,I2,pl,q2⟩=>DB (hu CI s2 σ H2 _ I2 q2) ?_)
 rintro vu s3 ⟨u,H3,I3,pu,q3⟩
 rw[evalPart_none]
 refine ai ?_
 have I4:Inv X CI σ H3 { s3 with heap:=s3.heap.push { cls:=.type "slice",data:=.fields #[vl,vu,.none] } }:=I3.kept (t':=s3.toks) λb ob q=>ae _ q
 obtain⟨T,id,hT,ht,hg⟩:=hr CI { s3 with heap:=s3.heap.push { cls:=.type "slice",data:=.fields #[vl,vu,.none] } } σ H3 x v vl vu l u s3.heap.objs.size Q I4 r1 (Heap.IsSliceOf.new ..) pl pu q3
 show wpAny (model X.prog X.w) X.A (subscriptTail e (.Slice lo hi none p2) v (.ref s3.heap.objs.size)) (EP X CI σ Q) X.xe { s3 with heap:=s3.heap.push { cls:=.type "slice",data:=.fields #[vl,vu,.none] } }
 exact tail_any (ops:=[.ref s3.heap.objs.size,v]) ht hT hg (by with_unfolding_all rfl)
noncomputable def v8 (xs:List V)(lo hi:Option Int):List V:=(xs.drop (HT.D9 xs.length 0 lo)).take (HT.D9 xs.length xs.length hi - HT.D9 xs.length 0 lo)
theorem Ca (xs:List V)(lo hi:Option Int):(v8 xs lo hi).length<=xs.length:=by
 unfold v8
 rw[dv,fE]
 omega
end
noncomputable def Kk (n:Nat)(i:Int):Option Nat:=if 0<=i then (if i < n then some i.toNat else none) else if -(n:Int)<=i then some (i+n).toNat else none
noncomputable def DE {α:Type}(xs:List α)(i:Int):Option α:=(Kk xs.length i).bind λj=>xs[j]?
variable {n:Nat}
theorem v9 {i:Int}{j:Nat}(h:Kk n i=some j):seqIndex? i n=some j/\j < n/\-(n:Int)<=i/\i < n:=by
 unfold Kk at h
 by_cases h0:0<=i
 ·rw[be h0] at h
  by_cases h1:i < n
  ·rw[be h1] at h
   have e:i.toNat=j:=a9 h
   exact⟨by rw[seqIndex_of h0 h1,e],by omega,by omega,h1⟩
  ·rw[a7 h1] at h;cases h
 ·rw[a7 h0] at h
  by_cases h1:-(n:Int)<=i
  ·rw[be h1] at h
   have e:(i+n).toNat=j:=a9 h
   exact⟨by rw[seqIndex_neg (by omega) h1,e],by omega,h1,by omega⟩
  ·rw[a7 h1] at h;cases h
theorem v_ {α:Type}{xs:List α}{i:Int}{v:α}(h:DE xs i=some v):∃j,seqIndex? i xs.length=some j/\xs[j]?=some v/\j < xs.length/\-(xs.length:Int)<=i/\i < xs.length:=by
 unfold DE at h
 cases e:Kk xs.length i with
 | none=>rw[e] at h;cases h
 | some j=>
  rw[e] at h
  obtain⟨h1,h2,h3,h4⟩:=v9 e
  exact⟨j,h1,h,h2,h3,h4⟩
theorem JU {α:Type}{xs:List α}{j:Nat}{v:α}(h:xs[j]?=some v):DE xs (j:Int)=some v:=by
 have hj:j < xs.length:=(aw.mp h).1
 have e:Kk xs.length (j:Int)=some j:=by
  unfold Kk
  rw[be (by omega),be (by omega)];simp
 unfold DE;rw[e];exact h
def wg (b:Expr):Prop:=∀o i,subscripted b false o i=operate [o,i] (getItem o i)
def RY (X:Cx)(r:R2):Prop:=
 ∀(value slice:Expr) (CI:fN) (s:Shared) (σ:St) (H:Hp) (x y:V) (v u:Value) (Q:VK),Inv X CI σ H s->RelV x v->RelV y u->r x y H Q->
  subscripted slice false v u=operate [v,u] (getItem v u)->wpAny (model X.prog X.w) X.A (subscriptTail value slice v u) (EP X CI σ Q) X.xe s
def MtR (X:Cx)(id:String)(r:V->List V->Hp->VK->Prop):Prop:=
 ∀(CI:fN) (s:Shared) (σ:St) (H:Hp) (x:V) (xs:List V) (v:Value) (us:mA) (Q:VK),Inv X CI σ H s->RelV x v->Vals xs us->r x xs H Q->
  wpAny (model X.prog X.w) X.A (call (.builtin id) (v::us)) (EP X CI σ Q) X.xe s
variable {s:Shared}{CL:mA}
section
variable {X:Cx}{a b:Expr}{ta tb:TE}{pos:Pos}
theorem RY.or {r r':R2}(h:RY X r)(h':RY X r'):RY X (λx y H Q=>r x y H Q\/r' x y H Q):=by
 intro value slice CI s σ H x y v u Q I rx ry q hs
 rcases q with q | q
 ·exact h value slice CI s σ H x y v u Q I rx ry q hs
 ·exact h' value slice CI s σ H x y v u Q I rx ry q hs
theorem yI {r:R2}(hr:RY X r)(ha:PE X a ta)(hb:PE X b tb)(hs:wg b):PE X (.Subscript a b pos) (YS r ta tb):=by
 intro CI s σ H Q I h
 exact Subscript_ (JH ha hb I h λv u s2 x y H2 I2 rx ry q=>hr a b CI s2 σ H2 x y v u Q I2 rx ry q (hs _ _))
def JW (K:W.Frag):R2:=λx y H Q=>∃p xs i v,x=.ref p/\y=.int i/\DL K H p xs/\DE xs i=some v/\Q v H
def Q8 (K:W.Frag):R2:=λx y H Q=>∃p xs i v,x=.ref p/\y=.int i/\FI K H p xs/\DE xs i=some v/\Q v H
def Q9:R2:=λx y H Q=>∃z i c,x=.str z/\y=.int i/\z.length<=sizeLine/\DE z.cps.toList i=some c/\Q (.str ⟨#[c]⟩) H
theorem Mb:RY X (JW X.K):=by
 intro value slice CI s σ H x y v u Q I rx ry h hs
 obtain⟨p,xs,i,z,rfl,rfl,hq,he,q⟩:=h
 cases rx
 obtain⟨t,rfl⟩:=ry
 obtain⟨CL,r,pl,hz⟩:=I.list hq
 obtain⟨j,h1,h2,h3,h4,h5⟩:=v_ he
 obtain⟨w,ew,MI⟩:=r.get h2
 have hl:=r.length
 have hn:=qg
 have fin:EP X CI σ Q w s:=⟨z,H,I,MI,q⟩
 by_cases h0:0<=i
 ·have hj:i.toNat=j:=by
   rw[seqIndex_of h0 h5] at h1
   exact a9 h1
  exact item_listR pl.isList h0 (by omega) (by rw[hj];simpa using ew) fin hs
 ·have hj:(i+(CL.toArray.size:Int)).toNat=j:=by
   rw[seqIndex_neg (by omega) h4] at h1
   rw[a6,← hl]
   exact a9 h1
  exact subscriptTail_builtinR (x:=w) pl.isList.typeIs slot_list_getitem.lookup
   (wpAny_getItem_list_neg (Q:=λr s'=>r=w/\EP X CI σ Q r s') pl.isList (by omega) (by rw[a6] <;> omega) (by omega) (by rw[hj];simpa using ew) ⟨rfl,fin⟩) hs
theorem LN:RY X (Q8 X.K):=by
 intro value slice CI s σ H x y v u Q I rx ry h hs
 obtain⟨p,xs,i,z,rfl,rfl,hq,he,q⟩:=h
 cases rx
 obtain⟨t,rfl⟩:=ry
 obtain⟨CL,r,pl,hz⟩:=I.tuple hq
 obtain⟨j,h1,h2,h3,h4,h5⟩:=v_ he
 obtain⟨w,ew,MI⟩:=r.get h2
 have hl:=r.length
 have hn:=qg
 have fin:EP X CI σ Q w s:=⟨z,H,I,MI,q⟩
 exact subscriptTail_builtinR (x:=w) pl.typeIs slot_tuple_getitem.lookup
  (getItem_tuple (j:=j) (Q:=λr s'=>r=w/\EP X CI σ Q r s') pl (by omega) (by omega) (by rw[a6,← hl];exact h1) (by simpa using ew) ⟨rfl,fin⟩) hs
theorem Q_:RY X Q9:=by
 intro value slice CI s σ H x y v u Q I rx ry h hs
 obtain⟨z,i,c,rfl,rfl,hz,he,q⟩:=h
 obtain⟨t,rfl⟩:=rx
 obtain⟨t',rfl⟩:=ry
 obtain⟨j,h1,h2,h3,h4,h5⟩:=v_ he
 have hl:z.cps.toList.length=z.length:=by simp[Str.length]
 rw[hl] at h1 h4 h5
 have hn:=qg
 exact tail_any (typeIs_str s z t) slot_str_getitem.lookup (getItem_str (c:=c) (by
  have e1:decide (i < -(2 ^ 63:Int))=false:=ba (by omega)
  have e2:decide (i ≥ 2 ^ 63)=false:=ba (by omega)
  rw[e1,e2,Bool.or_false]) (by rw[h1];simpa using h2) ⟨.str ⟨#[c]⟩,H,I.tok _,⟨_,rfl⟩,q⟩) hs
def rIx (K:W.Frag):R2:=λx y H Q=>JW K x y H Q\/Q8 K x y H Q\/Q9 x y H Q
theorem Ra:RY X (rIx X.K):=Mb.or (LN.or Q_)
theorem Ep (CL:mA)(n j:Nat)(u:Value):Obj.mapSeq (·.setIfInBounds j u) { cls:=.type "list",data:=.seq CL.toArray n }={ cls:=.type "list",data:=.seq (CL.set j u).toArray n }:=by
 simp[Obj.mapSeq]
theorem Inv.lst {CI:fN}{σ:St}{H:Hp}{s:Shared}{p:Addr}{xs:List V}(I:Inv X CI σ H s)(h:H p=some (.lst xs)):
  ∃(CL:mA) (n:Nat),Vals xs CL/\s.heap.get? p=some { cls:=.type "list",data:=.seq CL.toArray n }/\xs.length<=sizeLine:=by
 obtain⟨z,CL,n,r,e⟩:=I.C8 p _ h
 exact⟨CL,n,r,e,z⟩
theorem Inv.WC {CI:fN}{σ:St}{H:Hp}{p:Addr}{xs ys:List V}{its':mA}{n':Nat}{f:Obj->Obj}(I:Inv X CI σ H s)(h:H p=some (.lst xs))
  (ho:s.heap.get? p=some { cls:=.type "list",data:=.seq CL.toArray n }) (hf:f { cls:=.type "list",data:=.seq CL.toArray n }={ cls:=.type "list",data:=.seq its'.toArray n' }) (r:Vals ys its') (hz:ys.length<=sizeLine) (t:Nat):
  Inv X CI σ (upd H p (.lst ys)) { s with heap:=s.heap.update p f,toks:=t }:=by
 have e:(s.heap.update p f).get? p=some { cls:=.type "list",data:=.seq its'.toArray n' }:=by
  rw[c5 f ho (by rw[hf] <;> rfl),hf]
 refine I.write (x:=p) (e:=p) (by rw[h];trivial) (.inl rfl) (λb u hb q=>(eg _ _ (gx hb)).trans q) ⟨_,e⟩ ?_
 exact⟨hz,its',n',r,e⟩
def U7:V->V->V->Hp->(Hp->Prop)->Prop:=λo i v H Q=>∃p xs k j,o=.ref p/\i=.int k/\H p=some (.lst xs)/\Kk xs.length k=some j/\Q (upd H p (.lst (xs.set j v)))
theorem set_list:QB X U7:=by
 intro CI s σ H o i v ov iv u Q I ro ri rv h
 obtain⟨p,xs,k,j,rfl,rfl,hp,hj,q⟩:=h
 cases ro
 obtain⟨t,rfl⟩:=ri
 obtain⟨CL,n,r,ho,hz⟩:=I.lst hp
 obtain⟨h1,h2,h3,h4⟩:=v9 hj
 have hl:=r.length
 have hn:=qg
 have I':Inv X CI σ (upd H p (.lst (xs.set j v))) { s with heap:=s.heap.update p (Obj.mapSeq (·.setIfInBounds j u)) }:=
  I.WC hp ho (Ep CL n j u) (r.set rv j) (by rw[c8];exact hz) s.toks
 by_cases h0:0<=k
 ·have hk:k.toNat=j:=by
   rw[seqIndex_of h0 h4] at h1
   exact a9 h1
  exact W.ki_setAt ho h0 (by omega) (by rw[a6,← hl];exact h4) (by rw[hk];exact⟨_,I',q⟩)
 ·have hk:(k+(CL.toArray.size:Int)).toNat=j:=by
   rw[seqIndex_neg (by omega) h3] at h1
   rw[a6,← hl]
   exact a9 h1
  exact W.ki_setBack ho (by omega) (by rw[a6,← hl];exact h3) (by omega) (by rw[hk];exact⟨_,I',q⟩)
theorem zr (i:Int)(d n:Nat):max 0 (min (if i < 0 then i+(n:Int) else i) (n:Int))=((HT.D9 n d (some i):Nat):Int):=by
 unfold HT.D9
 by_cases h:i < 0
 ·simp only[h,kA] <;> omega
 ·simp only[h,ib] <;> omega
theorem zu (lo hi:Option Int)(n:Nat):(sliceBounds lo hi none n).1=((HT.D9 n 0 lo:Nat):Int)/\(sliceBounds lo hi none n).2.1=((HT.D9 n n hi:Nat):Int)/\(sliceBounds lo hi none n).2.2=1:=by
 refine⟨?_,?_,rfl⟩
 ·cases lo with
  | none=>simp[sliceBounds,HT.D9]
  | some i=>exact zr i 0 n
 ·cases hi with
  | none=>simp[sliceBounds,HT.D9]
  | some i=>exact zr i n n
theorem yo (CL:mA)(lo hi:Option Int):slicePick CL.toArray lo hi none=((CL.drop (HT.D9 CL.length 0 lo)).take (HT.D9 CL.length CL.length hi - HT.D9 CL.length 0 lo)).toArray:=by
 obtain⟨h1,h2,h3⟩:=zu lo hi CL.toArray.size
 unfold slicePick
 rw[h1,h2,h3]
 simp only[sliceRange_one,pick_run,a6] <;> rfl
def Rb (K:W.Frag):V->Option Int->Option Int->Hp->VK->Prop:=λx lo hi H Q=>∃a xs,x=.ref a/\DL K H a xs/\∀p,H p=none->Q (.ref p) (upd H p (.lst (v8 xs lo hi)))
theorem Sa:UC X (Rb X.K):=by
 intro CI s σ H x v vl vu lo hi sl Q I rx hs pl pu h
 obtain⟨a,xs,rfl,hx,q⟩:=h
 cases rx
 obtain⟨CL,r,ht,hz⟩:=I.list hx
 have hlen:=r.length
 refine⟨"list",_,slot_list_getitem.lookup,ht.isList.typeIs,?_⟩
 refine wpAny_getItem_list_slice ht.isList hs pl pu .none (by simp) ?_ (by rw[a6] <;> omega)
 rw[yo,← hlen]
 refine⟨.ref s.heap.objs.size,_,I.laid (t':=s.toks) (o:=.lst (v8 xs lo hi)) (λb ob q=>ae _ q) (aT _) ?_,rfl,q _ (I.C8.fresh (aT _))⟩
 exact⟨gi (Ca xs lo hi) hz,_,0,(r.drop (HT.D9 xs.length 0 lo)).take (HT.D9 xs.length xs.length hi - HT.D9 xs.length 0 lo),am _ rfl⟩
noncomputable def jy:V->Bool
 | .CY=>true
 | .bl _=>true
 | .int _=>true
 | .str _=>true
 | _=>false
noncomputable def Sb:V->V->Bool
 | .CY,.CY=>true
 | .bl a,.bl b=>a == b
 | .bl a,.int b=>(if a then 1 else 0) == b
 | .int a,.bl b=>a == (if b then 1 else 0)
 | .int a,.int b=>a == b
 | .str a,.str b=>a == b
 | _,_=>false
theorem Rc {A:Around}{y x:V}{u v:Value}(ry:RelV y u)(rx:RelV x v)(fy:jy y=true)(fx:jy x=true):SeqAt.EqAt A s u v (Sb y x):=by
 cases y with
 | CY=>
  cases ry
  cases x with
  | CY=>cases rx;exact SeqAt.EqAt.same _
  | bl b=>cases rx;exact SeqAt.EqAt.none_bool b
  | int b=>obtain⟨t,rfl⟩:=rx;exact SeqAt.EqAt.none_int b t
  | str b=>obtain⟨t,rfl⟩:=rx;exact SeqAt.EqAt.none_str b t
  | _=>exact absurd (show false=true from fx) bi
 | bl a=>
  cases ry
  cases x with
  | CY=>cases rx;exact SeqAt.EqAt.bool_none a
  | bl b=>cases rx;exact SeqAt.EqAt.bool_bool a b
  | int b=>obtain⟨t,rfl⟩:=rx;exact SeqAt.EqAt.bool_int a b t
  | str b=>obtain⟨t,rfl⟩:=rx;exact SeqAt.EqAt.bool_str a b t
  | _=>exact absurd (show false=true from fx) bi
 | int a=>
  obtain⟨t',rfl⟩:=ry
  cases x with
  | CY=>cases rx;exact SeqAt.EqAt.int_none a t'
  | bl b=>cases rx;exact SeqAt.EqAt.int_bool a t' b
  | int b=>obtain⟨t,rfl⟩:=rx;exact nI a t' b t
  | str b=>obtain⟨t,rfl⟩:=rx;exact nv a t' b t
  | _=>exact absurd (show false=true from fx) bi
 | str a=>
  obtain⟨t',rfl⟩:=ry
  cases x with
  | CY=>cases rx;exact SeqAt.EqAt.str_none a t'
  | bl b=>cases rx;exact SeqAt.EqAt.str_bool a t' b
  | int b=>obtain⟨t,rfl⟩:=rx;exact ny a t' b t
  | str b=>obtain⟨t,rfl⟩:=rx;exact SeqAt.EqAt.str_str a t' b t
  | _=>exact absurd (show false=true from fx) bi
 | _=>exact absurd (show false=true from fy) bi
noncomputable def LO (x:V)(u:Value):Bool:=match u with
 | .none=>Sb .CY x
 | .bool b=>Sb (.bl b) x
 | .int i _=>Sb (.int i) x
 | .str z _=>Sb (.str z) x
 | _=>false
theorem G4 {x y:V}{u:Value}(r:RelV y u)(f:jy y=true):LO x u=Sb y x:=by
 cases y with
 | CY=>cases r;rfl
 | bl b=>cases r;rfl
 | int i=>obtain⟨t,rfl⟩:=r;rfl
 | str z=>obtain⟨t,rfl⟩:=r;rfl
 | _=>exact absurd (show false=true from f) bi
theorem qi {x:V}:∀{xs:List V}{us:mA},Vals xs us->xs.all jy=true->us.any (LO x)=xs.any λy=>Sb y x
 | _,_,.nil,_=>rfl
 | y::xs,u::us,.cons r t,f=>by
  rw[ij,bp] at f
  rw[fA,fA,G4 r f.1,qi t f.2]
theorem nF {A:Around}{s:Shared}{x:V}{v:Value}(rx:RelV x v)(fx:jy x=true):∀{xs:List V}{us:mA},Vals xs us->xs.all jy=true->∀u∈us,SeqAt.EqAt A s u v (LO x u)
 | _,_,.nil,_=>λu hu=>by cases hu
 | y::xs,u::us,.cons r t,f=>λu' hu=>by
  rw[ij,bp] at f
  rcases av.mp hu with rfl | hu
  ·rw[G4 r f.1];exact Rc r rx f.1 fx
  ·exact nF rx fx t f.2 u' hu
noncomputable def YW (x:V)(xs:List V):Bool:=xs.any λy=>Sb y x
def rIn (K:W.Frag)(neg:Bool):R2:=λx y H Q=>∃p xs,y=.ref p/\(DL K H p xs\/FI K H p xs)/\jy x=true/\xs.all jy=true/\Q (.bl (if neg then !YW x xs else YW x xs)) H
theorem G5:D5 X (compareOp .In) (rIn X.K false):=by
 intro CI s σ H x y v u Q I rx ry h
 obtain⟨p,xs,rfl,hq,fx,fs,q⟩:=h
 cases ry
 rcases hq with hq | hq
 ·obtain⟨CL,r,pl,hz⟩:=I.list hq
  refine SeqAt.in_listAt (LO x) pl.isList (λw hw=>nF rx fx r fs w (by simpa using hw)) ⟨.bl _,H,I,rfl,?_⟩
  rw[show CL.toArray.any (LO x)=CL.any (LO x) by simp,qi r fs]
  exact q
 ·obtain⟨CL,r,pl,hz⟩:=I.tuple hq
  refine SeqAt.in_tupleAt (LO x) pl (λw hw=>nF rx fx r fs w (by simpa using hw)) ⟨.bl _,H,I,rfl,?_⟩
  rw[show CL.toArray.any (LO x)=CL.any (LO x) by simp,qi r fs]
  exact q
theorem zx:D5 X (compareOp .NotIn) (rIn X.K true):=by
 intro CI s σ H x y v u Q I rx ry h
 obtain⟨p,xs,rfl,hq,fx,fs,q⟩:=h
 cases ry
 rcases hq with hq | hq
 ·obtain⟨CL,r,pl,hz⟩:=I.list hq
  refine SeqAt.notIn_listAt (LO x) pl.isList (λw hw=>nF rx fx r fs w (by simpa using hw)) ⟨.bl _,H,I,rfl,?_⟩
  rw[show CL.toArray.any (LO x)=CL.any (LO x) by simp,qi r fs]
  exact q
 ·obtain⟨CL,r,pl,hz⟩:=I.tuple hq
  refine SeqAt.notIn_tupleAt (LO x) pl (λw hw=>nF rx fx r fs w (by simpa using hw)) ⟨.bl _,H,I,rfl,?_⟩
  rw[show CL.toArray.any (LO x)=CL.any (LO x) by simp,qi r fs]
  exact q
theorem zy:D5 X (compareOp .NotIn) (λx y H Q=>∃i j,x=.str i/\y=.str j/\Q (.bl (!(!(Builtin.Str.occurrences j i 0 j.length 1).isEmpty))) H):=by
 intro CI s σ H x y v u Q I rx ry h
 obtain⟨i,j,rfl,rfl,q⟩:=h
 obtain⟨t,rfl⟩:=rx
 obtain⟨t',rfl⟩:=ry
 exact notIn_str ⟨.bl _,H,I,rfl,q⟩
theorem zz:DU X (.builtin "len") (λxs H Q=>∃p ys,xs=[.ref p]/\(DL X.K H p ys\/FI X.K H p ys)/\Q (.int ys.length) H):=by
 intro CI s σ H xs us Q I r h
 obtain⟨p,ys,rfl,hq,q⟩:=h
 obtain⟨u,rfl,rx⟩:=vals1 r
 cases rx
 have hn:=qg
 rcases hq with hq | hq
 ·obtain⟨CL,r',pl,hz⟩:=I.list hq
  have hlen:=r'.length
  exact Calls.call_len_list pl.isList (by simp only[a6] <;> omega) ⟨.int ys.length,H,I.tok _,⟨s.toks+1,by rw[a6,hlen]⟩,q⟩
 ·obtain⟨CL,r',pl,hz⟩:=I.tuple hq
  have hlen:=r'.length
  exact len_tuple pl (by simp only[a6] <;> omega) ⟨.int ys.length,H,I.tok _,⟨s.toks+1,by rw[a6,hlen]⟩,q⟩
theorem zA:DU X (.builtin "len") (λxs H Q=>∃z,xs=[.str z]/\z.length<=sizeLine/\Q (.int z.length) H):=by
 intro CI s σ H xs us Q I r h
 obtain⟨z,rfl,hz,q⟩:=h
 obtain⟨u,rfl,t,rfl⟩:=vals1 r
 have hn:=qg
 exact len_str (by omega) ⟨.int z.length,H,I.tok _,⟨_,rfl⟩,q⟩
theorem DU.or {f:Value}{r r':List V->Hp->VK->Prop}(h:DU X f r)(h':DU X f r'):DU X f (λxs H Q=>r xs H Q\/r' xs H Q):=by
 intro CI s σ H xs us Q I rs q
 rcases q with q | q
 ·exact h CI s σ H xs us Q I rs q
 ·exact h' CI s σ H xs us Q I rs q
theorem zB:DU X (.type "list") (λxs H Q=>∃p ys,xs=[.ref p]/\(DL X.K H p ys\/FI X.K H p ys)/\∀l,H l=none->Q (.ref l) (upd H l (.lst ys))):=by
 intro CI s σ H xs us Q I r h
 obtain⟨p,ys,rfl,hq,q⟩:=h
 obtain⟨u,rfl,rx⟩:=vals1 r
 cases rx
 have fin:∀(CL:mA),Vals ys CL->ys.length<=sizeLine->∀(h':Heap) (c':Nat),(∀b o',s.heap.get? b=some o'->h'.get? b=some o')->
   h'.get? s.heap.objs.size=some { cls:=.type "list",dict:=none,data:=.seq CL.toArray c',slots:=#[] }->EP X CI σ Q (.ref s.heap.objs.size) { s with heap:=h' }:=λCL r' hz h' c' kp e=>
  ⟨.ref s.heap.objs.size,_,I.laid (t':=s.toks) kp (aT _) (show Dx X.prog X.w X.K _ h' _ (.lst ys) from ⟨hz,CL,c',r',e⟩),rfl,q _ (I.C8.fresh (aT _))⟩
 rcases hq with hq | hq
 ·obtain⟨CL,r',pl,hz⟩:=I.list hq
  have hlen:=r'.length
  obtain⟨o,ho,hc,n,hd⟩:=pl.isList
  exact call_list_seq p (.inl rfl) ho hc hd (λh' c' kp e=>fin CL r' hz h' c' kp e) (by simp only[a6] <;> omega)
 ·obtain⟨CL,r',pl,hz⟩:=I.tuple hq
  have hlen:=r'.length
  obtain⟨o,ho,hc,n,hd⟩:=pl
  exact call_list_seq p (.inr rfl) ho hc hd (λh' c' kp e=>fin CL r' hz h' c' kp e) (by simp only[a6] <;> omega)
theorem yp:DU X (.type "tuple") (λxs H Q=>∃p ys,xs=[.ref p]/\((DL X.K H p ys/\∀l,H l=none->Q (.ref l) (upd H l (.tup ys)))\/(FI X.K H p ys/\Q (.ref p) H))):=by
 intro CI s σ H xs us Q I r h
 obtain⟨p,ys,rfl,h⟩:=h
 obtain⟨u,rfl,rx⟩:=vals1 r
 cases rx
 rcases h with ⟨hq,q⟩ | ⟨hq,q⟩
 ·obtain⟨CL,r',pl,hz⟩:=I.list hq
  have hlen:=r'.length
  refine call_tuple_list pl.isList (λh' kp=>?_) (by simp only[a6] <;> omega)
  have I1:Inv X CI σ H { s with heap:=h' }:=I.kept (t':=s.toks) kp
  have I2:Inv X CI σ (upd H h'.objs.size (.tup ys)) { s with heap:=h'.push { cls:=.type "tuple",data:=.seq CL.toArray } }:=
   I1.laid (t':=s.toks) (λb o e=>ae _ e) (aT _) (show Dx X.prog X.w X.K _ _ _ (.tup ys) from ⟨hz,CL,r',IsTup.new _ _⟩)
  exact⟨.ref h'.objs.size,_,I2,rfl,q _ (I1.C8.fresh (aT _))⟩
 ·obtain⟨CL,r',pl,hz⟩:=I.tuple hq
  exact call_tuple_same pl ⟨.ref p,H,I,rfl,q⟩
def tyV (K:W.Frag)(T:String)(x:V)(H:Hp):Prop:=match x with
 | .str _=>T = "str"
 | .int _=>T = "int"
 | .ref p=>(T = "list" /\ ∃xs,DL K H p xs)\/(T = "tuple" /\ ∃o,K.lookup p=some o/\o.cls=.type "tuple" /\ o.dict=none) \/
   (T = "dict" /\ ((∃kvs,H p=some (.dK kvs))\/∃kvs,H p=some (.dT kvs)))\/(T = "set" /\ ∃S n,H p=some (.set S n))
 | _=>False
theorem Rf {CI:fN}{σ:St}{H:Hp}{T:String}{x:V}{v:Value}(I:Inv X CI σ H s)(r:RelV x v)(ty:tyV X.K T x H):
  s.TypeIs v T/\∀a,v=.ref a->∃ob,s.heap.get? a=some ob/\ob.dict=none:=by
 cases x with
 | str z=>
  obtain⟨t,rfl⟩:=r
  cases (show T = "str" from ty)
  exact⟨typeIs_str s z t,λ_ e=>nomatch e⟩
 | int i=>
  obtain⟨t,rfl⟩:=r
  cases (show T = "int" from ty)
  exact⟨typeIs_int s i t,λ_ e=>nomatch e⟩
 | ref p=>
  cases r
  rcases ty with ⟨rfl,xs,hq⟩ | ⟨rfl,o,hk,hc,hd⟩ | ⟨rfl,hk⟩ | ⟨rfl,S,n,hk⟩
  ·obtain⟨CL,_,pl,_⟩:=I.list hq
   refine⟨pl.isList.typeIs,λa e=>?_⟩
   cases e
   obtain⟨o,n,e,c,hd,_⟩:=pl
   exact⟨o,e,hd⟩
  ·refine⟨⟨o,I.EZ p o hk,hc⟩,λa e=>?_⟩
   cases e
   exact⟨o,I.EZ _ o hk,hd⟩
  ·have z:∃o,s.heap.get? p=some o/\o.ExactDict:=by
    rcases hk with ⟨kvs,hk⟩ | ⟨kvs,hk⟩
    ·obtain⟨_,_,_,_,o,_,_,e,ex,_⟩:=I.C8 p _ hk
     exact⟨o,e,ex⟩
    ·obtain⟨_,_,_,_,o,_,_,e,ex,_⟩:=I.C8 p _ hk
     exact⟨o,e,ex⟩
   obtain⟨o,e,ex⟩:=z
   refine⟨⟨o,e,ex.1⟩,λa e2=>?_⟩
   cases e2
   exact⟨o,e,ex.2.1⟩
  ·obtain⟨o,_,_,_,e,ex,_⟩:=I.C8 p _ hk
   refine⟨⟨o,e,ex.1⟩,λa e2=>?_⟩
   cases e2
   exact⟨o,e,ex.2.1⟩
 | _=>exact False.elim ty
def tBM (K:W.Frag)(T:String)(r:V->List V->Hp->VK->Prop)(to:TE)(t:TA):TE:=fun σ H Q=>to σ H λx H1=>tyV K T x H1/\t σ H1 λxs H2=>r x xs H2 Q
variable {o e:Expr}{es:rl}{to:TE}{t:TA}{name:Str}{apos C5:Pos}{T id:String}{r:V->List V->Hp->VK->Prop}
theorem qM (pa:PlainAttrs T)(slot:Slot T name id)(hty:typeOf (.builtin id)=pure (.type "method_descriptor"))(hm:MtR X id r)(ho:PE X o to)(ha:PA X (e::es) t)
  (EI:attributeBase o name X.env (eval o X.env)=eval o X.env:=by rfl)
  (Iq:((backTo C5 (starEach (e::es) X.env)).all (λx=>!x.1)&&(backToKw C5 (keywordEach [] X.env)).all (λx=>x.1.isSome)
   && decide ((e::es).length+([]:List Keyword).length+(if ([]:List Keyword).isEmpty then 0 else 1) < 30))=true:=by rfl)
  (EJ:(apos.endLine == C5.line)=true:=by rfl) (hs:starEach (e::es) X.env=(false,eval e X.env)::starEach es X.env:=by rfl) (WE:(backTo C5 (starEach es X.env)).any (·.1)=false:=by rfl):
  PE X (.Call (.Attribute o name apos) (e::es) [] C5) (tBM X.K T r to t):=by
 intro CI s σ H Q I h
 refine wpAny_Call_method_late EI Iq EJ rfl (DB (ho CI s σ H _ I h) ?_)
 rintro v s1 ⟨x,H1,I1,r1,ty,q1⟩
 obtain⟨h1,h2⟩:=Rf I1 r1 ty
 refine⟨T,id,pa,slot,hty,h1,h2,?_⟩
 have hA:=ha C5 CI s1 σ H1 _ I1 q1
 rw[hs] at hA ⊢
 refine lj (by show (false||(backTo C5 (starEach es X.env)).any (·.1))=false;rw[WE] <;> rfl) (kG ?_)
 exact DB hA λus s2 ⟨vs,H2,I2,r2,q2⟩=>hm CI s2 σ H2 x vs v us Q I2 r1 r2 q2
end
def MtM (X:Cx)(id:String)(r:V->List V->Hp->VK->Prop):Prop:=
 ∀(CI:fN) (s:Shared) (σ:St) (H:Hp) (x:V) (xs:List V) (v:Value) (us:mA) (Q:VK),Inv X CI σ H s->RelV x v->Vals xs us->r x xs H Q->
  wpAny (model X.prog X.w) X.A (call (.builtin id) (v::us)) (EP X CI σ Q) X.xe s
theorem Vals.one {x:V}{us:mA}(h:Vals [x] us):∃u,us=[u]/\RelV x u:=by
 cases h with
 | cons r t=>cases t;exact⟨_,rfl,r⟩
theorem Vals.reverse {xs:List V}{us:mA}(h:Vals xs us):Vals xs.reverse us.reverse:=by
 induction h with
 | nil=>exact .nil
 | cons r t ih=>rw[ll,ll];exact Vals.append ih (.cons r .nil)
theorem Vals.rep {xs:List V}{us:mA}(h:Vals xs us):∀k:Nat,Vals (List.replicate k xs).flatten (List.replicate k us).flatten
 | 0=>.nil
 | k+1=>by
  rw[eA,eA,gp,gp]
  exact Vals.append h (Vals.rep h k)
theorem foldl_rep (CL:mA):∀(k:Nat) (acc:mA),
  List.foldl (λx1 x2=>x1++x2) acc.toArray (List.replicate k CL.toArray)=(acc++(List.replicate k CL).flatten).toArray
 | 0,acc=>by simp
 | k+1,acc=>by
  have e:acc.toArray++CL.toArray=(acc++CL).toArray:=by simp
  have e2:(acc++CL)++(List.replicate k CL).flatten=acc++(List.replicate (k+1) CL).flatten:=by
   rw[eA,gp,ei]
  rw[← e2,← foldl_rep CL k (acc++CL),← e,eA,List.foldl_cons]
variable {f:Array Value->Array Value}
section
variable {X:Cx}{CI:fN}{σ:St}{H:Hp}{s:Shared}{l b:Addr}{xs ys zs:List V}
theorem Inv.YX {its':mA}{t':Nat}(I:Inv X CI σ H s)(hH:H l=some (.lst xs))
  (e:s.heap.get? l=some { cls:=.type "list",data:=.seq CL.toArray n }) (hf:f CL.toArray=its'.toArray) (hv:Vals ys its') (hz:ys.length<=sizeLine):
  Inv X CI σ (upd H l (.lst ys)) { s with heap:=s.heap.update l (Obj.mapSeq f),toks:=t' }:=by
 have q:=PySem.IsL.update e f
 rw[hf] at q
 refine I.write (x:=l) (e:=l) (by rw[hH];exact trivial) (.inl rfl) (λb' u hb hu=>(eg s.heap (Obj.mapSeq f) (gx hb)).trans hu) ⟨_,q⟩ ?_
 exact⟨hz,its',_,hv,q⟩
theorem Inv.YY {t':Nat}(I:Inv X CI σ H s)(hv:Vals ys CL)(hz:ys.length<=sizeLine):
  Inv X CI σ (upd H s.heap.objs.size (.lst ys)) { s with heap:=s.heap.push { cls:=.type "list",data:=.seq CL.toArray },toks:=t' }:=
 I.laid (λ_ _ q=>ae _ q) (aT _) ⟨hz,CL,0,hv,am _ rfl⟩
theorem Inv.fresh (I:Inv X CI σ H s):H s.heap.objs.size=none:=I.C8.fresh (aT _)
theorem Inv.ML (I:Inv X CI σ H s)(hH:H l=some (.lst xs)):xs.length<=sizeLine/\∃(CL:mA) (n:Nat),Vals xs CL/\xs.length=CL.length/\s.heap.get? l=some { cls:=.type "list",data:=.seq CL.toArray n }:=by
 obtain⟨z,CL,n,r,e⟩:=I.C8 l _ hH
 exact⟨z,CL,n,r,r.length,e⟩
theorem zE (h:n<=sizeLine):Builtin.List.listTooLong n=false:=by
 unfold Builtin.List.listTooLong
 exact ba (by omega)
end
section
variable {X:Cx}
def Nt:V->List V->Hp->VK->Prop:=λx vs H Q=>∃l xs y,x=.ref l/\vs=[y]/\H l=some (.lst xs)/\xs.length < sizeLine/\Q .CY (upd H l (.lst (xs++[y])))
theorem jY:MtM X "list.append" Nt:=by
 intro CI s σ H x vs v us Q I rx rv h
 obtain⟨l,xs,y,rfl,rfl,hH,hz,q⟩:=h
 cases rx
 obtain⟨u,rfl,ru⟩:=rv.one
 obtain⟨z,CL,n,r,hl,e⟩:=I.ML hH
 refine oP F.slot_list_append ⟨_,e,rfl⟩ F.entry_list_append (F.args_list_append_2 _ _) (PySem.list_append l CL.toArray n u (by rw[a6];omega)) ⟨e,?_⟩
 refine⟨.CY,_,I.YX (its':=CL++[u]) hH e (by simp) (r.append (.cons ru .nil)) ?_,rfl,q⟩
 rw[aS,cw]
 omega
def Nu:V->List V->Hp->VK->Prop:=λx vs H Q=>∃l b xs zs,x=.ref l/\vs=[.ref b]/\H l=some (.lst xs)/\H b=some (.lst zs)/\xs.length+zs.length<=sizeLine/\Q .CY (upd H l (.lst (xs++zs)))
theorem G6:MtM X "list.extend" Nu:=by
 intro CI s σ H x vs v us Q I rx rv h
 obtain⟨l,b,xs,zs,rfl,rfl,hH,hB,hz,q⟩:=h
 cases rx
 obtain⟨u,rfl,ru⟩:=rv.one
 cases ru
 obtain⟨z,CL,n,r,hl,e⟩:=I.ML hH
 obtain⟨z2,D7,n2,r2,HE,e2⟩:=I.ML hB
 have hsz:CL.toArray.size+D7.toArray.size<=sizeLine:=by rw[a6,a6];omega
 have Of:¬ (!CL.toArray.isEmpty&&Builtin.List.listTooLong (CL.toArray.size+D7.toArray.size))=true:=by
  rw[zE hsz,lm]
  exact bi
 refine oP F.slot_list_extend ⟨_,e,rfl⟩ F.entry_list_extend (F.args_list_extend_2 _ _)
  (AutoSeq1.list_extend_list_list_0 l CL.toArray n b D7.toArray n2 Of (by rw[a6];omega) (by omega)) ⟨e,e2,?_⟩
 refine⟨.CY,_,I.YX (its':=CL++D7) hH e (by simp) (r.append r2) ?_,rfl,q⟩
 rw[aS]
 omega
def JX:R2:=λx y H Q=>∃l b xs zs,x=.ref l/\y=.ref b/\H l=some (.lst xs)/\H b=some (.lst zs)/\xs.length+zs.length<=sizeLine/\∀p,H p=none->Q (.ref p) (upd H p (.lst (xs++zs)))
theorem G7:D5 X (binaryOp .Add) JX:=by
 intro CI s σ H x y v u Q I rx ry h
 obtain⟨l,b,xs,zs,rfl,rfl,hH,hB,hz,q⟩:=h
 cases rx
 cases ry
 obtain⟨z,CL,n,r,hl,e⟩:=I.ML hH
 obtain⟨z2,D7,n2,r2,HE,e2⟩:=I.ML hB
 refine PySem.P.add_list e e2 ?_ (by rw[a6,a6];omega)
 have ea:CL.toArray++D7.toArray=(CL++D7).toArray:=by simp
 rw[ea]
 exact⟨.ref _,_,I.YY (t':=s.toks) (r.append r2) (by rw[aS];omega),rfl,q _ I.fresh⟩
def Rg:R2:=λx y H Q=>∃l k xs,x=.ref l/\y=.int k/\H l=some (.lst xs)/\-(2 ^ 63)<=k/\k < 2 ^ 63/\xs.length*k.toNat<=sizeLine /\
 ∀p,H p=none->Q (.ref p) (upd H p (.lst (List.replicate k.toNat xs).flatten))
theorem len_rep {α:Type}(xs:List α)(k:Nat):(List.replicate k xs).flatten.length=k*xs.length:=by
 induction k with
 | zero=>simp
 | succ k ih=>rw[eA,gp,aS,ih,Nat.succ_mul,Nat.add_comm]
theorem Rh:D5 X (binaryOp .Mult) Rg:=by
 intro CI s σ H x y v u Q I rx ry h
 obtain⟨l,k,xs,rfl,rfl,hH,h1,h2,hz,q⟩:=h
 cases rx
 obtain⟨t,rfl⟩:=ry
 obtain⟨z,CL,n,r,hl,e⟩:=I.ML hH
 have hlen:CL.toArray.size*k.toNat<=sizeLine:=by rw[a6,← hl];exact hz
 have hcap:¬ CL.toArray.size*k.toNat > (2 ^ 63 - 1) / 8:=by
  have:(sizeLine:Nat)<=(2 ^ 63 - 1) / 8:=by decide
  omega
 have GI:¬ (!Builtin.List.listFitsIndex k)=true:=by
  rw[fitsIndex_both h1 h2]
  exact bi
 have Of:¬ Builtin.List.listTooLong (CL.toArray.size*k.toNat)=true:=by
  rw[zE hlen]
  exact bi
 have Se:List.foldl (λx1 x2=>x1++x2) #[] (List.replicate (if CL.toArray.isEmpty=true then 0 else k.toNat) CL.toArray)=(List.replicate k.toNat CL).flatten.toArray:=by
  have f0:∀m:Nat,List.foldl (λx1 x2=>x1++x2) #[] (List.replicate m CL.toArray)=(List.replicate m CL).flatten.toArray:=λm=>by
   have:=foldl_rep CL m []
   rw[hV] at this
   exact this
  rw[f0]
  cases CL with
  | nil=>simp
  | cons a r'=>rw[a7 (by simp)]
 refine wpAny_binaryOp_repeat_ref (T := "list") (U := "int") (by decide) ⟨_,e,rfl⟩ (λs'=>typeIs_int s' k t) noFill_list_mul F.fills_int_mul F.slot_int_rmul repeat_list F.slot_int_index.lookup
  (oP F.slot_int_rmul (typeIs_int s k t) F.entry_int_rmul (F.args_int_rmul_2 _ _) (int___rmul___int_list k t l CL.toArray n)
   ⟨e,rfl,⟨_,e,rfl⟩,oP F.slot_list_mul ⟨_,e,rfl⟩ F.entry_list_mul (F.args_list_mul_2 _ _) (AutoListH.list___mul___list_int_3 l CL.toArray n k t GI hcap Of) ⟨e,?_⟩⟩)
 rw[Se]
 exact⟨.ref _,_,I.YY (t':=s.toks) (r.rep k.toNat) (by rw[len_rep,Nat.mul_comm];exact hz),rfl,q _ I.fresh⟩
end
end L2
namespace Att
open PySem PySem.W PySem.Calls PyProof.Rows
variable {P:Params}
theorem vf {h:Heap}:∀(ns:rq) (vs:mA),WellAll P h vs (ns.map WData.int)->IntsAre vs ns:=by
 intro ns
 induction ns with
 | nil=>
  intro vs w
  rw[ed] at w
  cases w
  exact .nil
 | cons n ns ih=>
  intro vs w
  rw[ap] at w
  cases w with
  | cons a b=>
   cases a
   exact .cons _ _ (ih _ b)
variable {l:OpenLaw}
theorem G8 {n:Nat}(hn:l.most=some n){h:Heap}{args:List WData}{vals:mA}
  (Sf:l.row.toRowW.claim.pre args=true) (Si:WellAll P h vals args):
  ∃a vs ns,vals=[Value.ref a]/\args=[WData.list (ns.map WData.int)]/\h.get? a=some { cls:=.type "list",data:=.seq vs.toArray }/\IntsAre vs ns/\ns.length<=n:=by
 have WG:WShape.hasAll [] args [.list .int]=true:=(pre_splitW Sf).1
 have hc:l.pre.holds [] { args:=args }=true:=(pre_splitW Sf).2
 obtain⟨d,r,rfl,h1,h2⟩:=hasAllW_cons WG
 obtain rfl:=hasAllW_nil h2
 obtain⟨xs,rfl,h3⟩:=hasW_list h1
 obtain⟨ns,rfl⟩:=items_int h3
 have hlen:ns.length<=n:=by
  unfold OpenLaw.pre at hc
  have h4:(WTm.not (.lt (.lit (.int (n:Int))) (.len (.arg 0)))).holds [] { args:=[.list (ns.map .int)] }=true:=by
   have h4:=(holds_andW hc).1
   rw[hn] at h4
   exact h4
  have h5:=condW_of h4 (w_not (w_lt w_lit (w_len_list (w_arg rfl))))
  rw[af] at h5
  refine Nat.le_of_not_lt λq=>?_
  have q':(n:Int) < ((ns.length:Nat):Int):=by omega
  first
   | (rw[bP q'] at h5;exact absurd h5 (by decide))
   | (simp at h5;omega)
 cases Si with
 | cons w1 w2=>
  cases w2
  cases w1 with
  | list ho FL=>exact⟨_,_,ns,rfl,rfl,ho,vf ns _ FL,hlen⟩
theorem G9 (l:OpenLaw)(args:List WData):l.row.toRowW.claim.post args (.bool true) args=true:=
 postW_of (r:=l.row.toRowW) (X:=(true == true))
  (show WShape.has [] (.bool true) .bool=true by first | rfl | decide | simp[WShape.has,WShape.arms,WShape.armsAll])
  (show (WTm.eq .res (.lit (.bool true))).value [] { args:=args,res:=some (.bool true),after:=args }=some (.bool (true == true)) from w_eq_bool (w_res rfl) w_lit) rfl
variable {XP:(Str->Option Value)->Heap->Prop}{YP:World->Heap->Prop}
theorem KU {n:Nat}{q:Program}{loose:rp}{d:DefRec}
  (hn:l.most=some n) (UD:d.params.defaults=[])
  (call:∀(w:World) (s₀ s₁:Shared) (mg mb:Str->Option Value) (fa:Addr) (o:Obj) (pm cd doc:Value) (a:Addr) (vs:mA) (ns:rq),
   Ground q loose [] XP w s₀ mg mb s₁.heap->YP w s₁.heap->
   s₁.heap.get? fa=some o->o.data=.func (docDef d.name d.params d.body d.scope pm cd doc)->s₁.heap.CodeRec cd d.name->mg d.name=some (.ref fa)->
   s₁.heap.get? a=some { cls:=.type "list",data:=.seq vs.toArray }->IntsAre vs ns->ns.length<=n->s₁.gens=#[]->
   codeAny (model l.prog w) callerA (.call (.ref fa) ⟨[.ref a],[]⟩) (λr s'=>r=.ok (.ret (.bool true))/\OldK s₁.heap s'.heap/\s'.os=s₁.os/\AllBare s'.gens) s₁):
  WalkO q loose XP YP l.row.toRowW d [] (λf vs=>PySem.call f vs):=by
 intro w s₀ s₁ mg mb G Y fa o pm cd doc dV kV ho hd FH hD YZ hg args vals as Sf hlay WH Si hlo
 obtain rfl:dV=.none:=Dflts.none hD UD
 obtain rfl:kV=.none:=Dflts.noKw hD
 obtain⟨a,vs,ns,rfl,rfl,WI,hints,hlen⟩:=G8 hn Sf Si
 refine enter_call (ng (call w s₀ s₁ mg mb fa o pm cd doc a vs ns G Y ho (fd_plain hd) FH YZ WI hints hlen hg) λr s' hq=>?_)
 obtain⟨rfl,h2,h3,h4⟩:=hq
 exact⟨.inl ⟨.bool true,.bool true,[],rfl,λ_=>rfl,.bool true,G9 l _,λ_=>⟨List.Pairwise.nil,λ_ hm=>(nomatch hm)⟩⟩,h2,h3,h4⟩
end Att
namespace L2
open PySem PySem.Spec PyProof.Rows
theorem xH:∀{vs:mA}{ns:rq},IntsAre vs ns->Vals (ns.map V.int) vs
 | _,_,.nil=>.nil
 | _,_,.cons n t h=>.cons ⟨t,rfl⟩ (xH h)
def Sj (H:Hp):Prop:=∀b,H b=none\/∃o xs,H b=some (.EA o (.lst xs))
variable {P:Program}{w:World}{K:W.Frag}{mg:Str->Option Value}{a:Addr}{fd:FuncData}{x:Str}{sp:Sp}
theorem JZ {mb:Str->Option Value}{CX:N9}{k:Nat}{fa:Addr}{s₁:Shared}{vs:mA}{ns:rq}
  (KX:K.In s₁.heap) (Y0:s₁.heap.Ns mainGlobals mg) (hb:s₁.heap.Ns builtinsNs mb) (hbb:∀x:Str,x ≠ "__name__" -> mb x=bootBuiltins x) (hlim:s₁.heap.NoLimit) (hg:s₁.gens=#[])
  (ha:s₁.heap.get? a=some { cls:=.type "list",data:=.seq vs.toArray }) (hi:IntsAre vs ns) (hl:ns.length<=sizeLine) (hr:DD k callerA)
  (F:∀base:Heap,K.In base->base.Ns mainGlobals mg->EC P w K mg base CX k fa fd [x] sp) (Y1:∀(s:Shared) (u:Value),BindsTo s fd ⟨[u],[]⟩ [(x,u)])
  (MG:∀H:Hp,Sj H->DL K H a (ns.map V.int)->sp [.ref a] H (λv _=>v=.bl true) λ_ _ _=>False)
  (hCX:∀H e s',CX [] H s₁ (λ_ _ _=>False) e s'->False):
  codeAny (model P w) callerA (.call (.ref fa) ⟨[.ref a],[]⟩) (λr s'=>r=.ok (.ret (.bool true))/\OldK s₁.heap s'.heap/\s'.os=s₁.os/\AllBare s'.gens) s₁:=by
 have rv:=xH hi
 have C0:=hi.length
 have core:∀H:Hp,Sj H->DL K H a (ns.map V.int)->F4 P w K H s₁.heap->(∀b,H b≠none->b=a)->(H a≠none->K.lookup a=none)->
   codeAny (model P w) callerA (.call (.ref fa) ⟨[.ref a],[]⟩) (λr s'=>r=.ok (.ret (.bool true))/\OldK s₁.heap s'.heap/\s'.os=s₁.os/\AllBare s'.gens) s₁:=by
  intro H hO hS C8 hA hK
  have Mc:∀{b:Addr}{o:Obj},s₁.heap.get? b=some o->H b=none->(qJ s₁.heap H).get? b=some o:=λe n=>Jz e n
  have YU:∀{b:Addr}{o:Obj}{es:Array DictEntry}{ep:Nat},s₁.heap.get? b=some o->o.data=.dict es ep->H b=none:=λ{b o es ep} e d=>by
   cases q:H b with
   | none=>rfl
   | some u=>
    have e':b=a:=hA b (by rw[q];simp)
    subst e'
    rw[ha] at e;cases e
    have d':Data.seq vs.toArray _=Data.dict es ep:=d
    cases d'
  have nsK:∀{b:Addr}{m:Str->Option Value},s₁.heap.Ns b m->(qJ s₁.heap H).Ns b m:=λ{b m} ⟨o,es,ep,e,d,r⟩=>⟨o,es,ep,Mc e (YU e d),d,r⟩
  have hKb:K.In (qJ s₁.heap H):=λb o e=>Mc (KX b o e) (by
   cases q:H b with
   | none=>rfl
   | some u=>
    have e':b=a:=hA b (by rw[q];simp)
    subst e'
    rw[hK (by rw[q];simp)] at e;cases e)
  have hM:Mod K mg (qJ s₁.heap H):=⟨hKb,nsK Y0,⟨mb,nsK hb,hbb⟩,let ⟨mc,h1,h2⟩:=hlim;⟨mc,nsK h1,h2⟩⟩
  have e0:RS P w K mg (qJ s₁.heap H) callerA [] s₁ H:=⟨rfl,hM,λb o e=>M3 e,Nat.le_of_eq (Gr _ _),trivial,λb hb=>absurd (show b∈([]:rL) from hb) (by simp),C8,.of_eq hg⟩
  refine ng ((F _ hKb (nsK Y0)).run callerA [] s₁ H ⟨[.ref a],[]⟩ [.ref a] [.ref a] _ _ hr e0 (Y1 s₁ (.ref a)) (.cons rfl .nil) (MG H hO hS)) λr s' h=>?_
  cases r with
  | error e=>exact(hCX H e s' h).elim
  | ok fl=>
   cases fl with
   | next=>exact False.elim h
   | brk=>exact False.elim h
   | cont=>exact False.elim h
   | ret u=>
    obtain⟨v,H',os,bare,un,hok',r',q⟩:=h
    have q':v=.bl true:=q
    subst q'
    obtain rfl:u=Value.bool true:=r'
    refine⟨rfl,OldK.of_keep λb o e=>?_,os,bare⟩
    cases q:H b with
    | none=>exact un.keep b o e q (by intro z;exact absurd (show b∈([]:rL) from z) (by simp)) (by simp)
    | some u=>
     rcases hO b with z | ⟨ob,xs,z⟩
     ·rw[q] at z;cases z
     ·have z2:=un.HV b ob _ z
      obtain⟨e1,_⟩:=C8 b _ z
      obtain⟨e2,_⟩:=hok' b _ z2
      rw[e] at e1;cases e1
      exact e2
 cases hk:K.lookup a with
 | some o=>
  have e:=KX a o hk
  rw[ha] at e
  cases e
  refine core (λ_=>none) (λ_=>.inl rfl) (.inr ⟨_,vs.toArray,_,hk,rfl,rfl,rfl,by rw[a6,C0];exact hl,by simpa using rv⟩) (λb u z=>by have z':(none:Option HO)=some u:=z;cases z') (λb z=>absurd rfl z) λz=>absurd rfl z
 | none=>
  refine core (λb=>if b=a then some (.EA { cls:=.type "list",data:=.seq vs.toArray } (.lst (ns.map V.int))) else none) (λb=>?_) (.inl (.inr ⟨{ cls:=.type "list",data:=.seq vs.toArray },be rfl⟩)) (λb u z=>?_) (λb z=>?_) λ_=>hk
  ·by_cases hb:b=a
   ·exact .inr ⟨_,_,be hb⟩
   ·exact .inl (a7 hb)
  ·by_cases hb:b=a
   ·have z':=(be hb).symm.trans z
    cases z'
    subst hb
    exact⟨ha,by rw[af];exact hl,vs,_,rv,ha⟩
   ·have z':=(a7 hb).symm.trans z
    cases z'
  ·by_cases hb:b=a
   ·exact hb
   ·exact absurd (a7 hb) z
variable {XP:(Str->Option Value)->Heap->Prop}{YP:World->Heap->Prop}
theorem Sk {l:W.OpenLaw}{n k:Nat}{q:Program}{loose:rp}{d:DefRec}{K:Params->W.Frag}{CX:World->N9}{sp:World->Sp}
  (hn:l.most=some n) (hn2:n<=sizeLine) (UD:d.params.defaults=[]) (hr:DD k callerA)
  (hY:∀(w:World) (h:Heap),YP w h->(K w.params).In h)
  (F:∀(w:World) (mg:Str->Option Value) (fa:Addr) (h:Heap),(K w.params).In h->h.Ns mainGlobals mg->mg d.name=some (.ref fa)->
   ∃fd:FuncData,(∀(s:Shared) (u:Value),BindsTo s fd ⟨[u],[]⟩ [(x,u)]) /\
    ∀base:Heap,(K w.params).In base->base.Ns mainGlobals mg->EC l.prog w (K w.params) mg base (CX w) k fa fd [x] (sp w))
  (MG:∀(w:World) (H:Hp) (a:Addr) (ns:rq),ns.length<=n->Sj H->DL (K w.params) H a (ns.map V.int)->sp w [.ref a] H (λv _=>v=.bl true) λ_ _ _=>False)
  (hCX:∀(w:World) (H:Hp) (s:Shared) (e:Value) (s':Shared),CX w [] H s (λ_ _ _=>False) e s'->False):
  W.WalkO q loose XP YP l.row.toRowW d [] (λf vs=>PySem.call f vs):=by
 refine Att.KU hn UD λw s₀ s₁ mg mb fa o pm cd doc a vs ns G Y ho hd FH YZ WI hints hlen hg=>?_
 have KX:=hY w _ Y
 obtain⟨fd,hb,hF⟩:=F w mg fa _ KX G.T.g YZ
 exact JZ KX G.T.g G.T.b G.T.builtins G.T.nolimit hg WI hints (gi hlen hn2) hr hF hb (λH hO hS=>MG w H a ns hlen hO hS) λH e s'=>hCX w H s₁ e s'
def iR (s:Stmt):Arguments:=match s with
 | .FunctionDef _ a _ _ _ _ _ _ _ _=>a
 | _=>{ posonlyargs:=[],args:=[],vararg:=none,kwonlyargs:=[],kw_defaults:=[],kwarg:=none,defaults:=[] }
noncomputable def e_ (s:Stmt):List Stmt:=match s with
 | .FunctionDef _ _ b _ _ _ _ _ _ _=>b
 | _=>[]
def aH (s:Stmt):Scope:=match s with
 | .FunctionDef _ _ _ _ _ _ sc _ _ _=>sc
 | _=>{ kind:=.function,names:=[],isGenerator:=false,isCoroutine:=false }
abbrev LS:N9:=λ_ _ _ _ _ _=>False
abbrev E0:XK:=λ_ _ _=>False
variable {X:Cx}
theorem U8:zf LS X E0:=λ_ _ _ _ _ _ _ h=>h.elim
structure I0 (K:W.Frag)(x qual:Str)(st:Stmt)(f:Addr)(fd:FuncData):Prop where
 ex:∃(oc:Value) (od:Option Addr) (kV doc pm:Value) (an:Option Addr) (FK ct:Value) (RU:Array (Option Value)),
  fd=W.fnOf x qual (iR st) (e_ st) (aH st) .none kV doc pm an FK ct/\K.lookup f=some ⟨oc,od,.func fd,RU⟩/\W.codeIn K FK qual=true
 kp:W.keepIn K (.ref f)=true
variable {qual:Str}{ps:rp}{RU:Array (Option Value)}
section
variable {P:Program}{w:World}{K:W.Frag}{mg:Str->Option Value}{base:Heap}
theorem I0.ok {st:Stmt}{f:Addr}{N:rp}{k:Nat}(F:I0 K x qual st f fd)(S:CO N ps (aH st))(len:∀vs H Q E,sp vs H Q E->vs.length=ps.length)
  (KO:∀(FK:Value) (A:Around) (outer:List Env) (s:Shared) (H:Hp) (vs:List V) (Q:VK) (E:XK),DD k (A.deeper (envOfC qual (aH st) s.heap.objs.size f FK))->sp vs H Q E->
   ∃t,Fu (ir LS P w K mg base N qual (aH st) f FK A outer s H E).UA (e_ st) t/\t { nx:=λ_ H'=>Q .CY H',rt:=Q } (start N vs) H):EC P w K mg base LS (k+1) f fd ps sp:=by
 obtain⟨oc,od,kV,doc,pm,an,FK,ct,RU,rfl,lk,FH⟩:=F.ex
 refine LR lk FH S len λA outer s H vs Q E hr MG=>?_
 obtain⟨t,h,q⟩:=KO FK A outer s H vs Q E hr MG
 exact⟨t,h.UA,q⟩
theorem I0.binds {st:Stmt}{f:Addr}(F:I0 K x qual st f fd)
  (h:∀(kV doc pm:Value) (an:Option Addr) (FK ct:Value) (us:mA),us.length=ps.length->bindArgs (W.fnOf x qual (iR st) (e_ st) (aH st) .none kV doc pm an FK ct) ⟨us,[]⟩=pure (ps.zip us)):Binds K fd ps []:=by
 obtain⟨oc,od,kV,doc,pm,an,FK,ct,RU,rfl,lk,FH⟩:=F.ex
 exact .all (h kV doc pm an FK ct)
theorem WJ {st:Stmt}{f:Addr}{oc:Value}{od an:Option Addr}{kV doc pm FK ct:Value}(l:K.lookup f=some ⟨oc,od,.func (W.fnOf x qual (iR st) (e_ st) (aH st) .none kV doc pm an FK ct),RU⟩)
  (c:W.codeIn K FK qual=true) (k:W.keepIn K (.ref f)=true):I0 K x qual st f (W.fnOf x qual (iR st) (e_ st) (aH st) .none kV doc pm an FK ct):=⟨⟨oc,od,kV,doc,pm,an,FK,ct,RU,rfl,l,c⟩,k⟩
end
variable {A:Around}
theorem o_ {k:Nat}(hr:DD k A):A.units+1 < cLine:=nK (Nat.add_le_add_left (by decide:1<=64) _) hr.units
theorem G_ {n:Nat}(h:n<=1000):n < sizeLine:=nK h (by decide)
variable {pos:Pos}
section
variable {X:Cx}
theorem pv (i:Nat)(hN:X.N[i]?=some x:=by rfl)(hv:MB X.env.scope x:=by first | exact gc rfl | exact eB (gc rfl) | exact eB (eB rfl))(hd:(x == ("__debug__" : Str))=false:=by decide)
  (FH:(x == ("__classdict__" : Str))=false:=by decide):PE X (.Name x pos) (Qp i):=gR hN hv hd FH
end
theorem zF {A B:Prop}(h:B):if false=true then A else B:=by
 rw[a7 bi]
 exact h
theorem zG {A B:Prop}(h:A):if true=true then A else B:=by
 rw[be rfl]
 exact h
def CS (H H':Hp):Prop:=∀b o,H b=some o->H' b=some o
theorem CS.refl (H:Hp):CS H H:=λ_ _ h=>h
variable {H:Hp}
theorem CS.trans {H1 H2:Hp}(a:CS H H1)(b:CS H1 H2):CS H H2:=λc o h=>b c o (a c o h)
theorem CS.free {H':Hp}(e:CS H H'){l:Addr}(h:H' l=Option.none):H l=Option.none:=by
 cases q:H l with
 | none=>rfl
 | some o=>
  rw[e l o q] at h
  cases h
section
variable {X:Cx}
theorem Ha:DU X (.builtin "len") (λxs H Q=>∃a kvs,xs=[V.ref a]/\H a=some (.dK kvs)/\Q (.int kvs.length) H):=by
 intro CI s σ H xs us Q I r h
 obtain⟨a,kvs,rfl,ha,q⟩:=h
 obtain⟨u,rfl,ru⟩:=vals1 r
 cases ru
 exact U3 I (.inl ha) λt s' I'=>⟨.int kvs.length,H,I',⟨t,rfl⟩,q⟩
end
theorem uB {α β:Type}{l:List α}{f:α->β->Sem (ForInStep β)}(g:α->β->β):∀(c:β),(∀x∈l,∀c,f x c=pure (.yield (g x c)))->
  forIn l c f=pure (l.foldl (λc x=>g x c) c):=by
 induction l with
 | nil=>intro c _;rfl
 | cons x l ih=>
  intro c h
  rw[kq,h x ah,pure_bind]
  exact ih _ λy hy=>h y (ag _ hy)
noncomputable def jd (env:Env)(x:Str×NameKind)(c:List (Str×Addr)):List (Str×Addr):=if x.2=.free then (x.1,(env.cells.lookup x.1).getD 0)::c else c
noncomputable def uC (env:Env)(names:List (Str×NameKind)):List (Str×Addr):=names.foldl (λc x=>jd env x c) []
variable {scope:Scope}{env:Env}
theorem yq (h:∀x∈scope.names,x.2=.free->∃c,env.cells.lookup x.1=some c):closureFor scope env=pure (uC env scope.names):=by
 simp only[closureFor]
 rw[uB (jd env) [] (λx hx c=>by
  obtain⟨n,kind⟩:=x
  by_cases e:kind=.free
  ·subst e
   obtain⟨a,ha⟩:=h _ hx rfl
   have ha':env.cells.lookup n=some a:=ha
   simp[jd,cellOf,ha']
  ·have:(kind == NameKind.free)=false:=by simpa using e
   simp[jd,e,this])]
 rfl
theorem vg {env:Env}:∀(l:List (Str×NameKind)) (cs:List (Str×Addr)),(∀x∈l,x.2=.free->∃c,env.cells.lookup x.1=some c)->(∀y c,cs.lookup y=some c->env.cells.lookup y=some c)->
  ∀y c,(l.foldl (λc x=>jd env x c) cs).lookup y=some c->env.cells.lookup y=some c
 | [],cs,_,h2,y,c,e=>h2 y c e
 | x::r,cs,h1,h2,y,c,e=>by
  refine vg r (jd env x cs) (λz hz=>h1 z (ag _ hz)) (λz d q=>?_) y c e
  unfold jd at q
  by_cases k:x.2=.free
  ·rw[be k] at q
   obtain⟨a,ha⟩:=h1 x ah k
   rw[cK] at q
   cases hb:z == x.1 with
   | true=>
    rw[hb] at q
    have ez:z=x.1:=by simpa using hb
    rw[ha] at q
    have q':a=d:=by simpa using q
    rw[ez,ha,q']
   | false=>
    rw[hb] at q
    exact h2 z d q
  ·rw[a7 k] at q
   exact h2 z d q
variable {names:List (Str×NameKind)}{y:Str}
theorem nM (h:∀x∈names,x.2=.free->∃c,env.cells.lookup x.1=some c){c:Addr}(e:(uC env names).lookup y=some c):env.cells.lookup y=some c:=
 vg names [] h (λy c q=>by simp at q) y c e
theorem vh {env:Env}{y:Str}:∀(l:List (Str×NameKind)) (cs:List (Str×Addr)),((y,.free)∈l\/∃c,cs.lookup y=some c)->∃c,(l.foldl (λc x=>jd env x c) cs).lookup y=some c
 | [],cs,h=>by
  rcases h with h | h
  ·simp at h
  ·exact h
 | x::r,cs,h=>by
  refine vh r (jd env x cs) ?_
  rcases h with h | ⟨c,h⟩
  ·rcases av.mp h with e | e
   ·refine .inr ⟨(env.cells.lookup y).getD 0,?_⟩
    rw[← e]
    simp[jd]
   ·exact .inl e
  ·refine .inr ?_
   unfold jd
   split
   ·rw[cK]
    split
    ·exact⟨_,rfl⟩
    ·exact⟨c,h⟩
   ·exact⟨c,h⟩
theorem Hb (h:(y,.free)∈names):∃c,(uC env names).lookup y=some c:=vh names [] (.inl h)
theorem mem_of_lookup {x:Str}{k:NameKind}:∀{l:List (Str×NameKind)},l.lookup x=some k->(x,k)∈l
 | [],h=>by simp at h
 | (n,j)::r,h=>by
  rw[cK] at h
  cases hb:x == n with
  | true=>
   rw[hb] at h
   have e:x=n:=by simpa using hb
   have e2:j=k:=by simpa using h
   rw[e,e2]
   exact ah
  | false=>
   rw[hb] at h
   exact ag _ (mem_of_lookup h)
theorem sE {env:Env}:∀{names:List (Str×NameKind)}{x:Str},names.lookup x=some .free->
  (names.map λ(n,k)=>if (k == NameKind.free&&env.scope.kind == .function&&env.kindOf n == some .cell) then (n,NameKind.cell) else (n,k)).lookup x=some .cell \/
  (names.map λ(n,k)=>if (k == NameKind.free&&env.scope.kind == .function&&env.kindOf n == some .cell) then (n,NameKind.cell) else (n,k)).lookup x=some .free
 | [],_,h=>by simp at h
 | (n,k)::r,x,h=>by
  have ih:=@sE env r x
  cases hx:x == n with
  | true=>
   simp only[cK,hx] at h
   cases h
   by_cases hc:(NameKind.free == NameKind.free&&env.scope.kind == .function&&env.kindOf n == some .cell)=true
   ·refine .inl ?_
    simp only[ap,be hc,cK,hx]
   ·refine .inr ?_
    simp only[ap,a7 hc,cK,hx]
  | false=>
   simp only[cK,hx] at h
   have ih:=ih h
   by_cases hc:(k == NameKind.free&&env.scope.kind == .function&&env.kindOf n == some .cell)=true
   ·simp only[ap,be hc,cK,hx]
    exact ih
   ·simp only[ap,a7 hc,cK,hx]
    exact ih
theorem qN {env:Env}:∀{names:List (Str×NameKind)}{x:Str}{j:NameKind},(∀y∈names,y.2≠.cell)->(j=.cell\/j=.free)->
  (names.map λ(n,k)=>if (k == NameKind.free&&env.scope.kind == .function&&env.kindOf n == some .cell) then (n,NameKind.cell) else (n,k)).lookup x=some j->(x,.free)∈names
 | [],_,_,_,_,h=>by simp at h
 | (n,k)::r,x,j,hn,hj,h=>by
  have ih:=@qN env r x j (λy hy=>hn y (ag _ hy)) hj
  cases hx:x == n with
  | true=>
   have e:x=n:=by simpa using hx
   subst e
   by_cases hc:(k == NameKind.free&&env.scope.kind == .function&&env.kindOf x == some .cell)=true
   ·have hk:k=.free:=by
     simp only[bp,oQ] at hc
     exact hc.1.1
    subst hk
    exact ah
   ·simp only[ap,a7 hc,cK,hx] at h
    have hk:k=j:=by simpa using h
    rcases hj with z | z
    ·exact absurd (hk.trans z) (hn (x,k) ah)
    ·rw[hk,z]
     exact ah
  | false=>
   by_cases hc:(k == NameKind.free&&env.scope.kind == .function&&env.kindOf n == some .cell)=true
   ·simp only[ap,be hc,cK,hx] at h
    exact ag _ (ih h)
   ·simp only[ap,a7 hc,cK,hx] at h
    exact ag _ (ih h)
abbrev Cx.comp (X:Cx)(N:rp)(scope:Scope)(C:Addr)(s:Shared)(H:Hp)(fp:rL):Cx where
 prog:=X.prog
 w:=X.w
 K:=X.K
 mg:=X.mg
 base:=X.base
 A:=X.A
 N:=N
 s₀:=s
 H₀:=H
 env:=compEnvC scope (uC X.env scope.names) C X.env
 outer:=X.stack
 stack:=X.stack
 ex:=fp
 fn:=λ_=>false
 calm:=X.calm
 pn:=[]
 xe:=λ_ _=>False
noncomputable def yJ (scope:Scope)(ON N:rp)(C2:List (Option Nat)):Bool:=
 C2.length == N.length&&(List.range N.length).all λj=>match C2[j]? with
  | some (some i)=>(match N[j]?,ON[i]? with
   | some x,some y=>x == y&&(scope.names.lookup x == some NameKind.free)
   | _,_=>false)
  | _=>true
structure ND (FC scope:Scope)(ON N:rp)(C2:List (Option Nat)):Prop where
 kind:scope.kind=.function
 noc:∀y∈scope.names,y.2≠.cell
 loc:∀y∈scope.names,y.2=.local->scope.names.lookup y.1=some .local
 fr:∀y∈scope.names,y.2=.free->FC.names.lookup y.1=some .cell\/FC.names.lookup y.1=some .free
 C2:yJ scope ON N C2=true
theorem ND.at {FC scope:Scope}{ON N:rp}{C2:List (Option Nat)}(S:ND FC scope ON N C2){j i:Nat}{x:Str}(h:C2[j]?=some (some i))(hx:N[j]?=some x):ON[i]?=some x/\scope.names.lookup x=some .free:=by
 have h0:=S.C2
 unfold yJ at h0
 rw[bp] at h0
 have hj:j < N.length:=(aw.mp hx).1
 have h1:=cq.mp h0.2 j (b6.mpr hj)
 rw[h] at h1
 dsimp only at h1
 rw[hx] at h1
 cases hy:ON[i]? with
 | none=>rw[hy] at h1;simp at h1
 | some y=>
  rw[hy] at h1
  simp only[bp,oQ] at h1
  exact⟨by rw[h1.1],h1.2⟩
theorem ND.len {FC:Scope}{ON N:rp}{C2:List (Option Nat)}(S:ND FC scope ON N C2):C2.length=N.length:=by
 have h0:=S.C2
 unfold yJ at h0
 rw[bp,oQ] at h0
 exact h0.1
noncomputable def zH (σ:St):Option Nat->Option V
 | some i=>(σ[i]?).getD none
 | none=>none
def fM (C2:List (Option Nat))(σ:St):St:=C2.map (zH σ)
def sG (X:Cx)(ifs:rl)(t:TT):Prop:=
 ∀(CI:fN) (s:Shared) (σ:St) (H:Hp) (Q:Bool->Hp->Prop),Inv X CI σ H s->t σ H Q->
  wpAny (model X.prog X.w) X.A (forIn ifs true λc r=>if r=true then do let ok ← isTrue c X.env (eval c X.env);pure (ForInStep.yield ok) else pure (ForInStep.yield r)) (TP X CI σ Q) X.xe s
def Wa:TT:=λ_ H Q=>Q true H
theorem J0:sG X [] Wa:=λ_ _ _ H _ I h=>wpAny_tests_nil ⟨H,I,h⟩
theorem qO {c:Expr}{t:TT}(h:PT X c t):sG X [c] t:=λCI s σ H Q I q=>wpAny_tests_one (h CI s σ H Q I q)
variable {prog:Program}{R:Result->Shared->Prop}{s:Shared}
theorem o7 {elt target iter:Expr}{ifs:rl}{it acc:Value}(I:Nat->Shared->Prop)
  (turn:∀n s,I n s->wpAny (model prog w) A (pyNext it) (λr s₁=>match r with
   | none=>R (.ok .next) s₁
   | some v=>wpAny (model prog w) A (letOwnedTupleGo target it v) (λ_ s₁'=>wpAny (model prog w) A (assign target env v) (λ_ s₂=>
     wpAny (model prog w) A (forIn ifs true λc r=>if r=true then do let ok ← isTrue c env (eval c env);pure (ForInStep.yield ok) else pure (ForInStep.yield r)) (λok s₃=>
      if ok=true then wpAny (model prog w) A (eval elt env) (λx s₄=>
       wpAny (model prog w) A (call (.builtin "list.append") [acc,x]) (λ_ s₅=>∃m,m < n/\I m s₅) (λ_ _=>False) s₄) (λ_ _=>False) s₃
      else ∃m,m < n/\I m s₃) (λ_ _=>False) s₂) (λ_ _=>False) s₁') (λ_ _=>False) s₁) (λ_ _=>False) s)
  (n:Nat) (h:I n s):
  codeAny (model prog w) A (.compLoop (.ListComp elt [⟨target,iter,ifs,0⟩] scope pos) 0 it acc env) R s:=by
 refine codeAny_loop rfl I (λn s hI=>?_) n h
 show wpAny _ A ((compTurn (.ListComp elt [⟨target,iter,ifs,0⟩] scope pos) 0 it acc env).onRaise (λx=>do noteFrame x env;theTreesLotGoes x)) _ _ s
 refine wpAny_noted ?_
 rw[compTurn_list]
 refine ac (ol (ac (eW (turn n s hI) (λr s₁ h₁=>?_) λ_ _ h'=>h'.elim)))
 cases r with
 | none=>exact ai h₁
 | some v=>
  refine ac (eW h₁ (λ_ s₁' h₁'=>?_) λ_ _ h'=>h'.elim)
  refine ac (eW h₁' (λ_ s₂ h₂=>ac (eW h₂ (λok s₃ h₃=>?_) λ_ _ h'=>h'.elim)) λ_ _ h'=>h'.elim)
  cases ok with
  | false=>exact ai ⟨rfl,h₃⟩
  | true=>
   exact ac (ac (eW h₃ (λx s₄ h₄=>ac (eW h₄ (λ_ s₅ h₅=>ai (ai ⟨rfl,h₅⟩)) λ_ _ h'=>h'.elim)) λ_ _ h'=>h'.elim))
def Kp (σ σ2:St):Prop:=σ.length=σ2.length/\∀(i:Nat) (v:V),σ[i]?=some (some v)->σ2[i]?=some (some v)
structure Y2 (wi:TI)(C2:List (Option Nat))(g:TG)(tt:TT)(te:TE)(σ:St)(H:Hp)(Q:VK):Prop where
 ex:wi σ H λJ H1=>∀D,H1 D=none->∃W:Nat->Nat->List V->Hp->Prop,
 (∃m,W 0 m [] (upd H1 D (.lst [])))/\∀i m ys H,W i m ys H->H D=some (.lst ys)/\((J.stop i H/\Q (.ref D) H) \/
  (J.go i H/\∃N:List V->Hp->Prop,(∀Sl H',N Sl H'->∃m',m' < m/\W (i+1) m' Sl H')/\∀x H',J.yld i H x H'->g x (fM C2 σ) H' fun σ2 H2=>Kp (fM C2 σ) σ2/\tt σ2 H2 λb H3=>
   if b=true then te σ2 H3 λy H4=>H4 D=some (.lst ys)/\ys.length < sizeLine/\N (ys++[y]) (upd H4 D (.lst (ys++[y]))) else N ys H3))
def yK (wi:TI)(C2:List (Option Nat))(g:TG)(tt:TT)(te:TE):TE:=fun σ H Q=>Y2 wi C2 g tt te σ H Q
variable {CI:fN}{σ:St}{RR:Value->Addr->Result->Shared->Prop}{h':Heap}{i:Nat}
section
variable {X:Cx}{tg iter elt:Expr}{ifs:rl}{scope FC:Scope}{ON N:rp}{C2:List (Option Nat)}{wi:TI}{g:TG}{tt:TT}{te:TE}{pos:Pos}
theorem Nv {H2:Hp}{s2:Shared}{fp:rL}{C:Addr}(I2:Inv X CI σ H2 s2)(S:ND FC scope ON N C2)(IQ:X.env.scope=FC)(f2:∀b∈fp,lr X CI H2 b)
  (QE:∀b∈fp,b < s2.heap.objs.size) (hC:s2.heap.objs.size<=C):(X.comp N scope C s2 H2 fp).Ok:=by
 have NF:∀x∈scope.names,x.2=.free->∃c,X.env.cells.lookup x.1=some c:=λx hx e=>I2.ok.has x.1 (by
  rcases S.fr x hx e with z | z
  ·exact .inl (by rw[Env.kindOf,IQ];exact z)
  ·exact .inr (by rw[Env.kindOf,IQ];exact z))
 refine⟨I2.mod,S.kind,I2.ok.glob,I2.ok.blt,hC,λx y c h1 h2=>I2.ok.inj x y c (nM NF h1) (nM NF h2),λx h=>?_,λx c h=>by simp at h,I2.ok.hd,I2.ok.frames,.inl rfl,λb hb=>⟨?_,λx c e=>?_⟩,λb o e=>I2.bs b o e,?_,λb o e hb=>?_,λb hb hz=>?_,I2.stack,I2.HK⟩
 ·have hm:(x,NameKind.free)∈scope.names:=by
   rcases h with h | h
   ·exact qN (env:=X.env) S.noc (.inl rfl) h
   ·exact qN (env:=X.env) S.noc (.inr rfl) h
  exact Hb hm
 ·exact cf (bS (QE b hb) hC)
 ·exact(f2 b hb).2.2.2.2.1 x c (nM NF e)
 ·exact gi I2.ok.RH I2.sz
 ·rcases(f2 b hb).2.2.2.1 with z | z
  ·exact I2.ok.MD b o e z
  ·exact absurd (bS (aI e) (gi I2.ok.RH z)) (em _)
 ·obtain⟨_,f1,f3,_⟩:=f2 b hb
  rcases av.mp (I2.GY b hz) with z | z
  ·exact f1 z
  ·exact f3 z
theorem xJ {Q:VK}{UE:Str}(hc:X.calm=true)(S:ND FC scope ON N C2)(IQ:X.env.scope=FC)(hN:X.N=ON)
  (hi:PI X tg iter wi) (hg:∀C s H fp,PG (X.comp N scope C s H fp) tg g) (ht:∀C s H fp,sG (X.comp N scope C s H fp) ifs tt) (he:∀C s H fp,PE (X.comp N scope C s H fp) elt te)
  (I:Inv X CI σ H s) (h:yK wi C2 g tt te σ H Q)
  (fin:∀D C H' s',Inv X CI σ H' s'->lr X CI H' C->(∃m,s'.heap.Ns C m)->Q (.ref D) H'->RR (.ref D) C (.ok .next) s'):
  wpAny (model X.prog X.w) X.A (eval iter X.env) (λx s₁=>wpAny (model X.prog X.w) X.A (pyIter x) (λYO s₂=>wpAny (model X.prog X.w) X.A (newList []) (λacc s₃=>
   wpAny (model X.prog X.w) X.A (newFunctionEnv scope X.env.globals (uC X.env scope.names) [] X.env.qual none .none (some X.env)) (λY3 s₄=>
    codeAny (model X.prog X.w) X.A (.compStart (.ListComp elt [⟨tg,iter,ifs,0⟩] scope pos) 0 YO acc { Y3 with scope:=relabel scope X.env }) (RR acc Y3.locals) s₄) X.xe s₃) X.xe s₂) X.xe s₁) X.xe s:=by
 refine DB (hi CI s σ H _ I h.ex) λv s1 h1=>DB h1 λYO s2 h2=>?_
 obtain⟨it,fp,tn,J,H2,e,I2,T,st2,f2,q2⟩:=h2
 subst e
 refine dy (wpAny_newFunctionEnv S.noc (by intro y hy;simp at hy) (λh₁ Sm Oy=>?_) S.kind)
 dsimp only at Sm Oy ⊢
 generalize hH2:s2.heap.push { cls:=.type "list",dict:=none,data:=.seq ([]:mA).toArray }=P2 at Sm Oy ⊢
 generalize hD:s2.heap.objs.size=D
 generalize hCe:P2.objs.size=C at Sm Oy ⊢
 have hCD:C=D+1:=by rw[← hCe,← hH2,cE,hD]
 have Sn:s2.heap.objs.size<=C:=by rw[hCD,hD];exact Nat.le_succ _
 have QE:∀b∈fp,b < s2.heap.objs.size:=λb hb=>by
  obtain⟨o,e,_⟩:=T.obj 0 _ st2 b hb
  exact aI e
 have below:∀b,b < s2.heap.objs.size->b≠C:=λb hb=>cf (bS hb Sn)
 have k1:∀b o,s2.heap.get? b=some o->h₁.get? b=some o:=λb o e=>Oy.extBut b o (below b (aI e)) (ae _ (hH2▸ae _ e))
 have hDC:D≠C:=by rw[hCD];exact cf (ot _)
 have gD:h₁.get? D=some { cls:=.type "list",dict:=none,data:=.seq ([]:mA).toArray }:=by
  refine Oy.extBut D _ hDC (ae _ ?_)
  rw[← hH2,← hD]
  exact am _ rfl
 have nD:H2 D=none:=I2.C8.fresh (by rw[hD];exact aT _)
 have nC:H2 C=none:=I2.C8.fresh Sn
 have NF:∀x∈scope.names,x.2=.free->∃c,X.env.cells.lookup x.1=some c:=λx hx e=>I2.ok.has x.1 (by
  rcases S.fr x hx e with z | z
  ·exact .inl (by rw[Env.kindOf,IQ];exact z)
  ·exact .inr (by rw[Env.kindOf,IQ];exact z))
 obtain⟨W,⟨m0,w0⟩,turn⟩:=q2 D nD
 have IY:Inv (X.comp N scope C s2 H2 fp) [] (fM C2 σ) (upd H2 D (.lst [])) { s2 with heap:=h₁,toks:=s2.toks+([]:List (Str×Value)).length }:=by
  have hp:s2.heap.objs.size<=D:=by rw[hD];exact aT _
  refine⟨Nv I2 S IQ f2 QE Sn,rfl,I2.bare,Un.laid k1 hp nD,⟨_,Sm,λj x v e1 e2 e3=>?_⟩,λx c e=>?_,?_,λx c e=>?_,λp hp=>by simp at hp,I2.C8.laid k1 hp ⟨c6 _,[],_,.nil,gD⟩,?_⟩
  ·have So:(C2.map (zH σ))[j]?=some (some v):=e2
   rw[ar] at So
   cases q:C2[j]? with
   | none=>rw[q] at So;cases So
   | some o=>
    rw[q] at So
    have e4:zH σ o=some v:=a9 So
    cases o with
    | none=>cases e4
    | some i=>
     have hσ:σ[i]?=some (some v):=by
      have e5:(σ[i]?).getD none=some v:=e4
      cases z:σ[i]? with
      | none=>rw[z] at e5;cases e5
      | some w=>rw[z] at e5;exact b9 some e5
     obtain⟨hx1,hx2⟩:=S.at q e1
     have hk:X.env.kindOf x=some .cell\/X.env.kindOf x=some .free:=by
      rcases S.fr _ (mem_of_lookup hx2) rfl with z | z
      ·exact .inl (by rw[Env.kindOf,IQ];exact z)
      ·exact .inr (by rw[Env.kindOf,IQ];exact z)
     obtain⟨m,hn,hl⟩:=I2.loc
     obtain⟨u,r,l⟩:=hl i x v (by rw[hN];exact hx1) hσ (by
      rcases hk with z | z
      ·exact .inr (.inl z)
      ·exact .inr (.inr z))
     refine⟨u,r,?_⟩
     rcases l with ⟨z,_⟩ | ⟨_,c,ME,L9⟩
     ·rcases hk with y | y
      ·rw[y] at z;cases z
      ·rw[y] at z;cases z
     ·obtain⟨c',NG⟩:=Hb (env:=X.env) (mem_of_lookup hx2)
      have e6:=nM NF NG
      rw[ME] at e6
      have e7:c=c':=a9 e6
      subst e7
      obtain⟨oc,ho,hd⟩:=L9
      exact .inr ⟨sE (env:=X.env) hx2,c,NG,⟨oc,k1 c oc ho,hd⟩⟩
  ·obtain⟨v,oc,ho,hd⟩:=I2.cell x c (nM NF e)
   exact⟨v,oc,k1 c oc ho,hd⟩
  ·show upd H2 D (.lst []) C=none
   rw[aP (gx hDC)]
   exact nC
  ·have e':=nM NF e
   obtain⟨v,oc,ho,hd⟩:=I2.cell x c e'
   show upd H2 D (.lst []) c=none
   rw[aP (λz=>absurd (aI ho) (by rw[z,hD];exact em _))]
   exact I2.EO x c e'
  ·show (C2.map (zH σ)).length=N.length
   rw[af]
   exact S.len
 have LJ:∀{H':Hp},(∀b∈fp,H' b=none)->∀b∈fp,lr (X.comp N scope C s2 H2 fp) [] H' b:=λhn b hb=>by
  obtain⟨_,f1,f3,f4,f5,f6⟩:=f2 b hb
  refine⟨hn b hb,below b (QE b hb),λhz=>?_,.inl hb,λx c e=>f5 x c (nM NF e),λp hp=>by simp at hp⟩
  rcases av.mp (I2.GY b hz) with z | z
  ·exact f1 z
  ·exact f3 z
 have back:∀{σ':St}{H':Hp}{s':Shared},Inv (X.comp N scope C s2 H2 fp) [] σ' H' s'->Inv X CI σ H' s':=λ{σ' H' s'} I'=>
  I2.T2 (ch:=fp) I'.os I'.base I'.C8 I'.bare λb hb=>let ⟨_,f1,_,f4,f5,f6⟩:=f2 b hb;⟨f4,f1,f5,f6⟩
 have UH:tn 0 h₁:=T.keep 0 _ _ st2 λb _ o e=>k1 b o e
 have fr1:∀b∈fp,upd H2 D (.lst []) b=none:=λb hb=>by
  rw[aP (λz=>absurd (QE b hb) (by rw[z,hD];exact em _))]
  exact(f2 b hb).1
 have loop:codeAny (model X.prog X.w) X.A (.compLoop (.ListComp elt [⟨tg,iter,ifs,0⟩] scope pos) 0 (.ref it) (.ref D) (compEnvC scope (uC X.env scope.names) C X.env)) (RR (.ref D) C) { s2 with heap:=h₁,toks:=s2.toks+([]:List (Str×Value)).length }:=by
  refine o7 (λn s'=>∃i ys H',Inv (X.comp N scope C s2 H2 fp) [] (fM C2 σ) H' s'/\tn i s'.heap/\(∀b∈fp,H' b=none)/\W i n ys H') ?_ m0 ⟨0,[],_,IY,UH,fr1,w0⟩
  rintro n s3 ⟨i,ys,H3,I3,YQ,YR,w3⟩
  obtain⟨hDy,Y4⟩:=turn i n ys H3 w3
  rcases Y4 with ⟨stop,qn⟩ | ⟨go,Nx,hNx,step⟩
  ·refine DB (T.done (X.comp N scope C s2 H2 fp) rfl rfl rfl hc i [] s3 (fM C2 σ) H3 _ I3 (LJ YR) YQ stop) ?_
   rintro r s4 ⟨hr,I4⟩
   subst hr
   obtain⟨m,hm,_⟩:=I4.loc
   exact fin D C H3 s4 (back I4) (I2.HG Sn I4.free) ⟨m,hm⟩ qn
  ·refine DB (T.item (X.comp N scope C s2 H2 fp) rfl rfl rfl hc i [] s3 (fM C2 σ) H3 _ I3 (LJ YR) YQ go) ?_
   rintro r s4 ⟨u,hr,h4⟩
   subst hr
   refine DB h4 ?_
   rintro _ s5 ⟨x,H5,I5,r5,y5,VX,fr5⟩
   have I5':=I5.pinned (LJ fr5) (T.obj _ _ VX)
   refine DB (hg C s2 H2 fp _ s5 (fM C2 σ) H5 x u _ I5' r5 (step x H5 y5)) ?_
   rintro _ s6 ⟨σ6,H6,I6,kp6,q6⟩
   refine DB (ht C s2 H2 fp _ s6 σ6 H6 _ I6 q6) ?_
   rintro b s7 ⟨H7,I7,q7⟩
   have again:∀{Sl:List V}{H7:Hp}{s7:Shared},Inv (X.comp N scope C s2 H2 fp) ([]++sr fp s5.heap) σ6 H7 s7->Nx Sl H7->∃m,m < n/\∃i ys H',Inv (X.comp N scope C s2 H2 fp) [] (fM C2 σ) H' s7/\tn i s7.heap/\(∀b∈fp,H' b=none)/\W i m ys H':=λ{Sl H7 s7} I7 n7=>by
    obtain⟨m',hm,w7⟩:=hNx Sl H7 n7
    refine⟨m',hm,i+1,Sl,H7,I7.GG.weak kp6.1 kp6.2,T.keep _ _ _ VX λb hb o e=>(I7.pin (b,o) (dL _ (dL _ (mW hb e)))).1,λb hb=>?_,w7⟩
    obtain⟨o,e,d⟩:=T.obj _ _ VX b hb
    exact(I7.pin (b,o) (dL _ (dL _ (mW hb e)))).2.1
   cases b with
   | false=>
    rw[a7 bi] at q7 ⊢
    exact again I7 q7
   | true=>
    rw[be rfl] at q7 ⊢
    refine DB (he C s2 H2 fp _ s7 σ6 H7 _ I7 q7) ?_
    rintro xv s8 ⟨y,H8,I8,r8,hD8,hl8,n8⟩
    refine DB (jY (X:=X.comp N scope C s2 H2 fp) _ s8 σ6 H8 (.ref D) [y] (.ref D) [xv] (λ_ H9=>Nx (ys++[y]) H9) I8 rfl (.cons r8 .nil) ⟨D,ys,y,rfl,rfl,hD8,hl8,n8⟩) ?_
    rintro _ s9 ⟨_,H9,I9,_,n9⟩
    exact again I9 n9
 subst hD hCe
 exact codeAny_compStart_list loop (T.self _ 0 _ _ _ UH loop)
theorem zJ (S:ND FC scope ON N C2)(IQ:X.env.scope=FC)(I:Inv X CI σ H s):closureFor scope X.env=pure (uC X.env scope.names):=
 yq λx hx e=>I.ok.has x.1 (by
  rcases S.fr x hx e with z | z
  ·exact .inl (by rw[Env.kindOf,IQ];exact z)
  ·exact .inr (by rw[Env.kindOf,IQ];exact z))
theorem Inv.UI {s':Shared}{H':Hp}{C:Addr}(I:Inv X CI σ H' s')(f:lr X CI H' C)(hs:Heap.SameBut C s'.heap h'):Inv X CI σ H' { s' with heap:=h' }:=
 I.turned (t':=s'.toks) (it:=C) (λb o hb e=>(hs.2 b hb).trans e) f.1 f.2.1 f.2.2.2.1 f.2.2.2.2.1 f.2.2.2.2.2
theorem Ny (S:ND FC scope ON N C2)(hi:PI X tg iter wi)(hg:∀C s H fp,PG (X.comp N scope C s H fp) tg g)(ht:∀C s H fp,sG (X.comp N scope C s H fp) ifs tt)(he:∀C s H fp,PE (X.comp N scope C s H fp) elt te)
  (hc:X.calm=true:=by rfl) (IQ:X.env.scope=FC:=by rfl) (hN:X.N=ON:=by rfl) (hs:∀x,foldedSetIterable iter X.env x=pure x:=by intro _;rfl):PE X (.ListComp elt [⟨tg,iter,ifs,0⟩] scope pos) (yK wi C2 g tt te):=by
 intro CI s σ H Q I h
 rw[eval_ListComp]
 refine om (use:=none) rfl hs (zJ S IQ I) S.kind S.loc ?_
 refine xJ (RR:=λacc C=>compPost (model X.prog X.w) X.A X.xe none (EP X CI σ Q) acc C) (UE := "") hc S IQ hN hi hg ht he I h λD C H' s' I' f hm q=>?_
 obtain⟨m,hm⟩:=hm
 exact⟨m,hm,λh' HA=>⟨.ref D,H',I'.UI f HA,rfl,q⟩⟩
theorem Nz {py IS:Pos}(S:ND FC scope ON N C2)(hNd:X.N.Nodup)(JJ:X.N[i]?=some y)(hy:Loc X.env.scope y)(hi:PI X tg iter wi)(hg:∀C s H fp,PG (X.comp N scope C s H fp) tg g)(ht:∀C s H fp,sG (X.comp N scope C s H fp) ifs tt)(he:∀C s H fp,PE (X.comp N scope C s H fp) elt te)
  (WO:swapsWith (.ListComp elt [⟨tg,iter,ifs,0⟩] scope pos) (some (.Name y py)) IS.line X.env=pure true:=by rfl)
  (hc:X.calm=true:=by rfl) (IQ:X.env.scope=FC:=by rfl) (hN:X.N=ON:=by rfl) (hs:∀x,foldedSetIterable iter X.env x=pure x:=by intro _;rfl)
  (hf:X.fn y=true\/X.env.scope.names.lookup y=some .local:=by first | exact .inl rfl | exact .inr rfl | assumption):
  PS X (.Assign [.Name y py] (.ListComp elt [⟨tg,iter,ifs,0⟩] scope pos) IS) (JF (yK wi C2 g tt te) (t7 i)):=by
 intro CI s σ H D0 I h
 rw[exec_Assign_Name_used _ _ _ _ WO]
 refine ac (ol (ac ?_))
 show wpAny _ _ (do let _ ← comprehension (.ListComp elt [⟨tg,iter,ifs,0⟩] scope pos) scope X.env _ (newList []) false (eval iter X.env) (some (assign (.Name y py) X.env))) _ _ s
 refine ac (eW (om (use:=some (assign (.Name y py) X.env)) (Q:=λ_ s'=>SP X CI D0 .next s') rfl hs (zJ S IQ I) S.kind S.loc
  (xJ (RR:=λacc C=>compPost (model X.prog X.w) X.A X.xe (some (assign (.Name y py) X.env)) (λ_ s'=>SP X CI D0 .next s') acc C) (UE := "") hc S IQ hN hi hg ht he I h λD C H' s' I' f hm q=>?_))
  (λ_ s' hq=>ai (ai hq)) λ_ _ e=>e)
 obtain⟨m,hm⟩:=hm
 show wpAny _ _ (assign (.Name y py) X.env (.ref D)) _ _ s'
 refine wpAny_assign_Name (xq I' hNd JJ hy (v:=.ref D) rfl (λNC I'' IE=>?_) hf)
 obtain⟨a,hsb,ha⟩:=IE
 have nCa:C≠a:=by
  rintro rfl
  rcases ha with z | z
  ·exact f.2.1 z
  ·exact f.2.2.2.2.1 y C z rfl
 refine⟨m,hm.sameBut hsb nCa,λh' HA=>⟨_,H',I''.UI f HA,q⟩⟩
end
variable {t':Nat}
section
variable {X:Cx}{CI:fN}{σ:St}{H H':Hp}{s:Shared}{h':Heap}
theorem Inv.HL {ch:rL}{o:HO}(I:Inv X CI σ H s)(k:∀b u,b∉ch->s.heap.get? b=some u->h'.get? b=some u)(ht:∀b u,s.heap.get? b=some u->∃u',h'.get? b=some u')(hf:∀b∈ch,lr X CI H b)
  (hp:s.heap.objs.size<=a) (new:Dx X.prog X.w X.K (upd H a o) h' a o):Inv X CI σ (upd H a o) { s with heap:=h',toks:=t' }:=by
 have hn:H a=none:=I.C8.fresh hp
 have N3:∀b u,H b=some u->b∉ch:=λb u e hb=>by
  rw[(hf b hb).1] at e;cases e
 have na:∀b u,s.heap.get? b=some u->b≠a:=λb u e=>cf (bS (aI e) hp)
 have hhok:F4 X.prog X.w X.K (upd H a o) h':=λb u e=>by
  by_cases hb:b=a
  ·subst hb;rw[bc] at e;cases e;exact new
  ·rw[aP hb] at e
   refine(I.C8 b u e).IJ (λc v hc q=>k c v ?_ q) (λc q=>by rw[aP (bI q hn)];exact q) λc xs q=>by rw[aP (bI q hn)];exact q
   rcases hc with rfl | hc
   ·exact N3 c u e
   ·exact N3 c _ hc
 refine I.step (g':=s.gens) (d':=s.drawn) (ch:=ch) (λb hb=>let ⟨_,f1,_,f4,f5,f6⟩:=hf b hb;⟨f4,f1,f5,f6⟩) (λb o _ _ hc e _=>k b o hc e) (λb o _ _ hc e _=>⟨o.slots,k b o hc e⟩)
  (λb o _ e n=>by rw[aP (na b o e)];exact n) (λb o _ e=>ht b o e) (λb xs q=>by rw[aP (bI q hn)];exact q) (λb u xs q=>by rw[aP (bI q hn)];exact q)
  (λb ps q=>⟨#[],by rw[aP (bI q hn),q];simp⟩) (λm hm=>?_) hhok I.bare
 obtain⟨oL,es,ep,ho,r⟩:=hm
 have nL:X.env.locals∉ch:=λhb=>(hf _ hb).2.1 rfl
 exact⟨oL,es,ep,k _ oL nL ho,r⟩
end
def Its (x:Str):It:=⟨λi _=>i < x.cps.size,λi H v H'=>H'=H/\∃c,x.cps[i]?=some c/\v=.str ⟨#[c]⟩,λi _=>i=x.cps.size⟩
variable {tg:Expr}
theorem zK (it:Addr)(x:Str)(t:Tok)(ty:String)(hty:["enumerate","zip","dict_itemiterator","dict_reverseitemiterator","odict_iterator","itertools.zip_longest","itertools.pairwise"].contains ty=false)
  (W:∀A:Around,A.handled=none->Walks P w A it [it] [it] x.cps.size (SignAt x) (λi h=>h.IsStrIter it ty x t i))
  (slf:∀(A:Around) (i:Nat) (s:Shared) (Q:dx) (E:dx),s.heap.IsStrIter it ty x t i->Q (.ref it) s->wpAny (model P w) A (pyIter (.ref it)) Q E s):
  Turn P w K tg (Its x) [it] it (λi h=>h.IsStrIter it ty x t i) where
 mem:=by simp
 obj:=λi h st b hb=>by
  have e:b=it:=by simpa using hb
  subst e
  obtain⟨o,e,c,d⟩:=st
  exact⟨o,e,λv z=>by rw[d] at z;cases z⟩
 keep:=λi h h' st k=>by
  obtain⟨o,e,r⟩:=st
  exact⟨o,k it (by simp) o e,r⟩
 item:=by
  intro X hP hw hK hc i CI s σ H E I hf st hg
  subst hP hw hK
  obtain⟨f0,f1,f2,f3,f4,f5⟩:=hf it (by simp)
  refine(W X.A (I.ok.hd hc)).item i s _ _ hg st λv h' tk hv IF kk=>?_
  obtain⟨c,u,hx,rfl⟩:=hv
  have I1:Inv X CI σ H { s with heap:=h',toks:=tk }:=I.turned (λb o hb e=>kk b o (by simpa using hb) e) f0 f1 f3 f4 f5
  obtain⟨o,e,cc,d⟩:=id IF
  exact⟨_,rfl,qK (s:={ s with heap:=h',toks:=tk }) e cc d hty ⟨.str ⟨#[c]⟩,H,I1,⟨u,rfl⟩,⟨rfl,c,hx,rfl⟩,IF,λb hb=>(hf b hb).1⟩⟩
 done:=by
  intro X hP hw hK hc i CI s σ H E I hf st hg
  subst hP hw hK
  obtain⟨f0,f1,f2,f3,f4,f5⟩:=hf it (by simp)
  have hg':i=x.cps.size:=hg
  subst hg'
  exact(W X.A (I.ok.hd hc)).done s _ _ st λh' tk kk=>⟨rfl,I.turned (λb o hb e=>kk b o (by simpa using hb) e) f0 f1 f3 f4 f5⟩
 self:=slf
variable {l:Expr}
section
variable {X:Cx}{tg:Expr}
def Wb (tl:TE):TI:=fun σ H R=>tl σ H λx H1=>∃z,x=.str z/\R (Its z) H1
theorem Ri {tl:TE}(hl:PE X l tl):PI X tg l (Wb tl):=by
 intro CI s σ H R I h
 refine DB (hl CI s σ H _ I h) ?_
 rintro v s1 ⟨x,H1,I1,r1,q1⟩
 obtain⟨z,e,q⟩:=q1
 subst e
 obtain⟨t,rfl⟩:=r1
 have fp:∀b∈[s1.heap.objs.size],lr X CI H1 b:=λb hb=>by
  have e:b=s1.heap.objs.size:=by simpa using hb
  subst e
  exact I1.HG (aT _) (I1.C8.fresh (aT _))
 cases ha:z.cps.all (· < 128)
 ·exact wpAny_pyIter_wide ha ⟨s1.heap.objs.size,[s1.heap.objs.size],_,_,H1,rfl,I1.kept (t':=s1.toks) λb o e=>ae _ e,zK _ z t "str_iterator" (by decide) (λA hA=>Walks.strWide hA _ z t) (λA i s Q E st h=>wpAny_pyIter_striter_wide st h),⟨_,am _ rfl,rfl,rfl⟩,fp,q⟩
 ·exact wpAny_pyIter_ascii ha ⟨s1.heap.objs.size,[s1.heap.objs.size],_,_,H1,rfl,I1.kept (t':=s1.toks) λb o e=>ae _ e,zK _ z t "str_ascii_iterator" (by decide) (λA hA=>Walks.strAscii hA _ z t) (λA i s Q E st h=>wpAny_pyIter_striter_ascii st h),⟨_,am _ rfl,rfl,rfl⟩,fp,q⟩
end
variable {h:Heap}
section
variable {X:Cx}
theorem Hc {bs:List Bool}{us:mA}(r:Vals (bs.map V.bl) us){v:Value}(e:us[i]?=some v):∃b,bs[i]?=some b/\v=.bool b:=by
 have hl:=r.length
 rw[af] at hl
 have hi:i < us.length:=(aw.mp e).1
 have hb:bs[i]?=some bs[i]:=al (by omega)
 obtain⟨u,h1,h2⟩:=r.get (i:=i) (x:=.bl bs[i]) (by rw[ar,hb] <;> rfl)
 rw[e] at h1
 cases h1
 exact⟨_,hb,h2⟩
theorem range_all {bs:List Bool}{n:Nat}(hn:n=bs.length):((List.range n).all λi=>(bs[i]?).getD true)=bs.all id:=by
 subst hn
 rw[iO]
 simp only[cq,b6,id]
 constructor
 ·intro h x hx
  obtain⟨i,hi,e⟩:=List.mem_iff_getElem.mp hx
  have:=h i hi
  rw[al hi] at this
  rw[← e]
  exact this
 ·intro h i hi
  rw[al hi]
  exact h _ (eR hi)
theorem kept_iter {o:Obj}(hk:∀b x,b∉[h.objs.size]->(h.push o).get? b=some x->h'.get? b=some x):∀b x,h.get? b=some x->h'.get? b=some x:=
 λb x e=>hk b x (λhm=>by rw[aE.mp hm] at e;exact em _ (aI e)) (ae _ e)
theorem J1 (hc:X.calm=true:=by rfl):DU X (.builtin "all") (λxs H Q=>∃(p:Addr) (bs:List Bool),xs=[.ref p]/\DL X.K H p (bs.map V.bl)/\Q (.bl (bs.all id)) H):=by
 intro CI s σ H xs us Q I r h
 obtain⟨l,bs,rfl,hq,q⟩:=h
 obtain⟨u,rfl,rx⟩:=vals1 r
 cases rx
 obtain⟨CL,r',pl,hz⟩:=I.list hq
 have hl:=pl.isList
 have hlen:=r'.length
 rw[af] at hlen
 have DS:l < s.heap.objs.size:=by obtain⟨_,e,_⟩:=hl;exact aI e
 have hh:=I.ok.hd hc
 refine call_all_walk (eC hl ?_)
 refine⟨s.heap.objs.size,[s.heap.objs.size,l],[s.heap.objs.size],CL.toArray.size,_,_,λi=>(bs[i]?).getD true,rfl,Walks.list (A:=X.A.in1) hh _ l (cf DS) CL.toArray,
  ⟨⟨_,am _ rfl,rfl,rfl⟩,hl.push _⟩,λi v s' Q' E' hP hQ=>?_,λh' tk hk=>?_⟩
 ·obtain⟨b,e,rfl⟩:=Hc r' (i:=i) (v:=v) (by simpa using hP)
  simp only[e,Option.getD_some] at hQ
  exact gl hQ
 ·refine⟨.bl (bs.all id),H,I.kept (kept_iter hk),?_,q⟩
  rw[range_all (by simp[hlen])]
  rfl
theorem wj (hc:X.calm=true:=by rfl):DU X (.type "list") (λxs H Q=>∃p kvs,xs=[.ref p]/\H p=some (.dK kvs)/\∀l,H l=none->Q (.ref l) (upd H l (.lst (kvs.map λkv=>kV kv.1)))):=by
 intro CI s σ H xs us Q I r h
 obtain⟨p,kvs,rfl,hp,q⟩:=h
 obtain⟨u,rfl,rx⟩:=vals1 r
 cases rx
 obtain⟨hz,lo,vs,rel,hD⟩:=Ma I.C8 hp
 obtain⟨o,es,ep,ho,hx,hd,hk,hpr,hn⟩:=hD
 have hlen:=rel.length
 refine W.kdl_call (W.kdl_dict (knd:=iQ X.prog X.w) (kvs:=vs) (ep:=ep) lo) (I.ok.hd hc) ⟨o,es,ho,hx,hd,hk,hpr,hn⟩ (by omega) λh' tk IH c' kk hS Y5=>?_
 have hv:Vals (kvs.map λkv=>kV kv.1) IH.toList:=by
  have gen:∀(l:List (Key×V)) (l2:List (Key×Value)) (us:mA),KV l l2->us.length=l2.length->(∀(j:Nat) (v:Value),us[j]?=some v->∃k x,l2[j]?=some (k,x)/\(iQ X.prog X.w).is k v=true)->Vals (l.map λkv=>kV kv.1) us:=by
   intro l
   induction l with
   | nil=>
    intro l2 us hr hl hu
    cases hr
    have:us=[]:=k9.mp hl
    subst this
    exact .nil
   | cons a r ih=>
    intro l2 us hr hl hu
    cases hr with
    | @cons _ b _ r2 h1 h2=>
     cases us with
     | nil=>simp at hl
     | cons v us=>
      obtain⟨k,x,e,hk⟩:=hu 0 v rfl
      have e':b=(k,x):=by simpa using e
      have ek:a.1=k:=by rw[h1.1,e']
      refine .cons ?_ (ih r2 us h2 (by simpa using hl) λj w e=>by simpa using hu (j+1) w (by simpa using e))
      show RelV (kV a.1) v
      rw[ek]
      rcases cF hk with ⟨i,t,rfl,rfl⟩ | ⟨x,t,rfl,rfl⟩
      ·exact⟨t,rfl⟩
      ·exact⟨t,rfl⟩
  refine gen kvs vs IH.toList rel (by rw[eS];exact Y5.1) λj v e=>Y5.2 j v (by rw[← ku];exact e)
 refine⟨.ref s.heap.objs.size,_,I.laid kk (aT _) (show Dx X.prog X.w X.K _ h' _ (.lst _) from ⟨?_,IH.toList,c',hv,?_⟩),rfl,q _ I.fresh⟩
 ·rw[af];omega
 ·simpa using hS
mutual
inductive Dt (K:W.Frag) (H:Hp):V->PyData->Prop
 | CY:Dt K H .CY .none
 | bl (b:Bool):Dt K H (.bl b) (.bool b)
 | int (i:Int):Dt K H (.int i) (.int i)
 | str (x:Str):Dt K H (.str x) (.str x)
 | lst {a:Addr}{xs:List V}{ds:List PyData}:DL K H a xs->OA K H xs ds->Dt K H (.ref a) (.list ds)
 | tup {a:Addr}{xs:List V}{ds:List PyData}:FI K H a xs->OA K H xs ds->Dt K H (.ref a) (.tuple ds)
inductive OA (K:W.Frag) (H:Hp):List V->List PyData->Prop
 | nil:OA K H [] []
 | cons {x:V}{xs:List V}{d:PyData}{ds:List PyData}:Dt K H x d->OA K H xs ds->OA K H (x::xs) (d::ds)
end
mutual
theorem Dt.reads {CI:fN}{σ:St}{H:Hp}{s:Shared}(I:Inv X CI σ H s):∀{x:V}{d:PyData}{u:Value},Dt X.K H x d->RelV x u->∃as,Reads s.heap u d as
 | _,_,_,.CY,r=>by cases r;exact⟨[],.none⟩
 | _,_,_,.bl b,r=>by cases r;exact⟨[],.bool b⟩
 | _,_,_,.int i,r=>by obtain⟨t,rfl⟩:=r;exact⟨[],.int i t⟩
 | _,_,_,.str x,r=>by obtain⟨t,rfl⟩:=r;exact⟨[],.str x t⟩
 | _,_,_,.lst hq hs,r=>by
  cases r
  obtain⟨CL,rv,pl,_⟩:=I.list hq
  obtain⟨o,e,c,n,d⟩:=pl.isList
  obtain⟨as,ra⟩:=OA.reads I hs rv
  exact⟨_,.list e c d (by simpa using ra)⟩
 | _,_,_,.tup hq hs,r=>by
  cases r
  obtain⟨CL,rv,pl,_⟩:=I.tuple hq
  obtain⟨o,e,c,n,d⟩:=pl
  obtain⟨as,ra⟩:=OA.reads I hs rv
  exact⟨_,.tuple e c d (by simpa using ra)⟩
theorem OA.reads {CI:fN}{σ:St}{H:Hp}{s:Shared}(I:Inv X CI σ H s):∀{xs:List V}{ds:List PyData}{us:mA},OA X.K H xs ds->Vals xs us->∃as,ReadsAll s.heap us ds as
 | _,_,_,.nil,r=>by cases r;exact⟨[],.nil⟩
 | _,_,_,.cons h hs,r=>by
  cases r with
  | cons r1 r2=>
   obtain⟨as,ra⟩:=Dt.reads I h r1
   obtain⟨bs,rb⟩:=OA.reads I hs r2
   exact⟨_,.cons ra rb⟩
end
theorem Rj (hu:X.A.units+64 < cLine):D5 X (compareOp .Eq) (λx y H Q=>∃d e,Dt X.K H x d/\Dt X.K H y e/\SeqAt.shaped d=true/\SeqAt.shaped e=true/\Q (.bl (PyData.eqv d e)) H):=by
 intro CI s σ H x y v u Q I rx ry h
 obtain⟨d,e,h1,h2,s1,s2,q⟩:=h
 obtain⟨as,ra⟩:=h1.reads I rx
 obtain⟨bs,rb⟩:=h2.reads I ry
 exact eq_dataH ra rb s1 s2 hu ⟨.bl _,H,I,rfl,q⟩
theorem Rk (hu:X.A.units+64 < cLine):D5 X (compareOp .NotEq) (λx y H Q=>∃d e,Dt X.K H x d/\Dt X.K H y e/\SeqAt.shaped d=true/\SeqAt.shaped e=true/\Q (.bl (!PyData.eqv d e)) H):=by
 intro CI s σ H x y v u Q I rx ry h
 obtain⟨d,e,h1,h2,s1,s2,q⟩:=h
 obtain⟨as,ra⟩:=h1.reads I rx
 obtain⟨bs,rb⟩:=h2.reads I ry
 exact ne_dataH ra rb s1 s2 hu ⟨.bl _,H,I,rfl,q⟩
theorem Cd:DU X (.builtin "isinstance") (λxs H Q=>∃x n t b,xs=[x,.ty n]/\GH X.K H x t/\W.kitOne X.K t (.type n)=some b/\Q (.bl b) H):=by
 intro CI s σ H xs us Q I r h
 obtain⟨x,n,t,b,rfl,ty,e,q⟩:=h
 obtain⟨u,w',rfl,r1,r2⟩:=vals2 r
 cases r2
 exact GF I r1 ty e λtk=>⟨.bl b,H,I.tok _,rfl,q⟩
end
structure MO (P:Program)(w:World)(K:W.Frag)(mg:Str->Option Value)(base:Heap)(k:Nat)(x:Str)(ps:rp)(sp:Sp):Prop where
 ex:∃f fd,EC P w K mg base LS k f fd ps sp/\Binds K fd ps []/\W.keepIn K (.ref f)=true/\mg x=some (.ref f)
theorem Rm {base:Heap}{k:Nat}{st:Stmt}{f:Addr}(F:I0 K x x st f fd)
  (hm:mg x=some (.ref f)) (hb:Binds K fd ps []) (G:EC P w K mg base LS k f fd ps sp):MO P w K mg base k x ps sp:=⟨f,fd,G,hb,F.kp,hm⟩
variable {p:Pos}{es:rl}
theorem Hd {k j:Nat}{e:Expr}{t:TA}(c:MO X.prog X.w X.K X.mg X.base k x ps sp)(hr:DD j X.A)(ha:PA X (e::es) t)(hle:k<=j:=by decide)(hg:Gl X x:=by rfl)
  (Ic:(x == ("__debug__" : Str))=false:=by decide) (he:starEach (e::es) X.env=(false,eval e X.env)::starEach es X.env:=by rfl) (FA:(backTo pos (starEach es X.env)).any (·.1)=false:=by rfl):
  PE X (.Call (.Name x p) (e::es) [] pos) (LQ sp [] E0 t):=by
 obtain⟨f,fd,G,hb,kp,hm⟩:=c.ex
 exact Ng G (hr.mono hle) hg hm kp hb .nil U8 ha Ic he FA
theorem bh {p:Addr}(h:H p=none)(o:HO):CS H (upd H p o):=λb u q=>by rw[aP (bI q h)];exact q
theorem CS.new {H':Hp}{p:Addr}(s:CS H H')(h:H' p=none)(o:HO):CS H (upd H' p o):=s.trans (bh h o)
theorem small {n:Nat}(h:n<=1000):n<=sizeLine:=i6 (G_ h)
theorem iT {n:Nat}(h:n<=1000000):n < sizeLine:=nK h (by decide)
noncomputable def sH (x:Str)(lo hi:Option Int):Str:=⟨((x.cps.toList.drop (HT.D9 x.length 0 lo)).take (HT.D9 x.length x.length hi - HT.D9 x.length 0 lo)).toArray⟩
theorem NB (lo hi:Option Int)(n:Nat):Builtin.Str.strSliceIndices lo hi 1 n=(List.range (HT.D9 n n hi - HT.D9 n 0 lo)).map (HT.D9 n 0 lo+·):=by
 rw[← sliceRange_one]
 unfold Builtin.Str.strSliceIndices
 have cl:∀(o:Option Int) (d:Nat),d<=n->(match o with | none=>(d:Int) | some i=>let i:=if i < 0 then i+(n:Int) else i;if (1:Int) > 0 then max 0 (min i (n:Int)) else max (-1) (min i ((n:Int) - 1)))=((HT.D9 n d o:Nat):Int):=λo d hd=>by
  cases o with
  | none=>rfl
  | some i=>exact zr i d n
 have c1:=cl lo 0 (c6 _)
 have c2:=cl hi n (aT _)
 simp only[show (1:Int) > 0 by decide,kA] at c1 c2 ⊢
 exact congr (b9 sliceRange c1) c2▸rfl
theorem J2 (x:Str)(t:Tok)(l u:Option (Int×Tok)){Q:dx}(hl:x.length<=sizeLine)
  (h:∀t' s',(s'=s\/s'={ s with toks:=s.toks+1 })->Q (.str (sH x (l.map (·.1)) (u.map (·.1))) t') s'):(sliceMade x t l u none).post Q s:=by
 unfold sliceMade slicePicked
 have e:Builtin.Str.strSliceIndices (l.map (·.1)) (u.map (·.1)) ((((none:Option (Int×Tok)).map (·.1)).getD 1)) x.length=_:=NB (l.map (·.1)) (u.map (·.1)) x.length
 rw[e]
 have hp:=pick_run x.cps (HT.D9 x.length 0 (l.map (·.1))) (HT.D9 x.length x.length (u.map (·.1)) - HT.D9 x.length 0 (l.map (·.1)))
 have hs:HT.D9 x.length x.length (u.map (·.1))<=x.length:=HT.WB _ _ (aT _) _
 have hc:x.length=x.cps.toList.length:=by simp[Str.length]
 by_cases hw:((((none:Option (Int×Tok)).map (·.1)).getD 1 == 1&&((List.range (HT.D9 x.length x.length (u.map (·.1)) - HT.D9 x.length 0 (l.map (·.1)))).map (HT.D9 x.length 0 (l.map (·.1))+·)).length == x.length)=true)
 ·rw[be hw]
  show Q (.str x t) s
  have hn:HT.D9 x.length x.length (u.map (·.1)) - HT.D9 x.length 0 (l.map (·.1))=x.length:=by
   have:=(bp _ _▸hw).2
   simpa using this
  have e2:sH x (l.map (·.1)) (u.map (·.1))=x:=by
   unfold sH
   rw[hn]
   by_cases h0:x.length=0
   ·have:x.cps.toList=[]:=mh (by omega)
    cases x with | mk c=>simp at this;subst this;simp
   ·have h1:HT.D9 x.length 0 (l.map (·.1))=0:=by omega
    rw[h1,fR,hc,oB]
  have:=h t s (.inl rfl)
  rw[e2] at this
  exact this
 ·rw[a7 hw,hp]
  refine⟨?_,h _ _ (.inr rfl)⟩
  show ((x.cps.toList.drop _).take _).toArray.size<=sizeLine
  rw[a6,dv,fE,← hc]
  omega
section
variable {X:Cx}
def Rn:V->Option Int->Option Int->Hp->VK->Prop:=λx lo hi H Q=>∃z,x=.str z/\z.length<=sizeLine/\Q (.str (sH z lo hi)) H
theorem Ro:UC X Rn:=by
 intro CI s σ H x v vl vu lo hi sl Q I rx hs pl pu h
 obtain⟨z,rfl,hz,q⟩:=h
 obtain⟨t,rfl⟩:=rx
 refine⟨"str",_,slot_str_getitem.lookup,typeIs_str s z t,?_⟩
 have part:∀{v:Value}{o:Option Int},IsPart v o->∃p:Option (Int×Tok),v=partValue p/\p.map (·.1)=o:=λp=>by
  cases p with
  | none=>exact⟨none,rfl,rfl⟩
  | int i t=>exact⟨some (i,t),rfl,rfl⟩
 obtain⟨l,rfl,rfl⟩:=part pl
 obtain⟨u,rfl,rfl⟩:=part pu
 refine wpAny_getItem_str_slice (l:=l) (u:=u) (st:=none) hs rfl (J2 z t l u hz λt' s' HA=>?_)
 rcases HA with rfl | rfl
 ·exact⟨.str (sH z (l.map (·.1)) (u.map (·.1))),H,I,⟨t',rfl⟩,q⟩
 ·exact⟨.str (sH z (l.map (·.1)) (u.map (·.1))),H,I.tok _,⟨t',rfl⟩,q⟩
def Rp (K:W.Frag):V->Option Int->Option Int->Hp->VK->Prop:=λx lo hi H Q=>Rb K x lo hi H Q\/Rn x lo hi H Q
theorem Rq:UC X (Rp X.K):=Sa.or Ro
end
section
variable {X:Cx}{CI:fN}{σ:St}{H H':Hp}{s:Shared}{h':Heap}
theorem Inv.Me {ch:rL}(I:Inv X CI σ H s)(k:∀b u,b∉ch->s.heap.get? b=some u->h'.get? b=some u)(hf:∀b∈ch,lr X CI H b):Inv X CI σ H { s with heap:=h',toks:=t' }:=by
 have N3:∀b u,H b=some u->b∉ch:=λb u e hb=>by
  rw[(hf b hb).1] at e;cases e
 refine I.step (g':=s.gens) (d':=s.drawn) (ch:=ch) (λb hb=>let ⟨_,f1,_,f4,f5,f6⟩:=hf b hb;⟨f4,f1,f5,f6⟩) (λb o _ _ hc e _=>k b o hc e) (λb o _ _ hc e _=>⟨o.slots,k b o hc e⟩)
  (λ_ _ _ _ n=>n) (λb o hc e=>⟨o,k b o hc e⟩) (λ_ _ e=>e) (λ_ _ _ e=>e) (λb ps e=>⟨#[],by rw[e];simp⟩) (λm hm=>?_) (λb u e=>?_) I.bare
 ·obtain⟨oL,es,ep,ho,r⟩:=hm
  have nL:X.env.locals∉ch:=λhb=>(hf _ hb).2.1 rfl
  exact⟨oL,es,ep,k _ oL nL ho,r⟩
 ·refine(I.C8 b u e).IJ (λc v hc q=>k c v ?_ q) (λ_ q=>q) λ_ _ q=>q
  rcases hc with z | z
  ·rw[z];exact N3 b u e
  ·exact N3 c _ z
end
variable {ta:TA}
section
variable {X:Cx}
noncomputable def wu (n:Nat):List V:=(List.range n).map λi=>.int (i:Nat)
theorem zM:∀(n k:Nat) (l:mA),l.length=n->(∀(j:Nat) v,l[j]?=some v->∃t,v=.int ((k+j:Nat):Int) t)->Vals ((List.range' k n).map λi=>V.int (i:Nat)) l
 | 0,k,l,h,_=>by
  have:=mh h
  subst this
  exact .nil
 | n+1,k,l,h,hv=>by
  cases l with
  | nil=>cases h
  | cons v l=>
   rw[List.range'_succ,ap]
   refine .cons ?_ (zM n (k+1) l (by simpa using h) λj u hu=>?_)
   ·obtain⟨t,e⟩:=hv 0 v rfl
    exact⟨t,e⟩
   ·obtain⟨t,e⟩:=hv (j+1) u (by simpa using hu)
    exact⟨t,by rw[e];congr 1;omega⟩
def Rr (ta:TA):TE:=fun σ H Q=>ta σ H λvs H1=>∃n:Nat,vs=[.int (n:Nat)]/\n<=1000000/\∀l,H1 l=none->Q (.ref l) (upd H1 l (.lst (wu n)))
theorem J3 {a:Expr}{p2 DJ:Pos}(hg:Gl X "list")(hm:X.mg "list" = none)(OB:Gl X "range")(OC:X.mg "range" = none)(hc:X.calm=true)(ha:PA X [a] ta)(hs:starEach [a] X.env=[(false,eval a X.env)]:=by rfl)
  (Fh:starEach [.Call (.Name "range" p2) [a] [] DJ] X.env=(false,eval (.Call (.Name "range" p2) [a] [] DJ) X.env)::starEach [] X.env:=by rfl) (FA:(backTo pos (starEach [] X.env)).any (·.1)=false:=by rfl):
  PE X (.Call (.Name "list" p) [.Call (.Name "range" p2) [a] [] DJ] [] pos) (Rr ta):=by
 intro CI s σ H Q I h
 refine gE (dZ I hg hm kl ?_ (by decide) (by decide))
 refine bv ?_ Fh FA
 rw[Fh]
 show wpAny _ _ (spliced ((false,eval (.Call (.Name "range" p2) [a] [] DJ) X.env)::backTo pos (starEach [] X.env))) _ _ s
 refine f7 ?_
 refine Call_ (dZ I OB OC PyProof.Rows.boot_range (bv (DB (ha DJ CI s σ H _ I h) ?_) hs rfl))
 rintro us s1 ⟨vs,H1,I1,r1,q1⟩
 obtain⟨n,e,hn,q⟩:=q1
 subst e
 cases r1 with
 | cons r rr=>
  cases rr
  obtain⟨t,rfl⟩:=r
  refine call_range_1 (i7 ?_)
  have h64:(2 ^ 62:Int)=4611686018427387904:=by decide
  refine call_list_range (n:=n) (I1.ok.hd hc) (IsRange.new ..) (small_one (by omega) (by omega) (by omega) (by omega)) (by rw[rangeSize_one];split <;> omega) (by omega) λh' tk IH c' kp e it=>?_
  obtain⟨i1,i2⟩:=it
  have hv:Vals (wu n) IH.toList:=by
   have:=zM n 0 IH.toList (by simpa using i1) λj v hj=>by
    obtain⟨t,e⟩:=i2 j v (by simpa using hj)
    exact⟨t,by rw[e];congr 1;omega⟩
   unfold wu
   rw[qh]
   exact this
  have I2:=I1.laid (a:=s1.heap.objs.size+1) (o:=.lst (wu n)) (h':=h') (t':=tk) (λb o eb=>kp b o (ae _ eb)) (by omega)
   (show Dx X.prog X.w X.K _ h' _ (.lst (wu n)) from ⟨(by unfold wu;rw[af,i8];exact i6 (iT hn)),IH.toList,c',hv,by
    have:=e
    rw[cE] at this
    simpa using this⟩)
  refine⟨.ref (s1.heap.objs.size+1),_,I2,?_,q _ (I1.C8.fresh (by omega))⟩
  show Value.ref _=Value.ref _
  rw[cE]
end
theorem Hf:typeLookup (.type "list_reverseiterator") "__len__" = pure none:=by rw[hU,eT];kernel_rfl
theorem J4:typeLookup (.type "list_reverseiterator") "__length_hint__" = pure (some (.builtin "list_reverseiterator.__length_hint__")):=by rw[hU,eT];kernel_rfl
variable {items:rV}
section
variable {prog:Program}{w:World}{A:Around}{E:dx}{s:Shared}
theorem Es {J l N:Addr}{c₀:Nat}(hh:A.handled=none)(hit:s.heap.IsRevIter J l ((items.size:Int) - 1))(hl:s.heap.IsList l items)(hlJ:l≠J)(hNJ:N≠J)(hNl:N≠l)(hn:items.size<=sizeLine)
  (hN:s.heap.get? N=some { cls:=.type "list",data:=.seq #[] c₀ })
  (hR:∀h' tk acc c,(∀b o,b≠J->b≠N->s.heap.get? b=some o->h'.get? b=some o)->h'.get? N=some { cls:=.type "list",dict:=none,data:=.seq acc c,slots:=#[] }->ItemsOf (λi v=>items[items.size - 1 - i]?=some v) acc items.size->R (.ok (.ret .none)) { s with heap:=h',toks:=tk }):
  wpAny (model prog w) A.in1 (Builtin.List.listExtendWith (.ref N) (.ref J) .none)
   (λfin s'=>match fin with | .done f=>R (.ok f) s' | .again c'=>c'.quiet=true/\codeAny (model prog w) A c' R s') (λe s'=>R (.error e) s') s:=by
 have W:=(Walks.listRev (prog:=prog) (w:=w) (A:=A.in1) hh J l hlJ items).toS
 have st0:(0:Nat)<=items.size/\s.heap.IsRevIter J l ((items.size:Int) - 1 - ((0:Nat):Int))/\s.heap.IsList l items:=⟨c6 _,by simpa using hit,hl⟩
 unfold Builtin.List.listExtendWith
 have hr:Builtin.List.listSameRef (.ref N) (.ref J)=false:=by simp[Builtin.List.listSameRef,hNJ]
 refine ac (wpAny_typeOf hit.typeIs ?_);rw[a7 (by rw[hr];decide)]
 refine ac (mr hit (ac (df ?_)))
 unfold Builtin.List.listLengthHint
 refine ac (gv hit.typeIs Hf ?_)
 show wpAny _ A.in1 (specialOf (Value.ref J) (Str.ofString "__length_hint__") >>= _) _ _ _
 refine ac (gv hit.typeIs J4 ?_)
 (generalize HI:("list_reverseiterator.__length_hint__" : String)=nm;(fail_if_success (clear HI nm));wp_delta;rw[show splitId nm=some ("list_reverseiterator","__length_hint__") from by subst HI;decide +kernel];subst HI)
 refine ac (gy (b:=true) hit.typeIs (by rw[kH];kernel_rfl) (ai ?_))
 rw[a7 (by decide)]
 have hNf:N∉[J,l]:=by simp[hNJ,hNl]
 refine ai ⟨l5 jv _,codeAny_extend_loopS W hn N hNf .none items.size 0 _ _ _ rfl (c6 _) st0 hN (ItemsOf.nil _) λs' acc c hm hN' it=>?_⟩
 rw[Moved.eq_with hm]
 exact hR s'.heap s'.toks acc c (λb o h1 h2 e=>hm.heap b o (by simp[h1,h2]) e) hN' it
theorem yr {J l:Addr}{Q:dx}(hh:A.handled=none)(hit:s.heap.IsRevIter J l ((items.size:Int) - 1))(hl:s.heap.IsList l items)(hlJ:l≠J)(hn:items.size<=sizeLine)
  (hQ:∀h' tk acc c,(∀b o,b≠J->s.heap.get? b=some o->h'.get? b=some o)->h'.get? s.heap.objs.size=some { cls:=.type "list",dict:=none,data:=.seq acc c,slots:=#[] }->ItemsOf (λi v=>items[items.size - 1 - i]?=some v) acc items.size->Q (.ref s.heap.objs.size) { s with heap:=h',toks:=tk }):
  wpAny (model prog w) A (call (.type "list") [.ref J]) Q E s:=by
 have lt:∀{b:Addr}{o:Obj},s.heap.get? b=some o->b≠s.heap.objs.size:=λe=>cf (aI e)
 have nJ:J≠s.heap.objs.size:=let ⟨_,e,_⟩:=hit;lt e
 have nl:l≠s.heap.objs.size:=let ⟨_,e,_⟩:=hl;lt e
 refine callType_codes (Q₁:=λx t=>x=.ref s.heap.objs.size/\t={ s with heap:=s.heap.push { cls:=.type "list",data:=.seq #[] } }) F.called_list (F.typeCall_list_1 _) F.entry_list_init (code_list_new _ ⟨rfl,rfl⟩) λx t ht=>?_
 obtain⟨rfl,rfl⟩:=ht
 have hN:(s.heap.push { cls:=.type "list",data:=.seq #[] }).get? s.heap.objs.size=some { cls:=.type "list",data:=.seq #[] }:=am _ rfl
 refine⟨⟨_,hN,rfl⟩,F.args_list_init_2 _ _,?_⟩
 generalize hS:s.heap.objs.size=N at *
 have up:∀b o,b≠N->s.heap.get? b=some o->((s.heap.push { cls:=.type "list",data:=.seq #[] }).update N (Obj.mapSeq (λ_=>(#[]:rV)))).get? b=some o:=λb o hb e=>(eg _ _ (gx hb)).trans (ae _ e)
 show wpAny _ A.in1.in1 (do let old ← Builtin.List.listItems (.ref N);Builtin.List.listUpdate (.ref N) (λ_=>#[]);letGo old.toList.reverse;Builtin.List.listExtendWith (.ref N) (.ref J) .none) _ _ _
 refine ac ?_;unfold Builtin.List.listItems
 refine ac (ff hN rfl (ai ?_))
 show wpAny _ A.in1.in1 (updateSeq N (λ_=>#[]) >>= λ_=>letGo (#[]:rV).toList.reverse >>= λ_=>Builtin.List.listExtendWith (.ref N) (.ref J) .none) _ _ _
 refine ac (kX hN rfl (ac (l7 ?_)))
 have hN2:=c5 (Obj.mapSeq (λ_=>(#[]:rV))) hN rfl
 refine Es (A:=A.in1) hh (hit.at λo e=>up J o nJ e) (hl.at λo e=>up l o nl e) hlJ (gx nJ) (gx nl) hn hN2 λh' tk acc c k e it=>⟨rfl,hQ h' tk acc c (λb o hb eb=>k b o hb (hS▸lt eb) (up b o (hS▸lt eb) eb)) e it⟩
end
def Itv (K:W.Frag)(a:Addr)(n:Nat):It:=
 ⟨λi H=>∃xs x,DL K H a xs/\xs.length=n/\i < n/\xs[n - 1 - i]?=some x,λi H x H'=>H'=H/\∀xs,DL K H a xs->xs[n - 1 - i]?=some x,λi _=>n=i⟩
theorem J5 (a it:Addr)(n:Nat):Turn P w K tg (Itv K a n) [it] it (λi h=>h.IsRevIter it a ((n:Int) - 1 - ((i:Nat):Int))) where
 mem:=by simp
 obj:=λi h st b hb=>by
  obtain⟨o,e,c,d⟩:=st
  exact⟨o,by rw[aE.mp hb];exact e,λv z=>by rw[d] at z;cases z⟩
 keep:=λi h h' st k=>st.at λo e=>k it ah o e
 item:=by
  intro X hP hw hK hc i CI s σ H E I hf st hg
  subst hP hw hK
  obtain⟨xs,x,hq,hlen,DS,hx⟩:=hg
  obtain⟨CL,rv,p,hz⟩:=I.list hq
  obtain⟨u,hu,ru⟩:=rv.get hx
  obtain⟨f0,f1,f2,f3,f4,f5⟩:=hf it ah
  have e1:(n:Int) - 1 - ((i:Nat):Int)=((n - 1 - i:Nat):Int):=by omega
  have UH:=st
  rw[e1] at UH
  refine wpAny_pyNext_rev_item UH p.isList (x:=u) (by simpa using hu) λh' IF sb=>?_
  have e2:((n - 1 - i:Nat):Int) - 1=(n:Int) - 1 - ((i+1:Nat):Int):=by omega
  rw[e2] at IF
  obtain⟨o,e,c,d⟩:=id IF
  exact⟨u,rfl,qK (s:={ s with heap:=h' }) e c d (by decide) ⟨x,H,I.turned (t':=s.toks) (λb o hb q=>(sb.2 b hb).trans q) f0 f1 f3 f4 f5,ru,⟨rfl,λys hy=>by rw[I.HZ hy hq];exact hx⟩,IF,λb hb=>(hf b hb).1⟩⟩
 done:=by
  intro X hP hw hK hc i CI s σ H E I hf st hg
  subst hP hw hK
  obtain⟨f0,f1,f2,f3,f4,f5⟩:=hf it ah
  have hg':n=i:=hg
  have e1:(n:Int) - 1 - ((i:Nat):Int)=-1:=by omega
  rw[e1] at st
  exact wpAny_pyNext_rev_end (I.ok.hd hc) st λh' eb=>⟨rfl,I.turned (t':=s.toks) (λb o hb q=>eb b o hb q) f0 f1 f3 f4 f5⟩
 self:=λ_ _ _ _ _ st h=>mr st h
section
variable {X:Cx}{tg:Expr}
def Wc (K:W.Frag)(ta:TA):TI:=fun σ H R=>ta σ H λvs H1=>∃a xs,vs=[.ref a]/\DL K H1 a xs/\R (Itv K a xs.length) H1
theorem Rt (hg:Gl X "reversed")(hm:X.mg "reversed" = none)(ha:PA X [l] ta)(hb:bootBuiltins "reversed" = some (.type "reversed"))(hs:starEach [l] X.env=(false,eval l X.env)::starEach [] X.env:=by rfl)(hp:(backTo pos (starEach [] X.env)).any (·.1)=false:=by rfl):
  PI X tg (.Call (.Name "reversed" p) [l] [] pos) (Wc X.K ta):=by
 intro CI s σ H R I h
 refine Call_ (dZ I hg hm hb (bv (DB (ha pos CI s σ H _ I h) ?_) hs hp))
 rintro us s1 ⟨vs,H1,I1,r1,q1⟩
 obtain⟨a,xs,e,hq,q⟩:=q1
 subst e
 obtain⟨u,rfl,ru⟩:=vals1 r1
 cases ru
 obtain⟨CL,rv,p,hz⟩:=I1.list hq
 refine call_reversed_list p.isList ?_
 have hlen:=rv.length
 have ez:((CL.toArray.size:Nat):Int) - 1=(xs.length:Int) - 1 - ((0:Nat):Int):=by rw[a6];omega
 rw[ez]
 refine mr ⟨_,am _ rfl,rfl,rfl⟩ ⟨s1.heap.objs.size,[s1.heap.objs.size],_,_,H1,rfl,I1.kept (t':=s1.toks) λb o e=>ae _ e,J5 a _ xs.length,⟨_,am _ rfl,rfl,rfl⟩,λb hb=>?_,q⟩
 rw[aE.mp hb]
 exact I1.HG (aT _) (I1.C8.fresh (aT _))
theorem Hg {xs:List V}{CL:mA}(r:Vals xs CL)(acc:mA)(hl:acc.length=CL.length)(h:∀(i:Nat) v,acc[i]?=some v->CL[CL.length - 1 - i]?=some v):Vals xs.reverse acc:=by
 have e:acc=CL.reverse:=by
  refine kB λi=>?_
  rcases ef i acc.length with hi | hi
  ·have:=h i acc[i] (al hi)
   rw[al hi,pE (by omega),this]
  ·rw[bo hi,bo (by rw[jS];omega)]
 rw[e]
 exact r.reverse
def Ru (K:W.Frag)(ta:TA):TE:=fun σ H Q=>ta σ H λvs H1=>∃a xs,vs=[.ref a]/\DL K H1 a xs/\∀l,H1 l=none->Q (.ref l) (upd H1 l (.lst xs.reverse))
theorem J6 {a:Expr}{p2 DJ:Pos}(hg:Gl X "list")(hm:X.mg "list" = none)(OB:Gl X "reversed")(OC:X.mg "reversed" = none)(hb:bootBuiltins "reversed" = some (.type "reversed"))(hc:X.calm=true)(ha:PA X [a] ta)(hs:starEach [a] X.env=(false,eval a X.env)::starEach [] X.env:=by rfl)(Kj:(backTo DJ (starEach [] X.env)).any (·.1)=false:=by rfl)
  (Fh:starEach [.Call (.Name "reversed" p2) [a] [] DJ] X.env=(false,eval (.Call (.Name "reversed" p2) [a] [] DJ) X.env)::starEach [] X.env:=by rfl) (FA:(backTo pos (starEach [] X.env)).any (·.1)=false:=by rfl):
  PE X (.Call (.Name "list" p) [.Call (.Name "reversed" p2) [a] [] DJ] [] pos) (Ru X.K ta):=by
 intro CI s σ H Q I h
 refine gE (dZ I hg hm kl (bv ?_ Fh FA) (by decide) (by decide))
 rw[Fh]
 show wpAny _ _ (spliced ((false,eval (.Call (.Name "reversed" p2) [a] [] DJ) X.env)::backTo pos (starEach [] X.env))) _ _ s
 refine f7 (Call_ (dZ I OB OC hb (bv (DB (ha DJ CI s σ H _ I h) ?_) hs Kj)))
 rintro us s1 ⟨vs,H1,I1,r1,q1⟩
 obtain⟨a,xs,e,hq,q⟩:=q1
 subst e
 obtain⟨u,rfl,ru⟩:=vals1 r1
 cases ru
 obtain⟨CL,rv,pl,hz⟩:=I1.list hq
 have hlen:=rv.length
 have DS:a≠s1.heap.objs.size:=let ⟨_,e,_⟩:=pl.isList;cf (aI e)
 refine call_reversed_list pl.isList (i7 ?_)
 refine yr (I1.ok.hd hc) ⟨_,am _ rfl,rfl,rfl⟩ (pl.isList.at λo e=>ae _ e) DS (by rw[a6];omega) λh' tk acc c k e it=>?_
 obtain⟨i1,i2⟩:=it
 rw[a6] at i1
 have hv:Vals xs.reverse acc.toList:=Hg rv acc.toList (by simpa using i1) λi v hi=>by
  have:=i2 i v (by simpa using hi)
  simpa using this
 have I2:=I1.laid (a:=s1.heap.objs.size+1) (o:=.lst xs.reverse) (h':=h') (t':=tk) (λb o eb=>k b o (cf (aI eb)) (ae _ eb)) (by omega)
  (show Dx X.prog X.w X.K _ h' _ (.lst xs.reverse) from ⟨(by rw[jS];exact hz),acc.toList,c,hv,by
   have:=e
   rw[cE] at this
   simpa using this⟩)
 refine⟨.ref (s1.heap.objs.size+1),_,I2,?_,q _ (I1.C8.fresh (by omega))⟩
 show Value.ref _=Value.ref _
 rw[cE]
end
section
variable {X:Cx}{tg:Expr}
def Rv (K:W.Frag):V->List V->Hp->VK->Prop:=λx vs H Q=>∃y d ds j,vs=[y]/\Dt K H x (.list ds)/\Dt K H y d/\PyData.canLayAll0 ds=true/\d.canLay0=true/\d.depth<=32/\(∃e,ds[j]?=some e/\PyData.eqv e d=true)/\(∀m e,m < j->ds[m]?=some e->PyData.eqv e d=false)/\j<=1000000/\Q (.int (j:Nat)) H
theorem J7 (hu:X.A.units+64 < cLine):MtR X "list.index" (Rv X.K):=by
 intro CI s σ H x vs v us Q I rx rv h
 obtain⟨y,d,ds,j,rfl,h1,h2,c1,c2,c3,⟨e0,hj,he⟩,hno,hj6,q⟩:=h
 obtain⟨u,rfl,ru⟩:=rv.one
 obtain⟨as,ra⟩:=h1.reads I rx
 obtain⟨bs,rb⟩:=h2.reads I ru
 cases ra with
 | @list a o CL n _ as g1 g2 g3 g4=>
  have mp:=SeqAt.readsAll_map ds CL.toList _ c1 g4
  have look:∀{m:Nat}{e:PyData},ds[m]?=some e->∃hm:m < CL.size,SeqAt.readOf s.heap CL[m]=e:=λ{m e} hm=>by
   rw[← mp,ar] at hm
   rcases ef m CL.toList.length with z | z
   ·rw[al z] at hm
    exact⟨by simpa using z,by simpa using hm⟩
   ·rw[bo z] at hm;cases hm
  obtain⟨Yl,hje⟩:=look hj
  obtain⟨cl,dd,da,sl⟩:=o
  simp only at g2 g3
  subst g2 g3
  refine oP F.slot_list_index ⟨_,g1,rfl⟩ F.entry_list_index (F.args_list_index_2 _ _) (SeqAt.list_indexAt a CL n dd sl u (λz=>PyData.eqv (SeqAt.readOf s.heap z) d) j Yl (by omega) (by rw[hje];exact he) λm hm WS=>?_) ⟨g1,SeqAt.items_eqAt g4 rb c1 c2 ?_,?_⟩
  ·have MQ:ds[m]?=some (SeqAt.readOf s.heap CL[m]):=by
    rw[← mp,ar,al (by simpa using hm)]
    simp
   exact hno m _ WS MQ
  ·have hmin:min (PyData.depthAll ds) d.depth<=d.depth:=kM _ _
   show X.A.units+1+min (PyData.depthAll ds) d.depth < cLine
   omega
  ·exact⟨.int (j:Nat),H,I.tok _,⟨_,rfl⟩,q⟩
end
variable {it b:Addr}
section
variable {prog:Program}{w:World}{A:Around}{E:dx}{s:Shared}
theorem nextT {t:Addr}{x:Value}{Q:dx}(hit:s.heap.IsTupleIter it t i)(ht:s.heap.IsTuple t items)(hx:items[i]?=some x)
  (hQ:∀h',h'.IsTupleIter it t (i+1)->Heap.SameBut it s.heap h'->Q x { s with heap:=h' }):wpAny (model prog w) A (Builtin.SmallTypes.nextOf (.ref it)) Q E s:=by
 obtain⟨o,eo,co,fo⟩:=id hit
 obtain⟨p,ep,_,np,dp⟩:=ht
 unfold Builtin.SmallTypes.nextOf
 refine ac (bX (name:=Str.ofString "__next__") hit.typeIs iq (cb iq hit.typeIs nh ?_ (mI _)))
 show wpAny _ _ (field (.ref it) 0 >>= _) _ _ _
 refine ac (cy eo fo (x:=.ref t) rfl ?_)
 show wpAny _ _ (if (Value.ref t == Value.none)=true then _ else _) _ _ _
 rw[a7 (λz:(Value.ref t == Value.none)=true=>bi z)]
 show wpAny _ _ (field (.ref it) 1 >>= _) _ _ _
 refine ac (cy eo fo (x:=.int i 0) rfl ?_)
 show wpAny _ _ (seqItems? (.ref t) >>= _) _ _ _
 refine ac (ff ep dp ?_);simp only[fF,hx]
 refine ac (im eo fo (by simp) (ai ⟨x,rfl,ai (hQ _ ⟨_,c5 _ eo (kr (fT fo _)),(nX ..).trans co,?_⟩ (cm ..))⟩))
 rw[fT fo]
 simp[rawInt]
theorem Hh {t:Addr}{Q:dx}(hh:A.handled=none)(hit:s.heap.IsTupleIter it t i)(ht:s.heap.IsTuple t items)(hx:items[i]?=none)
  (hE:∀h' e,Heap.ExtBut it s.heap h'->(∃o,h'.get? e=some o/\o.cls=.type "StopIteration")->E (.ref e) { s with heap:=h' }):wpAny (model prog w) A (Builtin.SmallTypes.nextOf (.ref it)) Q E s:=by
 obtain⟨o,eo,co,fo⟩:=id hit
 obtain⟨p,ep,_,np,dp⟩:=ht
 unfold Builtin.SmallTypes.nextOf
 refine ac (bX (name:=Str.ofString "__next__") hit.typeIs iq (cb iq hit.typeIs nh ?_ (mI _)))
 show wpAny _ _ (field (.ref it) 0 >>= _) _ _ _
 refine ac (cy eo fo (x:=.ref t) rfl ?_)
 show wpAny _ _ (if (Value.ref t == Value.none)=true then _ else _) _ _ _
 rw[a7 (λz:(Value.ref t == Value.none)=true=>bi z)]
 show wpAny _ _ (field (.ref it) 1 >>= _) _ _ _
 refine ac (cy eo fo (x:=.int i 0) rfl ?_)
 show wpAny _ _ (seqItems? (.ref t) >>= _) _ _ _
 refine ac (ff ep dp ?_);simp only[fF,hx]
 refine ac (lT (ac (im eo fo (by simp) ?_)))
 show wpAny _ _ (newExc (.type "StopIteration") [] >>= _) _ _ _
 refine ac ?_;simp only[newExc,newTuple]
 refine ac (dy (ac (m:=firstArgMember _ _) (iX (a:=Value.none) (by first | rfl | (simp only[firstArgMember];rfl)) (dy ?_ (by size_fits)))) (by size_fits))
 simp only[raiseNew]
 refine ac (oi ?_);rw[hh]
 refine ac (ai (p9 ?_))
 exact hE _ _ (((cm ..).extBut.push _).push _) ⟨_,am _ rfl,rfl⟩
theorem Rw (hh:A.handled=none)(it t:Addr)(EF:t≠it)(items:rV):Draws prog w A it [it,t] items.size (λi v=>items[i]?=some v) (λi h=>h.IsTupleIter it t i/\h.IsTuple t items) where
 live:=λi h st=>let ⟨o,e,_⟩:=st.1;⟨o,e⟩
 frame:=λi h h' st k=>⟨st.1.at λo e=>k it (by simp) o e,let ⟨o,e,c⟩:=st.2;⟨o,k t (by simp) o e,c⟩⟩
 item:=λi s Q E hi st hQ=>nextT st.1 st.2 (cp hi) λh' a b=>hQ _ h' s.toks (cp hi) ⟨a,let ⟨o,e,c⟩:=st.2;⟨o,(b.2 t EF).trans e,c⟩⟩ b
 done:=λs Q E st hE=>Hh hh st.1 st.2 (ic (aT _)) hE
structure ZA (z TI TO i1 i2:Addr)(MU MV:rL):Prop where
 TIz:TI≠z
 TOz:TO≠z
 TIO:TI≠TO
 m1:i1∈MU
 m2:i2∈MV
 z1:z∉MU
 z2:z∉MV
 o1:TO∉MU
 o2:TO∉MV
 x12:i1∉MV
 x21:i2∉MU
variable {z TI TO i1 i2:Addr}{MU MV:rL}{n1 n2:Nat}{P1 P2:Nat->Value->Prop}{WU UK:Nat->Heap->Prop}
theorem ZA.i1z (D:ZA z TI TO i1 i2 MU MV):i1≠z:=λe=>D.z1 (e▸D.m1)
theorem ZA.i2z (D:ZA z TI TO i1 i2 MU MV):i2≠z:=λe=>D.z2 (e▸D.m2)
theorem ZA.i1o (D:ZA z TI TO i1 i2 MU MV):i1≠TO:=λe=>D.o1 (e▸D.m1)
theorem ZA.i2o (D:ZA z TI TO i1 i2 MU MV):i2≠TO:=λe=>D.o2 (e▸D.m2)
theorem f9 {fp:rL}(hs:Heap.SameBut b h h')(hb:b∉fp):∀c∈fp,∀o,h.get? c=some o->h'.get? c=some o:=λc hc o e=>(hs.2 c (λq=>hb (q▸hc))).trans e
theorem xK {k:Nat}{a b:Value}{Q:dx}(D:ZA z TI TO i1 i2 MU MV)(D1:Draws prog w A i1 MU n1 P1 WU)(D2:Draws prog w A i2 MV n2 P2 UK)(hz:IsZip s.heap z TI TO .none)(EX:IsPair s.heap TI (.ref i1) (.ref i2))(FX:IsPair s.heap TO a b)
  (t1:WU k s.heap) (t2:UK k s.heap) (k1:k < n1) (k2:k < n2)
  (hQ:∀h' tk x y,P1 k x->P2 k y->IsZip h' z TI TO (rawInt s.heap.objs.size)->IsPair h' TO x y->WU (k+1) h'->UK (k+1) h'->IsPair h' s.heap.objs.size x y->h'.objs.size=s.heap.objs.size+1->
   (∀c o,c≠z->c≠TO->c≠i1->c≠i2->s.heap.get? c=some o->h'.get? c=some o)->Q (.ref s.heap.objs.size) { s with heap:=h',toks:=tk }):
  wpAny (model prog w) A (Builtin.«zip.__next__» ⟨[.ref z],[]⟩) (λfin s'=>∃v,fin=.done (.ret v)/\Q v s') E s:=by
 show wpAny _ _ (field (.ref z) 2 >>= _) _ _ _
 refine ac (cy hz rfl (x:=.bool false) rfl ?_)
 show wpAny _ _ (field (.ref z) 3 >>= _) _ _ _
 refine ac (cy hz rfl (x:=.ref TI) rfl (ac (ff EX rfl ?_)))
 show wpAny _ _ (Builtin.SmallTypes.ownedTupleIsFree (.ref z) >>= _) _ _ _
 refine ac ?_;unfold Builtin.SmallTypes.ownedTupleIsFree
 refine ac (cy hz rfl (x:=.none) rfl (ai ?_));simp only[kA]
 refine ac (lT (ac (cy hz rfl (x:=.ref TO) rfl (ac (dA hz (by simp) λg1 z1 s1=>?_)))))
 replace z1:IsZip g1 z TI TO .ellipsis:=z1
 refine ac ?_;simp only[oC,List.zipIdx_nil,kq,lc]
 refine ac (ac (on ?_))
 show wpAny _ _ (Builtin.SmallTypes.nextOf (.ref i1) >>= _) _ _ _
 refine ac (D1.item k _ _ _ k1 (D1.frame k _ _ t1 (f9 s1 D.z1)) λx g2 tk2 px u2 s2=>ai ?_)
 have o2:IsPair g2 TO a b:=s2.extBut _ _ D.i1o.symm (s1.extBut _ _ D.TOz FX)
 refine ac (ff o2 rfl (ac (mv o2 λg3 o3 s3=>ac (l7 (ai ?_)))))
 replace o3:IsPair g3 TO x b:=o3
 refine ac (ac (on ?_))
 show wpAny _ _ (Builtin.SmallTypes.nextOf (.ref i2) >>= _) _ _ _
 have v3:UK k g3:=D2.frame k _ _ (D2.frame k _ _ (D2.frame k _ _ t2 (f9 s1 D.z2)) (f9 s2 D.x12)) (f9 s3 D.o2)
 refine ac (D2.item k _ _ _ k2 v3 λy g4 tk4 py u4 s4=>ai ?_)
 have o4:IsPair g4 TO x b:=s4.extBut _ _ D.i2o.symm o3
 refine ac (ff o4 rfl (ac (mv o4 λg5 o5 s5=>ac (l7 (ai (ai ?_))))))
 replace o5:IsPair g5 TO x y:=o5
 refine ac (ff o5 rfl (ac (qf ?_)))
 have sz:g5.objs.size=s.heap.objs.size:=by rw[s5.1,s4.1,s3.1,s2.1,s1.1]
 have z5:IsZip g5 z TI TO .ellipsis:=s5.extBut _ _ D.TOz.symm (s4.extBut _ _ D.i2z.symm (s3.extBut _ _ D.TOz.symm (s2.extBut _ _ D.i1z.symm z1)))
 have k5:∀c o,c≠z->c≠TO->c≠i1->c≠i2->s.heap.get? c=some o->g5.get? c=some o:=λc o c1 c2 c3 c4 e=>s5.extBut _ _ c2 (s4.extBut _ _ c4 (s3.extBut _ _ c2 (s2.extBut _ _ c3 (s1.extBut _ _ c1 e))))
 have w1:WU (k+1) g5:=D1.frame _ _ _ (D1.frame _ _ _ (D1.frame _ _ _ u2 (f9 s3 D.o1)) (f9 s4 D.x21)) (f9 s5 D.o1)
 have w2:UK (k+1) g5:=D2.frame _ _ _ u4 (f9 s5 D.o2)
 have lz:z < g5.objs.size:=aI z5
 show wpAny _ _ (Builtin.SmallTypes.ownedTupleHandOut (.ref z) (.ref g5.objs.size) >>= _) _ _ _
 refine ac ?_;unfold Builtin.SmallTypes.ownedTupleHandOut
 have z6:IsZip (g5.push { cls:=.type "tuple",data:=.seq #[x,y] }) z TI TO .ellipsis:=ae _ z5
 refine ac (dA z6 (by simp) λg7 z7 s7=>?_)
 replace z7:IsZip g7 z TI TO (rawInt g5.objs.size):=z7
 refine dA z7 (by simp) λg8 z8 s8=>?_
 replace z8:IsZip g8 z TI TO (rawInt g5.objs.size):=z8
 have up:∀c o,c≠z->g5.get? c=some o->g8.get? c=some o:=λc o c1 e=>s8.extBut _ _ c1 (s7.extBut _ _ c1 (ae _ e))
 have p8:IsPair g8 g5.objs.size x y:=s8.extBut _ _ (ki lz) (s7.extBut _ _ (ki lz) (am _ rfl))
 have y8:g8.objs.size=g5.objs.size+1:=by rw[s8.1,s7.1,cE]
 have fr:∀{fp:rL},z∉fp->∀c∈fp,∀o,g5.get? c=some o->g8.get? c=some o:=λKW c hc o e=>up c o (λq=>KW (q▸hc)) e
 rw[sz] at z8 p8 y8
 refine ai ⟨_,rfl,?_⟩
 show Q (.ref g5.objs.size) _
 rw[sz]
 exact hQ g8 _ x y px py z8 (up _ _ D.TOz o5) (D1.frame _ _ _ w1 (fr D.z1)) (D2.frame _ _ _ w2 (fr D.z2)) p8 y8 λc o c1 c2 c3 c4 e=>up c o c1 (k5 c o c1 c2 c3 c4 e)
theorem zN {k:Nat}{a b:Value}{Q:Fin->Shared->Prop}(D:ZA z TI TO i1 i2 MU MV)(D1:Draws prog w A i1 MU n1 P1 WU)(D2:Draws prog w A i2 MV n2 P2 UK)(hz:IsZip s.heap z TI TO .none)(EX:IsPair s.heap TI (.ref i1) (.ref i2))(FX:IsPair s.heap TO a b)
  (t1:WU k s.heap) (t2:UK k s.heap) (hk:k=n1\/(k < n1/\k=n2))
  (hE:∀h' tk e,(∀c o,c≠z->c≠TO->c≠i1->c≠i2->s.heap.get? c=some o->h'.get? c=some o)->(∃o,h'.get? e=some o/\o.cls=.type "StopIteration")->E (.ref e) { s with heap:=h',toks:=tk }):
  wpAny (model prog w) A (Builtin.«zip.__next__» ⟨[.ref z],[]⟩) Q E s:=by
 show wpAny _ _ (field (.ref z) 2 >>= _) _ _ _
 refine ac (cy hz rfl (x:=.bool false) rfl ?_)
 show wpAny _ _ (field (.ref z) 3 >>= _) _ _ _
 refine ac (cy hz rfl (x:=.ref TI) rfl (ac (ff EX rfl ?_)))
 show wpAny _ _ (Builtin.SmallTypes.ownedTupleIsFree (.ref z) >>= _) _ _ _
 refine ac ?_;unfold Builtin.SmallTypes.ownedTupleIsFree
 refine ac (cy hz rfl (x:=.none) rfl (ai ?_));simp only[kA]
 refine ac (lT (ac (cy hz rfl (x:=.ref TO) rfl (ac (dA hz (by simp) λg1 z1 s1=>?_)))))
 replace z1:IsZip g1 z TI TO .ellipsis:=z1
 refine ac ?_;simp only[oC,List.zipIdx_nil,kq,lc]
 refine ac (ac (on ?_))
 show wpAny _ _ (Builtin.SmallTypes.nextOf (.ref i1) >>= _) _ _ _
 have v1:WU k g1:=D1.frame k _ _ t1 (f9 s1 D.z1)
 rcases hk with rfl | ⟨hk1,rfl⟩
 ·refine ac (D1.done _ _ _ v1 λg2 e s2 he=>?_)
  obtain⟨oe,Sr,WV⟩:=he
  have z2:IsZip g2 z TI TO .ellipsis:=s2 _ _ D.i1z.symm z1
  have hez:e≠z:=λq=>by subst q;rw[z2] at Sr;cases Sr;simp at WV
  exact dA z2 (by simp) λg3 _ s3=>hE g3 _ e (λc o c1 _ c3 _ q=>s3.extBut _ _ c1 (s2 _ _ c3 (s1.extBut _ _ c1 q))) ⟨oe,s3.extBut _ _ hez Sr,WV⟩
 ·refine ac (D1.item k _ _ _ hk1 v1 λx g2 tk2 px u2 s2=>ai ?_)
  have o2:IsPair g2 TO a b:=s2.extBut _ _ D.i1o.symm (s1.extBut _ _ D.TOz FX)
  refine ac (ff o2 rfl (ac (mv o2 λg3 o3 s3=>ac (l7 (ai ?_)))))
  refine ac (ac (on ?_))
  show wpAny _ _ (Builtin.SmallTypes.nextOf (.ref i2) >>= _) _ _ _
  have v3:UK k g3:=D2.frame k _ _ (D2.frame k _ _ (D2.frame k _ _ t2 (f9 s1 D.z2)) (f9 s2 D.x12)) (f9 s3 D.o2)
  refine ac (D2.done _ _ _ v3 λg4 e s4 he=>?_)
  obtain⟨oe,Sr,WV⟩:=he
  have z4:IsZip g4 z TI TO .ellipsis:=s4 _ _ D.i2z.symm (s3.extBut _ _ D.TOz.symm (s2.extBut _ _ D.i1z.symm z1))
  have hez:e≠z:=λq=>by subst q;rw[z4] at Sr;cases Sr;simp at WV
  exact dA z4 (by simp) λg5 _ s5=>hE g5 _ e (λc o c1 c2 c3 c4 q=>s5.extBut _ _ c1 (s4 _ _ c4 (s3.extBut _ _ c2 (s2.extBut _ _ c3 (s1.extBut _ _ c1 q))))) ⟨oe,s5.extBut _ _ hez Sr,WV⟩
end
inductive SK where | L | T
def SK.ty:SK->String
 | .L => "list_iterator"
 | .T => "tuple_iterator"
def SK.is (k:SK)(h:Heap)(a:Addr)(items:rV):Prop:=match k with
 | .L=>h.IsList a items
 | .T=>h.IsTuple a items
def SK.at (k:SK)(h:Heap)(it a:Addr)(i:Nat):Prop:=match k with
 | .L=>h.IsListIter it a i
 | .T=>h.IsTupleIter it a i
theorem SK.at_of {k:SK}(e:h.get? it=some { cls:=.type k.ty,data:=.fields #[.ref a,.int 0 0] }):k.at h it a 0:=by
 cases k with
 | L=>exact⟨_,e,rfl,rfl⟩
 | T=>exact⟨_,e,rfl,rfl⟩
theorem SK.EB {k:SK}(st:k.at h it a i):∃o,h.get? it=some o/\∀v,o.data≠.cell v:=by
 cases k with
 | L=>obtain⟨o,e,c,d⟩:=st;exact⟨o,e,λv y=>by rw[d] at y;cases y⟩
 | T=>obtain⟨o,e,c,d⟩:=st;exact⟨o,e,λv y=>by rw[d] at y;cases y⟩
theorem SK.ET {k:SK}(st:k.at h it a i)(q:∀o,h.get? it=some o->h'.get? it=some o):k.at h' it a i:=by
 cases k with
 | L=>exact Heap.IsListIter.at st q
 | T=>exact Heap.IsTupleIter.at st q
theorem SK.is_lt {k:SK}(p:k.is h a items):a < h.objs.size:=by
 cases k with
 | L=>obtain⟨o,e,_⟩:=p;exact aI e
 | T=>obtain⟨o,e,_⟩:=p;exact aI e
theorem SK.draws (k:SK)(hh:A.handled=none)(it a:Addr)(EF:a≠it)(items:rV):Draws prog w A it [it,a] items.size (λi v=>items[i]?=some v) (λi h=>k.at h it a i/\k.is h a items):=by
 cases k with
 | L=>exact Draws.list hh it a EF items
 | T=>exact Rw hh it a EF items
noncomputable def Y6 (k1:SK)(h:Heap)(l1:Addr):Heap:=h.push { cls:=.type k1.ty,data:=.fields #[.ref l1,.int 0 0] }
noncomputable def Y7 (k1 k2:SK)(h:Heap)(l1 l2:Addr):Heap:=(Y6 k1 h l1).push { cls:=.type k2.ty,data:=.fields #[.ref l2,.int 0 0] }
noncomputable def Y8 (k1 k2:SK)(h:Heap)(l1 l2:Addr):Heap:=(Y7 k1 k2 h l1 l2).push { cls:=.type "tuple",data:=.seq #[.ref h.objs.size,.ref (Y6 k1 h l1).objs.size] }
noncomputable def zh4 (k1 k2:SK)(h:Heap)(l1 l2:Addr):Heap:=(Y8 k1 k2 h l1 l2).push { cls:=.type "tuple",data:=.seq #[.none,.none] }
noncomputable def WZ (k1 k2:SK)(h:Heap)(l1 l2:Addr):Heap:=(zh4 k1 k2 h l1 l2).push { cls:=.type "zip",data:=.fields #[.none,.bool false,.bool false,.ref (Y7 k1 k2 h l1 l2).objs.size,.ref (Y8 k1 k2 h l1 l2).objs.size] }
theorem Rx (k1 k2:SK)(l1 l2:Addr)(xs ys:rV):Meets (Builtin.«zip.__new__» ⟨[.type "zip",.ref l1,.ref l2],[]⟩) (λ_ R s=>k1.is s.heap l1 xs/\k2.is s.heap l2 ys /\
   R (.ok (.ret (.ref (zh4 k1 k2 s.heap l1 l2).objs.size))) { s with heap:=WZ k1 k2 s.heap l1 l2 }):=
 .of_wp λprog w A R s h=>by
  obtain⟨hp,g,d,tk,os⟩:=s
  obtain⟨q1,q2,h⟩:=h
  have Y9:=sub_zip
  cases k1 with
  | L=>
   have e1:Heap.IsList (Shared.heap ⟨hp,g,d,tk,os⟩) l1 xs:=q1
   cases k2 with
   | L=>
    have e2:Heap.IsList (Shared.heap ⟨hp.push { cls:=.type "list_iterator",data:=.fields #[.ref l1,.int 0 0] },g,d,tk,os⟩) l2 ys:=kN q2 _
    wp_walk using eC e1,eC e2
    exact⟨_,rfl,h⟩
   | T=>
    have e2:Heap.IsTuple (Shared.heap ⟨hp.push { cls:=.type "list_iterator",data:=.fields #[.ref l1,.int 0 0] },g,d,tk,os⟩) l2 ys:=let ⟨o,e,c⟩:=q2;⟨o,ae _ e,c⟩
    wp_walk using eC e1,fi e2
    exact⟨_,rfl,h⟩
  | T=>
   have e1:Heap.IsTuple (Shared.heap ⟨hp,g,d,tk,os⟩) l1 xs:=q1
   cases k2 with
   | L=>
    have e2:Heap.IsList (Shared.heap ⟨hp.push { cls:=.type "tuple_iterator",data:=.fields #[.ref l1,.int 0 0] },g,d,tk,os⟩) l2 ys:=kN q2 _
    wp_walk using fi e1,eC e2
    exact⟨_,rfl,h⟩
   | T=>
    have e2:Heap.IsTuple (Shared.heap ⟨hp.push { cls:=.type "tuple_iterator",data:=.fields #[.ref l1,.int 0 0] },g,d,tk,os⟩) l2 ys:=let ⟨o,e,c⟩:=q2;⟨o,ae _ e,c⟩
    wp_walk using fi e1,fi e2
    exact⟨_,rfl,h⟩
variable {k2:SK}{l2:Addr}
section
variable {prog:Program}{w:World}{A:Around}{E:dx}{s:Shared}
theorem Hi {k1:SK}{l1:Addr}{xs ys:rV}{Q:dx}(q1:k1.is s.heap l1 xs)(q2:k2.is s.heap l2 ys)
  (h:∀h',IsZip h' (s.heap.objs.size+4) (s.heap.objs.size+2) (s.heap.objs.size+3) .none->IsPair h' (s.heap.objs.size+2) (.ref s.heap.objs.size) (.ref (s.heap.objs.size+1))->
   IsPair h' (s.heap.objs.size+3) .none .none->k1.at h' s.heap.objs.size l1 0->k2.at h' (s.heap.objs.size+1) l2 0->h'.objs.size=s.heap.objs.size+5->
   (∀c o,s.heap.get? c=some o->h'.get? c=some o)->Q (.ref (s.heap.objs.size+4)) { s with heap:=h' }):
  wpAny (model prog w) A (call (.type "zip") [.ref l1,.ref l2]) Q E s:=by
 refine o0 F.called_zip (by decide) (F.typeCall_zip_2 _ _) (F.newCall_zip_2 _ _) (λobj=>F.args_object_init_3 obj _ _) F.entry_zip_new (Rx k1 k2 l1 l2 xs ys) ⟨q1,q2,?_⟩
 have a1:(Y6 k1 s.heap l1).objs.size=s.heap.objs.size+1:=cE ..
 have a2:(Y7 k1 k2 s.heap l1 l2).objs.size=s.heap.objs.size+2:=(cE ..).trans (by rw[a1])
 have a3:(Y8 k1 k2 s.heap l1 l2).objs.size=s.heap.objs.size+3:=(cE ..).trans (by rw[a2])
 have a4:(zh4 k1 k2 s.heap l1 l2).objs.size=s.heap.objs.size+4:=(cE ..).trans (by rw[a3])
 have a5:(WZ k1 k2 s.heap l1 l2).objs.size=s.heap.objs.size+5:=(cE ..).trans (by rw[a4])
 have b5:(WZ k1 k2 s.heap l1 l2).get? (zh4 k1 k2 s.heap l1 l2).objs.size=some { cls:=.type "zip",data:=.fields #[.none,.bool false,.bool false,.ref (Y7 k1 k2 s.heap l1 l2).objs.size,.ref (Y8 k1 k2 s.heap l1 l2).objs.size] }:=am _ rfl
 have b4:(WZ k1 k2 s.heap l1 l2).get? (Y8 k1 k2 s.heap l1 l2).objs.size=some { cls:=.type "tuple",data:=.seq #[.none,.none] }:=ae _ (am _ rfl)
 have b3:(WZ k1 k2 s.heap l1 l2).get? (Y7 k1 k2 s.heap l1 l2).objs.size=some { cls:=.type "tuple",data:=.seq #[.ref s.heap.objs.size,.ref (Y6 k1 s.heap l1).objs.size] }:=ae _ (ae _ (am _ rfl))
 have b2:(WZ k1 k2 s.heap l1 l2).get? (Y6 k1 s.heap l1).objs.size=some { cls:=.type k2.ty,data:=.fields #[.ref l2,.int 0 0] }:=ae _ (ae _ (ae _ (am _ rfl)))
 have b1:(WZ k1 k2 s.heap l1 l2).get? s.heap.objs.size=some { cls:=.type k1.ty,data:=.fields #[.ref l1,.int 0 0] }:=ae _ (ae _ (ae _ (ae _ (am _ rfl))))
 rw[a2,a3,a4] at b5
 rw[a3] at b4
 rw[a1,a2] at b3
 rw[a1] at b2
 show _/\_
 rw[a4]
 exact⟨⟨_,b5,rfl⟩,h _ b5 b3 b4 (SK.at_of b1) (SK.at_of b2) a5 λc o x=>ae _ (ae _ (ae _ (ae _ (ae _ x))))⟩
end
def SK.sq (k:SK)(K:W.Frag)(H:Hp)(a:Addr)(xs:List V):Prop:=match k with
 | .L=>DL K H a xs
 | .T=>FI K H a xs
section
variable {X:Cx}{CI:fN}{σ:St}{H:Hp}{s:Shared}
theorem Inv.sk (I:Inv X CI σ H s){k:SK}{xs:List V}(h:k.sq X.K H a xs):∃CL:List Value,Vals xs CL/\k.is s.heap a CL.toArray:=by
 cases k with
 | L=>obtain⟨CL,r,p,_⟩:=I.list h;exact⟨CL,r,p.isList⟩
 | T=>obtain⟨CL,r,p,_⟩:=I.tuple h;exact⟨CL,r,p⟩
theorem Inv.JY (I:Inv X CI σ H s){k:SK}{xs ys:List V}(h:k.sq X.K H a xs)(h':k.sq X.K H a ys):xs=ys:=by
 cases k with
 | L=>exact I.HZ h h'
 | T=>exact I.G0 h h'
end
def Itk (K:W.Frag)(k1 k2:SK)(a b:Addr):It:=
  ⟨λi H=>∃xs x ys y,k1.sq K H a xs/\xs[i]?=some x/\k2.sq K H b ys/\ys[i]?=some y,
   λi H v H'=>∃t x y,H t=none/\v=.ref t/\H'=upd H t (.tup [x,y])/\(∀xs,k1.sq K H a xs->xs[i]?=some x)/\∀ys,k2.sq K H b ys->ys[i]?=some y,
   λi H=>∃xs ys,k1.sq K H a xs/\k2.sq K H b ys/\(xs.length=i\/(i < xs.length/\ys.length=i))⟩
def ZAt (k1 k2:SK)(z TI TO i1 i2 l1 l2:Addr)(i:Nat)(h:Heap):Prop:=IsZip h z TI TO .none/\IsPair h TI (.ref i1) (.ref i2)/\(∃a b,IsPair h TO a b)/\k1.at h i1 l1 i/\k2.at h i2 l2 i
theorem Mf {z TI TO i1 i2 l1:Addr}(D:ZipApart z TI TO i1 i2 l1 l2):ZA z TI TO i1 i2 [i1,l1] [i2,l2] where
 TIz:=D.TIz
 TOz:=D.TOz
 TIO:=D.TITO
 m1:=by simp
 m2:=by simp
 z1:=by simp[D.i1z.symm,D.l1z.symm]
 z2:=by simp[D.i2z.symm,D.l2z.symm]
 o1:=by simp[D.TOi1,D.l1TO.symm]
 o2:=by simp[D.TOi2,D.l2TO.symm]
 x12:=by simp[D.i12,D.l2i1.symm]
 x21:=by simp[D.i12.symm,D.l1i2.symm]
variable {x1:Nat}{tpos:Pos}
theorem xM {k1:SK}{z TI TO i1 i2 l1:Addr}(D:ZipApart z TI TO i1 i2 l1 l2):Turn P w K (.Tuple es x1 tpos) (Itk K k1 k2 l1 l2) [z,TI,TO,i1,i2] z (ZAt k1 k2 z TI TO i1 i2 l1 l2) where
 mem:=by simp
 obj:=λi h st b hb=>by
  obtain⟨hz,EX,⟨a,c,FX⟩,s1,s2⟩:=st
  simp only[av,bt,fg] at hb
  rcases hb with rfl | rfl | rfl | rfl | rfl
  ·exact⟨_,hz,λv y=>by have y':Data.fields _=Data.cell v:=y;cases y'⟩
  ·exact⟨_,EX,λv y=>by have y':Data.seq _ _=Data.cell v:=y;cases y'⟩
  ·exact⟨_,FX,λv y=>by have y':Data.seq _ _=Data.cell v:=y;cases y'⟩
  ·exact(SK.EB s1)
  ·exact(SK.EB s2)
 keep:=λi h h' st k=>by
  obtain⟨hz,EX,⟨a,c,FX⟩,s1,s2⟩:=st
  exact⟨k z (by simp) _ hz,k TI (by simp) _ EX,⟨a,c,k TO (by simp) _ FX⟩,SK.ET s1 λo q=>k i1 (by simp) o q,SK.ET s2 λo q=>k i2 (by simp) o q⟩
 item:=by
  intro X hP hw hK hc i CI s σ H E I hf st hg
  subst hP hw hK
  obtain⟨xs,x,ys,y,Ym,hx,LU,hy⟩:=hg
  obtain⟨hz,EX,⟨a,b,FX⟩,s1,s2⟩:=st
  obtain⟨K0,rv1,p1⟩:=I.sk Ym
  obtain⟨D7,NH,p2⟩:=I.sk LU
  obtain⟨u,hu,ru⟩:=rv1.get hx
  obtain⟨v,hv,rv⟩:=NH.get hy
  have hh:=I.ok.hd hc
  have hT:s.TypeIs (.ref z) "zip" := ⟨_,hz,rfl⟩
  have Sz:i < K0.toArray.size:=by
   rcases ef i K0.length with q | q
   ·simpa using q
   ·rw[bo q] at hu;cases hu
  have Xs:i < D7.toArray.size:=by
   rcases ef i D7.length with q | q
   ·simpa using q
   ·rw[bo q] at hv;cases hv
  unfold pyNext
  refine ac (fw (bX (name:=Str.ofString "__next__") hT eM (cb eM hT j3
   (xK (Mf D) (SK.draws (prog:=X.prog) (w:=X.w) (A:=X.A.in1) k1 hh i1 l1 D.l1i1 K0.toArray) (SK.draws (prog:=X.prog) (w:=X.w) (A:=X.A.in1) k2 hh i2 l2 D.l2i2 D7.toArray) hz EX FX ⟨s1,p1⟩ ⟨s2,p2⟩ Sz Xs λh' tk x' y' ex ey z1 t1 j1 j2 tp hsz hk=>ai ⟨_,rfl,?_⟩) (i0 _))))
  have eu:x'=u:=a9 (by rw[← ex,← hu];simp)
  have ev:y'=v:=a9 (by rw[← ey,← hv];simp)
  subst eu ev
  refine nS (s:={ s with heap:=h',toks:=tk }) z1 λh2 z2 sb=>?_
  have lz:z < s.heap.objs.size:=aI hz
  have g2:h2.get? s.heap.objs.size=some { cls:=.type "tuple",data:=.seq #[x',y'] }:=(sb.2 _ (ki lz)).trans tp
  have kp:∀c o,c∉[z,TO,i1,i2]->s.heap.get? c=some o->h2.get? c=some o:=λc o hb q=>by
   simp only[av,bt,fg,oj] at hb
   exact(sb.2 c hb.1).trans (hk c o hb.1 hb.2.1 hb.2.2.1 hb.2.2.2 q)
  have Xt:IsPair h2 TO x' y':=(sb.2 _ D.TOz).trans t1
  have g1:k1.at h2 i1 l1 (i+1):=SK.ET j1.1 λo e=>(sb.2 i1 D.i1z).trans e
  have Za:k2.at h2 i2 l2 (i+1):=SK.ET j2.1 λo e=>(sb.2 i2 D.i2z).trans e
  have XA:∀c o,s.heap.get? c=some o->∃o',h2.get? c=some o':=λc o q=>by
   by_cases n1:c=z
   ·subst n1;exact⟨_,z2⟩
   ·by_cases n2:c=TO
    ·subst n2;exact⟨_,Xt⟩
    ·by_cases n3:c=i1
     ·subst n3;obtain⟨o',e',_⟩:=(SK.EB g1);exact⟨o',e'⟩
     ·by_cases n4:c=i2
      ·subst n4;obtain⟨o',e',_⟩:=(SK.EB Za);exact⟨o',e'⟩
      ·exact⟨o,kp c o (by simp[n1,n2,n3,n4]) q⟩
  have I2:Inv X CI σ (upd H s.heap.objs.size (.tup [x,y])) { s with heap:=h2,toks:=tk }:=
   I.HL (ch:=[z,TO,i1,i2]) kp XA (λb hb=>hf b (by simp only[av,bt,fg] at hb ⊢;rcases hb with e | e | e | e <;> simp[e])) (aT _)
    ⟨by show 2<=sizeLine;decide,[x',y'],.cons ru (.cons rv .nil),⟨_,g2,rfl,_,rfl⟩⟩
  refine⟨.ref s.heap.objs.size,_,I2,rfl,⟨s.heap.objs.size,x,y,I.fresh,rfl,rfl,λzs hy=>by rw[I.JY hy Ym];exact hx,λzs hy'=>by rw[I.JY hy' LU];exact hy⟩,⟨z2,?_,⟨x',y',Xt⟩,g1,Za⟩,λb hb=>?_⟩
  ·exact kp TI _ (by simp[D.TIz,D.TITO,D.TIi1,D.TIi2]) EX
  ·have SD:=(hf b hb).1
   rw[aP ?_]
   ·exact SD
   ·have DS:b < s.heap.objs.size:=by
     simp only[av,bt,fg] at hb
     rcases hb with rfl | rfl | rfl | rfl | rfl
     ·exact lz
     ·exact aI EX
     ·exact aI FX
     ·obtain⟨o,e1,_⟩:=(SK.EB s1);exact aI e1
     ·obtain⟨o,e1,_⟩:=(SK.EB s2);exact aI e1
    exact cf DS
 done:=by
  intro X hP hw hK hc i CI s σ H E I hf st hg
  subst hP hw hK
  obtain⟨xs,ys,Ym,LU,hl⟩:=hg
  obtain⟨hz,EX,⟨a,b,FX⟩,s1,s2⟩:=st
  obtain⟨K0,rv1,p1⟩:=I.sk Ym
  obtain⟨D7,NH,p2⟩:=I.sk LU
  have l1':=rv1.length
  have l2':=NH.length
  have hh:=I.ok.hd hc
  have hT:s.TypeIs (.ref z) "zip" := ⟨_,hz,rfl⟩
  have hk:i=K0.toArray.size\/(i < K0.toArray.size/\i=D7.toArray.size):=by
   rw[a6,a6]
   omega
  unfold pyNext
  refine ac (fw (bX (name:=Str.ofString "__next__") hT eM (cb eM hT j3
   (zN (Mf D) (SK.draws (prog:=X.prog) (w:=X.w) (A:=X.A.in1) k1 hh i1 l1 D.l1i1 K0.toArray) (SK.draws (prog:=X.prog) (w:=X.w) (A:=X.A.in1) k2 hh i2 l2 D.l2i2 D7.toArray) hz EX FX ⟨s1,p1⟩ ⟨s2,p2⟩ hk λh' tk e kp he=>?_) (i0 _))))
  obtain⟨o,ho,ID⟩:=he
  refine ac (gy (T := "StopIteration") (b:=true) ⟨o,ho,ID⟩ kD (ai ⟨rfl,?_⟩))
  refine I.Me (ch:=[z,TO,i1,i2]) (λc o hb q=>?_) (λb hb=>hf b (by simp only[av,bt,fg] at hb ⊢;rcases hb with e | e | e | e <;> simp[e]))
  simp only[av,bt,fg,oj] at hb
  exact kp c o hb.1 hb.2.1 hb.2.2.1 hb.2.2.2 q
 self:=λA i s Q E st h=>oq st.1 h
section
variable {X:Cx}
def U9 (K:W.Frag)(k1 k2:SK)(ta:TA):TI:=fun σ H R=>ta σ H λvs H1=>∃a b,vs=[.ref a,.ref b]/\(∃xs,k1.sq K H1 a xs)/\(∃ys,k2.sq K H1 b ys)/\R (Itk K k1 k2 a b) H1
theorem NK {k1:SK}{r:Expr}(hg:Gl X "zip")(hm:X.mg "zip" = none)(ha:PA X [l,r] ta)(hs:starEach [l,r] X.env=(false,eval l X.env)::starEach [r] X.env:=by rfl)(hp:(backTo pos (starEach [r] X.env)).any (·.1)=false:=by rfl):
  PI X (.Tuple es x1 tpos) (.Call (.Name "zip" p) [l,r] [] pos) (U9 X.K k1 k2 ta):=by
 intro CI s σ H R I h
 refine Call_ (dZ I hg hm pS (bv (DB (ha pos CI s σ H _ I h) ?_) hs hp))
 rintro us s1 ⟨vs,H1,I1,r1,q1⟩
 obtain⟨a,b,e,⟨xs,Ym⟩,⟨ys,LU⟩,q⟩:=q1
 subst e
 obtain⟨u,v,rfl,ru,rv⟩:=vals2 r1
 cases ru
 cases rv
 obtain⟨K0,rv1,p1⟩:=I1.sk Ym
 obtain⟨D7,NH,p2⟩:=I1.sk LU
 refine Hi p1 p2 λh' hz EX FX Sz Xs hsz hk=>?_
 have I2:Inv X CI σ H1 { s1 with heap:=h' }:=I1.kept (t':=s1.toks) hk
 have D:=zipApart_new (SK.is_lt p1) (SK.is_lt p2)
 have st:ZAt k1 k2 (s1.heap.objs.size+4) (s1.heap.objs.size+2) (s1.heap.objs.size+3) s1.heap.objs.size (s1.heap.objs.size+1) a b 0 h':=⟨hz,EX,⟨_,_,FX⟩,Sz,Xs⟩
 refine(xM (P:=X.prog) (w:=X.w) (K:=X.K) (es:=es) (x1:=x1) (tpos:=tpos) D).self X.A 0 { s1 with heap:=h' } _ _ st ?_
 refine⟨s1.heap.objs.size+4,_,_,_,H1,rfl,I2,xM D,st,λc hb=>?_,q⟩
 have NI:s1.heap.objs.size<=c:=by
  simp only[av,bt,fg] at hb
  rcases hb with e | e | e | e | e <;> rw[e] <;> omega
 exact I1.HG NI (I1.C8.fresh NI)
end
def sI (H:Hp)(L:List (Addr×HO)):Hp:=λa=>match L.lookup a with
 | some o=>some o
 | none=>H a
variable {L:List (Addr×HO)}
theorem t_ (h:L.lookup a=none):sI H L a=H a:=by unfold sI;rw[h]
theorem ww {o:HO}(h:L.lookup a=some o):sI H L a=some o:=by unfold sI;rw[h]
theorem pg (h:∀p∈L,p.1≠a):L.lookup a=none:=by
 induction L with
 | nil=>rfl
 | cons p L ih=>
  rw[cK,kU.mpr (gx (h p ah))]
  exact ih λq hq=>h q (ag _ hq)
theorem Inv.lays (I:Inv X CI σ H s)(k:∀b u,s.heap.get? b=some u->h'.get? b=some u)(hp:∀p∈L,s.heap.objs.size<=p.1)
  (new:∀a o,L.lookup a=some o->Dx X.prog X.w X.K (sI H L) h' a o):Inv X CI σ (sI H L) { s with heap:=h',toks:=t' }:=by
 have hn:∀p∈L,H p.1=none:=λp q=>I.C8.fresh (hp p q)
 have old:∀b o,H b=some o->sI H L b=some o:=λb o e=>by
  rw[t_ (pg λp q z=>by have:=hn p q;rw[z,e] at this;cases this)];exact e
 have there:∀b u,s.heap.get? b=some u->L.lookup b=none:=λb u e=>pg λp q z=>by
  have:=aI e
  rw[← z] at this
  exact absurd (bS this (hp p q)) (em _)
 refine I.un ⟨λb u q _ _ _=>k b u q,λb u q _ _ _=>⟨u.slots,k b u q⟩,λb u q n _=>by rw[t_ (there b u q)];exact n,λb u q _=>⟨u,k b u q⟩,λb xs q=>old b _ q,λb u xs q=>old b _ q,λb ps q=>⟨#[],by rw[old b _ q];simp⟩⟩ λb u e=>?_
 cases q:L.lookup b with
 | some o=>rw[ww q] at e;cases e;exact new b _ q
 | none=>
  rw[t_ q] at e
  exact(I.C8 b u e).IJ (λc v _ q=>k c v q) (λc q=>old c _ q) λc xs q=>old c _ q
inductive Yn (H:Hp):List Addr->List V->List V->Prop
 | nil:Yn H [] [] []
 | cons {t:Addr}{x y:V}{ts:rL}{xs ys:List V}:H t=some (.tup [x,y])->Yn H ts xs ys->Yn H (t::ts) (x::xs) (y::ys)
theorem Hj {H:Hp}:∀{ts:rL}{xs ys:List V},ts.length=xs.length->ys.length=xs.length->(∀(i:Nat) (t:Addr) (x y:V),ts[i]?=some t->xs[i]?=some x->ys[i]?=some y->H t=some (.tup [x,y]))->Yn H ts xs ys
 | [],[],[],_,_,_=>.nil
 | t::ts,x::xs,y::ys,e1,e2,h=>.cons (h 0 t x y rfl rfl rfl) (Hj (rg e1) (rg e2) λi a b c=>h (i+1) a b c)
 | [],_::_,_,e,_,_=>nomatch e
 | _::_,[],_,e,_,_=>nomatch e
 | _,[],_::_,_,e,_=>nomatch e
 | _,_::_,[],_,e,_=>nomatch e
noncomputable def zL (ts:rL)(xs ys:List V):List (Addr×HO):=List.zipWith (λt (p:V×V)=>(t,.tup [p.1,p.2])) ts (xs.zip ys)
theorem CJ:∀{ts:rL}{xs ys:List V},ts.Nodup->∀(i:Nat) (t:Addr) (x y:V),ts[i]?=some t->xs[i]?=some x->ys[i]?=some y->(zL ts xs ys).lookup t=some (.tup [x,y])
 | [],_,_,_,i,t,x,y,h,_,_=>by simp at h
 | _::_,[],_,_,i,t,x,y,_,h,_=>by simp at h
 | _::_,_::_,[],_,i,t,x,y,_,_,h=>by simp at h
 | a::ts,b::xs,c::ys,nd,0,t,x,y,h1,h2,h3=>by
  cases h1;cases h2;cases h3
  show List.lookup a ((a,_)::zL ts xs ys)=_
  rw[cK,beq_self_eq_true]
 | a::ts,b::xs,c::ys,nd,i+1,t,x,y,h1,h2,h3=>by
  have h1:ts[i]?=some t:=h1
  have ne:t≠a:=λz=>(cr.mp nd).1 (z▸ax h1)
  show List.lookup t ((a,_)::zL ts xs ys)=_
  rw[cK,kU.mpr ne]
  exact CJ (xs:=xs) (ys:=ys) (cr.mp nd).2 i t x y h1 h2 h3
theorem zO {ts:rL}{xs ys:List V}{p:Addr×HO}(h:p∈zL ts xs ys):∃(i:Nat) (x y:V),ts[i]?=some p.1/\xs[i]?=some x/\ys[i]?=some y/\p.2=.tup [x,y]:=by
 obtain⟨i,hi⟩:=lP.mp h
 unfold zL at hi
 rw[lS] at hi
 cases q1:ts[i]? with
 | none=>rw[q1] at hi;cases hi
 | some t=>
  rw[q1] at hi
  cases q2:(xs.zip ys)[i]? with
  | none=>rw[q2] at hi;cases hi
  | some xy=>
   rw[q2] at hi
   cases hi
   rw[iA] at q2
   exact⟨i,xy.1,xy.2,q1,q2.1,q2.2,rfl⟩
theorem iu {o:HO}(h:L.lookup a=some o):(a,o)∈L:=by
 induction L with
 | nil=>cases h
 | cons p L ih=>
  rw[cK] at h
  split at h
  ·rename_i e
   cases h
   rw[oQ] at e
   subst e
   exact ah
  ·exact ag _ (ih h)
theorem xN:∀ts:List Addr,Vals (ts.map V.ref) (ts.map Value.ref)
 | []=>.nil
 | _::ts=>.cons rfl (xN ts)
section
variable {X:Cx}{tg:Expr}
def Ry (K:W.Frag)(ta:TA):TE:=fun σ H Q=>ta σ H λvs H1=>∃a c xs ys,vs=[.ref a,.ref c]/\DL K H1 a xs/\DL K H1 c ys/\ys.length=xs.length /\
 ∀l ts H2,H1 l=none->(∀b o,H1 b=some o->H2 b=some o)->H2 l=some (.lst (ts.map V.ref))->Yn H2 ts xs ys->Q (.ref l) H2
theorem J8 {a c:Expr}{p2 DJ:Pos}(hg:Gl X "list")(hm:X.mg "list" = none)(OB:Gl X "zip")(OC:X.mg "zip" = none)(hb:bootBuiltins "zip" = some (.type "zip"))(hc:X.calm=true)(ha:PA X [a,c] ta)(hs:starEach [a,c] X.env=(false,eval a X.env)::starEach [c] X.env:=by rfl)(Kj:(backTo DJ (starEach [c] X.env)).any (·.1)=false:=by rfl)
  (Fh:starEach [.Call (.Name "zip" p2) [a,c] [] DJ] X.env=(false,eval (.Call (.Name "zip" p2) [a,c] [] DJ) X.env)::starEach [] X.env:=by rfl) (FA:(backTo pos (starEach [] X.env)).any (·.1)=false:=by rfl):
  PE X (.Call (.Name "list" p) [.Call (.Name "zip" p2) [a,c] [] DJ] [] pos) (Ry X.K ta):=by
 intro CI s σ H Q I h
 refine gE (dZ I hg hm kl (bv ?_ Fh FA) (by decide) (by decide))
 rw[Fh]
 show wpAny _ _ (spliced ((false,eval (.Call (.Name "zip" p2) [a,c] [] DJ) X.env)::backTo pos (starEach [] X.env))) _ _ s
 refine f7 (Call_ (dZ I OB OC hb (bv (DB (ha DJ CI s σ H _ I h) ?_) hs Kj)))
 rintro us s1 ⟨vs,H1,I1,r1,q1⟩
 obtain⟨a,c,xs,ys,e,hq,LU,hxy,q⟩:=q1
 subst e
 obtain⟨u,v,rfl,ru,rv⟩:=vals2 r1
 cases ru
 cases rv
 obtain⟨CL,rv,pl,hz⟩:=I1.list hq
 obtain⟨D7,NH,pl2,hz2⟩:=I1.list LU
 have l1:=rv.length
 have l2:=NH.length
 refine call_zip_2 pl.isList pl2.isList λg gz gTI Xt g1 g2 gsz gk=>i7 ?_
 have lt:∀{b:Addr},s1.heap.get? b≠none->∀n,b≠s1.heap.objs.size+n:=λ{b} hb n z=>hb (by rw[z];exact l8 (kQ _ _))
 have ma:s1.heap.get? a≠none:=let ⟨_,e,_⟩:=pl.isList;by rw[e];exact λz=>nomatch z
 have mc:s1.heap.get? c≠none:=let ⟨_,e,_⟩:=pl2.isList;by rw[e];exact λz=>nomatch z
 have nn:∀m n:Nat,m≠n->s1.heap.objs.size+m≠s1.heap.objs.size+n:=λm n h z=>h (Nat.add_left_cancel z)
 have D:ZipApart (s1.heap.objs.size+4) (s1.heap.objs.size+2) (s1.heap.objs.size+3) s1.heap.objs.size (s1.heap.objs.size+1) a c:=
  ⟨nn _ _ (by decide),nn _ _ (by decide),nn 0 _ (by decide),nn _ _ (by decide),nn _ _ (by decide),nn _ 0 (by decide),nn _ _ (by decide),nn _ 0 (by decide),nn _ _ (by decide),nn 0 _ (by decide),lt ma _,lt ma _,lt ma 0,lt ma _,lt mc _,lt mc _,lt mc 0,lt mc _⟩
 refine ym (s:={ s1 with heap:=g }) (I1.ok.hd hc) D (by rw[a6];omega) (by rw[a6,a6];omega) gz Xt gTI g1 g2 (pl.isList.at λo e=>gk _ _ e) (pl2.isList.at λo e=>gk _ _ e) λh' acc cc kk he it=>?_
 have he:h'.get? g.objs.size=some { cls:=.type "list",dict:=none,data:=.seq acc cc,slots:=#[] }:=he
 have it:IG h' CL.toArray D7.toArray (g.objs.size+1) [s1.heap.objs.size+4,s1.heap.objs.size+3,s1.heap.objs.size,s1.heap.objs.size+1,g.objs.size] acc CL.toArray.size:=it
 have kk:∀c o,c∉[s1.heap.objs.size+4,s1.heap.objs.size+3,s1.heap.objs.size,s1.heap.objs.size+1,g.objs.size]->g.get? c=some o->h'.get? c=some o:=kk
 obtain⟨i1,i2⟩:=it
 have esz:CL.toArray.size=CL.length:=a6 ..
 rw[esz] at i1 i2
 have refs:∀v∈acc.toList,∃t,v=.ref t:=λv hv=>by
  obtain⟨i,hi⟩:=lP.mp hv
  have DS:i < acc.size:=by have:=(aw.mp hi).1;rwa [eS] at this
  obtain⟨t,_,_,e,_⟩:=i2 i (by omega)
  rw[ku,e] at hi
  exact⟨t,(a9 hi).symm⟩
 let ad:Value->Addr:=λv=>match v with | .ref t=>t | _=>0
 have ea:acc.toList=(acc.toList.map ad).map Value.ref:=by
  rw[de]
  refine(rj _).symm.trans (ci λv hv=>?_)
  obtain⟨t,rfl⟩:=refs v hv
  rfl
 generalize htt:acc.toList.map ad=ts at ea
 have lts:ts.length=CL.length:=by rw[← htt,af,eS,i1]
 have tat:∀(i:Nat) (t:Addr),ts[i]?=some t->acc[i]?=some (Value.ref t):=λi t h=>by rw[← ku,ea,ar,h];rfl
 have nd:ts.Nodup:=by
  rw[kK,List.pairwise_iff_getElem]
  intro i j hi hj hij z
  have a1:=tat i ts[i] (al hi)
  have a2:=tat j ts[j] (al hj)
  obtain⟨t,_,_,e,_,_,_,_,_,w⟩:=i2 j (by omega)
  rw[e] at a2
  have e2:t=ts[j]:=q0 (a9 a2)
  refine w i hij ?_
  rw[a1,z,e2]
 have fact:∀(i:Nat) (t:Addr),ts[i]?=some t->∃x y,CL[i]?=some x/\D7[i]?=some y/\IsPair h' t x y/\g.objs.size+1<=t:=λi t h=>by
  have hi:i < CL.length:=by have:=(aw.mp h).1;omega
  obtain⟨t',x,y,e,ex,ey,hp,hB,_,_⟩:=i2 i hi
  have:=tat i t h
  rw[e] at this
  have e2:t'=t:=q0 (a9 this)
  subst e2
  exact⟨x,y,by simpa using ex,by simpa using ey,hp,hB⟩
 have big:∀t∈ts,g.objs.size+1<=t:=λt ht=>by
  obtain⟨i,hi⟩:=lP.mp ht
  obtain⟨_,_,_,_,_,w⟩:=fact i t hi
  exact w
 have lk:∀(i:Nat) (t:Addr) (x y:V),ts[i]?=some t->xs[i]?=some x->ys[i]?=some y->(zL ts xs ys++[(g.objs.size,HO.lst (ts.map V.ref))]).lookup t=some (.tup [x,y]):=λi t x y h1 h2 h3=>by
  rw[List.lookup_append,CJ (xs:=xs) (ys:=ys) nd i t x y h1 h2 h3];rfl
 have ln:(zL ts xs ys++[(g.objs.size,HO.lst (ts.map V.ref))]).lookup g.objs.size=some (.lst (ts.map V.ref)):=by
  rw[List.lookup_append,pg λp hp z=>by
   obtain⟨i,_,_,e,_⟩:=zO hp
   have:=big _ (ax e)
   rw[z] at this
   exact absurd this (Nat.not_succ_le_self _)]
  simp
 have sz:s1.heap.objs.size<=g.objs.size:=by rw[gsz];exact kQ _ _
 have XB:∀p∈zL ts xs ys++[(g.objs.size,HO.lst (ts.map V.ref))],s1.heap.objs.size<=p.1:=λp hp=>by
  rcases br.mp hp with hp | hp
  ·obtain⟨i,_,_,e,_⟩:=zO hp
   exact gi sz (Nat.le_of_succ_le (big _ (ax e)))
  ·rw[aE.mp hp];exact sz
 have I2:Inv X CI σ (sI H1 (zL ts xs ys++[(g.objs.size,HO.lst (ts.map V.ref))])) { s1 with heap:=h' }:=I1.lays (t':=s1.toks) (λb u e=>kk b u (λz=>by
   simp only[av,bt,fg] at z
   have hb:=aI e
   rcases z with z | z | z | z | z <;> rw[z] at hb
   ·exact absurd hb (re.mpr (kQ _ _))
   ·exact absurd hb (re.mpr (kQ _ _))
   ·exact absurd hb (em _)
   ·exact absurd hb (re.mpr (kQ _ _))
   ·exact absurd hb (re.mpr sz)) (gk _ _ e)) XB λb o lo=>by
  rcases br.mp (iu lo) with hp | hp
  ·obtain⟨i,x,y,e1,e2,e3,e4⟩:=zO hp
   dsimp only at e1 e4
   subst e4
   obtain⟨u,v,f1,f2,f3,_⟩:=fact i b e1
   obtain⟨u',w1,w2⟩:=rv.get e2
   obtain⟨v',w3,w4⟩:=NH.get e3
   rw[f1] at w1
   rw[f2] at w3
   cases w1
   cases w3
   exact⟨by show (2:Nat)<=sizeLine;decide,[u,v],.cons w2 (.cons w4 .nil),_,f3,rfl,_,rfl⟩
  ·cases aE.mp hp
   exact⟨by rw[af,lts,← l1];exact hz,acc.toList,cc,by
    rw[ea]
    exact xN ts,by simpa using he⟩
 refine⟨.ref g.objs.size,_,I2,rfl,q g.objs.size ts _ (I1.C8.fresh sz) (λb o e=>?_) (ww ln) (Hj (by omega) hxy λi t x y h1 h2 h3=>ww (lk i t x y h1 h2 h3))⟩
 rw[t_ (pg λp hp z=>by
  have:=I1.C8.fresh (XB p hp)
  rw[z,e] at this;cases this)]
 exact e
end
variable {kvs:List (List Key×V)}{xs:List (List Key×Addr×Value)}
section
variable {X:Cx}{tg:Expr}{CI:fN}{σ:St}{H:Hp}{s:Shared}{apos C5 pos:Pos}{td ty tx tv:TE}{o e f:Expr}
theorem Rz {vs:List V}{ks:List Key}(I:Inv X CI σ H s)(hq:FI X.K H b vs)(kt:rY ks vs):(tupleKind (cZ X.prog X.w)).is s.heap ks b:=by
 obtain⟨CL,r,⟨o,h1,h2,n,h3⟩,_⟩:=I.tuple hq
 exact⟨o,CL.toArray,n,h1,h2,h3,by simpa using sy kt r⟩
def RB (K:W.Frag)(td ty tx:TE):TE:=fun σ H Q=>td σ H λx H1=>∃a,x=.ref a/\IsD H1 a/\ty σ H1 λy H2=>tx σ H2 λz H3=>∃kvs ks b vs,Rd H3 a (.dT kvs)/\y=.ref b/\FI K H3 b vs/\rY ks vs/\Q ((jc kvs ks).getD z) H3
theorem J9 (hu:X.A.units+1 < cLine)(ho:PE X o td)(he:PE X e ty)(hf:PE X f tx)(m:M2 X o "get" apos e f C5):PE X (.Call (.Attribute o "get" apos) [e,f] [] C5) (RB X.K td ty tx):=by
 intro CI s σ H Q I h
 refine oa m.base m.few m.line oz ix pw (DB (ho CI s σ H _ I h) ?_)
 rintro u s1 ⟨x,H1,I1,rx,a,ex,d,q1⟩
 subst ex
 cases (show u=Value.ref a from rx)
 obtain⟨t1,t2,_⟩:=zq I1 d
 refine⟨t1,t2,?_⟩
 rw[m.trees]
 refine lj rfl (kG (f7 (DB (he CI s1 σ H1 _ I1 q1) λiv s2 ⟨y,H2,I2,ry,q2⟩=>f7 (DB (hf CI s2 σ H2 _ I2 q2) ?_))))
 rintro fv s3 ⟨z,H3,I3,rz,kvs,ks,b,vs,e1,e2,e3,e4,q3⟩
 refine i7 ?_
 subst e2
 cases (show iv=Value.ref b from ry)
 obtain⟨_,hd,xs,rel,dd⟩:=qL I3.EZ I3.C8 e1
 exact call_meetsIn ix dd.typeIs li (k8 _ _ _) (oy (tupleKind (cZ X.prog X.w)) a b hd fv) ⟨ip hu,ks,xs,Rz I3 e3 e4,dd,⟨_,H3,I3.tok _,(rel.val ks).getD rz,q3⟩⟩
def U_ (K:W.Frag)(tk tv:TE):TE:=fun σ H Q=>∀p,H p=none->tk σ (upd H p (.dT [])) λy H1=>tv σ H1 λz H2=>H2 p=some (.dT [])/\∃b ks,y=.ref b/\FE K H2 b ks/\Q (.ref p) (upd H2 p (.dT [(ks,z)]))
theorem NP (hu:X.A.units+1 < cLine)(hk:PE X e ty)(hv:PE X f tv):PE X (.Dict [some e] [f] pos) (U_ X.K ty tv):=by
 intro CI s σ H Q I q
 have hn:=I.C8.fresh (aT s.heap.objs.size)
 have I1:=I.laid (a:=s.heap.objs.size) (o:=.dT []) (h':=s.heap.push { cls:=.type "dict",data:=.dict #[] }) (t':=s.toks) (λ_ _ q=>ae _ q) (aT _) (zp s.heap I.big)
 refine wpAny_Dict_any rfl rfl (λz=>nomatch z) (show (1:Nat)<=15 by decide) ?_
 refine pairTrees_cons_walk (DB (hk CI _ σ _ _ I1 (q _ hn)) λu s1 ⟨y,H1,I2,ry,q1⟩=>DB (hv CI s1 σ H1 _ I2 q1) ?_)
 rintro w2 s2 ⟨z,H2,I3,rz,e1,b,ks,e2,dk,q2⟩
 refine pairTrees_nil_walk ?_
 subst e2
 cases (show u=Value.ref b from ry)
 obtain⟨_,hd,xs,rel,dd⟩:=pJ I3.EZ I3.C8 (.inl e1)
 cases rel
 unfold storeAll
 rw[kq]
 refine ac (ac (yV (show X.A.units < cLine from Nat.lt_of_succ_lt hu) (lA I3.EZ I3.C8 dk) dd (c6 _) λh' Yk hs=>ai ?_))
 show wpAny _ _ (forIn [] _ _) _ _ _
 rw[lc]
 refine ai ?_
 obtain⟨o,es,hq,h2,h3,h4,_,h5⟩:=Yk
 have new:Dx X.prog X.w X.K (upd H2 s.heap.objs.size (.dT [(ks,z)])) h' s.heap.objs.size (.dT [(ks,z)]):=⟨by show (1:Nat)<=sizeLine;decide,hd,_,((KT.put (H:=H2) (kvs:=[]) .nil ks dk rz)).keeps λc ys ec=>by rw[aP (Lx ec e1 (λz=>nomatch z))];exact ec,o,es,_,hq,h2,h3,h4,h5,rfl⟩
 exact⟨.ref s.heap.objs.size,_,v7 (t':=s2.toks+(tupleKind (cZ X.prog X.w)).draws ks) I3 (by rw[e1];exact io) hs ⟨o,hq⟩ new,rfl,q2⟩
def RC (K:W.Frag)(a:Addr)(n:Nat):It:=
 ⟨λi H=>∃kvs,Rd H a (.dT kvs)/\kvs.length=n/\i < n,λi H x H'=>H'=H/\∃kvs b ks y,Rd H a (.dT kvs)/\kvs[i]?=some (ks,y)/\x=.ref b/\FE K H b ks,λi H=>∃kvs,Rd H a (.dT kvs)/\kvs.length=n/\n<=i⟩
theorem KT.get (r:KT K H kvs xs):∀{i:Nat}{p:List Key×V},kvs[i]?=some p->∃b u,xs[i]?=some (p.1,b,u)/\FE K H b p.1:=by
 induction r with
 | nil=>intro i p h;simp at h
 | @cons p q ps qs h t ih=>
  intro i p' e
  cases i with
  | zero=>
   cases e
   obtain⟨k,b,u⟩:=q
   obtain⟨h1,h2,_⟩:=h
   dsimp only at h1 h2
   exact⟨b,u,by rw[h1];rfl,h2⟩
  | succ i=>exact ih (i:=i) e
theorem NQ {tg:Expr}(a it:Addr)(n:Nat):Turn P w K tg (RC K a n) [it] it (λi h=>h.IsKeyIter it a i n n) where
 mem:=ah
 obj:=λi h st b hb=>by
  obtain⟨o,e,c,d⟩:=st
  exact⟨o,by rw[aE.mp hb];exact e,λv z=>by rw[d] at z;cases z⟩
 keep:=λi h h' st k=>let ⟨o,e,c⟩:=st;⟨o,k it ah o e,c⟩
 item:=by
  intro X hP hw hK hc i CI s σ H E I hf st hg
  subst hP hw hK
  obtain⟨kvs,hq,hlen,DS⟩:=hg
  obtain⟨f0,f1,f2,f3,f4,f5⟩:=hf it ah
  obtain⟨_,_,xs,rel,dd⟩:=pJ I.EZ I.C8 hq
  have hl:xs.length=n:=by rw[← ii rel];exact hlen
  obtain⟨p,hp⟩:∃p,kvs[i]?=some p:=⟨_,al (by omega)⟩
  obtain⟨b,u,hx,dk⟩:=rel.get hp
  subst hl
  refine Us st dd hx λh' IF sb=>?_
  obtain⟨o,e,c,d⟩:=id IF
  obtain⟨ks,y⟩:=p
  exact⟨.ref b,rfl,qK (s:={ s with heap:=h' }) e c d (by decide) ⟨.ref b,H,I.turned (t':=s.toks) (λb o hb q=>(sb.2 b hb).trans q) f0 f1 f3 f4 f5,rfl,⟨rfl,kvs,b,ks,y,hq,hp,rfl,dk⟩,IF,λb hb=>(hf b hb).1⟩⟩
 done:=by
  intro X hP hw hK hc i CI s σ H E I hf st hg
  subst hP hw hK
  obtain⟨kvs,hq,hlen,hge⟩:=hg
  obtain⟨f0,f1,f2,f3,f4,f5⟩:=hf it ah
  obtain⟨_,_,xs,rel,dd⟩:=pJ I.EZ I.C8 hq
  have hl:xs.length=n:=by rw[← ii rel];exact hlen
  subst hl
  exact VR (I.ok.hd hc) st dd hge λh' eb=>⟨rfl,I.turned (t':=s.toks) (λb o hb q=>eb b o hb q) f0 f1 f3 f4 f5⟩
 self:=λA i s Q E st h=>wpAny_pyIter_keyiter st h
def iDk (K:W.Frag)(tl:TE):TI:=fun σ H R=>tl σ H λx H1=>∃a kvs,x=.ref a/\Rd H1 a (.dT kvs)/\R (RC K a kvs.length) H1
theorem Va {tl:TE}(hl:PE X l tl):PI X tg l (iDk X.K tl):=by
 intro CI s σ H R I h
 refine DB (hl CI s σ H _ I h) ?_
 rintro v s1 ⟨x,H1,I1,r1,q1⟩
 obtain⟨a,kvs,e,hq,q⟩:=q1
 subst e
 cases r1
 obtain⟨_,hd,xs,rel,dd⟩:=pJ I1.EZ I1.C8 hq
 have hl:xs.length=kvs.length:=(ii rel).symm
 refine Ur hd dd λh' eh=>?_
 subst eh
 rw[hl]
 refine⟨s1.heap.objs.size,[s1.heap.objs.size],_,_,H1,rfl,I1.kept (t':=s1.toks) λb o e=>ae _ e,NQ a _ kvs.length,⟨_,am _ rfl,rfl,rfl⟩,λb hb=>?_,q⟩
 rw[aE.mp hb]
 exact I1.HG (aT _) (I1.C8.fresh (aT _))
end
variable {Q:Option Value->Shared->Prop}
section
variable {prog:Program}{w:World}{κ:Type}[DecidableEq κ]{kd:HeapKind prog w κ}{A:Around}{E:dx}{s:Shared}{d a it vw:Addr}{xs:List (κ×Addr×Value)}{k:κ}{v ok ov:Value}
theorem zQ (kd:HeapKind prog w κ)(d:Addr)(hd:(d == sysModules)=false):
  MeetsIn prog w (Builtin.«dict.items» ⟨[.ref d],[]⟩) (λ_ R s=>(∃xs,EM kd s.heap d xs) /\
   R (.ok (.ret (.ref s.heap.objs.size))) { s with heap:=s.heap.push { cls:=.type "dict_items",data:=.fields #[.ref d] } }):=
 .of_wp<|by
  rintro A R s ⟨⟨xs,m⟩,h⟩
  unfold Builtin.«dict.items»
  refine ac ?_
  unfold Builtin.Dict.noArgs
  refine ac (lI m.of.typeIs ?_)
  show wpAny _ _ (pure d) _ _ s
  refine ai ?_
  show wpAny _ _ (Builtin.Dict.showsAll d >>= _) _ _ s
  unfold Builtin.Dict.showsAll
  rw[a7 (by rw[hd];decide)]
  exact ac (ai (ac (dy (ai ⟨_,rfl,h⟩))))
theorem RG {Q:dx}(hv:s.heap.IsItemsView vw d)(m:EM kd s.heap d xs)
  (q:∀h',h'=s.heap.push { cls:=.type "dict_itemiterator",data:=.fields #[.none,.bool false,.ref d,.int 0 0,.int xs.length 0,.int xs.length 0,.none,.none] }->Q (.ref s.heap.objs.size) { s with heap:=h' }):wpAny (model prog w) A (pyIter (.ref vw)) Q E s:=by
 obtain⟨u,u1,u2,u3⟩:=id hv
 obtain⟨o,es,o1,o2,o3,o4,o5,o6⟩:=id m
 have sz:=iF o4
 refine kx hv.typeIs F.slot_dict_items_iter (cb F.slot_dict_items_iter hv.typeIs F.entry_dict_items_iter ?_ (F.args_dict_items_iter_1 _))
 unfold Builtin.«dict_items.__iter__»
 refine ac (ai (ac ?_))
 unfold Builtin.Dict_items.dictOf
 refine ac (cy u1 u3 (x:=.ref d) rfl (ai (ac ?_)))
 unfold Builtin.Dict_items.newIterator
 refine ac (iS o1 o3 (ac (ko o1 o3 ?_)))
 have own:Builtin.Dict_items.ownsTuple "dict_itemiterator" = true:=by decide
 simp only[own,kA]
 refine dy (ai ⟨_,rfl, "dict_itemiterator",_,⟨_,am _ rfl,rfl⟩,eI.lookup,?_⟩)
  (by simp only[sizeOk,Builtin.Dict_items.ownedTupleFields,a6,aS,bg,k7,sizeLine_eq];omega)
 simpa [rawInt,sz,Builtin.Dict_items.ownedTupleFields] using q _ rfl
theorem RJ (hi:IsItemIter s.heap it d i xs.length xs.length ok ov)(m:EM kd s.heap d xs)(hx:xs[i]?=some (k,b,v))
  (q:∀h',IsItemIterOut h' it d (i+1) xs.length xs.length (.ref b) v s.heap.objs.size->h'.get? s.heap.objs.size=some { cls:=.type "tuple",data:=.seq #[.ref b,v] }->h'.objs.size=s.heap.objs.size+1->
   (∀c o,c≠it->s.heap.get? c=some o->h'.get? c=some o)->Q (some (.ref s.heap.objs.size)) { s with heap:=h' }):wpAny (model prog w) A (pyNext (.ref it)) Q E s:=by
 obtain⟨hp,g,dr,tk,os⟩:=s
 obtain⟨o,es,o1,o2,o3,o4,o5,o6⟩:=id m
 have ty:Shared.TypeIs ⟨hp,g,dr,tk,os⟩ (.ref it) "dict_itemiterator" := ⟨_,hi,rfl⟩
 have sz:=iF o4
 unfold pyNext
 refine ac (fw (bX (name:=Str.ofString "__next__") ty eI (cb eI ty l4 ?_ (ly _))))
 refine ac (ai (ac (ac ?_)))
 first | refine ac (gI ty (ai ?_)) | refine ac (iE ty (ai ?_))
 refine ac (nr hi rfl ?_)
 have own:Builtin.Dict_items.ownsTuple "dict_itemiterator" = true:=by decide
 simp only[own,kA]
 show wpAny _ _ (if (Value.ref d == Value.none)=true then _ else _) _ _ _
 rw[a7 (by intro z;cases z)]
 refine ac (ai (ac (iS o1 o3 ?_)))
 rw[a7 (by rw[sz];simp)]
 refine ac (ai (ac (ko o1 o3 ?_)))
 rw[a7 (by simp)]
 refine ai ?_
 have lt:i < es.size:=by rw[sz];exact(aw.mp hx).1
 have ee:es[i]=entryOfKey kd (k,b,v):=by
  have z:=entry_at o4 i
  rw[hx,cp lt] at z
  exact a9 z
 have ek:es[i].key=.ref b:=by rw[ee];rfl
 have ev:es[i].val=v:=by rw[ee];rfl
 simp only[show ¬ ((i:Int) < 0) by omega,ib,fF,cp lt]
 refine ac ?_
 first | refine ac (gI ty (ai ?_)) | refine ac (iE ty (ai ?_))
 refine ac (ls ty ?_)
 show wpAny _ _ (setField (.ref it) 3 (rawInt ((i:Int)+1)) >>= _) _ _ ⟨hp,g,dr,tk,os⟩
 refine ac (dA hi (by simp) λh1 e1 s1=>?_)
 have s1:Heap.SameBut it hp h1:=s1
 have e1:IsItemIter h1 it d (i+1) xs.length xs.length ok ov:=by
  have e:((i+1:Nat):Int)=(i:Int)+1:=by omega
  unfold IsItemIter;rw[e];simpa [rawInt] using e1
 have t1:Shared.TypeIs ⟨h1,g,dr,tk,os⟩ (.ref it) "dict_itemiterator" := ⟨_,e1,rfl⟩
 refine ac (df (ac (ls t1 (ac (ls t1 ?_)))))
 show wpAny _ _ (Builtin.Dict_items.pairFromOwner (.ref it) 6 es[i].key es[i].val) _ _ ⟨h1,g,dr,tk,os⟩
 rw[ek,ev]
 unfold Builtin.Dict_items.pairFromOwner
 refine ac (qf ?_)
 have z1:h1.objs.size=hp.objs.size:=s1.1
 have il:it < hp.objs.size:=aI hi
 have e2:IsItemIter (h1.push { cls:=.type "tuple",data:=.seq #[.ref b,v] }) it d (i+1) xs.length xs.length ok ov:=ae _ e1
 have t2:(h1.push { cls:=.type "tuple",data:=.seq #[.ref b,v] }).get? hp.objs.size=some { cls:=.type "tuple",data:=.seq #[.ref b,v] }:=by rw[← z1];exact am _ rfl
 have z2:(h1.push { cls:=.type "tuple",data:=.seq #[.ref b,v] }).objs.size=hp.objs.size+1:=by rw[cE,z1]
 have k2:∀c o,c≠it->hp.get? c=some o->(h1.push { cls:=.type "tuple",data:=.seq #[.ref b,v] }).get? c=some o:=λc o hc e=>ae _ (s1.extBut c o hc e)
 generalize h1.push { cls:=.type "tuple",data:=.seq #[.ref b,v] }=h2 at e2 t2 z2 k2 ⊢
 show wpAny _ _ (Builtin.Dict_items.ownedTupleIsFree (.ref it) >>= _) _ _ ⟨h2,g,dr,tk,os⟩
 rw[z1]
 refine ac ?_
 unfold Builtin.Dict_items.ownedTupleIsFree
 refine ac (cy e2 rfl (x:=.none) rfl (ai ?_))
 simp only[kA]
 refine ac (cy e2 rfl (x:=ok) rfl (ac (cy e2 rfl (x:=ov) rfl ?_)))
 refine ac (dA e2 (by simp) λh3 e3 s3=>?_)
 have s3:Heap.SameBut it h2 h3:=s3
 have e3:IsItemIter h3 it d (i+1) xs.length xs.length (.ref b) ov:=e3
 refine ac (dA e3 (by simp) λh4 e4 s4=>?_)
 have s4:Heap.SameBut it h3 h4:=s4
 have e4:IsItemIter h4 it d (i+1) xs.length xs.length (.ref b) v:=e4
 refine ac (dA e4 (by simp) λh5 e5 s5=>?_)
 have s5:Heap.SameBut it h4 h5:=s5
 have e5:IsItemIterOut h5 it d (i+1) xs.length xs.length (.ref b) v hp.objs.size:=e5
 refine ac (dA e5 (by simp) λh6 e6 s6=>?_)
 have s6:Heap.SameBut it h5 h6:=s6
 have e6:IsItemIterOut h6 it d (i+1) xs.length xs.length (.ref b) v hp.objs.size:=e6
 have kk:∀c o,c≠it->h2.get? c=some o->h6.get? c=some o:=λc o hc e=>s6.extBut c o hc (s5.extBut c o hc (s4.extBut c o hc (s3.extBut c o hc e)))
 refine ac (l7 (ai (ai ⟨_,rfl,ai (q h6 e6 (kk _ _ (ki il) t2) ?_ λc o hc e=>kk c o hc (k2 c o hc e))⟩)))
 show h6.objs.size=hp.objs.size+1
 rw[s6.1,s5.1,s4.1,s3.1,z2]
theorem Vb (hh:A.handled=none)(hi:IsItemIter s.heap it d i xs.length xs.length ok ov)(m:EM kd s.heap d xs)(hx:xs.length<=i)
  (q:∀h',Heap.ExtBut it s.heap h'->Q none { s with heap:=h' }):wpAny (model prog w) A (pyNext (.ref it)) Q E s:=by
 obtain⟨o,es,o1,o2,o3,o4,o5,o6⟩:=id m
 have ty:s.TypeIs (.ref it) "dict_itemiterator" := ⟨_,hi,rfl⟩
 have sz:=iF o4
 unfold pyNext
 refine ac (fw (bX (name:=Str.ofString "__next__") ty eI (cb eI ty l4 ?_ (ly _))))
 refine ac (ai (ac (ac ?_)))
 first | refine ac (gI ty (ai ?_)) | refine ac (iE ty (ai ?_))
 refine ac (nr hi rfl ?_)
 have own:Builtin.Dict_items.ownsTuple "dict_itemiterator" = true:=by decide
 simp only[own,kA]
 show wpAny _ _ (if (Value.ref d == Value.none)=true then _ else _) (λ_ _=>_) _ s
 rw[a7 (by intro z;cases z)]
 refine ac (ai (ac (iS o1 o3 ?_)))
 rw[a7 (by rw[sz];simp)]
 refine ac (ai (ac (ko o1 o3 ?_)))
 rw[a7 (by simp)]
 refine ai ?_
 simp only[show ¬ ((i:Int) < 0) by omega,ib,fF,ic (show es.size<=i by omega)]
 refine ac ?_
 first | refine ac (gI ty (ai ?_)) | refine ac (iE ty (ai ?_))
 show wpAny _ _ (setField (.ref it) 2 .none >>= λ_=>_) _ _ s
 refine ac (im hi rfl (by simp) ?_)
 show wpAny _ _ (newExc (.type "StopIteration") [] >>= λ_=>_) _ _ _
 refine ac ?_
 simp only[newExc,newTuple]
 refine ac (dy (ac (m:=firstArgMember _ _) (iX (a:=Value.none) (by first | rfl | (simp only[firstArgMember];rfl)) (dy ?_ (by size_fits)))) (by size_fits))
 simp only[raiseNew]
 refine ac (oi ?_)
 rw[show A.in1.handled=none by exact hh]
 refine ac (ai (p9 ?_))
 refine ac (gy (b:=true) (T := "StopIteration") ⟨_,am _ rfl,rfl⟩ kD ?_)
 exact ai (q _ (((cm ..).extBut.push _).push _))
end
section
variable {X:Cx}{tg:Expr}{CI:fN}{σ:St}{H:Hp}{s:Shared}{apos C5 pos:Pos}{td:TE}{o:Expr}
theorem KT.get2 (r:KT K H kvs xs):∀{i:Nat}{p:List Key×V},kvs[i]?=some p->∃b u,xs[i]?=some (p.1,b,u)/\FE K H b p.1/\RelV p.2 u:=by
 induction r with
 | nil=>intro i p h;simp at h
 | @cons p q ps qs h t ih=>
  intro i p' e
  cases i with
  | zero=>
   cases e
   obtain⟨k,b,u⟩:=q
   obtain⟨h1,h2,h3⟩:=h
   dsimp only at h1 h2 h3
   exact⟨b,u,by rw[h1];rfl,h2,h3⟩
  | succ i=>exact ih (i:=i) e
def RK (K:W.Frag)(a:Addr)(n:Nat):It:=
 ⟨λi H=>∃kvs,Rd H a (.dT kvs)/\kvs.length=n/\i < n,λi H x H'=>∃t kvs b ks y,H t=none/\x=.ref t/\H'=upd H t (.tup [.ref b,y])/\Rd H a (.dT kvs)/\kvs[i]?=some (ks,y)/\FE K H b ks,λi H=>∃kvs,Rd H a (.dT kvs)/\kvs.length=n/\n<=i⟩
def NT (it a:Addr)(n i:Nat)(h:Heap):Prop:=∃ok ov,IsItemIter h it a i n n ok ov
theorem NZ (a it:Addr)(n:Nat):Turn P w K (.Tuple es x1 tpos) (RK K a n) [it] it (NT it a n) where
 mem:=ah
 obj:=λi h st b hb=>by
  obtain⟨ok,ov,e⟩:=st
  exact⟨_,by rw[aE.mp hb];exact e,λv z=>by
   have z':Data.fields _=Data.cell v:=z
   cases z'⟩
 keep:=λi h h' st k=>let ⟨ok,ov,e⟩:=st;⟨ok,ov,k it ah _ e⟩
 item:=by
  intro X hP hw hK hc i CI s σ H E I hf st hg
  subst hP hw hK
  obtain⟨kvs,hq,hlen,DS⟩:=hg
  obtain⟨ok,ov,st⟩:=st
  obtain⟨_,_,xs,rel,dd⟩:=pJ I.EZ I.C8 hq
  have hl:xs.length=n:=by rw[← ii rel];exact hlen
  obtain⟨p,hp⟩:∃p,kvs[i]?=some p:=⟨_,al (by omega)⟩
  obtain⟨b,u,hx,dk,ru⟩:=rel.get2 hp
  subst hl
  have Yo:it < s.heap.objs.size:=aI st
  refine RJ st dd hx λh' out XG hsz hk=>⟨_,rfl,?_⟩
  refine wpAny_letOwnedTupleGo_items (s:={ s with heap:=h' }) out λh2 Jn Fh=>?_
  have g2:h2.get? s.heap.objs.size=some { cls:=.type "tuple",data:=.seq #[.ref b,u] }:=(Fh.2 _ (ki Yo)).trans XG
  have k2:∀c o,c∉[it]->s.heap.get? c=some o->h2.get? c=some o:=λc o hc q=>by
   have h1:c≠it:=λz=>hc (by simp[z])
   exact(Fh.2 c h1).trans (hk c o h1 q)
  have XA:∀c o,s.heap.get? c=some o->∃o',h2.get? c=some o':=λc o q=>by
   by_cases h1:c=it
   ·subst h1;exact⟨_,Jn⟩
   ·exact⟨o,k2 c o (by simp[h1]) q⟩
  have I2:Inv X CI σ (upd H s.heap.objs.size (.tup [.ref b,p.2])) { s with heap:=h2 }:=
   I.HL (t':=s.toks) (ch:=[it]) k2 XA hf (aT _) ⟨by show 2<=sizeLine;decide,[.ref b,u],.cons rfl (.cons ru .nil),⟨_,g2,rfl,_,rfl⟩⟩
  refine⟨.ref s.heap.objs.size,_,I2,rfl,⟨s.heap.objs.size,kvs,b,p.1,p.2,I.fresh,rfl,rfl,hq,hp,dk⟩,⟨_,_,Jn⟩,λc hc=>?_⟩
  have Zb:=(hf c hc).1
  rw[aP ?_]
  ·exact Zb
  ·rw[aE.mp hc];exact cf Yo
 done:=by
  intro X hP hw hK hc i CI s σ H E I hf st hg
  subst hP hw hK
  obtain⟨kvs,hq,hlen,hge⟩:=hg
  obtain⟨ok,ov,st⟩:=st
  obtain⟨f0,f1,f2,f3,f4,f5⟩:=hf it ah
  obtain⟨_,_,xs,rel,dd⟩:=pJ I.EZ I.C8 hq
  have hl:xs.length=n:=by rw[← ii rel];exact hlen
  subst hl
  exact Vb (I.ok.hd hc) st dd hge λh' eb=>⟨rfl,I.turned (t':=s.toks) (λb o hb q=>eb b o hb q) f0 f1 f3 f4 f5⟩
 self:=λA i s Q E st h=>by
  obtain⟨ok,ov,st⟩:=st
  have hT:s.TypeIs (.ref it) "dict_itemiterator" := ⟨_,st,rfl⟩
  refine kx hT mx (cb mx hT W.kcp_entry ?_ (F.args_dict_itemiterator_iter_1 _))
  show wpAny _ _ (ret (.ref it)) _ _ s
  exact ai ⟨_,rfl, "dict_itemiterator",_,hT,eI.lookup,h⟩
noncomputable def Yp (K:W.Frag)(tl:TE):TI:=fun σ H R=>tl σ H λx H1=>∃a kvs,x=.ref a/\Rd H1 a (.dT kvs)/\R (RK K a kvs.length) H1
theorem Vc (ho:PE X o td)(EI:attributeBase o "items" X.env (eval o X.env)=eval o X.env:=by rfl)(EJ:(apos.endLine == C5.line)=true:=by rfl):
  PI X (.Tuple es x1 tpos) (.Call (.Attribute o "items" apos) [] [] C5) (Yp X.K td):=by
 intro CI s σ H R I h
 refine oa (T := "dict") (id := "dict.items") EI rfl EJ F.plainAttrs_dict F.slot_dict_items F.type_dict_items (DB (ho CI s σ H _ I h) ?_)
 rintro u s1 ⟨x,H1,I1,rx,a,kvs,ex,hq,q⟩
 subst ex
 cases (show u=Value.ref a from rx)
 obtain⟨t1,t2,_⟩:=zq I1 (.inr ⟨kvs,hq⟩)
 refine⟨t1,t2,?_⟩
 obtain⟨_,hd,xs,rel,dd⟩:=pJ I1.EZ I1.C8 hq
 have I2:Inv X CI σ H1 { s1 with heap:=s1.heap.push { cls:=.type "dict_items",data:=.fields #[.ref a] } }:=I1.kept (t':=s1.toks) λb o e=>ae _ e
 refine method_meetsIn F.slot_dict_items F.entry_dict_items rfl (PySem.evalArgs_none ⟨rfl,t1,F.args_dict_items_1 _,_,zQ (tupleKind (cZ X.prog X.w)) a hd,⟨xs,dd⟩,?_⟩)
 obtain⟨_,hd2,ys,rel2,QI⟩:=pJ I2.EZ I2.C8 hq
 have hl:ys.length=kvs.length:=(ii rel2).symm
 refine RG ⟨_,am _ rfl,rfl,rfl⟩ QI λh' eh=>?_
 subst eh
 rw[hl]
 refine⟨_,[_],_,_,H1,rfl,I2.kept (t':=s1.toks) λb o e=>ae _ e,NZ a _ kvs.length,⟨_,_,am _ rfl⟩,λb hb=>?_,q⟩
 rw[aE.mp hb]
 exact I2.HG (aT _) (I2.C8.fresh (aT _))
end
theorem yt:Slot "reversed" "__init__" "object.__init__" :=
 .of (owner := "object") (n := "__init__") (by rw[hU,eT];kernel_rfl) (by decide +kernel) (by decide +kernel) (by decide +kernel)
  (by first | exact .inl (by decide +kernel) | exact .inr (by decide +kernel)) (by rw[kH];kernel_rfl)
theorem vm:TypeCalled "reversed" "reversed.__new__" "object.__init__" :=
 ⟨by decide +kernel,by decide +kernel,⟨_,_,F.mro_reversed⟩,madeBy_type F.mro_reversed F.lookup_reversed_new (by decide +kernel),by decide +kernel,by rw[kH];kernel_rfl,yt⟩
theorem xO:Manifest.owners.lookup (String.ofList ['d','e','s','r','e','v','e','r'].reverse)=some Manifest.sig_reversed:=by kernel_rfl
theorem slot_rvd_next:Slot "reversed" "__next__" "reversed.__next__" :=
 .of (owner := "reversed") (n := "__next__") (by rw[hU,eT];kernel_rfl) (by decide +kernel) (by decide +kernel) (by decide +kernel)
  (by first | exact .inl (by decide +kernel) | exact .inr (by decide +kernel)) (by rw[kH];kernel_rfl)
theorem qj:entryFor table "reversed.__next__" = some Builtin.«reversed.__next__»:=entryFor_of_tree (by kernel_rfl)
theorem ph (a:Value):argsOk "reversed.__next__" ⟨[a],[]⟩:=by
 unfold argsOk;rw[signature?_of (id := "reversed.__next__") (n:=['_','_','t','x','e','n','_','_']) (o:=['d','e','s','r','e','v','e','r']) (by kernel_rfl) xO];kernel_rfl
theorem rG:Slot "reversed" "__iter__" "reversed.__iter__" :=
 .of (owner := "reversed") (n := "__iter__") (by rw[hU,eT];kernel_rfl) (by decide +kernel) (by decide +kernel) (by decide +kernel)
  (by first | exact .inl (by decide +kernel) | exact .inr (by decide +kernel)) (by rw[kH];kernel_rfl)
theorem vo (a:Value):argsOk "reversed.__iter__" ⟨[a],[]⟩:=by
 unfold argsOk;rw[signature?_of (id := "reversed.__iter__") (n:=['_','_','r','e','t','i','_','_']) (o:=['d','e','s','r','e','v','e','r']) (by kernel_rfl) xO];kernel_rfl
theorem wy:entryFor table "reversed.__iter__" = some Builtin.«dict_keyiterator.__iter__»:=
 entryFor_alias (id' := "dict_keyiterator.__iter__") (by kernel_rfl) (by first | rfl | decide +kernel | (unfold String.splitOn;simp +decide [String.splitOnAux])) (by decide +kernel) (by kernel_rfl)
theorem Hk:typeLookup (.type "tuple") "__reversed__" = pure none:=by rw[hU,eT];kernel_rfl
theorem Et:isSubtype (.type "tuple") (.type "dict")=pure false:=by rw[kH];kernel_rfl
def F7 (h:Heap)(a t:Addr)(i:Int):Prop:=∃o,h.get? a=some o/\o.cls=.type "reversed" /\ o.data=.fields #[.ref t,rawInt i]
theorem F7.typeIs {l:Addr}{i:Int}(x:F7 s.heap a l i):s.TypeIs (.ref a) "reversed" := let ⟨o,ho,hc,_⟩:=x;⟨o,ho,hc⟩
theorem F7.at {l:Addr}{i:Int}(x:F7 h a l i)(e:∀o,h.get? a=some o->h'.get? a=some o):F7 h' a l i:=let ⟨o,ho,r⟩:=x;⟨o,e _ ho,r⟩
theorem Mg {n:Nat}(h:n<=sizeLine):(n:Int) < 2 ^ 63:=by
 have:sizeLine < 2 ^ 62:=by decide
 omega
section
variable {prog:Program}{w:World}{A:Around}{E:dx}{s:Shared}
theorem RL (t:Addr)(items:rV)(hz:(items.size:Int) < 2 ^ 63):Meets (Builtin.«reversed.__new__» ⟨[.type "reversed",.ref t],[]⟩) (λ_ R s=>IsTup s.heap t items /\
   R (.ok (.ret (.ref s.heap.objs.size))) { s with heap:=s.heap.push { cls:=.type "reversed",data:=.fields #[.ref t,rawInt ((items.size:Int) - 1)] },toks:=s.toks+1+1 }):=
 .of_wp λprog w A R s h=>by
  obtain⟨q1,h⟩:=h
  unfold Builtin.«reversed.__new__»
  refine ac (iX (newClass_reversed _) ?_)
  try dsimp only
  refine ac (iX (a:=()) (by first | rfl | kernel_rfl) ?_)
  refine ac (iX (a:=()) (by first | rfl | kernel_rfl) ?_)
  try dsimp only
  refine ac (gv q1.typeIs Hk ?_)
  try dsimp only
  refine ac ?_
  show wpAny _ _ (isInstance (.ref t) (.type "dict") >>= _) _ _ _
  refine ac (gy q1.typeIs Et ?_)
  rw[a7 (by decide)]
  refine ac (gv q1.typeIs F.slot_tuple_getitem.lookup ?_)
  dsimp only
  rw[be (by decide +kernel)]
  refine ai ?_
  rw[a7 (by decide)]
  refine ac (len_tuple q1 hz ?_)
  refine ac (iX (a:=some (items.size:Int)) rfl ?_)
  dsimp only
  refine ac ?_
  unfold Builtin.SmallTypes.newRecord
  exact dy (ai ⟨_,rfl,h⟩) (by size_fits)
theorem J_ {t:Addr}{Q:dx}(ht:IsTup s.heap t items)(hz:(items.size:Int) < 2 ^ 63)
  (h:Q (.ref s.heap.objs.size) { s with heap:=s.heap.push { cls:=.type "reversed",data:=.fields #[.ref t,rawInt ((items.size:Int) - 1)] },toks:=s.toks+1+1 }):wpAny (model prog w) A (call (.type "reversed") [.ref t]) Q E s:=
 o0 vm (by decide) (F.typeCall_reversed_1 _) (F.newCall_reversed_1 _) (λobj=>F.args_object_init_2 obj _) F.entry_reversed_new (RL t items hz) ⟨ht,⟨_,am _ rfl,rfl⟩,h⟩
theorem Ka {t:Addr}{x:Value}(hit:F7 s.heap it t (i:Int))(ht:IsTup s.heap t items)(hz:(items.size:Int) < 2 ^ 63)(hx:items[i]?=some x)
  (hQ:∀h' tk,F7 h' it t ((i:Int) - 1)->Heap.SameBut it s.heap h'->Q (some x) { s with heap:=h',toks:=tk }):wpAny (model prog w) A (pyNext (.ref it)) Q E s:=by
 obtain⟨o,ho,hc,hd⟩:=id hit
 have DS:i < items.size:=by
  rcases ef i items.size with z | z
  ·exact z
  ·rw[ic z] at hx;cases hx
 unfold pyNext
 refine ac (fw (bX (name:=Str.ofString "__next__") hit.typeIs slot_rvd_next
  (cb slot_rvd_next hit.typeIs qj ?_ (ph _))))
 unfold Builtin.«reversed.__next__»
 refine ac (iX (a:=(Value.ref it,[])) rfl ?_)
 try dsimp only
 refine ac (cy ho hd (x:=.ref t) rfl ?_)
 refine ac (cy ho hd (x:=rawInt (i:Int)) rfl ?_)
 show wpAny _ _ (if (i:Int) < 0 then _ else _) _ _ s
 rw[a7 (by omega)]
 refine ac (gv ht.typeIs F.slot_tuple_getitem.lookup ?_)
 rw[a7 (by simp)]
 refine ac (wpAny_mkInt ?_)
 refine ac (fw (getItem_tuple (s:={ s with toks:=s.toks+1 }) ht (by omega) (by omega) (j:=i) ?_ hx ?_))
 ·exact(v9 (n:=items.size) (i:=(i:Int)) (j:=i) (by unfold Kk;rw[be (by omega),be (by omega),fF])).1
 show wpAny _ _ (field (.ref it) 1 >>= _) _ _ _
 refine ac (cy ho hd (x:=rawInt (i:Int)) rfl ?_)
 show wpAny _ _ (setField (.ref it) 1 (rawInt ((i:Int) - 1)) >>= _) _ _ _
 refine ac (im ho hd (by simp) ?_)
 refine ai ⟨x,rfl,ai (hQ _ _ ?_ (cm ..))⟩
 exact⟨_,c5 _ ho (kr (fT hd _)),(nX ..).trans hc,by
  rw[fT hd];simp⟩
theorem N5 {t:Addr}(hh:A.handled=none)(hit:F7 s.heap it t (-1))
  (hQ:∀h',Heap.ExtBut it s.heap h'->Q none { s with heap:=h' }):wpAny (model prog w) A (pyNext (.ref it)) Q E s:=by
 obtain⟨o,ho,hc,hd⟩:=id hit
 unfold pyNext
 refine ac (fw (bX (name:=Str.ofString "__next__") hit.typeIs slot_rvd_next
  (cb slot_rvd_next hit.typeIs qj ?_ (ph _))))
 unfold Builtin.«reversed.__next__»
 refine ac (iX (a:=(Value.ref it,[])) rfl ?_)
 try dsimp only
 refine ac (cy ho hd (x:=.ref t) rfl ?_)
 refine ac (cy ho hd (x:=rawInt (-1)) rfl ?_)
 show wpAny _ _ (if (-1:Int) < 0 then _ else _) _ _ s
 rw[be (by decide)]
 refine ac (lT ?_)
 refine ac ?_
 show wpAny _ _ (setField (.ref it) 1 (rawInt (-1)) >>= λ_=>setField (.ref it) 0 .none) _ _ _
 refine ac (im ho hd (by simp) ?_)
 have QN:=c5 (λo=>o.mapFields λvs=>vs.setIfInBounds 1 (rawInt (-1))) ho (kr (fT hd _))
 refine im QN (fT hd _) (by simp) ?_
 refine ac ?_
 show wpAny _ _ (newExc (.type "StopIteration") [] >>= _) _ _ _
 refine ac ?_
 simp only[newExc,newTuple]
 refine ac (dy ?_ (by size_fits))
 refine ac (m:=firstArgMember _ _) (iX (a:=Value.none) (by first | rfl | (simp only[firstArgMember];rfl)) ?_)
 refine dy ?_ (by size_fits)
 simp only[raiseNew]
 refine ac (oi ?_)
 first | rw[show A.in1.handled=none from hh] | rw[hh]
 refine ac (ai (p9 ?_))
 refine ac (gy (T := "StopIteration") (b:=true) ⟨_,am _ rfl,rfl⟩ kD ?_)
 exact ai (hQ _ λb o hb e=>ae _ (ae _ ((eg _ _ (gx hb)).trans ((eg _ _ (gx hb)).trans e))))
theorem zR {l:Addr}{i:Int}{Q:dx}(hit:F7 s.heap it l i)(h:Q (.ref it) s):wpAny (model prog w) A (pyIter (.ref it)) Q E s:=by
 refine kx hit.typeIs rG (cb rG hit.typeIs wy ?_ (vo _))
 show wpAny _ _ (ret (.ref it)) _ _ s
 exact ai ⟨_,rfl, "reversed",_,hit.typeIs,slot_rvd_next.lookup,h⟩
end
def Kc (K:W.Frag)(a:Addr)(n:Nat):It:=
 ⟨λi H=>∃xs x,FI K H a xs/\xs.length=n/\i < n/\xs[n - 1 - i]?=some x,λi H x H'=>H'=H/\∀xs,FI K H a xs->xs[n - 1 - i]?=some x,λi _=>n=i⟩
theorem Kd (a it:Addr)(n:Nat):Turn P w K tg (Kc K a n) [it] it (λi h=>F7 h it a ((n:Int) - 1 - ((i:Nat):Int))) where
 mem:=by simp
 obj:=λi h st b hb=>by
  obtain⟨o,e,c,d⟩:=st
  exact⟨o,by rw[aE.mp hb];exact e,λv z=>by rw[d] at z;cases z⟩
 keep:=λi h h' st k=>st.at λo e=>k it ah o e
 item:=by
  intro X hP hw hK hc i CI s σ H E I hf st hg
  subst hP hw hK
  obtain⟨xs,x,hq,hlen,DS,hx⟩:=hg
  obtain⟨CL,rv,p,hz⟩:=I.tuple hq
  obtain⟨u,hu,ru⟩:=rv.get hx
  obtain⟨f0,f1,f2,f3,f4,f5⟩:=hf it ah
  have e1:(n:Int) - 1 - ((i:Nat):Int)=((n - 1 - i:Nat):Int):=by omega
  have UH:=st
  rw[e1] at UH
  refine Ka UH p (Mg (by simpa [rv.length] using hz)) (x:=u) (by simpa using hu) λh' tk IF sb=>?_
  have e2:((n - 1 - i:Nat):Int) - 1=(n:Int) - 1 - ((i+1:Nat):Int):=by omega
  rw[e2] at IF
  obtain⟨o,e,c,d⟩:=id IF
  exact⟨u,rfl,qK (s:={ s with heap:=h',toks:=tk }) e c d (by decide) ⟨x,H,I.turned (t':=tk) (λb o hb q=>(sb.2 b hb).trans q) f0 f1 f3 f4 f5,ru,⟨rfl,λys hy=>by rw[I.G0 hy hq];exact hx⟩,IF,λb hb=>(hf b hb).1⟩⟩
 done:=by
  intro X hP hw hK hc i CI s σ H E I hf st hg
  subst hP hw hK
  obtain⟨f0,f1,f2,f3,f4,f5⟩:=hf it ah
  have hg':n=i:=hg
  have e1:(n:Int) - 1 - ((i:Nat):Int)=-1:=by omega
  rw[e1] at st
  exact N5 (I.ok.hd hc) st λh' eb=>⟨rfl,I.turned (t':=s.toks) (λb o hb q=>eb b o hb q) f0 f1 f3 f4 f5⟩
 self:=λ_ _ _ _ _ st h=>zR st h
section
variable {X:Cx}{tg:Expr}
def Wd (K:W.Frag)(ta:TA):TI:=fun σ H R=>ta σ H λvs H1=>∃a xs,vs=[.ref a]/\FI K H1 a xs/\R (Kc K a xs.length) H1
theorem RM (hg:Gl X "reversed")(hm:X.mg "reversed" = none)(ha:PA X [l] ta)(hb:bootBuiltins "reversed" = some (.type "reversed"))(hs:starEach [l] X.env=(false,eval l X.env)::starEach [] X.env:=by rfl)(hp:(backTo pos (starEach [] X.env)).any (·.1)=false:=by rfl):
  PI X tg (.Call (.Name "reversed" p) [l] [] pos) (Wd X.K ta):=by
 intro CI s σ H R I h
 refine Call_ (dZ I hg hm hb (bv (DB (ha pos CI s σ H _ I h) ?_) hs hp))
 rintro us s1 ⟨vs,H1,I1,r1,q1⟩
 obtain⟨a,xs,e,hq,q⟩:=q1
 subst e
 obtain⟨u,rfl,ru⟩:=vals1 r1
 cases ru
 obtain⟨CL,rv,p,hz⟩:=I1.tuple hq
 refine J_ p (Mg (by simpa [rv.length] using hz)) ?_
 have hlen:=rv.length
 have ez:((CL.toArray.size:Nat):Int) - 1=(xs.length:Int) - 1 - ((0:Nat):Int):=by rw[a6];omega
 rw[ez]
 refine zR ⟨_,am _ rfl,rfl,rfl⟩ ⟨s1.heap.objs.size,[s1.heap.objs.size],_,_,H1,rfl,I1.kept (t':=s1.toks+1+1) λb o e=>ae _ e,Kd a _ xs.length,⟨_,am _ rfl,rfl,rfl⟩,λb hb=>?_,q⟩
 rw[aE.mp hb]
 exact I1.HG (aT _) (I1.C8.fresh (aT _))
end
theorem Hl (hh:A.handled=none)(it:Addr)(x:Str)(t:Tok):Draws prog w A it [it] x.cps.size (λi v=>∃c u,x.cps[i]?=some c/\v=.str ⟨#[c]⟩ u) (λi h=>h.IsStrIter it (strIterType x) x t i):=by
 cases ha:x.cps.all (· < 128) with
 | false=>
  have e:strIterType x = "str_iterator" := by simp[strIterType,ha]
  rw[e]
  exact Draws.strWide hh it x t
 | true=>
  have e:strIterType x = "str_ascii_iterator" := by simp[strIterType,ha]
  rw[e]
  exact Draws.strAscii hh it x t
theorem sJ {ty:String}{t:Tok}(st:h.IsStrIter it ty x t i):∃o,h.get? it=some o/\∀v,o.data≠.cell v:=by
 obtain⟨o,e,c,d⟩:=st
 exact⟨o,e,λv y=>by rw[d] at y;cases y⟩
theorem vp {ty:String}{t:Tok}(st:h.IsStrIter it ty x t i)(q:∀o,h.get? it=some o->h'.get? it=some o):h'.IsStrIter it ty x t i:=by
 obtain⟨o,e,r⟩:=st
 exact⟨o,q o e,r⟩
noncomputable def Zc (h:Heap)(x:Str)(t:Tok):Heap:=h.push { cls:=.type (strIterType x),data:=.fields #[.str x t,.int 0 0] }
noncomputable def Zd (k2:SK)(h:Heap)(x:Str)(t:Tok)(l2:Addr):Heap:=(Zc h x t).push { cls:=.type k2.ty,data:=.fields #[.ref l2,.int 0 0] }
noncomputable def Ze (k2:SK)(h:Heap)(x:Str)(t:Tok)(l2:Addr):Heap:=(Zd k2 h x t l2).push { cls:=.type "tuple",data:=.seq #[.ref h.objs.size,.ref (Zc h x t).objs.size] }
noncomputable def zs4 (k2:SK)(h:Heap)(x:Str)(t:Tok)(l2:Addr):Heap:=(Ze k2 h x t l2).push { cls:=.type "tuple",data:=.seq #[.none,.none] }
noncomputable def XI (k2:SK)(h:Heap)(x:Str)(t:Tok)(l2:Addr):Heap:=(zs4 k2 h x t l2).push { cls:=.type "zip",data:=.fields #[.none,.bool false,.bool false,.ref (Zd k2 h x t l2).objs.size,.ref (Ze k2 h x t l2).objs.size] }
theorem N6 (k2:SK)(x:Str)(t:Tok)(l2:Addr)(ys:rV):Meets (Builtin.«zip.__new__» ⟨[.type "zip",.str x t,.ref l2],[]⟩) (λ_ R s=>k2.is s.heap l2 ys /\
   R (.ok (.ret (.ref (zs4 k2 s.heap x t l2).objs.size))) { s with heap:=XI k2 s.heap x t l2 }):=
 .of_wp λprog w A R s h=>by
  obtain⟨hp,g,d,tk,os⟩:=s
  obtain⟨q2,h⟩:=h
  have Y9:=sub_zip
  cases k2 with
  | L=>
   have e2:Heap.IsList (Shared.heap ⟨hp.push { cls:=.type (strIterType x),data:=.fields #[.str x t,.int 0 0] },g,d,tk,os⟩) l2 ys:=kN q2 _
   wp_walk using wpAny_pyIter_strU,eC e2
   exact⟨_,rfl,h⟩
  | T=>
   have e2:Heap.IsTuple (Shared.heap ⟨hp.push { cls:=.type (strIterType x),data:=.fields #[.str x t,.int 0 0] },g,d,tk,os⟩) l2 ys:=let ⟨o,e,c⟩:=q2;⟨o,ae _ e,c⟩
   wp_walk using wpAny_pyIter_strU,fi e2
   exact⟨_,rfl,h⟩
section
variable {prog:Program}{w:World}{A:Around}{E:dx}{s:Shared}
theorem Hm {t:Tok}{ys:rV}{Q:dx}(q2:k2.is s.heap l2 ys)
  (h:∀h',IsZip h' (s.heap.objs.size+4) (s.heap.objs.size+2) (s.heap.objs.size+3) .none->IsPair h' (s.heap.objs.size+2) (.ref s.heap.objs.size) (.ref (s.heap.objs.size+1))->
   IsPair h' (s.heap.objs.size+3) .none .none->h'.IsStrIter s.heap.objs.size (strIterType x) x t 0->k2.at h' (s.heap.objs.size+1) l2 0->h'.objs.size=s.heap.objs.size+5->
   (∀c o,s.heap.get? c=some o->h'.get? c=some o)->Q (.ref (s.heap.objs.size+4)) { s with heap:=h' }):
  wpAny (model prog w) A (call (.type "zip") [.str x t,.ref l2]) Q E s:=by
 refine o0 F.called_zip (by decide) (F.typeCall_zip_2 _ _) (F.newCall_zip_2 _ _) (λobj=>F.args_object_init_3 obj _ _) F.entry_zip_new (N6 k2 x t l2 ys) ⟨q2,?_⟩
 have a1:(Zc s.heap x t).objs.size=s.heap.objs.size+1:=cE ..
 have a2:(Zd k2 s.heap x t l2).objs.size=s.heap.objs.size+2:=(cE ..).trans (by rw[a1])
 have a3:(Ze k2 s.heap x t l2).objs.size=s.heap.objs.size+3:=(cE ..).trans (by rw[a2])
 have a4:(zs4 k2 s.heap x t l2).objs.size=s.heap.objs.size+4:=(cE ..).trans (by rw[a3])
 have a5:(XI k2 s.heap x t l2).objs.size=s.heap.objs.size+5:=(cE ..).trans (by rw[a4])
 have b5:(XI k2 s.heap x t l2).get? (zs4 k2 s.heap x t l2).objs.size=some { cls:=.type "zip",data:=.fields #[.none,.bool false,.bool false,.ref (Zd k2 s.heap x t l2).objs.size,.ref (Ze k2 s.heap x t l2).objs.size] }:=am _ rfl
 have b4:(XI k2 s.heap x t l2).get? (Ze k2 s.heap x t l2).objs.size=some { cls:=.type "tuple",data:=.seq #[.none,.none] }:=ae _ (am _ rfl)
 have b3:(XI k2 s.heap x t l2).get? (Zd k2 s.heap x t l2).objs.size=some { cls:=.type "tuple",data:=.seq #[.ref s.heap.objs.size,.ref (Zc s.heap x t).objs.size] }:=ae _ (ae _ (am _ rfl))
 have b2:(XI k2 s.heap x t l2).get? (Zc s.heap x t).objs.size=some { cls:=.type k2.ty,data:=.fields #[.ref l2,.int 0 0] }:=ae _ (ae _ (ae _ (am _ rfl)))
 have b1:(XI k2 s.heap x t l2).get? s.heap.objs.size=some { cls:=.type (strIterType x),data:=.fields #[.str x t,.int 0 0] }:=ae _ (ae _ (ae _ (ae _ (am _ rfl))))
 rw[a2,a3,a4] at b5
 rw[a3] at b4
 rw[a1,a2] at b3
 rw[a1] at b2
 show _/\_
 rw[a4]
 exact⟨⟨_,b5,rfl⟩,h _ b5 b3 b4 ⟨_,b1,rfl,rfl⟩ (SK.at_of b2) a5 λc o x=>ae _ (ae _ (ae _ (ae _ (ae _ x))))⟩
end
def RN (K:W.Frag)(x:Str)(k2:SK)(b:Addr):It:=
  ⟨λi H=>∃c ys y,x.cps.toList[i]?=some c/\k2.sq K H b ys/\ys[i]?=some y,
   λi H v H'=>∃t c y,H t=none/\v=.ref t/\H'=upd H t (.tup [.str ⟨#[c]⟩,y])/\x.cps.toList[i]?=some c/\∀ys,k2.sq K H b ys->ys[i]?=some y,
   λi H=>∃ys,k2.sq K H b ys/\(x.cps.toList.length=i\/(i < x.cps.toList.length/\ys.length=i))⟩
def RQ (x:Str)(t:Tok)(k2:SK)(z TI TO i1 i2 l2:Addr)(i:Nat)(h:Heap):Prop:=IsZip h z TI TO .none/\IsPair h TI (.ref i1) (.ref i2)/\(∃a b,IsPair h TO a b)/\h.IsStrIter i1 (strIterType x) x t i/\k2.at h i2 l2 i
theorem Hn {z TI TO i1 i2:Addr}(D:ZipApart z TI TO i1 i2 l2 l2):ZA z TI TO i1 i2 [i1] [i2,l2] where
 TIz:=D.TIz
 TOz:=D.TOz
 TIO:=D.TITO
 m1:=by simp
 m2:=by simp
 z1:=by simp[D.i1z.symm]
 z2:=by simp[D.i2z.symm,D.l2z.symm]
 o1:=by simp[D.TOi1]
 o2:=by simp[D.TOi2,D.l2TO.symm]
 x12:=by simp[D.i12,D.l2i1.symm]
 x21:=by simp[D.i12.symm]
theorem xP {tx:Str}{tt:Tok}{z TI TO i1 i2:Addr}(D:ZipApart z TI TO i1 i2 l2 l2):Turn P w K (.Tuple es x1 tpos) (RN K tx k2 l2) [z,TI,TO,i1,i2] z (RQ tx tt k2 z TI TO i1 i2 l2) where
 mem:=by simp
 obj:=λi h st b hb=>by
  obtain⟨hz,EX,⟨a,c,FX⟩,s1,s2⟩:=st
  simp only[av,bt,fg] at hb
  rcases hb with rfl | rfl | rfl | rfl | rfl
  ·exact⟨_,hz,λv y=>by have y':Data.fields _=Data.cell v:=y;cases y'⟩
  ·exact⟨_,EX,λv y=>by have y':Data.seq _ _=Data.cell v:=y;cases y'⟩
  ·exact⟨_,FX,λv y=>by have y':Data.seq _ _=Data.cell v:=y;cases y'⟩
  ·exact(sJ s1)
  ·exact(SK.EB s2)
 keep:=λi h h' st k=>by
  obtain⟨hz,EX,⟨a,c,FX⟩,s1,s2⟩:=st
  exact⟨k z (by simp) _ hz,k TI (by simp) _ EX,⟨a,c,k TO (by simp) _ FX⟩,vp s1 λo q=>k i1 (by simp) o q,SK.ET s2 λo q=>k i2 (by simp) o q⟩
 item:=by
  intro X hP hw hK hc i CI s σ H E I hf st hg
  subst hP hw hK
  obtain⟨c0,ys,y,hx,LU,hy⟩:=hg
  obtain⟨hz,EX,⟨a,b,FX⟩,s1,s2⟩:=st
  obtain⟨D7,NH,p2⟩:=I.sk LU
  obtain⟨v,hv,rv⟩:=NH.get hy
  have hh:=I.ok.hd hc
  have hT:s.TypeIs (.ref z) "zip" := ⟨_,hz,rfl⟩
  have Sz:i < tx.cps.size:=by
   rcases ef i tx.cps.toList.length with q | q
   ·simpa using q
   ·rw[bo q] at hx;cases hx
  have Xs:i < D7.toArray.size:=by
   rcases ef i D7.length with q | q
   ·simpa using q
   ·rw[bo q] at hv;cases hv
  unfold pyNext
  refine ac (fw (bX (name:=Str.ofString "__next__") hT eM (cb eM hT j3
   (xK (Hn D) (Hl (prog:=X.prog) (w:=X.w) (A:=X.A.in1) hh i1 tx tt) (SK.draws (prog:=X.prog) (w:=X.w) (A:=X.A.in1) k2 hh i2 l2 D.l2i2 D7.toArray) hz EX FX s1 ⟨s2,p2⟩ Sz Xs λh' tk x' y' ex ey z1 t1 j1 j2 tp hsz hk=>ai ⟨_,rfl,?_⟩) (i0 _))))
  obtain⟨c1,u1,ex,rfl⟩:=ex
  have ec:c1=c0:=a9 (by rw[← ex,← hx];simp)
  subst ec
  have ev:y'=v:=a9 (by rw[← ey,← hv];simp)
  subst ev
  refine nS (s:={ s with heap:=h',toks:=tk }) z1 λh2 z2 sb=>?_
  have lz:z < s.heap.objs.size:=aI hz
  have g2:h2.get? s.heap.objs.size=some { cls:=.type "tuple",data:=.seq #[.str ⟨#[c1]⟩ u1,y'] }:=(sb.2 _ (ki lz)).trans tp
  have kp:∀c o,c∉[z,TO,i1,i2]->s.heap.get? c=some o->h2.get? c=some o:=λc o hb q=>by
   simp only[av,bt,fg,oj] at hb
   exact(sb.2 c hb.1).trans (hk c o hb.1 hb.2.1 hb.2.2.1 hb.2.2.2 q)
  have Xt:IsPair h2 TO (.str ⟨#[c1]⟩ u1) y':=(sb.2 _ D.TOz).trans t1
  have g1:h2.IsStrIter i1 (strIterType tx) tx tt (i+1):=vp j1 λo e=>(sb.2 i1 D.i1z).trans e
  have Za:k2.at h2 i2 l2 (i+1):=SK.ET j2.1 λo e=>(sb.2 i2 D.i2z).trans e
  have XA:∀c o,s.heap.get? c=some o->∃o',h2.get? c=some o':=λc o q=>by
   by_cases n1:c=z
   ·subst n1;exact⟨_,z2⟩
   ·by_cases n2:c=TO
    ·subst n2;exact⟨_,Xt⟩
    ·by_cases n3:c=i1
     ·subst n3;obtain⟨o',e',_⟩:=(sJ g1);exact⟨o',e'⟩
     ·by_cases n4:c=i2
      ·subst n4;obtain⟨o',e',_⟩:=(SK.EB Za);exact⟨o',e'⟩
      ·exact⟨o,kp c o (by simp[n1,n2,n3,n4]) q⟩
  have I2:Inv X CI σ (upd H s.heap.objs.size (.tup [.str ⟨#[c1]⟩,y])) { s with heap:=h2,toks:=tk }:=
   I.HL (ch:=[z,TO,i1,i2]) kp XA (λb hb=>hf b (by simp only[av,bt,fg] at hb ⊢;rcases hb with e | e | e | e <;> simp[e])) (aT _)
    ⟨by show 2<=sizeLine;decide,[.str ⟨#[c1]⟩ u1,y'],.cons ⟨u1,rfl⟩ (.cons rv .nil),⟨_,g2,rfl,_,rfl⟩⟩
  refine⟨.ref s.heap.objs.size,_,I2,rfl,⟨s.heap.objs.size,c1,y,I.fresh,rfl,rfl,hx,λzs hy'=>by rw[I.JY hy' LU];exact hy⟩,⟨z2,?_,⟨_,y',Xt⟩,g1,Za⟩,λb hb=>?_⟩
  ·exact kp TI _ (by simp[D.TIz,D.TITO,D.TIi1,D.TIi2]) EX
  ·have SD:=(hf b hb).1
   rw[aP ?_]
   ·exact SD
   ·have DS:b < s.heap.objs.size:=by
     simp only[av,bt,fg] at hb
     rcases hb with rfl | rfl | rfl | rfl | rfl
     ·exact lz
     ·exact aI EX
     ·exact aI FX
     ·obtain⟨o,e1,_⟩:=(sJ s1);exact aI e1
     ·obtain⟨o,e1,_⟩:=(SK.EB s2);exact aI e1
    exact cf DS
 done:=by
  intro X hP hw hK hc i CI s σ H E I hf st hg
  subst hP hw hK
  obtain⟨ys,LU,hl⟩:=hg
  obtain⟨hz,EX,⟨a,b,FX⟩,s1,s2⟩:=st
  obtain⟨D7,NH,p2⟩:=I.sk LU
  have l2':=NH.length
  have hh:=I.ok.hd hc
  have hT:s.TypeIs (.ref z) "zip" := ⟨_,hz,rfl⟩
  have hk:i=tx.cps.size\/(i < tx.cps.size/\i=D7.toArray.size):=by
   have h8:D7.toArray.size=D7.length:=a6 ..
   have h9:tx.cps.toList.length=tx.cps.size:=eS
   have HE:tx.cps.toList.length=i\/(i < tx.cps.toList.length/\ys.length=i):=hl
   rw[h9] at HE
   rcases HE with e | ⟨e1,e2⟩
   ·exact .inl e.symm
   ·exact .inr ⟨e1,by omega⟩
  unfold pyNext
  refine ac (fw (bX (name:=Str.ofString "__next__") hT eM (cb eM hT j3
   (zN (Hn D) (Hl (prog:=X.prog) (w:=X.w) (A:=X.A.in1) hh i1 tx tt) (SK.draws (prog:=X.prog) (w:=X.w) (A:=X.A.in1) k2 hh i2 l2 D.l2i2 D7.toArray) hz EX FX s1 ⟨s2,p2⟩ hk λh' tk e kp he=>?_) (i0 _))))
  obtain⟨o,ho,ID⟩:=he
  refine ac (gy (T := "StopIteration") (b:=true) ⟨o,ho,ID⟩ kD (ai ⟨rfl,?_⟩))
  refine I.Me (ch:=[z,TO,i1,i2]) (λc o hb q=>?_) (λb hb=>hf b (by simp only[av,bt,fg] at hb ⊢;rcases hb with e | e | e | e <;> simp[e]))
  simp only[av,bt,fg,oj] at hb
  exact kp c o hb.1 hb.2.1 hb.2.2.1 hb.2.2.2 q
 self:=λA i s Q E st h=>oq st.1 h
section
variable {X:Cx}
def Vd (K:W.Frag)(k2:SK)(ta:TA):TI:=fun σ H R=>ta σ H λvs H1=>∃x b,vs=[.str x,.ref b]/\(∃ys,k2.sq K H1 b ys)/\R (RN K x k2 b) H1
theorem N7 {r:Expr}(hg:Gl X "zip")(hm:X.mg "zip" = none)(ha:PA X [l,r] ta)(hs:starEach [l,r] X.env=(false,eval l X.env)::starEach [r] X.env:=by rfl)(hp:(backTo pos (starEach [r] X.env)).any (·.1)=false:=by rfl):
  PI X (.Tuple es x1 tpos) (.Call (.Name "zip" p) [l,r] [] pos) (Vd X.K k2 ta):=by
 intro CI s σ H R I h
 refine Call_ (dZ I hg hm pS (bv (DB (ha pos CI s σ H _ I h) ?_) hs hp))
 rintro us s1 ⟨vs,H1,I1,r1,q1⟩
 obtain⟨x,b,e,⟨ys,LU⟩,q⟩:=q1
 subst e
 obtain⟨u,v,rfl,ru,rv⟩:=vals2 r1
 obtain⟨t,rfl⟩:=ru
 cases rv
 obtain⟨D7,NH,p2⟩:=I1.sk LU
 refine Hm p2 λh' hz EX FX Sz Xs hsz hk=>?_
 have I2:Inv X CI σ H1 { s1 with heap:=h' }:=I1.kept (t':=s1.toks) hk
 have D:=zipApart_new (SK.is_lt p2) (SK.is_lt p2)
 have st:RQ x t k2 (s1.heap.objs.size+4) (s1.heap.objs.size+2) (s1.heap.objs.size+3) s1.heap.objs.size (s1.heap.objs.size+1) b 0 h':=⟨hz,EX,⟨_,_,FX⟩,Sz,Xs⟩
 refine(xP (P:=X.prog) (w:=X.w) (K:=X.K) (es:=es) (x1:=x1) (tpos:=tpos) D).self X.A 0 { s1 with heap:=h' } _ _ st ?_
 refine⟨s1.heap.objs.size+4,_,_,_,H1,rfl,I2,xP D,st,λc hb=>?_,q⟩
 have NI:s1.heap.objs.size<=c:=by
  simp only[av,bt,fg] at hb
  rcases hb with e | e | e | e | e <;> rw[e] <;> omega
 exact I1.HG NI (I1.C8.fresh NI)
end
end L2
namespace HT
open PySem PyProof.Rows
variable {CL:rV}
section
open PySem.SeqAt
open PySem.AutoSeq1 (wpAny_loadPart')
open PySem.MeetsSeq PySem.MeetsSeq2 PySem.MeetsSeq3
theorem IntsAre.drop_cons {vs:mA}{x:Int}{ns:rq}(h:IntsAre vs (x::ns)):∃t ws,vs=.int x t::ws/\IntsAre ws ns:=by
 cases h with
 | cons a t h'=>exact⟨t,_,rfl,h'⟩
theorem IntsAre.drop_nil {vs:mA}(h:IntsAre vs []):vs=[]:=by
 cases h
 rfl
theorem wz {i:Nat}{v:Value}{ws:mA}(h:CL.toList.drop i=v::ws):CL[((i:Nat):Int).toNat]?=some v/\CL.toList.drop (i+1)=ws/\i < CL.size:=by
 have h1:CL.toList[i]?=some v:=by
  have:=b9 (λl=>l[0]?) h
  simpa using this
 have h2:i < CL.toList.length:=by
  rcases ef i CL.toList.length with z | z
  ·exact z
  ·rw[List.drop_of_length_le z] at h;cases h
 refine⟨by simpa using h1,?_,by simpa using h2⟩
 rw[← lx,h]
 rfl
theorem zT {i:Nat}(h:CL.toList.drop i=[]):CL[((i:Nat):Int).toNat]?=none/\CL.size<=i:=by
 have h1:CL.size<=i:=by
  have:=b9 List.length h
  simp at this
  omega
 exact⟨by simp;omega,h1⟩
theorem RT (p q:Addr)(CL HM:rV)(n n2:Nat)(dd QI:Option Addr)(sl UM:Array (Option Value)):∀(ns ms:rq) (i:Nat),i<=CL.size->i<=HM.size->IntsAre (CL.toList.drop i) ns->IntsAre (HM.toList.drop i) ms->
  Meets (Builtin.«list.__eq__.loop» ⟨[.ref p,.ref q,rawInt i,rawInt 0],[]⟩)
   (λA R s=>s.heap.get? p=some { cls:=.type "list",dict:=dd,data:=.seq CL n,slots:=sl }/\s.heap.get? q=some { cls:=.type "list",dict:=QI,data:=.seq HM n2,slots:=UM }/\R (.ok (.ret (.bool (lexLt ns ms)))) s):=by
 intro ns
 induction ns with
 | nil=>
  intro ms i i1 i2 hi hj prog w A R s h
  obtain⟨hp,g,d,tk,os⟩:=s;obtain⟨hl,hb,h⟩:=h
  have e1:=zT (IntsAre.drop_nil hi)
  wp_walk using cv hl,cv hb
  rw[e1.1]
  cases ms with
  | nil=>
   have e2:=zT (IntsAre.drop_nil hj)
   rw[e2.1]
   wp_walk using cv hl,cv hb
   show R (.ok (.ret (.bool (decide (CL.size < HM.size))))) _
   rw[ba (by omega)]
   exact h
  | cons y ms=>
   obtain⟨t,ws,ew,_⟩:=IntsAre.drop_cons hj
   have e2:=wz ew
   rw[e2.1]
   wp_walk using cv hl,cv hb
   show R (.ok (.ret (.bool (decide (CL.size < HM.size))))) _
   rw[bP (by omega)]
   exact h
 | cons x ns ih=>
  intro ms i i1 i2 hi hj prog w A R s h
  obtain⟨hp,g,d,tk,os⟩:=s;obtain⟨hl,hb,h⟩:=h
  obtain⟨t,vs,ev,JJ⟩:=IntsAre.drop_cons hi
  have e1:=wz ev
  wp_walk using cv hl,cv hb
  rw[e1.1]
  cases ms with
  | nil=>
   have e2:=zT (IntsAre.drop_nil hj)
   rw[e2.1]
   wp_walk using cv hl,cv hb
   show R (.ok (.ret (.bool (decide (CL.size < HM.size))))) _
   rw[ba (by omega)]
   exact h
  | cons y ms=>
   obtain⟨u,ws,ew,hj'⟩:=IntsAre.drop_cons hj
   have e2:=wz ew
   rw[e2.1]
   rw[D8] at h
   obtain⟨e,he,Zf⟩:=JS A.in1 ⟨hp,g,d,tk,os⟩ x t y u
   refine ac (he prog w _ _ ?_)
   cases e with
   | true=>
    rw[be (Zf.mp rfl)] at h
    have hc:((i:Int)+1)=((i+1:Nat):Int):=by omega
    wp_walk
    rw[hc]
    refine⟨l5 plain_eq_loop _,mE entry_eq_loop ?_⟩
    rw[kF plain_eq_loop _]
    exact ih ms (i+1) (by omega) (by omega) (by rw[e1.2.1];exact JJ) (by rw[e2.2.1];exact hj') prog w A R _ ⟨hl,hb,h⟩
   | false=>
    rw[a7 (λz=>absurd (Zf.mpr z) bi)] at h
    have Zg:=JT A.in1 ⟨hp,g,d,tk,os⟩ x t y u prog w
    wp_walk using cv hl,cv hb
    rw[e1.1,e2.1]
    wp_walk using Zg
    exact h
theorem N8 (p q:Addr)(CL HM:rV)(n n2:Nat)(dd QI:Option Addr)(sl UM:Array (Option Value))(ns ms:rq)(hi:IntsAre CL.toList ns)(hj:IntsAre HM.toList ms):
  Meets (Builtin.«list.__lt__» ⟨[.ref p,.ref q],[]⟩)
   (λA R s=>s.heap.get? p=some { cls:=.type "list",dict:=dd,data:=.seq CL n,slots:=sl }/\s.heap.get? q=some { cls:=.type "list",dict:=QI,data:=.seq HM n2,slots:=UM }/\R (.ok (.ret (.bool (lexLt ns ms)))) s):=by
 intro prog w A R s h
 obtain⟨hp,g,d,tk,os⟩:=s;obtain⟨hl,hb,h⟩:=h
 have f3:=AutoSeq1.sub_list_list
 wp_walk using cv hl,cv hb
 refine⟨l5 plain_eq_loop _,mE entry_eq_loop ?_⟩
 rw[kF plain_eq_loop _]
 exact RT p q CL HM n n2 dd QI sl UM ns ms 0 (c6 _) (c6 _) (by simpa using hi) (by simpa using hj) prog w A R _ ⟨hl,hb,h⟩
end
theorem FO {prog:Program}{w:World}{A:Around}{E:dx}{s:Shared}{p q:Addr}{HM:rV}{ns ms:rq}{Q:dx}(hl:s.heap.IsList p CL)(hb:s.heap.IsList q HM)(hi:IntsAre CL.toList ns)(hj:IntsAre HM.toList ms)
  (hu:A.units < cLine) (h:Q (.bool (lexLt ns ms)) s):wpAny (model prog w) A (compareOp .Lt (.ref p) (.ref q)) Q E s:=by
 obtain⟨⟨c1,d1,o1,s1⟩,ho,hc,n,hd⟩:=id hl
 obtain⟨⟨c2,d2,o2,s2⟩,QN,NG,n2,hd2⟩:=id hb
 simp only at hc hd NG hd2
 subst hc hd NG hd2
 exact richCompare_meets_room (op:=.Lt) ⟨_,ho,rfl⟩ ⟨_,QN,rfl⟩ PySem.F.slot_list_lt PySem.F.entry_list_lt (PySem.F.args_list_lt_2 _ _) (N8 p q CL HM n n2 d1 d2 s1 s2 ns ms hi hj)
  ⟨ho,QN,⟨(λx=>nomatch x),h⟩⟩ hu
end HT
namespace L2
open PySem PyProof.Rows
section
variable {X:Cx}
def Ke (K:W.Frag):R2:=λx y H Q=>∃a b ns ms,x=.ref a/\y=.ref b/\DL K H a (ns.map V.int)/\DL K H b (ms.map V.int)/\Q (.bl (HT.lexLt ns ms)) H
theorem RV (hu:X.A.units < cLine):D5 X (compareOp .Lt) (Ke X.K):=by
 intro CI s σ H x y v u Q I rx ry h
 obtain⟨a,b,ns,ms,rfl,rfl,ha,hb,q⟩:=h
 cases rx
 cases ry
 obtain⟨CL,r1,p1,_⟩:=I.list ha
 obtain⟨HM,r2,p2,_⟩:=I.list hb
 exact HT.FO p1.isList p2.isList (intsAre_of r1) (intsAre_of r2) hu ⟨.bl (HT.lexLt ns ms),H,I,rfl,q⟩
end
open PySem PySem.Spec PyProof.Rows
noncomputable def en1 (k:SK)(h:Heap)(l:Addr):Heap:=h.push { cls:=.type k.ty,data:=.fields #[.ref l,.int 0 0] }
noncomputable def en2 (k:SK)(h:Heap)(l:Addr):Heap:=(en1 k h l).push { cls:=.type "enumerate",data:=.fields #[.none,.bool false,.ref h.objs.size,rawInt 0,.none,.none] }
theorem N_ (k:SK)(l:Addr)(xs:rV):Meets (Builtin.«enumerate.__new__» ⟨[.type "enumerate",.ref l],[]⟩) (λ_ R s=>k.is s.heap l xs/\R (.ok (.ret (.ref (en1 k s.heap l).objs.size))) { s with heap:=en2 k s.heap l }):=
 .of_wp λprog w A R s h=>by
  obtain⟨hp,g,d,tk,os⟩:=s
  obtain⟨q1,h⟩:=h
  have Y9:=sub_enumerate
  cases k with
  | L=>
   have e1:Heap.IsList (Shared.heap ⟨hp,g,d,tk,os⟩) l xs:=q1
   wp_walk using eC e1
   refine wpAny_stack_any λst=>ai ?_
   split
   ·rename_i c _ _ _ _ _
    cases (c == Value.type "enumerate") <;> (wp_walk using eC e1;exact⟨_,rfl,h⟩)
   ·wp_walk using eC e1
    exact⟨_,rfl,h⟩
  | T=>
   have e1:Heap.IsTuple (Shared.heap ⟨hp,g,d,tk,os⟩) l xs:=q1
   wp_walk using fi e1
   refine wpAny_stack_any λst=>ai ?_
   split
   ·rename_i c _ _ _ _ _
    cases (c == Value.type "enumerate") <;> (wp_walk using fi e1;exact⟨_,rfl,h⟩)
   ·wp_walk using fi e1
    exact⟨_,rfl,h⟩
variable {l:Addr}
theorem Eu {prog:Program}{w:World}{A:Around}{E:dx}{s:Shared}{k:SK}{xs:rV}{Q:dx}(q1:k.is s.heap l xs)
  (h:∀h',IsEnum h' (s.heap.objs.size+1) s.heap.objs.size 0 .none->k.at h' s.heap.objs.size l 0->(∀b o,s.heap.get? b=some o->h'.get? b=some o)->Q (.ref (s.heap.objs.size+1)) { s with heap:=h' }):
  wpAny (model prog w) A (call (.type "enumerate") [.ref l]) Q E s:=by
 refine o0 F.called_enumerate (by decide) (F.typeCall_enumerate_1 _) (F.newCall_enumerate_1 _) (λobj=>F.args_object_init_2 obj _) F.entry_enumerate_new (N_ k l xs) ⟨q1,?_⟩
 have hz:(en1 k s.heap l).objs.size=s.heap.objs.size+1:=cE ..
 show _/\_
 rw[hz]
 have he:IsEnum (en2 k s.heap l) (s.heap.objs.size+1) s.heap.objs.size 0 .none:=by
  have z:=am (en1 k s.heap l) (o:={ cls:=.type "enumerate",data:=.fields #[.none,.bool false,.ref s.heap.objs.size,rawInt 0,.none,.none] }) rfl
  rw[hz] at z
  exact z
 exact⟨⟨_,he,rfl⟩,h _ he (SK.at_of (ae _ (am _ rfl))) λb o x=>ae _ (ae _ x)⟩
def RW (K:W.Frag)(k:SK)(a:Addr):It:=
 ⟨λi H=>∃xs x,k.sq K H a xs/\xs[i]?=some x,λi H v H'=>∃t x,H t=none/\v=.ref t/\H'=upd H t (.tup [.int (i:Nat),x])/\∀xs,k.sq K H a xs->xs[i]?=some x,λi H=>∃xs,k.sq K H a xs/\xs.length=i⟩
def EAt (k:SK)(e it a:Addr)(i:Nat)(h:Heap):Prop:=(∃old,IsEnum h e it (i:Nat) old)/\k.at h it a i
variable {es:rl}
theorem Ew {P:Program}{w:World}{K:W.Frag}{x1:Nat}{tpos:Pos}(k:SK)(a e it:Addr)(EF:e≠it)(hae:a≠e)(hai:a≠it):Turn P w K (.Tuple es x1 tpos) (RW K k a) [it,e] e (EAt k e it a) where
 mem:=by simp
 obj:=λi h st b hb=>by
  obtain⟨⟨old,he⟩,s1⟩:=st
  simp only[av,bt,fg] at hb
  rcases hb with rfl | rfl
  ·exact SK.EB s1
  ·exact⟨_,he,λv y=>by have y':Data.fields _=Data.cell v:=y;cases y'⟩
 keep:=λi h h' st kk=>by
  obtain⟨⟨old,he⟩,s1⟩:=st
  exact⟨⟨old,kk e (by simp) _ he⟩,SK.ET s1 λo q=>kk it (by simp) o q⟩
 item:=by
  intro X hP hw hK hc i CI s σ H E I hf st hg
  subst hP hw hK
  obtain⟨xs,x,hq,hx⟩:=hg
  obtain⟨⟨old,he⟩,s1⟩:=st
  obtain⟨CL,rv,p1⟩:=I.sk hq
  obtain⟨u,hu,ru⟩:=rv.get hx
  have hh:=I.ok.hd hc
  have Sz:i < CL.toArray.size:=by
   rcases ef i CL.length with q | q
   ·simpa using q
   ·rw[bo q] at hu;cases hu
  refine wpAny_pyNext_enum_itemD (SK.draws (prog:=X.prog) (w:=X.w) (A:=X.A.in1) k hh it a hai CL.toArray) he ⟨s1,p1⟩ Sz EF (by simp[EF,hae.symm]) λx' h' tk ex TU j1 XG hsz hk=>⟨_,rfl,?_⟩
  have eu:x'=u:=a9 (by rw[← ex,← hu];simp)
  subst eu
  refine wpAny_letOwnedTupleGo_enum (s:={ s with heap:=h',toks:=tk+1 }) TU λh2 Jn Fh=>?_
  have hel:e < s.heap.objs.size:=aI he
  have g2:h2.get? s.heap.objs.size=some { cls:=.type "tuple",data:=.seq #[.int i tk,x'] }:=(Fh.2 _ (ki hel)).trans XG
  have k2:∀b o,b∉[it,e]->s.heap.get? b=some o->h2.get? b=some o:=λb o hb q=>by
   simp only[av,bt,fg,oj] at hb
   exact(Fh.2 b hb.2).trans (hk b o hb.2 hb.1 q)
  have g1:k.at h2 it a (i+1):=SK.ET j1.1 λo q=>(Fh.2 it (gx EF)).trans q
  have XA:∀b o,s.heap.get? b=some o->∃o',h2.get? b=some o':=λb o q=>by
   by_cases n1:b=it
   ·subst n1;obtain⟨o',e',_⟩:=SK.EB g1;exact⟨o',e'⟩
   ·by_cases n2:b=e
    ·subst n2;exact⟨_,Jn⟩
    ·exact⟨o,k2 b o (by simp[n1,n2]) q⟩
  have I2:Inv X CI σ (upd H s.heap.objs.size (.tup [.int (i:Nat),x])) { s with heap:=h2,toks:=tk+1 }:=
   I.HL (ch:=[it,e]) k2 XA hf (aT _) ⟨by show 2<=sizeLine;decide,[.int i tk,x'],.cons ⟨_,rfl⟩ (.cons ru .nil),⟨_,g2,rfl,_,rfl⟩⟩
  refine⟨.ref s.heap.objs.size,_,I2,rfl,⟨s.heap.objs.size,x,I.fresh,rfl,rfl,λys hy=>by rw[I.JY hy hq];exact hx⟩,⟨⟨x',Jn⟩,g1⟩,λb hb=>?_⟩
  have SD:=(hf b hb).1
  rw[aP ?_]
  ·exact SD
  ·simp only[av,bt,fg] at hb
   rcases hb with rfl | rfl
   ·obtain⟨o,e1,_⟩:=SK.EB s1;exact cf (aI e1)
   ·exact cf hel
 done:=by
  intro X hP hw hK hc i CI s σ H E I hf st hg
  subst hP hw hK
  obtain⟨xs,hq,hx⟩:=hg
  obtain⟨⟨old,he⟩,s1⟩:=st
  obtain⟨CL,rv,p1⟩:=I.sk hq
  obtain⟨f0,f1,f2,f3,f4,f5⟩:=hf it (by simp)
  have hl:=rv.length
  have hi:i=CL.toArray.size:=by rw[a6];omega
  rw[hi] at s1
  exact wpAny_pyNext_enum_endD (SK.draws (prog:=X.prog) (w:=X.w) (A:=X.A.in1) k (I.ok.hd hc) it a hai CL.toArray) he ⟨s1,p1⟩ λh' eb=>⟨rfl,I.turned (t':=s.toks) (λb o hb q=>eb b o hb q) f0 f1 f3 f4 f5⟩
 self:=λA i s Q E st h=>by
  obtain⟨⟨old,he⟩,s1⟩:=st
  have hT:s.TypeIs (.ref e) "enumerate" := ⟨_,he,rfl⟩
  refine kx hT F.slot_enumerate_iter (cb F.slot_enumerate_iter hT F.entry_enumerate_iter ?_ (F.args_enumerate_iter_1 _))
  show wpAny _ _ (ret (.ref e)) _ _ s
  exact ai ⟨_,rfl, "enumerate",_,hT,F.slot_enumerate_next.lookup,h⟩
section
variable {X:Cx}
def RZ (K:W.Frag)(k:SK)(ta:TA):TI:=fun σ H R=>ta σ H λvs H1=>∃a,vs=[.ref a]/\(∃xs,k.sq K H1 a xs)/\R (RW K k a) H1
theorem Kf {k:SK}{l:Expr}{ta:TA}{x1:Nat}{tpos p pos:Pos}(hg:Gl X "enumerate")(hm:X.mg "enumerate" = none)(ha:PA X [l] ta)(hs:starEach [l] X.env=[(false,eval l X.env)]:=by rfl):
  PI X (.Tuple es x1 tpos) (.Call (.Name "enumerate" p) [l] [] pos) (RZ X.K k ta):=by
 intro CI s σ H R I h
 refine Call_ (dZ I hg hm PyProof.Rows.boot_enumerate (bv (DB (ha pos CI s σ H _ I h) ?_) hs rfl))
 rintro us s1 ⟨vs,H1,I1,r1,q1⟩
 obtain⟨a,e,⟨xs,hq⟩,q⟩:=q1
 subst e
 obtain⟨u,rfl,ru⟩:=vals1 r1
 cases ru
 obtain⟨CL,rv,p1⟩:=I1.sk hq
 refine Eu p1 λh' he hit hk=>?_
 have I2:Inv X CI σ H1 { s1 with heap:=h' }:=I1.kept (t':=s1.toks) hk
 have la:=SK.is_lt p1
 have st:EAt k (s1.heap.objs.size+1) s1.heap.objs.size a 0 h':=⟨⟨.none,he⟩,hit⟩
 have T:=Ew (P:=X.prog) (w:=X.w) (K:=X.K) (es:=es) (x1:=x1) (tpos:=tpos) k a (s1.heap.objs.size+1) s1.heap.objs.size (Nat.succ_ne_self _) (cf (kz la)) (cf la)
 refine T.self X.A 0 { s1 with heap:=h' } _ _ st ?_
 refine⟨s1.heap.objs.size+1,[s1.heap.objs.size,s1.heap.objs.size+1],_,_,H1,rfl,I2,T,st,λb hb=>?_,q⟩
 have NI:s1.heap.objs.size<=b:=by
  simp only[av,bt,fg] at hb
  rcases hb with z | z
  ·rw[z];exact aT _
  ·rw[z];exact Nat.le_succ _
 exact I1.HG NI (I1.C8.fresh NI)
end
variable {CL:rV}{Q:List Value->Shared->Prop}
section
variable {prog:Program}{w:World}{A:Around}{E:dx}{s:Shared}
theorem Mh {h h':Heap}{b:Addr}(ht:h.IsList l CL)(hs:Heap.ExtBut b h h')(EF:l≠b):h'.IsList l CL:=let ⟨o,e,c⟩:=ht;⟨o,hs l o EF e,c⟩
theorem Mi {it l:Addr}{CL:rV}(EF:l≠it):∀(n i:Nat) (s:Shared) (Q:List Value->Shared->Prop),s.heap.IsListIter it l i->s.heap.IsList l CL->i+n<=CL.size->
  (∀h',h'.IsListIter it l (i+n)->Heap.SameBut it s.heap h'->Q ((CL.toList.drop i).take n) { s with heap:=h' })->wpAny (model prog w) A (draw (.ref it) n) Q E s
 | 0,i,s,Q,hit,_,_,hQ=>by
  show wpAny (model prog w) A (pure []) Q E s
  refine ai ?_
  have:=hQ s.heap hit (Heap.SameBut.refl ..)
  simpa using this
 | n+1,i,s,Q,hit,ht,hle,hQ=>by
  have DS:i < CL.size:=by omega
  show wpAny (model prog w) A (pyNext (.ref it) >>= _) Q E s
  refine ac (wpAny_pyNext_list_item hit ht (x:=CL[i]) (by simp[DS]) λg1 XO LV=>?_)
  refine ac (df (Mi EF n (i+1) _ _ XO (Mh ht LV.extBut EF) (by omega) λg2 hit2 Fh=>ai ?_))
  have hd:CL.toList.drop i=CL[i]::CL.toList.drop (i+1):=by simp[eJ,DS]
  have z:=hQ g2 (by rw[show i+(n+1)=i+1+n by omega];exact hit2) (LV.trans Fh)
  rw[hd,gt] at z
  exact z
theorem Oa (hh:A.handled=none)(ht:s.heap.IsList l CL)
  (hQ:∀h',Heap.ExtBut s.heap.objs.size s.heap h'->Q CL.toList { s with heap:=h' }):wpAny (model prog w) A (unpackItems (.ref l) CL.size none) Q E s:=by
 have DS:l≠s.heap.objs.size:=by obtain⟨o,ho,_⟩:=ht;exact cf (aI ho)
 unfold unpackItems
 refine ac ?_
 unfold notIterableAtAll
 refine ac (gv ht.typeIs slot_list_iter.lookup ?_)
 refine ai ?_
 simp only[ib,fe]
 refine ac (df (eC ht ?_))
 refine ac (df (Mi DS CL.size 0 _ _ ⟨_,am _ rfl,rfl,rfl⟩ (kN ht _) (by omega) λg1 XO LV=>?_))
 have FL:List.take CL.size (List.drop 0 CL.toList)=CL.toList:=by
  rw[fR]
  exact el (by simp)
 rw[FL]
 rw[a7 (by simp)]
 have ht1:g1.IsList l CL:=Mh (kN ht _) LV.extBut DS
 refine ac (df (wpAny_pyNext_list_end hh XO ht1 (by simp) λg2 Jn=>?_))
 simp only[fe,Option.isSome_none,ib]
 exact ai (hQ g2 λb o hb e=>Jn b o hb (LV.extBut b o hb (ae _ e)))
theorem We {env:Env}{elts:rl}{x1}{pos:Pos}{Q:Unit->Shared->Prop}(hh:A.handled=none)(ht:s.heap.IsList l CL)(hn:(assignEach elts env).length=CL.size)(F6:(assignEach elts env).findIdx? (·.1)=none)
  (h:∀h',Heap.ExtBut s.heap.objs.size s.heap h'->wpAny (model prog w) A (assignInOrder ((assignEach elts env).map (·.2)) CL.toList) Q E { s with heap:=h' }):wpAny (model prog w) A (assign (.Tuple elts x1 pos) env (.ref l)) Q E s:=by
 rw[PyProof.Rows.assign_Tuple]
 refine ac (ol ?_)
 unfold unpack
 rw[hn,F6]
 exact ac (df (Oa hh ht h))
end
section
variable {X:Cx}{pos:Pos}
def Wf (K:W.Frag)(n:Nat)(t:NA):TG:=λv σ H Q=>∃a xs,v=.ref a/\DL K H a xs/\xs.length=n/\t xs σ H Q
theorem R0 {k:Nat}{t:NA}{n:Nat}(hc:X.calm=true)(h:N4 X es t)(hn:(assignEach es X.env).length=n:=by rfl)(F6:(assignEach es X.env).findIdx? (·.1)=none:=by rfl):PG X (.Tuple es k pos) (Wf X.K n t):=by
 intro CI s σ H v u Q I r hw
 obtain⟨a,xs,rfl,hq,hl,hw⟩:=hw
 cases r
 obtain⟨CL,rv,ht,hz⟩:=I.list hq
 refine We (I.ok.hd hc) ht.isList (by simp[hn,← hl,rv.length]) F6 λh' hx=>?_
 have I1:Inv X CI σ H { s with heap:=h' }:=I.kept (t':=s.toks) λb o e=>hx b o (cf (aI e)) e
 exact h CI _ σ H xs _ Q I1 (by simpa using rv) hw
end
end L2
namespace MR
open PySem L2
inductive PV where
 | CY | bl (b:Bool) | int (i:Int) | str (x:Str)
 | lst (xs:List PV) | EA (xs:List PV) | tup (xs:List PV) | He (xs:List PV)
 | dK (kvs:List (Key×PV)) | dT (kvs:List (List Key×PV))
structure MC where
 K:W.Frag
 cl:Nat->Addr
mutual
inductive Rep (C:MC) (A:Addr->Prop) (H:Hp):V->PV->Prop
 | CY:Rep C A H .CY .CY
 | bl (b:Bool):Rep C A H (.bl b) (.bl b)
 | int (i:Int):Rep C A H (.int i) (.int i)
 | str (x:Str):Rep C A H (.str x) (.str x)
 | lst {a:Addr}{vs:List V}{xs:List PV}:H a=some (.lst vs)->A a->CM C A H vs xs->Rep C A H (.ref a) (.lst xs)
 | LW {a:Addr}{o:Obj}{vs:List V}{xs:List PV}:H a=some (.EA o (.lst vs))->CM C A H vs xs->Rep C A H (.ref a) (.EA xs)
 | lstK {a:Addr}{vs:List V}{xs:List PV}:DL C.K (λ_=>none) a vs->CM C A H vs xs->Rep C A H (.ref a) (.EA xs)
 | tup {a:Addr}{vs:List V}{xs:List PV}:H a=some (.tup vs)->CM C A H vs xs->Rep C A H (.ref a) (.tup xs)
 | KL {a:Addr}{vs:List V}{xs:List PV}:N0 C.K a vs->CM C A H vs xs->Rep C A H (.ref a) (.tup xs)
 | tupK {a:Addr}{vs:List V}{xs:List PV}:FI C.K (λ_=>none) a vs->CM C A H vs xs->Rep C A H (.ref a) (.He xs)
 | dK {a:Addr}{kv:List (Key×V)}{kvs:List (Key×PV)}:H a=some (.dK kv)->A a->DV C A H kv kvs->Rep C A H (.ref a) (.dK kvs)
 | dT {a:Addr}{kv:List (List Key×V)}{kvs:List (List Key×PV)}:H a=some (.dT kv)->A a->DM C A H kv kvs->Rep C A H (.ref a) (.dT kvs)
inductive CM (C:MC) (A:Addr->Prop) (H:Hp):List V->List PV->Prop
 | nil:CM C A H [] []
 | cons {v:V}{p:PV}{vs:List V}{ps:List PV}:Rep C A H v p->CM C A H vs ps->CM C A H (v::vs) (p::ps)
inductive DV (C:MC) (A:Addr->Prop) (H:Hp):List (Key×V)->List (Key×PV)->Prop
 | nil:DV C A H [] []
 | cons {k:Key}{v:V}{p:PV}{vs:List (Key×V)}{ps:List (Key×PV)}:Rep C A H v p->DV C A H vs ps->DV C A H ((k,v)::vs) ((k,p)::ps)
inductive DM (C:MC) (A:Addr->Prop) (H:Hp):List (List Key×V)->List (List Key×PV)->Prop
 | nil:DM C A H [] []
 | cons {k:List Key}{v:V}{p:PV}{vs:List (List Key×V)}{ps:List (List Key×PV)}:Rep C A H v p->DM C A H vs ps->DM C A H ((k,v)::vs) ((k,p)::ps)
end
noncomputable def Ey:HO->Bool
 | .lst _=>true
 | .dK _=>true
 | .dT _=>true
 | _=>false
def Ex (A:Addr->Prop)(H:Hp)(A':Addr->Prop)(H':Hp):Prop:=∀a o,H a=some o->(A a->H' a=some o/\A' a)/\(Ey o=false->H' a=some o)
theorem Ex.refl (A:Addr->Prop)(H:Hp):Ex A H A H:=λa o h=>⟨λq=>⟨h,q⟩,λ_=>h⟩
variable {A:Addr->Prop}{H:Hp}
theorem Ex.trans {B C:Addr->Prop}{I J:Hp}(e:Ex A H B I)(f:Ex B I C J):Ex A H C J:=λa o h=>⟨λq=>by
 obtain⟨h1,q1⟩:=(e a o h).1 q
 exact(f a o h1).1 q1,λm=>(f a o ((e a o h).2 m)).2 m⟩
variable {H':Hp}
theorem Ex.of_same (s:CS H H'):Ex A H A H':=λa o h=>⟨λq=>⟨s a o h,q⟩,λ_=>s a o h⟩
mutual
theorem Rep.ex {C:MC}{A A':Addr->Prop}{H H':Hp}(e:Ex A H A' H'):∀{v:V}{p:PV},Rep C A H v p->Rep C A' H' v p
 | _,_,.CY=>.CY
 | _,_,.bl b=>.bl b
 | _,_,.int i=>.int i
 | _,_,.str x=>.str x
 | _,_,.lst h q r=>.lst ((e _ _ h).1 q).1 ((e _ _ h).1 q).2 (CM.ex e r)
 | _,_,.LW h r=>.LW ((e _ _ h).2 rfl) (CM.ex e r)
 | _,_,.lstK h r=>.lstK h (CM.ex e r)
 | _,_,.tup h r=>.tup ((e _ _ h).2 rfl) (CM.ex e r)
 | _,_,.KL h r=>.KL h (CM.ex e r)
 | _,_,.tupK h r=>.tupK h (CM.ex e r)
 | _,_,.dK h q r=>.dK ((e _ _ h).1 q).1 ((e _ _ h).1 q).2 (DV.ex e r)
 | _,_,.dT h q r=>.dT ((e _ _ h).1 q).1 ((e _ _ h).1 q).2 (DM.ex e r)
theorem CM.ex {C:MC}{A A':Addr->Prop}{H H':Hp}(e:Ex A H A' H'):∀{v:List V}{p:List PV},CM C A H v p->CM C A' H' v p
 | _,_,.nil=>.nil
 | _,_,.cons h t=>.cons (Rep.ex e h) (CM.ex e t)
theorem DV.ex {C:MC}{A A':Addr->Prop}{H H':Hp}(e:Ex A H A' H'):∀{v:List (Key×V)}{p:List (Key×PV)},DV C A H v p->DV C A' H' v p
 | _,_,.nil=>.nil
 | _,_,.cons h t=>.cons (Rep.ex e h) (DV.ex e t)
theorem DM.ex {C:MC}{A A':Addr->Prop}{H H':Hp}(e:Ex A H A' H'):∀{v:List (List Key×V)}{p:List (List Key×PV)},DM C A H v p->DM C A' H' v p
 | _,_,.nil=>.nil
 | _,_,.cons h t=>.cons (Rep.ex e h) (DM.ex e t)
end
theorem cC {A':Addr->Prop}(h:∀a o,H a=some o->A a->A' a):Ex A H A' H:=λa o e=>⟨λq=>⟨e,h a o e q⟩,λ_=>e⟩
theorem CM.length {C:MC}{A:Addr->Prop}{H:Hp}:∀{vs:List V}{ps:List PV},CM C A H vs ps->vs.length=ps.length
 | _,_,.nil=>rfl
 | _,_,.cons _ t=>by simp[CM.length t]
theorem CM.append {C:MC}{A:Addr->Prop}{H:Hp}:∀{vs us:List V}{ps qs:List PV},CM C A H vs ps->CM C A H us qs->CM C A H (vs++us) (ps++qs)
 | _,_,_,_,.nil,h=>h
 | _,_,_,_,.cons h t,r=>.cons h (CM.append t r)
theorem CM.get {C:MC}{A:Addr->Prop}{H:Hp}:∀{vs:List V}{ps:List PV}{i:Nat}{p:PV},CM C A H vs ps->ps[i]?=some p->∃v,vs[i]?=some v/\Rep C A H v p
 | _,_,_,_,.nil,e=>by simp at e
 | _,_,0,_,.cons h t,e=>by simp at e;subst e;exact⟨_,rfl,h⟩
 | _,_,i+1,p,.cons h t,e=>by
  obtain⟨v,e1,r⟩:=CM.get (i:=i) (p:=p) t (by simpa using e)
  exact⟨v,by simpa using e1,r⟩
theorem CM.drop {C:MC}{A:Addr->Prop}{H:Hp}:∀{vs:List V}{ps:List PV}(n:Nat),CM C A H vs ps->CM C A H (vs.drop n) (ps.drop n)
 | _,_,0,h=>by simpa using h
 | _,_,n+1,.nil=>by simpa using CM.nil
 | _,_,n+1,.cons _ t=>by simpa using CM.drop n t
theorem CM.take {C:MC}{A:Addr->Prop}{H:Hp}:∀{vs:List V}{ps:List PV}(n:Nat),CM C A H vs ps->CM C A H (vs.take n) (ps.take n)
 | _,_,0,h=>by simpa using CM.nil
 | _,_,n+1,.nil=>by simpa using CM.nil
 | _,_,n+1,.cons h t=>by simpa using CM.cons h (CM.take n t)
theorem CM.set {C:MC}{A:Addr->Prop}{H:Hp}{v:V}{p:PV}(r:Rep C A H v p):∀{vs:List V}{ps:List PV}(n:Nat),CM C A H vs ps->CM C A H (vs.set n v) (ps.set n p)
 | _,_,_,.nil=>.nil
 | _,_,0,.cons _ t=>.cons r t
 | _,_,n+1,.cons h t=>.cons h (CM.set r n t)
theorem CM.reverse {C:MC}{A:Addr->Prop}{H:Hp}:∀{vs:List V}{ps:List PV},CM C A H vs ps->CM C A H vs.reverse ps.reverse
 | _,_,.nil=>.nil
 | _,_,.cons h t=>by
  rw[ll,ll]
  exact(CM.reverse t).append (.cons h .nil)
theorem wA {C:MC}{A:Addr->Prop}{H:Hp}{α:Type}(f:α->V)(g:α->PV)(h:∀x,Rep C A H (f x) (g x)):∀l:List α,CM C A H (l.map f) (l.map g)
 | []=>.nil
 | x::l=>.cons (h x) (wA f g h l)
theorem DV.val {C:MC}{A:Addr->Prop}{H:Hp}{k:Key}:∀{kv:List (Key×V)}{kvs:List (Key×PV)},DV C A H kv kvs->(∃v p,jc kv k=some v/\(kvs.find? λx=>decide (x.1=k)).map (·.2)=some p/\Rep C A H v p)\/(jc kv k=none/\(kvs.find? λx=>decide (x.1=k)).map (·.2)=none)
 | _,_,.nil=>.inr ⟨rfl,rfl⟩
 | _,_,.cons (k:=k') (v:=v) (p:=p) h t=>by
  by_cases e:k'=k
  ·subst e
   exact .inl ⟨v,p,nu rfl,by simp,h⟩
  ·rw[nA e,pd (by simpa using e)]
   exact DV.val t
theorem DM.val {C:MC}{A:Addr->Prop}{H:Hp}{k:List Key}:∀{kv:List (List Key×V)}{kvs:List (List Key×PV)},DM C A H kv kvs->(∃v p,jc kv k=some v/\(kvs.find? λx=>decide (x.1=k)).map (·.2)=some p/\Rep C A H v p)\/(jc kv k=none/\(kvs.find? λx=>decide (x.1=k)).map (·.2)=none)
 | _,_,.nil=>.inr ⟨rfl,rfl⟩
 | _,_,.cons (k:=k') (v:=v) (p:=p) h t=>by
  by_cases e:k'=k
  ·subst e
   exact .inl ⟨v,p,nu rfl,by simp,h⟩
  ·rw[nA e,pd (by simpa using e)]
   exact DM.val t
def Top (C:MC)(A:Addr->Prop)(H:Hp)(a:Addr):PV->Prop
 | .lst xs=>∃vs,H a=some (.lst vs)/\CM C A H vs xs
 | .dK kvs=>∃kv,H a=some (.dK kv)/\DV C A H kv kvs
 | .dT kvs=>∃kv,H a=some (.dT kv)/\DM C A H kv kvs
 | _=>False
theorem Top.ex {C:MC}{A A':Addr->Prop}{H H':Hp}{a:Addr}{p:PV}(e:Ex A H A' H')(h:∀o,H a=some o->H' a=some o)(t:Top C A H a p):Top C A' H' a p:=by
 cases p with
 | lst xs=>obtain⟨vs,q,r⟩:=t;exact⟨vs,h _ q,r.ex e⟩
 | dK kvs=>obtain⟨vs,q,r⟩:=t;exact⟨vs,h _ q,r.ex e⟩
 | dT kvs=>obtain⟨vs,q,r⟩:=t;exact⟨vs,h _ q,r.ex e⟩
 | _=>exact t
variable {C:MC}{a:Addr}
theorem Top.live {p:PV}(t:Top C A H a p):∃o,H a=some o/\Ey o=true:=by
 cases p with
 | lst xs=>obtain⟨vs,q,r⟩:=t;exact⟨_,q,rfl⟩
 | dK kvs=>obtain⟨vs,q,r⟩:=t;exact⟨_,q,rfl⟩
 | dT kvs=>obtain⟨vs,q,r⟩:=t;exact⟨_,q,rfl⟩
 | _=>exact t.elim
theorem Top.rep {p:PV}(t:Top C A H a p)(h:A a):Rep C A H (.ref a) p:=by
 cases p with
 | lst xs=>obtain⟨vs,q,r⟩:=t;exact .lst q h r
 | dK kvs=>obtain⟨vs,q,r⟩:=t;exact .dK q h r
 | dT kvs=>obtain⟨vs,q,r⟩:=t;exact .dT q h r
 | _=>exact t.elim
def CU (C:MC)(A:Addr->Prop)(H:Hp)(v:V)(p:PV):Prop:=Rep C A H v p\/∃a,v=.ref a/\Top C A H a p
theorem CU.ex {C:MC}{A A':Addr->Prop}{H H':Hp}{v:V}{p:PV}(e:Ex A H A' H')(s:CS H H')(h:CU C A H v p):CU C A' H' v p:=by
 rcases h with h | ⟨a,q,t⟩
 ·exact .inl (h.ex e)
 ·exact .inr ⟨a,q,t.ex e λo z=>s _ _ z⟩
variable {K:W.Frag}{vs:List V}
section
variable {C:MC}{A:Addr->Prop}{H:Hp}{v:V}
theorem Yq (h:DL K (λ_=>none) a vs):DL K H a vs:=by
 rcases h with (h | ⟨o,h⟩) | h
 ·cases h
 ·cases h
 ·exact .inr h
theorem uD (h:FI K (λ_=>none) a vs):FI K H a vs:=by
 rcases h with (h | ⟨o,h⟩) | h
 ·cases h
 ·cases h
 ·exact .inr h
theorem CU.lst {xs:List PV}(h:CU C A H v (.lst xs)):∃a vs,v=.ref a/\H a=some (.lst vs)/\CM C A H vs xs:=by
 rcases h with h | ⟨a,rfl,vs,q,r⟩
 ·cases h with
  | lst q _ r=>exact⟨_,_,rfl,q,r⟩
 ·exact⟨a,vs,rfl,q,r⟩
theorem CU.EA {xs:List PV}(h:CU C A H v (.EA xs)):∃a vs,v=.ref a/\DL C.K H a vs/\CM C A H vs xs:=by
 rcases h with h | ⟨a,rfl,t⟩
 ·cases h with
  | LW q r=>exact⟨_,_,rfl,.inl (.inr ⟨_,q⟩),r⟩
  | lstK q r=>exact⟨_,_,rfl,Yq q,r⟩
 ·exact t.elim
def GL (K:W.Frag)(H:Hp)(a:Addr)(vs:List V):Prop:=H a=some (.tup vs)\/N0 K a vs
theorem GL.sq {H:Hp}(h:GL K H a vs):FI K H a vs:=h.elim (λq=>FI.of q) eB
theorem GL.rep {C:MC}{A:Addr->Prop}{H:Hp}{xs:List PV}(h:GL C.K H a vs)(r:CM C A H vs xs):Rep C A H (.ref a) (.tup xs):=h.elim (λq=>.tup q r) λq=>.KL q r
theorem GL.ex {A A':Addr->Prop}{H:Hp}(h:GL K H a vs)(e:Ex A H A' H'):GL K H' a vs:=h.imp (λq=>(e _ _ q).2 rfl) id
theorem GL.up {H:Hp}(h:GL K H a vs)(s:CS H H'):GL K H' a vs:=h.imp (λq=>s _ _ q) id
theorem GL.key {H:Hp}{ks:List Key}(h:GL K H a vs)(k:rY ks vs):FE K H a ks:=h.imp (λq=>⟨vs,q,k⟩) λq=>⟨vs,q,k⟩
theorem CU.tup {xs:List PV}(h:CU C A H v (.tup xs)):∃a vs,v=.ref a/\GL C.K H a vs/\CM C A H vs xs:=by
 rcases h with h | ⟨a,rfl,t⟩
 ·cases h with
  | tup q r=>exact⟨_,_,rfl,.inl q,r⟩
  | KL q r=>exact⟨_,_,rfl,.inr q,r⟩
 ·exact t.elim
theorem CU.He {xs:List PV}(h:CU C A H v (.He xs)):∃a vs,v=.ref a/\FI C.K H a vs/\CM C A H vs xs:=by
 rcases h with h | ⟨a,rfl,t⟩
 ·cases h with
  | tupK q r=>exact⟨_,_,rfl,uD q,r⟩
 ·exact t.elim
theorem CU.dK {kvs:List (Key×PV)}(h:CU C A H v (.dK kvs)):∃a kv,v=.ref a/\H a=some (.dK kv)/\DV C A H kv kvs:=by
 rcases h with h | ⟨a,rfl,vs,q,r⟩
 ·cases h with
  | dK q _ r=>exact⟨_,_,rfl,q,r⟩
 ·exact⟨a,vs,rfl,q,r⟩
theorem CU.dT {kvs:List (List Key×PV)}(h:CU C A H v (.dT kvs)):∃a kv,v=.ref a/\H a=some (.dT kv)/\DM C A H kv kvs:=by
 rcases h with h | ⟨a,rfl,vs,q,r⟩
 ·cases h with
  | dT q _ r=>exact⟨_,_,rfl,q,r⟩
 ·exact⟨a,vs,rfl,q,r⟩
theorem CU.int {i:Int}(h:CU C A H v (.int i)):v=.int i:=by
 rcases h with h | ⟨a,rfl,t⟩
 ·cases h;rfl
 ·exact t.elim
theorem CU.str {x:Str}(h:CU C A H v (.str x)):v=.str x:=by
 rcases h with h | ⟨a,rfl,t⟩
 ·cases h;rfl
 ·exact t.elim
theorem CU.bl {x:Bool}(h:CU C A H v (.bl x)):v=.bl x:=by
 rcases h with h | ⟨a,rfl,t⟩
 ·cases h;rfl
 ·exact t.elim
theorem CU.CY (h:CU C A H v .CY):v=.CY:=by
 rcases h with h | ⟨a,rfl,t⟩
 ·cases h;rfl
 ·exact t.elim
end
structure BX where
 C:MC
 A:Addr->Prop
 H0:Hp
 fx:Nat->Option V
abbrev Env:=List (Option PV)
abbrev r6:=Env->Option PV
def Bs (b:BX)(Ow:Addr->Prop)(a:Addr):Prop:=¬ Ow a/\(b.A a\/b.H0 a=none)
structure ER (b:BX)(Ow:Addr->Prop)(G:gV)(σ:St)(env:Env)(H:Hp):Prop where
 len:σ.length=env.length
 same:CS b.H0 H
 live:∀a,Ow a->∃o,H a=some o
 new:∀a,Ow a->b.H0 a=none
 val:∀i p,env[i]?=some (some p)->i∉G->∃v,σ[i]?=some (some v)/\Rep b.C (Bs b Ow) H v p
 own:∀i p,env[i]?=some (some p)->i∈G->∃a,σ[i]?=some (some (.ref a))/\Ow a/\Top b.C (Bs b Ow) H a p
 sep:∀i j a p q,env[i]?=some (some p)->i∈G->σ[i]?=some (some (.ref a))->env[j]?=some (some q)->j∈G->σ[j]?=some (some (.ref a))->i=j
 fix:∀i v,b.fx i=some v->σ[i]?=some (some v)
inductive Md where | val | own | bor
def Res (b:BX)(Ow:Addr->Prop)(H H':Hp)(m:Md)(v:V)(p:PV):Prop:=match m with
 | .val=>Rep b.C (Bs b Ow) H' v p
 | .own=>∃a,v=.ref a/\H a=none/\Top b.C (λc=>Bs b Ow c/\c≠a) H' a p
 | .bor=>CU b.C (Bs b Ow) H' v p
def tM (b:BX)(G:gV)(m:Md)(f:r6):TE:=fun σ H Q=>∃Ow env p,ER b Ow G σ env H/\f env=some p/\∀v H',CS H H'->Res b Ow H H' m v p->Q v H'
def Yr (b:BX)(G:gV)(f:Env->Option Bool):TT:=fun σ H Q=>∃Ow env k,ER b Ow G σ env H/\f env=some k/\∀H',CS H H'->Q k H'
variable {v:V}
section
variable {b:BX}{Ow:Addr->Prop}{G:gV}{σ:St}{env:Env}{H H':Hp}
theorem ER.up (E:ER b Ow G σ env H)(s:CS H H'):ER b Ow G σ env H':=
 ⟨E.len,E.same.trans s,λa h=>let ⟨o,e⟩:=E.live a h;⟨o,s _ _ e⟩,E.new,λi p h n=>let ⟨v,e,r⟩:=E.val i p h n;⟨v,e,r.ex (.of_same s)⟩,
  λi p h n=>let ⟨a,e,w,t⟩:=E.own i p h n;⟨a,e,w,t.ex (.of_same s) λo z=>s _ _ z⟩,E.sep,E.fix⟩
theorem ER.fresh (E:ER b Ow G σ env H)(h:H a=none):Bs b Ow a:=
 ⟨λw=>(by obtain⟨o,e⟩:=E.live a w;rw[h] at e;cases e),.inr (E.same.free h)⟩
theorem Res.val {m:Md}{v:V}{p:PV}(E:ER b Ow G σ env H)(hm:m≠.bor)(r:Res b Ow H H' m v p):Res b Ow H H' .val v p:=by
 cases m with
 | val=>exact r
 | bor=>exact absurd rfl hm
 | own=>
  obtain⟨a,rfl,h,t⟩:=r
  have hw:Ex (λc=>Bs b Ow c/\c≠a) H' (Bs b Ow) H':=cC λ_ _ _ z=>z.1
  exact(t.ex hw λo z=>z).rep (E.fresh h)
theorem Res.bor {m:Md}{v:V}{p:PV}(r:Res b Ow H H' m v p):Res b Ow H H' .bor v p:=by
 cases m with
 | val=>exact .inl r
 | bor=>exact r
 | own=>
  obtain⟨a,rfl,h,t⟩:=r
  have hw:Ex (λc=>Bs b Ow c/\c≠a) H' (Bs b Ow) H':=cC λ_ _ _ z=>z.1
  exact .inr ⟨a,rfl,t.ex hw λo z=>z⟩
theorem Res.up {m:Md}{p:PV}{LX:Hp}(r:Res b Ow H H' m v p)(s:CS H' LX):Res b Ow H LX m v p:=by
 cases m with
 | val=>exact Rep.ex (.of_same s) r
 | bor=>exact CU.ex (.of_same s) s r
 | own=>
  obtain⟨a,e,h,t⟩:=r
  exact⟨a,e,h,t.ex (.of_same s) λo z=>s _ _ z⟩
theorem Res.down {m:Md}{p:PV}{LX:Hp}(s:CS H H')(r:Res b Ow H' LX m v p):Res b Ow H LX m v p:=by
 cases m with
 | val=>exact r
 | bor=>exact r
 | own=>
  obtain⟨a,e,h,t⟩:=r
  exact⟨a,e,s.free h,t⟩
end
variable {X:Cx}
theorem PE.imp {e:Expr}{t u:TE}(h:PE X e t)(i:∀ σ H Q,u σ H Q->t σ H Q):PE X e u:=λCI s σ H Q I q=>h CI s σ H Q I (i σ H Q q)
theorem PT.imp {e:Expr}{t u:TT}(h:PT X e t)(i:∀ σ H Q,u σ H Q->t σ H Q):PT X e u:=λCI s σ H Q I q=>h CI s σ H Q I (i σ H Q q)
theorem PS.imp {e:Stmt}{t u:TS}(h:PS X e t)(i:∀D σ H,u D σ H->t D σ H):PS X e u:=λCI s σ H D I q=>h CI s σ H D I (i D σ H q)
theorem PE.or {e:Expr}{t u:TE}(h:PE X e t)(h':PE X e u):PE X e (fun σ H Q=>t σ H Q\/u σ H Q):=λCI s σ H Q I q=>q.elim (h CI s σ H Q I) (h' CI s σ H Q I)
theorem D5.or {op:Value->Value->Sem Value}{r r':R2}(h:D5 X op r)(h':D5 X op r'):D5 X op (λx y H Q=>r x y H Q\/r' x y H Q):=λCI s σ H x y v u Q I rx ry q=>q.elim (h CI s σ H x y v u Q I rx ry) (h' CI s σ H x y v u Q I rx ry)
abbrev SE (X:Cx)(b:BX)(G:gV)(m:Md)(e:Expr)(f:r6):Prop:=PE X e (tM b G m f)
abbrev ST (X:Cx)(b:BX)(G:gV)(e:Expr)(f:Env->Option Bool):Prop:=PT X e (Yr b G f)
theorem SE.bor {X:Cx}{b:BX}{G:gV}{m:Md}{e:Expr}{f:r6}(h:SE X b G m e f):SE X b G .bor e f:=
 PE.imp h fun σ H Q ⟨Ow,env,p,E,hf,k⟩=>⟨Ow,env,p,E,hf,λv H' s r=>k v H' s r.bor⟩
theorem SE.val {X:Cx}{b:BX}{G:gV}{e:Expr}{f:r6}(h:SE X b G .own e f):SE X b G .val e f:=
 PE.imp h fun σ H Q ⟨Ow,env,p,E,hf,k⟩=>⟨Ow,env,p,E,hf,λv H' s r=>k v H' s (r.val E (by intro z;cases z))⟩
noncomputable def bC (p:PV)(env:Env):Option PV:=some p
@[simp] theorem Xq (p:PV)(env:Env):bC p env=(some p):=id rfl
noncomputable def bV (i:Nat)(env:Env):Option PV:=match env[i]? with | some o=>o | none=>none
@[simp] theorem Xr (i:Nat)(env:Env):bV i env=(match env[i]? with | some o=>o | none=>none):=id rfl
noncomputable def b1 (g:PV->Option PV)(f:r6)(env:Env):Option PV:=(f env).bind g
@[simp] theorem Xu (g:PV->Option PV)(f:r6)(env:Env):b1 g f env=((f env).bind g):=id rfl
noncomputable def b2 (g:PV->PV->Option PV)(f h:r6)(env:Env):Option PV:=(f env).bind λx=>(h env).bind λy=>g x y
@[simp] theorem Xv (g:PV->PV->Option PV)(f h:r6)(env:Env):b2 g f h env=((f env).bind λx=>(h env).bind λy=>g x y):=id rfl
noncomputable def b3 (g:PV->PV->PV->Option PV)(f h k:r6)(env:Env):Option PV:=(f env).bind λx=>(h env).bind λy=>(k env).bind λz=>g x y z
@[simp] theorem Xw (g:PV->PV->PV->Option PV)(f h k:r6)(env:Env):b3 g f h k env=((f env).bind λx=>(h env).bind λy=>(k env).bind λz=>g x y z):=id rfl
noncomputable def pK (f g:r6)(env:Env):Option PV:=(f env).bind λx=>match x with | .bl true=>g env | .bl false=>some (.bl false) | _=>none
@[simp] theorem Ww (f g:r6)(env:Env):pK f g env=((f env).bind λx=>match x with | .bl true=>g env | .bl false=>some (.bl false) | _=>none):=id rfl
noncomputable def SF (f g:r6)(env:Env):Option PV:=(f env).bind λx=>match x with | .bl true=>some (.bl true) | .bl false=>g env | _=>none
@[simp] theorem W7 (f g:r6)(env:Env):SF f g env=((f env).bind λx=>match x with | .bl true=>some (.bl true) | .bl false=>g env | _=>none):=id rfl
noncomputable def Ez (f:r6)(env:Env):Option PV:=(f env).bind λx=>match x with | .bl c=>some (.bl (!c)) | _=>none
@[simp] theorem Wx (f:r6)(env:Env):Ez f env=((f env).bind λx=>match x with | .bl c=>some (.bl (!c)) | _=>none):=id rfl
noncomputable def Ys (c:Env->Option Bool)(f g:r6)(env:Env):Option PV:=(c env).bind λx=>if x=true then f env else g env
@[simp] theorem W8 (c:Env->Option Bool)(f g:r6)(env:Env):Ys c f g env=((c env).bind λx=>if x=true then f env else g env):=id rfl
noncomputable def tV (f:r6)(env:Env):Option Bool:=(f env).bind λx=>match x with | .bl c=>some c | _=>none
@[simp] theorem Xx (f:r6)(env:Env):tV f env=((f env).bind λx=>match x with | .bl c=>some c | _=>none):=id rfl
noncomputable def tA (f g:Env->Option Bool)(env:Env):Option Bool:=(f env).bind λx=>if x=true then g env else some false
@[simp] theorem Xy (f g:Env->Option Bool)(env:Env):tA f g env=((f env).bind λx=>if x=true then g env else some false):=id rfl
noncomputable def tO (f g:Env->Option Bool)(env:Env):Option Bool:=(f env).bind λx=>if x=true then some true else g env
@[simp] theorem Xz (f g:Env->Option Bool)(env:Env):tO f g env=((f env).bind λx=>if x=true then some true else g env):=id rfl
noncomputable def tN (f:Env->Option Bool)(env:Env):Option Bool:=(f env).bind λx=>some (!x)
@[simp] theorem XC (f:Env->Option Bool)(env:Env):tN f env=((f env).bind λx=>some (!x)):=id rfl
noncomputable def aB (env:Env):Option (List PV):=some []
@[simp] theorem Wy (env:Env):aB env=(some []):=id rfl
noncomputable def ak (f:r6)(g:Env->Option (List PV))(env:Env):Option (List PV):=(f env).bind λx=>(g env).bind λxs=>some (x::xs)
abbrev CF (n:Int):=bC (.int n)
abbrev CH (i:Nat):=ak (bV i)
@[simp] theorem Wg (f:r6)(g:Env->Option (List PV))(env:Env):ak f g env=((f env).bind λx=>(g env).bind λxs=>some (x::xs)):=id rfl
noncomputable def bO (g:Env->Option (List PV))(env:Env):Option PV:=(g env).bind λxs=>if xs.length<=1000000 then some (.lst xs) else none
@[simp] theorem Wz (g:Env->Option (List PV))(env:Env):bO g env=((g env).bind λxs=>if xs.length<=1000000 then some (.lst xs) else none):=id rfl
noncomputable def bL (g:Env->Option (List PV))(env:Env):Option PV:=(g env).bind λxs=>if xs.length<=1000000 then some (.tup xs) else none
@[simp] theorem WF (g:Env->Option (List PV))(env:Env):bL g env=((g env).bind λxs=>if xs.length<=1000000 then some (.tup xs) else none):=id rfl
noncomputable def aM (m:List PV->Option PV)(g:Env->Option (List PV))(env:Env):Option PV:=(g env).bind m
variable {g:PV->PV->Option PV}
@[simp] theorem Wh (m:List PV->Option PV)(g:Env->Option (List PV))(env:Env):aM m g env=((g env).bind m):=id rfl
section
variable {b:BX}{G:gV}{m:Md}{σ:St}{H:Hp}{Q:VK}
def IT (b:BX)(m:Md)(r:R2)(g:PV->PV->Option PV):Prop:=∀(Ow:Addr->Prop) (H:Hp) (v1 v2:V) (p1 p2 p:PV) (Q:VK),(∀a,H a=none->Bs b Ow a)->CU b.C (Bs b Ow) H v1 p1->CU b.C (Bs b Ow) H v2 p2->g p1 p2=some p->
 (∀v H',CS H H'->Res b Ow H H' m v p->Q v H')->r v1 v2 H Q
theorem EY {r:R2}{f1 f2:r6}(hr:IT b m r g)(h:tM b G m (b2 g f1 f2) σ H Q):YS r (tM b G .bor f1) (tM b G .bor f2) σ H Q:=by
 obtain⟨Ow,env,p,E,hf,k⟩:=h
 unfold b2 at hf
 cases h1:f1 env with
 | none=>rw[h1] at hf;cases hf
 | some p1=>
  rw[h1] at hf
  cases h2:f2 env with
  | none=>rw[h2] at hf;cases hf
  | some p2=>
   rw[h2] at hf
   exact⟨Ow,env,p1,E,h1,λv1 H1 s1 r1=>⟨Ow,env,p2,E.up s1,h2,λv2 H2 s2 r2=>hr Ow H2 v1 v2 p1 p2 p Q (λa=>(E.up (s1.trans s2)).fresh) (r1.up s2) r2 hf λv H' s r=>k v H' (s1.trans (s2.trans s)) (r.down (s1.trans s2))⟩⟩
def Op1 (b:BX)(m:Md)(r:V->Hp->VK->Prop)(g:PV->Option PV):Prop:=∀(Ow:Addr->Prop) (H:Hp) (v1:V) (p1 p:PV) (Q:VK),(∀a,H a=none->Bs b Ow a)->CU b.C (Bs b Ow) H v1 p1->g p1=some p->
 (∀v H',CS H H'->Res b Ow H H' m v p->Q v H')->r v1 H Q
theorem E_ {r:V->Hp->VK->Prop}{g:PV->Option PV}{f1:r6}(hr:Op1 b m r g)(h:tM b G m (b1 g f1) σ H Q):tM b G .bor f1 σ H λx H1=>r x H1 Q:=by
 obtain⟨Ow,env,p,E,hf,k⟩:=h
 unfold b1 at hf
 cases h1:f1 env with
 | none=>rw[h1] at hf;cases hf
 | some p1=>
  rw[h1] at hf
  exact⟨Ow,env,p1,E,h1,λv1 H1 s1 r1=>hr Ow H1 v1 p1 p Q (λa=>(E.up s1).fresh) r1 hf λv H' s r=>k v H' (s1.trans s) (r.down s1)⟩
end
@[simp] noncomputable def bD:PV->PV->Option PV
 | .int i,.int j=>some (.int (i+j))
 | .str x,.str y=>if x.length+y.length<=1000000 then some (.str (x++y)) else none
 | .lst xs,.lst ys=>if xs.length+ys.length<=1000000 then some (.lst (xs++ys)) else none
 | _,_=>none
@[simp] noncomputable def lB:PV->PV->Option PV
 | .lst xs,.lst ys=>if xs.length+ys.length<=1000000 then some (.lst (xs++ys)) else none
 | _,_=>none
@[simp] noncomputable def OE:PV->PV->Option PV
 | .int i,.int j=>some (.int (i - j))
 | _,_=>none
noncomputable def MW (i:Int):Bool:=@decide (-18446744073709551616 < i/\i < 18446744073709551616) (Classical.propDecidable _)
@[simp] noncomputable def mH:PV->PV->Option PV
 | .int i,.int j=>if (MW i||MW j)=true then some (.int (i*j)) else none
 | _,_=>none
@[simp] noncomputable def dJ:PV->PV->Option PV
 | .int i,.int j=>if 0 < j/\j < 1073741824 then some (.int (i / j)) else none
 | _,_=>none
@[simp] noncomputable def c7:PV->PV->Option PV
 | .int i,.int j=>if 0 < j then some (.int (i % j)) else none
 | _,_=>none
@[simp] noncomputable def wB:PV->PV->Option PV
 | .int i,.int j=>if 0<=j/\j<=1000000/\i.natAbs < 2 ^ 64 then some (.int (i ^ j.toNat)) else none
 | _,_=>none
@[simp] noncomputable def wC (g:Int->Int->Bool):PV->PV->Option PV
 | .int i,.int j=>some (.bl (g i j))
 | _,_=>none
variable {n:Nat}
theorem gb (h:n<=1000000):n<=sizeLine:=i6 (iT h)
section
variable {b:BX}
theorem Ob {g:Int->Int->Int}{f:PV->PV->Option PV}(hf:∀x y p,f x y=some p->∃i j,x=.int i/\y=.int j/\p=.int (g i j)):IT b .val (LM λi j=>.int (g i j)) f:=by
 intro Ow H v1 v2 p1 p2 p Q hn r1 r2 e k
 obtain⟨i,j,rfl,rfl,rfl⟩:=hf _ _ _ e
 rw[r1.int,r2.int]
 exact⟨i,j,rfl,rfl,k _ H (CS.refl _) (.int _)⟩
theorem R1 {g:Int->Int->Bool}:IT b .val (LM λi j=>.bl (g i j)) (wC g):=by
 intro Ow H v1 v2 p1 p2 p Q hn r1 r2 e k
 unfold wC at e
 split at e
 ·cases e
  rw[r1.int,r2.int]
  exact⟨_,_,rfl,rfl,k _ H (CS.refl _) (.bl _)⟩
 ·cases e
theorem R3:IT b .val (LM λi j=>.int (i - j)) OE:=Ob λx y p e=>by
 unfold OE at e
 split at e
 ·cases e;exact⟨_,_,rfl,rfl,rfl⟩
 ·cases e
theorem R4:IT b .val (rI RO λi j=>.int (i*j)) mH:=by
 intro Ow H v1 v2 p1 p2 p Q hn r1 r2 e k
 unfold mH at e
 split at e
 ·split at e
  ·rename_i h
   cases e
   rw[r1.int,r2.int]
   refine⟨_,_,rfl,rfl,?_,k _ H (CS.refl _) (.int _)⟩
   simp only[MW,Bool.or_eq_true,eD] at h
   exact h
  ·cases e
 ·cases e
theorem je {i:Int}(h:-18446744073709551616 < i)(h':i < 18446744073709551616):MW i=true:=@bP _ (Classical.propDecidable _) ⟨h,h'⟩
theorem R5:IT b .val (rI QK λi j=>.int (i / j)) dJ:=by
 intro Ow H v1 v2 p1 p2 p Q hn r1 r2 e k
 unfold dJ at e
 split at e
 ·split at e
  ·rename_i h
   cases e
   rw[r1.int,r2.int]
   exact⟨_,_,rfl,rfl,h,k _ H (CS.refl _) (.int _)⟩
  ·cases e
 ·cases e
theorem R6:IT b .val (rI (λ_ j=>0 < j) λi j=>.int (i % j)) c7:=by
 intro Ow H v1 v2 p1 p2 p Q hn r1 r2 e k
 unfold c7 at e
 split at e
 ·split at e
  ·rename_i h
   cases e
   rw[r1.int,r2.int]
   exact⟨_,_,rfl,rfl,h,k _ H (CS.refl _) (.int _)⟩
  ·cases e
 ·cases e
theorem R7:IT b .val (rI QL λi j=>.int (i ^ j.toNat)) wB:=by
 intro Ow H v1 v2 p1 p2 p Q hn r1 r2 e k
 unfold wB at e
 split at e
 ·split at e
  ·rename_i h
   cases e
   rw[r1.int,r2.int]
   exact⟨_,_,rfl,rfl,h,k _ H (CS.refl _) (.int _)⟩
  ·cases e
 ·cases e
end
variable {b:BX}{Ow:Addr->Prop}
theorem gf {xs:List PV}(h:H a=none)(r:CM b.C (Bs b Ow) H vs xs):Res b Ow H (upd H a (.lst vs)) .own (.ref a) (.lst xs):=by
 refine⟨a,rfl,h,vs,bc,r.ex λc o e=>?_⟩
 have hc:c≠a:=bI e h
 exact⟨λq=>⟨by rw[aP hc];exact e,q,hc⟩,λ_=>by rw[aP hc];exact e⟩
theorem wD {H0:Hp}{xs:List PV}(h:H a=none)(r:CM b.C (Bs b Ow) H vs xs):Res b Ow H0 (upd H a (.tup vs)) .val (.ref a) (.tup xs):=
 Rep.tup bc (r.ex (.of_same (bh h _)))
section
variable {b:BX}
theorem R8:IT b .val (λx y H Q=>(LM (λi j=>.int (i+j)) x y H Q\/∃i j,x=.str i/\y=.str j/\i.length+j.length<=sizeLine/\Q (.str (i++j)) H)\/JX x y H Q) bD:=by
 intro Ow H v1 v2 p1 p2 p Q hn r1 r2 e k
 unfold bD at e
 split at e
 ·cases e
  rw[r1.int,r2.int]
  exact .inl (.inl ⟨_,_,rfl,rfl,k _ H (CS.refl _) (.int _)⟩)
 ·split at e
  ·rename_i h
   cases e
   rw[r1.str,r2.str]
   exact .inl (.inr ⟨_,_,rfl,rfl,gb h,k _ H (CS.refl _) (.str _)⟩)
  ·cases e
 ·split at e
  ·rename_i h
   cases e
   obtain⟨a,vs,rfl,ha,ra⟩:=r1.lst
   obtain⟨c,us,rfl,hc,rc⟩:=r2.lst
   exact .inr ⟨a,c,vs,us,rfl,rfl,ha,hc,gb (by rw[ra.length,rc.length];exact h),λq hq=>k _ _ (bh hq _) (.lst bc (hn q hq) ((ra.append rc).ex (.of_same (bh hq _))))⟩
  ·cases e
 ·cases e
theorem R9:IT b .own JX lB:=by
 intro Ow H v1 v2 p1 p2 p Q hn r1 r2 e k
 unfold lB at e
 split at e
 ·split at e
  ·rename_i h
   cases e
   obtain⟨a,vs,rfl,ha,ra⟩:=r1.lst
   obtain⟨c,us,rfl,hc,rc⟩:=r2.lst
   refine⟨a,c,vs,us,rfl,rfl,ha,hc,gb (by rw[ra.length,rc.length];exact h),λq hq=>k _ _ (bh hq _) (gf hq (ra.append rc))⟩
  ·cases e
 ·cases e
end
variable {env:Env}{x:Str}{q:PV}{m1 m2:Md}
section
variable {X:Cx}{b:BX}{G:gV}{m:Md}{e e1 e2:Expr}{f f1 f2:r6}{pos:Pos}
theorem au {i j pos}:SE X b G .val (.Constant (.int i) j pos) (CF i):=PE.imp u_<|by rintro σ H Q ⟨Ow,env,p,E,hf,k⟩;cases hf;exact k _ H (CS.refl _) (.int i)
theorem gj {i j pos}:SE X b G .val (.Constant (.bool i) j pos) (bC (.bl i)):=PE.imp Ly<|by rintro σ H Q ⟨Ow,env,p,E,hf,k⟩;cases hf;exact k _ H (CS.refl _) (.bl i)
theorem dM {i j pos}:SE X b G .val (.Constant (.str i) j pos) (bC (.str i)):=PE.imp Qq<|by rintro σ H Q ⟨Ow,env,p,E,hf,k⟩;cases hf;exact k _ H (CS.refl _) (.str i)
theorem d7 {j pos}:SE X b G .val (.Constant .none j pos) (bC .CY):=PE.imp za<|by rintro σ H Q ⟨Ow,env,p,E,hf,k⟩;cases hf;exact k _ H (CS.refl _) .CY
theorem fc {i:Nat}{p:PV}(h:bV i env=some p):env[i]?=some (some p):=by
 unfold bV at h
 split at h
 ·rename_i o e;rw[e,h]
 ·cases h
theorem aj (i:Nat){pos:Pos}(hN:X.N[i]?=some x:=by rfl)(hv:MB X.env.scope x:=by first | exact gc rfl | exact eB (gc rfl) | exact eB (eB rfl))(hG:i∉G:=by decide)(hd:(x == ("__debug__" : Str))=false:=by decide)
  (FH:(x == ("__classdict__" : Str))=false:=by decide):SE X b G .val (.Name x pos) (bV i):=PE.imp (gR hN hv hd FH)<|by
 rintro σ H Q ⟨Ow,env,p,E,hf,k⟩
 obtain⟨v,e,r⟩:=E.val i p (fc hf) hG
 exact⟨v,e,k v H (CS.refl _) r⟩
theorem pL (i:Nat){pos:Pos}(hN:X.N[i]?=some x:=by rfl)(hv:MB X.env.scope x:=by first | exact gc rfl | exact eB (gc rfl) | exact eB (eB rfl))(hd:(x == ("__debug__" : Str))=false:=by decide)
  (FH:(x == ("__classdict__" : Str))=false:=by decide):SE X b G .bor (.Name x pos) (bV i):=PE.imp (gR hN hv hd FH)<|by
 rintro σ H Q ⟨Ow,env,p,E,hf,k⟩
 by_cases hG:i∈G
 ·obtain⟨a,e,_,t⟩:=E.own i p (fc hf) hG
  exact⟨_,e,k _ H (CS.refl _) (.inr ⟨a,rfl,t⟩)⟩
 ·obtain⟨v,e,r⟩:=E.val i p (fc hf) hG
  exact⟨v,e,k v H (CS.refl _) (.inl r)⟩
theorem yL {pos:Pos}(hm:X.mg x=some (.ref a))(hr:∀A H,Rep b.C A H (.ref a) q)(hg:Gl X x:=by rfl)(hd:(x == ("__debug__" : Str))=false:=by decide):SE X b G .val (.Name x pos) (bC q):=
 PE.imp (M5 hg hm (v:=.ref a) rfl hd)<|by rintro σ H Q ⟨Ow,env,p,E,hf,k⟩;cases hf;exact k _ H (CS.refl _) (hr _ _)
theorem pq {op:Operator}{r:R2}(ho:D5 X (binaryOp op) r)(hr:IT b m r g)(h1:SE X b G m1 e1 f1)(h2:SE X b G m2 e2 f2):SE X b G m (.BinOp e1 op e2 pos) (b2 g f1 f2):=
 PE.imp (UL ho h1.bor h2.bor) fun σ H Q h=>EY hr h
theorem bA (h1:SE X b G m1 e1 f1)(h2:SE X b G m2 e2 f2):SE X b G .val (.BinOp e1 .Add e2 pos) (b2 bD f1 f2):=pq (D5.or (D5.or QM Eo) G7) R8 h1 h2
theorem jK (h1:SE X b G m1 e1 f1)(h2:SE X b G m2 e2 f2):SE X b G .own (.BinOp e1 .Add e2 pos) (b2 lB f1 f2):=pq G7 R9 h1 h2
theorem Ho (h1:SE X b G m1 e1 f1)(h2:SE X b G m2 e2 f2):SE X b G .val (.BinOp e1 .Sub e2 pos) (b2 OE f1 f2):=pq QQ R3 h1 h2
theorem mC (h1:SE X b G m1 e1 f1)(h2:SE X b G m2 e2 f2):SE X b G .val (.BinOp e1 .Mult e2 pos) (b2 mH f1 f2):=pq QR R4 h1 h2
theorem d8 (h1:SE X b G m1 e1 f1)(h2:SE X b G m2 e2 f2):SE X b G .val (.BinOp e1 .FloorDiv e2 pos) (b2 dJ f1 f2):=pq M9 R5 h1 h2
theorem cV (h1:SE X b G m1 e1 f1)(h2:SE X b G m2 e2 f2):SE X b G .val (.BinOp e1 .Mod e2 pos) (b2 c7 f1 f2):=pq QS R6 h1 h2
theorem R_ (h1:SE X b G m1 e1 f1)(h2:SE X b G m2 e2 f2):SE X b G .val (.BinOp e1 .Pow e2 pos) (b2 wB f1 f2):=pq QT R7 h1 h2
end
@[simp] noncomputable def SH:PV->PV->Option Bool
 | .CY,.CY=>some true
 | .CY,.int _=>some false | .int _,.CY=>some false | .CY,.bl _=>some false | .bl _,.CY=>some false | .CY,.str _=>some false | .str _,.CY=>some false
 | .int i,.int j=>some (decide (i=j))
 | .bl i,.bl j=>some (decide (i=j))
 | .str i,.str j=>some (decide (i=j))
 | .int _,.str _=>some false | .str _,.int _=>some false | .bl _,.str _=>some false | .str _,.bl _=>some false
 | _,_=>none
mutual
noncomputable def toD:PV->Option PyData
 | .CY=>some .none
 | .bl b=>some (.bool b)
 | .int i=>some (.int i)
 | .str x=>some (.str x)
 | .lst xs=>(dB xs).map .list
 | .EA xs=>(dB xs).map .list
 | .tup xs=>(dB xs).map .tuple
 | .He xs=>(dB xs).map .tuple
 | _=>none
noncomputable def dB:List PV->Option (List PyData)
 | []=>some []
 | x::xs=>match toD x,dB xs with
  | some d,some ds=>some (d::ds)
  | _,_=>none
end
noncomputable def XT (x y:PV):Option Bool:=match toD x,toD y with
 | some d,some e=>if SeqAt.shaped d=true/\SeqAt.shaped e=true then some (PyData.eqv d e) else none
 | _,_=>none
noncomputable def K2 (x y:PV):Option Bool:=match SH x y with
 | some k=>some k
 | none=>XT x y
noncomputable def eqQ (x y:PV):Option PV:=(K2 x y).map .bl
@[simp] theorem W9 (x y:PV):eqQ x y=((K2 x y).map .bl):=id rfl
noncomputable def Kn (x y:PV):Option PV:=(K2 x y).map λk=>.bl (!k)
@[simp] theorem W_ (x y:PV):Kn x y=((K2 x y).map λk=>.bl (!k)):=id rfl
mutual
theorem Rep.dt {C:MC}{A:Addr->Prop}{H:Hp}:∀{v:V}{p:PV}{d:PyData},Rep C A H v p->toD p=some d->Dt C.K H v d
 | _,_,_,.CY,e=>by simp only[toD] at e;cases e;exact .CY
 | _,_,_,.bl b,e=>by simp only[toD] at e;cases e;exact .bl b
 | _,_,_,.int b,e=>by simp only[toD] at e;cases e;exact .int b
 | _,_,_,.str b,e=>by simp only[toD] at e;cases e;exact .str b
 | _,_,_,.lst (xs:=xs) h _ r,e=>by
  simp only[toD] at e
  cases q:dB xs with
  | none=>rw[q] at e;cases e
  | some ds=>rw[q] at e;cases e;exact .lst (DL.of h) (CM.dt r q)
 | _,_,_,.LW (xs:=xs) h r,e=>by
  simp only[toD] at e
  cases q:dB xs with
  | none=>rw[q] at e;cases e
  | some ds=>rw[q] at e;cases e;exact .lst (.inl (.inr ⟨_,h⟩)) (CM.dt r q)
 | _,_,_,.lstK (xs:=xs) h r,e=>by
  simp only[toD] at e
  cases q:dB xs with
  | none=>rw[q] at e;cases e
  | some ds=>rw[q] at e;cases e;exact .lst (Yq h) (CM.dt r q)
 | _,_,_,.tup (xs:=xs) h r,e=>by
  simp only[toD] at e
  cases q:dB xs with
  | none=>rw[q] at e;cases e
  | some ds=>rw[q] at e;cases e;exact .tup (FI.of h) (CM.dt r q)
 | _,_,_,.KL (xs:=xs) h r,e=>by
  simp only[toD] at e
  cases q:dB xs with
  | none=>rw[q] at e;cases e
  | some ds=>rw[q] at e;cases e;exact .tup (.inr h) (CM.dt r q)
 | _,_,_,.tupK (xs:=xs) h r,e=>by
  simp only[toD] at e
  cases q:dB xs with
  | none=>rw[q] at e;cases e
  | some ds=>rw[q] at e;cases e;exact .tup (uD h) (CM.dt r q)
 | _,_,_,.dK h _ r,e=>by simp only[toD] at e;cases e
 | _,_,_,.dT h _ r,e=>by simp only[toD] at e;cases e
theorem CM.dt {C:MC}{A:Addr->Prop}{H:Hp}:∀{v:List V}{p:List PV}{d:List PyData},CM C A H v p->dB p=some d->OA C.K H v d
 | _,_,_,.nil,e=>by simp only[dB] at e;cases e;exact .nil
 | _,_,_,.cons (p:=p) (ps:=ps) h t,e=>by
  simp only[dB] at e
  cases q:toD p with
  | none=>rw[q] at e;cases e
  | some d=>
   cases q2:dB ps with
   | none=>rw[q,q2] at e;cases e
   | some ds=>rw[q,q2] at e;cases e;exact .cons (Rep.dt h q) (CM.dt t q2)
end
theorem CU.dt {C:MC}{A:Addr->Prop}{H:Hp}{v:V}{p:PV}{d:PyData}(h:CU C A H v p)(e:toD p=some d):Dt C.K H v d:=by
 rcases h with h | ⟨a,rfl,t⟩
 ·exact h.dt e
 ·cases p with
  | lst xs=>
   obtain⟨vs,q,r⟩:=t
   exact(Rep.lst (A:=λ_=>True) q io (r.ex (cC λ_ _ _ _=>io))).dt e
  | dK kvs=>simp only[toD] at e;cases e
  | dT kvs=>simp only[toD] at e;cases e
  | _=>exact t.elim
theorem zU {u:V}{p:PV}{k:Bool}(h:CU C A H v p)(h':CU C A H u q)(e:SH p q=some k):JL v u=true/\decide (v=u)=k:=by
 unfold SH at e
 split at e <;> first | cases e | skip
 ·rw[h.CY,h'.CY];exact⟨rfl,rfl⟩
 ·rw[h.CY,h'.int];exact⟨rfl,rfl⟩
 ·rw[h.int,h'.CY];exact⟨rfl,rfl⟩
 ·rw[h.CY,h'.bl];exact⟨rfl,rfl⟩
 ·rw[h.bl,h'.CY];exact⟨rfl,rfl⟩
 ·rw[h.CY,h'.str];exact⟨rfl,rfl⟩
 ·rw[h.str,h'.CY];exact⟨rfl,rfl⟩
 ·rw[h.int,h'.int];exact⟨rfl,by simp⟩
 ·rw[h.bl,h'.bl];exact⟨rfl,by simp⟩
 ·rw[h.str,h'.str];exact⟨rfl,by simp⟩
 ·rw[h.int,h'.str];exact⟨rfl,rfl⟩
 ·rw[h.str,h'.int];exact⟨rfl,rfl⟩
 ·rw[h.bl,h'.str];exact⟨rfl,rfl⟩
 ·rw[h.str,h'.bl];exact⟨rfl,rfl⟩
def Sd (K:W.Frag):R2:=λx y H Q=>rEq x y H Q\/∃d e,Dt K H x d/\Dt K H y e/\SeqAt.shaped d=true/\SeqAt.shaped e=true/\Q (.bl (PyData.eqv d e)) H
def Sh (K:W.Frag):R2:=λx y H Q=>rNe x y H Q\/∃d e,Dt K H x d/\Dt K H y e/\SeqAt.shaped d=true/\SeqAt.shaped e=true/\Q (.bl (!PyData.eqv d e)) H
section
variable {b:BX}
theorem Ve:IT b .val (Sd b.C.K) eqQ:=by
 intro Ow H v1 v2 p1 p2 p Q hn r1 r2 e k
 unfold eqQ K2 at e
 cases q:SH p1 p2 with
 | some c=>
  rw[q] at e
  cases e
  obtain⟨h1,h2⟩:=zU r1 r2 q
  exact .inl ⟨h1,by rw[h2];exact k _ H (CS.refl _) (.bl c)⟩
 | none=>
  rw[q] at e
  simp only[XT] at e
  cases q1:toD p1 with
  | none=>rw[q1] at e;cases e
  | some d=>
   cases q2:toD p2 with
   | none=>rw[q1,q2] at e;cases e
   | some d'=>
    rw[q1,q2] at e
    simp only at e
    split at e
    ·rename_i hs
     cases e
     exact .inr ⟨d,d',r1.dt q1,r2.dt q2,hs.1,hs.2,k _ H (CS.refl _) (.bl _)⟩
    ·cases e
theorem Vf:IT b .val (Sh b.C.K) Kn:=by
 intro Ow H v1 v2 p1 p2 p Q hn r1 r2 e k
 unfold Kn K2 at e
 cases q:SH p1 p2 with
 | some c=>
  rw[q] at e
  cases e
  obtain⟨h1,h2⟩:=zU r1 r2 q
  exact .inl ⟨h1,by rw[h2];exact k _ H (CS.refl _) (.bl _)⟩
 | none=>
  rw[q] at e
  simp only[XT] at e
  cases q1:toD p1 with
  | none=>rw[q1] at e;cases e
  | some d=>
   cases q2:toD p2 with
   | none=>rw[q1,q2] at e;cases e
   | some d'=>
    rw[q1,q2] at e
    simp only at e
    split at e
    ·rename_i hs
     cases e
     exact .inr ⟨d,d',r1.dt q1,r2.dt q2,hs.1,hs.2,k _ H (CS.refl _) (.bl _)⟩
    ·cases e
end
@[simp] noncomputable def keyOf:PV->Option Key
 | .int i=>some (.inl i)
 | .str x=>some (.inr x)
 | _=>none
@[simp] noncomputable def keysOf:List PV->Option (List Key)
 | []=>some []
 | x::xs=>match keyOf x,keysOf xs with
  | some k,some ks=>some (k::ks)
  | _,_=>none
@[simp] noncomputable def DI:List PV->Option (List Key)
 | [.str x,.bl b]=>some [.inr x,.inl (if b=true then 1 else 0)]
 | xs=>keysOf xs
@[simp] noncomputable def dF:PV->Bool
 | .CY=>true
 | .bl _=>true
 | .int _=>true
 | .str _=>true
 | _=>false
noncomputable def OF:PV->PV->Bool
 | .CY,.CY=>true
 | .bl a,.bl b=>a == b
 | .bl a,.int b=>(if a then 1 else 0) == b
 | .int a,.bl b=>a == (if b then 1 else 0)
 | .int a,.int b=>a == b
 | .str a,.str b=>a == b
 | _,_=>false
noncomputable def dg {κ:Type}[DecidableEq κ](kvs:List (κ×PV))(k:κ):Option PV:=(kvs.find? λx=>decide (x.1=k)).map (·.2)
noncomputable def inD (x:PV)(ys:List PV):Option Bool:=match toD x,dB ys with
 | some d,some ds=>if PyData.canLayAll0 ds=true/\d.canLay0=true/\d.depth<=32 then some (ds.any λy=>PyData.eqv y d) else none
 | _,_=>none
theorem qP {x:PV}{ys:List PV}{k:Bool}(h:inD x ys=some k):∃d ds,toD x=some d/\dB ys=some ds/\PyData.canLayAll0 ds=true/\d.canLay0=true/\d.depth<=32/\(ds.any λy=>PyData.eqv y d)=k:=by
 unfold inD at h
 split at h
 ·rename_i d ds h1 h2
  split at h
  ·rename_i hc
   exact⟨d,ds,h1,h2,hc.1,hc.2.1,hc.2.2,a9 h⟩
  ·cases h
 ·cases h
noncomputable def NJ:PV->PV->Option Bool
 | x,.lst ys=>if dF x=true/\ys.all dF=true then some (ys.any λy=>OF y x) else inD x ys
 | x,.EA ys=>if dF x=true/\ys.all dF=true then some (ys.any λy=>OF y x) else inD x ys
 | x,.He ys=>if dF x=true/\ys.all dF=true then some (ys.any λy=>OF y x) else inD x ys
 | x,.tup ys=>if dF x=true/\ys.all dF=true then some (ys.any λy=>OF y x) else inD x ys
 | .str x,.str y=>some (!(Builtin.Str.occurrences y x 0 y.length 1).isEmpty)
 | x,.dK kvs=>(keyOf x).map λk=>(dg kvs k).isSome
 | .tup xs,.dT kvs=>(DI xs).map λk=>(dg kvs k).isSome
 | _,_=>none
theorem CM.keys {C:MC}{A:Addr->Prop}{H:Hp}:∀{vs:List V}{ps:List PV}{ks:List Key},CM C A H vs ps->keysOf ps=some ks->vs=ks.map kV
 | _,_,_,.nil,e=>by cases e;rfl
 | _,_,_,.cons (p:=p) (ps:=ps) h t,e=>by
  unfold keysOf at e
  cases q:keyOf p with
  | none=>rw[q] at e;cases e
  | some k=>
   cases q2:keysOf ps with
   | none=>rw[q,q2] at e;cases e
   | some ks=>
    rw[q,q2] at e
    cases e
    have ih:=CM.keys t q2
    rw[ap,ih]
    congr 1
    unfold keyOf at q
    split at q <;> cases q <;> cases h <;> rfl
theorem CM.DI {C:MC}{A:Addr->Prop}{H:Hp}{vs:List V}{ps:List PV}{ks:List Key}(r:CM C A H vs ps)(e:DI ps=some ks):rY ks vs:=by
 unfold MR.DI at e
 split at e
 ·cases e
  cases r with
  | cons h1 t=>cases t with
   | cons h2 t=>cases t;cases h1;cases h2;exact .inr ⟨_,_,rfl,rfl⟩
 ·exact .inl (r.keys e)
theorem CU.key {p:PV}{k:Key}(h:CU C A H v p)(e:keyOf p=some k):v=kV k:=by
 unfold keyOf at e
 split at e
 ·cases e;exact h.int
 ·cases e;exact h.str
 ·cases e
theorem CU.flat {p:PV}(h:CU C A H v p)(e:dF p=true):jy v=true:=by
 unfold dF at e
 split at e
 ·rw[h.CY];rfl
 ·rw[h.bl];rfl
 ·rw[h.int];rfl
 ·rw[h.str];rfl
 ·cases e
noncomputable def fV:PV->V
 | .bl b=>.bl b
 | .int i=>.int i
 | .str x=>.str x
 | _=>.CY
theorem CU.fV {C:MC}{A:Addr->Prop}{H:Hp}{v:V}{p:PV}(h:CU C A H v p)(e:dF p=true):v=fV p:=by
 cases p with
 | CY=>exact h.CY
 | bl b=>exact h.bl
 | int i=>exact h.int
 | str x=>exact h.str
 | _=>cases e
theorem Vg (p q:PV)(hp:dF p=true)(hq:dF q=true):L2.Sb (fV p) (fV q)=OF p q:=by
 cases p <;> cases q <;> first | rfl | (cases hp;done) | (cases hq;done)
theorem CM.flat {C:MC}{A:Addr->Prop}{H:Hp}{v:V}{p:PV}(h:CU C A H v p)(e:dF p=true):∀{vs:List V}{ps:List PV},CM C A H vs ps->ps.all dF=true->vs.all jy=true/\YW v vs=ps.any λy=>OF y p
 | _,_,.nil,_=>⟨rfl,rfl⟩
 | _,_,.cons (v:=v') (p:=p') (vs:=vs) (ps:=ps) q t,e'=>by
  rw[ij,bp] at e'
  obtain⟨h1,h2⟩:=CM.flat h e t e'.2
  have hf:jy v'=true:=CU.flat (.inl q) e'.1
  refine⟨by rw[ij,hf,h1];rfl,?_⟩
  unfold YW at h2 ⊢
  rw[fA,fA,h2]
  have q1:=h.fV e
  have q2:=CU.fV (.inl q) e'.1
  rw[q1,q2,Vg _ _ e'.1 e]
section
variable {X:Cx}
theorem Sq (hu:X.A.units+1 < cLine):D5 X (compareOp .In) (λx y H Q=>∃a o,y=.ref a/\ED X.K H a x o/\Q (.bl o.isSome) H):=by
 intro CI s σ H x y v u Q I rx ry h
 obtain⟨a,o,rfl,g,q⟩:=h
 obtain rfl:u=Value.ref a:=ry
 exact V_ hu I g rx λs3 I3=>⟨.bl o.isSome,H,I3,rfl,q⟩
def Fb (K:W.Frag)(neg:Bool):R2:=λx y H Q=>∃d ds,(Dt K H y (.list ds)\/Dt K H y (.tuple ds))/\Dt K H x d/\PyData.canLayAll0 ds=true/\d.canLay0=true/\d.depth<=32/\Q (.bl (if neg then !(ds.any λy=>PyData.eqv y d) else ds.any λy=>PyData.eqv y d)) H
theorem Ss (hu:X.A.units+64 < cLine):D5 X (compareOp .In) (Fb X.K false):=by
 intro CI s σ H x y v u Q I rx ry h
 obtain⟨d,ds,h1,h2,c1,c2,c3,q⟩:=h
 have hm:min (PyData.depthAll ds) d.depth<=d.depth:=kM _ _
 obtain⟨as,ra⟩:=h2.reads I rx
 rcases h1 with h1 | h1
 ·obtain⟨bs,rb⟩:=h1.reads I ry
  exact PySem.SeqAt.in_list_reads rb ra c1 c2 (by omega) ⟨.bl _,H,I,rfl,q⟩
 ·obtain⟨bs,rb⟩:=h1.reads I ry
  exact PySem.SeqAt.in_tuple_reads rb ra c1 c2 (by omega) ⟨.bl _,H,I,rfl,q⟩
theorem Hq (hu:X.A.units+64 < cLine):D5 X (compareOp .NotIn) (Fb X.K true):=by
 intro CI s σ H x y v u Q I rx ry h
 obtain⟨d,ds,h1,h2,c1,c2,c3,q⟩:=h
 have hm:min (PyData.depthAll ds) d.depth<=d.depth:=kM _ _
 obtain⟨as,ra⟩:=h2.reads I rx
 rcases h1 with h1 | h1
 ·obtain⟨bs,rb⟩:=h1.reads I ry
  exact PySem.SeqAt.notIn_list_reads rb ra c1 c2 (by omega) ⟨.bl _,H,I,rfl,q⟩
 ·obtain⟨bs,rb⟩:=h1.reads I ry
  exact PySem.SeqAt.notIn_tuple_reads rb ra c1 c2 (by omega) ⟨.bl _,H,I,rfl,q⟩
theorem Hr (hu:X.A.units+1 < cLine):D5 X (compareOp .NotIn) (λx y H Q=>∃a o,y=.ref a/\ED X.K H a x o/\Q (.bl (!o.isSome)) H):=by
 intro CI s σ H x y v u Q I rx ry h
 obtain⟨a,o,rfl,g,q⟩:=h
 obtain rfl:u=Value.ref a:=ry
 exact Nh hu I g rx λs3 I3=>⟨.bl (!o.isSome),H,I3,rfl,q⟩
end
def Su (K:W.Frag):R2:=λx y H Q=>(rIn K false x y H Q\/∃i j,x=.str i/\y=.str j/\Q (.bl (!(Builtin.Str.occurrences j i 0 j.length 1).isEmpty)) H)\/(∃a o,y=.ref a/\ED K H a x o/\Q (.bl o.isSome) H)\/Fb K false x y H Q
def CK (K:W.Frag):R2:=λx y H Q=>(rIn K true x y H Q\/∃i j,x=.str i/\y=.str j/\Q (.bl (!(!(Builtin.Str.occurrences j i 0 j.length 1).isEmpty))) H)\/(∃a o,y=.ref a/\ED K H a x o/\Q (.bl (!o.isSome)) H)\/Fb K true x y H Q
noncomputable def XU (x y:PV):Option PV:=(NJ x y).map .bl
@[simp] theorem Xa (x y:PV):XU x y=((NJ x y).map .bl):=id rfl
noncomputable def ql (x y:PV):Option PV:=(NJ x y).map λk=>.bl (!k)
@[simp] theorem VJ (x y:PV):ql x y=((NJ x y).map λk=>.bl (!k)):=id rfl
theorem Hs {v1 v2:V}{p1 p2:PV}{k:Bool}(r1:CU C A H v1 p1)(r2:CU C A H v2 p2)(e:NJ p1 p2=some k):
  (∃p xs,v2=.ref p/\(DL C.K H p xs\/FI C.K H p xs)/\jy v1=true/\xs.all jy=true/\YW v1 xs=k)\/(∃i j,v1=.str i/\v2=.str j/\(!(Builtin.Str.occurrences j i 0 j.length 1).isEmpty)=k)\/(∃a o,v2=.ref a/\ED C.K H a v1 o/\o.isSome=k)\/∃d ds,(Dt C.K H v2 (.list ds)\/Dt C.K H v2 (.tuple ds))/\Dt C.K H v1 d/\PyData.canLayAll0 ds=true/\d.canLay0=true/\d.depth<=32/\(ds.any λy=>PyData.eqv y d)=k:=by
 unfold NJ at e
 split at e
 ·split at e
  ·rename_i h
   cases e
   obtain⟨a,vs,rfl,ha,ra⟩:=r2.lst
   obtain⟨h1,h2⟩:=CM.flat r1 h.1 ra h.2
   exact .inl ⟨a,vs,rfl,.inl (DL.of ha),r1.flat h.1,h1,h2⟩
  ·obtain⟨d,ds,t1,t2,c1,c2,c3,c4⟩:=qP e
   exact .inr (.inr (.inr ⟨d,ds,.inl (r2.dt (by simp[toD,t2])),r1.dt t1,c1,c2,c3,c4⟩))
 ·split at e
  ·rename_i h
   cases e
   obtain⟨a,vs,rfl,ha,ra⟩:=r2.EA
   obtain⟨h1,h2⟩:=CM.flat r1 h.1 ra h.2
   exact .inl ⟨a,vs,rfl,.inl ha,r1.flat h.1,h1,h2⟩
  ·obtain⟨d,ds,t1,t2,c1,c2,c3,c4⟩:=qP e
   exact .inr (.inr (.inr ⟨d,ds,.inl (r2.dt (by simp[toD,t2])),r1.dt t1,c1,c2,c3,c4⟩))
 ·split at e
  ·rename_i h
   cases e
   obtain⟨a,vs,rfl,ha,ra⟩:=r2.He
   obtain⟨h1,h2⟩:=CM.flat r1 h.1 ra h.2
   exact .inl ⟨a,vs,rfl,.inr ha,r1.flat h.1,h1,h2⟩
  ·obtain⟨d,ds,t1,t2,c1,c2,c3,c4⟩:=qP e
   exact .inr (.inr (.inr ⟨d,ds,.inr (r2.dt (by simp[toD,t2])),r1.dt t1,c1,c2,c3,c4⟩))
 ·split at e
  ·rename_i h
   cases e
   obtain⟨a,vs,rfl,ha,ra⟩:=r2.tup
   obtain⟨h1,h2⟩:=CM.flat r1 h.1 ra h.2
   exact .inl ⟨a,vs,rfl,.inr ha.sq,r1.flat h.1,h1,h2⟩
  ·obtain⟨d,ds,t1,t2,c1,c2,c3,c4⟩:=qP e
   exact .inr (.inr (.inr ⟨d,ds,.inr (r2.dt (by simp[toD,t2])),r1.dt t1,c1,c2,c3,c4⟩))
 ·cases e
  exact .inr (.inl ⟨_,_,r1.str,r2.str,rfl⟩)
 ·obtain⟨a,kv,rfl,ha,ra⟩:=r2.dK
  cases q:keyOf p1 with
  | none=>rw[q] at e;cases e
  | some ky=>
   rw[q] at e
   cases e
   rw[r1.key q]
   refine .inr (.inr (.inl ⟨a,_,rfl,ED.k ha,?_⟩))
   unfold dg
   dsimp only
   rcases DV.val (k:=ky) ra with ⟨v,p,h1,h2,_⟩ | ⟨h1,h2⟩
   ·rw[h1,h2];rfl
   ·rw[h1,h2];rfl
 ·rename_i xs kvs
  obtain⟨a,kv,rfl,ha,ra⟩:=r2.dT
  obtain⟨c,vs,rfl,hc,rc⟩:=r1.tup
  cases q:DI xs with
  | none=>rw[q] at e;cases e
  | some ky=>
   rw[q] at e
   cases e
   refine .inr (.inr (.inl ⟨a,_,rfl,ED.t ha (hc.key (rc.DI q)),?_⟩))
   unfold dg
   dsimp only
   rcases DM.val (k:=ky) ra with ⟨v,p,h1,h2,_⟩ | ⟨h1,h2⟩
   ·rw[h1,h2];rfl
   ·rw[h1,h2];rfl
 ·cases e
section
variable {b:BX}
theorem Vh:IT b .val (Su b.C.K) XU:=by
 intro Ow H v1 v2 p1 p2 p Q hn r1 r2 e k
 unfold XU at e
 cases q:NJ p1 p2 with
 | none=>rw[q] at e;cases e
 | some c=>
  rw[q] at e
  cases e
  have fin:=k (.bl c) H (CS.refl _) (.bl c)
  rcases Hs r1 r2 q with ⟨a,xs,rfl,h1,h2,h3,h4⟩ | ⟨i,j,rfl,rfl,h1⟩ | ⟨a,o,rfl,h1,h2⟩ | ⟨d,ds,h1,h2,c1,c2,c3,h4⟩
  ·subst h4;exact .inl (.inl ⟨a,xs,rfl,h1,h2,h3,fin⟩)
  ·subst h1;exact .inl (.inr ⟨i,j,rfl,rfl,fin⟩)
  ·subst h2;exact .inr (.inl ⟨a,o,rfl,h1,fin⟩)
  ·subst h4;exact .inr (.inr ⟨d,ds,h1,h2,c1,c2,c3,fin⟩)
theorem Kg:IT b .val (CK b.C.K) ql:=by
 intro Ow H v1 v2 p1 p2 p Q hn r1 r2 e k
 unfold ql at e
 cases q:NJ p1 p2 with
 | none=>rw[q] at e;cases e
 | some c=>
  rw[q] at e
  cases e
  have fin:=k (.bl (!c)) H (CS.refl _) (.bl _)
  rcases Hs r1 r2 q with ⟨a,xs,rfl,h1,h2,h3,h4⟩ | ⟨i,j,rfl,rfl,h1⟩ | ⟨a,o,rfl,h1,h2⟩ | ⟨d,ds,h1,h2,c1,c2,c3,h4⟩
  ·subst h4;exact .inl (.inl ⟨a,xs,rfl,h1,h2,h3,fin⟩)
  ·subst h1;exact .inl (.inr ⟨i,j,rfl,rfl,fin⟩)
  ·subst h2;exact .inr (.inl ⟨a,o,rfl,h1,fin⟩)
  ·subst h4;exact .inr (.inr ⟨d,ds,h1,h2,c1,c2,c3,fin⟩)
end
@[simp] noncomputable def uE:PV->Bool
 | .CY=>true
 | _=>false
noncomputable def LB (x y:PV):Option PV:=match y with
 | .CY=>some (.bl (uE x))
 | _=>none
@[simp] theorem Xb (x y:PV):LB x y=(match y with
 | .CY=>some (.bl (uE x))
 | _=>none):=id rfl
noncomputable def jL (x y:PV):Option PV:=match y with
 | .CY=>some (.bl (!uE x))
 | _=>none
@[simp] theorem VL (x y:PV):jL x y=(match y with
 | .CY=>some (.bl (!uE x))
 | _=>none):=id rfl
theorem CU.LB {p:PV}(h:CU C A H v p):decide (v=.CY)=uE p:=by
 cases p with
 | CY=>rw[h.CY];rfl
 | bl b=>rw[h.bl];rfl
 | int b=>rw[h.int];rfl
 | str b=>rw[h.str];rfl
 | lst b=>obtain⟨a,_,rfl,_⟩:=h.lst;rfl
 | EA b=>obtain⟨a,_,rfl,_⟩:=h.EA;rfl
 | tup b=>obtain⟨a,_,rfl,_⟩:=h.tup;rfl
 | He b=>obtain⟨a,_,rfl,_⟩:=h.He;rfl
 | dK b=>obtain⟨a,_,rfl,_⟩:=h.dK;rfl
 | dT b=>obtain⟨a,_,rfl,_⟩:=h.dT;rfl
section
variable {b:BX}
theorem Sv:IT b .val (λx y H Q=>y=.CY/\Q (.bl (decide (x=.CY))) H) LB:=by
 intro Ow H v1 v2 p1 p2 p Q hn r1 r2 e k
 cases p2 with
 | CY=>
  simp only[LB] at e
  cases e
  exact⟨r2.CY,by rw[r1.LB];exact k _ H (CS.refl _) (.bl _)⟩
 | _=>simp only[LB] at e;cases e
theorem Ht:IT b .val (λx y H Q=>y=.CY/\Q (.bl (!decide (x=.CY))) H) jL:=by
 intro Ow H v1 v2 p1 p2 p Q hn r1 r2 e k
 cases p2 with
 | CY=>
  simp only[jL] at e
  cases e
  exact⟨r2.CY,by rw[r1.LB];exact k _ H (CS.refl _) (.bl _)⟩
 | _=>simp only[jL] at e;cases e
end
variable {op:CmpOp}
section
variable {X:Cx}{b:BX}{G:gV}{m:Md}{e e1 e2 e3:Expr}{f f1 f2 f3:r6}{pos:Pos}{m1 m2 m3:Md}
structure SC (X:Cx)(b:BX)(G:gV)(op:CmpOp)(e1 e2:Expr)(f:r6):Prop where
 pe:∀pos,SE X b G .val (.Compare e1 [op] [e2] pos) f
 pt:∀pos,ST X b G (.Compare e1 [op] [e2] pos) (tV f)
theorem mX {r:R2}(ho:D5 X (compareOp op) r)(hr:IT b .val r g)(h1:SE X b G m1 e1 f1)(h2:SE X b G m2 e2 f2)(hm:behindInMarks op e2=false):SC X b G op e1 e2 (b2 g f1 f2):=by
 refine⟨λpos=>PE.imp (Nb ho h1.bor h2.bor hm) fun σ H Q h=>EY hr h,λpos=>PT.imp (Nf ho h1.bor h2.bor hm) fun σ H Q h=>?_⟩
 obtain⟨Ow,env,c,E,hf,k⟩:=h
 unfold tV at hf
 cases q:b2 g f1 f2 env with
 | none=>rw[q] at hf;cases hf
 | some p=>
  rw[q] at hf
  refine EY (Q:=λx H'=>∃k,x=.bl k/\_) hr ⟨Ow,env,p,E,q,λv H' s r=>?_⟩
  cases p with
  | bl d=>
   cases hf
   cases r
   exact⟨_,rfl,k H' s⟩
  | _=>cases hf
theorem dH {j:Nat}(hr:DD j X.A)(h1:SE X b G m1 e1 f1)(h2:SE X b G m2 e2 f2)(hK:X.K=b.C.K:=by rfl):SC X b G .Eq e1 e2 (b2 eqQ f1 f2):=mX (r:=Sd b.C.K) (by rw[← hK];exact D5.or UV (Rj hr.units)) Ve h1 h2 (nq _)
theorem pA {j:Nat}(hr:DD j X.A)(h1:SE X b G m1 e1 f1)(h2:SE X b G m2 e2 f2)(hK:X.K=b.C.K:=by rfl):SC X b G .NotEq e1 e2 (b2 Kn f1 f2):=mX (r:=Sh b.C.K) (by rw[← hK];exact D5.or UW (Rk hr.units)) Vf h1 h2 (nq _)
theorem Vi (h1:SE X b G m1 e1 f1)(h2:SE X b G m2 e2 f2):SC X b G .GtE e1 e2 (b2 (wC λi j=>decide (j<=i)) f1 f2):=mX U0 R1 h1 h2 (nq _)
theorem Fd {j:Nat}(hr:DD j X.A)(h1:SE X b G m1 e1 f1)(h2:SE X b G m2 e2 f2)(hm:behindInMarks .In e2=false:=by rfl)(hK:X.K=b.C.K:=by rfl):SC X b G .In e1 e2 (b2 XU f1 f2):=
 mX (r:=Su b.C.K) (by rw[← hK];exact D5.or (D5.or G5 GC) (D5.or (Sq (o_ hr)) (Ss hr.units))) Vh h1 h2 hm
theorem zV {j:Nat}(hr:DD j X.A)(h1:SE X b G m1 e1 f1)(h2:SE X b G m2 e2 f2)(hm:behindInMarks .NotIn e2=false:=by rfl)(hK:X.K=b.C.K:=by rfl):SC X b G .NotIn e1 e2 (b2 ql f1 f2):=
 mX (r:=CK b.C.K) (by rw[← hK];exact D5.or (D5.or zx zy) (D5.or (Hr (o_ hr)) (Hq hr.units))) Kg h1 h2 hm
theorem yM (h1:SE X b G m1 e1 f1)(h2:SE X b G m2 e2 f2):SC X b G .Is e1 e2 (b2 LB f1 f2):=mX QW Sv h1 h2 (nq _)
theorem nP (h1:SE X b G m1 e1 f1)(h2:SE X b G m2 e2 f2):SC X b G .IsNot e1 e2 (b2 jL f1 f2):=mX M_ Ht h1 h2 (nq _)
theorem di (h:SC X b G op e1 e2 f):SE X b G .val (.Compare e1 [op] [e2] pos) f:=h.pe pos
theorem bQ (h:SC X b G op e1 e2 f):ST X b G (.Compare e1 [op] [e2] pos) (tV f):=h.pt pos
noncomputable def mD (g g':Int->Int->Bool)(f1 f2 f3:r6)(env:Env):Option PV:=(f1 env).bind λx=>(f2 env).bind λy=>match x,y with
 | .int i,.int j=>if g i j=true then (f3 env).bind λz=>wC g' y z else some (.bl false)
 | _,_=>none
@[simp] theorem VM (g g':Int->Int->Bool)(f1 f2 f3:r6)(env:Env):mD g g' f1 f2 f3 env=((f1 env).bind λx=>(f2 env).bind λy=>match x,y with
 | .int i,.int j=>if g i j=true then (f3 env).bind λz=>wC g' y z else some (.bl false)
 | _,_=>none):=id rfl
theorem Ce {g g':Int->Int->Bool}{f1 f2 f3:r6}{p:PV}(h:mD g g' f1 f2 f3 env=some p):
  ∃i j,f1 env=some (.int i)/\f2 env=some (.int j)/\((g i j=false/\p=.bl false)\/(g i j=true/\∃l,f3 env=some (.int l)/\p=.bl (g' j l))):=by
 unfold mD at h
 cases q1:f1 env with
 | none=>rw[q1] at h;cases h
 | some p1=>
  cases q2:f2 env with
  | none=>rw[q1,q2] at h;cases h
  | some p2=>
   rw[q1,q2] at h
   simp only[bE] at h
   split at h
   ·rename_i i j
    refine⟨i,j,rfl,rfl,?_⟩
    cases hg:g i j with
    | false=>
     rw[hg] at h
     cases h
     exact .inl ⟨rfl,rfl⟩
    | true=>
     rw[hg] at h
     simp only[kA] at h
     obtain⟨p3,q3,h⟩:=Option.bind_eq_some_iff.mp h
     cases p3 with
     | int l=>
      cases h
      exact .inr ⟨rfl,l,q3,rfl⟩
     | _=>cases h
   ·cases h
theorem nQ {op}(h:SE X b G m e f):SE X b G m (.BoolOp op [e] pos) f:=Qw h
theorem vq {rest:rl}(h1:SE X b G .val e1 f1)(h2:SE X b G .val (.BoolOp .And (e2::rest) pos) f2):SE X b G .val (.BoolOp .And (e1::e2::rest) pos) (pK f1 f2):=
 PE.imp (Qx h1 h2)<|by
  rintro σ H Q ⟨Ow,env,p,E,hf,k⟩
  unfold pK at hf
  cases q1:f1 env with
  | none=>rw[q1] at hf;cases hf
  | some p1=>
   rw[q1] at hf
   refine⟨Ow,env,p1,E,q1,λv1 H1 s1 r1=>?_⟩
   cases p1 with
   | bl c=>
    cases r1
    refine⟨c,rfl,?_⟩
    cases c with
    | true=>exact⟨Ow,env,p,E.up s1,hf,λv H' s r=>k v H' (s1.trans s) r⟩
    | false=>cases hf;exact k _ H1 s1 (.bl false)
   | _=>cases hf
theorem yN {rest:rl}(h1:SE X b G .val e1 f1)(h2:SE X b G .val (.BoolOp .Or (e2::rest) pos) f2):SE X b G .val (.BoolOp .Or (e1::e2::rest) pos) (SF f1 f2):=
 PE.imp (Uw h1 h2)<|by
  rintro σ H Q ⟨Ow,env,p,E,hf,k⟩
  unfold SF at hf
  cases q1:f1 env with
  | none=>rw[q1] at hf;cases hf
  | some p1=>
   rw[q1] at hf
   refine⟨Ow,env,p1,E,q1,λv1 H1 s1 r1=>?_⟩
   cases p1 with
   | bl c=>
    cases r1
    refine⟨c,rfl,?_⟩
    cases c with
    | false=>exact⟨Ow,env,p,E.up s1,hf,λv H' s r=>k v H' (s1.trans s) r⟩
    | true=>cases hf;exact k _ H1 s1 (.bl true)
   | _=>cases hf
theorem Sx (h1:SE X b G .val e1 f1):SE X b G .val (.UnaryOp .Not e1 pos) (Ez f1):=
 PE.imp (Qy h1)<|by
  rintro σ H Q ⟨Ow,env,p,E,hf,k⟩
  unfold Ez at hf
  cases q1:f1 env with
  | none=>rw[q1] at hf;cases hf
  | some p1=>
   rw[q1] at hf
   refine⟨Ow,env,p1,E,q1,λv1 H1 s1 r1=>?_⟩
   cases p1 with
   | bl c=>cases r1;cases hf;exact⟨c,rfl,k _ H1 s1 (.bl _)⟩
   | _=>cases hf
@[simp] noncomputable def nR:PV->Option PV
 | .int i=>some (.int (-i))
 | _=>none
theorem qm (h1:SE X b G m e1 f1):SE X b G .val (.UnaryOp .USub e1 pos) (b1 nR f1):=
 PE.imp (UT QV h1.bor) fun σ H Q h=>E_ (r:=rU λi=>.int (-i)) (λOw H v1 p1 p Q hn r1 e k=>by
  cases p1 <;> simp only[nR] at e <;> cases e
  exact⟨_,r1.int,k _ H (CS.refl _) (.int _)⟩) h
theorem d9 (h:SE X b G .val e f)(he:∀whole,isTrue e X.env whole=(do let v ← whole;standAt e.pos;holding [v] (truthy v)):=by intro _;rfl):ST X b G e (tV f):=
 PT.imp (Qs h he)<|by
  rintro σ H Q ⟨Ow,env,c,E,hf,k⟩
  unfold tV at hf
  cases q1:f env with
  | none=>rw[q1] at hf;cases hf
  | some p1=>
   rw[q1] at hf
   refine⟨Ow,env,p1,E,q1,λv1 H1 s1 r1=>?_⟩
   cases p1 with
   | bl d=>cases r1;cases hf;exact⟨_,rfl,k H1 s1⟩
   | _=>cases hf
theorem gU {g:Env->Option Bool}(h:ST X b G e g):ST X b G (.UnaryOp .Not e pos) (tN g):=
 PT.imp (Qv h)<|by
  rintro σ H Q ⟨Ow,env,c,E,hf,k⟩
  unfold tN at hf
  cases q1:g env with
  | none=>rw[q1] at hf;cases hf
  | some p1=>rw[q1] at hf;cases hf;exact⟨Ow,env,p1,E,q1,λH' s=>k H' s⟩
abbrev SW (X:Cx)(b:BX)(G:gV)(e:Expr)(g:Env->Option Bool):Prop:=PW X e (Yr b G g)
theorem PW.imp {t u:TT}(h:PW X e t)(i:∀ σ H Q,u σ H Q->t σ H Q):PW X e u:=λwh CI s σ H Q I q=>h wh CI s σ H Q I (i σ H Q q)
variable {g1 g2:Env->Option Bool}
theorem m_ (h:ST X b G e g1):SW X b G (.BoolOp .And [e] pos) g1:=M7 h
theorem zW (h:ST X b G e g1):SW X b G (.BoolOp .Or [e] pos) g1:=Qt h
theorem qp {rest:rl}(h1:ST X b G e1 g1)(h2:SW X b G (.BoolOp .And (e2::rest) pos) g2):SW X b G (.BoolOp .And (e1::e2::rest) pos) (tA g1 g2):=
 PW.imp (Qu h1 h2)<|by
  rintro σ H Q ⟨Ow,env,c,E,hf,k⟩
  unfold tA at hf
  cases q1:g1 env with
  | none=>rw[q1] at hf;cases hf
  | some p1=>
   rw[q1] at hf
   refine⟨Ow,env,p1,E,q1,λH1 s1=>?_⟩
   cases p1 with
   | true=>exact⟨Ow,env,c,E.up s1,hf,λH' s=>k H' (s1.trans s)⟩
   | false=>cases hf;exact k H1 s1
theorem yO {rest:rl}(h1:ST X b G e1 g1)(h2:SW X b G (.BoolOp .Or (e2::rest) pos) g2):SW X b G (.BoolOp .Or (e1::e2::rest) pos) (tO g1 g2):=
 PW.imp (Ut h1 h2)<|by
  rintro σ H Q ⟨Ow,env,c,E,hf,k⟩
  unfold tO at hf
  cases q1:g1 env with
  | none=>rw[q1] at hf;cases hf
  | some p1=>
   rw[q1] at hf
   refine⟨Ow,env,p1,E,q1,λH1 s1=>?_⟩
   cases p1 with
   | false=>exact⟨Ow,env,c,E.up s1,hf,λH' s=>k H' (s1.trans s)⟩
   | true=>cases hf;exact k H1 s1
theorem SW.st (h:SW X b G e g1):ST X b G e g1:=h _
theorem Fe {c:Expr}(hc:ST X b G c g1)(h1:SE X b G m e1 f1)(h2:SE X b G m e2 f2):SE X b G m (.IfExp c e1 e2 pos) (Ys g1 f1 f2):=
 PE.imp (JB hc h1 h2)<|by
  rintro σ H Q ⟨Ow,env,p,E,hf,k⟩
  unfold Ys at hf
  cases q1:g1 env with
  | none=>rw[q1] at hf;cases hf
  | some c=>
   rw[q1] at hf
   refine⟨Ow,env,c,E,q1,λH1 s1=>?_⟩
   cases c with
   | true=>exact⟨Ow,env,p,E.up s1,hf,λv H' s r=>k v H' (s1.trans s) (r.down s1)⟩
   | false=>exact⟨Ow,env,p,E.up s1,hf,λv H' s r=>k v H' (s1.trans s) (r.down s1)⟩
end
def ArA (b:BX)(Ow:Addr->Prop)(L:Bool)(H:Hp)(a:Addr):Prop:=Bs b Ow a\/(L=true/\∃vs,H a=some (.lst vs))
def tMA (b:BX)(G:gV)(L:Bool)(g:Env->Option (List PV)):TA:=fun σ H Q=>∃Ow env ps,ER b Ow G σ env H/\g env=some ps/\∀vs H',CS H H'->CM b.C (ArA b Ow L H') H' vs ps->Q vs H'
abbrev SA (X:Cx)(b:BX)(G:gV)(L:Bool)(es:rl)(g:Env->Option (List PV)):Prop:=PA X es (tMA b G L g)
variable {es:rl}
theorem PA.imp {t u:TA}(h:PA X es t)(i:∀ σ H Q,u σ H Q->t σ H Q):PA X es u:=λpos CI s σ H Q I q=>h pos CI s σ H Q I (i σ H Q q)
variable {ps:List PV}{r:List V->Hp->VK->Prop}{σ:St}{H1:Hp}{ro:Bool}{mi:List PV->Option PV}
section
variable {X:Cx}{b:BX}{G:gV}{m m1 m2:Md}{L:Bool}{e e1 e2:Expr}{es:rl}{f f1 f2:r6}{g:Env->Option (List PV)}{pos p:Pos}
theorem az:SA X b G L [] aB:=PA.imp cI<|by rintro σ H Q ⟨Ow,env,ps,E,hg,k⟩;cases hg;exact k [] H (CS.refl _) .nil
theorem aa (h1:SE X b G .val e f)(h2:SA X b G L es g)(hs:starEach (e::es) X.env=(false,eval e X.env)::starEach es X.env:=by rfl):SA X b G L (e::es) (ak f g):=
 PA.imp (bN h1 h2 hs)<|by
  rintro σ H Q ⟨Ow,env,ps,E,hg,k⟩
  unfold ak at hg
  cases q1:f env with
  | none=>rw[q1] at hg;cases hg
  | some p1=>
   rw[q1] at hg
   cases q2:g env with
   | none=>rw[q2] at hg;cases hg
   | some ps'=>
    rw[q2] at hg
    cases hg
    exact⟨Ow,env,p1,E,q1,λv H1 s1 r1=>⟨Ow,env,ps',E.up s1,q2,λvs H2 s2 r2=>k (v::vs) H2 (s1.trans s2) (.cons (Rep.ex (λa o h=>⟨λq=>⟨s2 _ _ h,.inl q⟩,λ_=>s2 _ _ h⟩) r1) r2)⟩⟩
theorem vy {b:BX}(h:CM b.C (ArA b Ow false H) H vs ps):CM b.C (Bs b Ow) H vs ps:=h.ex (cC λa o _ q=>q.elim id λz=>by cases z.1)
theorem bj (h:SA X b G false es g):SE X b G .own (.List es pos) (bO g):=PE.imp (zc h)<|by
 rintro σ H Q ⟨Ow,env,p,E,hf,k⟩
 unfold bO at hf
 cases q1:g env with
 | none=>rw[q1] at hf;cases hf
 | some ps=>
  rw[q1] at hf
  simp only[bE] at hf
  split at hf
  ·rename_i hl
   cases hf
   refine⟨Ow,env,ps,E,q1,λvs H1 s1 r=>⟨gb (by rw[r.length];exact hl),λq hq=>k _ _ (s1.trans (bh hq _)) (Res.down s1 (gf hq (vy r)))⟩⟩
  ·cases hf
theorem bx {x1}(h:SA X b G false es g):SE X b G .val (.Tuple es x1 pos) (bL g):=PE.imp (GJ h)<|by
 rintro σ H Q ⟨Ow,env,p,E,hf,k⟩
 unfold bL at hf
 cases q1:g env with
 | none=>rw[q1] at hf;cases hf
 | some ps=>
  rw[q1] at hf
  simp only[bE] at hf
  split at hf
  ·rename_i hl
   cases hf
   refine⟨Ow,env,ps,E,q1,λvs H1 s1 r=>⟨gb (by rw[r.length];exact hl),λq hq=>k _ _ (s1.trans (bh hq _)) (wD hq (vy r))⟩⟩
  ·cases hf
theorem Ff:SE X b G .own (.Dict [] [] pos) (bC (.dT [])):=PE.imp JQ<|by
 rintro σ H Q ⟨Ow,env,p,E,hf,k⟩ q hq
 cases hf
 exact k _ _ (bh hq _) ⟨q,rfl,hq,[],bc,.nil⟩
@[simp] noncomputable def C9:PV->PV->Option PV
 | .lst xs,.int i=>DE xs i
 | .EA xs,.int i=>DE xs i
 | .tup xs,.int i=>DE xs i
 | .He xs,.int i=>DE xs i
 | .str x,.int i=>if x.length<=1000000 then (DE x.cps.toList i).map λc=>.str ⟨#[c]⟩ else none
 | .dK kvs,y=>(keyOf y).bind λk=>dg kvs k
 | .dT kvs,.tup ys=>(DI ys).bind λk=>dg kvs k
 | _,_=>none
theorem CM.DE {C:MC}{A:Addr->Prop}{H:Hp}{vs:List V}{ps:List PV}{i:Int}{p:PV}(h:CM C A H vs ps)(e:DE ps i=some p):∃v,L2.DE vs i=some v/\Rep C A H v p:=by
 unfold L2.DE at e ⊢
 rw[h.length]
 cases q:Kk ps.length i with
 | none=>rw[q] at e;cases e
 | some j=>rw[q] at e;exact h.get e
theorem aN {j:Nat}(hr:DD j X.A)(h1:SE X b G m1 e1 f1)(h2:SE X b G m2 e2 f2)(hs:wg e2:=by intro _ _;rfl)(HA:JP e2:=by intro _ _;rfl)(hK:X.K=b.C.K:=by rfl):SE X b G .val (.Subscript e1 e2 pos) (b2 C9 f1 f2):=by
 refine PE.imp (PE.or (yI (r:=rIx b.C.K) (by rw[← hK];exact Ra) h1.bor h2.bor hs) (Nj (o_ hr) h1.bor h2.bor HA)) fun σ H Q h=>?_
 obtain⟨Ow,env,p,E,hf,k⟩:=h
 unfold b2 at hf
 cases q1:f1 env with
 | none=>rw[q1] at hf;cases hf
 | some p1=>
  rw[q1] at hf
  cases q2:f2 env with
  | none=>rw[q2] at hf;cases hf
  | some p2=>
   rw[q2] at hf
   simp only[bE] at hf
   have step:∀(R:V->V->Hp->VK->Prop),(∀H2 v1 v2,CU b.C (Bs b Ow) H2 v1 p1->CU b.C (Bs b Ow) H2 v2 p2->CS H H2->R v1 v2 H2 Q)->tM b G .bor f1 σ H λx H1=>tM b G .bor f2 σ H1 λy H2=>R x y H2 Q:=λR hR=>
    ⟨Ow,env,p1,E,q1,λv1 H1 s1 r1=>⟨Ow,env,p2,E.up s1,q2,λv2 H2 s2 r2=>hR H2 v1 v2 (Res.up (m:=.bor) r1 s2) r2 (s1.trans s2)⟩⟩
   unfold C9 at hf
   split at hf
   ·refine .inl (step _ λH2 v1 v2 r1 r2 s=>?_)
    obtain⟨a,vs,rfl,ha,ra⟩:=r1.lst
    obtain⟨v,hv,rv⟩:=ra.DE hf
    rw[r2.int]
    exact .inl ⟨a,vs,_,v,rfl,rfl,DL.of ha,hv,k v H2 s rv⟩
   ·refine .inl (step _ λH2 v1 v2 r1 r2 s=>?_)
    obtain⟨a,vs,rfl,ha,ra⟩:=r1.EA
    obtain⟨v,hv,rv⟩:=ra.DE hf
    rw[r2.int]
    exact .inl ⟨a,vs,_,v,rfl,rfl,ha,hv,k v H2 s rv⟩
   ·refine .inl (step _ λH2 v1 v2 r1 r2 s=>?_)
    obtain⟨a,vs,rfl,ha,ra⟩:=r1.tup
    obtain⟨v,hv,rv⟩:=ra.DE hf
    rw[r2.int]
    exact .inr (.inl ⟨a,vs,_,v,rfl,rfl,ha.sq,hv,k v H2 s rv⟩)
   ·refine .inl (step _ λH2 v1 v2 r1 r2 s=>?_)
    obtain⟨a,vs,rfl,ha,ra⟩:=r1.He
    obtain⟨v,hv,rv⟩:=ra.DE hf
    rw[r2.int]
    exact .inr (.inl ⟨a,vs,_,v,rfl,rfl,ha,hv,k v H2 s rv⟩)
   ·split at hf
    ·rename_i x i hx
     cases q3:DE x.cps.toList i with
     | none=>rw[q3] at hf;cases hf
     | some c=>
      rw[q3] at hf
      cases hf
      refine .inl (step _ λH2 v1 v2 r1 r2 s=>?_)
      rw[r1.str,r2.int]
      exact .inr (.inr ⟨x,i,c,rfl,rfl,gb hx,q3,k _ H2 s (.str _)⟩)
    ·cases hf
   ·rename_i kvs
    cases q3:keyOf p2 with
    | none=>rw[q3] at hf;cases hf
    | some ky=>
     rw[q3] at hf
     simp only[bE] at hf
     refine .inr (step (λx y H2 Q=>∃a v,x=.ref a/\ED X.K H2 a y (some v)/\Q v H2) λH2 v1 v2 r1 r2 s=>?_)
     obtain⟨a,kv,rfl,ha,ra⟩:=r1.dK
     rw[r2.key q3]
     unfold dg at hf
     rcases DV.val (k:=ky) ra with ⟨v,p',h1,h2,rv⟩ | ⟨h1,h2⟩
     ·rw[h2] at hf
      cases hf
      exact⟨a,v,rfl,by rw[← h1];exact ED.k ha,k v H2 s rv⟩
     ·rw[h2] at hf;cases hf
   ·rename_i kvs ys
    cases q3:DI ys with
    | none=>rw[q3] at hf;cases hf
    | some ky=>
     rw[q3] at hf
     simp only[bE] at hf
     refine .inr (step (λx y H2 Q=>∃a v,x=.ref a/\ED X.K H2 a y (some v)/\Q v H2) λH2 v1 v2 r1 r2 s=>?_)
     obtain⟨a,kv,rfl,ha,ra⟩:=r1.dT
     obtain⟨c,vs,rfl,hc,rc⟩:=r2.tup
     unfold dg at hf
     rcases DM.val (k:=ky) ra with ⟨v,p',h1,h2,rv⟩ | ⟨h1,h2⟩
     ·rw[h2] at hf
      cases hf
      exact⟨a,v,rfl,by rw[← h1,hK];exact ED.t ha (hc.key (rc.DI q3)),k v H2 s rv⟩
     ·rw[h2] at hf;cases hf
   ·cases hf
noncomputable def dC (xs:List PV)(lo hi:Option Int):List PV:=(xs.drop (HT.D9 xs.length 0 lo)).take (HT.D9 xs.length xs.length hi - HT.D9 xs.length 0 lo)
theorem CM.cut (h:CM C A H vs ps)(lo hi:Option Int):CM C A H (v8 vs lo hi) (dC ps lo hi):=by
 unfold v8 dC
 rw[h.length]
 exact(h.drop _).take _
noncomputable def oN (env:Env):Option (Option Int):=some none
@[simp] theorem XD (env:Env):oN env=(some none):=id rfl
noncomputable def oS (f:r6)(env:Env):Option (Option Int):=(f env).bind λp=>match p with | .int i=>some (some i) | _=>none
@[simp] theorem XF (f:r6)(env:Env):oS f env=((f env).bind λp=>match p with | .int i=>some (some i) | _=>none):=id rfl
def tMO (b:BX)(G:gV)(f:Env->Option (Option Int)):TO:=fun σ H Q=>∃Ow env o,ER b Ow G σ env H/\f env=some o/\∀H',CS H H'->Q o H'
theorem PO.imp {x:Option Expr}{t u:TO}(h:PO X x t)(i:∀ σ H Q,u σ H Q->t σ H Q):PO X x u:=by
 intro CI s σ H Q I q
 exact h CI s σ H Q I (i σ H Q q)
abbrev SO (X:Cx)(b:BX)(G:gV)(e:Option Expr)(f:Env->Option (Option Int)):Prop:=PO X e (tMO b G f)
theorem gW:SO X b G none oN:=PO.imp Nq<|by rintro σ H Q ⟨Ow,env,o,E,hf,k⟩;cases hf;exact k H (CS.refl _)
theorem cW (h:SE X b G m e f):SO X b G (some e) (oS f):=PO.imp (Nr h.bor)<|by
 rintro σ H Q ⟨Ow,env,o,E,hf,k⟩
 unfold oS at hf
 cases q1:f env with
 | none=>rw[q1] at hf;cases hf
 | some p1=>
  rw[q1] at hf
  refine⟨Ow,env,p1,E,q1,λv H1 s1 r1=>?_⟩
  have Kt:CU b.C (Bs b Ow) H1 v p1:=r1
  cases p1 <;> simp only[bE] at hf <;> cases hf
  exact⟨_,Kt.int,k H1 s1⟩
noncomputable def JA (f:r6)(lo hi:Env->Option (Option Int))(env:Env):Option PV:=(f env).bind λx=>(lo env).bind λl=>(hi env).bind λh=>match x with
 | .lst xs=>some (.lst (dC xs l h))
 | .EA xs=>some (.lst (dC xs l h))
 | .str x=>if x.length<=1000000 then some (.str (sH x l h)) else none
 | _=>none
@[simp] theorem Xc (f:r6)(lo hi:Env->Option (Option Int))(env:Env):JA f lo hi env=((f env).bind λx=>(lo env).bind λl=>(hi env).bind λh=>match x with
 | .lst xs=>some (.lst (dC xs l h))
 | .EA xs=>some (.lst (dC xs l h))
 | .str x=>if x.length<=1000000 then some (.str (sH x l h)) else none
 | _=>none):=id rfl
theorem iZ {lo hi:Option Expr}{p2:Pos}{fl fh:Env->Option (Option Int)}(h1:SE X b G m e f)(hl:SO X b G lo fl)(hh:SO X b G hi fh)(hK:X.K=b.C.K:=by rfl):SE X b G .val (.Subscript e (.Slice lo hi none p2) pos) (JA f fl fh):=by
 refine PE.imp (JV (r:=Rp b.C.K) (by rw[← hK];exact Rq) h1.bor hl hh) fun σ H Q ⟨Ow,env,p,E,hf,k⟩=>?_
 unfold JA at hf
 cases q1:f env with
 | none=>rw[q1] at hf;cases hf
 | some p1=>
  rw[q1] at hf
  cases q2:fl env with
  | none=>rw[q2] at hf;cases hf
  | some l=>
   rw[q2] at hf
   cases q3:fh env with
   | none=>rw[q3] at hf;cases hf
   | some h=>
    rw[q3] at hf
    refine⟨Ow,env,p1,E,q1,λv H1 s1 r1=>⟨Ow,env,l,E.up s1,q2,λH2 s2=>⟨Ow,env,h,E.up (s1.trans s2),q3,λH3 s3=>?_⟩⟩⟩
    have Kt:CU b.C (Bs b Ow) H3 v p1:=Res.up (m:=.bor) r1 (s2.trans s3)
    cases p1 <;> simp only[bE] at hf
    case lst xs=>
     cases hf
     obtain⟨a,vs,rfl,ha,ra⟩:=Kt.lst
     exact .inl ⟨a,vs,rfl,DL.of ha,λq hq=>k _ _ (s1.trans (s2.trans (s3.trans (bh hq _)))) (Res.val (m:=.own) E (λz=>nomatch z) (Res.down (s1.trans (s2.trans s3)) (gf hq (ra.cut l h))))⟩
    case EA xs=>
     cases hf
     obtain⟨a,vs,rfl,ha,ra⟩:=Kt.EA
     exact .inl ⟨a,vs,rfl,ha,λq hq=>k _ _ (s1.trans (s2.trans (s3.trans (bh hq _)))) (Res.val (m:=.own) E (λz=>nomatch z) (Res.down (s1.trans (s2.trans s3)) (gf hq (ra.cut l h))))⟩
    case str x=>
     split at hf
     ·rename_i hx
      cases hf
      exact .inr ⟨x,Kt.str,gb hx,k _ _ (s1.trans (s2.trans s3)) (.str _)⟩
     ·cases hf
    all_goals cases hf
theorem zX {id:String}{g:PV->Option PV}(hc:DU X (.builtin id) r)(hr:Op1 b m (λv H Q=>r [v] H Q) g)(hm:X.mg x=none)(hv:bootBuiltins x=some (.builtin id))(h:SE X b G m1 e f)
  (hg:Gl X x:=by rfl) (hn:x ≠ "__name__" := by decide) (Ic:(x == ("__debug__" : Str))=false:=by decide) (he:starEach [e] X.env=(false,eval e X.env)::starEach [] X.env:=by rfl):
  SE X b G m (.Call (.Name x p) [e] [] pos) (b1 g f):=
 PE.imp (zj hc hg hm hv (bN h.bor cI he) hn Ic he rfl) fun σ H Q h=>E_ hr h
theorem wF {id:String}{g:PV->Option PV}(hc:DU X (.type id) r)(hr:Op1 b m (λv H Q=>r [v] H Q) g)(hm:X.mg x=none)(hv:bootBuiltins x=some (.type id))(h:SE X b G m1 e f)
  (hg:Gl X x:=by rfl) (hn:x ≠ "__name__" := by decide) (Ic:(x == ("__debug__" : Str))=false:=by decide) (he:starEach [e] X.env=(false,eval e X.env)::starEach [] X.env:=by rfl):
  SE X b G m (.Call (.Name x p) [e] [] pos) (b1 g f):=
 PE.imp (GQ hc hg hm hv (bN h.bor cI he) hn Ic he rfl) fun σ H Q h=>E_ hr h
@[simp] noncomputable def C0:PV->Option PV
 | .lst xs=>some (.int xs.length)
 | .EA xs=>some (.int xs.length)
 | .tup xs=>some (.int xs.length)
 | .He xs=>some (.int xs.length)
 | .str x=>if x.length<=1000000 then some (.int x.length) else none
 | .dK kvs=>some (.int kvs.length)
 | _=>none
theorem DV.length {C:MC}{A:Addr->Prop}{H:Hp}:∀{vs:List (Key×V)}{ps:List (Key×PV)},DV C A H vs ps->vs.length=ps.length
 | _,_,.nil=>rfl
 | _,_,.cons _ t=>by simp[DV.length t]
theorem bf (hm:X.mg "len" = none)(h:SE X b G m1 e f)(hK:X.K=b.C.K:=by rfl)(hg:Gl X "len" := by rfl)(he:starEach [e] X.env=(false,eval e X.env)::starEach [] X.env:=by rfl):SE X b G .val (.Call (.Name "len" p) [e] [] pos) (b1 C0 f):=by
 refine zX (DU.or (DU.or zz zA) Ha) (λOw H v1 p1 p Q hn r1 e k=>?_) hm PySem.boot_len h hg (by decide) (by decide) he
 rw[hK]
 cases p1 <;> simp only[C0] at e
 case lst xs=>cases e;obtain⟨a,vs,rfl,ha,ra⟩:=r1.lst;exact .inl (.inl ⟨a,vs,rfl,.inl (DL.of ha),by rw[ra.length];exact k _ H (CS.refl _) (.int _)⟩)
 case EA xs=>cases e;obtain⟨a,vs,rfl,ha,ra⟩:=r1.EA;exact .inl (.inl ⟨a,vs,rfl,.inl ha,by rw[ra.length];exact k _ H (CS.refl _) (.int _)⟩)
 case tup xs=>cases e;obtain⟨a,vs,rfl,ha,ra⟩:=r1.tup;exact .inl (.inl ⟨a,vs,rfl,.inr ha.sq,by rw[ra.length];exact k _ H (CS.refl _) (.int _)⟩)
 case He xs=>cases e;obtain⟨a,vs,rfl,ha,ra⟩:=r1.He;exact .inl (.inl ⟨a,vs,rfl,.inr ha,by rw[ra.length];exact k _ H (CS.refl _) (.int _)⟩)
 case str x=>
  split at e
  ·rename_i hx
   cases e
   rw[r1.str]
   exact .inl (.inr ⟨x,rfl,gb hx,k _ H (CS.refl _) (.int _)⟩)
  ·cases e
 case dK kvs=>cases e;obtain⟨a,vs,rfl,ha,ra⟩:=r1.dK;exact .inr ⟨a,vs,rfl,ha,by rw[ra.length];exact k _ H (CS.refl _) (.int _)⟩
 all_goals cases e
noncomputable def Fg:Key->PV
 | .inl i=>.int i
 | .inr x=>.str x
@[simp] noncomputable def pB:PV->Option PV
 | .lst xs=>some (.lst xs)
 | .EA xs=>some (.lst xs)
 | .tup xs=>some (.lst xs)
 | .He xs=>some (.lst xs)
 | .dK kvs=>some (.lst (kvs.map λkv=>Fg kv.1))
 | _=>none
theorem Oc (k:Key):Rep C A H (kV k) (Fg k):=by cases k with | inl i=>exact .int i | inr x=>exact .str x
theorem DV.keys {C:MC}{A:Addr->Prop}{H:Hp}:∀{vs:List (Key×V)}{ps:List (Key×PV)},DV C A H vs ps->CM C A H (vs.map λkv=>kV kv.1) (ps.map λkv=>Fg kv.1)
 | _,_,.nil=>.nil
 | _,_,.cons (k:=k) _ t=>.cons (Oc k) (DV.keys t)
theorem nj (hm:X.mg "list" = none)(h:SE X b G m1 e f)(OG:X.calm=true:=by rfl)(hK:X.K=b.C.K:=by rfl)(hg:Gl X "list" := by rfl)(he:starEach [e] X.env=(false,eval e X.env)::starEach [] X.env:=by rfl):SE X b G .own (.Call (.Name "list" p) [e] [] pos) (b1 pB f):=by
 refine wF (DU.or zB (wj OG)) (λOw H v1 p1 p Q hn r1 e k=>?_) hm kl h hg (by decide) (by decide) he
 rw[hK]
 cases p1 <;> simp only[pB] at e <;> cases e
 case lst xs=>obtain⟨a,vs,rfl,ha,ra⟩:=r1.lst;exact .inl ⟨a,vs,rfl,.inl (DL.of ha),λl hl=>k _ _ (bh hl _) (gf hl ra)⟩
 case EA xs=>obtain⟨a,vs,rfl,ha,ra⟩:=r1.EA;exact .inl ⟨a,vs,rfl,.inl ha,λl hl=>k _ _ (bh hl _) (gf hl ra)⟩
 case tup xs=>obtain⟨a,vs,rfl,ha,ra⟩:=r1.tup;exact .inl ⟨a,vs,rfl,.inr ha.sq,λl hl=>k _ _ (bh hl _) (gf hl ra)⟩
 case He xs=>obtain⟨a,vs,rfl,ha,ra⟩:=r1.He;exact .inl ⟨a,vs,rfl,.inr ha,λl hl=>k _ _ (bh hl _) (gf hl ra)⟩
 case dK kvs=>obtain⟨a,vs,rfl,ha,ra⟩:=r1.dK;exact .inr ⟨a,vs,rfl,ha,λl hl=>k _ _ (bh hl _) (gf hl ra.keys)⟩
@[simp] noncomputable def Fi:PV->Option PV
 | .int i=>some (.int i)
 | .bl k=>some (.int (if k then 1 else 0))
 | _=>none
theorem Od (hm:X.mg "int" = none)(h:SE X b G m1 e f)(hg:Gl X "int" := by rfl)(he:starEach [e] X.env=(false,eval e X.env)::starEach [] X.env:=by rfl):SE X b G .val (.Call (.Name "int" p) [e] [] pos) (b1 Fi f):=by
 refine wF GD (λOw H v1 p1 p Q hn r1 e k=>?_) hm pT h hg (by decide) (by decide) he
 cases p1 <;> simp only[Fi] at e <;> cases e
 ·rw[r1.bl];exact .inr ⟨_,rfl,k _ H (CS.refl _) (.int _)⟩
 ·rw[r1.int];exact .inl ⟨_,rfl,k _ H (CS.refl _) (.int _)⟩
@[simp] noncomputable def bools:List PV->Option (List Bool)
 | []=>some []
 | .bl c::r=>(bools r).map (c::·)
 | _::_=>none
theorem CM.bools {C:MC}{A:Addr->Prop}{H:Hp}:∀{vs:List V}{ps:List PV}{bs:List Bool},CM C A H vs ps->bools ps=some bs->vs=bs.map V.bl
 | _,_,_,.nil,e=>by cases e;rfl
 | _,_,_,.cons (p:=p) (ps:=ps) h t,e=>by
  cases p <;> simp only[MR.bools] at e <;> first | cases e | skip
  rename_i c
  cases q:MR.bools ps with
  | none=>rw[q] at e;cases e
  | some bs=>rw[q] at e;cases e;cases h;rw[CM.bools t q];rfl
@[simp] noncomputable def zY:PV->Option PV
 | .lst xs=>(bools xs).map λbs=>.bl (bs.all id)
 | _=>none
theorem Hu (hm:X.mg "all" = none)(h:SE X b G m1 e f)(OG:X.calm=true:=by rfl)(hg:Gl X "all" := by rfl)(he:starEach [e] X.env=(false,eval e X.env)::starEach [] X.env:=by rfl):SE X b G .val (.Call (.Name "all" p) [e] [] pos) (b1 zY f):=by
 refine zX (J1 OG) (λOw H v1 p1 p Q hn r1 e k=>?_) hm PyProof.Rows.boot_all h hg (by decide) (by decide) he
 cases p1 <;> simp only[zY] at e <;> first | cases e | skip
 rename_i xs
 cases q:bools xs with
 | none=>rw[q] at e;cases e
 | some bs=>
  rw[q] at e
  cases e
  obtain⟨a,vs,rfl,ha,ra⟩:=r1.lst
  have hv:=ra.bools q
  subst hv
  exact⟨a,bs,rfl,DL.of ha,k _ H (CS.refl _) (.bl _)⟩
def Yt (C:MC)(A:Addr->Prop)(H:Hp)(ro:Bool)(H':Hp)(v:V)(p:PV):Prop:=match ro with
 | true=>∃a,v=.ref a/\H a=none/\Top C (λc=>(A c\/H c=none)/\c≠a) H' a p
 | false=>Rep C (λc=>A c\/H c=none) H' v p
def LD (C:MC)(m:List PV->Option PV)(ro:Bool):Sp:=λvs H Q _=>∃A ps p,CM C A H vs ps/\m ps=some p/\∀v H',CS H H'->Yt C A H ro H' v p->Q v H'
def SJ:Bool->Md
 | true=>.own
 | false=>.val
theorem Yt.res (E:ER b Ow G σ env H)(s:CS H H1)(r:Yt b.C (Bs b Ow) H1 ro H' v q):Res b Ow H H' (SJ ro) v q:=by
 cases ro with
 | true=>
  obtain⟨a,rfl,h,t⟩:=r
  exact⟨a,rfl,s.free h,t.ex (cC λc o _ z=>⟨z.1.elim id λw=>(E.up s).fresh w,z.2⟩) λo z=>z⟩
 | false=>exact Rep.ex (cC λc o _ z=>z.elim id λw=>(E.up s).fresh w) r
theorem CN {k j:Nat}{ps:rp}(c:MO X.prog X.w X.K X.mg X.base k x ps (LD b.C mi ro))(hr:DD j X.A)(ha:SA X b G false (e::es) g)(hle:k<=j:=by decide)(hg:Gl X x:=by rfl)
  (Ic:(x == ("__debug__" : Str))=false:=by decide) (he:starEach (e::es) X.env=(false,eval e X.env)::starEach es X.env:=by rfl) (FA:(backTo pos (starEach es X.env)).any (·.1)=false:=by rfl):
  SE X b G (SJ ro) (.Call (.Name x p) (e::es) [] pos) (aM mi g):=by
 refine PE.imp (Hd c hr ha hle hg Ic he FA) ?_
 rintro σ H Q ⟨Ow,env,q,E,hf,kk⟩
 unfold aM at hf
 cases q1:g env with
 | none=>rw[q1] at hf;cases hf
 | some qs=>
  rw[q1] at hf
  refine⟨Ow,env,qs,E,q1,λvs H1 s1 r=>?_⟩
  dsimp only
  rw[bq]
  exact⟨Bs b Ow,qs,q,vy r,hf,λv H' s' rr=>kk v H' (s1.trans s') (Yt.res E s1 rr)⟩
theorem aG {k j:Nat}{ps:rp}(c:MO X.prog X.w X.K X.mg X.base k x ps (LD b.C mi false))(hr:DD j X.A)(ha:SA X b G false (e::es) g)(hle:k<=j:=by decide)(hg:Gl X x:=by rfl)
  (Ic:(x == ("__debug__" : Str))=false:=by decide) (he:starEach (e::es) X.env=(false,eval e X.env)::starEach es X.env:=by rfl) (FA:(backTo pos (starEach es X.env)).any (·.1)=false:=by rfl):
  SE X b G .val (.Call (.Name x p) (e::es) [] pos) (aM mi g):=CN c hr ha hle hg Ic he FA
theorem Kh {k j:Nat}{ps:rp}(c:MO X.prog X.w X.K X.mg X.base k x ps (LD b.C mi true))(hr:DD j X.A)(ha:SA X b G false (e::es) g)(hle:k<=j:=by decide)(hg:Gl X x:=by rfl)
  (Ic:(x == ("__debug__" : Str))=false:=by decide) (he:starEach (e::es) X.env=(false,eval e X.env)::starEach es X.env:=by rfl) (FA:(backTo pos (starEach es X.env)).any (·.1)=false:=by rfl):
  SE X b G .own (.Call (.Name x p) (e::es) [] pos) (aM mi g):=CN c hr ha hle hg Ic he FA
end
section
variable {b:BX}{Ow:Addr->Prop}{G:gV}{σ:St}{env:Env}{H H':Hp}
theorem ER.set (E:ER b Ow G σ env H){i:Nat}{v:V}{p:PV}(hi:i∉G)(r:Rep b.C (Bs b Ow) H v p)(hx:b.fx i=none):ER b Ow G (σ.set i (some v)) (env.set i (some p)) H:=by
 refine⟨by rw[c8,c8];exact E.len,E.same,E.live,E.new,λj q e n=>?_,λj q e n=>?_,λj k a q q' e1 n1 s1 e2 n2 s2=>?_,λk w hw=>?_⟩
 ·by_cases hj:i=j
  ·subst hj
   rw[kC] at e
   split at e
   ·split at e
    ·rename_i hl
     have:=a9 (a9 e)
     subst this
     exact⟨v,by rw[ck (by rw[E.len];exact hl)],r⟩
    ·cases e
   ·exact absurd rfl ‹_›
  ·rw[ay hj] at e ⊢
   exact E.val j q e n
 ·have hj:i≠j:=λz=>hi (z▸n)
  rw[ay hj] at e ⊢
  exact E.own j q e n
 ·have hj:i≠j:=λz=>hi (z▸n1)
  have hk:i≠k:=λz=>hi (z▸n2)
  rw[ay hj] at e1 s1
  rw[ay hk] at e2 s2
  exact E.sep j k a q q' e1 n1 s1 e2 n2 s2
 ·by_cases hk:i=k
  ·subst hk;rw[hx] at hw;cases hw
  ·rw[ay hk];exact E.fix k w hw
theorem ER.setO (E:ER b Ow G σ env H){i:Nat}{p:PV}{H0:Hp}{G':gV}(hG:∀j,j∈G'↔(j∈G\/j=i))(s0:CS H0 H)(hn:H0 a=none)(hE0:ER b Ow G σ env H0)(t:Top b.C (λc=>Bs b Ow c/\c≠a) H a p)(hx:b.fx i=none):
  ER b (λc=>Ow c\/c=a) G' (σ.set i (some (.ref a))) (env.set i (some p)) H/\Ex (Bs b Ow) H0 (Bs b λc=>Ow c\/c=a) H:=by
 have hx0:Ex (Bs b Ow) H0 (Bs b λc=>Ow c\/c=a) H:=λc o h=>⟨λq=>⟨s0 _ _ h,λz=>z.elim q.1 (bI h hn),q.2⟩,λ_=>s0 _ _ h⟩
 have ht:Top b.C (Bs b λc=>Ow c\/c=a) H a p:=t.ex (cC λc o _ q=>⟨λz=>z.elim q.1.1 q.2,q.1.2⟩) λo z=>z
 refine⟨⟨by rw[c8,c8];exact E.len,E.same,λc w=>w.elim (E.live c) λz=>by subst z;obtain⟨o,h,_⟩:=t.live;exact⟨o,h⟩,λc w=>w.elim (E.new c) λz=>by subst z;exact hE0.same.free hn,λj q e n=>?_,λj q e n=>?_,λj k c q q' e1 n1 s1 e2 n2 s2=>?_,λk w hw=>?_⟩,hx0⟩
 ·have hj:i≠j:=λz=>n ((hG j).mpr (.inr z.symm))
  rw[ay hj] at e ⊢
  obtain⟨v,h1,h2⟩:=hE0.val j q e λz=>n ((hG j).mpr (.inl z))
  exact⟨v,h1,h2.ex hx0⟩
 ·by_cases hj:i=j
  ·subst hj
   rw[kC] at e
   split at e
   ·split at e
    ·rename_i hl
     have:=a9 (a9 e)
     subst this
     exact⟨a,by rw[ck (by rw[E.len];exact hl)],.inr rfl,ht⟩
    ·cases e
   ·exact absurd rfl ‹_›
  ·rw[ay hj] at e ⊢
   have nG:j∈G:=((hG j).mp n).elim id λz=>absurd z.symm hj
   obtain⟨c,h1,h2,h3⟩:=hE0.own j q e nG
   exact⟨c,h1,.inl h2,h3.ex hx0 λo z=>s0 _ _ z⟩
 ·have old:∀{j:Nat}{q:PV},i≠j->j∈G'->env[j]?=some (some q)->σ[j]?=some (some (.ref c))->c≠a:=λ{j q} hj n e s=>by
   have nG:j∈G:=((hG j).mp n).elim id λz=>absurd z.symm hj
   obtain⟨c',h1,h2,h3⟩:=hE0.own j q e nG
   rw[s] at h1
   cases h1
   obtain⟨o,h4,_⟩:=h3.live
   exact bI h4 hn
  by_cases hj:i=j
  ·by_cases hk:i=k
   ·exact hj.symm.trans hk
   ·subst hj
    rw[ay hk] at e2 s2
    have hl:i < σ.length:=by
     by_cases hl:i < σ.length
     ·exact hl
     ·rw[bo (by rw[c8];omega)] at s1;cases s1
    rw[ck hl] at s1
    cases s1
    exact absurd rfl (old hk n2 e2 s2)
  ·by_cases hk:i=k
   ·subst hk
    rw[ay hj] at e1 s1
    have hl:i < σ.length:=by
     by_cases hl:i < σ.length
     ·exact hl
     ·rw[bo (by rw[c8];omega)] at s2;cases s2
    rw[ck hl] at s2
    cases s2
    exact absurd rfl (old hj n1 e1 s1)
   ·rw[ay hj] at e1 s1
    rw[ay hk] at e2 s2
    have g1:j∈G:=((hG j).mp n1).elim id λz=>absurd z.symm hj
    have g2:k∈G:=((hG k).mp n2).elim id λz=>absurd z.symm hk
    exact E.sep j k c q q' e1 g1 s1 e2 g2 s2
 ·by_cases hk:i=k
  ·subst hk;rw[hx] at hw;cases hw
  ·rw[ay hk];exact E.fix k w hw
theorem ER.write (E:ER b Ow G σ env H){i:Nat}{p p':PV}{o':HO}(hi:i∈G)(hσ:σ[i]?=some (some (.ref a)))(he:env[i]?=some (some p))(hw:Ow a)(t:Top b.C (Bs b Ow) H a p)(t':Top b.C (Bs b Ow) (upd H a o') a p'):
  ER b Ow G σ (env.set i (some p')) (upd H a o')/\Ex (Bs b Ow) H (Bs b Ow) (upd H a o'):=by
 obtain⟨o,ho,hm⟩:=t.live
 have hx:Ex (Bs b Ow) H (Bs b Ow) (upd H a o'):=λc u h=>⟨λq=>⟨by rw[aP (λz:c=a=>q.1 (z▸hw))];exact h,q⟩,λm=>by
  have hc:c≠a:=λz=>by subst z;rw[ho] at h;cases h;rw[hm] at m;cases m
  rw[aP hc];exact h⟩
 refine⟨⟨by rw[c8];exact E.len,λc u h=>?_,λc w=>?_,E.new,λj q e n=>?_,λj q e n=>?_,λj k c q q' e1 n1 s1 e2 n2 s2=>?_,E.fix⟩,hx⟩
 ·have hc:c≠a:=bI h (E.new a hw)
  rw[aP hc];exact E.same c u h
 ·by_cases hc:c=a
  ·subst hc;exact⟨o',bc⟩
  ·obtain⟨u,h⟩:=E.live c w
   exact⟨u,by rw[aP hc];exact h⟩
 ·have hj:i≠j:=λz=>n (z▸hi)
  rw[ay hj] at e
  obtain⟨v,h1,h2⟩:=E.val j q e n
  exact⟨v,h1,h2.ex hx⟩
 ·by_cases hj:i=j
  ·subst hj
   rw[kC] at e
   split at e
   ·split at e
    ·have:=a9 (a9 e)
     subst this
     exact⟨a,hσ,hw,t'⟩
    ·cases e
   ·exact absurd rfl ‹_›
  ·rw[ay hj] at e
   obtain⟨c,h1,h2,h3⟩:=E.own j q e n
   have hc:c≠a:=λz=>by subst z;exact hj (E.sep i j c p q he hi hσ e n h1)
   exact⟨c,h1,h2,h3.ex hx λu z=>by rw[aP hc];exact z⟩
 ·have back:∀{j:Nat}{q:PV},(env.set i (some p'))[j]?=some (some q)->∃q,env[j]?=some (some q):=λ{j q} e=>by
   by_cases hj:i=j
   ·subst hj;exact⟨p,he⟩
   ·rw[ay hj] at e;exact⟨q,e⟩
  obtain⟨r1,e1'⟩:=back e1
  obtain⟨r2,So⟩:=back e2
  exact E.sep j k c r1 r2 e1' n1 s1 So n2 s2
theorem ER.weak {G':gV}(E:ER b Ow G σ env H)(h:∀j,j∈G'->j∈G):∃C6,ER b C6 G' σ env H/\Ex (Bs b Ow) H (Bs b C6) H:=by
 refine⟨λa=>Ow a/\∃j q,j∈G'/\env[j]?=some (some q)/\σ[j]?=some (some (.ref a)),?_⟩
 have hx:Ex (Bs b Ow) H (Bs b λa=>Ow a/\∃j q,j∈G'/\env[j]?=some (some q)/\σ[j]?=some (some (.ref a))) H:=cC λc o _ q=>⟨λz=>q.1 z.1,q.2⟩
 refine⟨⟨E.len,E.same,λa w=>E.live a w.1,λa w=>E.new a w.1,λi p e n=>?_,λi p e n=>?_,λi j a p q e1 n1 s1 e2 n2 s2=>E.sep i j a p q e1 (h i n1) s1 e2 (h j n2) s2,E.fix⟩,hx⟩
 ·by_cases hi:i∈G
  ·obtain⟨a,h1,h2,h3⟩:=E.own i p e hi
   refine⟨_,h1,(h3.ex hx λo z=>z).rep ⟨λz=>?_,.inr (E.new a h2)⟩⟩
   obtain⟨_,j,q,hj,e',s'⟩:=z
   have:=E.sep i j a p q e hi h1 e' (h j hj) s'
   subst this
   exact n hj
  ·obtain⟨v,h1,h2⟩:=E.val i p e hi
   exact⟨v,h1,h2.ex hx⟩
 ·obtain⟨a,h1,h2,h3⟩:=E.own i p e (h i n)
  exact⟨a,h1,⟨h2,i,p,n,e,h1⟩,h3.ex hx λo z=>z⟩
theorem ER.forget (E:ER b Ow G σ env H)(i:Nat):ER b Ow G σ (env.set i none) H:=by
 have back:∀{j:Nat}{q:PV},(env.set i none)[j]?=some (some q)->env[j]?=some (some q):=λ{j q} e=>by
  by_cases hj:i=j
  ·subst hj
   rw[kC] at e
   split at e
   ·split at e <;> cases e
   ·exact absurd rfl ‹_›
  ·rw[ay hj] at e;exact e
 exact⟨by rw[c8];exact E.len,E.same,E.live,E.new,λj q e n=>E.val j q (back e) n,λj q e n=>E.own j q (back e) n,λj k a q q' e1 n1 s1 e2 n2 s2=>E.sep j k a q q' (back e1) n1 s1 (back e2) n2 s2,E.fix⟩
@[simp] noncomputable def E8:List Nat->Env->Env
 | [],env=>env
 | i::r,env=>E8 r (env.set i none)
theorem ER.E8:∀{ds:gV}{env:Env},ER b Ow G σ env H->ER b Ow G σ (E8 ds env) H
 | [],_,E=>E
 | i::r,env,E=>ER.E8 (ds:=r) (E.forget i)
end
inductive Out where
 | nx (e:Env) | bk (e:Env) | ct (e:Env) | rt (p:PV)
def SR (b:BX)(Ow:Addr->Prop)(H:Hp)(G L:gV)(ro:Bool)(D:Ends):Out->Prop
 | .nx e=>∀C6 σ' H',ER b C6 G σ' e H'->Ex (Bs b Ow) H (Bs b C6) H'->D.nx σ' H'
 | .bk e=>∀C6 σ' H',ER b C6 L σ' e H'->Ex (Bs b Ow) H (Bs b C6) H'->D.bk σ' H'
 | .ct e=>∀C6 σ' H',ER b C6 L σ' e H'->Ex (Bs b Ow) H (Bs b C6) H'->D.ct σ' H'
 | .rt p=>∀v H',CS b.H0 H'->Yt b.C b.A b.H0 ro H' v p->D.rt v H'
def tS (b:BX)(G G' L:gV)(ro:Bool)(f:Env->Option Out):TS:=λD σ H=>∃Ow env out,ER b Ow G σ env H/\f env=some out/\SR b Ow H G' L ro D out
abbrev SS (X:Cx)(b:BX)(G G' L:gV)(ro:Bool)(st:Stmt)(f:Env->Option Out):Prop:=PS X st (tS b G G' L ro f)
abbrev Kx (X:Cx)(b:BX)(G G' L:gV)(ro:Bool)(st:rk)(f:Env->Option Out):Prop:=Fu X st (tS b G G' L ro f)
theorem Fu.imp {e:rk}{t u:TS}(h:Fu X e t)(i:∀D σ H,u D σ H->t D σ H):Fu X e u:=λCI s σ H D I q=>h CI s σ H D I (i D σ H q)
theorem PS.or {e:Stmt}{t u:TS}(h:PS X e t)(h':PS X e u):PS X e (λD σ H=>t D σ H\/u D σ H):=λCI s σ H D I q=>q.elim (h CI s σ H D I) (h' CI s σ H D I)
variable {G:gV}{D:Ends}
theorem SR.ex {Yu:Addr->Prop}{L:gV}{o:Out}(e:Ex (Bs b Ow) H (Bs b Yu) H1)(h:SR b Ow H G L ro D o):SR b Yu H1 G L ro D o:=by
 cases o with
 | nx e'=>exact λC6 σ' H' E x=>h C6 σ' H' E (e.trans x)
 | bk e'=>exact λC6 σ' H' E x=>h C6 σ' H' E (e.trans x)
 | ct e'=>exact λC6 σ' H' E x=>h C6 σ' H' E (e.trans x)
 | rt p=>exact h
noncomputable def EK (env:Env):Option Out:=some (.nx env)
@[simp] theorem Xd (env:Env):EK env=(some (.nx env)):=id rfl
noncomputable def Zh (env:Env):Option Out:=none
@[simp] theorem Xe (env:Env):Zh env=(none):=id rfl
noncomputable def aC (f g:Env->Option Out)(env:Env):Option Out:=(f env).bind λo=>match o with | .nx e=>g e | o=>some o
@[simp] theorem WK (f g:Env->Option Out)(env:Env):aC f g env=((f env).bind λo=>match o with | .nx e=>g e | o=>some o):=id rfl
noncomputable def aJ (i:Nat)(f:r6)(env:Env):Option Out:=(f env).bind λp=>some (.nx (env.set i (some p)))
@[simp] theorem WL (i:Nat)(f:r6)(env:Env):aJ i f env=((f env).bind λp=>some (.nx (env.set i (some p)))):=id rfl
noncomputable def aV (f:r6)(env:Env):Option Out:=(f env).bind λp=>some (.rt p)
@[simp] theorem WM (f:r6)(env:Env):aV f env=((f env).bind λp=>some (.rt p)):=id rfl
noncomputable def E7 (c:Env->Option Bool)(f g:Env->Option Out)(env:Env):Option Out:=(c env).bind λk=>if k=true then f env else g env
@[simp] theorem Xf (c:Env->Option Bool)(f g:Env->Option Out)(env:Env):E7 c f g env=((c env).bind λk=>if k=true then f env else g env):=id rfl
noncomputable def cA (g:PV->PV->Option PV)(i:Nat)(f:r6)(env:Env):Option Out:=(bV i env).bind λx=>(f env).bind λp=>(g x p).bind λy=>some (.nx (env.set i (some y)))
@[simp] theorem Wi (g:PV->PV->Option PV)(i:Nat)(f:r6)(env:Env):cA g i f env=((bV i env).bind λx=>(f env).bind λp=>(g x p).bind λy=>some (.nx (env.set i (some y)))):=id rfl
noncomputable def qQ (g:PV->PV->PV->Option PV)(i:Nat)(f h:r6)(env:Env):Option Out:=(bV i env).bind λx=>(f env).bind λp=>(h env).bind λq=>(g x p q).bind λy=>some (.nx (env.set i (some y)))
@[simp] theorem Wj (g:PV->PV->PV->Option PV)(i:Nat)(f h:r6)(env:Env):qQ g i f h env=((bV i env).bind λx=>(f env).bind λp=>(h env).bind λq=>(g x p q).bind λy=>some (.nx (env.set i (some y)))):=id rfl
@[simp] noncomputable def fB:PV->PV->Option PV
 | .lst xs,p=>if xs.length < 1000000 then some (.lst (xs++[p])) else none
 | _,_=>none
noncomputable def pM {κ:Type}[DecidableEq κ](kvs:List (κ×PV))(k:κ)(v:PV):List (κ×PV):=
 if (kvs.any λkv=>decide (kv.1=k))=true then kvs.map (λkv=>if kv.1=k then (kv.1,v) else kv) else kvs++[(k,v)]
@[simp] noncomputable def nU:PV->PV->PV->Option PV
 | .dK kvs,k,v=>(keyOf k).bind λk=>if kvs.length < 1000000 then some (.dK (pM kvs k v)) else none
 | .dT kvs,.tup ks,v=>(DI ks).bind λk=>if kvs.length < 1000000 then some (.dT (pM kvs k v)) else none
 | .lst xs,.int i,v=>(Kk xs.length i).map λj=>.lst (xs.set j v)
 | _,_,_=>none
variable {pos' p1 apos C5:Pos}{kv:List (List Key×V)}{tg:Expr}{fr:Bool}
section
variable {X:Cx}{b:BX}{G G' G1 L:gV}{ro:Bool}{st:Stmt}{rest:rk}{f g:Env->Option Out}{e e1 e2:Expr}{h h1 h2:r6}{m m1 m2:Md}{pos:Pos}
theorem b8:Kx X b G G L ro [] EK:=Fu.imp vZ<|by rintro D σ H ⟨Ow,env,o,E,hf,k⟩;cases hf;exact k Ow σ H E (Ex.refl _ _)
theorem aq (a:SS X b G G1 L ro st f)(c:Kx X b G1 G' L ro rest g):Kx X b G G' L ro (st::rest) (aC f g):=Fu.imp (ik a c)<|by
 rintro D σ H ⟨Ow,env,o,E,hf,k⟩
 unfold aC at hf
 cases q:f env with
 | none=>rw[q] at hf;cases hf
 | some o1=>
  rw[q] at hf
  refine⟨Ow,env,o1,E,q,?_⟩
  cases o1 with
  | nx e'=>exact λC6 σ' H' E' x=>⟨C6,e',o,E',hf,k.ex x⟩
  | bk e'=>cases hf;exact k
  | ct e'=>cases hf;exact k
  | rt p=>cases hf;exact k
theorem aF (a:SS X b G G' L ro st f):Kx X b G G' L ro [st] f:=qd a
theorem d_ (c:Kx X b G1 G' L ro rest g)(hs:∀j,j∈G1->j∈G:=by decide):Kx X b G G' L ro rest g:=Fu.imp c<|by
 rintro D σ H ⟨Ow,env,o,E,hf,k⟩
 obtain⟨C6,E',x⟩:=E.weak hs
 exact⟨C6,env,o,E',hf,k.ex x⟩
theorem SM:SS X b G G' L ro st Zh:=PS.imp JC<|by rintro D σ H ⟨Ow,env,o,E,hf,k⟩;cases hf
theorem ao {α β:Type}{x:Option α}{k:α->Option β}{y:β}(h:x.bind k=some y):∃a,x=some a/\k a=some y:=by
 cases x with
 | none=>cases h
 | some a=>exact⟨a,rfl,h⟩
theorem SN {i:Nat}(hi:i∉G)(hx:b.fx i=none)(q:tS b G G L ro (aJ i h) D σ H):tM b G .val h σ H λv H1=>D.nx (σ.set i (some v)) H1:=by
 obtain⟨Ow,env,o,E,hf,k⟩:=q
 obtain⟨p,hp,e⟩:=ao hf
 cases e
 exact⟨Ow,env,p,E,hp,λv H' s r=>k Ow _ H' ((E.up s).set hi r hx) (.of_same s)⟩
theorem Vj {i:Nat}(hG:∀j,j∈G'↔(j∈G\/j=i))(hx:b.fx i=none)(q:tS b G G' L ro (aJ i h) D σ H):tM b G .own h σ H λv H1=>D.nx (σ.set i (some v)) H1:=by
 obtain⟨Ow,env,o,E,hf,k⟩:=q
 obtain⟨p,hp,e⟩:=ao hf
 cases e
 refine⟨Ow,env,p,E,hp,?_⟩
 rintro v H' s ⟨a,ev,hn,t⟩
 subst ev
 obtain⟨E',x⟩:=(E.up s).setO hG s hn E t hx
 exact k _ _ H' E' x
theorem aO (i:Nat)(nd:X.N.Nodup)(he:SE X b G .val e h)(hG:i∉G:=by decide)(hx:b.fx i=none:=by first | rfl | assumption)(hi:X.N[i]?=some x:=by rfl)(hl:Loc X.env.scope x:=by first | exact gc rfl | exact eB rfl)
  (hs:swapsWith e (some (.Name x pos')) pos.line X.env=pure false:=by rfl) (hf:X.fn x=true\/X.env.scope.names.lookup x=some .local:=by first | exact .inl rfl | exact .inr rfl | assumption):SS X b G G L ro (.Assign [.Name x pos'] e pos) (aJ i h):=
 PS.imp (rZ nd hi hl he hs hf) λD σ H q=>SN hG hx q
theorem cB (i:Nat)(nd:X.N.Nodup)(he:SE X b G .own e h)(hG:i∈G:=by decide)(hx:b.fx i=none:=by first | rfl | assumption)(hi:X.N[i]?=some x:=by rfl)(hl:Loc X.env.scope x:=by first | exact gc rfl | exact eB rfl)
  (hs:swapsWith e (some (.Name x pos')) pos.line X.env=pure false:=by rfl) (hf:X.fn x=true\/X.env.scope.names.lookup x=some .local:=by first | exact .inl rfl | exact .inr rfl | assumption):SS X b G G L ro (.Assign [.Name x pos'] e pos) (aJ i h):=
 PS.imp (rZ nd hi hl he hs hf) λD σ H q=>Vj (λj=>⟨.inl,λz=>z.elim id λy=>y▸hG⟩) hx q
theorem aX (he:SE X b G .val e h):SS X b G G' L false (.Return (some e) pos) (aV h):=PS.imp (vd he)<|by
 rintro D σ H ⟨Ow,env,o,E,hf,k⟩
 obtain⟨p,hp,z1⟩:=ao hf
 clear hf
 cases z1
 exact⟨Ow,env,p,E,hp,λv H' s r=>k v H' (E.same.trans s) (Rep.ex (cC λc o _ q=>q.2) r)⟩
theorem SQ (i:Nat)(hi:i∈G:=by decide)(hN:X.N[i]?=some x:=by rfl)(hv:MB X.env.scope x:=by first | exact gc rfl | exact eB (gc rfl) | exact eB (eB rfl))(hd:(x == ("__debug__" : Str))=false:=by decide)
  (FH:(x == ("__classdict__" : Str))=false:=by decide):SS X b G G' L true (.Return (some (.Name x p1)) pos) (aV (bV i)):=PS.imp (vd (gR hN hv hd FH))<|by
 rintro D σ H ⟨Ow,env,o,E,hf,k⟩
 obtain⟨p,hp,z1⟩:=ao hf
 clear hf
 cases z1
 obtain⟨a,e,w,t⟩:=E.own i p (fc hp) hi
 exact⟨_,e,k _ H E.same ⟨a,rfl,E.new a w,t.ex (cC λc o _ q=>⟨q.2,λz=>q.1 (z▸w)⟩) λo z=>z⟩⟩
theorem dD {c:Expr}{k:Env->Option Bool}{sa sb:rk}(hc:ST X b G c k)(ha:Kx X b G G' L ro sa f)(hb:Kx X b G G' L ro sb g):SS X b G G' L ro (.If c sa sb pos) (E7 k f g):=PS.imp (Ek hc ha hb)<|by
 rintro D σ H ⟨Ow,env,o,E,hf,kk⟩
 obtain⟨p,hp,z1⟩:=ao hf
 clear hf
 refine⟨Ow,env,p,E,hp,λH' s=>?_⟩
 cases p with
 | true=>exact zG ⟨Ow,env,o,E.up s,z1,kk.ex (.of_same s)⟩
 | false=>exact zF ⟨Ow,env,o,E.up s,z1,kk.ex (.of_same s)⟩
theorem fO (i:Nat)(he:SE X b G .val e h)(hi:i∈G:=by decide)(hN:X.N[i]?=some x:=by rfl)(hv:MB X.env.scope x:=by first | exact gc rfl | exact eB (gc rfl) | exact eB (eB rfl))(hd:(x == ("__debug__" : Str))=false:=by decide)
  (FH:(x == ("__classdict__" : Str))=false:=by decide) (EI:attributeBase (.Name x p1) "append" X.env (eval (.Name x p1) X.env)=eval (.Name x p1) X.env:=by rfl)
  (Iq:((backTo C5 (starEach [e] X.env)).all (λx=>!x.1)&&(backToKw C5 (keywordEach [] X.env)).all (λx=>x.1.isSome)
   && decide ([e].length+([]:List Keyword).length+(if ([]:List Keyword).isEmpty then 0 else 1) < 30))=true:=by rfl)
  (EJ:(apos.endLine == C5.line)=true:=by rfl) (hs:starEach [e] X.env=(false,eval e X.env)::starEach [] X.env:=by rfl):
  SS X b G G L ro (.Expr (.Call (.Attribute (.Name x p1) "append" apos) [e] [] C5) pos) (cA fB i h):=
 PS.imp (m8 (qM fb gS gX jY (gR hN hv hd FH) (bN he cI hs) EI Iq EJ hs rfl))<|by
  rintro D σ H ⟨Ow,env,o,E,hf,k⟩
  obtain⟨px,NL,z1⟩:=ao hf
  clear hf
  obtain⟨p,hp,z2⟩:=ao z1
  clear z1
  obtain⟨y,hy,z3⟩:=ao z2
  clear z2
  cases z3
  obtain⟨a,ea,w,t⟩:=E.own i px (fc NL) hi
  cases px <;> simp only[fB] at hy <;> first | cases hy | skip
  rename_i xs
  split at hy
  ·rename_i hl
   cases hy
   obtain⟨vs,ha,ra⟩:=id t
   refine⟨_,ea,.inl ⟨rfl,_,DL.of ha⟩,Ow,env,p,E,hp,λv H' s r=>?_⟩
   refine⟨a,vs,v,rfl,rfl,s _ _ ha,iT (by rw[ra.length];omega),?_⟩
   have OH:CM b.C (Bs b Ow) (upd H' a (.lst (vs++[v]))) (vs++[v]) (xs++[p]):=by
    refine(ra.ex (.of_same s)).append (.cons r .nil) |>.ex λc o h=>⟨λq=>⟨by rw[aP (λz:c=a=>q.1 (z▸w))];exact h,q⟩,λm=>?_⟩
    have hc:c≠a:=λz=>by subst z;rw[s _ _ ha] at h;cases h;cases m
    rw[aP hc];exact h
   obtain⟨E',x⟩:=(E.up s).write hi ea (fc NL) w (t.ex (.of_same s) λo z=>s _ _ z) (o':=.lst (vs++[v])) (p':=.lst (xs++[p])) ⟨_,bc,OH⟩
   exact k Ow σ _ E' ((Ex.of_same s).trans x)
  ·cases hy
theorem DV.put {k:Key}{p:PV}(r:Rep C A H v p){kv:List (Key×V)}{kvs:List (Key×PV)}(t:DV C A H kv kvs):DV C A H (putK kv k v) (pM kvs k p):=by
 have XW:∀{kv:List (Key×V)}{kvs:List (Key×PV)},DV C A H kv kvs->(kv.any λx=>decide (x.1=k))=(kvs.any λx=>decide (x.1=k)):=by
  intro kv kvs t
  induction kv generalizing kvs with
  | nil=>cases t;rfl
  | cons x l ih=>cases t with | cons h t=>rw[fA,fA,ih t]
 have XX:∀{kv:List (Key×V)}{kvs:List (Key×PV)},DV C A H kv kvs->DV C A H (kv.map λx=>if x.1=k then (x.1,v) else x) (kvs.map λx=>if x.1=k then (x.1,p) else x):=by
  intro kv kvs t
  induction kv generalizing kvs with
  | nil=>cases t;exact .nil
  | cons x l ih=>
   cases t with
   | cons h t=>
    rw[ap,ap]
    rename_i k' v' p' ps'
    by_cases e:k'=k
    ·simp only[e,kA];exact .cons r (ih t)
    ·simp only[e,ib];exact .cons h (ih t)
 have XY:∀{kv:List (Key×V)}{kvs:List (Key×PV)},DV C A H kv kvs->DV C A H (kv++[(k,v)]) (kvs++[(k,p)]):=by
  intro kv kvs t
  induction kv generalizing kvs with
  | nil=>cases t;exact .cons r .nil
  | cons x l ih=>cases t with | cons h t=>exact .cons h (ih t)
 unfold putK pM
 rw[XW t]
 split
 ·exact XX t
 ·exact XY t
theorem DM.put {k:List Key}{p:PV}(r:Rep C A H v p){kvs:List (List Key×PV)}(t:DM C A H kv kvs):DM C A H (putK kv k v) (pM kvs k p):=by
 have XW:∀{kv:List (List Key×V)}{kvs:List (List Key×PV)},DM C A H kv kvs->(kv.any λx=>decide (x.1=k))=(kvs.any λx=>decide (x.1=k)):=by
  intro kv kvs t
  induction kv generalizing kvs with
  | nil=>cases t;rfl
  | cons x l ih=>cases t with | cons h t=>rw[fA,fA,ih t]
 have XX:∀{kv:List (List Key×V)}{kvs:List (List Key×PV)},DM C A H kv kvs->DM C A H (kv.map λx=>if x.1=k then (x.1,v) else x) (kvs.map λx=>if x.1=k then (x.1,p) else x):=by
  intro kv kvs t
  induction kv generalizing kvs with
  | nil=>cases t;exact .nil
  | cons x l ih=>
   cases t with
   | cons h t=>
    rw[ap,ap]
    rename_i k' v' p' ps'
    by_cases e:k'=k
    ·simp only[e,kA];exact .cons r (ih t)
    ·simp only[e,ib];exact .cons h (ih t)
 have XY:∀{kv:List (List Key×V)}{kvs:List (List Key×PV)},DM C A H kv kvs->DM C A H (kv++[(k,v)]) (kvs++[(k,p)]):=by
  intro kv kvs t
  induction kv generalizing kvs with
  | nil=>cases t;exact .cons r .nil
  | cons x l ih=>cases t with | cons h t=>exact .cons h (ih t)
 unfold putK pM
 rw[XW t]
 split
 ·exact XX t
 ·exact XY t
theorem DM.length {C:MC}{A:Addr->Prop}{H:Hp}:∀{vs:List (List Key×V)}{ps:List (List Key×PV)},DM C A H vs ps->vs.length=ps.length
 | _,_,.nil=>rfl
 | _,_,.cons _ t=>by simp[DM.length t]
theorem qR {o o':HO}(w:Ow a)(ha:H a=some o)(hm:Ey o=true):Ex (Bs b Ow) H (Bs b Ow) (upd H a o'):=λc u h=>⟨λq=>⟨by rw[aP (λz:c=a=>q.1 (z▸w))];exact h,q⟩,λm=>by
 have hc:c≠a:=λz=>by subst z;rw[ha] at h;cases h;rw[hm] at m;cases m
 rw[aP hc];exact h⟩
theorem vz (i:Nat){p2:Pos}{j:Nat}(hr:DD j X.A)(hk:SE X b G .val e1 h1)(QO:SE X b G .val e2 h2)(hi:i∈G:=by decide)(hN:X.N[i]?=some x:=by rfl)(hv:MB X.env.scope x:=by first | exact gc rfl | exact eB (gc rfl) | exact eB (eB rfl))(hd:(x == ("__debug__" : Str))=false:=by decide)
  (FH:(x == ("__classdict__" : Str))=false:=by decide) (hs:swapsWith e2 (some (.Subscript (.Name x p1) e1 p2)) pos.line X.env=pure false:=by rfl) (Fh:swapsWithSole [.Subscript (.Name x p1) e1 p2] e2 pos.line X.env=pure false:=by rfl) (hw:swappedStores [.Subscript (.Name x p1) e1 p2] e2 X.env=pure none:=by rfl)
  (ha1:(assignEach [.Subscript (.Name x p1) e1 p2] X.env).map (·.2)=[assign (.Subscript (.Name x p1) e1 p2) X.env]:=by rfl)
  (ha:∀v,assign (.Subscript (.Name x p1) e1 p2) X.env v=(do
   let ov ← holding [v] (eval (.Name x p1) X.env)
   let iv ← holding [v,ov] (eval e1 X.env)
   standAt p2
   holding [v,ov,iv] (setItem ov iv v)
   release [v,ov,iv] []):=by intro _;rfl) (hK:X.K=b.C.K:=by rfl):SS X b G G L ro (.Assign [.Subscript (.Name x p1) e1 p2] e2 pos) (qQ nU i h1 h2):=by
 refine PS.imp (PS.or (Nk (o_ hr) (gR hN hv hd FH) hk QO hs) (Gs QO (QF (gR hN hv hd FH) hk set_list ha) Fh hw ha1)) ?_
 rintro D σ H ⟨Ow,env,o,E,hf,k⟩
 obtain⟨px,NL,z1⟩:=ao hf
 clear hf
 obtain⟨pk,QU,z2⟩:=ao z1
 clear z1
 obtain⟨pv,hpv,z3⟩:=ao z2
 clear z2
 obtain⟨y,hy,z4⟩:=ao z3
 clear z3
 cases z4
 obtain⟨a,ea,w,t⟩:=E.own i px (fc NL) hi
 have fin:∀{H2:Hp}{o':HO},CS H H2->Top b.C (Bs b Ow) (upd H2 a o') a y->D.nx σ (upd H2 a o'):=λ{H2 o'} s t'=>by
  obtain⟨E',x⟩:=(E.up s).write hi ea (fc NL) w (t.ex (.of_same s) λo z=>s _ _ z) t'
  exact k Ow σ _ E' ((Ex.of_same s).trans x)
 unfold nU at hy
 split at hy
 ·obtain⟨ky,hky,hy⟩:=ao hy
  split at hy
  ·rename_i hl
   cases hy
   obtain⟨kv,ha,ra⟩:=id t
   refine .inl ⟨Ow,env,pv,E,hpv,λv H1 s1 r1=>⟨_,ea,Ow,env,pk,E.up s1,QU,λu H2 s2 r2=>?_⟩⟩
   have s:=s1.trans s2
   have eu:=CU.key (.inl r2) hky
   subst eu
   refine⟨a,_,rfl,KP.k (s _ _ ha) (iT (by rw[ra.length];omega)),fin s ⟨_,bc,?_⟩⟩
   exact(DV.put (k:=ky) (Rep.ex (.of_same s2) r1) (ra.ex (.of_same s))).ex (qR w (s _ _ ha) rfl)
  ·cases hy
 ·obtain⟨ky,hky,hy⟩:=ao hy
  split at hy
  ·rename_i hl
   cases hy
   obtain⟨kv,ha,ra⟩:=id t
   refine .inl ⟨Ow,env,pv,E,hpv,λv H1 s1 r1=>⟨_,ea,Ow,env,_,E.up s1,QU,λu H2 s2 r2=>?_⟩⟩
   have s:=s1.trans s2
   obtain⟨c,us,rfl,hc,rc⟩:=CU.tup (.inl r2)
   refine⟨a,_,rfl,KP.t (s _ _ ha) (by rw[hK];exact hc.key (rc.DI hky)) (iT (by rw[ra.length];omega)),fin s ⟨_,bc,?_⟩⟩
   exact(DM.put (k:=ky) (Rep.ex (.of_same s2) r1) (ra.ex (.of_same s))).ex (qR w (s _ _ ha) rfl)
  ·cases hy
 ·rename_i xs n
  cases q:Kk xs.length n with
  | none=>rw[q] at hy;cases hy
  | some jj=>
   rw[q] at hy
   cases hy
   obtain⟨vs,ha,ra⟩:=id t
   refine .inr ⟨Ow,env,pv,E,hpv,λv H1 s1 r1=>⟨_,ea,Ow,env,_,E.up s1,QU,λu H2 s2 r2=>?_⟩⟩
   have s:=s1.trans s2
   have eu:=CU.int (.inl r2)
   subst eu
   refine⟨a,vs,n,jj,rfl,rfl,s _ _ ha,by rw[ra.length];exact q,fin s ⟨_,bc,?_⟩⟩
   exact(CM.set (Rep.ex (.of_same s2) r1) jj (ra.ex (.of_same s))).ex (qR w (s _ _ ha) rfl)
 ·cases hy
def IW (b:BX)(Ow:Addr->Prop)(fr:Bool)(H1:Hp)(J:It)(ps:List PV):Prop:=∀C6 H,(fr=false->CS H1 H)->Ex (Bs b Ow) H1 (Bs b C6) H->(∀a,H a=none->Bs b C6 a)->
 (∀i p,ps[i]?=some p->J.go i H/\∀x H',J.yld i H x H'->CS H H'/\Rep b.C (Bs b C6) H' x p)/\J.stop ps.length H
def tMI (b:BX)(G:gV)(fr:Bool)(g:Env->Option (List PV)):TI:=fun σ H R=>∃Ow env ps,ER b Ow G σ env H/\g env=some ps/\∀J H1,CS H H1->IW b Ow fr H1 J ps->R J H1
abbrev SI (X:Cx)(b:BX)(G:gV)(fr:Bool)(tg it:Expr)(g:Env->Option (List PV)):Prop:=PI X tg it (tMI b G fr g)
theorem PI.imp {it:Expr}{t u:TI}(h:PI X tg it t)(i:∀ σ H R,u σ H R->t σ H R):PI X tg it u:=λCI s σ H R I q=>h CI s σ H R I (i σ H R q)
theorem PI.or {it:Expr}{t u:TI}(h:PI X tg it t)(h':PI X tg it u):PI X tg it (fun σ H R=>t σ H R\/u σ H R):=λCI s σ H R I q=>q.elim (h CI s σ H R I) (h' CI s σ H R I)
noncomputable def MX (x:Str):List PV:=x.cps.toList.map λc=>.str ⟨#[c]⟩
@[simp] noncomputable def UN:PV->Option (List PV)
 | .lst xs=>some xs
 | .EA xs=>some xs
 | .tup xs=>some xs
 | .He xs=>some xs
 | .str x=>some (MX x)
 | _=>none
noncomputable def iV (f:r6)(env:Env):Option (List PV):=(f env).bind UN
@[simp] theorem XH (f:r6)(env:Env):iV f env=((f env).bind UN):=id rfl
theorem wG {xs:List PV}(hq:∀C6 H,(fr=false->CS H1 H)->Ex (Bs b Ow) H1 (Bs b C6) H->DL b.C.K H a vs/\CM b.C (Bs b C6) H vs xs):IW b Ow fr H1 (Itl b.C.K a) xs:=by
 intro C6 H h0 h1 hn
 obtain⟨q,r⟩:=hq C6 H h0 h1
 refine⟨λi p hp=>?_,⟨vs,q,by rw[r.length];exact aT _⟩⟩
 obtain⟨v,hv,rv⟩:=r.get hp
 refine⟨⟨vs,v,q,hv⟩,λx H' y=>?_⟩
 obtain⟨e,y⟩:=y
 subst e
 have e2:=y vs q
 rw[hv] at e2
 cases e2
 exact⟨CS.refl _,rv⟩
theorem Hv {xs:List PV}(hq:∀C6 H,(fr=false->CS H1 H)->Ex (Bs b Ow) H1 (Bs b C6) H->FI b.C.K H a vs/\CM b.C (Bs b C6) H vs xs):IW b Ow fr H1 (Itt b.C.K a) xs:=by
 intro C6 H h0 h1 hn
 obtain⟨q,r⟩:=hq C6 H h0 h1
 refine⟨λi p hp=>?_,⟨vs,q,by rw[r.length];exact aT _⟩⟩
 obtain⟨v,hv,rv⟩:=r.get hp
 refine⟨⟨vs,v,q,hv⟩,λx H' y=>?_⟩
 obtain⟨e,y⟩:=y
 subst e
 have e2:=y vs q
 rw[hv] at e2
 cases e2
 exact⟨CS.refl _,rv⟩
theorem SX:IW b Ow fr H1 (Its x) (MX x):=by
 intro C6 H h0 h1 hn
 refine⟨λi p hp=>?_,by show (MX x).length=x.cps.size;unfold MX;rw[af,eS]⟩
 unfold MX at hp
 rw[ar] at hp
 cases q:x.cps.toList[i]? with
 | none=>rw[q] at hp;cases hp
 | some c=>
  rw[q] at hp
  cases hp
  have hc:x.cps[i]?=some c:=by rw[← ku];exact q
  refine⟨(Array.getElem?_eq_some_iff.mp hc).1,λv H' y=>?_⟩
  obtain⟨e,c',h',ev⟩:=y
  subst e
  rw[hc] at h'
  cases h'
  subst ev
  exact⟨CS.refl _,.str _⟩
theorem jf (he:SE X b G m e h)(hm:fr=true->m≠.bor:=by simp)(hK:X.K=b.C.K:=by rfl):SI X b G fr tg e (iV h):=by
 have hPI:=PI.or (tg:=tg) (PI.or (M8 he) (QH he)) (Ri he)
 refine PI.imp hPI ?_
 rintro σ H R ⟨Ow,env,ps,E,hg,k⟩
 rw[hK]
 obtain⟨p,hp,FD⟩:=ao hg
 have keep:∀{H1 C6 H2}{v:V},CS H H1->Res b Ow H H1 m v p->(fr=false->CS H1 H2)->Ex (Bs b Ow) H1 (Bs b C6) H2->CU b.C (Bs b C6) H2 v p:=λ{H1 C6 H2 v} s r h0 h1=>by
  cases fr with
  | false=>exact CU.ex h1 (h0 rfl) r.bor
  | true=>exact .inl (Rep.ex h1 (r.val E (hm rfl)))
 unfold UN at FD
 split at FD
 ·cases FD
  refine .inl (.inl ⟨Ow,env,_,E,hp,λv H1 s r=>?_⟩)
  have r1:CU b.C (Bs b Ow) H1 v (.lst _):=r.bor
  obtain⟨a,vs,rfl,ha,ra⟩:=r1.lst
  refine⟨a,rfl,⟨vs,DL.of ha⟩,k _ _ s (wG (vs:=vs) λC6 H2 h0 h1=>?_)⟩
  obtain⟨a',Zi,e',ha',OH⟩:=(keep s r h0 h1).lst
  cases e'
  have:H2 a=some (.lst vs):=by
   cases fr with
   | false=>exact h0 rfl _ _ ha
   | true=>
    have rv:Rep b.C (Bs b Ow) H1 (.ref a) (.lst _):=r.val E (hm rfl)
    cases rv with
    | lst q1 q2 q3=>rw[ha] at q1;cases q1;exact((h1 _ _ ha).1 q2).1
  rw[ha'] at this
  cases this
  exact⟨DL.of ha',OH⟩
 ·cases FD
  refine .inl (.inl ⟨Ow,env,_,E,hp,λv H1 s r=>?_⟩)
  have r1:Rep b.C (Bs b Ow) H1 v (.EA _):=(by rcases r.bor with z | ⟨_,_,z⟩;exact z;exact z.elim)
  cases r1 with
  | LW q1 q3=>exact⟨_,rfl,⟨_,.inl (.inr ⟨_,q1⟩)⟩,k _ _ s (wG λC6 H2 h0 h1=>⟨.inl (.inr ⟨_,(h1 _ _ q1).2 rfl⟩),q3.ex h1⟩)⟩
  | lstK q1 q3=>exact⟨_,rfl,⟨_,Yq q1⟩,k _ _ s (wG λC6 H2 h0 h1=>⟨Yq q1,q3.ex h1⟩)⟩
 ·cases FD
  refine .inl (.inr ⟨Ow,env,_,E,hp,λv H1 s r=>?_⟩)
  have r1:CU b.C (Bs b Ow) H1 v (.tup _):=r.bor
  obtain⟨a,vs,rfl,ha,ra⟩:=r1.tup
  exact⟨a,rfl,⟨vs,ha.sq⟩,k _ _ s (Hv (vs:=vs) λC6 H2 h0 h1=>⟨(ha.ex h1).sq,ra.ex h1⟩)⟩
 ·cases FD
  refine .inl (.inr ⟨Ow,env,_,E,hp,λv H1 s r=>?_⟩)
  have r1:CU b.C (Bs b Ow) H1 v (.He _):=r.bor
  rcases r1 with r1 | ⟨_,_,t⟩
  ·cases r1 with
   | tupK q1 q3=>exact⟨_,rfl,⟨_,uD q1⟩,k _ _ s (Hv λC6 H2 h0 h1=>⟨uD q1,q3.ex h1⟩)⟩
  ·exact t.elim
 ·cases FD
  refine .inr ⟨Ow,env,_,E,hp,λv H1 s r=>?_⟩
  have r1:CU b.C (Bs b Ow) H1 v (.str _):=r.bor
  exact⟨_,r1.str,k _ _ s SX⟩
 ·cases FD
noncomputable def JE (i:Int):Bool:=@decide (-4611686018427387904<=i/\i < 4611686018427387904) (Classical.propDecidable _)
theorem jg {i:Int}(h:-4611686018427387904<=i)(h':i < 4611686018427387904):JE i=true:=@bP _ (Classical.propDecidable _) ⟨h,h'⟩
theorem qt {i:Int}(h:JE i=true):-(2 ^ 62)<=i/\i < 2 ^ 62:=by
 simp only[JE,eD] at h
 exact h
noncomputable def dj (lo hi:Int):List PV:=(List.range (hi - lo).toNat).map λi=>.int (lo+(i:Nat))
noncomputable def LF (f:r6)(env:Env):Option (List PV):=(f env).bind λp=>match p with
 | .int j=>if JE j=true then some (dj 0 j) else none
 | _=>none
@[simp] theorem Xg (f:r6)(env:Env):LF f env=((f env).bind λp=>match p with
 | .int j=>if JE j=true then some (dj 0 j) else none
 | _=>none):=id rfl
noncomputable def iR2 (f g:r6)(env:Env):Option (List PV):=(f env).bind λp=>(g env).bind λq=>match p,q with
 | .int i,.int j=>if (JE i&&JE j)=true then some (dj i j) else none
 | _,_=>none
@[simp] theorem Xh (f g:r6)(env:Env):iR2 f g env=((f env).bind λp=>(g env).bind λq=>match p,q with
 | .int i,.int j=>if (JE i&&JE j)=true then some (dj i j) else none
 | _,_=>none):=id rfl
theorem Hw {lo hi:Int}:IW b Ow fr H1 (Yj lo (hi - lo).toNat) (dj lo hi):=by
 intro C6 H h0 h1 hn
 have hl:(dj lo hi).length=(hi - lo).toNat:=by unfold dj;rw[af,i8]
 refine⟨λi p hp=>?_,by show (hi - lo).toNat<=(dj lo hi).length;rw[hl];exact aT _⟩
 have JJ:i < (hi - lo).toNat:=by rw[← hl];exact(aw.mp hp).1
 refine⟨JJ,λx H' y=>?_⟩
 obtain⟨e,ex⟩:=y
 subst e ex
 unfold dj at hp
 rw[ar,gu JJ] at hp
 cases hp
 exact⟨CS.refl _,.int _⟩
theorem mY {p pos:Pos}(hm:X.mg "range" = none)(he:SE X b G m e h)(hg:Gl X "range" := by rfl)(hs:starEach [e] X.env=[(false,eval e X.env)]:=by rfl)(HA:starEach [e] X.env=(false,eval e X.env)::starEach [] X.env:=by rfl):SI X b G fr tg (.Call (.Name "range" p) [e] [] pos) (LF h):=by
 refine PI.imp (Gv hg hm (bN he.bor cI HA) hs) ?_
 rintro σ H R ⟨Ow,env,ps,E,hf,k⟩
 obtain⟨p1,hp,FD⟩:=ao hf
 refine⟨Ow,env,p1,E,hp,λv H1 s r=>?_⟩
 have r1:CU b.C (Bs b Ow) H1 v p1:=r
 cases p1 <;> simp only at FD <;> first | cases FD | skip
 rename_i j
 split at FD
 ·rename_i hj
  cases FD
  have hw:IW b Ow fr H1 (Yj 0 (j - 0).toNat) (dj 0 j):=Hw
  rw[Int.sub_zero] at hw
  exact⟨j,by rw[r1.int],(qt hj).1,(qt hj).2,k _ _ s hw⟩
 ·cases FD
theorem Vk {p pos:Pos}(hm:X.mg "range" = none)(he:SE X b G m1 e1 h1)(Jn:SE X b G m2 e2 h2)(hg:Gl X "range" := by rfl)(hs:starEach [e1,e2] X.env=[(false,eval e1 X.env),(false,eval e2 X.env)]:=by rfl)(Fh:starEach [e2] X.env=[(false,eval e2 X.env)]:=by rfl)
  (HA:starEach [e1,e2] X.env=(false,eval e1 X.env)::starEach [e2] X.env:=by rfl) (hs2':starEach [e2] X.env=(false,eval e2 X.env)::starEach [] X.env:=by rfl):SI X b G fr tg (.Call (.Name "range" p) [e1,e2] [] pos) (iR2 h1 h2):=by
 refine PI.imp (Gw hg hm (bN he.bor (bN Jn.bor cI hs2') HA) hs Fh) ?_
 rintro σ H R ⟨Ow,env,ps,E,hf,k⟩
 obtain⟨p1,hp,Zj⟩:=ao hf
 clear hf
 obtain⟨p2,Kj,FD⟩:=ao Zj
 clear Zj
 refine⟨Ow,env,p1,E,hp,λv H1 s r=>⟨Ow,env,p2,E.up s,Kj,λv2 H2 s2 r2=>?_⟩⟩
 have r1:CU b.C (Bs b Ow) H1 v p1:=r
 have Lc:CU b.C (Bs b Ow) H2 v2 p2:=r2
 cases p1 <;> cases p2 <;> simp only at FD <;> first | cases FD | skip
 rename_i i j
 split at FD
 ·rename_i hj
  cases FD
  exact⟨i,j,by rw[r1.int,Lc.int],(by rw[bp] at hj;exact⟨(qt hj.1).1,(qt hj.1).2,(qt hj.2).1,(qt hj.2).2⟩),k _ _ (s.trans s2) Hw⟩
 ·cases FD
noncomputable def fQ (n:Nat):List PV->List PV
 | []=>[]
 | x::xs=>.tup [.int (n:Nat),x]::fQ (n+1) xs
theorem xQ {p:PV}:∀{xs:List PV}{n i:Nat},(fQ n xs)[i]?=some p->∃x,xs[i]?=some x/\p=.tup [.int ((n+i:Nat):Int),x]
 | [],n,i,e=>by simp[fQ] at e
 | x::xs,n,0,e=>by
  simp[fQ] at e
  exact⟨x,rfl,by rw[← e];rfl⟩
 | x::xs,n,i+1,e=>by
  simp only[fQ,lb] at e
  obtain⟨y,h1,h2⟩:=xQ e
  exact⟨y,by simpa using h1,by rw[h2,Nat.add_right_comm,Nat.add_assoc]⟩
theorem sO:∀{xs:List PV}{n:Nat},(fQ n xs).length=xs.length
 | [],_=>rfl
 | x::xs,n=>by simp[fQ,sO (xs:=xs)]
end
noncomputable def gN (i:Nat)(p:PV)(env:Env):Option Env:=some (env.set i (some p))
@[simp] theorem XJ (i:Nat)(p:PV)(env:Env):gN i p env=(some (env.set i (some p))):=id rfl
@[simp] noncomputable def UO:List Nat->List PV->Env->Option Env
 | [],[],env=>some env
 | i::is,p::ps,env=>UO is ps (env.set i (some p))
 | _,_,_=>none
noncomputable def gT (is:gV)(p:PV)(env:Env):Option Env:=match p with
 | .tup xs=>UO is xs env
 | _=>none
@[simp] theorem XM (is:gV)(p:PV)(env:Env):gT is p env=(match p with
 | .tup xs=>UO is xs env
 | _=>none):=id rfl
def tMG (b:BX)(G:gV)(g:PV->Env->Option Env):TG:=λv σ H Q=>∃Ow env p DF,ER b Ow G σ env H/\Rep b.C (Bs b Ow) H v p/\g p env=some DF/\∀ σ',ER b Ow G σ' DF H->Q σ' H
def Wk (b:BX)(G:gV)(is:gV):NA:=λvs σ H Q=>∃Ow env ps DF,ER b Ow G σ env H/\CM b.C (Bs b Ow) H vs ps/\UO is ps env=some DF/\∀ σ',ER b Ow G σ' DF H->Q σ' H
abbrev SG (X:Cx)(b:BX)(G:gV)(tg:Expr)(g:PV->Env->Option Env):Prop:=PG X tg (tMG b G g)
abbrev Zk (X:Cx)(b:BX)(G:gV)(tgs:rl)(is:gV):Prop:=N4 X tgs (Wk b G is)
theorem PG.imp {t u:TG}(h:PG X tg t)(i:∀v σ H Q,u v σ H Q->t v σ H Q):PG X tg u:=λCI s σ H v w Q I r q=>h CI s σ H v w Q I r (i v σ H Q q)
theorem N4.imp {tg:rl}{t u:NA}(h:N4 X tg t)(i:∀v σ H Q,u v σ H Q->t v σ H Q):N4 X tg u:=λCI s σ H v w Q I r q=>h CI s σ H v w Q I r (i v σ H Q q)
variable {body:rk}{src:Env->Option (List PV)}{f:Env->Option Out}
section
variable {X:Cx}{b:BX}{G G' L:gV}{ro:Bool}{pos:Pos}
theorem iy (i:Nat)(nd:X.N.Nodup)(hG:i∉G:=by decide)(hx:b.fx i=none:=by first | rfl | assumption)(hi:X.N[i]?=some x:=by rfl)(hl:Loc X.env.scope x:=by first | exact gc rfl | exact eB rfl)
  (hf:X.fn x=true\/X.env.scope.names.lookup x=some .local:=by first | exact .inl rfl | exact .inr rfl | assumption):SG X b G (.Name x pos) (gN i):=
 PG.imp (v6 nd hi hl hf)<|by rintro v σ H Q ⟨Ow,env,p,DF,E,r,e,k⟩;cases e;exact k _ (E.set hG r hx)
theorem cO:Zk X b G [] []:=N4.imp m9<|by
 rintro vs σ H Q ⟨Ow,env,ps,DF,E,r,e,k⟩
 cases ps with
 | nil=>cases r;cases e;exact⟨rfl,k σ E⟩
 | cons p ps=>cases e
theorem aW (i:Nat){is:gV}(nd:X.N.Nodup)(h2:Zk X b G es is)(hG:i∉G:=by decide)(hx:b.fx i=none:=by first | rfl | assumption)(hi:X.N[i]?=some x:=by rfl)(hl:Loc X.env.scope x:=by first | exact gc rfl | exact eB rfl)
  (hf:X.fn x=true\/X.env.scope.names.lookup x=some .local:=by first | exact .inl rfl | exact .inr rfl | assumption) (hs:(assignEach (.Name x p1::es) X.env).map (·.2)=assign (.Name x p1) X.env::(assignEach es X.env).map (·.2):=by rfl):Zk X b G (.Name x p1::es) (i::is):=
 N4.imp (fj (v6 nd hi hl hf) h2 hs)<|by
  rintro vs σ H Q ⟨Ow,env,ps,DF,E,r,e,k⟩
  cases ps with
  | nil=>cases e
  | cons p ps=>
   cases r with
   | cons r1 r2=>exact⟨_,_,rfl,Ow,env.set i (some p),ps,DF,E.set hG r1 hx,r2,e,k⟩
theorem uc:∀{is:gV}{ps:List PV}{env DF:Env},UO is ps env=some DF->ps.length=is.length
 | [],[],_,_,_=>rfl
 | i::is,p::ps,env,DF,e=>by simp[uc (is:=is) (ps:=ps) e]
 | [],_::_,_,_,e=>by cases e
 | _::_,[],_,_,e=>by cases e
theorem jh {k:Nat}{is:gV}(h:Zk X b G es is)(hc:X.calm=true:=by rfl)(hn:(assignEach es X.env).length=is.length:=by rfl)(F6:(assignEach es X.env).findIdx? (·.1)=none:=by rfl)(hK:X.K=b.C.K:=by rfl):SG X b G (.Tuple es k pos) (gT is):=
 PG.imp (qe hc h hn F6)<|by
  rintro v σ H Q ⟨Ow,env,p,DF,E,r,e,k⟩
  cases p <;> simp only[gT] at e <;> first | cases e | skip
  rename_i xs
  obtain⟨a,vs,rfl,ha,ra⟩:=CU.tup (.inl r)
  rw[hK]
  exact⟨a,vs,rfl,ha.sq,by rw[ra.length];exact uc e,Ow,env,xs,DF,E,ra,e,k⟩
noncomputable def bM (g:PV->Env->Option Env)(ds:gV)(body:Env->Option Out):List PV->Env->Option Out
 | [],env=>some (.nx env)
 | x::xs,env=>(g x env).bind λe1=>(body e1).bind λo=>match o with
  | .nx e=>bM g ds body xs (E8 ds e)
  | .ct e=>bM g ds body xs (E8 ds e)
  | .bk e=>some (.nx (E8 ds e))
  | .rt p=>some (.rt p)
noncomputable def cu (g:PV->Env->Option Env)(src:Env->Option (List PV))(ds:gV)(body:Env->Option Out)(env:Env):Option Out:=(src env).bind λxs=>bM g ds body xs (E8 ds env)
@[simp] theorem WN (g:PV->Env->Option Env)(src:Env->Option (List PV))(ds:gV)(body:Env->Option Out)(env:Env):cu g src ds body env=((src env).bind λxs=>bM g ds body xs (E8 ds env)):=id rfl
theorem bZ {it:Expr}{g:PV->Env->Option Env}(ds:gV)(hi:SI X b G true tg it src)(hg:SG X b G tg g)(hb:Kx X b G G G ro body f)(hp:PassesOwn (model X.prog X.w) X.A X.env X.xe)(hc:X.calm=true:=by rfl)
  (hs:∀x,foldedSetIterable it X.env x=pure x:=by intro _;rfl):SS X b G G L ro (.For tg it body [] pos) (cu g src ds f):=by
 refine PS.imp (Gy hp hc hi hg hb hs) ?_
 rintro D σ H ⟨Ow,env,out,E,hf,k⟩
 obtain⟨ps,FD,hl⟩:=ao hf
 refine⟨Ow,env,ps,E,FD,λJ H1 s1 iw=>?_⟩
 refine⟨λi m σ2 H2=>m=ps.length - i/\i<=ps.length/\∃EU EG,ER b EU G σ2 EG H2/\Ex (Bs b Ow) H1 (Bs b EU) H2/\bM g ds f (ps.drop i) EG=some out,⟨ps.length,by simp,c6 _,Ow,E8 ds env,(E.up s1).E8,Ex.refl _ _,by simpa using hl⟩,?_⟩
 rintro i m σ2 H2 ⟨rfl,hi,EU,EG,E2,x2,l2⟩
 obtain⟨w1,w2⟩:=iw EU H2 (λz=>by cases z) x2 λa=>E2.fresh
 have xk:Ex (Bs b Ow) H (Bs b EU) H2:=(Ex.of_same s1).trans x2
 by_cases DS:i < ps.length
 ·rw[eJ DS] at l2
  obtain⟨e1,NM,l2⟩:=ao l2
  obtain⟨o,ho,l2⟩:=ao l2
  obtain⟨g1,g2⟩:=w1 i ps[i] (al DS)
  refine .inr ⟨g1,fun σ' H'=>i+1<=ps.length/\∃EU EG,ER b EU G σ' EG H'/\Ex (Bs b Ow) H1 (Bs b EU) H'/\bM g ds f (ps.drop (i+1)) EG=some out,fun σ' H' q=>⟨ps.length - (i+1),by omega,rfl,q⟩,λx H' y=>?_⟩
  obtain⟨s3,r3⟩:=g2 x H' y
  refine⟨EU,EG,_,e1,E2.up s3,r3,NM,fun σ3 E3=>⟨EU,e1,o,E3,ho,?_⟩⟩
  cases o with
  | nx e'=>exact λC6 σ' LX E' x'=>⟨DS,C6,_,E'.E8,x2.trans ((Ex.of_same s3).trans x'),l2⟩
  | ct e'=>exact λC6 σ' LX E' x'=>⟨DS,C6,_,E'.E8,x2.trans ((Ex.of_same s3).trans x'),l2⟩
  | bk e'=>cases l2;exact λC6 σ' LX E' x'=>k C6 σ' LX E'.E8 (xk.trans ((Ex.of_same s3).trans x'))
  | rt p=>cases l2;exact k
 ·have e:i=ps.length:=by omega
  subst e
  rw[kR] at l2
  cases l2
  exact .inl ⟨w2,k EU σ2 H2 E2 xk⟩
noncomputable def lU (c:Env->Option Bool)(ds:gV)(body:Env->Option Out):Nat->Env->Option Out
 | 0,_=>none
 | n+1,env=>(c env).bind λk=>if k=true then (body env).bind λo=>match o with
   | .nx e=>lU c ds body n (E8 ds e)
   | .ct e=>lU c ds body n (E8 ds e)
   | .bk e=>some (.nx (E8 ds e))
   | .rt p=>some (.rt p)
  else some (.nx env)
noncomputable def sS (n:Nat)(c:Env->Option Bool)(ds:gV)(body:Env->Option Out)(env:Env):Option Out:=lU c ds body n (E8 ds env)
@[simp] theorem Hx (n:Nat)(c:Env->Option Bool)(ds:gV)(body:Env->Option Out)(env:Env):sS n c ds body env=(lU c ds body n (E8 ds env)):=id rfl
theorem Oe {c:Expr}{t:Env->Option Bool}(n:Nat)(ds:gV)(hc:ST X b G c t)(hb:Kx X b G G G ro body f)(hp:PassesOwn (model X.prog X.w) X.A X.env X.xe):SS X b G G L ro (.While c body [] pos) (sS n t ds f):=by
 refine PS.imp (JG hp hc hb) ?_
 rintro D σ H ⟨Ow,env,out,E,hf,k⟩
 refine⟨λm σ2 H2=>∃EU EG,ER b EU G σ2 EG H2/\Ex (Bs b Ow) H (Bs b EU) H2/\lU t ds f m EG=some out,⟨n,Ow,E8 ds env,E.E8,Ex.refl _ _,hf⟩,?_⟩
 rintro m σ2 H2 ⟨EU,EG,E2,x2,l2⟩
 cases m with
 | zero=>cases l2
 | succ m=>
  obtain⟨kk,hk,l2⟩:=ao l2
  refine⟨EU,EG,kk,E2,hk,λH3 s3=>?_⟩
  cases kk with
  | false=>cases l2;exact zF (k EU σ2 H3 (E2.up s3) (x2.trans (.of_same s3)))
  | true=>
   refine zG ⟨fun σ' H'=>∃EU EG,ER b EU G σ' EG H'/\Ex (Bs b Ow) H (Bs b EU) H'/\lU t ds f m EG=some out,fun σ' H' q=>⟨m,ot m,q⟩,?_⟩
   obtain⟨o,ho,l2⟩:=ao l2
   refine⟨EU,EG,o,E2.up s3,ho,?_⟩
   cases o with
   | nx e'=>exact λC6 σ' LX E' x'=>⟨C6,_,E'.E8,x2.trans ((Ex.of_same s3).trans x'),l2⟩
   | ct e'=>exact λC6 σ' LX E' x'=>⟨C6,_,E'.E8,x2.trans ((Ex.of_same s3).trans x'),l2⟩
   | bk e'=>cases l2;exact λC6 σ' LX E' x'=>k C6 σ' LX E'.E8 (x2.trans ((Ex.of_same s3).trans x'))
   | rt p=>cases l2;exact k
end
noncomputable def j6 (C2:List (Option Nat))(env:Env):Env:=C2.map λo=>match o with | some i=>(env[i]?).getD none | none=>none
@[simp] theorem WQ (C2:List (Option Nat))(env:Env):j6 C2 env=(C2.map λo=>match o with | some i=>(env[i]?).getD none | none=>none):=id rfl
noncomputable def lC (C2:List (Option Nat))(G:gV):List Nat:=(List.range C2.length).filter λj=>match C2[j]? with | some (some i)=>decide (i∈G) | _=>false
def BX.in (b:BX):BX:={ b with fx:=λ_=>none }
noncomputable def eQ (env:Env)(g:PV->Env->Option Env)(t:Env->Option Bool)(f:r6):List PV->Option (List PV)
 | []=>some []
 | x::xs=>(g x env).bind λe=>(t e).bind λk=>if k=true then (f e).bind λy=>(eQ env g t f xs).bind λys=>some (y::ys) else eQ env g t f xs
noncomputable def eU (C2:List (Option Nat))(src:Env->Option (List PV))(g:PV->Env->Option Env)(t:Env->Option Bool)(f:r6)(env:Env):Option PV:=(src env).bind λxs=>if xs.length<=1000000 then (eQ (j6 C2 env) g t f xs).bind λys=>some (.lst ys) else none
@[simp] theorem Wl (C2:List (Option Nat))(src:Env->Option (List PV))(g:PV->Env->Option Env)(t:Env->Option Bool)(f:r6)(env:Env):eU C2 src g t f env=((src env).bind λxs=>if xs.length<=1000000 then (eQ (j6 C2 env) g t f xs).bind λys=>some (.lst ys) else none):=id rfl
noncomputable def fU (env:Env):Option Bool:=some true
@[simp] theorem Wm (env:Env):fU env=(some true):=id rfl
theorem FU {C2:List (Option Nat)}{j:Nat}:j∈lC C2 G↔∃i,C2[j]?=some (some i)/\i∈G:=by
 unfold lC
 rw[iL,b6]
 constructor
 ·rintro ⟨h1,h2⟩
  split at h2
  ·rename_i i e;exact⟨i,e,by simpa using h2⟩
  ·cases h2
 ·rintro ⟨i,e,h⟩
  refine⟨(aw.mp e).1,?_⟩
  rw[e];simpa using h
theorem qT {C2:List (Option Nat)}{j:Nat}{p:PV}(h:(j6 C2 env)[j]?=some (some p)):∃i,C2[j]?=some (some i)/\env[i]?=some (some p):=by
 unfold j6 at h
 rw[ar] at h
 cases q:C2[j]? with
 | none=>rw[q] at h;cases h
 | some o=>
  rw[q] at h
  cases o with
  | none=>cases h
  | some i=>
   refine⟨i,rfl,?_⟩
   have h':(env[i]?).getD none=some p:=by simpa using h
   cases q2:env[i]? with
   | none=>rw[q2] at h';cases h'
   | some o=>rw[q2] at h';simp at h';rw[h']
theorem pC {C2:List (Option Nat)}{j i:Nat}(h:C2[j]?=some (some i))(e:σ[i]?=some (some v)):(fM C2 σ)[j]?=some (some v):=by
 unfold fM
 rw[ar,h]
 simp[zH,e]
noncomputable def sU (C2:List (Option Nat)):Bool:=(List.range C2.length).all λj=>(List.range C2.length).all λk=>match C2[j]?,C2[k]? with
 | some (some i),some (some i')=>decide (i=i'->j=k)
 | _,_=>true
theorem Hy {C2:List (Option Nat)}(h:sU C2=true){j k i:Nat}(h1:C2[j]?=some (some i))(h2:C2[k]?=some (some i)):j=k:=by
 have a:=cq.mp h j (b6.mpr (aw.mp h1).1)
 have c:=cq.mp a k (b6.mpr (aw.mp h2).1)
 rw[h1,h2] at c
 simpa using c
theorem ER.C2 {b:BX}{Ow:Addr->Prop}{G:gV}{σ:St}{env:Env}{H:Hp}{C2:List (Option Nat)}(E:ER b Ow G σ env H)(hc:sU C2=true):ER b.in Ow (lC C2 G) (fM C2 σ) (j6 C2 env) H:=by
 refine⟨by unfold fM j6;rw[af,af],E.same,E.live,E.new,λj p e n=>?_,λj p e n=>?_,λj k a p q e1 n1 s1 e2 n2 s2=>?_,λk v z=>by cases z⟩
 ·obtain⟨i,h1,h2⟩:=qT e
  obtain⟨v,h3,h4⟩:=E.val i p h2 λz=>n (FU.mpr ⟨i,h1,z⟩)
  exact⟨v,pC h1 h3,h4⟩
 ·obtain⟨i,h1,h2⟩:=qT e
  obtain⟨i',NX,hG⟩:=FU.mp n
  rw[h1] at NX;cases NX
  obtain⟨a,h3,h4,h5⟩:=E.own i p h2 hG
  exact⟨a,pC h1 h3,h4,h5⟩
 ·obtain⟨i,h1,h2⟩:=qT e1
  obtain⟨i',NX,hG⟩:=FU.mp n1
  rw[h1] at NX;cases NX
  obtain⟨k',h3,h4⟩:=qT e2
  obtain⟨k'',h3',hG2⟩:=FU.mp n2
  rw[h3] at h3';cases h3'
  obtain⟨c,g1,_,_⟩:=E.own i p h2 hG
  obtain⟨c2,g2,_,_⟩:=E.own k' q h4 hG2
  have t1:=pC (C2:=C2) h1 g1
  have t2:=pC (C2:=C2) h3 g2
  rw[s1] at t1;cases t1
  rw[s2] at t2;cases t2
  have:=E.sep i k' _ p q h2 hG g1 h4 hG2 g2
  subst this
  exact Hy hc h1 h3
theorem ER.more {D:Addr}(E:ER b Ow G σ env H)(hD:H D=none)(s:CS H H')(hl:∃o,H' D=some o):ER b (λc=>Ow c\/c=D) G σ env H'/\Ex (Bs b Ow) H (Bs b λc=>Ow c\/c=D) H':=by
 have hx:Ex (Bs b Ow) H (Bs b λc=>Ow c\/c=D) H':=λc o h=>⟨λq=>⟨s _ _ h,λz=>z.elim q.1 (bI h hD),q.2⟩,λ_=>s _ _ h⟩
 exact⟨⟨E.len,E.same.trans s,λc w=>w.elim (λz=>let ⟨o,h⟩:=E.live c z;⟨o,s _ _ h⟩) λz=>by subst z;exact hl,λc w=>w.elim (E.new c) λz=>by subst z;exact E.same.free hD,λi p e n=>let ⟨v,h1,h2⟩:=E.val i p e n;⟨v,h1,h2.ex hx⟩,
  λi p e n=>let ⟨a,h1,h2,h3⟩:=E.own i p e n;⟨a,h1,.inl h2,h3.ex hx λo z=>s _ _ z⟩,E.sep,E.fix⟩,hx⟩
structure OI (K:W.Frag)(C2:List (Option Nat))(g:TG)(gm:PV->Env->Option Env):Prop where
 go:∀(b:BX) (Ow:Addr->Prop) (G:gV) (σ:St) (env e:Env) (H:Hp) (v:V) (p:PV) (Q:St->Hp->Prop),b.C.K=K->(∀i,b.fx i=none)->ER b Ow (lC C2 G) (fM C2 σ) (j6 C2 env) H->Rep b.C (Bs b Ow) H v p->gm p (j6 C2 env)=some e->
  (∀ σ',Kp (fM C2 σ) σ'->ER b Ow (lC C2 G) σ' e H->Q σ' H)->g v (fM C2 σ) H Q
theorem Hz {σ':St}{i:Nat}(h:Kp σ σ')(hn:∀w,σ[i]?≠some (some w)):Kp σ (σ'.set i (some v)):=by
 refine⟨by rw[c8];exact h.1,λj w e=>?_⟩
 by_cases hj:i=j
 ·subst hj;exact absurd e (hn w)
 ·rw[ay hj];exact h.2 j w e
theorem CQ (σ:St):Kp σ σ:=⟨rfl,λ_ _ e=>e⟩
theorem vA {C2:List (Option Nat)}{i:Nat}(h:C2[i]?=some none)(w:V):(fM C2 σ)[i]?≠some (some w):=by
 unfold fM
 rw[ar,h]
 intro z;cases z
theorem xR {C2:List (Option Nat)}{i:Nat}(h:C2[i]?=some none):i∉lC C2 G:=λz=>by
 obtain⟨k,e,_⟩:=FU.mp z
 rw[h] at e;cases e
theorem uF {C2:List (Option Nat)}(i:Nat)(h:C2[i]?=some none:=by rfl):OI K C2 (t7 i) (gN i):=
 ⟨λb Ow G σ env e H v p Q hK hx E r he k=>by
  cases he
  exact k _ (Hz (CQ _) (vA h)) (E.set (xR h) r (hx _))⟩
def zZ:List Nat->NA
 | []=>QC
 | i::is=>Lz (t7 i) (zZ is)
theorem z9 {C2:List (Option Nat)}(is:gV)(h:(is.all λi=>decide (C2[i]?=some none))=true:=by rfl):OI K C2 (QD K is.length (zZ is)) (gT is):=
 ⟨λb Ow G σ env e H v p Q hK hx E r he k=>by
  subst hK
  cases p <;> simp only[gT] at he <;> first | cases he | skip
  rename_i xs
  obtain⟨a,vs,rfl,ha,ra⟩:=CU.tup (.inl r)
  refine⟨a,vs,rfl,ha.sq,by rw[ra.length];exact uc he,?_⟩
  have gen:∀(is:gV) (vs:List V) (xs:List PV) (σ1:St) (SU:Env),(is.all λi=>decide (C2[i]?=some none))=true->Kp (fM C2 σ) σ1->ER b Ow (lC C2 G) σ1 SU H->CM b.C (Bs b Ow) H vs xs->UO is xs SU=some e->zZ is vs σ1 H Q:=by
   intro is
   induction is with
   | nil=>
    intro vs xs σ1 SU _ kp E1 r1 e1
    cases xs with
    | nil=>cases r1;cases e1;exact⟨rfl,k σ1 kp E1⟩
    | cons x xs=>cases e1
   | cons i is ih=>
    intro vs xs σ1 SU FL kp E1 r1 e1
    cases xs with
    | nil=>cases e1
    | cons x xs=>
     cases r1 with
     | cons r2 r3=>
      rw[ij,bp] at FL
      have hi:C2[i]?=some none:=by simpa using FL.1
      exact⟨_,_,rfl,ih _ xs _ _ FL.2 (Hz kp (vA hi)) (E1.set (xR hi) r2 (hx _)) r3 e1⟩
  exact gen is vs xs _ _ h (CQ _) E ra he⟩
section
variable {X:Cx}{b:BX}{G L:gV}{ro:Bool}{pos:Pos}{tg iter elt:Expr}{ifs:rl}{scope FC:Scope}{ON N:rp}{C2:List (Option Nat)}{src:Env->Option (List PV)}{g:TG}{gm:PV->Env->Option Env}{t:Env->Option Bool}{f:r6}
theorem Mj {Q:VK}(Zl:OI b.C.K C2 g gm)(hc:sU C2=true)(h:tM b G .own (eU C2 src gm t f) σ H Q):
  yK (tMI b G false src) C2 g (Yr b.in (lC C2 G) t) (tM b.in (lC C2 G) .val f) σ H Q:=by
 obtain⟨Ow,env,p,E,hf,k⟩:=h
 obtain⟨xs,QY,hf⟩:=ao hf
 split at hf
 ·rename_i hlen
  obtain⟨ys,UP,hf⟩:=ao hf
  cases hf
  refine⟨Ow,env,xs,E,QY,λJ H1 s1 iw D hD=>?_⟩
  have E1:=E.up s1
  have nD:H D=none:=s1.free hD
  refine⟨λi m vs H2=>m=xs.length - i/\i<=xs.length/\CS H1 H2/\H2 D=some (.lst vs)/\vs.length<=i/\∃done rest,CM b.C (Bs b λc=>Ow c\/c=D) H2 vs done/\eQ (j6 C2 env) gm t f (xs.drop i)=some rest/\done++rest=ys,
   ⟨xs.length,by simp,c6 _,bh hD _,bc,aT _,[],ys,.nil,by simpa using UP,rfl⟩,?_⟩
  rintro i m vs H2 ⟨rfl,hi,s2,d2,hv,done,rest,rd,cl,Mk⟩
  refine⟨d2,?_⟩
  obtain⟨E2,x2⟩:=E1.more hD s2 ⟨_,d2⟩
  obtain⟨w1,w2⟩:=iw _ H2 (λ_=>s2) x2 λa=>E2.fresh
  by_cases DS:i < xs.length
  ·rw[eJ DS] at cl
   obtain⟨e1,NM,cl⟩:=ao cl
   obtain⟨kk,hk,cl⟩:=ao cl
   obtain⟨g1,g2⟩:=w1 i xs[i] (al DS)
   refine .inr ⟨g1,λZi H'=>i+1<=xs.length/\CS H1 H'/\H' D=some (.lst Zi)/\Zi.length<=i+1/\∃done rest,CM b.C (Bs b λc=>Ow c\/c=D) H' Zi done/\eQ (j6 C2 env) gm t f (xs.drop (i+1))=some rest/\done++rest=ys,λZi H' q=>⟨xs.length - (i+1),by omega,rfl,q⟩,λx H' y=>?_⟩
   obtain⟨s3,r3⟩:=g2 x H' y
   have E3:=(E2.up s3).C2 hc
   refine Zl.go b.in _ G σ env e1 H' x _ _ rfl (λ_=>rfl) E3 r3 NM fun σ3 kp E4=>⟨kp,_,e1,kk,E4,hk,λH4 s4=>?_⟩
   have d4:H4 D=some (.lst vs):=s4 _ _ (s3 _ _ d2)
   have s24:CS H2 H4:=s3.trans s4
   cases kk with
   | false=>
    refine zF ⟨DS,s2.trans s24,d4,Nat.le_succ_of_le hv,done,rest,rd.ex (.of_same s24),?_,Mk⟩
    simpa using cl
   | true=>
    simp only[kA] at cl
    obtain⟨y1,hy1,cl⟩:=ao cl
    obtain⟨ys1,hys1,cl⟩:=ao cl
    cases cl
    refine zG ⟨_,e1,y1,E4.up s4,hy1,λv5 H5 s5 r5=>⟨s5 _ _ d4,iT (by omega),DS,?_,bc,by rw[aS];show vs.length+1<=i+1;omega,done++[y1],ys1,?_,hys1,by rw[ei];exact Mk⟩⟩
    ·exact λc o h=>by rw[aP (bI h hD)];exact s5 _ _ (s24 _ _ (s2 _ _ h))
    ·have r5':Rep b.C (Bs b λc=>Ow c\/c=D) H5 v5 y1:=r5
     refine((rd.ex (.of_same (s24.trans s5))).append (.cons r5' .nil)).ex ?_
     exact qR (b:=b) (Ow:=λc=>Ow c\/c=D) (.inr rfl) (s5 _ _ d4) rfl
  ·have e:i=xs.length:=by omega
   subst e
   rw[kR] at cl
   cases cl
   rw[bq] at Mk
   subst Mk
   refine .inl ⟨w2,k _ H2 (s1.trans s2) ⟨D,rfl,nD,vs,d2,rd.ex (cC λc o _ q=>⟨⟨λz=>q.1 (.inl z),q.2⟩,λz=>q.1 (.inr z)⟩)⟩⟩
 ·cases hf
theorem ji {X:Cx}:sG X [] (Yr b G fU):=by rintro CI s σ H Q I ⟨Ow,env,k,E,hf,kk⟩;cases hf;exact J0 CI s σ H Q I (kk H (CS.refl _))
theorem jA (S:ND FC scope ON N C2)(Zl:OI b.C.K C2 g gm)(hi:SI X b G false tg iter src)(hg:∀C s H fp,PG (X.comp N scope C s H fp) tg g)(ht:∀C s H fp,sG (X.comp N scope C s H fp) ifs (Yr b.in (lC C2 G) t))(he:∀C s H fp,SE (X.comp N scope C s H fp) b.in (lC C2 G) .val elt f)
  (hci:sU C2=true:=by rfl) (hc:X.calm=true:=by rfl) (IQ:X.env.scope=FC:=by rfl) (hN:X.N=ON:=by rfl) (hs:∀x,foldedSetIterable iter X.env x=pure x:=by intro _;rfl):SE X b G .own (.ListComp elt [⟨tg,iter,ifs,0⟩] scope pos) (eU C2 src gm t f):=
 PE.imp (Ny S hi hg ht he hc IQ hN hs) fun σ H Q h=>Mj Zl hci h
theorem z_ (i:Nat){y:Str}{py IS:Pos}(nd:X.N.Nodup)(S:ND FC scope ON N C2)(Zl:OI b.C.K C2 g gm)(hi:SI X b G false tg iter src)(hg:∀C s H fp,PG (X.comp N scope C s H fp) tg g)(ht:∀C s H fp,sG (X.comp N scope C s H fp) ifs (Yr b.in (lC C2 G) t))(he:∀C s H fp,SE (X.comp N scope C s H fp) b.in (lC C2 G) .val elt f)
  (hG:i∉G:=by decide) (hx:b.fx i=none:=by first | rfl | assumption) (JJ:X.N[i]?=some y:=by rfl) (hy:Loc X.env.scope y:=by first | exact gc rfl | exact eB rfl) (hci:sU C2=true:=by rfl)
  (WO:swapsWith (.ListComp elt [⟨tg,iter,ifs,0⟩] scope pos) (some (.Name y py)) IS.line X.env=pure true:=by rfl)
  (hc:X.calm=true:=by rfl) (IQ:X.env.scope=FC:=by rfl) (hN:X.N=ON:=by rfl) (hs:∀x,foldedSetIterable iter X.env x=pure x:=by intro _;rfl)
  (hf:X.fn y=true\/X.env.scope.names.lookup y=some .local:=by first | exact .inl rfl | exact .inr rfl | assumption):
  SS X b G G L ro (.Assign [.Name y py] (.ListComp elt [⟨tg,iter,ifs,0⟩] scope pos) IS) (aJ i (eU C2 src gm t f)):=
 PS.imp (Nz S nd JJ hy hi hg ht he WO hc IQ hN hs hf) λD σ H q=>Mj Zl hci (by
  obtain⟨Ow,env,p,E,hf,k⟩:=SN hG hx q
  exact⟨Ow,env,p,E,hf,λv H' s r=>k v H' s (r.val E (by intro z;cases z))⟩)
end
noncomputable def bB (n k:Nat)(ro:Bool)(f:Env->Option Out)(ps:List PV):Option PV:=if ps.length=k then (f (ps.map some++List.replicate (n - k) none)).bind λo=>match o with
 | .nx _=>if ro=true then none else some .CY
 | .rt p=>some p
 | _=>none
 else none
@[simp] theorem WR (n k:Nat)(ro:Bool)(f:Env->Option Out)(ps:List PV):bB n k ro f ps=(if ps.length=k then (f (ps.map some++List.replicate (n - k) none)).bind λo=>match o with
 | .nx _=>if ro=true then none else some .CY
 | .rt p=>some p
 | _=>none
 else none):=id rfl
theorem uG {N:rp}(r:CM C A H vs ps)(hG:∀i,i∈G->ps.length<=i)(hn:ps.length<=N.length):ER ⟨C,A,H,λ_=>none⟩ (λ_=>False) G (L2.start N vs) (ps.map some++List.replicate (N.length - ps.length) none) H:=by
 have hl:=r.length
 have old:∀i p,(ps.map some++List.replicate (N.length - ps.length) none)[i]?=some (some p)->ps[i]?=some p:=λi p e=>by
  by_cases hi:i < ps.length
  ·rw[kT (by rw[af];exact hi),ar] at e
   cases q:ps[i]? with
   | none=>rw[q] at e;cases e
   | some p'=>rw[q] at e;cases e;rfl
  ·rw[fk (by rw[af];omega),ox] at e
   split at e <;> cases e
 refine⟨?_,CS.refl _,λa w=>w.elim,λa w=>w.elim,λi p e n=>?_,λi p e n=>?_,λi j a p q e1 n1 s1 e2 n2 s2=>?_,λk v z=>by cases z⟩
 ·unfold L2.start
  simp only[aS,af,pr]
  omega
 ·obtain⟨v,hv,rv⟩:=r.get (old i p e)
  refine⟨v,?_,rv.ex (cC λa o _ q=>⟨λz=>z,.inl q⟩)⟩
  unfold L2.start
  have hi:i < vs.length:=(aw.mp hv).1
  rw[kT (by rw[af];exact hi),ar,hv]
  rfl
 ·have h1:=(aw.mp (old i p e)).1
  have h2:=hG i n
  omega
 ·have h1:=(aw.mp (old i p e1)).1
  have h2:=hG i n1
  omega
theorem CT {N:rp}{k:Nat}{G' L:gV}(hN:N.length=n)(hk:k<=n)(hG:(G.all λi=>decide (k<=i))=true)(hb:∀A H,Kx X ⟨C,A,H,λ_=>none⟩ G G' L ro body f)
  {vs:List V}{H:Hp}{Q:VK}{E:XK}(h:LD C (bB n k ro f) ro vs H Q E):∃t,Fu X body t/\t { nx:=λ_ H'=>Q .CY H',rt:=Q } (L2.start N vs) H:=by
 obtain⟨A,ps,p,r,hm,kk⟩:=h
 refine⟨_,hb A H,?_⟩
 unfold bB at hm
 split at hm
 ·rename_i hl
  obtain⟨o,ho,hm⟩:=ao hm
  refine⟨_,_,o,uG (N:=N) (G:=G) r (λi hi=>by rw[hl];simpa using cq.mp hG i hi) (by omega),by rw[hN,hl];exact ho,?_⟩
  cases o with
  | nx e=>
   cases ro with
   | true=>cases hm
   | false=>cases hm;exact λC6 σ' H' E' _=>kk .CY H' E'.same .CY
  | rt q=>cases hm;exact λv H' s rr=>kk v H' s rr
  | bk e=>cases hm
  | ct e=>cases hm
 ·cases hm
theorem Og {k:Nat}{ro':Bool}{Q:VK}{E:XK}(h:LD C (bB n k ro' f) ro vs H Q E):vs.length=k:=by
 obtain⟨A,ps,p,r,hm,kk⟩:=h
 unfold bB at hm
 split at hm
 ·rename_i hl;rw[r.length];exact hl
 ·cases hm
section
variable {X:Cx}{b:BX}{G:gV}{pos p:Pos}{e:Expr}{es:rl}{g:Env->Option (List PV)}
@[simp] noncomputable def Yv:PV->Option String
 | .CY=>some "NoneType"
 | .bl _=>some "bool"
 | .int _=>some "int"
 | .str _=>some "str"
 | .lst _=>some "list"
 | .tup _=>some "tuple"
 | .dK _=>some "dict"
 | .dT _=>some "dict"
 | _=>none
noncomputable def Fj (tb:List (String×Bool))(p:PV):Option PV:=(Yv p).bind λt=>(tb.lookup t).bind λk=>some (.bl k)
@[simp] theorem WW (tb:List (String×Bool))(p:PV):Fj tb p=((Yv p).bind λt=>(tb.lookup t).bind λk=>some (.bl k)):=id rfl
theorem CU.ty {p:PV}{t:String}(r:CU C A H v p)(h:Yv p=some t):GH C.K H v (.type t):=by
 cases p <;> simp only[Yv] at h <;> cases h
 ·rw[r.CY];exact .CY
 ·rw[r.bl];exact .bl _
 ·rw[r.int];exact .int _
 ·rw[r.str];exact .str _
 ·obtain⟨a,vs,rfl,ha,_⟩:=r.lst;exact .lst ha
 ·obtain⟨a,vs,rfl,ha,_⟩:=r.tup;exact ha.elim (λq=>.tup q) λq=>.KL q
 ·obtain⟨a,vs,rfl,ha,_⟩:=r.dK;exact .dK ha
 ·obtain⟨a,vs,rfl,ha,_⟩:=r.dT;exact .dT ha
theorem iu {α β:Type}[BEq α][LawfulBEq α]{x:α}{y:β}:∀{l:List (α×β)},l.lookup x=some y->(x,y)∈l
 | [],h=>by cases h
 | (a,c)::r,h=>by
  rw[cK] at h
  cases q:x == a with
  | true=>rw[q] at h;cases h;have:=eq_of_beq q;subst this;exact ah
  | false=>rw[q] at h;exact ag _ (iu h)
theorem HB {m:Md}{f:r6}{n:Str}{n':String}(tb:List (String×Bool))(hk:∀t k,(t,k)∈tb->W.kitOne X.K (.type t) (.type n')=some k)(hm:X.mg "isinstance" = none)(hmn:X.mg n=none)(hbn:bootBuiltins n=some (.type n'))(h:SE X b G m e f)(hK:X.K=b.C.K:=by rfl)(hg:Gl X "isinstance" := by rfl)(hgn:Gl X n:=by rfl)
  (hbi:bootBuiltins "isinstance" = some (.builtin "isinstance"):=by decide +kernel) (hn1:n ≠ "__name__" := by decide) (hd:(n == ("__debug__" : Str))=false:=by decide)
  (he:starEach [e,.Name n p1] X.env=(false,eval e X.env)::starEach [.Name n p1] X.env:=by rfl) (Jn:starEach [.Name n p1] X.env=(false,eval (.Name n p1) X.env)::starEach [] X.env:=by rfl) (FA:(backTo pos (starEach [.Name n p1] X.env)).any (·.1)=false:=by rfl):
  SE X b G .val (.Call (.Name "isinstance" p) [e,.Name n p1] [] pos) (b1 (Fj tb) f):=by
 refine PE.imp (zj Cd hg hm hbi (bN h.bor (bN (M6 (v:=.ty n') hgn hmn hbn rfl hn1 hd) cI Jn) he) (by decide) (by decide) he FA) ?_
 rintro σ H Q ⟨Ow,env,q,E,hf,kk⟩
 obtain⟨p1,SV,hf⟩:=ao hf
 obtain⟨t,ht,hf⟩:=ao hf
 obtain⟨k,UQ,hf⟩:=ao hf
 cases hf
 refine⟨Ow,env,p1,E,SV,λv H1 s r=>?_⟩
 have r1:CU b.C (Bs b Ow) H1 v p1:=r
 exact⟨v,n',.type t,k,rfl,by rw[hK];exact r1.ty ht,hk t k (iu UQ),kk _ H1 s (.bl k)⟩
end
section
variable {X:Cx}{b:BX}{G G' L:gV}{ro:Bool}{pos:Pos}
noncomputable def j7 (xs ys:List PV):List PV:=List.zipWith (λx y=>.tup [x,y]) xs ys
end
section
variable {X:Cx}{b:BX}{G G' L:gV}{ro:Bool}{pos p:Pos}{m m1 m2:Md}{e e1 e2:Expr}{f f1 f2 h:r6}
@[simp] noncomputable def uH:PV->PV->Option PV
 | .lst xs,.lst ys=>if xs.length+ys.length<=1000000 then some (.lst (xs++ys)) else none
 | _,_=>none
theorem HD {x y z:PV}(e:uH x y=some z):∃xs ys,x=.lst xs/\y=.lst ys/\xs.length+ys.length<=1000000/\z=.lst (xs++ys):=by
 unfold uH at e
 split at e
 ·split at e
  ·cases e;exact⟨_,_,rfl,rfl,‹_›,rfl⟩
  ·cases e
 ·cases e
theorem yP (i:Nat)(he:SE X b G .val e h)(hi:i∈G:=by decide)(hN:X.N[i]?=some x:=by rfl)(hv:MB X.env.scope x:=by first | exact gc rfl | exact eB (gc rfl) | exact eB (eB rfl))(hd:(x == ("__debug__" : Str))=false:=by decide)
  (FH:(x == ("__classdict__" : Str))=false:=by decide) (EI:attributeBase (.Name x p1) "extend" X.env (eval (.Name x p1) X.env)=eval (.Name x p1) X.env:=by rfl)
  (Iq:((backTo C5 (starEach [e] X.env)).all (λx=>!x.1)&&(backToKw C5 (keywordEach [] X.env)).all (λx=>x.1.isSome)
   && decide ([e].length+([]:List Keyword).length+(if ([]:List Keyword).isEmpty then 0 else 1) < 30))=true:=by rfl)
  (EJ:(apos.endLine == C5.line)=true:=by rfl) (hs:starEach [e] X.env=(false,eval e X.env)::starEach [] X.env:=by rfl):
  SS X b G G L ro (.Expr (.Call (.Attribute (.Name x p1) "extend" apos) [e] [] C5) pos) (cA uH i h):=
 PS.imp (m8 (qM fb PySem.F.slot_list_extend PySem.F.type_list_extend G6 (gR hN hv hd FH) (bN he cI hs) EI Iq EJ hs rfl))<|by
  rintro D σ H ⟨Ow,env,o,E,hf,k⟩
  obtain⟨px,NL,z1⟩:=ao hf
  clear hf
  obtain⟨p,hp,z2⟩:=ao z1
  clear z1
  obtain⟨y,hy,z3⟩:=ao z2
  clear z2
  cases z3
  obtain⟨xs,ys,rfl,rfl,hl,rfl⟩:=HD hy
  obtain⟨a,ea,w,t⟩:=E.own i _ (fc NL) hi
  obtain⟨vs,ha,ra⟩:=id t
  refine⟨_,ea,.inl ⟨rfl,_,DL.of ha⟩,Ow,env,_,E,hp,λv H' s r=>?_⟩
  cases r with
  | @lst c us _ q1 q2 q3=>
   refine⟨a,c,vs,us,rfl,rfl,s _ _ ha,q1,gb (by rw[ra.length,q3.length];exact hl),?_⟩
   have OH:CM b.C (Bs b Ow) (upd H' a (.lst (vs++us))) (vs++us) (xs++ys):=by
    refine(ra.ex (.of_same s)).append q3 |>.ex λc o h=>⟨λq=>⟨by rw[aP (λz:c=a=>q.1 (z▸w))];exact h,q⟩,λm=>?_⟩
    have hc:c≠a:=λz=>by subst z;rw[s _ _ ha] at h;cases h;cases m
    rw[aP hc];exact h
   obtain⟨E',x⟩:=(E.up s).write hi ea (fc NL) w (t.ex (.of_same s) λo z=>s _ _ z) (o':=.lst (vs++us)) (p':=.lst (xs++ys)) ⟨_,bc,OH⟩
   exact k Ow σ _ E' ((Ex.of_same s).trans x)
@[simp] noncomputable def Aa:PV->PV->Option PV
 | .lst xs,.int k=>if -1000000<=k/\k<=1000000/\xs.length*k.toNat<=1000000 then some (.lst (List.replicate k.toNat xs).flatten) else none
 | _,_=>none
theorem CM.MH {C:MC}{A:Addr->Prop}{H:Hp}{vs:List V}{ps:List PV}(h:CM C A H vs ps):∀n:Nat,CM C A H (List.replicate n vs).flatten (List.replicate n ps).flatten
 | 0=>.nil
 | n+1=>by
  rw[eA,eA,gp,gp]
  exact h.append (CM.MH h n)
theorem S5:IT b .own Rg Aa:=by
 intro Ow H v1 v2 p1 p2 p Q hn r1 r2 e k
 unfold Aa at e
 split at e
 ·split at e
  ·rename_i h
   cases e
   obtain⟨a,vs,rfl,ha,ra⟩:=r1.lst
   have e2:=r2.int
   subst e2
   have h63:(2 ^ 63:Int)=9223372036854775808:=by decide
   exact⟨a,_,vs,rfl,rfl,ha,by omega,by omega,gb (by rw[ra.length];exact h.2.2),λq hq=>k _ _ (bh hq _) (gf hq (ra.MH _))⟩
  ·cases e
 ·cases e
theorem HF (h1:SE X b G m1 e1 f1)(h2:SE X b G m2 e2 f2):SE X b G .own (.BinOp e1 .Mult e2 pos) (b2 Aa f1 f2):=pq Rh S5 h1 h2
@[simp] noncomputable def vB:PV->Option PV
 | .lst xs=>some (.tup xs)
 | .EA xs=>some (.tup xs)
 | .tup xs=>some (.tup xs)
 | _=>none
theorem Ab (hm:X.mg "tuple" = none)(h:SE X b G m1 e f)(hK:X.K=b.C.K:=by rfl)(hg:Gl X "tuple" := by rfl)(he:starEach [e] X.env=(false,eval e X.env)::starEach [] X.env:=by rfl):SE X b G .val (.Call (.Name "tuple" p) [e] [] pos) (b1 vB f):=by
 refine wF yp (λOw H v1 p1 p Q hn r1 e k=>?_) hm PyProof.Rows.boot_tuple h hg (by decide) (by decide) he
 rw[hK]
 cases p1 <;> simp only[vB] at e <;> cases e
 case lst xs=>obtain⟨a,vs,rfl,ha,ra⟩:=r1.lst;exact⟨a,vs,rfl,.inl ⟨DL.of ha,λl hl=>k _ _ (bh hl _) (wD hl ra)⟩⟩
 case EA xs=>obtain⟨a,vs,rfl,ha,ra⟩:=r1.EA;exact⟨a,vs,rfl,.inl ⟨ha,λl hl=>k _ _ (bh hl _) (wD hl ra)⟩⟩
 case tup xs=>obtain⟨a,vs,rfl,ha,ra⟩:=r1.tup;exact⟨a,vs,rfl,.inr ⟨ha.sq,k _ _ (CS.refl _) (ha.rep ra)⟩⟩
@[simp] noncomputable def yQ:PV->Option PV
 | .int j=>if 0<=j/\j<=1000000 then some (.lst (dj 0 j)) else none
 | _=>none
@[simp] noncomputable def vC:PV->Option PV
 | .lst xs=>some (.lst xs.reverse)
 | _=>none
noncomputable def mF (d:PyData):List PyData->Nat->Option Nat
 | [],_=>none
 | e::es,n=>if PyData.eqv e d=true then some n else mF d es (n+1)
noncomputable def XZ (xs:List PV)(y:PV):Option Nat:=match toD y,dB xs with
 | some d,some ds=>if d.canLay0=true/\PyData.canLayAll0 ds=true/\d.depth<=32/\ds.length<=1000000 then mF d ds 0 else none
 | _,_=>none
@[simp] noncomputable def jM:PV->PV->Option PV
 | .lst xs,y=>(XZ xs y).map λn=>.int (n:Nat)
 | _,_=>none
noncomputable def uI (g:PV->Env->Option Env)(f:r6)(env:Env):Option Out:=(f env).bind λp=>(g p env).bind λe=>some (.nx e)
@[simp] theorem WX (g:PV->Env->Option Env)(f:r6)(env:Env):uI g f env=((f env).bind λp=>(g p env).bind λe=>some (.nx e)):=id rfl
theorem Fl {g:PV->Env->Option Env}(he:SE X b G .val e h)(hg:SG X b G tg g)(hs:swapsWithSole [tg] e pos.line X.env=pure false:=by rfl)(hw:swappedStores [tg] e X.env=pure none:=by rfl)
  (h1:(assignEach [tg] X.env).map (·.2)=[assign tg X.env]:=by rfl):SS X b G G L ro (.Assign [tg] e pos) (uI g h):=
 PS.imp (Gs he hg hs hw h1)<|by
  rintro D σ H ⟨Ow,env,o,E,hf,k⟩
  obtain⟨p,hp,z1⟩:=ao hf
  clear hf
  obtain⟨DF,he',z2⟩:=ao z1
  clear z1
  cases z2
  exact⟨Ow,env,p,E,hp,λv H' s r=>⟨Ow,env,p,DF,E.up s,r,he',fun σ' E'=>k Ow σ' H' E' (.of_same s)⟩⟩
end
section
variable {X:Cx}{b:BX}{G G' L:gV}{ro:Bool}{pos p p2 DJ:Pos}{m m1 m2:Md}{e e1 e2:Expr}{f f1 f2 h:r6}
theorem Fo {x:PV}(e:yQ x=some q):∃n:Nat,x=.int (n:Nat)/\n<=1000000/\q=.lst (dj 0 (n:Nat)):=by
 unfold yQ at e
 split at e
 ·split at e
  ·rename_i j hj
   cases e
   have ej:j=((j.toNat:Nat):Int):=by omega
   exact⟨j.toNat,by rw[← ej],by omega,by rw[← ej]⟩
  ·cases e
 ·cases e
theorem Kl (hm:X.mg "list" = none)(OC:X.mg "range" = none)(h:SE X b G m1 e f)(hc:X.calm=true:=by rfl)(hg:Gl X "list" := by rfl)(OB:Gl X "range" := by rfl)(hs:starEach [e] X.env=[(false,eval e X.env)]:=by rfl)(HA:starEach [e] X.env=(false,eval e X.env)::starEach [] X.env:=by rfl)
  (Fh:starEach [.Call (.Name "range" p2) [e] [] DJ] X.env=(false,eval (.Call (.Name "range" p2) [e] [] DJ) X.env)::starEach [] X.env:=by rfl) (FA:(backTo pos (starEach [] X.env)).any (·.1)=false:=by rfl):
  SE X b G .own (.Call (.Name "list" p) [.Call (.Name "range" p2) [e] [] DJ] [] pos) (b1 yQ f):=by
 refine PE.imp (J3 hg hm OB OC hc (bN h.bor cI HA) hs Fh FA) ?_
 rintro σ H Q ⟨Ow,env,q,E,hf,k⟩
 obtain⟨x,hx,hf⟩:=ao hf
 obtain⟨n,rfl,hn,rfl⟩:=Fo hf
 refine⟨Ow,env,_,E,hx,λv H1 s r=>?_⟩
 have r1:CU b.C (Bs b Ow) H1 v (.int (n:Nat)):=r
 refine⟨n,by rw[r1.int],hn,λl hl=>k _ _ (s.new hl _) (Res.down s (gf hl ?_))⟩
 have rr:CM b.C (Bs b Ow) H1 ((List.range n).map λi=>V.int (i:Nat)) ((List.range n).map λi=>PV.int (i:Nat)):=wA _ _ (λi=>.int _) _
 have e1:dj 0 (n:Nat)=(List.range n).map λi=>PV.int (i:Nat):=by unfold dj;simp
 rw[e1]
 exact rr
theorem Fp {x:PV}(e:vC x=some q):∃xs,x=.lst xs/\q=.lst xs.reverse:=by
 unfold vC at e
 split at e
 ·cases e;exact⟨_,rfl,rfl⟩
 ·cases e
theorem Ac (hm:X.mg "list" = none)(OC:X.mg "reversed" = none)(h:SE X b G m1 e f)(hb:bootBuiltins "reversed" = some (.type "reversed"):=by decide +kernel)(hK:X.K=b.C.K:=by rfl)(hc:X.calm=true:=by rfl)(hg:Gl X "list" := by rfl)(OB:Gl X "reversed" := by rfl)(HA:starEach [e] X.env=(false,eval e X.env)::starEach [] X.env:=by rfl)(Kj:(backTo DJ (starEach [] X.env)).any (·.1)=false:=by rfl)
  (Fh:starEach [.Call (.Name "reversed" p2) [e] [] DJ] X.env=(false,eval (.Call (.Name "reversed" p2) [e] [] DJ) X.env)::starEach [] X.env:=by rfl) (FA:(backTo pos (starEach [] X.env)).any (·.1)=false:=by rfl):
  SE X b G .own (.Call (.Name "list" p) [.Call (.Name "reversed" p2) [e] [] DJ] [] pos) (b1 vC f):=by
 refine PE.imp (J6 hg hm OB OC hb hc (bN h.bor cI HA) HA Kj Fh FA) ?_
 rintro σ H Q ⟨Ow,env,q,E,hf,k⟩
 rw[hK]
 obtain⟨x,hx,hf⟩:=ao hf
 obtain⟨xs,rfl,rfl⟩:=Fp hf
 refine⟨Ow,env,_,E,hx,λv H1 s r=>?_⟩
 have r1:CU b.C (Bs b Ow) H1 v (.lst xs):=r
 obtain⟨a,vs,rfl,ha,ra⟩:=r1.lst
 exact⟨a,vs,rfl,DL.of ha,λl hl=>k _ _ (s.new hl _) (Res.down s (gf hl ra.reverse))⟩
theorem uw {d:PyData}:∀{ds:List PyData}{k n:Nat},mF d ds k=some n->∃j,n=k+j/\(∃e,ds[j]?=some e/\PyData.eqv e d=true)/\∀m e,m < j->ds[m]?=some e->PyData.eqv e d=false
 | [],k,n,h=>by cases h
 | e::ds,k,n,h=>by
  unfold mF at h
  cases q:PyData.eqv e d with
  | true=>
   rw[be q] at h
   cases h
   exact⟨0,rfl,⟨e,rfl,q⟩,λm e hm=>by omega⟩
  | false=>
   rw[a7 (by rw[q];decide)] at h
   obtain⟨j,h1,⟨e',h2,h3⟩,h4⟩:=uw h
   refine⟨j+1,by omega,⟨e',by simpa using h2,h3⟩,λm e1 hm he=>?_⟩
   cases m with
   | zero=>simp at he;rw[← he];exact q
   | succ m=>exact h4 m e1 (by omega) (by simpa using he)
theorem Cg {x y:PV}(e:jM x y=some q):∃xs d ds j,x=.lst xs/\toD y=some d/\dB xs=some ds/\d.canLay0=true/\PyData.canLayAll0 ds=true/\d.depth<=32/\(∃e,ds[j]?=some e/\PyData.eqv e d=true)/\(∀m e,m < j->ds[m]?=some e->PyData.eqv e d=false)/\ds.length<=1000000/\q=.int (j:Nat):=by
 unfold jM at e
 split at e
 ·rename_i xs
  unfold XZ at e
  split at e
  ·rename_i d ds h1 h2
   split at e
   ·rename_i hc
    cases q2:mF d ds 0 with
    | none=>rw[q2] at e;cases e
    | some n=>
     rw[q2] at e
     cases e
     obtain⟨j,e1,e2,e3⟩:=uw q2
     rw[i9] at e1
     subst e1
     exact⟨_,d,ds,n,rfl,h1,h2,hc.1,hc.2.1,hc.2.2.1,e2,e3,hc.2.2.2,rfl⟩
   ·cases e
  ·cases e
 ·cases e
theorem Ad {j:Nat}{o:Expr}{fo:r6}(hr:DD j X.A)(ho:SE X b G m1 o fo)(h:SE X b G m2 e f)(hK:X.K=b.C.K:=by rfl)(EI:attributeBase o "index" X.env (eval o X.env)=eval o X.env:=by rfl)
  (Iq:((backTo C5 (starEach [e] X.env)).all (λx=>!x.1)&&(backToKw C5 (keywordEach [] X.env)).all (λx=>x.1.isSome)
   && decide ([e].length+([]:List Keyword).length+(if ([]:List Keyword).isEmpty then 0 else 1) < 30))=true:=by rfl)
  (EJ:(apos.endLine == C5.line)=true:=by rfl) (hs:starEach [e] X.env=(false,eval e X.env)::starEach [] X.env:=by rfl):
  SE X b G .val (.Call (.Attribute o "index" apos) [e] [] C5) (b2 jM fo f):=by
 refine PE.imp (qM fb PySem.F.slot_list_index PySem.F.type_list_index (J7 hr.units) ho.bor (bN h.bor cI hs) EI Iq EJ hs rfl) ?_
 rintro σ H Q ⟨Ow,env,q,E,hf,k⟩
 rw[hK]
 obtain⟨x,hx,z1⟩:=ao hf
 clear hf
 obtain⟨y,hy,z2⟩:=ao z1
 clear z1
 obtain⟨xs,d,ds,jj,rfl,t1,t2,c1,c2,c3,w1,w2,w3,rfl⟩:=Cg z2
 refine⟨Ow,env,_,E,hx,λv H1 s r=>?_⟩
 have r1:CU b.C (Bs b Ow) H1 v (.lst xs):=r
 obtain⟨a,vs,rfl,ha,ra⟩:=r1.lst
 refine⟨.inl ⟨rfl,_,DL.of ha⟩,Ow,env,y,E.up s,hy,λv2 H2 s2 r2=>?_⟩
 have Lc:CU b.C (Bs b Ow) H2 v2 y:=r2
 have Kt:CU b.C (Bs b Ow) H2 (.ref a) (.lst xs):=CU.ex (.of_same s2) s2 r1
 have hlen:jj<=1000000:=by
  obtain⟨e,he,_⟩:=w1
  rcases ef jj ds.length with z | z
  ·omega
  ·rw[bo z] at he;cases he
 exact⟨v2,d,ds,jj,rfl,Kt.dt (by simp[toD,t2]),Lc.dt t1,c2,c1,c3,w1,w2,hlen,k _ H2 (s.trans s2) (.int _)⟩
end
theorem Ae {α:Type}{us:List α}(hl:us.length=n+1):∃a r,us=a::r/\r.length=n:=by
 cases us with
 | nil=>cases hl
 | cons a r=>exact⟨a,r,rfl,rg hl⟩
@[elab_as_elim] theorem len0 {α:Type}{P:List α->Prop}(us:List α)(hl:us.length=0)(h:P []):P us:=by
 cases us with
 | nil=>exact h
 | cons a r=>cases hl
@[elab_as_elim] theorem S6 {α:Type}{P:List α->Prop}(us:List α)(hl:us.length=1)(h:∀a,P [a]):P us:=by
 obtain⟨a,r,rfl,hr⟩:=Ae hl
 exact len0 (P:=λr=>P (a::r)) r hr (h a)
@[elab_as_elim] theorem S7 {α:Type}{P:List α->Prop}(us:List α)(hl:us.length=2)(h:∀a b,P [a,b]):P us:=by
 obtain⟨a,r,rfl,hr⟩:=Ae hl
 exact S6 (P:=λr=>P (a::r)) r hr (h a)
@[elab_as_elim] theorem S8 {α:Type}{P:List α->Prop}(us:List α)(hl:us.length=3)(h:∀a b c,P [a,b,c]):P us:=by
 obtain⟨a,r,rfl,hr⟩:=Ae hl
 exact S7 (P:=λr=>P (a::r)) r hr (h a)
@[elab_as_elim] theorem S9 {α:Type}{P:List α->Prop}(us:List α)(hl:us.length=4)(h:∀a b c d,P [a,b,c,d]):P us:=by
 obtain⟨a,r,rfl,hr⟩:=Ae hl
 exact S8 (P:=λr=>P (a::r)) r hr (h a)
@[elab_as_elim] theorem Wn {α:Type}{P:List α->Prop}(us:List α)(hl:us.length=5)(h:∀a b c d e,P [a,b,c,d,e]):P us:=by
 obtain⟨a,r,rfl,hr⟩:=Ae hl
 exact S9 (P:=λr=>P (a::r)) r hr (h a)
@[simp] noncomputable def jG:PV->Option (List PV)
 | .lst xs=>some xs
 | .EA xs=>some xs
 | .tup xs=>some xs
 | .He xs=>some xs
 | _=>none
def kd:PV->SK
 | .tup _=>.T
 | .He _=>.T
 | _=>.L
noncomputable def iZ2 (f g:r6)(env:Env):Option (List PV):=(f env).bind λp=>(g env).bind λq=>(jG p).bind λxs=>(jG q).bind λys=>some (j7 xs ys)
@[simp] theorem Xi (f g:r6)(env:Env):iZ2 f g env=((f env).bind λp=>(g env).bind λq=>(jG p).bind λxs=>(jG q).bind λys=>some (j7 xs ys)):=id rfl
section
variable {X:Cx}{b:BX}{G G' L:gV}{ro:Bool}{pos p:Pos}{m m1 m2:Md}{e e1 e2:Expr}
theorem nY {H2:Hp}{p:PV}{xs:List PV}(E:ER b Ow G σ env H)(r:Res b Ow H H2 m v p)(MQ:fr=true->m≠.bor)(hs:jG p=some xs):
  ∃a vs,v=.ref a/\SK.sq (kd p) b.C.K H2 a vs/\CM b.C (Bs b Ow) H2 vs xs/\∀C6 H3,(fr=false->CS H2 H3)->Ex (Bs b Ow) H2 (Bs b C6) H3->SK.sq (kd p) b.C.K H3 a vs/\CM b.C (Bs b C6) H3 vs xs:=by
 have b1:CU b.C (Bs b Ow) H2 v p:=r.bor
 unfold jG at hs
 split at hs
 ·cases hs
  obtain⟨a,vs,rfl,ha,ra⟩:=b1.lst
  refine⟨a,vs,rfl,DL.of ha,ra,λC6 H3 h0 hx=>?_⟩
  have hq:H3 a=some (.lst vs):=by
   cases fr with
   | false=>exact h0 rfl _ _ ha
   | true=>
    have rv:Rep b.C (Bs b Ow) H2 (.ref a) (.lst _):=r.val E (MQ rfl)
    cases rv with
    | lst q1 q2 q3=>rw[ha] at q1;cases q1;exact((hx _ _ ha).1 q2).1
  exact⟨DL.of hq,ra.ex hx⟩
 ·cases hs
  have r1:Rep b.C (Bs b Ow) H2 v (.EA _):=(by rcases b1 with z | ⟨_,_,z⟩;exact z;exact z.elim)
  cases r1 with
  | LW q1 q3=>exact⟨_,_,rfl,.inl (.inr ⟨_,q1⟩),q3,λC6 H3 h0 hx=>⟨.inl (.inr ⟨_,(hx _ _ q1).2 rfl⟩),q3.ex hx⟩⟩
  | lstK q1 q3=>exact⟨_,_,rfl,Yq q1,q3,λC6 H3 h0 hx=>⟨Yq q1,q3.ex hx⟩⟩
 ·cases hs
  obtain⟨a,vs,rfl,ha,ra⟩:=b1.tup
  exact⟨a,vs,rfl,ha.sq,ra,λC6 H3 h0 hx=>⟨(ha.ex hx).sq,ra.ex hx⟩⟩
 ·cases hs
  have r1:Rep b.C (Bs b Ow) H2 v (.He _):=(by rcases b1 with z | ⟨_,_,z⟩;exact z;exact z.elim)
  cases r1 with
  | tupK q1 q3=>exact⟨_,_,rfl,uD q1,q3,λC6 H3 h0 hx=>⟨uD q1,q3.ex hx⟩⟩
 ·cases hs
theorem PI.all {α:Type}{iter:Expr}{wi:α->TI}(h:∀a,PI X tg iter (wi a)):PI X tg iter (fun σ H R=>∃a,wi a σ H R):=λCI s σ H R I ⟨a,q⟩=>h a CI s σ H R I q
theorem Oh {h1 h2:r6}{x1:Nat}{tpos:Pos}(hm:X.mg "zip" = none)(he:SE X b G m1 e1 h1)(Jn:SE X b G m2 e2 h2)(MQ:fr=true->m1≠.bor)(SY:fr=true->m2≠.bor)(hK:X.K=b.C.K:=by rfl)(hg:Gl X "zip" := by rfl)
  (hs:starEach [e1,e2] X.env=(false,eval e1 X.env)::starEach [e2] X.env:=by rfl) (Fh:starEach [e2] X.env=(false,eval e2 X.env)::starEach [] X.env:=by rfl) (hp:(backTo pos (starEach [e2] X.env)).any (·.1)=false:=by rfl):
  SI X b G fr (.Tuple es x1 tpos) (.Call (.Name "zip" p) [e1,e2] [] pos) (iZ2 h1 h2):=by
 refine PI.imp (PI.all λk:SK×SK=>NK (k1:=k.1) (k2:=k.2) hg hm (bN he (bN Jn cI Fh) hs) hs hp) ?_
 rintro σ H R ⟨Ow,env,ps,E,hf,k⟩
 rw[hK]
 obtain⟨p1,SV,z1⟩:=ao hf
 clear hf
 obtain⟨p2,Kj,z2⟩:=ao z1
 clear z1
 obtain⟨xs,QY,z3⟩:=ao z2
 clear z2
 obtain⟨ys,UP,z4⟩:=ao z3
 clear z3
 cases z4
 refine⟨(kd p1,kd p2),Ow,env,p1,E,SV,λv H1 s r=>⟨Ow,env,p2,E.up s,Kj,λv2 H2 s2 r2=>?_⟩⟩
 obtain⟨a,vs,rfl,qa,ra,ka⟩:=nY (fr:=fr) E (Res.up r s2) MQ QY
 obtain⟨c,us,rfl,qc,rc,kc⟩:=nY (fr:=fr) (E.up s) r2 SY UP
 refine⟨a,c,rfl,⟨vs,qa⟩,⟨us,qc⟩,k _ _ (s.trans s2) λC6 H3 h0 hx hn=>?_⟩
 obtain⟨X0,OH⟩:=ka C6 H3 h0 hx
 obtain⟨X1,Zm⟩:=kc C6 H3 h0 hx
 have l1:=OH.length
 have l2:=Zm.length
 refine⟨λi p GS=>?_,⟨vs,us,X0,X1,?_⟩⟩
 ·unfold j7 at GS
  rw[lS] at GS
  cases qx:xs[i]? with
  | none=>rw[qx] at GS;simp at GS
  | some x=>
   cases qy:ys[i]? with
   | none=>rw[qx,qy] at GS;simp at GS
   | some y=>
    rw[qx,qy] at GS
    cases GS
    obtain⟨v,hv,rv⟩:=OH.get qx
    obtain⟨u,hu,ru⟩:=Zm.get qy
    refine⟨⟨vs,v,us,u,X0,hv,X1,hu⟩,λz H' yl=>?_⟩
    obtain⟨t,x',y',ht,e1,e2,y1,y2⟩:=yl
    subst e1 e2
    have e3:=y1 vs X0
    have e4:=y2 us X1
    rw[hv] at e3
    rw[hu] at e4
    cases e3
    cases e4
    exact⟨bh ht _,.tup bc (.cons (rv.ex (.of_same (bh ht _))) (.cons (ru.ex (.of_same (bh ht _))) .nil))⟩
 ·unfold j7
  rw[qE]
  omega
end
end MR
namespace L2
open PySem PySem.Spec PyProof PyProof.Rows
section
variable {X:Cx}
theorem Km (hc:X.calm=true:=by rfl):DU X (.builtin "sum") (λxs H Q=>∃(p:Addr) (ns:rq),xs=[.ref p]/\DL X.K H p (ns.map V.int)/\Q (.int ns.sum) H):=by
 intro CI s σ H xs us Q I r h
 obtain⟨l,ns,rfl,hq,q⟩:=h
 obtain⟨u,rfl,rx⟩:=vals1 r
 cases rx
 obtain⟨CL,r',pl,hz⟩:=I.list hq
 have hi:=intsAre_of r'
 obtain⟨ys,hy⟩:=hi.allInts.items
 have hl:s.heap.IsList l (intItems ys):=hy▸pl.isList
 refine sum_intListG (I.ok.hd hc) hl λh' tk t' hk=>⟨.int ns.sum,H,I.kept hk,⟨t',?_⟩,q⟩
 have e1:ns=ys.toList.map (·.1):=by
  rw[← nums_intItems,← hy]
  exact(show numsOf CL.toArray.toList=ns from hi.numsOf).symm
 rw[preSum_eq,el (by simp),← e1]
end
end L2
namespace MR
open PySem L2
section
variable {X:Cx}{b:BX}{G G' L:gV}{pos p p2 DJ:Pos}{m m1 m2:Md}{e:Expr}{f:r6}
@[simp] noncomputable def DO:List PV->Option (List Int)
 | []=>some []
 | .int c::r=>(DO r).map (c::·)
 | _::_=>none
theorem CM.DO {C:MC}{A:Addr->Prop}{H:Hp}:∀{vs:List V}{ps:List PV}{bs:rq},CM C A H vs ps->DO ps=some bs->vs=bs.map V.int
 | _,_,_,.nil,e=>by cases e;rfl
 | _,_,_,.cons (p:=p) (ps:=ps) h t,e=>by
  cases p <;> simp only[MR.DO] at e <;> first | cases e | skip
  rename_i c
  cases q:MR.DO ps with
  | none=>rw[q] at e;cases e
  | some bs=>rw[q] at e;cases e;cases h;rw[CM.DO t q];rfl
@[simp] noncomputable def pN:PV->Option PV
 | .lst xs=>(DO xs).map λns=>.int ns.sum
 | _=>none
theorem vD (hm:X.mg "sum" = none)(h:SE X b G m1 e f)(OG:X.calm=true:=by rfl)(hK:X.K=b.C.K:=by rfl)(hg:Gl X "sum" := by rfl)(he:starEach [e] X.env=(false,eval e X.env)::starEach [] X.env:=by rfl):SE X b G .val (.Call (.Name "sum" p) [e] [] pos) (b1 pN f):=by
 refine zX (Km OG) (λOw H v1 p1 p Q hn r1 e k=>?_) hm PyProof.Rows.boot_sum h hg (by decide) (by decide) he
 rw[hK]
 cases p1 <;> simp only[pN] at e <;> first | cases e | skip
 rename_i xs
 obtain⟨a,vs,rfl,ha,ra⟩:=r1.lst
 cases q:MR.DO xs with
 | none=>rw[q] at e;cases e
 | some ns=>
  rw[q] at e
  cases e
  have hv:=ra.DO q
  subst hv
  exact⟨a,ns,rfl,DL.of ha,k _ H (CS.refl _) (.int _)⟩
end
variable {fr:Bool}
section
variable {X:Cx}{b:BX}{G G' L:gV}{ro:Bool}{pos p p2 DJ:Pos}{m m1 m2:Md}{e:Expr}{h:r6}
noncomputable def Fq (f:r6)(env:Env):Option (List PV):=(f env).bind λp=>(jG p).bind λxs=>some xs.reverse
@[simp] theorem WY (f:r6)(env:Env):Fq f env=((f env).bind λp=>(jG p).bind λxs=>some xs.reverse):=id rfl
def Wo (K:W.Frag)(k:SK)(a:Addr)(n:Nat):It:=match k with
 | .L=>Itv K a n
 | .T=>Kc K a n
def Wq (K:W.Frag)(k:SK)(ta:TA):TI:=fun σ H R=>ta σ H λvs H1=>∃a xs,vs=[.ref a]/\k.sq K H1 a xs/\R (Wo K k a xs.length) H1
theorem S_ {tg l:Expr}{ta:TA}{p pos:Pos}(k:SK)(hg:Gl X "reversed")(hm:X.mg "reversed" = none)(ha:PA X [l] ta)(hb:bootBuiltins "reversed" = some (.type "reversed"))(hs:starEach [l] X.env=(false,eval l X.env)::starEach [] X.env:=by rfl)(hp:(backTo pos (starEach [] X.env)).any (·.1)=false:=by rfl):
  PI X tg (.Call (.Name "reversed" p) [l] [] pos) (Wq X.K k ta):=by
 cases k with
 | L=>exact Rt hg hm ha hb hs hp
 | T=>exact RM hg hm ha hb hs hp
theorem CV {tg:Expr}(hm:X.mg "reversed" = none)(he:SE X b G m1 e h)(MQ:fr=true->m1≠.bor:=by simp)(hb:bootBuiltins "reversed" = some (.type "reversed"):=by decide +kernel)(hK:X.K=b.C.K:=by rfl)(hg:Gl X "reversed" := by rfl)(hs:starEach [e] X.env=(false,eval e X.env)::starEach [] X.env:=by rfl)(hp:(backTo pos (starEach [] X.env)).any (·.1)=false:=by rfl):
  SI X b G fr tg (.Call (.Name "reversed" p) [e] [] pos) (Fq h):=by
 refine PI.imp (PI.all λk:SK=>S_ k hg hm (bN he cI hs) hb hs hp) ?_
 rintro σ H R ⟨Ow,env,ps,E,hf,k⟩
 rw[hK]
 obtain⟨x,hx,z1⟩:=ao hf
 clear hf
 obtain⟨xs,QY,z2⟩:=ao z1
 clear z1
 cases z2
 refine⟨kd x,Ow,env,x,E,hx,λv H1 s r=>?_⟩
 obtain⟨a,vs,rfl,qa,ra,ka⟩:=nY (fr:=fr) E r MQ QY
 refine⟨a,vs,rfl,qa,k _ _ s λC6 H2 h0 h1 hn=>?_⟩
 obtain⟨q2,r2⟩:=ka C6 H2 h0 h1
 have hlen:=r2.length
 have go:∀i p,xs.reverse[i]?=some p->∃u,i < vs.length/\vs[vs.length - 1 - i]?=some u/\Rep b.C (Bs b C6) H2 u p:=λi p GS=>by
  rcases ef i xs.length with z | z
  ·rw[pE z] at GS
   obtain⟨u,hu,ru⟩:=r2.get GS
   rw[← hlen] at hu
   exact⟨u,by omega,hu,ru⟩
  ·rw[bo (by simpa using z)] at GS
   cases GS
 cases hk:kd x with
 | L=>
  rw[hk] at q2
  refine⟨λi p GS=>?_,?_⟩
  ·obtain⟨u,hi,hu,ru⟩:=go i p GS
   refine⟨⟨vs,u,q2,rfl,hi,hu⟩,λy H' yl=>?_⟩
   obtain⟨e1,e2⟩:=yl
   subst e1
   have e3:=e2 vs q2
   rw[hu] at e3
   cases e3
   exact⟨CS.refl _,ru⟩
  ·show vs.length=xs.reverse.length
   rw[jS]
   exact hlen
 | T=>
  rw[hk] at q2
  refine⟨λi p GS=>?_,?_⟩
  ·obtain⟨u,hi,hu,ru⟩:=go i p GS
   refine⟨⟨vs,u,q2,rfl,hi,hu⟩,λy H' yl=>?_⟩
   obtain⟨e1,e2⟩:=yl
   subst e1
   have e3:=e2 vs q2
   rw[hu] at e3
   cases e3
   exact⟨CS.refl _,ru⟩
  ·show vs.length=xs.reverse.length
   rw[jS]
   exact hlen
end
@[simp] noncomputable def Tc:PV->Option (List PV)
 | .str x=>some (MX x)
 | p=>jG p
noncomputable def OK (f g:r6)(env:Env):Option (List PV):=(f env).bind λp=>(g env).bind λq=>(Tc p).bind λxs=>(jG q).bind λys=>some (j7 xs ys)
variable {tpos:Pos}
@[simp] theorem Xj (f g:r6)(env:Env):OK f g env=((f env).bind λp=>(g env).bind λq=>(Tc p).bind λxs=>(jG q).bind λys=>some (j7 xs ys)):=id rfl
section
variable {X:Cx}{b:BX}{G G' L:gV}{ro:Bool}{pos p:Pos}{m m1 m2:Md}{e e1 e2:Expr}
theorem lD {h1 h2:r6}{es:rl}{x1:Nat}(hm:X.mg "zip" = none)(he:SE X b G m1 e1 h1)(Jn:SE X b G m2 e2 h2)(MQ:fr=true->m1≠.bor:=by simp)(SY:fr=true->m2≠.bor:=by simp)(hK:X.K=b.C.K:=by rfl)(hg:Gl X "zip" := by rfl)
  (hs:starEach [e1,e2] X.env=(false,eval e1 X.env)::starEach [e2] X.env:=by rfl) (Fh:starEach [e2] X.env=(false,eval e2 X.env)::starEach [] X.env:=by rfl) (hp:(backTo pos (starEach [e2] X.env)).any (·.1)=false:=by rfl):
  SI X b G fr (.Tuple es x1 tpos) (.Call (.Name "zip" p) [e1,e2] [] pos) (OK h1 h2):=by
 have A:=Oh (fr:=fr) (es:=es) (x1:=x1) (tpos:=tpos) (p:=p) (pos:=pos) hm he Jn MQ SY hK hg hs Fh hp
 have B:=PI.all λk:SK=>N7 (X:=X) (k2:=k) (es:=es) (x1:=x1) (tpos:=tpos) (p:=p) (pos:=pos) hg hm (bN he (bN Jn cI Fh) hs) hs hp
 intro CI s0 σ H R I q
 obtain⟨Ow,env,ps,E,hf,k⟩:=q
 obtain⟨p1,SV,z1⟩:=ao hf
 obtain⟨p2,Kj,z2⟩:=ao z1
 obtain⟨xs,QY,z3⟩:=ao z2
 obtain⟨ys,UP,z4⟩:=ao z3
 by_cases F6:∃x,p1=.str x
 ·obtain⟨x,rfl⟩:=F6
  cases z4
  cases QY
  refine B CI s0 σ H R I ?_
  rw[hK]
  refine⟨kd p2,Ow,env,.str x,E,SV,λv H1 s r=>⟨Ow,env,p2,E.up s,Kj,λv2 H2 s2 r2=>?_⟩⟩
  have r1:CU b.C (Bs b Ow) H1 v (.str x):=r.bor
  have ev:=r1.str
  subst ev
  obtain⟨c,us,rfl,qc,rc,kc⟩:=nY (fr:=fr) (E.up s) r2 SY UP
  refine⟨x,c,rfl,⟨us,qc⟩,k _ _ (s.trans s2) λC6 H3 h0 hx hn=>?_⟩
  obtain⟨X1,Zm⟩:=kc C6 H3 h0 hx
  have l2:=Zm.length
  have l1:(MX x).length=x.cps.toList.length:=by unfold MX;rw[af]
  refine⟨λi p GS=>?_,⟨us,X1,?_⟩⟩
  ·unfold j7 at GS
   rw[lS] at GS
   cases qx:x.cps.toList[i]? with
   | none=>
    have:(MX x)[i]?=none:=by unfold MX;rw[ar,qx];rfl
    rw[this] at GS;simp at GS
   | some c0=>
    have qx':(MX x)[i]?=some (.str ⟨#[c0]⟩):=by unfold MX;rw[ar,qx];rfl
    cases qy:ys[i]? with
    | none=>rw[qx',qy] at GS;simp at GS
    | some y=>
     rw[qx',qy] at GS
     cases GS
     obtain⟨u,hu,ru⟩:=Zm.get qy
     refine⟨⟨c0,us,u,qx,X1,hu⟩,λz H' yl=>?_⟩
     obtain⟨t,c',y',ht,e1,e2,y1,y2⟩:=yl
     subst e1 e2
     have e4:=y2 us X1
     rw[qx] at y1
     rw[hu] at e4
     cases y1
     cases e4
     exact⟨bh ht _,.tup bc (.cons (.str _) (.cons (ru.ex (.of_same (bh ht _))) .nil))⟩
  ·unfold j7
   rw[qE,l1]
   omega
 ·refine A CI s0 σ H R I ⟨Ow,env,ps,E,?_,k⟩
  have hxs':jG p1=some xs:=by
   cases p1 <;> first | exact QY | exact absurd ⟨_,rfl⟩ F6
  show ((h1 env).bind λp=>(h2 env).bind λq=>(jG p).bind λxs=>(jG q).bind λys=>some (j7 xs ys))=some ps
  rw[SV]
  simp only[bE]
  rw[Kj]
  simp only[bE]
  rw[hxs',bE,UP]
  exact z4
end
section
variable {X:Cx}{b:BX}{G:gV}{pos:Pos}{m1 m2 m3:Md}{e1 e2 e3:Expr}{f1 f2 f3:r6}
theorem uJ {op VY:CmpOp}{g g':Int->Int->Bool}(ho:D5 X (compareOp op) (LM λi j=>.bl (g i j)))(ID:D5 X (compareOp VY) (LM λi j=>.bl (g' i j)))(h1:SE X b G m1 e1 f1)(h2:SE X b G m2 e2 f2)(h3:SE X b G m3 e3 f3)
  (hm:lastMarks [op,VY] [e2,e3]=false:=by with_unfolding_all rfl):ST X b G (.Compare e1 [op,VY] [e2,e3] pos) (tV (mD g g' f1 f2 f3)):=
 PT.imp (JM ho ID h1.bor h2.bor h3.bor hm)<|by
  rintro σ H Q ⟨Ow,env,c,E,hf,k⟩
  obtain⟨p,hf,Zb⟩:=ao hf
  obtain⟨i,j,q1,q2,hc⟩:=Ce hf
  refine⟨Ow,env,_,E,q1,λv1 H1 s1 r1=>⟨Ow,env,_,E.up s1,q2,λv2 H2 s2 r2=>?_⟩⟩
  have Kt:CU b.C (Bs b Ow) H2 v1 (.int i):=Res.up (m:=.bor) r1 s2
  have Lc:CU b.C (Bs b Ow) H2 v2 (.int j):=r2
  rw[Kt.int,Lc.int]
  refine⟨i,j,rfl,rfl,g i j,rfl,?_⟩
  rcases hc with ⟨hc,rfl⟩ | ⟨hc,l,q3,rfl⟩
  ·rw[hc]
   simp only[fe,ib]
   cases Zb
   exact⟨_,rfl,k H2 (s1.trans s2)⟩
  ·rw[hc]
   simp only[kA]
   refine⟨Ow,env,_,E.up (s1.trans s2),q3,λv3 H3 s3 r3=>?_⟩
   have r3':CU b.C (Bs b Ow) H3 v3 (.int l):=r3
   rw[r3'.int]
   cases Zb
   exact⟨_,_,rfl,rfl,_,rfl,k H3 (s1.trans (s2.trans s3))⟩
end
section
variable {X:Cx}{b:BX}{G G' L:gV}{pos p p2 DJ:Pos}{m m1 m2:Md}{e1 e2:Expr}{f1 f2:r6}
@[simp] noncomputable def jQ:PV->PV->Option PV
 | .int i,.int j=>some (.bl (decide (i < j)))
 | .lst xs,.lst ys=>(DO xs).bind λns=>(DO ys).bind λms=>some (.bl (HT.lexLt ns ms))
 | _,_=>none
theorem Td:IT b .val (λx y H Q=>LM (λi j=>.bl (decide (i < j))) x y H Q\/Ke b.C.K x y H Q) jQ:=by
 intro Ow H v1 v2 p1 p2 p Q hn r1 r2 e k
 unfold jQ at e
 split at e
 ·cases e
  rw[r1.int,r2.int]
  exact .inl ⟨_,_,rfl,rfl,k _ H (CS.refl _) (.bl _)⟩
 ·rename_i xs ys
  obtain⟨a,vs,rfl,ha,ra⟩:=r1.lst
  obtain⟨c,ws,rfl,hc,rc⟩:=r2.lst
  obtain⟨ns,q1,e⟩:=ao e
  obtain⟨ms,q2,e⟩:=ao e
  cases e
  have h1:=ra.DO q1
  have h2:=rc.DO q2
  subst h1 h2
  exact .inr ⟨a,c,ns,ms,rfl,rfl,DL.of ha,DL.of hc,k _ H (CS.refl _) (.bl _)⟩
 ·cases e
theorem sV {j:Nat}(hr:DD j X.A)(h1:SE X b G m1 e1 f1)(h2:SE X b G m2 e2 f2)(hK:X.K=b.C.K:=by rfl):SC X b G .Lt e1 e2 (b2 jQ f1 f2):=
 mX (r:=λx y H Q=>LM (λi j=>.bl (decide (i < j))) x y H Q\/Ke b.C.K x y H Q) (by rw[← hK];exact D5.or yH (RV hr.VZ)) Td h1 h2 (nq _)
end
noncomputable def S3 (f:r6)(env:Env):Option (List PV):=(f env).bind λp=>(jG p).bind λxs=>some (fQ 0 xs)
@[simp] theorem Xk (f:r6)(env:Env):S3 f env=((f env).bind λp=>(jG p).bind λxs=>some (fQ 0 xs)):=id rfl
section
variable {X:Cx}{b:BX}{G G' L:gV}{ro:Bool}{pos p:Pos}{m m1 m2:Md}{e e1 e2:Expr}
theorem jR {h:r6}{es:rl}{x1:Nat}(hm:X.mg "enumerate" = none)(he:SE X b G m e h)(MQ:fr=true->m≠.bor:=by simp)(hK:X.K=b.C.K:=by rfl)(hg:Gl X "enumerate" := by rfl)(hs:starEach [e] X.env=[(false,eval e X.env)]:=by rfl)(HA:starEach [e] X.env=(false,eval e X.env)::starEach [] X.env:=by rfl):
  SI X b G fr (.Tuple es x1 tpos) (.Call (.Name "enumerate" p) [e] [] pos) (S3 h):=by
 refine PI.imp (PI.all λk:SK=>Kf (k:=k) hg hm (bN he cI HA) hs) ?_
 rintro σ H R ⟨Ow,env,ps,E,hf,k⟩
 rw[hK]
 obtain⟨p1,SV,z1⟩:=ao hf
 clear hf
 obtain⟨xs,QY,z4⟩:=ao z1
 clear z1
 cases z4
 refine⟨kd p1,Ow,env,p1,E,SV,λv H1 s r=>?_⟩
 obtain⟨a,vs,rfl,qa,ra,ka⟩:=nY (fr:=fr) E r MQ QY
 refine⟨a,rfl,⟨vs,qa⟩,k _ _ s λC6 H3 h0 hx hn=>?_⟩
 obtain⟨X0,OH⟩:=ka C6 H3 h0 hx
 refine⟨λi p GS=>?_,⟨vs,X0,by rw[sO,OH.length]⟩⟩
 obtain⟨x,S4,rfl⟩:=xQ GS
 obtain⟨v,hv,rv⟩:=OH.get S4
 refine⟨⟨vs,v,X0,hv⟩,λy H' yl=>?_⟩
 obtain⟨t,x',ht,e1,e2,yl⟩:=yl
 subst e1 e2
 have e3:=yl vs X0
 rw[hv] at e3
 cases e3
 refine⟨bh ht _,.tup bc (.cons ?_ (.cons (rv.ex (.of_same (bh ht _))) .nil))⟩
 rw[i9]
 exact .int _
end
end MR
namespace HT
open PySem PyProof.Rows
def Te (A:Around)(s:Shared)(x y:Value)(r:Bool):Prop:=∀(prog:Program) (w:World) (E Q:dx),Q (.bool r) s->wpAny (model prog w) A (richCompare .Lt x y) Q E s
section
open PySem.SeqAt
open PySem.AutoSeq1 (wpAny_loadPart')
open PySem.MeetsSeq PySem.MeetsSeq2 PySem.MeetsSeq3
theorem Af (l b:Addr)(x1 x2 y1 y2:Value)(n n2:Nat)(dd QI:Option Addr)(sl UM:Array (Option Value))(e1 e2 r1 r2:Bool):
  Meets (Builtin.«tuple.__lt__» ⟨[.ref l,.ref b],[]⟩)
   (λA R s=>s.heap.get? l=some { cls:=.type "tuple",dict:=dd,data:=.seq #[x1,x2] n,slots:=sl }/\s.heap.get? b=some { cls:=.type "tuple",dict:=QI,data:=.seq #[y1,y2] n2,slots:=UM } /\
    EqAt A.in1 s x1 y1 e1/\(e1=true->EqAt A.in1 s x2 y2 e2)/\(e1=false->Te A.in1 s x1 y1 r1)/\(e1=true->e2=false->Te A.in1 s x2 y2 r2) /\
    R (.ok (.ret (.bool (if e1=true then (if e2=true then false else r2) else r1)))) s):=
 .of_wp λprog w A R s h=>by
  obtain⟨hp,g,d,tk,os⟩:=s;obtain⟨hl,hb,q1,q2,q3,q4,h⟩:=h
  have f2:=AutoSeq1.sub_tuple_tuple
  wp_walk using cv hl,cv hb,wpAny_forIn_list _ (λrest b s'=>b.1=none/\s'=⟨hp,g,d,tk,os⟩/\(rest=[(x1,y1),(x2,y2)]\/(rest=[(x2,y2)]/\e1=true)\/(rest=[]/\e1=true/\e2=true))) _
  case turn=>
   rintro ⟨y,x⟩ rest b s' ⟨NI,rfl,hz⟩
   rcases hz with hz | ⟨hz,NM⟩ | ⟨hz,_⟩
   ·injection hz with hyx OL
    injection hyx with hy hx
    subst hy hx
    refine ac (q1 prog w _ _ ?_)
    cases e1 with
    | true=>
     wp_walk
     exact⟨rfl,rfl,.inr (.inl ⟨OL,rfl⟩)⟩
    | false=>
     have Zg:=q3 rfl prog w
     wp_walk using Zg
     exact⟨_,rfl,by simpa using h⟩
   ·injection hz with hyx OL
    injection hyx with hy hx
    subst hy hx NM
    refine ac (q2 rfl prog w _ _ ?_)
    cases e2 with
    | true=>
     wp_walk
     exact⟨rfl,rfl,.inr (.inr ⟨OL,rfl,rfl⟩)⟩
    | false=>
     have Zg:=q4 rfl rfl prog w
     wp_walk using Zg
     exact⟨_,rfl,by simpa using h⟩
   ·cases hz
  case fin=>
   rintro ⟨b1,b2⟩ s' ⟨NI,rfl,hz⟩
   simp only at NI
   subst NI
   rcases hz with hz | ⟨hz,NM⟩ | ⟨_,NM,Jn⟩
   ·cases hz
   ·cases hz
   ·subst NM Jn
    wp_walk
    exact⟨_,rfl,by simpa [Builtin.Tuple.tupleCompareSizes] using h⟩
  case h=>
   exact⟨rfl,rfl,.inl rfl⟩
end
variable {ns:rq}
theorem Ci {vs:mA}{ms:rq}(h1:IntsAre vs ns)(h2:IntsAre vs ms):ns=ms:=by
 induction h1 generalizing ms with
 | nil=>cases h2;rfl
 | cons n t _ ih=>cases h2 with | cons _ _ h=>rw[ih h]
theorem Ag {vs:mA}(h:IntsAre vs ns):∀{j:Nat}{v:Value},vs[j]?=some v->∃a t,v=.int a t/\ns[j]?=some a:=by
 induction h with
 | nil=>intro j v e;simp at e
 | cons n t _ ih=>
  intro j v e
  cases j with
  | zero=>simp at e;exact⟨n,t,e.symm,by simp⟩
  | succ j=>obtain⟨a,u,h1,h2⟩:=ih (j:=j) (v:=v) (by simpa using e);exact⟨a,u,h1,by simpa using h2⟩
theorem ux {CL:rV}(h:IntsAre CL.toList ns){j:Nat}(hj:j < CL.size):∃a t,CL[j]=.int a t/\ns[j]?=some a:=
 Ag h (by simp[hj])
section
variable {A:Around}{s:Shared}
theorem rH {p q:Addr}{CL HM:rV}{ms:rq}(hl:s.heap.IsList p CL)(hb:s.heap.IsList q HM)(hi:IntsAre CL.toList ns)(hj:IntsAre HM.toList ms)(hu:A.units < cLine):SeqAt.EqAt A s (.ref p) (.ref q) (decide (ns=ms)):=by
 by_cases hpq:p=q
 ·subst hpq
  have e:CL=HM:=by
   obtain⟨o,ho,hc,n,hd⟩:=hl
   obtain⟨o2,QN,NG,n2,hd2⟩:=hb
   rw[ho] at QN
   cases QN
   rw[hd] at hd2
   cases hd2
   rfl
  subst e
  have e2:ns=ms:=Ci hi hj
  rw[bP e2]
  exact SeqAt.EqAt.same _
 ·refine SeqAt.EqAt.of_refs hpq ?_
  have z1:CL.size=ns.length:=by rw[← hi.length];simp
  have z2:HM.size=ms.length:=by rw[← hj.length];simp
  by_cases hs:CL.size=HM.size
  ·have key:∀(e:Nat->Bool),(∀j (h1:j < CL.size) (h2:j < HM.size),SeqAt.EqAt A.in1 s CL[j] HM[j] (e j))->((List.range CL.size).all e=decide (ns=ms))->SeqAt.RcAt A s (.ref p) (.ref q) (decide (ns=ms)):=λe he hh=>hh▸SeqAt.RcAt.lists hl hb hs hu he
   refine key (λj=>decide (ns[j]?=ms[j]?)) (λj h1 h2=>?_) ?_
   ·obtain⟨a,t,ha,na⟩:=ux hi h1
    obtain⟨c,u,hc,mc⟩:=ux hj h2
    rw[ha,hc,na,mc]
    have:=nI (A:=A.in1) (s:=s) a t c u
    have e:(a == c)=decide (some a=some c):=by by_cases z:a=c <;> simp[z]
    rw[← e]
    exact this
   ·have:((List.range CL.size).all λj=>decide (ns[j]?=ms[j]?))=true↔ns=ms:=by
     rw[cq]
     constructor
     ·intro hh
      apply kB
      intro i
      by_cases JJ:i < CL.size
      ·simpa using hh i (b6.mpr JJ)
      ·rw[bo (by omega),bo (by omega)]
     ·rintro rfl x _
      simp
    cases q:((List.range CL.size).all λj=>decide (ns[j]?=ms[j]?)) with
    | true=>exact(bP (this.mp q)).symm
    | false=>exact(ba λz=>by rw[this.mpr z] at q;cases q).symm
  ·rw[ba (λz=>hs (by rw[z1,z2,z]))]
   exact SeqAt.RcAt.lists_lengths hl hb (by simpa using hs) hu
end
noncomputable def EV (n1 n2 m1 m2:rq):Bool:=if n1=m1 then lexLt n2 m2 else lexLt n1 m1
theorem F9:∀ns:List Int,lexLt ns ns=false
 | []=>rfl
 | x::xs=>by rw[D8,be rfl];exact F9 xs
theorem Ll {prog:Program}{w:World}{A:Around}{E:dx}{s:Shared}{l b a1 a2 b1 b2:Addr}{i1 i2 j1 j2:rV}{n1 n2 m1 m2:rq}{Q:dx}
  (hl:IsTup s.heap l #[.ref a1,.ref a2]) (hb:IsTup s.heap b #[.ref b1,.ref b2]) (h1:s.heap.IsList a1 i1) (h2:s.heap.IsList a2 i2) (h3:s.heap.IsList b1 j1) (h4:s.heap.IsList b2 j2)
  (r1:IntsAre i1.toList n1) (r2:IntsAre i2.toList n2) (r3:IntsAre j1.toList m1) (r4:IntsAre j2.toList m2) (hu:A.units+1 < cLine) (h:Q (.bool (EV n1 n2 m1 m2)) s):wpAny (model prog w) A (compareOp .Lt (.ref l) (.ref b)) Q E s:=by
 obtain⟨⟨cls,dd,data,sl⟩,ho,hc,n,hd⟩:=id hl
 obtain⟨⟨cls2,QI,data2,UM⟩,QN,NG,n2',hd2⟩:=id hb
 simp only at hc hd NG hd2
 subst hc hd NG hd2
 have e:(if decide (n1=m1)=true then (if decide (n2=m2)=true then false else lexLt n2 m2) else lexLt n1 m1)=EV n1 n2 m1 m2:=by
  unfold EV
  by_cases q:n1=m1
  ·rw[be (bP q),be q]
   by_cases q2:n2=m2
   ·rw[be (bP q2),q2,F9]
   ·rw[a7 (by simpa using q2)]
  ·rw[a7 (by simpa using q),a7 q]
 refine richCompare_meets_room (op:=.Lt) ⟨_,ho,rfl⟩ ⟨_,QN,rfl⟩ PySem.F.slot_tuple_lt PySem.F.entry_tuple_lt (PySem.F.args_tuple_lt_2 _ _) (Af l b (.ref a1) (.ref a2) (.ref b1) (.ref b2) n n2' dd QI sl UM (decide (n1=m1)) (decide (n2=m2)) (lexLt n1 m1) (lexLt n2 m2))
  ⟨ho,QN,rH h1 h3 r1 r3 ?_,λ_=>rH h2 h4 r2 r4 ?_,λ_ prog w E Q q=>?_,λ_ _ prog w E Q q=>?_,?_⟩ (Nat.lt_of_succ_lt hu)
 ·exact hu
 ·exact hu
 ·exact FO (A:=A.in1) h1 h3 r1 r3 hu q
 ·exact FO (A:=A.in1) h2 h4 r2 r4 hu q
 ·rw[e]
  exact(show Value.bool (EV n1 n2 m1 m2)≠Value.notImplemented/\Q (.bool (EV n1 n2 m1 m2)) s from ⟨(λx=>nomatch x),h⟩)
end HT
namespace L2
open PySem PyProof.Rows
section
variable {X:Cx}
def Ft (K:W.Frag):R2:=λx y H Q=>∃a b a1 a2 b1 b2 n1 n2 m1 m2,x=.ref a/\y=.ref b/\FI K H a [.ref a1,.ref a2]/\FI K H b [.ref b1,.ref b2]/\DL K H a1 (n1.map V.int)/\DL K H a2 (n2.map V.int)/\DL K H b1 (m1.map V.int)/\DL K H b2 (m2.map V.int)/\Q (.bl (HT.EV n1 n2 m1 m2)) H
theorem HH {a b:Addr}{CL:mA}(r:Vals [.ref a,.ref b] CL):CL=[.ref a,.ref b]:=by
 cases r with
 | cons r1 r=>
  cases r with
  | cons r2 r=>
   cases r
   cases r1
   cases r2
   rfl
theorem Oi (hu:X.A.units+1 < cLine):D5 X (compareOp .Lt) (Ft X.K):=by
 intro CI s σ H x y v u Q I rx ry h
 obtain⟨a,b,a1,a2,b1,b2,n1,n2,m1,m2,rfl,rfl,ha,hb,g1,g2,g3,g4,q⟩:=h
 cases rx
 cases ry
 obtain⟨CL,r1,p1,_⟩:=I.tuple ha
 obtain⟨HM,r2,p2,_⟩:=I.tuple hb
 cases HH r1
 cases HH r2
 obtain⟨i1,k1,o1,_⟩:=I.list g1
 obtain⟨i2,k2,o2,_⟩:=I.list g2
 obtain⟨i3,k3,o3,_⟩:=I.list g3
 obtain⟨i4,k4,o4,_⟩:=I.list g4
 exact HT.Ll p1 p2 o1.isList o2.isList o3.isList o4.isList (intsAre_of k1) (intsAre_of k2) (intsAre_of k3) (intsAre_of k4) hu ⟨.bl _,H,I,rfl,q⟩
end
end L2
namespace MR
open PySem L2
inductive FY (C:MC) (A:Addr->Prop) (H:Hp):List Addr->List (List PV)->Prop
 | nil:FY C A H [] []
 | cons {c:Addr}{cs:rL}{us:List V}{ys:List PV}{DZ:List (List PV)}:H c=some (.lst us)->CM C A H us ys->FY C A H cs DZ->FY C A H (c::cs) (ys::DZ)
theorem FY.ex {C:MC}{A A':Addr->Prop}{H H':Hp}(e:Ex A H A' H'):∀{cs:rL}{DZ:List (List PV)},(∀c∈cs,H' c=H c)->FY C A H cs DZ->FY C A' H' cs DZ
 | _,_,_,.nil=>.nil
 | _,_,h,.cons q r t=>.cons ((h _ ah).trans q) (r.ex e) (FY.ex e (λc hc=>h c (ag _ hc)) t)
theorem FY.live {C:MC}{A:Addr->Prop}{H:Hp}:∀{cs:rL}{DZ:List (List PV)},FY C A H cs DZ->∀c∈cs,∃us,H c=some (.lst us)
 | _,_,.nil,c,hc=>by cases hc
 | _,_,.cons q r t,c,hc=>by
  rcases av.mp hc with z | z
  ·subst z;exact⟨_,q⟩
  ·exact FY.live t c z
theorem FY.length {C:MC}{A:Addr->Prop}{H:Hp}:∀{cs:rL}{DZ:List (List PV)},FY C A H cs DZ->cs.length=DZ.length
 | _,_,.nil=>rfl
 | _,_,.cons q r t=>by rw[bg,bg,FY.length t]
theorem FY.Zn {C:MC}{A A':Addr->Prop}{H:Hp}(e:Ex A H A' H):∀{cs:rL}{DZ:List (List PV)},(∀c∈cs,A' c)->FY C A H cs DZ->CM C A' H (cs.map V.ref) (DZ.map PV.lst)
 | _,_,_,.nil=>.nil
 | _,_,h,.cons q r t=>.cons (.lst q (h _ ah) (r.ex e)) (FY.Zn e (λc hc=>h c (ag _ hc)) t)
theorem FY.get {C:MC}{A:Addr->Prop}{H:Hp}:∀{cs:rL}{DZ:List (List PV)}{j:Nat}{ys:List PV},FY C A H cs DZ->DZ[j]?=some ys->∃c us,cs[j]?=some c/\H c=some (.lst us)/\CM C A H us ys
 | _,_,_,_,.nil,e=>by simp at e
 | _,_,0,_,.cons q r t,e=>by simp at e;subst e;exact⟨_,_,rfl,q,r⟩
 | _,_,j+1,_,.cons q r t,e=>by
  obtain⟨c,us,h1,h2,h3⟩:=FY.get t (j:=j) (by simpa using e)
  exact⟨c,us,by simpa using h1,h2,h3⟩
theorem FY.set {C:MC}{A:Addr->Prop}{H H':Hp}{us:List V}{ys:List PV}(e:Ex A H A H')(r':CM C A H' us ys):∀{cs:rL}{DZ:List (List PV)}{j:Nat}{c:Addr},cs.Nodup->cs[j]?=some c->H' c=some (.lst us)->(∀x∈cs,x≠c->H' x=H x)->FY C A H cs DZ->FY C A H' cs (DZ.set j ys)
 | _,_,_,_,_,h,_,_,.nil=>by simp at h
 | _,_,0,_,nd,h,hc,k,.cons q r t=>by
  simp at h
  subst h
  rw[cr] at nd
  exact .cons hc r' (FY.ex e (λx hx=>k x (ag _ hx) λz=>nd.1 (z▸hx)) t)
 | _,_,j+1,_,nd,h,hc,k,.cons q r t=>by
  rw[cr] at nd
  have h':=h
  rw[lb] at h'
  have hm:=ax h'
  exact .cons ((k _ ah λz=>nd.1 (z▸hm)).trans q) (r.ex e) (FY.set e r' (j:=j) nd.2 h' hc (λx hx=>k x (ag _ hx)) t)
theorem FY.snoc {C:MC}{A:Addr->Prop}{H:Hp}{c:Addr}{us:List V}{ys:List PV}(q:H c=some (.lst us))(r:CM C A H us ys):∀{cs:rL}{DZ:List (List PV)},FY C A H cs DZ->FY C A H (cs++[c]) (DZ++[ys])
 | _,_,.nil=>.cons q r .nil
 | _,_,.cons q' r' t=>.cons q' r' (FY.snoc q r t)
def bn (b:BX)(i:Nat)(a:Addr)(cs:rL)(H:Hp):BX:=⟨b.C,λx=>b.A x/\x∉a::cs,λx=>if x∈a::cs then H x else b.H0 x,λj=>if j=i then some (.ref a) else b.fx j⟩
def KN (b:BX)(Ow:Addr->Prop)(a:Addr)(cs:rL)(x:Addr):Prop:=Bs b Ow x/\x∉a::cs
variable {i:Nat}{a:Addr}{H H':Hp}
theorem Vl {b:BX}{cs:rL}(h:∀x∈a::cs,H' x=H x):bn b i a cs H'=bn b i a cs H:=by
 unfold bn
 congr 1
 funext x
 by_cases hx:x∈a::cs
 ·rw[be hx,be hx,h x hx]
 ·rw[a7 hx,a7 hx]
variable {Ow:Addr->Prop}
theorem jP {b:BX}{cs:rL}(lv:∀x∈a::cs,∃o,H x=some o){x:Addr}:Bs (bn b i a cs H) Ow x↔KN b Ow a cs x:=by
 constructor
 ·rintro ⟨n,(⟨h,z⟩ | h)⟩
  ·exact⟨⟨n,.inl h⟩,z⟩
  ·have h':(if x∈a::cs then H x else b.H0 x)=none:=h
   by_cases hx:x∈a::cs
   ·rw[be hx] at h'
    obtain⟨o,e⟩:=lv x hx
    rw[h'] at e;cases e
   ·rw[a7 hx] at h'
    exact⟨⟨n,.inr h'⟩,hx⟩
 ·rintro ⟨⟨n,(h | h)⟩,z⟩
  ·exact⟨n,.inl ⟨h,z⟩⟩
  ·exact⟨n,.inr (by show (if x∈a::cs then H x else b.H0 x)=none;rw[a7 z];exact h)⟩
structure EN (b:BX)(Ow:Addr->Prop)(G:gV)(i:Nat)(σ:St)(env:Env)(H:Hp)(a:Addr)(cs:rL)(DZ:List (List PV)):Prop where
 val:env[i]?=some (some (.lst (DZ.map PV.lst)))
 top:H a=some (.lst (cs.map V.ref))
 nd:(a::cs).Nodup
 new:∀x∈a::cs,b.H0 x=none
 MY:FY b.C (KN b Ow a cs) H cs DZ
 er:ER (bn b i a cs H) Ow G σ (env.set i none) H
section
variable {b:BX}{Ow:Addr->Prop}{G:gV}{i:Nat}{σ:St}{env:Env}{H H':Hp}{a:Addr}{cs:rL}{DZ:List (List PV)}
theorem EN.live (E:EN b Ow G i σ env H a cs DZ):∀x∈a::cs,∃o,H x=some o:=λx hx=>by
 rcases av.mp hx with z | z
 ·subst z;exact⟨_,E.top⟩
 ·obtain⟨us,h⟩:=E.MY.live x z;exact⟨_,h⟩
theorem EN.slot (E:EN b Ow G i σ env H a cs DZ):σ[i]?=some (some (.ref a)):=E.er.fix i (.ref a) (by show (if i=i then _ else _)=_;rw[be rfl])
theorem EN.OM (E:EN b Ow G i σ env H a cs DZ):∀x∈a::cs,¬ Ow x:=λx hx w=>by
 have h:=E.er.new x w
 have h':(if x∈a::cs then H x else b.H0 x)=none:=h
 rw[be hx] at h'
 obtain⟨o,e⟩:=E.live x hx
 rw[h'] at e;cases e
theorem EN.of {C6:Addr->Prop}{σ':St}{e:Env}(E:EN b Ow G i σ env H a cs DZ)(E':ER (bn b i a cs H) C6 G σ' e H')(x:Ex (Bs (bn b i a cs H) Ow) H (Bs (bn b i a cs H) C6) H'):
  EN b C6 G i σ' (e.set i (some (.lst (DZ.map PV.lst)))) H' a cs DZ/\Ex (KN b Ow a cs) H (KN b C6 a cs) H':=by
 have st:∀y∈a::cs,H' y=H y:=λy hy=>by
  obtain⟨o,h⟩:=E.live y hy
  rw[h]
  exact E'.same y o (by show (if y∈a::cs then H y else b.H0 y)=some o;rw[be hy];exact h)
 have lv':∀y∈a::cs,∃o,H' y=some o:=λy hy=>by rw[st y hy];exact E.live y hy
 have x':Ex (KN b Ow a cs) H (KN b C6 a cs) H':=λc o hc=>⟨λq=>by
  obtain⟨h1,h2⟩:=(x c o hc).1 ((jP E.live).mpr q)
  exact⟨h1,(jP E.live).mp h2⟩,(x c o hc).2⟩
 have hl:i < e.length:=by
  have h:=E'.fix i (.ref a) (by show (if i=i then _ else _)=_;rw[be rfl])
  rw[← E'.len]
  rcases ef i σ'.length with z | z
  ·exact z
  ·rw[bo z] at h;cases h
 refine⟨⟨by rw[ck hl],by rw[st a ah];exact E.top,E.nd,E.new,E.MY.ex x' λc hc=>st c (ag _ hc),?_⟩,x'⟩
 rw[Vl st,pi]
 exact E'.forget i
theorem EN.up (E:EN b Ow G i σ env H a cs DZ)(s:CS H H'):EN b Ow G i σ env H' a cs DZ:=by
 have h:=(E.of (E.er.up s) (.of_same s)).1
 rw[pi] at h
 have hl:i < env.length:=by
  rcases ef i env.length with z | z
  ·exact z
  ·have:=E.val;rw[bo z] at this;cases this
 have e:env.set i (some (.lst (DZ.map PV.lst)))=env:=by
  refine kB λj=>?_
  by_cases hj:i=j
  ·subst hj;rw[ck hl,E.val]
  ·rw[ay hj]
 rw[e] at h
 exact h
theorem EN.out (E:EN b Ow G i σ env H a cs DZ)(hi:i∉G)(hx:b.fx i=none):ER b Ow G σ env H:=by
 have no:=E.OM
 have w:Ex (KN b Ow a cs) H (Bs b Ow) H:=cC λc o _ q=>q.1
 have w':Ex (Bs (bn b i a cs H) Ow) H (Bs b Ow) H:=cC λc o _ q=>((jP E.live).mp q).1
 have back:∀{j:Nat}{q:PV},i≠j->env[j]?=some (some q)->(env.set i none)[j]?=some (some q):=λ{j q} hj e=>by rw[ay hj];exact e
 refine⟨by rw[E.er.len,c8],λc o h=>E.er.same c o ?_,E.er.live,λc z=>?_,λj q e n=>?_,λj q e n=>?_,λj k c q q' e1 n1 s1 e2 n2 s2=>?_,λk v hv=>E.er.fix k v ?_⟩
 ·have hc:c∉a::cs:=λz=>by rw[E.new c z] at h;cases h
  show (if c∈a::cs then H c else b.H0 c)=some o
  rw[a7 hc];exact h
 ·have h:=E.er.new c z
  have h':(if c∈a::cs then H c else b.H0 c)=none:=h
  rw[a7 λy=>no c y z] at h'
  exact h'
 ·by_cases hj:i=j
  ·subst hj
   rw[E.val] at e
   cases e
   have ha:Bs b Ow a:=⟨no a ah,.inr (E.new a ah)⟩
   exact⟨_,E.slot,.lst E.top ha (E.MY.Zn w λc hc=>⟨no c (ag _ hc),.inr (E.new c (ag _ hc))⟩)⟩
  ·obtain⟨v,h1,h2⟩:=E.er.val j q (back hj e) n
   exact⟨v,h1,h2.ex w'⟩
 ·have hj:i≠j:=λz=>hi (z▸n)
  obtain⟨c,h1,h2,h3⟩:=E.er.own j q (back hj e) n
  exact⟨c,h1,h2,h3.ex w' λo z=>z⟩
 ·have hj:i≠j:=λz=>hi (z▸n1)
  have hk:i≠k:=λz=>hi (z▸n2)
  exact E.er.sep j k c q q' (back hj e1) n1 s1 (back hk e2) n2 s2
 ·show (if k=i then some (V.ref a) else b.fx k)=some v
  rw[a7 λz=>by rw[z,hx] at hv;cases hv]
  exact hv
end
def tNe (b:BX)(G:gV)(i:Nat)(f:Env->Option Out):TS:=λD σ H=>∃Ow env a cs DZ DF,EN b Ow G i σ env H a cs DZ/\f env=some (.nx DF) /\
 ∀C6 σ' H' cs' OQ,EN b C6 G i σ' DF H' a cs' OQ->(∀x∈cs,x∈cs')->Ex (KN b Ow a cs) H (KN b C6 a cs') H'->D.nx σ' H'
abbrev NS (X:Cx)(b:BX)(G:gV)(i:Nat)(st:Stmt)(f:Env->Option Out):Prop:=PS X st (tNe b G i f)
abbrev X2 (X:Cx)(b:BX)(G:gV)(i:Nat)(st:rk)(f:Env->Option Out):Prop:=Fu X st (tNe b G i f)
noncomputable def HI (i:Nat)(f:Env->Option Out)(env:Env):Option Out:=(f (env.set i none)).bind λo=>match o with
 | .nx e=>some (.nx (e.set i (env.getD i none)))
 | _=>none
@[simp] theorem Xl (i:Nat)(f:Env->Option Out)(env:Env):HI i f env=((f (env.set i none)).bind λo=>match o with
 | .nx e=>some (.nx (e.set i (env.getD i none)))
 | _=>none):=id rfl
noncomputable def Yw (i:Nat)(c:Env->Option Bool)(f g:Env->Option Out)(env:Env):Option Out:=(c (env.set i none)).bind λk=>if k=true then f env else g env
@[simp] theorem Ah (i:Nat)(c:Env->Option Bool)(f g:Env->Option Out)(env:Env):Yw i c f g env=((c (env.set i none)).bind λk=>if k=true then f env else g env):=id rfl
noncomputable def gH (i:Nat)(g:PV->Env->Option Env)(p:PV)(env:Env):Option Env:=(g p (env.set i none)).map λe=>e.set i (env.getD i none)
@[simp] theorem XN (i:Nat)(g:PV->Env->Option Env)(p:PV)(env:Env):gH i g p env=((g p (env.set i none)).map λe=>e.set i (env.getD i none)):=id rfl
noncomputable def KA (f:Env->Option Out)(env:Env):Option Out:=(f env).bind λo=>match o with
 | .nx e=>some (.nx e)
 | _=>none
@[simp] theorem Tf (f:Env->Option Out)(env:Env):KA f env=((f env).bind λo=>match o with
 | .nx e=>some (.nx e)
 | _=>none):=id rfl
noncomputable def Fv (i:Nat)(g:PV->Env->Option Env)(src:Env->Option (List PV))(ds:gV)(f:Env->Option Out)(env:Env):Option Out:=(src (env.set i none)).bind λxs=>bM (gH i g) ds (KA f) xs (E8 ds env)
@[simp] theorem Oj (i:Nat)(g:PV->Env->Option Env)(src:Env->Option (List PV))(ds:gV)(f:Env->Option Out)(env:Env):Fv i g src ds f env=((src (env.set i none)).bind λxs=>bM (gH i g) ds (KA f) xs (E8 ds env)):=id rfl
@[simp] noncomputable def UR:PV->PV->PV->Option PV
 | .lst ws,.int k,p=>(Kk ws.length k).bind λj=>(ws[j]?).bind λw=>match w with
  | .lst ys=>if ys.length < 1000000 then some (.lst (ws.set j (.lst (ys++[p])))) else none
  | _=>none
 | _,_,_=>none
noncomputable def uK (i:Nat)(f h:r6)(env:Env):Option Out:=(bV i env).bind λx=>(f (env.set i none)).bind λk=>(h (env.set i none)).bind λp=>(UR x k p).bind λy=>some (.nx (env.set i (some y)))
@[simp] theorem W0 (i:Nat)(f h:r6)(env:Env):uK i f h env=((bV i env).bind λx=>(f (env.set i none)).bind λk=>(h (env.set i none)).bind λp=>(UR x k p).bind λy=>some (.nx (env.set i (some y)))):=id rfl
@[simp] noncomputable def LY:PV->Option PV
 | .lst ws=>if ws.length < 1000000 then some (.lst (ws++[.lst []])) else none
 | _=>none
noncomputable def uL (i:Nat)(env:Env):Option Out:=(bV i env).bind λx=>(LY x).bind λy=>some (.nx (env.set i (some y)))
variable {env:Env}
@[simp] theorem W2 (i:Nat)(env:Env):uL i env=((bV i env).bind λx=>(LY x).bind λy=>some (.nx (env.set i (some y)))):=id rfl
section
variable {X:Cx}{b:BX}{G G' L:gV}{ro:Bool}{i:Nat}{st:Stmt}{rest:rk}{f g:Env->Option Out}{e e1 e2:Expr}{h h1 h2:r6}{m m1 m2:Md}{pos:Pos}
theorem Ai {i:Nat}{p:PV}(h:env[i]?=some (some p)):env.getD i none=some p:=by rw[a8,h];rfl
theorem Ml:X2 X b G i [] EK:=Fu.imp vZ<|by rintro D σ H ⟨Ow,env,a,cs,DZ,DF,E,hf,k⟩;cases hf;exact k Ow σ H cs DZ E (λ_ z=>z) (Ex.refl _ _)
theorem jN (x:NS X b G i st f)(c:X2 X b G i rest g):X2 X b G i (st::rest) (aC f g):=Fu.imp (ik x c)<|by
 rintro D σ H ⟨Ow,env,a,cs,DZ,DF,E,hf,k⟩
 unfold aC at hf
 cases q:f env with
 | none=>rw[q] at hf;cases hf
 | some o1=>
  rw[q] at hf
  cases o1 with
  | nx e'=>exact⟨Ow,env,a,cs,DZ,e',E,q,λYu σ1 H1 cs1 X3 E1 s1 x1=>⟨Yu,e',a,cs1,X3,DF,E1,hf,λEU σ2 H2 HP IU E2 s2 x2=>k EU σ2 H2 HP IU E2 (λz hz=>s2 z (s1 z hz)) (x1.trans x2)⟩⟩
  | bk e'=>cases hf
  | ct e'=>cases hf
  | rt p=>cases hf
theorem Fw (x:NS X b G i st f):X2 X b G i [st] f:=qd x
theorem j8 (x:∀a cs H,SS X (bn b i a cs H) G G [] false st f):NS X b G i st (HI i f):=by
 rintro CI s σ H D I ⟨Ow,env,a,cs,DZ,DF,E,hf,k⟩
 obtain⟨o,ho,z⟩:=ao hf
 refine x a cs H CI s σ H D I ⟨Ow,env.set i none,o,E.er,ho,?_⟩
 cases o with
 | nx e'=>
  rw[Ai E.val] at z
  cases z
  intro C6 σ' H' E' x'
  obtain⟨E2,x2⟩:=E.of E' x'
  exact k C6 σ' H' cs DZ E2 (λ_ z=>z) x2
 | bk e'=>cases z
 | ct e'=>cases z
 | rt p=>cases z
theorem Tg {c:Expr}{k:Env->Option Bool}{sa sb:rk}(hc:∀a cs H,ST X (bn b i a cs H) G c k)(ha:X2 X b G i sa f)(hb:X2 X b G i sb g):NS X b G i (.If c sa sb pos) (Yw i k f g):=by
 rintro CI s σ H D I ⟨Ow,env,a,cs,DZ,DF,E,hf,kk⟩
 obtain⟨p,hp,z1⟩:=ao hf
 refine Ek (hc a cs H) ha hb CI s σ H D I ⟨Ow,env.set i none,p,E.er,hp,λH' s'=>?_⟩
 have go:∀{f:Env->Option Out},f env=some (.nx DF)->tNe b G i f D σ H':=λ{f} hz=>⟨Ow,env,a,cs,DZ,DF,E.up s',hz,λEU σ2 H2 HP IU E2 s2 x2=>kk EU σ2 H2 HP IU E2 s2 ((Ex.of_same s').trans x2)⟩
 cases p with
 | true=>exact zG (go z1)
 | false=>exact zF (go z1)
end
variable {src:Env->Option (List PV)}
section
variable {X:Cx}{b:BX}{G G' L:gV}{ro:Bool}{i:Nat}{st:Stmt}{rest:rk}{f g:Env->Option Out}{e e1 e2:Expr}{h h1 h2:r6}{m m1 m2:Md}{pos:Pos}
def tGN (b:BX)(G:gV)(i:Nat)(g:PV->Env->Option Env):TG:=λv σ H Q=>∃a cs H0,tMG (bn b i a cs H0) G g v σ H Q
theorem CW:∀{ds:gV}{env:Env}{i:Nat},i∉ds->(E8 ds env)[i]?=env[i]?
 | [],_,_,_=>rfl
 | d::ds,env,i,h=>by
  rw[av,oj] at h
  show (E8 ds (env.set d none))[i]?=_
  rw[CW h.2,ay (gx h.1)]
theorem CZ:∀{ds:gV}{env:Env}{i:Nat}{v:Option PV},i∉ds->(E8 ds env).set i v=E8 ds (env.set i v)
 | [],_,_,_,_=>rfl
 | d::ds,env,i,v,h=>by
  rw[av,oj] at h
  show (E8 ds (env.set d none)).set i v=E8 ds ((env.set i v).set d none)
  rw[CZ h.2,List.set_comm _ _ (gx h.1)]
theorem EN.E8 {Ow:Addr->Prop}{σ:St}{env:Env}{H:Hp}{a:Addr}{cs:rL}{DZ:List (List PV)}{ds:gV}(E:EN b Ow G i σ env H a cs DZ)(hd:i∉ds):EN b Ow G i σ (E8 ds env) H a cs DZ:=
 ⟨by rw[CW hd];exact E.val,E.top,E.nd,E.new,E.MY,by rw[CZ hd];exact E.er.E8⟩
theorem Vm {tg it:Expr}{body:rk}{g:PV->Env->Option Env}{f:Env->Option Out}(ds:gV)(hi:∀a cs H,SI X (bn b i a cs H) G true tg it src)(hg:∀a cs H,SG X (bn b i a cs H) G tg g)(hb:X2 X b G i body f)
  (hp:PassesOwn (model X.prog X.w) X.A X.env X.xe) (hd:i∉ds:=by decide) (hc:X.calm=true:=by rfl) (hs:∀x,foldedSetIterable it X.env x=pure x:=by intro _;rfl):NS X b G i (.For tg it body [] pos) (Fv i g src ds f):=by
 rintro CI s σ H D I ⟨Ow,env,a,cs,DZ,DF,E,hf,k⟩
 obtain⟨ps,FD,hl⟩:=ao hf
 have hgN:PG X tg (tGN b G i g):=λCI s σ H v w Q I r ⟨a,cs,H0,q⟩=>hg a cs H0 CI s σ H v w Q I r q
 refine Gy hp hc (hi a cs H) hgN hb hs CI s σ H D I ⟨Ow,env.set i none,ps,E.er,FD,λJ H1 s1 iw=>?_⟩
 refine⟨λn m σ2 H2=>m=ps.length - n/\n<=ps.length/\∃EU EG HP IU,EN b EU G i σ2 EG H2 a HP IU/\(∀x∈cs,x∈HP)/\Ex (KN b Ow a cs) H1 (KN b EU a HP) H2/\bM (gH i g) ds (KA f) (ps.drop n) EG=some (.nx DF),⟨ps.length,by simp,c6 _,Ow,E8 ds env,cs,DZ,(E.up s1).E8 hd,λ_ z=>z,Ex.refl _ _,by simpa using hl⟩,?_⟩
 rintro n m σ2 H2 ⟨rfl,hn,EU,EG,HP,IU,E2,X4,x2,l2⟩
 have X5:∀x,x∉a::HP->x∉a::cs:=λx hx z=>hx (by
  rcases av.mp z with q | q
  ·rw[q];exact ah
  ·exact ag _ (X4 x q))
 have into:∀x,KN b EU a HP x->Bs (bn b i a cs H) (λy=>EU y\/y∈a::HP) x:=λx q=>by
  have z:=(jP (i:=i) E.live (Ow:=EU)).mpr ⟨q.1,X5 x q.2⟩
  exact⟨λy=>y.elim q.1.1 q.2,z.2⟩
 have Zo:∀x,Bs (bn b i a cs H) (λy=>EU y\/y∈a::HP) x->KN b EU a HP x:=λx q=>by
  have z:=(jP (i:=i) E.live (Ow:=λy=>EU y\/y∈a::HP)).mp q
  exact⟨⟨λy=>z.1.1 (.inl y),z.1.2⟩,λy=>z.1.1 (.inr y)⟩
 obtain⟨w1,w2⟩:=iw (λy=>EU y\/y∈a::HP) H2 (λz=>by cases z) (λc o hc=>⟨λq=>by
  obtain⟨h1,h2⟩:=(x2 c o hc).1 ((jP E.live).mp q)
  exact⟨h1,into c h2⟩,(x2 c o hc).2⟩) λc hc=>into c ((jP E2.live).mp (E2.er.fresh hc))
 have xk:Ex (KN b Ow a cs) H (KN b EU a HP) H2:=(Ex.of_same s1).trans x2
 by_cases DS:n < ps.length
 ·rw[eJ DS] at l2
  obtain⟨e1,NM,l2⟩:=ao l2
  obtain⟨o,ho,l2⟩:=ao l2
  obtain⟨e0,he0,rfl⟩:=eK.mp NM
  obtain⟨o',ID,hz⟩:=ao ho
  obtain⟨g1,g2⟩:=w1 n ps[n] (al DS)
  refine .inr ⟨g1,fun σ' H'=>n+1<=ps.length/\∃EU EG HP IU,EN b EU G i σ' EG H' a HP IU/\(∀x∈cs,x∈HP)/\Ex (KN b Ow a cs) H1 (KN b EU a HP) H'/\bM (gH i g) ds (KA f) (ps.drop (n+1)) EG=some (.nx DF),fun σ' H' q=>⟨ps.length - (n+1),by omega,rfl,q⟩,λx H' y=>?_⟩
  obtain⟨s3,r3⟩:=g2 x H' y
  have E3:=E2.up s3
  have r3':Rep b.C (Bs (bn b i a HP H') EU) H' x ps[n]:=r3.ex (cC λc o _ q=>(jP E3.live).mpr (Zo c q))
  refine⟨a,HP,H',EU,EG.set i none,ps[n],e0,E3.er,r3',he0,fun σ3 E4=>?_⟩
  obtain⟨E5,x5⟩:=E3.of E4 (Ex.refl _ _)
  rw[Ai E2.val] at ID
  cases o' with
  | nx e'=>
   cases hz
   exact⟨EU,_,a,HP,IU,e',E5,ID,λOw6 σ6 H6 cs6 yss6 E6 s6 x6=>⟨DS,Ow6,_,cs6,yss6,E6.E8 hd,λz hz=>s6 z (X4 z hz),x2.trans ((Ex.of_same s3).trans (x5.trans x6)),l2⟩⟩
  | bk e'=>cases hz
  | ct e'=>cases hz
  | rt p=>cases hz
 ·have e:n=ps.length:=by omega
  subst e
  rw[kR] at l2
  cases l2
  exact .inl ⟨w2,k EU σ2 H2 HP IU E2 X4 xk⟩
end
variable {σ:St}{x:Str}
section
variable {X:Cx}{b:BX}{G G' L:gV}{ro:Bool}{i:Nat}{st:Stmt}{rest:rk}{f g:Env->Option Out}{e e1 e2:Expr}{h h1 h2:r6}{m m1 m2:Md}{pos:Pos}
theorem EN.rebase {cs cs':rL}{DZ OQ:List (List PV)}(E:EN b Ow G i σ env H a cs DZ)(sub:∀x∈cs,x∈cs')(hx:∀x o,H x=some o->x∉a::cs'->H' x=some o)(Se:∀x∈a::cs',x∉a::cs->H x=none)
  (nd':(a::cs').Nodup) (nw':∀x∈a::cs',b.H0 x=none) (top':H' a=some (.lst (cs'.map V.ref))) (MZ:FY b.C (KN b Ow a cs') H' cs' OQ):
  EN b Ow G i σ (env.set i (some (.lst (OQ.map PV.lst)))) H' a cs' OQ/\Ex (KN b Ow a cs) H (KN b Ow a cs') H':=by
 have lv':∀x∈a::cs',∃o,H' x=some o:=λx S4=>by
  rcases av.mp S4 with z | z
  ·subst z;exact⟨_,top'⟩
  ·obtain⟨us,q⟩:=MZ.live x z;exact⟨_,q⟩
 have X5:∀x∈a::cs,x∈a::cs':=λx S4=>by
  rcases av.mp S4 with z | z
  ·rw[z];exact ah
  ·exact ag _ (sub x z)
 have no:=E.OM
 have no':∀x∈a::cs',¬ Ow x:=λx S4 w=>by
  by_cases z:x∈a::cs
  ·exact no x z w
  ·obtain⟨o,q⟩:=E.er.live x w
   rw[Se x S4 z] at q;cases q
 have mutN:∀x∈a::cs,∃us,H x=some (.lst us):=λx S4=>by
  rcases av.mp S4 with z | z
  ·subst z;exact⟨_,E.top⟩
  ·exact E.MY.live x z
 have out:∀x o,H x=some o->x∉a::cs->x∉a::cs':=λx o q z y=>by rw[Se x y z] at q;cases q
 have xk:Ex (KN b Ow a cs) H (KN b Ow a cs') H':=λc o hc=>⟨λq=>⟨hx c o hc (out c o hc q.2),q.1,out c o hc q.2⟩,λmm=>hx c o hc (out c o hc λz=>by
  obtain⟨us,q⟩:=mutN c z
  rw[hc] at q;cases q;cases mm)⟩
 have xb:Ex (Bs (bn b i a cs H) Ow) H (Bs (bn b i a cs' H') Ow) H':=λc o hc=>⟨λq=>by
  obtain⟨z1,z2⟩:=(xk c o hc).1 ((jP E.live).mp q)
  exact⟨z1,(jP lv').mpr z2⟩,(xk c o hc).2⟩
 have hl:i < env.length:=by
  rcases ef i env.length with z | z
  ·exact z
  ·have:=E.val;rw[bo z] at this;cases this
 refine⟨⟨by rw[ck hl],top',nd',nw',MZ,?_⟩,xk⟩
 rw[pi]
 refine⟨E.er.len,λc o hc=>?_,λc w=>?_,λc w=>?_,λj q eq n=>?_,λj q eq n=>?_,E.er.sep,E.er.fix⟩
 ·have ME:(if c∈a::cs' then H' c else b.H0 c)=some o:=hc
  by_cases z:c∈a::cs'
  ·rw[be z] at ME;exact ME
  ·rw[a7 z] at ME
   refine hx c o (E.er.same c o ?_) z
   show (if c∈a::cs then H c else b.H0 c)=some o
   rw[a7 λy=>z (X5 c y)];exact ME
 ·obtain⟨o,q⟩:=E.er.live c w
  exact⟨o,hx c o q λz=>no' c z w⟩
 ·show (if c∈a::cs' then H' c else b.H0 c)=none
  rw[a7 λz=>no' c z w]
  have q:=E.er.new c w
  have q':(if c∈a::cs then H c else b.H0 c)=none:=q
  rw[a7 λz=>no c z w] at q'
  exact q'
 ·obtain⟨v,z1,z2⟩:=E.er.val j q eq n
  exact⟨v,z1,z2.ex xb⟩
 ·obtain⟨c,z1,z2,z3⟩:=E.er.own j q eq n
  exact⟨c,z1,z2,z3.ex xb λo y=>hx c o y λz=>no' c z z2⟩
theorem Mm (i:Nat){p1 IS apos C5:Pos}(NM:∀a cs H,SE X (bn b i a cs H) G m1 e1 h1)(Jn:∀a cs H,SE X (bn b i a cs H) G .val e2 h2)(hN:X.N[i]?=some x:=by rfl)(hv:MB X.env.scope x:=by first | exact gc rfl | exact eB (gc rfl) | exact eB (eB rfl))(hd:(x == ("__debug__" : Str))=false:=by decide)
  (FH:(x == ("__classdict__" : Str))=false:=by decide) (hpi:wg e1:=by intro _ _;rfl) (EI:attributeBase (.Subscript (.Name x p1) e1 IS) "append" X.env (eval (.Subscript (.Name x p1) e1 IS) X.env)=eval (.Subscript (.Name x p1) e1 IS) X.env:=by rfl)
  (Iq:((backTo C5 (starEach [e2] X.env)).all (λx=>!x.1)&&(backToKw C5 (keywordEach [] X.env)).all (λx=>x.1.isSome)
   && decide ([e2].length+([]:List Keyword).length+(if ([]:List Keyword).isEmpty then 0 else 1) < 30))=true:=by rfl)
  (EJ:(apos.endLine == C5.line)=true:=by rfl) (hs:starEach [e2] X.env=(false,eval e2 X.env)::starEach [] X.env:=by rfl) (hK:X.K=b.C.K:=by rfl):
  NS X b G i (.Expr (.Call (.Attribute (.Subscript (.Name x p1) e1 IS) "append" apos) [e2] [] C5) pos) (uK i h1 h2):=by
 rintro CI s σ H D I ⟨Ow,env,a,cs,DZ,DF,E,hf,kk⟩
 obtain⟨px,NL,z1⟩:=ao hf
 clear hf
 obtain⟨pk,QU,z2⟩:=ao z1
 clear z1
 obtain⟨p,hp,z3⟩:=ao z2
 clear z2
 obtain⟨y,hy,z4⟩:=ao z3
 clear z3
 cases z4
 have OR:=fc NL
 rw[E.val] at OR
 cases OR
 cases pk <;> simp only[UR] at hy <;> first | cases hy | skip
 rename_i k
 obtain⟨j,hj,z5⟩:=ao hy
 clear hy
 obtain⟨w,hw,z6⟩:=ao z5
 clear z5
 rw[ar] at hw
 obtain⟨ys,UP,rfl⟩:=eK.mp hw
 simp only at z6
 split at z6
 ·rename_i DS
  cases z6
  obtain⟨c,us,hc,hHc,hr⟩:=E.MY.get UP
  have OG:c∈cs:=ax hc
  have Zp:DE (cs.map V.ref) k=some (.ref c):=by
   unfold DE
   rw[af] at hj ⊢
   rw[E.MY.length,hj]
   simp[hc]
  refine m8 (qM fb gS gX jY (yI (r:=JW X.K) Mb (gR hN hv hd FH) ((NM a cs H).bor) hpi) (bN (Jn a cs H) cI hs) EI Iq EJ hs rfl) rfl CI s σ H D I ?_
  refine⟨_,E.slot,Ow,env.set i none,.int k,E.er,QU,λv H1 s1 r1=>?_⟩
  refine⟨a,_,k,_,rfl,CU.int r1,DL.of (s1 _ _ E.top),Zp,.inl ⟨rfl,_,DL.of (s1 _ _ hHc)⟩,Ow,env.set i none,p,E.er.up s1,hp,λv2 H2 s2 r2=>?_⟩
  have Zr:=s2 _ _ (s1 _ _ hHc)
  refine⟨c,us,v2,rfl,rfl,Zr,iT (by rw[hr.length];omega),?_⟩
  have E2:=E.up (s1.trans s2)
  have hac:a≠c:=λz=>(cr.mp E.nd).1 (z▸OG)
  have ndc:=(cr.mp E.nd).2
  have xc:Ex (KN b Ow a cs) H2 (KN b Ow a cs) (upd H2 c (.lst (us++[v2]))):=λd o hd=>⟨λq=>⟨by rw[aP (λz:d=c=>q.2 (z▸ag _ OG))];exact hd,q⟩,λmm=>by
   have Yx:d≠c:=λz=>by subst z;rw[Zr] at hd;cases hd;cases mm
   rw[aP Yx];exact hd⟩
  have rr:CM b.C (KN b Ow a cs) H2 (us++[v2]) (ys++[p]):=by
   have Lc:Rep b.C (Bs (bn b i a cs H) Ow) H2 v2 p:=r2
   exact((hr.ex (.of_same (s1.trans s2)))).append (.cons (Lc.ex (cC λc o _ q=>(jP E.live).mp q)) .nil)
  have MZ:=FY.set xc (rr.ex xc) ndc hc bc (λz hz EF=>aP EF) E2.MY
  obtain⟨E3,x3⟩:=E2.rebase (cs':=cs) (H':=upd H2 c (.lst (us++[v2]))) (λ_ z=>z) (λz o hz hn=>by rw[aP (λq:z=c=>hn (q▸ag _ OG))];exact hz) (λz h1 h2=>absurd h1 h2) E.nd E.new (by rw[aP hac];exact E2.top) MZ
  rw[rh] at E3
  exact kk Ow σ _ cs _ E3 (λ_ z=>z) ((Ex.of_same (s1.trans s2)).trans x3)
 ·cases z6
end
def Yy:Nat->TA
 | 0=>JN
 | n+1=>LK (QZ JN) (Yy n)
theorem C_:∀(n:Nat){σ:St}{H:Hp}{Q:List V->Hp->Prop},(∀(cs:rL) (H2:Hp),cs.length=n->cs.Nodup->(∀c∈cs,H c=none/\H2 c=some (.lst []))->(∀x,x∉cs->H2 x=H x)->Q (cs.map V.ref) H2)->Yy n σ H Q
 | 0,σ,H,Q,h=>h [] H rfl .nil (λc hc=>by cases hc) λ_ _=>rfl
 | n+1,σ,H,Q,h=>by
  refine⟨c6 _,λp hp=>?_⟩
  refine C_ n λcs H2 hl nd hc ho=>?_
  have np:p∉cs:=λz=>by
   have:=(hc p z).1
   rw[bc] at this;cases this
  refine h (p::cs) H2 (by rw[bg,hl]) (cr.mpr ⟨np,nd⟩) (λc OG=>?_) λx hx=>?_
  ·rcases av.mp OG with z | z
   ·subst z;exact⟨hp,by rw[ho c np,bc]⟩
   ·have EF:c≠p:=λq=>np (q▸z)
    refine⟨?_,(hc c z).2⟩
    have:=(hc c z).1
    rw[aP EF] at this
    exact this
  ·rw[av,oj] at hx
   rw[ho x hx.2,aP hx.1]
noncomputable def yR (i n:Nat)(env:Env):Option Out:=if i < env.length/\n<=1000 then some (.nx (env.set i (some (.lst (List.replicate n (.lst [])))))) else none
variable {A A':Addr->Prop}
@[simp] theorem Ko (i n:Nat)(env:Env):yR i n env=if i < env.length/\n<=1000 then some (.nx (env.set i (some (.lst (List.replicate n (.lst [])))))) else none:=id rfl
section
variable {X:Cx}{b:BX}{G G' L:gV}{ro:Bool}{i n:Nat}{st:Stmt}{es:rl}{rest:rk}{f g:Env->Option Out}{e e1 e2:Expr}{h h1 h2:r6}{m m1 m2:Md}{pos:Pos}
theorem HJ:PA X [] (Yy 0):=cI
theorem Dd {p:Pos}(hr:PA X es (Yy n))(hs:starEach (.List [] p::es) X.env=(false,eval (.List [] p) X.env)::starEach es X.env:=by rfl):PA X (.List [] p::es) (Yy (n+1)):=bN (zc cI) hr hs
theorem Mp (i:Nat){p1 Lm apos C5:Pos}(hN:X.N[i]?=some x:=by rfl)(hv:MB X.env.scope x:=by first | exact gc rfl | exact eB (gc rfl) | exact eB (eB rfl))(hd:(x == ("__debug__" : Str))=false:=by decide)
  (FH:(x == ("__classdict__" : Str))=false:=by decide) (EI:attributeBase (.Name x p1) "append" X.env (eval (.Name x p1) X.env)=eval (.Name x p1) X.env:=by rfl)
  (Iq:((backTo C5 (starEach [.List [] Lm] X.env)).all (λx=>!x.1)&&(backToKw C5 (keywordEach [] X.env)).all (λx=>x.1.isSome)
   && decide ([Expr.List [] Lm].length+([]:List Keyword).length+(if ([]:List Keyword).isEmpty then 0 else 1) < 30))=true:=by rfl)
  (EJ:(apos.endLine == C5.line)=true:=by rfl) (hs:starEach [.List [] Lm] X.env=(false,eval (.List [] Lm) X.env)::starEach [] X.env:=by rfl):
  NS X b G i (.Expr (.Call (.Attribute (.Name x p1) "append" apos) [.List [] Lm] [] C5) pos) (uL i):=by
 rintro CI s σ H D I ⟨Ow,env,a,cs,DZ,DF,E,hf,kk⟩
 obtain⟨px,NL,z1⟩:=ao hf
 clear hf
 obtain⟨y,hy,z4⟩:=ao z1
 clear z1
 cases z4
 have OR:=fc NL
 rw[E.val] at OR
 cases OR
 simp only[LY,af] at hy
 split at hy
 ·rename_i DS
  cases hy
  refine m8 (qM fb gS gX jY (gR hN hv hd FH) (Dd HJ hs) EI Iq EJ hs rfl) rfl CI s σ H D I ?_
  refine⟨_,E.slot,.inl ⟨rfl,_,DL.of E.top⟩,c6 _,λc hc=>?_⟩
  have hca:a≠c:=λz=>by have:=E.top;rw[z,hc] at this;cases this
  refine⟨a,_,_,rfl,rfl,by rw[aP hca];exact E.top,iT (by rw[af,E.MY.length];omega),?_⟩
  have hcn:c∉a::cs:=λz=>by obtain⟨o,q⟩:=E.live c z;rw[hc] at q;cases q
  have X6:c∉cs:=λz=>hcn (ag _ z)
  have nd1:=cr.mp E.nd
  have hH:∀z o,H z=some o->z≠a->(upd (upd H c (.lst [])) a (.lst (cs.map V.ref++[.ref c]))) z=some o:=λz o hz hza=>by
   rw[aP hza,aP (bI hz hc)];exact hz
  have hHc:(upd (upd H c (.lst [])) a (.lst (cs.map V.ref++[.ref c]))) c=some (.lst []):=by rw[aP (gx hca),bc]
  have xc:Ex (KN b Ow a cs) H (KN b Ow a (cs++[c])) (upd (upd H c (.lst [])) a (.lst (cs.map V.ref++[.ref c]))):=λd o hd=>⟨λq=>(by
   have Zs:d≠a:=λz=>q.2 (z▸ah)
   refine⟨hH d o hd Zs,q.1,λz=>?_⟩
   rcases av.mp z with z | z
   ·exact Zs z
   ·rcases br.mp z with z | z
    ·exact q.2 (ag _ z)
    ·rw[aE] at z;rw[z,hc] at hd;cases hd),λmm=>hH d o hd λz=>by subst z;rw[E.top] at hd;cases hd;cases mm⟩
  have MZ:FY b.C (KN b Ow a (cs++[c])) (upd (upd H c (.lst [])) a (.lst (cs.map V.ref++[.ref c]))) (cs++[c]) (DZ++[[]]):=
   FY.snoc hHc .nil (E.MY.ex xc λd hdm=>by
    obtain⟨us,q⟩:=E.MY.live d hdm
    rw[q]
    exact hH d _ q λz=>nd1.1 (z▸hdm))
  have SD:b.H0 c=none:=by
   have:=E.er.same.free hc
   have q:(if c∈a::cs then H c else b.H0 c)=none:=this
   rw[a7 hcn] at q
   exact q
  obtain⟨E3,x3⟩:=E.rebase (cs':=cs++[c]) (H':=upd (upd H c (.lst [])) a (.lst (cs.map V.ref++[.ref c]))) (λz hz=>g9 _ hz) (λz o hz hn=>hH z o hz λq=>hn (q▸ah)) (λz hz hn=>by
   rcases av.mp hz with q | q
   ·exact absurd (q▸ah) hn
   ·rcases br.mp q with q | q
    ·exact absurd (ag _ q) hn
    ·rw[aE] at q;rw[q];exact hc) (by
   rw[cr,kw]
   refine⟨λz=>?_,nd1.2,by simp,λd X7 d' hd2 z=>?_⟩
   ·rcases br.mp z with z | z
    ·exact nd1.1 z
    ·rw[aE] at z;exact hca z
   ·rw[aE] at hd2;subst hd2 z;exact X6 X7) (λz hz=>by
   rcases av.mp hz with q | q
   ·rw[q];exact E.new a ah
   ·rcases br.mp q with q | q
    ·exact E.new z (ag _ q)
    ·rw[aE] at q;rw[q];exact SD) (by rw[bc,cS];rfl) MZ
  rw[cS] at E3
  exact kk Ow σ _ _ _ E3 (λz hz=>g9 _ hz) x3
 ·cases hy
def tNi (b:BX)(G:gV)(i:Nat)(f:Env->Option Out):TS:=λD σ H=>∃Ow env DF,ER b Ow G σ env H/\f env=some (.nx DF) /\
 ∀ σ' H' a cs DZ,EN b Ow G i σ' DF H' a cs DZ->Ex (Bs b Ow) H (KN b Ow a cs) H'->D.nx σ' H'
theorem EN.start {H2:Hp}{cs:rL}(E:ER b Ow G σ env H)(hl:i < env.length)(nd:cs.Nodup)(hc:∀c∈cs,H c=none/\H2 c=some (.lst []))(ho:∀x,x∉cs->H2 x=H x)(ha:H2 a=none)(hG:i∉G)(hxi:b.fx i=none):
  EN b Ow G i (σ.set i (some (.ref a))) (env.set i (some (.lst (List.replicate cs.length (.lst []))))) (upd H2 a (.lst (cs.map V.ref))) a cs (List.replicate cs.length [])/\Ex (Bs b Ow) H (KN b Ow a cs) (upd H2 a (.lst (cs.map V.ref))):=by
 have nac:a∉cs:=λz=>by rw[(hc a z).2] at ha;cases ha
 have hHa:H a=none:=by rw[← ho a nac];exact ha
 have Mn:∀x∈a::cs,H x=none:=λx hx=>by
  rcases av.mp hx with z | z
  ·rw[z];exact hHa
  ·exact(hc x z).1
 have st:∀x o,H x=some o->(upd H2 a (.lst (cs.map V.ref))) x=some o:=λx o q=>by
  have z:x∉a::cs:=λy=>by rw[Mn x y] at q;cases q
  rw[av,oj] at z
  rw[aP z.1,ho x z.2];exact q
 have lv':∀x∈a::cs,∃o,(upd H2 a (.lst (cs.map V.ref))) x=some o:=λx hx=>by
  rcases av.mp hx with z | z
  ·rw[z];exact⟨_,bc⟩
  ·rw[aP (λq:x=a=>nac (q▸z))];exact⟨_,(hc x z).2⟩
 have xk:Ex (Bs b Ow) H (KN b Ow a cs) (upd H2 a (.lst (cs.map V.ref))):=λc o q=>⟨λw=>⟨st c o q,w,λy=>by rw[Mn c y] at q;cases q⟩,λ_=>st c o q⟩
 have xb:Ex (Bs b Ow) H (Bs (bn b i a cs (upd H2 a (.lst (cs.map V.ref)))) Ow) (upd H2 a (.lst (cs.map V.ref))):=λc o q=>⟨λw=>⟨st c o q,(jP lv').mpr ((xk c o q).1 w).2⟩,λ_=>st c o q⟩
 have nw:∀x∈a::cs,b.H0 x=none:=λx hx=>E.same.free (Mn x hx)
 have now:∀x∈a::cs,¬ Ow x:=λx hx w=>by obtain⟨o,q⟩:=E.live x w;rw[Mn x hx] at q;cases q
 have MY:∀ds:List Addr,(∀c∈ds,c∈cs)->FY b.C (KN b Ow a cs) (upd H2 a (.lst (cs.map V.ref))) ds (List.replicate ds.length []):=λds=>by
  induction ds with
  | nil=>exact λ_=>.nil
  | cons d ds ih=>
   intro hd
   have Yx:=hd d ah
   exact .cons (by rw[aP (λq:d=a=>nac (q▸Yx))];exact(hc d Yx).2) .nil (ih λc z=>hd c (ag _ z))
 have back:∀{j:Nat}{q:PV},(env.set i none)[j]?=some (some q)->i≠j/\env[j]?=some (some q):=λ{j q} e=>by
  by_cases hj:i=j
  ·subst hj
   rw[ck hl] at e;cases e
  ·rw[ay hj] at e;exact⟨hj,e⟩
 refine⟨⟨by rw[ck hl,List.map_replicate],bc,cr.mpr ⟨nac,nd⟩,nw,MY cs λ_ z=>z,?_⟩,xk⟩
 rw[pi]
 refine⟨by rw[c8,c8];exact E.len,λc o q=>?_,λc w=>?_,λc w=>?_,λj q e n=>?_,λj q e n=>?_,λj k c q q' e1 n1 s1 e2 n2 s2=>?_,λk v hv=>?_⟩
 ·have q':(if c∈a::cs then (upd H2 a (.lst (cs.map V.ref))) c else b.H0 c)=some o:=q
  by_cases z:c∈a::cs
  ·rw[be z] at q';exact q'
  ·rw[a7 z] at q';exact st c o (E.same c o q')
 ·obtain⟨o,q⟩:=E.live c w
  exact⟨o,st c o q⟩
 ·show (if c∈a::cs then (upd H2 a (.lst (cs.map V.ref))) c else b.H0 c)=none
  rw[a7 λz=>now c z w];exact E.new c w
 ·obtain⟨hj,e'⟩:=back e
  obtain⟨v,z1,z2⟩:=E.val j q e' n
  exact⟨v,by rw[ay hj];exact z1,z2.ex xb⟩
 ·obtain⟨hj,e'⟩:=back e
  obtain⟨c,z1,z2,z3⟩:=E.own j q e' n
  exact⟨c,by rw[ay hj];exact z1,z2,z3.ex xb λo y=>st c o y⟩
 ·obtain⟨hj,e1'⟩:=back e1
  obtain⟨hk,So⟩:=back e2
  rw[ay hj] at s1
  rw[ay hk] at s2
  exact E.sep j k c q q' e1' n1 s1 So n2 s2
 ·have QO:(if k=i then some (V.ref a) else b.fx k)=some v:=hv
  by_cases hk:k=i
  ·rw[be hk] at QO
   cases QO
   rw[hk,ck (by rw[E.len];exact hl)]
  ·rw[a7 hk] at QO
   rw[ay (gx hk)]
   exact E.fix k v QO
theorem Th (i:Nat){pos' Lm:Pos}(nd:X.N.Nodup)(he:PA X es (Yy n))(hG:i∉G:=by decide)(hx:b.fx i=none:=by first | rfl | assumption)(hi:X.N[i]?=some x:=by rfl)(hl:Loc X.env.scope x:=by first | exact gc rfl | exact eB rfl)
  (hs:swapsWith (.List es Lm) (some (.Name x pos')) pos.line X.env=pure false:=by rfl) (hf:X.fn x=true\/X.env.scope.names.lookup x=some .local:=by first | exact .inl rfl | exact .inr rfl | assumption):PS X (.Assign [.Name x pos'] (.List es Lm) pos) (tNi b G i (yR i n)):=
 PS.imp (rZ nd hi hl (zc he) hs hf)<|by
  rintro D σ H ⟨Ow,env,DF,E,hz,k⟩
  rw[Ko] at hz
  split at hz
  ·rename_i hle
   cases hz
   refine C_ n λcs H2 hlen nd hc ho=>⟨gb (by rw[af];omega),λa ha=>?_⟩
   obtain⟨E1,x1⟩:=EN.start E hle.1 nd hc ho ha hG hx
   rw[hlen] at E1
   exact k _ _ a cs _ E1 x1
  ·cases hz
def Lo (b:BX)(A:Addr->Prop)(H:Hp)(G L:gV)(ro:Bool)(D:Ends):Out->Prop
 | .nx e=>∀C6 σ' H',ER b C6 G σ' e H'->Ex A H (Bs b C6) H'->D.nx σ' H'
 | .bk e=>∀C6 σ' H',ER b C6 L σ' e H'->Ex A H (Bs b C6) H'->D.bk σ' H'
 | .ct e=>∀C6 σ' H',ER b C6 L σ' e H'->Ex A H (Bs b C6) H'->D.ct σ' H'
 | .rt p=>∀v H',CS b.H0 H'->Yt b.C b.A b.H0 ro H' v p->D.rt v H'
def tNX (b:BX)(G G' L:gV)(ro:Bool)(i:Nat)(f:Env->Option Out):TS:=λD σ H=>∃Ow env a cs DZ out,EN b Ow G i σ env H a cs DZ/\f env=some out/\Lo b (KN b Ow a cs) H G' L ro D out
abbrev NXs (X:Cx)(b:BX)(G G' L:gV)(ro:Bool)(i:Nat)(st:rk)(f:Env->Option Out):Prop:=Fu X st (tNX b G G' L ro i f)
theorem Lo.ex {D:Ends}{o:Out}(e:Ex A H A' H')(p:Lo b A H G L ro D o):Lo b A' H' G L ro D o:=by
 cases o with
 | nx e'=>exact λC6 σ' H2 E x=>p C6 σ' H2 E (e.trans x)
 | bk e'=>exact λC6 σ' H2 E x=>p C6 σ' H2 E (e.trans x)
 | ct e'=>exact λC6 σ' H2 E x=>p C6 σ' H2 E (e.trans x)
 | rt p'=>exact p
theorem Ol (c:Kx X b G G' L ro rest g)(hG:i∉G:=by decide)(hx:b.fx i=none:=by first | rfl | assumption):NXs X b G G' L ro i rest g:=Fu.imp c<|by
 rintro D σ H ⟨Ow,env,a,cs,DZ,out,E,hf,k⟩
 refine⟨Ow,env,out,E.out hG hx,hf,?_⟩
 have w:Ex (KN b Ow a cs) H (Bs b Ow) H:=cC λc o _ q=>q.1
 have k':=Lo.ex w k
 cases out with
 | nx e'=>exact k'
 | bk e'=>exact k'
 | ct e'=>exact k'
 | rt p'=>exact k'
theorem wH (x:NS X b G i st f)(c:NXs X b G G' L ro i rest g):NXs X b G G' L ro i (st::rest) (aC (KA f) g):=Fu.imp (ik x c)<|by
 rintro D σ H ⟨Ow,env,a,cs,DZ,out,E,hf,k⟩
 unfold aC at hf
 obtain⟨o,ho,hz⟩:=ao hf
 obtain⟨o',ID,KW⟩:=ao ho
 cases o' with
 | nx e'=>
  cases KW
  exact⟨Ow,env,a,cs,DZ,e',E,ID,λYu σ1 H1 cs1 X3 E1 s1 x1=>⟨Yu,e',a,cs1,X3,out,E1,hz,k.ex x1⟩⟩
 | bk e'=>cases KW
 | ct e'=>cases KW
 | rt p'=>cases KW
theorem Om (x:PS X st (tNi b G i f))(c:NXs X b G G' L ro i rest g):Kx X b G G' L ro (st::rest) (aC (KA f) g):=Fu.imp (ik x c)<|by
 rintro D σ H ⟨Ow,env,out,E,hf,k⟩
 unfold aC at hf
 obtain⟨o,ho,hz⟩:=ao hf
 obtain⟨o',ID,KW⟩:=ao ho
 cases o' with
 | nx e'=>
  cases KW
  refine⟨Ow,env,e',E,ID,fun σ1 H1 a cs DZ E1 x1=>⟨Ow,e',a,cs,DZ,out,E1,hz,?_⟩⟩
  cases out with
  | nx e''=>exact λC6 σ' H2 E2 x2=>k C6 σ' H2 E2 (x1.trans x2)
  | bk e''=>exact λC6 σ' H2 E2 x2=>k C6 σ' H2 E2 (x1.trans x2)
  | ct e''=>exact λC6 σ' H2 E2 x2=>k C6 σ' H2 E2 (x1.trans x2)
  | rt p'=>exact k
 | bk e'=>cases KW
 | ct e'=>cases KW
 | rt p'=>cases KW
end
noncomputable def gL (is:gV)(p:PV)(env:Env):Option Env:=match p with
 | .lst xs=>UO is xs env
 | _=>none
@[simp] theorem XQ (is:gV)(p:PV)(env:Env):gL is p env=(match p with
 | .lst xs=>UO is xs env
 | _=>none):=id rfl
variable {es:rl}
section
variable {X:Cx}{b:BX}{G G' L:gV}{pos:Pos}
theorem Wr {k:Nat}{is:gV}(h:Zk X b G es is)(hc:X.calm=true:=by rfl)(hn:(assignEach es X.env).length=is.length:=by rfl)(F6:(assignEach es X.env).findIdx? (·.1)=none:=by rfl)(hK:X.K=b.C.K:=by rfl):SG X b G (.Tuple es k pos) (gL is):=
 PG.imp (R0 hc h hn F6)<|by
  rintro v σ H Q ⟨Ow,env,p,DF,E,r,e,k⟩
  cases p <;> simp only[gL] at e <;> first | cases e | skip
  rename_i xs
  obtain⟨a,vs,rfl,ha,ra⟩:=CU.lst (.inl r)
  rw[hK]
  exact⟨a,vs,rfl,DL.of ha,by rw[ra.length];exact uc e,Ow,env,xs,DF,E,ra,e,k⟩
end
@[simp] noncomputable def lV:PV->PV->PV->Option PV
 | .dK kvs,y,z=>(keyOf y).map λk=>(dg kvs k).getD z
 | .dT kvs,.tup ys,z=>(DI ys).map λk=>(dg kvs k).getD z
 | _,_,_=>none
variable {j:Nat}
section
variable {X:Cx}{b:BX}{G:gV}{apos C5:Pos}{m1 m2:Md}{e1 e2 e3:Expr}{f1 f2 f3:r6}
theorem wI (hr:DD j X.A)(h1:SE X b G m1 e1 f1)(h2:SE X b G m2 e2 f2)(h3:SE X b G .val e3 f3)(m:M2 X e1 "get" apos e2 e3 C5:=by exact⟨rfl,rfl,rfl,rfl⟩)(hK:X.K=b.C.K:=by rfl):SE X b G .val (.Call (.Attribute e1 "get" apos) [e2,e3] [] C5) (b3 lV f1 f2 f3):=by
 refine PE.imp (JR (o_ hr) h1.bor h2.bor h3 m) fun σ H Q h=>?_
 obtain⟨Ow,env,p,E,hf,k⟩:=h
 obtain⟨p1,q1,z1⟩:=ao hf
 clear hf
 obtain⟨p2,q2,z2⟩:=ao z1
 clear z1
 obtain⟨p3,q3,hf⟩:=ao z2
 clear z2
 refine⟨Ow,env,p1,E,q1,λv1 H1 s1 r1=>?_⟩
 unfold lV at hf
 split at hf
 ·rename_i kvs
  obtain⟨ky,hk,e⟩:=eK.mp hf
  obtain⟨a,kv,rfl,ha,ra⟩:=r1.dK
  refine⟨a,rfl,.inl ⟨kv,.inl ha⟩,Ow,env,p2,E.up s1,q2,λv2 H2 s2 r2=>⟨Ow,env,p3,(E.up s1).up s2,q3,λv3 H3 s3 r3=>?_⟩⟩
  have Lc:CU b.C (Bs b Ow) H2 v2 p2:=r2
  rw[Lc.key hk]
  have ha3:=s3 _ _ (s2 _ _ ha)
  refine⟨_,ED.k ha3,k _ H3 ((s1.trans s2).trans s3) ?_⟩
  unfold dg at e
  rcases DV.val (k:=ky) ra with ⟨v,p',g1,g2,rv⟩ | ⟨g1,g2⟩
  ·rw[g2] at e
   rw[g1,← e]
   exact rv.ex (.of_same (s2.trans s3))
  ·rw[g2] at e
   rw[g1,← e]
   exact r3
 ·rename_i kvs ys
  obtain⟨ky,hk,e⟩:=eK.mp hf
  obtain⟨a,kv,rfl,ha,ra⟩:=r1.dT
  refine⟨a,rfl,.inr ⟨kv,.inl ha⟩,Ow,env,_,E.up s1,q2,λv2 H2 s2 r2=>⟨Ow,env,p3,(E.up s1).up s2,q3,λv3 H3 s3 r3=>?_⟩⟩
  have Lc:CU b.C (Bs b Ow) H2 v2 (.tup ys):=r2
  obtain⟨c,vs,rfl,hc,rc⟩:=Lc.tup
  have ha3:=s3 _ _ (s2 _ _ ha)
  refine⟨_,ED.t ha3 (by rw[hK];exact(hc.up s3).key (rc.DI hk)),k _ H3 ((s1.trans s2).trans s3) ?_⟩
  unfold dg at e
  rcases DM.val (k:=ky) ra with ⟨v,p',g1,g2,rv⟩ | ⟨g1,g2⟩
  ·rw[g2] at e
   rw[g1,← e]
   exact rv.ex (.of_same (s2.trans s3))
  ·rw[g2] at e
   rw[g1,← e]
   exact r3
 ·cases hf
end
@[simp] noncomputable def ud:PV->PV->Option PV
 | .lst xs,.lst ys=>if ys.length=xs.length then some (.lst (List.zipWith (λa c=>.tup [a,c]) xs ys)) else none
 | _,_=>none
@[simp] noncomputable def lW:PV->PV->Option PV
 | .tup ys,v=>if dF v=true then (DI ys).map λk=>.dT [(k,v)] else none
 | .He ys,v=>if dF v=true then (DI ys).map λk=>.dT [(k,v)] else none
 | _,_=>none
noncomputable def kP:Key->PV
 | .inl i=>.int i
 | .inr x=>.str x
@[simp] noncomputable def vG:PV->Option (List PV)
 | .dT kvs=>if (kvs.all λkv=>kv.1.length != 2)=true then some (kvs.map λkv=>.tup (kv.1.map kP)) else none
 | _=>none
noncomputable def iK (f:r6)(env:Env):Option (List PV):=(f env).bind vG
@[simp] theorem XR (f:r6)(env:Env):iK f env=((f env).bind vG):=id rfl
@[simp] noncomputable def qU:PV->PV->PV->Option PV
 | .dT kvs,.He ys,z=>(DI ys).map λk=>(dg kvs k).getD z
 | _,_,_=>none
variable {C:MC}{vs:List V}{K:W.Frag}
section
variable {X:Cx}{b:BX}{G:gV}{apos C5 p p2 pos DJ:Pos}{m m1 m2:Md}{e e1 e2 e3:Expr}{f f1 f2 f3:r6}
theorem Kq {ts:rL}{us:List V}{xs ys:List PV}(z:Yn H' ts vs us)(ex:Ex A H A' H')(r1:CM C A H vs xs)(r2:CM C A H us ys):CM C A' H' (ts.map V.ref) (List.zipWith (λa c=>.tup [a,c]) xs ys):=by
 induction z generalizing xs ys with
 | nil=>cases r1;exact .nil
 | cons h t ih=>
  cases r1 with
  | cons a1 b1=>cases r2 with
   | cons a2 b2=>exact .cons (.tup h (.cons (Rep.ex ex a1) (.cons (Rep.ex ex a2) .nil))) (ih b1 b2)
theorem Kr (hm:X.mg "list" = none)(OC:X.mg "zip" = none)(h1:SE X b G m1 e1 f1)(h2:SE X b G m2 e2 f2)(hb:bootBuiltins "zip" = some (.type "zip"):=by decide +kernel)(hK:X.K=b.C.K:=by rfl)(hc:X.calm=true:=by rfl)(hg:Gl X "list" := by rfl)(OB:Gl X "zip" := by rfl)
  (hs:starEach [e1,e2] X.env=(false,eval e1 X.env)::starEach [e2] X.env:=by rfl) (LV:starEach [e2] X.env=(false,eval e2 X.env)::starEach [] X.env:=by rfl) (Kj:(backTo DJ (starEach [e2] X.env)).any (·.1)=false:=by rfl)
  (Fh:starEach [.Call (.Name "zip" p2) [e1,e2] [] DJ] X.env=(false,eval (.Call (.Name "zip" p2) [e1,e2] [] DJ) X.env)::starEach [] X.env:=by rfl) (FA:(backTo pos (starEach [] X.env)).any (·.1)=false:=by rfl):
  SE X b G .own (.Call (.Name "list" p) [.Call (.Name "zip" p2) [e1,e2] [] DJ] [] pos) (b2 ud f1 f2):=by
 refine PE.imp (J8 hg hm OB OC hb hc (bN h1.bor (bN h2.bor cI LV) hs) hs Kj Fh FA) ?_
 rintro σ H Q ⟨Ow,env,q,E,hf,k⟩
 rw[hK]
 obtain⟨x,hx,z1⟩:=ao hf
 clear hf
 obtain⟨y,hy,hf⟩:=ao z1
 clear z1
 unfold ud at hf
 split at hf
 ·rename_i xs ys
  split at hf
  ·rename_i hl
   cases hf
   refine⟨Ow,env,_,E,hx,λv H1 s1 r1=>⟨Ow,env,_,E.up s1,hy,λu H2 s2 r2=>?_⟩⟩
   have Kt:CU b.C (Bs b Ow) H1 v (.lst xs):=r1
   have Kt:CU b.C (Bs b Ow) H2 v (.lst xs):=Res.up (m:=.bor) r1 s2
   have Lc:CU b.C (Bs b Ow) H2 u (.lst ys):=r2
   obtain⟨a,vs,rfl,ha,ra⟩:=Kt.lst
   obtain⟨c,us,rfl,hc,rc⟩:=Lc.lst
   have s:=s1.trans s2
   refine⟨a,c,vs,us,rfl,DL.of ha,DL.of hc,by rw[ra.length,rc.length];exact hl,λl ts H3 US kp HE z=>?_⟩
   have hn:H l=none:=by
    cases q:H l with
    | none=>rfl
    | some o=>have:=s _ _ q;rw[US] at this;cases this
   have ex:Ex (Bs b Ow) H2 (λc=>Bs b Ow c/\c≠l) H3:=λc o e=>⟨λq=>⟨kp _ _ e,q,λw=>by rw[w,US] at e;cases e⟩,λ_=>kp _ _ e⟩
   exact k _ _ (s.trans kp) ⟨l,rfl,hn,_,HE,Kq z ex ra rc⟩
  ·cases hf
 ·cases hf
theorem Aj {v:V}{q:PV}(r:Rep C A H v q)(h:dF q=true):Rep C A' H' v q:=by
 cases r with
 | CY=>exact .CY
 | bl b=>exact .bl b
 | int i=>exact .int i
 | str x=>exact .str x
 | _=>cases h
theorem Fx (hr:DD j X.A)(h1:SE X b G .val e1 f1)(h2:SE X b G .val e2 f2)(hK:X.K=b.C.K:=by rfl):SE X b G .own (.Dict [some e1] [e2] pos) (b2 lW f1 f2):=by
 refine PE.imp (NP (o_ hr) h1 h2) ?_
 rintro σ H Q ⟨Ow,env,q,E,hf,k⟩ l hl
 obtain⟨x,hx,z1⟩:=ao hf
 clear hf
 obtain⟨y,hy,hf⟩:=ao z1
 clear z1
 unfold lW at hf
 split at hf
 ·rename_i ys
  split at hf
  ·rename_i UU
   obtain⟨ks,hk,e⟩:=eK.mp hf
   subst e
   have s0:=bh hl (.dT [])
   refine⟨Ow,env,_,E.up s0,hx,λv H1 s1 r1=>⟨Ow,env,_,(E.up s0).up s1,hy,λu H2 s2 r2=>⟨s2 _ _ (s1 _ _ bc),?_⟩⟩⟩
   have Kt:CU b.C (Bs b Ow) H1 v (.tup ys):=.inl r1
   obtain⟨c,vs,rfl,hc,rc⟩:=Kt.tup
   refine⟨c,ks,rfl,(by rw[hK];exact(hc.up s2).key (rc.DI hk)),k _ _ (λa o e=>?_) ⟨l,rfl,hl,_,bc,.cons (Aj r2 UU) .nil⟩⟩
   rw[aP (bI e hl)]
   exact s2 _ _ (s1 _ _ (s0 _ _ e))
  ·cases hf
 ·rename_i ys
  split at hf
  ·rename_i UU
   obtain⟨ks,hk,e⟩:=eK.mp hf
   subst e
   have s0:=bh hl (.dT [])
   refine⟨Ow,env,_,E.up s0,hx,λv H1 s1 r1=>⟨Ow,env,_,(E.up s0).up s1,hy,λu H2 s2 r2=>⟨s2 _ _ (s1 _ _ bc),?_⟩⟩⟩
   have Kt:Rep b.C (Bs b Ow) H1 v (.He ys):=r1
   cases Kt with
   | @tupK c vs _ w1 w3=>
    have hc:N0 b.C.K c vs:=by
     rcases w1 with (z | ⟨o,z⟩) | z
     ·cases z
     ·cases z
     ·exact z
    refine⟨c,ks,rfl,(by rw[hK];exact .inr ⟨vs,hc,w3.DI hk⟩),k _ _ (λa o e=>?_) ⟨l,rfl,hl,_,bc,.cons (Aj r2 UU) .nil⟩⟩
    rw[aP (bI e hl)]
    exact s2 _ _ (s1 _ _ (s0 _ _ e))
  ·cases hf
 ·cases hf
theorem De (hr:DD j X.A)(h1:SE X b G m1 e1 f1)(h2:SE X b G m2 e2 f2)(h3:SE X b G .val e3 f3)(m:M2 X e1 "get" apos e2 e3 C5:=by exact⟨rfl,rfl,rfl,rfl⟩)(hK:X.K=b.C.K:=by rfl):SE X b G .val (.Call (.Attribute e1 "get" apos) [e2,e3] [] C5) (b3 qU f1 f2 f3):=by
 refine PE.imp (J9 (o_ hr) h1.bor h2.bor h3 m) fun σ H Q h=>?_
 obtain⟨Ow,env,p,E,hf,k⟩:=h
 obtain⟨p1,q1,z1⟩:=ao hf
 clear hf
 obtain⟨p2,q2,z2⟩:=ao z1
 clear z1
 obtain⟨p3,q3,hf⟩:=ao z2
 clear z2
 refine⟨Ow,env,p1,E,q1,λv1 H1 s1 r1=>?_⟩
 unfold qU at hf
 split at hf
 ·rename_i kvs ys
  obtain⟨ky,hk,e⟩:=eK.mp hf
  have Kt:CU b.C (Bs b Ow) H1 v1 (.dT kvs):=r1
  obtain⟨a,kv,rfl,ha,ra⟩:=Kt.dT
  refine⟨a,rfl,.inr ⟨kv,.inl ha⟩,Ow,env,_,E.up s1,q2,λv2 H2 s2 r2=>⟨Ow,env,p3,(E.up s1).up s2,q3,λv3 H3 s3 r3=>?_⟩⟩
  have Lc:CU b.C (Bs b Ow) H2 v2 (.He ys):=r2
  rcases Lc with Lc | ⟨_,_,t⟩
  ·cases Lc with
   | tupK w1 w3=>
    refine⟨kv,ky,_,_,.inl (s3 _ _ (s2 _ _ ha)),rfl,by rw[hK];exact uD w1,w3.DI hk,k _ H3 ((s1.trans s2).trans s3) ?_⟩
    unfold dg at e
    rcases DM.val (k:=ky) ra with ⟨v,p',g1,g2,rv⟩ | ⟨g1,g2⟩
    ·rw[g2] at e
     rw[g1,← e]
     exact rv.ex (.of_same (s2.trans s3))
    ·rw[g2] at e
     rw[g1,← e]
     exact r3
  ·exact t.elim
 ·cases hf
theorem Df {ks:List Key}(c:FE K H a ks):∃us,GL K H a us/\rY ks us:=c.elim (λ⟨vs,e,k⟩=>⟨vs,.inl e,k⟩) λ⟨vs,e,k⟩=>⟨vs,.inr e,k⟩
theorem ue {C:MC}{A:Addr->Prop}{H:Hp}:∀ks:List Key,CM C A H (ks.map kV) (ks.map kP)
 | []=>.nil
 | .inl i::ks=>.cons (.int i) (ue ks)
 | .inr x::ks=>.cons (.str x) (ue ks)
theorem Dg {C:MC}{A:Addr->Prop}{H:Hp}:∀{kv:List (List Key×V)}{kvs:List (List Key×PV)},DM C A H kv kvs->kv.map (·.1)=kvs.map (·.1)
 | _,_,.nil=>rfl
 | _,_,.cons _ t=>by rw[ap,ap,Dg t]
theorem Vn {tg:Expr}(he:SE X b G m e f)(hK:X.K=b.C.K:=by rfl):SI X b G false tg e (iK f):=by
 refine PI.imp (Va he) ?_
 rintro σ H R ⟨Ow,env,ps,E,hg,k⟩
 obtain⟨q,hq,FD⟩:=ao hg
 unfold vG at FD
 split at FD
 ·rename_i kvs
  split at FD
  ·rename_i FL
   cases FD
   refine⟨Ow,env,_,E,hq,λv H1 s r=>?_⟩
   have r1:CU b.C (Bs b Ow) H1 v (.dT kvs):=r.bor
   obtain⟨a,kv,rfl,ha,ra⟩:=r1.dT
   have Zt:=Dg ra
   have hlen:kv.length=kvs.length:=ra.length
   refine⟨a,kv,rfl,.inl ha,k _ _ s λC6 H2 h0 h1 hn=>?_⟩
   have Ta:H2 a=some (.dT kv):=h0 rfl _ _ ha
   refine⟨λi p hp=>?_,⟨kv,.inl Ta,rfl,by rw[af,hlen];exact aT _⟩⟩
   have hi:i < kvs.length:=by have:=(aw.mp hp).1;rwa [af] at this
   refine⟨⟨kv,.inl Ta,rfl,by omega⟩,λx H' y=>?_⟩
   obtain⟨e',kv',c,ks,y,hr',JJ,ex,dk⟩:=y
   subst e' ex
   have ekv:kv'=kv:=by
    rcases hr' with z | ⟨o,z⟩
    ·rw[Ta] at z;cases z;rfl
    ·rw[Ta] at z;cases z
   subst ekv
   have ek:(kvs.map (·.1))[i]?=some ks:=by rw[← Zt,ar,JJ];rfl
   rw[ar] at ek hp
   cases qq:kvs[i]? with
   | none=>rw[qq] at ek;cases ek
   | some w=>
    rw[qq] at ek hp
    cases ek
    cases hp
    have nl:w.1.length≠2:=by
     have:=cq.mp FL w (ax qq)
     simpa using this
    obtain⟨us,hu,kt⟩:=Df (hK▸dk)
    rcases kt with rfl | ⟨x,t,z,_⟩
    ·exact⟨CS.refl _,hu.rep (ue _)⟩
    ·have z:w.1=_:=z
     rw[z] at nl;exact absurd rfl nl
  ·cases FD
 ·cases FD
end
@[simp] noncomputable def nZ:PV->Option (List PV)
 | .dT kvs=>if (kvs.all λkv=>kv.1.length != 2)=true then some (kvs.map λkv=>.tup [.tup (kv.1.map kP),kv.2]) else none
 | _=>none
noncomputable def Yp (f:r6)(env:Env):Option (List PV):=(f env).bind nZ
@[simp] theorem Xm (f:r6)(env:Env):Yp f env=((f env).bind nZ):=id rfl
section
variable {X:Cx}{b:BX}{G:gV}{apos C5:Pos}{m:Md}{e:Expr}{f:r6}
theorem DM.get {C:MC}{A:Addr->Prop}{H:Hp}:∀{vs:List (List Key×V)}{ps:List (List Key×PV)}{i:Nat}{w:List Key×PV},DM C A H vs ps->ps[i]?=some w->∃v,vs[i]?=some (w.1,v)/\Rep C A H v w.2
 | _,_,i,w,.nil,h=>by simp at h
 | _,_,0,w,.cons r t,h=>by simp at h;subst h;exact⟨_,rfl,r⟩
 | _,_,i+1,w,.cons r t,h=>by
  obtain⟨v,h1,h2⟩:=DM.get (i:=i) t (by simpa using h)
  exact⟨v,by simpa using h1,h2⟩
theorem Mq {fr:Bool}{x1:Nat}{tpos:Pos}(he:SE X b G m e f)(MQ:fr=true->m≠.bor:=by simp)(hK:X.K=b.C.K:=by rfl)(EI:attributeBase e "items" X.env (eval e X.env)=eval e X.env:=by rfl)(EJ:(apos.endLine == C5.line)=true:=by rfl):
  SI X b G fr (.Tuple es x1 tpos) (.Call (.Attribute e "items" apos) [] [] C5) (Yp f):=by
 refine PI.imp (Vc he EI EJ) ?_
 rintro σ H R ⟨Ow,env,ps,E,hg,k⟩
 obtain⟨q,hq,FD⟩:=ao hg
 unfold nZ at FD
 split at FD
 ·rename_i kvs
  split at FD
  ·rename_i FL
   cases FD
   refine⟨Ow,env,_,E,hq,λv H1 s r=>?_⟩
   have r1:CU b.C (Bs b Ow) H1 v (.dT kvs):=r.bor
   obtain⟨a,kv,rfl,ha,ra⟩:=r1.dT
   have hlen:kv.length=kvs.length:=ra.length
   refine⟨a,kv,rfl,.inl ha,k _ _ s λC6 H2 h0 h1 hn=>?_⟩
   have hh:H2 a=some (.dT kv)/\DM b.C (Bs b C6) H2 kv kvs:=by
    refine⟨?_,ra.ex h1⟩
    cases fr with
    | false=>exact h0 rfl _ _ ha
    | true=>
     have rv:Rep b.C (Bs b Ow) H1 (.ref a) (.dT kvs):=r.val E (MQ rfl)
     cases rv with
     | dT q1 q2 q3=>rw[ha] at q1;cases q1;exact((h1 _ _ ha).1 q2).1
   obtain⟨Ta,ra2⟩:=hh
   refine⟨λi p hp=>?_,⟨kv,.inl Ta,rfl,by rw[af,hlen];exact aT _⟩⟩
   have hi:i < kvs.length:=by have:=(aw.mp hp).1;rwa [af] at this
   refine⟨⟨kv,.inl Ta,rfl,by omega⟩,λx H' y=>?_⟩
   obtain⟨t,kv',c,ks,y,ht,ex,eH,hr',JJ,dk⟩:=y
   subst ex eH
   have ekv:kv'=kv:=by
    rcases hr' with z | ⟨o,z⟩
    ·rw[Ta] at z;cases z;rfl
    ·rw[Ta] at z;cases z
   subst ekv
   rw[ar] at hp
   cases qq:kvs[i]? with
   | none=>rw[qq] at hp;cases hp
   | some w=>
    rw[qq] at hp
    cases hp
    obtain⟨v',QO,rv'⟩:=DM.get ra2 qq
    rw[JJ] at QO
    cases QO
    have nl:w.1.length≠2:=by
     have:=cq.mp FL w (ax qq)
     simpa using this
    obtain⟨us,hu,kt⟩:=Df (hK▸dk)
    have sn:=bh ht (HO.tup [.ref c,y])
    rcases kt with rfl | ⟨x,t',z,_⟩
    ·exact⟨sn,.tup bc (.cons ((hu.up sn).rep (ue _)) (.cons (rv'.ex (.of_same sn)) .nil))⟩
    ·have z:w.1=_:=z
     rw[z] at nl;exact absurd rfl nl
  ·cases FD
 ·cases FD
end
section
variable {X:Cx}{b:BX}{G G' L:gV}{pos p p2 DJ:Pos}{m m1 m2:Md}{e1 e2:Expr}{f1 f2:r6}
@[simp] noncomputable def qW:PV->PV->Option PV
 | .tup [.lst xs,.lst xs'],.tup [.lst ys,.lst Sl]=>(DO xs).bind λns=>(DO xs').bind λns'=>(DO ys).bind λms=>(DO Sl).bind λms'=>some (.bl (HT.EV ns ns' ms ms'))
 | _,_=>none
theorem Ak {xs ys:List PV}(r:CM C A H vs [.lst xs,.lst ys]):∃a c us ws,vs=[.ref a,.ref c]/\H a=some (.lst us)/\H c=some (.lst ws)/\CM C A H us xs/\CM C A H ws ys:=by
 cases r with
 | cons r1 r=>
  cases r with
  | cons r2 r=>
   cases r
   cases r1 with
   | lst h1 _ q1=>
    cases r2 with
    | lst h2 _ q2=>exact⟨_,_,_,_,rfl,h1,h2,q1,q2⟩
theorem Ti:IT b .val (Ft b.C.K) qW:=by
 intro Ow H v1 v2 p1 p2 p Q hn r1 r2 e k
 unfold qW at e
 split at e
 ·obtain⟨ns,q1,e⟩:=ao e
  obtain⟨ns',q2,e⟩:=ao e
  obtain⟨ms,q3,e⟩:=ao e
  obtain⟨ms',q4,e⟩:=ao e
  cases e
  obtain⟨a,vs,rfl,ha,ra⟩:=r1.tup
  obtain⟨c,ws,rfl,hc,rc⟩:=r2.tup
  obtain⟨a1,a2,us,us',rfl,h1,h2,w1,w2⟩:=Ak ra
  obtain⟨c1,c2,xs,xs',rfl,h3,h4,w3,w4⟩:=Ak rc
  have z1:=w1.DO q1
  have z2:=w2.DO q2
  have z3:=w3.DO q3
  have z4:=w4.DO q4
  subst z1 z2 z3 z4
  exact⟨a,c,a1,a2,c1,c2,ns,ns',ms,ms',rfl,rfl,ha.sq,hc.sq,DL.of h1,DL.of h2,DL.of h3,DL.of h4,k _ H (CS.refl _) (.bl _)⟩
 ·cases e
theorem Tj (hr:DD j X.A)(h1:SE X b G m1 e1 f1)(h2:SE X b G m2 e2 f2)(hK:X.K=b.C.K:=by rfl):SC X b G .Lt e1 e2 (b2 qW f1 f2):=
 mX (r:=Ft b.C.K) (by rw[← hK];exact Oi (o_ hr)) Ti h1 h2 (nq _)
end
def Tn (C:MC)(A:Addr->Prop)(H H':Hp)(v:V)(p:PV):Prop:=Rep C (λc=>A c\/H c=none) H' v p/\∀xs ys,p=.tup [.lst xs,.lst ys]->∃t a c us ws,v=.ref t/\H' t=some (.tup [.ref a,.ref c])/\H a=none/\H c=none/\H' a=some (.lst us)/\H' c=some (.lst ws)/\us.length=xs.length/\ws.length=ys.length
def spT (C:MC)(m:List PV->Option PV):Sp:=λvs H Q _=>∃A ps p,CM C A H vs ps/\m ps=some p/\∀v H',CS H H'->Tn C A H H' v p->Q v H'
variable {m:List PV->Option PV}
theorem Tp {Q:VK}{E:XK}(h:LD C m false vs H Q E):spT C m vs H Q E:=
 let ⟨A,ps,p,r,hm,k⟩:=h
 ⟨A,ps,p,r,hm,λv H' z r=>k v H' z r.1⟩
variable {mg:Str->Option Value}{mi:List PV->Option PV}
theorem Oo {P:Program}{w:World}{base:Heap}{k:Nat}{ps:rp}(c:MO P w K mg base k x ps (spT C mi)):MO P w K mg base k x ps (LD C mi false):=by
 obtain⟨f,fd,F,hb,kp,hm⟩:=c.ex
 exact⟨f,fd,F.imp λvs H Q E h=>Tp h,hb,kp,hm⟩
def Vo (b:BX)(Ow:Addr->Prop)(H:Hp)(G:gV)(D:Ends):Out->Prop
 | .nx e=>∀C6 σ' H',ER b C6 G σ' e H'->D.nx σ' H'
 | .rt p=>∀v H',CS b.H0 H'->Tn b.C b.A b.H0 H' v p->D.rt v H'
 | _=>False
def tRT (b:BX)(G:gV)(f:Env->Option Out):TS:=λD σ H=>∃Ow env out,ER b Ow G σ env H/\f env=some out/\Vo b Ow H G D out
def NR (f:Env->Option Out):Prop:=∀env p,f env≠some (.rt p)
theorem qu {h:r6}:NR (aJ i h):=λenv p e=>by
 obtain⟨q,_,e⟩:=ao e
 cases e
theorem Oq {g:PV->PV->Option PV}{h:r6}:NR (cA g i h):=λenv p e=>by
 obtain⟨q,_,e⟩:=ao e
 obtain⟨q,_,e⟩:=ao e
 obtain⟨q,_,e⟩:=ao e
 cases e
theorem Vp:NR EK:=λenv p e=>by cases e
theorem Vq:NR Zh:=λenv p e=>by cases e
variable {c:Env->Option Bool}{f:Env->Option Out}
theorem Vr {g:Env->Option Out}(hf:NR f)(hg:NR g):NR (E7 c f g):=λenv p e=>by
 obtain⟨k,_,e⟩:=ao e
 split at e
 ·exact hf env p e
 ·exact hg env p e
theorem Tq {g:Env->Option Out}(hf:NR f)(hg:NR g):NR (aC f g):=λenv p e=>by
 obtain⟨o,h1,e⟩:=ao e
 cases o with
 | nx e'=>exact hg e' p e
 | bk e'=>cases e
 | ct e'=>cases e
 | rt q=>exact hf env q h1
theorem wJ {g:PV->Env->Option Env}{ds:gV}{body:Env->Option Out}(hb:NR body):∀(xs:List PV) (env:Env) (p:PV),bM g ds body xs env≠some (.rt p)
 | [],env,p,e=>by simp[bM] at e
 | x::xs,env,p,e=>by
  unfold bM at e
  obtain⟨e1,h1,e⟩:=ao e
  obtain⟨o,h2,e⟩:=ao e
  cases o with
  | nx e'=>exact wJ hb xs _ p e
  | ct e'=>exact wJ hb xs _ p e
  | bk e'=>cases e
  | rt q=>exact hb e1 q h2
variable {g:PV->Env->Option Env}{body:Env->Option Out}
theorem Tr {ds:gV}(hb:NR body):NR (cu g src ds body):=λenv p e=>by
 obtain⟨xs,_,e⟩:=ao e
 exact wJ hb xs _ p e
section
variable {X:Cx}{b:BX}{G G1 G' L:gV}{st:Stmt}{rest:rk}{f g:Env->Option Out}
theorem jT (a:SS X b G G [] false st f)(c:Fu X rest (tRT b G g))(hn:NR f):Fu X (st::rest) (tRT b G (aC f g)):=Fu.imp (ik a c)<|by
 rintro D σ H ⟨Ow,env,o,E,hf,k⟩
 unfold aC at hf
 cases q:f env with
 | none=>rw[q] at hf;cases hf
 | some o1=>
  rw[q] at hf
  refine⟨Ow,env,o1,E,q,?_⟩
  cases o1 with
  | nx e'=>
   refine λC6 σ' H' E' x=>⟨C6,e',o,E',hf,?_⟩
   cases o with
   | nx e2=>exact λOw'' σ'' LX E''=>k Ow'' σ'' LX E''
   | rt p=>exact k
   | bk e2=>exact k.elim
   | ct e2=>exact k.elim
  | bk e'=>cases hf;exact k.elim
  | ct e'=>cases hf;exact k.elim
  | rt p=>exact absurd q (hn env p)
theorem Tt (i:Nat){e:Expr}{h:r6}{p1 p2 pos:Pos}{x1}(he:SE X b [] .own e h)(hi:i∈G:=by decide)(hN:X.N[i]?=some x:=by rfl)(hv:MB X.env.scope x:=by first | exact gc rfl | exact eB (gc rfl) | exact eB (eB rfl))(hd:(x == ("__debug__" : Str))=false:=by decide)
  (FH:(x == ("__classdict__" : Str))=false:=by decide) (LV:starEach [e] X.env=(false,eval e X.env)::starEach [] X.env:=by rfl) (Fh:starEach [.Name x p1,e] X.env=(false,eval (.Name x p1) X.env)::starEach [e] X.env:=by rfl):
  Fu X [.Return (some (.Tuple [.Name x p1,e] x1 p2)) pos] (tRT b G (aV (bL (ak (bV i) (ak h aB))))):=qd (PS.imp (vd (GJ (bN (gR hN hv hd FH) (bN he cI LV) Fh)))<|by
 rintro D σ H ⟨Ow,env,o,E,hf,k⟩
 obtain⟨q,e1,e2⟩:=ao hf
 clear hf
 cases e2
 obtain⟨qs,e2,e1⟩:=ao e1
 split at e1
 ·cases e1
  cases hx:bV i env with
  | none=>simp only[ak,hx,Option.bind_none] at e2;cases e2
  | some px=>
   cases hh:h env with
   | none=>simp only[ak,hx,hh,bE,Option.bind_none] at e2;cases e2
   | some y=>
    simp only[ak,hx,hh,aB,bE] at e2
    cases e2
    obtain⟨a,ea,wa,ta⟩:=E.own i px (fc hx) hi
    obtain⟨C6,E',_⟩:=E.weak (G':=[]) λj hj=>absurd hj bt
    refine⟨_,ea,C6,env,y,E',hh,λv H' z r=>⟨gb (by simp),λt ht=>?_⟩⟩
    obtain⟨c,ev,hn,tc⟩:=r
    subst ev
    have s2:=bh ht (.tup [.ref a,.ref c])
    refine k _ _ (E.same.trans (z.trans s2)) ⟨.tup bc (.cons ?_ (.cons ?_ .nil)),λxs ys he'=>?_⟩
    ·exact Top.rep (ta.ex (A':=λc=>b.A c\/b.H0 c=none) ((Ex.of_same (z.trans s2)).trans (cC λc o _ q=>q.2)) λo w=>s2 _ _ (z _ _ w)) (.inr (E.new a wa))
    ·exact Top.rep (tc.ex (A':=λc=>b.A c\/b.H0 c=none) ((Ex.of_same s2).trans (cC λc o _ q=>q.1.2)) λo w=>s2 _ _ w) (.inr (E.same.free hn))
    ·cases he'
     obtain⟨us,hu,ru⟩:=ta
     obtain⟨ws,hw,MI⟩:=tc
     exact⟨t,a,c,us,ws,rfl,bc,E.new a wa,E.same.free hn,s2 _ _ (z _ _ hu),s2 _ _ hw,ru.length,MI.length⟩
 ·cases e1)
theorem body_okT {N:rp}{n k:Nat}{body:rk}(hN:N.length=n)(hk:k<=n)(hG:(G.all λi=>decide (k<=i))=true)(hb:∀A H,Fu X body (tRT ⟨C,A,H,λ_=>none⟩ G f))
  {vs:List V}{H:Hp}{Q:VK}{E:XK}(h:spT C (bB n k false f) vs H Q E):∃t,Fu X body t/\t { nx:=λ_ H'=>Q .CY H',rt:=Q } (L2.start N vs) H:=by
 obtain⟨A,ps,p,r,hm,kk⟩:=h
 refine⟨_,hb A H,?_⟩
 unfold bB at hm
 split at hm
 ·rename_i hl
  obtain⟨o,ho,hm⟩:=ao hm
  refine⟨_,_,o,uG (N:=N) (G:=G) r (λi hi=>by rw[hl];simpa using cq.mp hG i hi) (by omega),by rw[hN,hl];exact ho,?_⟩
  cases o with
  | nx e=>cases hm;exact λC6 σ' H' E'=>kk .CY H' E'.same ⟨.CY,λxs ys z=>by cases z⟩
  | rt q=>cases hm;exact λv H' s rr=>kk v H' s rr
  | bk e=>cases hm
  | ct e=>cases hm
 ·cases hm
theorem Ot {n k:Nat}{ro':Bool}{Q:VK}{E:XK}(h:spT C (bB n k ro' f) vs H Q E):vs.length=k:=by
 obtain⟨A,ps,p,r,hm,kk⟩:=h
 unfold bB at hm
 split at hm
 ·rename_i hl;rw[r.length];exact hl
 ·cases hm
end
theorem ER.junk {b:BX}{G:gV}(E:ER b Ow G σ env H)(hi:i∉G)(hx:b.fx i=none)(v:V):ER b Ow G (σ.set i (some v)) (env.set i none) H:=by
 have back:∀{j:Nat}{q:PV},(env.set i none)[j]?=some (some q)->i≠j/\env[j]?=some (some q):=λ{j q} e=>by
  by_cases hj:i=j
  ·subst hj
   rw[kC] at e
   split at e
   ·split at e <;> cases e
   ·exact absurd rfl ‹_›
  ·rw[ay hj] at e;exact⟨hj,e⟩
 refine⟨by rw[c8,c8];exact E.len,E.same,E.live,E.new,λj q e n=>?_,λj q e n=>?_,λj k a q q' e1 n1 s1 e2 n2 s2=>?_,λk w hw=>?_⟩
 ·obtain⟨n1,e⟩:=back e
  rw[ay n1]
  exact E.val j q e n
 ·obtain⟨n1,e⟩:=back e
  rw[ay n1]
  exact E.own j q e n
 ·obtain⟨m1,e1⟩:=back e1
  obtain⟨m2,e2⟩:=back e2
  rw[ay m1] at s1
  rw[ay m2] at s2
  exact E.sep j k a q q' e1 n1 s1 e2 n2 s2
 ·have n1:i≠k:=λz=>by subst z;rw[hx] at hw;cases hw
  rw[ay n1]
  exact E.fix k w hw
noncomputable def wK:PV->Bool
 | .tup [.lst xs,.lst ys]=>decide (xs.length < 1000)&&decide (ys.length < 1000)
 | _=>false
theorem HN {p:PV}(h:wK p=true):∃xs ys,p=.tup [.lst xs,.lst ys]/\xs.length < 1000/\ys.length < 1000:=by
 unfold wK at h
 split at h
 ·rename_i xs ys
  rw[bp] at h
  exact⟨xs,ys,rfl,gg h.1,gg h.2⟩
 ·cases h
noncomputable def Fy (i:Nat)(kb:Bool)(ga:Env->Option (List PV))(mi:List PV->Option PV)(cc:Env->Option Bool)(g:Env->Option Out)(env:Env):Option Out:=
 (ga env).bind λqs=>(mi qs).bind λp=>(cc (env.set i (some p))).bind λk=>if k=true then some (.rt (.bl kb)) else if wK p=true/\i < env.length then g (env.set i none) else none
@[simp] theorem Ws (i:Nat)(kb:Bool)(ga:Env->Option (List PV))(mi:List PV->Option PV)(cc:Env->Option Bool)(g:Env->Option Out)(env:Env):Fy i kb ga mi cc g env=
 ((ga env).bind λqs=>(mi qs).bind λp=>(cc (env.set i (some p))).bind λk=>if k=true then some (.rt (.bl kb)) else if wK p=true/\i < env.length then g (env.set i none) else none):=id rfl
variable {ga:Env->Option (List PV)}{cc:Env->Option Bool}
section
variable {X:Cx}{b:BX}{G G' L:gV}{rest:rk}{g:Env->Option Out}
theorem Ou (i:Nat){fx:Str}{k n:Nat}{ps:rp}{e:Expr}{ce:Expr}{kb:Bool}
  {pf pc Zu UX DJ Zv UY pos4 Zw Zx Zy Zz ap0 ap1 ZC ZD ZE ZF pn pz pb:Pos}{j0 j1 jn jz jb:Nat}
  (nd:X.N.Nodup) (c:MO X.prog X.w X.K X.mg X.base k fx ps (spT b.C mi)) (hr:DD n X.A) (ha:SA X b G false (e::es) ga) (WV:ST X b G ce cc) (hg:Kx X b G G' L false rest g)
  (hG:i∉G:=by decide) (hx:b.fx i=none:=by first | rfl | assumption) (hi:X.N[i]?=some x:=by rfl) (hl:Loc X.env.scope x:=by first | exact gc rfl | exact eB rfl)
  (hv:MB X.env.scope x:=by first | exact gc rfl | exact eB (gc rfl) | exact eB (eB rfl)) (hd:(x == ("__debug__" : Str))=false:=by decide) (FH:(x == ("__classdict__" : Str))=false:=by decide)
  (hle:k<=n:=by decide) (LZ:Gl X fx:=by rfl) (Ic:(fx == ("__debug__" : Str))=false:=by decide) (he:starEach (e::es) X.env=(false,eval e X.env)::starEach es X.env:=by rfl) (FA:(backTo pc (starEach es X.env)).any (·.1)=false:=by rfl)
  (hs:swapsWith (.Call (.Name fx pf) (e::es) [] pc) (some (.Name x UX)) Zu.line X.env=pure false:=by rfl) (RI:X.fn x=true\/X.env.scope.names.lookup x=some .local:=by first | exact .inl rfl | exact .inr rfl | assumption)
  (hs0:starEach [Expr.Constant .none jn pn] X.env=(false,eval (.Constant .none jn pn) X.env)::starEach [] X.env:=by rfl)
  (LV:starEach [Expr.Constant (.int 0) jz pz] X.env=(false,eval (.Constant (.int 0) jz pz) X.env)::starEach [] X.env:=by rfl)
  (SD:attributeBase (.Subscript (.Name x ZE) (.Constant (.int 0) j0 Zw) Zy) "append" X.env (eval (.Subscript (.Name x ZE) (.Constant (.int 0) j0 Zw) Zy) X.env)=eval (.Subscript (.Name x ZE) (.Constant (.int 0) j0 Zw) Zy) X.env:=by rfl)
  (hb1:attributeBase (.Subscript (.Name x ZF) (.Constant (.int 1) j1 Zx) Zz) "append" X.env (eval (.Subscript (.Name x ZF) (.Constant (.int 1) j1 Zx) Zz) X.env)=eval (.Subscript (.Name x ZF) (.Constant (.int 1) j1 Zx) Zz) X.env:=by rfl)
  (hf0:((backTo ZC (starEach [Expr.Constant .none jn pn] X.env)).all (λx=>!x.1)&&(backToKw ZC (keywordEach [] X.env)).all (λx=>x.1.isSome)&&decide ([Expr.Constant .none jn pn].length+([]:List Keyword).length+(if ([]:List Keyword).isEmpty then 0 else 1) < 30))=true:=by rfl)
  (hf1:((backTo ZD (starEach [Expr.Constant (.int 0) jz pz] X.env)).all (λx=>!x.1)&&(backToKw ZD (keywordEach [] X.env)).all (λx=>x.1.isSome)&&decide ([Expr.Constant (.int 0) jz pz].length+([]:List Keyword).length+(if ([]:List Keyword).isEmpty then 0 else 1) < 30))=true:=by rfl)
  (US:(ap0.endLine == ZC.line)=true:=by rfl) (JO:(ap1.endLine == ZD.line)=true:=by rfl)
  (hw0:swapsWith (.Call (.Attribute (.Subscript (.Name x ZE) (.Constant (.int 0) j0 Zw) Zy) "append" ap0) [.Constant .none jn pn] [] ZC) none Zv.line X.env=pure false:=by rfl)
  (hw1:swapsWith (.Call (.Attribute (.Subscript (.Name x ZF) (.Constant (.int 1) j1 Zx) Zz) "append" ap1) [.Constant (.int 0) jz pz] [] ZD) none UY.line X.env=pure false:=by rfl):
  Kx X b G G' L false (.Assign [.Name x UX] (.Call (.Name fx pf) (e::es) [] pc) Zu::.If ce [.Return (some (.Constant (.bool kb) jb pb)) DJ] [] pos4 ::
   .Expr (.Call (.Attribute (.Subscript (.Name x ZE) (.Constant (.int 0) j0 Zw) Zy) "append" ap0) [.Constant .none jn pn] [] ZC) Zv ::
   .Expr (.Call (.Attribute (.Subscript (.Name x ZF) (.Constant (.int 1) j1 Zx) Zz) "append" ap1) [.Constant (.int 0) jz pz] [] ZD) UY::rest) (Fy i kb ga mi cc g):=by
 refine Fu.imp (ik (rZ nd hi hl (Hd c hr ha hle LZ Ic he FA) hs RI) (ik (Ek WV (qd (vd Ly)) vZ) (ik
  (m8 (qM fb gS gX jY (yI LN (gR hi hv hd FH) u_ λ_ _=>rfl) (bN za cI hs0) SD hf0 US hs0 rfl) hw0)
  (ik (m8 (qM fb gS gX jY (yI LN (gR hi hv hd FH) u_ λ_ _=>rfl) (bN u_ cI LV) hb1 hf1 JO LV rfl) hw1) hg)))) λD σ H ⟨Ow,env,o,E,hq,kk⟩=>?_
 obtain⟨qs,h1,hq⟩:=ao hq
 obtain⟨p,h2,hq⟩:=ao hq
 obtain⟨kb',h3,hq⟩:=ao hq
 refine⟨Ow,env,qs,E,h1,λvs H1 s1 rr=>?_⟩
 dsimp only
 rw[bq]
 refine⟨Bs b Ow,qs,p,vy rr,h2,λv H' s' rt=>?_⟩
 obtain⟨rt0,rtN⟩:=rt
 have rep0:Rep b.C (Bs b Ow) H' v p:=rt0.ex (cC λc o _ z=>z.elim id λw=>(E.up s1).fresh w)
 have E1:=(E.up (s1.trans s')).set hG rep0 hx
 refine⟨Ow,_,kb',E1,h3,λH2 s2=>?_⟩
 have s02:CS H H2:=s1.trans (s'.trans s2)
 cases kb' with
 | true=>
  rw[be rfl] at hq
  cases hq
  exact zG (kk _ H2 (E.same.trans s02) (.bl _))
 | false=>
  rw[a7 (by decide)] at hq
  refine zF ?_
  split at hq
  ·rename_i WG
   have hgo:=hq
   obtain⟨xs,ys,hp,hxl,hyl⟩:=HN WG.1
   obtain⟨t,a,d,us,ws,ev,ht,na,nc,hus,hws,lu,lw⟩:=rtN xs ys hp
   subst hp ev
   have hσ:(σ.set i (some (V.ref t)))[i]?=some (some (.ref t)):=ck (by rw[E.len];exact WG.2)
   have m1:H2 t=some (.tup [.ref a,.ref d]):=s2 _ _ ht
   have ma:H2 a=some (.lst us):=s2 _ _ hus
   have md:H2 d=some (.lst ws):=s2 _ _ hws
   have at0:L2.DE [V.ref a,V.ref d] 0=some (.ref a):=L2.JU (xs:=[V.ref a,V.ref d]) (j:=0) rfl
   have at1:L2.DE [V.ref a,V.ref d] 1=some (.ref d):=L2.JU (xs:=[V.ref a,V.ref d]) (j:=1) rfl
   have nta:t≠a:=λz=>by rw[z,ma] at m1;cases m1
   refine⟨.ref t,hσ,t,_,0,.ref a,rfl,rfl,FI.of m1,at0,.inl ⟨rfl,_,DL.of ma⟩,?_⟩
   refine⟨a,us,.CY,rfl,rfl,ma,iT (by omega),?_⟩
   obtain⟨zs,hz,lz⟩:∃zs,(upd H2 a (.lst (us++[.CY]))) d=some (.lst zs)/\zs.length<=1000:=by
    by_cases Zs:d=a
    ·subst Zs
     exact⟨_,bc,by rw[aS,cw];omega⟩
    ·exact⟨ws,by rw[aP Zs];exact md,by omega⟩
   refine⟨.ref t,hσ,t,_,1,.ref d,rfl,rfl,FI.of (by rw[aP nta];exact m1),at1,.inl ⟨rfl,_,DL.of hz⟩,?_⟩
   refine⟨d,zs,.int 0,rfl,rfl,hz,iT (by omega),?_⟩
   have s7:CS H (upd (upd H2 a (.lst (us++[.CY]))) d (.lst (zs++[.int 0]))):=λc o ME=>by
    have c1:c≠a:=λz=>by subst z;have:=s1.free na;rw[ME] at this;cases this
    have c3:c≠d:=λz=>by subst z;have:=s1.free nc;rw[ME] at this;cases this
    rw[aP c3,aP c1]
    exact s02 _ _ ME
   exact⟨_,_,_,(E.up s7).junk hG hx (.ref t),hgo,kk.ex (Ex.of_same s7)⟩
  ·cases hq
end
end MR
namespace My
open PySem L2 MR
@[simp] theorem W3 (i j:Int):K2 (.int i) (.int j)=some (decide (i=j)):=rfl
@[simp] theorem W4 (i j:Str):K2 (.str i) (.str j)=some (decide (i=j)):=rfl
@[simp] theorem Xn (i j:Bool):K2 (.bl i) (.bl j)=some (decide (i=j)):=rfl
theorem Ov {α β:Type}(f:α->β)(xs:List α)(i:Int):DE (xs.map f) i=(DE xs i).map f:=by
 unfold DE
 rw[af]
 cases Kk xs.length i with
 | none=>rfl
 | some j=>simp
theorem bJ {α:Type}{xs:List α}{k:Nat}{x:α}(h:xs[k]?=some x):DE xs (k:Int)=some x:=JU h
section
variable {α:Type}{env:MR.Env}{g:PV->MR.Env->Option MR.Env}{t:MR.Env->Option Bool}{f:MR.Env->Option PV}
theorem gn (c h:α->PV):∀(ys:List α),(∀y∈ys,∃e,g (c y) env=some e/\f e=some (h y))->eQ env g fU f (ys.map c)=some (ys.map h)
 | [],_=>rfl
 | y::ys,hh=>by
  obtain⟨e,h1,h2⟩:=hh y ah
  have ih:=gn c h ys λz hz=>hh z (ag _ hz)
  simp[eQ,h1,h2,ih]
theorem jk (c h:α->PV)(p:α->Bool):∀(ys:List α),(∀y∈ys,∃e,g (c y) env=some e/\t e=some (p y)/\(p y=true->f e=some (h y)))->eQ env g t f (ys.map c)=some ((ys.filter p).map h)
 | [],_=>rfl
 | y::ys,hh=>by
  obtain⟨e,h1,h2,h3⟩:=hh y ah
  have ih:=jk c h p ys λz hz=>hh z (ag _ hz)
  cases hp:p y with
  | true=>simp[eQ,h1,h2,h3 hp,ih,hp]
  | false=>simp[eQ,h1,h2,ih,hp]
end
theorem jl {α:Type}(c:α->PV):∀(ys:List α) (n:Nat),fQ n (ys.map c)=(ys.zipIdx n).map λy=>.tup [.int (y.2:Nat),c y.1]
 | [],_=>rfl
 | y::ys,n=>by simp[fQ,jl c ys]
section
variable {α:Type}(a b c d e f g h:α)(l:List α)
@[simp] theorem at0:DE (a::l) 0=some a:=bJ (k:=0) rfl
@[simp] theorem at1:DE (a::b::l) 1=some b:=bJ (k:=1) rfl
@[simp] theorem at2:DE (a::b::c::l) 2=some c:=bJ (k:=2) rfl
@[simp] theorem at3:DE (a::b::c::d::l) 3=some d:=bJ (k:=3) rfl
end
@[simp] noncomputable def ZG (ds:gV):Option Out->Option MR.Env
 | some (.nx e)=>some (E8 ds e)
 | some (.ct e)=>some (E8 ds e)
 | _=>none
noncomputable def turn (g:PV->MR.Env->Option MR.Env)(ds:gV)(body:MR.Env->Option Out)(x:PV)(env:MR.Env):Option MR.Env:=(g x env).bind λe=>ZG ds (body e)
theorem aY (g:PV->MR.Env->Option MR.Env)(ds:gV)(body:MR.Env->Option Out)(x:PV)(env:MR.Env):turn g ds body x env=(g x env).bind λe=>ZG ds (body e):=id rfl
theorem jB {g:PV->MR.Env->Option MR.Env}{ds:gV}{body:MR.Env->Option Out}{x:PV}{xs:List PV}{env DF:MR.Env}(h:turn g ds body x env=some DF):bM g ds body (x::xs) env=bM g ds body xs DF:=by
 unfold turn at h
 obtain⟨e,h1,h2⟩:=ao h
 unfold ZG at h2
 split at h2
 ·rename_i q;cases h2;simp[bM,h1,q]
 ·rename_i q;cases h2;simp[bM,h1,q]
 ·cases h2
theorem aZ {f g:MR.Env->Option Out}{env e:MR.Env}(h:f env=some (.nx e)):aC f g env=g e:=by simp[h]
variable {p:PV}
theorem qw {f g:MR.Env->Option Out}{env:MR.Env}(h:f env=some (.rt p)):aC f g env=some (.rt p):=by simp[h]
theorem dW (n:Nat):dj 0 (n:Int)=(List.range n).map λk=>PV.int (k:Nat):=by
 unfold dj
 simp
noncomputable def cell (ns:rq)(k:Nat):Int:=ns.getD k 0
noncomputable def mixed (c k:Int):Int:=(c*48271+k*k*69621+5) % 2147483647
theorem Ks (c k:Int):0<=mixed c k:=mM _ (by decide)
def Iy:Nat->PV->Prop
 | _,.CY=>True
 | _,.bl _=>True
 | _,.int _=>True
 | _,.str x=>PyData.strOk x=true
 | n+1,.lst xs=>∀x∈xs,Iy n x
 | n+1,.tup xs=>∀x∈xs,Iy n x
 | _,_=>False
theorem Al {n:Nat}(ih:∀p,Iy n p->∃d,toD p=some d/\d.canLay0=true/\d.depth<=n/\PyData.eqv d d=true):∀xs:List PV,(∀x∈xs,Iy n x)->∃ds,dB xs=some ds/\PyData.canLayAll0 ds=true/\PyData.depthAll ds<=n/\PyData.eqvAll ds ds=true
 | [],_=>⟨[],rfl,rfl,c6 _,rfl⟩
 | x::xs,h=>by
  obtain⟨d,h1,h2,h3,h4⟩:=ih x (h x ah)
  obtain⟨ds,g1,g2,g3,g4⟩:=Al ih xs λz hz=>h z (ag _ hz)
  refine⟨d::ds,by simp[dB,h1,g1],by simp[PyData.canLayAll0,h2,g2],?_,by simp[PyData.eqvAll,h4,g4]⟩
  simp only[PyData.depthAll]
  omega
theorem Fz:∀(n:Nat) (p:PV),Iy n p->∃d,toD p=some d/\d.canLay0=true/\d.depth<=n/\PyData.eqv d d=true
 | n,.CY,_=>⟨.none,by simp[toD],by simp[PyData.canLay0],by simp[PyData.depth],by simp[PyData.eqv]⟩
 | n,.bl b,_=>⟨.bool b,by simp[toD],by simp[PyData.canLay0],by simp[PyData.depth],by simp[PyData.eqv]⟩
 | n,.int b,_=>⟨.int b,by simp[toD],by simp[PyData.canLay0],by simp[PyData.depth],by simp[PyData.eqv]⟩
 | n,.str b,h=>⟨.str b,by simp[toD],by simpa [PyData.canLay0,Iy] using h,by simp[PyData.depth],by simp[PyData.eqv]⟩
 | n+1,.lst xs,h=>by
  obtain⟨ds,g1,g2,g3,g4⟩:=Al (Fz n) xs (by simpa [Iy] using h)
  exact⟨.list ds,by simp[toD,g1],by simp[PyData.canLay0,g2],by simp only[PyData.depth];omega,by simp[PyData.eqv,g4]⟩
 | n+1,.tup xs,h=>by
  obtain⟨ds,g1,g2,g3,g4⟩:=Al (Fz n) xs (by simpa [Iy] using h)
  exact⟨.tuple ds,by simp[toD,g1],by simp[PyData.canLay0,g2],by simp only[PyData.depth];omega,by simp[PyData.eqv,g4]⟩
 | 0,.lst _,h=>by simp[Iy] at h
 | 0,.tup _,h=>by simp[Iy] at h
 | _,.EA _,h=>by simp[Iy] at h
 | _,.He _,h=>by simp[Iy] at h
 | _,.dK _,h=>by simp[Iy] at h
 | _,.dT _,h=>by simp[Iy] at h
theorem Ku {n:Nat}(h:Iy n p)(hn:n<=64):XT p p=some true:=by
 obtain⟨d,h1,h2,h3,h4⟩:=Fz n p h
 have hs:SeqAt.shaped d=true:=by
  unfold SeqAt.shaped
  rw[h2,gd,eD]
  omega
 simp[XT,h1,hs,h4]
theorem Kv {k:Bool}(h:SH p p=some k):k=true:=by
 cases p <;> simp at h <;> first | exact h | exact h.symm | cases h
theorem qX {n:Nat}(h:Iy n p)(hn:n<=64):K2 p p=some true:=by
 unfold K2
 cases q:SH p p with
 | none=>exact Ku h hn
 | some k=>rw[Kv q]
@[simp] theorem W5:K2 (.lst []) (.lst [])=some true:=qX (n:=1) (by simp[Iy]) (by decide)
end My
namespace L2
open PySem PySem.Spec PyProof.Rows
variable {P:Program}{K:W.Frag}
theorem Dx.there {w:World}{H:Hp}{h:Heap}{a:Addr}{o:HO}(x:Dx P w K H h a o):∃u,h.get? a=some u:=by
 cases o with
 | lst xs=>obtain⟨_,_,_,_,e⟩:=x;exact⟨_,e⟩
 | tup xs=>obtain⟨_,_,_,_,e,_⟩:=x;exact⟨_,e⟩
 | dK kvs=>obtain⟨_,_,_,_,o,_,_,e,_⟩:=x;exact⟨_,e⟩
 | dT kvs=>obtain⟨_,_,_,_,o,_,_,e,_⟩:=x;exact⟨_,e⟩
 | set S n=>obtain⟨o,_,_,_,e,_⟩:=x;exact⟨_,e⟩
 | own y=>exact x
 | rng lo hi=>obtain⟨_,_,_,e⟩:=x;exact⟨_,e⟩
 | EA ob u=>obtain⟨e,_⟩:=x;exact⟨_,e⟩
 | TR ps=>exact⟨_,(show h.get? a=some _ from x)⟩
 | ext φ=>exact x.2.1
def X8 (B h₀ h:Heap)(H:Hp)(l:List Env):Prop:=∀b o,h.get? b=some o->B.get? b=none->b∈F8 l\/(h₀.get? b=none/\H b=none)
structure Lies (X:Cx)(CI:fN)(σ:St)(H:Hp)(C:Value)(e:Value)(s:Shared):Prop where
 inv:Inv X CI σ H s
 ex:∃a a0 B,e=.ref a/\Heap.FlyingW B X.stack a C a0 s.heap/\X.s₀.heap.get? a=none/\H a=none/\(∀p∈X.pn++CI,B.get? p.1=some p.2)/\X8 B X.s₀.heap s.heap H X.stack
def IA (P:Program)(w:World)(K:W.Frag):N9:=λouter H s E e s'=>∃a C a0 B H',e=.ref a/\s'.os=s.os/\AllBare s'.gens/\Un (F8 outer) [] H H' s.heap s'.heap/\F4 P w K H' s'.heap /\
 Heap.FlyingW B outer a C a0 s'.heap/\s.heap.get? a=none/\H' a=none/\X8 B s.heap s'.heap H' outer/\E C none H'
section
variable {P:Program}{w:World}{K:W.Frag}{mg:Str->Option Value}{base:Heap}{N:rp}{qual:Str}{scope:Scope}{f:Addr}{cd:Value}{A:Around}{outer:List Env}{s:Shared}{H:Hp}{E:XK}{CX:N9}
variable {CI:fN}{σ:St}{H1:Hp}{s1:Shared}
theorem xT {b:Addr}{env:Env}{outer:List Env}{L:Addr}(hf:env.frame=some L)(h:b∈F8 (env::outer)):b=L\/b∈F8 outer:=by
 unfold F8 at h ⊢
 rw[jI,hf] at h
 exact av.mp h
theorem Dh (I:Inv (ir CX P w K mg base N qual scope f cd A outer s H E) CI σ H1 s1){B h2:Heap}(bs:∀b o,B.get? b=some o->s1.heap.get? b=some o)(st:B.StaysIn h2)
  (gr:X8 B s.heap s1.heap H1 (envOfC qual scope s.heap.objs.size f cd::outer)) (up:s1.heap.UpToSlots h2):
  Un (F8 outer) [] H H1 s.heap h2/\F4 P w K H1 h2/\X8 B s.heap h2 H1 outer:=by
 have u:Un (F8 outer) [] H H1 s.heap s1.heap:=I.base
 have kept:∀b o,s1.heap.get? b=some o->b∉F8 (envOfC qual scope s.heap.objs.size f cd::outer)->(s.heap.get? b≠none\/H1 b≠none)->h2.get? b=some o:=λb o e n1 n2=>by
  cases q:B.get? b with
  | none=>exact((gr b o e q).elim n1 λz=>n2.elim (λy=>y z.1) λy=>y z.2).elim
  | some o'=>
   have:=bs b o' q
   rw[e] at this
   cases this
   exact st b o q
 have old:∀b o,s.heap.get? b=some o->b∉F8 outer->b∉F8 (envOfC qual scope s.heap.objs.size f cd::outer):=λb o e n z=>by
  rcases xT rfl z with y | y
  ·subst y;exact absurd (aI e) (em _)
  ·exact n y
 have fr:∀b o,s1.heap.get? b=some o->b∈F8 (envOfC qual scope s.heap.objs.size f cd::outer)->∃sl,h2.get? b=some { o with slots:=sl }:=λb o e hb=>by
  obtain⟨_,o',e',hd⟩:=I.stack.mem hb
  rw[e] at e'
  cases e'
  exact up b o e hd
 refine⟨⟨λb o q n hb hx=>?_,λb o q n hb hx=>?_,u.free,λb o q hx=>?_,u.IL,u.HV,u.IM⟩,λb v q=>?_,λb o q n=>?_⟩
 ·exact kept b o (u.keep b o q n hb hx) (old b o q hb) (.inl (by rw[q];exact λz=>nomatch z))
 ·obtain⟨sl,e1⟩:=u.slot b o q n hb hx
  obtain⟨YM,e2⟩:=fr b _ e1 (by unfold F8 at hb ⊢;rw[jI];exact ag _ hb)
  exact⟨YM,e2⟩
 ·obtain⟨o',e1⟩:=u.there b o q hx
  by_cases hb:b∈F8 (envOfC qual scope s.heap.objs.size f cd::outer)
  ·obtain⟨sl,e2⟩:=fr b o' e1 hb
   exact⟨_,e2⟩
  ·exact⟨o',kept b o' e1 hb (.inl (by rw[q];exact λz=>nomatch z))⟩
 ·refine(I.C8 b v q).IJ (λc x hc r=>?_) (λ_ q=>q) λ_ _ q=>q
  have hn:H1 c≠none:=by
   rcases hc with rfl | hc
   ·rw[q];exact λz=>nomatch z
   ·rw[hc];exact λz=>nomatch z
  exact kept c x r (λz=>hn (I.HK c z)) (.inr hn)
 ·cases e1:s1.heap.get? b with
  | some o'=>
   rcases gr b o' e1 n with z | z
   ·rcases xT rfl z with y | y
    ·subst y;exact .inr ⟨l8 (aT _),I.free⟩
    ·exact .inl y
   ·exact .inr z
  | none=>
   refine .inr ⟨?_,?_⟩
   ·cases q2:s.heap.get? b with
    | none=>rfl
    | some o2=>
     obtain⟨_,e2⟩:=u.there b o2 q2 (by simp)
     rw[e1] at e2;cases e2
   ·cases q2:H1 b with
    | none=>rfl
    | some v=>
     obtain⟨_,e2⟩:=(I.C8 b v q2).there
     rw[e1] at e2;cases e2
theorem FJ {C e:Value}(L:Lies (ir (IA P w K) P w K mg base N qual scope f cd A outer s H E) CI σ H1 C e s1)(hE:E C none H1):(ir (IA P w K) P w K mg base N qual scope f cd A outer s H E).xe e s1:=by
 obtain⟨a,a0,B,rfl,fl,na,nH,np,gr⟩:=L.ex
 have I:=L.inv
 show wpAny (model P w) (A.deeper (envOfC qual scope s.heap.objs.size f cd)) (leaving (envOfC qual scope s.heap.objs.size f cd) (.ref a)) (λ_ NC=>IA P w K outer H s E (.ref a) NC) (λe' NC=>IA P w K outer H s E e' NC) s1
 refine wpAny_leaves_onW I.ok.frames rfl fl λh2 fl2 up=>?_
 obtain⟨u2,X9,gr2⟩:=Dh I (λb o q=>fl.1 b o q) fl2.1 gr up
 exact⟨a,C,a0,B,H1,rfl,I.os,I.bare,u2,X9,fl2,na,nH,gr2,hE⟩
theorem lies_of {X:Cx}(I:Inv X CI σ H1 s1)(hex:X.ex=[]){Q:XK}{e:Value}{s2:Shared}(h:IA X.prog X.w X.K X.stack H1 s1 Q e s2):∃C H2,Lies X CI σ H2 C e s2/\Q C none H2:=by
 obtain⟨a,C,a0,B,H2,rfl,os,bare,un,C8,fl,na,nH,gr,hQ⟩:=h
 have there:∀b o,X.s₀.heap.get? b=some o->∃o',s1.heap.get? b=some o':=λb o q=>I.base.there b o q (by rw[hex];simp)
 have fresh:∀b,s1.heap.get? b=none->X.s₀.heap.get? b=none:=λb q=>by
  cases z:X.s₀.heap.get? b with
  | none=>rfl
  | some o=>obtain⟨_,y⟩:=there b o z;rw[q] at y;cases y
 refine⟨C,H2,⟨I.T2 os un C8 bare (λb z=>nomatch z),a,a0,B,rfl,fl,fresh a na,nH,λp hp=>?_,λb o q n=>?_⟩,hQ⟩
 ·obtain⟨e1,n1,nl,nf,_⟩:=I.pin p hp
  have nfr:p.1∉F8 X.stack:=λz=>(av.mp (I.GY _ z)).elim nl nf
  have e2:=un.keep p.1 p.2 e1 n1 nfr (by simp)
  cases q:B.get? p.1 with
  | none=>
   rcases gr p.1 p.2 e2 q with z | z
   ·exact absurd z nfr
   ·rw[e1] at z;cases z.1
  | some o=>
   have:=fl.1 _ _ q
   rw[e2] at this
   cases this
   rfl
 ·rcases gr b o q n with z | z
  ·exact .inl z
  ·exact .inr ⟨fresh b z.1,z.2⟩
end
theorem Ox {h:Heap}{C:Addr}{ZH:mA}{newId:String}(KI:K.In h)(q:W.excIn K C ZH newId=true):
  ∃(bm:mA) (N:Addr) (nm qn:Str) (bs:mA) (ZI:Bool) (sn:rp) (su:mA) (ab:Bool) (co:Option Bool) (dd:Option Addr) (k0 k1 k2 k3 k5:Option Value) (mN:Str->Option Value),
   h.get? C=some (excClassObj nm qn C N bs bm ZI sn su ab co dd k0 k1 k2 k3 k5 newId)/\h.Ns N mN/\mN "__init__" = none/\OwnTail h ZH bm:=by
 unfold W.excIn at q
 split at q
 ·rename_i dd cdd sl lk
  split at q
  ·rename_i C1 bm k0 k1 k2 k3 nw k5 hmro Q1
   simp only[bp,oQ,Bool.not_eq_true'] at q
   obtain⟨⟨⟨⟨⟨r1,r2⟩,hdel⟩,htl⟩,Y0⟩,hini⟩:=q
   subst r1 r2
   cases cdd with
   | mk nm bs mro ns qn ZI sn su ab co del=>
    have e1:mro=.ref C1::bm:=hmro
    have e2:del=false:=hdel
    subst e1 e2
    have e3:sl=#[k0,k1,k2,k3,some (.builtin nw),k5]:=by cases sl with | mk l=>exact b9 Array.mk Q1
    subst e3
    exact⟨bm,ns,nm,qn,bs,ZI,sn,su,ab,co,dd,k0,k1,k2,k3,k5,_,KI _ _ lk,.of_isNs (W.isNs_of_in KI Y0),W.nsMap_none_of_in KI Y0 hini,W.tail_of_in KI htl⟩
  ·cases q
 ·cases q
abbrev RX:=List (Addr×Obj)->St->Hp->Prop
def XE (X:Cx)(r:RX)(e:Expr):Prop:=∀(CI:fN) (s:Shared) (σ:St) (H:Hp),Inv X CI σ H s->r CI σ H->wpAny (model X.prog X.w) X.A (eval e X.env) (λ_ _=>False) X.xe s
def XS (X:Cx)(r:RX)(st:Stmt):Prop:=∀(CI:fN) (s:Shared) (σ:St) (H:Hp),Inv X CI σ H s->r CI σ H->wpAny (model X.prog X.w) X.A (exec st X.env) (λ_ _=>False) X.xe s
def Ya (X:Cx)(r:RX)(st:rk):Prop:=∀(CI:fN) (s:Shared) (σ:St) (H:Hp),Inv X CI σ H s->r CI σ H->wpAny (model X.prog X.w) X.A (execs st X.env) (λ_ _=>False) X.xe s
structure Tb (P:Program)(w:World)(K:W.Frag)(mg:Str->Option Value)(base:Heap)(k:Nat)(x:Str)(ps:rp)(sp:Sp):Prop where
 ex:∃f fd,EC P w K mg base (IA P w K) k f fd ps sp/\Binds K fd ps []/\W.keepIn K (.ref f)=true/\mg x=some (.ref f)
variable {mg:Str->Option Value}
theorem Oz {w:World}{base:Heap}{k:Nat}{x:Str}{ps:rp}{sp:Sp}{st:Stmt}{f:Addr}{fd:FuncData}(F:I0 K x x st f fd)
  (hm:mg x=some (.ref f)) (hb:Binds K fd ps []) (G:EC P w K mg base (IA P w K) k f fd ps sp):Tb P w K mg base k x ps sp:=⟨f,fd,G,hb,F.kp,hm⟩
section
variable {X:Cx}{r r':RX}{e:Expr}{st:Stmt}{rest:rk}{pos:Pos}
theorem Tu {x:Str}{pos':Pos}(h:XE X r e)(hs:swapsWith e (some (.Name x pos')) pos.line X.env=pure false:=by rfl):XS X r (.Assign [.Name x pos'] e pos):=λCI s σ H I q=>
 wpAny_Assign_Name (DB (h CI s σ H I q) λ_ _ z=>z.elim) hs
theorem uM (h:XS X r st):Ya X r (st::rest):=λCI s σ H I q=>ow (DB (h CI s σ H I q) λ_ _ z=>z.elim)
end
end L2
namespace MR
open PySem L2
def UZ (C:MC)(mi:List PV->Option PV)(ro:Bool)(xi:List PV->Option Nat):Sp:=λvs H Q E=>LD C mi ro vs H Q E\/∃A ps c,CM C A H vs ps/\xi ps=some c/\∀H',CS H H'->E (.ref (C.cl c)) none H'
def tX (b:BX)(G:gV)(W:List (Addr×Obj)->St->Hp->Nat->Prop)(xf:Env->Option Nat):RX:=λCI σ H=>∃Ow env c,ER b Ow G σ env H/\xf env=some c/\W CI σ H c
def WD (b:BX)(E:XK):List (Addr×Obj)->St->Hp->Nat->Prop:=λ_ _ _ c=>∀H1,CS b.H0 H1->E (.ref (b.C.cl c)) none H1
def WT (X:Cx)(b:BX):List (Addr×Obj)->St->Hp->Nat->Prop:=λCI σ H c=>∀H1 e s,CS H H1->Lies X CI σ H1 (.ref (b.C.cl c)) e s->X.xe e s
structure WOk (X:Cx)(b:BX)(W:List (Addr×Obj)->St->Hp->Nat->Prop):Prop where
 up:∀CI σ H H1 c,CS H H1->W CI σ H c->W CI σ H1 c
 go:∀CI σ H c H1 e s,CS b.H0 H->W CI σ H c->CS H H1->Lies X CI σ H1 (.ref (b.C.cl c)) e s->X.xe e s
 ex:X.ex=[]
theorem Vs {X:Cx}{b:BX}(h:X.ex=[]):WOk X b (WT X b):=⟨λCI σ H H1 c s w H2 e s' s2 L=>w H2 e s' (s.trans s2) L,λCI σ H c H1 e s _ w s1 L=>w H1 e s s1 L,h⟩
variable {mg:Str->Option Value}{f:Addr}{outer:List PySem.Env}
theorem Vt {P:Program}{w:World}{K:W.Frag}{base:Heap}{N:rp}{qual:Str}{scope:Scope}{cd:Value}{A:Around}{s:Shared}{H:Hp}{E:XK}{b:BX}:
  WOk (ir (IA P w K) P w K mg base N qual scope f cd A outer s H E) b (WD b E):=⟨λCI σ H H1 c s w=>w,λCI σ H c H1 e s s0 w s1 L=>FJ L (w H1 (s0.trans s1)),rfl⟩
noncomputable def FN (ga:Env->Option (List PV))(xi:List PV->Option Nat)(env:Env):Option Nat:=(ga env).bind xi
@[simp] theorem Wt (ga:Env->Option (List PV))(xi:List PV->Option Nat)(env:Env):FN ga xi env=((ga env).bind xi):=id rfl
noncomputable def xIf (c:Env->Option Bool)(f g:Env->Option Nat)(env:Env):Option Nat:=(c env).bind λk=>if k=true then f env else g env
@[simp] theorem Xo (c:Env->Option Bool)(f g:Env->Option Nat)(env:Env):xIf c f g env=((c env).bind λk=>if k=true then f env else g env):=id rfl
noncomputable def xNo (env:Env):Option Nat:=none
variable {x:Str}{ps:rp}{mi:List PV->Option PV}{xi:List PV->Option Nat}{ga:Env->Option (List PV)}
@[simp] theorem Xp (env:Env):xNo env=none:=id rfl
section
variable {X:Cx}{b:BX}{G G1 L:gV}{ro:Bool}{W:List (Addr×Obj)->St->Hp->Nat->Prop}{e:Expr}{es:rl}{st:Stmt}{rest sa sb:rk}{pos p:Pos}{f g:Env->Option Nat}
theorem OD (wo:WOk X b W){k j:Nat}{rc:Bool}(c:Tb X.prog X.w X.K X.mg X.base k x ps (UZ b.C mi rc xi))(hr:DD j X.A)(ha:SA X b G false (e::es) ga)
  (hle:k<=j:=by decide) (LZ:Gl X x:=by rfl) (Ic:(x == ("__debug__" : Str))=false:=by decide) (he:starEach (e::es) X.env=(false,eval e X.env)::starEach es X.env:=by rfl) (FA:(backTo pos (starEach es X.env)).any (·.1)=false:=by rfl):
  XE X (tX b G W (FN ga xi)) (.Call (.Name x p) (e::es) [] pos):=by
 intro CI s σ H I ⟨Ow,env,c0,E,hx,hW⟩
 obtain⟨fa,fd,F,hb,kp,hm⟩:=c.ex
 obtain⟨qs,hga,hxi⟩:=ao hx
 refine gE (qb I LZ hm ?_ Ic)
 refine PySem.W.callWith_K (h₀:=X.base) I.ok.mod.N1 kp (DB (ha pos CI s σ H (λvs H1=>CS H H1/\CM b.C (ArA b Ow false H1) H1 vs qs) I ⟨Ow,env,qs,E,hga,λvs H1 s1 rr=>⟨s1,rr⟩⟩) λus s1 ⟨vs,H1,I1,r,sm,rr⟩=>⟨I1.EZ,?_⟩) he FA
 have MG:UZ b.C mi rc xi vs H1 (λ_ _=>False) (λC d H2=>C=.ref (b.C.cl c0)/\CS H1 H2):=.inr ⟨Bs b Ow,qs,c0,vy rr,hxi,λH' s'=>⟨rfl,s'⟩⟩
 have hl:us.length=ps.length:=by rw[← r.length];exact F.len _ _ _ _ MG
 have hbb:=hb s1 us I1.EZ (by rw[bq];exact hl)
 rw[bq] at hbb
 refine wpAny_call (ng (F.run X.A X.stack s1 H1 ⟨us,[]⟩ us vs _ _ (hr.mono hle) I1.YT hbb r MG) λres s' hq=>?_)
 cases res with
 | error ex=>
  have hq':IA X.prog X.w X.K X.stack H1 s1 (λC d H2=>C=.ref (b.C.cl c0)/\CS H1 H2) ex s':=hq
  obtain⟨C,H2,Li,hC,s2⟩:=lies_of I1 wo.ex hq'
  subst hC
  exact wo.go CI σ H c0 H2 ex s' E.same hW (sm.trans s2) Li
 | ok fl=>
  cases fl with
  | ret u=>obtain⟨_,_,_,_,_,_,_,z⟩:=hq;exact z.elim
  | next=>exact hq.elim
  | brk=>exact hq.elim
  | cont=>exact hq.elim
theorem Vu (wo:WOk X b W){c:Expr}{k:Env->Option Bool}(hc:ST X b G c k)(ha:Ya X (tX b G W f) sa)(hb:Ya X (tX b G W g) sb):XS X (tX b G W (xIf k f g)) (.If c sa sb pos):=by
 intro CI s σ H I ⟨Ow,env,c0,E,hx,hW⟩
 obtain⟨kk,hk,hx⟩:=ao hx
 refine wpAny_If (DB (hc CI s σ H (λd H1=>d=kk/\CS H H1) I ⟨Ow,env,kk,E,hk,λH1 s1=>⟨rfl,s1⟩⟩) ?_)
 rintro d s1 ⟨H1,I1,hd,sm⟩
 subst hd
 cases d with
 | true=>exact ha CI s1 σ H1 I1 ⟨Ow,env,c0,E.up sm,hx,wo.up _ _ _ _ _ sm hW⟩
 | false=>exact hb CI s1 σ H1 I1 ⟨Ow,env,c0,E.up sm,hx,wo.up _ _ _ _ _ sm hW⟩
theorem Tv:Ya X (tX b G W xNo) rest:=λCI s σ H I ⟨Ow,env,c0,E,hx,hW⟩=>nomatch hx
end
open PySem L2 PyProof.Rows PySem.Spec
noncomputable def Am (ga:Env->Option (List PV))(c:Nat)(env:Env):Option Nat:=(ga env).bind λqs=>if qs.length<=1000 then some c else none
variable {C:MC}{ro:Bool}{g:Env->Option Out}{xf:Env->Option Nat}
@[simp] theorem VN (ga:Env->Option (List PV))(c:Nat)(env:Env):Am ga c env=((ga env).bind λqs=>if qs.length<=1000 then some c else none):=id rfl
section
variable {P:Program}{w:World}{K:W.Frag}{mg:Str->Option Value}{base:Heap}{N:rp}{qual:Str}{scope:Scope}{f:Addr}{cd:Value}{A:Around}{outer:List PySem.Env}{s:Shared}{H:Hp}{E:XK}
theorem Kw (c:Nat){b:BX}{G:gV}{e:Expr}{es:rl}{np C5 pos:Pos}{B newId Yb:String}{ZH:mA}(FB:ExcBaseFacts B newId Yb ZH)
  (hC:W.excIn K (b.C.cl c) ZH newId=true) (hm:mg x=some (.ref (b.C.cl c))) (ha:SA (ir (IA P w K) P w K mg base N qual scope f cd A outer s H E) b G false (e::es) ga)
  (LZ:Gl (ir (IA P w K) P w K mg base N qual scope f cd A outer s H E) x:=by rfl) (Ic:(x == ("__debug__" : Str))=false:=by decide)
  (he:starEach (e::es) (envOfC qual scope s.heap.objs.size f cd)=(false,eval e (envOfC qual scope s.heap.objs.size f cd))::starEach es (envOfC qual scope s.heap.objs.size f cd):=by rfl)
  (FA:(backTo C5 (starEach es (envOfC qual scope s.heap.objs.size f cd))).any (·.1)=false:=by rfl):
  XS (ir (IA P w K) P w K mg base N qual scope f cd A outer s H E) (tX b G (WD b E) (Am ga c)) (.Raise (some (.Call (.Name x np) (e::es) [] C5)) none pos):=by
 intro CI s1 σ H1 I ⟨Ow,env,c0,Er,hx,hW⟩
 obtain⟨qs,hga,hx⟩:=ao hx
 split at hx
 ·rename_i hql
  cases hx
  obtain⟨bm,Nn,nm,qn,bs,ZI,sn,su,ab,co,dd,k0,k1,k2,k3,k5,mN,hCo,hN,hni,T⟩:=Ox I.ok.mod.N1 hC
  refine wpAny_Raise_call_subT (C:=b.C.cl c) (nm:=nm) (q:=qn) (N:=Nn) (bs:=bs) (bm:=bm) (hdct:=ZI) (sn:=sn) (sub:=su) (ab:=ab) (col:=co) (dd:=dd) (k0:=k0) (k1:=k1) (k2:=k2) (k3:=k3) (k5:=k5)
   FB (mN:=mN) (T.hasType FB.hasBase) (I.ok.hd rfl) ?_ hni (qb I LZ hm ⟨rfl,?_⟩ Ic)
  ·show (backTo C5 (starEach (e::es) (envOfC qual scope s.heap.objs.size f cd))).any (·.1)=false
   rw[he]
   show (false||(backTo C5 (starEach es (envOfC qual scope s.heap.objs.size f cd))).any (·.1))=false
   rw[FA];rfl
  have h1:=ha C5 CI s1 σ H1 (λvs H2=>CS H1 H2/\vs.length<=1000) I ⟨Ow,env,qs,Er,hga,λvs H2 s2 rr=>⟨s2,by rw[rr.length];exact hql⟩⟩
  have h2:wpAny (model P w) (A.deeper (envOfC qual scope s.heap.objs.size f cd)) (spliced (backTo C5 (starEach (e::es) (envOfC qual scope s.heap.objs.size f cd)))) _ _ s1:=h1
  show wpAny (model P w) (A.deeper (envOfC qual scope s.heap.objs.size f cd)) (evalArgs (.ref (b.C.cl c)) true (backTo C5 (starEach (e::es) (envOfC qual scope s.heap.objs.size f cd))) []) _ _ s1
  rw[he] at h2 ⊢
  refine kG (eW h2 (λus s2 ⟨vs,H2,I2,r,sm,hl⟩=>⟨rfl,by rw[← r.length];exact small hl,I2.bk _ _ hCo,hN.keeps I2.bk,T.keeps I2.bk,λh' ex To=>?_⟩) λ_ _ y=>y)
  show wpAny (model P w) (A.deeper (envOfC qual scope s.heap.objs.size f cd)) (leaving (envOfC qual scope s.heap.objs.size f cd) (.ref ex)) (λ_ NC=>IA P w K outer H s E (.ref ex) NC) (λe' NC=>IA P w K outer H s E e' NC) { s2 with heap:=h' }
  refine wpAny_leaves_madeW (base:=W.hideAll s2.heap (F8 (envOfC qual scope s.heap.objs.size f cd::outer))) (h:=s2.heap) I2.ok.frames rfl (λb o q=>nz _ q) (W.funFrames_hide I2.stack λen ZJ a U1=>nE.mpr ⟨en,ZJ,U1⟩) To λh3 t fl tup nt up=>?_
  have gr:X8 (W.hideAll s2.heap (F8 (envOfC qual scope s.heap.objs.size f cd::outer))) s.heap s2.heap H2 (envOfC qual scope s.heap.objs.size f cd::outer):=λa o q n=>by
   by_cases ha:a∈F8 (envOfC qual scope s.heap.objs.size f cd::outer)
   ·exact .inl ha
   ·rw[qB _ q ha] at n;cases n
  obtain⟨u2,X9,gr2⟩:=Dh I2 (λa o q=>nz _ q) fl.1 gr ((Heap.UpToSlots.of_keeps To.keeps).trans up)
  have nw:=To.new
  have na:s.heap.get? ex=none:=by
   cases z:s.heap.get? ex with
   | none=>rfl
   | some o=>
    obtain⟨_,y⟩:=I2.base.there ex o z (λz=>nomatch z)
    rw[nw] at y;cases y
  have nH:H2 ex=none:=by
   cases z:H2 ex with
   | none=>rfl
   | some o=>
    obtain⟨_,y⟩:=(I2.C8 ex o z).there
    rw[nw] at y;cases y
  exact⟨ex,.ref (b.C.cl c),.ref t,_,H2,rfl,I2.os,I2.bare,u2,X9,fl,na,nH,gr2,hW H2 (Er.same.trans sm)⟩
 ·cases hx
noncomputable def wL (n k:Nat)(f:Env->Option Nat)(ps:List PV):Option Nat:=if ps.length=k then f (ps.map some++List.replicate (n - k) none) else none
@[simp] theorem W6 (n k:Nat)(f:Env->Option Nat)(ps:List PV):wL n k f ps=(if ps.length=k then f (ps.map some++List.replicate (n - k) none) else none):=id rfl
theorem OJ {n k:Nat}(hk:ps.length=k){vs:List V}{H:Hp}{Q:VK}{E:XK}(h:UZ C (bB n k ro g) ro (wL n k xf) vs H Q E):vs.length=ps.length:=by
 rcases h with ⟨A,qs,p,r,hm,_⟩ | ⟨A,qs,c,r,hm,_⟩
 ·unfold bB at hm
  split at hm
  ·rename_i hl;rw[r.length,hl,hk]
  ·cases hm
 ·unfold wL at hm
  split at hm
  ·rename_i hl;rw[r.length,hl,hk]
  ·cases hm
theorem Ky {n k:Nat}{G G' L:gV}{body:rk}(hN:N.length=n)(hk:k<=n)(hG:(G.all λi=>decide (k<=i))=true)
  (hb:∀B H',Kx (ir (IA P w K) P w K mg base N qual scope f cd A outer s H E).UA ⟨C,B,H',λ_=>none⟩ G G' L ro body g)
  (hx:∀B H',Ya (ir (IA P w K) P w K mg base N qual scope f cd A outer s H E) (tX ⟨C,B,H',λ_=>none⟩ G (WD ⟨C,B,H',λ_=>none⟩ E) xf) body)
  {vs:List V}{Q:VK}(h:UZ C (bB n k ro g) ro (wL n k xf) vs H Q E):∃t,Fu (ir (IA P w K) P w K mg base N qual scope f cd A outer s H E) body t/\t { nx:=λ_ H'=>Q .CY H',rt:=Q } (L2.start N vs) H:=by
 rcases h with h | ⟨B,ps,c,r,hm,kk⟩
 ·obtain⟨t,h1,h2⟩:=CT (X:=(ir (IA P w K) P w K mg base N qual scope f cd A outer s H E).UA) hN hk hG hb h
  exact⟨t,h1.UA,h2⟩
 ·refine⟨λ_ σ H'=>tX ⟨C,B,H,λ_=>none⟩ G (WD ⟨C,B,H,λ_=>none⟩ E) xf [] σ H',λCI s1 σ H1 D I q=>?_,?_⟩
  ·obtain⟨Ow,env,c0,Er,hx1,hW⟩:=q
   exact eW (hx B H CI s1 σ H1 I ⟨Ow,env,c0,Er,hx1,hW⟩) (λ_ _ z=>z.elim) λ_ _ z=>z
  ·unfold wL at hm
   split at hm
   ·rename_i hl
    exact⟨_,_,c,uG (N:=N) (G:=G) r (λi hi=>by rw[hl];simpa using cq.mp hG i hi) (by omega),by rw[hN,hl];exact hm,λH1 s1=>kk H1 s1⟩
   ·cases hm
end
variable {fd:FuncData}
section
variable {P:Program}{w:World}{K:W.Frag}{mg:Str->Option Value}{base:Heap}
theorem O3 {qual:Str}{st:Stmt}{N:rp}{k:Nat}{sp:Sp}(F:I0 K x qual st f fd)(S:CO N ps (aH st))(len:∀vs H Q E,sp vs H Q E->vs.length=ps.length)
  (KO:∀(FK:Value) (A:Around) (outer:List PySem.Env) (s:Shared) (H:Hp) (vs:List V) (Q:VK) (E:XK),DD k (A.deeper (envOfC qual (aH st) s.heap.objs.size f FK))->sp vs H Q E->
   ∃t,Fu (ir (IA P w K) P w K mg base N qual (aH st) f FK A outer s H E) (e_ st) t/\t { nx:=λ_ H'=>Q .CY H',rt:=Q } (start N vs) H):EC P w K mg base (IA P w K) (k+1) f fd ps sp:=by
 obtain⟨oc,od,kV,doc,pm,an,FK,ct,RU,rfl,lk,FH⟩:=F.ex
 exact LR lk FH S len λA outer s H vs Q E hr MG=>KO FK A outer s H vs Q E hr MG
theorem O4 {k:Nat}(F:EC P w K mg base (IA P w K) k f fd ps (UZ C mi ro xi)):EC P w K mg base LS k f fd ps (LD C mi ro):=by
 refine⟨λvs H Q E h=>F.len vs H Q E (.inl h),λA outer s H args us vs Q E hr e0 hb hv hs=>?_⟩
 refine ng (F.run A outer s H args us vs Q E0 hr e0 hb hv (.inl hs)) λr s' h=>?_
 cases r with
 | ok fl=>cases fl <;> exact h
 | error e=>
  obtain⟨_,_,_,_,_,_,_,_,_,_,_,_,_,_,z⟩:=(show IA P w K outer H s E0 e s' from h)
  exact z.elim
theorem Kz {k:Nat}(c:Tb P w K mg base k x ps (UZ C mi ro xi)):MO P w K mg base k x ps (LD C mi ro):=by
 obtain⟨f,fd,F,hb,kp,hm⟩:=c.ex
 exact⟨f,fd,O4 F,hb,kp,hm⟩
end
end MR
namespace L2
open PySem PySem.Spec PyProof.Rows
def Cx.X7 (X:Cx)(a:Addr):Cx:={ X with A:=X.A.mark (some (.ref a)),calm:=false,xe:=λ_ _=>False }
section
variable {X:Cx}{CI:fN}{σ:St}{H:Hp}{s:Shared}
theorem Inv.U2 (I:Inv X CI σ H s)(a:Addr):Inv (X.X7 a) CI σ H s:=
 ⟨⟨I.ok.mod,I.ok.kind,I.ok.glob,I.ok.blt,I.ok.above,I.ok.inj,I.ok.has,I.ok.Yh,(λz=>nomatch z),I.ok.frames,I.ok.YL,I.ok.exf,I.ok.bs,I.ok.RH,I.ok.MD,I.ok.N2,I.ok.GW,I.ok.VU⟩,I.os,I.bare,I.base,I.loc,I.cell,I.free,I.EO,I.pin,I.C8,I.len⟩
theorem Inv.Ts (ok:X.Ok){a:Addr}(I:Inv (X.X7 a) CI σ H s):Inv X CI σ H s:=⟨ok,I.os,I.bare,I.base,I.loc,I.cell,I.free,I.EO,I.pin,I.C8,I.len⟩
theorem Di (I:Inv X CI σ H s)(hex:X.ex=[]){B h2:Heap}(bs:∀b o,B.get? b=some o->s.heap.get? b=some o)(st:B.StaysIn h2)(gr:X8 B X.s₀.heap s.heap H X.stack)(up:s.heap.UpToSlots h2)
  (pn:∀p∈X.pn++CI,B.get? p.1=some p.2):Inv X CI σ H { s with heap:=h2 }:=by
 have u:=I.base
 have kept:∀b o,s.heap.get? b=some o->b∉F8 X.stack->(X.s₀.heap.get? b≠none\/H b≠none)->h2.get? b=some o:=λb o e n1 n2=>by
  cases q:B.get? b with
  | none=>exact((gr b o e q).elim n1 λz=>n2.elim (λy=>y z.1) λy=>y z.2).elim
  | some o'=>
   have:=bs b o' q
   rw[e] at this
   cases this
   exact st b o q
 have old:∀b o,X.s₀.heap.get? b=some o->b∉X.fs->b∉F8 X.stack:=λb o e n z=>by
  rcases av.mp (I.GY b z) with y | y
  ·subst y;exact absurd (bS (aI e) I.ok.above) (em _)
  ·exact n y
 have cells:∀c v,s.heap.IsCell c v->h2.IsCell c v:=by
  rintro c v ⟨o,ho,hd⟩
  obtain⟨sl,e⟩:=up c o ho λvs z=>by rw[hd] at z;cases z
  exact⟨_,e,hd⟩
 refine⟨I.ok,I.os,I.bare,⟨λb o q n hb hx=>?_,λb o q n hb hx=>?_,u.free,λb o q hx=>?_,u.IL,u.HV,u.IM⟩,?_,λx c e=>?_,I.free,I.EO,λp hp=>?_,λb v q=>?_,I.len⟩
 ·exact kept b o (u.keep b o q n hb hx) (old b o q hb) (.inl (by rw[q];exact λz=>nomatch z))
 ·obtain⟨sl,e1⟩:=u.slot b o q n hb hx
  obtain⟨_,o',e',hd⟩:=I.GW.mem hb
  rw[e1] at e'
  cases e'
  obtain⟨YM,e2⟩:=up b _ e1 hd
  exact⟨YM,e2⟩
 ·obtain⟨o',e1⟩:=u.there b o q hx
  by_cases hb:b∈F8 X.stack
  ·obtain⟨_,o2,e2,hd⟩:=I.stack.mem hb
   rw[e1] at e2
   cases e2
   obtain⟨sl,e3⟩:=up b _ e1 hd
   exact⟨_,e3⟩
  ·exact⟨o',kept b o' e1 hb (.inl (by rw[q];exact λz=>nomatch z))⟩
 ·obtain⟨m,hn,hl⟩:=I.loc
  refine⟨m,up.ns hn,λi x v e1 e2 e3=>?_⟩
  obtain⟨w',r,l⟩:=hl i x v e1 e2 e3
  refine⟨w',r,?_⟩
  rcases l with l | ⟨k,c,e,z⟩
  ·exact .inl l
  ·exact .inr ⟨k,c,e,cells c _ z⟩
 ·obtain⟨v,z⟩:=I.cell x c e
  exact⟨v,cells c v z⟩
 ·obtain⟨_,n,nl,nf,d⟩:=I.pin p hp
  exact⟨st _ _ (pn p hp),n,nl,nf,d⟩
 ·refine(I.C8 b v q).IJ (λc x hc r=>?_) (λ_ q=>q) λ_ _ q=>q
  have hn:H c≠none:=by
   rcases hc with rfl | hc
   ·rw[q];exact λz=>nomatch z
   ·rw[hc];exact λz=>nomatch z
  exact kept c x r (λz=>hn (I.HK c z)) (.inr hn)
end
end L2
namespace MR
open PySem L2 PyProof.Rows PySem.Spec
noncomputable def FQ (f:Env->Option Out)(xf:Env->Option Nat)(c0 iw:Nat)(v:PV)(env:Env):Option Out:=match xf env with
 | some c=>if c=c0/\iw < env.length then some (.nx (env.set iw (some v))) else none
 | none=>f env
@[simp] theorem KC (f:Env->Option Out)(xf:Env->Option Nat)(c0 iw:Nat)(v:PV)(env:Env):FQ f xf c0 iw v env=(match xf env with
 | some c=>if c=c0/\iw < env.length then some (.nx (env.set iw (some v))) else none
 | none=>f env):=id rfl
variable {xf:Env->Option Nat}
theorem KD {X:Cx}{b:BX}{G:gV}{body:rk}{tn:TS}{cx wn:Str}{Cc:Addr}{iw jj:Nat}{np p1 p2 p3 hp pos:Pos}(hX:∀e s,X.xe e s->False)(hex:X.ex=[])(F6:X.stack=X.env::X.outer)(NF:X.env.frame=some X.env.locals)(nd:X.N.Nodup)
  (hw:X.N[iw]?=some wn) (Si:Loc X.env.scope wn) (LZ:Gl X cx) (hm:X.mg cx=some (.ref Cc)) (h1:Fu X body tn) (h2:∀E',Ya (X.F5 E') (tX b G (WT (X.F5 E') b) xf) body)
  (hd:(cx == ("__debug__" : Str))=false:=by decide)
  (WO:swapsWith (.Constant .none jj p2) (some (.Name wn p1)) p3.line X.env=pure false:=by rfl) (RI:X.fn wn=true\/X.env.scope.names.lookup wn=some .local:=by first | exact .inl rfl | exact .inr rfl | assumption):
  PS X (.Try body [.ExceptHandler (some (.Name cx np)) none [.Assign [.Name wn p1] (.Constant .none jj p2) p3] hp] [] [] pos) (λD σ H=>tn D σ H\/∃Ow env c,ER b Ow G σ env H/\xf env=some c/\W.exmOne X.K (.ref (b.C.cl c)) (.ref Cc)=some true /\
   ∀H1,CS H H1->D.nx (σ.set iw (some .CY)) H1):=by
 intro CI s σ H D I q
 rcases q with q | ⟨Ow,env,c,E,hxf,Yc,kk⟩
 ·refine wpAny_Try_except (eW (h1 CI s σ H D I q) (λf s1 hs=>?_) λe s1 hs=>(hX e s1 hs).elim)
  cases f with
  | next=>exact k6 hs
  | ret u=>exact hs
  | brk=>exact hs
  | cont=>exact hs
 ·refine wpAny_Try_except (eW (h2 (λe s₁=>wpAny (model X.prog X.w) X.A (noteFrame e X.env) (λ_ s₂=>wpAny (model X.prog X.w) X.A (setFlight e none) (λ_ s₃=>wpAny (model X.prog X.w) X.A (handleBy e X.env [.ExceptHandler (some (.Name cx np)) none [.Assign [.Name wn p1] (.Constant .none jj p2) p3] hp]) (SP X CI D) X.xe s₃) X.xe s₂) X.xe s₁) CI s σ H (I.F5 _) ⟨Ow,env,c,E,hxf,λH1 ex s1 sm Li=>?_⟩) (λ_ _ z=>z.elim) λ_ _ z=>z)
  obtain⟨a,a0,B,rfl,fl,na,nH,pn,gr⟩:=Li.ex
  have I1:Inv X CI σ H1 s1:=Li.inv.F5 X.xe
  have fl:Heap.FlyingW B X.stack a (.ref (b.C.cl c)) a0 s1.heap:=fl
  have pn:∀p∈X.pn++CI,B.get? p.1=some p.2:=pn
  have gr:X8 B X.s₀.heap s1.heap H1 X.stack:=gr
  rw[F6] at fl
  have ok:=I.ok
  have frm:X.A.frames=some (X.env::X.outer):=by rw[← F6];exact ok.frames
  show wpAny (model X.prog X.w) X.A (noteFrame (.ref a) X.env) _ X.xe s1
  refine wpAny_looks_onW frm NF fl λh4 ZK up4=>?_
  refine wpAny_landsW ZK λh5 fl5 up5=>?_
  have ZL:=up4.trans up5
  have I5:Inv X CI σ H1 { s1 with heap:=h5 }:=Di I1 hex (λb o q=>fl.1 b o q) fl5.1 gr ZL pn
  obtain⟨oe,vs,Sr,hoc,hod,_⟩:=fl5.first
  refine wpAny_handleBy_cons (codeAny_handlers_test ?_) (by intro q;cases q)
  refine qb (X:=X.X7 a) (I5.U2 a) LZ hm ?_ hd
  have LT:W.Looks (model X.prog X.w) h5 (typeOf (.ref a)) (.ref (b.C.cl c)):=hoc▸(W.Looks.ld Sr).andThen .now
  refine W.Looks.here (W.exm_one I5.EZ LT Yc) ?_
  show codeAny (model X.prog X.w) (X.A.mark (some (.ref a))) (.handlers (.ref a) [.ExceptHandler none none [.Assign [.Name wn p1] (.Constant .none jj p2) p3] hp] X.env) _ { s1 with heap:=h5 }
  refine codeAny_handlers_suite ?_
  refine lands_againW fl5 λh6 fl6 up6=>?_
  have I6:Inv X CI σ H1 { s1 with heap:=h6 }:=Di I1 hex (λb o q=>fl.1 b o q) fl6.1 gr (ZL.trans up6) pn
  have I7:=I6.U2 a
  have st:=qd (rZ (X:=X.X7 a) (pos':=p1) (pos:=p3) nd hw Si (za (X:=X.X7 a) (j:=jj) (pos:=p2)) WO RI)
  refine eW (st CI _ _ _ { nx:=fun σ9 H9=>σ9=σ.set iw (some .CY)/\H9=H1,rt:=λ_ _=>False } I7 ⟨rfl,rfl⟩) (λf s9 hs=>?_) λ_ _ z=>z.elim
  cases f with
  | next=>
   obtain⟨σ9,H9,I9,e1,e2⟩:=hs
   subst e1 e2
   exact⟨_,_,I9.Ts ok,kk _ sm⟩
  | ret u=>obtain⟨_,_,_,_,_,z⟩:=hs;exact z.elim
  | brk=>obtain⟨_,_,_,z⟩:=hs;exact z.elim
  | cont=>obtain⟨_,_,_,z⟩:=hs;exact z.elim
theorem O5 {X:Cx}{b:BX}{G L:gV}{body:rk}{f:Env->Option Out}{cx wn:Str}{Cc:Addr}(iw c0:Nat){jj:Nat}{np p1 p2 p3 hp pos:Pos}(nd:X.N.Nodup)
  (hm:X.mg cx=some (.ref Cc)) (Yc:W.exmOne X.K (.ref (b.C.cl c0)) (.ref Cc)=some true) (h1:Kx X b G G L false body f) (h2:∀E',Ya (X.F5 E') (tX b G (WT (X.F5 E') b) xf) body)
  (hG:iw∉G:=by decide) (hfx:b.fx iw=none:=by first | rfl | assumption)
  (hX:∀e s,X.xe e s->False:=by exact λ_ _ z=>z) (hex:X.ex=[]:=by rfl) (F6:X.stack=X.env::X.outer:=by rfl) (NF:X.env.frame=some X.env.locals:=by rfl)
  (hw:X.N[iw]?=some wn:=by rfl) (Si:Loc X.env.scope wn:=by first | exact gc rfl | exact eB rfl) (LZ:Gl X cx:=by rfl)
  (hd:(cx == ("__debug__" : Str))=false:=by decide)
  (WO:swapsWith (.Constant .none jj p2) (some (.Name wn p1)) p3.line X.env=pure false:=by rfl) (RI:X.fn wn=true\/X.env.scope.names.lookup wn=some .local:=by first | exact .inl rfl | exact .inr rfl | assumption):
  SS X b G G L false (.Try body [.ExceptHandler (some (.Name cx np)) none [.Assign [.Name wn p1] (.Constant .none jj p2) p3] hp] [] [] pos) (FQ f xf c0 iw .CY):=by
 intro CI s σ H D I ⟨Ow,env,o,E,hq,kk⟩
 refine KD hX hex F6 NF nd hw Si LZ hm h1 h2 hd WO RI CI s σ H D I ?_
 rw[KC] at hq
 cases q:xf env with
 | some c=>
  rw[q] at hq
  have hq:(if c=c0/\iw < env.length then some (Out.nx (env.set iw (some .CY))) else none)=some o:=hq
  by_cases hc:c=c0/\iw < env.length
  ·rw[be hc] at hq
   cases hq
   obtain⟨hc,hl⟩:=hc
   subst hc
   exact .inr ⟨Ow,env,c,E,q,Yc,λH1 sm=>kk Ow _ _ ((E.up sm).set hG .CY hfx) (Ex.of_same sm)⟩
  ·rw[a7 hc] at hq
   cases hq
 | none=>
  rw[q] at hq
  exact .inl ⟨Ow,env,o,E,hq,kk⟩
variable {scope:Scope}
theorem NO {FC:Scope}{ON N:rp}{C2:List (Option Nat)}(h1:scope.kind=.function:=by rfl)(h2:∀y∈scope.names,y.2≠.cell:=by decide +kernel)(h3:∀y∈scope.names,y.2=.local->scope.names.lookup y.1=some .local:=by decide +kernel)
  (h4:∀y∈scope.names,y.2=.free->FC.names.lookup y.1=some .cell\/FC.names.lookup y.1=some .free:=by decide +kernel) (h5:yJ scope ON N C2=true:=by decide +kernel):ND FC scope ON N C2:=⟨h1,h2,h3,h4,h5⟩
theorem Fc {N P:rp}{sc:Scope}(h1:sc.kind=.function:=by rfl)(h2:sc.isCoroutine=false:=by rfl)(h3:sc.isGenerator=false:=by rfl)(h4:N.Nodup:=by decide +kernel)(h5:N.take P.length=P:=by rfl)
  (h6:∀x∈P,sc.names.lookup x=some .local\/sc.names.lookup x=some .cell:=by decide +kernel) (h7:∀y∈sc.names,y.2≠.free:=by decide +kernel):CO N P sc:=⟨h1,h2,h3,h4,h5,h6,h7⟩
theorem jm {X:Cx}{N:rp}{C s H fp}{x:Str}{pos:Pos}(i:Nat)(hN:N.Nodup:=by decide +kernel)(hi:N[i]?=some x:=by rfl)(hx:Loc (X.comp N scope C s H fp).env.scope x:=by exact gc rfl)
  (hf:(X.comp N scope C s H fp).fn x=true\/(X.comp N scope C s H fp).env.scope.names.lookup x=some .local:=by first | exact .inl rfl | exact .inr rfl | assumption):PG (X.comp N scope C s H fp) (.Name x pos) (t7 i):=v6 hN hi hx hf
section
variable {P:Program}{w:World}{K:W.Frag}{mg:Str->Option Value}{base:Heap}
theorem Fm {x qual:Str}{st:Stmt}{f:Addr}{fd:FuncData}{N ps:rp}{k n kk:Nat}{C:MC}{ro:Bool}{g:Env->Option Out}(F:I0 K x qual st f fd)(S:CO N ps (aH st))(G G' L:gV)
  (hb:∀{FK:Value}{A:Around}{outer:List PySem.Env}{s:Shared}{H:Hp}{E:XK},DD k (A.deeper (envOfC qual (aH st) s.heap.objs.size f FK))->∀{B H'},Kx (ir LS P w K mg base N qual (aH st) f FK A outer s H E).UA ⟨C,B,H',λ_=>none⟩ G G' L ro (e_ st) g)
  (hp:kk=ps.length:=by rfl) (hN:N.length=n:=by rfl) (hk:kk<=n:=by decide) (hG:(G.all λi=>decide (kk<=i))=true:=by decide):EC P w K mg base LS (k+1) f fd ps (LD C (bB n kk ro g) ro):=
 F.ok S (λvs H Q E h=>(Og h).trans hp) λFK A outer s H vs Q E hr h=>CT hN hk hG (λB H'=>hb hr) h
end
end MR
namespace L2
open PySem MR
section
variable {K:W.Frag}{x q:Str}{st:Stmt}{f:Addr}{fd:FuncData}{ps:rp}(F:I0 K x q st f fd)
include F
theorem I0.VA (hl:ps.length=1:=by rfl)(h:∀k d p n c t a,bindArgs (W.fnOf x q (iR st) (e_ st) (aH st) .none k d p n c t) ⟨[a],[]⟩=pure (ps.zip [a]):=by intros;rfl):Binds K fd ps []:=F.binds λk d p n c t us e=>S6 us (e.trans hl) (h k d p n c t)
theorem I0.OS (hl:ps.length=2:=by rfl)(h:∀k d p n c t a b,bindArgs (W.fnOf x q (iR st) (e_ st) (aH st) .none k d p n c t) ⟨[a,b],[]⟩=pure (ps.zip [a,b]):=by intros;rfl):Binds K fd ps []:=F.binds λk d p n c t us e=>S7 us (e.trans hl) (h k d p n c t)
theorem I0.NU (hl:ps.length=3:=by rfl)(h:∀k d p n c t a b g,bindArgs (W.fnOf x q (iR st) (e_ st) (aH st) .none k d p n c t) ⟨[a,b,g],[]⟩=pure (ps.zip [a,b,g]):=by intros;rfl):Binds K fd ps []:=F.binds λk d p n c t us e=>S8 us (e.trans hl) (h k d p n c t)
theorem I0.Yd (hl:ps.length=4:=by rfl)(h:∀k d p n c t a b g i,bindArgs (W.fnOf x q (iR st) (e_ st) (aH st) .none k d p n c t) ⟨[a,b,g,i],[]⟩=pure (ps.zip [a,b,g,i]):=by intros;rfl):Binds K fd ps []:=F.binds λk d p n c t us e=>S9 us (e.trans hl) (h k d p n c t)
theorem I0.bd5 (hl:ps.length=5:=by rfl)(h:∀k d p n c t a b g i j,bindArgs (W.fnOf x q (iR st) (e_ st) (aH st) .none k d p n c t) ⟨[a,b,g,i,j],[]⟩=pure (ps.zip [a,b,g,i,j]):=by intros;rfl):Binds K fd ps []:=F.binds λk d p n c t us e=>Wn us (e.trans hl) (h k d p n c t)
end
end L2
namespace My
open PySem L2 MR
noncomputable def iU:PV:=.He [.int 0,.int 0,.int 0]
noncomputable def Fn:List (String×Bool):=[("bool",true),("int",false)]
noncomputable def GA:List (String×Bool):=[("int",true),("NoneType",false)]
def rJ:=(aV (b2 c7 (b2 bD (b2 bD (b2 mH (bV 0) (CF 48271)) (b2 mH (b2 mH (bV 1) (bV 1)) (CF 69621))) (CF 5)) (CF 2147483647)))
def cQ:=bB 2 2 false rJ
def dN:=(aJ 3 (b2 bD (bV 3) (b2 C9 (bC (.str "u-x")) (b2 c7 (b2 dJ (bV 0) (b2 bD (b2 bD (CF 7) (b2 mH (CF 5) (bV 2))) (b2 mH (CF 11) (bV 4)))) (CF 3)))))
def dO:=(aC (aJ 3 (bC (.str ""))) (aC (cu (gN 4) (LF (b2 bD (CF 1) (b2 c7 (b2 dJ (bV 0) (b2 bD (CF 4) (b2 mH (CF 3) (bV 2)))) (CF 4)))) [4] dN) (E7 (tV (b2 ql (bV 3) (bV 1))) (cA fB 1 (bV 3)) EK)))
def n_:=(aC (aJ 1 (bO aB)) (aC (cu (gN 2) (LF (b2 bD (CF 1) (b2 c7 (bV 0) (CF 4)))) [2,3,4] dO) (aV (b1 vB (bV 1)))))
def fC:=bB 5 1 false n_
def j9:=(aC (aJ 4 (aM cQ (CH 3 (CH 2 aB)))) (cA fB 1 (bL (ak (aM fC (ak (b2 dJ (bV 4) (CF 2)) aB)) (ak (b2 eqQ (b2 c7 (bV 4) (CF 2)) (CF 1)) aB)))))
def rK:=(aC (aJ 1 (bO aB)) (aC (cu (gT [2,3]) (S3 (bV 0)) [2,3,4] j9) (aV (b1 vB (bV 1)))))
def iM:=bB 5 1 false rK
def j_:=(aC (E7 (tV (b2 jQ (bV 1) (b1 C0 (bV 0)))) (aV (b2 C9 (bV 0) (bV 1))) EK) (aV (CF 0)))
def cJ:=bB 2 2 false j_
def cL:=(cA fB 2 (bL (ak (b2 C9 (bV 6) (bV 7)) (ak (pK (bV 5) (b2 eqQ (b2 bD (bV 7) (CF 1)) (b1 C0 (bV 6)))) aB))))
def cM:=(aC (uI (gT [4,5]) (b2 C9 (bV 0) (bV 3))) (aC (aJ 6 (b2 C9 (bV 4) (b2 C9 (bV 1) (bV 3)))) (cu (gN 7) (LF (b1 C0 (bV 6))) [7] cL)))
def mJ:=(aC (aJ 2 (bO aB)) (aC (cu (gN 3) (LF (b1 C0 (bV 0))) [3,6,7,4,5] cM) (aV (bV 2))))
def dX:=bB 8 2 false mJ
def eE:=(b2 C9 (bV 1) (b2 c7 (b2 bD (b2 dJ (bV 2) (CF 16)) (bV 0)) (CF 4)))
def eF:=(tV (b2 eqQ (b2 c7 (b2 dJ (bV 2) (b2 C9 (bO (ak (CF 1) (ak (CF 2) (ak (CF 4) (ak (CF 8) aB))))) (bV 0))) (CF 2)) (CF 1)))
def eG:=(bV 0)
def eN:=(tV (b2 jL (bV 0) (bC .CY)))
def gq:=(aC (aJ 2 (bO (ak (bL (ak (CF 0) (ak (bC (.str "u")) aB))) (ak (bL (ak (CF 0) (ak (bC (.str "-")) aB))) (ak (bL (ak (CF 1) (ak (bC (.str "-")) aB))) (ak (bC .CY) aB)))))) (aC (aJ 3 (eU [none,some 2,some 0] (LF (CF 4)) (gN 0) eF eE)) (aC (E7 (tN (tV (bV 1))) (aJ 3 (eU [none] (iV (bV 3)) (gN 0) eN eG)) EK) (aV (bV 3)))))
def gw:=bB 4 2 false gq
def oh:=(aC (aJ 3 (aM gw (CH 0 (CH 1 aB)))) (aC (E7 (tV (b2 XU (bV 2) (bV 3))) (aV (bV 3)) EK) (aC (aJ 4 (b2 c7 (b2 dJ (bV 0) (CF 64)) (b2 bD (b1 C0 (bV 3)) (CF 1)))) (aV (b2 lB (b2 lB (JA (bV 3) oN (oS (bV 4))) (bO (CH 2 aB))) (JA (bV 3) (oS (bV 4)) oN))))))
def b_:=bB 5 3 false oh
def cR:=(aC (HI 3 (aJ 7 (aM cQ (CH 2 (ak (b2 bD (b2 mH (CF 7) (bV 6)) (CF 3)) aB))))) (aC (Yw 3 (tA (tV (b2 eqQ (b2 c7 (bV 7) (CF 7)) (CF 1))) (tV (b2 jQ (b2 bD (b1 C0 (bV 4)) (b1 C0 (bV 5))) (b2 bD (CF 58) (bV 6))))) (aC (uK 3 (b1 nR (CF 1)) (aM b_ (ak (b2 dJ (bV 7) (CF 7)) (ak (bC (.bl true)) (ak (bC .CY) aB))))) (aC (HI 3 (cA fB 4 (bC .CY))) (uL 3))) EK) (aC (HI 3 (uI (gT [8,9]) (b2 C9 (bV 5) (bV 6)))) (aC (HI 3 (E7 (tV (b2 eqQ (bV 8) (bC (.str "x")))) (aJ 8 (b2 C9 (bO (ak (bC (.str "u")) (ak (bC (.str "-")) aB))) (b2 c7 (b2 dJ (bV 7) (CF 7)) (CF 2)))) EK)) (aC (HI 3 (aJ 10 (bL (ak (b1 Fi (pK (b2 eqQ (bV 8) (bC (.str "-"))) (b2 eqQ (b2 c7 (b2 dJ (bV 7) (CF 14)) (CF 4)) (CF 1)))) (CH 8 aB))))) (aC (HI 3 (aJ 11 (SF (bV 9) (SF (b2 eqQ (b2 bD (bV 6) (CF 1)) (b1 C0 (bV 5))) (b2 eqQ (b2 c7 (b2 dJ (bV 7) (CF 56)) (CF 3)) (CF 0)))))) (aC (uK 3 (b1 nR (CF 1)) (aM b_ (ak (b2 dJ (bV 7) (CF 168)) (CH 11 (CH 10 aB))))) (aC (HI 3 (cA fB 4 (bV 10))) (Yw 3 (tA (tV (bV 11)) (tV (b2 jQ (b2 bD (bV 6) (CF 1)) (b1 C0 (bV 5))))) (uL 3) EK)))))))))
def lX:=(aC (KA (yR 3 1)) (aC (KA (HI 3 (aJ 4 (bO aB)))) (aC (KA (HI 3 (aJ 5 (aM dX (CH 0 (CH 1 aB)))))) (aC (KA (Fv 3 (gN 6) (LF (b1 C0 (bV 5))) [6,7,10,11,8,9] cR)) (aV (bO (CH 3 (CH 4 aB))))))))
def lY:=bB 12 3 false lX
def lE:=(bL (CH 1 (CH 2 (CH 0 aB))))
def gY:=(cA uH 1 (eU [none,some 2,some 4] (iR2 (CF 1) (b1 C0 (bV 5))) (gN 0) fU lE))
def lF:=(aC (cA fB 1 (bL (CH 2 (ak (CF 0) (ak (CF 0) aB))))) (cu (gT [4,5]) (S3 (b2 C9 (bV 3) (CF 0))) [4,5] gY))
def sW:=(aC (aJ 1 (bO aB)) (aC (cu (gT [2,3]) (S3 (bV 0)) [2,3,4,5] lF) (aV (bV 1))))
def kh:=bB 6 1 false sW
def ou:=(aV (bL (ak (b1 C0 (bV 0)) (ak (CF 0) (ak (CF 0) aB)))))
def fD:=bB 1 1 false ou
def kj:=(aC (aJ 3 (b2 C9 (bV 1) (CF 0))) (aC (aJ 4 (b2 bD (b2 C9 (bV 1) (CF 2)) (CF 1))) (aC (E7 (tV (b2 jQ (bV 4) (b1 C0 (b2 C9 (b2 C9 (b2 C9 (bV 0) (bV 3)) (CF 0)) (b2 C9 (bV 1) (CF 1)))))) (aV (bL (CH 3 (ak (b2 C9 (bV 1) (CF 1)) (CH 4 aB))))) EK) (aC (E7 (tA (tV (b2 C9 (b2 C9 (bV 0) (bV 3)) (CF 1))) (tN (tV (bV 2)))) (aV (bC .CY)) EK) (aV (bL (ak (b2 bD (bV 3) (CF 1)) (ak (CF 0) (ak (CF 0) aB)))))))))
def gA:=bB 5 3 false kj
def mK:=(aV (SF (b2 eqQ (bV 0) (bV 1)) (b2 eqQ (bV 0) (bC (.str "x")))))
def gh:=bB 2 2 false mK
def dY:=(aC (aJ 10 (aM gA (CH 0 (ak (bL (CH 4 (CH 9 (CH 5 aB)))) (CH 3 aB))))) (E7 (tA (tV (b2 jL (bV 10) (bC .CY))) (tV (aM gh (ak (b2 C9 (b2 C9 (bV 6) (bV 9)) (bV 5)) (CH 2 aB))))) (cA fB 8 (bL (CH 9 (CH 10 aB)))) EK))
def lZ:=(aC (E7 (tV (b2 eqQ (bV 1) (aM fD (CH 0 aB)))) (aV (bO aB)) EK) (aC (aJ 4 (b2 C9 (bV 1) (CF 0))) (aC (aJ 5 (b2 C9 (bV 1) (CF 2))) (aC (aJ 6 (b2 C9 (b2 C9 (bV 0) (bV 4)) (CF 0))) (aC (aJ 7 (Ys (tV (b2 eqQ (bV 5) (CF 0))) (b1 yQ (b1 C0 (bV 6))) (bO (ak (b2 C9 (bV 1) (CF 1)) aB)))) (aC (aJ 8 (bO aB)) (aC (cu (gN 9) (iV (bV 7)) [9,10] dY) (aV (bV 8)))))))))
def dI:=bB 11 4 false lZ
def mL:=(bL (CH 2 (CH 1 aB)))
def mO:=(cA uH 3 (eU [none,none,some 4] (iV (aM dI (CH 0 (CH 4 (CH 1 (CH 2 aB)))))) (gT [0,1]) fU mL))
def uy:=(aC (aJ 3 (bO aB)) (aC (cu (gN 4) (iV (aM kh (CH 0 aB))) [4] mO) (aV (bV 3))))
def eZ:=bB 5 3 false uy
def qz:=(qQ nU 1 (bL (CH 2 (CH 3 aB))) (aM eZ (CH 0 (CH 2 (CH 3 aB)))))
def qC:=(cu (gN 3) (iV (bL (ak (bC (.bl false)) (ak (bC (.bl true)) aB)))) [3] qz)
def sX:=(aC (aJ 1 (bC (.dT []))) (aC (cu (gN 2) (iV (bL (ak (bC (.str "u")) (ak (bC (.str "-")) aB)))) [2,3] qC) (aV (bV 1))))
def kE:=bB 4 1 false sX
def lG:=(bL (CH 0 (CH 0 aB)))
def jo:=(aV (Ys (tV (b2 LB (bV 1) (bC .CY))) (eU [none] (iK (bV 3)) (gN 0) fU lG) (b2 C9 (bV 0) (bL (ak (b2 C9 (bV 1) (CF 1)) (CH 2 aB))))))
def fG:=bB 4 4 false jo
def dz:=(E7 (tV (b2 XU (bV 7) (bV 3))) (qQ nU 4 (bV 6) (b2 bD (b3 lV (bV 4) (bV 6) (CF 0)) (b2 C9 (bV 3) (bV 7)))) EK)
def jH:=(cu (gT [6,7]) (iV (aM fG (CH 0 (CH 5 (CH 2 (CH 3 aB)))))) [6,7] dz)
def pD:=(aC (aJ 4 (bC (.dT []))) (aC (cu (gN 5) (iV (bV 1)) [5,6,7] jH) (aV (bV 4))))
def i_:=bB 8 4 false pD
def kI:=(cA uH 1 (bV 2))
def rM:=(aC (aJ 1 (bO aB)) (aC (cu (gN 2) (iV (bV 0)) [2] kI) (aV (bV 1))))
def cT:=bB 3 1 false rM
def jq:=(cA uH 1 (b2 lB (b2 Aa (bO (ak (bC (.bl false)) aB)) (b2 OE (b1 C0 (bV 2)) (CF 1))) (bO (ak (bC (.bl true)) aB))))
def mZ:=(aC (aJ 1 (bO aB)) (aC (cu (gN 2) (iV (bV 0)) [2] jq) (aV (bV 1))))
def gB:=bB 3 1 false mZ
def fZ:=(aC (aJ 3 (aM i_ (CH 2 (CH 5 (CH 6 (CH 3 aB)))))) (cA fB 4 (bV 3)))
def jZ:=(aC (aJ 2 (aM kE (CH 1 aB))) (aC (aJ 3 (b2 lW (aM fD (CH 1 aB)) (CF 1))) (aC (aJ 4 (bO (CH 3 aB))) (aC (cu (gT [5,6]) (Fq (b2 ud (aM cT (CH 0 aB)) (aM gB (CH 0 aB)))) [5,6] fZ) (aV (b1 vC (bV 4)))))))
def cD:=bB 7 2 false jZ
def oA:=(aV (b3 qU (b2 C9 (aM cD (CH 0 (CH 1 aB))) (CF 0)) (bC iU) (CF 0)))
def iz:=bB 2 2 false oA
def jC:=(b2 XU (bV 1) (bV 0))
def fH:=(aC (aJ 2 (aM cT (CH 0 aB))) (aC (E7 (tV (b2 Kn (b1 C0 (bV 1)) (b1 C0 (bV 2)))) (aV (bC (.bl false))) EK) (aV (b1 zY (eU [none,none] (OK (bV 2) (bV 1)) (gT [0,1]) fU jC)))))
def jr:=bB 3 2 false fH
def sY:=(aM gh (CH 0 (ak (b2 C9 (bV 1) (CF 0)) aB)))
def uf:=(aC (E7 (tV (b2 Kn (b1 C0 (bV 2)) (b1 C0 (bV 0)))) (aV (bC (.bl false))) EK) (aC (E7 (tN (tV (b1 zY (eU [none,none] (OK (bV 0) (bV 2)) (gT [0,1]) fU sY)))) (aV (bC (.bl false))) EK) (aV (SF (b2 C9 (b2 C9 (bV 2) (b1 nR (CF 1))) (CF 1)) (Ez (bV 1))))))
def jD:=bB 3 3 false uf
def b7:=(aC (E7 (tN (tV (mD (λi j=>decide (i<=j)) (λi j=>decide (i < j)) (CF 0) (bV 5) (b1 C0 (b2 C9 (bV 4) (CF 0)))))) (aV (bC (.bl false))) EK) (aC (aJ 6 (b2 C9 (b2 C9 (bV 4) (CF 0)) (bV 5))) (aC (aJ 7 (b2 bD (bV 3) (b1 C0 (bV 6)))) (aC (E7 (tN (tV (aM jD (CH 6 (ak (b2 C9 (bV 4) (CF 1)) (ak (JA (bV 1) (oS (bV 3)) (oS (bV 7))) aB)))))) (aV (bC (.bl false))) EK) (aJ 3 (bV 7))))))
def gO:=(aC (E7 (tV (b2 Kn (b1 C0 (bV 2)) (b1 C0 (bV 0)))) (aV (bC (.bl false))) EK) (aC (aJ 3 (CF 0)) (aC (cu (gT [4,5]) (OK (bV 0) (bV 2)) [4,5,6,7] b7) (aV (b2 eqQ (bV 3) (b1 C0 (bV 1)))))))
def jO:=bB 8 3 false gO
def oE:=(bL (ak (b2 C9 (bV 0) (CF 1)) (CH 1 aB)))
def oF:=(tV (b2 jL (bV 0) (bC .CY)))
def m5:=(aV (eU [none,none] (OK (bV 1) (aM gB (CH 0 aB))) (gT [0,1]) oF oE))
def gC:=bB 2 2 false m5
def qY:=(aC (aJ 3 (b2 C9 (bV 2) (CF 0))) (aV (pK (aM jr (CH 0 (CH 3 aB))) (aM jO (CH 1 (ak (aM gC (CH 0 (CH 3 aB))) (ak (b2 C9 (bV 2) (CF 1)) aB)))))))
def iB:=bB 4 3 false qY
def kJ:=(qQ nU 4 (bV 8) (b2 bD (b3 lV (bV 4) (bV 8) (CF 0)) (bV 6)))
def oG:=(cu (gT [7,8]) (iV (aM dI (CH 0 (CH 5 (ak (b2 C9 (bV 2) (CF 1)) (CH 3 aB)))))) [7,8] kJ)
def qZ:=(aC (E7 (tV (b2 LB (bV 2) (bC .CY))) (aV (bV 1)) EK) (aC (aJ 4 (bC (.dT []))) (aC (cu (gT [5,6]) (Yp (bV 1)) [5,6,7,8] oG) (aV (bV 4)))))
def dm:=bB 9 4 false qZ
def cP:=(aC (aJ 6 (b2 bD (bV 2) (b1 C0 (bV 5)))) (cA fB 4 (Ys (tV (aM jD (CH 5 (ak (b2 C9 (bV 0) (CF 1)) (ak (JA (bV 1) (oS (bV 2)) (oS (bV 6))) aB))))) (b2 C9 (bV 3) (bV 6)) (CF 0))))
def kO:=(aC (aJ 4 (bO aB)) (aC (cu (gN 5) (iV (b2 C9 (bV 0) (CF 0))) [5,6] cP) (aV (bV 4))))
def bu:=bB 7 4 false kO
def iW:=(b1 pN (aM bu (CH 1 (CH 2 (CH 0 (CH 3 aB))))))
def fW:=(aC (aJ 2 (eU [none,some 4,some 1,some 2] (LF (b2 bD (b1 C0 (bV 1)) (CF 1))) (gN 0) fU iW)) (cA fB 3 (bV 2)))
def mU:=(aC (aJ 2 (b2 lB (b2 Aa (bO (ak (CF 0) aB)) (b1 C0 (bV 1))) (bO (ak (CF 1) aB)))) (aC (aJ 3 (bO (CH 2 aB))) (aC (cu (gN 4) (Fq (bV 0)) [4] fW) (aV (b1 vC (bV 3))))))
def eO:=bB 5 2 false mU
def fX:=(aC (aJ 8 (b2 C9 (bV 0) (bV 6))) (aC (aJ 9 (aM bu (CH 8 (CH 1 (CH 5 (ak (b2 C9 (bV 3) (b2 bD (bV 6) (CF 1))) aB)))))) (aC (aJ 4 (b2 bD (bV 4) (b1 pN (JA (bV 9) oN (oS (bV 7)))))) (aJ 5 (b2 bD (bV 5) (b1 C0 (b2 C9 (b2 C9 (bV 8) (CF 0)) (bV 7))))))))
def mV:=(aC (aJ 3 (aM eO (CH 0 (CH 1 aB)))) (aC (aJ 4 (CF 0)) (aC (aJ 5 (CF 0)) (aC (cu (gT [6,7]) (S3 (bV 2)) [6,7,8,9] fX) (aV (bV 4))))))
def gP:=bB 10 3 false mV
def gZ:=(b2 mH (bV 1) (b3 lV (bV 2) (bV 0) (CF 0)))
def g_:=(aC (aJ 7 (aM dm (CH 0 (CH 1 (CH 6 (CH 3 aB)))))) (cA fB 5 (b1 pN (eU [none,none,some 4] (Yp (bV 7)) (gT [0,1]) fU gZ))))
def lg:=(aC (aJ 5 (bO aB)) (aC (cu (gN 6) (iV (bV 2)) [6,7] g_) (aV (bV 5))))
def bR:=bB 8 5 false lg
def jE:=(aC (aJ 10 (JA (bV 9) oN (oS (b2 jM (bV 9) (b2 C9 (bV 5) (bV 8)))))) (aC (aJ 7 (b2 bD (bV 7) (b1 pN (aM bR (CH 1 (CH 6 (CH 10 (ak (b2 C9 (bV 4) (bV 8)) (ak (b2 C9 (bV 3) (b2 bD (bV 8) (CF 1))) aB))))))))) (aJ 6 (aM dm (CH 1 (CH 6 (ak (b2 C9 (bV 5) (bV 8)) (ak (b2 C9 (bV 4) (bV 8)) aB))))))))
def sZ:=(aC (E7 (tN (tV (aM iB (CH 0 (CH 1 (CH 2 aB)))))) Zh EK) (aC (aJ 3 (aM cD (CH 0 (CH 1 aB)))) (aC (aJ 4 (aM gB (CH 0 aB))) (aC (aJ 5 (b2 C9 (bV 2) (CF 0))) (aC (aJ 6 (b2 lW (bC iU) (CF 1))) (aC (aJ 7 (CF 0)) (aC (cu (gT [8,9]) (S3 (aM cT (CH 0 aB))) [8,9,10] jE) (aV (b2 bD (bV 7) (aM gP (CH 1 (ak (aM gC (CH 0 (CH 5 aB))) (ak (b2 C9 (bV 2) (CF 1)) aB)))))))))))))
def fJ:=bB 11 3 false sZ
def tu:=(xIf (tN (tV (aM iB (CH 0 (CH 1 (CH 2 aB)))))) (Am (ak (bC (.str "this is no reading of the table in the metre")) aB) 11) xNo)
def fK:=wL 11 3 tu
def jU:=(aJ 4 (aM fJ (CH 0 (CH 1 (ak (bL (CH 2 (CH 3 aB))) aB)))))
def jV:=(FN (CH 0 (CH 1 (ak (bL (CH 2 (CH 3 aB))) aB))) fK)
def lH:=(aC (aJ 4 (bC .CY)) (aC (FQ jU jV 11 4 .CY) (aV (bV 4))))
def bT:=bB 5 4 false lH
def dG:=(aC (aJ 3 (b2 OE (bV 3) (b2 C9 (bV 0) (bV 2)))) (aJ 2 (b2 bD (bV 2) (CF 1))))
def cG:=(tV (b2 (wC λi j=>decide (j<=i)) (bV 3) (b2 C9 (bV 0) (bV 2))))
def tD:=(aC (aJ 2 (CF 0)) (aC (aJ 3 (bV 1)) (aC (sS 1000000 cG [] dG) (aV (bL (CH 2 (CH 3 aB)))))))
def dq:=bB 4 2 false tD
def kW:=(aC (aJ 9 (aM dq (ak (aM bu (CH 8 (CH 1 (CH 5 (ak (b2 C9 (bV 3) (b2 bD (bV 7) (CF 1))) aB))))) (CH 6 aB)))) (aC (cA fB 4 (b2 C9 (bV 9) (CF 0))) (aC (aJ 5 (b2 bD (bV 5) (b1 C0 (b2 C9 (b2 C9 (bV 8) (CF 0)) (b2 C9 (bV 9) (CF 0)))))) (aJ 6 (b2 C9 (bV 9) (CF 1))))))
def vH:=(aC (aJ 3 (aM eO (CH 0 (CH 1 aB)))) (aC (aJ 4 (bO aB)) (aC (aJ 5 (CF 0)) (aC (aJ 6 (bV 2)) (aC (cu (gT [7,8]) (S3 (bV 0)) [7,8,9] kW) (aV (bV 4)))))))
def kY:=bB 10 3 true vH
def gF:=(aC (aJ 10 (aM dq (ak (aM bR (CH 1 (CH 6 (CH 9 (ak (b2 C9 (bV 4) (bV 8)) (ak (b2 C9 (bV 3) (b2 bD (bV 8) (CF 1))) aB)))))) (CH 7 aB)))) (aC (aJ 11 (b2 C9 (bV 9) (b2 C9 (bV 10) (CF 0)))) (aC (cA fB 5 (bV 11)) (aC (aJ 6 (aM dm (CH 1 (CH 6 (CH 11 (ak (b2 C9 (bV 4) (bV 8)) aB)))))) (aJ 7 (b2 C9 (bV 10) (CF 1)))))))
def rN:=(aC (aJ 3 (aM cD (CH 0 (CH 1 aB)))) (aC (E7 (tN (tV (mD (λi j=>decide (i<=j)) (λi j=>decide (i < j)) (CF 0) (bV 2) (b3 qU (b2 C9 (bV 3) (CF 0)) (bC iU) (CF 0))))) Zh EK) (aC (aJ 4 (aM gB (CH 0 aB))) (aC (aJ 5 (bO aB)) (aC (aJ 6 (b2 lW (bC iU) (CF 1))) (aC (aJ 7 (bV 2)) (aC (cu (gT [8,9]) (S3 (aM cT (CH 0 aB))) [8,9,10,11] gF) (aV (bL (CH 5 (ak (aM kY (CH 1 (ak (aM gC (CH 0 (CH 5 aB))) (CH 7 aB)))) aB)))))))))))
def cU:=bB 12 3 false rN
def lJ:=(cA fB 1 (bL (ak (b2 C9 (bV 2) (bV 3)) (ak (b2 eqQ (b2 bD (bV 3) (CF 1)) (b1 C0 (bV 2))) aB))))
def lK:=(cu (gN 3) (LF (b1 C0 (bV 2))) [3] lJ)
def tE:=(aC (aJ 1 (bO aB)) (aC (cu (gN 2) (iV (bV 0)) [2,3] lK) (aV (bV 1))))
def fL:=bB 4 1 false tE
def iC:=(cA fB 3 (b2 jM (b2 C9 (bV 5) (CF 0)) (bV 4)))
def qD:=(aC (aJ 3 (bO aB)) (aC (cu (gT [4,5]) (OK (bV 1) (aM fL (CH 0 aB))) [4,5] iC) (aV (bL (CH 3 (CH 2 aB))))))
def cz:=bB 6 3 false qD
def cX:=(E7 (tV (b2 ql (bV 8) (bV 7))) (cA fB 5 (bL (ak (b2 lB (b2 lB (JA (bV 2) oN (oS (bV 6))) (bO (CH 8 aB))) (JA (bV 2) (oS (b2 bD (bV 6) (CF 1))) oN)) (CH 3 aB)))) EK)
def dR:=(cA fB 5 (bL (CH 2 (ak (b2 lB (b2 lB (JA (bV 3) oN (oS (bV 6))) (bO (CH 9 aB))) (JA (bV 3) (oS (b2 bD (bV 6) (CF 1))) oN)) aB))))
def j4:=(bV 0)
def h_:=(tV (b2 jL (aM bT (CH 1 (CH 2 (ak (b1 pB (b2 C9 (bV 0) (CF 0))) (ak (b1 pB (b2 C9 (bV 0) (CF 1))) aB))))) (bC .CY)))
def lq:=(aC (aJ 5 (bO (ak (bL (ak (b2 lB (bV 2) (bO (ak (bC .CY) aB))) (CH 3 aB))) (ak (bL (ak (JA (bV 2) oN (oS (b1 nR (CF 1)))) (CH 3 aB))) (ak (bL (CH 2 (ak (b2 lB (bV 3) (bO (ak (CF 0) aB))) aB))) (ak (bL (CH 2 (ak (JA (bV 3) oN (oS (b1 nR (CF 1)))) aB))) (ak (bL (ak (bO aB) (CH 3 aB))) aB))))))) (aC (aJ 6 (b2 c7 (bV 4) (b1 C0 (bV 2)))) (aC (aJ 7 (b2 C9 (b2 C9 (aM fL (CH 0 aB)) (bV 6)) (CF 0))) (aC (cu (gN 8) (iV (bO (ak (bL (ak (CF 0) (ak (bC (.str "u")) aB))) (ak (bL (ak (CF 0) (ak (bC (.str "-")) aB))) (ak (bL (ak (CF 1) (ak (bC (.str "-")) aB))) (ak (bC .CY) aB)))))) [8] cX) (aC (aJ 6 (b2 c7 (bV 4) (b1 C0 (bV 3)))) (aC (cu (gN 9) (iV (bO (ak (b1 nR (CF 1)) (ak (b1 C0 (b2 C9 (b2 C9 (bV 1) (bV 6)) (CF 0))) (ak (b2 wB (CF 10) (CF 20)) aB))))) [9] dR) (aV (b2 eqQ (eU [none,some 0,some 1] (iV (bV 5)) (gN 0) h_ j4) (bO aB)))))))))
def fY:=bB 10 5 false lq
def du:=(E7 (tV (b2 jL (bV 5) (bC .CY))) (cA fB 4 (bL (ak (b2 C9 (bV 5) (CF 1)) (ak (b2 C9 (bV 6) (CF 1)) aB)))) EK)
def cH:=(E7 (tO (tA (tV (b2 Kn (b2 C9 (bV 9) (CF 0)) (bC (.str "x")))) (tV (b2 Kn (b2 C9 (bV 9) (CF 0)) (b2 C9 (bV 8) (CF 0))))) (tA (tV (b2 C9 (bV 9) (CF 1))) (tN (tV (b2 C9 (bV 8) (CF 1)))))) (aV (bC (.bl false))) EK)
def jt:=(aC (aJ 4 (bO aB)) (aC (cu (gT [5,6]) (OK (bV 2) (aM fL (CH 0 aB))) [5,6] du) (aC (aJ 7 (aM dX (CH 1 (CH 3 aB)))) (aC (E7 (tV (b2 Kn (b1 C0 (bV 4)) (b1 C0 (bV 7)))) (aV (bC (.bl false))) EK) (aC (cu (gT [8,9]) (OK (bV 4) (bV 7)) [8,9] cH) (aV (bC (.bl true))))))))
def bU:=bB 10 4 false jt
def q8:=(b2 c7 (aM cQ (CH 1 (CH 0 aB))) (b1 C0 (b2 C9 (b2 C9 (bV 2) (bV 0)) (CF 0))))
def vI:=(aC (aJ 1 (aM iM (ak (b2 bD (JA (bV 0) (oS (CF 2)) (oS (CF 5))) (JA (bO (ak (CF 0) aB)) (oS (b2 dJ (b1 C0 (bV 0)) (CF 3))) oN)) aB))) (aC (aJ 2 (aM cJ (CH 0 (ak (CF 0) aB)))) (aC (aJ 3 (eU [none,some 2,some 1] (LF (b1 C0 (bV 1))) (gN 0) fU q8)) (aC (uI (gL [4,5]) (aM lY (CH 1 (CH 3 (ak (aM cJ (CH 0 (ak (CF 1) aB))) aB))))) (aC (aJ 6 (aM iz (CH 4 (CH 1 aB)))) (aC (aJ 7 (aM bT (CH 4 (CH 1 (ak (b1 pB (bV 5)) (ak (b1 pB (bV 3)) aB)))))) (aC (E7 (tO (tN (tV (b1 (Fj GA) (bV 7)))) (tO (tV (b1 (Fj Fn) (bV 7))) (tN (tV (mD (λi j=>decide (i<=j)) (λi j=>decide (i < j)) (CF 0) (bV 7) (bV 6)))))) (aV (bC (.bl false))) EK) (Fy 8 false (CH 4 (CH 1 (CH 7 aB))) cU (tV (b2 Kn (bV 8) (bL (CH 5 (CH 3 aB))))) (aC (E7 (tN (tV (aM fY (CH 4 (CH 1 (CH 5 (CH 3 (ak (aM cQ (CH 2 (ak (CF 98) aB))) aB)))))))) (aV (bC (.bl false))) EK) (aC (aJ 9 (b1 pB (bV 5))) (aC (aJ 10 (b1 pB (bV 3))) (aC (aJ 11 (aM cQ (CH 2 (ak (CF 99) aB)))) (aC (aJ 12 (b2 c7 (b2 dJ (bV 11) (CF 2)) (b1 C0 (bV 5)))) (aC (aJ 13 (b2 C9 (b2 C9 (aM fL (CH 4 aB)) (bV 12)) (CF 0))) (aC (E7 (tV (b2 eqQ (b2 c7 (bV 11) (CF 2)) (CF 0))) (qQ nU 9 (bV 12) (b2 C9 (bV 13) (b2 c7 (b2 dJ (bV 11) (CF 128)) (b1 C0 (bV 13))))) (aC (aJ 12 (b2 c7 (b2 dJ (bV 11) (CF 2)) (b1 C0 (bV 3)))) (qQ nU 10 (bV 12) (b2 c7 (b2 dJ (bV 11) (CF 128)) (b1 C0 (b2 C9 (b2 C9 (bV 1) (bV 12)) (CF 0))))))) (aC (aJ 14 (aM bT (CH 4 (CH 1 (CH 9 (CH 10 aB)))))) (aC (E7 (tN (tV (aM bU (CH 4 (CH 1 (CH 9 (CH 10 aB))))))) (aV (b2 LB (bV 14) (bC .CY))) EK) (aC (E7 (tO (tV (b2 LB (bV 14) (bC .CY))) (tV (b2 Kn (aM cU (CH 4 (CH 1 (CH 14 aB)))) (bL (CH 9 (CH 10 aB)))))) (aV (bC (.bl false))) EK) (aC (aJ 15 (aM cz (CH 4 (CH 5 (CH 3 aB))))) (aC (aJ 16 (aM cz (CH 4 (CH 9 (CH 10 aB))))) (aV (pK (b2 eqQ (b2 jQ (bV 7) (bV 14)) (b2 qW (bV 15) (bV 16))) (b2 eqQ (b2 eqQ (bV 7) (bV 14)) (b2 eqQ (bV 15) (bV 16)))))))))))))))))))))))))
def vJ:=bB 17 1 false vI
theorem bz {α S:Type}{g:PV->MR.Env->Option MR.Env}{ds:gV}{body:MR.Env->Option Out}(c:α->PV)(E:S->MR.Env)(I:List α->S->Prop)(hh:∀y ys s,I (y::ys) s->∃s',I ys s'/\turn g ds body (c y) (E s)=some (E s')):∀(ys:List α) (s:S),I ys s->
  ∃s',I [] s'/\bM g ds body (ys.map c) (E s)=some (.nx (E s'))
 | [],s,i=>⟨s,i,rfl⟩
 | y::ys,s,i=>by
  obtain⟨s1,i1,h1⟩:=hh y ys s i
  obtain⟨s2,i2,h2⟩:=bz c E I hh ys s1 i1
  exact⟨s2,i2,by rw[ap,jB h1,h2]⟩
theorem oH (c k:Int)(h:MW k=true):cQ [.int c,.int k]=some (.int (mixed c k)):=by
 have h1:MW 48271=true:=je (by decide) (by decide)
 have h2:MW 69621=true:=je (by decide) (by decide)
 simp[cQ,rJ,h,h1,h2,mixed]
theorem Dj {k:Nat}(h:k < 1000):MW (k:Int)=true:=je (by omega) (by omega)
theorem KH (x:Str)(cs:rp):NJ (.str x) (.lst (cs.map .str))=some (decide (x∈cs)):=by
 have h1:(cs.map PV.str).all dF=true:=by rw[kn,cq];exact λ_ _=>rfl
 have h2:((cs.map PV.str).any λy=>OF y (.str x))=decide (x∈cs):=by
  rw[List.any_map]
  induction cs with
  | nil=>simp
  | cons c r ih=>
   rw[fA,ih (by rw[kn,cq];exact λ_ _=>rfl)]
   by_cases e:x=c
   ·subst e;simp[OF]
   ·have e':¬ c=x:=λz=>e z.symm
    simp[OF,e,e']
 simp[NJ,dF,h1,h2]
structure Ee (p:Str):Prop where
 ge:1<=p.length
 le:p.length<=4
 cs:∀c∈p.cps.toList,c=117\/c=45\/c=120
structure D3 (ps:rp):Prop where
 ne:ps≠[]
 le:ps.length<=4
 ok:∀p∈ps,Ee p
 nd:ps.Nodup
theorem Vv {i:Int}(h0:0<=i)(h1:i < 3):∃c,(c=117\/c=45\/c=120)/\DE (("u-x" : Str).cps.toList) i=some c:=by
 have e:("u-x" : Str).cps.toList=[117,45,120]:=by decide +kernel
 obtain⟨k,rfl⟩:∃k:Nat,i=k:=⟨i.toNat,by omega⟩
 rw[e]
 have hk:k=0\/k=1\/k=2:=by omega
 rcases hk with rfl | rfl | rfl
 ·exact⟨117,.inl rfl,rfl⟩
 ·exact⟨45,.inr (.inl rfl),rfl⟩
 ·exact⟨120,.inr (.inr rfl),rfl⟩
theorem Tw:("u-x" : Str).length<=1000000:=by decide +kernel
theorem KJ (a b:Str):(a++b).length=a.length+b.length:=by
 show (a.cps++b.cps).size=_
 rw[Array.size_append]
 rfl
variable {n:Int}{j:Nat}
theorem FT {k:Int}(hn:0<=n)(hk0:0<=k)(hk:k < 4){L:PV}(hj:j < 4){x:Str}(hx:x.length < 1000):
  ∃c,(c=117\/c=45\/c=120)/\turn (gN 4) [4] dN (.int j) [some (.int n),some L,some (.int k),some (.str x),none]=some [some (.int n),some L,some (.int k),some (.str (x++⟨#[c]⟩)),none]:=by
 obtain⟨c,hc,h⟩:=Vv (i:=n / (7+5*k+11*(j:Int)) % 3) (by omega) (by omega)
 have h5:MW 5=true:=je (by decide) (by decide)
 have h11:MW 11=true:=je (by decide) (by decide)
 have hd:0 < 7+5*k+11*(j:Int)/\7+5*k+11*(j:Int) < 1073741824:=by omega
 have hl:x.length+(⟨#[c]⟩:Str).length<=1000000:=by
  have:(⟨#[c]⟩:Str).length=1:=rfl
  omega
 refine⟨c,hc,?_⟩
 simp[aY,dN,h,h5,h11,hd,Tw,hl]
theorem HQ {k:Int}(hn:0<=n)(hk0:0<=k)(hk:k < 4){L:PV}{t:Nat}(ht:1<=t)(ht4:t<=4):
  ∃x,Ee x/\bM (gN 4) [4] dN (dj 0 (t:Int)) [some (.int n),some L,some (.int k),some (.str ("" : Str)),none]=some (.nx [some (.int n),some L,some (.int k),some (.str x),none]):=by
 have e0:("" : Str).length=0:=by decide +kernel
 have e1:("" : Str).cps.toList=[]:=by decide +kernel
 obtain⟨x,⟨i1,i2,_⟩,h⟩:=bz (g:=gN 4) (ds:=[4]) (body:=dN) (λj:Nat=>PV.int (j:Nat)) (λx:Str=>[some (.int n),some L,some (.int k),some (.str x),none])
  (λr x=>x.length+r.length=t/\(∀c∈x.cps.toList,c=117\/c=45\/c=120)/\∀j∈r,j < 4)
  (by
   rintro j r x ⟨i1,i2,i3⟩
   simp only[bg] at i1
   obtain⟨c,hc,h⟩:=FT (L:=L) hn hk0 hk (i3 j ah) (x:=x) (by omega)
   refine⟨x++⟨#[c]⟩,⟨?_,?_,λz hz=>i3 z (ag _ hz)⟩,h⟩
   ·have:(⟨#[c]⟩:Str).length=1:=rfl
    rw[KJ]
    omega
   ·intro d hd
    have:(x++(⟨#[c]⟩:Str)).cps.toList=x.cps.toList++[c]:=by
     show (x.cps++#[c]).toList=_
     simp
    rw[this] at hd
    rcases br.mp hd with z | z
    ·exact i2 d z
    ·rw[aE] at z;rw[z];exact hc)
  (List.range t) ("" : Str) ⟨by simp[e0],(by rw[e1];exact λc hc=>by cases hc),(λj hj=>by have:=b6.mp hj;omega)⟩
 simp only[k7,Nat.add_zero] at i1
 exact⟨x,⟨by omega,by omega,i2⟩,by rw[dW];exact h⟩
theorem HR (hn:0<=n){L:rp}(hL:L.length < 1000){k:Nat}(hk:k < 4):
  ∃x,Ee x/\turn (gN 2) [2,3,4] dO (.int k) [some (.int n),some (.lst (L.map .str)),none,none,none]=some [some (.int n),some (.lst ((if x∈L then L else L++[x]).map .str)),none,none,none]:=by
 obtain⟨t,ht,et⟩:∃t:Nat,(1<=t/\t<=4)/\1+n / (4+3*(k:Int)) % 4=t:=⟨(1+n / (4+3*(k:Int)) % 4).toNat,by omega,by omega⟩
 obtain⟨x,hx,h⟩:=HQ (n:=n) (k:=k) (L:=.lst (L.map .str)) hn (by omega) (by omega) ht.1 ht.2
 have h3:MW 3=true:=je (by decide) (by decide)
 have hd:0 < 4+3*(k:Int)/\4+3*(k:Int) < 1073741824:=by omega
 have hr:JE (t:Int)=true:=jg (by omega) (by omega)
 have M0:=KH x L
 have hl:L.length < 1000000:=by omega
 refine⟨x,hx,?_⟩
 by_cases hm:x∈L
 ·simp[aY,dO,h3,hd,et,hr,h,M0,hm,hl]
 ·simp[aY,dO,h3,hd,et,hr,h,M0,hm,hl]
theorem pO (hn:0<=n):∃ps,D3 ps/\fC [.int n]=some (.tup (ps.map .str)):=by
 obtain⟨t,ht,et⟩:∃t:Nat,(1<=t/\t<=4)/\1+n % 4=t:=⟨(1+n % 4).toNat,by omega,by omega⟩
 obtain⟨L,⟨i1,i2,i3,i4,_⟩,h⟩:=bz (g:=gN 2) (ds:=[2,3,4]) (body:=dO) (λk:Nat=>PV.int (k:Nat)) (λL:List Str=>[some (.int n),some (.lst (L.map .str)),none,none,none])
  (λr L=>(∀p∈L,Ee p)/\L.Nodup/\L.length+r.length<=t/\(r.length=t\/L≠[])/\∀k∈r,k < 4)
  (by
   rintro k r L ⟨i1,i2,i3,i4,i5⟩
   simp only[bg] at i3 i4
   obtain⟨x,hx,h⟩:=HR hn (L:=L) (by omega) (i5 k ah)
   refine⟨_,⟨?_,?_,?_,.inr ?_,λz hz=>i5 z (ag _ hz)⟩,h⟩
   ·intro p hp
    split at hp
    ·exact i1 p hp
    ·rcases br.mp hp with z | z
     ·exact i1 p z
     ·rw[aE] at z;rw[z];exact hx
   ·split
    ·exact i2
    ·rename_i hm
     rw[kw]
     exact⟨i2,by simp,λa ha b hb e=>by rw[aE] at hb;subst hb e;exact hm ha⟩
   ·split
    ·omega
    ·rw[aS,cw];omega
   ·split
    ·rename_i hm
     intro e
     rw[e] at hm
     cases hm
    ·simp)
  (List.range t) [] ⟨(λp hp=>by cases hp),by simp,by simp,.inl (by simp),(λk hk=>by have:=b6.mp hk;omega)⟩
 have hr:JE (t:Int)=true:=jg (by omega) (by omega)
 have YN:(0:Int) < 4:=by decide
 rw[← dW] at h
 simp only[ed] at h
 refine⟨L,⟨?_,?_,i1,i2⟩,?_⟩
 ·rcases i4 with z | z
  ·simp at z;omega
  ·exact z
 ·simp at i3;omega
 ·simp[fC,n_,et,hr,h]
noncomputable def pats (n:Nat):List Str:=(pO (n:=(n:Int)) (by omega)).choose
theorem O6 (n:Nat):D3 (pats n):=(pO (n:=(n:Int)) (by omega)).choose_spec.1
theorem O7 (n:Nat):fC [.int n]=some (.tup ((pats n).map .str)):=(pO (n:=(n:Int)) (by omega)).choose_spec.2
abbrev Slot:=List Str×Bool
abbrev rX:=List Slot
noncomputable def DC (s:Slot):PV:=.tup [.tup (s.1.map .str),.bl s.2]
noncomputable def mP (m:rX):PV:=.tup (m.map DC)
def bw (m:rX):Prop:=∀s∈m,D3 s.1
theorem KQ (cs:rq)(hc:cs.length < 1000):∃m,bw m/\m.length=cs.length/\iM [.lst (cs.map .int)]=some (mP m):=by
 obtain⟨m,⟨i1,i2,_⟩,h⟩:=bz (g:=gT [2,3]) (ds:=[2,3,4]) (body:=j9) (λy:Int×Nat=>PV.tup [.int (y.2:Nat),.int y.1]) (λm:List Slot=>[some (.lst (cs.map .int)),some (.lst (m.map DC)),none,none,none])
  (λr m=>bw m/\m.length+r.length=cs.length/\∀y∈r,y.2 < 1000)
  (by
   rintro y r m ⟨i1,i2,i3⟩
   simp only[bg] at i2
   have h1:=oH y.1 y.2 (Dj (i3 y ah))
   have h0:=Ks y.1 y.2
   obtain⟨q,eq⟩:∃q:Nat,mixed y.1 y.2 / 2=q:=⟨(mixed y.1 y.2 / 2).toNat,by omega⟩
   have h2:=O7 q
   have hl:m.length < 1000000:=by omega
   refine⟨m++[(pats q,decide (mixed y.1 y.2 % 2=1))],⟨?_,by simp;omega,λz hz=>i3 z (ag _ hz)⟩,?_⟩
   ·intro s hs
    rcases br.mp hs with z | z
    ·exact i1 s z
    ·rw[aE] at z;rw[z];exact O6 q
   ·simp[aY,j9,h1,eq,h2,hl,DC])
  cs.zipIdx [] ⟨(λs hs=>by cases hs),by simp,(λy hy=>by
   have:=List.snd_lt_of_mem_zipIdx hy
   omega)⟩
 simp only[k7,Nat.add_zero] at i2
 refine⟨m,i1,i2,?_⟩
 have en:fQ 0 (cs.map .int)=cs.zipIdx.map λy:Int×Nat=>PV.tup [.int (y.2:Nat),.int y.1]:=jl _ _ _
 simp only[ed] at h
 simp[iM,rK,en,h,mP]
abbrev Sg:=Str×Bool
abbrev r9:=List Sg
noncomputable def EL (e:Sg):PV:=.tup [.str e.1,.bl e.2]
noncomputable def aQ (r:r9):PV:=.lst (r.map EL)
noncomputable def C7 (x mark:Str):Bool:=decide (x=mark)||decide (x=("x" : Str))
theorem ju {α β:Type}(f:α->PV)(g:β->PV):∀(xs:List α) (ys:List β),j7 (xs.map f) (ys.map g)=(xs.zip ys).map λz=>.tup [f z.1,g z.2]
 | [],ys=>by simp[j7]
 | x::xs,[]=>by simp[j7]
 | x::xs,y::ys=>by
  have:=ju f g xs ys
  unfold j7 at this ⊢
  simp only[ap,List.zipWith_cons_cons,f8,this]
theorem tG {α:Type}(f:α->Bool):∀l:List α,bools (l.map λz=>PV.bl (f z))=some (l.map f)
 | []=>rfl
 | w::ws=>by simp[tG f ws]
noncomputable def oJ (p:Str)(part:r9):Bool:=(p.cps.toList.zip part).all λz=>C7 ⟨#[z.1]⟩ z.2.1
noncomputable def oK (part:r9):Bool:=(part.getLast?.map (·.2)).getD false
noncomputable def fit (p:Str)(cut:Bool)(part:r9):Bool:=decide (part.length=p.length)&&(oJ p part&&(oK part||!cut))
theorem HS {α:Type}{xs:List α}(h:xs≠[]):DE xs (-1)=xs.getLast?:=by
 unfold DE Kk
 have hl:0 < xs.length:=dQ.mpr h
 rw[a7 (by decide),be (by omega),nV]
 show xs[(-1+(xs.length:Int)).toNat]?=_
 congr 1
 omega
theorem xU (x mark:Str):gh [.str x,.str mark]=some (.bl (C7 x mark)):=by
 unfold C7
 by_cases h:x=mark
 ·simp[gh,mK,h]
 ·simp[gh,mK,h]
variable {p:Str}
theorem vK (hp:Ee p)(cut:Bool)(part:r9):jD [.str p,.bl cut,aQ part]=some (.bl (fit p cut part)):=by
 have h1:p.length<=1000000:=by have:=hp.le;omega
 have hv:MX p=p.cps.toList.map λc=>PV.str ⟨#[c]⟩:=rfl
 by_cases hlen:part.length=p.length
 ·have hle:(p.cps.toList.zip part).length<=1000000:=by
   rw[iP]
   have:p.cps.toList.length=p.length:=eS
   omega
  have hz:=ju (λc:Nat=>PV.str ⟨#[c]⟩) EL p.cps.toList part
  have hc:=gn (env:=[none,none]) (g:=gT [0,1]) (f:=sY) (λz:Nat×Sg=>PV.tup [.str ⟨#[z.1]⟩,EL z.2]) (λz=>PV.bl (C7 ⟨#[z.1]⟩ z.2.1)) (p.cps.toList.zip part) (λz hz=>⟨[some (.str ⟨#[z.1]⟩),some (EL z.2)],rfl,by simp[sY,EL,xU]⟩)
  have hb:=tG (λz:Nat×Sg=>C7 ⟨#[z.1]⟩ z.2.1) (p.cps.toList.zip part)
  have EF:part≠[]:=λe=>by
   rw[e] at hlen
   have:=hp.ge
   simp at hlen
   omega
  obtain⟨e,he⟩:∃e,part.getLast?=some e:=by
   rw[List.getLast?_eq_some_getLast EF]
   exact⟨_,rfl⟩
  have ha:DE (part.map EL) (-1)=some (.tup [.str e.1,.bl e.2]):=by
   rw[Ov,HS EF,he]
   rfl
  have hl:oK part=e.2:=by unfold oK;rw[he];rfl
  have hi:((part.length:Int)=(p.length:Int)):=by omega
  have FL:((p.cps.toList.zip part).map λz:Nat×Sg=>C7 ⟨#[z.1]⟩ z.2.1).all id=oJ p part:=by
   unfold oJ
   rw[kn]
   rfl
  unfold fit
  rw[hl,bP hlen,gd,← FL]
  generalize (p.cps.toList.zip part)=zs at *
  cases hm:(zs.map λz:Nat×Sg=>C7 ⟨#[z.1]⟩ z.2.1).all id with
  | false=>simp[jD,uf,aQ,h1,hi,hv,hz,hle,hc,hb,hm]
  | true=>
   cases cut <;> cases h2:e.2 <;> simp[jD,uf,aQ,h1,hi,hv,hz,hle,hc,hb,hm,ha,h2]
 ·have hi:¬ ((part.length:Int)=(p.length:Int)):=by omega
  unfold fit
  rw[ba hlen,ke]
  simp[jD,uf,aQ,h1,hi]
noncomputable def seg (row:r9)(a n:Nat):List Sg:=(row.drop a).take n
variable {row:r9}{a:Nat}
theorem fit_le {cut:Bool}(hp:Ee p)(h:fit p cut (seg row a p.length)=true):a+p.length<=row.length:=by
 unfold fit at h
 rw[bp] at h
 have h1:=gg h.1
 have:=hp.ge
 unfold seg at h1
 rw[dv,fE] at h1
 omega
theorem Dk {n:Nat}(h:a<=row.length):dC (row.map EL) (some (a:Int)) (some ((a:Int)+(n:Int)))=(seg row a n).map EL:=by
 have e:(a:Int)+(n:Int)=((a+n:Nat):Int):=by omega
 rw[e]
 unfold dC
 rw[HT.EE,HT.EE,af,mS h]
 unfold seg
 rw[← oo,← jp]
 congr 1
 by_cases hq:a+n<=row.length
 ·rw[mS hq,show a+n - a=n by omega]
 ·rw[Nat.min_eq_right (by omega),el (by rw[fE];exact aT _),el (by rw[fE];omega)]
noncomputable def D6 (row:r9):List Slot->Nat->Int
 | [],a=>if a=row.length then 1 else 0
 | s::m,a=>(s.1.map λp=>if fit p s.2 (seg row a p.length)=true then D6 row m (a+p.length) else 0).sum
noncomputable def eV (row:r9)(s:Slot)(m:rX)(a:Nat)(p:Str):Int:=if fit p s.2 (seg row a p.length)=true then D6 row m (a+p.length) else 0
theorem j5 (row:r9)(s:Slot)(m:rX)(a:Nat):D6 row (s::m) a=(s.1.map (eV row s m a)).sum:=rfl
noncomputable def GU (row:r9)(m:rX):List PV:=(List.range (row.length+1)).map λa=>PV.int (D6 row m a)
variable {m:rX}
theorem Tz (h:a<=row.length):DE (GU row m) (a:Int)=some (.int (D6 row m a)):=by
 refine bJ ?_
 unfold GU
 rw[ar,gu (by omega)]
 rfl
variable {s:Slot}
theorem KR (hp:Ee p)(ha:a<=row.length){L:rq}(hL:L.length < 1000):
  turn (gN 5) [5,6] cP (.str p) [some (DC s),some (aQ row),some (.int a),some (.lst (GU row m)),some (.lst (L.map .int)),none,none]=
   some [some (DC s),some (aQ row),some (.int a),some (.lst (GU row m)),some (.lst ((L++[eV row s m a p]).map .int)),none,none]:=by
 have h1:p.length<=1000000:=by have:=hp.le;omega
 have hc:=Dk (n:=p.length) ha
 have hf:=vK hp s.2 (seg row a p.length)
 have hl:L.length < 1000000:=by omega
 unfold aQ at hf
 unfold eV
 cases hq:fit p s.2 (seg row a p.length) with
 | false=>
  rw[hq] at hf
  simp[aY,cP,DC,aQ,h1,hc,hf,hl]
 | true=>
  rw[hq] at hf
  have h2:=Tz (m:=m) (fit_le hp hq)
  have e:((a+p.length:Nat):Int)=(a:Int)+(p.length:Int):=by omega
  rw[e] at h2
  simp[aY,cP,DC,aQ,h1,hc,hf,h2,hl]
theorem HW (hs:D3 s.1)(ha:a<=row.length):
  bu [DC s,aQ row,.int a,.lst (GU row m)]=some (.lst ((s.1.map (eV row s m a)).map .int)):=by
 obtain⟨L,⟨d,e1,e2⟩,lp⟩:=bz (g:=gN 5) (ds:=[5,6]) (body:=cP) PV.str (λL:List Int=>[some (DC s),some (aQ row),some (.int a),some (.lst (GU row m)),some (.lst (L.map .int)),none,none])
  (λr L=>∃d,s.1=d++r/\L=d.map (eV row s m a))
  (by
   rintro p r L ⟨d,e1,e2⟩
   have hd:L.length < 1000:=by
    have h1:=b9 List.length e1
    have:=hs.le
    rw[e2,af]
    simp at h1
    omega
   exact⟨L++[eV row s m a p],⟨d++[p],by rw[e1];simp,by rw[e2];simp⟩,KR (hs.ok p (by rw[e1];simp)) ha hd⟩)
  s.1 [] ⟨[],rfl,rfl⟩
 rw[bq] at e1
 rw[e2,← e1] at lp
 simp only[ed] at lp
 have Q1:DC s=.tup [.tup (s.1.map .str),.bl s.2]:=rfl
 rw[Q1] at lp ⊢
 generalize s.1.map (eV row s m a)=R,aQ row=RP,GU row m=BP at *
 simp[bu,kO,lp]
theorem pF:∀l:List Int,DO (l.map PV.int)=some l
 | []=>rfl
 | w::ws=>by simp[pF ws]
theorem HX (hs:D3 s.1):eQ [none,some (DC s),some (aQ row),some (.lst (GU row m))] (gN 0) fU iW (dj 0 ((row.length+1:Nat):Int))=some (GU row (s::m)):=by
 rw[dW]
 unfold GU
 refine gn _ _ _ λa ha=>⟨[some (.int (a:Nat)),some (DC s),some (aQ row),some (.lst (GU row m))],rfl,?_⟩
 have h1:=HW (row:=row) (m:=m) hs (a:=a) (by have:=b6.mp ha;omega)
 have h2:=pF (s.1.map (eV row s m a))
 rw[j5]
 generalize s.1.map (eV row s m a)=R at *
 simp[iW,h1,h2]
noncomputable def Ls (row:r9):List Slot->List PV
 | []=>[.lst (GU row [])]
 | s::d=>Ls row d++[.lst (GU row (s::d))]
theorem HY (row:r9):∀d:List Slot,(Ls row d).length=d.length+1
 | []=>rfl
 | s::d=>by simp[Ls,HY row d]
theorem TF (row:r9):GU row []=List.replicate row.length (.int 0)++[.int 1]:=by
 unfold GU
 rw[List.range_succ,cS]
 congr 1
 ·rw[pV]
  refine⟨by simp,λx hx=>?_⟩
  obtain⟨a,ha,rfl⟩:=dc.mp hx
  have:¬ a=row.length:=by have:=b6.mp ha;omega
  simp[D6,this]
 ·simp[D6]
variable {M:PV}
theorem KY {d:rX}(hs:D3 s.1)(hr:row.length < 1000)(hd:d.length < 1000):
  turn (gN 4) [4] fW (DC s) [some M,some (aQ row),some (.lst (GU row d)),some (.lst (Ls row d)),none]=some [some M,some (aQ row),some (.lst (GU row (s::d))),some (.lst (Ls row (s::d))),none]:=by
 have h1:=HX (row:=row) (m:=d) hs
 have h2:JE ((row.length+1:Nat):Int)=true:=jg (by omega) (by omega)
 have h3:(dj 0 ((row.length+1:Nat):Int)).length<=1000000:=by rw[dW];simp;omega
 have h4:(Ls row d).length < 1000000:=by rw[HY];omega
 have e:((row.length+1:Nat):Int)=(row.length:Int)+1:=by omega
 rw[e] at h1 h2 h3
 have hl:(row.map EL).length=row.length:=af ..
 have hL:Ls row (s::d)=Ls row d++[.lst (GU row (s::d))]:=rfl
 rw[hL]
 generalize GU row (s::d)=B2,Ls row d=L0 at *
 unfold aQ at h1 ⊢
 generalize row.map EL=RP,DC s=SP,GU row d=B1 at *
 simp[aY,fW,hl,h1,h2,h3,h4]
theorem H_ (hm:bw m)(hr:row.length < 1000)(hl:m.length < 1000):eO [mP m,aQ row]=some (.lst (Ls row m).reverse):=by
 obtain⟨d,e1,lp⟩:=bz (g:=gN 4) (ds:=[4]) (body:=fW) DC (λd:List Slot=>[some (mP m),some (aQ row),some (.lst (GU row d)),some (.lst (Ls row d)),none])
  (λr d=>m=r.reverse++d)
  (λs r d e1=>by
   have hd:d.length < 1000:=by have:=b9 List.length e1;simp at this;omega
   have hs:s∈m:=by rw[e1];simp
   exact⟨s::d,by rw[e1];simp,KY (hm s hs) hr hd⟩)
  m.reverse [] (by simp)
 simp only[List.reverse_nil,hV] at e1
 rw[← e1] at lp
 have h0:Ls row []=[.lst (GU row [])]:=rfl
 rw[h0,TF] at lp
 have hmP:mP m=.tup (m.map DC):=rfl
 rw[oD] at lp
 have hlen:(row.map EL).length=row.length:=af ..
 have IX:row.length+1<=1000000:=by omega
 have hlm:(row.length:Int)<=1000000:=by omega
 have hlm2:row.length<=1000000:=by omega
 rw[hmP] at lp ⊢
 unfold aQ at lp ⊢
 generalize Ls row m=R,row.map EL=RP,GU row m=B1 at *
 simp[eO,mU,lp,hlen,IX,hlm,hlm2]
theorem xV {α:Type}{g:PV->MR.Env->Option MR.Env}{ds:gV}{body:MR.Env->Option Out}{env:MR.Env}{v:PV}(c:α->PV)(q:α->Bool):∀(ys:List α),(∀y∈ys,∃e,g (c y) env=some e/\(q y=true->ZG ds (body e)=some env)/\(q y=false->body e=some (.rt v)))->
  bM g ds body (ys.map c) env=some (if ys.all q=true then .nx env else .rt v)
 | [],_=>rfl
 | y::ys,h=>by
  obtain⟨e,h1,h2,h3⟩:=h y ah
  have ih:=xV c q ys λz hz=>h z (ag _ hz)
  rw[ap,ij]
  cases hq:q y with
  | true=>
   have ht:turn g ds body (c y) env=some env:=by unfold turn;rw[h1];exact h2 hq
   rw[jB ht,ih,gd]
  | false=>simp[bM,h1,h3 hq]
noncomputable def gQ (p:Str)(j:Nat):Str:=⟨#[p.cps.toList.getD j 0]⟩
def cg (row:r9)(k:Nat):Sg:=row.getD k (⟨#[]⟩,false)
theorem Ia (h:j < p.length):DE p.cps.toList (j:Int)=some (p.cps.toList.getD j 0):=by
 have h':j < p.cps.toList.length:=by simpa [Str.length] using h
 refine bJ ?_
 rw[a8,al h']
 rfl
theorem TJ {k:Nat}(h:k < row.length):DE (row.map EL) (k:Int)=some (EL (cg row k)):=by
 refine bJ ?_
 rw[ar,al h]
 simp[cg,h]
theorem Dl {n:Nat}(h:a+n<=row.length):(seg row a n).length=n:=by
 unfold seg
 rw[dv,fE]
 omega
theorem Cj (h:a+p.length<=row.length):oJ p (seg row a p.length)=(List.range p.length).all λj=>C7 (gQ p j) (cg row (a+j)).1:=by
 have hl:p.cps.toList.length=p.length:=eS
 have hs:=Dl h
 have e:p.cps.toList.zip (seg row a p.length)=(List.range p.length).map λj=>(p.cps.toList.getD j 0,cg row (a+j)):=by
  refine kB λj=>?_
  rcases ef j p.length with hj | hj
  ·rw[ar,gu hj,iA.mpr ⟨?_,?_⟩]
   rotate_left
   ·exact(p.cps.toList.getD j 0,cg row (a+j))
   ·rw[a8,al (by omega)];rfl
   ·unfold seg cg
    rw[List.getElem?_take,be hj,List.getElem?_drop,al (by omega)]
    simp[show a+j < row.length by omega]
   rfl
  ·rw[bo (by rw[iP];omega),bo (by simp;omega)]
 unfold oJ
 rw[e,kn]
 rfl
theorem KZ {n:Nat}(h:a+n<=row.length)(hn:1<=n):oK (seg row a n)=(cg row (a+n - 1)).2:=by
 unfold oK
 rw[nV,Dl h]
 unfold seg cg
 rw[List.getElem?_take,be (by omega),List.getElem?_drop,a8,show a+(n - 1)=a+n - 1 by omega,al (by omega)]
 rfl
noncomputable def aA:Nat->PV
 | 0=>.tup [.int 0,.str "u"]
 | 1=>.tup [.int 0,.str "-"]
 | 2=>.tup [.int 1,.str "-"]
 | _=>.CY
variable {i:Nat}
theorem NV (h:i < 4):i=0\/i=1\/i=2\/i=3:=by omega
theorem O8 {i:Int}(h0:0<=i)(h1:i < 4):DE [PV.tup [.int 0,.str "u"],.tup [.int 0,.str "-"],.tup [.int 1,.str "-"],.CY] i=some (aA i.toNat):=by
 obtain⟨k,rfl⟩:∃k:Nat,i=k:=⟨i.toNat,by omega⟩
 have hk:k < 4:=by omega
 rcases NV hk with rfl | rfl | rfl | rfl <;> rfl
theorem TQ {k:Nat}(h:k < 4):DE [PV.int 1,.int 2,.int 4,.int 8] (k:Int)=some (.int (2 ^ k)):=by
 rcases NV h with rfl | rfl | rfl | rfl <;> rfl
noncomputable def l_:PV:=.lst [.tup [.int 0,.str "u"],.tup [.int 0,.str "-"],.tup [.int 1,.str "-"],.CY]
noncomputable def m6 (n:Int)(k:Nat):Nat:=((n / 16+k) % 4).toNat
noncomputable def jw (n:Int)(k:Nat):Bool:=decide (n / 2 ^ k % 2=1)
theorem ce1 (n:Int){k:Nat}(h:k < 4):eE [some (.int k),some l_,some (.int n)]=some (aA (m6 n k)):=by
 have h1:=O8 (i:=(n / 16+k) % 4) (by omega) (by omega)
 simp[eE,l_,h1,m6]
theorem cc2 (n:Int){k:Nat}(h:k < 4):eF [some (.int k),some l_,some (.int n)]=some (jw n k):=by
 have h1:=TQ h
 have h2:(0:Int) < 2 ^ k/\(2:Int) ^ k < 1073741824:=by rcases NV h with rfl | rfl | rfl | rfl <;> decide
 simp[eF,h1,h2,jw]
def C4 (is:gV):Prop:=∀i∈is,i < 4
noncomputable def aD (is:gV):PV:=.lst (is.map aA)
theorem O9 (n:Int):(((List.range 4).filter (jw n)).map (m6 n)).Nodup:=by
 refine List.pairwise_map.mpr ((List.nodup_range.filter (jw n)).imp_of_mem λ{a b} ha hb ne e=>?_)
 have h1:a < 4:=by simpa using (iL.mp ha).1
 have h2:b < 4:=by simpa using (iL.mp hb).1
 unfold m6 at e
 omega
variable {v:Int}
theorem TV (is:gV)(h0:0<=v)(h1:v<=is.length):dC (is.map aA) none (some v)=(is.take v.toNat).map aA/\dC (is.map aA) (some v) none=(is.drop v.toNat).map aA:=by
 have e:HT.D9 (is.map aA).length (is.map aA).length (some v)=v.toNat:=by
  simp only[HT.D9,af];rw[a7 (by omega)];omega
 have e':HT.D9 (is.map aA).length 0 (some v)=v.toNat:=by
  simp only[HT.D9,af];rw[a7 (by omega)];omega
 have e0:HT.D9 (is.map aA).length 0 none=0:=rfl
 have e1:HT.D9 (is.map aA).length (is.map aA).length none=(is.map aA).length:=rfl
 unfold dC
 rw[e,e',e0,e1]
 refine⟨by simp[jp],?_⟩
 rw[oo]
 exact el (by simp)
theorem FW (n:Int)(last:Bool):∃is,C4 is/\(is.length<=4/\is.Nodup)/\gw [.int n,.bl last]=some (aD is):=by
 have XB:∀{k},k∈(List.range 4).filter (jw n)->k < 4:=λ{k} h=>by simpa using (iL.mp h).1
 have nd:=O9 n
 have l1:(((List.range 4).filter (jw n)).map (m6 n)).length<=4:=by
  have:=p0 (jw n) (List.range 4)
  simpa using this
 have o1:C4 (((List.range 4).filter (jw n)).map (m6 n)):=λp hp=>by
  obtain⟨k,hk,rfl⟩:=dc.mp hp
  unfold m6;omega
 have c1:eQ [none,some l_,some (.int n)] (gN 0) eF eE ((List.range 4).map λk=>PV.int (k:Nat))=some ((((List.range 4).filter (jw n)).map (m6 n)).map aA):=by
  rw[de]
  exact jk _ _ (jw n) (List.range 4) λk hk=>⟨_,rfl,cc2 n (by simpa using hk),λ_=>ce1 n (by simpa using hk)⟩
 generalize ((List.range 4).filter (jw n)).map (m6 n)=is at *
 have c2:eQ [none] (gN 0) eN eG (is.map aA)=some ((is.filter λi=>!decide (i=3)).map aA):=by
  exact jk (env:=[none]) (g:=gN 0) (t:=eN) (f:=eG) aA aA (λi=>!decide (i=3)) is λi hi=>⟨_,rfl,by rcases NV (o1 i hi) with rfl | rfl | rfl | rfl <;> simp[eN,aA],λ_=>by simp[eG]⟩
 have r4:dj 0 4=(List.range 4).map λk=>PV.int (k:Nat):=dW 4
 have LV:aJ 2 (bO (ak (bL (ak (CF 0) (ak (bC (.str "u")) aB))) (ak (bL (ak (CF 0) (ak (bC (.str "-")) aB))) (ak (bL (ak (CF 1) (ak (bC (.str "-")) aB))) (ak (bC .CY) aB))))) [some (.int n),some (.bl last),none,none]=some (.nx [some (.int n),some (.bl last),some l_,none]):=by
  simp[l_]
 have Fh:aJ 3 (eU [none,some 2,some 0] (LF (CF 4)) (gN 0) eF eE) [some (.int n),some (.bl last),some l_,none]=some (.nx [some (.int n),some (.bl last),some l_,some (aD is)]):=by
  have hr:JE 4=true:=jg (by decide) (by decide)
  have hl:is.length<=1000000:=by omega
  simp[hr,r4,c1,hl,aD]
 have hlen:is.length<=1000000:=by omega
 cases last with
 | true=>
  refine⟨is,o1,⟨l1,nd⟩,?_⟩
  have hb:gq [some (.int n),some (.bl true),none,none]=some (.rt (aD is)):=by
   unfold gq
   rw[aZ LV,aZ Fh]
   simp
  simp[gw,hb]
 | false=>
  refine⟨is.filter λi=>!decide (i=3),λi hi=>o1 i (iL.mp hi).1,⟨gi (p0 _ _) l1,nd.filter _⟩,?_⟩
  have hs3:E7 (tN (tV (bV 1))) (aJ 3 (eU [none] (iV (bV 3)) (gN 0) eN eG)) EK [some (.int n),some (.bl false),some l_,some (aD is)]=some (.nx [some (.int n),some (.bl false),some l_,some (aD (is.filter λi=>!decide (i=3)))]):=by
   unfold aD
   simp[UN,c2,hlen]
  have hb:gq [some (.int n),some (.bl false),none,none]=some (.rt (aD (is.filter λi=>!decide (i=3)))):=by
   unfold gq
   rw[aZ LV,aZ Fh,aZ hs3]
   simp
  simp[gw,hb]
def jW:Nat->PyData
 | 0=>.tuple [.int 0,.str "u"]
 | 1=>.tuple [.int 0,.str "-"]
 | 2=>.tuple [.int 1,.str "-"]
 | _=>.none
theorem wM (i:Nat):toD (aA i)=some (jW i):=by
 unfold aA jW
 split <;> simp[toD,dB]
theorem Mr:¬ (("u" : Str) = "-"):=by decide
theorem wN (hi:i < 4)(hj:j < 4):PyData.eqv (jW i) (jW j)=decide (i=j):=by
 have h1:=Mr
 have h2:¬ (("-" : Str) = "u"):=λe=>h1 e.symm
 rcases NV hi with rfl | rfl | rfl | rfl <;> rcases NV hj with rfl | rfl | rfl | rfl <;> simp[jW,PyData.eqv,PyData.eqvAll,h1,h2]
theorem uN (i:Nat):(jW i).canLay0=true/\(jW i).depth<=32:=by
 have h1:PyData.strOk ("u" : Str)=true:=by decide +kernel
 have h2:PyData.strOk ("-" : Str)=true:=by decide +kernel
 unfold jW
 split <;> simp[PyData.canLay0,PyData.canLayAll0,PyData.depth,PyData.depthAll,h1,h2]
theorem tH:∀is:List Nat,dB (is.map aA)=some (is.map jW)/\PyData.canLayAll0 (is.map jW)=true
 | []=>⟨rfl,rfl⟩
 | i::is=>by
  obtain⟨h1,h2⟩:=tH is
  exact⟨by simp[dB,wM,h1],by simp[PyData.canLayAll0,(uN i).1,h2]⟩
theorem Dm {i:Nat}(hi:i < 4):∀{is:gV},C4 is->((is.map jW).any λy=>PyData.eqv y (jW i))=decide (i∈is)
 | [],_=>by simp
 | j::is,h=>by
  have ih:=Dm hi (is:=is) λk hk=>h k (ag _ hk)
  rw[ap,fA,ih,wN (h j ah) hi]
  by_cases e:i=j
  ·subst e;simp
  ·have e':¬ j=i:=λz=>e z.symm
   simp[e,e']
theorem wO (hi:i < 4){is:gV}(h:C4 is):NJ (aA i) (aD is)=some (decide (i∈is)):=by
 have hD:inD (aA i) (is.map aA)=some (decide (i∈is)):=by
  obtain⟨h1,h2⟩:=tH is
  have h3:=Dm hi h
  have h4:=uN i
  unfold inD
  rw[wM,h1]
  simp only
  rw[be ⟨h2,h4.1,h4.2⟩,h3]
 unfold aD
 show (if dF (aA i)=true/\(is.map aA).all dF=true then some ((is.map aA).any λy=>OF y (aA i)) else inD (aA i) (is.map aA))=_
 split
 ·rename_i hf
  have hi3:i=3:=by
   have:=hf.1
   rcases NV hi with rfl | rfl | rfl | rfl <;> simp[aA] at this ⊢
  subst hi3
  have FL:∀j∈is,j=3:=λj hj=>by
   have:=cq.mp hf.2 (aA j) (dc.mpr ⟨j,hj,rfl⟩)
   rcases NV (h j hj) with rfl | rfl | rfl | rfl <;> simp[aA] at this ⊢
  cases is with
  | nil=>simp
  | cons j is=>
   have:=FL j ah
   subst this
   simp[aA,OF]
 ·exact hD
theorem Dn (n:Int)(last:Bool)(hi:i < 4):∃is,C4 is/\(is.length<=9/\is.Nodup)/\i∈is/\b_ [.int n,.bl last,aA i]=some (aD is):=by
 obtain⟨is,h1,⟨h2,nd⟩,h3⟩:=FW n last
 have M0:=wO hi h1
 by_cases hm:i∈is
 ·refine⟨is,h1,⟨by omega,nd⟩,hm,?_⟩
  rw[bP hm] at M0
  generalize aD is=SP,aA i=OP at *
  simp[b_,oh,h3,M0]
 ·rw[ba hm] at M0
  have hv0:0<=n / 64 % ((is.length:Int)+1):=mM _ (by omega)
  have hv1:n / 64 % ((is.length:Int)+1)<=is.length:=by have:=nN (n / 64) (show (0:Int) < (is.length:Int)+1 by omega);omega
  obtain⟨q3,q6⟩:=TV is hv0 hv1
  have q1:(is.take (n / 64 % ((is.length:Int)+1)).toNat).length<=is.length:=List.length_take_le' _ _
  have q4:(is.drop (n / 64 % ((is.length:Int)+1)).toNat).length<=is.length:=by rw[fE];omega
  have hnd:(is.take (n / 64 % ((is.length:Int)+1)).toNat++i::is.drop (n / 64 % ((is.length:Int)+1)).toNat).Nodup:=by
   have p:(is.take (n / 64 % ((is.length:Int)+1)).toNat++i::is.drop (n / 64 % ((is.length:Int)+1)).toNat).Perm (i::is):=by
    refine List.perm_middle.trans (List.Perm.cons i ?_)
    rw[List.take_append_drop]
   exact p.nodup_iff.mpr (cr.mpr ⟨hm,nd⟩)
  have q2:∀x∈is.take (n / 64 % ((is.length:Int)+1)).toNat,x∈is:=λx hx=>fm hx
  have q5:∀x∈is.drop (n / 64 % ((is.length:Int)+1)).toNat,x∈is:=λx hx=>qk hx
  generalize is.take (n / 64 % ((is.length:Int)+1)).toNat=d1,is.drop (n / 64 % ((is.length:Int)+1)).toNat=d2 at *
  refine⟨d1++i::d2,λk hk=>?_,⟨by simp;omega,hnd⟩,by simp,?_⟩
  ·rcases br.mp hk with z | z
   ·exact h1 k (q2 k z)
   ·rcases av.mp z with z | z
    ·rw[z];exact hi
    ·exact h1 k (q5 k z)
  ·have OU:(0:Int) < (is.length:Int)+1:=by omega
   have l1:d1.length+1<=1000000:=by omega
   have l2:d1.length+1+d2.length<=1000000:=by omega
   have e:aD (d1++i::d2)=.lst (d1.map aA++[aA i]++d2.map aA):=by simp[aD]
   rw[e]
   unfold aD at h3 M0
   have hl:(is.map aA).length=is.length:=af ..
   have JO:(d1.map aA).length=d1.length:=af ..
   have HE:(d2.map aA).length=d2.length:=af ..
   generalize is.map aA=SP,d1.map aA=D1,d2.map aA=D2,aA i=OP at *
   simp[b_,oh,h3,M0,hl,JO,HE,OU,q3,q6,l1,l2]
def Lu:List Slot->List Nat->Prop
 | [],fs=>fs=[]
 | s::m,fs=>∃f p gs,fs=f::gs/\s.1[f]?=some p/\Lu m gs
theorem Lu.length:∀{m:rX}{fs:gV},Lu m fs->fs.length=m.length
 | [],fs,h=>by rw[show fs=[] from h];rfl
 | s::m,fs,⟨f,p,gs,h1,h2,h3⟩=>by rw[h1,bg,Lu.length h3,bg]
noncomputable def bW (s:Slot)(p:Str):List Sg:=(List.range p.length).map λj=>(gQ p j,s.2&&decide (j+1=p.length))
noncomputable def a_:List Slot->List Nat->List Sg
 | s::m,f::fs=>bW s (s.1.getD f ⟨#[]⟩)++a_ m fs
 | _,_=>[]
noncomputable def fP (fs:gV):PV:=.lst (fs.map λf=>.int (f:Nat))
def M1 (M F:PV)(R:r9)(k:Nat)(s:Slot)(p:Str):MR.Env:=[some M,some F,some (aQ R),some (.int k),some (.tup (s.1.map .str)),some (.bl s.2),some (.str p),none]
variable {R:r9}
theorem O_ {F:PV}{k:Nat}(hp:Ee p)(hj:j < p.length)(hR:R.length < 1000):
  turn (gN 7) [7] cL (.int j) (M1 M F R k s p)=some (M1 M F (R++[(gQ p j,s.2&&decide (j+1=p.length))]) k s p):=by
 have h2:=Ia hj
 have h3:p.length<=1000000:=by have:=hp.le;omega
 have h4:R.length < 1000000:=by omega
 have hji:((j:Int)+1=(p.length:Int))↔j+1=p.length:=by omega
 have hl:(R.map EL).length=R.length:=af ..
 have e:aQ (R++[(gQ p j,s.2&&decide (j+1=p.length))])=.lst (R.map EL++[.tup [.str ⟨#[p.cps.toList.getD j 0]⟩,.bl (s.2&&decide (j+1=p.length))]]):=by simp[aQ,EL,gQ]
 unfold M1
 rw[e]
 unfold aQ
 generalize p.cps.toList.getD j 0=c,R.map EL=RP at *
 by_cases hq:j+1=p.length
 ·cases hs:s.2 <;> simp[aY,cL,h2,h3,h4,hl,hji,hq]
 ·cases hs:s.2 <;> simp[aY,cL,h2,h3,h4,hl,hji,hq]
theorem TX {F:PV}{k:Nat}(hp:Ee p)(hR:R.length < 900):
  bM (gN 7) [7] cL (dj 0 (p.length:Int)) (M1 M F R k s p)=some (.nx (M1 M F (R++bW s p) k s p)):=by
 obtain⟨R',⟨d,e1,e2⟩,lp⟩:=bz (g:=gN 7) (ds:=[7]) (body:=cL) (λj:Nat=>PV.int (j:Nat)) (λR':List Sg=>M1 M F R' k s p)
  (λr R'=>∃d,List.range p.length=d++r/\R'=R++d.map λj=>(gQ p j,s.2&&decide (j+1=p.length)))
  (by
   rintro j r R' ⟨d,e1,e2⟩
   have DS:j < p.length:=b6.mp (by rw[e1];simp)
   have hd:d.length<=p.length:=by
    have:=b9 List.length e1
    simp at this
    omega
   have hp4:=hp.le
   exact⟨R'++[(gQ p j,s.2&&decide (j+1=p.length))],⟨d++[j],by rw[e1];simp,by rw[e2];simp⟩,O_ hp DS (by rw[e2];simp;omega)⟩)
  (List.range p.length) R ⟨[],rfl,by simp⟩
 rw[bq] at e1
 rw[e2,← e1] at lp
 rw[dW]
 exact lp
def Q2 (m:rX)(F:PV)(R:r9):MR.Env:=[some (mP m),some F,some (aQ R),none,none,none,none,none]
theorem Pa {fs:gV}{k f:Nat}(hk:m[k]?=some s)(hf:fs[k]?=some f)(hp:s.1[f]?=some p)(ok:Ee p)(hR:R.length < 900):
  turn (gN 3) [3,6,7,4,5] cM (.int k) (Q2 m (fP fs) R)=some (Q2 m (fP fs) (R++bW s p)):=by
 have lp:=TX (M:=mP m) (F:=fP fs) (R:=R) (k:=k) (s:=s) ok hR
 have a1:DE (m.map DC) (k:Int)=some (.tup [.tup (s.1.map .str),.bl s.2]):=by
  have:DE (m.map DC) (k:Int)=some (DC s):=bJ (by simp[hk])
  exact this
 have a2:DE (fs.map λf=>PV.int (f:Nat)) (k:Int)=some (.int (f:Nat)):=bJ (by simp[hf])
 have a3:DE (s.1.map PV.str) (f:Int)=some (.str p):=bJ (by simp[hp])
 have h3:p.length<=1000000:=by have:=ok.le;omega
 have Rl:JE (p.length:Int)=true:=jg (by omega) (by have:=ok.le;omega)
 have s1:uI (gT [4,5]) (b2 C9 (bV 0) (bV 3)) [some (mP m),some (fP fs),some (aQ R),some (.int k),none,none,none,none]=some (.nx [some (mP m),some (fP fs),some (aQ R),some (.int k),some (.tup (s.1.map .str)),some (.bl s.2),none,none]):=by
  unfold mP
  simp[a1]
 have s2:aJ 6 (b2 C9 (bV 4) (b2 C9 (bV 1) (bV 3))) [some (mP m),some (fP fs),some (aQ R),some (.int k),some (.tup (s.1.map .str)),some (.bl s.2),none,none]=some (.nx (M1 (mP m) (fP fs) R k s p)):=by
  unfold M1 fP
  simp[a2,a3]
 have s3:cu (gN 7) (LF (b1 C0 (bV 6))) [7] cL (M1 (mP m) (fP fs) R k s p)=some (.nx (M1 (mP m) (fP fs) (R++bW s p) k s p)):=by
  generalize cL=B at *
  unfold M1 at lp ⊢
  simp[Rl,h3,lp]
 have s4:cM [some (mP m),some (fP fs),some (aQ R),some (.int k),none,none,none,none]=some (.nx (M1 (mP m) (fP fs) (R++bW s p) k s p)):=by
  unfold cM
  rw[aZ s1,aZ s2]
  exact s3
 unfold Q2
 unfold M1 at s4
 generalize cM=B at *
 rw[aY]
 simp[s4]
theorem xW {n y:Nat}{d r:gV}(e:List.range n=d++y::r):y=d.length/\y < n:=by
 have h1:y < n:=b6.mp (by rw[e];simp)
 have h2:(List.range n)[d.length]?=some y:=by rw[e];simp
 have h3:d.length < n:=by
  have:=b9 List.length e
  simp at this
  omega
 rw[gu h3] at h2
 cases h2
 exact⟨rfl,h1⟩
theorem eX (s:Slot)(p:Str):(bW s p).length=p.length:=by simp[bW]
theorem An {fs:gV}(hm:bw m)(hf:Lu m fs)(hl:m.length < 100):dX [mP m,fP fs]=some (aQ (a_ m fs))/\(a_ m fs).length<=4*m.length:=by
 obtain⟨R,⟨d,m',FG,e1,e2,e3,e4,e5,e6,e7⟩,lp⟩:=bz (g:=gN 3) (ds:=[3,6,7,4,5]) (body:=cM) (λk:Nat=>PV.int (k:Nat)) (λR:List Sg=>Q2 m (fP fs) R)
  (λr R=>∃d m' FG,List.range m.length=d++r/\m.drop d.length=m'/\fs.drop d.length=FG/\Lu m' FG/\R++a_ m' FG=a_ m fs/\r.length=m'.length/\R.length<=4*d.length)
  (by
   rintro k r R ⟨d,m',FG,e1,e2,e3,e4,e5,e6,e7⟩
   obtain⟨hk,DS⟩:=xW e1
   cases m' with
   | nil=>simp at e6
   | cons s m'=>
    obtain⟨f,p,gs,h1,h2,h3⟩:=e4
    have ZM:m[d.length]?=some s:=by
     have:=b9 (λl=>l[0]?) e2
     simpa using this
    have hf?:fs[d.length]?=some f:=by
     have:=b9 (λl=>l[0]?) (e3.trans h1)
     simpa using this
    have ok:=(hm s (ax ZM)).ok p (ax h2)
    have hp4:=ok.le
    refine⟨R++bW s p,⟨d++[k],m',gs,by rw[e1];simp,?_,?_,h3,?_,by simp at e6;omega,by simp[eX];omega⟩,Pa (by rw[hk];exact ZM) (by rw[hk];exact hf?) h2 ok (by omega)⟩
    ·rw[aS,cw,← lx,e2];rfl
    ·rw[aS,cw,← lx,e3,h1];rfl
    ·rw[← e5,h1]
     show R++bW s p++a_ m' gs=R++(bW s (s.1.getD f ⟨#[]⟩)++a_ m' gs)
     rw[a8,h2,ei]
     rfl)
  (List.range m.length) [] ⟨[],m,fs,rfl,rfl,rfl,hf,rfl,by simp,aT _⟩
 have hm':m'=[]:=k9.mp (by simpa using e6.symm)
 subst hm'
 have hR:R=a_ m fs:=by rw[← e5];simp[a_]
 subst hR
 rw[bq] at e1
 have hd:d.length=m.length:=by rw[← e1,i8]
 refine⟨?_,by omega⟩
 rw[← dW] at lp
 have Rl:JE (m.length:Int)=true:=jg (by omega) (by omega)
 have s1:aJ 2 (bO aB) [some (mP m),some (fP fs),none,none,none,none,none,none]=some (.nx (Q2 m (fP fs) [])):=by
  unfold Q2 aQ
  simp
 have s2:cu (gN 3) (LF (b1 C0 (bV 0))) [3,6,7,4,5] cM (Q2 m (fP fs) [])=some (.nx (Q2 m (fP fs) (a_ m fs))):=by
  generalize cM=B at *
  unfold Q2 at lp ⊢
  unfold mP at lp ⊢
  simp[Rl,lp]
 have hb:mJ [some (mP m),some (fP fs),none,none,none,none,none,none]=some (.rt (aQ (a_ m fs))):=by
  unfold mJ
  rw[aZ s1,aZ s2]
  simp[Q2]
 simp[dX,hb]
noncomputable def KG (w:List (List Nat)):PV:=.lst (w.map aD)
noncomputable def DA (g:dn):PV:=.lst (g.map KG)
noncomputable def bF (i:Nat):Str:=if i=0 then "u" else "-"
noncomputable def bH:List (List Nat)->List Nat->Bool
 | [],[]=>true
 | is::O,i::S=>decide (i∈is)&&bH O S
 | _,_=>false
noncomputable def EH:List Sg->List Sg->Bool
 | [],[]=>true
 | a::A,b::B=>(C7 a.1 b.1&&(!a.2||b.2))&&EH A B
 | _,_=>false
noncomputable def aR (S:gV)(es:List Bool):List Sg:=(S.zip es).flatMap λy=>if y.1=3 then [] else [(bF y.1,y.2)]
noncomputable def jF (n:Nat):List Bool:=(List.range n).map λi=>decide (i+1=n)
noncomputable def aU (g:dn):List Bool:=g.flatMap λw=>jF w.length
theorem lL:∀{O1 O2:List (List Nat)}{S1 S2:gV},bH O1 S1=true->bH O2 S2=true->bH (O1++O2) (S1++S2)=true
 | [],O2,[],S2,_,h=>h
 | is::O,O2,i::S,S2,h1,h2=>by
  simp only[bH,bp] at h1
  show (decide (i∈is)&&bH (O++O2) (S++S2))=true
  rw[h1.1,lL h1.2 h2]
  rfl
 | [],_,_::_,_,h,_=>by simp[bH] at h
 | _::_,_,[],_,h,_=>by simp[bH] at h
theorem iD:∀{O:List (List Nat)}{S:gV},bH O S=true->S.length=O.length
 | [],[],_=>rfl
 | is::O,i::S,h=>by
  simp only[bH,bp] at h
  rw[bg,iD h.2,bg]
 | [],_::_,h=>by simp[bH] at h
 | _::_,[],h=>by simp[bH] at h
theorem qF:∀{A1 A2 B1 B2:r9},EH A1 B1=true->EH A2 B2=true->EH (A1++A2) (B1++B2)=true
 | [],_,[],_,_,h=>h
 | a::A,A2,b::B,B2,h1,h2=>by
  simp only[EH,bp] at h1
  show ((C7 a.1 b.1&&(!a.2||b.2))&&EH (A++A2) (B++B2))=true
  rw[qF h1.2 h2]
  simp only[Bool.and_true,bp]
  exact h1.1
 | [],_,_::_,_,h,_=>by simp[EH] at h
 | _::_,_,[],_,h,_=>by simp[EH] at h
theorem pG (S T:gV)(es fs:List Bool)(h:S.length=es.length):aR (S++T) (es++fs)=aR S es++aR T fs:=by
 unfold aR
 rw[List.zip_append h,List.flatMap_append]
theorem uO (m:Nat):jF (m+1)=List.replicate m false++[true]:=by
 unfold jF
 rw[List.range_succ,cS]
 congr 1
 ·rw[pV]
  refine⟨by simp,λx hx=>?_⟩
  obtain⟨i,hi,rfl⟩:=dc.mp hx
  have:=b6.mp hi
  simp
  omega
 ·simp
theorem Ib (n:Nat):(jF n).length=n:=by simp[jF]
theorem cN:∀g:List (List (List Nat)),(aU g).length=g.flatten.length
 | []=>rfl
 | w::g=>by
  have:=cN g
  show (jF w.length++aU g).length=(w++g.flatten).length
  rw[aS,aS,Ib,this]
theorem q9 (g:dn)(w:List (List Nat)):aU (g++[w])=aU g++jF w.length:=by simp[aU]
noncomputable def RA (S:gV):List Sg:=S.map λi=>(bF i,false)
theorem tK:∀(S:gV),(∀i∈S,i≠3)->aR S (List.replicate S.length false)=RA S
 | [],_=>rfl
 | i::S,h=>by
  have ih:=tK S λj hj=>h j (ag _ hj)
  have hi:=h i ah
  unfold aR RA at *
  rw[bg,eA,f8,hJ,ih]
  simp[hi]
variable {S:gV}
theorem Ao (h:∀i∈S,i≠3):aR (S++[3]) (jF (S.length+1))=RA S:=by
 rw[uO,pG _ _ _ _ (by simp),tK S h]
 simp[aR]
theorem Ck (h:∀i∈S,i≠3)(hi:i≠3):aR (S++[i]) (jF (S.length+1))=RA S++[(bF i,true)]:=by
 rw[uO,pG _ _ _ _ (by simp),tK S h]
 simp[aR,hi]
def Tx (g:dn):Prop:=∀w∈g,∀is∈w,C4 is/\is.length<=9/\is.Nodup
structure LG (g0:dn)(w:List (List Nat))(S:gV)(d:r9):Prop where
 ne:∀v∈g0,v≠[]
 c4:Tx (g0++[w])
 s4:C4 S
 fit:∃S0 Sw d0 dw,S=S0++Sw/\d=d0++dw/\bH g0.flatten S0=true/\EH d0 (aR S0 (aU g0))=true/\bH w Sw=true/\(∀i∈Sw,i≠3)/\EH dw (RA Sw)=true
structure Fin (g:dn)(S:gV)(d:r9):Prop where
 ne:∀v∈g,v≠[]
 c4:Tx g
 s4:C4 S
 ins:bH g.flatten S=true
 rf:EH d (aR S (aU g))=true
variable {g0:dn}{w:List (List Nat)}
theorem wQ {is:gV}(h:Tx (g0++[w]))(hi:C4 is)(hl:is.length<=9/\is.Nodup):Tx (g0++[w++[is]]):=λv hv js hj=>by
 rcases br.mp hv with z | z
 ·exact h v (g9 _ z) js hj
 ·rw[aE] at z
  subst z
  rcases br.mp hj with y | y
  ·exact h w (by simp) js y
  ·rw[aE] at y;subst y;exact⟨hi,hl⟩
variable {g:dn}
theorem Do (h:Tx g):Tx (g++[[]]):=λv hv js hj=>by
 rcases br.mp hv with z | z
 ·exact h v z js hj
 ·rw[aE] at z;subst z;cases hj
theorem ug (h:C4 S)(hi:i < 4):C4 (S++[i]):=λj hj=>by
 rcases br.mp hj with z | z
 ·exact h j z
 ·rw[aE] at z;rw[z];exact hi
theorem LG.none {d:r9}{is:gV}(h:LG g0 w S d)(hi:C4 is)(hl:is.length<=9/\is.Nodup)(hm:3∈is):LG (g0++[w++[is]]) [] (S++[3]) d:=by
 obtain⟨S0,Sw,d0,dw,e1,e2,e3,e4,e5,e6,e7⟩:=h.fit
 have hlw:=iD e5
 have US:=iD e3
 refine⟨λv hv=>?_,Do (wQ h.c4 hi hl),ug h.s4 (by decide),S0++Sw++[3],[],d,[],by rw[e1];simp,by simp,?_,?_,rfl,(λi hi=>by cases hi),rfl⟩
 ·rcases br.mp hv with z | z
  ·exact h.ne v z
  ·rw[aE] at z;subst z;simp
 ·have hf:(g0++[w++[is]]).flatten=g0.flatten++(w++[is]):=by simp
  rw[hf,ei]
  exact lL e3 (lL e5 (by simp[bH,hm]))
 ·rw[q9,ei,pG _ _ _ _ (by rw[cN,US]),e2]
  refine qF e4 ?_
  rw[aS,cw,← hlw,Ao e6]
  exact e7
theorem LG.more {d:r9}{is:gV}{a:Sg}(h:LG g0 w S d)(hi:C4 is)(hl:is.length<=9/\is.Nodup)(hm:i∈is)(h3:i≠3)(hs:C7 a.1 (bF i)=true)(hc:a.2=false):LG g0 (w++[is]) (S++[i]) (d++[a]):=by
 obtain⟨S0,Sw,d0,dw,e1,e2,e3,e4,e5,e6,e7⟩:=h.fit
 refine⟨h.ne,wQ h.c4 hi hl,ug h.s4 (hi i hm),S0,Sw++[i],d0,dw++[a],by rw[e1];simp,by rw[e2];simp,e3,e4,lL e5 (by simp[bH,hm]),λj hj=>?_,?_⟩
 ·rcases br.mp hj with z | z
  ·exact e6 j z
  ·rw[aE] at z;rw[z];exact h3
 ·have:RA (Sw++[i])=RA Sw++[(bF i,false)]:=by simp[RA]
  rw[this]
  exact qF e7 (by simp[EH,hs,hc])
theorem LG.fin {d:r9}{is:gV}{a:Sg}(h:LG g0 w S d)(hi:C4 is)(hl:is.length<=9/\is.Nodup)(hm:i∈is)(h3:i≠3)(hs:C7 a.1 (bF i)=true):Fin (g0++[w++[is]]) (S++[i]) (d++[a]):=by
 obtain⟨S0,Sw,d0,dw,e1,e2,e3,e4,e5,e6,e7⟩:=h.fit
 have hlw:=iD e5
 have US:=iD e3
 refine⟨λv hv=>?_,wQ h.c4 hi hl,ug h.s4 (hi i hm),?_,?_⟩
 ·rcases br.mp hv with z | z
  ·exact h.ne v z
  ·rw[aE] at z;subst z;simp
 ·have hf:(g0++[w++[is]]).flatten=g0.flatten++(w++[is]):=by simp
  rw[hf,e1,ei]
  exact lL e3 (lL e5 (by simp[bH,hm]))
 ·rw[q9,e1,e2,ei,ei,pG _ _ _ _ (by rw[cN,US])]
  refine qF e4 ?_
  rw[aS,cw,← hlw,Ck e6 h3]
  exact qF e7 (by simp[EH,hs])
theorem Fin.RA {d:r9}(h:Fin g S d):LG g [] S d:=
 ⟨h.ne,Do h.c4,h.s4,S,[],d,[],by simp,by simp,h.ins,h.rf,rfl,(λi hi=>by cases hi),rfl⟩
theorem Pb (A ys:List PV)(p:PV)(h:ys.length < 1000000):UR (.lst (A++[.lst ys])) (.int (-1)) p=some (.lst (A++[.lst (ys++[p])])):=by
 have e1:Kk (A++[PV.lst ys]).length (-1)=some A.length:=by
  unfold Kk
  rw[a7 (by decide),be (by simp;omega)]
  congr 1
  simp
  omega
 have e2:(A++[PV.lst ys])[A.length]?=some (.lst ys):=by simp
 have e3:(A++[PV.lst ys]).set A.length (.lst (ys++[p]))=A++[.lst (ys++[p])]:=by simp
 simp only[UR]
 rw[e1]
 simp only[bE]
 rw[e2]
 simp only[bE]
 rw[be h,e3]
theorem Dp (g0:dn)(w:List (List Nat)):DA (g0++[w])=.lst (g0.map KG++[.lst (w.map aD)]):=by simp[DA,KG]
theorem Ms {is:gV}(h:w.length < 1000):UR (DA (g0++[w])) (.int (-1)) (aD is)=some (DA (g0++[w++[is]])):=by
 rw[Dp,Dp,Pb _ _ _ (by rw[af];omega)]
 simp
theorem Ie (h:g.length < 1000):LY (DA g)=some (DA (g++[[]])):=by
 have:g.length < 1000000:=by omega
 unfold DA
 simp only[LY]
 rw[be (by rw[af];exact this)]
 simp[KG]
def D4 (M F:PV)(n:Int)(g:dn)(S:gV)(mk:r9)(x6 x7 x8 x9 x10 x11:Option PV):MR.Env:=[some M,some F,some (.int n),some (DA g),some (aD S),some (aQ mk),x6,x7,x8,x9,x10,x11]
section
variable {M F:PV}{n:Int}{mk:r9}{k:Nat}
theorem Pg (hk:k < 100):
  HI 3 (aJ 7 (aM cQ (CH 2 (ak (b2 bD (b2 mH (CF 7) (bV 6)) (CF 3)) aB)))) (D4 M F n g S mk (some (.int k)) none none none none none)=some (.nx (D4 M F n g S mk (some (.int k)) (some (.int (mixed n (7*(k:Int)+3)))) none none none none)):=by
 have h1:=oH n (7*(k:Int)+3) (je (by omega) (by omega))
 have h7:MW 7=true:=je (by decide) (by decide)
 unfold D4
 generalize DA g=GP at *
 simp[h1,h7]
theorem TY {m:Int}{d:r9}(h:LG g0 w S d)(hw:w.length < 900)(hg:g0.length < 900)(hS:S.length < 900):
  ∃g0' w' S',LG g0' w' S' d/\w'.length<=w.length/\g0'.length<=g0.length+1/\S'.length<=S.length+1 /\
  Yw 3 (tA (tV (b2 eqQ (b2 c7 (bV 7) (CF 7)) (CF 1))) (tV (b2 jQ (b2 bD (b1 C0 (bV 4)) (b1 C0 (bV 5))) (b2 bD (CF 58) (bV 6))))) (aC (uK 3 (b1 nR (CF 1)) (aM b_ (ak (b2 dJ (bV 7) (CF 7)) (ak (bC (.bl true)) (ak (bC .CY) aB))))) (aC (HI 3 (cA fB 4 (bC .CY))) (uL 3))) EK (D4 M F n (g0++[w]) S mk (some (.int k)) (some (.int m)) none none none none)=
   some (.nx (D4 M F n (g0'++[w']) S' mk (some (.int k)) (some (.int m)) none none none none)):=by
 have l1:(S.map aA).length=S.length:=af ..
 have l2:(mk.map EL).length=mk.length:=af ..
 by_cases hc:m % 7=1/\(S.length:Int)+(mk.length:Int) < 58+(k:Int)
 ·obtain⟨is,i1,i2,i3,i4⟩:=Dn (m / 7) true (i:=3) (by decide)
  have i4':b_ [.int (m / 7),.bl true,.CY]=some (aD is):=i4
  have a1:=Ms (g0:=g0) (is:=is) (by omega:w.length < 1000)
  have a2:=Ie (g:=g0++[w++[is]]) (by simp;omega)
  refine⟨g0++[w++[is]],[],S++[3],h.none i1 i2 i3,c6 _,by simp,by simp,?_⟩
  have s1:uK 3 (b1 nR (CF 1)) (aM b_ (ak (b2 dJ (bV 7) (CF 7)) (ak (bC (.bl true)) (ak (bC .CY) aB)))) (D4 M F n (g0++[w]) S mk (some (.int k)) (some (.int m)) none none none none)=some (.nx (D4 M F n (g0++[w++[is]]) S mk (some (.int k)) (some (.int m)) none none none none)):=by
   unfold D4
   generalize DA (g0++[w])=G1,DA (g0++[w++[is]])=G2,aD is=SP,b_=mw at *
   simp[i4',a1,-UR]
  have s2:HI 3 (cA fB 4 (bC .CY)) (D4 M F n (g0++[w++[is]]) S mk (some (.int k)) (some (.int m)) none none none none)=some (.nx (D4 M F n (g0++[w++[is]]) (S++[3]) mk (some (.int k)) (some (.int m)) none none none none)):=by
   have hl:S.length < 1000000:=by omega
   have e:aD (S++[3])=.lst (S.map aA++[.CY]):=by simp[aD,aA]
   unfold D4
   rw[e]
   unfold aD
   generalize DA (g0++[w++[is]])=G2 at *
   simp[hl]
  have s3:uL 3 (D4 M F n (g0++[w++[is]]) (S++[3]) mk (some (.int k)) (some (.int m)) none none none none)=some (.nx (D4 M F n (g0++[w++[is]]++[[]]) (S++[3]) mk (some (.int k)) (some (.int m)) none none none none)):=by
   unfold D4
   generalize DA (g0++[w++[is]]++[[]])=G3,DA (g0++[w++[is]])=G2 at *
   simp[a2,-LY]
  rw[Ah]
  have Lv:tA (tV (b2 eqQ (b2 c7 (bV 7) (CF 7)) (CF 1))) (tV (b2 jQ (b2 bD (b1 C0 (bV 4)) (b1 C0 (bV 5))) (b2 bD (CF 58) (bV 6)))) ((D4 M F n (g0++[w]) S mk (some (.int k)) (some (.int m)) none none none none).set 3 none)=some true:=by
   unfold D4 aD aQ
   simp[hc.1,hc.2,l1,l2]
  rw[Lv,bE,be rfl,aZ s1,aZ s2]
  exact s3
 ·refine⟨g0,w,S,h,aT _,by omega,by omega,?_⟩
  rw[Ah]
  have Lv:tA (tV (b2 eqQ (b2 c7 (bV 7) (CF 7)) (CF 1))) (tV (b2 jQ (b2 bD (b1 C0 (bV 4)) (b1 C0 (bV 5))) (b2 bD (CF 58) (bV 6)))) ((D4 M F n (g0++[w]) S mk (some (.int k)) (some (.int m)) none none none none).set 3 none)=some false:=by
   unfold D4 aD aQ
   by_cases h1:m % 7=1
   ·have h2:¬ (S.length:Int)+(mk.length:Int) < 58+(k:Int):=λz=>hc ⟨h1,z⟩
    simp[h1,h2,l1,l2]
   ·simp[h1,l1,l2]
  rw[Lv,bE,a7 (by decide)]
  rfl
end
def K1 (mk:r9):Prop:=∀a∈mk,a.1=("u" : Str)\/a.1=("-" : Str)\/a.1=("x" : Str)
theorem u_x:¬ (("u" : Str) = "x"):=by decide
theorem d_x:¬ (("-" : Str) = "x"):=by decide
theorem LG.ZN {d:r9}(h:LG g0 w S d):w.length<=S.length/\g0.length<=S.length:=by
 obtain⟨S0,Sw,d0,dw,e1,e2,e3,e4,e5,e6,e7⟩:=h.fit
 have h1:=iD e5
 have h2:=iD e3
 have h3:∀l:List (List (List Nat)),(∀v∈l,v≠[])->l.length<=l.flatten.length:=λl=>by
  induction l with
  | nil=>exact λ_=>aT _
  | cons v l ih=>
   intro hl
   have:=ih λu hu=>hl u (ag _ hu)
   have hv:=dQ.mpr (hl v ah)
   simp only[gp,aS,bg]
   omega
 have h4:=h3 g0 h.ne
 rw[e1,aS]
 omega
variable {c x8 x9:Option PV}{o:Nat}{last:Bool}
section
variable {M F:PV}{n m:Int}{mk:r9}{k:Nat}{g:dn}{S:gV}
theorem Vw (hk:k < mk.length):HI 3 (uI (gT [8,9]) (b2 C9 (bV 5) (bV 6))) (D4 M F n g S mk (some (.int k)) (some (.int m)) none none none none)=some (.nx (D4 M F n g S mk (some (.int k)) (some (.int m)) (some (.str (cg mk k).1)) (some (.bl (cg mk k).2)) none none)):=by
 have h1:DE (mk.map EL) (k:Int)=some (.tup [.str (cg mk k).1,.bl (cg mk k).2]):=TJ hk
 unfold D4 aQ
 generalize DA g=GP,mk.map EL=RP,cg mk k=a at *
 simp[h1]
theorem T3 {x:Str}(hx:x=("u" : Str)\/x=("-" : Str)\/x=("x" : Str)):∃y:Str,(y=("u" : Str)\/y=("-" : Str))/\C7 x y=true /\
  HI 3 (E7 (tV (b2 eqQ (bV 8) (bC (.str "x")))) (aJ 8 (b2 C9 (bO (ak (bC (.str "u")) (ak (bC (.str "-")) aB))) (b2 c7 (b2 dJ (bV 7) (CF 7)) (CF 2)))) EK) (D4 M F n g S mk (some (.int k)) (some (.int m)) (some (.str x)) c none none)=some (.nx (D4 M F n g S mk (some (.int k)) (some (.int m)) (some (.str y)) c none none)):=by
 have h1:=u_x
 have h2:=d_x
 unfold D4
 generalize DA g=GP at *
 rcases hx with rfl | rfl | rfl
 ·exact⟨"u",.inl rfl,by simp[C7],by simp[h1]⟩
 ·exact⟨"-",.inr rfl,by simp[C7],by simp[h2]⟩
 ·have:m / 7 % 2=0\/m / 7 % 2=1:=by omega
  rcases this with e | e
  ·exact⟨"u",.inl rfl,by simp[C7],by simp[e]⟩
  ·exact⟨"-",.inr rfl,by simp[C7],by simp[e]⟩
theorem Vx {y:Str}(hy:y=("u" : Str)\/y=("-" : Str)):∃i,i < 3/\bF i=y /\
  HI 3 (aJ 10 (bL (ak (b1 Fi (pK (b2 eqQ (bV 8) (bC (.str "-"))) (b2 eqQ (b2 c7 (b2 dJ (bV 7) (CF 14)) (CF 4)) (CF 1)))) (CH 8 aB)))) (D4 M F n g S mk (some (.int k)) (some (.int m)) (some (.str y)) c none none)=some (.nx (D4 M F n g S mk (some (.int k)) (some (.int m)) (some (.str y)) c (some (aA i)) none)):=by
 have h1:=Mr
 unfold D4
 generalize DA g=GP at *
 rcases hy with rfl | rfl
 ·exact⟨0,by decide,rfl,by simp[h1,aA]⟩
 ·by_cases hm:m / 14 % 4=1
  ·exact⟨2,by decide,rfl,by simp[hm,aA]⟩
  ·exact⟨1,by decide,rfl,by simp[hm,aA]⟩
theorem T4 {y:Str}{cut:Bool}{o:PV}(hk:k < mk.length):HI 3 (aJ 11 (SF (bV 9) (SF (b2 eqQ (b2 bD (bV 6) (CF 1)) (b1 C0 (bV 5))) (b2 eqQ (b2 c7 (b2 dJ (bV 7) (CF 56)) (CF 3)) (CF 0))))) (D4 M F n g S mk (some (.int k)) (some (.int m)) (some (.str y)) (some (.bl cut)) (some o) none)=
  some (.nx (D4 M F n g S mk (some (.int k)) (some (.int m)) (some (.str y)) (some (.bl cut)) (some o) (some (.bl (cut||(decide (k+1=mk.length)||decide (m / 56 % 3=0))))))):=by
 have l2:(mk.map EL).length=mk.length:=af ..
 have e:(((k:Int)+1)=(mk.length:Int))↔k+1=mk.length:=by omega
 unfold D4 aQ
 generalize DA g=GP,mk.map EL=RP at *
 cases cut with
 | true=>simp
 | false=>
  by_cases h1:k+1=mk.length
  ·have NX:=e.mpr h1
   simp[l2,h1,NX]
  ·have NX:¬ ((k:Int)+1)=(mk.length:Int):=λz=>h1 (e.mp z)
   by_cases h2:m / 56 % 3=0 <;> simp[l2,h1,NX,h2]
theorem Vy {is:gV}(h1:b_ [.int (m / 168),.bl last,aA o]=some (aD is))(hw:w.length < 900):
  uK 3 (b1 nR (CF 1)) (aM b_ (ak (b2 dJ (bV 7) (CF 168)) (CH 11 (CH 10 aB)))) (D4 M F n (g0++[w]) S mk (some (.int k)) (some (.int m)) x8 x9 (some (aA o)) (some (.bl last)))=some (.nx (D4 M F n (g0++[w++[is]]) S mk (some (.int k)) (some (.int m)) x8 x9 (some (aA o)) (some (.bl last)))):=by
 have a1:=Ms (g0:=g0) (is:=is) (by omega:w.length < 1000)
 unfold D4
 generalize DA (g0++[w])=G1,DA (g0++[w++[is]])=G2,aD is=SP,aA o=OP,b_=mw at *
 simp[h1,a1,-UR]
theorem Vz {last:PV}(hS:S.length < 900):
  HI 3 (cA fB 4 (bV 10)) (D4 M F n g S mk (some (.int k)) (some (.int m)) x8 x9 (some (aA o)) (some last))=some (.nx (D4 M F n g (S++[o]) mk (some (.int k)) (some (.int m)) x8 x9 (some (aA o)) (some last))):=by
 have hl:S.length < 1000000:=by omega
 have e:aD (S++[o])=.lst (S.map aA++[aA o]):=by simp[aD]
 unfold D4
 rw[e]
 unfold aD
 generalize DA g=G2,aA o=OP at *
 simp[hl]
theorem VB {x10:Option PV}(hg:g.length < 1000):
  Yw 3 (tA (tV (bV 11)) (tV (b2 jQ (b2 bD (bV 6) (CF 1)) (b1 C0 (bV 5))))) (uL 3) EK (D4 M F n g S mk (some (.int k)) (some (.int m)) x8 x9 x10 (some (.bl last)))=some (.nx (D4 M F n (if (last&&decide (k+1 < mk.length))=true then g++[[]] else g) S mk (some (.int k)) (some (.int m)) x8 x9 x10 (some (.bl last)))):=by
 have l2:(mk.map EL).length=mk.length:=af ..
 have a2:=Ie hg
 have e:(((k:Int)+1) < (mk.length:Int))↔k+1 < mk.length:=by omega
 rw[Ah]
 have Lv:tA (tV (bV 11)) (tV (b2 jQ (b2 bD (bV 6) (CF 1)) (b1 C0 (bV 5)))) ((D4 M F n g S mk (some (.int k)) (some (.int m)) x8 x9 x10 (some (.bl last))).set 3 none)=some (last&&decide (k+1 < mk.length)):=by
  unfold D4 aQ
  cases last with
  | false=>simp
  | true=>
   by_cases h:k+1 < mk.length
   ·have h':=e.mpr h
    simp[l2,h,h']
   ·have h':¬ ((k:Int)+1) < (mk.length:Int):=λz=>h (e.mp z)
    simp[l2,h,h']
 rw[Lv,bE]
 cases hb:(last&&decide (k+1 < mk.length)) with
 | true=>
  rw[be rfl,be rfl]
  unfold D4
  generalize DA (g++[[]])=G3,DA g=G2 at *
  simp[a2,-LY]
 | false=>
  rw[a7 (by decide),a7 (by decide)]
  rfl
end
theorem K3 {F:PV}{mk:r9}{k:Nat}(To:K1 mk)(hk:k < mk.length)(hL:mk.length < 100)(hS:S.length<=2*k)(h:LG g0 w S (mk.take k)):
  ∃g' S',S'.length<=2*(k+1)/\(k+1 < mk.length->∃g1 w1,g'=g1++[w1]/\LG g1 w1 S' (mk.take (k+1)))/\(k+1=mk.length->Fin g' S' mk) /\
   turn (gH 3 (gN 6)) [6,7,10,11,8,9] (KA cR) (.int k) (D4 M F n (g0++[w]) S mk none none none none none none)=some (D4 M F n g' S' mk none none none none none none):=by
 have ha:cg mk k∈mk:=by
  unfold cg
  rw[a8,al hk]
  exact eR _
 have htk:mk.take (k+1)=mk.take k++[cg mk k]:=by
  rw[List.take_add_one]
  unfold cg
  rw[a8,al hk]
  rfl
 obtain⟨JO,HE⟩:=h.ZN
 have s1:=Pg (M:=M) (F:=F) (n:=n) (mk:=mk) (k:=k) (g:=g0++[w]) (S:=S) (by omega)
 generalize mixed n (7*(k:Int)+3)=m at s1
 obtain⟨g1,w1,S1,o1,b1,b2',b3,s2⟩:=TY (M:=M) (F:=F) (n:=n) (mk:=mk) (k:=k) (m:=m) h (by omega) (by omega) (by omega)
 obtain⟨hl3,hl4⟩:=o1.ZN
 have s3:=Vw (M:=M) (F:=F) (n:=n) (m:=m) (g:=g1++[w1]) (S:=S1) hk
 obtain⟨y,hy,F6,s4⟩:=T3 (M:=M) (F:=F) (n:=n) (m:=m) (mk:=mk) (k:=k) (g:=g1++[w1]) (S:=S1) (c:=some (.bl (cg mk k).2)) (To _ ha)
 obtain⟨i,hi,him,s5⟩:=Vx (M:=M) (F:=F) (n:=n) (m:=m) (mk:=mk) (k:=k) (g:=g1++[w1]) (S:=S1) (c:=some (.bl (cg mk k).2)) hy
 have s6:=T4 (M:=M) (F:=F) (n:=n) (m:=m) (g:=g1++[w1]) (S:=S1) (y:=y) (cut:=(cg mk k).2) (o:=aA i) hk
 obtain⟨is,i1,i2,i3,i4⟩:=Dn (m / 168) ((cg mk k).2||(decide (k+1=mk.length)||decide (m / 56 % 3=0))) (i:=i) (by omega)
 have s7:=Vy (M:=M) (F:=F) (n:=n) (mk:=mk) (k:=k) (S:=S1) (g0:=g1) (w:=w1) (x8:=some (.str y)) (x9:=some (.bl (cg mk k).2)) i4 (by omega)
 have s8:=Vz (M:=M) (F:=F) (n:=n) (m:=m) (mk:=mk) (k:=k) (g:=g1++[w1++[is]]) (S:=S1) (x8:=some (.str y)) (x9:=some (.bl (cg mk k).2)) (o:=i) (last:=.bl ((cg mk k).2||(decide (k+1=mk.length)||decide (m / 56 % 3=0)))) (by omega)
 have s9:=VB (M:=M) (F:=F) (n:=n) (m:=m) (mk:=mk) (k:=k) (g:=g1++[w1++[is]]) (S:=S1++[i]) (x8:=some (.str y)) (x9:=some (.bl (cg mk k).2)) (x10:=some (aA i)) (last:=(cg mk k).2||(decide (k+1=mk.length)||decide (m / 56 % 3=0))) (by simp;omega)
 rw[← him] at F6
 have fin:=o1.fin i1 i2 i3 (by omega) F6
 have hb:cR (D4 M F n (g0++[w]) S mk (some (.int k)) none none none none none)=some (.nx (D4 M F n (if (((cg mk k).2||(decide (k+1=mk.length)||decide (m / 56 % 3=0)))&&decide (k+1 < mk.length))=true then g1++[w1++[is]]++[[]] else g1++[w1++[is]]) (S1++[i]) mk (some (.int k)) (some (.int m)) (some (.str y)) (some (.bl (cg mk k).2)) (some (aA i)) (some (.bl ((cg mk k).2||(decide (k+1=mk.length)||decide (m / 56 % 3=0))))))):=by
  unfold cR
  rw[aZ s1,aZ s2,aZ s3,aZ s4,aZ s5,aZ s6,aZ s7,aZ s8]
  exact s9
 rw[← htk] at fin
 have tn:∀g',cR (D4 M F n (g0++[w]) S mk (some (.int k)) none none none none none)=some (.nx (D4 M F n g' (S1++[i]) mk (some (.int k)) (some (.int m)) (some (.str y)) (some (.bl (cg mk k).2)) (some (aA i)) (some (.bl ((cg mk k).2||(decide (k+1=mk.length)||decide (m / 56 % 3=0)))))))->turn (gH 3 (gN 6)) [6,7,10,11,8,9] (KA cR) (.int k) (D4 M F n (g0++[w]) S mk none none none none none none)=some (D4 M F n g' (S1++[i]) mk none none none none none none):=λg' hh=>by
  generalize cR=B at *
  unfold D4 at hh ⊢
  generalize DA (g0++[w])=G1,DA g'=G2 at *
  rw[aY]
  simp[hh]
 have hS1:(S1++[i]).length<=2*(k+1):=by simp;omega
 by_cases DS:k+1 < mk.length
 ·cases Yz:((cg mk k).2||(decide (k+1=mk.length)||decide (m / 56 % 3=0))) with
  | true=>
   rw[Yz] at hb
   rw[be (by simp[DS])] at hb
   rw[← Yz] at hb
   exact⟨_,_,hS1,λ_=>⟨g1++[w1++[is]],[],rfl,fin.RA⟩,λz=>by omega,tn _ hb⟩
  | false=>
   rw[Yz] at hb
   rw[a7 (by simp)] at hb
   rw[← Yz] at hb
   have hc:(cg mk k).2=false:=by
    cases hq:(cg mk k).2 with
    | false=>rfl
    | true=>rw[hq] at Yz;simp at Yz
   have mo:=o1.more i1 i2 i3 (by omega) F6 hc
   rw[← htk] at mo
   exact⟨_,_,hS1,λ_=>⟨g1,w1++[is],rfl,mo⟩,λz=>by omega,tn _ hb⟩
 ·have heq:k+1=mk.length:=by omega
  rw[a7 (by simp[DS])] at hb
  refine⟨_,_,hS1,λz=>absurd z DS,λ_=>?_,tn _ hb⟩
  rw[heq,oB] at fin
  exact fin
theorem T5 {fs:gV}(hm:bw m)(hf:Lu m fs)(hl:m.length < 20)(To:K1 (a_ m fs))(EF:a_ m fs≠[]):∃g S,Fin g S (a_ m fs)/\S.length<=200/\lY [mP m,fP fs,.int n]=some (.lst [DA g,aD S]):=by
 obtain⟨h1,h2⟩:=An hm hf (by omega)
 generalize a_ m fs=mk at *
 have OU:0 < mk.length:=dQ.mpr EF
 obtain⟨⟨g,S⟩,⟨d,e1,e2,e3,e4⟩,lp⟩:=bz (g:=gH 3 (gN 6)) (ds:=[6,7,10,11,8,9]) (body:=KA cR) (λk:Nat=>PV.int (k:Nat)) (λz:List (List (List Nat))×List Nat=>D4 (mP m) (fP fs) n z.1 z.2 mk none none none none none none)
  (λr z=>∃d,List.range mk.length=d++r/\z.2.length<=2*d.length/\(d.length < mk.length->∃g0 w,z.1=g0++[w]/\LG g0 w z.2 (mk.take d.length))/\(d.length=mk.length->Fin z.1 z.2 mk))
  (by
   rintro k r z ⟨d,e1,e2,e3,e4⟩
   obtain⟨hk,DS⟩:=xW e1
   obtain⟨g0,w,q1,q2⟩:=e3 (by omega)
   obtain⟨g,S⟩:=z
   simp only at q1 q2 e2
   subst q1 hk
   obtain⟨g',S',t1,t2,t3,t4⟩:=K3 (M:=mP m) (F:=fP fs) (n:=n) To DS (by omega) e2 q2
   exact⟨(g',S'),⟨d++[d.length],by rw[e1];simp,by simpa using t1,by simpa using t2,by simpa using t3⟩,t4⟩)
  (List.range mk.length) ([[]],[]) ⟨[],rfl,aT _,λ_=>⟨[],[],rfl,⟨(λv hv=>by cases hv),(λv hv=>by simp at hv;subst hv;exact λis hi=>by cases hi),(λi hi=>by cases hi),[],[],[],[],rfl,by simp,rfl,rfl,rfl,(λi hi=>by cases hi),rfl⟩⟩,λz=>by simp at z;omega⟩
 rw[bq] at e1
 have hd:d.length=mk.length:=by rw[← e1,i8]
 have ZO:=e4 hd
 simp only at ZO e2 lp
 refine⟨g,S,ZO,by omega,?_⟩
 have Rl:JE (mk.length:Int)=true:=jg (by omega) (by omega)
 have s1:KA (yR 3 1) [some (mP m),some (fP fs),some (.int n),none,none,none,none,none,none,none,none,none]=some (.nx [some (mP m),some (fP fs),some (.int n),some (DA [[]]),none,none,none,none,none,none,none,none]):=by
  simp[DA,KG]
 have s2:KA (HI 3 (aJ 4 (bO aB))) [some (mP m),some (fP fs),some (.int n),some (DA [[]]),none,none,none,none,none,none,none,none]=some (.nx [some (mP m),some (fP fs),some (.int n),some (DA [[]]),some (aD []),none,none,none,none,none,none,none]):=by
  simp[aD]
 have s3:KA (HI 3 (aJ 5 (aM dX (CH 0 (CH 1 aB))))) [some (mP m),some (fP fs),some (.int n),some (DA [[]]),some (aD []),none,none,none,none,none,none,none]=some (.nx (D4 (mP m) (fP fs) n [[]] [] mk none none none none none none)):=by
  unfold D4
  generalize DA [[]]=G1
  generalize dX=mm at *
  simp[h1]
 have s4:KA (Fv 3 (gN 6) (LF (b1 C0 (bV 5))) [6,7,10,11,8,9] cR) (D4 (mP m) (fP fs) n [[]] [] mk none none none none none none)=some (.nx (D4 (mP m) (fP fs) n g S mk none none none none none none)):=by
  rw[← dW] at lp
  have hle:LF (b1 C0 (bV 5)) ((D4 (mP m) (fP fs) n [[]] [] mk none none none none none none).set 3 none)=some (dj 0 (mk.length:Int)):=by
   unfold D4 aQ
   simp[Rl]
  have hcl:E8 [6,7,10,11,8,9] (D4 (mP m) (fP fs) n [[]] [] mk none none none none none none)=D4 (mP m) (fP fs) n [[]] [] mk none none none none none none:=rfl
  rw[Tf,Oj,hle,bE,hcl,lp]
  rfl
 have hb:lX [some (mP m),some (fP fs),some (.int n),none,none,none,none,none,none,none,none,none]=some (.rt (.lst [DA g,aD S])):=by
  unfold lX
  rw[aZ s1,aZ s2,aZ s3,aZ s4]
  unfold D4
  simp
 unfold lY
 generalize lX=B at *
 simp[hb]
theorem uh (hm:g.flatten.length < 1000):cT [DA g]=some (.lst (g.flatten.map aD)):=by
 obtain⟨L,⟨d,h1,h2⟩,h3⟩:=bz (g:=gN 2) (ds:=[2]) (body:=kI) KG (λL:List (List Nat)=>[some (DA g),some (.lst (L.map aD)),none]) (λr L=>∃d,g=d++r/\L=d.flatten)
  (by
   rintro w r L ⟨d,h1,h2⟩
   refine⟨L++w,⟨d++[w],by rw[h1];simp,by rw[h2];simp⟩,?_⟩
   have hs:L.length+w.length<=1000000:=by
    have e:g.flatten.length=L.length+(w.length+r.flatten.length):=by rw[h1,h2];simp
    omega
   simp[aY,kI,KG,hs])
  g [] ⟨[],rfl,rfl⟩
 rw[bq] at h1
 subst h1 h2
 have e:DA g=.lst (g.map KG):=rfl
 simp only[ed] at h3
 rw[e] at h3 ⊢
 simp[cT,rM,UN,h3]
theorem Aq:∀(O:List (List Nat)) (S:gV),bH O S=(decide (S.length=O.length)&&(O.zip S).all λz=>decide (z.2∈z.1))
 | [],[]=>by simp[bH]
 | [],_::_=>by simp[bH]
 | _::_,[]=>by simp[bH]
 | is::O,i::S=>by
  rw[bH,Aq O S]
  simp only[f8,ij,bg,Nat.add_right_cancel_iff]
  by_cases h:S.length=O.length
  ·simp[h]
  ·simp[h]
theorem Dq (h:Tx g):∀is∈g.flatten,C4 is:=λis hi=>by
 obtain⟨w,hw,hi⟩:=List.mem_flatten.mp hi
 exact(h w hw is hi).1
theorem VD (hg:Tx g)(hS:C4 S)(hm:g.flatten.length < 1000):jr [DA g,aD S]=some (.bl (bH g.flatten S)):=by
 have h1:=uh hm
 have hO:=Dq hg
 rw[Aq]
 generalize g.flatten=O at *
 have l1:(S.map aA).length=S.length:=af ..
 have l2:(O.map aD).length=O.length:=af ..
 have s1:aJ 2 (aM cT (CH 0 aB)) [some (DA g),some (aD S),none]=some (.nx [some (DA g),some (aD S),some (.lst (O.map aD))]):=by
  generalize cT=mo at *
  simp[h1]
 by_cases hl:S.length=O.length
 ·rw[bP hl,gd]
  have hz:=ju aD aA O S
  have hc:=gn (env:=[none,none]) (g:=gT [0,1]) (f:=jC) (λz:List Nat×Nat=>PV.tup [aD z.1,aA z.2]) (λz=>PV.bl (decide (z.2∈z.1))) (O.zip S) (λz KW=>by
   have hz2:=d6 KW
   have:=wO (hS _ hz2.2) (hO _ hz2.1)
   exact⟨[some (aD z.1),some (aA z.2)],rfl,by simp[jC,this]⟩)
  have hb:=tG (λz:List Nat×Nat=>decide (z.2∈z.1)) (O.zip S)
  have hle:(O.zip S).length<=1000000:=by rw[iP];omega
  have hli:(S.length:Int)=(O.length:Int):=by omega
  have FL:((O.zip S).map λz:List Nat×Nat=>decide (z.2∈z.1)).all id=(O.zip S).all λz=>decide (z.2∈z.1):=by rw[kn];rfl
  have s2:E7 (tV (b2 Kn (b1 C0 (bV 1)) (b1 C0 (bV 2)))) (aV (bC (.bl false))) EK [some (DA g),some (aD S),some (.lst (O.map aD))]=some (.nx [some (DA g),some (aD S),some (.lst (O.map aD))]):=by
   unfold aD
   simp[hl]
  have s3:aV (b1 zY (eU [none,none] (OK (bV 2) (bV 1)) (gT [0,1]) fU jC)) [some (DA g),some (aD S),some (.lst (O.map aD))]=some (.rt (.bl ((O.zip S).all λz=>decide (z.2∈z.1)))):=by
   have e:aD S=.lst (S.map aA):=rfl
   rw[e,← FL]
   generalize O.zip S=ZS at *
   simp[hz,hle,hc,hb]
  have hfb:fH [some (DA g),some (aD S),none]=some (.rt (.bl ((O.zip S).all λz=>decide (z.2∈z.1)))):=by
   unfold fH
   rw[aZ s1,aZ s2]
   exact s3
  unfold jr
  generalize fH=B at *
  simp[hfb]
 ·rw[ba hl,ke]
  have s2:E7 (tV (b2 Kn (b1 C0 (bV 1)) (b1 C0 (bV 2)))) (aV (bC (.bl false))) EK [some (DA g),some (aD S),some (.lst (O.map aD))]=some (.rt (.bl false)):=by
   have hli:¬ (S.length:Int)=(O.length:Int):=by omega
   unfold aD
   simp[hl,hli]
  have hfb:fH [some (DA g),some (aD S),none]=some (.rt (.bl false)):=by
   unfold fH
   rw[aZ s1,qw s2]
  unfold jr
  generalize fH=B at *
  simp[hfb]
theorem Dr (x:PV):∀n:Nat,(List.replicate n [x]).flatten=List.replicate n x
 | 0=>rfl
 | n+1=>by rw[eA,gp,Dr x n,eA];rfl
theorem Ig {GP:PV}{L:List Bool}(hw:w≠[])(hl:w.length < 1000)(hL:L.length < 1000):turn (gN 2) [2] jq (KG w) [some GP,some (.lst (L.map PV.bl)),none]=some [some GP,some (.lst ((L++jF w.length).map PV.bl)),none]:=by
 obtain⟨m,hm1⟩:∃m,w.length=m+1:=⟨w.length - 1,by cases w with | nil=>exact absurd rfl hw | cons a l=>simp⟩
 have q1:-1000000<=(m:Int)/\(m:Int)<=1000000/\m<=1000000:=by omega
 have q2:m+1<=1000000:=by omega
 have q3:L.length+(m+1)<=1000000:=by omega
 have q4:((m:Int)+1 - 1)=m:=by omega
 rw[hm1,uO]
 simp[aY,jq,KG,hm1,q4,q1,q2,q3,Dr]
theorem ul (hg:∀w∈g,w≠[])(hm:g.flatten.length < 1000):gB [DA g]=some (.lst ((aU g).map .bl)):=by
 obtain⟨L,⟨d,h1,h2⟩,h3⟩:=bz (g:=gN 2) (ds:=[2]) (body:=jq) KG (λL:List Bool=>[some (DA g),some (.lst (L.map PV.bl)),none]) (λr L=>∃d,g=d++r/\L=aU d)
  (by
   rintro w r L ⟨d,h1,h2⟩
   have hw:=hg w (by rw[h1];simp)
   have e:g.flatten.length=d.flatten.length+(w.length+r.flatten.length):=by rw[h1];simp
   have hL:L.length=d.flatten.length:=by rw[h2,cN]
   exact⟨L++jF w.length,⟨d++[w],by rw[h1];simp,by rw[h2];simp[aU]⟩,Ig hw (by omega) (by omega)⟩)
  g [] ⟨[],rfl,rfl⟩
 rw[bq] at h1
 subst h1 h2
 have e:DA g=.lst (g.map KG):=rfl
 simp only[ed] at h3
 generalize hlb:jq=B at h3
 have hb:mZ [some (DA g),none,none]=some (.rt (.lst ((aU g).map .bl))):=by
  unfold mZ
  rw[hlb]
  rw[e] at h3 ⊢
  simp[UN,h3]
 unfold gB
 generalize mZ=B2 at *
 simp[hb]
theorem wR (hg:∀w∈g,w≠[])(hS:C4 S)(hm:g.flatten.length < 1000):gC [DA g,aD S]=some (aQ (aR S (aU g))):=by
 have h1:=ul hg hm
 have hlen:(aU g).length < 1000:=by rw[cN];exact hm
 generalize aU g=es at *
 have hz:=ju aA PV.bl S es
 have hle:(S.zip es).length<=1000000:=by rw[iP];omega
 have hc:=jk (env:=[none,none]) (g:=gT [0,1]) (t:=oF) (f:=oE) (λz:Nat×Bool=>PV.tup [aA z.1,.bl z.2]) (λz=>PV.tup [.str (bF z.1),.bl z.2]) (λz=>!decide (z.1=3)) (S.zip es) (λz KW=>by
  have h4:=hS _ (d6 KW).1
  refine⟨[some (aA z.1),some (.bl z.2)],rfl,?_,λhq=>?_⟩
  ·rcases NV h4 with e | e | e | e <;> simp[oF,e,aA]
  ·rcases NV h4 with e | e | e | e <;> simp[oE,e,aA,bF] at hq ⊢)
 have hr:((S.zip es).filter λz:Nat×Bool=>!decide (z.1=3)).map (λz=>PV.tup [.str (bF z.1),.bl z.2])=(aR S es).map EL:=by
  unfold aR
  generalize S.zip es=ZS
  induction ZS with
  | nil=>rfl
  | cons z ZS ih=>
   rw[hJ,cS,← ih]
   by_cases e:z.1=3
   ·simp[e]
   ·simp[e,EL]
 rw[hr] at hc
 have e:aD S=.lst (S.map aA):=rfl
 have hb:m5 [some (DA g),some (aD S)]=some (.rt (aQ (aR S es))):=by
  unfold m5 aQ
  rw[e]
  generalize gB=me,S.zip es=ZS at *
  simp[h1,hz,hle,hc]
 unfold gC
 generalize m5=B at *
 simp[hb]
theorem wU:∀{A B:r9},EH A B=true->A.length=B.length
 | [],[],_=>rfl
 | a::A,b::B,h=>by
  simp only[EH,bp] at h
  rw[bg,wU h.2,bg]
 | [],_::_,h=>by simp[EH] at h
 | _::_,[],h=>by simp[EH] at h
theorem Ih {A B:r9}(h:A.length≠B.length):EH A B=false:=by
 cases q:EH A B with
 | false=>rfl
 | true=>exact absurd (wU q) h
theorem tL:∀(A B T:r9),EH (A++B) T=(EH A (T.take A.length)&&EH B (T.drop A.length))
 | [],B,T=>by simp[EH]
 | a::A,B,[]=>by simp[EH]
 | a::A,B,b::T=>by
  show ((C7 a.1 b.1&&(!a.2||b.2))&&EH (A++B) T)=(((C7 a.1 b.1&&(!a.2||b.2))&&EH A (T.take A.length))&&EH B (T.drop A.length))
  rw[tL A B T,qo,qo,qo]
noncomputable def FZ (A B:r9)(k:Nat):Bool:=C7 (cg A k).1 (cg B k).1&&(!(cg A k).2||(cg B k).2)
theorem xX:∀{A B:r9},A.length=B.length->EH A B=(List.range B.length).all (FZ A B)
 | [],[],_=>rfl
 | a::A,b::B,h=>by
  have ih:=xX (A:=A) (B:=B) (by simpa using h)
  rw[EH,ih,bg,List.range_succ_eq_map,ij,kn]
  rfl
 | [],_::_,h=>by simp at h
 | _::_,[],h=>by simp at h
theorem pP (s:Slot)(p:Str){k:Nat}(h:k < p.length):cg (bW s p) k=(gQ p k,s.2&&decide (k+1=p.length)):=by
 unfold cg bW
 rw[a8,ar,gu h]
 rfl
theorem Ar (hp:Ee p)(part:r9):fit p s.2 part=EH (bW s p) part:=by
 by_cases hl:part.length=p.length
 ·have h1:=Cj (row:=part) (p:=p) (a:=0) (by omega)
  have h2:seg part 0 p.length=part:=by unfold seg;rw[fR,← hl,oB]
  have h3:=KZ (row:=part) (a:=0) (n:=p.length) (by omega) hp.ge
  rw[h2] at h1 h3
  rw[xX (by rw[eX,hl]),hl]
  unfold fit
  rw[bP hl,gd,h1,h3,iO,bp,cq,cq]
  have hge:=hp.ge
  constructor
  ·rintro ⟨q1,q2⟩ k hk
   have UQ:=b6.mp hk
   unfold FZ
   rw[pP s p UQ]
   have:=q1 k hk
   rw[i9] at this
   simp only[this,gd]
   by_cases hke:k+1=p.length
   ·have:0+p.length - 1=k:=by omega
    rw[this] at q2
    cases hc:s.2 <;> simp_all
   ·simp[hke]
  ·intro q
   refine⟨λk hk=>?_,?_⟩
   ·have:=q k hk
    unfold FZ at this
    rw[pP s p (b6.mp hk),bp] at this
    rw[i9]
    exact this.1
   ·have:=q (p.length - 1) (b6.mpr (by omega))
    unfold FZ at this
    rw[pP s p (by omega),bp] at this
    have h4:p.length - 1+1=p.length:=by omega
    have h5:0+p.length - 1=p.length - 1:=by omega
    rw[h5]
    cases hc:s.2 with
    | false=>simp
    | true=>
     have h6:=this.2
     simp only[hc,h4,decide_true,Bool.and_self,Bool.not_true,Bool.false_or] at h6
     rw[h6]
     rfl
 ·rw[Ih (by rw[eX];exact λz=>hl z.symm)]
  unfold fit
  rw[ba hl,ke]
theorem vL {g:PV->MR.Env->Option MR.Env}{ds:gV}{body:MR.Env->Option Out}{x v:PV}{xs:List PV}{env e:MR.Env}(h1:g x env=some e)(h2:body e=some (.rt v)):bM g ds body (x::xs) env=some (.rt v):=by simp[bM,h1,h2]
noncomputable def fI (F:rq):PV:=.lst (F.map .int)
noncomputable def dU (s:Slot)(f:Int):Str:=s.1.getD f.toNat ⟨#[]⟩
noncomputable def inR (z:Slot×Int):Bool:=decide (0<=z.2/\z.2 < (z.1.1.length:Int))
theorem Av {f:Int}(h:inR (s,f)=true):s.1[f.toNat]?=some (dU s f)/\DE (s.1.map PV.str) f=some (.str (dU s f)):=by
 unfold inR at h
 have h':=gg h
 simp only at h'
 have DS:f.toNat < s.1.length:=by omega
 have h1:s.1[f.toNat]?=some (dU s f):=by
  unfold dU
  rw[a8,al DS]
  rfl
 refine⟨h1,?_⟩
 have e:((f.toNat:Nat):Int)=f:=by omega
 have h2:DE (s.1.map PV.str) ((f.toNat:Nat):Int)=some (.str (dU s f)):=bJ (by rw[ar,h1];rfl)
 rw[e] at h2
 exact h2
noncomputable def LH (R:r9):List (Slot×Int)->Nat->Option Nat
 | [],a=>some a
 | z::r,a=>if inR z=true then (if fit (dU z.1 z.2) z.1.2 (seg R a (dU z.1 z.2).length)=true then LH R r (a+(dU z.1 z.2).length) else none) else none
def Mo (M F:PV)(R:r9)(a:Nat):MR.Env:=[some M,some (aQ R),some F,some (.int (a:Nat)),none,none,none,none]
theorem Ds {M F:PV}{R:r9}:∀(zs:List (Slot×Int)) (a:Nat),(∀z∈zs,D3 z.1.1)->a<=R.length->
  bM (gT [4,5]) [4,5,6,7] b7 (zs.map λz=>PV.tup [DC z.1,.int z.2]) (Mo M F R a)=some (match LH R zs a with | some a'=>.nx (Mo M F R a') | none=>.rt (.bl false))
 | [],a,_,_=>rfl
 | z::zs,a,hz,ha=>by
  obtain⟨s,f⟩:=z
  have hs:=hz _ ah
  have IE:∀b:Bool,inR (s,f)=b->(decide (0<=f)&&decide (f < (s.1.length:Int)))=b:=λb hb=>by
   rw[← hb]
   unfold inR
   rw[Bool.decide_and]
  have c1:∀b:Bool,inR (s,f)=b->E7 (tN (tV (mD (λi j=>decide (i<=j)) (λi j=>decide (i < j)) (CF 0) (bV 5) (b1 C0 (b2 C9 (bV 4) (CF 0)))))) (aV (bC (.bl false))) EK [some M,some (aQ R),some F,some (.int (a:Nat)),some (DC s),some (.int f),none,none]=some (if b=true then .nx [some M,some (aQ R),some F,some (.int (a:Nat)),some (DC s),some (.int f),none,none] else .rt (.bl false)):=λb hb=>by
   have h:=IE b hb
   have Q1:DC s=.tup [.tup (s.1.map .str),.bl s.2]:=rfl
   rw[Q1]
   generalize aQ R=RP at *
   have hl:(s.1.map PV.str).length=s.1.length:=af ..
   by_cases h0:0<=f
   ·by_cases h1:f < (s.1.length:Int)
    ·have:b=true:=by rw[← h];simp[h0,h1]
     subst this
     simp[h0,h1,hl]
    ·have:b=false:=by rw[← h];simp[h1]
     subst this
     simp[h0,h1,hl]
   ·have:b=false:=by rw[← h];simp[h0]
    subst this
    simp[h0,hl]
  show bM (gT [4,5]) [4,5,6,7] b7 (PV.tup [DC s,.int f]::zs.map λz=>PV.tup [DC z.1,.int z.2]) (Mo M F R a)=_
  cases hr:inR (s,f) with
  | false=>
   have hw:LH R ((s,f)::zs) a=none:=by rw[LH,a7 (by rw[hr];decide)]
   rw[hw]
   have hc:=c1 false hr
   rw[a7 (by decide)] at hc
   refine vL (e:=[some M,some (aQ R),some F,some (.int (a:Nat)),some (DC s),some (.int f),none,none]) (by simp[Mo]) ?_
   unfold b7
   rw[qw hc]
  | true=>
   have hc:=c1 true hr
   rw[be rfl] at hc
   obtain⟨p1,p2⟩:=Av hr
   have ok:=hs.ok _ (ax p1)
   have hwk:LH R ((s,f)::zs) a=if fit (dU s f) s.2 (seg R a (dU s f).length)=true then LH R zs (a+(dU s f).length) else none:=by rw[LH,be hr]
   rw[hwk]
   generalize dU s f=p at *
   have h3:p.length<=1000000:=by have:=ok.le;omega
   have Ye:=Dk (n:=p.length) ha
   have GI:=vK ok s.2 (seg R a p.length)
   have e1:((a+p.length:Nat):Int)=(a:Int)+(p.length:Int):=by omega
   have t1:aJ 6 (b2 C9 (b2 C9 (bV 4) (CF 0)) (bV 5)) [some M,some (aQ R),some F,some (.int (a:Nat)),some (DC s),some (.int f),none,none]=some (.nx [some M,some (aQ R),some F,some (.int (a:Nat)),some (DC s),some (.int f),some (.str p),none]):=by
    have Q1:DC s=.tup [.tup (s.1.map .str),.bl s.2]:=rfl
    rw[Q1]
    generalize aQ R=RP at *
    simp[p2]
   have t2:aJ 7 (b2 bD (bV 3) (b1 C0 (bV 6))) [some M,some (aQ R),some F,some (.int (a:Nat)),some (DC s),some (.int f),some (.str p),none]=some (.nx [some M,some (aQ R),some F,some (.int (a:Nat)),some (DC s),some (.int f),some (.str p),some (.int ((a+p.length:Nat):Int))]):=by
    rw[e1]
    simp[h3]
   have t3:∀b:Bool,fit p s.2 (seg R a p.length)=b->E7 (tN (tV (aM jD (CH 6 (ak (b2 C9 (bV 4) (CF 1)) (ak (JA (bV 1) (oS (bV 3)) (oS (bV 7))) aB)))))) (aV (bC (.bl false))) EK [some M,some (aQ R),some F,some (.int (a:Nat)),some (DC s),some (.int f),some (.str p),some (.int ((a+p.length:Nat):Int))]=some (if b=true then .nx [some M,some (aQ R),some F,some (.int (a:Nat)),some (DC s),some (.int f),some (.str p),some (.int ((a+p.length:Nat):Int))] else .rt (.bl false)):=λb hb=>by
    rw[hb] at GI
    rw[e1]
    have hrp:aQ R=.lst (R.map EL):=rfl
    have hsg:aQ (seg R a p.length)=.lst ((seg R a p.length).map EL):=rfl
    have Q1:DC s=.tup [.tup (s.1.map .str),.bl s.2]:=rfl
    rw[hsg] at GI
    rw[hrp,Q1]
    generalize R.map EL=RP,(seg R a p.length).map EL=GP,jD=mf at *
    cases b <;> simp[Ye,GI]
   cases hf:fit p s.2 (seg R a p.length) with
   | false=>
    rw[a7 (by decide)]
    have h4:=t3 false hf
    rw[a7 (by decide)] at h4
    refine vL (e:=[some M,some (aQ R),some F,some (.int (a:Nat)),some (DC s),some (.int f),none,none]) (by simp[Mo]) ?_
    unfold b7
    rw[aZ hc,aZ t1,aZ t2,qw h4]
   | true=>
    rw[be rfl]
    have h4:=t3 true hf
    rw[be rfl] at h4
    have hle:=fit_le ok hf
    have hb:b7 [some M,some (aQ R),some F,some (.int (a:Nat)),some (DC s),some (.int f),none,none]=some (.nx [some M,some (aQ R),some F,some (.int ((a+p.length:Nat):Int)),some (DC s),some (.int f),some (.str p),some (.int ((a+p.length:Nat):Int))]):=by
     unfold b7
     rw[aZ hc,aZ t1,aZ t2,aZ h4]
     simp
    have ht:turn (gT [4,5]) [4,5,6,7] b7 (.tup [DC s,.int f]) (Mo M F R a)=some (Mo M F R (a+p.length)):=by
     generalize b7=B at *
     unfold Mo
     rw[aY]
     generalize DC s=SP,aQ R=RP at *
     simp[hb]
    rw[jB ht]
    exact Ds zs (a+p.length) (λz h=>hz z (ag _ h)) hle
noncomputable def TC (m:rX)(F:rq)(R:r9):Bool:=decide (F.length=m.length)&&(match LH R (m.zip F) 0 with | some a=>decide (a=R.length) | none=>false)
variable {F:rq}
theorem T6 (hm:bw m):jO [mP m,aQ R,fI F]=some (.bl (TC m F R)):=by
 have l1:(F.map PV.int).length=F.length:=af ..
 have l2:(m.map DC).length=m.length:=af ..
 have hmp:mP m=.tup (m.map DC):=rfl
 unfold TC
 by_cases hl:F.length=m.length
 ·rw[bP hl,gd]
  have lp:=Ds (M:=mP m) (F:=fI F) (R:=R) (m.zip F) 0 (λz hz=>hm _ (d6 hz).1) (c6 _)
  have hz:=ju DC PV.int m F
  rw[← hz] at lp
  have s1:E7 (tV (b2 Kn (b1 C0 (bV 2)) (b1 C0 (bV 0)))) (aV (bC (.bl false))) EK [some (mP m),some (aQ R),some (fI F),none,none,none,none,none]=some (.nx [some (mP m),some (aQ R),some (fI F),none,none,none,none,none]):=by
   unfold fI
   rw[hmp]
   simp[hl]
  have s2:aJ 3 (CF 0) [some (mP m),some (aQ R),some (fI F),none,none,none,none,none]=some (.nx (Mo (mP m) (fI F) R 0)):=by
   unfold Mo
   simp
  have s3:cu (gT [4,5]) (OK (bV 0) (bV 2)) [4,5,6,7] b7 (Mo (mP m) (fI F) R 0)=bM (gT [4,5]) [4,5,6,7] b7 (j7 (m.map DC) (F.map PV.int)) (Mo (mP m) (fI F) R 0):=by
   generalize b7=B at *
   unfold Mo fI
   rw[hmp]
   generalize aQ R=RP at *
   simp
  rw[lp] at s3
  have hb:gO [some (mP m),some (aQ R),some (fI F),none,none,none,none,none]=some (.rt (.bl (match LH R (m.zip F) 0 with | some a=>decide (a=R.length) | none=>false))):=by
   unfold gO
   cases hw:LH R (m.zip F) 0 with
   | none=>
    rw[hw] at s3
    rw[aZ s1,aZ s2,qw s3]
   | some a=>
    rw[hw] at s3
    rw[aZ s1,aZ s2,aZ s3]
    have e:((a:Int)=(R.length:Int))↔a=R.length:=by omega
    unfold Mo aQ
    simp
    exact e
  unfold jO
  generalize gO=B at *
  simp[hb]
 ·rw[ba hl,ke]
  have hli:¬ (F.length:Int)=(m.length:Int):=by omega
  have s1:E7 (tV (b2 Kn (b1 C0 (bV 2)) (b1 C0 (bV 0)))) (aV (bC (.bl false))) EK [some (mP m),some (aQ R),some (fI F),none,none,none,none,none]=some (.rt (.bl false)):=by
   unfold fI
   rw[hmp]
   simp[hl,hli]
  have hb:gO [some (mP m),some (aQ R),some (fI F),none,none,none,none,none]=some (.rt (.bl false)):=by
   unfold gO
   rw[qw s1]
  unfold jO
  generalize gO=B at *
  simp[hb]
noncomputable def qG (m:rX)(F:rq):Bool:=(m.zip F).all inR
theorem Mt {R:r9}:∀(m:rX) (F:rq) (a:Nat),F.length=m.length->a<=R.length->bw m->
  (match LH R (m.zip F) a with | some a'=>decide (a'=R.length) | none=>false)=(qG m F&&EH (a_ m (F.map Int.toNat)) (R.drop a))
 | [],[],a,_,ha,_=>by
  show decide (a=R.length)=(true&&EH [] (R.drop a))
  rw[gd]
  cases h:R.drop a with
  | nil=>
   have:a=R.length:=by
    have:=b9 List.length h
    simp at this
    omega
   simp[this,EH]
  | cons x xs=>
   have:¬ a=R.length:=λz=>by
    rw[z,kR] at h;cases h
   simp[this,EH]
 | [],_::_,_,h,_,_=>by simp at h
 | _::_,[],_,h,_,_=>by simp at h
 | s::m,f::F,a,hl,ha,hm=>by
  have To:a_ (s::m) ((f::F).map Int.toNat)=bW s (dU s f)++a_ m (F.map Int.toNat):=rfl
  have hv:qG (s::m) (f::F)=(inR (s,f)&&qG m F):=rfl
  rw[To,hv,tL,eX]
  show (match LH R ((s,f)::m.zip F) a with | some a'=>decide (a'=R.length) | none=>false)=_
  rw[LH]
  cases hr:inR (s,f) with
  | false=>simp
  | true=>
   obtain⟨p1,p2⟩:=Av hr
   have ok:=(hm s ah).ok _ (ax p1)
   have hseg:(R.drop a).take (dU s f).length=seg R a (dU s f).length:=rfl
   rw[be rfl,gd,hseg,← Ar ok]
   cases hf:fit (dU s f) s.2 (seg R a (dU s f).length) with
   | false=>simp
   | true=>
    have hle:=fit_le ok hf
    have ih:=Mt m F (a+(dU s f).length) (by simpa using hl) hle λt ht=>hm t (ag _ ht)
    rw[be rfl,ih,gd,qr]
theorem Ii (hl:F.length=m.length)(hm:bw m):TC m F R=(qG m F&&EH (a_ m (F.map Int.toNat)) R):=by
 have h:=Mt (R:=R) m F 0 hl (c6 _) hm
 rw[fR] at h
 unfold TC
 rw[bP hl,gd]
 exact h
theorem T7 (a b c d e f:Int):K2 (.tup [.int a,.int b,.int c]) (.tup [.int d,.int e,.int f])=some (decide (a=d/\b=e/\c=f)):=by
 have h1:∀x y z:Int,SeqAt.shaped (.tuple [.int x,.int y,.int z])=true:=λx y z=>by
  simp[SeqAt.shaped,PyData.canLay0,PyData.canLayAll0,PyData.depth,PyData.depthAll]
 simp[K2,SH,XT,toD,dB,h1,PyData.eqv,PyData.eqvAll,Bool.decide_and]
 rfl
noncomputable def GB (a b c:Nat):PV:=.tup [.int a,.int b,.int c]
noncomputable def VC (s:Slot)(slot k i:Nat)(p:Str)(ends:Bool):PV:=if i+1 < p.length then GB slot k (i+1) else if (s.2&&!ends)=true then .CY else GB (slot+1) 0 0
theorem Du {slot:Nat}(h:m[slot]?=some s):DE (m.map DC) (slot:Int)=some (DC s):=bJ (by simp[h])
theorem Ij {k:Nat}(h:s.1[k]?=some p):DE (s.1.map PV.str) (k:Int)=some (.str p):=bJ (by simp[h])
variable {ends:Bool}
theorem Ik {slot k:Nat}(hs:m[slot]?=some s)(hp:s.1[k]?=some p)(ok:Ee p):
  gA [mP m,GB slot k i,.bl ends]=some (VC s slot k i p ends):=by
 have h1:=Du hs
 have h2:=Ij hp
 have h3:p.length<=1000000:=by have:=ok.le;omega
 have h4:((i:Int)+1 < (p.length:Int))↔i+1 < p.length:=by omega
 unfold VC
 by_cases h5:i+1 < p.length
 ·simp[gA,kj,mP,GB,h1,DC,h2,h3,h4,h5]
 ·have h6:(if i+1 < p.length then GB slot k (i+1) else if (s.2&&!ends)=true then PV.CY else GB (slot+1) 0 0)=(if (s.2&&!ends)=true then PV.CY else GB (slot+1) 0 0):=a7 h5
  rw[h6]
  cases hc:s.2 <;> cases ends <;> simp[gA,kj,mP,GB,h1,DC,h2,h3,h4,h5,hc]
noncomputable def OV (s:Slot)(slot i:Nat)(mark:Str)(ends:Bool)(k:Nat):List PV:=
 if C7 (gQ (s.1.getD k ⟨#[]⟩) i) mark=true/\uE (VC s slot k i (s.1.getD k ⟨#[]⟩) ends)=false then [.tup [.int k,VC s slot k i (s.1.getD k ⟨#[]⟩) ends]] else []
theorem wV {k:Nat}(h:s.1[k]?=some p):s.1.getD k ⟨#[]⟩=p:=by rw[a8,h];rfl
theorem K4 (s:Slot)(slot k i:Nat)(p:Str)(ends:Bool):(VC s slot k i p ends=.CY/\¬ i+1 < p.length/\s.2=true/\ends=false)\/(∃a b c:Nat,VC s slot k i p ends=GB a b c/\((i+1 < p.length/\a=slot/\b=k/\c=i+1)\/(¬ i+1 < p.length/\(s.2=false\/ends=true)/\a=slot+1/\b=0/\c=0))):=by
 unfold VC
 by_cases h:i+1 < p.length
 ·exact .inr ⟨_,_,_,be h,.inl ⟨h,rfl,rfl,rfl⟩⟩
 ·rw[a7 h]
  by_cases h':(s.2&&!ends)=true
  ·rw[be h']
   simp at h'
   exact .inl ⟨rfl,h,h'.1,h'.2⟩
  ·rw[a7 h']
   refine .inr ⟨_,_,_,rfl,.inr ⟨h,?_,rfl,rfl,rfl⟩⟩
   cases hs:s.2 <;> cases ends <;> simp_all
variable {mark:Str}{N:PV}
theorem Ph {slot k:Nat}{S:PV}{L:List PV}(hs:m[slot]?=some s)(hp:s.1[k]?=some p)(ok:Ee p)(hi:i < p.length)(hL:L.length < 1000):
  turn (gN 9) [9,10] dY (.int k) [some (mP m),some S,some (.str mark),some (.bl ends),some (.int slot),some (.int i),some (.tup (s.1.map .str)),some N,some (.lst L),none,none]=
   some [some (mP m),some S,some (.str mark),some (.bl ends),some (.int slot),some (.int i),some (.tup (s.1.map .str)),some N,some (.lst (L++OV s slot i mark ends k)),none,none]:=by
 have h1:=Ik (i:=i) (ends:=ends) hs hp ok
 have h2:=Ij hp
 have h3:p.length<=1000000:=by have:=ok.le;omega
 have h4:=Ia hi
 have h5:=xU (gQ p i) mark
 have hl:L.length < 1000000:=by omega
 unfold gQ at h5
 unfold OV
 rw[wV hp]
 rcases K4 s slot k i p ends with ⟨e,_⟩ | ⟨a,b,c,e,_⟩
 ·rw[e] at h1
  simp only[GB] at h1
  simp[aY,dY,h1,e]
 ·rw[e] at h1 ⊢
  simp only[GB] at h1
  unfold gQ
  cases hq:C7 ⟨#[p.cps.toList.getD i 0]⟩ mark with
  | true=>
   rw[hq] at h5
   simp[aY,dY,h1,h2,h3,h4,h5,hl,GB,-List.getD_eq_getElem?_getD]
  | false=>
   rw[hq] at h5
   simp[aY,dY,h1,h2,h3,h4,h5,hl,GB,-List.getD_eq_getElem?_getD]
theorem Pj (s:Slot)(slot i:Nat)(mark:Str)(ends:Bool)(k:Nat):(OV s slot i mark ends k).length<=1:=by unfold OV;split <;> simp
theorem Dv {slot:Nat}{S:PV}(hs:m[slot]?=some s)(ok:D3 s.1)(ks:gV)(hk:∀k∈ks,∃p,s.1[k]?=some p/\i < p.length)(hl:ks.length < 1000):
  bM (gN 9) [9,10] dY (ks.map λk=>PV.int (k:Nat)) [some (mP m),some S,some (.str mark),some (.bl ends),some (.int slot),some (.int i),some (.tup (s.1.map .str)),some N,some (.lst []),none,none]=
   some (.nx [some (mP m),some S,some (.str mark),some (.bl ends),some (.int slot),some (.int i),some (.tup (s.1.map .str)),some N,some (.lst (ks.flatMap (OV s slot i mark ends))),none,none]):=by
 obtain⟨L,⟨d,e1,e2,_⟩,h⟩:=bz (g:=gN 9) (ds:=[9,10]) (body:=dY) (λk:Nat=>PV.int (k:Nat))
  (λL:List PV=>[some (mP m),some S,some (.str mark),some (.bl ends),some (.int slot),some (.int i),some (.tup (s.1.map .str)),some N,some (.lst L),none,none])
  (λr L=>∃d,ks=d++r/\L=d.flatMap (OV s slot i mark ends)/\L.length<=d.length)
  (by
   rintro k r L ⟨d,e1,e2,e3⟩
   obtain⟨p,hp,hi⟩:=hk k (by rw[e1];simp)
   have hd:d.length < 1000:=by have:=b9 List.length e1;simp at this;omega
   have hm:p∈s.1:=ax hp
   refine⟨L++OV s slot i mark ends k,⟨d++[k],by rw[e1];simp,by rw[e2];simp,?_⟩,Ph hs hp (ok.ok p hm) hi (by omega)⟩
   have:=Pj s slot i mark ends k
   simp;omega)
  ks [] ⟨[],rfl,rfl,aT _⟩
 rw[bq] at e1
 subst e1 e2
 exact h
structure ZQ (m:rX)(slot pat i:Nat):Prop where
 le:slot<=m.length
 fin:slot=m.length->pat=0/\i=0
 mid:∀s,m[slot]?=some s->(i=0/\pat=0)\/∃p,s.1[pat]?=some p/\0 < i/\i < p.length
noncomputable def mvs (m:rX)(slot pat i:Nat)(mark:Str)(ends:Bool):List PV:=match m[slot]? with
 | none=>[]
 | some s=>if i=0 then (List.range s.1.length).flatMap (OV s slot i mark ends) else OV s slot i mark ends pat
theorem Aw (hm:bw m)(hl:m.length < 1000){slot pat:Nat}(st:ZQ m slot pat i)(mark:Str)(ends:Bool):
  dI [mP m,GB slot pat i,.str mark,.bl ends]=some (.lst (mvs m slot pat i mark ends)):=by
 have he:fD [mP m]=some (.tup [.int m.length,.int 0,.int 0]):=by simp[fD,ou,mP]
 have hq:=T7 slot pat i m.length 0 0
 unfold mvs
 by_cases hf:slot=m.length
 ·obtain⟨rfl,rfl⟩:=st.fin hf
  subst hf
  have:m[m.length]?=none:=by simp
  rw[this]
  simp at hq
  simp[dI,lZ,he,GB,hq]
 ·have DS:slot < m.length:=by have:=st.le;omega
  obtain⟨s,hs⟩:∃s,m[slot]?=some s:=⟨m[slot],al DS⟩
  rw[hs]
  have EF:¬ ((slot:Int)=m.length/\(pat:Int)=0/\(i:Int)=0):=λz=>hf (by omega)
  rw[ba EF] at hq
  have ok:=hm s (ax hs)
  have h1:=Du hs
  by_cases hi:i=0
  ·subst hi
   have lp:=Dv (S:=GB slot pat 0) (N:=.lst ((List.range s.1.length).map λk=>PV.int (k:Nat))) (mark:=mark) (ends:=ends) (i:=0) hs ok (List.range s.1.length) (λk hk=>by
    have UQ:=b6.mp hk
    have:=(ok.ok _ (eR UQ)).ge
    exact⟨s.1[k],al UQ,by omega⟩) (by have:=ok.le;simp;omega)
   have hr:=dW s.1.length
   have hb:0<=(s.1.length:Int)/\(s.1.length:Int)<=1000000:=by have:=ok.le;omega
   simp only[kA]
   have e1:mP m=.tup (m.map DC):=rfl
   have e2:GB slot pat 0=.tup [.int slot,.int pat,.int 0]:=rfl
   rw[e1,e2] at lp ⊢
   rw[e1] at he
   simp at hq lp
   simp[dI,lZ,he,hq,h1,DC,hr,hb,UN,lp]
  ·rcases st.mid s hs with z | ⟨p,hp,SV,Kj⟩
   ·exact absurd z.1 hi
   ·have lp:=Dv (S:=GB slot pat i) (N:=.lst [.int pat]) (mark:=mark) (ends:=ends) (i:=i) hs ok [pat] (λk hk=>by
     rw[aE] at hk
     subst hk
     exact⟨p,hp,Kj⟩) (by simp)
    simp only[a7 hi]
    have e1:mP m=.tup (m.map DC):=rfl
    have e2:GB slot pat i=.tup [.int slot,.int pat,.int i]:=rfl
    rw[e1,e2] at lp ⊢
    rw[e1] at he
    have JJ:¬ (i:Int)=0:=by omega
    simp at lp
    simp[dI,lZ,he,hq,h1,DC,UN,lp,hi,JJ]
abbrev C3:=Nat×Nat×Nat
noncomputable def YA (s:Slot)(slot k i:Nat)(p:Str)(ends:Bool):Option C3:=if i+1 < p.length then some (slot,k,i+1) else if (s.2&&!ends)=true then none else some (slot+1,0,0)
noncomputable def Na (s:Slot)(slot i:Nat)(mark:Str)(ends:Bool)(k:Nat):List (Nat×C3):=
 if C7 (gQ (s.1.getD k ⟨#[]⟩) i) mark=true then (YA s slot k i (s.1.getD k ⟨#[]⟩) ends).toList.map λt=>(k,t) else []
noncomputable def cj (m:rX)(t:C3)(mark:Str)(ends:Bool):List (Nat×C3):=match m[t.1]? with
 | none=>[]
 | some s=>if t.2.2=0 then (List.range s.1.length).flatMap (Na s t.1 0 mark ends) else Na s t.1 t.2.2 mark ends t.2.1
noncomputable def FV (j k:Nat)(p:Str):List C3:=(List.range (p.length - 1)).map λi=>(j,k,1+i)
noncomputable def lM (j:Nat)(s:Slot):List C3:=(j,0,0)::s.1.zipIdx.flatMap λy=>FV j y.2 y.1
noncomputable def HC (m:rX):List C3:=m.zipIdx.flatMap λy=>lM y.2 y.1
noncomputable def VE (m:rX)(mark:Str)(e:Bool):List (C3×C3):=(HC m).flatMap λt=>(cj m t mark e).map λy=>(t,y.2)
noncomputable def F2 (m:rX)(o:Nat)(e:Bool)(f:C3->Int)(t:C3):Int:=if o=3 then f t else ((VE m (bF o) e).map λy=>if y.1=t then f y.2 else 0).sum
noncomputable def HU (m:rX)(x:List Nat×Bool)(f:C3->Int)(t:C3):Int:=(x.1.map λo=>F2 m o x.2 f t).sum
noncomputable def fin (m:rX)(t:C3):Int:=if t=(m.length,0,0) then 1 else 0
noncomputable def cnt (m:rX)(O:List (List Nat×Bool)):C3->Int:=O.foldr (HU m) (fin m)
theorem cnt_nil (m:rX):cnt m []=fin m:=rfl
theorem cnt_cons (m:rX)(x:List Nat×Bool)(O:List (List Nat×Bool)):cnt m (x::O)=HU m x (cnt m O):=rfl
theorem wW (m:rX)(A B:List (List Nat×Bool)):cnt m (A++B)=A.foldr (HU m) (cnt m B):=by unfold cnt;rw[List.foldr_append]
theorem wX {α:Type}(f g:α->Int):∀l:List α,(l.map λa=>f a+g a).sum=(l.map f).sum+(l.map g).sum
 | []=>rfl
 | a::l=>by simp only[ap,dS,wX f g l];omega
theorem oM {α:Type}:∀l:List α,(l.map λ_=>(0:Int)).sum=0
 | []=>rfl
 | _::l=>by simp[oM l]
theorem vM {α:Type}{f:α->Int}:∀{l:List α},(∀a∈l,0<=f a)->0<=(l.map f).sum
 | [],_=>og _
 | a::l,h=>by
  have h1:=h a ah
  have h2:=vM (f:=f) (l:=l) λb hb=>h b (ag _ hb)
  simp only[ap,dS];omega
theorem Il {α:Type}{f g:α->Int}:∀{l:List α},(∀a∈l,f a<=g a)->(l.map f).sum<=(l.map g).sum
 | [],_=>og _
 | a::l,h=>by
  have h1:=h a ah
  have h2:=Il (f:=f) (g:=g) (l:=l) λb hb=>h b (ag _ hb)
  simp only[ap,dS];omega
theorem Im {α:Type}{f:α->Int}{a:α}:∀{l:List α},(∀a∈l,0<=f a)->a∈l->f a<=(l.map f).sum
 | b::l,h,ha=>by
  have h1:=h b ah
  have h2:=vM (f:=f) (l:=l) λb hb=>h b (ag _ hb)
  simp only[ap,dS]
  rcases av.mp ha with rfl | ha
  ·omega
  ·have:=Im (f:=f) (l:=l) (λb hb=>h b (ag _ hb)) ha
   omega
theorem Pk (m:rX)(o:Nat)(e:Bool)(f g:C3->Int)(t:C3):F2 m o e (λt=>f t+g t) t=F2 m o e f t+F2 m o e g t:=by
 unfold F2
 split
 ·rfl
 ·rw[← wX]
  congr 1
  refine ci λy _=>?_
  split <;> simp
theorem K5 (m:rX)(o:Nat)(e:Bool)(t:C3):F2 m o e (λ_=>0) t=0:=by
 unfold F2
 split
 ·rfl
 ·have:(λy:C3×C3=>if y.1=t then (0:Int) else 0)=λ_=>0:=by funext y;split <;> rfl
  rw[this,oM]
theorem Pn (m:rX)(x:List Nat×Bool)(f g:C3->Int)(t:C3):HU m x (λt=>f t+g t) t=HU m x f t+HU m x g t:=by
 unfold HU
 rw[← wX]
 congr 1
 exact ci λo _=>Pk m o x.2 f g t
theorem K6 (m:rX)(x:List Nat×Bool)(t:C3):HU m x (λ_=>0) t=0:=by
 unfold HU
 have:(λo=>F2 m o x.2 (λ_=>0) t)=λ_=>(0:Int):=by funext o;exact K5 m o x.2 t
 rw[this,oM]
theorem Dw (m:rX)(x:List Nat×Bool){α:Type}(F:α->C3->Int)(t:C3):∀L:List α,HU m x (λt=>(L.map λo=>F o t).sum) t=(L.map λo=>HU m x (F o) t).sum
 | []=>K6 m x t
 | a::L=>by
  have e:(λt=>((a::L).map λo=>F o t).sum)=λt=>F a t+(L.map λo=>F o t).sum:=by funext t;simp
  rw[e,Pn,Dw m x F t L]
  simp
theorem Ax (m:rX){α:Type}(F:α->C3->Int)(L:List α):∀(A:List (List Nat×Bool)) (t:C3),A.foldr (HU m) (λt=>(L.map λo=>F o t).sum) t=(L.map λo=>A.foldr (HU m) (F o) t).sum
 | [],t=>rfl
 | x::A,t=>by
  rw[List.foldr_cons]
  have e:A.foldr (HU m) (λt=>(L.map λo=>F o t).sum)=λt=>(L.map λo=>A.foldr (HU m) (F o) t).sum:=by funext u;exact Ax m F L A u
  rw[e,Dw]
  rfl
theorem Io (m:rX)(A B:List (List Nat×Bool))(os:gV)(e:Bool)(t:C3):cnt m (A++(os,e)::B) t=(os.map λo=>cnt m (A++([o],e)::B) t).sum:=by
 rw[wW,cnt_cons]
 have e1:HU m (os,e) (cnt m B)=λt=>(os.map λo=>F2 m o e (cnt m B) t).sum:=rfl
 rw[e1,Ax]
 congr 1
 refine ci λo _=>?_
 have e2:HU m ([o],e) (cnt m B)=F2 m o e (cnt m B):=by funext u;simp[HU]
 rw[wW,cnt_cons,e2]
variable {e:Bool}{f:C3->Int}
theorem T8 (h:∀t,0<=f t)(t:C3):0<=F2 m o e f t:=by
 unfold F2
 split
 ·exact h t
 ·exact vM λy _=>by split;exact h _;exact og _
theorem Ip (m:rX):∀(O:List (List Nat×Bool)) (t:C3),0<=cnt m O t
 | [],t=>by rw[cnt_nil];unfold fin;split <;> omega
 | x::O,t=>by rw[cnt_cons];exact vM λo _=>T8 (Ip m O) t
theorem GN {k:Nat}{t:C3}:t∈FV j k p↔∃i,1<=i/\i < p.length/\t=(j,k,i):=by
 unfold FV
 rw[dc]
 constructor
 ·rintro ⟨i,hi,rfl⟩
  rw[b6] at hi
  exact⟨1+i,by omega,by omega,rfl⟩
 ·rintro ⟨i,h1,h2,rfl⟩
  exact⟨i - 1,by rw[b6];omega,by rw[show 1+(i - 1)=i by omega]⟩
theorem IB {t:C3}:t∈lM j s↔t=(j,0,0)\/∃k p i,s.1[k]?=some p/\1<=i/\i < p.length/\t=(j,k,i):=by
 unfold lM
 rw[av,kf]
 refine or_congr Iff.rfl ⟨?_,?_⟩
 ·rintro ⟨⟨p,k⟩,hy,ht⟩
  obtain⟨i,h1,h2,rfl⟩:=GN.mp ht
  exact⟨k,p,i,by simpa using ia.mp hy,h1,h2,rfl⟩
 ·rintro ⟨k,p,i,hk,h1,h2,rfl⟩
  exact⟨(p,k),ia.mpr hk,GN.mpr ⟨i,h1,h2,rfl⟩⟩
theorem EW {t:C3}:t∈HC m↔∃s,m[t.1]?=some s/\(t.2=(0,0)\/∃p,s.1[t.2.1]?=some p/\1<=t.2.2/\t.2.2 < p.length):=by
 unfold HC
 rw[kf]
 constructor
 ·rintro ⟨⟨s,j⟩,hy,ht⟩
  have hj:m[j]?=some s:=by simpa using ia.mp hy
  rcases IB.mp ht with rfl | ⟨k,p,i,hk,h1,h2,rfl⟩
  ·exact⟨s,hj,.inl rfl⟩
  ·exact⟨s,hj,.inr ⟨p,hk,h1,h2⟩⟩
 ·rintro ⟨s,hs,h⟩
  obtain⟨j,k,i⟩:=t
  refine⟨(s,j),ia.mpr hs,IB.mpr ?_⟩
  rcases h with h | ⟨p,h1,h2,h3⟩
  ·cases h;exact .inl rfl
  ·exact .inr ⟨k,p,i,h1,h2,h3,rfl⟩
theorem Pq (j k:Nat)(p:Str):(FV j k p).Nodup:=by
 unfold FV
 rw[kK,List.pairwise_map]
 refine(kK.mp List.nodup_range).imp λh e=>h ?_
 have:=b9 (λt:C3=>t.2.2) e
 simp at this
 exact this
theorem wY {α β:Type}(f:α->Nat->List β)(c:β->Nat):∀(l:List α) (k:Nat),(∀a n,(f a n).Nodup)->(∀a n b,b∈f a n->c b=n)->((l.zipIdx k).flatMap λy=>f y.1 y.2).Nodup
 | [],k,_,_=>by simp
 | a::l,k,h1,h2=>by
  rw[oC,hJ,kw]
  refine⟨h1 a k,wY f c l (k+1) h1 h2,λx hx y hy e=>?_⟩
  subst e
  obtain⟨⟨a',n⟩,hz,hb⟩:=kf.mp hy
  have h3:=h2 _ _ _ hx
  have h4:=h2 _ _ _ hb
  have h5:=List.mem_zipIdx hz
  dsimp only at h4 h5
  omega
theorem Pr (j:Nat)(s:Slot):(lM j s).Nodup:=by
 unfold lM
 rw[cr]
 refine⟨λh=>?_,wY (λp k=>FV j k p) (λt=>t.2.1) s.1 0 (λp k=>Pq j k p) λp k t ht=>by obtain⟨i,_,_,rfl⟩:=GN.mp ht;rfl⟩
 obtain⟨y,_,ht⟩:=kf.mp h
 obtain⟨i,h1,_,e⟩:=GN.mp ht
 have:=b9 (λt:C3=>t.2.2) e
 simp at this
 omega
theorem T9 (m:rX):(HC m).Nodup:=wY (λs j=>lM j s) (λt=>t.1) m 0 (λs j=>Pr j s) λs j t ht=>by
 rcases IB.mp ht with rfl | ⟨k,p,i,_,_,_,rfl⟩ <;> rfl
theorem uP {f:C3->Int}{t:C3}:∀{l:List C3},l.Nodup->(l.map λu=>if u=t then f u else 0).sum=if t∈l then f t else 0
 | [],_=>by simp
 | a::l,h=>by
  rw[cr] at h
  rw[ap,dS,uP h.2]
  by_cases e:a=t
  ·subst e;simp[h.1]
  ·have:¬ t=a:=λz=>e z.symm
   simp[e,this]
theorem uQ {α β:Type}(f:α->List β)(g:β->Int):∀l:List α,((l.flatMap f).map g).sum=(l.map λa=>((f a).map g).sum).sum
 | []=>rfl
 | a::l=>by simp[hJ,uQ f g l]
theorem Ir {t:C3}(h:o≠3):F2 m o e f t=if t∈HC m then ((cj m t (bF o) e).map λy=>f y.2).sum else 0:=by
 unfold F2 VE
 rw[a7 h,uQ]
 have e1:(λa:C3=>(((cj m a (bF o) e).map λy=>(a,y.2)).map λy=>if y.1=t then f y.2 else 0).sum)=λa=>if a=t then ((cj m a (bF o) e).map λy=>f y.2).sum else 0:=by
  funext a
  rw[de]
  by_cases q:a=t
  ·subst q;simp[Function.comp_def]
  ·simp only[Function.comp_def,a7 q];exact oM _
 rw[e1,uP (f:=λa=>((cj m a (bF o) e).map λy=>f y.2).sum) (T9 m)]
noncomputable def cs (m:rX):List Sg->C3->Int
 | [],t=>fin m t
 | b::R,t=>if t∈HC m then ((cj m t b.1 b.2).map λy=>cs m R y.2).sum else 0
theorem Ay {m:rX}:∀(S:gV) (es:List Bool) (t:C3),cnt m ((S.map λi=>[i]).zip es) t=cs m (aR S es) t
 | [],es,t=>by simp[aR,cs,cnt_nil]
 | i::S,[],t=>by simp[aR,cs,cnt_nil]
 | i::S,e::es,t=>by
  rw[ap,f8,cnt_cons]
  have h1:HU m ([i],e) (cnt m ((S.map λi=>[i]).zip es)) t=F2 m i e (cnt m ((S.map λi=>[i]).zip es)) t:=by simp[HU]
  have h2:cnt m ((S.map λi=>[i]).zip es)=cs m (aR S es):=by funext u;exact Ay S es u
  rw[h1,h2]
  by_cases h3:i=3
  ·subst h3
   have:aR (3::S) (e::es)=aR S es:=by simp[aR]
   rw[this];simp[F2]
  ·have:aR (i::S) (e::es)=(bF i,e)::aR S es:=by simp[aR,h3]
   rw[this,Ir h3]
   rfl
noncomputable def MA (m:rX)(j:Nat):List Sg->List Sg->Int
 | [],R=>cs m R (j+1,0,0)
 | _::_,[]=>0
 | a::A,b::R=>if (C7 a.1 b.1&&(!a.2||b.2))=true then MA m j A R else 0
theorem Iu {m:rX}{j:Nat}:∀(A R:r9),MA m j A R=if EH A (R.take A.length)=true then cs m (R.drop A.length) (j+1,0,0) else 0
 | [],R=>by simp[MA,EH]
 | a::A,[]=>by simp[MA,EH]
 | a::A,b::R=>by
  rw[MA,Iu A R]
  cases h:(C7 a.1 b.1&&(!a.2||b.2)) <;> simp[EH,h]
theorem pQ (s:Slot)(p:Str)(h:i < p.length):(bW s p).drop i=(gQ p i,s.2&&decide (i+1=p.length))::(bW s p).drop (i+1):=by
 have hl:i < (bW s p).length:=by rw[eX];exact h
 rw[eJ hl]
 congr 1
 simp[bW]
theorem Az {k:Nat}{b:Sg}(hk:s.1[k]?=some p)(hi:i < p.length)(ih:i+1 < p.length->cs m R (j,k,i+1)=MA m j ((bW s p).drop (i+1)) R):
  ((Na s j i b.1 b.2 k).map λy=>cs m R y.2).sum=MA m j ((bW s p).drop i) (b::R):=by
 rw[pQ s p hi,MA]
 unfold Na YA
 rw[wV hk]
 cases F6:C7 (gQ p i) b.1 with
 | false=>simp
 | true=>
  by_cases DS:i+1 < p.length
  ·have:¬ i+1=p.length:=by omega
   simp[DS,this,ih DS]
  ·have he:i+1=p.length:=by omega
   have hd:(bW s p).drop (i+1)=[]:=by rw[qv,eX];omega
   rw[hd]
   cases hc:s.2 <;> cases hb:b.2 <;> simp[he,MA]
theorem Iv {m:rX}{j k:Nat}{s:Slot}{p:Str}(hs:m[j]?=some s)(hk:s.1[k]?=some p):∀(R:r9) (i:Nat),1<=i->i < p.length->cs m R (j,k,i)=MA m j ((bW s p).drop i) R
 | [],i,h1,h2=>by
  rw[pQ s p h2,MA,cs,fin,a7]
  intro z
  have:=b9 (λt:C3=>t.2.2) z
  simp at this
  omega
 | b::R,i,h1,h2=>by
  rw[cs,be (EW.mpr ⟨s,hs,.inr ⟨p,hk,h1,h2⟩⟩)]
  unfold cj
  rw[hs]
  dsimp only
  rw[a7 (by omega)]
  exact Az hk h2 λh3=>Iv hs hk R (i+1) (by omega) h3
theorem Pu (hs:m[j]?=some s)(ok:D3 s.1)(R:r9):cs m R (j,0,0)=(s.1.map λp=>if fit p s.2 (R.take p.length)=true then cs m (R.drop p.length) (j+1,0,0) else 0).sum:=by
 have e0:∀p∈s.1,(if fit p s.2 (R.take p.length)=true then cs m (R.drop p.length) (j+1,0,0) else 0)=MA m j (bW s p) R:=λp hp=>by
  rw[Iu,Ar (ok.ok p hp),eX]
 rw[ci e0]
 have hj:j < m.length:=(aw.mp hs).1
 cases R with
 | nil=>
  rw[cs,fin,a7 (λz=>by have:=b9 (λt:C3=>t.1) z;simp at this;omega)]
  have e1:∀p∈s.1,MA m j (bW s p) []=0:=λp hp=>by
   have h:=(ok.ok p hp).ge
   have:=pQ s p (i:=0) (by omega)
   rw[fR] at this
   rw[this,MA]
  rw[ci e1,oM]
 | cons b R=>
  rw[cs,be (EW.mpr ⟨s,hs,.inl rfl⟩)]
  unfold cj
  rw[hs]
  dsimp only
  rw[be rfl,uQ]
  have e2:s.1=(List.range s.1.length).map λk=>s.1.getD k ⟨#[]⟩:=by
   refine kB λi=>?_
   by_cases h:i < s.1.length
   ·simp[h]
   ·simp[h]
  conv=>rhs;rw[e2]
  rw[de]
  congr 1
  refine ci λk hk=>?_
  rw[b6] at hk
  have hp:s.1[k]?=some (s.1.getD k ⟨#[]⟩):=by rw[a8,al hk];rfl
  have okp:=ok.ok _ (ax hp)
  have:=Az (m:=m) (j:=j) (b:=b) (R:=R) hp (i:=0) (by have:=okp.ge;omega) λh=>Iv hs hp R 1 (by omega) h
  rw[fR] at this
  exact this
theorem T_ (R:r9):cs m R (m.length,0,0)=if R=[] then 1 else 0:=by
 cases R with
 | nil=>simp[cs,fin]
 | cons b R=>
  rw[cs,a7 (λz=>by obtain⟨s,h,_⟩:=EW.mp z;simp at h)]
  simp
theorem Dy {m:rX}(hm:bw m){R:r9}:∀(n j a:Nat),m.length - j=n->j<=m.length->a<=R.length->cs m (R.drop a) (j,0,0)=D6 R (m.drop j) a
 | 0,j,a,h,hj,ha=>by
  have e:j=m.length:=by omega
  subst e
  rw[T_,kR]
  unfold D6
  have:R.drop a=[]↔a=R.length:=by rw[qv];omega
  simp[this]
 | n+1,j,a,h,hj,ha=>by
  have DS:j < m.length:=by omega
  have hs:m[j]?=some m[j]:=al DS
  have ok:=hm _ (eR DS)
  rw[Pu hs ok,eJ DS]
  unfold D6
  congr 1
  refine ci λp hp=>?_
  show (if fit p m[j].2 ((R.drop a).take p.length)=true then _ else _)=if fit p m[j].2 (seg R a p.length)=true then _ else _
  by_cases hf:fit p m[j].2 (seg R a p.length)=true
  ·have hle:=fit_le (ok.ok p hp) hf
   rw[be hf,be (show fit p m[j].2 ((R.drop a).take p.length)=true from hf),qr]
   exact Dy hm n (j+1) (a+p.length) (by omega) DS hle
  ·rw[a7 hf,a7 (show ¬ fit p m[j].2 ((R.drop a).take p.length)=true from hf)]
theorem Dz (hm:bw m)(R:r9):cs m R (0,0,0)=D6 R m 0:=by
 have:=Dy hm (R:=R) m.length 0 0 rfl (c6 _) (c6 _)
 simpa using this
noncomputable def bG (t:C3):PV:=GB t.1 t.2.1 t.2.2
noncomputable def eY (y:C3×C3):PV:=.tup [bG y.1,bG y.2]
noncomputable def NW (y:Nat×C3):PV:=.tup [.int (y.1:Nat),bG y.2]
theorem Mu (s:Slot)(slot i:Nat)(mark:Str)(ends:Bool)(k:Nat):OV s slot i mark ends k=(Na s slot i mark ends k).map NW:=by
 unfold OV Na VC YA
 generalize s.1.getD k ⟨#[]⟩=p
 cases h1:C7 (gQ p i) mark <;> by_cases h2:i+1 < p.length <;> cases h3:(s.2&&!ends) <;> simp[h2,NW,bG,GB]
theorem Mv (m:rX)(t:C3)(mark:Str)(ends:Bool):mvs m t.1 t.2.1 t.2.2 mark ends=(cj m t mark ends).map NW:=by
 unfold mvs cj
 split
 ·rename_i h;(try simp only[h]);rfl
 ·rename_i s h
  try simp only[h]
  split
  ·rename_i h0
   rw[h0,List.map_flatMap]
   congr 1
   funext k
   exact Mu s t.1 0 mark ends k
  ·exact Mu s t.1 t.2.2 mark ends t.2.1
theorem uR (j k:Nat)(p:Str):(FV j k p).length=p.length - 1:=by simp[FV]
theorem K7 {y:Str×Nat}{L:List C3}(ok:Ee y.1)(hL:L.length < 9000):
  turn (gT [4,5]) [4,5] gY (.tup [.int (y.2:Nat),.str y.1]) [some M,some (.lst (L.map bG)),some (.int j),some (DC s),none,none]=some [some M,some (.lst ((L++FV j y.2 y.1).map bG)),some (.int j),some (DC s),none,none]:=by
 obtain⟨p,k⟩:=y
 have ok:Ee p:=ok
 have h1:JE ((p.length:Nat):Int)=true:=jg (by omega) (by have:=ok.le;omega)
 have h0:JE 1=true:=jg (by omega) (by omega)
 have h2:eQ [none,some (.int j),some (.int k)] (gN 0) fU lE (dj 1 (p.length:Int))=some ((FV j k p).map bG):=by
  have e:dj 1 (p.length:Int)=(List.range (p.length - 1)).map λi=>PV.int (1+(i:Nat)):=by
   unfold dj
   have:((p.length:Int) - 1).toNat=p.length - 1:=by omega
   rw[this]
  rw[e]
  unfold FV
  rw[de]
  exact gn _ _ _ λi _=>⟨[some (.int (1+(i:Nat))),some (.int j),some (.int k)],rfl,by simp[lE,bG,GB]⟩
 have h3:p.length<=1000000:=by have:=ok.le;omega
 have h4:(dj 1 (p.length:Int)).length<=1000000:=by
  unfold dj
  rw[af,i8]
  have:=ok.le;omega
 have h5:L.length+(FV j k p).length<=1000000:=by rw[uR];have:=ok.le;omega
 simp[aY,gY,h0,h1,h2,h3,h4,h5,DC,j6]
theorem Px (ok:D3 s.1){L:List C3}(hL:L.length < 8000):
  bM (gT [4,5]) [4,5] gY (fQ 0 (s.1.map .str)) [some M,some (.lst (L.map bG)),some (.int j),some (DC s),none,none]=some (.nx [some M,some (.lst ((L++s.1.zipIdx.flatMap λy=>FV j y.2 y.1).map bG)),some (.int j),some (DC s),none,none]):=by
 have en:fQ 0 (s.1.map .str)=s.1.zipIdx.map λy:Str×Nat=>PV.tup [.int (y.2:Nat),.str y.1]:=jl _ _ _
 rw[en]
 obtain⟨L',⟨d,e1,e2,e3⟩,h⟩:=bz (g:=gT [4,5]) (ds:=[4,5]) (body:=gY) (λy:Str×Nat=>PV.tup [.int (y.2:Nat),.str y.1]) (λL:List C3=>[some M,some (.lst (L.map bG)),some (.int j),some (DC s),none,none])
  (λr L'=>∃d,s.1.zipIdx=d++r/\L'=(L++d.flatMap λy=>FV j y.2 y.1)/\L'.length<=L.length+4*d.length)
  (by
   rintro y r L' ⟨d,e1,e2,e3⟩
   have hm:y∈s.1.zipIdx:=by rw[e1];simp
   have okp:Ee y.1:=ok.ok _ (kL hm)
   have hd:d.length+r.length+1=s.1.length:=by have:=b9 List.length e1;simp at this;omega
   have h4:=ok.le
   refine⟨L'++FV j y.2 y.1,⟨d++[y],by rw[e1];simp,by rw[e2];simp,?_⟩,K7 okp (by omega)⟩
   have:=uR j y.2 y.1
   have:=okp.le
   simp;omega)
  s.1.zipIdx L ⟨[],rfl,by simp,by simp⟩
 rw[bq] at e1
 rw[h,e2,← e1]
theorem K8 (j:Nat)(ok:D3 s.1):(lM j s).length<=17:=by
 unfold lM
 have:∀(l:List (Str×Nat)),(∀y∈l,Ee y.1)->(l.flatMap λy=>FV j y.2 y.1).length<=4*l.length:=λl=>by
  induction l with
  | nil=>simp
  | cons y l ih=>
   intro h
   have h1:=ih λz hz=>h z (ag _ hz)
   have h2:=(h y ah).le
   have h3:=uR j y.2 y.1
   rw[hJ,aS,bg]
   omega
 have h1:=this s.1.zipIdx λy hy=>ok.ok _ (kL hy)
 have h2:=ok.le
 rw[List.length_zipIdx] at h1
 rw[bg]
 omega
theorem xY (hm:bw m)(hl:m.length < 100):kh [mP m]=some (.lst ((HC m).map bG))/\(HC m).length<=17*m.length:=by
 have en:fQ 0 (m.map DC)=m.zipIdx.map λy:Slot×Nat=>PV.tup [.int (y.2:Nat),DC y.1]:=jl _ _ _
 obtain⟨L',⟨d,e1,e2,e3⟩,h⟩:=bz (g:=gT [2,3]) (ds:=[2,3,4,5]) (body:=lF) (λy:Slot×Nat=>PV.tup [.int (y.2:Nat),DC y.1]) (λL:List C3=>[some (mP m),some (.lst (L.map bG)),none,none,none,none])
  (λr L'=>∃d,m.zipIdx=d++r/\L'=(d.flatMap λy=>lM y.2 y.1)/\L'.length<=17*d.length)
  (by
   rintro y r L' ⟨d,e1,e2,e3⟩
   have hmm:y∈m.zipIdx:=by rw[e1];simp
   have ok:D3 y.1.1:=hm _ (kL hmm)
   have hd:d.length+r.length+1=m.length:=by have:=b9 List.length e1;simp at this;omega
   have h4:=K8 y.2 ok
   refine⟨L'++lM y.2 y.1,⟨d++[y],by rw[e1];simp,by rw[e2];simp,by simp;omega⟩,?_⟩
   have h5:=Px (M:=mP m) (j:=y.2) ok (L:=L'++[(y.2,0,0)]) (by simp;omega)
   have e5:(L'++[(y.2,0,0)]).map bG=L'.map bG++[.tup [.int (y.2:Nat),.int 0,.int 0]]:=by simp[bG,GB]
   rw[e5] at h5
   have e6:L'++[(y.2,0,0)]++(y.1.1.zipIdx.flatMap λz=>FV y.2 z.2 z.1)=L'++lM y.2 y.1:=by simp[lM]
   rw[e6] at h5
   have hl':L'.length < 1000000:=by omega
   obtain⟨⟨ps,c⟩,j⟩:=y
   dsimp only at h5 ⊢
   simp only[DC] at h5
   generalize (L'++lM j (ps,c)).map bG=R at *
   simp[aY,lF,DC,hl',h5])
  m.zipIdx [] ⟨[],rfl,rfl,by simp⟩
 rw[bq] at e1
 have e7:L'=HC m:=by rw[e2,← e1];rfl
 subst e7
 refine⟨?_,by rw[← e1] at e3;simpa using e3⟩
 simp only[ed] at h
 simp[kh,sW,mP] at h ⊢
 simp[en,h]
theorem A_ (m:rX)(hm:bw m)(t:C3)(mark:Str)(e:Bool):(cj m t mark e).length<=4:=by
 have h1:∀(s:Slot) (slot i k:Nat),(Na s slot i mark e k).length<=1:=λs slot i k=>by
  unfold Na
  split
  ·cases YA s slot k i (s.1.getD k ⟨#[]⟩) e <;> simp
  ·simp
 unfold cj
 split
 ·simp
 ·rename_i s h
  have ok:=hm s (ax h)
  split
  ·have:∀l:List Nat,(l.flatMap (Na s t.1 0 mark e)).length<=l.length:=λl=>by
    induction l with
    | nil=>simp
    | cons k l ih=>have:=h1 s t.1 0 k;rw[hJ,aS,bg];omega
   have h2:=this (List.range s.1.length)
   have h3:=ok.le
   rw[i8] at h2
   omega
  ·have:=h1 s t.1 t.2.2 t.2.1;omega
theorem Iw {t:C3}(h:t∈HC m):ZQ m t.1 t.2.1 t.2.2:=by
 obtain⟨s,hs,h⟩:=EW.mp h
 have DS:=(aw.mp hs).1
 refine⟨by omega,λz=>by omega,λs' HA=>?_⟩
 rw[hs] at HA
 cases HA
 rcases h with h | ⟨p,h1,h2,h3⟩
 ·rw[h];exact .inl ⟨rfl,rfl⟩
 ·exact .inr ⟨p,h1,by omega,h3⟩
theorem q_ (hm:bw m)(hl:m.length < 100)(mark:Str)(e:Bool):eZ [mP m,.str mark,.bl e]=some (.lst ((VE m mark e).map eY))/\(VE m mark e).length<=68*m.length:=by
 obtain⟨h1,h2⟩:=xY hm hl
 obtain⟨L',⟨d,e1,e2,e3⟩,h⟩:=bz (g:=gN 4) (ds:=[4]) (body:=mO) bG (λL:List (C3×C3)=>[some (mP m),some (.str mark),some (.bl e),some (.lst (L.map eY)),none])
  (λr L'=>∃d,HC m=d++r/\L'=(d.flatMap λt=>(cj m t mark e).map λy=>(t,y.2))/\L'.length<=4*d.length)
  (by
   rintro t r L' ⟨d,e1,e2,e3⟩
   have hmm:t∈HC m:=by rw[e1];simp
   have hd:d.length+r.length+1=(HC m).length:=by have:=b9 List.length e1;simp at this;omega
   have h3:=Aw hm (by omega) (Iw hmm) mark e
   rw[Mv] at h3
   have h4:=A_ m hm t mark e
   refine⟨L'++(cj m t mark e).map λy=>(t,y.2),⟨d++[t],by rw[e1];simp,by rw[e2];simp,by simp;omega⟩,?_⟩
   have h5:eQ [none,none,some (bG t)] (gT [0,1]) fU mL ((cj m t mark e).map NW)=some (((cj m t mark e).map λy=>(t,y.2)).map eY):=by
    rw[de]
    exact gn _ _ _ λy _=>⟨[some (.int (y.1:Nat)),some (bG y.2),some (bG t)],rfl,by simp[mL,eY]⟩
   have h6:L'.length+((cj m t mark e).map λy=>(t,y.2)).length<=1000000:=by rw[af];omega
   have h7:((cj m t mark e).map NW).length<=1000000:=by rw[af];omega
   have h3:dI [mP m,bG t,.str mark,.bl e]=some (.lst ((cj m t mark e).map NW)):=h3
   rw[cS]
   have h8:(L'.map eY).length+(((cj m t mark e).map λy=>(t,y.2)).map eY).length<=1000000:=by simpa using h6
   generalize ((cj m t mark e).map λy=>(t,y.2)).map eY=R,(cj m t mark e).map NW=V,L'.map eY=W,bG t=S,mP m=M at *
   simp[aY,mO,h3,h5,h7,h8,j6])
  (HC m) [] ⟨[],rfl,rfl,by simp⟩
 rw[bq] at e1
 have e7:L'=VE m mark e:=by rw[e2,← e1];rfl
 subst e7
 refine⟨?_,by rw[← e1] at e3;omega⟩
 simp only[ed] at h
 simp[eZ,uy,h1,h]
noncomputable def kS (t:C3):List Key:=[.inl (t.1:Nat),.inl (t.2.1:Nat),.inl (t.2.2:Nat)]
theorem L5 {t u:C3}:kS t=kS u↔t=u:=by
 obtain⟨a,b,c⟩:=t
 obtain⟨d,e,f⟩:=u
 simp[kS]
 omega
abbrev Dc:=List (C3×Int)
noncomputable def dE (y:C3×Int):List Key×PV:=(kS y.1,.int y.2)
noncomputable def dP (d:Dc):PV:=.dT (d.map dE)
noncomputable def ks (d:Dc):List C3:=d.map (·.1)
noncomputable def look (d:Dc)(t:C3):Option Int:=(d.find? λy=>decide (y.1=t)).map (·.2)
noncomputable def val (d:Dc)(t:C3):Int:=(look d t).getD 0
def jx (d:Dc)(t:C3)(v:Int):Dc:=if t∈ks d then d.map λy=>if y.1=t then (t,v) else y else d++[(t,v)]
theorem qH (t:C3):∀d:Dc,dg (d.map dE) (kS t)=(look d t).map .int
 | []=>rfl
 | y::d=>by
  have ih:=qH t d
  unfold dg look at ih ⊢
  rw[ap,eP,eP]
  by_cases h:y.1=t
  ·subst h;simp[dE]
  ·have h':¬ (dE y).1=kS t:=λz=>h (L5.mp z)
   simp only[ba h,ba h']
   exact ih
theorem iu {t:C3}:∀{d:Dc},(look d t).isSome=decide (t∈ks d)
 | []=>by simp[look,ks]
 | y::d=>by
  have ih:=iu (t:=t) (d:=d)
  unfold look ks at ih ⊢
  rw[eP]
  by_cases h:y.1=t
  ·subst h;simp
  ·have h':¬ t=y.1:=λz=>h z.symm
   simp only[ba h,ap,av,h',false_or]
   exact ih
variable {d:Dc}
theorem Ba {t:C3}(h:t∉ks d):val d t=0:=by
 have:=iu (d:=d) (t:=t)
 rw[ba h] at this
 unfold val
 cases q:look d t with
 | none=>rfl
 | some v=>rw[q] at this;cases this
theorem K9 (d:Dc)(t:C3)(v:Int)(u:C3)(h:t∉ks d):look (d++[(t,v)]) u=if u=t then some v else look d u:=by
 unfold look
 rw[List.find?_append]
 by_cases e:u=t
 ·subst e
  have:d.find? (λy=>decide (y.1=u))=none:=by
   rw[List.find?_eq_none]
   intro y hy
   simp only[eD]
   exact λz=>h (z▸qS hy)
  simp[this]
 ·have e':¬ t=u:=λz=>e z.symm
  simp[e,e']
theorem uT (t:C3)(v:Int)(u:C3):∀d:Dc,t∈ks d->look (d.map λy=>if y.1=t then (t,v) else y) u=if u=t then some v else look d u
 | [],h=>by simp[ks] at h
 | y::d,h=>by
  unfold look
  rw[ap,eP,eP]
  by_cases hy:y.1=t
  ·rw[be hy]
   by_cases e:u=t
   ·subst e;simp
   ·have e1:¬ t=u:=λz=>e z.symm
    have e2:¬ y.1=u:=λz=>e1 (hy.symm.trans z)
    simp only[ba e1,ba e2,a7 e]
    by_cases hm:t∈ks d
    ·have:=uT t v u d hm
     unfold look at this
     rw[this,a7 e]
    ·have:(d.map λy=>if y.1=t then (t,v) else y)=d:=by
      conv=>rhs;rw[← rj d]
      refine ci λz hz=>?_
      have KW:¬ z.1=t:=λw=>hm (w▸qS hz)
      rw[a7 KW]
      rfl
     rw[this]
  ·rw[a7 hy]
   have hm:t∈ks d:=by
    unfold ks at h ⊢
    rw[ap,av] at h
    exact h.resolve_left λz=>hy z.symm
   have ih:=uT t v u d hm
   unfold look at ih
   by_cases e2:y.1=u
   ·have e:¬ u=t:=λz=>hy (e2.trans z)
    simp[e2,e]
   ·simp only[ba e2]
    exact ih
theorem K_ (d:Dc)(t:C3)(v:Int)(u:C3):look (jx d t v) u=if u=t then some v else look d u:=by
 unfold jx
 split
 ·rename_i h;exact uT t v u d h
 ·rename_i h;exact K9 d t v u h
theorem Py (d:Dc)(t:C3)(v:Int)(u:C3):val (jx d t v) u=if u=t then v else val d u:=by
 unfold val
 rw[K_]
 split <;> rfl
theorem Iz (d:Dc)(t:C3)(v:Int):ks (jx d t v)=if t∈ks d then ks d else ks d++[t]:=by
 unfold jx
 split
 ·unfold ks
  rw[de]
  refine ci λy _=>?_
  show (if y.1=t then (t,v) else y).1=y.1
  split
  ·rename_i h;exact h.symm
  ·rfl
 ·unfold ks;simp
theorem Ua (d:Dc)(t:C3)(v:Int):pM (d.map dE) (kS t) (.int v)=(jx d t v).map dE:=by
 unfold pM jx
 have e:((d.map dE).any λkv=>decide (kv.1=kS t))=decide (t∈ks d):=by
  rw[List.any_map]
  have:(decide (t∈ks d))=d.any λy=>decide (y.1=t):=by
   rw[iO,eD,List.any_eq_true]
   unfold ks
   rw[dc]
   exact⟨λ⟨y,hy,e⟩=>⟨y,hy,bP e⟩,λ⟨y,hy,e⟩=>⟨y,hy,gg e⟩⟩
  rw[this]
  congr 1
  funext y
  simp only[qV,dE]
  exact decide_eq_decide.mpr L5
 rw[e]
 by_cases h:t∈ks d
 ·rw[be (bP h),be h,de,de]
  refine ci λy _=>?_
  simp only[qV]
  by_cases q:y.1=t
  ·rw[be q];subst q;simp[dE]
  ·rw[a7 q]
   have:¬ (dE y).1=kS t:=λz=>q (L5.mp z)
   rw[a7 this]
 ·rw[ba h,a7 h]
  simp[dE]
structure DOk (m:rX)(d:Dc):Prop where
 nd:(ks d).Nodup
 sub:∀t∈ks d,t∈HC m\/t=(m.length,0,0)
theorem Bb {α:Type}[DecidableEq α]:∀{l u:List α},l.Nodup->(∀x∈l,x∈u)->l.length<=u.length
 | [],_,_,_=>c6 _
 | a::l,u,h,s=>by
  rw[cr] at h
  have ha:a∈u:=s a ah
  have:=Bb (l:=l) (u:=u.erase a) h.2 λx hx=>(List.mem_erase_of_ne (show x≠a from λz=>h.1 (z▸hx))).mpr (s x (ag _ hx))
  rw[List.length_erase_of_mem ha] at this
  have hp:=pj ha
  rw[bg]
  omega
theorem DOk.len (h:DOk m d)(hm:bw m)(hl:m.length < 100):d.length < 5000:=by
 have h1:(ks d).length<=(HC m++[(m.length,0,0)]).length:=Bb h.nd λt ht=>by
  rcases h.sub t ht with z | z
  ·exact g9 _ z
  ·rw[z];simp
 have h2:=(xY hm hl).2
 unfold ks at h1
 simp at h1
 omega
theorem DOk.put (h:DOk m d){t:C3}(ht:t∈HC m\/t=(m.length,0,0))(v:Int):DOk m (jx d t v):=by
 constructor
 ·rw[Iz]
  split
  ·exact h.nd
  ·rename_i hn
   rw[kw]
   exact⟨h.nd,by simp,λx hx y hy e=>hn (by rw[aE] at hy;rw[← hy,← e];exact hx)⟩
 ·rw[Iz]
  split
  ·exact h.sub
  ·intro u hu
   rcases br.mp hu with z | z
   ·exact h.sub u z
   ·rw[aE] at z;rw[z];exact ht
theorem pH (t:C3):DI [.int (t.1:Nat),.int (t.2.1:Nat),.int (t.2.2:Nat)]=some (kS t):=by simp[kS]
theorem Wu (d:Dc)(t:C3):NJ (bG t) (dP d)=some (decide (t∈ks d)):=by
 have h1:=pH t
 have h2:=qH t d
 have h3:=iu (d:=d) (t:=t)
 unfold bG GB dP
 show (DI [.int (t.1:Nat),.int (t.2.1:Nat),.int (t.2.2:Nat)]).map (λk=>(dg (d.map dE) k).isSome)=_
 rw[h1,mT,h2,lh,h3]
theorem F_ (d:Dc)(t:C3):lV (dP d) (bG t) (.int 0)=some (.int (val d t)):=by
 have h1:=pH t
 have h2:=qH t d
 unfold bG GB dP
 show (DI [.int (t.1:Nat),.int (t.2.1:Nat),.int (t.2.2:Nat)]).map (λk=>(dg (d.map dE) k).getD (.int 0))=_
 rw[h1,mT,h2]
 unfold val
 cases look d t <;> rfl
theorem Wv {t:C3}(h:t∈ks d):C9 (dP d) (bG t)=some (.int (val d t)):=by
 have h1:=pH t
 have h2:=qH t d
 have h3:=iu (d:=d) (t:=t)
 unfold bG GB dP
 show (DI [.int (t.1:Nat),.int (t.2.1:Nat),.int (t.2.2:Nat)]).bind (λk=>dg (d.map dE) k)=_
 rw[h1,bE,h2]
 unfold val
 rw[bP h] at h3
 cases q:look d t with
 | none=>rw[q] at h3;cases h3
 | some v=>rfl
theorem Mw (t:C3)(v:Int)(h:d.length < 5000):nU (dP d) (bG t) (.int v)=some (dP (jx d t v)):=by
 have h1:=pH t
 have h2:=Ua d t v
 unfold bG GB dP
 show (DI [.int (t.1:Nat),.int (t.2.1:Nat),.int (t.2.2:Nat)]).bind (λk=>if (d.map dE).length < 1000000 then some (PV.dT (pM (d.map dE) k (.int v))) else none)=_
 rw[h1,bE,be (by rw[af];omega),h2]
noncomputable def L6 (m:rX)(mark:Str)(e:Bool):PV:=.lst ((VE m mark e).map eY)
noncomputable def gG (m:rX):PV:=.dT [([.inr "u",.inl 0],L6 m "u" false),([.inr "u",.inl 1],L6 m "u" true),([.inr "-",.inl 0],L6 m "-" false),([.inr "-",.inl 1],L6 m "-" true)]
theorem Ub (hm:bw m)(hl:m.length < 100):kE [mP m]=some (gG m):=by
 have a1:eZ [mP m,.str "u",.bl false]=some (L6 m "u" false):=(q_ hm hl _ _).1
 have a2:eZ [mP m,.str "u",.bl true]=some (L6 m "u" true):=(q_ hm hl _ _).1
 have a3:eZ [mP m,.str "-",.bl false]=some (L6 m "-" false):=(q_ hm hl _ _).1
 have a4:eZ [mP m,.str "-",.bl true]=some (L6 m "-" true):=(q_ hm hl _ _).1
 unfold gG
 generalize L6 m "u" false=L1,L6 m "u" true=L2,L6 m "-" false=L3,L6 m "-" true=L4,mP m=M at *
 have EF:¬ (("u" : Str) = "-"):=by decide
 simp[kE,sX,qC,qz,bM,a1,a2,a3,a4,pM,EF,E8]
noncomputable def wk (m:rX)(o:Nat)(e:Bool)(b:Dc):List (C3×C3):=if o=3 then (ks b).map λt=>(t,t) else VE m (bF o) e
theorem Pz (b:Dc):vG (dP b)=some ((ks b).map bG):=by
 have h:((b.map dE).all λkv=>kv.1.length != 2)=true:=by
  rw[kn,cq]
  intro y _
  rfl
 unfold dP
 show (if ((b.map dE).all λkv=>kv.1.length != 2)=true then some ((b.map dE).map λkv=>PV.tup (kv.1.map kP)) else none)=_
 rw[be h]
 unfold ks
 rw[de,de]
 rfl
variable {b:Dc}
theorem IK (ho:o < 4)(e:Bool)(hb:b.length < 5000):fG [gG m,aA o,.bl e,dP b]=some (.lst ((wk m o e b).map eY)):=by
 have EF:¬ (("u" : Str) = "-"):=by decide
 have ZR:¬ (("-" : Str) = "u"):=by decide
 have h1:=Pz b
 have h2:eQ [none] (gN 0) fU lG ((ks b).map bG)=some (((ks b).map λt=>(t,t)).map eY):=by
  rw[de]
  exact gn _ _ _ λt _=>⟨[some (bG t)],rfl,by simp[lG,eY]⟩
 have h3:((ks b).map bG).length<=1000000:=by unfold ks;simp;omega
 unfold wk
 rcases NV ho with rfl | rfl | rfl | rfl
 ·cases e <;> simp[fG,jo,aA,gG,dg,bF,L6,EF]
 ·cases e <;> simp[fG,jo,aA,gG,dg,bF,L6,EF,ZR]
 ·cases e <;> simp[fG,jo,aA,gG,dg,bF,L6,EF,ZR]
 ·rw[be rfl]
  generalize ((ks b).map λt=>(t,t)).map eY=R,(ks b).map bG=V,dP b=B at *
  simp[fG,jo,aA,h1,h2,h3,j6,-vG]
def um (b:Dc)(d:Dc)(y:C3×C3):Dc:=if y.2∈ks b then jx d y.1 (val d y.1+val b y.2) else d
theorem La {SP OP EP o:PV}{y:C3×C3}(hd:d.length < 5000):
  turn (gT [6,7]) [6,7] dz (eY y) [some SP,some OP,some EP,some (dP b),some (dP d),some o,none,none]=some [some SP,some OP,some EP,some (dP b),some (dP (um b d y)),some o,none,none]:=by
 have h1:=Wu b y.2
 have h2:=F_ d y.1
 unfold um
 by_cases h:y.2∈ks b
 ·have h3:=Wv h
  have h4:=Mw y.1 (val d y.1+val b y.2) hd
  rw[bP h] at h1
  rw[be h]
  unfold eY
  generalize dP (jx d y.1 (val d y.1+val b y.2))=R,dP b=B,dP d=D,bG y.1=S1,bG y.2=S2 at *
  simp[aY,dz,h1,h2,h3,h4,-lV,-C9,-nU]
 ·rw[ba h] at h1
  rw[a7 h]
  unfold eY
  generalize dP b=B,dP d=D,bG y.1=S1,bG y.2=S2 at *
  simp[aY,dz,h1,-lV,-C9,-nU]
theorem Lb (b d:Dc)(y:C3×C3)(t:C3):val (um b d y) t=val d t+if y.1=t then val b y.2 else 0:=by
 unfold um
 by_cases h:y.2∈ks b
 ·rw[be h,Py]
  by_cases e:t=y.1
  ·subst e;simp
  ·have e':¬ y.1=t:=λz=>e z.symm
   simp[e,e']
 ·rw[a7 h,Ba h]
  simp
theorem PB {SP OP EP o:PV}(hm:bw m)(hl:m.length < 100)(hd:DOk m d)(P:List (C3×C3))(hP:∀y∈P,y.1∈HC m\/y.1=(m.length,0,0)):
  ∃d',DOk m d'/\(∀t,val d' t=val d t+(P.map λy=>if y.1=t then val b y.2 else 0).sum) /\
   bM (gT [6,7]) [6,7] dz (P.map eY) [some SP,some OP,some EP,some (dP b),some (dP d),some o,none,none]=some (.nx [some SP,some OP,some EP,some (dP b),some (dP d'),some o,none,none]):=by
 obtain⟨d',⟨q,e1,e2,e3⟩,h⟩:=bz (g:=gT [6,7]) (ds:=[6,7]) (body:=dz) eY (λd:Dc=>[some SP,some OP,some EP,some (dP b),some (dP d),some o,none,none])
  (λr d'=>∃q,P=q++r/\DOk m d'/\∀t,val d' t=val d t+(q.map λy=>if y.1=t then val b y.2 else 0).sum)
  (by
   rintro y r d' ⟨q,e1,e2,e3⟩
   refine⟨um b d' y,⟨q++[y],by rw[e1];simp,?_,λt=>?_⟩,La (e2.len hm hl)⟩
   ·unfold um
    split
    ·exact e2.put (hP y (by rw[e1];simp)) _
    ·exact e2
   ·rw[Lb,e3 t,cS,nb]
    simp
    omega)
  P d ⟨[],rfl,hd,λt=>by simp⟩
 rw[bq] at e1
 subst e1
 exact⟨d',e2,e3,h⟩
theorem PJ (h:(ks b).Nodup)(t:C3):(((ks b).map λt=>(t,t)).map λy=>if y.1=t then val b y.2 else 0).sum=val b t:=by
 rw[de]
 have e:((λy:C3×C3=>if y.1=t then val b y.2 else 0)∘λt=>(t,t))=λu=>if u=t then val b u else 0:=rfl
 rw[e,uP h]
 split
 ·rfl
 ·rename_i hn;exact(Ba hn).symm
theorem Uc (hb:DOk m b)(o:Nat)(e:Bool)(t:C3):((wk m o e b).map λy=>if y.1=t then val b y.2 else 0).sum=F2 m o e (val b) t:=by
 unfold wk F2
 split
 ·exact PJ hb.nd t
 ·rfl
theorem VF (hb:DOk m b)(o:Nat)(e:Bool):∀y∈wk m o e b,y.1∈HC m\/y.1=(m.length,0,0):=λy hy=>by
 unfold wk at hy
 split at hy
 ·obtain⟨t,ht,rfl⟩:=dc.mp hy
  exact hb.sub t ht
 ·unfold VE at hy
  obtain⟨t,ht,hy⟩:=kf.mp hy
  obtain⟨z,_,rfl⟩:=dc.mp hy
  exact .inl ht
variable {os:gV}
theorem Ld (hm:bw m)(hl:m.length < 100)(ho:C4 os)(e:Bool)(hb:DOk m b):
  ∃d,DOk m d/\(∀t,val d t=HU m (os,e) (val b) t)/\i_ [gG m,aD os,.bl e,dP b]=some (dP d):=by
 obtain⟨d,⟨q,e1,e2,e3⟩,h⟩:=bz (g:=gN 5) (ds:=[5,6,7]) (body:=jH) aA (λd:Dc=>[some (gG m),some (aD os),some (.bl e),some (dP b),some (dP d),none,none,none])
  (λr d'=>∃q,os=q++r/\DOk m d'/\∀t,val d' t=(q.map λo=>F2 m o e (val b) t).sum)
  (by
   rintro o r d' ⟨q,e1,e2,e3⟩
   have h1:=IK (m:=m) (ho o (by rw[e1];simp)) e (b:=b) (hb.len hm hl)
   obtain⟨d2,f1,f2,f3⟩:=PB (SP:=gG m) (OP:=aD os) (EP:=.bl e) (o:=aA o) hm hl (b:=b) e2 (wk m o e b) (VF hb o e)
   refine⟨d2,⟨q++[o],by rw[e1];simp,f1,λt=>?_⟩,?_⟩
   ·rw[f2 t,e3 t,Uc hb,cS,nb]
    simp
   ·generalize (wk m o e b).map eY=W,gG m=SP,aD os=OP,dP b=B,dP d'=D1,dP d2=D2,aA o=OO at *
    simp[aY,jH,h1,f3])
  os [] ⟨[],rfl,⟨by simp[ks],by simp[ks]⟩,λt=>by simp[val,look]⟩
 rw[bq] at e1
 subst e1
 refine⟨d,e2,e3,?_⟩
 have h0:dP []=.dT []:=rfl
 rw[h0] at h
 unfold aD at h ⊢
 generalize gG m=SP,os.map aA=OP,dP b=B,dP d=D1 at *
 simp[i_,pD,h]
noncomputable def zP (x:List Nat×Bool):PV:=.tup [aD x.1,.bl x.2]
theorem Mx:∀(xs:List (List Nat)) (es:List Bool),List.zipWith (λa c=>PV.tup [a,c]) (xs.map aD) (es.map PV.bl)=(xs.zip es).map zP
 | [],_=>by simp
 | _::_,[]=>by simp
 | x::xs,e::es=>by simp[Mx xs es,zP]
theorem DG (ns:rq)(k:Nat):cJ [.EA (ns.map PV.int),.int k]=some (.int (cell ns k)):=by
 by_cases h:k < ns.length
 ·have h1:DE (ns.map PV.int) (k:Int)=some (.int ns[k]):=bJ (by simp[h])
  simp[cJ,j_,h,h1,cell]
 ·simp[cJ,j_,h,cell]
noncomputable def oO (c:Int)(m:rX)(k:Nat):Nat:=(mixed c k % (((m.getD k ([],false)).1.length:Nat):Int)).toNat
theorem DK {c:Int}(hm:bw m){k:Nat}(hk:m[k]?=some s):oO c m k < s.1.length/\((oO c m k:Nat):Int)=mixed c k % (s.1.length:Int):=by
 have hg:m.getD k ([],false)=s:=by rw[a8,hk];rfl
 have OU:0 < s.1.length:=dQ.mpr (hm s (ax hk)).ne
 unfold oO
 rw[hg]
 have q1:=mM (mixed c k) (b:=(s.1.length:Int)) (by omega)
 have q2:=nN (mixed c k) (b:=(s.1.length:Int)) (by omega)
 omega
theorem IV:∀{m:rX}{fs:gV},fs.length=m.length->(∀(k:Nat) (s:Slot) (f:Nat),m[k]?=some s->fs[k]?=some f->f < s.1.length)->Lu m fs
 | [],[],_,_=>rfl
 | [],_::_,h,_=>by simp at h
 | _::_,[],h,_=>by simp at h
 | s::m,f::fs,h,hh=>by
  have hf:=hh 0 s f rfl rfl
  exact⟨f,s.1[f],fs,rfl,al hf,IV (by simpa using h) λk t g h1 h2=>hh (k+1) t g (by simpa using h1) (by simpa using h2)⟩
theorem PK {c:Int}(hm:bw m):Lu m ((List.range m.length).map (oO c m)):=IV (by simp) λk s f h1 h2=>by
 have DS:k < m.length:=by
  rcases ef k m.length with z | z
  ·exact z
  ·rw[bo z] at h1;cases h1
 rw[ar,gu DS] at h2
 cases h2
 exact(DK hm h1).1
theorem I_ {c:Int}(hm:bw m)(hl:m.length < 100):
  eQ [none,some (.int c),some (mP m)] (gN 0) fU q8 (dj 0 (m.length:Int))=some (((List.range m.length).map (oO c m)).map λf=>PV.int (f:Nat)):=by
 rw[dW,de]
 refine gn _ _ _ λk hk=>⟨[some (.int (k:Nat)),some (.int c),some (mP m)],rfl,?_⟩
 have DS:=b6.mp hk
 have Zt:m[k]?=some m[k]:=al DS
 have OU:0 < m[k].1.length:=dQ.mpr (hm _ (ax Zt)).ne
 have h1:=oH c k (Dj (by omega))
 have a1:DE (m.map DC) (k:Int)=some (.tup [.tup (m[k].1.map .str),.bl m[k].2]):=by
  have:DE (m.map DC) (k:Int)=some (DC m[k]):=bJ (by simp[Zt])
  exact this
 have e:=(DK (c:=c) hm Zt).2
 have ZT:(0:Int) < (m[k].1.length:Int):=by omega
 show q8 _=some (.int ((oO c m k:Nat):Int))
 rw[e]
 generalize m[k]=s at *
 unfold mP
 simp[q8,h1,a1,OU,ZT]
theorem str1 {c:Nat}(h:c=117\/c=45\/c=120):(⟨#[c]⟩:Str)=("u" : Str)\/(⟨#[c]⟩:Str)=("-" : Str)\/(⟨#[c]⟩:Str)=("x" : Str):=by
 rcases h with rfl | rfl | rfl
 ·exact .inl (by decide +kernel)
 ·exact .inr (.inl (by decide +kernel))
 ·exact .inr (.inr (by decide +kernel))
theorem Bc:∀{m:rX}{fs:gV},bw m->Lu m fs->K1 (a_ m fs)/\(m≠[]->a_ m fs≠[])
 | [],fs,_,h=>by
  have e:fs=[]:=h
  subst e
  exact⟨λa ha=>by simp[a_] at ha,λz=>absurd rfl z⟩
 | s::m,fs,hm,⟨f,p,gs,h1,h2,h3⟩=>by
  subst h1
  have ih:=(Bc (m:=m) (λt ht=>hm t (ag _ ht)) h3).1
  have hp:s.1.getD f ⟨#[]⟩=p:=by rw[a8,h2];rfl
  have ok:=(hm s ah).ok p (ax h2)
  have e:a_ (s::m) (f::gs)=bW s p++a_ m gs:=by
   show bW s (s.1.getD f ⟨#[]⟩)++_=_
   rw[hp]
  rw[e]
  refine⟨λa ha=>?_,λ_ z=>?_⟩
  ·rcases br.mp ha with y | y
   ·unfold bW at y
    obtain⟨j,hj,rfl⟩:=dc.mp y
    have hj':=b6.mp hj
    refine str1 (ok.cs _ ?_)
    have h':j < p.cps.toList.length:=by simpa [Str.length] using hj'
    rw[a8,al h']
    exact eR _
   ·exact ih a y
  ·have:=b9 List.length z
   rw[aS,eX] at this
   have:=ok.ge
   simp at *
   omega
theorem vN {i:Nat}(hi:i < 4):∀{is:gV}(k:Nat),C4 is->i∈is->∃j,is[j]?=some i/\mF (jW i) (is.map jW) k=some (k+j)
 | x::is,k,h4,hm=>by
  have hx:=h4 x ah
  by_cases e:x=i
  ·subst e
   exact⟨0,rfl,by simp[mF,wN hx hx]⟩
  ·have hm':i∈is:=(av.mp hm).resolve_left λz=>e z.symm
   obtain⟨j,h1,h2⟩:=vN hi (k+1) (λy hy=>h4 y (ag _ hy)) hm'
   refine⟨j+1,by simpa using h1,?_⟩
   simp[mF,wN hx hi,e,h2]
   omega
theorem vO (hi:i < 4){is:gV}(h4:C4 is)(hm:i∈is)(hl:is.length<=1000):∃j:Nat,is[j]?=some i/\jM (aD is) (aA i)=some (.int j):=by
 obtain⟨j,h1,h2⟩:=vN hi 0 h4 hm
 refine⟨j,h1,?_⟩
 obtain⟨t1,t2⟩:=tH is
 have t3:=wM i
 obtain⟨l1,l2⟩:=uN i
 have l3:(is.map jW).length<=1000000:=by simp;omega
 rw[i9] at h2
 unfold aD
 simp only[jM,XZ,t1,t3,be (⟨l1,t2,l2,l3⟩:_/\_/\_/\_),h2,mT]
theorem iG:∀l:List Int,(∀x∈l,0<=x)->0<=l.sum
 | [],_=>og _
 | x::l,h=>by
  have h1:=iG l λz hz=>h z (ag _ hz)
  have h2:=h x ah
  rw[dS]
  omega
theorem uz (row:r9):∀(m:rX) (a:Nat),0<=D6 row m a
 | [],a=>by unfold D6;split <;> decide
 | s::m,a=>by
  rw[j5]
  refine iG _ λx hx=>?_
  obtain⟨p,_,rfl⟩:=dc.mp hx
  unfold eV
  split
  ·exact uz row m _
  ·decide
noncomputable def pick:List Int->Int->Nat×Int
 | [],n=>(0,n)
 | c::cs,n=>if c<=n then ((pick cs (n - c)).1+1,(pick cs (n - c)).2) else (0,n)
theorem tQ:∀(cs:rq) (f:Nat) (c r:Int),cs[f]?=some c->0<=r->r < c->(∀x∈cs,0<=x)->pick cs ((cs.take f).sum+r)=(f,r)
 | [],f,c,r,h,_,_,_=>by simp at h
 | d::cs,0,c,r,h,h0,h1,hn=>by
  simp at h
  subst h
  have:¬ d<=0+r:=by omega
  simp[pick,List.take]
  omega
 | d::cs,f+1,c,r,h,h0,h1,hn=>by
  have ih:=tQ cs f c r (by simpa using h) h0 h1 λx hx=>hn x (ag _ hx)
  have hs:0<=(cs.take f).sum:=iG _ λx hx=>hn x (ag _ (fm hx))
  have e:((d::cs).take (f+1)).sum+r=d+((cs.take f).sum+r):=by rw[gt,dS];omega
  rw[e,pick,be (by omega),show d+((cs.take f).sum+r) - d=(cs.take f).sum+r by omega,ih]
theorem mG:∀(cs:rq) (n:Int),0<=n->n < cs.sum->(∀x∈cs,0<=x)->
  ∃c,cs[(pick cs n).1]?=some c/\0<=(pick cs n).2/\(pick cs n).2 < c/\n=(cs.take (pick cs n).1).sum+(pick cs n).2
 | [],n,h0,h1,_=>by simp at h1;omega
 | c::cs,n,h0,h1,hn=>by
  rw[dS] at h1
  by_cases h:c<=n
  ·obtain⟨d,a1,a2,a3,a4⟩:=mG cs (n - c) (by omega) (by omega) λx hx=>hn x (ag _ hx)
   rw[pick,be h]
   refine⟨d,by simpa using a1,a2,a3,?_⟩
   rw[gt,dS]
   omega
  ·rw[pick,a7 h]
   exact⟨c,rfl,h0,by omega,by simp⟩
theorem pR:∀(cs:rq) (f:Nat) (c:Int),cs[f]?=some c->(∀x∈cs,0<=x)->(cs.take f).sum+c<=cs.sum
 | [],f,c,h,_=>by simp at h
 | d::cs,0,c,h,hn=>by
  simp at h
  subst h
  have:=iG cs λx hx=>hn x (ag _ hx)
  simp
  omega
 | d::cs,f+1,c,h,hn=>by
  have:=pR cs f c (by simpa using h) λx hx=>hn x (ag _ hx)
  rw[gt,dS,dS]
  omega
theorem tR:∀(cs:rq) (f g:Nat) (c:Int),cs[f]?=some c->f < g->(∀x∈cs,0<=x)->(cs.take f).sum+c<=(cs.take g).sum
 | [],f,g,c,h,_,_=>by simp at h
 | d::cs,0,0,c,h,hg,hn=>absurd hg (em _)
 | d::cs,0,g+1,c,h,_,hn=>by
  simp at h
  subst h
  have:=iG (cs.take g) λx hx=>hn x (ag _ (fm hx))
  rw[gt,dS]
  simp
  omega
 | d::cs,f+1,0,c,h,hg,hn=>absurd hg (Nat.not_lt_zero _)
 | d::cs,f+1,g+1,c,h,hg,hn=>by
  have:=tR cs f g c (by simpa using h) (by omega) λx hx=>hn x (ag _ hx)
  rw[gt,dS,gt,dS]
  omega
section
variable (row:r9)
noncomputable def bY (s:Slot)(m:rX)(a:Nat):List Int:=s.1.map (eV row s m a)
noncomputable def pU (s:Slot)(f:Nat):Nat:=(s.1.getD f ⟨#[]⟩).length
noncomputable def num:List Slot->Nat->List Nat->Int
 | s::m,a,f::fs=>((bY row s m a).take f).sum+num m (a+pU s f) fs
 | _,_,_=>0
noncomputable def ie:List Slot->Nat->Int->List Nat
 | [],_,_=>[]
 | s::m,a,n=>(pick (bY row s m a) n).1::ie m (a+pU s (pick (bY row s m a) n).1) (pick (bY row s m a) n).2
def pW:List Slot->Nat->List Nat->Prop
 | [],a,fs=>fs=[]/\a=row.length
 | s::m,a,fs=>∃f p gs,fs=f::gs/\s.1[f]?=some p/\fit p s.2 (seg row a p.length)=true/\pW m (a+p.length) gs
end
variable {row:r9}
theorem Cm (s:Slot)(m:rX)(a:Nat)(p:Str):0<=eV row s m a p:=by
 unfold eV
 split
 ·exact uz _ m _
 ·decide
theorem pX (s:Slot)(m:rX)(a:Nat):∀x∈bY row s m a,0<=x:=by
 intro x hx
 obtain⟨p,_,rfl⟩:=dc.mp hx
 exact Cm s m a p
theorem uo {f:Nat}(h:s.1[f]?=some p):pU s f=p.length:=by
 unfold pU
 rw[a8,h]
 rfl
theorem PL {f:Nat}(h:s.1[f]?=some p):(bY row s m a)[f]?=some (eV row s m a p):=by
 unfold bY
 rw[ar,h]
 rfl
theorem vP:∀{m:rX}{a:Nat}{fs:gV},pW row m a fs->0<=num row m a fs/\num row m a fs < D6 row m a/\ie row m a (num row m a fs)=fs
 | [],a,fs,⟨h1,h2⟩=>by
  subst h1
  subst h2
  simp[num,D6,ie]
 | s::m,a,fs,⟨f,p,gs,h1,h2,h3,h4⟩=>by
  subst h1
  obtain⟨i1,i2,i3⟩:=vP h4
  have hw:eV row s m a p=D6 row m (a+p.length):=by unfold eV;rw[be h3]
  have hc:=PL (row:=row) (m:=m) (a:=a) h2
  have hn:=pX (row:=row) s m a
  have hp:=uo h2
  have ht:=pR _ _ _ hc hn
  have hs:0<=((bY row s m a).take f).sum:=iG _ λx hx=>hn x (fm hx)
  have e:num row (s::m) a (f::gs)=((bY row s m a).take f).sum+num row m (a+p.length) gs:=by
   show _+num row m (a+pU s f) gs=_
   rw[hp]
  have QU:=tQ _ f _ (num row m (a+p.length) gs) hc i1 (by rw[hw];exact i2) hn
  have IX:D6 row (s::m) a=(bY row s m a).sum:=j5 row s m a
  rw[e,IX]
  refine⟨by omega,by omega,?_⟩
  show (pick (bY row s m a) _).1::_=_
  rw[QU]
  show f::ie row m (a+pU s f) _=_
  rw[hp,i3]
theorem Mz:∀{m:rX}{a:Nat}{n k:Int},0<=n->n < k->k < D6 row m a->HT.lexLt ((ie row m a n).map λf:Nat=>(f:Int)) ((ie row m a k).map λf:Nat=>(f:Int))=true
 | [],a,n,k,h0,h1,h2=>by
  unfold D6 at h2
  split at h2 <;> omega
 | s::m,a,n,k,h0,h1,h2=>by
  have IX:D6 row (s::m) a=(bY row s m a).sum:=j5 row s m a
  have hn:=pX (row:=row) s m a
  obtain⟨c,a1,a2,a3,a4⟩:=mG (bY row s m a) n h0 (by omega) hn
  obtain⟨d,b1,b2,b3,b4⟩:=mG (bY row s m a) k (by omega) (by omega) hn
  have hf1:ie row (s::m) a n=(pick (bY row s m a) n).1::ie row m (a+pU s (pick (bY row s m a) n).1) (pick (bY row s m a) n).2:=rfl
  have hf2:ie row (s::m) a k=(pick (bY row s m a) k).1::ie row m (a+pU s (pick (bY row s m a) k).1) (pick (bY row s m a) k).2:=rfl
  rw[hf1,hf2]
  generalize pick (bY row s m a) n=z,pick (bY row s m a) k=y at *
  obtain⟨f,r⟩:=z
  obtain⟨g,t⟩:=y
  simp only at a1 a2 a3 a4 b1 b2 b3 b4 ⊢
  rw[ap,ap,HT.D8]
  by_cases hfg:f=g
  ·subst hfg
   rw[be rfl]
   have hp:∃p,s.1[f]?=some p/\d=eV row s m a p:=by
    unfold bY at b1
    rw[ar] at b1
    cases hq:s.1[f]? with
    | none=>rw[hq] at b1;cases b1
    | some p=>rw[hq] at b1;cases b1;exact⟨p,rfl,rfl⟩
   obtain⟨p,hp,rfl⟩:=hp
   have FA:=uo hp
   have GI:fit p s.2 (seg row a p.length)=true:=by
    cases hq:fit p s.2 (seg row a p.length) with
    | true=>rfl
    | false=>unfold eV at b3;rw[hq,a7 (by decide)] at b3;omega
   have hw:eV row s m a p=D6 row m (a+p.length):=by unfold eV;rw[be GI]
   rw[FA]
   exact Mz a2 (by omega) (by omega)
  ·rw[a7 (by omega)]
   refine bP ?_
   rcases ef f g with z | z
   ·omega
   ·have:=tR _ g f d b1 (by omega) hn
    omega
noncomputable def iH (cs:rq):PV:=.lst (cs.map .int)
theorem vQ {N:PV}{cs:rq}:∀(ds:rq) (j:Nat) (t:Int) (k:Nat),cs.drop j=ds->0<=t->t < ds.sum->ds.length < k->
  lU cG [] dG k [some (iH cs),some N,some (.int j),some (.int t)]=some (.nx [some (iH cs),some N,some (.int ((j+(pick ds t).1:Nat):Int)),some (.int (pick ds t).2)])
 | [],j,t,k,_,h0,h1,_=>by simp at h1;omega
 | c::ds,j,t,0,_,_,_,hk=>by simp at hk
 | c::ds,j,t,k+1,hd,h0,h1,hk=>by
  have hc:cs[j]?=some c:=by
   have:=b9 (λl=>l[0]?) hd
   simpa using this
  have Zp:DE (cs.map PV.int) (j:Int)=some (.int c):=bJ (by simp[hc])
  have Yi:cs.drop (j+1)=ds:=by rw[← lx,hd];rfl
  rw[dS] at h1
  by_cases h:c<=t
  ·have ih:=vQ (N:=N) ds (j+1) (t - c) k Yi (by omega) (by omega) (by simp at hk;omega)
   have e1:cG [some (iH cs),some N,some (.int j),some (.int t)]=some true:=by simp[cG,iH,Zp,h]
   have e2:dG [some (iH cs),some N,some (.int j),some (.int t)]=some (.nx [some (iH cs),some N,some (.int ((j+1:Nat):Int)),some (.int (t - c))]):=by simp[dG,iH,Zp]
   have e3:pick (c::ds) t=((pick ds (t - c)).1+1,(pick ds (t - c)).2):=by rw[pick,be h]
   rw[lU,e1,bE,be rfl,e2,bE]
   show lU cG [] dG k [some (iH cs),some N,some (.int ((j+1:Nat):Int)),some (.int (t - c))]=_
   rw[ih,e3]
   have:j+1+(pick ds (t - c)).1=j+((pick ds (t - c)).1+1):=by omega
   rw[this]
  ·have e1:cG [some (iH cs),some N,some (.int j),some (.int t)]=some false:=by simp[cG,iH,Zp,h]
   have e3:pick (c::ds) t=(0,t):=by rw[pick,a7 h]
   rw[lU,e1,bE,a7 (by decide),e3]
   rfl
theorem xZ {cs:rq}{t:Int}(h0:0<=t)(h1:t < cs.sum)(hl:cs.length < 1000):dq [iH cs,.int t]=some (.tup [.int ((pick cs t).1:Nat),.int (pick cs t).2]):=by
 have lp:=vQ (N:=.int t) cs 0 t 1000000 rfl h0 h1 (by omega)
 rw[i9] at lp
 have lp:sS 1000000 cG [] dG [some (iH cs),some (.int t),some (.int 0),some (.int t)]=_:=(Hx ..).trans lp
 unfold dq tD
 generalize sS 1000000 cG [] dG=W,iH cs=CP at *
 simp[lp]
theorem Bd (row:r9):∀(m:rX) (k:Nat),k<=m.length->(Ls row m).reverse[k]?=some (.lst (GU row (m.drop k)))
 | [],0,_=>rfl
 | [],k+1,h=>by simp at h
 | s::m,0,_=>by simp[Ls]
 | s::m,k+1,h=>by
  have ih:=Bd row m k (by simpa using h)
  have e:(Ls row (s::m)).reverse=.lst (GU row (s::m))::(Ls row m).reverse:=by simp[Ls]
  rw[e,lb,ih]
  rfl
theorem PN {d r:List (Slot×Nat)}{y:Slot×Nat}(e:m.zipIdx=d++y::r):y.2=d.length/\m[d.length]?=some y.1/\m.drop (d.length+1)=r.map (·.1)/\d.length < m.length:=by
 have h1:m=d.map (·.1)++y.1::r.map (·.1):=by
  have:=b9 (List.map Prod.fst) e
  rw[cS,ap] at this
  rw[← this,db]
 have hl:d.length < m.length:=by rw[h1];simp
 have h2:m.zipIdx[d.length]?=some y:=by rw[e];simp
 rw[mB,i9] at h2
 have h3:m[d.length]?=some y.1:=by
  rw[h1]
  rw[fk (by simp)]
  simp
 rw[h3] at h2
 have VQ:(y.1,d.length)=y:=a9 h2
 have h4:y.2=d.length:=(b9 Prod.snd VQ).symm
 refine⟨h4,h3,?_,hl⟩
 have h5:m.drop (d.length+1)=(d.map (·.1)++y.1::r.map (·.1)).drop (d.length+1):=b9 _ h1
 rw[h5,List.drop_append]
 simp
theorem Ja {row:r9}(hs:D3 s.1)(h0:0<=n)(h1:n < D6 row (s::m) a):∃p,s.1[(pick (bY row s m a) n).1]?=some p/\a+p.length<=row.length/\0<=(pick (bY row s m a) n).2/\(pick (bY row s m a) n).2 < D6 row m (a+p.length)/\fit p s.2 (seg row a p.length)=true:=by
 have IX:D6 row (s::m) a=(bY row s m a).sum:=j5 row s m a
 have hn:=pX (row:=row) s m a
 obtain⟨c,a1,a2,a3,a4⟩:=mG (bY row s m a) n h0 (by omega) hn
 generalize pick (bY row s m a) n=z at *
 obtain⟨f,r⟩:=z
 simp only at a1 a2 a3 a4 ⊢
 have hp:∃p,s.1[f]?=some p/\c=eV row s m a p:=by
  unfold bY at a1
  rw[ar] at a1
  cases hq:s.1[f]? with
  | none=>rw[hq] at a1;cases a1
  | some p=>rw[hq] at a1;cases a1;exact⟨p,rfl,rfl⟩
 obtain⟨p,hp,rfl⟩:=hp
 have GI:fit p s.2 (seg row a p.length)=true:=by
  cases hq:fit p s.2 (seg row a p.length) with
  | true=>rfl
  | false=>unfold eV at a3;rw[hq,a7 (by decide)] at a3;omega
 have hw:eV row s m a p=D6 row m (a+p.length):=by unfold eV;rw[be GI]
 exact⟨p,hp,fit_le (hs.ok p (ax hp)) GI,a2,by omega,GI⟩
def ZU (M R N:PV)(BY:List PV)(fs:gV)(a:Nat)(t:Int):MR.Env:=[some M,some R,some N,some (.lst BY),some (fP fs),some (.int a),some (.int t),none,none,none]
variable {BY:List PV}
theorem PQ {R:PV}{B cs:List PV}{fs:gV}{k f:Nat}{t r:Int}{C:PV}(L7:DE BY ((k:Int)+1)=some (.lst B))(Kb:bu [DC s,R,.int a,.lst B]=some C)(IE:dq [C,.int t]=some (.tup [.int (f:Nat),.int r]))
  (hp:s.1[f]?=some p) (FA:p.length<=4) (hfs:fs.length < 1000):turn (gT [7,8]) [7,8,9] kW (.tup [.int (k:Nat),DC s]) (ZU M R N BY fs a t)=some (ZU M R N BY (fs++[f]) (a+p.length) r):=by
 have a3:DE (s.1.map PV.str) (f:Int)=some (.str p):=bJ (by simp[hp])
 have h3:p.length<=1000000:=by omega
 have h4:fs.length < 1000000:=by omega
 have e1:((a+p.length:Nat):Int)=(a:Int)+(p.length:Int):=by omega
 unfold kW
 generalize dq=mc,bu=mp at *
 unfold DC at *
 unfold ZU fP
 rw[e1]
 simp[aY,L7,Kb,IE,a3,h3,h4]
theorem Jb {row:r9}(hs:D3 s.1)(ha:a<=row.length):bu [DC s,aQ row,.int a,.lst (GU row m)]=some (iH (bY row s m a)):=HW hs ha
theorem Le {row:r9}(hs:D3 s.1):(bY row s m a).length < 1000:=by
 have:=hs.le
 unfold bY
 rw[af]
 omega
theorem uU (row:r9):∀(m:rX) (a:Nat) (n:Int),(ie row m a n).length=m.length
 | [],_,_=>rfl
 | s::m,a,n=>by
  show ((_:Nat)::ie row m _ _).length=_
  rw[bg,uU row m]
  rfl
theorem PX {row:r9}(hm:bw m)(hr:row.length < 1000)(hl:m.length < 100)(h0:0<=n)(h1:n < D6 row m 0):kY [mP m,aQ row,.int n]=some (fP (ie row m 0 n)):=by
 obtain⟨⟨fs,a,t⟩,⟨d,e1,e2,e3⟩,lp⟩:=bz (g:=gT [7,8]) (ds:=[7,8,9]) (body:=kW) (λy:Slot×Nat=>PV.tup [.int (y.2:Nat),DC y.1]) (λz:List Nat×Nat×Int=>ZU (mP m) (aQ row) (.int n) (Ls row m).reverse z.1 z.2.1 z.2.2)
  (λr z=>∃d,m.zipIdx=d++r/\z.1++ie row (r.map (·.1)) z.2.1 z.2.2=ie row m 0 n/\z.2.1<=row.length/\0<=z.2.2/\z.2.2 < D6 row (r.map (·.1)) z.2.1)
  (by
   rintro y r z ⟨d,e1,e2,e3,e4,e5⟩
   obtain⟨fs,a,t⟩:=z
   obtain⟨s,k⟩:=y
   simp only[ap] at e2 e3 e4 e5
   obtain⟨q1,q2,q3,q4⟩:=PN e1
   simp only at q1 q2
   subst q1
   have hs:=hm s (ax q2)
   obtain⟨p,b1,b2,b3,b4,b5⟩:=Ja hs e4 e5
   have IX:D6 row (s::r.map (·.1)) a=(bY row s (r.map (·.1)) a).sum:=j5 row s _ a
   have L7:DE (Ls row m).reverse ((d.length:Int)+1)=some (.lst (GU row (r.map (·.1)))):=by
    have:=bJ (Bd row m (d.length+1) (by omega))
    rw[q3] at this
    exact this
   have IE:=xZ (cs:=bY row s (r.map (·.1)) a) e4 (by omega) (Le hs)
   have hf:fs.length < 1000:=by
    have:=b9 List.length e2
    rw[aS,uU,uU] at this
    omega
   refine⟨(fs++[(pick (bY row s (r.map (·.1)) a) t).1],a+p.length,(pick (bY row s (r.map (·.1)) a) t).2),⟨d++[(s,d.length)],by rw[e1];simp,?_,b2,b3,b4⟩,PQ (cs:=[]) L7 (Jb hs e3) IE b1 (hs.ok p (ax b1)).le hf⟩
   simp only
   rw[← e2,ei]
   congr 1
   show _=(pick (bY row s (r.map (·.1)) a) t).1::ie row (r.map (·.1)) (a+pU s (pick (bY row s (r.map (·.1)) a) t).1) (pick (bY row s (r.map (·.1)) a) t).2
   rw[uo b1]
   rfl)
  m.zipIdx ([],0,n) ⟨[],rfl,by simp[db],c6 _,h0,by simpa [db] using h1⟩
 simp only[ed,ie,bq] at e2
 subst e2
 have X6:=H_ hm hr (by omega:m.length < 1000)
 have en:fQ 0 (m.map DC)=m.zipIdx.map λy:Slot×Nat=>PV.tup [.int (y.2:Nat),DC y.1]:=jl _ _ _
 rw[← en] at lp
 have e9:fP []=.lst []:=rfl
 unfold ZU at lp
 have z0:((0:Nat):Int)=0:=rfl
 simp only[e9,z0] at lp
 unfold mP at *
 generalize hF:fP (ie row m 0 n)=FF at *
 have hF':∃l,FF=.lst l:=⟨_,hF.symm⟩
 obtain⟨l,rfl⟩:=hF'
 generalize (Ls row m).reverse=LL,aQ row=RR,m.map DC=MM at *
 simp[kY,vH,X6,lp]
theorem Be:∀l:List Int,pN (.lst (l.map PV.int))=some (.int l.sum):=λl=>by
 have:=pF l
 simp[this]
theorem Lf (cs:rq)(f:Nat):dC (cs.map PV.int) none (some (f:Int))=(cs.take f).map PV.int:=by
 unfold dC
 rw[HT.EE,HT.KS,af,fR,po,← jp]
 congr 1
 rcases Nat.le_total f cs.length with h | h
 ·rw[mS h]
 ·rw[Nat.min_eq_right h,el (aT _),el h]
def ZV (M R F:PV)(BY:List PV)(n:Int)(a:Nat):MR.Env:=[some M,some R,some F,some (.lst BY),some (.int n),some (.int a),none,none,none,none]
theorem P0 {R F:PV}{B:List PV}{cs:rq}{k f:Nat}(hk:m[k]?=some s)(L7:DE BY ((k:Int)+1)=some (.lst B))(Kb:bu [DC s,R,.int a,.lst B]=some (iH cs))
  (hp:s.1[f]?=some p) (FA:p.length<=4):turn (gT [6,7]) [6,7,8,9] fX (.tup [.int (k:Nat),.int (f:Nat)]) (ZV (mP m) R F BY n a)=some (ZV (mP m) R F BY (n+(cs.take f).sum) (a+p.length)):=by
 have a1:DE (m.map DC) (k:Int)=some (.tup [.tup (s.1.map .str),.bl s.2]):=by
  have:DE (m.map DC) (k:Int)=some (DC s):=bJ (by simp[hk])
  exact this
 have a3:DE (s.1.map PV.str) (f:Int)=some (.str p):=bJ (by simp[hp])
 have h3:p.length<=1000000:=by omega
 have e1:((a+p.length:Nat):Int)=(a:Int)+(p.length:Int):=by omega
 have VI:=Lf cs f
 have hsm:=pF (cs.take f)
 unfold fX
 generalize bu=mp at *
 replace Kb:mp [.tup [.tup (s.1.map .str),.bl s.2],R,.int a,.lst B]=some (.lst (cs.map .int)):=Kb
 unfold ZV mP
 rw[e1]
 generalize (cs.take f).map PV.int=TP at *
 simp[aY,a1,L7,Kb,VI,hsm,a3,h3]
theorem uV {row:r9}:∀{m:rX}{a:Nat}{fs:gV},pW row m a fs->fs.length=m.length
 | [],a,fs,⟨h,_⟩=>by rw[h];rfl
 | s::m,a,fs,⟨f,p,gs,h1,h2,h3,h4⟩=>by rw[h1,bg,uV h4,bg]
theorem Lg {m:gV}{d r:List (Nat×Nat)}{y:Nat×Nat}(e:m.zipIdx=d++y::r):y.2=d.length/\d.length < m.length:=by
 have h1:m=d.map (·.1)++y.1::r.map (·.1):=by
  have:=b9 (List.map Prod.fst) e
  rw[cS,ap] at this
  rw[← this,db]
 have hl:d.length < m.length:=by rw[h1];simp
 have h2:m.zipIdx[d.length]?=some y:=by rw[e];simp
 rw[mB,i9] at h2
 have h3:m[d.length]?=some y.1:=by
  rw[h1]
  rw[fk (by simp)]
  simp
 rw[h3] at h2
 have VQ:(y.1,d.length)=y:=a9 h2
 exact⟨(b9 Prod.snd VQ).symm,hl⟩
theorem Jc {row:r9}{fs:gV}(hm:bw m)(hr:row.length < 1000)(hl:m.length < 100)(hf:pW row m 0 fs):gP [mP m,aQ row,fP fs]=some (.int (num row m 0 fs)):=by
 have hlen:=uV hf
 obtain⟨⟨n,a⟩,⟨d,m',e1,e2,e3,e4,e5⟩,lp⟩:=bz (g:=gT [6,7]) (ds:=[6,7,8,9]) (body:=fX) (λy:Nat×Nat=>PV.tup [.int (y.2:Nat),.int (y.1:Nat)]) (λz:Int×Nat=>ZV (mP m) (aQ row) (fP fs) (Ls row m).reverse z.1 z.2)
  (λr z=>∃d m',fs.zipIdx=d++r/\m.drop d.length=m'/\z.2<=row.length/\pW row m' z.2 (r.map (·.1))/\z.1+num row m' z.2 (r.map (·.1))=num row m 0 fs)
  (by
   rintro y r z ⟨d,m',e1,e2,e3,e4,e5⟩
   obtain⟨n,a⟩:=z
   obtain⟨f,k⟩:=y
   simp only[ap] at e3 e4 e5
   obtain⟨q1,q4⟩:=Lg e1
   simp only at q1
   subst q1
   cases m' with
   | nil=>have:=uV e4;simp at this
   | cons s m'=>
    have ZM:m[d.length]?=some s:=by
     have:=b9 (λl=>l[0]?) e2
     simpa using this
    have Yi:m.drop (d.length+1)=m':=by rw[← lx,e2];rfl
    have hs:=hm s (ax ZM)
    obtain⟨f',p,gs,h1,h2,h3,h4⟩:=e4
    cases h1
    have hle:=fit_le (hs.ok p (ax h2)) h3
    have L7:DE (Ls row m).reverse ((d.length:Int)+1)=some (.lst (GU row m')):=by
     have:=bJ (Bd row m (d.length+1) (by omega))
     rw[Yi] at this
     exact this
    refine⟨(n+((bY row s m' a).take f).sum,a+p.length),⟨d++[(f,d.length)],m',by rw[e1];simp,by simp[Yi],hle,h4,?_⟩,P0 ZM L7 (Jb hs e3) h2 (hs.ok p (ax h2)).le⟩
    rw[← e5]
    show _=n+(((bY row s m' a).take f).sum+num row m' (a+pU s f) (r.map (·.1)))
    rw[uo h2]
    simp only
    omega)
  fs.zipIdx (0,0) ⟨[],m,rfl,rfl,c6 _,by simpa [db] using hf,by simp[db]⟩
 have hn:n=num row m 0 fs:=by
  rw[← e5]
  have:num row m' a []=0:=by unfold num;cases m' <;> rfl
  simp only[ed]
  omega
 subst hn
 have X6:=H_ hm hr (by omega:m.length < 1000)
 have en:fQ 0 (fs.map λf:Nat=>PV.int (f:Nat))=fs.zipIdx.map λy:Nat×Nat=>PV.tup [.int (y.2:Nat),.int (y.1:Nat)]:=jl _ _ _
 rw[← en] at lp
 unfold ZV at lp
 unfold fP at *
 generalize (Ls row m).reverse=LL,aQ row=RR,fs.map (λf:Nat=>PV.int (f:Nat))=FF,mP m=MM,num row m 0 fs=NN at *
 simp at lp
 simp[gP,mV,X6,lp]
noncomputable def wt (d:Dc)(f:C3->Int):Int:=(d.map λy=>y.2*f y.1).sum
theorem Bf (y:C3×Int)(d:Dc)(t:C3):val (y::d) t=if y.1=t then y.2 else val d t:=by
 unfold val look
 by_cases h:y.1=t <;> simp[eP,h]
theorem DN (y:C3×Int)(d:Dc)(f:C3->Int):wt (y::d) f=y.2*f y.1+wt d f:=by simp[wt]
theorem Ud (d e:Dc)(f:C3->Int):wt (d++e) f=wt d f+wt e f:=by simp[wt]
theorem Jd (t:C3)(w:Int):∀d:Dc,t∉ks d->(d.map λy=>if y.1=t then (t,w) else y)=d
 | [],_=>rfl
 | y::d,h=>by
  unfold ks at h
  rw[ap,av,oj] at h
  rw[ap,Jd t w d h.2,a7 λz=>h.1 z.symm]
theorem Je (t:C3)(w:Int)(f:C3->Int):∀d:Dc,(ks d).Nodup->t∈ks d->wt (d.map λy=>if y.1=t then (t,w) else y) f=wt d f+(w - val d t)*f t
 | [],_,h=>by simp[ks] at h
 | y::d,hn,h=>by
  have YN:y.1∉ks d/\(ks d).Nodup:=by unfold ks at hn ⊢;rw[ap,cr] at hn;exact hn
  rw[ap,DN,DN,Bf]
  by_cases e:y.1=t
  ·rw[be e,be e,Jd t w d (e▸YN.1)]
   subst e
   simp only[Int.sub_mul]
   omega
  ·rw[a7 e,a7 e]
   have hm:t∈ks d:=by
    unfold ks at h ⊢
    rw[ap,av] at h
    exact h.resolve_left λz=>e z.symm
   rw[Je t w f d YN.2 hm]
   omega
theorem Ue (h:(ks d).Nodup)(t:C3)(v:Int)(f:C3->Int):wt (jx d t (val d t+v)) f=wt d f+v*f t:=by
 unfold jx
 split
 ·rename_i hm
  rw[Je t _ f d h hm]
  have:val d t+v - val d t=v:=by omega
  rw[this]
 ·rename_i hm
  rw[Ud,Ba hm]
  simp[wt]
def NN (d:Dc):Prop:=∀y∈d,0<=y.2
theorem NN.val {d:Dc}(h:NN d)(t:C3):0<=val d t:=by
 induction d with
 | nil=>simp[My.val,look]
 | cons y d ih=>
  rw[Bf]
  split
  ·exact h y ah
  ·exact ih λz hz=>h z (ag _ hz)
theorem NN.put (h:NN d)(t:C3)(hv:0<=v):NN (jx d t v):=λy hy=>by
 unfold jx at hy
 split at hy
 ·obtain⟨z,hz,rfl⟩:=dc.mp hy
  split
  ·exact hv
  ·exact h z hz
 ·rcases br.mp hy with z | z
  ·exact h y z
  ·rw[aE] at z;rw[z];exact hv
noncomputable def LI (m:rX)(t:C3):Int:=if t.2.2=0 then 4 ^ (m.length - t.1) else 4 ^ (m.length - t.1 - 1)
theorem wZ (m:rX)(t:C3):1<=LI m t:=by
 unfold LI
 have:∀n:Nat,(1:Int)<=4 ^ n:=λn=>by
  induction n with
  | zero=>decide
  | succ n ih=>rw[pp];omega
 split <;> exact this _
theorem Ug (s:Slot)(slot i:Nat)(mark:Str)(e:Bool)(k:Nat):(Na s slot i mark e k).length<=1:=by
 unfold Na
 split
 ·cases YA s slot k i (s.1.getD k ⟨#[]⟩) e <;> simp
 ·simp
variable {y:Nat×C3}
theorem MF {slot k:Nat}(hs:m[slot]?=some s)(hp:s.1[k]?=some p)(h:y∈Na s slot i mark e k):(y.2∈HC m\/y.2=(m.length,0,0))/\LI m y.2=4 ^ (m.length - slot - 1):=by
 have DS:=(aw.mp hs).1
 unfold Na at h
 split at h
 ·rw[wV hp] at h
  obtain⟨t,ht,rfl⟩:=dc.mp h
  unfold YA at ht
  split at ht
  ·rename_i hi
   simp at ht
   subst ht
   refine⟨.inl (EW.mpr ⟨s,hs,.inr ⟨p,hp,by simp,hi⟩⟩),?_⟩
   simp[LI]
  ·split at ht
   ·simp at ht
   ·simp at ht
    subst ht
    refine⟨?_,?_⟩
    ·by_cases z:slot+1 < m.length
     ·exact .inl (EW.mpr ⟨m[slot+1],al z,.inl rfl⟩)
     ·have:slot+1=m.length:=by omega
      exact .inr (by rw[this])
    ·have:m.length - (slot+1)=m.length - slot - 1:=by omega
     simp[LI,this]
 ·simp at h
theorem Jf {t:C3}(ht:t∈HC m\/t=(m.length,0,0))(h:y∈cj m t mark e):(y.2∈HC m\/y.2=(m.length,0,0))/\LI m y.2=4 ^ (m.length - t.1 - 1):=by
 unfold cj at h
 cases q:m[t.1]? with
 | none=>rw[q] at h;simp at h
 | some s=>
  rw[q] at h
  simp only at h
  split at h
  ·obtain⟨k,hk,hy⟩:=kf.mp h
   have UQ:=b6.mp hk
   exact MF q (al UQ) hy
  ·rename_i h0
   have DS:=(aw.mp q).1
   rcases ht with ht | ht
   ·obtain⟨s',HA,hh⟩:=EW.mp ht
    rw[q] at HA
    cases HA
    rcases hh with z | ⟨p,hp,_⟩
    ·rw[z] at h0;exact absurd rfl h0
    ·exact MF q hp h
   ·rw[ht] at DS;simp at DS
theorem Lh (hm:bw m){t:C3}(ht:t∈HC m\/t=(m.length,0,0)):((cj m t mark e).map λy=>LI m y.2).sum<=LI m t:=by
 have h1:(cj m t mark e).map (λy=>LI m y.2)=(cj m t mark e).map λ_=>(4:Int) ^ (m.length - t.1 - 1):=ci λy hy=>(Jf ht hy).2
 rw[h1]
 have h2:∀(l:List (Nat×C3)) (c:Int),(l.map λ_=>c).sum=l.length*c:=λl c=>by
  induction l with
  | nil=>simp
  | cons a l ih=>
   rw[ap,dS,ih,bg]
   have e9:((l.length+1:Nat):Int)=(l.length:Int)+1:=by omega
   rw[e9,Int.add_mul]
   omega
 rw[h2]
 have h3:=A_ m hm t mark e
 have hp:∀n:Nat,(1:Int)<=4 ^ n:=λn=>by
  induction n with
  | zero=>decide
  | succ n ih=>rw[pp];omega
 have hc:=hp (m.length - t.1 - 1)
 cases q:m[t.1]? with
 | none=>
  have:cj m t mark e=[]:=by unfold cj;rw[q]
  rw[this]
  have:=wZ m t
  simp
  omega
 | some s=>
  have DS:=(aw.mp q).1
  unfold LI
  by_cases h0:t.2.2=0
  ·rw[be h0]
   have e4:m.length - t.1=(m.length - t.1 - 1)+1:=by omega
   have e5:(4:Int) ^ (m.length - t.1)=4 ^ (m.length - t.1 - 1)*4:=by conv=>lhs;rw[e4,pp]
   rw[e5,Int.mul_comm]
   exact kg (by omega) (by omega)
  ·rw[a7 h0]
   have hle:(cj m t mark e).length<=1:=by
    unfold cj
    rw[q]
    simp only[a7 h0]
    exact Ug ..
   have:((cj m t mark e).length:Int)*4 ^ (m.length - t.1 - 1)<=1*4 ^ (m.length - t.1 - 1):=Int.mul_le_mul_of_nonneg_right (by omega) (by omega)
   omega
theorem Jg {t:C3}(h:o≠3)(ht:t∈HC m\/t=(m.length,0,0)):F2 m o e f t=((cj m t (bF o) e).map λy=>f y.2).sum:=by
 rw[Ir h]
 split
 ·rfl
 ·rename_i hn
  have e1:=ht.resolve_left hn
  have:cj m t (bF o) e=[]:=by
   unfold cj
   rw[e1,bo (aT _)]
  rw[this]
  rfl
structure DW (m:rX)(d:Dc):Prop extends DOk m d where
 nn:NN d
 bd:wt d (LI m)<=4 ^ m.length
theorem VG (h:NN d){g:C3->Int}(hh:∀y∈d,f y.1<=g y.1):wt d f<=wt d g:=by
 unfold wt
 exact Il λy hy=>kg (hh y hy) (h y hy)
theorem DW.small (h:DW m d)(hl:m.length < 12){y:C3×Int}(hy:y∈d):MW y.2=true:=by
 have h1:y.2*LI m y.1<=wt d (LI m):=Im (f:=λy:C3×Int=>y.2*LI m y.1) (λz hz=>Int.mul_nonneg (h.nn z hz) (by have:=wZ m z.1;omega)) hy
 have h2:y.2*1<=y.2*LI m y.1:=kg (wZ m y.1) (h.nn y hy)
 have h3:=h.bd
 have h4:(4:Int) ^ m.length<=4 ^ 12:=by
  have:∀k n:Nat,(4:Int) ^ n<=4 ^ (n+k):=λk n=>by
   induction k with
   | zero=>exact og _
   | succ k ih=>
    have hp:(0:Int)<=4 ^ (n+k):=Int.pow_nonneg (by decide)
    rw[← Nat.add_assoc,pp]
    omega
  have:=this (12 - m.length) m.length
  rwa [show m.length+(12 - m.length)=12 by omega] at this
 have h5:(4:Int) ^ 12=16777216:=by decide
 have h6:=h.nn y hy
 exact je (by omega) (by omega)
noncomputable def TH (y:C3×Int):PV:=.tup [bG y.1,.int y.2]
theorem DP (d:Dc):nZ (dP d)=some (d.map TH):=by
 have h:((d.map dE).all λkv=>kv.1.length != 2)=true:=by
  rw[kn,cq]
  intro y _
  simp[dE,kS]
 have e:(d.map dE).map (λkv=>PV.tup [.tup (kv.1.map kP),kv.2])=d.map TH:=by
  rw[de]
  refine ci λy _=>?_
  simp[dE,kS,kP,TH,bG,GB]
 unfold dP
 simp only[nZ,be h,e]
theorem P_ {W O E S:PV}(hm:bw m)(hl:m.length < 100)(hn:0<=n){a:Dc}(ha:DOk m a)(hna:NN a)(L:List (Nat×C3))(hL:∀y∈L,y.2∈HC m\/y.2=(m.length,0,0)):
  ∃a',DOk m a'/\NN a'/\(∀f,wt a' f=wt a f+n*(L.map λy=>f y.2).sum) /\
   bM (gT [7,8]) [7,8] kJ (L.map NW) [some M,some W,some O,some E,some (dP a),some S,some (.int n),none,none]=some (.nx [some M,some W,some O,some E,some (dP a'),some S,some (.int n),none,none]):=by
 obtain⟨a',⟨q,e1,e2,e3,e4⟩,h⟩:=bz (g:=gT [7,8]) (ds:=[7,8]) (body:=kJ) NW (λa:Dc=>[some M,some W,some O,some E,some (dP a),some S,some (.int n),none,none])
  (λr a'=>∃q,L=q++r/\DOk m a'/\NN a'/\∀f,wt a' f=wt a f+n*(q.map λy=>f y.2).sum)
  (by
   rintro y r a' ⟨q,e1,e2,e3,e4⟩
   refine⟨jx a' y.2 (val a' y.2+n),⟨q++[y],by rw[e1];simp,e2.put (hL y (by rw[e1];simp)) _,e3.put _ (by have:=e3.val y.2;omega),λf=>?_⟩,?_⟩
   ·rw[Ue e2.nd,e4 f,cS,nb]
    simp only[ap,ed,dS,List.sum_nil,Int.mul_add]
    omega
   ·have h1:=F_ a' y.2
    have h2:=Mw (d:=a') y.2 (val a' y.2+n) (e2.len hm hl)
    unfold NW
    generalize dP (jx a' y.2 (val a' y.2+n))=D2,dP a'=D1,bG y.2=S2 at *
    simp[aY,kJ,h1,h2,-lV,-nU])
  L a ⟨[],rfl,ha,hna,λf=>by simp⟩
 rw[bq] at e1
 subst e1
 exact⟨a',e2,e3,e4,h⟩
theorem Qa (h:o≠3)(f:C3->Int)(d:Dc)(hd:∀t∈ks d,t∈HC m\/t=(m.length,0,0)):wt d (F2 m o e f)=(d.map λy=>y.2*((cj m y.1 (bF o) e).map λz=>f z.2).sum).sum:=by
 unfold wt
 congr 1
 refine ci λy hy=>?_
 rw[Jg h (hd y.1 (dc.mpr ⟨y,hy,rfl⟩))]
theorem Jh (h:o < 4)(h3:o≠3):∃n:Int,aA o=.tup [.int n,.str (bF o)]:=by
 rcases NV h with e | e | e | e
 ·subst e;exact⟨0,rfl⟩
 ·subst e;exact⟨0,rfl⟩
 ·subst e;exact⟨1,rfl⟩
 ·exact absurd e h3
theorem w5 (hm:bw m)(hl:m.length < 100)(hd:DW m d)(ho:o < 4)(e:Bool):
  ∃d',DW m d'/\(∀f,wt d' f=wt d (F2 m o e f))/\dm [mP m,dP d,aA o,.bl e]=some (dP d'):=by
 by_cases h3:o=3
 ·subst h3
  refine⟨d,hd,λf=>?_,?_⟩
  ·have:F2 m 3 e f=f:=by funext t;simp[F2]
   rw[this]
  ·have e0:aA 3=.CY:=rfl
   rw[e0]
   unfold dP
   generalize mP m=M at *
   simp[dm,qZ]
 ·obtain⟨n0,TK⟩:=Jh ho h3
  obtain⟨a',⟨q,e1,e2,e3,e4⟩,h⟩:=bz (g:=gT [5,6]) (ds:=[5,6,7,8]) (body:=oG) TH (λa:Dc=>[some (mP m),some (dP d),some (aA o),some (.bl e),some (dP a),none,none,none,none])
   (λr a'=>∃q,d=q++r/\DOk m a'/\NN a'/\∀f,wt a' f=(q.map λy=>y.2*((cj m y.1 (bF o) e).map λz=>f z.2).sum).sum)
   (by
    rintro y r a' ⟨q,e1,e2,e3,e4⟩
    have hy:y∈d:=by rw[e1];simp
    have F6:=hd.sub y.1 (dc.mpr ⟨y,hy,rfl⟩)
    have hmv:dI [mP m,bG y.1,.str (bF o),.bl e]=some (.lst ((cj m y.1 (bF o) e).map NW)):=by
     rw[← Mv]
     refine Aw hm (by omega) ?_ (bF o) e
     rcases F6 with z | z
     ·exact Iw z
     ·rw[z]
      exact⟨aT _,λ_=>⟨rfl,rfl⟩,λs hs=>by simp at hs⟩
    obtain⟨a2,f1,f2,f3,f4⟩:=P_ (M:=mP m) (W:=dP d) (O:=aA o) (E:=.bl e) (S:=bG y.1) hm hl (hd.nn y hy) e2 e3 (cj m y.1 (bF o) e) λz hz=>(Jf F6 hz).1
    refine⟨a2,⟨q++[y],by rw[e1];simp,f1,f2,λf=>?_⟩,?_⟩
    ·rw[f3 f,e4 f,cS,nb]
     simp
    ·rw[TK] at f4 ⊢
     unfold TH
     generalize (cj m y.1 (bF o) e).map NW=V,dP a'=D1,dP a2=D2,dP d=D0,bG y.1=S1,mP m=M at *
     simp[aY,oG,hmv,f4])
   d [] ⟨[],rfl,⟨by simp[ks],by simp[ks]⟩,λy hy=>by simp at hy,λf=>by simp[wt]⟩
  rw[bq] at e1
  subst e1
  have hw:∀f,wt a' f=wt d (F2 m o e f):=λf=>by rw[e4 f,Qa h3 f d hd.sub]
  refine⟨a',⟨e2,e3,?_⟩,hw,?_⟩
  ·rw[hw]
   refine Int.le_trans (VG hd.nn λy hy=>?_) hd.bd
   have F6:=hd.sub y.1 (dc.mpr ⟨y,hy,rfl⟩)
   rw[Jg h3 F6]
   exact Lh hm F6
  ·have h0:dP []=.dT []:=rfl
   rw[h0] at h
   have hi:=DP d
   rw[TK] at h ⊢
   generalize d.map TH=IP,hD:dP d=D0 at *
   have hDn:uE D0=false:=by subst hD;rfl
   generalize dP a'=D2,mP m=M at *
   simp[dm,qZ,h,hi,-nZ]
theorem Ji (hm:bw m)(hl:m.length < 12)(hd:DW m d)(ho:C4 os)(hol:os.length < 1000)(e:Bool):
  bR [mP m,dP d,aD os,.bl e,dP b]=some (iH (os.map λo=>wt d (F2 m o e (val b)))):=by
 obtain⟨L,⟨q,e1,e2⟩,h⟩:=bz (g:=gN 6) (ds:=[6,7]) (body:=g_) aA (λL:List Int=>[some (mP m),some (dP d),some (aD os),some (.bl e),some (dP b),some (.lst (L.map .int)),none,none])
  (λr L=>∃q,os=q++r/\L=q.map λo=>wt d (F2 m o e (val b)))
  (by
   rintro o r L ⟨q,e1,e2⟩
   obtain⟨d',w1,w2,w3⟩:=w5 hm (by omega) hd (ho o (by rw[e1];simp)) e
   have hLl:(L.map PV.int).length < 1000000:=by
    have:=b9 List.length e1
    rw[e2]
    simp at this ⊢
    omega
   refine⟨L++[wt d (F2 m o e (val b))],⟨q++[o],by rw[e1];simp,by rw[e2];simp⟩,?_⟩
   have hc:eQ [none,none,some (dP b)] (gT [0,1]) fU gZ (d'.map TH)=some (d'.map λy=>PV.int (y.2*val b y.1)):=by
    refine gn _ _ _ λy hy=>⟨[some (bG y.1),some (.int y.2),some (dP b)],rfl,?_⟩
    have h1:=F_ b y.1
    have h2:=w1.small hl hy
    generalize dP b=B,bG y.1=S1 at *
    simp[gZ,h1,h2,-lV]
   have hs:pN (.lst (d'.map λy=>PV.int (y.2*val b y.1)))=some (.int (wt d (F2 m o e (val b)))):=by
    rw[← w2]
    have:=Be (d'.map λy=>y.2*val b y.1)
    rw[de] at this
    exact this
   have hi:=DP d'
   have hdl:(d'.map TH).length<=1000000:=by have:=w1.toDOk.len hm (by omega);rw[af];omega
   rw[cS]
   generalize wt d (F2 m o e (val b))=v,(d'.map λy=>PV.int (y.2*val b y.1))=VP,d'.map TH=IP,L.map PV.int=LP,dP d'=D1,dP d=D0,dP b=B,aD os=OP,aA o=OO,mP m=M at *
   simp[aY,g_,w3,hi,hc,hs,hLl,hdl,-nZ,-pN])
  os [] ⟨[],rfl,rfl⟩
 rw[bq] at e1
 subst e1
 rw[e2] at h
 unfold iH
 unfold aD at h ⊢
 simp only[ed] at h
 generalize (os.map λo=>wt d (F2 m o e (val b))).map PV.int=R,os.map aA=OP,dP d=D0,dP b=B,mP m=M at *
 simp[bR,lg,h]
abbrev Sy:=List Nat×Bool
noncomputable def Nm (m:rX)(O:List Sy):Int:=cnt m O (0,0,0)
noncomputable def DT (m:rX)(A:List Sy)(x:Sy)(B:List Sy):List Int:=x.1.map λo=>Nm m (A++([o],x.2)::B)
def one (x:Sy)(f:Nat):Sy:=([x.1.getD f 0],x.2)
noncomputable def GV (m:rX):List Sy->List Sy->Int->List Nat
 | _,[],_=>[]
 | A,x::B,n=>(pick (DT m A x B) n).1::GV m (A++[one x (pick (DT m A x B) n).1]) B (pick (DT m A x B) n).2
noncomputable def IC (m:rX):List Sy->List Sy->Int->Int
 | _,[],n=>n
 | A,x::B,n=>IC m (A++[one x (pick (DT m A x B) n).1]) B (pick (DT m A x B) n).2
noncomputable def IZ (m:rX):List Sy->List Sy->List Nat->Int
 | A,x::B,f::fs=>((DT m A x B).take f).sum+IZ m (A++[one x f]) B fs
 | _,_,_=>0
noncomputable def codes:List Sy->List Nat->List Nat
 | x::B,f::fs=>x.1.getD f 0::codes B fs
 | _,_=>[]
noncomputable def ones:List Sy->List Nat->List Sy
 | x::B,f::fs=>one x f::ones B fs
 | _,_=>[]
def Nc:List Sy->List Nat->Prop
 | [],fs=>fs=[]
 | x::B,fs=>∃f o gs,fs=f::gs/\x.1[f]?=some o/\Nc B gs
theorem Bg (m:rX)(A:List Sy)(x:Sy)(B:List Sy):∀c∈DT m A x B,0<=c:=λc hc=>by
 unfold DT at hc
 obtain⟨o,_,rfl⟩:=dc.mp hc
 exact Ip ..
theorem w6 (m:rX)(A:List Sy)(x:Sy)(B:List Sy):(DT m A x B).sum=Nm m (A++x::B):=(Io m A B x.1 x.2 (0,0,0)).symm
theorem gJ {x:Sy}{f:Nat}(h:x.1[f]?=some o):x.1.getD f 0=o:=by rw[a8,h];rfl
variable {A B:List Sy}
theorem rm {x:Sy}(h0:0<=n)(h1:n < Nm m (A++x::B)):∃o,x.1[(pick (DT m A x B) n).1]?=some o/\0<=(pick (DT m A x B) n).2/\(pick (DT m A x B) n).2 < Nm m ((A++[one x (pick (DT m A x B) n).1])++B) /\
  n=((DT m A x B).take (pick (DT m A x B) n).1).sum+(pick (DT m A x B) n).2:=by
 obtain⟨c,a1,a2,a3,a4⟩:=mG (DT m A x B) n h0 (by rw[w6];exact h1) (Bg m A x B)
 generalize pick (DT m A x B) n=z at *
 obtain⟨f,r⟩:=z
 simp only at a1 a2 a3 a4 ⊢
 unfold DT at a1
 rw[ar] at a1
 cases hq:x.1[f]? with
 | none=>rw[hq] at a1;cases a1
 | some o=>
  rw[hq] at a1
  cases a1
  refine⟨o,rfl,a2,?_,a4⟩
  have:(A++[one x f])++B=A++([o],x.2)::B:=by unfold one;rw[gJ hq];simp
  rw[this]
  exact a3
theorem Jj {m:rX}:∀(O A:List Sy) (n:Int),0<=n->n < Nm m (A++O)->Nc O (GV m A O n)/\0<=IC m A O n/\IC m A O n < Nm m (A++ones O (GV m A O n))/\IZ m A O (GV m A O n)+IC m A O n=n
 | [],A,n,h0,h1=>⟨rfl,h0,by simpa [IC,ones,GV] using h1,by simp[IZ,IC]⟩
 | x::B,A,n,h0,h1=>by
  obtain⟨o,b1,b2,b3,b4⟩:=rm h0 h1
  obtain⟨i1,i2,i3,i4⟩:=Jj B (A++[one x (pick (DT m A x B) n).1]) (pick (DT m A x B) n).2 b2 b3
  have e1:GV m A (x::B) n=(pick (DT m A x B) n).1::GV m (A++[one x (pick (DT m A x B) n).1]) B (pick (DT m A x B) n).2:=rfl
  have e2:IC m A (x::B) n=IC m (A++[one x (pick (DT m A x B) n).1]) B (pick (DT m A x B) n).2:=rfl
  rw[e1,e2]
  refine⟨⟨_,o,_,rfl,b1,i1⟩,i2,?_,?_⟩
  ·have:A++ones (x::B) ((pick (DT m A x B) n).1::GV m (A++[one x (pick (DT m A x B) n).1]) B (pick (DT m A x B) n).2)=(A++[one x (pick (DT m A x B) n).1])++ones B (GV m (A++[one x (pick (DT m A x B) n).1]) B (pick (DT m A x B) n).2):=by simp[ones]
   rw[this]
   exact i3
  ·show ((DT m A x B).take _).sum+IZ m _ B _+_=n
   omega
theorem Jk {m:rX}:∀(O A:List Sy) (n k:Int),0<=n->n < k->k < Nm m (A++O)->
  (HT.lexLt ((GV m A O n).map λf:Nat=>(f:Int)) ((GV m A O k).map λf:Nat=>(f:Int))=true/\GV m A O n≠GV m A O k)\/(GV m A O n=GV m A O k/\IC m A O n < IC m A O k)
 | [],A,n,k,_,h,_=>.inr ⟨rfl,h⟩
 | x::B,A,n,k,h0,h,h1=>by
  obtain⟨o,b1,b2,b3,b4⟩:=rm (m:=m) (A:=A) (x:=x) (B:=B) (n:=n) h0 (by omega)
  obtain⟨o',c1,c2,c3,c4⟩:=rm (m:=m) (A:=A) (x:=x) (B:=B) (n:=k) (by omega) h1
  have e1:∀n,GV m A (x::B) n=(pick (DT m A x B) n).1::GV m (A++[one x (pick (DT m A x B) n).1]) B (pick (DT m A x B) n).2:=λ_=>rfl
  have e2:∀n,IC m A (x::B) n=IC m (A++[one x (pick (DT m A x B) n).1]) B (pick (DT m A x B) n).2:=λ_=>rfl
  rw[e1,e1,e2,e2]
  have VI:∀(f o:Nat),x.1[f]?=some o->(DT m A x B)[f]?=some (Nm m ((A++[one x f])++B)):=λf o ho=>by
   unfold DT
   rw[ar,ho]
   have:(A++[one x f])++B=A++([o],x.2)::B:=by unfold one;rw[gJ ho];simp
   rw[this]
   rfl
  have t1:=VI _ _ b1
  have t2:=VI _ _ c1
  have nn:=Bg m A x B
  generalize pick (DT m A x B) n=z,pick (DT m A x B) k=z' at *
  obtain⟨f,r⟩:=z
  obtain⟨f',r'⟩:=z'
  simp only at b1 b2 b3 b4 c1 c2 c3 c4 t1 t2 ⊢
  rcases Nat.lt_trichotomy f f' with hf | hf | hf
  ·refine .inl ⟨?_,λz=>?_⟩
   ·rw[ap,ap,HT.D8,a7 (by omega)]
    exact bP (by omega)
   ·injection z with z1 z2
    omega
  ·subst hf
   rcases Jk B (A++[one x f]) r r' b2 (by omega) c3 with ⟨z1,z2⟩ | ⟨z1,z2⟩
   ·refine .inl ⟨?_,λz=>?_⟩
    ·rw[ap,ap,HT.D8,be rfl]
     exact z1
    ·injection z with _ z3
     exact z2 z3
   ·exact .inr ⟨by rw[z1],z2⟩
  ·have:=tR (DT m A x B) f' f _ t2 hf nn
   omega
theorem uW:∀(xs:List (List Nat)) (es:List Bool) (fs:gV),ones (xs.zip es) fs=((codes (xs.zip es) fs).map λi=>[i]).zip es
 | [],es,fs=>by cases fs <;> simp[ones,codes]
 | x::xs,[],fs=>by cases fs <;> simp[ones,codes]
 | x::xs,e::es,[]=>by simp[ones,codes]
 | x::xs,e::es,f::fs=>by simp[ones,codes,uW xs es fs,one]
theorem x_:∀{O:List Sy}{fs:gV},Nc O fs->(codes O fs).length=O.length
 | [],fs,h=>by rw[show fs=[] from h];rfl
 | x::B,fs,⟨f,o,gs,e,_,h⟩=>by rw[e];simp[codes,x_ h]
theorem Bh:∀{O:List Sy}{fs:gV}{k:Nat}{x:Sy},Nc O fs->O[k]?=some x->∃f o,fs[k]?=some f/\x.1[f]?=some o/\(codes O fs)[k]?=some o
 | [],_,k,x,_,h=>by simp at h
 | x::B,fs,0,y,⟨f,o,gs,e,h1,h2⟩,h=>by
  simp at h
  subst h e
  refine⟨f,o,rfl,h1,?_⟩
  show some (x.1.getD f 0)=some o
  rw[gJ h1]
 | x::B,fs,k+1,y,⟨f,o,gs,e,h1,h2⟩,h=>by
  subst e
  obtain⟨f',o',a1,a2,a3⟩:=Bh (k:=k) h2 (by simpa using h)
  exact⟨f',o',by simpa using a1,a2,by simpa [codes] using a3⟩
theorem yc:∀{xs:List (List Nat)}{es:List Bool}{fs:gV},es.length=xs.length->Nc (xs.zip es) fs->bH xs (codes (xs.zip es) fs)=true
 | [],[],fs,_,h=>by rw[show fs=[] from h];rfl
 | [],_::_,_,h,_=>by simp at h
 | _::_,[],_,h,_=>by simp at h
 | x::xs,e::es,fs,hl,⟨f,o,gs,e1,h1,h2⟩=>by
  subst e1
  have ih:=yc (xs:=xs) (es:=es) (by simpa using hl) h2
  have hg:x.getD f 0=o:=by rw[a8,show x[f]?=some o from h1];rfl
  have hm:o∈x:=ax h1
  show (decide (x.getD f 0∈x)&&bH xs (codes (xs.zip es) gs))=true
  rw[hg,ih,bP hm];rfl
def Nd (m:rX):List Sy->List Dc->Prop
 | [],L=>∃d,L=[d]/\DOk m d/\val d=cnt m []
 | x::q,L=>∃d L',L=d::L'/\DOk m d/\val d=cnt m (x::q)/\Nd m q L'
theorem Nd.hd:∀{q:List Sy}{L:List Dc},Nd m q L->∃d L',L=d::L'/\DOk m d/\val d=cnt m q
 | [],L,⟨d,e,h1,h2⟩=>⟨d,[],e,h1,h2⟩
 | _::_,L,⟨d,L',e,h1,h2,_⟩=>⟨d,L',e,h1,h2⟩
theorem Nd.at {m:rX}:∀{O:List Sy}{L:List Dc}{k:Nat},Nd m O L->k<=O.length->∃d,L[k]?=some d/\DOk m d/\val d=cnt m (O.drop k)
 | [],L,k,⟨d,e,h1,h2⟩,hk=>by
  have:k=0:=by simpa using hk
  subst this e
  exact⟨d,rfl,h1,h2⟩
 | x::q,L,0,⟨d,L',e,h1,h2,_⟩,hk=>by subst e;exact⟨d,rfl,h1,h2⟩
 | x::q,L,k+1,⟨d,L',e,_,_,h⟩,hk=>by
  subst e
  obtain⟨d',a1,a2,a3⟩:=Nd.at (k:=k) h (by simpa using hk)
  exact⟨d',by simpa using a1,a2,by simpa using a3⟩
theorem Nd.len {m:rX}:∀{O:List Sy}{L:List Dc},Nd m O L->L.length=O.length+1
 | [],L,⟨d,e,_⟩=>by subst e;rfl
 | x::q,L,⟨d,L',e,_,_,h⟩=>by subst e;simp[Nd.len h]
theorem uX (hm:bw m)(hl:m.length < 100)(hg:∀w∈g,w≠[])(h4:∀is∈g.flatten,C4 is)(hf:g.flatten.length < 1000):
  ∃L:List Dc,Nd m (g.flatten.zip (aU g)) L/\cD [DA g,mP m]=some (.lst (L.map dP)):=by
 have h1:=Ub hm hl
 have h2:=uh hf
 have h3:=ul hg hf
 have hend:fD [mP m]=some (bG (m.length,0,0)):=by simp[fD,ou,mP,bG,GB]
 have hd0:DOk m [((m.length,0,0),1)]:=⟨by simp[ks],λt ht=>.inr (by simpa [ks] using ht)⟩
 have hO:∀x∈g.flatten.zip (aU g),C4 x.1:=λx hx=>h4 _ (d6 hx).1
 have hOl:(g.flatten.zip (aU g)).length < 1000:=by rw[iP];omega
 generalize hOO:g.flatten.zip (aU g)=O at *
 obtain⟨L,⟨q,e1,e2⟩,h⟩:=bz (g:=gT [5,6]) (ds:=[5,6]) (body:=fZ) zP (λL:List Dc=>[some (DA g),some (mP m),some (gG m),some (dP (L.headD [])),some (.lst (L.reverse.map dP)),none,none])
  (λr L=>∃q,O=r.reverse++q/\Nd m q L)
  (by
   rintro x r L ⟨q,e1,e2⟩
   have hq:r.length+1+q.length=O.length:=by have:=b9 List.length e1;simp at this;omega
   have hlen:=e2.len
   obtain⟨d,L',e3,a1,a2⟩:=e2.hd
   obtain⟨d2,f1,f2,f3⟩:=Ld hm hl (hO x (by rw[e1];simp)) x.2 a1
   have hL:(L.reverse.map dP).length < 1000000:=by rw[af,jS];omega
   refine⟨d2::L,⟨x::q,by rw[e1];simp,d2,L,rfl,f1,?_,e2⟩,?_⟩
   ·funext t
    rw[f2 t,cnt_cons,a2]
   ·have e4:L.headD []=d:=by rw[e3];rfl
    have e5:(d2::L).headD []=d2:=rfl
    have e6:(d2::L).reverse.map dP=L.reverse.map dP++[dP d2]:=by simp
    rw[e4,e5,e6]
    unfold zP
    generalize L.reverse.map dP=LP,gG m=SP,DA g=GP,mP m=MP,dP d2=D2,dP d=D1,aD x.1=OP at *
    simp[aY,fZ,f3,hL])
  O.reverse [[((m.length,0,0),1)]] ⟨[],by simp,[((m.length,0,0),1)],rfl,hd0,by
   funext t
   simp[val,look,cnt_nil,fin]
   by_cases q:t=(m.length,0,0)
   ·simp[q]
   ·have:¬ (m.length,0,0)=t:=λz=>q z.symm
    simp[q,this]⟩
 simp only[List.reverse_nil,hV] at e1
 subst e1
 refine⟨L,e2,?_⟩
 have hz:ud (.lst (g.flatten.map aD)) (.lst ((aU g).map .bl))=some (.lst (O.map zP)):=by
  have:((aU g).map PV.bl).length=(g.flatten.map aD).length:=by rw[af,af,cN]
  simp only[ud,be this,Mx,hOO]
 have hr:(O.map zP).reverse=O.reverse.map zP:=by rw[oD]
 rw[← hr] at h
 have Yx:lW (bG (m.length,0,0)) (.int 1)=some (dP [((m.length,0,0),1)]):=by simp[bG,GB,dP,dE,kS]
 have hrv:(L.reverse.map dP).reverse=L.map dP:=by rw[oD,List.reverse_reverse]
 have h00:([[((m.length,0,0),(1:Int))]]:List Dc).reverse.map dP=[dP [((m.length,0,0),1)]]:=rfl
 have h01:([[((m.length,0,0),(1:Int))]]:List Dc).headD []=[((m.length,0,0),1)]:=rfl
 rw[h00,h01] at h
 rw[← hrv]
 generalize gG m=SP,DA g=GP,mP m=MP,dP [((m.length,0,0),1)]=D0,bG (m.length,0,0)=S0,dP (L.headD [])=D1,L.reverse.map dP=LP,O.map zP=OP,g.flatten.map aD=Z1,(aU g).map PV.bl=Z2 at *
 simp[cD,jZ,h1,h2,h3,hend,Yx,hz,h,-ud,-lW]
theorem Bj {α:Type}{m:List α}{d r:List (α×Nat)}{y:α×Nat}(e:m.zipIdx=d++y::r):y.2=d.length/\m[d.length]?=some y.1/\m.drop (d.length+1)=r.map (·.1)/\d.length < m.length:=by
 have h1:m=d.map (·.1)++y.1::r.map (·.1):=by
  have:=b9 (List.map Prod.fst) e
  rw[cS,ap] at this
  rw[← this,db]
 have hl:d.length < m.length:=by rw[h1];simp
 have h2:m.zipIdx[d.length]?=some y:=by rw[e];simp
 rw[mB,i9] at h2
 have h3:m[d.length]?=some y.1:=by
  rw[h1]
  rw[fk (by simp)]
  simp
 rw[h3] at h2
 have VQ:(y.1,d.length)=y:=a9 h2
 have h4:y.2=d.length:=(b9 Prod.snd VQ).symm
 refine⟨h4,h3,?_,hl⟩
 have h5:m.drop (d.length+1)=(d.map (·.1)++y.1::r.map (·.1)).drop (d.length+1):=b9 _ h1
 rw[h5,List.drop_append]
 simp
def OW (m:rX)(A:List Sy)(d:Dc):Prop:=∀f,wt d f=A.foldr (HU m) f (0,0,0)
theorem DQ (m:rX)(o:Nat)(e:Bool)(f:C3->Int):HU m ([o],e) f=F2 m o e f:=by funext t;simp[HU]
theorem OW.start (m:rX):OW m [] [((0,0,0),1)]:=λf=>by simp[wt]
theorem OW.snoc {d':Dc}(h:OW m A d)(hw:∀f,wt d' f=wt d (F2 m o e f)):OW m (A++[([o],e)]) d':=λf=>by
 rw[hw,h,List.foldr_append]
 simp only[List.foldr_cons,List.foldr_nil,DQ]
theorem OW.nums (h:OW m A d)(hb:val b=cnt m B)(os:gV):(os.map λo=>wt d (F2 m o e (val b)))=DT m A (os,e) B:=by
 unfold DT
 refine ci λo _=>?_
 rw[h,hb]
 unfold Nm
 rw[wW,cnt_cons,DQ]
theorem DW.start (EF:m≠[]):DW m [((0,0,0),1)]:=by
 refine⟨⟨by simp[ks],λt ht=>.inl ?_⟩,λy hy=>?_,by simp[wt,LI]⟩
 ·have:t=(0,0,0):=by simpa [ks] using ht
  subst this
  obtain⟨s,m',e⟩:∃s m',m=s::m':=by cases m with | nil=>exact absurd rfl EF | cons s m'=>exact⟨s,m',rfl⟩
  exact EW.mpr ⟨s,by rw[e];rfl,.inl rfl⟩
 ·rw[aE] at hy;rw[hy];decide
def ZW (G M N:PV)(BY ES:List PV)(S:gV)(d:Dc)(t:Int):MR.Env:=[some G,some M,some N,some (.lst BY),some (.lst ES),some (aD S),some (dP d),some (.int t),none,none,none,none]
theorem Qc {G:PV}{ES:List PV}{d':Dc}{t r:Int}{k f:Nat}{C:PV}(hes:DE ES (k:Int)=some (.bl e))(L7:DE BY ((k:Int)+1)=some (dP b))
  (Kb:bR [M,dP d,aD os,.bl e,dP b]=some C) (IE:dq [C,.int t]=some (.tup [.int (f:Nat),.int r])) (ho:os[f]?=some o) (hw:dm [M,dP d,aA o,.bl e]=some (dP d')) (hS:S.length < 1000):
  turn (gT [8,9]) [8,9,10,11] gF (.tup [.int (k:Nat),aD os]) (ZW G M N BY ES S d t)=some (ZW G M N BY ES (S++[o]) d' r):=by
 have a3:DE (os.map aA) (f:Int)=some (aA o):=bJ (by simp[ho])
 have h4:(S.map aA).length < 1000000:=by rw[af];omega
 have e1:aD (S++[o])=.lst (S.map aA++[aA o]):=by simp[aD]
 unfold gF ZW
 rw[e1]
 unfold aD at Kb ⊢
 generalize dq=mc,bR=mp,dm=mw,dP d=D0,dP d'=D1,dP b=B,aA o=OO,os.map aA=OP,S.map aA=SP at *
 simp[aY,hes,L7,Kb,IE,a3,h4,hw]
structure LA (g:dn):Prop where
 ne:∀w∈g,w≠[]
 c4g:Tx g
 le:g.flatten.length < 900
theorem LA.c4 (h:LA g):∀is∈g.flatten,C4 is:=Dq h.c4g
theorem LA.l9 (h:LA g):∀is∈g.flatten,is.length<=9/\is.Nodup:=λis hi=>by
 obtain⟨w,hw,hi⟩:=List.mem_flatten.mp hi
 exact(h.c4g w hw is hi).2
noncomputable def aK (g:dn):List Sy:=g.flatten.zip (aU g)
theorem oR (g:dn):(aK g).length=g.flatten.length:=by
 unfold aK
 rw[iP,cN]
 omega
theorem uY (g:dn):(aK g).map (·.1)=g.flatten:=by
 unfold aK
 exact List.map_fst_zip (by rw[cN];exact aT _)
theorem Bk (g:dn):(aK g).map (·.2)=aU g:=by
 unfold aK
 exact List.map_snd_zip (by rw[cN];exact aT _)
theorem uZ:∀(T:gV) (es:List Bool),(aR T es).length<=es.length
 | [],es=>by simp[aR]
 | _::_,[]=>by simp[aR]
 | i::T,e::es=>by
  have ih:=uZ T es
  unfold aR at ih ⊢
  rw[f8,hJ,aS,bg]
  by_cases h:i=3 <;> simp only[h,kA,ib] <;> simp <;> simp at ih <;> omega
theorem Bl:∀{O:List Sy}{fs:gV},Nc O fs->(∀x∈O,C4 x.1)->C4 (codes O fs)
 | [],fs,h,_=>by rw[show fs=[] from h];intro i hi;simp[codes] at hi
 | x::B,fs,⟨f,o,gs,e,h1,h2⟩,hh=>by
  subst e
  have ih:=Bl h2 λy hy=>hh y (ag _ hy)
  intro i hi
  have e1:codes (x::B) (f::gs)=x.1.getD f 0::codes B gs:=rfl
  rw[e1,gJ h1,av] at hi
  rcases hi with z | z
  ·rw[z];exact hh x ah o (ax h1)
  ·exact ih i z
noncomputable def rS (m:rX)(g:dn)(n:Int):List Nat:=codes (aK g) (GV m [] (aK g) n)
noncomputable def rW (m:rX)(g:dn)(n:Int):List Sg:=aR (rS m g n) (aU g)
noncomputable def rF (m:rX)(g:dn)(n:Int):List Nat:=ie (rW m g n) m 0 (IC m [] (aK g) n)
noncomputable def YB (m:rX)(g:dn)(n:Int):PV:=.tup [aD (rS m g n),fP (rF m g n)]
structure RdOk (m:rX)(g:dn)(n:Int):Prop where
 YC:Nc (aK g) (GV m [] (aK g) n)
 c4:C4 (rS m g n)
 len:(rS m g n).length=g.flatten.length
 ins:bH g.flatten (rS m g n)=true
 wl:(rW m g n).length < 1000
 r0:0<=IC m [] (aK g) n
 r1:IC m [] (aK g) n < D6 (rW m g n) m 0
 nm:IZ m [] (aK g) (GV m [] (aK g) n)+IC m [] (aK g) n=n
theorem VH (hm:bw m)(hg:LA g)(h0:0<=n)(h1:n < Nm m (aK g)):RdOk m g n:=by
 obtain⟨a1,a2,a3,a4⟩:=Jj (m:=m) (aK g) [] n h0 (by simpa using h1)
 have X6:∀x∈aK g,C4 x.1:=λx hx=>hg.c4 _ (d6 hx).1
 refine⟨a1,Bl a1 X6,by unfold rS;rw[x_ a1,oR],yc (cN g) a1,?_,a2,?_,a4⟩
 ·unfold rW
  have:=uZ (rS m g n) (aU g)
  have h2:=cN g
  have h3:=hg.le
  omega
 ·unfold rW
  rw[← Dz hm,← Ay]
  rw[hV] at a3
  have e:=uW g.flatten (aU g) (GV m [] (aK g) n)
  have e2:ones (aK g) (GV m [] (aK g) n)=((rS m g n).map λi=>[i]).zip (aU g):=e
  rw[e2] at a3
  exact a3
theorem yd (d:Dc):qU (dP d) iU (.int 0)=some (.int (val d (0,0,0))):=by
 have:=qH (0,0,0) d
 unfold dP iU
 show (DI [.int 0,.int 0,.int 0]).map (λk=>(dg (d.map dE) k).getD (.int 0))=_
 have hk:DI [.int 0,.int 0,.int 0]=some (kS (0,0,0)):=by simp[kS]
 rw[hk,mT,this]
 unfold val
 cases look d (0,0,0) <;> rfl
theorem ye:lW iU (.int 1)=some (dP [((0,0,0),1)]):=by simp[iU,dP,dE,kS]
theorem yf (g:dn):fQ 0 (g.flatten.map aD)=(aK g).zipIdx.map λy:Sy×Nat=>PV.tup [.int (y.2:Nat),aD y.1.1]:=by
 have e:g.flatten.map aD=(aK g).map λx=>aD x.1:=by
  conv=>lhs;rw[← uY g]
  rw[de]
  rfl
 rw[e]
 exact jl _ _ _
theorem yg {k:Nat}{x:Sy}(h:(aK g)[k]?=some x):DE ((aU g).map PV.bl) (k:Int)=some (.bl x.2):=by
 refine bJ ?_
 rw[← Bk g,de,ar,h]
 rfl
theorem DR (hm:bw m)(hl:m.length < 12)(EF:m≠[])(hg:LA g)(h0:0<=n)(h1:n < Nm m (aK g)):
  cU [DA g,mP m,.int n]=some (YB m g n):=by
 have ok:=VH hm hg h0 h1
 have LZ:=hg.le
 obtain⟨L,aL,L7⟩:=uX hm (by omega) hg.ne hg.c4 (by omega)
 have aL:Nd m (aK g) L:=aL
 obtain⟨dh,L',eL,dh1,dh2⟩:=aL.hd
 have hO:∀x∈aK g,C4 x.1/\x.1.length<=9:=λx hx=>⟨hg.c4 _ (d6 hx).1,(hg.l9 _ (d6 hx).1).1⟩
 have hOl:=oR g
 obtain⟨⟨S,d,t⟩,⟨q,A,e1,e2,e3,e4,e5,e6,e7,e8⟩,lp⟩:=bz (g:=gT [8,9]) (ds:=[8,9,10,11]) (body:=gF) (λy:Sy×Nat=>PV.tup [.int (y.2:Nat),aD y.1.1])
  (λz:List Nat×Dc×Int=>ZW (DA g) (mP m) (.int n) (L.map dP) ((aU g).map PV.bl) z.1 z.2.1 z.2.2)
  (λr z=>∃q A,(aK g).zipIdx=q++r/\DW m z.2.1/\OW m A z.2.1/\0<=z.2.2/\z.2.2 < Nm m (A++r.map (·.1))/\z.1.length=q.length/\z.1++codes (r.map (·.1)) (GV m A (r.map (·.1)) z.2.2)=rS m g n/\IC m A (r.map (·.1)) z.2.2=IC m [] (aK g) n)
  (by
   rintro y r z ⟨q,A,e1,e2,e3,e4,e5,e6,e7,e8⟩
   obtain⟨S,d,t⟩:=z
   obtain⟨x,k⟩:=y
   simp only[ap] at e2 e3 e4 e5 e6 e7 e8
   obtain⟨q1,q2,q3,q4⟩:=Bj e1
   simp only at q1 q2
   subst q1
   obtain⟨YD,hx9⟩:=hO x (ax q2)
   obtain⟨b,b1,b2,b3⟩:=aL.at (k:=q.length+1) (by omega)
   rw[q3] at b3
   have hbk:DE (L.map dP) ((q.length:Int)+1)=some (dP b):=bJ (k:=q.length+1) (by rw[ar,b1];rfl)
   obtain⟨o,p1,p2,p3,p4⟩:=rm e4 e5
   have Kb:=Ji hm hl e2 YD (by omega) x.2 (b:=b)
   rw[e3.nums b3 x.1] at Kb
   have VI:(DT m A x (r.map (·.1))).length < 1000:=by unfold DT;rw[af];omega
   have IE:=xZ (cs:=DT m A x (r.map (·.1))) e4 (by rw[w6];exact e5) VI
   obtain⟨d',w1,w2,w3⟩:=w5 hm (by omega) e2 (YD o (ax p1)) x.2
   have hS:S.length < 1000:=by omega
   have OX:one x (pick (DT m A x (r.map (·.1))) t).1=([o],x.2):=by unfold one;rw[gJ p1]
   refine⟨(S++[o],d',(pick (DT m A x (r.map (·.1))) t).2),⟨q++[(x,q.length)],A++[([o],x.2)],by rw[e1];simp,w1,e3.snoc w2,p2,by rw[← OX];exact p3,by simp[e6],?_,?_⟩,Qc (yg q2) hbk Kb IE p1 w3 hS⟩
   ·simp only
    rw[← e7,ei]
    congr 1
    show _=x.1.getD (pick (DT m A x (r.map (·.1))) t).1 0::codes (r.map (·.1)) (GV m (A++[one x (pick (DT m A x (r.map (·.1))) t).1]) (r.map (·.1)) (pick (DT m A x (r.map (·.1))) t).2)
    rw[gJ p1,OX]
    rfl
   ·simp only
    rw[← e8,← OX]
    rfl)
  (aK g).zipIdx ([],[((0,0,0),1)],n) ⟨[],[],rfl,DW.start EF,OW.start m,h0,by simpa [db] using h1,rfl,by simp[db,rS],by simp[db]⟩
 simp only[ed,GV,codes,IC,bq] at e7 e8
 subst e7 e8
 have ZX:=wR hg.ne ok.c4 (show g.flatten.length < 1000 by omega)
 have hft:=PX hm ok.wl (by omega:m.length < 100) ok.r0 ok.r1
 have hop:=uh (g:=g) (show g.flatten.length < 1000 by omega)
 have ZJ:=ul hg.ne (show g.flatten.length < 1000 by omega)
 have hval:val dh (0,0,0)=Nm m (aK g):=by rw[dh2];rfl
 have hsg:=yd dh
 rw[hval] at hsg
 have hL0:DE (L.map dP) 0=some (dP dh):=by rw[eL];exact bJ (k:=0) rfl
 have ZX:gC [DA g,aD (rS m g n)]=some (aQ (rW m g n)):=ZX
 have F6:=ye
 rw[← yf] at lp
 unfold YB rF
 unfold ZW at lp
 have e9:aD []=.lst []:=rfl
 simp only[e9] at lp
 unfold aD fP at *
 generalize (ie (rW m g n) m 0 (IC m [] (aK g) n)).map (λf:Nat=>PV.int (f:Nat))=FF,aQ (rW m g n)=RR,(rS m g n).map aA=SS,(g.flatten.map λis=>PV.lst (is.map aA))=FP,DA g=GP,mP m=MP,L.map dP=LP,(aU g).map PV.bl=EP,dP [((0,0,0),1)]=D0,dP dh=DH,dP d=D1 at *
 simp[cU,rN,L7,hL0,hsg,h0,h1,ZJ,F6,hop,lp,ZX,hft,-qU,-lW]
theorem Uh {x:Sy}{f:Nat}(h:x.1[f]?=some o):(DT m A x B)[f]?=some (Nm m ((A++[one x f])++B)):=by
 unfold DT
 rw[ar,h]
 have:(A++[one x f])++B=A++([o],x.2)::B:=by unfold one;rw[gJ h];simp
 rw[this]
 rfl
theorem MJ {m:rX}:∀(O A:List Sy) (fs:gV) (r:Int),Nc O fs->0<=r->r < Nm m (A++ones O fs)->
  0<=IZ m A O fs+r/\IZ m A O fs+r < Nm m (A++O)/\GV m A O (IZ m A O fs+r)=fs/\IC m A O (IZ m A O fs+r)=r
 | [],A,fs,r,h,h0,h1=>by
  have:fs=[]:=h
  subst this
  have e:IZ m A [] []=0:=rfl
  rw[e,Int.zero_add]
  exact⟨h0,by simpa [ones] using h1,rfl,rfl⟩
 | x::B,A,fs,r,⟨f,o,gs,e,ho,hg⟩,h0,h1=>by
  subst e
  have e1:A++ones (x::B) (f::gs)=(A++[one x f])++ones B gs:=by simp[ones]
  rw[e1] at h1
  obtain⟨i1,i2,i3,i4⟩:=MJ B (A++[one x f]) gs r hg h0 h1
  have e2:IZ m A (x::B) (f::gs)=((DT m A x B).take f).sum+IZ m (A++[one x f]) B gs:=rfl
  have hc:=Uh (m:=m) (A:=A) (B:=B) ho
  have nn:=Bg m A x B
  have QU:=tQ _ f _ (IZ m (A++[one x f]) B gs+r) hc i1 i2 nn
  have hle:=pR _ f _ hc nn
  rw[w6] at hle
  have hs:0<=((DT m A x B).take f).sum:=iG _ λy hy=>nn y (fm hy)
  have e3:IZ m A (x::B) (f::gs)+r=((DT m A x B).take f).sum+(IZ m (A++[one x f]) B gs+r):=by rw[e2];omega
  rw[e3]
  refine⟨by omega,by omega,?_,?_⟩
  ·show (pick (DT m A x B) _).1::GV m (A++[one x (pick (DT m A x B) _).1]) B (pick (DT m A x B) _).2=_
   rw[QU]
   simp only
   rw[i3]
  ·show IC m (A++[one x (pick (DT m A x B) _).1]) B (pick (DT m A x B) _).2=r
   rw[QU]
   exact i4
theorem yh:∀{xs:List (List Nat)}{es:List Bool}{S:gV},es.length=xs.length->bH xs S=true->∃fs,Nc (xs.zip es) fs/\codes (xs.zip es) fs=S
 | [],[],[],_,_=>⟨[],rfl,rfl⟩
 | [],[],_::_,_,h=>by simp[bH] at h
 | [],_::_,_,h,_=>by simp at h
 | _::_,[],_,h,_=>by simp at h
 | x::xs,e::es,[],_,h=>by simp[bH] at h
 | x::xs,e::es,i::S,hl,h=>by
  simp only[bH,bp,eD] at h
  obtain⟨fs,h1,h2⟩:=yh (xs:=xs) (es:=es) (by simpa using hl) h.2
  obtain⟨f,hf,e1⟩:=List.getElem_of_mem h.1
  have e2:x[f]?=some i:=by rw[al hf,e1]
  refine⟨f::fs,⟨f,i,fs,rfl,e2,h1⟩,?_⟩
  show x.getD f 0::codes (xs.zip es) fs=i::S
  rw[h2,a8,e2]
  rfl
theorem DX {R:r9}:∀{m:rX}{a:Nat}{fs:gV},bw m->Lu m fs->a<=R.length->EH (a_ m fs) (R.drop a)=true->pW R m a fs
 | [],a,fs,_,h,ha,hr=>by
  have:fs=[]:=h
  subst this
  refine⟨rfl,?_⟩
  cases q:R.drop a with
  | nil=>
   have:=b9 List.length q
   simp at this
   omega
  | cons b B=>rw[q] at hr;simp[a_,EH] at hr
 | s::m,a,fs,hm,⟨f,p,gs,e,h1,h2⟩,ha,hr=>by
  subst e
  have hg:s.1.getD f ⟨#[]⟩=p:=by rw[a8,h1];rfl
  have hr:EH (bW s (s.1.getD f ⟨#[]⟩)++a_ m gs) (R.drop a)=true:=hr
  have ok:=(hm s ah).ok p (ax h1)
  rw[hg,tL,eX,bp,qr] at hr
  have hf:fit p s.2 (seg R a p.length)=true:=by rw[Ar ok];exact hr.1
  exact⟨f,p,gs,rfl,h1,hf,DX (λt ht=>hm t (ag _ ht)) h2 (fit_le ok hf) hr.2⟩
structure RE (m:rX)(g:dn)(P fs:gV):Prop where
 YC:Nc (aK g) P
 ft:pW (aR (codes (aK g) P) (aU g)) m 0 fs
noncomputable def nO (m:rX)(g:dn)(P fs:gV):Int:=IZ m [] (aK g) P+num (aR (codes (aK g) P) (aU g)) m 0 fs
variable {P:gV}
theorem RE.ok (hm:bw m){fs:gV}(h:RE m g P fs):0<=nO m g P fs/\nO m g P fs < Nm m (aK g)/\GV m [] (aK g) (nO m g P fs)=P/\IC m [] (aK g) (nO m g P fs)=num (aR (codes (aK g) P) (aU g)) m 0 fs/\rF m g (nO m g P fs)=fs:=by
 obtain⟨a1,a2,a3⟩:=vP h.ft
 have e:=uW g.flatten (aU g) P
 have e2:ones (aK g) P=((codes (aK g) P).map λi=>[i]).zip (aU g):=e
 have DS:num (aR (codes (aK g) P) (aU g)) m 0 fs < Nm m ([]++ones (aK g) P):=by
  rw[hV,e2]
  unfold Nm
  rw[Ay,Dz hm]
  exact a2
 obtain⟨b1,b2,b3,b4⟩:=MJ (m:=m) (aK g) [] P _ h.YC a1 DS
 refine⟨b1,(by rw[hV] at b2;exact b2),b3,b4,?_⟩
 unfold rF rW rS nO
 rw[b3,b4]
 exact a3
theorem MK (hm:bw m){fs P' FG:gV}(h:RE m g P fs)(h':RE m g P' FG)(hn:nO m g P fs < nO m g P' FG):
  HT.EV (P.map λf:Nat=>(f:Int)) (fs.map λf:Nat=>(f:Int)) (P'.map λf:Nat=>(f:Int)) (FG.map λf:Nat=>(f:Int))=true:=by
 obtain⟨a1,a2,a3,a4,a5⟩:=h.ok hm
 obtain⟨b1,b2,b3,b4,b5⟩:=h'.ok hm
 have inj:∀{a b:gV},(a.map λf:Nat=>(f:Int))=(b.map λf:Nat=>(f:Int))->a=b:=λ{a b} e=>(List.map_inj_right λx y z=>by have z:(x:Int)=(y:Int):=z;omega).mp e
 have:=Jk (m:=m) (aK g) [] _ _ a1 hn (by simpa using b2)
 rw[a3,b3] at this
 unfold HT.EV
 rcases this with ⟨z1,z2⟩ | ⟨z1,z2⟩
 ·rw[a7 λe=>z2 (inj e)]
  exact z1
 ·subst z1
  rw[be rfl]
  rw[a4,b4] at z2
  obtain⟨c1,c2,c3⟩:=vP h.ft
  obtain⟨d1,d2,d3⟩:=vP h'.ft
  have:=Mz c1 z2 d2
  rw[c3,d3] at this
  exact this
theorem rn:∀{a b:rq},HT.lexLt a b=true->HT.lexLt b a=false
 | [],[],h=>by simp[HT.lexLt] at h
 | [],_::_,_=>rfl
 | _::_,[],h=>by simp[HT.lexLt] at h
 | x::xs,y::ys,h=>by
  rw[HT.D8] at h ⊢
  by_cases e:x=y
  ·rw[be e] at h
   rw[be e.symm]
   exact rn h
  ·rw[a7 e] at h
   rw[a7 λz=>e z.symm]
   have:=gg h
   exact ba (by omega)
theorem Ga {a b c d:rq}(h:HT.EV a b c d=true):HT.EV c d a b=false:=by
 unfold HT.EV at h ⊢
 by_cases e:a=c
 ·rw[be e] at h
  rw[be e.symm]
  exact rn h
 ·rw[a7 e] at h
  rw[a7 λz=>e z.symm]
  exact rn h
theorem Ui (hm:bw m){fs P' FG:gV}(h:RE m g P fs)(h':RE m g P' FG):
  HT.EV (P.map λf:Nat=>(f:Int)) (fs.map λf:Nat=>(f:Int)) (P'.map λf:Nat=>(f:Int)) (FG.map λf:Nat=>(f:Int))=decide (nO m g P fs < nO m g P' FG)/\(nO m g P fs=nO m g P' FG↔P=P'/\fs=FG):=by
 obtain⟨a1,a2,a3,a4,a5⟩:=h.ok hm
 obtain⟨b1,b2,b3,b4,b5⟩:=h'.ok hm
 have eqv:nO m g P fs=nO m g P' FG↔P=P'/\fs=FG:=by
  constructor
  ·intro e
   rw[e] at a3 a5
   exact⟨by rw[← a3,b3],by rw[← a5,b5]⟩
  ·rintro ⟨rfl,rfl⟩;rfl
 refine⟨?_,eqv⟩
 rcases Int.lt_trichotomy (nO m g P fs) (nO m g P' FG) with z | z | z
 ·rw[MK hm h h' z,bP z]
 ·obtain⟨e1,e2⟩:=eqv.mp z
  subst e1 e2
  rw[ba (by omega)]
  unfold HT.EV
  rw[be rfl,HT.F9]
 ·rw[Ga (MK hm h' h z),ba (by omega)]
theorem yS (fs:gV):fP fs=fI (fs.map λf:Nat=>(f:Int)):=by
 unfold fP fI
 rw[de]
 rfl
theorem Bm {R:r9}:∀{m:rX}{a:Nat}{fs:gV},pW R m a fs->fs.length=m.length
 | [],a,fs,⟨h1,_⟩=>by rw[h1];rfl
 | s::m,a,fs,⟨f,p,gs,e,_,_,h3⟩=>by rw[e,bg,bg,Bm h3]
theorem DY {R:r9}:∀{m:rX}{a:Nat}{fs:gV},pW R m a fs->LH R (m.zip (fs.map λf:Nat=>(f:Int))) a=some R.length
 | [],a,fs,⟨h1,h2⟩=>by subst h1 h2;rfl
 | s::m,a,fs,⟨f,p,gs,e,h1,h2,h3⟩=>by
  subst e
  have DS:=(aw.mp h1).1
  have hr:inR (s,(f:Int))=true:=by unfold inR;exact bP (by simp only;omega)
  have hp:dU s (f:Int)=p:=by unfold dU;rw[a8,fF,h1];rfl
  show LH R ((s,(f:Int))::m.zip (gs.map λf:Nat=>(f:Int))) a=_
  rw[LH,be hr]
  simp only[hp]
  rw[be h2]
  exact DY h3
theorem Bo {fs:gV}(h:pW R m 0 fs):TC m (fs.map λf:Nat=>(f:Int)) R=true:=by
 have hl:(fs.map λf:Nat=>(f:Int)).length=m.length:=by rw[af,Bm h]
 unfold TC
 rw[bP hl,DY h]
 simp
noncomputable def JI (m:rX)(g:dn)(S:gV)(F:rq):Bool:=bH g.flatten S&&TC m F (aR S (aU g))
theorem Bp (hm:bw m)(hg:LA g)(hS:C4 S)(F:rq):iB [DA g,mP m,.tup [aD S,fI F]]=some (.bl (JI m g S F)):=by
 have h1:=VD hg.c4g hS (by have:=hg.le;omega)
 have h2:=wR hg.ne hS (show g.flatten.length < 1000 by have:=hg.le;omega)
 have h3:=T6 (F:=F) (R:=aR S (aU g)) hm
 unfold JI
 generalize TC m F (aR S (aU g))=k2,fI F=FF,aQ (aR S (aU g))=RR,aD S=SS,DA g=GP,mP m=MP at *
 cases q:bH g.flatten S with
 | false=>rw[q] at h1;simp[iB,qY,h1]
 | true=>rw[q] at h1;simp[iB,qY,h1,h2,h3]
def ZY (G M RD:PV)(BY ES:List PV)(S:gV)(d:Dc)(v:Int):MR.Env:=[some G,some M,some RD,some (.lst BY),some (.lst ES),some (aD S),some (dP d),some (.int v),none,none,none]
theorem Qd {G RD:PV}{ES:List PV}{d':Dc}{k f:Nat}{cs:rq}(hes:DE ES (k:Int)=some (.bl e))(L7:DE BY ((k:Int)+1)=some (dP b))(hS:DE (S.map aA) (k:Int)=some (aA o))
  (hix:jM (aD os) (aA o)=some (.int (f:Nat))) (Ye:dC (os.map aA) none (some (f:Int))=(os.take f).map aA) (Kb:bR [M,dP d,aD (os.take f),.bl e,dP b]=some (iH cs)) (hw:dm [M,dP d,aA o,.bl e]=some (dP d')):
  turn (gT [8,9]) [8,9,10] jE (.tup [.int (k:Nat),aD os]) (ZY G M RD BY ES S d v)=some (ZY G M RD BY ES S d' (v+cs.sum)):=by
 have IX:=Be cs
 unfold jE ZY
 unfold iH at Kb
 unfold aD at Kb hix ⊢
 generalize bR=mp,dm=mw,dP d=D0,dP d'=D1,dP b=B,aA o=OO,(os.take f).map aA=OT,os.map aA=OP,S.map aA=SP,cs.map PV.int=CP at *
 simp[aY,hes,L7,Kb,hS,hix,Ye,hw,IX,-jM,-pN]
theorem Jl (os:gV)(f:Nat):dC (os.map aA) none (some (f:Int))=(os.take f).map aA:=by
 unfold dC
 have e0:HT.D9 (os.map aA).length 0 none=0:=rfl
 have e1:HT.D9 (os.map aA).length (os.map aA).length (some (f:Int))=min f os.length:=by rw[af];exact HT.EE _ _ f
 rw[e0,e1,fR,po,jp]
 rw[List.take_eq_take_iff]
 simp
theorem Qe (hm:bw m)(hl:m.length < 12)(EF:m≠[])(hg:LA g){fs:gV}(ok:RE m g P fs)(ZZ:C4 (codes (aK g) P))(Ki:bH g.flatten (codes (aK g) P)=true):
  fJ [DA g,mP m,.tup [aD (codes (aK g) P),fP fs]]=some (.int (nO m g P fs)):=by
 have LZ:=hg.le
 obtain⟨L,aL,L7⟩:=uX hm (by omega) hg.ne hg.c4 (by omega)
 have aL:Nd m (aK g) L:=aL
 have hO:∀x∈aK g,C4 x.1/\x.1.length<=9/\x.1.Nodup:=λx hx=>⟨hg.c4 _ (d6 hx).1,hg.l9 _ (d6 hx).1⟩
 have hOl:=oR g
 obtain⟨⟨d,v⟩,⟨q,A,e1,e2,e3,e4,e5⟩,lp⟩:=bz (g:=gT [8,9]) (ds:=[8,9,10]) (body:=jE) (λy:Sy×Nat=>PV.tup [.int (y.2:Nat),aD y.1.1])
  (λz:Dc×Int=>ZY (DA g) (mP m) (.tup [aD (codes (aK g) P),fP fs]) (L.map dP) ((aU g).map PV.bl) (codes (aK g) P) z.1 z.2)
  (λr z=>∃q A,(aK g).zipIdx=q++r/\DW m z.1/\OW m A z.1/\z.2+IZ m A (r.map (·.1)) ((P).drop q.length)=IZ m [] (aK g) (P)/\Nc (r.map (·.1)) ((P).drop q.length))
  (by
   rintro y r z ⟨q,A,e1,e2,e3,e4,e5⟩
   obtain⟨d,v⟩:=z
   obtain⟨x,k⟩:=y
   simp only[ap] at e2 e3 e4 e5
   obtain⟨q1,q2,q3,q4⟩:=Bj e1
   simp only at q1 q2
   subst q1
   obtain⟨YD,hx9,hxn⟩:=hO x (ax q2)
   obtain⟨b,b1,b2,b3⟩:=aL.at (k:=q.length+1) (by omega)
   rw[q3] at b3
   have hbk:DE (L.map dP) ((q.length:Int)+1)=some (dP b):=bJ (k:=q.length+1) (by rw[ar,b1];rfl)
   obtain⟨f,o,c1,c2,c3⟩:=Bh ok.YC q2
   obtain⟨f',o',gs,d1,d2,d3⟩:=e5
   have UD:(P).drop q.length=f::(P).drop (q.length+1):=by
    have:=(aw.mp c1)
    obtain⟨w1,w2⟩:=this
    rw[eJ w1,w2]
   rw[UD] at d1
   injection d1 with d4 d5
   subst d4 d5
   have hS:DE ((codes (aK g) P).map aA) (q.length:Int)=some (aA o):=bJ (by rw[ar];rw[c3];rfl)
   have ho4:=YD o (ax c2)
   obtain⟨j,j1,j2⟩:=vO ho4 YD (ax c2) (by omega)
   have hj:j=f:=(List.getElem?_inj (aw.mp j1).1 hxn).mp (by rw[j1,c2])
   subst hj
   have Kb:=Ji hm hl e2 (os:=x.1.take j) (λi hi=>YD i (fm hi)) (by rw[dv];omega) x.2 (b:=b)
   rw[e3.nums b3 (x.1.take j)] at Kb
   have VI:DT m A (x.1.take j,x.2) (r.map (·.1))=(DT m A x (r.map (·.1))).take j:=by unfold DT;rw[jp]
   rw[VI] at Kb
   obtain⟨d',w1,w2,w3⟩:=w5 hm (by omega) e2 ho4 x.2
   have OX:one x j=([o],x.2):=by unfold one;rw[gJ c2]
   refine⟨(d',v+((DT m A x (r.map (·.1))).take j).sum),⟨q++[(x,q.length)],A++[([o],x.2)],by rw[e1];simp,w1,e3.snoc w2,?_,?_⟩,Qd (yg q2) hbk hS j2 (Jl x.1 j) Kb w3⟩
   ·simp only
    rw[← e4,UD,aS,cw,← OX]
    show _=v+(((DT m A x (r.map (·.1))).take j).sum+IZ m (A++[one x j]) (r.map (·.1)) _)
    omega
   ·rw[aS,cw]
    exact d3)
  (aK g).zipIdx ([((0,0,0),1)],0) ⟨[],[],rfl,DW.start EF,OW.start m,by simp[db],by simpa [db] using ok.YC⟩
 have hv:v=IZ m [] (aK g) (P):=by
  rw[← e4]
  simp only[ed]
  have:∀fs,IZ m A [] fs=0:=λfs=>by cases fs <;> rfl
  rw[this]
  omega
 have Si:(aR (codes (aK g) P) (aU g)).length < 1000:=by
  have:=uZ (codes (aK g) P) (aU g)
  have h2:=cN g
  omega
 have ZX:gC [DA g,aD (codes (aK g) P)]=some (aQ (aR (codes (aK g) P) (aU g))):=wR hg.ne ZZ (show g.flatten.length < 1000 by omega)
 have hnf:=Jc hm Si (by omega:m.length < 100) ok.ft
 have hop:=uh (g:=g) (show g.flatten.length < 1000 by omega)
 have ZJ:=ul hg.ne (show g.flatten.length < 1000 by omega)
 have VO:=Bp hm hg ZZ (fs.map λf:Nat=>(f:Int))
 have C8:JI m g (codes (aK g) P) (fs.map λf:Nat=>(f:Int))=true:=by unfold JI;rw[Ki,Bo ok.ft];rfl
 rw[C8,← yS] at VO
 have F6:=ye
 have IX:v+num (aR (codes (aK g) P) (aU g)) m 0 fs=nO m g P fs:=by rw[hv];rfl
 rw[← yf] at lp
 unfold ZY at lp
 generalize num (aR (codes (aK g) P) (aU g)) m 0 fs=nf,fP fs=FF,aQ (aR (codes (aK g) P) (aU g))=RR,aD (codes (aK g) P)=SS,g.flatten.map aD=FP,DA g=GP,mP m=MP,L.map dP=LP,(aU g).map PV.bl=EP,dP [((0,0,0),1)]=D0,dP d=D1 at *
 simp[fJ,sZ,VO,L7,ZJ,F6,hop,lp,ZX,hnf,IX,-lW]
theorem Jm (hm:bw m)(hg:LA g)(hS:C4 S)(F:rq):fK [DA g,mP m,.tup [aD S,fI F]]=if JI m g S F=true then none else some 11:=by
 have h:=Bp hm hg hS F
 unfold fK tu
 generalize iB=ml,fI F=FF,aD S=SS,DA g=GP,mP m=MP at *
 cases q:JI m g S F <;> rw[q] at h <;> simp[h]
theorem D_ (hm:bw m)(hg:LA g)(hS:C4 S)(h:JI m g S F=false):bT [DA g,mP m,aD S,fI F]=some .CY:=by
 have h1:=Jm hm hg hS F
 rw[h,a7 (by decide)] at h1
 unfold bT lH jV
 generalize jU=TB,fK=X,fI F=FF,aD S=SS,DA g=GP,mP m=MP at *
 simp[h1]
theorem Ea (hm:bw m)(hl:m.length < 12)(EF:m≠[])(hg:LA g){fs:gV}(ok:RE m g P fs)(ZZ:C4 (codes (aK g) P))(Ki:bH g.flatten (codes (aK g) P)=true):
  bT [DA g,mP m,aD (codes (aK g) P),fP fs]=some (.int (nO m g P fs)):=by
 have h1:=Jm hm hg ZZ (fs.map λf:Nat=>(f:Int))
 have C8:JI m g (codes (aK g) P) (fs.map λf:Nat=>(f:Int))=true:=by unfold JI;rw[Ki,Bo ok.ft];rfl
 rw[C8,be rfl,← yS] at h1
 have h2:=Qe hm hl EF hg ok ZZ Ki
 unfold bT lH jV jU
 generalize fJ=mn,fK=X,fP fs=FF,aD (codes (aK g) P)=SS,DA g=GP,mP m=MP at *
 simp[h1,h2]
theorem Qf {g:PV->MR.Env->Option MR.Env}{ds:gV}{body:MR.Env->Option Out}(c:Nat->PV)(E:Nat->MR.Env):∀n,(∀k,k < n->turn g ds body (c k) (E k)=some (E (k+1)))->bM g ds body ((List.range n).map c) (E 0)=some (.nx (E n)):=λn h=>by
 have aux:∀m s,s+m=n->bM g ds body ((List.range' s m).map c) (E s)=some (.nx (E n)):=λm=>by
  induction m with
  | zero=>intro s hs;rw[show s=n by omega];rfl
  | succ m ih=>intro s hs;rw[List.range'_succ,ap,jB (h s (by omega)),ih (s+1) (by omega)]
 rw[qh]
 exact aux n 0 (by omega)
noncomputable def Nl (w:List (List Nat)):List Sy:=w.zip (jF w.length)
theorem Uj (h:j < w.length):(Nl w).take (j+1)=(Nl w).take j++[(w[j],decide (j+1=w.length))]:=by
 rw[List.take_add_one]
 congr 1
 unfold Nl jF
 have:(w.zip ((List.range w.length).map λi=>decide (i+1=w.length)))[j]?=some (w[j],decide (j+1=w.length)):=by
  rw[iA]
  exact⟨al h,by rw[ar,gu h];rfl⟩
 rw[this]
 rfl
theorem Jo (q:dn)(w:List (List Nat)):aK (q++[w])=aK q++Nl w:=by
 unfold aK Nl
 rw[q9,List.flatten_append,List.flatten_singleton,List.zip_append (by rw[cN])]
theorem uq (hb:g.flatten.length < 900):fL [DA g]=some (.lst ((aK g).map zP)):=by
 obtain⟨q',⟨e1,_⟩,lp⟩:=bz (g:=gN 2) (ds:=[2,3]) (body:=lK) KG (λq:List (List (List Nat))=>[some (DA g),some (.lst ((aK q).map zP)),none,none])
  (λr q=>g=q++r/\True)
  (by
   rintro w r q ⟨e1,_⟩
   have UU:g.flatten=q.flatten++(w++r.flatten):=by rw[e1];simp
   have hlen:q.flatten.length+(w.length+r.flatten.length)=g.flatten.length:=by rw[UU];simp
   have Q1:=oR q
   have lw:=Qf (g:=gN 3) (ds:=[3]) (body:=lJ) (λj:Nat=>PV.int (j:Nat)) (λj=>[some (DA g),some (.lst ((aK q++(Nl w).take j).map zP)),some (KG w),none]) w.length λj hj=>by
    have ha:DE (w.map aD) (j:Int)=some (aD w[j]):=bJ (by rw[ar,al hj];rfl)
    have hl6:(w.map aD).length=w.length:=af ..
    have hR:((aK q++(Nl w).take j).map zP).length < 1000000:=by rw[af,aS,dv];omega
    have hjj:decide ((j:Int)+1=(w.length:Int))=decide (j+1=w.length):=by by_cases z:j+1=w.length <;> simp[z] <;> omega
    have e2:(aK q++(Nl w).take (j+1)).map zP=(aK q++(Nl w).take j).map zP++[.tup [aD w[j],.bl (decide (j+1=w.length))]]:=by rw[Uj hj];simp[zP]
    have e6:KG w=.lst (w.map aD):=rfl
    rw[e2,e6,← hjj]
    generalize (aK q++(Nl w).take j).map zP=RP,aD w[j]=XP,w.map aD=WP,DA g=GP at *
    simp[aY,lJ,ha,hl6,hR]
   have e3:aK q++(Nl w).take w.length=aK (q++[w]):=by
    rw[Jo,el]
    unfold Nl
    rw[iP]
    omega
   have e0:aK q++(Nl w).take 0=aK q:=by simp
   simp only[e3,e0] at lw
   rw[← dW] at lw
   refine⟨q++[w],⟨by rw[e1];simp,trivial⟩,?_⟩
   have e6:KG w=.lst (w.map aD):=rfl
   have hl6:(w.map aD).length=w.length:=af ..
   have Rl:JE (w.length:Int)=true:=jg (by omega) (by omega)
   have hw6:w.length<=1000000:=by omega
   rw[e6] at lw ⊢
   generalize w.map aD=WP,(aK (q++[w])).map zP=P2,(aK q).map zP=P1,DA g=GP at *
   simp[aY,lK,hl6,Rl,hw6,lw])
  g [] ⟨rfl,trivial⟩
 rw[bq] at e1
 subst e1
 have e5:DA g=.lst (g.map KG):=rfl
 have e4:(aK []).map zP=[]:=rfl
 rw[e4] at lp
 rw[e5] at lp ⊢
 generalize g.map KG=GP,(aK g).map zP=FP at *
 simp[fL,tE,lp]
theorem Jp {G S F:PV}:∀(O:List Sy) (P Q:gV),Nc O P->(∀x∈O,C4 x.1/\x.1.length<=9/\x.1.Nodup)->Q.length+O.length < 1000->
  bM (gT [4,5]) [4,5] iC (((codes O P).zip O).map λz=>PV.tup [aA z.1,zP z.2]) [some G,some S,some F,some (fP Q),none,none]=some (.nx [some G,some S,some F,some (fP (Q++P)),none,none])
 | [],P,Q,h,_,_=>by rw[show P=[] from h,bq];rfl
 | x::B,P,Q,⟨f,o,gs,e,h1,h2⟩,hx,hl=>by
  subst e
  obtain⟨c4,c9,cn⟩:=hx x ah
  have hm:=ax h1
  obtain⟨j,j1,j2⟩:=vO (c4 o hm) c4 hm (by omega)
  have hj:j=f:=(List.getElem?_inj (aw.mp j1).1 cn).mp (by rw[j1,h1])
  subst hj
  rw[bg] at hl
  have hQ:(Q.map λf:Nat=>PV.int (f:Nat)).length < 1000000:=by rw[af];omega
  have ht:turn (gT [4,5]) [4,5] iC (.tup [aA o,zP x]) [some G,some S,some F,some (fP Q),none,none]=some [some G,some S,some F,some (fP (Q++[j])),none,none]:=by
   have e1:fP (Q++[j])=.lst (Q.map (λf:Nat=>PV.int (f:Nat))++[.int (j:Nat)]):=by simp[fP]
   have e2:fP Q=.lst (Q.map λf:Nat=>PV.int (f:Nat)):=rfl
   have e3:zP x=.tup [aD x.1,.bl x.2]:=rfl
   rw[e1,e2,e3]
   generalize aD x.1=XP,aA o=OO,Q.map (λf:Nat=>PV.int (f:Nat))=QP at *
   simp[aY,iC,j2,hQ,-jM]
  have ih:=Jp (G:=G) (S:=S) (F:=F) B gs (Q++[j]) h2 (λy hy=>hx y (ag _ hy)) (by rw[aS,cw];omega)
  have e4:codes (x::B) (j::gs)=o::codes B gs:=by show x.1.getD j 0::_=_;rw[gJ h1]
  rw[e4,f8,ap,jB ht,ih]
  simp
theorem yj (hg:LA g)(h:Nc (aK g) P)(F:PV):cz [DA g,aD (codes (aK g) P),F]=some (.tup [fP P,F]):=by
 have hf:=uq (g:=g) hg.le
 have hO:∀x∈aK g,C4 x.1/\x.1.length<=9/\x.1.Nodup:=λx hx=>⟨hg.c4 _ (d6 hx).1,hg.l9 _ (d6 hx).1⟩
 have lp:=Jp (G:=DA g) (S:=aD (codes (aK g) P)) (F:=F) (aK g) P [] h hO (by have:=oR g;have:=hg.le;simp;omega)
 rw[← ju aA zP] at lp
 have e2:fP []=.lst []:=rfl
 rw[e2,hV] at lp
 unfold aD fP at *
 generalize (codes (aK g) P).map aA=SP,(aK g).map zP=ZP,P.map (λf:Nat=>PV.int (f:Nat))=PP,DA g=GP at *
 simp[cz,qD,hf,lp]
theorem Jq {G M S F:PV}:∀(T:gV) (O:List Sy) (R:r9),C4 T->R.length+T.length < 1000->
  bM (gT [5,6]) [5,6] du ((T.zip O).map λz=>PV.tup [aA z.1,zP z.2]) [some G,some M,some S,some F,some (aQ R),none,none,none,none,none]=some (.nx [some G,some M,some S,some F,some (aQ (R++aR T (O.map (·.2)))),none,none,none,none,none])
 | [],O,R,_,_=>by simp[aR,bM]
 | o::T,[],R,_,_=>by simp[aR,bM]
 | o::T,x::O,R,h4,hl=>by
  have ho:=h4 o ah
  rw[bg] at hl
  have e1:aR (o::T) ((x::O).map (·.2))=(if o=3 then [] else [(bF o,x.2)])++aR T (O.map (·.2)):=by simp[aR]
  have e3:zP x=.tup [aD x.1,.bl x.2]:=rfl
  have hR2:(R.map EL).length < 1000000:=by rw[af];omega
  have ht:turn (gT [5,6]) [5,6] du (.tup [aA o,zP x]) [some G,some M,some S,some F,some (aQ R),none,none,none,none,none]=some [some G,some M,some S,some F,some (aQ (R++if o=3 then [] else [(bF o,x.2)])),none,none,none,none,none]:=by
   rw[e3]
   generalize aD x.1=XP at *
   by_cases h3:o=3
   ·subst h3
    have e0:aA 3=.CY:=rfl
    rw[e0,be rfl,bq]
    generalize aQ R=RP at *
    simp[aY,du]
   ·obtain⟨n0,TK⟩:=Jh ho h3
    have e8:aQ (R++if o=3 then [] else [(bF o,x.2)])=.lst (R.map EL++[.tup [.str (bF o),.bl x.2]]):=by simp[h3,aQ,EL]
    have e9:aQ R=.lst (R.map EL):=rfl
    rw[e8,e9,TK]
    generalize R.map EL=RP at *
    simp[aY,du,hR2]
  have ih:=Jq (G:=G) (M:=M) (S:=S) (F:=F) T O (R++if o=3 then [] else [(bF o,x.2)]) (λi hi=>h4 i (ag _ hi)) (by rw[aS];by_cases h3:o=3 <;> simp[h3] <;> omega)
  rw[f8,ap,jB ht,ih,e1,ei]
noncomputable def YE (z:Sg×Sg):Bool:=C7 z.2.1 z.1.1&&(!z.2.2||z.1.2)
theorem Eb:∀{A R:r9},R.length=A.length->EH A R=(R.zip A).all YE
 | [],[],_=>rfl
 | [],_::_,h=>by simp at h
 | _::_,[],h=>by simp at h
 | a::A,b::R,h=>by
  rw[EH,f8,ij,Eb (by simpa using h)]
  rfl
theorem Lj (G M S F R A:PV)(t1:Str)(t2:Bool)(d1:Str)(d2:Bool):cH [some G,some M,some S,some F,some R,none,none,some A,some (.tup [.str t1,.bl t2]),some (.tup [.str d1,.bl d2])]=some (if YE ((t1,t2),(d1,d2))=true then .nx [some G,some M,some S,some F,some R,none,none,some A,some (.tup [.str t1,.bl t2]),some (.tup [.str d1,.bl d2])] else .rt (.bl false)):=by
 unfold YE C7
 by_cases e1:d1=t1
 ·subst e1
  cases d2 <;> cases t2 <;> by_cases ex:d1=("x" : Str) <;> simp[cH,ex]
 ·by_cases ex:d1=("x" : Str)
  ·subst ex
   cases d2 <;> cases t2 <;> simp[cH]
  ·simp[cH,ex,e1]
theorem Lk (G M S F:PV)(R A:r9):bM (gT [8,9]) [8,9] cH ((R.zip A).map λz:Sg×Sg=>PV.tup [EL z.1,EL z.2]) [some G,some M,some S,some F,some (aQ R),none,none,some (aQ A),none,none]=some (if (R.zip A).all YE=true then .nx [some G,some M,some S,some F,some (aQ R),none,none,some (aQ A),none,none] else .rt (.bl false)):=
 xV (λz:Sg×Sg=>PV.tup [EL z.1,EL z.2]) YE (R.zip A) λz _=>by
  obtain⟨⟨t1,t2⟩,⟨d1,d2⟩⟩:=z
  have h0:=Lj G M S F (aQ R) (aQ A) t1 t2 d1 d2
  exact⟨_,rfl,λh=>(b9 (ZG [8,9]) h0).trans (by rw[be h];rfl),λh=>h0.trans (by rw[h];rfl)⟩
theorem Uk (hm:bw m)(hl:m.length < 12)(hg:LA g){fs:gV}(hS:C4 S)(hSl:S.length=g.flatten.length)(fv:Lu m fs):
  bU [DA g,mP m,aD S,fP fs]=some (.bl (EH (a_ m fs) (aR S (aU g)))):=by
 have LZ:=hg.le
 have hf:=uq (g:=g) LZ
 have lp:=Jq (G:=DA g) (M:=mP m) (S:=aD S) (F:=fP fs) S (aK g) [] hS (by simp;omega)
 rw[← ju aA zP,Bk,hV] at lp
 have mk:=(An hm fv (by omega)).1
 have e2:aQ []=.lst []:=rfl
 rw[e2] at lp
 have l2:=Lk (DA g) (mP m) (aD S) (fP fs) (aR S (aU g)) (a_ m fs)
 rw[← ju EL EL] at l2
 have z3:((aR S (aU g)).map EL).length=(aR S (aU g)).length:=af ..
 have z4:((a_ m fs).map EL).length=(a_ m fs).length:=af ..
 by_cases hlen:(aR S (aU g)).length=(a_ m fs).length
 ·rw[Eb hlen]
  unfold aD aQ at *
  generalize hk:((aR S (aU g)).zip (a_ m fs)).all YE=kk,(aR S (aU g)).map EL=RP,(a_ m fs).map EL=AP,S.map aA=SP,(aK g).map zP=ZP,fP fs=FP,DA g=GP,mP m=MP at *
  cases kk <;> simp[bU,jt,hf,lp,mk,l2,z3,z4,hlen]
 ·rw[Ih λz=>hlen z.symm]
  have Z0:¬ ((aR S (aU g)).length:Int)=((a_ m fs).length:Int):=by omega
  unfold aD aQ at *
  generalize (aR S (aU g)).map EL=RP,(a_ m fs).map EL=AP,S.map aA=SP,(aK g).map zP=ZP,fP fs=FP,DA g=GP,mP m=MP at *
  simp[bU,jt,hf,lp,mk,z3,z4,Z0]
noncomputable def rP (z:List Nat×List Int):PV:=.tup [aD z.1,fI z.2]
structure Bad (m:rX)(g:dn)(z:List Nat×List Int):Prop where
 c4:C4 z.1
 no:JI m g z.1 z.2=false
theorem xd:∀{O:List (List Nat)}{S:gV}{k o:Nat}{x:gV},bH O S=true->S[k]?=some o->O[k]?=some x->o∈x
 | [],[],k,o,x,_,h,_=>by simp at h
 | [],_::_,k,o,x,h,_,_=>by simp[bH] at h
 | _::_,[],k,o,x,h,_,_=>by simp[bH] at h
 | y::O,i::S,0,o,x,h,h1,h2=>by
  simp only[bH,bp,eD] at h
  simp at h1 h2
  subst h1 h2
  exact h.1
 | y::O,i::S,k+1,o,x,h,h1,h2=>by
  simp only[bH,bp,eD] at h
  exact xd (k:=k) h.2 (by simpa using h1) (by simpa using h2)
theorem xg (h:S.length≠g.flatten.length):JI m g S F=false:=by
 unfold JI
 cases q:bH g.flatten S with
 | false=>rfl
 | true=>exact absurd (iD q) h
theorem u0 (h:F.length≠m.length):JI m g S F=false:=by
 unfold JI TC
 rw[ba h,ke,lm]
theorem Qg {k:Nat}{x:gV}(h1:S[k]?=some o)(h2:g.flatten[k]?=some x)(h:o∉x):JI m g S F=false:=by
 unfold JI
 cases q:bH g.flatten S with
 | false=>rfl
 | true=>exact absurd (xd q h1 h2) h
theorem Ln (hm:bw m)(h1:m[j]?=some s)(h2:F[j]?=some v)(h:¬ (0<=v/\v < (s.1.length:Int))):JI m g S F=false:=by
 by_cases hl:F.length=m.length
 ·unfold JI
  rw[Ii hl hm]
  have:qG m F=false:=by
   cases q:qG m F with
   | false=>rfl
   | true=>
    have hz:(s,v)∈m.zip F:=ax (i:=j) (iA.mpr ⟨h1,h2⟩)
    have:=cq.mp q _ hz
    unfold inR at this
    exact absurd (gg this) h
  rw[this,ke,lm]
 ·exact u0 hl
theorem Bq {α:Type}(f:α->PV)(l:List α)(h:l≠[]):dC (l.map f) none (some (-1))=l.dropLast.map f:=by
 have hp:=dQ.mpr h
 unfold dC
 have e0:HT.D9 (l.map f).length 0 none=0:=rfl
 have e1:HT.D9 (l.map f).length (l.map f).length (some (-1))=l.length - 1:=by
  rw[af]
  simp only[HT.D9]
  rw[be (by omega)]
  omega
 rw[e0,e1,fR,po,p5,jp]
theorem Ec {α:Type}(f:α->PV)(l:List α){k:Nat}(h:k<=l.length):dC (l.map f) none (some (k:Int))=(l.take k).map f:=by
 unfold dC
 have e0:HT.D9 (l.map f).length 0 none=0:=rfl
 have e1:HT.D9 (l.map f).length (l.map f).length (some (k:Int))=min k l.length:=by rw[af];exact HT.EE _ _ k
 rw[e0,e1,fR,po,jp,show min k l.length=k by omega]
theorem Ed {α:Type}(f:α->PV)(l:List α){k:Nat}(h:k < l.length):dC (l.map f) (some ((k:Int)+1)) none=(l.drop (k+1)).map f:=by
 unfold dC
 have e0:HT.D9 (l.map f).length 0 (some ((k:Int)+1))=min (k+1) l.length:=by rw[af];exact HT.EE _ _ (k+1)
 have e1:HT.D9 (l.map f).length (l.map f).length none=(l.map f).length:=rfl
 rw[e0,e1,oo,show min (k+1) l.length=k+1 by omega]
 exact el (by simp)
noncomputable def RF {α:Type}(l:List α)(k:Nat)(x:α):List α:=l.take k++[x]++l.drop (k+1)
theorem Jr {α:Type}{l:List α}{k:Nat}(h:k < l.length)(x:α):(RF l k x)[k]?=some x:=by
 unfold RF
 rw[ei,fk (by rw[dv];omega),dv,show k - min k l.length=0 by omega]
 rfl
theorem Ul (h:C4 S)(ho:o < 4)(k:Nat):C4 (RF S k o):=λi hi=>by
 unfold RF at hi
 rcases br.mp hi with z | z
 ·rcases br.mp z with z | z
  ·exact h i (fm z)
  ·rw[aE] at z;rw[z];exact ho
 ·exact h i (qk z)
theorem Ef {α:Type}(f:α->PV)(l:List α)(k:Nat)(x:α):(RF l k x).map f=(l.take k).map f++[f x]++(l.drop (k+1)).map f:=by simp[RF]
def TM (G M S F N:PV)(L:List (List Nat×List Int))(a x7:Option PV):MR.Env:=[some G,some M,some S,some F,some N,some (.lst (L.map rP)),a,x7,none,none]
variable {L:List (List Nat×List Int)}
theorem Lp {G:PV}{k:Nat}{x:gV}(hx:C4 x)(ho:o < 4)(hk:k < S.length)(hS:S.length < 900)(hL:L.length < 1000):
  turn (gN 8) [8] cX (aA o) (TM G M (aD S) (fI F) N L (some (.int (k:Nat))) (some (aD x)))=some (TM G M (aD S) (fI F) N (L++if o∈x then [] else [(RF S k o,F)]) (some (.int (k:Nat))) (some (aD x))):=by
 have M0:=wO ho hx
 have c1:=Ec aA S (i6 hk)
 have c2:=Ed aA S hk
 have l1:((S.take k).map aA).length+1<=1000000:=by rw[af,dv];omega
 have l2:((S.take k).map aA).length+1+((S.drop (k+1)).map aA).length<=1000000:=by rw[af,af,dv,fE];omega
 have l3:(L.map rP).length < 1000000:=by rw[af];omega
 unfold TM
 by_cases h:o∈x
 ·rw[be h,bq]
  rw[bP h] at M0
  unfold aD at *
  generalize x.map aA=XP,S.map aA=SP,L.map rP=LP,aA o=OO at *
  simp[aY,cX,M0]
 ·rw[a7 h]
  rw[ba h] at M0
  have e1:(L++[(RF S k o,F)]).map rP=L.map rP++[.tup [.lst ((S.take k).map aA++[aA o]++(S.drop (k+1)).map aA),fI F]]:=by rw[cS,← Ef];rfl
  rw[e1]
  unfold aD at *
  generalize (S.take k).map aA=S1,(S.drop (k+1)).map aA=S2,x.map aA=XP,S.map aA=SP,L.map rP=LP,aA o=OO,fI F=FF at *
  simp[aY,cX,M0,c1,c2,l1,l2,l3]
theorem Lq {G S x7:PV}{T:gV}{k:Nat}(hT:S=aD T)(hk:k < F.length)(hF:F.length < 900)(hL:L.length < 1000):
  turn (gN 9) [9] dR (.int v) (TM G M S (fI F) N L (some (.int (k:Nat))) (some x7))=some (TM G M S (fI F) N (L++[(T,RF F k v)]) (some (.int (k:Nat))) (some x7)):=by
 have c1:=Ec PV.int F (i6 hk)
 have c2:=Ed PV.int F hk
 have l1:((F.take k).map PV.int).length+1<=1000000:=by rw[af,dv];omega
 have l2:((F.take k).map PV.int).length+1+((F.drop (k+1)).map PV.int).length<=1000000:=by rw[af,af,dv,fE];omega
 have l3:(L.map rP).length < 1000000:=by rw[af];omega
 have e1:(L++[(T,RF F k v)]).map rP=L.map rP++[.tup [S,.lst ((F.take k).map PV.int++[.int v]++(F.drop (k+1)).map PV.int)]]:=by rw[cS,← Ef,hT];rfl
 unfold TM
 rw[e1]
 unfold fI at *
 generalize (F.take k).map PV.int=S1,(F.drop (k+1)).map PV.int=S2,F.map PV.int=FP,L.map rP=LP at *
 simp[aY,dR,c1,c2,l1,l2,l3]
theorem xj (n:Int){l:Nat}(h:0 < l):∃k:Nat,n % (l:Int)=k/\k < l:=by
 have h1:=mM n (b:=(l:Int)) (by omega)
 have h2:=nN n (b:=(l:Int)) (by omega)
 exact⟨(n % (l:Int)).toNat,by omega,by omega⟩
theorem Js (hm:bw m)(hg:LA g)(hS:C4 S)(hSl:S.length=g.flatten.length)(hSn:S≠[])(hFl:F.length=m.length)(hFn:F≠[])(hml:m.length < 12)(n:Int):
  fY [DA g,mP m,aD S,fI F,.int n]=some (.bl true):=by
 have LZ:=hg.le
 have YF:=dQ.mpr hSn
 have hFp:=dQ.mpr hFn
 have hf:=uq (g:=g) LZ
 obtain⟨k,hk,Z3⟩:=xj n YF
 obtain⟨j,hj,Yl⟩:=xj n hFp
 have Z4:k < g.flatten.length:=by omega
 have YG:g.flatten[k]?=some g.flatten[k]:=al Z4
 have hxc:=hg.c4 _ (eR Z4)
 obtain⟨e,hsk⟩:∃e,(aK g)[k]?=some (g.flatten[k],e):=by
  have h1:((aK g).map (·.1))[k]?=some g.flatten[k]:=by rw[uY];exact YG
  rw[ar] at h1
  cases q:(aK g)[k]? with
  | none=>rw[q] at h1;cases h1
  | some y=>rw[q] at h1;exact⟨y.2,by rw[← a9 h1]⟩
 have U1:DE ((aK g).map zP) (k:Int)=some (.tup [aD g.flatten[k],.bl e]):=bJ (by rw[ar,hsk];rfl)
 generalize g.flatten[k]=x at *
 have WS:m[j]?=some m[j]:=al (by omega)
 have hms:DE (m.map DC) (j:Int)=some (.tup [.tup (m[j].1.map .str),.bl m[j].2]):=bJ (by rw[ar,WS];rfl)
 have Yf:(m[j].1.map PV.str).length=m[j].1.length:=af ..
 let L0:List (List Nat×List Int):=[(S++[3],F),(S.dropLast,F),(S,F++[0]),(S,F.dropLast),([],F)]
 have b0:∀z∈L0,Bad m g z:=λz hz=>by
  have hdl:∀i∈S.dropLast,i < 4:=λi hi=>by rw[p5] at hi;exact hS i (fm hi)
  simp only[L0,av,bt,fg] at hz
  rcases hz with rfl | rfl | rfl | rfl | rfl
  ·exact⟨ug hS (by decide),xg (by rw[aS,cw];omega)⟩
  ·exact⟨hdl,xg (by rw[qA];omega)⟩
  ·exact⟨hS,u0 (by rw[aS,cw];omega)⟩
  ·exact⟨hS,u0 (by rw[qA];omega)⟩
  ·exact⟨λi hi=>by simp at hi,xg (by rw[k7];omega)⟩
 obtain⟨L1,⟨q1,a1,a2,a3⟩,YH⟩:=bz (g:=gN 8) (ds:=[8]) (body:=cX) aA (λL=>TM (DA g) (mP m) (aD S) (fI F) (.int n) L (some (.int (k:Nat))) (some (aD x)))
  (λr L=>∃q,[0,1,2,3]=q++r/\L.length<=5+q.length/\∀z∈L,Bad m g z)
  (by
   rintro o r L ⟨q,a1,a2,a3⟩
   have ho:o < 4:=by
    have:o∈[0,1,2,3]:=by rw[a1];simp
    simp at this
    omega
   have hq:q.length < 5:=by have:=b9 List.length a1;simp at this;omega
   refine⟨_,⟨q++[o],by rw[a1];simp,?_,λz hz=>?_⟩,Lp hxc ho Z3 (by omega) (by omega)⟩
   ·rw[aS,aS,cw]
    split <;> simp <;> omega
   ·rcases br.mp hz with w | w
    ·exact a3 z w
    ·by_cases h:o∈x
     ·rw[be h] at w;simp at w
     ·rw[a7 h,aE] at w
      subst w
      exact⟨Ul hS ho k,Qg (Jr Z3 o) YG h⟩)
  [0,1,2,3] L0 ⟨[],rfl,by simp[L0],b0⟩
 rw[bq] at a1
 subst a1
 have hL1:L1.length<=9:=a2
 obtain⟨L2,⟨q2,c1,c2,c3⟩,Z5⟩:=bz (g:=gN 9) (ds:=[9]) (body:=dR) PV.int (λL=>TM (DA g) (mP m) (aD S) (fI F) (.int n) L (some (.int (j:Nat))) (some (aD x)))
  (λr L=>∃q,[-1,(m[j].1.length:Int),100000000000000000000]=q++r/\L.length<=9+q.length/\∀z∈L,Bad m g z)
  (by
   rintro v r L ⟨q,c1,c2,c3⟩
   have hv:¬ (0<=v/\v < (m[j].1.length:Int)):=by
    have h4:=(hm m[j] (eR _)).le
    have:v∈[-1,(m[j].1.length:Int),100000000000000000000]:=by rw[c1];simp
    simp at this
    omega
   have hq:q.length < 4:=by have:=b9 List.length c1;simp at this;omega
   refine⟨_,⟨q++[v],by rw[c1];simp,by simp;omega,λz hz=>?_⟩,Lq rfl Yl (by omega) (by omega)⟩
   rcases br.mp hz with w | w
   ·exact c3 z w
   ·rw[aE] at w
    subst w
    exact⟨hS,Ln hm WS (Jr Yl v) hv⟩)
  [-1,(m[j].1.length:Int),100000000000000000000] L1 ⟨[],rfl,by simpa using hL1,a3⟩
 have hcp:=jk (env:=[none,some (DA g),some (mP m)]) (g:=gN 0) (t:=h_) (f:=j4) rP rP (λ_=>false) L2 λz hz=>by
  have hb:=c3 z hz
  have hn:=D_ hm hg hb.c4 hb.no
  refine⟨[some (rP z),some (DA g),some (mP m)],rfl,?_,λh=>by cases h⟩
  have e1:rP z=.tup [.lst (z.1.map aA),.lst (z.2.map PV.int)]:=rfl
  have e2:aD z.1=.lst (z.1.map aA):=rfl
  have e3:fI z.2=.lst (z.2.map PV.int):=rfl
  rw[e2,e3] at hn
  rw[e1]
  generalize z.1.map aA=Z1,z.2.map PV.int=Z2,DA g=GP,mP m=MP at *
  simp[h_,hn]
 have hfil:L2.filter (λ_=>false)=[]:=by simp
 rw[hfil] at hcp
 have e3:(S++[3]).map aA=S.map aA++[.CY]:=by rw[cS];rfl
 have e4:(F++[0]).map PV.int=F.map PV.int++[.int 0]:=by simp
 have d1:=Bq aA S hSn
 have d2:=Bq PV.int F hFn
 have m1:(S.map aA).length=S.length:=af ..
 have m2:(F.map PV.int).length=F.length:=af ..
 have m3:S.length+1<=1000000:=by omega
 have m4:F.length+1<=1000000:=by omega
 have hpow:wB (.int 10) (.int 20)=some (.int 100000000000000000000):=by simp
 have p1:(0:Int) < (S.length:Int):=by omega
 have p2:(0:Int) < (F.length:Int):=by omega
 have hL2:(L2.map rP).length<=1000000:=by
  have:=b9 List.length c1
  simp at this
  rw[af]
  omega
 have heq:K2 (.lst []) (.lst [])=some true:=qX (n:=1) (p:=.lst []) (λx h=>by cases h) (by decide)
 have hL0:L0.map rP=[.tup [.lst (S.map aA++[.CY]),.lst (F.map PV.int)],.tup [.lst (S.dropLast.map aA),.lst (F.map PV.int)],.tup [.lst (S.map aA),.lst (F.map PV.int++[.int 0])],.tup [.lst (S.map aA),.lst (F.dropLast.map PV.int)],.tup [.lst [],.lst (F.map PV.int)]]:=by
  simp[L0,rP,aD,fI,aA]
 unfold TM at YH Z5
 rw[hL0] at YH
 have o4:[0,1,2,3].map aA=[.tup [.int 0,.str "u"],.tup [.int 0,.str "-"],.tup [.int 1,.str "-"],.CY]:=rfl
 rw[o4] at YH
 simp only[ap,ed] at Z5 hcp
 have hmP:mP m=.tup (m.map DC):=rfl
 have e5:aD S=.lst (S.map aA):=rfl
 have e6:fI F=.lst (F.map PV.int):=rfl
 rw[e5,e6] at YH Z5 ⊢
 rw[hmP] at YH Z5 hcp ⊢
 generalize m[j].1.length=ml,m[j].1.map PV.str=MS,S.dropLast.map aA=S1,F.dropLast.map PV.int=F1,S.map aA=SP,F.map PV.int=FP,L1.map rP=LP1,L2.map rP=LP2,aD x=XP,(aK g).map zP=ZP,DA g=GP,m.map DC=MP at *
 simp[fY,lq,YF,hFp,m1,m2,m3,m4,d1,d2,p1,p2,hk,hj,hf,U1,YH,hms,Yf,hpow,Z5,hcp,hL2,heq,-wB]
theorem Jt (ns:rq)(hn:ns.length<=63):∃cs:List Int,1<=cs.length/\cs.length < 12/\bD (.lst (dC (ns.map PV.int) (some 2) (some 5))) (.lst (dC [PV.int 0] (some ((ns.length:Int) / 3)) none))=some (.lst (cs.map .int)):=by
 have e1:dC (ns.map PV.int) (some 2) (some 5)=((ns.drop (min 2 ns.length)).take (min 5 ns.length - min 2 ns.length)).map PV.int:=by
  unfold dC
  have e1:HT.D9 (ns.map PV.int).length 0 (some 2)=min 2 ns.length:=by rw[af];exact HT.EE _ _ 2
  have e2:HT.D9 (ns.map PV.int).length (ns.map PV.int).length (some 5)=min 5 ns.length:=by rw[af];exact HT.EE _ _ 5
  rw[e1,e2,jp,oo]
 have key:∀n,n < 64->1<=(min 5 n - min 2 n)+(1 - min (n / 3) 1)/\(min 5 n - min 2 n)+(1 - min (n / 3) 1) < 12:=by decide
 have kk:=key ns.length (Nat.lt_succ_of_le hn)
 have eq:(ns.length:Int) / 3=((ns.length / 3:Nat):Int):=(Int.natCast_ediv ..).symm
 generalize ns.length / 3=q at kk eq
 have e2:dC [PV.int 0] (some ((ns.length:Int) / 3)) none=(([0]:rq).drop (min q 1)).map PV.int:=by
  rw[eq]
  unfold dC
  rw[HT.EE,HT.KS]
  have hh:[PV.int 0].length=1:=rfl
  rw[hh]
  rcases(show min q 1=0\/min q 1=1 by omega) with z | z <;> rw[z] <;> rfl
 rw[e1,e2]
 have hl:((ns.drop (min 2 ns.length)).take (min 5 ns.length - min 2 ns.length)).length=min 5 ns.length - min 2 ns.length:=by
  rw[dv,fE];exact mS (Nat.sub_le_sub_right (kM _ _) _)
 have HE:(([0]:rq).drop (min q 1)).length=1 - min q 1:=by simp
 refine⟨(ns.drop (min 2 ns.length)).take (min 5 ns.length - min 2 ns.length)++([0]:rq).drop (min q 1),by rw[aS,hl,HE];exact kk.1,by rw[aS,hl,HE];exact kk.2,?_⟩
 generalize (ns.drop (min 2 ns.length)).take (min 5 ns.length - min 2 ns.length)=A,([0]:rq).drop (min q 1)=B at *
 have:A.length+B.length<=1000000:=by rw[hl,HE];exact gi (i6 kk.2) (by decide)
 simp[this]
theorem Lr (hm:bw m)(hl:m.length < 12)(hg:LA g):iz [DA g,mP m]=some (.int (Nm m (aK g))):=by
 obtain⟨L,aL,h⟩:=uX hm (by omega) hg.ne hg.c4 (by have:=hg.le;omega)
 obtain⟨d,L',e,_,e2⟩:=aL.hd
 have h2:=yd d
 have h3:DE (L.map dP) 0=some (dP d):=by rw[e];exact bJ (k:=0) rfl
 have e3:val d (0,0,0)=Nm m (aK g):=by rw[e2];rfl
 rw[e3] at h2
 generalize L.map dP=LP,dP d=D,DA g=GP,mP m=MP at *
 simp[iz,oA,h,h3,h2,-qU]
noncomputable def itF (fs:gV):List Int:=fs.map λf:Nat=>(f:Int)
theorem Lw (fs:gV):DO (fs.map λf:Nat=>PV.int (f:Nat))=some (itF fs):=by
 unfold itF
 induction fs with
 | nil=>rfl
 | cons f fs ih=>simp[ih]
theorem Qh (fs:gV):dB (fs.map λf:Nat=>PV.int (f:Nat))=some (fs.map λf:Nat=>PyData.int (f:Nat)):=by
 induction fs with
 | nil=>rfl
 | cons f fs ih=>simp[dB,toD,ih]
theorem Ju:∀fs gs:List Nat,PyData.eqvAll (fs.map λf:Nat=>PyData.int (f:Nat)) (gs.map λf:Nat=>PyData.int (f:Nat))=decide (fs=gs)
 | [],[]=>by simp[PyData.eqvAll]
 | [],g::gs=>by simp[PyData.eqvAll]
 | f::fs,[]=>by simp[PyData.eqvAll]
 | f::fs,g::gs=>by
  have ih:=Ju fs gs
  simp only[ap,PyData.eqvAll,PyData.eqv,ih]
  by_cases h:f=g
  ·subst h;simp
  ·have:¬ ((f:Int)=(g:Int)):=by omega
   simp[h,this]
theorem Jv (fs:gV):PyData.canLayAll0 (fs.map λf:Nat=>PyData.int (f:Nat))=true/\PyData.depthAll (fs.map λf:Nat=>PyData.int (f:Nat))<=1:=by
 induction fs with
 | nil=>exact⟨rfl,by decide⟩
 | cons f fs ih=>
  refine⟨by simp[PyData.canLayAll0,PyData.canLay0,ih.1],?_⟩
  simp only[ap,PyData.depthAll,PyData.depth]
  omega
theorem Qi (a b c d:gV):K2 (.tup [fP a,fP b]) (.tup [fP c,fP d])=some (decide (a=c/\b=d)):=by
 have sh:∀a b:List Nat,SeqAt.shaped (.tuple [.list (a.map λf:Nat=>PyData.int (f:Nat)),.list (b.map λf:Nat=>PyData.int (f:Nat))])=true:=λa b=>by
  obtain⟨h1,h2⟩:=Jv a
  obtain⟨h3,h4⟩:=Jv b
  have h5:(PyData.tuple [.list (a.map λf:Nat=>PyData.int (f:Nat)),.list (b.map λf:Nat=>PyData.int (f:Nat))]).canLay0=true:=by simp[PyData.canLay0,PyData.canLayAll0,h1,h3]
  have h6:(PyData.tuple [.list (a.map λf:Nat=>PyData.int (f:Nat)),.list (b.map λf:Nat=>PyData.int (f:Nat))]).depth<=64:=by
   simp only[PyData.depth,PyData.depthAll]
   omega
  simp[SeqAt.shaped,h5,h6]
 unfold fP
 simp[K2,SH,XT,toD,dB,Qh,sh,PyData.eqv,PyData.eqvAll,Ju]
theorem Jw (S fs:gV):Iy 3 (.tup [aD S,fP fs]):=by
 have h0:Iy 1 (aA 0)/\Iy 1 (aA 1)/\Iy 1 (aA 2)/\Iy 1 .CY:=by
  refine⟨?_,?_,?_,trivial⟩ <;> (intro x hx;simp[aA] at hx;rcases hx with rfl | rfl <;> first | trivial | (show PyData.strOk _=true;decide +kernel))
 have h1:∀i,Iy 1 (aA i):=λi=>by
  match i with
  | 0=>exact h0.1
  | 1=>exact h0.2.1
  | 2=>exact h0.2.2.1
  | n+3=>exact h0.2.2.2
 intro x hx
 simp only[av,bt,fg] at hx
 rcases hx with rfl | rfl
 ·intro y hy
  obtain⟨i,_,rfl⟩:=dc.mp hy
  exact h1 i
 ·intro y hy
  obtain⟨i,_,rfl⟩:=dc.mp hy
  trivial
theorem Eg:∀{O:List (List Nat)}{S:gV}{k o:Nat}{x:gV},bH O S=true->O[k]?=some x->o∈x->bH O (S.set k o)=true
 | [],[],k,o,x,_,h,_=>by simp at h
 | [],_::_,k,o,x,h,_,_=>by simp[bH] at h
 | _::_,[],k,o,x,h,_,_=>by simp[bH] at h
 | y::O,i::S,0,o,x,h,h1,h2=>by
  simp only[bH,bp,eD] at h
  simp at h1
  subst h1
  simp[bH,h.2,h2]
 | y::O,i::S,k+1,o,x,h,h1,h2=>by
  simp only[bH,bp,eD] at h
  have:=Eg (k:=k) h.2 (by simpa using h1) h2
  simp[bH,h.1,this]
theorem Eh:∀{m:rX}{fs:gV}{j f:Nat}{s:Slot},Lu m fs->m[j]?=some s->f < s.1.length->Lu m (fs.set j f)
 | [],fs,j,f,s,_,h,_=>by simp at h
 | t::m,fs,0,f,s,⟨f',p,gs,e,h1,h2⟩,h,hf=>by
  subst e
  simp at h
  subst h
  exact⟨f,t.1[f],gs,rfl,al hf,h2⟩
 | t::m,fs,j+1,f,s,⟨f',p,gs,e,h1,h2⟩,h,hf=>by
  subst e
  exact⟨f',p,gs.set j f,rfl,h1,Eh h2 (by simpa using h) hf⟩
theorem Um (h:C4 S)(ho:o < 4)(k:Nat):C4 (S.set k o):=λi hi=>by
 rcases List.mem_or_eq_of_mem_set hi with z | z
 ·exact h i z
 ·rw[z];exact ho
theorem Jx (hm:bw m){fs:gV}(Ki:bH g.flatten S=true)(fv:Lu m fs)(hr:EH (a_ m fs) (aR S (aU g))=true):∃P,codes (aK g) P=S/\RE m g P fs:=by
 obtain⟨P,h1,h2⟩:=yh (cN g) Ki
 exact⟨P,h2,h1,DX hm fv (c6 _) (by rw[fR];rw[show codes (aK g) P=S from h2];exact hr)⟩
theorem Uo (hm:bw m){fs:gV}(fv:Lu m fs)(hr:EH (a_ m fs) (aR S (aU g))=false):JI m g S (fs.map λf:Nat=>(f:Int))=false:=by
 have hl:(fs.map λf:Nat=>(f:Int)).length=m.length:=by rw[af];exact fv.length
 have e:(fs.map λf:Nat=>(f:Int)).map Int.toNat=fs:=by
  rw[de]
  conv=>rhs;rw[← rj fs]
  exact ci λx _=>by simp
 unfold JI
 rw[Ii hl hm,e,hr,lm,lm]
theorem Br {SC X13:PV}{c q a:Int}(hm:bw m)(hl:m.length < 12)(EF:m≠[])(hg:LA g){fs S' FG:gV}(ok:RE m g P fs)(hS:C4 S')(hSl:S'.length=g.flatten.length)(Ki:bH g.flatten S'=true)(fv:Lu m FG):
  (aC (aJ 14 (aM bT (CH 4 (CH 1 (CH 9 (CH 10 aB)))))) (aC (E7 (tN (tV (aM bU (CH 4 (CH 1 (CH 9 (CH 10 aB))))))) (aV (b2 LB (bV 14) (bC .CY))) EK) (aC (E7 (tO (tV (b2 LB (bV 14) (bC .CY))) (tV (b2 Kn (aM cU (CH 4 (CH 1 (CH 14 aB)))) (bL (CH 9 (CH 10 aB)))))) (aV (bC (.bl false))) EK) (aC (aJ 15 (aM cz (CH 4 (CH 5 (CH 3 aB))))) (aC (aJ 16 (aM cz (CH 4 (CH 9 (CH 10 aB))))) (aV (pK (b2 eqQ (b2 jQ (bV 7) (bV 14)) (b2 qW (bV 15) (bV 16))) (b2 eqQ (b2 eqQ (bV 7) (bV 14)) (b2 eqQ (bV 15) (bV 16)))))))))) [some SC,some (mP m),some (.int c),some (fP fs),some (DA g),some (aD (codes (aK g) P)),some (.int (Nm m (aK g))),some (.int (nO m g P fs)),none,some (aD S'),some (fP FG),some (.int q),some (.int a),some X13,none,none,none]=some (.rt (.bl true)):=by
 have hir:=Uk hm hl hg hS hSl fv
 cases hr:EH (a_ m FG) (aR S' (aU g)) with
 | false=>
  rw[hr] at hir
  have hn:=D_ hm hg hS (Uo hm fv hr)
  rw[← yS] at hn
  generalize bT=m1,bU=m2,fP FG=FF,aD S'=SS,DA g=GP,mP m=MP at *
  simp[hn,hir]
 | true=>
  rw[hr] at hir
  obtain⟨P',hc,ok'⟩:=Jx hm Ki fv hr
  subst hc
  have hn:=Ea hm hl EF hg ok' hS Ki
  obtain⟨b1,b2,b3,b4,b5⟩:=ok'.ok hm
  have WH:=DR hm hl EF hg b1 b2
  have erd:YB m g (nO m g P' FG)=.tup [aD (codes (aK g) P'),fP FG]:=by unfold YB rS;rw[b3,b5]
  rw[erd] at WH
  have heq:=qX (Jw (codes (aK g) P') FG) (by decide)
  have p1:=yj hg ok.YC (fP fs)
  have p2:=yj hg ok'.YC (fP FG)
  obtain⟨c1,c2⟩:=Ui hm ok ok'
  have h3:qW (.tup [fP P,fP fs]) (.tup [fP P',fP FG])=some (.bl (decide (nO m g P fs < nO m g P' FG))):=by
   rw[← c1]
   unfold fP
   simp only[qW,Lw,bE]
   rfl
  have h4:=Qi P fs P' FG
  have h5:decide (P=P'/\fs=FG)=decide (nO m g P fs=nO m g P' FG):=by
   by_cases z:nO m g P fs=nO m g P' FG
   ·rw[bP z,bP (c2.mp z)]
   ·rw[ba z,ba λy=>z (c2.mpr y)]
  rw[h5] at h4
  have fp:∃l,fP FG=.lst l:=⟨_,rfl⟩
  have fq:∃l,fP fs=.lst l:=⟨_,rfl⟩
  generalize nO m g P fs=n1,nO m g P' FG=n2,bT=m1,bU=m2,cU=m3,cz=m4,fP P=Z1,fP P'=Z2,fP FG=FF,fP fs=F0,aD (codes (aK g) P')=SS,aD (codes (aK g) P)=S0,DA g=GP,mP m=MP at *
  simp[hn,hir,WH,heq,p1,p2,h3,h4,-qW]
theorem Ei {n k:Nat}(h:k < n):Kk n (k:Int)=some k:=by
 unfold Kk
 rw[be (by omega)]
 simp
 omega
theorem OY (ns:rq)(hn:ns.length<=63):vJ [.EA (ns.map PV.int)]=some (.bl true):=by
 obtain⟨cs0,Zb,hc1,NG⟩:=Jt ns hn
 obtain⟨m,hm,hml,h1⟩:=KQ cs0 (by omega)
 have hl:m.length < 12:=by omega
 have EF:m≠[]:=λz=>by rw[z] at hml;simp at hml;omega
 have c0:cJ [.EA (ns.map PV.int),.int 0]=some (.int (cell ns 0)):=DG ns 0
 have c1:cJ [.EA (ns.map PV.int),.int 1]=some (.int (cell ns 1)):=DG ns 1
 have hfc:=I_ (c:=cell ns 0) hm (by omega)
 have Rl:JE (m.length:Int)=true:=jg (by omega) (by omega)
 have YI:=PK (c:=cell ns 0) hm
 generalize (List.range m.length).map (oO (cell ns 0) m)=fs at *
 have hle:(dj 0 (m.length:Int)).length<=1000000:=by rw[dW];simp;omega
 obtain⟨mk1,mk2⟩:=Bc hm YI
 obtain⟨g,S,GO,hSl,GI⟩:=T5 (n:=cell ns 1) hm YI (by omega) mk1 (mk2 EF)
 have hSe:=iD GO.ins
 have hT:LA g:=⟨GO.ne,GO.c4,by omega⟩
 have Z6:S≠[]:=λz=>by
  have hr:=wU GO.rf
  rw[z] at hr
  have:(aR [] (aU g)).length=0:=rfl
  rw[this] at hr
  exact mk2 EF (k9.mp hr)
 have YF:=dQ.mpr Z6
 have UU:=YI.length
 have QE:0 < fs.length:=by rw[UU];exact dQ.mpr EF
 obtain⟨P,hP,ok⟩:=Jx hm GO.ins YI GO.rf
 subst hP
 obtain⟨d1,d2,d3,d4,d5⟩:=ok.ok hm
 have r1:=Lr hm hl hT
 have Z8:=Ea hm hl EF hT ok GO.s4 GO.ins
 have WH:=DR hm hl EF hT d1 d2
 have erd:YB m g (nO m g P fs)=.tup [aD (codes (aK g) P),fP fs]:=by unfold YB rS;rw[d3,d5]
 rw[erd] at WH
 have heq:=qX (Jw (codes (aK g) P) fs) (by decide)
 have WG:wK (.tup [aD (codes (aK g) P),fP fs])=true:=by
  unfold aD fP
  simp only[wK,af,bp,eD]
  omega
 have x98:=oH (cell ns 0) 98 (je (by omega) (by omega))
 have x99:=oH (cell ns 0) 99 (je (by omega) (by omega))
 have har:=Js (F:=fs.map λf:Nat=>(f:Int)) hm hT GO.s4 hSe Z6 (by rw[af];exact UU) (λz=>by rw[List.map_eq_nil_iff] at z;rw[z] at QE;simp at QE) hl (mixed (cell ns 0) 98)
 rw[← yS] at har
 have U1:=uq (g:=g) hT.le
 generalize mixed (cell ns 0) 99=q at *
 obtain⟨k,hk,Z3⟩:=xj (q / 2) YF
 have Z4:k < g.flatten.length:=by omega
 have YG:g.flatten[k]?=some g.flatten[k]:=al Z4
 obtain⟨e,hsk⟩:∃e,(aK g)[k]?=some (g.flatten[k],e):=by
  have h1:((aK g).map (·.1))[k]?=some g.flatten[k]:=by rw[uY];exact YG
  rw[ar] at h1
  cases q:(aK g)[k]? with
  | none=>rw[q] at h1;cases h1
  | some y=>rw[q] at h1;exact⟨y.2,by rw[← a9 h1]⟩
 have hfx:DE ((aK g).map zP) (k:Int)=some (.tup [aD g.flatten[k],.bl e]):=bJ (by rw[ar,hsk];rfl)
 have hxm:=xd GO.ins (al Z3) YG
 have hxc:=hT.c4 _ (eR Z4)
 generalize g.flatten[k]=x at *
 have hxp:0 < x.length:=pj hxm
 obtain⟨i,hi,Yo⟩:=xj (q / 128) hxp
 have hxi:DE (x.map aA) (i:Int)=some (aA x[i]):=bJ (by rw[ar,al Yo];rfl)
 obtain⟨j,hj,Yl⟩:=xj (q / 2) QE
 have WS:m[j]?=some m[j]:=al (by omega)
 have hms:DE (m.map DC) (j:Int)=some (.tup [.tup (m[j].1.map .str),.bl m[j].2]):=bJ (by rw[ar,WS];rfl)
 have hpp:0 < m[j].1.length:=dQ.mpr (hm m[j] (eR _)).ne
 obtain⟨f,hf,hfl2⟩:=xj (q / 128) hpp
 have Yf:(m[j].1.map PV.str).length=m[j].1.length:=af ..
 have t1:∀SC,_:=λSC=>Br (SC:=SC) (X13:=aD x) (c:=cell ns 0) (q:=q) (a:=(k:Int)) hm hl EF hT ok (Um GO.s4 (hxc _ (eR Yo)) k) (by rw[c8];exact hSe) (Eg GO.ins YG (eR Yo)) YI
 have t2:∀SC,_:=λSC=>Br (SC:=SC) (X13:=aD x) (c:=cell ns 0) (q:=q) (a:=(j:Int)) hm hl EF hT ok GO.s4 hSe GO.ins (Eh YI WS hfl2)
 generalize hPP:PV.EA (ns.map PV.int)=SC at c0 c1
 have s1:aJ 1 (aM iM (ak (b2 bD (JA (bV 0) (oS (CF 2)) (oS (CF 5))) (JA (bO (ak (CF 0) aB)) (oS (b2 dJ (b1 C0 (bV 0)) (CF 3))) oN)) aB)) [some SC,none,none,none,none,none,none,none,none,none,none,none,none,none,none,none,none]=some (.nx [some SC,some (mP m),none,none,none,none,none,none,none,none,none,none,none,none,none,none,none]):=by
  subst hPP
  simp at NG
  simp[NG,h1]
 have w1:=t1 SC
 have w2:=t2 SC
 have hb:vI [some SC,none,none,none,none,none,none,none,none,none,none,none,none,none,none,none,none]=some (.rt (.bl true)):=by
  unfold vI
  rw[aZ s1]
  generalize (aC (aJ 14 (aM bT (CH 4 (CH 1 (CH 9 (CH 10 aB)))))) (aC (E7 (tN (tV (aM bU (CH 4 (CH 1 (CH 9 (CH 10 aB))))))) (aV (b2 LB (bV 14) (bC .CY))) EK) (aC (E7 (tO (tV (b2 LB (bV 14) (bC .CY))) (tV (b2 Kn (aM cU (CH 4 (CH 1 (CH 14 aB)))) (bL (CH 9 (CH 10 aB)))))) (aV (bC (.bl false))) EK) (aC (aJ 15 (aM cz (CH 4 (CH 5 (CH 3 aB))))) (aC (aJ 16 (aM cz (CH 4 (CH 9 (CH 10 aB))))) (aV (pK (b2 eqQ (b2 jQ (bV 7) (bV 14)) (b2 qW (bV 15) (bV 16))) (b2 eqQ (b2 eqQ (bV 7) (bV 14)) (b2 eqQ (bV 15) (bV 16))))))))))=TL at *
  have z1:(aD ((codes (aK g) P).set k x[i]))=.lst (((codes (aK g) P).map aA).set k (aA x[i])):=by unfold aD;rw[rh]
  have z2:(fP (fs.set j f))=.lst ((fs.map λf:Nat=>PV.int (f:Nat)).set j (.int (f:Nat))):=by unfold fP;rw[rh]
  rw[z1] at w1
  rw[z2] at w2
  have y1:=Ei Z3
  have y2:=Ei Yl
  have v1:((codes (aK g) P).map aA).length=(codes (aK g) P).length:=af ..
  have v2:(fs.map λf:Nat=>PV.int (f:Nat)).length=fs.length:=af ..
  have v3:(x.map aA).length=x.length:=af ..
  have v4:(m.map DC).length=m.length:=af ..
  unfold aD fP mP at *
  generalize aA x[i]=OO,(codes (aK g) P).map aA=SP,(fs.map λf:Nat=>PV.int (f:Nat))=FP,x.map aA=XP,m[j].1.map PV.str=MS,m[j].1.length=ml,m.map DC=MP,(aK g).map zP=ZP,DA g=GP,nO m g P fs=nn,Nm m (aK g)=NN at *
  by_cases hq:q % 2=0
  ·simp[c0,Rl,hle,hfc,v1,v2,v3,v4,c1,GI,r1,Z8,GA,Fn,Yv,List.lookup,d1,d2,WH,heq,WG,x98,har,x99,hk,YF,U1,hfx,hq,hi,hxp,hxi,y1,w1]
  ·simp[c0,Rl,hle,hfc,v1,v2,v3,v4,c1,GI,r1,Z8,GA,Fn,Yv,List.lookup,d1,d2,WH,heq,WG,x98,har,x99,hk,YF,U1,hfx,hq,hj,QE,hms,Yf,hf,hpp,y2,w2]
 unfold vJ
 generalize vI=B at *
 simp[hb]
noncomputable def top (i:Nat):Stmt:=PySem.Challenge.pw_lilt_k44_whole_each_has_a_number.main.body.getD i (.Pass ⟨0,0,0,0⟩)
abbrev oU:=top 37
abbrev kZ:=top 38
abbrev oV:=top 39
abbrev lO:=top 36
abbrev oW:=top 42
abbrev ig:=top 40
abbrev pY:=top 41
abbrev rA:=top 43
abbrev mj:=top 6
abbrev pZ:=top 5
abbrev lQ:=top 8
abbrev oX:=top 7
abbrev rB:=top 9
abbrev m7:=top 25
abbrev p6:=top 26
abbrev mq:=top 27
abbrev lR:=top 28
abbrev oY:=top 19
abbrev tU:=top 20
abbrev iI:=top 29
abbrev k_:=top 32
abbrev my:=top 21
abbrev vR:=top 11
abbrev rC:=top 12
abbrev pI:=top 22
abbrev tW:=top 24
abbrev tY:=top 30
abbrev iY:=top 13
abbrev iJ:=top 14
abbrev jX:=top 17
abbrev gK:=top 31
abbrev mz:=top 34
abbrev mQ:=top 47
abbrev p7:=top 15
abbrev tZ:=top 16
abbrev oZ:=top 33
abbrev p_:=top 44
abbrev mR:=top 46
abbrev gM:=top 48
abbrev jJ:=top 45
abbrev rD:=top 49
noncomputable section
structure FR where
 k:Nat
 x:Str
 ps:List Str
 m:List PV->Option PV
 st:Stmt
abbrev tw:FR:=⟨1, "_law_mixed",["_law_cell","_law_k"],cQ,oU⟩
abbrev wx:FR:=⟨1, "_law_patterns",["_law_n"],fC,kZ⟩
abbrev wr:FR:=⟨2, "_law_metre",["_law_cells"],iM,oV⟩
abbrev wf:FR:=⟨1, "_law_cell_at",["_law_script","_law_k"],cJ,lO⟩
abbrev va:FR:=⟨1, "_law_marks",["_law_metre_here","_law_feet"],dX,oW⟩
abbrev wv:FR:=⟨1, "_law_options",["_law_n","_law_last"],gw,ig⟩
abbrev wP:FR:=⟨2, "_law_with",["_law_n","_law_last","_law_option"],b_,pY⟩
abbrev wm:FR:=⟨3, "_law_fit",["_law_metre_here","_law_feet","_law_n"],lY,rA⟩
abbrev xp:FR:=⟨1, "states_of",["metre"],kh,mj⟩
abbrev vj:FR:=⟨1, "end_state",["metre"],fD,pZ⟩
abbrev xo:FR:=⟨1, "state_behind",["metre","state","ends"],gA,lQ⟩
abbrev vt:FR:=⟨1, "stands_for",["sign","mark"],gh,oX⟩
abbrev vn:FR:=⟨2, "moves_of",["metre","state","mark","ends"],dI,rB⟩
abbrev xr:FR:=⟨3, "steps_by",["metre","mark","ends"],eZ,m7⟩
abbrev wS:FR:=⟨4, "all_steps",["metre"],kE,p6⟩
abbrev xt:FR:=⟨1, "walked_by",["steps","option","ends","states"],fG,mq⟩
abbrev w8:FR:=⟨2, "counts_ahead",["steps","options","ends","behind"],i_,lR⟩
abbrev sQ:FR:=⟨1, "options_in",["table"],cT,oY⟩
abbrev sP:FR:=⟨1, "ends_in",["table"],gB,tU⟩
abbrev tI:FR:=⟨5, "counts_by_syllable",["table","metre"],cD,iI⟩
abbrev xh:FR:=⟨6, "many_readings",["table","metre"],iz,k_⟩
abbrev w9:FR:=⟨2, "is_saying",["table","saying"],jr,my⟩
abbrev vk:FR:=⟨2, "fits",["pattern","cut","part"],jD,vR⟩
abbrev wT:FR:=⟨3, "are_feet",["metre","row","feet"],jO,rC⟩
abbrev tJ:FR:=⟨2, "said_of",["table","saying"],gC,pI⟩
abbrev xa:FR:=⟨4, "lets_by",["table","metre","reading"],iB,tW⟩
abbrev tP:FR:=⟨3, "ways_on",["metre","ways","option","ends"],dm,tY⟩
abbrev tF:FR:=⟨3, "counts_by_pattern",["slot","row","start","behind"],bu,iY⟩
abbrev vi:FR:=⟨4, "counts_by_slot",["metre","row"],eO,iJ⟩
abbrev xl:FR:=⟨5, "number_of_feet",["metre","row","feet"],gP,jX⟩
abbrev ve:FR:=⟨4, "counts_by_option",["metre","ways","options","ends","behind"],bR,gK⟩
abbrev vb:FR:=⟨7, "_law_number",["_law_grid","_law_metre_here","_law_saying","_law_feet"],bT,mQ⟩
abbrev vc:FR:=⟨1, "chosen_by",["counts","number"],dq,p7⟩
abbrev sN:FR:=⟨1, "_law_flat",["_law_grid"],fL,p_⟩
abbrev wE:FR:=⟨2, "_law_places",["_law_grid","_law_saying","_law_feet"],cz,mR⟩
abbrev we:FR:=⟨8, "_law_all_refused",["_law_grid","_law_metre_here","_law_saying","_law_feet","_law_n"],fY,gM⟩
abbrev wq:FR:=⟨2, "_law_is_reading",["_law_grid","_law_metre_here","_law_saying","_law_feet"],bU,jJ⟩
abbrev yT:FR:=⟨9, "law",["_law_script"],vJ,rD⟩
abbrev As:FR:=⟨6, "number_of",["table","metre","reading"],fJ,mz⟩
theorem yu:CO ["_law_cell","_law_k"] tw.ps (aH oU):=Fc
theorem tT:CO ["_law_n","_law_found","_law_k","_law_marks_here","_law_j"] wx.ps (aH kZ):=Fc
theorem vv:CO ["_law_cells","_law_metre_here","_law_k","_law_cell","_law_n"] wr.ps (aH oV):=Fc
theorem vU:CO ["_law_script","_law_k"] wf.ps (aH lO):=Fc
theorem tf:CO ["_law_metre_here","_law_feet","_law_marks_here","_law_k","_law_patterns_here","_law_cut","_law_pattern","_law_j"] va.ps (aH oW):=Fc
theorem xA:CO ["_law_n","_law_last","_law_some","_law_found"] wv.ps (aH ig):=Fc
theorem yY:CO ["_law_n","_law_last","_law_option","_law_some","_law_at"] wP.ps (aH pY):=Fc
theorem so:CO ["_law_metre_here","_law_feet","_law_n","_law_grid","_law_saying","_law_marks_here","_law_k","_law_m","_law_mark","_law_cut","_law_option","_law_last"] wm.ps (aH rA):=Fc
theorem t0:CO ["metre","states","slot","told","number","pattern"] xp.ps (aH mj):=Fc
theorem Bt:CO ["metre"] vj.ps (aH pZ):=Fc
theorem y4:CO ["metre","state","ends","slot","behind"] xo.ps (aH lQ):=Fc
theorem yw:CO ["sign","mark"] vt.ps (aH oX):=Fc
theorem sB:CO ["metre","state","mark","ends","slot","at","patterns","numbers","moves","number","reached"] vn.ps (aH rB):=Fc
theorem y6:CO ["metre","mark","ends","steps","state"] xr.ps (aH m7):=Fc
theorem xC:CO ["metre","steps","mark","ends"] wS.ps (aH p6):=Fc
theorem Bu:CO ["steps","option","ends","states"] xt.ps (aH mq):=Fc
theorem vE:CO ["steps","options","ends","behind","counts","option","state","reached"] w8.ps (aH lR):=Fc
theorem y3:CO ["table","listed","word"] sQ.ps (aH oY):=Fc
theorem y0:CO ["table","listed","word"] sP.ps (aH tU):=Fc
theorem tm:CO ["table","metre","steps","behind","backwards","options","ends"] tI.ps (aH iI):=Fc
theorem u5:CO ["table","metre"] xh.ps (aH k_):=Fc
theorem At:CO ["table","saying","syllables"] w9.ps (aH my):=Fc
theorem Qj:CO ["pattern","cut","part"] vk.ps (aH vR):=Fc
theorem tj:CO ["metre","row","feet","start","slot","number","pattern","behind"] wT.ps (aH rC):=Fc
theorem Gb:CO ["table","saying"] tJ.ps (aH pI):=Fc
theorem Au:CO ["table","metre","reading","saying"] xa.ps (aH tW):=Fc
theorem t5:CO ["metre","ways","option","ends","reached","state","many","pattern","later"] tP.ps (aH tY):=Fc
theorem xE:CO ["slot","row","start","behind","counts","pattern","place"] tF.ps (aH iY):=Fc
theorem vF:CO ["metre","row","behind","backwards","slot"] vi.ps (aH iJ):=Fc
theorem sx:CO ["metre","row","feet","by_slot","number","start","at","chosen","slot","counts"] xl.ps (aH jX):=Fc
theorem xD:CO ["metre","ways","options","ends","behind","counts","option","reached"] ve.ps (aH gK):=Fc
theorem ss:CO ["table","metre","reading","by_syllable","ends","saying","ways","number","at","options","ahead"] As.ps (aH mz):=Fc
theorem xz:CO ["_law_grid","_law_metre_here","_law_saying","_law_feet","_law_number_here"] vb.ps (aH mQ):=Fc
theorem vx:CO ["counts","number","chosen","rest"] vc.ps (aH p7):=Fc
theorem sw:CO ["metre","row","number","by_slot","feet","start","rest","at","slot","found"] ["metre","row","number"] (aH tZ):=Fc
theorem si:CO ["table","metre","number","by_syllable","ends","saying","ways","rest","at","options","found","option"] ["table","metre","number"] (aH oZ):=Fc
theorem xw:CO ["_law_grid","_law_found","_law_word","_law_k"] sN.ps (aH p_):=Fc
theorem xB:CO ["_law_grid","_law_saying","_law_feet","_law_places_here","_law_option","_law_syllable"] wE.ps (aH mR):=Fc
theorem sR:CO ["_law_grid","_law_metre_here","_law_saying","_law_feet","_law_n","_law_some","_law_at","_law_options_here","_law_option","_law_number_here"] we.ps (aH gM):=Fc
theorem sT:CO ["_law_grid","_law_metre_here","_law_saying","_law_feet","_law_row","_law_option","_law_syllable","_law_marks_here","_law_told","_law_due"] wq.ps (aH jJ):=Fc
theorem se:CO ["_law_script","_law_metre_here","_law_cell","_law_feet","_law_grid","_law_saying","_law_many","_law_number_here","_law_told","_law_turned","_law_steps","_law_n","_law_at","_law_options_here","_law_other","_law_mine","_law_theirs"] yT.ps (aH rD):=Fc
structure Z7 where
 P:Program
 w:World
 K:W.Frag
 mg:Str->Option Value
 base:Heap
 cl:Nat->Addr
 F3:Addr
section
variable (Z:Z7)(r:FR)(f:Addr)(fd:FuncData)
abbrev ca:=MO Z.P Z.w Z.K Z.mg Z.base r.k r.x r.ps (LD ⟨Z.K,Z.cl⟩ r.m false)
abbrev fu:=I0 Z.K r.x r.x r.st f fd
abbrev fo:=EC Z.P Z.w Z.K Z.mg Z.base LS r.k f fd r.ps (LD ⟨Z.K,Z.cl⟩ r.m false)
structure Zq:Prop where
 t9:Z.mg "all" = none
 vT:Z.mg "bool" = none
 sv:Z.mg "enumerate" = none
 ua:Z.mg "int" = none
 ub:Z.mg "isinstance" = none
 sd:Z.mg "len" = none
 sg:Z.mg "list" = none
 sf:Z.mg "range" = none
 sC:Z.mg "reversed" = none
 sD:Z.mg "sum" = none
 ui:Z.mg "tuple" = none
 sj:Z.mg "zip" = none
 sA:Z.mg "START" = some (.ref Z.F3)
 tq:∀(B:Addr->Prop) (H:Hp),Rep ⟨Z.K,Z.cl⟩ B H (.ref Z.F3) iU
 BM:W.excIn Z.K (Z.cl 11) [.type "ValueError",.type "Exception",.type "BaseException",.type "object"] "ValueError.__new__" = true
 u7:∀t k,(t,k)∈Fn->W.kitOne Z.K (.type t) (.type "bool")=some k
 u8:∀t k,(t,k)∈GA->W.kitOne Z.K (.type t) (.type "int")=some k
 Ap:Z.mg "NoReading" = some (.ref (Z.cl 11))
 vS:W.exmOne Z.K (.ref (Z.cl 11)) (.ref (Z.cl 11))=some true
structure AD:Prop extends Zq Z where
 sK:ca Z tw
 A9:ca Z wx
structure AG:Prop extends Zq Z where
 A8:ca Z wv
structure AB:Prop extends Zq Z where
 xI:ca Z va
 sK:ca Z tw
 ze:ca Z wP
structure AV:Prop extends Zq Z where
 x4:ca Z vj
 yi:ca Z vt
 BF:ca Z xo
structure A0:Prop extends Zq Z where
 yb:ca Z vn
 BG:ca Z xp
structure AH:Prop extends Zq Z where
 BH:ca Z xr
structure AJ:Prop extends Zq Z where
 BI:ca Z xt
structure AN:Prop extends Zq Z where
 Bi:ca Z wS
 Bz:ca Z w8
 x4:ca Z vj
 sL:ca Z sP
 sM:ca Z sQ
structure AU:Prop extends Zq Z where
 uk:ca Z tI
structure AR:Prop extends Zq Z where
 sM:ca Z sQ
structure AQ:Prop extends Zq Z where
 yi:ca Z vt
structure AI:Prop extends Zq Z where
 ya:ca Z vk
structure AZ:Prop extends Zq Z where
 sL:ca Z sP
structure AT:Prop extends Zq Z where
 Bn:ca Z wT
 BB:ca Z w9
 uu:ca Z tJ
structure A3:Prop extends Zq Z where
 yb:ca Z vn
structure AL:Prop extends Zq Z where
 ya:ca Z vk
structure AM:Prop extends Zq Z where
 uj:ca Z tF
structure AX:Prop extends Zq Z where
 uj:ca Z tF
 x0:ca Z vi
structure AK:Prop extends Zq Z where
 uS:ca Z tP
structure AW:Prop extends Zq Z where
 xS:ca Z ve
 uk:ca Z tI
 sL:ca Z sP
 zh:ca Z xa
 BE:ca Z xl
 sM:ca Z sQ
 uu:ca Z tJ
 uS:ca Z tP
structure AE:Prop extends Zq Z where
 BD:ca Z As
 CD:Tb Z.P Z.w Z.K Z.mg Z.base 6 "number_of" ["table","metre","reading"] (UZ ⟨Z.K,Z.cl⟩ fJ false fK)
structure AO:Prop extends Zq Z where
 xL:ca Z vc
 uj:ca Z tF
 x0:ca Z vi
structure AY:Prop extends Zq Z where
 xL:ca Z vc
 xS:ca Z ve
 uk:ca Z tI
 sL:ca Z sP
 BA:MO Z.P Z.w Z.K Z.mg Z.base 5 "feet_at" ["metre","row","number"] (LD ⟨Z.K,Z.cl⟩ kY true)
 sM:ca Z sQ
 uu:ca Z tJ
 uS:ca Z tP
structure AF:Prop extends Zq Z where
 sF:ca Z sN
structure AA:Prop extends Zq Z where
 sF:ca Z sN
 v0:ca Z vb
structure AC:Prop extends Zq Z where
 sF:ca Z sN
 xI:ca Z va
structure AS:Prop extends Zq Z where
 A4:ca Z we
 y9:ca Z wf
 A5:ca Z wm
 sF:ca Z sN
 A6:ca Z wq
 A7:ca Z wr
 sK:ca Z tw
 v0:ca Z vb
 zd:ca Z wE
 BC:ca Z xh
 zi:MO Z.P Z.w Z.K Z.mg Z.base 6 "reading_at" ["table","metre","number"] (spT ⟨Z.K,Z.cl⟩ cU)
end
section
variable {Z:Z7}{f:Addr}{fd:FuncData}
theorem yx (F:fu Z tw f fd)(T:Zq Z):fo Z tw f fd:=by
 refine Fm F yu [] [] [] λhr=>?_
 exact(aF (aX (cV (bA (bA (mC (aj 0) au) (mC (mC (aj 1) (aj 1)) au)) au) au)))
theorem u6 (F:fu Z wx f fd)(T:Zq Z):fo Z wx f fd:=by
 refine Fm F tT [1] [1] [] λhr=>?_
 exact(aq (cB 1 tT.nd (bj az)) (aq (bZ [2,3,4] (mY T.sf (bA au (cV (aj 0) au))) (iy 2 tT.nd) (aq (aO 3 tT.nd dM) (aq (bZ [4] (mY T.sf (bA au (cV (d8 (aj 0) (bA au (mC au (aj 2)))) au))) (iy 4 tT.nd) (aF (aO 3 tT.nd (bA (aj 3) (aN hr dM (cV (d8 (aj 0) (bA (bA au (mC au (aj 2))) (mC au (aj 4)))) au))))) bb) (aF (dD (bQ (zV hr (aj 3) (pL 1))) (aF (fO 1 (aj 3))) b8)))) bb) (aF (aX (Ab T.ui (pL 1))))))
theorem yz (F:fu Z wr f fd)(T:AD Z):fo Z wr f fd:=by
 refine Fm F vv [1] [1] [] λhr=>?_
 exact(aq (cB 1 vv.nd (bj az)) (aq (bZ [2,3,4] (jR T.sv (aj 0)) (jh (aW 2 vv.nd (aW 3 vv.nd cO))) (aq (aO 4 vv.nd (aG T.sK hr (aa (aj 3) (aa (aj 2) az)))) (aF (fO 1 (bx (aa (aG T.A9 hr (aa (d8 (aj 4) au) az)) (aa (di (dH hr (cV (aj 4) au) au)) az)))))) bb) (aF (aX (Ab T.ui (pL 1))))))
theorem vV (F:fu Z wf f fd)(T:Zq Z):fo Z wf f fd:=by
 refine Fm F vU [] [] [] λhr=>?_
 exact(aq (dD (bQ (sV hr (aj 1) (bf T.sd (aj 0)))) (aF (aX (aN hr (aj 0) (aj 1)))) b8) (aF (aX au)))
theorem yC (F:fu Z va f fd)(T:Zq Z):fo Z va f fd:=by
 refine Fm F tf [2] [] [] λhr=>?_
 exact(aq (cB 2 tf.nd (bj az)) (aq (bZ [3,6,7,4,5] (mY T.sf (bf T.sd (aj 0))) (iy 3 tf.nd) (aq (Fl (aN hr (aj 0) (aj 3)) (jh (aW 4 tf.nd (aW 5 tf.nd cO)))) (aq (aO 6 tf.nd (aN hr (aj 4) (aN hr (aj 1) (aj 3)))) (aF (bZ [7] (mY T.sf (bf T.sd (aj 6))) (iy 7 tf.nd) (aF (fO 2 (bx (aa (aN hr (aj 6) (aj 7)) (aa (vq (aj 5) (nQ (di (dH hr (bA (aj 7) au) (bf T.sd (aj 6)))))) az))))) bb)))) bb) (d_ (G1:=[]) (aF (aX (aj 2))))))
theorem vW (F:fu Z wv f fd)(T:Zq Z):fo Z wv f fd:=by
 refine Fm F xA [] [] [] λhr=>?_
 exact(aq (aO 2 xA.nd (SE.val (bj (aa (bx (aa au (aa dM az))) (aa (bx (aa au (aa dM az))) (aa (bx (aa au (aa dM az))) (aa d7 az))))))) (aq (z_ 3 xA.nd (FC:=(aH ig)) (ON:=["_law_n","_law_last","_law_some","_law_found"]) (N:=["_law_k","_law_some","_law_n"]) (C2:=[none,some 2,some 0]) NO (uF 0) (mY T.sf au) (λ_ _ _ _=>jm 0) (λ_ _ _ _=>qO (bQ (dH hr (cV (d8 (aj 2) (aN hr (bj (aa au (aa au (aa au (aa au az))))) (aj 0))) au) au))) (λ_ _ _ _=>(aN hr (aj 1) (cV (bA (d8 (aj 2) au) (aj 0)) au)))) (aq (dD (gU (d9 (aj 1))) (aF (z_ 3 xA.nd (FC:=(aH ig)) (ON:=["_law_n","_law_last","_law_some","_law_found"]) (N:=["_law_option"]) (C2:=[none]) NO (uF 0) (jf (aj 3)) (λ_ _ _ _=>jm 0) (λ_ _ _ _=>qO (bQ (nP (aj 0) d7))) (λ_ _ _ _=>(aj 0)))) b8) (aF (aX (aj 3))))))
theorem Bv (F:fu Z wP f fd)(T:AG Z):fo Z wP f fd:=by
 refine Fm F yY [] [] [] λhr=>?_
 exact(aq (aO 3 yY.nd (aG T.A8 hr (aa (aj 0) (aa (aj 1) az)))) (aq (dD (bQ (Fd hr (aj 2) (aj 3))) (aF (aX (aj 3))) b8) (aq (aO 4 yY.nd (cV (d8 (aj 0) au) (bA (bf T.sd (aj 3)) au))) (aF (aX (SE.val (jK (jK (iZ (aj 3) gW (cW (aj 4))) (bj (aa (aj 2) az))) (iZ (aj 3) (cW (aj 4)) gW))))))))
theorem Cp (F:fu Z wm f fd)(T:AB Z):fo Z wm f fd:=by
 refine Fm F so [4] [] [] λhr=>?_
 exact(Om (Th 3 so.nd (Dd HJ)) (wH (j8 λ_ _ _=>(cB 4 so.nd (bj az))) (wH (j8 λ_ _ _=>(aO 5 so.nd (aG T.xI hr (aa (aj 0) (aa (aj 1) az))))) (wH (Vm [6,7,10,11,8,9] (λ_ _ _=>(mY T.sf (bf T.sd (aj 5)))) (λ_ _ _=>(iy 6 so.nd)) (jN (j8 λ_ _ _=>(aO 7 so.nd (aG T.sK hr (aa (aj 2) (aa (bA (mC au (aj 6)) au) az))))) (jN (Tg (λ_ _ _=>(SW.st (qp (bQ (dH hr (cV (aj 7) au) au)) (m_ (bQ (sV hr (bA (bf T.sd (pL 4)) (bf T.sd (aj 5))) (bA au (aj 6)))))))) (jN (Mm 3 (λ_ _ _=>(qm au)) (λ_ _ _=>(aG T.ze hr (aa (d8 (aj 7) au) (aa gj (aa d7 az)))))) (jN (j8 λ_ _ _=>(fO 4 d7)) (Fw (Mp 3)))) Ml) (jN (j8 λ_ _ _=>(Fl (aN hr (aj 5) (aj 6)) (jh (aW 8 so.nd (aW 9 so.nd cO))))) (jN (j8 λ_ _ _=>(dD (bQ (dH hr (aj 8) dM)) (aF (aO 8 so.nd (aN hr (bj (aa dM (aa dM az))) (cV (d8 (aj 7) au) au)))) b8)) (jN (j8 λ_ _ _=>(aO 10 so.nd (bx (aa (Od T.ua (vq (di (dH hr (aj 8) dM)) (nQ (di (dH hr (cV (d8 (aj 7) au) au) au))))) (aa (aj 8) az))))) (jN (j8 λ_ _ _=>(aO 11 so.nd (yN (aj 9) (yN (di (dH hr (bA (aj 6) au) (bf T.sd (aj 5)))) (nQ (di (dH hr (cV (d8 (aj 7) au) au) au))))))) (jN (Mm 3 (λ_ _ _=>(qm au)) (λ_ _ _=>(aG T.ze hr (aa (d8 (aj 7) au) (aa (aj 11) (aa (aj 10) az)))))) (jN (j8 λ_ _ _=>(fO 4 (aj 10))) (Fw (Tg (λ_ _ _=>(SW.st (qp (d9 (aj 11)) (m_ (bQ (sV hr (bA (aj 6) au) (bf T.sd (aj 5)))))))) (Fw (Mp 3)) Ml)))))))))) bb) (Ol (d_ (G1:=[]) (aF (aX (SE.val (bj (aa (aj 3) (aa (aj 4) az))))))))))))
theorem Bw (F:fu Z xp f fd)(T:Zq Z):fo Z xp f fd:=by
 refine Fm F t0 [1] [] [] λhr=>?_
 exact(aq (cB 1 t0.nd (bj az)) (aq (bZ [2,3,4,5] (jR T.sv (aj 0)) (jh (aW 2 t0.nd (aW 3 t0.nd cO))) (aq (fO 1 (bx (aa (aj 2) (aa au (aa au az))))) (aF (bZ [4,5] (jR T.sv (aN hr (aj 3) au)) (jh (aW 4 t0.nd (aW 5 t0.nd cO))) (aF (yP 1 (SE.val (jA (FC:=(aH mj)) (ON:=["metre","states","slot","told","number","pattern"]) (N:=["at","slot","number"]) (C2:=[none,some 2,some 4]) NO (uF 0) (Vk T.sf au (bf T.sd (aj 5))) (λ_ _ _ _=>jm 0) (λ_ _ _ _=>ji) (λ_ _ _ _=>(bx (aa (aj 1) (aa (aj 2) (aa (aj 0) az))))))))) bb))) bb) (d_ (G1:=[]) (aF (aX (aj 1))))))
theorem Bx (F:fu Z vj f fd)(T:Zq Z):fo Z vj f fd:=by
 refine Fm F Bt [] [] [] λhr=>?_
 exact(aF (aX (bx (aa (bf T.sd (aj 0)) (aa au (aa au az))))))
theorem vX (F:fu Z xo f fd)(T:Zq Z):fo Z xo f fd:=by
 refine Fm F y4 [] [] [] λhr=>?_
 exact(aq (aO 3 y4.nd (aN hr (aj 1) au)) (aq (aO 4 y4.nd (bA (aN hr (aj 1) au) au)) (aq (dD (bQ (sV hr (aj 4) (bf T.sd (aN hr (aN hr (aN hr (aj 0) (aj 3)) au) (aN hr (aj 1) au))))) (aF (aX (bx (aa (aj 3) (aa (aN hr (aj 1) au) (aa (aj 4) az)))))) b8) (aq (dD (SW.st (qp (d9 (aN hr (aN hr (aj 0) (aj 3)) au)) (m_ (gU (d9 (aj 2)))))) (aF (aX d7)) b8) (aF (aX (bx (aa (bA (aj 3) au) (aa au (aa au az))))))))))
theorem yD (F:fu Z vt f fd)(T:Zq Z):fo Z vt f fd:=by
 refine Fm F yw [] [] [] λhr=>?_
 exact(aF (aX (yN (di (dH hr (aj 0) (aj 1))) (nQ (di (dH hr (aj 0) dM))))))
theorem Cq (F:fu Z vn f fd)(T:AV Z):fo Z vn f fd:=by
 refine Fm F sB [8] [] [] λhr=>?_
 exact(aq (dD (bQ (dH hr (aj 1) (aG T.x4 hr (aa (aj 0) az)))) (aF (aX (SE.val (bj az)))) b8) (aq (aO 4 sB.nd (aN hr (aj 1) au)) (aq (aO 5 sB.nd (aN hr (aj 1) au)) (aq (aO 6 sB.nd (aN hr (aN hr (aj 0) (aj 4)) au)) (aq (aO 7 sB.nd (Fe (bQ (dH hr (aj 5) au)) (SE.val (Kl T.sg T.sf (bf T.sd (aj 6)))) (SE.val (bj (aa (aN hr (aj 1) au) az))))) (aq (cB 8 sB.nd (bj az)) (aq (bZ [9,10] (jf (aj 7)) (iy 9 sB.nd) (aq (aO 10 sB.nd (aG T.BF hr (aa (aj 0) (aa (bx (aa (aj 4) (aa (aj 9) (aa (aj 5) az)))) (aa (aj 3) az))))) (aF (dD (SW.st (qp (bQ (nP (aj 10) d7)) (m_ (d9 (aG T.yi hr (aa (aN hr (aN hr (aj 6) (aj 9)) (aj 5)) (aa (aj 2) az))))))) (aF (fO 8 (bx (aa (aj 9) (aa (aj 10) az))))) b8))) bb) (d_ (G1:=[]) (aF (aX (aj 8)))))))))))
theorem Cr (F:fu Z xr f fd)(T:A0 Z):fo Z xr f fd:=by
 refine Fm F y6 [3] [] [] λhr=>?_
 exact(aq (cB 3 y6.nd (bj az)) (aq (bZ [4] (jf (aG T.BG hr (aa (aj 0) az))) (iy 4 y6.nd) (aF (yP 3 (SE.val (jA (FC:=(aH m7)) (ON:=["metre","mark","ends","steps","state"]) (N:=["pattern","reached","state"]) (C2:=[none,none,some 4]) NO (z9 [0,1]) (jf (aG T.yb hr (aa (aj 0) (aa (aj 4) (aa (aj 1) (aa (aj 2) az)))))) (λ_ _ _ _=>qe rfl (fj (jm 0) (fj (jm 1) m9))) (λ_ _ _ _=>ji) (λ_ _ _ _=>(bx (aa (aj 2) (aa (aj 1) az)))))))) bb) (d_ (G1:=[]) (aF (aX (aj 3))))))
theorem By (F:fu Z wS f fd)(T:AH Z):fo Z wS f fd:=by
 refine Fm F xC [1] [] [] λhr=>?_
 exact(aq (cB 1 xC.nd Ff) (aq (bZ [2,3] (jf (bx (aa dM (aa dM az)))) (iy 2 xC.nd) (aF (bZ [3] (jf (bx (aa gj (aa gj az)))) (iy 3 xC.nd) (aF (vz 1 hr (bx (aa (aj 2) (aa (aj 3) az))) (aG T.BH hr (aa (aj 0) (aa (aj 2) (aa (aj 3) az)))))) bb)) bb) (d_ (G1:=[]) (aF (aX (aj 1))))))
theorem BJ (F:fu Z xt f fd)(T:Zq Z):fo Z xt f fd:=by
 refine Fm F Bu [] [] [] λhr=>?_
 exact(aF (aX (Fe (bQ (yM (aj 1) d7)) (SE.val (jA (FC:=(aH mq)) (ON:=["steps","option","ends","states"]) (N:=["state"]) (C2:=[none]) NO (uF 0) (Vn (aj 3)) (λ_ _ _ _=>jm 0) (λ_ _ _ _=>ji) (λ_ _ _ _=>(bx (aa (aj 0) (aa (aj 0) az)))))) (aN hr (aj 0) (bx (aa (aN hr (aj 1) au) (aa (aj 2) az)))))))
theorem vY (F:fu Z w8 f fd)(T:AJ Z):fo Z w8 f fd:=by
 refine Fm F vE [4] [] [] λhr=>?_
 exact(aq (cB 4 vE.nd Ff) (aq (bZ [5,6,7] (jf (aj 1)) (iy 5 vE.nd) (aF (bZ [6,7] (jf (aG T.BI hr (aa (aj 0) (aa (aj 5) (aa (aj 2) (aa (aj 3) az)))))) (jh (aW 6 vE.nd (aW 7 vE.nd cO))) (aF (dD (bQ (Fd hr (aj 7) (aj 3))) (aF (vz 4 hr (aj 6) (bA (wI hr (pL 4) (aj 6) au) (aN hr (aj 3) (aj 7))))) b8)) bb)) bb) (d_ (G1:=[]) (aF (aX (aj 4))))))
theorem yE (F:fu Z sQ f fd)(T:Zq Z):fo Z sQ f fd:=by
 refine Fm F y3 [1] [] [] λhr=>?_
 exact(aq (cB 1 y3.nd (bj az)) (aq (bZ [2] (jf (aj 0)) (iy 2 y3.nd) (aF (yP 1 (aj 2))) bb) (d_ (G1:=[]) (aF (aX (aj 1))))))
theorem Gd (F:fu Z sP f fd)(T:Zq Z):fo Z sP f fd:=by
 refine Fm F y0 [1] [] [] λhr=>?_
 exact(aq (cB 1 y0.nd (bj az)) (aq (bZ [2] (jf (aj 0)) (iy 2 y0.nd) (aF (yP 1 (SE.val (jK (HF (bj (aa gj az)) (Ho (bf T.sd (aj 2)) au)) (bj (aa gj az)))))) bb) (d_ (G1:=[]) (aF (aX (aj 1))))))
theorem qI (F:fu Z tI f fd)(T:AN Z):fo Z tI f fd:=by
 refine Fm F tm [4] [4] [] λhr=>?_
 exact(aq (aO 2 tm.nd (aG T.Bi hr (aa (aj 1) az))) (aq (aO 3 tm.nd (SE.val (Fx hr (aG T.x4 hr (aa (aj 1) az)) au))) (aq (cB 4 tm.nd (bj (aa (aj 3) az))) (aq (bZ [5,6] (CV T.sC (Kr T.sg T.sj (aG T.sM hr (aa (aj 0) az)) (aG T.sL hr (aa (aj 0) az)))) (jh (aW 5 tm.nd (aW 6 tm.nd cO))) (aq (aO 3 tm.nd (aG T.Bz hr (aa (aj 2) (aa (aj 5) (aa (aj 6) (aa (aj 3) az)))))) (aF (fO 4 (aj 3)))) bb) (aF (aX (SE.val (Ac T.sg T.sC (pL 4)))))))))
theorem u9 (F:fu Z xh f fd)(T:AU Z):fo Z xh f fd:=by
 refine Fm F u5 [] [] [] λhr=>?_
 exact(aF (aX (De hr (aN hr (aG T.uk hr (aa (aj 0) (aa (aj 1) az))) au) (yL T.sA (T.tq)) au)))
theorem BK (F:fu Z w9 f fd)(T:AR Z):fo Z w9 f fd:=by
 refine Fm F At [] [] [] λhr=>?_
 exact(aq (aO 2 At.nd (aG T.sM hr (aa (aj 0) az))) (aq (dD (bQ (pA hr (bf T.sd (aj 1)) (bf T.sd (aj 2)))) (aF (aX gj)) b8) (aF (aX (Hu T.t9 (jA (FC:=(aH my)) (ON:=["table","saying","syllables"]) (N:=["options","option"]) (C2:=[none,none]) NO (z9 [0,1]) (lD T.sj (aj 2) (aj 1)) (λ_ _ _ _=>qe rfl (fj (jm 0) (fj (jm 1) m9))) (λ_ _ _ _=>ji) (λ_ _ _ _=>(di (Fd hr (aj 1) (aj 0))))))))))
theorem Qk (F:fu Z vk f fd)(T:AQ Z):fo Z vk f fd:=by
 refine Fm F Qj [] [] [] λhr=>?_
 exact(aq (dD (bQ (pA hr (bf T.sd (aj 2)) (bf T.sd (aj 0)))) (aF (aX gj)) b8) (aq (dD (gU (d9 (Hu T.t9 (jA (FC:=(aH vR)) (ON:=["pattern","cut","part"]) (N:=["sign","said"]) (C2:=[none,none]) NO (z9 [0,1]) (lD T.sj (aj 0) (aj 2)) (λ_ _ _ _=>qe rfl (fj (jm 0) (fj (jm 1) m9))) (λ_ _ _ _=>ji) (λ_ _ _ _=>(aG T.yi hr (aa (aj 0) (aa (aN hr (aj 1) au) az)))))))) (aF (aX gj)) b8) (aF (aX (yN (aN hr (aN hr (aj 2) (qm au)) au) (nQ (Sx (aj 1))))))))
theorem Cu (F:fu Z wT f fd)(T:AI Z):fo Z wT f fd:=by
 refine Fm F tj [] [] [] λhr=>?_
 exact(aq (dD (bQ (pA hr (bf T.sd (aj 2)) (bf T.sd (aj 0)))) (aF (aX gj)) b8) (aq (aO 3 tj.nd au) (aq (bZ [4,5,6,7] (lD T.sj (aj 0) (aj 2)) (jh (aW 4 tj.nd (aW 5 tj.nd cO))) (aq (dD (gU (uJ En yH au (aj 5) (bf T.sd (aN hr (aj 4) au)))) (aF (aX gj)) b8) (aq (aO 6 tj.nd (aN hr (aN hr (aj 4) au) (aj 5))) (aq (aO 7 tj.nd (bA (aj 3) (bf T.sd (aj 6)))) (aq (dD (gU (d9 (aG T.ya hr (aa (aj 6) (aa (aN hr (aj 4) au) (aa (iZ (aj 1) (cW (aj 3)) (cW (aj 7))) az)))))) (aF (aX gj)) b8) (aF (aO 3 tj.nd (aj 7))))))) bb) (aF (aX (di (dH hr (aj 3) (bf T.sd (aj 1)))))))))
theorem Ge (F:fu Z tJ f fd)(T:AZ Z):fo Z tJ f fd:=by
 refine Fm F Gb [] [] [] λhr=>?_
 exact(aF (aX (SE.val (jA (FC:=(aH pI)) (ON:=["table","saying"]) (N:=["option","ends"]) (C2:=[none,none]) NO (z9 [0,1]) (lD T.sj (aj 1) (aG T.sL hr (aa (aj 0) az))) (λ_ _ _ _=>qe rfl (fj (jm 0) (fj (jm 1) m9))) (λ_ _ _ _=>qO (bQ (nP (aj 0) d7))) (λ_ _ _ _=>(bx (aa (aN hr (aj 0) au) (aa (aj 1) az))))))))
theorem Gg (F:fu Z xa f fd)(T:AT Z):fo Z xa f fd:=by
 refine Fm F Au [] [] [] λhr=>?_
 exact(aq (aO 3 Au.nd (aN hr (aj 2) au)) (aF (aX (vq (aG T.BB hr (aa (aj 0) (aa (aj 3) az))) (nQ (aG T.Bn hr (aa (aj 1) (aa (aG T.uu hr (aa (aj 0) (aa (aj 3) az))) (aa (aN hr (aj 2) au) az)))))))))
theorem Gh (F:fu Z tP f fd)(T:A3 Z):fo Z tP f fd:=by
 refine Fm F t5 [4] [] [] λhr=>?_
 exact(aq (dD (bQ (yM (aj 2) d7)) (aF (aX (aj 1))) b8) (aq (cB 4 t5.nd Ff) (aq (bZ [5,6,7,8] (Mq (aj 1)) (jh (aW 5 t5.nd (aW 6 t5.nd cO))) (aF (bZ [7,8] (jf (aG T.yb hr (aa (aj 0) (aa (aj 5) (aa (aN hr (aj 2) au) (aa (aj 3) az)))))) (jh (aW 7 t5.nd (aW 8 t5.nd cO))) (aF (vz 4 hr (aj 8) (bA (wI hr (pL 4) (aj 8) au) (aj 6)))) bb)) bb) (d_ (G1:=[]) (aF (aX (aj 4)))))))
theorem rE (F:fu Z tF f fd)(T:AL Z):fo Z tF f fd:=by
 refine Fm F xE [4] [] [] λhr=>?_
 exact(aq (cB 4 xE.nd (bj az)) (aq (bZ [5,6] (jf (aN hr (aj 0) au)) (iy 5 xE.nd) (aq (aO 6 xE.nd (bA (aj 2) (bf T.sd (aj 5)))) (aF (fO 4 (Fe (d9 (aG T.ya hr (aa (aj 5) (aa (aN hr (aj 0) au) (aa (iZ (aj 1) (cW (aj 2)) (cW (aj 6))) az))))) (aN hr (aj 3) (aj 6)) au)))) bb) (d_ (G1:=[]) (aF (aX (aj 4))))))
theorem ur (F:fu Z vi f fd)(T:AM Z):fo Z vi f fd:=by
 refine Fm F vF [3] [3] [] λhr=>?_
 exact(aq (aO 2 vF.nd (SE.val (jK (HF (bj (aa au az)) (bf T.sd (aj 1))) (bj (aa au az))))) (aq (cB 3 vF.nd (bj (aa (aj 2) az))) (aq (bZ [4] (CV T.sC (aj 0)) (iy 4 vF.nd) (aq (aO 2 vF.nd (SE.val (jA (FC:=(aH iJ)) (ON:=["metre","row","behind","backwards","slot"]) (N:=["start","slot","row","behind"]) (C2:=[none,some 4,some 1,some 2]) NO (uF 0) (mY T.sf (bA (bf T.sd (aj 1)) au)) (λ_ _ _ _=>jm 0) (λ_ _ _ _=>ji) (λ_ _ _ _=>(vD T.sD (aG T.uj hr (aa (aj 1) (aa (aj 2) (aa (aj 0) (aa (aj 3) az)))))))))) (aF (fO 3 (aj 2)))) bb) (aF (aX (SE.val (Ac T.sg T.sC (pL 3))))))))
theorem ut (F:fu Z xl f fd)(T:AX Z):fo Z xl f fd:=by
 refine Fm F sx [] [] [] λhr=>?_
 exact(aq (aO 3 sx.nd (aG T.x0 hr (aa (aj 0) (aa (aj 1) az)))) (aq (aO 4 sx.nd au) (aq (aO 5 sx.nd au) (aq (bZ [6,7,8,9] (jR T.sv (aj 2)) (jh (aW 6 sx.nd (aW 7 sx.nd cO))) (aq (aO 8 sx.nd (aN hr (aj 0) (aj 6))) (aq (aO 9 sx.nd (aG T.uj hr (aa (aj 8) (aa (aj 1) (aa (aj 5) (aa (aN hr (aj 3) (bA (aj 6) au)) az)))))) (aq (aO 4 sx.nd (bA (aj 4) (vD T.sD (iZ (aj 9) gW (cW (aj 7)))))) (aF (aO 5 sx.nd (bA (aj 5) (bf T.sd (aN hr (aN hr (aj 8) au) (aj 7))))))))) bb) (aF (aX (aj 4)))))))
theorem rO (F:fu Z ve f fd)(T:AK Z):fo Z ve f fd:=by
 refine Fm F xD [5] [] [] λhr=>?_
 exact(aq (cB 5 xD.nd (bj az)) (aq (bZ [6,7] (jf (aj 2)) (iy 6 xD.nd) (aq (aO 7 xD.nd (aG T.uS hr (aa (aj 0) (aa (aj 1) (aa (aj 6) (aa (aj 3) az)))))) (aF (fO 5 (vD T.sD (jA (FC:=(aH gK)) (ON:=["metre","ways","options","ends","behind","counts","option","reached"]) (N:=["state","many","behind"]) (C2:=[none,none,some 4]) NO (z9 [0,1]) (Mq (aj 7)) (λ_ _ _ _=>qe rfl (fj (jm 0) (fj (jm 1) m9))) (λ_ _ _ _=>ji) (λ_ _ _ _=>(mC (aj 1) (wI hr (aj 2) (aj 0) au)))))))) bb) (d_ (G1:=[]) (aF (aX (aj 5))))))
theorem yF (F:I0 Z.K "number_of" "number_of" mz f fd)(T:AW Z):EC Z.P Z.w Z.K Z.mg Z.base (IA Z.P Z.w Z.K) 6 f fd ["table","metre","reading"] (UZ ⟨Z.K,Z.cl⟩ fJ false fK):=by
 refine O3 F ss (λvs H Q E h=>OJ rfl h) (λFK A' outer s H vs Q E hr h=>Ky (G:=[]) (G':=[]) (L:=[]) (N:=["table","metre","reading","by_syllable","ends","saying","ways","number","at","options","ahead"]) rfl (by decide) (by decide) (λB H'=>?_) (λB H'=>?_) h)
 ·exact(aq (dD (gU (d9 (aG T.zh hr (aa (aj 0) (aa (aj 1) (aa (aj 2) az)))))) (aF SM) b8) (aq (aO 3 ss.nd (aG T.uk hr (aa (aj 0) (aa (aj 1) az)))) (aq (aO 4 ss.nd (aG T.sL hr (aa (aj 0) az))) (aq (aO 5 ss.nd (aN hr (aj 2) au)) (aq (aO 6 ss.nd (SE.val (Fx hr (yL T.sA (T.tq)) au))) (aq (aO 7 ss.nd au) (aq (bZ [8,9,10] (jR T.sv (aG T.sM hr (aa (aj 0) az))) (jh (aW 8 ss.nd (aW 9 ss.nd cO))) (aq (aO 10 ss.nd (iZ (aj 9) gW (cW (Ad hr (aj 9) (aN hr (aj 5) (aj 8)))))) (aq (aO 7 ss.nd (bA (aj 7) (vD T.sD (aG T.xS hr (aa (aj 1) (aa (aj 6) (aa (aj 10) (aa (aN hr (aj 4) (aj 8)) (aa (aN hr (aj 3) (bA (aj 8) au)) az))))))))) (aF (aO 6 ss.nd (aG T.uS hr (aa (aj 1) (aa (aj 6) (aa (aN hr (aj 5) (aj 8)) (aa (aN hr (aj 4) (aj 8)) az))))))))) bb) (aF (aX (bA (aj 7) (aG T.BE hr (aa (aj 1) (aa (aG T.uu hr (aa (aj 0) (aa (aj 5) az))) (aa (aN hr (aj 2) au) az))))))))))))))
 ·exact(uM (Vu Vt (gU (d9 (aG T.zh hr (aa (aj 0) (aa (aj 1) (aa (aj 2) az)))))) (uM (Kw 11 PySem.F.excBase_ValueError T.BM T.Ap (aa dM az))) Tv))
theorem xm (F:fu Z vb f fd)(T:AE Z):fo Z vb f fd:=by
 refine Fm F xz [] [] [] λhr=>?_
 exact(aq (aO 4 xz.nd d7) (aq (O5 4 11 xz.nd T.Ap T.vS (aF (aO 4 xz.nd (aG T.BD hr (aa (aj 0) (aa (aj 1) (aa (bx (aa (aj 2) (aa (aj 3) az))) az)))))) (λ_=>(uM (Tu (OD (Vs rfl) T.CD hr (aa (aj 0) (aa (aj 1) (aa (bx (aa (aj 2) (aa (aj 3) az))) az)))))))) (aF (aX (aj 4)))))
theorem BL (F:fu Z vc f fd)(T:Zq Z):fo Z vc f fd:=by
 refine Fm F vx [] [] [] λhr=>?_
 exact(aq (aO 2 vx.nd au) (aq (aO 3 vx.nd (aj 1)) (aq (Oe 1000000 [] (bQ (Vi (aj 3) (aN hr (aj 0) (aj 2)))) (aq (aO 3 vx.nd (Ho (aj 3) (aN hr (aj 0) (aj 2)))) (aF (aO 2 vx.nd (bA (aj 2) au)))) bb) (aF (aX (bx (aa (aj 2) (aa (aj 3) az))))))))
theorem Gi (F:I0 Z.K "feet_at" "feet_at" tZ f fd)(T:AO Z):EC Z.P Z.w Z.K Z.mg Z.base LS 5 f fd ["metre","row","number"] (LD ⟨Z.K,Z.cl⟩ kY true):=by
 refine Fm F sw [4] [4] [] λhr=>?_
 exact(aq (aO 3 sw.nd (aG T.x0 hr (aa (aj 0) (aa (aj 1) az)))) (aq (cB 4 sw.nd (bj az)) (aq (aO 5 sw.nd au) (aq (aO 6 sw.nd (aj 2)) (aq (bZ [7,8,9] (jR T.sv (aj 0)) (jh (aW 7 sw.nd (aW 8 sw.nd cO))) (aq (aO 9 sw.nd (aG T.xL hr (aa (aG T.uj hr (aa (aj 8) (aa (aj 1) (aa (aj 5) (aa (aN hr (aj 3) (bA (aj 7) au)) az))))) (aa (aj 6) az)))) (aq (fO 4 (aN hr (aj 9) au)) (aq (aO 5 sw.nd (bA (aj 5) (bf T.sd (aN hr (aN hr (aj 8) au) (aN hr (aj 9) au))))) (aF (aO 6 sw.nd (aN hr (aj 9) au)))))) bb) (aF (SQ 4)))))))
theorem yG (F:I0 Z.K "reading_at" "reading_at" oZ f fd)(T:AY Z):EC Z.P Z.w Z.K Z.mg Z.base LS 6 f fd ["table","metre","number"] (spT ⟨Z.K,Z.cl⟩ cU):=by
 refine F.ok si (λvs H Q E h=>Ot h) (λFK A' outer s H vs Q E hr h=>body_okT (G:=[5]) (N:=["table","metre","number","by_syllable","ends","saying","ways","rest","at","options","found","option"]) rfl (by decide) (by decide) (λB H'=>?_) h)
 exact(jT (aO 3 si.nd (aG T.uk hr (aa (aj 0) (aa (aj 1) az)))) (jT (dD (gU (uJ En yH au (aj 2) (De hr (aN hr (aj 3) au) (yL T.sA (T.tq)) au))) (aF SM) b8) (jT (aO 4 si.nd (aG T.sL hr (aa (aj 0) az))) (jT (cB 5 si.nd (bj az)) (jT (aO 6 si.nd (SE.val (Fx hr (yL T.sA (T.tq)) au))) (jT (aO 7 si.nd (aj 2)) (jT (bZ [8,9,10,11] (jR T.sv (aG T.sM hr (aa (aj 0) az))) (jh (aW 8 si.nd (aW 9 si.nd cO))) (aq (aO 10 si.nd (aG T.xL hr (aa (aG T.xS hr (aa (aj 1) (aa (aj 6) (aa (aj 9) (aa (aN hr (aj 4) (aj 8)) (aa (aN hr (aj 3) (bA (aj 8) au)) az)))))) (aa (aj 7) az)))) (aq (aO 11 si.nd (aN hr (aj 9) (aN hr (aj 10) au))) (aq (fO 5 (aj 11)) (aq (aO 6 si.nd (aG T.uS hr (aa (aj 1) (aa (aj 6) (aa (aj 11) (aa (aN hr (aj 4) (aj 8)) az)))))) (aF (aO 7 si.nd (aN hr (aj 10) au))))))) bb) (Tt 5 (Kh T.BA hr (aa (aj 1) (aa (aG T.uu hr (aa (aj 0) (aa (aj 5) az))) (aa (aj 7) az))))) (Tr (by unfold gF;repeat' (first | exact qu | exact Oq | refine Tq ?_ ?_)))) qu) qu) qu) qu) (Vr Vq Vp)) qu)
theorem BR (F:fu Z sN f fd)(T:Zq Z):fo Z sN f fd:=by
 refine Fm F xw [1] [] [] λhr=>?_
 exact(aq (cB 1 xw.nd (bj az)) (aq (bZ [2,3] (jf (aj 0)) (iy 2 xw.nd) (aF (bZ [3] (mY T.sf (bf T.sd (aj 2))) (iy 3 xw.nd) (aF (fO 1 (bx (aa (aN hr (aj 2) (aj 3)) (aa (di (dH hr (bA (aj 3) au) (bf T.sd (aj 2)))) az))))) bb)) bb) (d_ (G1:=[]) (aF (aX (aj 1))))))
theorem xn (F:fu Z wE f fd)(T:AF Z):fo Z wE f fd:=by
 refine Fm F xB [3] [] [] λhr=>?_
 exact(aq (cB 3 xB.nd (bj az)) (aq (bZ [4,5] (lD T.sj (aj 1) (aG T.sF hr (aa (aj 0) az))) (jh (aW 4 xB.nd (aW 5 xB.nd cO))) (aF (fO 3 (Ad hr (aN hr (aj 5) au) (aj 4)))) bb) (d_ (G1:=[]) (aF (aX (bx (aa (aj 3) (aa (aj 2) az))))))))
theorem rQ (F:fu Z we f fd)(T:AA Z):fo Z we f fd:=by
 refine Fm F sR [5] [5] [] λhr=>?_
 exact(aq (cB 5 sR.nd (bj (aa (bx (aa (SE.val (jK (aj 2) (bj (aa d7 az)))) (aa (aj 3) az))) (aa (bx (aa (iZ (aj 2) gW (cW (qm au))) (aa (aj 3) az))) (aa (bx (aa (aj 2) (aa (SE.val (jK (aj 3) (bj (aa au az)))) az))) (aa (bx (aa (aj 2) (aa (iZ (aj 3) gW (cW (qm au))) az))) (aa (bx (aa (SE.val (bj az)) (aa (aj 3) az))) az))))))) (aq (aO 6 sR.nd (cV (aj 4) (bf T.sd (aj 2)))) (aq (aO 7 sR.nd (aN hr (aN hr (aG T.sF hr (aa (aj 0) az)) (aj 6)) au)) (aq (bZ [8] (jf (bj (aa (bx (aa au (aa dM az))) (aa (bx (aa au (aa dM az))) (aa (bx (aa au (aa dM az))) (aa d7 az)))))) (iy 8 sR.nd) (aF (dD (bQ (zV hr (aj 8) (aj 7))) (aF (fO 5 (bx (aa (SE.val (jK (jK (iZ (aj 2) gW (cW (aj 6))) (bj (aa (aj 8) az))) (iZ (aj 2) (cW (bA (aj 6) au)) gW))) (aa (aj 3) az))))) b8)) bb) (aq (aO 6 sR.nd (cV (aj 4) (bf T.sd (aj 3)))) (aq (bZ [9] (jf (bj (aa (qm au) (aa (bf T.sd (aN hr (aN hr (aj 1) (aj 6)) au)) (aa (R_ au au) az))))) (iy 9 sR.nd) (aF (fO 5 (bx (aa (aj 2) (aa (SE.val (jK (jK (iZ (aj 3) gW (cW (aj 6))) (bj (aa (aj 9) az))) (iZ (aj 3) (cW (bA (aj 6) au)) gW))) az))))) bb) (aF (aX (di (dH hr (jA (FC:=(aH gM)) (ON:=["_law_grid","_law_metre_here","_law_saying","_law_feet","_law_n","_law_some","_law_at","_law_options_here","_law_option","_law_number_here"]) (N:=["_law_one","_law_grid","_law_metre_here"]) (C2:=[none,some 0,some 1]) NO (uF 0) (jf (pL 5)) (λ_ _ _ _=>jm 0) (λ_ _ _ _=>qO (bQ (nP (aG T.v0 hr (aa (aj 1) (aa (aj 2) (aa (SE.val (nj T.sg (aN hr (aj 0) au))) (aa (SE.val (nj T.sg (aN hr (aj 0) au))) az))))) d7))) (λ_ _ _ _=>(aj 0))) (bj az)))))))))))
theorem t6 (F:fu Z wq f fd)(T:AC Z):fo Z wq f fd:=by
 refine Fm F sT [4] [] [] λhr=>?_
 exact(aq (cB 4 sT.nd (bj az)) (aq (bZ [5,6] (lD T.sj (aj 2) (aG T.sF hr (aa (aj 0) az))) (jh (aW 5 sT.nd (aW 6 sT.nd cO))) (aF (dD (bQ (nP (aj 5) d7)) (aF (fO 4 (bx (aa (aN hr (aj 5) au) (aa (aN hr (aj 6) au) az))))) b8)) bb) (aq (aO 7 sT.nd (aG T.xI hr (aa (aj 1) (aa (aj 3) az)))) (aq (dD (bQ (pA hr (bf T.sd (pL 4)) (bf T.sd (aj 7)))) (aF (aX gj)) b8) (d_ (G1:=[]) (aq (bZ [8,9] (lD T.sj (aj 4) (aj 7)) (jh (aW 8 sT.nd (aW 9 sT.nd cO))) (aF (dD (SW.st (yO (SW.st (qp (bQ (pA hr (aN hr (aj 9) au) dM)) (m_ (bQ (pA hr (aN hr (aj 9) au) (aN hr (aj 8) au)))))) (zW (SW.st (qp (d9 (aN hr (aj 9) au)) (m_ (gU (d9 (aN hr (aj 8) au))))))))) (aF (aX gj)) b8)) bb) (aF (aX gj))))))))
theorem Up (F:fu Z yT f fd)(T:AS Z):fo Z yT f fd:=by
 refine Fm F se [9,10] [] [] λhr=>?_
 exact(aq (aO 1 se.nd (aG T.A7 hr (aa (bA (iZ (aj 0) (cW au) (cW au)) (iZ (bj (aa au az)) (cW (d8 (bf T.sd (aj 0)) au)) gW)) az))) (aq (aO 2 se.nd (aG T.y9 hr (aa (aj 0) (aa au az)))) (aq (z_ 3 se.nd (FC:=(aH rD)) (ON:=["_law_script","_law_metre_here","_law_cell","_law_feet","_law_grid","_law_saying","_law_many","_law_number_here","_law_told","_law_turned","_law_steps","_law_n","_law_at","_law_options_here","_law_other","_law_mine","_law_theirs"]) (N:=["_law_k","_law_cell","_law_metre_here"]) (C2:=[none,some 2,some 1]) NO (uF 0) (mY T.sf (bf T.sd (aj 1))) (λ_ _ _ _=>jm 0) (λ_ _ _ _=>ji) (λ_ _ _ _=>(cV (aG T.sK hr (aa (aj 1) (aa (aj 0) az))) (bf T.sd (aN hr (aN hr (aj 2) (aj 0)) au))))) (aq (Fl (aG T.A5 hr (aa (aj 1) (aa (aj 3) (aa (aG T.y9 hr (aa (aj 0) (aa au az))) az)))) (Wr (aW 4 se.nd (aW 5 se.nd cO)))) (aq (aO 6 se.nd (aG T.BC hr (aa (aj 4) (aa (aj 1) az)))) (aq (aO 7 se.nd (aG T.v0 hr (aa (aj 4) (aa (aj 1) (aa (SE.val (nj T.sg (aj 5))) (aa (SE.val (nj T.sg (aj 3))) az)))))) (aq (dD (SW.st (yO (gU (d9 (HB GA T.u8 T.ub T.ua pT (aj 7)))) (yO (d9 (HB Fn T.u7 T.ub T.vT PyProof.Rows.boot_bool (aj 7))) (zW (gU (uJ En yH au (aj 7) (aj 6))))))) (aF (aX gj)) b8) (Ou 8 se.nd T.zi hr (aa (aj 4) (aa (aj 1) (aa (aj 7) az))) (bQ (pA hr (aj 8) (bx (aa (aj 5) (aa (aj 3) az))))) (aq (dD (gU (d9 (aG T.A4 hr (aa (aj 4) (aa (aj 1) (aa (aj 5) (aa (aj 3) (aa (aG T.sK hr (aa (aj 2) (aa au az))) az)))))))) (aF (aX gj)) b8) (aq (cB 9 se.nd (nj T.sg (aj 5))) (aq (cB 10 se.nd (nj T.sg (aj 3))) (aq (aO 11 se.nd (aG T.sK hr (aa (aj 2) (aa au az)))) (aq (aO 12 se.nd (cV (d8 (aj 11) au) (bf T.sd (aj 5)))) (aq (aO 13 se.nd (aN hr (aN hr (aG T.sF hr (aa (aj 4) az)) (aj 12)) au)) (aq (dD (bQ (dH hr (cV (aj 11) au) au)) (aF (vz 9 hr (aj 12) (aN hr (aj 13) (cV (d8 (aj 11) au) (bf T.sd (aj 13)))))) (aq (aO 12 se.nd (cV (d8 (aj 11) au) (bf T.sd (aj 3)))) (aF (vz 10 hr (aj 12) (cV (d8 (aj 11) au) (bf T.sd (aN hr (aN hr (aj 1) (aj 12)) au))))))) (d_ (G1:=[]) (aq (aO 14 se.nd (aG T.v0 hr (aa (aj 4) (aa (aj 1) (aa (aj 9) (aa (aj 10) az)))))) (aq (dD (gU (d9 (aG T.A6 hr (aa (aj 4) (aa (aj 1) (aa (aj 9) (aa (aj 10) az))))))) (aF (aX (di (yM (aj 14) d7)))) b8) (aq (dD (SW.st (yO (bQ (yM (aj 14) d7)) (zW (bQ (pA hr (aG (Oo T.zi) hr (aa (aj 4) (aa (aj 1) (aa (aj 14) az)))) (bx (aa (aj 9) (aa (aj 10) az)))))))) (aF (aX gj)) b8) (aq (aO 15 se.nd (aG T.zd hr (aa (aj 4) (aa (aj 5) (aa (aj 3) az))))) (aq (aO 16 se.nd (aG T.zd hr (aa (aj 4) (aa (aj 9) (aa (aj 10) az))))) (aF (aX (vq (di (dH hr (di (sV hr (aj 7) (aj 14))) (di (Tj hr (aj 15) (aj 16))))) (nQ (di (dH hr (di (dH hr (aj 7) (aj 14))) (di (dH hr (aj 15) (aj 16))))))))))))))))))))))))))))))
end
end
def yU (K:W.Frag):Sp:=λvs H Q _=>∃(a:Addr) (ns:rq),vs=[V.ref a]/\Sj H/\DL K H a (ns.map V.int)/\ns.length<=63/\∀J,Q (.bl true) J
variable {K:W.Frag}
theorem Uq {cl:Nat->Addr}{vs:List V}{H:Hp}{Q:VK}{E:XK}(h:yU K vs H Q E):LD ⟨K,cl⟩ vJ false vs H Q E:=by
 obtain⟨a,ns,rfl,ho,hs,hl,k⟩:=h
 have ri:CM ⟨K,cl⟩ (λ_=>True) H (ns.map V.int) (ns.map PV.int):=wA _ _ (λi=>.int i) ns
 refine⟨λ_=>True,[.EA (ns.map PV.int)],.bl true,.cons ?_ .nil,OY ns hl,λv H' s r=>?_⟩
 ·rcases hs with (hs | ⟨o,hs⟩) | hs
  ·rcases ho a with z | ⟨o,xs,z⟩
   ·rw[z] at hs;cases hs
   ·rw[z] at hs;cases hs
  ·exact .LW hs ri
  ·exact .lstK (.inr hs) ri
 ·cases r
  exact k _
structure Gf (K:W.Frag)(x:Str)(st:Stmt)(f:Addr)(fd:FuncData):Prop where
 a:W.nsIn K mainGlobals x=some (some (.ref f))
 F:I0 K x x st f fd
variable {mg:Str->Option Value}
theorem km {h:Heap}{P:Program}{w:World}{base:Heap}{k:Nat}{x:Str}{ps:rp}{sp:Sp}{st:Stmt}{f:Addr}{fd:FuncData}(X:K.In h)(G:h.Ns mainGlobals mg)(F:Gf K x st f fd)(hb:Binds K fd ps [])(o:EC P w K mg base LS k f fd ps sp):MO P w K mg base k x ps sp:=Rm F.F (W.mg_of X G F.a) hb o
variable {l:W.OpenLaw}
theorem all_mk {w:World}{h:Heap}{fa:Addr}(X:K.In h)(G:h.Ns mainGlobals mg)(U1:mg "law" = some (.ref fa))
  (Fs:W.nsIn K mainGlobals "NoReading" = some (some (.ref C_NoReading)))
  (Z9:Gf K "_law_mixed" oU f_0 d_0)
  (F_1:Gf K "_law_patterns" kZ f_1 d_1)
  (F_2:Gf K "_law_metre" oV f_2 d_2)
  (F_3:Gf K "_law_cell_at" lO f_3 d_3)
  (F_4:Gf K "_law_marks" oW f_4 d_4)
  (F_5:Gf K "_law_options" ig f_5 d_5)
  (F_6:Gf K "_law_with" pY f_6 d_6)
  (F_7:Gf K "_law_fit" rA f_7 d_7)
  (F_8:Gf K "states_of" mj f_8 d_8)
  (F_9:Gf K "end_state" pZ f_9 d_9)
  (OZ:Gf K "state_behind" lQ f_10 d_10)
  (O0:Gf K "stands_for" oX f_11 d_11)
  (Pc:Gf K "moves_of" rB f_12 d_12)
  (Pd:Gf K "steps_by" m7 f_13 d_13)
  (Pe:Gf K "all_steps" p6 f_14 d_14)
  (Pf:Gf K "walked_by" mq f_15 d_15)
  (Pl:Gf K "counts_ahead" lR f_16 d_16)
  (Pm:Gf K "options_in" oY f_17 d_17)
  (Po:Gf K "ends_in" tU f_18 d_18)
  (Pp:Gf K "counts_by_syllable" iI f_19 d_19)
  (Pt:Gf K "many_readings" k_ f_20 d_20)
  (Pw:Gf K "is_saying" my f_21 d_21)
  (PC:Gf K "fits" vR f_22 d_22)
  (PD:Gf K "are_feet" rC f_23 d_23)
  (PF:Gf K "said_of" pI f_24 d_24)
  (PH:Gf K "lets_by" tW f_25 d_25)
  (PM:Gf K "ways_on" tY f_26 d_26)
  (PR:Gf K "counts_by_pattern" iY f_27 d_27)
  (PU:Gf K "counts_by_slot" iJ f_28 d_28)
  (PY:Gf K "number_of_feet" jX f_29 d_29)
  (PZ:Gf K "counts_by_option" gK f_30 d_30)
  (Nw:Gf K "number_of" mz f_31 d_31)
  (P4:Gf K "_law_number" mQ f_32 d_32)
  (P5:Gf K "chosen_by" p7 f_33 d_33)
  (P6:Gf K "feet_at" tZ f_34 d_34)
  (P7:Gf K "reading_at" oZ f_35 d_35)
  (P8:Gf K "_law_flat" p_ f_36 d_36)
  (P9:Gf K "_law_places" mR f_37 d_37)
  (Qb:Gf K "_law_all_refused" gM f_38 d_38)
  (Qr:Gf K "_law_is_reading" jJ f_39 d_39)
  (QA:Gf K "law" rD f_40 d_40)
  (t9:W.nsIn K mainGlobals "all" = some none)
  (vT:W.nsIn K mainGlobals "bool" = some none)
  (sv:W.nsIn K mainGlobals "enumerate" = some none)
  (ua:W.nsIn K mainGlobals "int" = some none)
  (ub:W.nsIn K mainGlobals "isinstance" = some none)
  (sd:W.nsIn K mainGlobals "len" = some none)
  (sg:W.nsIn K mainGlobals "list" = some none)
  (sf:W.nsIn K mainGlobals "range" = some none)
  (sC:W.nsIn K mainGlobals "reversed" = some none)
  (sD:W.nsIn K mainGlobals "sum" = some none)
  (ui:W.nsIn K mainGlobals "tuple" = some none)
  (sj:W.nsIn K mainGlobals "zip" = some none)
  (sA:W.nsIn K mainGlobals "START" = some (some (.ref F3)))
  (yB:K.lookup F3=some ⟨.type "tuple",o_START,.seq #[.int 0 t_START_0,.int 0 t_START_1,.int 0 t_START_2] n_START,sl_START⟩)
  (u7:∀t k,(t,k)∈Fn->W.kitOne K (.type t) (.type "bool")=some k)
  (u8:∀t k,(t,k)∈GA->W.kitOne K (.type t) (.type "int")=some k)
  (y7:W.excIn K C_NoReading [.type "ValueError",.type "Exception",.type "BaseException",.type "object"] "ValueError.__new__" = true)
  (vS:W.exmOne K (.ref C_NoReading) (.ref C_NoReading)=some true):
  ∃fd:FuncData,(∀(s:Shared) (v:Value),BindsTo s fd ⟨[v],[]⟩ [("_law_script",v)])/\∀base:Heap,K.In base->base.Ns mainGlobals mg->EC l.prog w K mg base LS 9 fa fd ["_law_script"] (yU K):=by
 have mo {x:Str}{v:Value}(h:W.nsIn K mainGlobals x=some (some v)):mg x=some v:=W.mg_of X G h
 have e:=U1.symm.trans (mo QA.a)
 cases e
 obtain⟨_,_,kV_40,dc_40,pm_40,an_40,cd_40,ct_40,_,rfl,_,_⟩:=QA.F.ex
 refine⟨W.fnOf "law" "law" (iR rD) (e_ rD) (aH rD) .none kV_40 dc_40 pm_40 an_40 cd_40 ct_40,λs v=>.of_eq rfl,λbase _ _=>?_⟩
 let cl:Nat->Addr:=λn=>match n with | 11=>C_NoReading | _=>0
 let Z:Z7:={ P:=l.prog,w,K,mg,base,cl,F3 }
 have tq:∀(B:Addr->Prop) (H:Hp),Rep ⟨K,cl⟩ B H (.ref F3) iU:=λB H=>.tupK (vs:=[V.int 0,V.int 0,V.int 0]) (.inr ⟨_,_,_,yB,rfl,rfl,(by show 3<=sizeLine;decide),(.cons ⟨_,rfl⟩ (.cons ⟨_,rfl⟩ (.cons ⟨_,rfl⟩ .nil)))⟩) (.cons (.int _) (.cons (.int _) (.cons (.int _) .nil)))
 have zn {x:Str}(h:W.nsIn K mainGlobals x=some none):mg x=none:=W.mg_none_of X G h
 have q:Zq Z:=⟨zn t9,zn vT,zn sv,zn ua,zn ub,zn sd,zn sg,zn sf,zn sC,zn sD,zn ui,zn sj,mo sA,tq,y7,u7,u8,mo Fs,vS⟩
 have yk:=km X G Z9 Z9.F.OS (yx Z9.F q)
 have B3:=km X G F_1 F_1.F.VA (u6 F_1.F q)
 have BU:=km X G F_2 F_2.F.VA (yz F_2.F ⟨q,yk,B3⟩)
 have BO:=km X G F_3 F_3.F.OS (vV F_3.F q)
 have zk:=km X G F_4 F_4.F.OS (yC F_4.F q)
 have B0:=km X G F_5 F_5.F.OS (vW F_5.F q)
 have B5:=km X G F_6 F_6.F.NU (Bv F_6.F ⟨q,B0⟩)
 have BQ:=km X G F_7 F_7.F.NU (Cp F_7.F ⟨q,zk,yk,B5⟩)
 have CA:=km X G F_8 F_8.F.VA (Bw F_8.F q)
 have zw:=km X G F_9 F_9.F.VA (Bx F_9.F q)
 have Ct:=km X G OZ OZ.F.NU (vX OZ.F q)
 have zI:=km X G O0 O0.F.OS (yD O0.F q)
 have zD:=km X G Pc Pc.F.Yd (Cq Pc.F ⟨q,zw,zI,Ct⟩)
 have CB:=km X G Pd Pd.F.NU (Cr Pd.F ⟨q,zD,CA⟩)
 have B6:=km X G Pe Pe.F.VA (By Pe.F ⟨q,CB⟩)
 have CC:=km X G Pf Pf.F.Yd (BJ Pf.F q)
 have B8:=km X G Pl Pl.F.Yd (vY Pl.F ⟨q,CC⟩)
 have wd:=km X G Pm Pm.F.VA (yE Pm.F q)
 have wc:=km X G Po Po.F.VA (Gd Po.F q)
 have yv:=km X G Pp Pp.F.OS (qI Pp.F ⟨q,B6,B8,zw,wc,wd⟩)
 have Ch:=km X G Pt Pt.F.OS (u9 Pt.F ⟨q,yv⟩)
 have Cb:=km X G Pw Pw.F.OS (BK Pw.F ⟨q,wd⟩)
 have zC:=km X G PC PC.F.NU (Qk PC.F ⟨q,zI⟩)
 have B7:=km X G PD PD.F.NU (Cu PD.F ⟨q,zC⟩)
 have yy:=km X G PF PF.F.OS (Ge PF.F ⟨q,wc⟩)
 have Cf:=km X G PH PH.F.NU (Gg PH.F ⟨q,B7,Cb,yy⟩)
 have yA:=km X G PM PM.F.Yd (Gh PM.F ⟨q,zD⟩)
 have yn:=km X G PR PR.F.Yd (rE PR.F ⟨q,zC⟩)
 have zv:=km X G PU PU.F.OS (ur PU.F ⟨q,yn⟩)
 have Co:=km X G PY PY.F.NU (ut PY.F ⟨q,yn,zv⟩)
 have zt:=km X G PZ PZ.F.bd5 (rO PZ.F ⟨q,yA⟩)
 have zS:=Oz Nw.F (mo Nw.a) Nw.F.NU (yF Nw.F ⟨q,zt,yv,wc,Cf,Co,wd,yy,yA⟩)
 have Cn:=Kz zS
 have zl:=km X G P4 P4.F.Yd (xm P4.F ⟨q,Cn,zS⟩)
 have zo:=km X G P5 P5.F.OS (BL P5.F q)
 have B9:=km X G P6 P6.F.NU (Gi P6.F ⟨q,zo,yn,zv⟩)
 have Cs:=km X G P7 P7.F.NU (yG P7.F ⟨q,zo,zt,yv,wc,B9,wd,yy,yA⟩)
 have wb:=km X G P8 P8.F.VA (BR P8.F q)
 have B4:=km X G P9 P9.F.NU (xn P9.F ⟨q,wb⟩)
 have BN:=km X G Qb Qb.F.bd5 (rQ Qb.F ⟨q,wb,zl⟩)
 have BS:=km X G Qr Qr.F.Yd (t6 Qr.F ⟨q,wb,zk⟩)
 have G_40:=Up QA.F ⟨q,BN,BO,BQ,wb,BS,BU,yk,zl,B4,Ch,Cs⟩
 exact G_40.imp λvs H Q E h=>Uq h
variable {XP:(Str->Option Value)->Heap->Prop}{YP:World->Heap->Prop}
theorem walk {q:Program}{loose:rp}{d:DefRec}{K:Params->W.Frag}(hn:l.most=some 63)(UD:d.params.defaults=[])
  (hY:∀(w:World) (h:Heap),YP w h->(K w.params).In h)
  (F:∀(w:World) (mg:Str->Option Value) (fa:Addr) (h:Heap),(K w.params).In h->h.Ns mainGlobals mg->mg d.name=some (.ref fa)->
   ∃fd:FuncData,(∀(s:Shared) (u:Value),BindsTo s fd ⟨[u],[]⟩ [("_law_script",u)])/\∀base:Heap,(K w.params).In base->base.Ns mainGlobals mg->EC l.prog w (K w.params) mg base LS 9 fa fd ["_law_script"] (yU (K w.params))):
  W.WalkO q loose XP YP l.row.toRowW d [] (λf vs=>PySem.call f vs):=
 L2.Sk (n:=63) (k:=9) (x := "_law_script") (CX:=λ_=>LS) (sp:=λw=>yU (K w.params)) hn (by decide) UD ⟨rfl,by decide,by decide⟩ hY F (λ_ _ a ns hl hO hS=>⟨a,ns,rfl,hO,hS,hl,λ_=>rfl⟩) λ_ _ _ _ _ z=>z
end My
open PySem PySem.W PyProof.Rows
end
namespace PySem.W.Fast
def tw2886323221802804280:=()
def tw2653547797131383913:=()
def tw17096479341079978345:=()
def tw15015662106908053459:=()
def tw15921326708822534894:=()
def tw11237059189280674684:=()
def tw104551696983280724:=()
def tw9625526819043499748:=()
def tw14807771439115264803:=()
def tw17258988353762668755:=()
def tw15371999313483839855:=()
def tw5269901833292221317:=()
def tw10995919825267819395:=()
def tw9137748404451461715:=()
def tw3393760394036352551:=()
def tw7519746005871887133:=()
def tw11780222426874258612:=()
def tw4801112077515210655:=()
def tw8455199049188541972:=()
def tw1127537577651525933:=()
def tw2927149642047195129:=()
def tw12416588533051946357:=()
def tw13172810020872214462:=()
def tw12897388873014140987:=()
def tw15694451404360431502:=()
def tw14512226035507463538:=()
def tw11264833516116414558:=()
def tw16676887415684456974:=()
def tw7405114065996494871:=()
def tw3858878515303809705:=()
def tw954218473923996092:=()
def tw10979089897289157731:=()
def tw18064133542533260037:=()
def tw10462055368289879419:=()
def tw3239379265894423502:=()
def tw14368335353688857824:=()
def tw11397817751375406029:=()
def tw13716124382081459681:=()
def tw16451069500847434623:=()
def tw17194371344224923979:=()
def tw1406451241883582348:=()
def tw13085231125084694373:=()
def tw6467803500493645459:=()
def tw2223580306795196511:=()
def tw18261914338578603814:=()
def tw10504636372116658965:=()
def tw11064881012540555257:=()
def tw15497630967070635624:=()
def tw6112533124490044730:=()
def tw8028961496712820655:=()
def tw16951877913864383252:=()
def tw7535219035353679014:=()
def tw2467254054780454735:=()
def tw12641662980817697883:=()
def tw4556685922383477408:=()
def tw10594536282543331412:=()
def tw11839913039729733827:=()
def tw11785062007728456830:=()
def tw2706471950851797331:=()
def tw13337868035279841745:=()
def tw8176273166972385349:=()
def tw3726127186087494905:=()
def tw13666106729467955771:=()
def tw12491497292311881376:=()
def tw8645138962279671354:=()
def tw9966091214401080189:=()
def tw6167492848360412997:=()
def tw2690244500577920778:=()
def tw6012717227249109946:=()
def tw3055961738655070262:=()
def tw14941499110422893286:=()
def tw15460638590439048476:=()
def tw1583659681303727471:=()
def tw14420278679939320595:=()
def tw6727376630826271780:=()
def tw5465114307824107363:=()
def tw12087112226552932153:=()
def tw14513071777279979824:=()
def tw13759189951447764612:=()
def tw1018111368178259994:=()
def tw6882324421029370015:=()
def tw8933482806783076705:=()
def tw14129746288238244:=()
def tw2205022650364790708:=()
def tw12713429172789007475:=()
def tw1927431742100226514:=()
def tw2704961477420834169:=()
def tw6767972033633169429:=()
def tw10484231306561383440:=()
def tw12942296273111878718:=()
def tw16161566764284867873:=()
def tw15548533696118735308:=()
def tw11757470676338069279:=()
def tw16702731266504868637:=()
def tw4690701502036899059:=()
def tw9088352987977976846:=()
def tw15539226501871610102:=()
def tw8781874784473249078:=()
def tw2179502846674299160:=()
def tw17895949268986520083:=()
def tw292110995080356692:=()
def tw15513870552819187645:=()
def tw4520594737424837803:=()
def tw10898330373064365735:=()
def tw18125732687224850692:=()
def tw14597918904989108761:=()
def tw12200084077365224300:=()
def tw8742517989255810582:=()
def tw6684564896571795688:=()
def tw3393009060510562802:=()
def tw13470731259096491630:=()
def tw5807089555302907304:=()
def tw10616288392557510069:=()
def tw1794367191638890647:=()
def tw13300227434133073041:=()
def tw9978962322645045677:=()
def tw7510173266836332855:=()
def tw10271994236273044460:=()
def tw9329908634200062341:=()
def tw10665482593294429759:=()
def tw5931589922339698963:=()
def tw16314199414926591210:=()
def tw9360102357760960265:=()
def tw5195519934019160720:=()
def tw734486391290170290:=()
def tw16803720942983270314:=()
def tw161132959573155653:=()
def tw316127069008876243:=()
def tw15248577623093925649:=()
def tw17629573684839048027:=()
def tw2812444116207383321:=()
def tw14969141922182993039:=()
def tw14239882102277169370:=()
def tw17843297874396733508:=()
def tw17427665692485710413:=()
def tw10694259325957194170:=()
def tw10687462419556588353:=()
def tw9433799676441063510:=()
def tw9334251957356459775:=()
def tw4028246052403706161:=()
def tw7123968438917479626:=()
def tw17356464574615553522:=()
def tw7392532277611540432:=()
def tw2236557941877437884:=()
def tw1343514107115086391:=()
def tw427910517543704790:=()
def tw18086269189830023966:=()
def tw12066833596621272205:=()
def tw13216980056374832125:=()
def tw11184406416398187408:=()
def tw4260189502854007655:=()
def tw6355226969407729154:=()
def tw2777072672914315449:=()
def tw17645784632038547528:=()
def tw10743234107149846659:=()
def tw6658329426597825543:=()
def tw4912061309259263127:=()
def tw2078918676288598637:=()
def tw9100607730605115399:=()
def tw8660638429746792896:=()
def tw8583253510178280965:=()
def tw535665981748986578:=()
def tw2573223487277295159:=()
def tw17886784590712247282:=()
def tw12297524201855212928:=()
def tw10956377228692373941:=()
def tw8149587095726966678:=()
def tw9785172698082895282:=()
def tw8684340219861782092:=()
def tw7689455296207432683:=()
def tw7093348796704451015:=()
def tw6522450925439090848:=()
def tw5639302263585493328:=()
def tw4366043267278170995:=()
def tw4302693213875683862:=()
def tw389376542193398162:=()
def tw3886874605689606128:=()
def tw3247631397516584838:=()
def tw3085129060869336822:=()
def tw2675130645557852746:=()
def tw15141278959265706168:=()
def tw14700790635731673966:=()
def tw14581258519197188709:=()
def tw11715244516075923868:=()
def tw11233162502038692494:=()
def tw18141581299620795336:=()
def tw2731496660980871037:=()
def tw13155271023898432917:=()
def tw7988257890079394090:=()
def tw12287343777712743141:=()
def tw12168302970551798874:=()
def tw17644217986388360656:=()
def tw11763580950101507920:=()
def tw11117305167216176259:=()
def tw15642464417333217560:=()
def tw14532109030622317162:=()
def tw16082098318865891810:=()
def tw17297501404992191352:=()
def tw1348002829194606430:=()
def tw519244770485643138:=()
def tw263926636603885700:=()
def tw15237537387421278419:=()
def tw15920289356865281094:=()
def tw1387177066796886184:=()
def tw14633672627695791860:=()
def tw14438799564362332460:=()
def tw10145214070833464871:=()
end PySem.W.Fast
set_option maxRecDepth 100000 in
set_option maxHeartbeats 0 in
theorem PySem.Challenge.cw_lilt_k44_whole_each_has_a_number_holds : PySem.Challenge.rw_lilt_k44_whole_each_has_a_number.Holds := by
 w_on;o_law;k_head;(case hw=>w_witness2)
 k_fill
 refine My.walk (l:=PySem.Challenge.rw_lilt_k44_whole_each_has_a_number) rfl rfl (λw h Y=>W.kIn_of Y) ?F
 case F=>
  intro w mg fa h KX G YZ
  refine' My.all_mk KX G YZ ?Fs ?Z9 ?F_1 ?F_2 ?F_3 ?F_4 ?F_5 ?F_6 ?F_7 ?F_8 ?F_9 ?OZ ?O0 ?Pc ?Pd ?Pe ?Pf ?Pl ?Pm ?Po ?Pp ?Pt ?Pw ?PC ?PD ?PF ?PH ?PM ?PR ?PU ?PY ?PZ ?Nw ?P4 ?P5 ?P6 ?P7 ?P8 ?P9 ?Qb ?Qr ?QA ?t9 ?vT ?sv ?ua ?ub ?sd ?sg ?sf ?sC ?sD ?ui ?sj ?sA ?yB ?u7 ?u8 ?y7 ?vS
  (case Fs | t9 | vT | sv | ua | ub | sd | sg | sf | sC | sD | ui | sj | sA | yB=>k_is)
  (case Z9 | F_1 | F_2 | F_3 | F_4 | F_5 | F_6 | F_7 | F_8 | F_9 | OZ | O0 | Pc | Pd | Pe | Pf | Pl | Pm | Po | Pp | Pt | Pw | PC | PD | PF | PH | PM | PR | PU | PY | PZ | Nw | P4 | P5 | P6 | P7 | P8 | P9 | Qb | Qr | QA=>refine' ⟨?a,L2.WJ ?l ?c ?k⟩;(case a=>k_is);(case l=>k_is);(case c=>k_is);(case k=>k_is))
  (case u7=>intro t k hm;simp only[My.Fn,av,bt,fg,Prod.mk.injEq] at hm;rcases hm with ⟨rfl,rfl⟩ | ⟨rfl,rfl⟩ <;> first | rfl | k_is)
  (case u8=>intro t k hm;simp only[My.GA,av,bt,fg,Prod.mk.injEq] at hm;rcases hm with ⟨rfl,rfl⟩ | ⟨rfl,rfl⟩ <;> first | rfl | k_is)
  (case y7=>k_exc)
  (case vS=>kts_exm)
