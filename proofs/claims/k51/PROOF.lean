import PyProof.Rows.All
import Wide.All
import OpenK.AllK
import Wide.FinOn
import Lean
import PyProof.EqAt
import PyProof.EqKinds
import PyProof.TupleCall
import KE.KRevIter
import PyProof.ListStr
import PyProof.Rows.Range3
import PyProof.Rows.SetFrom
import KE.KIntText
import PyProof.WalkInts
import PyProof.ZipIter
import PyProof.DictWalks
import PyProof.Rows.TupDisplay
import PyProof.MinMaxWalk
import PyProof.WalksMore
import PyProof.AttrMissHeap
import KE.KDictOf
import PyProof.DictItems
import KE.KPairComp
import PyProof.StrLawsJoin
import PySem.Challenge.RW_lilt_k51_least_mendings
set_option Elab.async false
set_option linter.all false
set_option maxRecDepth 100000
set_option maxHeartbeats 4000000
set_option compiler.extract_closed false
abbrev gV:=List (List (List Nat))
abbrev qk:=PySem.Value->PySem.Shared->Prop
abbrev qo:=List (PySem.Addr×PySem.Obj)
abbrev qr:=List Nat
abbrev qv:=List PySem.Value
abbrev qA:=List PySem.Stmt
abbrev qB:=List PySem.Expr
abbrev qE:=List PySem.Str
abbrev qS:=List Int
abbrev qV:=List PySem.Addr
abbrev re:=Array PySem.Value
abbrev ab:=@PySem.wpAny_bind
abbrev ac:=@List.length_map
abbrev af:=@PySem.Heap.get?_push_of_some
abbrev ag:=@PySem.wpAny_pure
abbrev ah:=@List.mem_cons_of_mem
abbrev al:=@List.map_cons
abbrev am:=@List.mem_cons_self
abbrev ap:=@PySem.Heap.get?_push_size
abbrev ar:=@List.size_toArray
abbrev av:=@List.mem_singleton
abbrev aw:=@Nat.le_refl
abbrev ax:=@if_neg
abbrev ay:=@PySem.Heap.lt_size
abbrev aE:=@Array.length_toList
abbrev aI:=@List.mem_cons
abbrev aS:=@List.getElem?_eq_some_iff
abbrev aT:=@List.getElem?_eq_getElem
abbrev a8:=@PySem.PassesOwn.never
abbrev a9:=@List.length_append
abbrev ba:=@if_pos
abbrev bd:=@Bool.false_ne_true
abbrev be:=@decide_eq_false
abbrev bg:=@List.length_cons
abbrev bi:=@List.not_mem_nil
abbrev bm:=@List.map_append
abbrev bn:=@List.mem_map
abbrev bo:=@Option.some.inj
abbrev bp:=@List.append_nil
abbrev bq:=@Option.bind_some
abbrev br:=@List.getElem?_set_ne
abbrev bt:=@Nat.ne_of_lt
abbrev bv:=@List.mem_append
abbrev bE:=@Nat.lt_of_lt_of_le
abbrev bP:=@List.map_map
abbrev bS:=@decide_eq_true
abbrev bX:=@PyProof.Rows.callWith_type1
abbrev b0:=@List.getElem?_map
abbrev b6:=@List.lookup_cons
abbrev b9:=@Array.getElem?_eq_getElem
abbrev cb:=@Bool.and_eq_true
abbrev cf:=@PySem.Heap.get?_update_other
abbrev ci:=@PySem.Heap.SameBut.update
abbrev cm:=@Nat.le_trans
abbrev cn:=@PySem.Heap.get?_update_self
abbrev cp:=@List.map_nil
abbrev cq:=@List.mem_range
abbrev cr:=@List.all_eq_true
abbrev cv:=@List.find?_cons
abbrev cw:=@List.mem_append_right
abbrev cx:=@PySem.wpAny_callSpecial?_slot
abbrev cy:=@PySem.wpAny_holding
abbrev cE:=@PySem.wpAny_call_entry
abbrev cK:=@PySem.wpAny_newObj_type
abbrev cS:=@List.flatten_cons
abbrev c5:=@congrArg
abbrev c8:=@List.replicate_succ
abbrev c9:=@or_false
abbrev da:=@List.append_assoc
abbrev dc:=@List.mem_of_getElem?
abbrev de:=@PySem.F.slot_dict_itemiterator_next
abbrev df:=@Option.map_eq_some_iff
abbrev dn:=@PySem.Heap.size_push
abbrev dv:=@PySem.W.kia_one
abbrev dy:=@List.any_cons
abbrev dA:=@List.length_drop
abbrev dL:=@beq_eq_false_iff_ne
abbrev dQ:=@PySem.F.slot_dict_get
abbrev dS:=@List.getElem?_eq_none
abbrev d0:=@PySem.Calls.spliced_cons
abbrev d5:=@Nat.lt_irrefl
abbrev d6:=@Or.inr
abbrev ed:=@Nat.le_add_right
abbrev eg:=@List.drop_eq_nil_of_le
abbrev ei:=@List.map_congr_left
abbrev el:=@PySem.F.slot_dict_keyiterator_next
abbrev em:=@List.length_set
abbrev er:=@Option.map_some
abbrev et:=@Bool.false_eq_true
abbrev eA:=@Nat.zero_le
abbrev eB:=@PySem.wpAny_field
abbrev eC:=@List.getElem?_set_self
abbrev eD:=@PySem.wpAny_truthy_bool
abbrev eI:=@PySem.wpAny_seqItems
abbrev eJ:=@Nat.lt_succ_of_lt
abbrev eK:=@List.take_of_length_le
abbrev eL:=@List.length_pos_iff
abbrev eM:=@List.length_nil
abbrev eP:=@List.getElem?_append_left
abbrev eR:=@PySem.wpAny_mono
abbrev eS:=@True.intro
abbrev eT:=@PySem.wpAny_Call_Name_kw
abbrev eW:=@List.length_take
abbrev e8:=@PySem.tupleKind_room_in1
abbrev e9:=@List.getElem_mem
abbrev fe:=@PySem.wpAny_typeNameOfWhole_itemiter
abbrev ff:=@PySem.Paired.length
abbrev fg:=@Ne.symm
abbrev fi:=@if_true
abbrev fk:=@PySem.wpAny_typeNameOfWhole_keyiter
abbrev fm:=@if_false
abbrev fq:=@Int.le_refl
abbrev ft:=@Int.toNat_natCast
abbrev fw:=@PySem.wpAny_pyIter_list
abbrev fz:=@PySem.Calls.spliced_nil
abbrev fA:=@List.getElem?_cons_succ
abbrev fE:=@List.nodup_cons
abbrev fF:=@PySem.wpAny_loadPart'
abbrev fI:=@List.foldl_cons
abbrev fN:=@Or.inl
abbrev fR:=@PySem.wpAny_updateSeq
abbrev fS:=@List.mem_zipIdx_iff_getElem?
abbrev fT:=@PySem.F.entry_dict_get
abbrev f7:=@PySem.Calls.callWith_builtin
abbrev f8:=@PySem.F.plain_min_loop
abbrev ga:=@List.mem_flatMap
abbrev gc:=@PySem.F.slot_tuple_iterator_next
abbrev gd:=@PySem.wpAny_setField_rec
abbrev gg:=@List.getD_eq_getElem?_getD
abbrev gi:=@PySem.builtinLookup_eq_fast
abbrev gl:=@List.length_filter_le
abbrev gp:=@PySem.wpAny_typeNameOf_itemiter
abbrev gs:=@PySem.size_of_entries
abbrev gt:=@List.mem_filter
abbrev gu:=@PySem.wpAny_passesOwn
abbrev gv:=@Bool.eq_iff_iff
abbrev gx:=@List.nil_append
abbrev gy:=@PySem.codeAny_builtin
abbrev gE:=@Nat.min_eq_left
abbrev gI:=@PySem.wpAny_dictEntries
abbrev gL:=@List.mem_append_left
abbrev gS:=@List.reverse_cons
abbrev gX:=@decide_eq_true_eq
abbrev g7:=@PySem.Around.under_plainId
abbrev g9:=@List.flatMap_cons
abbrev hV:=@PySem.wpAny_typeNameOf_keyiter
abbrev ib:=@List.length_reverse
abbrev ic:=@PySem.F.plain_extend_loop
abbrev ii:=@List.drop_zero
abbrev ij:=@PySem.Str.cps_append
abbrev im:=@Array.getElem?_eq_none
abbrev io:=@PySem.wpAny_pyIter_tuple
abbrev ip:=@beq_iff_eq
abbrev iq:=@PyProof.Rows.boot_list
abbrev ix:=@PySem.wpAny_dictEpoch
abbrev iA:=@PySem.plainId_quiet
abbrev iE:=@PySem.wpAny_notOrdered_dict
abbrev iF:=@Array.getElem?_toList
abbrev iL:=@List.getElem?_append_right
abbrev iN:=@PySem.Calls.evalArgs_plain
abbrev iO:=@PySem.call_meets
abbrev iP:=@List.fst_mem_of_mem_zipIdx
abbrev iS:=@Nat.ne_of_gt
abbrev iX:=@Nat.lt_succ_self
abbrev i0:=@List.cons_append
abbrev i3:=@List.drop_eq_getElem_cons
abbrev i5:=@Array.toList_append
abbrev i6:=@Function.comp_apply
abbrev i7:=@PySem.wpAny_attempt
abbrev i8:=@PySem.F.args_tuple_add_2
abbrev i9:=@List.all_cons
abbrev ja:=@PySem.F.slot_list_getattribute
abbrev jp:=@List.of_mem_zip
abbrev js:=@PySem.wpAny_specialOf
abbrev jv:=@PySem.typeLookup_type
abbrev jI:=@PySem.Obj.data_mapFields
abbrev jS:=@Nat.lt_of_le_of_lt
abbrev j3:=@List.map_singleton
abbrev kb:=@List.getElem?_replicate
abbrev kc:=@PySem.F.args_dict_get_3
abbrev ke:=@PySem.F.plainAttrs_dict
abbrev kf:=@PySem.F.entry_tuple_add
abbrev kg:=@List.length_eq_zero_iff
abbrev ki:=@PySem.F.plainAttrs_list
abbrev kl:=@PySem.wpAny_letGo
abbrev kn:=@Classical.axiomOfChoice
abbrev ko:=@PySem.wpAny_pyIter_slot
abbrev kq:=@PySem.wpAny_setField
abbrev kr:=@of_decide_eq_true
abbrev kx:=@Nat.le_of_lt
abbrev kz:=@Option.isSome_map
abbrev kB:=@PySem.wpAny_Call_method
abbrev kC:=@PySem.F.slot_tuple_add
abbrev kD:=@List.find?_cons_of_neg
abbrev kF:=@List.getElem?_set
abbrev kG:=@List.length_range
abbrev kH:=@Array.getElem?_push_lt
abbrev kK:=@PySem.wpAny_tryCatch
abbrev kL:=@PySem.wpAny_isOneOf_itemiter
abbrev kM:=@exists_eq_left
abbrev kN:=@PySem.F.args_dict_itemiterator_next_1
abbrev kQ:=@List.length_replicate
abbrev kR:=@PySem.F.type_dict_get
abbrev kT:=@List.length_singleton
abbrev kU:=@List.mem_iff_getElem?
abbrev kX:=@PySem.F.args_dict_keyiterator_next_1
abbrev lb:=@PySem.wpAny_isInstance
abbrev lc:=@List.any_eq_true
abbrev lf:=@Option.getD_some
abbrev lh:=@PySem.F.entry_dict_itemiterator_next
abbrev li:=@decide_eq_decide
abbrev lj:=@List.map_reverse
abbrev ll:=@PySem.F.entry_dict_keyiterator_next
abbrev ls:=@List.eq_nil_of_length_eq_zero
abbrev lv:=@PySem.wpAny_pyIter_revIter
abbrev lx:=@PySem.F.slot_dict_itemiterator_iter
abbrev ly:=@PySem.wpAny_execs_nil
abbrev lI:=@List.forIn_cons
abbrev lP:=@List.length_zip
abbrev lS:=@PySem.F.args_tuple_iterator_next_1
abbrev lT:=@PySem.F.slot_zip_next
abbrev l3:=@List.filterMap_cons
abbrev l5:=@PySem.W.plainGet_of
abbrev l7:=@Nat.add_le_add_left
abbrev l8:=@ne_true_of_eq_false
abbrev l9:=@PySem.call_meetsIn
abbrev md:=@PySem.F.entry_tuple_iterator_next
abbrev mf:=@or_and_right
abbrev mh:=@PySem.wpAny_fieldsOf
abbrev ml:=@PySem.SeqAt.EqAt.int_str
abbrev mm:=@PySem.SeqAt.EqAt.str_int
abbrev mr:=@PySem.Calls.Name_function_global
abbrev ms:=@PySem.W.callWith_K
abbrev mv:=@PySem.typeIs_str
abbrev mw:=@PySem.F.args_str_split_2
abbrev mx:=@List.zip_cons_cons
abbrev mB:=@List.exists_mem_of_ne_nil
abbrev mE:=@List.ne_nil_of_length_pos
abbrev mI:=@List.nodup_append
abbrev mM:=@PySem.F.entry_str_split
abbrev mN:=@Option.isSome_iff_exists
abbrev mS:=@PySem.wpAny_comprehension_free
abbrev mT:=@PySem.AutoSeq1.sub_tuple_tuple
abbrev nb:=@Prod.mk.injEq
abbrev nc:=@PySem.F.args_dict_get_2
abbrev ng:=@PySem.meetsH_dict_get_default
abbrev nh:=@PySem.noFill_tuple_add
abbrev nr:=@Nat.min_le_right
abbrev nv:=@Option.getD_none
abbrev ny:=@PySem.F.slot_str_split
abbrev nB:=@PyProof.Rows.boot_tuple
abbrev nE:=@PySem.F.entry_min_loop
abbrev nI:=@PySem.F.args_tuple_lt_2
abbrev nK:=@List.getElem?_cons_zero
abbrev nN:=@Nat.min_eq_right
abbrev nS:=@PySem.wpAny_rule
abbrev nV:=@PySem.codeAny_mono
abbrev nX:=@PySem.W.cellsFrom_some
abbrev n0:=@PySem.F.plainAttrs_str
abbrev oa:=@PySem.wpAny_typeOf
abbrev oe:=@Nat.lt_or_ge
abbrev og:=@PySem.F.entry_tuple_lt
abbrev oj:=@List.zipWith_cons_cons
abbrev om:=@PySem.W.methodCall_KW
abbrev on:=@List.getElem?_zipWith
abbrev oo:=@List.getElem?_reverse
abbrev oq:=@PySem.F.slot_tuple_lt
abbrev ow:=@List.take_append_drop
abbrev ox:=@List.take_eq_take_iff
abbrev oy:=@PySem.wpAny_of_eq
abbrev oz:=@PySem.isSubtype_stop
abbrev oB:=@PySem.sizeLine_eq
abbrev oC:=@List.mem_iff_getElem
abbrev oI:=@List.range_eq_range'
abbrev oQ:=@PySem.callType_codes
abbrev o0:=@List.forIn_nil
abbrev pb:=@PySem.Value.type.inj
abbrev pc:=@Nat.pow_le_pow_right
abbrev pd:=@List.mem_of_mem_drop
abbrev pf:=@List.mem_of_mem_take
abbrev pi:=@exists_or
abbrev pj:=@PySem.evalArgs_none
abbrev pp:=@List.length_zipWith
abbrev pw:=@List.mem_map_of_mem
abbrev pz:=@PySem.wpAny_handled
abbrev pE:=@PySem.wpAny_standAt
abbrev pS:=@PySem.seq_tuple_add
abbrev pT:=@PySem.Value.ref.inj
abbrev pV:=@Nat.not_lt
abbrev p5:=@Nat.le_of_eq
abbrev p9:=@Nat.succ.inj
abbrev qc:=@List.any_map
abbrev qf:=@Sum.inr.inj
abbrev qh:=@Nat.le_succ
theorem r0_q (_h:True:=by rfl):True:=trivial
def r0_:Lean.Syntax:=r0_q._auto_1
theorem r1_q (_h:True:=by decide):True:=trivial
def r1_:Lean.Syntax:=r1_q._auto_1
theorem r2_q (_h:True:=by decide +kernel):True:=trivial
def r2_:Lean.Syntax:=r2_q._auto_1
theorem r3_q (_h:True:=by first | exact .inl rfl | exact .inr rfl | assumption):True:=trivial
def r3_:Lean.Syntax:=r3_q._auto_1
theorem r4_q (_h:True:=by intro _;rfl):True:=trivial
def r4_:Lean.Syntax:=r4_q._auto_1
theorem r6_q (_h:True:=by first | rfl | assumption):True:=trivial
def r6_:Lean.Syntax:=r6_q._auto_1
theorem r8_q (_h:True:=by intros;rfl):True:=trivial
def r8_:Lean.Syntax:=r8_q._auto_1
theorem r9_q (_h:True:=by simp):True:=trivial
def r9_:Lean.Syntax:=r9_q._auto_1
theorem r10_q (_h:True:=by exact⟨rfl,rfl,rfl,rfl⟩):True:=trivial
def r10_:Lean.Syntax:=r10_q._auto_1
theorem r11_q (_h:True:=by with_unfolding_all rfl):True:=trivial
def r11_:Lean.Syntax:=r11_q._auto_1
theorem r12_q (_h:True:=by intro _ _;rfl):True:=trivial
def r12_:Lean.Syntax:=r12_q._auto_1
noncomputable section
namespace Lake.L2
open PySem PySem.Spec PyProof.Rows
variable {h:Heap}{Q:Unit->Shared->Prop}{i:Nat}{b:Addr}
section
variable {prog:Program}{w:World}{κ:Type}[DecidableEq κ]{kd:HeapKind prog w κ}{A:Around}{E:qk}{s:Shared}{d a it:Addr}{xs:List (κ×Addr×Value)}{k:κ}{v:Value}
def GO (kd:HeapKind prog w κ)(h:Heap)(d:Addr)(xs:List (κ×Addr×Value)):Prop:=
 ∃o es,h.get? d=some o/\o.ExactDict/\o.data=.dict es xs.length/\es.toList=xs.map (entryOfKey kd)/\(∀x∈xs,kd.is h x.1 x.2.1)/\(xs.map (·.1)).Nodup
theorem GO.of (m:GO kd h d xs):h.DictOfH kd d xs:=let ⟨o,es,q⟩:=m;⟨o,es,_,q⟩
theorem yp (hu:kd.room A)(hk:kd.is s.heap k a)(m:GO kd s.heap d xs)(hz:xs.length<=sizeLine)
  (q:∀h',GO kd h' d (storedH xs k a v)->Heap.SameBut d s.heap h'->Q () { s with heap:=h',toks:=s.toks+kd.draws k }):wpAny (model prog w) A (dictSet d (.ref a) v) Q E s:=by
 obtain⟨o,es,o1,o2,o3,o4,o5,o6⟩:=m
 unfold dictSet
 try with_reducible refine cy ?_
 refine ab (kd.pyHash hu hk ?_)
 unfold dictSetHashed
 try with_reducible refine cy ?_
 refine ab (wpAny_dictFind_heap (s:={ s with toks:=s.toks+kd.draws k }) hu hk o1 o3 o4 o5 o6 (λno=>?_) λj p hj=>?_)
 ·have nk:k∉xs.map (·.1):=not_mem_keys_of_get no
  have e:=storedH_new (atKey_none_of_get no) a v
  rw[e] at q
  refine ab (nS (wpAny_updateDictKeys (hz:=by have:=gs o4;omega) (s:={ s with toks:=s.toks+kd.draws k }) o1 o3 (q _ ⟨_,_,cn _ o1 (Obj.isFreed_of_dict (Obj.data_mapDictKeys o3 _)),o2.mapDictKeys _,by rw[a9];exact Obj.data_mapDictKeys o3 _,?_,λx hx=>?_,?_⟩ (ci ..))))
  ·simp[o4,entryOfKey]
  ·rcases bv.mp hx with z | z
   ·exact kd.keeps (o5 x z) o1 o3 (ci ..)
   ·rw[av.mp z];exact kd.keeps hk o1 o3 (ci ..)
  ·rw[bm]
   exact mI.mpr ⟨o6,by simp,λx hx y hy z=>nk (by rw[al,cp,av] at hy;have hy:y=k:=hy;subst hy z;exact hx)⟩
 ·have e:=storedH_old (atKey_of_get o6 hj) a v
  rw[e] at q
  refine ab (nS (ab (wpAny_updateDict (s:={ s with toks:=s.toks+kd.draws k }) o1 o3 (wpAny_point (q _ ⟨_,_,cn _ o1 (Obj.isFreed_of_dict (Obj.data_mapDict o3 _)),o2.mapDict _,by rw[ac];exact Obj.data_mapDict o3 _,?_,λx hx=>?_,?_⟩ (ci ..))))))
  ·have y:=modify_map_putAt (entryOfKey kd) (λe:DictEntry=>{ e with val:=v }) k v (λ_ _=>rfl) o6 hj
   rw[← o4] at y
   cases es
   simpa using y
  ·obtain⟨y,hy,rfl⟩:=bn.mp hx
   unfold putAt
   split <;> exact kd.keeps (o5 y hy) o1 o3 (ci ..)
  ·rw[keys_map_putAt];exact o6
theorem N6 (hu:kd.room A.in1)(hk:kd.is s.heap k a)(m:GO kd s.heap d xs)(hz:xs.length<=sizeLine)
  (q:∀h',GO kd h' d (storedH xs k a v)->Heap.SameBut d s.heap h'->Q () { s with heap:=h',toks:=s.toks+kd.draws k }):wpAny (model prog w) A (setItem (.ref d) (.ref a) v) Q E s:=by
 have ty:=m.of.typeIs
 unfold setItem
 try with_reducible refine cy ?_
 refine ab (wpAny_sequenceKey ty (by decide) (ab (cx (name:=Str.ofString "__setitem__") ty slot_dict_setitem (cE slot_dict_setitem ty entry_dict_setitem ?_ (args_dict_setitem _ _ _)))))
 show wpAny _ _ (Builtin.Dict.notOrdered "__setitem__" ⟨[.ref d,.ref a,v],[]⟩ >>= _) _ _ s
 refine ab (iE ty ?_)
 show wpAny _ _ (dictSet d (.ref a) v >>= λ_=>_) _ _ s
 exact ab (yp hu hk m hz λh' m' Mn=>ag ⟨.none,rfl,ag (q h' m' Mn)⟩)
theorem Xx {Q:qk}(hd:(d == sysModules)=false)(m:GO kd s.heap d xs)
  (q:∀h',h'=s.heap.push { cls:=.type "dict_keyiterator",data:=.fields #[.ref d,.int 0 0,.int xs.length 0,.int xs.length 0] }->Q (.ref s.heap.objs.size) { s with heap:=h' }):wpAny (model prog w) A (pyIter (.ref d)) Q E s:=by
 obtain⟨o,es,o1,o2,o3,o4,o5,o6⟩:=id m
 have ty:=m.of.typeIs
 have sz:=gs o4
 refine ko ty F.slot_dict_iter (cE F.slot_dict_iter ty F.entry_dict_iter ?_ (F.args_dict_iter_1 _))
 unfold Builtin.«dict.__iter__» Builtin.Dict.dictSlotNone
 refine ab (ab (iE ty ?_))
 show wpAny _ _ (pure (Value.ref d)) (λ_ _=>_) _ s
 refine ag ?_
 show wpAny _ _ (Builtin.Dict.showsAll d >>= λ_=>_) _ _ s
 unfold Builtin.Dict.showsAll
 rw[ax (by rw[hd];decide)]
 refine ab (ag (ab (gI o1 o3 (ab (ix o1 o3 (ab (cK (ag ⟨_,rfl, "dict_keyiterator",_,⟨_,ap _ rfl,rfl⟩,el.lookup,?_⟩))))))))
 simpa [rawInt,sz] using q _ rfl
theorem Xy {Q:Option Value->Shared->Prop}(hi:s.heap.IsKeyIter it d i xs.length xs.length)(m:GO kd s.heap d xs)(hx:xs[i]?=some (k,b,v))
  (q:∀h',h'.IsKeyIter it d (i+1) xs.length xs.length->Heap.SameBut it s.heap h'->Q (some (.ref b)) { s with heap:=h' }):wpAny (model prog w) A (pyNext (.ref it)) Q E s:=by
 obtain⟨p,p1,p2,p3⟩:=id hi
 obtain⟨o,es,o1,o2,o3,o4,o5,o6⟩:=id m
 have ty:=hi.typeIs
 have sz:=gs o4
 unfold pyNext
 refine ab (i7 (cx (name:=Str.ofString "__next__") ty el (cE el ty ll ?_ (kX _))))
 refine ab (ag (ab (ab ?_)))
 first | refine ab (fk ty (ag ?_)) | refine ab (hV ty (ag ?_))
 refine ab (mh p1 p3 ?_)
 have own:Builtin.Dict_items.ownsTuple "dict_keyiterator" = false:=by decide
 simp only[own,et,fm]
 show wpAny _ _ (if (Value.ref d == Value.none)=true then _ else _) (λ_ _=>_) _ s
 rw[ax (by intro z;cases z)]
 refine ab (ag (ab (gI o1 o3 ?_)))
 rw[ax (by rw[sz];simp)]
 refine ab (ag (ab (ix o1 o3 ?_)))
 rw[ax (by simp)]
 refine ag ?_
 have lt:i < es.size:=by rw[sz];exact(aS.mp hx).1
 have ek:es[i].key=.ref b:=by
  have z:=entry_at o4 i
  rw[hx,b9 lt] at z
  rw[bo z];rfl
 simp only[show ¬ ((i:Int) < 0) by omega,fm,ft,b9 lt]
 refine ab ?_
 first | refine ab (fk ty (ag ?_)) | refine ab (hV ty (ag ?_))
 refine ab (wpAny_isOneOf_keyiter ty ?_)
 show wpAny _ _ (setField (.ref it) 1 (rawInt ((i:Int)+1)) >>= λ_=>_) _ _ s
 refine ab (kq p1 p3 (by simp) ?_)
 have N4:(s.heap.update it (Obj.mapFields (·.setIfInBounds 1 (rawInt ((i:Int)+1))))).IsKeyIter it d (i+1) xs.length xs.length:=
  ⟨_,cn _ p1 (Obj.isFreed_of_fields (jI p3 _)),(Obj.cls_mapFields ..).trans p2,by rw[jI p3];rfl⟩
 refine ab (cy (ab (wpAny_isOneOf_keyiter (s:={ s with heap:=s.heap.update it (Obj.mapFields (·.setIfInBounds 1 (rawInt ((i:Int)+1)))) }) N4.typeIs ?_)))
 show wpAny _ _ (pure es[i].key) (λ_ _=>_) _ _
 rw[ek]
 exact ag (ag ⟨_,rfl,ag (q _ N4 (ci ..))⟩)
theorem Y7 {Q:Option Value->Shared->Prop}(hh:A.handled=none)(hi:s.heap.IsKeyIter it d i xs.length xs.length)(m:GO kd s.heap d xs)(hx:xs.length<=i)
  (q:∀h',Heap.ExtBut it s.heap h'->Q none { s with heap:=h' }):wpAny (model prog w) A (pyNext (.ref it)) Q E s:=by
 obtain⟨p,p1,p2,p3⟩:=id hi
 obtain⟨o,es,o1,o2,o3,o4,o5,o6⟩:=id m
 have ty:=hi.typeIs
 have sz:=gs o4
 unfold pyNext
 refine ab (i7 (cx (name:=Str.ofString "__next__") ty el (cE el ty ll ?_ (kX _))))
 refine ab (ag (ab (ab ?_)))
 first | refine ab (fk ty (ag ?_)) | refine ab (hV ty (ag ?_))
 refine ab (mh p1 p3 ?_)
 have own:Builtin.Dict_items.ownsTuple "dict_keyiterator" = false:=by decide
 simp only[own,et,fm]
 show wpAny _ _ (if (Value.ref d == Value.none)=true then _ else _) (λ_ _=>_) _ s
 rw[ax (by intro z;cases z)]
 refine ab (ag (ab (gI o1 o3 ?_)))
 rw[ax (by rw[sz];simp)]
 refine ab (ag (ab (ix o1 o3 ?_)))
 rw[ax (by simp)]
 refine ag ?_
 simp only[show ¬ ((i:Int) < 0) by omega,fm,ft,im (show es.size<=i by omega)]
 refine ab ?_
 first | refine ab (fk ty (ag ?_)) | refine ab (hV ty (ag ?_))
 show wpAny _ _ (setField (.ref it) 0 .none >>= λ_=>_) _ _ s
 refine ab (kq p1 p3 (by simp) ?_)
 show wpAny _ _ (newExc (.type "StopIteration") [] >>= λ_=>_) _ _ _
 refine ab ?_
 simp only[newExc,newTuple]
 refine ab (cK (ab (m:=firstArgMember _ _) (oy (a:=Value.none) (by first | rfl | (simp only[firstArgMember];rfl)) (cK ?_ (by size_fits)))) (by size_fits))
 simp only[raiseNew]
 refine ab (pz ?_)
 rw[show A.in1.handled=none by exact hh]
 refine ab (ag (wpAny_throw ?_))
 refine ab (lb (b:=true) (T := "StopIteration") ⟨_,ap _ rfl,rfl⟩ oz ?_)
 exact ag (q _ (((ci ..).extBut.push _).push _))
end
abbrev Key:=Sum Int Str
noncomputable def rW:Key->Value->Bool
 | .inl k,v=>Value.isInt k v
 | .inr x,v=>Value.isStrOf x v
noncomputable def Ut (w:World):Key->Int
 | .inl k=>hashInt k
 | .inr x=>hashStr w x
theorem cL:∀{k:Key}{v:Value},rW k v=true->(∃i t,k=Sum.inl i/\v=Value.int i t)\/(∃x t,k=Sum.inr x/\v=Value.str x t)
 | .inl i,v,h=>by
  obtain⟨t,e⟩:=Value.isInt_shape (k:=i) (v:=v) h
  exact .inl ⟨i,t,rfl,e⟩
 | .inr x,v,h=>by
  obtain⟨t,e⟩:=Value.isStrOf_shape (x:=x) (v:=v) h
  exact .inr ⟨x,t,rfl,e⟩
theorem Km (i:Int)(t:Tok):rW (.inl i) (.int i t)=true:=by simp[rW,Value.isInt]
theorem Ko (x:Str)(t:Tok):rW (.inr x) (.str x t)=true:=by simp[rW,Value.isStrOf]
theorem vD (a b:Int):decide ((Sum.inl a:Key)=Sum.inl b)=(a == b):=by
 by_cases e:a=b
 ·subst e;simp
 ·have h:¬ (Sum.inl a:Key)=Sum.inl b:=λq=>e (Sum.inl.inj q)
  rw[be h]
  exact(dL.mpr e).symm
theorem Kq (a b:Str):decide ((Sum.inr a:Key)=Sum.inr b)=decide (a=b):=by
 by_cases e:a=b
 ·subst e;simp
 ·have h:¬ (Sum.inr a:Key)=Sum.inr b:=λq=>e (qf q)
  rw[be h,be e]
theorem Eh (a:Int)(b:Str):decide ((Sum.inl a:Key)=Sum.inr b)=false:=be (λq=>nomatch q)
theorem Ei (a:Str)(b:Int):decide ((Sum.inr a:Key)=Sum.inl b)=false:=be (λq=>nomatch q)
def ie (prog:Program)(w:World):PySem.KeyKind prog w Key where
 is:=rW
 hash:=Ut w
 inj:=λv a b ha hb=>by
  rcases cL ha with ⟨i,t,rfl,rfl⟩ | ⟨x,t,rfl,rfl⟩
  ·rcases cL hb with ⟨j,u,rfl,e⟩ | ⟨y,u,rfl,e⟩
   ·injection e with e1 _;rw[e1]
   ·exact nomatch e
  ·rcases cL hb with ⟨j,u,rfl,e⟩ | ⟨y,u,rfl,e⟩
   ·exact nomatch e
   ·injection e with e1 _;rw[e1]
 byValue:=λk v h=>by
  rcases cL h with ⟨i,t,rfl,rfl⟩ | ⟨x,t,rfl,rfl⟩ <;> rfl
 pyHash:=λhv h=>by
  rcases cL hv with ⟨i,t,rfl,rfl⟩ | ⟨x,t,rfl,rfl⟩
  ·exact wpAny_pyHash_int h
  ·exact wpAny_pyHash_str h
 eqBool:=λhu hv h=>by
  rcases cL hu with ⟨i,t,rfl,rfl⟩ | ⟨x,t,rfl,rfl⟩
  ·rcases cL hv with ⟨j,u,rfl,rfl⟩ | ⟨y,u,rfl,rfl⟩
   ·rw[vD] at h;exact wpAny_eqBool_int h
   ·rw[Eh] at h;exact ml i t y u _ _ _ _ h
  ·rcases cL hv with ⟨j,u,rfl,rfl⟩ | ⟨y,u,rfl,rfl⟩
   ·rw[Ei] at h;exact mm x t j u _ _ _ _ h
   ·rw[Kq] at h;exact wpAny_eqBool_str h
 «strs»:=λk x t v h=>by
  rcases cL h with ⟨i,u,rfl,e⟩ | ⟨y,u,rfl,e⟩
  ·exact nomatch e
  ·injection e with e1 _
   subst e1
   cases v <;> rfl
noncomputable def vG:Key->Value->Bool
 | .inl k,.bool b=>decide (k=if b=true then 1 else 0)
 | k,v=>rW k v
theorem dq {k:Key}{v:Value}(h:vG k v=true):(∃b,k=Sum.inl (if b=true then 1 else 0)/\v=Value.bool b)\/(∃i t,k=Sum.inl i/\v=Value.int i t)\/(∃x t,k=Sum.inr x/\v=Value.str x t):=by
 unfold vG at h
 split at h
 ·exact .inl ⟨_,c5 _ (kr h),rfl⟩
 ·exact .inr (cL h)
theorem Kr {k:Key}{v:Value}(h:rW k v=true):vG k v=true:=by
 rcases cL h with ⟨i,t,rfl,rfl⟩ | ⟨x,t,rfl,rfl⟩ <;> exact h
theorem Hl (b:Bool):vG (.inl (if b=true then 1 else 0)) (.bool b)=true:=bS rfl
theorem Uu (a b:Bool):decide ((Sum.inl (if a=true then 1 else 0):Key)=Sum.inl (if b=true then 1 else 0))=(a == b):=by
 rw[vD];cases a <;> cases b <;> rfl
variable {w:World}{A:Around}{E:qk}{s:Shared}
theorem Ks {prog:Program}(b:Bool){Q:Int->Shared->Prop}(h:Q (hashInt (if b=true then 1 else 0)) { s with toks:=s.toks+1 }):
  wpAny (model prog w) A (pyHash (.bool b)) Q E s:=by
 refine W.pyHash_slot (s:=s) (T := "bool") (by cases b <;> exact PySem.typeIs_bool s _) PySem.F.slot_bool_hash entry_int_hash (args_int_hash _) (by rw[beq_builtin_none]) (.inl rfl) ?_
 have e:reduceHash (rawHash (if b=true then 1 else 0))=hashInt (if b=true then 1 else 0):=by cases b <;> decide
 show wpAny _ _ (do ret (← mkInt (rawHash (if b=true then 1 else 0)))) _ _ s
 refine eR (wpAny_ret_mkInt (Q:=λv s'=>∃t,v=.int (rawHash (if b=true then 1 else 0)) t/\s'={ s with toks:=s.toks+1 }) ⟨_,rfl,rfl⟩) (λfin s' hq=>?_) λ_ _ x=>x
 obtain⟨v,rfl,t,rfl,rfl⟩:=hq
 exact⟨_,_,rfl,by rw[e];exact h⟩
def cR (prog:Program)(w:World):PySem.KeyKind prog w Key where
 is:=vG
 hash:=Ut w
 inj:=λv a b ha hb=>by
  rcases dq ha with ⟨c,rfl,rfl⟩ | ⟨i,t,rfl,rfl⟩ | ⟨x,t,rfl,rfl⟩ <;> rcases dq hb with ⟨d,rfl,e⟩ | ⟨j,u,rfl,e⟩ | ⟨y,u,rfl,e⟩ <;> cases e <;> rfl
 byValue:=λk v h=>by
  rcases dq h with ⟨c,rfl,rfl⟩ | ⟨i,t,rfl,rfl⟩ | ⟨x,t,rfl,rfl⟩ <;> rfl
 pyHash:=λhv h=>by
  rcases dq hv with ⟨c,rfl,rfl⟩ | ⟨i,t,rfl,rfl⟩ | ⟨x,t,rfl,rfl⟩
  ·exact Ks c h
  ·exact wpAny_pyHash_int h
  ·exact wpAny_pyHash_str h
 eqBool:=λhu hv h=>by
  rcases dq hu with ⟨c,rfl,rfl⟩ | ⟨i,t,rfl,rfl⟩ | ⟨x,t,rfl,rfl⟩
  ·rcases dq hv with ⟨d,rfl,rfl⟩ | ⟨j,u,rfl,rfl⟩ | ⟨y,u,rfl,rfl⟩
   ·rw[Uu] at h;exact SeqAt.EqAt.bool_bool _ _ _ _ _ _ h
   ·rw[vD] at h;exact SeqAt.EqAt.bool_int _ _ _ _ _ _ _ h
   ·rw[Eh] at h;exact SeqAt.EqAt.bool_str _ _ _ _ _ _ _ h
  ·rcases dq hv with ⟨d,rfl,rfl⟩ | ⟨j,u,rfl,rfl⟩ | ⟨y,u,rfl,rfl⟩
   ·rw[vD] at h;exact SeqAt.EqAt.int_bool _ _ _ _ _ _ _ h
   ·rw[vD] at h;exact wpAny_eqBool_int h
   ·rw[Eh] at h;exact ml i t y u _ _ _ _ h
  ·rcases dq hv with ⟨d,rfl,rfl⟩ | ⟨j,u,rfl,rfl⟩ | ⟨y,u,rfl,rfl⟩
   ·rw[Ei] at h;exact SeqAt.EqAt.str_bool _ _ _ _ _ _ _ h
   ·rw[Ei] at h;exact mm x t j u _ _ _ _ h
   ·rw[Kq] at h;exact wpAny_eqBool_str h
 «strs»:=λk x t v h=>by
  rcases dq h with ⟨c,rfl,e⟩ | ⟨i,u,rfl,e⟩ | ⟨y,u,rfl,e⟩
  ·exact nomatch e
  ·exact nomatch e
  ·injection e with e1 _
   subst e1
   cases v <;> rfl
theorem Hm (prog:Program)(w:World)(i:Int)(t:Tok):(ie prog w).is (.inl i) (.int i t)=true:=Km i t
theorem Hn (prog:Program)(w:World)(x:Str)(t:Tok):(ie prog w).is (.inr x) (.str x t)=true:=Ko x t
inductive V where
 | FE | bl (b:Bool) | int (i:Int) | str (x:Str) | Sj (b:Array UInt8) | flt (b:UInt64) | ref (a:Addr) | ty (n:String)
 deriving DecidableEq
def RelV:V->Value->Prop
 | .FE,u=>u=Value.none
 | .bl b,u=>u=Value.bool b
 | .int i,u=>∃t,u=Value.int i t
 | .str x,u=>∃t,u=Value.str x t
 | .Sj b,u=>∃t,u=Value.bytes b t
 | .flt b,u=>∃t,u=Value.float b t
 | .ref a,u=>u=Value.ref a
 | .ty n,u=>u=Value.type n
abbrev Vals:List V->List Value->Prop:=Paired RelV
theorem Vals.length {xs:List V}{us:qv}(r:Vals xs us):xs.length=us.length:=ff r
theorem Vals.get:∀{xs:List V}{us:qv}{i:Nat}{x:V},Vals xs us->xs[i]?=some x->∃u,us[i]?=some u/\RelV x u
 | _,_,_,_,.nil,e=>by simp at e
 | _,_,0,_,.cons r _,e=>by simp at e;subst e;exact⟨_,rfl,r⟩
 | _,_,i+1,x,.cons _ t,e=>by
  obtain⟨u,h1,h2⟩:=Vals.get (i:=i) (x:=x) t (by simpa using e)
  exact⟨u,by simpa using h1,h2⟩
theorem Vals.set {x:V}{u:Value}(r:RelV x u):∀{xs:List V}{us:qv}(i:Nat),Vals xs us->Vals (xs.set i x) (us.set i u)
 | _,_,_,.nil=>.nil
 | _,_,0,.cons _ t=>.cons r t
 | _,_,i+1,.cons q t=>.cons q (Vals.set r i t)
theorem Vals.append:∀{xs ys:List V}{us ws:qv},Vals xs us->Vals ys ws->Vals (xs++ys) (us++ws)
 | _,_,_,_,.nil,s=>s
 | _,_,_,_,.cons r t,s=>.cons r (Vals.append t s)
theorem Vals.take:∀{xs:List V}{us:qv}(n:Nat),Vals xs us->Vals (xs.take n) (us.take n)
 | _,_,0,_=>.nil
 | _,_,_+1,.nil=>.nil
 | _,_,n+1,.cons r t=>.cons r (Vals.take n t)
theorem Vals.drop:∀{xs:List V}{us:qv}(n:Nat),Vals xs us->Vals (xs.drop n) (us.drop n)
 | _,_,0,r=>r
 | _,_,_+1,.nil=>.nil
 | _,_,n+1,.cons _ t=>Vals.drop n t
def JJ:Option V->Option Value->Prop
 | some v,some u=>RelV v u
 | none,none=>True
 | _,_=>False
def KV {κ:Type}:List (κ×V)->List (κ×Value)->Prop:=Paired λ(p:κ×V) (q:κ×Value)=>p.1=q.1/\RelV p.2 q.2
noncomputable def kV:Key->V
 | .inl i=>.int i
 | .inr x=>.str x
inductive HO where
 | lst (xs:List V)
 | tup (xs:List V)
 | dK (kvs:List (Key×V)) | dT (kvs:List (List Key×V))
 | set (S:Int->Bool) (n:Nat)
 | ins (C dx:Addr) (fs:List (Str×V))
 | own (x:Addr)
 | xd (fs:List (Str×V))
 | met (f x:Addr)
 | rng (lo hi:Int)
 | frz (o:Obj) (u:HO)
 | tbl (ps:re)
 | ext (φ:Heap->Prop)
abbrev Hp:=Addr->Option HO
def upd (H:Hp)(a:Addr)(o:HO):Hp:=λb=>if b=a then some o else H b
variable {H:Hp}{a:Addr}
theorem bu {o:HO}:upd H a o a=some o:=by unfold upd;rw[ba rfl]
theorem aO {o:HO}(h:b≠a):upd H a o b=H b:=by unfold upd;rw[ax h]
theorem Q7 {o u:HO}(h:H a=some o)(h':H b=some u)(d:o≠u):a≠b:=by
 intro e;subst e;rw[h] at h';exact d (bo h')
theorem a_ {o:HO}(h:H a=some o)(h':H b=none):a≠b:=by
 intro e;subst e;rw[h] at h';cases h'
def vH (ks:List Key)(vs:List V):Prop:=vs=ks.map kV\/∃x b,ks=[.inr x,.inl (if b=true then 1 else 0)]/\vs=[.str x,.bl b]
abbrev Uv (H:Hp)(b:Addr)(ks:List Key):Prop:=∃vs,H b=some (.tup vs)/\vH ks vs
def RI (K:W.Frag)(a:Addr)(xs:List V):Prop:=∃(o:Obj) (its:re) (n:Nat),K.lookup a=some o/\o.cls=.type "tuple" /\ o.data=.seq its n/\its.size<=sizeLine/\Vals xs its.toList
def IJ (K:W.Frag)(H:Hp)(b:Addr)(ks:List Key):Prop:=Uv H b ks\/∃vs,RI K b vs/\vH ks vs
variable {K:W.Frag}
theorem IJ.keeps {H':Hp}{ks:List Key}(c:IJ K H b ks)(ht:∀b ys,H b=some (.tup ys)->H' b=some (.tup ys)):IJ K H' b ks:=c.imp (λ⟨vs,e,k⟩=>⟨vs,ht _ _ e,k⟩) id
section
variable (P:Program)(w:World)(K:W.Frag)
def FK (H:Hp)(h:Heap)(a:Addr):HO->Prop
 | .lst xs=>xs.length<=sizeLine/\∃(its:qv) (n:Nat),Vals xs its/\h.get? a=some { cls:=.type "list",data:=.seq its.toArray n }
 | .tup xs=>xs.length<=sizeLine/\∃its:List Value,Vals xs its/\IsTup h a its.toArray
 | .dK kvs=>kvs.length<=sizeLine/\(a == sysModules)=false/\∃vs,KV kvs vs/\h.DictOf (ie P w) a vs
 | .dT kvs=>kvs.length<=sizeLine/\(a == sysModules)=false/\∃xs:List (List Key×Addr×Value),
   Paired (λ(p:List Key×V) (q:List Key×Addr×Value)=>p.1=q.1/\IJ K H q.2.1 p.1/\RelV p.2 q.2.2) kvs xs /\
   ∃o es ep,h.get? a=some o/\o.ExactDict/\o.data=.dict es ep/\es.toList=xs.map (entryOfKey (tupleKind (cR P w)))/\(xs.map (·.1)).Nodup/\ep=xs.length
 | .set S n=>h.SetOf (intKind P w) a S n
 | .ins C dx fs=>H dx=some (.own a)/\fs.length<=1000/\dx≠a/\h.get? a=some (W.instObj C dx) /\
   ∃mA,h.Ns1 dx mA/\(∀f,JJ (fs.lookup f) (mA f))/\PySem.Within mA (fs.map (·.1))
 | .own _=>∃o,h.get? a=some o
 | .xd fs=>∃mA,h.Ns1 a mA/\∀f,JJ (fs.lookup f) (mA f)
 | .rng lo hi=>∃t u v,h.get? a=some { cls:=.type "range",data:=.fields #[.int lo t,.int hi u,.int 1 v] }
 | .frz o u=>h.get? a=some o/\FK H h a u
 | .tbl ps=>h.get? a=some { cls:=.none,data:=.fields ps }
 | .met f x=>h.get? a=some (W.methodObj (.ref f) (.ref x))
 | .ext φ=>φ h/\(∃o,h.get? a=some o)/\∀h1 h2:Heap,φ h1->(∀o,h1.get? a=some o->h2.get? a=some o)->φ h2
def KL (H:Hp)(h:Heap):Prop:=∀a o,H a=some o->FK P w K H h a o
end
section
variable {P:Program}{w:World}{K:W.Frag}{H H':Hp}{h h':Heap}{a:Addr}{o:HO}
theorem FK.lt (x:FK P w K H h a o):a < h.objs.size:=by
 cases o with
 | lst xs=>obtain⟨_,_,_,_,e⟩:=x;exact ay e
 | tup xs=>obtain⟨_,_,_,p⟩:=x;exact p.lt
 | dK kvs=>obtain⟨_,_,_,_,o,_,_,e,_⟩:=x;exact ay e
 | dT kvs=>obtain⟨_,_,_,_,o,_,_,e,_⟩:=x;exact ay e
 | set S n=>obtain⟨o,_,_,_,e,_⟩:=x;exact ay e
 | ins C dx fs=>obtain⟨_,_,_,e,_⟩:=x;exact ay e
 | own y=>obtain⟨_,e⟩:=x;exact ay e
 | xd fs=>obtain⟨_,⟨_,_,_,e,_⟩,_⟩:=x;exact ay e
 | rng lo hi=>obtain⟨_,_,_,e⟩:=x;exact ay e
 | frz ob u=>obtain⟨e,_⟩:=x;exact ay e
 | tbl ps=>exact ay (show h.get? a=some _ from x)
 | met f y=>exact ay (show h.get? a=some _ from x)
 | ext φ=>obtain⟨_,⟨_,e⟩,_⟩:=x;exact ay e
theorem Paired.mapP {α β:Type}{F G:α->β->Prop}:∀{l₁:List α}{l₂:List β},Paired F l₁ l₂->(∀a b,F a b->G a b)->Paired G l₁ l₂
 | _,_,.nil,_=>.nil
 | _,_,.cons r t,f=>.cons (f _ _ r) (Paired.mapP t f)
theorem FK.OG (x:FK P w K H h a o)(k:∀b u,(b=a\/H b=some (.own a))->h.get? b=some u->h'.get? b=some u)
  (ho:∀b,H b=some (.own a)->H' b=some (.own a)) (ht:∀b xs,H b=some (.tup xs)->H' b=some (.tup xs)):FK P w K H' h' a o:=by
 induction o with
 | lst xs=>obtain⟨z,its,n,r,e⟩:=x;exact⟨z,its,n,r,k _ _ (.inl rfl) e⟩
 | tup xs=>obtain⟨z,its,r,ob,e,c⟩:=x;exact⟨z,its,r,ob,k _ _ (.inl rfl) e,c⟩
 | dK kvs=>obtain⟨z,y,vs,r,ob,es,ep,e,c⟩:=x;exact⟨z,y,vs,r,ob,es,ep,k _ _ (.inl rfl) e,c⟩
 | dT kvs=>
  obtain⟨z,y,xs,r,ob,es,ep,e,c⟩:=x
  exact⟨z,y,xs,Paired.mapP r λp q z=>⟨z.1,z.2.1.keeps ht,z.2.2⟩,ob,es,ep,k _ _ (.inl rfl) e,c⟩
 | set S n=>obtain⟨ob,es,ep,t,e,c⟩:=x;exact⟨ob,es,ep,t,k _ _ (.inl rfl) e,c⟩
 | ins C dx fs=>
  obtain⟨d,z,ne,e,mA,⟨od,es,ep,e2,c⟩,r⟩:=x
  exact⟨ho _ d,z,ne,k _ _ (.inl rfl) e,mA,⟨od,es,ep,k _ _ (.inr d) e2,c⟩,r⟩
 | own y=>obtain⟨ob,e⟩:=x;exact⟨ob,k _ _ (.inl rfl) e⟩
 | xd fs=>obtain⟨mA,⟨od,es,ep,e,c⟩,r⟩:=x;exact⟨mA,⟨od,es,ep,k _ _ (.inl rfl) e,c⟩,r⟩
 | rng lo hi=>obtain⟨t,u,v,e⟩:=x;exact⟨t,u,v,k _ _ (.inl rfl) e⟩
 | frz ob u ih=>obtain⟨e,q⟩:=x;exact⟨k _ _ (.inl rfl) e,ih q⟩
 | tbl ps=>
  have e:h.get? a=some { cls:=.none,data:=.fields ps }:=x
  show h'.get? a=some { cls:=.none,data:=.fields ps }
  exact k a _ (.inl rfl) e
 | met f y=>
  have e:h.get? a=some (W.methodObj (.ref f) (.ref y)):=x
  show h'.get? a=some (W.methodObj (.ref f) (.ref y))
  exact k a _ (.inl rfl) e
 | ext φ=>obtain⟨p,⟨o,e⟩,st⟩:=x;exact⟨st _ _ p λo q=>k _ _ (.inl rfl) q,⟨o,k _ _ (.inl rfl) e⟩,st⟩
theorem KL.lt (x:KL P w K H h)(e:H a=some o):a < h.objs.size:=(x a o e).lt
theorem KL.fresh (x:KL P w K H h)(e:h.objs.size<=a):H a=none:=by
 cases q:H a with
 | none=>rfl
 | some u=>exact absurd (bE (x.lt q) e) (d5 _)
theorem KL.kept (x:KL P w K H h)(k:∀b u,h.get? b=some u->h'.get? b=some u):KL P w K H h':=λa o e=>
 (x a o e).OG (λb u _ q=>k b u q) (λ_ q=>q) λ_ _ q=>q
theorem KL.laid (x:KL P w K H h)(k:∀b u,h.get? b=some u->h'.get? b=some u)(hp:h.objs.size<=a)(new:FK P w K (upd H a o) h' a o):KL P w K (upd H a o) h':=λb u e=>by
 have hn:=x.fresh hp
 by_cases hb:b=a
 ·subst hb;rw[bu] at e;cases e;exact new
 ·rw[aO hb] at e
  exact(x b u e).OG (λc v _ q=>k c v q) (λc q=>by rw[aO (a_ q hn)];exact q) λc xs q=>by rw[aO (a_ q hn)];exact q
end
def Rd (H:Hp)(a:Addr)(u:HO):Prop:=H a=some u\/∃o,H a=some (.frz o u)
variable {P:Program}
theorem Rd.ok {u:HO}(r:Rd H a u)(x:KL P w K H h):FK P w K H h a u:=by
 rcases r with r | ⟨o,r⟩
 ·exact x a u r
 ·obtain⟨_,q⟩:=x a _ r
  exact q
def Mut:Option HO->Prop
 | some (.lst _)=>True
 | some (.dK _)=>True
 | some (.dT _)=>True
 | some (.set _ _)=>True
 | some (.ins _ _ _)=>True
 | some (.ext _)=>True
 | _=>False
section
variable {P:Program}{w:World}{K:W.Frag}{H:Hp}{h h':Heap}{x e:Addr}{o':HO}
theorem KL.write (ok:KL P w K H h)(mu:Mut (H x))(he:e=x\/H e=some (.own x))(k:∀b u,b≠e->h.get? b=some u->h'.get? b=some u)(heo:∃u,h'.get? e=some u)
  (new:FK P w K (upd H x o') h' x o'):KL P w K (upd H x o') h':=λb u q=>by
 have nown:∀c y,H c=some (.own y)->c≠x:=λc y r z=>by subst z;rw[r] at mu;exact mu
 have ntup:∀c xs,H c=some (.tup xs)->c≠x:=λc xs r z=>by subst z;rw[r] at mu;exact mu
 by_cases hb:b=x
 ·subst hb;rw[bu] at q;cases q;exact new
 ·rw[aO hb] at q
  by_cases hbe:b=e
  ·have q':H b=some (.own x):=by
    rcases he with z | z
    ·exact absurd (hbe.trans z) hb
    ·rw[hbe];exact z
   rw[q] at q';cases q'
   obtain⟨v,hv⟩:=heo
   exact⟨v,by rw[hbe];exact hv⟩
  ·refine(ok b u q).OG (λc v hc r=>k c v ?_ r) (λc r=>by rw[aO (nown c b r)];exact r) λc xs r=>by rw[aO (ntup c xs r)];exact r
   rcases hc with rfl | hc
   ·exact hbe
   ·rintro rfl
    rcases he with z | z
    ·exact nown c b hc z
    ·rw[hc] at z;cases z;exact hb rfl
end
structure Un (fs ex:qV)(H H':Hp)(h h':Heap):Prop where
 keep:∀b o,h.get? b=some o->H b=none->b∉fs->b∉ex->h'.get? b=some o
 slot:∀b o,h.get? b=some o->H b=none->b∈fs->b∉ex->∃sl,h'.get? b=some { o with slots:=sl }
 free:∀b o,h.get? b=some o->H b=none->b∉ex->H' b=none
 there:∀b o,h.get? b=some o->b∉ex->∃o',h'.get? b=some o'
 OH:∀b xs,H b=some (.tup xs)->H' b=some (.tup xs)
 NO:∀b o u,H b=some (.frz o u)->H' b=some (.frz o u)
 OI:∀b ps,H b=some (.tbl ps)->∃more,H' b=some (.tbl (ps++more))
section
variable {fs fs' ex ex':qV}{H H1 H2:Hp}{h h1 h2 h':Heap}{a x e:Addr}{o:HO}
theorem Un.any (u:Un fs ex H H1 h h1){ob:Obj}(q:h.get? b=some ob)(n:H b=none)(hx:b∉ex):∃sl,h1.get? b=some { ob with slots:=sl }:=by
 by_cases hb:b∈fs
 ·exact u.slot b ob q n hb hx
 ·exact⟨ob.slots,u.keep b ob q n hb hx⟩
theorem Un.kept (k:∀b u,h.get? b=some u->h'.get? b=some u):Un fs ex H H h h':=
 ⟨λb ob q _ _ _=>k b ob q,λb ob q _ _ _=>⟨ob.slots,k b ob q⟩,λ_ _ _ n _=>n,λb ob q _=>⟨ob,k b ob q⟩,λ_ _ q=>q,λ_ _ _ q=>q,λ_ ps q=>⟨#[],by rw[q];simp⟩⟩
theorem Un.refl:Un fs ex H H h h:=Un.kept λ_ _ q=>q
theorem Un.laid (k:∀b u,h.get? b=some u->h'.get? b=some u)(hp:h.objs.size<=a)(hn:H a=none):Un fs ex H (upd H a o) h h' where
 keep:=λb u q _ _ _=>k b u q
 slot:=λb u q _ _ _=>⟨u.slots,k b u q⟩
 free:=λb u q n _=>by rw[aO (bt (bE (ay q) hp))];exact n
 there:=λb u q _=>⟨u,k b u q⟩
 OH:=λb xs q=>by rw[aO (a_ q hn)];exact q
 NO:=λb u xs q=>by rw[aO (a_ q hn)];exact q
 OI:=λb ps q=>⟨#[],by rw[aO (a_ q hn),q];simp⟩
theorem Un.write (mu:Mut (H x))(he:e=x\/H e=some (.own x))(k:∀b u,b≠e->h.get? b=some u->h'.get? b=some u)(heo:∃u,h'.get? e=some u):Un fs ex H (upd H x o) h h':=by
 have hx:∀b,H b=none->b≠x:=λb n z=>by subst z;rw[n] at mu;exact mu
 have hb:∀b,H b=none->b≠e:=λb n z=>by
  subst z
  rcases he with r | r
  ·exact hx b n r
  ·rw[n] at r;cases r
 have hm:∀b u,H b=some u->¬ Mut (some u)->b≠x:=λb u q nm z=>by subst z;rw[q] at mu;exact nm mu
 refine⟨λb u q n _ _=>k b u (hb b n) q,λb u q n _ _=>⟨u.slots,k b u (hb b n) q⟩,λb u q n _=>by rw[aO (hx b n)];exact n,λb u q _=>?_,
  λb xs q=>by rw[aO (hm b _ q λz=>z)];exact q,λb u xs q=>by rw[aO (hm b _ q λz=>z)];exact q,λb ps q=>⟨#[],by rw[aO (hm b _ q λz=>z),q];simp⟩⟩
 by_cases hbe:b=e
 ·subst hbe;exact heo
 ·exact⟨u,k b u hbe q⟩
end
noncomputable def trk (h:Heap)(H:Hp):List Addr:=(List.range h.objs.size).filter λa=>(H a).isSome
noncomputable def uF (h:Heap)(H:Hp):Heap:=W.hideAll h (trk h H)
theorem Ku (h:Heap)(H:Hp):(uF h H).objs.size=h.objs.size:=W.hideAll_size _ _
theorem N7 {o:Obj}(e:h.get? b=some o)(n:H b=none):(uF h H).get? b=some o:=
 W.hideAll_get _ e λhm=>by
  have q:(H b).isSome=true:=(gt.mp hm).2
  rw[n] at q;simp at q
theorem Rv {o:Obj}(e:(uF h H).get? b=some o):h.get? b=some o/\H b=none:=by
 have e':h.get? b=some o:=W.of_hideAll (trk h H) e
 refine⟨e',?_⟩
 cases q:H b with
 | none=>rfl
 | some x=>
  have hm:b∈trk h H:=gt.mpr ⟨cq.mpr (ay e'),by simp[q]⟩
  have z:(uF h H).get? b=none:=W.hideAll_none (trk h H) hm
  rw[z] at e;cases e
noncomputable def Rw (g h:Heap)(L:Addr):List (Addr×Obj):=(List.range h.objs.size).filterMap λa=>if a=L\/(g.get? a).isSome=true then none else (h.get? a).map λo=>(a,o)
noncomputable def rest (g h:Heap)(L d:Addr):List (Addr×Obj):=(Rw g h L).filter λp=>decide (p.1≠d)
structure Mod (K:W.Frag)(mg:Str->Option Value)(base:Heap):Prop where
 Po:K.In base
 glob:base.Ns mainGlobals mg
 blt:∃mb,base.Ns builtinsNs mb/\∀x:Str,x ≠ "__name__" -> mb x=bootBuiltins x
 nolimit:base.NoLimit
structure Cx where
 prog:Program
 w:World
 K:W.Frag
 mg:Str->Option Value
 base:Heap
 A:Around
 N:List Str
 s₀:Shared
 H₀:Hp
 env:Env
 outer:List Env
 stack:List Env
 ex:List Addr
 fn:Str->Bool
 calm:Bool
 pn:List (Addr×Obj)
 xe:Value->Shared->Prop
noncomputable def Sm (l:List Env):List Addr:=l.filterMap (·.frame)
abbrev Cx.fs (X:Cx):List Addr:=Sm X.outer
def Sn (sc:Scope)(x:Str):Prop:=sc.names.lookup x=some .local\/sc.names.lookup x=some .cell\/sc.names.lookup x=some .free
def Loc (sc:Scope)(x:Str):Prop:=sc.names.lookup x=some .local\/sc.names.lookup x=some .cell
def Look (env:Env)(h:Heap)(m:Str->Option Value)(x:Str)(u:Value):Prop:=
 (env.kindOf x=some .local/\m x=some u)\/((env.kindOf x=some .cell\/env.kindOf x=some .free)/\∃c,env.cells.lookup x=some c/\h.IsCell c (some u))
structure Cx.Ok (X:Cx):Prop where
 mod:Mod X.K X.mg X.base
 kind:X.env.scope.kind=.function
 glob:X.env.globals=mainGlobals
 blt:X.env.builtins=builtinsNs
 above:X.s₀.heap.objs.size<=X.env.locals
 inj:∀x y c,X.env.cells.lookup x=some c->X.env.cells.lookup y=some c->x=y
 has:∀x,(X.env.kindOf x=some .cell\/X.env.kindOf x=some .free)->∃c,X.env.cells.lookup x=some c
 cab:∀x c,X.fn x=true->X.env.cells.lookup x=some c->X.s₀.heap.objs.size<=c
 hd:X.calm=true->X.A.handled=none
 frames:X.A.frames=some X.stack
 stk:X.stack=X.outer\/(X.stack=X.env::X.outer/\X.env.frame=some X.env.locals)
 exf:∀b∈X.ex,b≠X.env.locals/\∀x c,X.env.cells.lookup x=some c->c≠b
 bs:∀b o,X.base.get? b=some o->X.s₀.heap.get? b=some o/\X.H₀ b=none
 YE:X.base.objs.size<=X.s₀.heap.objs.size
 So:∀b o,X.base.get? b=some o->b∉X.ex
 YI:∀b∈X.ex,b∉X.fs
 MA:X.s₀.heap.FunFrames X.base X.outer
 frf:∀b∈X.fs,X.H₀ b=none
structure Inv (X:Cx)(Fn:qo)(σ:List (Option V))(H:Hp)(s:Shared):Prop where
 ok:X.Ok
 os:s.os=X.s₀.os
 bare:AllBare s.gens
 base:Un X.fs X.ex X.H₀ H X.s₀.heap s.heap
 loc:∃m,s.heap.Ns X.env.locals m/\∀(i:Nat) (x:Str) (v:V),X.N[i]?=some x->σ[i]?=some (some v)->Sn X.env.scope x->∃u,RelV v u/\Look X.env s.heap m x u
 cell:∀x c,X.env.cells.lookup x=some c->∃v,s.heap.IsCell c v
 free:H X.env.locals=none
 JY:∀x c,X.env.cells.lookup x=some c->H c=none
 pin:∀p∈X.pn++Fn,s.heap.get? p.1=some p.2/\H p.1=none/\p.1≠X.env.locals/\p.1∉X.fs/\∀v,p.2.data≠.cell v
 FH:KL X.prog X.w X.K H s.heap
 len:σ.length=X.N.length
variable {x:Str}{u:Value}
section
variable {X:Cx}{Fn:qo}{σ:List (Option V)}{H H':Hp}{s:Shared}{h':Heap}
theorem Cx.Ok.nofr (ok:X.Ok){o:Obj}(e:X.base.get? b=some o):b∉X.fs:=λhb=>by
 have:=(ok.MA.mem hb).1
 rw[e] at this;cases this
theorem Inv.bs (I:Inv X Fn σ H s):∀b o,X.base.get? b=some o->s.heap.get? b=some o/\H b=none:=λb o e=>
 ⟨I.base.keep b o (I.ok.bs b o e).1 (I.ok.bs b o e).2 (I.ok.nofr e) (I.ok.So b o e),I.base.free b o (I.ok.bs b o e).1 (I.ok.bs b o e).2 (I.ok.So b o e)⟩
theorem Inv.bk (I:Inv X Fn σ H s):∀b o,X.base.get? b=some o->s.heap.get? b=some o:=λb o e=>(I.bs b o e).1
theorem Inv.mod (I:Inv X Fn σ H s):Mod X.K X.mg X.base:=I.ok.mod
theorem Inv.HU (I:Inv X Fn σ H s):X.K.In s.heap:=I.ok.mod.Po.keeps I.bk
theorem Inv.nolimit (I:Inv X Fn σ H s):s.heap.NoLimit:=I.ok.mod.nolimit.keeps I.bk
theorem Inv.lt (I:Inv X Fn σ H s):X.env.locals < s.heap.objs.size:=let ⟨_,hn,_⟩:=I.loc;hn.lt
theorem Inv.sz (I:Inv X Fn σ H s):X.s₀.heap.objs.size<=s.heap.objs.size:=cm I.ok.above (kx I.lt)
theorem Inv.nofs (I:Inv X Fn σ H s)(h:s.heap.objs.size<=a):a∉X.fs:=λhb=>by
 obtain⟨_,o,ho,_⟩:=I.ok.MA.mem hb
 exact absurd (bE (ay ho) (cm I.sz h)) (d5 _)
theorem Inv.cne (I:Inv X Fn σ H s):∀x c,X.env.cells.lookup x=some c->c≠X.env.locals:=λx c e z=>by
 obtain⟨v,o,ho,hd⟩:=I.cell x c e
 obtain⟨m,⟨o',es,ep,Sr,hd',_⟩,_⟩:=I.loc
 rw[z,Sr] at ho;cases ho;rw[hd'] at hd;cases hd
theorem Inv.MA (I:Inv X Fn σ H s):s.heap.FunFrames X.base X.outer:=by
 have all:∀(l:List Env),(∀b∈Sm l,b∈X.fs)->X.s₀.heap.FunFrames X.base l->s.heap.FunFrames X.base l:=by
  intro l
  induction l with
  | nil=>intro _ _;trivial
  | cons env r ih=>
   intro hs hl
   obtain⟨hk,⟨L,o,hf,hn,ho,hd⟩,hr⟩:=hl
   have hL:L∈X.fs:=hs L (by unfold Sm;rw[l3,hf];exact am)
   obtain⟨sl,e⟩:=I.base.slot L o ho (I.ok.frf L hL) hL λz=>I.ok.YI L z hL
   exact⟨hk,⟨L,_,hf,hn,e,hd⟩,ih (λb hb=>hs b (by unfold Sm;rw[l3,hf];exact ah _ hb)) hr⟩
 exact all X.outer (λ_ hb=>hb) I.ok.MA
theorem Inv.stack (I:Inv X Fn σ H s):s.heap.FunFrames X.base X.stack:=by
 rcases I.ok.stk with e | ⟨e,hf⟩
 ·rw[e];exact I.MA
 ·rw[e]
  obtain⟨m,hn,_⟩:=I.loc
  refine .cons (by rw[I.ok.kind];decide) hf hn ?_ I.MA
  exact Heap.get?_none_of_le (cm I.ok.YE I.ok.above)
theorem Inv.NR (I:Inv X Fn σ H s):∀b∈Sm X.stack,b∈X.env.locals::X.fs:=λb hb=>by
 rcases I.ok.stk with e | ⟨e,hf⟩
 ·rw[e] at hb;exact ah _ hb
 ·rw[e] at hb
  unfold Sm at hb
  rw[l3,hf] at hb
  exact hb
theorem Inv.Qr (I:Inv X Fn σ H s):∀b∈Sm X.stack,H b=none:=λb hb=>by
 rcases aI.mp (I.NR b hb) with e | hb
 ·rw[e];exact I.free
 ·obtain⟨_,o,ho,_⟩:=I.ok.MA.mem hb
  exact I.base.free b o ho (I.ok.frf b hb) λz=>I.ok.YI b z hb
theorem Inv.step {g':Array GenState}{t':Nat}{d':Drawn}{ch:qV}(I:Inv X Fn σ H s)
  (Pp:∀b∈ch,(b∈X.ex\/X.s₀.heap.objs.size<=b)/\b≠X.env.locals/\(∀x c,X.env.cells.lookup x=some c->c≠b)/\∀p∈X.pn++Fn,p.1≠b)
  (keep:∀b o,b≠X.env.locals->b∉X.fs->b∉ch->s.heap.get? b=some o->H b=none->h'.get? b=some o)
  (slot:∀b o,b≠X.env.locals->b∈X.fs->b∉ch->s.heap.get? b=some o->H b=none->∃sl,h'.get? b=some { o with slots:=sl }) (free:∀b o,b∉ch->s.heap.get? b=some o->H b=none->H' b=none)
  (there:∀b o,b∉ch->s.heap.get? b=some o->∃o',h'.get? b=some o')
  (OH:∀b xs,H b=some (.tup xs)->H' b=some (.tup xs)) (NO:∀b o u,H b=some (.frz o u)->H' b=some (.frz o u)) (OI:∀b ps,H b=some (.tbl ps)->∃more,H' b=some (.tbl (ps++more)))
  (ns:∀m,s.heap.Ns X.env.locals m->h'.Ns X.env.locals m) (FH:KL X.prog X.w X.K H' h') (hg:AllBare g'):
  Inv X Fn σ H' { s with heap:=h',gens:=g',drawn:=d',toks:=t' }:=by
 have neL:∀b o,X.s₀.heap.get? b=some o->b≠X.env.locals:=λb o e=>bt (bE (ay e) I.ok.above)
 have neC:∀b o,X.s₀.heap.get? b=some o->b∉X.ex->b∉ch:=λb o e hx hb=>by
  rcases(Pp b hb).1 with z | z
  ·exact hx z
  ·exact absurd (bE (ay e) z) (d5 _)
 have cellK:∀x c,X.env.cells.lookup x=some c->∀v,s.heap.IsCell c v->h'.IsCell c v:=by
  rintro x c e v ⟨o,ho,hd⟩
  have Sz:c∉ch:=λz=>(Pp c z).2.2.1 x c e rfl
  by_cases hc:c∈X.fs
  ·obtain⟨sl,q⟩:=slot c o (I.cne x c e) hc Sz ho (I.JY x c e)
   exact⟨_,q,hd⟩
  ·exact⟨o,keep c o (I.cne x c e) hc Sz ho (I.JY x c e),hd⟩
 refine⟨I.ok,I.os,hg,⟨λb o e n hb hx=>?_,λb o e n hb hx=>?_,λb o e n hx=>?_,λb o e hx=>?_,λb xs e=>OH b xs (I.base.OH b xs e),λb o xs e=>NO b o xs (I.base.NO b o xs e),λb ps e=>?_⟩,?_,λx c e=>?_,?_,λx c e=>?_,λp hp=>?_,FH,I.len⟩
 ·exact keep b o (neL b o e) hb (neC b o e hx) (I.base.keep b o e n hb hx) (I.base.free b o e n hx)
 ·obtain⟨sl,e1⟩:=I.base.slot b o e n hb hx
  obtain⟨sl',e2⟩:=slot b _ (neL b o e) hb (neC b o e hx) e1 (I.base.free b o e n hx)
  exact⟨sl',e2⟩
 ·obtain⟨o',e1⟩:=I.base.there b o e hx
  exact free b o' (neC b o e hx) e1 (I.base.free b o e n hx)
 ·obtain⟨o',e1⟩:=I.base.there b o e hx
  exact there b o' (neC b o e hx) e1
 ·obtain⟨m1,e1⟩:=I.base.OI b ps e
  obtain⟨m2,e2⟩:=OI b _ e1
  exact⟨m1++m2,by rw[e2,Array.append_assoc]⟩
 ·obtain⟨m,hn,hl⟩:=I.loc
  refine⟨m,ns m hn,λi x v e1 e2 e3=>?_⟩
  obtain⟨u,r,l⟩:=hl i x v e1 e2 e3
  refine⟨u,r,?_⟩
  rcases l with l | ⟨k,c,e,z⟩
  ·exact .inl l
  ·exact .inr ⟨k,c,e,cellK x c e _ z⟩
 ·obtain⟨v,z⟩:=I.cell x c e
  exact⟨v,cellK x c e v z⟩
 ·obtain⟨m,⟨o,_,_,ho,_⟩,_⟩:=I.loc
  exact free _ o (λz=>(Pp _ z).2.1 rfl) ho I.free
 ·obtain⟨v,o,ho,hd⟩:=I.cell x c e
  exact free c o (λz=>(Pp c z).2.2.1 x c e rfl) ho (I.JY x c e)
 ·obtain⟨e,n,ne,nf,d⟩:=I.pin p hp
  have Sz:p.1∉ch:=λz=>(Pp p.1 z).2.2.2 p hp rfl
  exact⟨keep p.1 p.2 ne nf Sz e n,free p.1 p.2 Sz e n,ne,nf,d⟩
theorem Inv.un {t':Nat}(I:Inv X Fn σ H s)(u:Un X.fs [] H H' s.heap h')(FH:KL X.prog X.w X.K H' h'):Inv X Fn σ H' { s with heap:=h',toks:=t' }:=by
 obtain⟨m,⟨o,es,ep,ho,r⟩,_⟩:=id I.loc
 obtain⟨sl,hL⟩:=u.any ho I.free (by simp)
 exact I.step (g':=s.gens) (d':=s.drawn) (ch:=[]) (λ_ z=>nomatch z) (λb o _ hb _ e n=>u.keep b o e n hb (by simp)) (λb o _ hb _ e n=>u.slot b o e n hb (by simp)) (λb o _ e n=>u.free b o e n (by simp)) (λb o _ e=>u.there b o e (by simp)) u.OH u.NO u.OI (λm' hm=>by
  obtain⟨o',es',ep',Sr,r'⟩:=hm
  rw[ho] at Sr;cases Sr
  exact⟨_,es',ep',hL,r'⟩) FH I.bare
theorem Inv.call {g':Array GenState}{t':Nat}{d':Drawn}{ch:qV}(I:Inv X Fn σ H s)(u:Un (Sm X.stack) ch H H' s.heap h')(FH:KL X.prog X.w X.K H' h')(hg:AllBare g')
  (Pp:∀b∈ch,(b∈X.ex\/X.s₀.heap.objs.size<=b)/\b≠X.env.locals/\(∀x c,X.env.cells.lookup x=some c->c≠b)/\∀p∈X.pn++Fn,p.1≠b):
  Inv X Fn σ H' { s with heap:=h',gens:=g',drawn:=d',toks:=t' }:=by
 obtain⟨m,⟨o,es,ep,ho,r⟩,_⟩:=id I.loc
 obtain⟨sl,hL⟩:=u.any ho I.free λz=>(Pp _ z).2.1 rfl
 exact I.step (ch:=ch) Pp (λb o hL hb hc e n=>u.keep b o e n (λz=>(aI.mp (I.NR b z)).elim hL hb) hc) (λb o _ _ hc e n=>u.any e n hc) (λb o hc e n=>u.free b o e n hc) (λb o hc e=>u.there b o e hc) u.OH u.NO u.OI (λm' hm=>by
  obtain⟨o',es',ep',Sr,r'⟩:=hm
  rw[ho] at Sr;cases Sr
  exact⟨_,es',ep',hL,r'⟩) FH hg
theorem Inv.turned {t':Nat}{it:Addr}(I:Inv X Fn σ H s)(k:∀b o,b≠it->s.heap.get? b=some o->h'.get? b=some o)(hn:H it=none)(hL:it≠X.env.locals)
  (h1:it∈X.ex\/X.s₀.heap.objs.size<=it) (h2:∀x c,X.env.cells.lookup x=some c->c≠it) (h3:∀p∈X.pn++Fn,p.1≠it):Inv X Fn σ H { s with heap:=h',toks:=t' }:=by
 have nit:∀b u,H b=some u->b≠it:=λb u e z=>by rw[z,hn] at e;cases e
 refine I.step (g':=s.gens) (d':=s.drawn) (ch:=[it]) (λb hb=>?_) (λb o _ _ hc e _=>k b o (λz=>hc (by simp[z])) e) (λb o _ _ hc e _=>⟨o.slots,k b o (λz=>hc (by simp[z])) e⟩) (λ_ _ _ _ n=>n)
  (λb o hc e=>⟨o,k b o (λz=>hc (by simp[z])) e⟩) (λ_ _ e=>e) (λ_ _ _ e=>e) (λb ps e=>⟨#[],by rw[e];simp⟩) (λm hm=>?_) (λb u e=>?_) I.bare
 ·have e:b=it:=by simpa using hb
  subst e
  exact⟨h1,hL,h2,h3⟩
 ·obtain⟨o,es,ep,ho,r⟩:=hm
  exact⟨o,es,ep,k _ o (fg hL) ho,r⟩
 ·refine(I.FH b u e).OG (λc v hc q=>k c v ?_ q) (λ_ q=>q) λ_ _ q=>q
  rcases hc with z | z
  ·rw[z];exact nit b u e
  ·exact nit c _ z
theorem Inv.tok (I:Inv X Fn σ H s)(t:Nat):Inv X Fn σ H { s with toks:=t }:=I.un (h':=s.heap) (t':=t) Un.refl I.FH
theorem Inv.kept {t':Nat}(I:Inv X Fn σ H s)(k:∀b u,s.heap.get? b=some u->h'.get? b=some u):Inv X Fn σ H { s with heap:=h',toks:=t' }:=I.un (Un.kept k) (I.FH.kept k)
theorem Inv.laid {a:Addr}{o:HO}{t':Nat}(I:Inv X Fn σ H s)(k:∀b u,s.heap.get? b=some u->h'.get? b=some u)(hp:s.heap.objs.size<=a)(new:FK X.prog X.w X.K (upd H a o) h' a o):
  Inv X Fn σ (upd H a o) { s with heap:=h',toks:=t' }:=I.un (Un.laid k hp (I.FH.fresh hp)) (I.FH.laid k hp new)
theorem Inv.write {x e:Addr}{o:HO}{t':Nat}(I:Inv X Fn σ H s)(mu:Mut (H x))(he:e=x\/H e=some (.own x))(k:∀b u,b≠e->s.heap.get? b=some u->h'.get? b=some u)(heo:∃u,h'.get? e=some u)
  (new:FK X.prog X.w X.K (upd H x o) h' x o):Inv X Fn σ (upd H x o) { s with heap:=h',toks:=t' }:=I.un (Un.write mu he k heo) (I.FH.write mu he k heo new)
theorem Inv.weak {σ':List (Option V)}(I:Inv X Fn σ H s)(hl:σ'.length=σ.length)(w:∀(i:Nat) v,σ'[i]?=some (some v)->σ[i]?=some (some v)):Inv X Fn σ' H s:=
 ⟨I.ok,I.os,I.bare,I.base,let ⟨m,hn,MH⟩:=I.loc;⟨m,hn,λi x v e1 e2 e3=>MH i x v e1 (w i v e2) e3⟩,I.cell,I.free,I.JY,I.pin,I.FH,hl.trans I.len⟩
theorem Inv.QA {pins':qo}(I:Inv X Fn σ H s)(h:∀p∈pins',s.heap.get? p.1=some p.2/\H p.1=none/\p.1≠X.env.locals/\p.1∉X.fs/\∀v,p.2.data≠.cell v):Inv X pins' σ H s:=
 ⟨I.ok,I.os,I.bare,I.base,I.loc,I.cell,I.free,I.JY,λp hp=>(bv.mp hp).elim (λz=>I.pin p (gL _ z)) (h p),I.FH,I.len⟩
theorem Ej {N:qE}(hN:N.Nodup){j:Nat}(a:N[i]?=some x)(b:N[j]?=some x):i=j:=by
 obtain⟨h1,e1⟩:=aS.mp a
 obtain⟨h2,e2⟩:=aS.mp b
 exact(List.getElem_inj hN).mp (e1.trans e2.symm)
theorem Bw {M:Model}{v:V}(I:Inv X Fn σ H s)(hN:X.N.Nodup)(hi:X.N[i]?=some x)(hx:Loc X.env.scope x)(r:RelV v u)
  (h:∀s',Inv X Fn (σ.set i (some v)) H s'->(∃a,Heap.SameBut a s.heap s'.heap/\(a=X.env.locals\/X.env.cells.lookup x=some a))->Q () s') (hf:autoParam (X.fn x=true\/X.env.scope.names.lookup x=some .local) r3_):wpAny M A (storeName X.env x u) Q E s:=by
 obtain⟨m,hn,hl⟩:=id I.loc
 have hcls:(X.env.scope.kind == .class||(X.env.scope.kind == .module&&X.env.locals != X.env.globals))=false:=by rw[I.ok.kind];rfl
 have hiσ:i < σ.length:=by rw[I.len];exact(aS.mp hi).1
 have cne:=I.cne
 have tracked:∀{a:Addr}{h':Heap},(∃o,s.heap.get? a=some o/\H a=none)->Heap.SameBut a s.heap h'->KL X.prog X.w X.K H h':=λ{a h'} ha hs b ob e=>by
  obtain⟨_,_,hfree⟩:=ha
  refine(I.FH b ob e).OG (λc w' hc q=>(hs.2 c ?_).trans q) (λ_ q=>q) λ_ _ q=>q
  rintro rfl
  rcases hc with rfl | hc
  ·rw[hfree] at e;cases e
  ·rw[hfree] at hc;cases hc
 rcases hx with hk | hk
 ·refine wpAny_storeName_local hk hn (λh' hn' hs=>?_) hcls
  obtain⟨oL,_,_,hoL,_⟩:=id hn
  refine h _ ⟨I.ok,I.os,I.bare,⟨λb o e n hb hx=>?_,λb o e n hb hx=>?_,I.base.free,λb o e hx=>?_,I.base.OH,I.base.NO,I.base.OI⟩,⟨_,hn',λj y v' e1 e2 e3=>?_⟩,λy c e=>?_,I.free,I.JY,λp hp=>?_,tracked ⟨oL,hoL,I.free⟩ hs,by simpa using I.len⟩ ⟨_,hs,.inl rfl⟩
  ·exact(hs.2 b (bt (bE (ay e) I.ok.above))).trans (I.base.keep b o e n hb hx)
  ·obtain⟨sl,e1⟩:=I.base.slot b o e n hb hx
   exact⟨sl,(hs.2 b (bt (bE (ay e) I.ok.above))).trans e1⟩
  ·obtain⟨o',e1⟩:=I.base.there b o e hx
   exact⟨o',(hs.2 b (bt (bE (ay e) I.ok.above))).trans e1⟩
  ·by_cases hj:j=i
   ·subst hj
    rw[hi] at e1;cases e1
    rw[eC hiσ] at e2
    cases e2
    exact⟨u,r,.inl ⟨hk,by simp⟩⟩
   ·rw[br (fg hj)] at e2
    obtain⟨u',r',q⟩:=hl j y v' e1 e2 e3
    refine⟨u',r',?_⟩
    rcases q with ⟨k,e⟩ | ⟨k,c,e,z⟩
    ·refine .inl ⟨k,?_⟩
     have:y≠x:=λe=>hj (Ej hN e1 (e▸hi))
     simp[this,e]
    ·exact .inr ⟨k,c,e,z.sameBut hs (cne y c e)⟩
  ·obtain⟨w',z⟩:=I.cell y c e
   exact⟨w',z.sameBut hs (cne y c e)⟩
  ·obtain⟨e,n,ne,nf,d⟩:=I.pin p hp
   exact⟨(hs.2 p.1 ne).trans e,n,ne,nf,d⟩
 ·have hfn:X.fn x=true:=by
   rcases hf with z | z
   ·exact z
   ·rw[z] at hk;cases hk
  obtain⟨c,hc⟩:=I.ok.has x (.inl hk)
  obtain⟨w',z⟩:=I.cell x c hc
  refine wpAny_storeName_cell I.ok.kind hk hc z (λh' hc' hs=>?_)
  obtain⟨oc,hoc,hocd⟩:=id z
  refine h { s with heap:=h' } ⟨I.ok,I.os,I.bare,⟨λb o e n hb hx=>?_,λb o e n hb hx=>?_,I.base.free,λb o e hx=>?_,I.base.OH,I.base.NO,I.base.OI⟩,⟨m,hn.sameBut hs (fg (cne x c hc)),λj y v' e1 e2 e3=>?_⟩,λy c' e=>?_,I.free,I.JY,λp hp=>?_,tracked ⟨oc,hoc,I.JY x c hc⟩ hs,by simpa using I.len⟩ ⟨c,hs,.inr hc⟩
  ·exact(hs.2 b (bt (bE (ay e) (I.ok.cab x c hfn hc)))).trans (I.base.keep b o e n hb hx)
  ·obtain⟨sl,e1⟩:=I.base.slot b o e n hb hx
   exact⟨sl,(hs.2 b (bt (bE (ay e) (I.ok.cab x c hfn hc)))).trans e1⟩
  ·obtain⟨o',e1⟩:=I.base.there b o e hx
   exact⟨o',(hs.2 b (bt (bE (ay e) (I.ok.cab x c hfn hc)))).trans e1⟩
  ·by_cases hj:j=i
   ·subst hj
    rw[hi] at e1;cases e1
    rw[eC hiσ] at e2
    cases e2
    exact⟨u,r,.inr ⟨.inl hk,c,hc,hc'⟩⟩
   ·rw[br (fg hj)] at e2
    obtain⟨u',r',q⟩:=hl j y v' e1 e2 e3
    refine⟨u',r',?_⟩
    rcases q with q | ⟨k,c',e,z'⟩
    ·exact .inl q
    ·refine .inr ⟨k,c',e,z'.sameBut hs ?_⟩
     rintro rfl
     exact hj (Ej hN e1 (I.ok.inj _ _ _ e hc▸hi))
  ·by_cases Sk:c'=c
   ·subst Sk;exact⟨_,hc'⟩
   ·obtain⟨w2,z2⟩:=I.cell y c' e
    exact⟨w2,z2.sameBut hs Sk⟩
  ·obtain⟨e,n,ne,nf,d⟩:=I.pin p hp
   refine⟨(hs.2 p.1 ?_).trans e,n,ne,nf,d⟩
   intro q
   rw[q,hoc] at e
   have q':oc=p.2:=bo e
   exact d w' (by rw[← q'];exact hocd)
theorem Ek {M:Model}{v:V}(I:Inv X Fn σ H s)(hN:X.N.Nodup)(hi:X.N[i]?=some x)(hx:Loc X.env.scope x)(r:RelV v u)
  (h:∀s',Inv X Fn (σ.set i (some v)) H s'->Q () s') (hf:autoParam (X.fn x=true\/X.env.scope.names.lookup x=some .local) r3_):wpAny M A (storeName X.env x u) Q E s:=
 Bw I hN hi hx r (λs' I' _=>h s' I') hf
theorem Inv.call' {s':Shared}{ch:qV}(I:Inv X Fn σ H s)(ho:s'.os=s.os)(u:Un (Sm X.stack) ch H H' s.heap s'.heap)(FH:KL X.prog X.w X.K H' s'.heap)(hg:AllBare s'.gens)
  (Pp:∀b∈ch,(b∈X.ex\/X.s₀.heap.objs.size<=b)/\b≠X.env.locals/\(∀x c,X.env.cells.lookup x=some c->c≠b)/\∀p∈X.pn++Fn,p.1≠b):Inv X Fn σ H' s':=by
 obtain⟨h',g',d',t',o'⟩:=s'
 have e:o'=s.os:=ho
 subst e
 exact I.call (g':=g') (t':=t') (d':=d') u FH hg Pp
end
abbrev XK:=Value->Option Addr->Hp->Prop
abbrev St:=List (Option V)
abbrev VK:=V->Hp->Prop
abbrev TE:=St->Hp->VK->Prop
abbrev TT:=St->Hp->(Bool->Hp->Prop)->Prop
abbrev TA:=St->Hp->(List V->Hp->Prop)->Prop
structure Ends where
 nx:St->Hp->Prop
 rt:VK
 bk:St->Hp->Prop:=λ_ _=>False
 ct:St->Hp->Prop:=λ_ _=>False
abbrev TS:=Ends->St->Hp->Prop
def EP (X:Cx)(Fn:qo)(σ:St)(Q:VK)(u:Value)(s':Shared):Prop:=∃v H',Inv X Fn σ H' s'/\RelV v u/\Q v H'
def TP (X:Cx)(Fn:qo)(σ:St)(Q:Bool->Hp->Prop)(b:Bool)(s':Shared):Prop:=∃H',Inv X Fn σ H' s'/\Q b H'
def AP (X:Cx)(Fn:qo)(σ:St)(Q:List V->Hp->Prop)(us:qv)(s':Shared):Prop:=∃vs H',Inv X Fn σ H' s'/\Vals vs us/\Q vs H'
def SP (X:Cx)(Fn:qo)(D:Ends)(f:Flow)(s':Shared):Prop:=
 match f with
 | .next=>∃ σ' H',Inv X Fn σ' H' s'/\D.nx σ' H'
 | .brk=>∃ σ' H',Inv X Fn σ' H' s'/\D.bk σ' H'
 | .cont=>∃ σ' H',Inv X Fn σ' H' s'/\D.ct σ' H'
 | .ret u=>∃v σ' H',Inv X Fn σ' H' s'/\RelV v u/\D.rt v H'
def PE (X:Cx)(e:Expr)(t:TE):Prop:=
 ∀(Fn:qo) (s:Shared) (σ:St) (H:Hp) (Q:VK),Inv X Fn σ H s->t σ H Q->wpAny (model X.prog X.w) X.A (eval e X.env) (EP X Fn σ Q) X.xe s
def PT (X:Cx)(e:Expr)(t:TT):Prop:=
 ∀(Fn:qo) (s:Shared) (σ:St) (H:Hp) (Q:Bool->Hp->Prop),Inv X Fn σ H s->t σ H Q->wpAny (model X.prog X.w) X.A (isTrue e X.env (eval e X.env)) (TP X Fn σ Q) X.xe s
def PW (X:Cx)(e:Expr)(t:TT):Prop:=
 ∀(whole:Sem Value) (Fn:qo) (s:Shared) (σ:St) (H:Hp) (Q:Bool->Hp->Prop),Inv X Fn σ H s->t σ H Q->wpAny (model X.prog X.w) X.A (isTrue e X.env whole) (TP X Fn σ Q) X.xe s
def PA (X:Cx)(es:qB)(t:TA):Prop:=
 ∀(pos:Pos) (Fn:qo) (s:Shared) (σ:St) (H:Hp) (Q:List V->Hp->Prop),Inv X Fn σ H s->t σ H Q->wpAny (model X.prog X.w) X.A (spliced (backTo pos (starEach es X.env))) (AP X Fn σ Q) X.xe s
def PS (X:Cx)(st:Stmt)(t:TS):Prop:=
 ∀(Fn:qo) (s:Shared) (σ:St) (H:Hp) (D:Ends),Inv X Fn σ H s->t D σ H->wpAny (model X.prog X.w) X.A (exec st X.env) (SP X Fn D) X.xe s
def MW (X:Cx)(st:qA)(t:TS):Prop:=
 ∀(Fn:qo) (s:Shared) (σ:St) (H:Hp) (D:Ends),Inv X Fn σ H s->t D σ H->wpAny (model X.prog X.w) X.A (execs st X.env) (SP X Fn D) X.xe s
theorem FX {α:Type}{t:Sem α}{Q Q':α->Shared->Prop}{M:Model}(h:wpAny M A t Q E s)(hQ:∀a s,Q a s->Q' a s):wpAny M A t Q' E s:=eR h hQ λ_ _ x=>x
variable {pos:Pos}{Fn:qo}{σ:St}
section
variable {X:Cx}
def Uw (i:Nat):TE:=fun σ H Q=>∃v,σ[i]?=some (some v)/\Q v H
def tC (v:V):TE:=λ_ H Q=>Q v H
theorem k_ (hN:X.N[i]?=some x)(hv:Sn X.env.scope x)(hd:autoParam ((x == ("__debug__" : Str))=false) r1_)(LH:autoParam ((x == ("__classdict__" : Str))=false) r1_):PE X (.Name x pos) (Uw i):=by
 intro Fn s σ H Q I h
 obtain⟨v,e,h⟩:=h
 obtain⟨m,hn,hl⟩:=I.loc
 obtain⟨u,r,l⟩:=hl i x v hN e hv
 have fin:EP X Fn σ Q u s:=⟨v,H,I,r,h⟩
 rcases l with ⟨hk,hm⟩ | ⟨hk,c,hc,QE⟩
 ·exact wpAny_Name (wpAny_loadName_local I.ok.kind hk hn hm fin) hd
 ·rcases hk with hk | hk
  ·exact wpAny_Name (wpAny_loadName_cell I.ok.kind hk hc QE fin) hd
  ·exact wpAny_Name (wpAny_loadName_free I.ok.kind hk hc QE fin LH) hd
theorem Ux {i j pos}:PE X (.Constant (.int i) j pos) (tC (.int i)):=λ_ _ _ H _ I h=>wpAny_Constant_int ⟨.int i,H,I.tok _,⟨_,rfl⟩,h⟩
theorem Xz {b j pos}:PE X (.Constant (.bool b) j pos) (tC (.bl b)):=λ_ _ _ H _ I h=>Constant_bool ⟨.bl b,H,I,rfl,h⟩
theorem Uy {j pos}:PE X (.Constant .none j pos) (tC .FE):=λ_ _ _ H _ I h=>Constant_none ⟨.FE,H,I,rfl,h⟩
theorem Uz {x j pos}:PE X (.Constant (.str x) j pos) (tC (.str x)):=λ_ _ _ H _ I h=>Calls.Constant_str ⟨.str x,H,I.tok _,⟨_,rfl⟩,h⟩
def Gl (X:Cx)(x:Str):Prop:=X.env.kindOf x=some .globalImplicit
theorem Af {Q:qk}(I:Inv X Fn σ H s)(hg:Gl X x)(hm:X.mg x=some u)(h:Q u s)
  (hd:autoParam ((x == ("__debug__" : Str))=false) r1_):wpAny (model X.prog X.w) X.A (eval (.Name x pos) X.env) Q E s:=
 mr I.ok.kind hg (Calls.loadGlobal_global (by rw[I.ok.glob];exact I.mod.glob.keeps I.bk) hm h) hd
theorem gK {Q:qk}(I:Inv X Fn σ H s)(hg:Gl X x)(hm:X.mg x=none)(hv:bootBuiltins x=some u)(h:Q u s)
  (hn:x ≠ "__name__" := by decide) (hd:autoParam ((x == ("__debug__" : Str))=false) r1_):wpAny (model X.prog X.w) X.A (eval (.Name x pos) X.env) Q E s:=by
 obtain⟨mb,h1,h2⟩:=I.mod.blt
 exact mr I.ok.kind hg (Calls.loadGlobal_builtin (by rw[I.ok.glob];exact I.mod.glob.keeps I.bk) hm (by rw[I.ok.blt];exact h1.keeps I.bk) ((h2 x hn).trans hv) h) hd
theorem Ag {v:V}(hg:Gl X x)(hm:X.mg x=some u)(r:RelV v u)(hd:autoParam ((x == ("__debug__" : Str))=false) r1_):PE X (.Name x pos) (tC v):=
 λ_ _ _ H _ I h=>Af I hg hm ⟨v,H,I,r,h⟩ hd
theorem Rx {v:V}(hg:Gl X x)(hm:X.mg x=none)(hv:bootBuiltins x=some u)(r:RelV v u)(hn:x ≠ "__name__" := by decide)(hd:autoParam ((x == ("__debug__" : Str))=false) r1_):PE X (.Name x pos) (tC v):=
 λ_ _ _ H _ I h=>gK I hg hm hv ⟨v,H,I,r,h⟩ hn hd
variable {a b:Expr}{ta tb:TE}{pos:Pos}
def tB (t:TE):TT:=fun σ H Q=>t σ H λx H1=>∃c,x=.bl c/\Q c H1
theorem UG {e:Expr}{t:TE}(h:PE X e t)(he:autoParam (∀whole,isTrue e X.env whole=(do let v ← whole;standAt e.pos;holding [v] (truthy v))) r4_):PT X e (tB t):=by
 intro Fn s σ H Q I hw
 refine isTrue_plain (FX (h Fn s σ H _ I hw) ?_) (he _)
 rintro v s1 ⟨x,H1,I1,r1,q1⟩
 obtain⟨d,rfl,q⟩:=q1
 cases r1
 exact eD ⟨H1,I1,q⟩
variable {tA tB':TT}{rest:qB}
def Y8 (t u:TT):TT:=fun σ H Q=>t σ H λc H1=>if c=true then u σ H1 Q else Q false H1
def tOr (t u:TT):TT:=fun σ H Q=>t σ H λc H1=>if c=true then Q true H1 else u σ H1 Q
def Y9 (t:TT):TT:=fun σ H Q=>t σ H λc H1=>Q (!c) H1
theorem Ry (ha:PT X a tA):PW X (.BoolOp .And [a] pos) tA:=by
 intro wh Fn s σ H Q I h
 refine isTrue_and (FX (ha Fn s σ H Q I h) λc s1 e=>?_)
 cases c with
 | true=>exact isTrue_and_nil e
 | false=>exact e
theorem UJ (ha:PT X a tA):PW X (.BoolOp .Or [a] pos) tA:=by
 intro wh Fn s σ H Q I h
 refine isTrue_or (FX (ha Fn s σ H Q I h) λc s1 e=>?_)
 cases c with
 | false=>exact isTrue_or_nil e
 | true=>exact e
theorem UL (ha:PT X a tA)(hb:PW X (.BoolOp .And (b::rest) pos) tB'):PW X (.BoolOp .And (a::b::rest) pos) (Y8 tA tB'):=by
 intro wh Fn s σ H Q I h
 refine isTrue_and (FX (ha Fn s σ H _ I h) ?_)
 rintro c s1 ⟨H1,I1,q1⟩
 cases c with
 | true=>exact hb wh Fn s1 σ H1 Q I1 q1
 | false=>exact⟨H1,I1,q1⟩
theorem XC (ha:PT X a tA)(hb:PW X (.BoolOp .Or (b::rest) pos) tB'):PW X (.BoolOp .Or (a::b::rest) pos) (tOr tA tB'):=by
 intro wh Fn s σ H Q I h
 refine isTrue_or (FX (ha Fn s σ H _ I h) ?_)
 rintro c s1 ⟨H1,I1,q1⟩
 cases c with
 | true=>exact⟨H1,I1,q1⟩
 | false=>exact hb wh Fn s1 σ H1 Q I1 q1
theorem UT (ha:PT X a tA):PT X (.UnaryOp .Not a pos) (Y9 tA):=by
 intro Fn s σ H Q I h
 exact isTrue_not (ha Fn s σ H (λc H1=>Q (!c) H1) I h)
def XD (ta tb:TE):TE:=fun σ H Q=>ta σ H λx H1=>∃c,x=.bl c/\if c=true then tb σ H1 Q else Q (.bl false) H1
def Y_ (ta tb:TE):TE:=fun σ H Q=>ta σ H λx H1=>∃c,x=.bl c/\if c=true then Q (.bl true) H1 else tb σ H1 Q
theorem UV {op}{t:TE}(h:PE X a t):PE X (.BoolOp op [a] pos) t:=λFn s σ H Q I hw=>BoolOp_one (h Fn s σ H Q I hw)
theorem UW (ha:PE X a ta)(hb:PE X (.BoolOp .And (b::rest) pos) tb):PE X (.BoolOp .And (a::b::rest) pos) (XD ta tb):=by
 intro Fn s σ H Q I h
 refine BoolOp_and (FX (ha Fn s σ H _ I h) ?_)
 rintro v s1 ⟨x,H1,I1,r1,q1⟩
 obtain⟨c,rfl,q1⟩:=q1
 cases r1
 refine eD ?_
 cases c with
 | true=>exact hb Fn s1 σ H1 Q I1 q1
 | false=>exact⟨.bl false,H1,I1,rfl,q1⟩
theorem XF (ha:PE X a ta)(hb:PE X (.BoolOp .Or (b::rest) pos) tb):PE X (.BoolOp .Or (a::b::rest) pos) (Y_ ta tb):=by
 intro Fn s σ H Q I h
 refine BoolOp_or (FX (ha Fn s σ H _ I h) ?_)
 rintro v s1 ⟨x,H1,I1,r1,q1⟩
 obtain⟨c,rfl,q1⟩:=q1
 cases r1
 refine eD ?_
 cases c with
 | false=>exact hb Fn s1 σ H1 Q I1 q1
 | true=>exact⟨.bl true,H1,I1,rfl,q1⟩
def tIf (t:TT)(ta tb:TE):TE:=fun σ H Q=>t σ H λc H1=>if c=true then ta σ H1 Q else tb σ H1 Q
theorem N8 {c:Expr}(hc:PT X c tA)(ha:PE X a ta)(hb:PE X b tb):PE X (.IfExp c a b pos) (tIf tA ta tb):=by
 intro Fn s σ H Q I h
 refine wpAny_IfExp (FX (hc Fn s σ H _ I h) ?_)
 rintro d s1 ⟨H1,I1,q1⟩
 cases d with
 | true=>exact ha Fn s1 σ H1 Q I1 q1
 | false=>exact hb Fn s1 σ H1 Q I1 q1
end
def F8 (K:W.Frag)(H:Hp)(a:Addr)(xs:List V):Prop:=
 Rd H a (.lst xs) \/
  ∃(o:Obj) (its:re) (n:Nat),K.lookup a=some o/\o.cls=.type "list" /\ o.dict=none/\o.data=.seq its n/\its.size<=sizeLine/\Vals xs its.toList
def IP (K:W.Frag)(H:Hp)(a:Addr)(xs:List V):Prop:=
 Rd H a (.tup xs) \/
  ∃(o:Obj) (its:re) (n:Nat),K.lookup a=some o/\o.cls=.type "tuple" /\ o.data=.seq its n/\its.size<=sizeLine/\Vals xs its.toList
noncomputable def Za:Value->Option V
 | .none=>some .FE
 | .bool b=>some (.bl b)
 | .int i _=>some (.int i)
 | .str x _=>some (.str x)
 | .bytes b _=>some (.Sj b)
 | .float b _=>some (.flt b)
 | .ref a=>some (.ref a)
 | .type n=>some (.ty n)
 | _=>none
theorem RelV.abs {x:V}(r:RelV x u):Za u=some x:=by
 cases x with
 | FE=>cases r;rfl
 | bl _=>cases r;rfl
 | int _=>obtain⟨t,rfl⟩:=r;rfl
 | str _=>obtain⟨t,rfl⟩:=r;rfl
 | Sj _=>obtain⟨t,rfl⟩:=r;rfl
 | flt _=>obtain⟨t,rfl⟩:=r;rfl
 | ref _=>cases r;rfl
 | ty _=>cases r;rfl
theorem RelV.inj {x y:V}(r:RelV x u)(q:RelV y u):x=y:=bo (r.abs.symm.trans q.abs)
theorem Vals.inj:∀{xs ys:List V}{us:qv},Vals xs us->Vals ys us->xs=ys
 | _,_,_,.nil,.nil=>rfl
 | _,_,_,.cons r t,.cons r' t'=>by rw[r.inj r',Vals.inj t t']
section
variable {X:Cx}{Fn:qo}{σ:St}{H:Hp}{s:Shared}{a:Addr}{xs ys:List V}
theorem F8.of (h:H a=some (.lst xs)):F8 K H a xs:=.inl (.inl h)
theorem IP.of (h:H a=some (.tup xs)):IP K H a xs:=.inl (.inl h)
theorem Inv.list (I:Inv X Fn σ H s)(h:F8 X.K H a xs):∃its:List Value,Vals xs its/\PlainL s.heap a its.toArray/\xs.length<=sizeLine:=by
 rcases h with h | ⟨o,its,n,hk,hc,hd,hs,hz,r⟩
 ·obtain⟨z,its,n,r,e⟩:=h.ok I.FH
  exact⟨its,r,⟨_,n,e,rfl,rfl,rfl⟩,z⟩
 ·refine⟨its.toList,r,⟨o,n,I.HU a o hk,hc,hd,by simpa using hs⟩,?_⟩
  have e:=r.length
  simp only[aE] at e
  omega
theorem Inv.tuple (I:Inv X Fn σ H s)(h:IP X.K H a xs):∃its:List Value,Vals xs its/\IsTup s.heap a its.toArray/\xs.length<=sizeLine:=by
 rcases h with h | ⟨o,its,n,hk,hc,hs,hz,r⟩
 ·obtain⟨z,its,r,p⟩:=h.ok I.FH
  exact⟨its,r,p,z⟩
 ·refine⟨its.toList,r,⟨o,I.HU a o hk,hc,n,by simpa using hs⟩,?_⟩
  have e:=r.length
  simp only[aE] at e
  omega
theorem Inv.Kb (I:Inv X Fn σ H s)(h:F8 X.K H a xs)(h':F8 X.K H a ys):xs=ys:=by
 obtain⟨its,r,⟨o,n,e,_,_,d⟩,_⟩:=I.list h
 obtain⟨its',r',⟨o',n',e',_,_,d'⟩,_⟩:=I.list h'
 rw[e] at e';cases e'
 rw[d] at d'
 injection d' with d1 _
 have:its=its':=by simpa using c5 Array.toList d1
 subst this
 exact r.inj r'
theorem Inv.NG (I:Inv X Fn σ H s)(h:IP X.K H a xs)(h':IP X.K H a ys):xs=ys:=by
 obtain⟨its,r,⟨o,e,_,n,d⟩,_⟩:=I.tuple h
 obtain⟨its',r',⟨o',e',_,n',d'⟩,_⟩:=I.tuple h'
 rw[e] at e';cases e'
 rw[d] at d'
 injection d' with d1 _
 have:its=its':=by simpa using c5 Array.toList d1
 subst this
 exact r.inj r'
end
abbrev Cx.Na (X:Cx)(E:qk):Cx:={ X with xe:=E }
abbrev Cx.nox (X:Cx):Cx:=X.Na λ_ _=>False
theorem Cx.Ok.Na {X:Cx}(ok:X.Ok)(E:qk):(X.Na E).Ok:=
 ⟨ok.mod,ok.kind,ok.glob,ok.blt,ok.above,ok.inj,ok.has,ok.cab,ok.hd,ok.frames,ok.stk,ok.exf,ok.bs,ok.YE,ok.So,ok.YI,ok.MA,ok.frf⟩
theorem Cx.Ok.unwish {X:Cx}(ok:(X.Na E).Ok):X.Ok:=
 ⟨ok.mod,ok.kind,ok.glob,ok.blt,ok.above,ok.inj,ok.has,ok.cab,ok.hd,ok.frames,ok.stk,ok.exf,ok.bs,ok.YE,ok.So,ok.YI,ok.MA,ok.frf⟩
section
variable {X:Cx}{Fn:qo}{σ:St}{H:Hp}{s:Shared}{E:qk}
theorem Inv.Na (I:Inv X Fn σ H s)(E:qk):Inv (X.Na E) Fn σ H s:=⟨I.ok.Na E,I.os,I.bare,I.base,I.loc,I.cell,I.free,I.JY,I.pin,I.FH,I.len⟩
theorem Inv.unwish (I:Inv (X.Na E) Fn σ H s):Inv X Fn σ H s:=⟨I.ok.unwish,I.os,I.bare,I.base,I.loc,I.cell,I.free,I.JY,I.pin,I.FH,I.len⟩
theorem SP.unwish {D:Ends}{f:Flow}{s':Shared}(h:SP (X.Na E) Fn D f s'):SP X Fn D f s':=by
 cases f with
 | next=>obtain⟨σ',H',I,q⟩:=h;exact⟨σ',H',I.unwish,q⟩
 | brk=>obtain⟨σ',H',I,q⟩:=h;exact⟨σ',H',I.unwish,q⟩
 | cont=>obtain⟨σ',H',I,q⟩:=h;exact⟨σ',H',I.unwish,q⟩
 | ret u=>obtain⟨v,σ',H',I,r,q⟩:=h;exact⟨v,σ',H',I.unwish,r,q⟩
theorem MW.nox {st:qA}{t:TS}(h:MW X.nox st t):MW X st t:=λFn s σ H D I hw=>
 eR (h Fn s σ H D (I.Na _) hw) (λ_ _ q=>q.unwish) λ_ _ z=>False.elim z
end
section
variable {X:Cx}{st:Stmt}{rest:qA}{t u:TS}{e:Expr}{te:TE}{pos:Pos}
def XH:TS:=λD σ H=>D.nx σ H
def Zb (t u:TS):TS:=λD σ H=>t { D with nx:=u D } σ H
theorem Rz:MW X [] XH:=λ_ _ σ H _ I h=>ly ⟨σ,H,I,h⟩
theorem N_ (h1:PS X st t)(h2:MW X rest u):MW X (st::rest) (Zb t u):=by
 intro Fn s σ H D I h
 refine wpAny_execs_cons (FX (h1 Fn s σ H { D with nx:=u D } I h) λf s1 q=>?_)
 cases f with
 | next=>
  obtain⟨σ',H',I',q⟩:=q
  exact h2 Fn s1 σ' H' D I' q
 | ret v=>exact q
 | brk=>exact q
 | cont=>exact q
theorem RB (h1:PS X st t):MW X [st] t:=by
 intro Fn s σ H D I h
 refine wpAny_execs_cons (FX (h1 Fn s σ H D I h) λf s1 q=>?_)
 cases f with
 | next=>exact ly q
 | ret v=>exact q
 | brk=>exact q
 | cont=>exact q
theorem Inv.quiet (I:Inv X Fn σ H s):interactive X.env=false:=by simp[interactive,I.ok.kind]
def XJ (te:TE):TS:=λD σ H=>te σ H λ_ H1=>D.nx σ H1
theorem wW (he:PE X e te)(hs:autoParam (swapsWith e none pos.line X.env=pure false) r0_):PS X (.Expr e pos) (XJ te):=by
 intro Fn s σ H D I h
 exact wpAny_Expr_any (FX (he Fn s σ H _ I h) λv s1 ⟨x,H1,I1,r1,q1⟩=>⟨σ,H1,I1,q1⟩) I.quiet hs
def Zc (te:TE):TS:=λD σ H=>te σ H D.rt
theorem El (he:PE X e te):PS X (.Return (some e) pos) (Zc te):=by
 intro Fn s σ H D I h
 exact wpAny_Return_some (FX (he Fn s σ H _ I h) λv s1 ⟨x,H1,I1,r1,q1⟩=>⟨x,σ,H1,I1,r1,q1⟩)
def Zd (c:TT)(t u:TS):TS:=λD σ H=>c σ H λb H1=>if b=true then t D σ H1 else u D σ H1
theorem XM {c:Expr}{a b:qA}{tc:TT}(hc:PT X c tc)(ha:MW X a t)(hb:MW X b u):PS X (.If c a b pos) (Zd tc t u):=by
 intro Fn s σ H D I h
 refine wpAny_If (FX (hc Fn s σ H _ I h) ?_)
 rintro d s1 ⟨H1,I1,q1⟩
 cases d with
 | true=>exact ha Fn s1 σ H1 D I1 q1
 | false=>exact hb Fn s1 σ H1 D I1 q1
def U0:TS:=λ_ _ _=>False
theorem Oa:PS X st U0:=λ_ _ _ _ _ _ h=>h.elim
end
abbrev TG:=V->St->Hp->(St->Hp->Prop)->Prop
abbrev XZ:=List V->St->Hp->(St->Hp->Prop)->Prop
def PG (X:Cx)(target:Expr)(t:TG):Prop:=
 ∀(Fn:qo) (s:Shared) (σ:St) (H:Hp) (v:V) (u:Value) (Q:St->Hp->Prop),Inv X Fn σ H s->RelV v u->t v σ H Q->
  wpAny (model X.prog X.w) X.A (assign target X.env u) (λ_ s'=>∃ σ' H',Inv X Fn σ' H' s'/\Q σ' H') X.xe s
def X1 (X:Cx)(ts:qB)(t:XZ):Prop:=
 ∀(Fn:qo) (s:Shared) (σ:St) (H:Hp) (vs:List V) (us:qv) (Q:St->Hp->Prop),Inv X Fn σ H s->Vals vs us->t vs σ H Q->
  wpAny (model X.prog X.w) X.A (assignInOrder ((assignEach ts X.env).map (·.2)) us) (λ_ s'=>∃ σ' H',Inv X Fn σ' H' s'/\Q σ' H') X.xe s
abbrev Ob:=V->V->V->Hp->(Hp->Prop)->Prop
def U3 (X:Cx)(t:Ob):Prop:=
 ∀(Fn:qo) (s:Shared) (σ:St) (H:Hp) (o i v:V) (ov iv u:Value) (Q:Hp->Prop),Inv X Fn σ H s->RelV o ov->RelV i iv->RelV v u->t o i v H Q->
  wpAny (model X.prog X.w) X.A (setItem ov iv u) (λ_ s'=>∃H',Inv X Fn σ H' s'/\Q H') X.xe s
section
variable {X:Cx}{pos:Pos}
def wX (i:Nat):TG:=λv σ H Q=>Q (σ.set i (some v)) H
theorem Ah (hN:X.N.Nodup)(hi:X.N[i]?=some x)(hx:Loc X.env.scope x)(hf:autoParam (X.fn x=true\/X.env.scope.names.lookup x=some .local) r3_):PG X (.Name x pos) (wX i):=by
 intro Fn s σ H v u Q I r h
 exact wpAny_assign_Name (Ek I hN hi hx r (λs' I'=>⟨_,H,I',h⟩) hf)
def U4:XZ:=λvs σ H Q=>vs=[]/\Q σ H
def Q8 (t:TG)(u:XZ):XZ:=λvs σ H Q=>∃v r,vs=v::r/\t v σ H fun σ' H'=>u r σ' H' Q
theorem gB:X1 X [] U4:=by
 intro Fn s σ H vs us Q I r h
 obtain⟨e,h⟩:=h
 subst e
 cases r
 exact assignInOrder_nil ⟨σ,H,I,h⟩
theorem bw {e:Expr}{es:qB}{t:TG}{u:XZ}(h1:PG X e t)(h2:X1 X es u)
  (hs:autoParam ((assignEach (e::es) X.env).map (·.2)=assign e X.env::(assignEach es X.env).map (·.2)) r0_):X1 X (e::es) (Q8 t u):=by
 intro Fn s σ H vs us Q I r h
 obtain⟨v,vr,e1,h⟩:=h
 subst e1
 cases r with
 | cons r rr=>
  rw[hs]
  refine assignInOrder_cons (FX (h1 Fn s σ H _ _ _ I r h) ?_)
  rintro _ s1 ⟨σ1,H1,I1,q1⟩
  exact h2 Fn s1 σ1 H1 _ _ Q I1 rr q1
def U5 (K:W.Frag)(n:Nat)(t:XZ):TG:=λv σ H Q=>∃a xs,v=.ref a/\IP K H a xs/\xs.length=n/\t xs σ H Q
theorem jh {es:qB}{k:Nat}{t:XZ}{n:Nat}(hc:X.calm=true)(h:X1 X es t)
  (hn:autoParam ((assignEach es X.env).length=n) r0_) (Pl:autoParam ((assignEach es X.env).findIdx? (·.1)=none) r0_):PG X (.Tuple es k pos) (U5 X.K n t):=by
 intro Fn s σ H v u Q I r hw
 obtain⟨a,xs,e1,hq,hl,hw⟩:=hw
 subst e1
 cases r
 obtain⟨its,rv,ht,hz⟩:=I.tuple hq
 refine assign_Tuple_tuple (I.ok.hd hc) ht (by simp[hn,← hl,rv.length]) Pl λh' hx=>?_
 have I1:Inv X Fn σ H { s with heap:=h' }:=I.kept (t':=s.toks) λb o e=>hx b o (bt (ay e)) e
 exact h Fn _ σ H xs _ Q I1 (by simpa using rv) hw
def Ze (to ti:TE)(t:Ob):TG:=λv σ H Q=>to σ H λo H1=>ti σ H1 λi H2=>t o i v H2 λH3=>Q σ H3
theorem U6 {o i:Expr}{to ti:TE}{t:Ob}(ho:PE X o to)(hi:PE X i ti)(hs:U3 X t)
  (ha:∀v,assign (.Subscript o i pos) X.env v=(do
   let ov ← holding [v] (eval o X.env)
   let iv ← holding [v,ov] (eval i X.env)
   standAt pos
   holding [v,ov,iv] (setItem ov iv v)
   release [v,ov,iv] []):=by intro _;rfl):PG X (.Subscript o i pos) (Ze to ti t):=by
 intro Fn s σ H v u Q I r h
 rw[ha]
 refine ab (cy (FX (ho Fn s σ H _ I h) ?_))
 rintro ov s1 ⟨x,H1,I1,r1,q1⟩
 refine ab (cy (FX (hi Fn s1 σ H1 _ I1 q1) ?_))
 rintro iv s2 ⟨y,H2,I2,r2,q2⟩
 refine ab (pE (ab (cy (FX (hs Fn s2 σ H2 x y v ov iv u _ I2 r1 r2 r q2) ?_))))
 rintro _ s3 ⟨H3,I3,q3⟩
 exact wpAny_release ⟨σ,H3,I3,q3⟩
def Oc (te:TE)(g:TG):TS:=λD σ H=>te σ H λx H1=>g x σ H1 D.nx
theorem U7 {tg e:Expr}{te:TE}{g:TG}(he:PE X e te)(hg:PG X tg g)(hs:autoParam (swapsWithSole [tg] e pos.line X.env=pure false) r0_)(hw:autoParam (swappedStores [tg] e X.env=pure none) r0_)
  (h1:autoParam ((assignEach [tg] X.env).map (·.2)=[assign tg X.env]) r0_):PS X (.Assign [tg] e pos) (Oc te g):=by
 intro Fn s σ H D I h
 refine wpAny_Assign_stores (FX (he Fn s σ H _ I h) ?_) hs hw
 rintro v s1 ⟨x,H1,I1,r1,q1⟩
 rw[h1]
 exact FX (hg Fn s1 σ H1 x v _ I1 r1 q1) λ_ s2 q=>q
theorem Em {e:Expr}{te:TE}{pos':Pos}(hN:X.N.Nodup)(hi:X.N[i]?=some x)(hx:Loc X.env.scope x)(he:PE X e te)(hs:autoParam (swapsWith e (some (.Name x pos')) pos.line X.env=pure false) r0_)(hf:autoParam (X.fn x=true\/X.env.scope.names.lookup x=some .local) r3_):
  PS X (.Assign [.Name x pos'] e pos) (Oc te (wX i)):=by
 intro Fn s σ H D I h
 refine wpAny_Assign_Name (FX (he Fn s σ H _ I h) ?_) hs
 rintro v s1 ⟨y,H1,I1,r1,q1⟩
 exact Ek I1 hN hi hx r1 (λs2 I2=>⟨_,H1,I2,q1⟩) hf
end
section
variable {X:Cx}{pos:Pos}
def U8 (c:TT)(tb:TS):TS:=λD σ H=>∃W:Nat->St->Hp->Prop,(∃m,W m σ H)/\∀m σ H,W m σ H->
 c σ H λb H1=>if b=true then ∃N:St->Hp->Prop,(∀ σ' H',N σ' H'->∃m',m' < m/\W m' σ' H')/\tb { D with nx:=N,ct:=N,bk:=D.nx } σ H1 else D.nx σ H1
theorem Od {c:Expr}{body:qA}{tc:TT}{tb:TS}(hp:PassesOwn (model X.prog X.w) X.A X.env X.xe)(hc:PT X c tc)(hb:MW X body tb):PS X (.While c body [] pos) (U8 tc tb):=by
 intro Fn s σ H D I h
 obtain⟨W,⟨m0,w0⟩,turn⟩:=h
 refine wpAny_While (codeAny_whileLoop (λn s'=>∃ σ' H',Inv X Fn σ' H' s'/\W n σ' H') ?_ m0 ⟨σ,H,I,w0⟩)
 rintro n s1 ⟨σ1,H1,I1,w1⟩
 refine gu hp (FX (hc Fn s1 σ1 H1 _ I1 (turn n σ1 H1 w1)) ?_)
 rintro b s2 ⟨H2,I2,q2⟩
 cases b with
 | true=>
  obtain⟨N,hN,q2⟩:=q2
  rw[ba rfl]
  refine gu hp (FX (hb Fn s2 σ1 H2 _ I2 q2) λf s3 q3=>?_)
  cases f with
  | next=>
   obtain⟨σ3,H3,I3,n3⟩:=q3
   obtain⟨m',hm,w3⟩:=hN σ3 H3 n3
   exact⟨m',hm,σ3,H3,I3,w3⟩
  | cont=>
   obtain⟨σ3,H3,I3,n3⟩:=q3
   obtain⟨m',hm,w3⟩:=hN σ3 H3 n3
   exact⟨m',hm,σ3,H3,I3,w3⟩
  | brk=>exact q3
  | ret v=>exact q3
 | false=>
  rw[ax bd]
  exact ly ⟨σ1,H2,I2,q2⟩
end
structure It where
 go:Nat->Hp->Prop
 yld:Nat->Hp->V->Hp->Prop
 stop:Nat->Hp->Prop
def oA (X:Cx)(Fn:qo)(H:Hp)(b:Addr):Prop:=
 H b=none/\b≠X.env.locals/\b∉X.fs/\(b∈X.ex\/X.s₀.heap.objs.size<=b)/\(∀x c,X.env.cells.lookup x=some c->c≠b)/\∀p∈X.pn++Fn,p.1≠b
theorem Inv.Nc {X:Cx}{H':Hp}(I:Inv X Fn σ H s)(hb:s.heap.objs.size<=b)(hn:H' b=none):oA X Fn H' b:=by
 refine⟨hn,iS (bE I.lt hb),I.nofs hb,.inr (cm I.sz hb),λx c e z=>?_,λp hp z=>?_⟩
 ·obtain⟨v,q⟩:=I.cell x c e
  exact absurd (bE q.lt (by rw[z];exact hb)) (d5 _)
 ·exact absurd (bE (ay (I.pin p hp).1) (by rw[z];exact hb)) (d5 _)
structure Turn (P:Program)(w:World)(K:W.Frag)(tg:Expr)(J:It)(fp:qV)(it:Addr)(tn:Nat->Heap->Prop):Prop where
 mem:it∈fp
 obj:∀i h,tn i h->∀b∈fp,∃o,h.get? b=some o/\∀v,o.data≠.cell v
 keep:∀i h h',tn i h->(∀b∈fp,∀o,h.get? b=some o->h'.get? b=some o)->tn i h'
 item:∀(X:Cx),X.prog=P->X.w=w->X.K=K->X.calm=true->∀(i:Nat) (Fn:qo) (s:Shared) (σ:St) (H:Hp) (E:qk),Inv X Fn σ H s->(∀b∈fp,oA X Fn H b)->tn i s.heap->J.go i H->
  wpAny (model P w) X.A (pyNext (.ref it)) (λr s1=>∃u,r=some u /\
   wpAny (model P w) X.A (letOwnedTupleGo tg (.ref it) u) (λ_ s2=>∃x H',Inv X Fn σ H' s2/\RelV x u/\J.yld i H x H'/\tn (i+1) s2.heap/\∀b∈fp,H' b=none) E s1) E s
 done:∀(X:Cx),X.prog=P->X.w=w->X.K=K->X.calm=true->∀(i:Nat) (Fn:qo) (s:Shared) (σ:St) (H:Hp) (E:qk),Inv X Fn σ H s->(∀b∈fp,oA X Fn H b)->tn i s.heap->J.stop i H->
  wpAny (model P w) X.A (pyNext (.ref it)) (λr s1=>r=none/\Inv X Fn σ H s1) E s
 self:∀(A:Around) (i:Nat) (s:Shared) (Q:qk) (E:qk),tn i s.heap->Q (.ref it) s->wpAny (model P w) A (pyIter (.ref it)) Q E s
abbrev TI:=St->Hp->(It->Hp->Prop)->Prop
def PIE (X:Cx)(Fn:qo)(σ:St)(tg:Expr)(R:It->Hp->Prop)(itv:Value)(s2:Shared):Prop:=
 ∃(it:Addr) (fp:qV) (tn:Nat->Heap->Prop) (J:It) (H':Hp),itv=.ref it/\Inv X Fn σ H' s2/\Turn X.prog X.w X.K tg J fp it tn/\tn 0 s2.heap/\(∀b∈fp,oA X Fn H' b)/\R J H'
def PI (X:Cx)(tg iter:Expr)(wi:TI):Prop:=
 ∀(Fn:qo) (s:Shared) (σ:St) (H:Hp) (R:It->Hp->Prop),Inv X Fn σ H s->wi σ H R->
  wpAny (model X.prog X.w) X.A (eval iter X.env) (λv s1=>wpAny (model X.prog X.w) X.A (pyIter v) (PIE X Fn σ tg R) X.xe s1) X.xe s
theorem wY {M:Model}{tg:Expr}{it:Addr}{o:Obj}{n:String}{vs:re}(ho:s.heap.get? it=some o)(hc:o.cls=.type n)(hd:o.data=.fields vs)
    (hn:["enumerate","zip","dict_itemiterator","dict_reverseitemiterator","odict_iterator","itertools.zip_longest","itertools.pairwise"].contains n=false) (hQ:Q () s):wpAny M A (letOwnedTupleGo tg (.ref it) u) Q E s:=by
  unfold letOwnedTupleGo
  cases tg <;> first
    | exact ag hQ
    | (cases u <;> first
        | exact ag hQ
        | (refine ab (wpAny_load ho ?_)
           rw[hc,hd]
           show wpAny M A (if (["enumerate","zip","dict_itemiterator","dict_reverseitemiterator","odict_iterator","itertools.zip_longest","itertools.pairwise"].contains n&&vs[0]? == some (rawInt _))=true then _ else _) Q E s
           rw[ax (by intro h;rw[hn,Bool.false_and] at h;cases h)]
           exact ag hQ))
def Itl (K:W.Frag)(a:Addr):It:=
 ⟨λi H=>∃xs x,F8 K H a xs/\xs[i]?=some x,λi H x H'=>H'=H/\∀xs,F8 K H a xs->xs[i]?=some x,λi H=>∃xs,F8 K H a xs/\xs.length<=i⟩
def Itt (K:W.Frag)(a:Addr):It:=
 ⟨λi H=>∃xs x,IP K H a xs/\xs[i]?=some x,λi H x H'=>H'=H/\∀xs,IP K H a xs->xs[i]?=some x,λi H=>∃xs,IP K H a xs/\xs.length<=i⟩
def Itr (lo:Int)(n:Nat):It:=⟨λi _=>i < n,λi H x H'=>H'=H/\x=.int (lo+i),λi _=>n<=i⟩
theorem Kv {tg:Expr}(a it:Addr):Turn P w K tg (Itl K a) [it] it (λi h=>h.IsListIter it a i) where
 mem:=by simp
 obj:=λi h st b hb=>by
  have e:b=it:=by simpa using hb
  subst e
  obtain⟨o,e,c,d⟩:=st
  exact⟨o,e,λv z=>by rw[d] at z;cases z⟩
 keep:=λi h h' st k=>st.at λo e=>k it (by simp) o e
 item:=by
  intro X hP hw hK hc i Fn s σ H E I hf st hg
  subst hP hw hK
  obtain⟨xs,x,hq,hx⟩:=hg
  obtain⟨its,rv,p,hz⟩:=I.list hq
  obtain⟨u,hu,ru⟩:=rv.get hx
  obtain⟨f0,f1,f2,f3,f4,f5⟩:=hf it (by simp)
  refine wpAny_pyNext_list_item st p.isList (x:=u) (by simpa using hu) λh' MI sb=>?_
  have I1:Inv X Fn σ H { s with heap:=h' }:=I.turned (t':=s.toks) (λb o hb e=>(sb.2 b hb).trans e) f0 f1 f3 f4 f5
  obtain⟨o,e,c,d⟩:=id MI
  exact⟨u,rfl,wY (s:={ s with heap:=h' }) e c d (by decide) ⟨x,H,I1,ru,⟨rfl,λys hy=>by rw[I.Kb hy hq];exact hx⟩,MI,λb hb=>(hf b hb).1⟩⟩
 done:=by
  intro X hP hw hK hc i Fn s σ H E I hf st hg
  subst hP hw hK
  obtain⟨xs,hq,hx⟩:=hg
  obtain⟨its,rv,p,hz⟩:=I.list hq
  obtain⟨f0,f1,f2,f3,f4,f5⟩:=hf it (by simp)
  have hl:=rv.length
  exact wpAny_pyNext_list_end (I.ok.hd hc) st p.isList (by simp;omega) λh' eb=>⟨rfl,I.turned (t':=s.toks) (λb o hb e=>eb b o hb e) f0 f1 f3 f4 f5⟩
 self:=λ_ _ _ _ _ st h=>wpAny_pyIter_listiter st h
theorem Jh {tg:Expr}(a it:Addr):Turn P w K tg (Itt K a) [it] it (λi h=>h.IsTupleIter it a i) where
 mem:=by simp
 obj:=λi h st b hb=>by
  have e:b=it:=by simpa using hb
  subst e
  obtain⟨o,e,c,d⟩:=st
  exact⟨o,e,λv z=>by rw[d] at z;cases z⟩
 keep:=λi h h' st k=>st.at λo e=>k it (by simp) o e
 item:=by
  intro X hP hw hK hc i Fn s σ H E I hf st hg
  subst hP hw hK
  obtain⟨xs,x,hq,hx⟩:=hg
  obtain⟨its,rv,p,hz⟩:=I.tuple hq
  obtain⟨u,hu,ru⟩:=rv.get hx
  obtain⟨f0,f1,f2,f3,f4,f5⟩:=hf it (by simp)
  refine wpAny_pyNext_tuple_item st (show s.heap.IsTuple a its.toArray from p) (x:=u) (by simpa using hu) λh' MI sb=>?_
  have I1:Inv X Fn σ H { s with heap:=h' }:=I.turned (t':=s.toks) (λb o hb e=>(sb.2 b hb).trans e) f0 f1 f3 f4 f5
  obtain⟨o,e,c,d⟩:=id MI
  exact⟨u,rfl,wY (s:={ s with heap:=h' }) e c d (by decide) ⟨x,H,I1,ru,⟨rfl,λys hy=>by rw[I.NG hy hq];exact hx⟩,MI,λb hb=>(hf b hb).1⟩⟩
 done:=by
  intro X hP hw hK hc i Fn s σ H E I hf st hg
  subst hP hw hK
  obtain⟨xs,hq,hx⟩:=hg
  obtain⟨its,rv,p,hz⟩:=I.tuple hq
  obtain⟨f0,f1,f2,f3,f4,f5⟩:=hf it (by simp)
  have hl:=rv.length
  exact wpAny_pyNext_tuple_end (I.ok.hd hc) st (show s.heap.IsTuple a its.toArray from p) (by simp;omega) λh' eb=>⟨rfl,I.turned (t':=s.toks) (λb o hb e=>eb b o hb e) f0 f1 f3 f4 f5⟩
 self:=λ_ _ _ _ _ st h=>wpAny_pyIter_tupleiter st h
theorem Ji {tg:Expr}(it:Addr)(lo:Int)(n:Nat):Turn P w K tg (Itr lo n) [it] it (λi h=>IsRangeIter h it (lo+(i:Nat)*1) ((n:Int) - (i:Nat)) 1) where
 mem:=by simp
 obj:=λi h st b hb=>by
  have e:b=it:=by simpa using hb
  subst e
  exact⟨_,st,λv z=>by
   have z':Data.fields _=Data.cell v:=z
   cases z'⟩
 keep:=λi h h' st k=>k it (by simp) _ st
 item:=by
  intro X hP hw hK hc i Fn s σ H E I hf st hg
  subst hP hw hK
  obtain⟨f0,f1,f2,f3,f4,f5⟩:=hf it (by simp)
  have W:=Walks.range (prog:=X.prog) (w:=X.w) (I.ok.hd hc) it lo 1 n
  refine W.item i s _ _ hg st λv h' tk hv MI kk=>?_
  obtain⟨t,rfl⟩:=hv
  have I1:Inv X Fn σ H { s with heap:=h',toks:=tk }:=I.turned (λb o hb e=>kk b o (by simpa using hb) e) f0 f1 f3 f4 f5
  refine⟨_,rfl,wY (s:={ s with heap:=h',toks:=tk }) (n := "range_iterator") MI rfl rfl (by decide) ⟨.int (lo+i),H,I1,⟨t,?_⟩,⟨rfl,rfl⟩,MI,λb hb=>(hf b hb).1⟩⟩
  rw[Int.mul_one]
 done:=by
  intro X hP hw hK hc i Fn s σ H E I hf st hg
  subst hP hw hK
  obtain⟨f0,f1,f2,f3,f4,f5⟩:=hf it (by simp)
  exact wpAny_pyNext_range_end (I.ok.hd hc) st (by have:n<=i:=hg;omega) λh' eb=>⟨rfl,I.turned (t':=s.toks) (λb o hb e=>eb b o hb e) f0 f1 f3 f4 f5⟩
 self:=λ_ _ _ _ _ st h=>wpAny_pyIter_rangeiter st h
section
variable {X:Cx}{tg:Expr}
def XN (K:W.Frag)(tl:TE):TI:=fun σ H R=>tl σ H λx H1=>∃a,x=.ref a/\(∃xs,F8 K H1 a xs)/\R (Itl K a) H1
def Zf (K:W.Frag)(tl:TE):TI:=fun σ H R=>tl σ H λx H1=>∃a,x=.ref a/\(∃xs,IP K H1 a xs)/\R (Itt K a) H1
theorem RC {l:Expr}{tl:TE}(hl:PE X l tl):PI X tg l (XN X.K tl):=by
 intro Fn s σ H R I h
 refine FX (hl Fn s σ H _ I h) ?_
 rintro v s1 ⟨x,H1,I1,r1,q1⟩
 obtain⟨a,e,⟨xs,hq⟩,q⟩:=q1
 subst e
 cases r1
 obtain⟨its,rv,p,hz⟩:=I1.list hq
 refine fw p.isList ?_
 refine⟨s1.heap.objs.size,[s1.heap.objs.size],_,_,H1,rfl,I1.kept (t':=s1.toks) λb o e=>af _ e,Kv a _,⟨_,ap _ rfl,rfl,rfl⟩,λb hb=>?_,q⟩
 have e:b=s1.heap.objs.size:=by simpa using hb
 subst e
 exact I1.Nc (aw _) (I1.FH.fresh (aw _))
theorem U9 {l:Expr}{tl:TE}(hl:PE X l tl):PI X tg l (Zf X.K tl):=by
 intro Fn s σ H R I h
 refine FX (hl Fn s σ H _ I h) ?_
 rintro v s1 ⟨x,H1,I1,r1,q1⟩
 obtain⟨a,e,⟨xs,hq⟩,q⟩:=q1
 subst e
 cases r1
 obtain⟨its,rv,p,hz⟩:=I1.tuple hq
 refine io (show s1.heap.IsTuple a its.toArray from p) ?_
 refine⟨s1.heap.objs.size,[s1.heap.objs.size],_,_,H1,rfl,I1.kept (t':=s1.toks) λb o e=>af _ e,Jh a _,⟨_,ap _ rfl,rfl,rfl⟩,λb hb=>?_,q⟩
 have e:b=s1.heap.objs.size:=by simpa using hb
 subst e
 exact I1.Nc (aw _) (I1.FH.fresh (aw _))
theorem En {R:It->Hp->Prop}{lo hi:Int}{t u v:Tok}{tk:Nat}(I:Inv X Fn σ H s)(h1:-(2 ^ 62)<=lo)(h2:lo < 2 ^ 62)(h3:-(2 ^ 62)<=hi)(h4:hi < 2 ^ 62)
  (q:R (Itr lo (hi - lo).toNat) H):wpAny (model X.prog X.w) X.A (pyIter (.ref s.heap.objs.size)) (PIE X Fn σ tg R) E { s with heap:=s.heap.push { cls:=.type "range",data:=.fields #[.int lo t,.int hi u,.int 1 v] },toks:=tk }:=by
 refine wpAny_pyIter_range (IsRange.new ..) (small_one h1 h2 h3 h4) ?_
 have I1:Inv X Fn σ H { s with heap:=s.heap.push { cls:=.type "range",data:=.fields #[.int lo t,.int hi u,.int 1 v] },toks:=tk }:=I.kept λb o e=>af _ e
 refine⟨(s.heap.push { cls:=.type "range",data:=.fields #[.int lo t,.int hi u,.int 1 v] }).objs.size,[(s.heap.push { cls:=.type "range",data:=.fields #[.int lo t,.int hi u,.int 1 v] }).objs.size],_,_,H,rfl,
  I1.kept (t':=tk) λb o e=>af _ e,Ji _ lo (hi - lo).toNat,?_,λb hb=>?_,q⟩
 ·have e1:lo+((0:Nat):Int)*1=lo:=by simp
  have e2:(((hi - lo).toNat:Nat):Int) - ((0:Nat):Int)=Builtin.Range.rangeSize lo hi 1:=by rw[rangeSize_one];split <;> omega
  show IsRangeIter _ _ (lo+((0:Nat):Int)*1) ((((hi - lo).toNat:Nat):Int) - ((0:Nat):Int)) 1
  rw[e1,e2]
  exact ap _ rfl
 ·have e:b=(s.heap.push { cls:=.type "range",data:=.fields #[.int lo t,.int hi u,.int 1 v] }).objs.size:=by simpa using hb
  subst e
  exact I1.Nc (aw _) (I1.FH.fresh (aw _))
def XQ (ta:TA):TI:=fun σ H R=>ta σ H λvs H1=>∃j:Int,vs=[.int j]/\-(2 ^ 62)<=j/\j < 2 ^ 62/\R (Itr 0 j.toNat) H1
def XR (ta:TA):TI:=fun σ H R=>ta σ H λvs H1=>∃i j:Int,vs=[.int i,.int j]/\(-(2 ^ 62)<=i/\i < 2 ^ 62/\-(2 ^ 62)<=j/\j < 2 ^ 62)/\R (Itr i (j - i).toNat) H1
theorem Kw {a:Expr}{ta:TA}{p:Pos}(hg:Gl X "range")(hm:X.mg "range" = none)(ha:PA X [a] ta)(hs:autoParam (starEach [a] X.env=[(false,eval a X.env)]) r0_):PI X tg (.Call (.Name "range" p) [a] [] pos) (XQ ta):=by
 intro Fn s σ H R I h
 refine Call_ (gK I hg hm boot_range (bX (FX (ha pos Fn s σ H _ I h) ?_) hs rfl))
 rintro us s1 ⟨vs,H1,I1,r1,q1⟩
 obtain⟨j,e,q1,q2,q⟩:=q1
 subst e
 cases r1 with
 | cons r rr=>
  cases rr
  obtain⟨t,rfl⟩:=r
  exact call_range_1 (En I1 (by omega) (by omega) q1 q2 (by simpa using q))
theorem Ky {a b:Expr}{ta:TA}{p:Pos}(hg:Gl X "range")(hm:X.mg "range" = none)(ha:PA X [a,b] ta)(hs:autoParam (starEach [a,b] X.env=[(false,eval a X.env),(false,eval b X.env)]) r0_)(JO:autoParam (starEach [b] X.env=[(false,eval b X.env)]) r0_):
  PI X tg (.Call (.Name "range" p) [a,b] [] pos) (XR ta):=by
 intro Fn s σ H R I h
 refine Call_ (gK I hg hm boot_range (bX (FX (ha pos Fn s σ H _ I h) λus s1 ⟨vs,H1,I1,r1,q1⟩=>?_) (by rw[hs,JO]) (by rw[JO];rfl)))
 obtain⟨i,j,e,⟨q1,q2,q3,q4⟩,q⟩:=q1
 subst e
 cases r1 with
 | cons r rr=>
  cases rr with
  | cons r' rr=>
   cases rr
   obtain⟨t,rfl⟩:=r
   obtain⟨t',rfl⟩:=r'
   exact call_range_2 (En I1 q1 q2 q3 q4 q)
def Zg (wi:TI)(g:TG)(tb:TS):TS:=λD σ H=>wi σ H λJ H1=>∃W:Nat->Nat->St->Hp->Prop,(∃m,W 0 m σ H1)/\∀i m σ H,W i m σ H->
 (J.stop i H/\D.nx σ H)\/(J.go i H/\∃N:St->Hp->Prop,(∀ σ' H',N σ' H'->∃m',m' < m/\W (i+1) m' σ' H')/\∀x H',J.yld i H x H'->g x σ H' fun σ2 H2=>tb { D with nx:=N,ct:=N,bk:=D.nx } σ2 H2)
noncomputable def vI (fp:qV)(h:Heap):List (Addr×Obj):=fp.filterMap λb=>(h.get? b).map λo=>(b,o)
theorem qj {fp:qV}{o:Obj}(hb:b∈fp)(e:h.get? b=some o):(b,o)∈vI fp h:=List.mem_filterMap.mpr ⟨b,hb,by rw[e];rfl⟩
theorem Kz {fp:qV}{p:Addr×Obj}(hp:p∈vI fp h):p.1∈fp/\h.get? p.1=some p.2:=by
 obtain⟨b,hb,e⟩:=List.mem_filterMap.mp hp
 cases q:h.get? b with
 | none=>rw[q] at e;cases e
 | some o=>
  rw[q] at e
  have e':(b,o)=p:=bo e
  subst e'
  exact⟨hb,q⟩
theorem Inv.pinned {fp:qV}(I:Inv X Fn σ H s)(hf:∀b∈fp,oA X Fn H b)(ho:∀b∈fp,∃o,s.heap.get? b=some o/\∀v,o.data≠.cell v):Inv X (Fn++vI fp s.heap) σ H s:=
 I.QA λp hp=>(bv.mp hp).elim (λz=>I.pin p (cw _ z)) λz=>by
  obtain⟨hb,e⟩:=Kz z
  obtain⟨f0,f1,f2,_⟩:=hf p.1 hb
  obtain⟨o,e',d⟩:=ho p.1 hb
  rw[e] at e';cases e'
  exact⟨e,f0,f1,f2,d⟩
theorem Inv.Lo {pl:qo}(I:Inv X (Fn++pl) σ H s):Inv X Fn σ H s:=I.QA λp hp=>I.pin p (cw _ (gL _ hp))
theorem U_ {iter:Expr}{body:qA}{wi:TI}{g:TG}{tb:TS}(hp:PassesOwn (model X.prog X.w) X.A X.env X.xe)(hc:X.calm=true)(hi:PI X tg iter wi)(hg:PG X tg g)(hb:MW X body tb)
  (hs:autoParam (∀x,foldedSetIterable iter X.env x=pure x) r4_):PS X (.For tg iter body [] pos) (Zg wi g tb):=by
 intro Fn s σ H D I h
 refine wpAny_For (FX (hi Fn s σ H _ I h) λv s1 h1=>FX h1 λitv s2 h2=>?_) hs
 obtain⟨it,fp,tn,J,H2,e,I2,T,st2,f2,W,⟨m0,w0⟩,turn⟩:=h2
 subst e
 have Pt:∀{H':Hp},(∀b∈fp,H' b=none)->∀b∈fp,oA X Fn H' b:=λhn b hb=>⟨hn b hb,(f2 b hb).2⟩
 refine codeAny_forLoop_any (λn s'=>∃i σ' H',Inv X Fn σ' H' s'/\tn i s'.heap/\(∀b∈fp,H' b=none)/\W i n σ' H') ?_ m0 ⟨0,σ,H2,I2,st2,λb hb=>(f2 b hb).1,w0⟩
 rintro n s3 ⟨i,σ3,H3,I3,st3,fr3,w3⟩
 rcases turn i n σ3 H3 w3 with ⟨stop,qn⟩ | ⟨go,N,hN,step⟩
 ·refine gu hp (FX (T.done X rfl rfl rfl hc i Fn s3 σ3 H3 X.xe I3 (Pt fr3) st3 stop) ?_)
  rintro r s4 ⟨hr,I4⟩
  subst hr
  exact ly ⟨σ3,H3,I4,qn⟩
 ·refine gu hp (FX (T.item X rfl rfl rfl hc i Fn s3 σ3 H3 X.xe I3 (Pt fr3) st3 go) ?_)
  rintro r s4 ⟨u,hr,h4⟩
  subst hr
  refine gu hp (FX h4 ?_)
  rintro _ s5 ⟨x,H5,I5,r5,y5,st5,fr5⟩
  have I5':=I5.pinned (Pt fr5) (T.obj _ _ st5)
  refine gu hp (FX (hg _ s5 σ3 H5 x u _ I5' r5 (step x H5 y5)) ?_)
  rintro _ s6 ⟨σ6,H6,I6,q6⟩
  refine gu hp (FX (hb _ s6 σ6 H6 _ I6 q6) λf s7 q7=>?_)
  have again:∀{σ7:St}{H7:Hp},Inv X (Fn++vI fp s5.heap) σ7 H7 s7->N σ7 H7->∃m,m < n/\∃i σ' H',Inv X Fn σ' H' s7/\tn i s7.heap/\(∀b∈fp,H' b=none)/\W i m σ' H':=λ{σ7 H7} I7 n7=>by
   obtain⟨m',hm,w7⟩:=hN σ7 H7 n7
   refine⟨m',hm,i+1,σ7,H7,I7.Lo,T.keep _ _ _ st5 λb hb o e=>(I7.pin (b,o) (cw _ (cw _ (qj hb e)))).1,λb hb=>?_,w7⟩
   obtain⟨o,e,d⟩:=T.obj _ _ st5 b hb
   exact(I7.pin (b,o) (cw _ (cw _ (qj hb e)))).2.1
  cases f with
  | next=>obtain⟨σ7,H7,I7,n7⟩:=q7;exact again I7 n7
  | cont=>obtain⟨σ7,H7,I7,n7⟩:=q7;exact again I7 n7
  | brk=>obtain⟨σ7,H7,I7,q7⟩:=q7;exact⟨σ7,H7,I7.Lo,q7⟩
  | ret v=>obtain⟨x7,σ7,H7,I7,r7,q7⟩:=q7;exact⟨x7,σ7,H7,I7.Lo,r7,q7⟩
end
abbrev R2:=V->V->Hp->VK->Prop
def G0 (X:Cx)(f:Value->Value->Sem Value)(r:R2):Prop:=
 ∀(Fn:qo) (s:Shared) (σ:St) (H:Hp) (x y:V) (v u:Value) (Q:VK),Inv X Fn σ H s->RelV x v->RelV y u->r x y H Q->
  wpAny (model X.prog X.w) X.A (f v u) (EP X Fn σ Q) X.xe s
def UnR (X:Cx)(f:Value->Sem Value)(r:V->Hp->VK->Prop):Prop:=
 ∀(Fn:qo) (s:Shared) (σ:St) (H:Hp) (x:V) (v:Value) (Q:VK),Inv X Fn σ H s->RelV x v->r x H Q->
  wpAny (model X.prog X.w) X.A (f v) (EP X Fn σ Q) X.xe s
def F6 (X:Cx)(f:Value)(r:List V->Hp->VK->Prop):Prop:=
 ∀(Fn:qo) (s:Shared) (σ:St) (H:Hp) (xs:List V) (us:qv) (Q:VK),Inv X Fn σ H s->Vals xs us->r xs H Q->
  wpAny (model X.prog X.w) X.A (call f us) (EP X Fn σ Q) X.xe s
def tOp (r:R2)(ta tb:TE):TE:=fun σ H Q=>ta σ H λx H1=>tb σ H1 λy H2=>r x y H2 Q
def tUn (r:V->Hp->VK->Prop)(ta:TE):TE:=fun σ H Q=>ta σ H λx H1=>r x H1 Q
def rI (C:Int->Int->Prop)(g:Int->Int->V):R2:=λx y H Q=>∃i j,x=.int i/\y=.int j/\C i j/\Q (g i j) H
def RO (g:Int->Int->V):R2:=λx y H Q=>∃i j,x=.int i/\y=.int j/\Q (g i j) H
def rU (g:Int->V):V->Hp->VK->Prop:=λx H Q=>∃i,x=.int i/\Q (g i) H
section
variable {X:Cx}{a b c:Expr}{ta tb tc:TE}{pos:Pos}
theorem Oe (ha:PE X a ta)(hb:PE X b tb){R:V->V->Hp->Prop}(I:Inv X Fn σ H s)
  (h:ta σ H λx H1=>tb σ H1 λy H2=>R x y H2){Q:qk}{f:Value->Value->Sem Value}
  (hf:∀v u s2 x y H2,Inv X Fn σ H2 s2->RelV x v->RelV y u->R x y H2->wpAny (model X.prog X.w) X.A (f v u) Q X.xe s2):
  wpAny (model X.prog X.w) X.A (eval a X.env) (λv s₁=>wpAny (model X.prog X.w) X.A (eval b X.env) (λu s₂=>wpAny (model X.prog X.w) X.A (f v u) Q X.xe s₂) X.xe s₁) X.xe s:=by
 refine FX (ha Fn s σ H _ I h) ?_
 rintro v s1 ⟨x,H1,I1,r1,q1⟩
 refine FX (hb Fn s1 σ H1 _ I1 q1) ?_
 rintro u s2 ⟨y,H2,I2,r2,q2⟩
 exact hf v u s2 x y H2 I2 r1 r2 q2
theorem XS {op:Operator}{r:R2}(ho:G0 X (binaryOp op) r)(ha:PE X a ta)(hb:PE X b tb):PE X (.BinOp a op b pos) (tOp r ta tb):=by
 intro Fn s σ H Q I h
 exact wpAny_BinOp (Oe ha hb I h λv u s2 x y H2 I2 rx ry q=>ho Fn s2 σ H2 x y v u Q I2 rx ry q)
theorem XX {op:UnaryOp}{r:V->Hp->VK->Prop}(ho:UnR X (unaryOp op) r)(ha:PE X a ta):PE X (.UnaryOp op a pos) (tUn r ta):=by
 intro Fn s σ H Q I h
 exact UnaryOp_ (FX (ha Fn s σ H _ I h) λv s1 ⟨x,H1,I1,r1,q1⟩=>ho Fn s1 σ H1 x v Q I1 r1 q1)
theorem opI {f:Value->Value->Sem Value}{C:Int->Int->Prop}{g:Int->Int->Int}
  (rule:∀(i j:Int) (t u:Tok) (s:Shared) (Q:qk) (E:qk),C i j->Q (.int (g i j) s.toks) { s with toks:=s.toks+1 }->wpAny (model X.prog X.w) X.A (f (.int i t) (.int j u)) Q E s):
  G0 X f (rI C λi j=>.int (g i j)):=by
 intro Fn s σ H x y v u Q I rx ry h
 obtain⟨i,j,rfl,rfl,hc,q⟩:=h
 obtain⟨t,rfl⟩:=rx
 obtain⟨t',rfl⟩:=ry
 exact rule i j t t' s _ _ hc ⟨.int (g i j),H,I.tok _,⟨_,rfl⟩,q⟩
theorem Va {f:Value->Value->Sem Value}{g:Int->Int->Int}
  (rule:∀(i j:Int) (t u:Tok) (s:Shared) (Q:qk) (E:qk),Q (.int (g i j) s.toks) { s with toks:=s.toks+1 }->wpAny (model X.prog X.w) X.A (f (.int i t) (.int j u)) Q E s):
  G0 X f (RO λi j=>.int (g i j)):=by
 intro Fn s σ H x y v u Q I rx ry h
 obtain⟨i,j,rfl,rfl,q⟩:=h
 obtain⟨t,rfl⟩:=rx
 obtain⟨t',rfl⟩:=ry
 exact rule i j t t' s _ _ ⟨.int (g i j),H,I.tok _,⟨_,rfl⟩,q⟩
theorem Og {f:Value->Value->Sem Value}{g:Int->Int->Bool}
  (rule:∀(i j:Int) (t u:Tok) (s:Shared) (Q:qk) (E:qk),Q (.bool (g i j)) s->wpAny (model X.prog X.w) X.A (f (.int i t) (.int j u)) Q E s):
  G0 X f (RO λi j=>.bl (g i j)):=by
 intro Fn s σ H x y v u Q I rx ry h
 obtain⟨i,j,rfl,rfl,q⟩:=h
 obtain⟨t,rfl⟩:=rx
 obtain⟨t',rfl⟩:=ry
 exact rule i j t t' s _ _ ⟨.bl (g i j),H,I,rfl,q⟩
def Vb (i j:Int):Prop:=0 < j/\j < 1073741824
def Vc (i j:Int):Prop:=0<=j/\j<=1000000/\i.natAbs < 2 ^ 64
def YN (i j:Int):Prop:=(-(2 ^ 64) < i/\i < 2 ^ 64)\/(-(2 ^ 64) < j/\j < 2 ^ 64)
theorem YN.ok {i j:Int}(h:YN i j):IntMulOk i j:=by
 rcases h with ⟨h1,h2⟩ | ⟨h1,h2⟩
 ·exact .of_left (intBits_le_64 h1 h2)
 ·exact .of_right (intBits_le_64 h1 h2)
theorem Vd:G0 X (binaryOp .Add) (RO λi j=>.int (i+j)):=Va λ_ _ _ _ _ _ _ q=>add_int q
theorem Ve:G0 X (binaryOp .Sub) (RO λi j=>.int (i - j)):=Va λ_ _ _ _ _ _ _ q=>sub_int q
theorem Vf:G0 X (binaryOp .Mult) (rI YN λi j=>.int (i*j)):=opI λ_ _ _ _ _ _ _ hc q=>mul_int q hc.ok
theorem RD:G0 X (binaryOp .FloorDiv) (rI Vb λi j=>.int (i / j)):=opI λi j _ _ _ _ _ hc q=>by
 have h1:(0:Int) < j:=hc.1
 have h2:j < 1073741824:=hc.2
 exact floordiv_int (by omega) (by rw[Int.fdiv_eq_ediv_of_nonneg i (by omega)];exact q) (.inl (PyProof.noPylong_small (by omega)))
theorem Vg:G0 X (binaryOp .Mod) (rI (λ_ j=>0 < j) λi j=>.int (i % j)):=opI λi j _ _ _ _ _ hc q=>by
 have h1:(0:Int) < j:=hc
 exact mod_int' (by omega) (by rw[Int.fmod_eq_emod_of_nonneg i (by omega)];exact q)
theorem Vh:G0 X (binaryOp .Pow) (rI Vc λi j=>.int (i ^ j.toNat)):=opI λ_ _ _ _ _ _ _ hc q=>pow_int_small hc.1 hc.2.1 hc.2.2 q
theorem unI {f:Value->Sem Value}{g:Int->Int}
  (rule:∀(i:Int) (t:Tok) (s:Shared) (Q:qk) (E:qk),Q (.int (g i) s.toks) { s with toks:=s.toks+1 }->wpAny (model X.prog X.w) X.A (f (.int i t)) Q E s):
  UnR X f (rU λi=>.int (g i)):=by
 intro Fn s σ H x v Q I rx h
 obtain⟨i,rfl,q⟩:=h
 obtain⟨t,rfl⟩:=rx
 exact rule i t s _ _ ⟨.int (g i),H,I.tok _,⟨_,rfl⟩,q⟩
theorem Vi:UnR X (unaryOp .USub) (rU λi=>.int (-i)):=unI λ_ _ _ _ _ q=>neg_int q
end
noncomputable def Oh:V->V->Bool
 | .FE,.FE=>true | .FE,.int _=>true | .int _,.FE=>true | .FE,.bl _=>true | .bl _,.FE=>true | .FE,.str _=>true | .str _,.FE=>true
 | .int _,.int _=>true | .bl _,.bl _=>true | .str _,.str _=>true | .Sj _,.Sj _=>true
 | .int _,.str _=>true | .str _,.int _=>true | .bl _,.str _=>true | .str _,.bl _=>true
 | _,_=>false
def rEq:R2:=λx y H Q=>Oh x y=true/\Q (.bl (decide (x=y))) H
def rNe:R2:=λx y H Q=>Oh x y=true/\Q (.bl (!decide (x=y))) H
theorem HB {i j:Int}:decide (V.int i=V.int j)=(i == j):=by
 rw[gv]
 simp
theorem KC {i j:Bool}:decide (V.bl i=V.bl j)=(i == j):=by
 rw[gv]
 simp
theorem HD {i j:Str}:decide (V.str i=V.str j)=(i == j):=by
 rw[gv]
 simp
theorem HF {i j:Array UInt8}:decide (V.Sj i=V.Sj j)=(i.toList == j.toList):=by
 rw[gv]
 cases i
 cases j
 simp
variable {us:qv}
section
variable {X:Cx}{a b c:Expr}{ta tb tc:TE}{pos:Pos}
theorem bK {Q:VK}{k k':Bool}(I:Inv X Fn σ H s)(q:Q (.bl k) H)(e:k=k'):EP X Fn σ Q (.bool k') s:=by
 subst e
 exact⟨.bl k,H,I,rfl,q⟩
theorem X3:G0 X (compareOp .Eq) rEq:=by
 intro Fn s σ H x y v u Q I rx ry h
 obtain⟨hs,q⟩:=h
 cases x with
 | FE=>
  cases rx
  cases y with
  | FE=>cases ry;exact PySem.EqNone.eq_none_none (bK I q (by rfl))
  | bl j=>cases ry;exact PySem.EqNone.eq_none_bool (bK I q (by rfl))
  | int j=>obtain⟨t',rfl⟩:=ry;exact PySem.EqNone.eq_none_int (bK I q (by rfl))
  | str j=>obtain⟨t',rfl⟩:=ry;exact PySem.EqNone.eq_none_str (bK I q (by rfl))
  | _=>exact absurd (show false=true from hs) bd
 | bl i=>
  cases rx
  cases y with
  | FE=>cases ry;exact PySem.EqNone.eq_bool_none (bK I q (by rfl))
  | bl j=>cases ry;exact eq_bool (bK I q KC)
  | str j=>obtain⟨t',rfl⟩:=ry;exact PySem.EqMixed.eq_bool_str (bK I q (by rfl))
  | _=>exact absurd (show false=true from hs) bd
 | int i=>
  obtain⟨t,rfl⟩:=rx
  cases y with
  | FE=>cases ry;exact PySem.EqNone.eq_int_none (bK I q (by rfl))
  | int j=>obtain⟨t',rfl⟩:=ry;exact eq_int (bK I q HB)
  | str j=>obtain⟨t',rfl⟩:=ry;exact PySem.EqMixed.eq_int_str (bK I q (by rfl))
  | _=>exact absurd (show false=true from hs) bd
 | str i=>
  obtain⟨t,rfl⟩:=rx
  cases y with
  | FE=>cases ry;exact PySem.EqNone.eq_str_none (bK I q (by rfl))
  | bl j=>cases ry;exact PySem.EqMixed.eq_str_bool (bK I q (by rfl))
  | int j=>obtain⟨t',rfl⟩:=ry;exact PySem.EqMixed.eq_str_int (bK I q (by rfl))
  | str j=>obtain⟨t',rfl⟩:=ry;exact eq_str (bK I q HD)
  | _=>exact absurd (show false=true from hs) bd
 | Sj i=>
  obtain⟨t,rfl⟩:=rx
  cases y with
  | Sj j=>obtain⟨t',rfl⟩:=ry;exact W.eq_bytes (bK I q HF)
  | _=>exact absurd (show false=true from hs) bd
 | _=>cases y <;> exact absurd (show false=true from hs) bd
theorem X4:G0 X (compareOp .NotEq) rNe:=by
 intro Fn s σ H x y v u Q I rx ry h
 obtain⟨hs,q⟩:=h
 cases x with
 | FE=>
  cases rx
  cases y with
  | FE=>cases ry;exact PySem.EqNone.ne_none_none (bK I q (by rfl))
  | bl j=>cases ry;exact PySem.EqNone.ne_none_bool (bK I q (by rfl))
  | int j=>obtain⟨t',rfl⟩:=ry;exact PySem.EqNone.ne_none_int (bK I q (by rfl))
  | str j=>obtain⟨t',rfl⟩:=ry;exact PySem.EqNone.ne_none_str (bK I q (by rfl))
  | _=>exact absurd (show false=true from hs) bd
 | bl i=>
  cases rx
  cases y with
  | FE=>cases ry;exact PySem.EqNone.ne_bool_none (bK I q (by rfl))
  | bl j=>cases ry;exact ne_bool (bK I q (c5 not KC))
  | str j=>obtain⟨t',rfl⟩:=ry;exact PySem.EqMixed.ne_bool_str (bK I q (by rfl))
  | _=>exact absurd (show false=true from hs) bd
 | int i=>
  obtain⟨t,rfl⟩:=rx
  cases y with
  | FE=>cases ry;exact PySem.EqNone.ne_int_none (bK I q (by rfl))
  | int j=>obtain⟨t',rfl⟩:=ry;exact ne_int (bK I q (c5 not HB))
  | str j=>obtain⟨t',rfl⟩:=ry;exact PySem.EqMixed.ne_int_str (bK I q (by rfl))
  | _=>exact absurd (show false=true from hs) bd
 | str i=>
  obtain⟨t,rfl⟩:=rx
  cases y with
  | FE=>cases ry;exact PySem.EqNone.ne_str_none (bK I q (by rfl))
  | bl j=>cases ry;exact PySem.EqMixed.ne_str_bool (bK I q (by rfl))
  | int j=>obtain⟨t',rfl⟩:=ry;exact PySem.EqMixed.ne_str_int (bK I q (by rfl))
  | str j=>obtain⟨t',rfl⟩:=ry;exact ne_str (bK I q (c5 not HD))
  | _=>exact absurd (show false=true from hs) bd
 | Sj i=>
  obtain⟨t,rfl⟩:=rx
  cases y with
  | Sj j=>obtain⟨t',rfl⟩:=ry;exact W.ne_bytes (bK I q (c5 not HF))
  | _=>exact absurd (show false=true from hs) bd
 | _=>cases y <;> exact absurd (show false=true from hs) bd
theorem X5:G0 X (compareOp .Lt) (RO λi j=>.bl (decide (i < j))):=Og λ_ _ _ _ _ _ _ q=>lt_int q
theorem Q9:G0 X (compareOp .LtE) (RO λi j=>.bl (decide (i<=j))):=Og λ_ _ _ _ _ _ _ q=>le_int q
theorem X6:G0 X (compareOp .Gt) (RO λi j=>.bl (decide (j < i))):=Og λ_ _ _ _ _ _ _ q=>gt_int q
theorem KD:G0 X (compareOp .In) (λx y H Q=>∃i j,x=.str i/\y=.str j/\Q (.bl (!(Builtin.Str.occurrences j i 0 j.length 1).isEmpty)) H):=by
 intro Fn s σ H x y v u Q I rx ry h
 obtain⟨i,j,rfl,rfl,q⟩:=h
 obtain⟨t,rfl⟩:=rx
 obtain⟨t',rfl⟩:=ry
 exact in_str (bK I q rfl)
theorem Vj:G0 X (compareOp .Is) (λx y H Q=>y=.FE/\Q (.bl (decide (x=.FE))) H):=by
 intro Fn s σ H x y v u Q I rx ry h
 obtain⟨rfl,q⟩:=h
 cases ry
 refine is_none_gen (bK I q ?_)
 cases x <;> first
  | (cases rx;rfl)
  | (obtain⟨t,rfl⟩:=rx;rfl)
theorem RG:G0 X (compareOp .IsNot) (λx y H Q=>y=.FE/\Q (.bl (!decide (x=.FE))) H):=by
 intro Fn s σ H x y v u Q I rx ry h
 obtain⟨rfl,q⟩:=h
 cases ry
 refine isnot_none_gen (bK I q ?_)
 cases x <;> first
  | (cases rx;rfl)
  | (obtain⟨t,rfl⟩:=rx;rfl)
theorem G0.or {f:Value->Value->Sem Value}{r r':R2}(h:G0 X f r)(h':G0 X f r'):G0 X f (λx y H Q=>r x y H Q\/r' x y H Q):=by
 intro Fn s σ H x y v u Q I rx ry q
 rcases q with q | q
 ·exact h Fn s σ H x y v u Q I rx ry q
 ·exact h' Fn s σ H x y v u Q I rx ry q
theorem uf (b:Expr){op:CmpOp}(h:autoParam (op≠.In) r1_)(h2:autoParam (op≠.NotIn) r1_):behindInMarks op b=false:=by
 have e1:(op == CmpOp.In)=false:=by cases op <;> first | rfl | exact absurd rfl h
 have e2:(op == CmpOp.NotIn)=false:=by cases op <;> first | rfl | exact absurd rfl h2
 cases b <;> simp[behindInMarks,e1,e2]
theorem RJ {op:CmpOp}{r:R2}(ho:G0 X (compareOp op) r)(ha:PE X a ta)(hb:PE X b tb)(hm:behindInMarks op b=false):PE X (.Compare a [op] [b] pos) (tOp r ta tb):=by
 intro Fn s σ H Q I h
 exact wpAny_Compare1 (Oe ha hb I h λv u s2 x y H2 I2 rx ry q=>ho Fn s2 σ H2 x y v u Q I2 rx ry q) hm
def X7 (t:TE):TT:=fun σ H Q=>t σ H λx H'=>∃k,x=.bl k/\Q k H'
theorem RK {op:CmpOp}{r:R2}(ho:G0 X (compareOp op) r)(ha:PE X a ta)(hb:PE X b tb)(hm:behindInMarks op b=false):PT X (.Compare a [op] [b] pos) (X7 (tOp r ta tb)):=by
 intro Fn s σ H Q I h
 refine wpAny_isTrue_Compare1 (FX (ha Fn s σ H _ I h) λv s1 ⟨x,H1,I1,r1,q1⟩=>FX (hb Fn s1 σ H1 _ I1 q1) λu s2 ⟨y,H2,I2,r2,q2⟩=>
  FX (ho Fn s2 σ H2 x y v u _ I2 r1 r2 q2) λc s3 ⟨z,H3,I3,r3,k,e,q3⟩=>?_) hm
 subst e
 cases r3
 exact eD ⟨H3,I3,q3⟩
def Vk (r r':R2)(ta tb tc:TE):TE:=fun σ H Q=>ta σ H λx H1=>tb σ H1 λy H2=>r x y H2 λz H3=>∃k,z=.bl k /\
 (if k=true then tc σ H3 λw' H4=>r' y w' H4 Q else Q (.bl false) H3)
theorem Oi {op op':CmpOp}{r r':R2}(ho:G0 X (compareOp op) r)(Sr:G0 X (compareOp op') r')(ha:PE X a ta)(hb:PE X b tb)(hc:PE X c tc)
  (hm:autoParam (lastMarks [op,op'] [b,c]=false) r11_):PE X (.Compare a [op,op'] [b,c] pos) (Vk r r' ta tb tc):=by
 intro Fn s σ H Q I h
 refine Compare_chain (FX (ha Fn s σ H _ I h) λv s1 ⟨x,H1,I1,r1,q1⟩=>chain_link (FX (hb Fn s1 σ H1 _ I1 q1) λu s2 ⟨y,H2,I2,r2,q2⟩=>
  FX (ho Fn s2 σ H2 x y v u _ I2 r1 r2 q2) λd s3 ⟨z,H3,I3,r3,k,e,q3⟩=>?_)) hm
 subst e
 cases r3
 refine eD ?_
 cases k with
 | false=>exact ite_ff ⟨.bl false,H3,I3,rfl,q3⟩
 | true=>exact ite_tt (chain_last (FX (hc Fn s3 σ H3 _ I3 q3) λw' s4 ⟨z',H4,I4,r4,q4⟩=>Sr Fn s4 σ H4 y z' u w' Q I4 r2 r4 q4))
theorem ug:(sizeLine:Nat) < 2 ^ 63:=by rw[oB];decide
theorem Jj:G0 X (binaryOp .Add) (λx y H Q=>∃i j,x=.str i/\y=.str j/\i.length+j.length<=sizeLine/\Q (.str (i++j)) H):=by
 intro Fn s σ H x y v u Q I rx ry h
 obtain⟨i,j,rfl,rfl,hz,q⟩:=h
 obtain⟨t,rfl⟩:=rx
 obtain⟨t',rfl⟩:=ry
 exact add_str (λt' tk=>⟨.str (i++j),H,I.tok _,⟨_,rfl⟩,q⟩) hz
theorem vals1 {x:V}(r:Vals [x] us):∃u,us=[u]/\RelV x u:=by
 cases r with
 | cons r1 r2=>cases r2;exact⟨_,rfl,r1⟩
theorem vals2 {x y:V}(r:Vals [x,y] us):∃u w',us=[u,w']/\RelV x u/\RelV y w':=by
 cases r with
 | cons r1 r2=>
  cases r2 with
  | cons r3 r4=>cases r4;exact⟨_,_,rfl,r1,r3⟩
theorem KH (hc:X.calm=true):F6 X (.builtin "min") (λxs H Q=>∃i j,xs=[.int i,.int j]/\Q (.int (if j < i then j else i)) H):=by
 intro Fn s σ H xs us Q I r h
 obtain⟨i,j,rfl,q⟩:=h
 obtain⟨u,w',rfl,⟨t,rfl⟩,⟨t',rfl⟩⟩:=vals2 r
 refine min_two_ints (I.ok.hd hc) λh' tk k=>⟨_,H,I.kept k,?_,q⟩
 by_cases hj:j < i
 ·rw[ba hj,ba hj];exact⟨_,rfl⟩
 ·rw[ax hj,ax hj];exact⟨_,rfl⟩
theorem KJ:F6 X (.type "int") (λxs H Q=>(∃i,xs=[.int i]/\Q (.int i) H)\/∃k,xs=[.bl k]/\Q (.int (if k then 1 else 0)) H):=by
 intro Fn s σ H xs us Q I r h
 rcases h with ⟨i,rfl,q⟩ | ⟨k,rfl,q⟩
 ·obtain⟨u,rfl,t,rfl⟩:=vals1 r
  exact call_int_int ⟨.int i,H,I,⟨_,rfl⟩,q⟩
 ·obtain⟨u,rfl,r1⟩:=vals1 r
  cases r1
  exact call_int_bool ⟨.int (if k then 1 else 0),H,I.tok _,⟨_,rfl⟩,q⟩
end
structure Pw (h:Heap)(x dx C:Addr)(mA:Str->Option Value):Prop where
 obj:h.get? x=some (W.instObj C dx)
 ns:h.Ns1 dx mA
 ne:dx≠x
theorem KN {dx:Addr}{mA:Str->Option Value}(n:h.Ns1 dx mA):∃od,h.get? dx=some od/\∀name,W.lookIn name od=some (mA name):=by
 obtain⟨o,es,ep,ho,hd,hk,_,hm⟩:=n
 refine⟨o,ho,λname=>?_⟩
 have e:=hm name
 unfold nsFind findBy at e
 rw[← Array.find?_toList] at e
 unfold W.lookIn
 rw[hd]
 dsimp only
 split
 ·rename_i y q
  rw[q] at e
  exact c5 some e
 ·rename_i q
  rw[q] at e
  have a:es.toList.any (·.refKey)=false:=by
   rw[List.any_eq_false]
   intro y hy
   obtain⟨z,t,hkey⟩:=hk y (Array.mem_toList_iff.mp hy)
   simp[DictEntry.refKey,hkey]
  have a':¬ es.toList.any (·.refKey)=true:=by rw[a];exact bd
  rw[ax a']
  exact c5 some e
theorem Pw.look {x dx C:Addr}{mA:Str->Option Value}(I:Pw h x dx C mA):∃od,W.InstAt h x (W.instObj C dx) C (some od)/\∀name,W.lookIn name od=some (mA name):=
 let ⟨od,ho,hl⟩:=KN I.ns
 ⟨od,⟨I.obj,rfl,rfl,ho⟩,hl⟩
variable {kw:List (Str×Value)}
section
variable {prog:Program}{w:World}{A:Around}{E:qk}{s:Shared}{K:W.Frag}{x dx C f:Addr}{mA:Str->Option Value}{name:Str}{v:Value}
theorem RL {expr:Bool}{Q:qk}(X:K.In s.heap)(I:Pw s.heap x dx C mA)(hg:W.plainGet K C name=true)(hh:W.hasDictIn K C=true)
  (ha:W.findIn K (.ref C) name=some none) (hv:mA name=some v) (hv':W.handedIn v=true) (h:Q v { s with toks:=s.toks+1 }):
  wpAny (model prog w) A (getAttr (.ref x) name expr) Q E s:=by
 obtain⟨od,J,hl⟩:=I.look
 exact W.get_value X J (l5 hg).1 (W.findObj_own hh ha rfl (by rw[hl,hv])) hv' h
theorem Oj {pl:Sem Bool}{Q:Value×List Value->Shared->Prop}(X:K.In s.heap)(I:Pw s.heap x dx C mA)(hg:W.plainGet K C name=true)
  (hf:W.findIn K (.ref C) name=some (some (.ref f))) (ht:W.isFn K (.ref f)=true) (hv:mA name=none) (h:Q (.ref f,[.ref x]) s):
  wpAny (model prog w) A (getMethod (.ref x) name pl) Q E s:=by
 obtain⟨od,J,hl⟩:=I.look
 exact W.method_fn X J (l5 hg).1 (l5 hg).2 hf (ip.mp ht) (by show (W.lookIn name od).map (·.isSome)=some false;rw[hl,hv];rfl) h
theorem RM {ns:qE}(X:K.In s.heap)(I:Pw s.heap x dx C mA)
  (hs:W.findIn K (.ref C) "__setattr__" = some (some (.builtin "object.__setattr__"))) (hp:W.plainOver K C=true) (ht:W.takerIn K C name=some none) (hh:W.hasDictIn K C=true)
  (hw:PySem.Within mA ns) (hsz:ns.length<=sizeLine)
  (h:∀h',Pw h' x dx C (λy=>if y=name then some v else mA y)->Heap.SameBut dx s.heap h'->Q () { s with heap:=h',toks:=s.toks+2 }):
  wpAny (model prog w) A (setAttr (.ref x) name v) Q E s:=by
 obtain⟨od,J,hl⟩:=I.look
 refine W.set_plain X J hs (W.osa_open (s:={ s with toks:=s.toks+1 }) (r:=none) X J hp ht λb=>?_)
 obtain⟨cd,hc,hd'⟩:=W.any_some hh
 have hx:s.heap.get? x=some ⟨.ref C,some dx,.plain,#[]⟩:=I.obj
 refine ab (ag (ab (ab (wpAny_loadPart hx (ab (W.Looks.here (s:={ s with toks:=s.toks+1 }) (W.looks_clsIn X hc) ?_))))))
 rw[hd']
 refine ag (a:=some dx) (ab (ag (ab ?_)))
 refine wpAny_nsSet1 (s:={ s with toks:=s.toks+1 }) I.ns λh' hn2 JO=>?_
 obtain⟨oD,esD,epD,hoD,hdD,hcD⟩:=hn2.count (PySem.Within.cons name v hw)
 refine ab (wpAny_lookBehind hoD (by rw[hdD];exact pastItsLine_dict (cm hcD (by rw[bg];omega))) ?_)
 exact ag (h _ ⟨(JO.2 _ (fg I.ne)).trans I.obj,hn2,I.ne⟩ JO)
theorem Ol {R:Result->Shared->Prop}{vs:qv}(X:K.In s.heap)(hm:W.makesIn K C=true)
  (hi:W.findIn K (.ref C) "__init__" = some (some (.ref f))) (hf:W.typeIn K (.ref f)=some (.type "function"))
  (h:codeAny (model prog w) (A.under (.builtin "type.__call__" ⟨.ref C::vs,kw⟩)) (.call (.ref f) ⟨.ref (s.heap.objs.size+1)::vs,kw⟩) (W.InitBack (s.heap.objs.size+1) R)
   { s with heap:=(s.heap.push W.emptyDict).push (W.instObj C s.heap.objs.size) }):
  codeAny (model prog w) A (.call (.ref C) ⟨vs,kw⟩) R s:=by
 obtain⟨hh,g,d,t,os⟩:=s
 exact W.make_core (W.makes_of X hm) (W.looks_findIn X hi) (λself=>W.bind_fn X self hf) (.inl rfl) h
end
noncomputable def iQ (f:Str)(v:V):List (Str×V)->List (Str×V)
 | []=>[(f,v)]
 | (g,x)::r=>if g=f then (g,v)::r else (g,x)::iQ f v r
theorem ye (f g:Str)(v:V):∀fs:List (Str×V),(iQ f v fs).lookup g=if g=f then some v else fs.lookup g
 | []=>by
  show List.lookup g [(f,v)]=_
  by_cases h:g=f
  ·have hb:(g == f)=true:=ip.mpr h
   simp only[List.lookup,hb,ba h]
  ·have hb:(g == f)=false:=dL.mpr h
   simp only[List.lookup,hb,ax h]
 | (k,x)::r=>by
  have ih:=ye f g v r
  rw[show iQ f v ((k,x)::r)=(if k=f then (k,v)::r else (k,x)::iQ f v r) from rfl]
  by_cases hk:k=f
  ·rw[ba hk]
   by_cases h:g=k
   ·have hb:(g == k)=true:=ip.mpr h
    simp only[List.lookup,hb,ba (h.trans hk)]
   ·have hb:(g == k)=false:=dL.mpr h
    simp only[List.lookup,hb,ax (λe:g=f=>h (e.trans hk.symm))]
  ·rw[ax hk]
   by_cases h:g=k
   ·have hb:(g == k)=true:=ip.mpr h
    simp only[List.lookup,hb,ax (λe:g=f=>hk (h.symm.trans e))]
   ·have hb:(g == k)=false:=dL.mpr h
    simp only[List.lookup,hb]
    exact ih
theorem vJ (f:Str)(v:V):∀fs:List (Str×V),f∈(iQ f v fs).map (·.1)/\∀g,g∈fs.map (·.1)->g∈(iQ f v fs).map (·.1)
 | []=>⟨by simp[iQ],λg h=>by simp at h⟩
 | (k,x)::r=>by
  obtain⟨i1,i2⟩:=vJ f v r
  rw[show iQ f v ((k,x)::r)=(if k=f then (k,v)::r else (k,x)::iQ f v r) from rfl]
  by_cases hk:k=f
  ·rw[ba hk]
   subst hk
   exact⟨by simp,λg h=>by simpa using h⟩
  ·rw[ax hk]
   refine⟨?_,λg h=>?_⟩
   ·rw[al]
    exact ah _ i1
   ·rw[al] at h ⊢
    rcases aI.mp h with e | e
    ·exact aI.mpr (.inl e)
    ·exact ah _ (i2 g e)
theorem yf (f:Str)(v:V):∀fs:List (Str×V),(iQ f v fs).length<=fs.length+1
 | []=>by simp[iQ]
 | (k,x)::r=>by
  have ih:=yf f v r
  rw[show iQ f v ((k,x)::r)=(if k=f then (k,v)::r else (k,x)::iQ f v r) from rfl]
  by_cases hk:k=f
  ·rw[ba hk,bg,bg];omega
  ·rw[ax hk,bg,bg];omega
theorem JJ.some_of {v:V}{o:Option Value}(r:JJ (some v) o):∃u,o=some u/\RelV v u:=by
 cases o with
 | none=>exact(show False from r).elim
 | some u=>exact⟨u,rfl,r⟩
theorem JJ.none_of {o:Option Value}(r:JJ none o):o=none:=by
 cases o with
 | none=>rfl
 | some u=>exact(show False from r).elim
theorem KQ {v:V}(r:RelV v u):W.handedIn u=true:=by
 cases v with
 | FE=>cases (show u=Value.none from r);rfl
 | bl b=>cases (show u=Value.bool b from r);rfl
 | int i=>obtain⟨t,e⟩:=(show ∃t,u=Value.int i t from r);cases e;rfl
 | str x=>obtain⟨t,e⟩:=(show ∃t,u=Value.str x t from r);cases e;rfl
 | Sj b=>obtain⟨t,e⟩:=(show ∃t,u=Value.bytes b t from r);cases e;rfl
 | flt b=>obtain⟨t,e⟩:=(show ∃t,u=Value.float b t from r);cases e;rfl
 | ref a=>cases (show u=Value.ref a from r);rfl
 | ty n=>cases (show u=Value.type n from r);rfl
section
variable {P:Program}{w:World}{H H':Hp}{h h':Heap}{a C dx:Addr}{fs fs':List (Str×V)}
theorem wZ (FH:KL P w K H h)(e:H a=some (.ins C dx fs)):∃mA,Pw h a dx C mA/\(∀f,JJ (fs.lookup f) (mA f))/\PySem.Within mA (fs.map (·.1))/\fs.length<=1000/\H dx=some (.own a):=by
 obtain⟨d,z,ne,ob,mA,n,r,q⟩:=(show FK P w K H h a (.ins C dx fs) from FH a _ e)
 exact⟨mA,⟨ob,n,ne⟩,r,q,z,d⟩
end
structure N9 (K:W.Frag)(C:Addr):Prop where
 pg:W.plainGet K C Str.empty=true
 hd:W.hasDictIn K C=true
 po:W.plainOver K C=true
 sa:W.findIn K (.ref C) "__setattr__" = some (some (.builtin "object.__setattr__"))
theorem N9.get {C:Addr}(c:N9 K C)(f:Str):W.plainGet K C f=true:=c.pg
def GI (K:W.Frag)(C:Addr)(f:Str):Prop:=W.findIn K (.ref C) f=some none
theorem GI.taker {C:Addr}{f:Str}(n:GI K C f):W.takerIn K C f=some none:=by
 unfold W.takerIn
 rw[show W.findIn K (.ref C) f=some none from n]
 rfl
structure Meth (K:W.Frag)(C:Addr)(m:Str)(f:Addr):Prop where
 at_:W.findIn K (.ref C) m=some (some (.ref f))
 fn:W.isFn K (.ref f)=true
 kp:W.keepIn K (.ref f)=true
section
variable {X:Cx}{Fn:qo}{σ:St}{H:Hp}{s:Shared}{a C dx:Addr}{fs:List (Str×V)}{f:Str}{v:V}{A:Around}{E:qk}
theorem Jk {b:Bool}{Q:qk}(I:Inv X Fn σ H s)(e:H a=some (.ins C dx fs))(c:N9 X.K C)(n:GI X.K C f)(l:fs.lookup f=some v)
  (h:∀u s',Inv X Fn σ H s'->RelV v u->Q u s'):wpAny (model X.prog X.w) A (getAttr (.ref a) f b) Q E s:=by
 obtain⟨mA,O,r,_,_,_⟩:=wZ I.FH e
 obtain⟨u,hu,ru⟩:=JJ.some_of (v:=v) (o:=mA f) (by rw[← l];exact r f)
 exact RL I.HU O (c.get f) c.hd n hu (KQ ru) (h u _ (I.tok _) ru)
theorem yZ {m:Str}{g:Addr}{pl:Sem Bool}{Q:Value×List Value->Shared->Prop}(I:Inv X Fn σ H s)(e:H a=some (.ins C dx fs))(c:N9 X.K C)(k:Meth X.K C m g)(l:fs.lookup m=none)
  (h:Q (.ref g,[.ref a]) s):wpAny (model X.prog X.w) A (getMethod (.ref a) m pl) Q E s:=by
 obtain⟨mA,O,r,_,_,_⟩:=wZ I.FH e
 have hn:mA m=none:=JJ.none_of (by rw[← l];exact r m)
 exact Oj I.HU O (c.get m) k.at_ k.fn hn h
theorem Jl {y:V}(I:Inv X Fn σ H s)(e:H a=some (.ins C dx fs))(c:N9 X.K C)(n:GI X.K C f)(hl:fs.length < 1000)(ry:RelV y u)
  (h:∀s',Inv X Fn σ (upd H a (.ins C dx (iQ f y fs))) s'->Q () s'):wpAny (model X.prog X.w) A (setAttr (.ref a) f u) Q E s:=by
 obtain⟨mA,O,r,wi,_,ho⟩:=wZ I.FH e
 have hz:(fs.map (·.1)).length<=sizeLine:=by rw[ac,oB];omega
 refine RM I.HU O c.sa c.po n.taker c.hd wi hz λh' O' sb=>h _ ?_
 have hd:∃o,h'.get? dx=some o:=let ⟨o,_,_,e',_⟩:=O'.ns;⟨o,e'⟩
 refine I.write (x:=a) (e:=dx) (by rw[e];exact eS) (.inr ho) (λb q hb z=>(sb.2 b hb).trans z) hd ?_
 refine⟨by rw[aO O.ne];exact ho,?_,O.ne,O'.obj,_,O'.ns,λg=>?_,λg hg=>?_⟩
 ·have:=yf f y fs;omega
 ·show JJ ((iQ f y fs).lookup g) (if g=f then some u else mA g)
  rw[ye]
  by_cases q:g=f
  ·rw[ba q,ba q];exact ry
  ·rw[ax q,ax q];exact r g
 ·by_cases q:g=f
  ·rw[q];exact(vJ f y fs).1
  ·refine(vJ f y fs).2 g (wi g λz=>hg ?_)
   show (if g=f then some u else mA g)=none
   rw[ax q];exact z
theorem Inv.made (I:Inv X Fn σ H s):Inv X Fn σ (upd (upd H s.heap.objs.size (.own (s.heap.objs.size+1))) (s.heap.objs.size+1) (.ins C s.heap.objs.size []))
  { s with heap:=(s.heap.push W.emptyDict).push (W.instObj C s.heap.objs.size) }:=by
 have e1:(s.heap.push W.emptyDict).get? s.heap.objs.size=some W.emptyDict:=ap s.heap rfl
 have e2:((s.heap.push W.emptyDict).push (W.instObj C s.heap.objs.size)).get? (s.heap.objs.size+1)=some (W.instObj C s.heap.objs.size):=by
  have:=ap (s.heap.push W.emptyDict) (o:=W.instObj C s.heap.objs.size) rfl
  rwa [dn] at this
 have e3:(s.heap.push W.emptyDict).Ns s.heap.objs.size (λ_=>none):=⟨W.emptyDict,#[],_,e1,rfl,(λe he=>absurd he (by simp)),λ_=>rfl⟩
 have I1:=I.laid (a:=s.heap.objs.size) (o:=.own (s.heap.objs.size+1)) (h':=s.heap.push W.emptyDict) (t':=s.toks) (λb u q=>af _ q) (aw _) ⟨_,e1⟩
 refine I1.laid (a:=s.heap.objs.size+1) (o:=.ins C s.heap.objs.size []) (t':=s.toks) (λb u q=>af _ q) (p5 (dn _ _)) ?_
 have ne:s.heap.objs.size≠s.heap.objs.size+1:=bt (iX _)
 refine⟨by rw[aO ne,bu],eA _,ne,e2,λ_=>none,(Heap.Ns1.of_empty e3).at λo q=>af _ q,λ_=>eS,λy hy=>absurd rfl hy⟩
theorem RN {prog:Program}{env:Env}{e:Expr}{f:Str}{s:Shared}{Q:qk}(hb:attributeBase e f env (eval e env)=eval e env)
  (h:wpAny (model prog w) A (eval e env) (λo s₁=>wpAny (model prog w) A (getAttr o f true) Q E s₁) E s):wpAny (model prog w) A (eval (.Attribute e f pos) env) Q E s:=
 Attribute_any_ h (by rw[arm_eval_Attribute,hb])
end
def Zh (K:W.Frag)(ta:TE)(f:Str):TE:=fun σ H Q=>ta σ H λx H1=>∃a C dx fs v,x=.ref a/\H1 a=some (.ins C dx fs)/\N9 K C/\GI K C f/\fs.lookup f=some v/\Q v H1
def Zi (K:W.Frag)(ta tv:TE)(f:Str):TS:=λD σ H=>tv σ H λy H1=>ta σ H1 λx H2=>∃a C dx fs,x=.ref a/\H2 a=some (.ins C dx fs)/\N9 K C/\GI K C f/\fs.length < 1000 /\
 D.nx σ (upd H2 a (.ins C dx (iQ f y fs)))
section
variable {X:Cx}{o e value:Expr}{f:Str}{pos pos' tpos:Pos}{ta tv:TE}
theorem Vm (he:PE X e ta)(hb:attributeBase e f X.env (eval e X.env)=eval e X.env):PE X (.Attribute e f pos) (Zh X.K ta f):=by
 intro Fn s σ H Q I h
 refine RN hb (FX (he Fn s σ H _ I h) ?_)
 rintro u s1 ⟨x,H1,I1,rx,a,C,dx,fs,v,ex,ea,c,n,l,q⟩
 subst ex
 obtain rfl:u=Value.ref a:=rx
 exact Jk I1 ea c n l λu' s2 I2 ru=>⟨v,H1,I2,ru,q⟩
theorem Vn (ha:PE X o ta)(hv:PE X value tv)(hs:swapsWith value (some (.Attribute o f pos')) pos.line X.env=pure false):PS X (.Assign [.Attribute o f pos'] value pos) (Zi X.K ta tv f):=by
 intro Fn s σ H D I h
 refine plainObj_wpAny_Assign_Attribute (FX (hv Fn s σ H _ I h) λu s1 ⟨y,H1,I1,ry,q⟩=>FX (ha Fn s1 σ H1 _ I1 q) ?_) hs
 rintro ov s2 ⟨x,H2,I2,rx,a,C,dx,fs,ex,ea,c,n,l,q2⟩
 subst ex
 obtain rfl:ov=Value.ref a:=rx
 exact Jl I2 ea c n l ry λs3 I3=>⟨σ,_,I3,q2⟩
end
section
variable {X:Cx}{Fn:qo}{σ:St}{H:Hp}{s:Shared}{A:Around}{E:qk}{Q:qk}{c:Value}{b:Bool}
inductive KW (K:W.Frag) (H:Hp):V->Value->Prop where
 | FE:KW K H .FE (.type "NoneType")
 | bl (x:Bool):KW K H (.bl x) (.type "bool")
 | int (i:Int):KW K H (.int i) (.type "int")
 | str (x:Str):KW K H (.str x) (.type "str")
 | flt (x:UInt64):KW K H (.flt x) (.type "float")
 | lst {a:Addr}{xs:List V}(e:H a=some (.lst xs)):KW K H (.ref a) (.type "list")
 | frz {a:Addr}{o:Obj}{xs:List V}(e:H a=some (.frz o (.lst xs))):KW K H (.ref a) (.type "list")
 | tup {a:Addr}{xs:List V}(e:H a=some (.tup xs)):KW K H (.ref a) (.type "tuple")
 | MB {a:Addr}{xs:List V}(e:RI K a xs):KW K H (.ref a) (.type "tuple")
 | dK {a:Addr}{kvs:List (Key×V)}(e:H a=some (.dK kvs)):KW K H (.ref a) (.type "dict")
 | dT {a:Addr}{kvs:List (List Key×V)}(e:H a=some (.dT kvs)):KW K H (.ref a) (.type "dict")
 | ins {a C dx:Addr}{fs:List (Str×V)}(e:H a=some (.ins C dx fs)) (cl:N9 K C) (ha:W.findIn K (.ref C) "__class__" = some (some (.builtin "object.__class__")))
   (hn:W.specialIn K (.builtin "object.__class__") "__get__" = some (some (.builtin "getset_descriptor.__get__"))) (htk:W.takesIn K (.builtin "object.__class__")=some true)
   (hm:W.mroIn K C (.type "object")=some true):KW K H (.ref a) (.ref C)
theorem KR {x:V}{t:Value}(I:Inv X Fn σ H s)(rx:RelV x u)(ty:KW X.K H x t)(e:W.kitOne X.K t c=some b)(h:∀tk,Q (.bool b) { s with toks:=tk }):
  wpAny (model X.prog X.w) A (call (.builtin "isinstance") [u,c]) Q E s:=by
 cases ty with
 | FE=>cases (show u=Value.none from rx);exact dv W.kitx_none I.HU eS e (λz=>nomatch z) h
 | bl y=>cases (show u=Value.bool y from rx);exact dv W.kitx_bool I.HU eS e (λz=>nomatch z) h
 | int i=>obtain⟨t,q⟩:=(show ∃t,u=Value.int i t from rx);cases q;exact dv W.kitx_int I.HU eS e (λz=>nomatch z) h
 | str y=>obtain⟨t,q⟩:=(show ∃t,u=Value.str y t from rx);cases q;exact dv W.kitx_str I.HU eS e (λz=>nomatch z) h
 | flt y=>obtain⟨t,q⟩:=(show ∃t,u=Value.float y t from rx);cases q;exact dv W.kitx_float I.HU eS e (λz=>nomatch z) h
 | @lst a xs ea=>
  cases (show u=Value.ref a from rx)
  obtain⟨_,_,n,_,h1⟩:=(show FK X.prog X.w X.K H s.heap a (.lst xs) from I.FH a _ ea)
  exact dv W.kitx_list I.HU ⟨_,h1,rfl⟩ e (λz=>nomatch z) h
 | @frz a ob xs ea=>
  cases (show u=Value.ref a from rx)
  obtain⟨_,_,_,n,_,h1⟩:=(show FK X.prog X.w X.K H s.heap a (.frz ob (.lst xs)) from I.FH a _ ea)
  exact dv W.kitx_list I.HU ⟨_,h1,rfl⟩ e (λz=>nomatch z) h
 | @tup a xs ea=>
  cases (show u=Value.ref a from rx)
  obtain⟨_,_,_,p⟩:=(show FK X.prog X.w X.K H s.heap a (.tup xs) from I.FH a _ ea)
  obtain⟨o,h1,h2,_⟩:=p
  exact dv W.kitx_tuple I.HU ⟨o,h1,h2⟩ e (λz=>nomatch z) h
 | @MB a xs e1=>
  cases (show u=Value.ref _ from rx)
  obtain⟨o,its,n,g1,g2,g3,_⟩:=e1
  exact dv W.kitx_tuple I.HU ⟨o,I.HU _ o g1,g2⟩ e (λz=>nomatch z) h
 | @dK a kvs ea=>
  cases (show u=Value.ref a from rx)
  obtain⟨_,_,vs,_,p⟩:=(show FK X.prog X.w X.K H s.heap a (.dK kvs) from I.FH a _ ea)
  obtain⟨o,es,ep,h1,h2,_⟩:=p
  exact dv W.kitx_dict I.HU ⟨o,h1,h2.1⟩ e (λz=>nomatch z) h
 | @dT a kvs ea=>
  cases (show u=Value.ref a from rx)
  obtain⟨_,_,xs,_,o,es,ep,h1,h2,_⟩:=(show FK X.prog X.w X.K H s.heap a (.dT kvs) from I.FH a _ ea)
  exact dv W.kitx_dict I.HU ⟨o,h1,h2.1⟩ e (λz=>nomatch z) h
 | @ins a C dx fs ea cl ha hn htk hm=>
  cases (show u=Value.ref a from rx)
  obtain⟨mA,O,_⟩:=wZ I.FH ea
  obtain⟨od,J,_⟩:=O.look
  exact dv (W.kitx_own (cl.get _) cl.hd ha hn htk hm) I.HU J e (λz=>nomatch z) h
end
structure F0 (k:Nat)(A:Around):Prop where
 hd:A.handled=none
 dp:A.depth+3*k+5 < recursionLimit
 un:A.units+16*k+200 < cLine
theorem F0.mono {j k:Nat}(r:F0 k A)(h:j<=k):F0 j A:=⟨r.hd,by have:=r.dp;omega,by have:=r.un;omega⟩
theorem F0.deeper {k:Nat}{A:Around}(r:F0 (k+1) A)(env:Env):F0 k (A.deeper env):=
 ⟨r.hd,by have:=r.dp;show A.depth+1+3*k+5 < _;omega,by have:=r.un;show A.units+3+16*k+200 < _;omega⟩
theorem Jm {C:Addr}:(A.under (.builtin "type.__call__" ⟨.ref C::us,kw⟩)).depth=A.depth+1:=by
 first | rfl | simp[Around.under,Code.weight,Code.isCreation,Code.isGuard,Code.isCaller,Code.frames,Code.isFrame,guardIds]
theorem Jo {C:Addr}:(A.under (.builtin "type.__call__" ⟨.ref C::us,kw⟩)).units=A.units+1:=by
 first | rfl | simp[Around.under,Code.cUnits,Code.frames,Code.isFrame]
theorem F0.make {k:Nat}(r:F0 (k+1) A)(C:Addr)(us:qv)(kw:List (Str×Value)):F0 k (A.under (.builtin "type.__call__" ⟨.ref C::us,kw⟩)):=
 ⟨r.hd,by have:=r.dp;rw[Jm];omega,by have:=r.un;rw[Jo];omega⟩
theorem F0.depth {k:Nat}{A:Around}(r:F0 k A):A.depth < recursionLimit:=by have:=r.dp;omega
theorem F0.units {k:Nat}{A:Around}(r:F0 k A):A.units+64 < cLine:=by have:=r.un;omega
def Vo:TA:=λ_ H Q=>Q [] H
def X8 (ta:TE)(tr:TA):TA:=fun σ H Q=>ta σ H λx H1=>tr σ H1 λxs H2=>Q (x::xs) H2
section
variable {X:Cx}{e:Expr}{es:qB}{te:TE}{t:TA}{pos:Pos}
theorem eZ:PA X [] Vo:=λ_ _ _ _ H Q I h=>fz ⟨[],H,I,.nil,h⟩
theorem cF (ha:PE X e te)(hr:PA X es t)(hs:autoParam (starEach (e::es) X.env=(false,eval e X.env)::starEach es X.env) r0_):PA X (e::es) (X8 te t):=by
 intro pos Fn s σ H Q I h
 rw[hs]
 show wpAny _ _ (spliced ((false,eval e X.env)::backTo pos (starEach es X.env))) _ _ s
 refine d0 (FX (ha Fn s σ H _ I h) ?_)
 rintro u s1 ⟨x,H1,I1,r1,q1⟩
 exact FX (hr pos Fn s1 σ H1 _ I1 q1) λus s2 ⟨xs,H2,I2,r2,q2⟩=>⟨x::xs,H2,I2,.cons r1 r2,q2⟩
def Zj (t:TA):TE:=fun σ H Q=>t σ H λxs H1=>xs.length<=sizeLine/\∀p,H1 p=none->Q (.ref p) (upd H1 p (.tup xs))
def Zk (t:TA):TE:=fun σ H Q=>t σ H λxs H1=>xs.length<=sizeLine/\∀p,H1 p=none->Q (.ref p) (upd H1 p (.lst xs))
theorem Vp {x1}(h:PA X es t):PE X (.Tuple es x1 pos) (Zj t):=by
 intro Fn s σ H Q I hq
 refine wpAny_Tuple_spliced (FX (h pos Fn s σ H _ I hq) λus s1 ⟨xs,H1,I1,r,z,q⟩=>⟨by rw[← r.length];exact z,?_⟩)
 have hf:H1 s1.heap.objs.size=none:=I1.FH.fresh (aw _)
 refine⟨.ref s1.heap.objs.size,upd H1 s1.heap.objs.size (.tup xs),I1.laid (t':=s1.toks) (λb u e=>af _ e) (aw _) ?_,rfl,q _ hf⟩
 exact⟨z,us,r,⟨_,ap _ rfl,rfl,_,rfl⟩⟩
theorem Vq (h:PA X es t):PE X (.List es pos) (Zk t):=by
 intro Fn s σ H Q I hq
 refine wpAny_List_spliced (FX (h pos Fn s σ H _ I hq) λus s1 ⟨xs,H1,I1,r,z,q⟩=>⟨by rw[← r.length];exact z,?_⟩)
 have hf:H1 s1.heap.objs.size=none:=I1.FH.fresh (aw _)
 refine⟨.ref s1.heap.objs.size,upd H1 s1.heap.objs.size (.lst xs),I1.laid (t':=s1.toks) (λb u e=>af _ e) (aw _) ?_,rfl,q _ hf⟩
 exact⟨z,us,0,r,ap _ rfl⟩
end
abbrev Sp:=List V->Hp->VK->XK->Prop
abbrev SD:=List Env->Hp->Shared->XK->Value->Shared->Prop
structure PC (P:Program)(w:World)(K:W.Frag)(mg:Str->Option Value)(base:Heap)(A:Around)(outer:List Env)(s:Shared)(H:Hp):Prop where
 frames:A.frames=some outer
 mod:Mod K mg base
 bs:∀b o,base.get? b=some o->s.heap.get? b=some o/\H b=none
 YE:base.objs.size<=s.heap.objs.size
 MA:s.heap.FunFrames base outer
 frf:∀b∈Sm outer,H b=none
 FH:KL P w K H s.heap
 bare:AllBare s.gens
def CE (outer:List Env)(P:Program)(w:World)(K:W.Frag)(H:Hp)(s:Shared)(Q:VK)(u:Value)(s':Shared):Prop:=
 ∃v H',s'.os=s.os/\AllBare s'.gens/\Un (Sm outer) [] H H' s.heap s'.heap/\KL P w K H' s'.heap/\RelV v u/\Q v H'
def CR (CX:SD)(outer:List Env)(P:Program)(w:World)(K:W.Frag)(H:Hp)(s:Shared)(Q:VK)(E:XK)(r:Result)(s':Shared):Prop:=
 match r with
 | .ok (.ret u)=>CE outer P w K H s Q u s'
 | .ok _=>False
 | .error e=>CX outer H s E e s'
structure GV (P:Program)(w:World)(K:W.Frag)(mg:Str->Option Value)(base:Heap)(CX:SD)(k:Nat)(f:Addr)(fd:FuncData)(ps:qE)(sp:Sp):Prop where
 len:∀vs H Q E,sp vs H Q E->vs.length=ps.length
 run:∀(A:Around) (outer:List Env) (s:Shared) (H:Hp) (args:Args) (us:qv) (vs:List V) (Q:VK) (E:XK),F0 k A->PC P w K mg base A outer s H->BindsTo s fd args (ps.zip us)->Vals vs us->sp vs H Q E->
  codeAny (model P w) A (.call (.ref f) args) (CR CX outer P w K H s Q E) s
variable {mg:Str->Option Value}
theorem GV.imp {base:Heap}{CX:SD}{k:Nat}{f:Addr}{fd:FuncData}{ps:qE}{sp sp':Sp}(F:GV P w K mg base CX k f fd ps sp)
  (h:∀vs H Q E,sp' vs H Q E->sp vs H Q E):GV P w K mg base CX k f fd ps sp':=
 ⟨λvs H Q E q=>F.len vs H Q E (h _ _ _ _ q),λA outer s H args us vs Q E hr he hb hv hs=>F.run A outer s H args us vs Q E hr he hb hv (h _ _ _ _ hs)⟩
theorem PC.make {base:Heap}{outer:List Env}(e:PC P w K mg base A outer s H)(C:Addr)(us:qv)(kw:List (Str×Value)):
  PC P w K mg base (A.under (.builtin "type.__call__" ⟨.ref C::us,kw⟩)) outer s H:=⟨by first | exact e.frames | (simpa [Around.under,Code.envs,Code.isFrame,pushEnvs] using e.frames),e.mod,e.bs,e.YE,e.MA,e.frf,e.FH,e.bare⟩
section
variable {X:Cx}{Fn:qo}{σ:St}{H:Hp}{s s':Shared}
theorem Inv.env0 (I:Inv X Fn σ H s):PC X.prog X.w X.K X.mg X.base X.A X.stack s H:=
 ⟨I.ok.frames,I.ok.mod,I.bs,cm I.ok.YE I.sz,I.stack,I.Qr,I.FH,I.bare⟩
theorem Inv.after {Q:VK}(I:Inv X Fn σ H s)(h:CE X.stack X.prog X.w X.K H s Q u s'):EP X Fn σ Q u s':=by
 obtain⟨v,H',os,bare,un,FH,r,q⟩:=h
 obtain⟨hh,g,d,t,os'⟩:=s'
 obtain rfl:os'=s.os:=os
 exact⟨v,H',I.call (h':=hh) (g':=g) (d':=d) (t':=t) (ch:=[]) un FH bare (λb z=>absurd z (by simp)),r,q⟩
end
def Q_ (sp:Sp)(Nd:List V)(E:XK)(t:TA):TE:=fun σ H Q=>t σ H λvs H1=>sp (vs++Nd) H1 Q E
def Ra (C:Addr)(m:Str)(sp:Sp)(Nd:List V)(E:XK)(ta:TE)(t:TA):TE:=fun σ H Q=>ta σ H λx H1=>∃a dx fs,x=.ref a/\H1 a=some (.ins C dx fs)/\fs.lookup m=none /\
 t σ H1 λvs H2=>sp (x::(vs++Nd)) H2 Q E
def Rb (C:Addr)(sp:Sp)(Nd:List V)(E:XK)(t:TA):TE:=fun σ H Q=>t σ H λvs H1=>∀x dx,H1 x=none->H1 dx=none->dx≠x->
 sp (.ref x::(vs++Nd)) (upd (upd H1 dx (.own x)) x (.ins C dx [])) (λv H2=>v=.FE/\Q (.ref x) H2) E
def Binds (K:W.Frag)(fd:FuncData)(ps:qE)(ds:qv):Prop:=
 ∀(s:Shared) (us:qv),K.In s.heap->(us++ds).length=ps.length->BindsTo s fd ⟨us,[]⟩ (ps.zip (us++ds))
theorem Binds.all {fd:FuncData}{ps:qE}(h:∀us:List Value,us.length=ps.length->bindArgs fd ⟨us,[]⟩=pure (ps.zip us)):Binds K fd ps []:=λs us _ hl=>by
 rw[bp] at hl ⊢
 exact .of_eq (h us hl)
def qO (CX:SD)(X:Cx)(E:XK):Prop:=∀(Fn:qo) (σ:St) (H:Hp) (s:Shared) (e:Value) (s':Shared),Inv X Fn σ H s->CX X.stack H s E e s'->X.xe e s'
section
variable {X:Cx}{CX:SD}{k:Nat}{f C:Addr}{fd:FuncData}{ps:qE}{sp:Sp}{Nd:List V}{ds:qv}{E:XK}{x m:Str}{p pos apos:Pos}{e o:Expr}{es:qB}{ta:TE}{t:TA}
theorem Eo {Q:VK}{vs:List V}(F:GV X.prog X.w X.K X.mg X.base CX k f fd ps sp)(hr:F0 k X.A)(hb:Binds X.K fd ps ds)(hd:Vals Nd ds)(hx:qO CX X E)
  (I:Inv X Fn σ H s) (r:Vals vs us) (h:sp (vs++Nd) H Q E):wpAny (model X.prog X.w) X.A (call (.ref f) us) (EP X Fn σ Q) X.xe s:=by
 have r2:Vals (vs++Nd) (us++ds):=r.append hd
 have hl:(us++ds).length=ps.length:=by rw[← r2.length];exact F.len _ _ _ _ h
 refine wpAny_call (nV (F.run X.A X.stack s H ⟨us,[]⟩ (us++ds) (vs++Nd) Q E hr I.env0 (hb s us I.HU hl) r2 h) λr s' hq=>?_)
 cases r with
 | error e=>exact hx Fn σ H s e s' I hq
 | ok fl=>
  cases fl with
  | ret u=>exact I.after hq
  | next=>exact False.elim hq
  | brk=>exact False.elim hq
  | cont=>exact False.elim hq
theorem RP (F:GV X.prog X.w X.K X.mg X.base CX k f fd ps sp)(hr:F0 k X.A)(hg:Gl X x)(hm:X.mg x=some (.ref f))(hk:W.keepIn X.K (.ref f)=true)(hb:Binds X.K fd ps ds)(hd:Vals Nd ds)(hx:qO CX X E)
  (ha:PA X (e::es) t) (Nl:autoParam ((x == ("__debug__" : Str))=false) r1_) (he:autoParam (starEach (e::es) X.env=(false,eval e X.env)::starEach es X.env) r0_) (IH:autoParam ((backTo pos (starEach es X.env)).any (·.1)=false) r0_):
  PE X (.Call (.Name x p) (e::es) [] pos) (Q_ sp Nd E t):=by
 intro Fn s σ H Q I h
 refine eT (Af I hg hm ?_ Nl)
 refine ms (h₀:=X.base) I.ok.mod.Po hk (FX (ha pos Fn s σ H _ I h) λus s1 ⟨vs,H1,I1,r,q⟩=>⟨I1.HU,?_⟩) he IH
 exact Eo F hr hb hd hx I1 r q
theorem RT {pl:Sem Bool}(he:PE X o ta)(c:N9 X.K C)(hm:Meth X.K C m f)(F:GV X.prog X.w X.K X.mg X.base CX k f fd ps sp)(hr:F0 k X.A)(hb:Binds X.K fd ps ds)(hd:Vals Nd ds)(hx:qO CX X E)(ha:PA X (e::es) t)
  (Pl:autoParam (starEach (e::es) X.env=(false,eval e X.env)::starEach es X.env) r0_) (IH:autoParam ((backTo pos (starEach es X.env)).any (·.1)=false) r0_)
  (ht:eval (.Call (.Attribute o m apos) (e::es) [] pos) X.env=(do
   let ov ← eval o X.env
   standAt apos.atName
   let (f,first) ← holding [ov] (getMethod ov m pl)
   callWith pos f first (backTo pos (starEach (e::es) X.env)) (backToKw pos (keywordEach [] X.env))):=by rfl):
  PE X (.Call (.Attribute o m apos) (e::es) [] pos) (Ra C m sp Nd E ta t):=by
 intro Fn s σ H Q I h
 refine om (pl:=pl) (FX (he Fn s σ H _ I h) ?_) ht
 rintro u s1 ⟨x,H1,I1,rx,a,dx,fs,ex,ea,l,q⟩
 subst ex
 obtain rfl:u=Value.ref a:=rx
 refine yZ I1 ea c hm l ?_
 refine ms (first:=[.ref a]) (h₀:=X.base) I.ok.mod.Po hm.kp (FX (ha pos Fn s1 σ H1 _ I1 q) λus s2 ⟨vs,H2,I2,r,q2⟩=>⟨I2.HU,?_⟩) Pl IH
 exact Eo (us:=.ref a::us) (vs:=.ref a::vs) F hr hb hd hx I2 (.cons rfl r) q2
theorem Om {pl:Sem Bool}(he:PE X o ta)(c:N9 X.K C)(hm:Meth X.K C m f)(F:GV X.prog X.w X.K X.mg X.base CX k f fd ps sp)(hr:F0 k X.A)(hb:Binds X.K fd ps ds)(hd:Vals Nd ds)(hx:qO CX X E)
  (ht:eval (.Call (.Attribute o m apos) [] [] pos) X.env=(do
   let ov ← eval o X.env
   standAt apos.atName
   let (f,first) ← holding [ov] (getMethod ov m pl)
   callWith pos f first (backTo pos (starEach [] X.env)) (backToKw pos (keywordEach [] X.env))):=by rfl):
  PE X (.Call (.Attribute o m apos) [] [] pos) (Ra C m sp Nd E ta Vo):=by
 intro Fn s σ H Q I h
 refine om (pl:=pl) (FX (he Fn s σ H _ I h) ?_) ht
 rintro u s1 ⟨x,H1,I1,rx,a,dx,fs,ex,ea,l,q⟩
 subst ex
 obtain rfl:u=Value.ref a:=rx
 refine yZ I1 ea c hm l ?_
 exact W.callWith_K0 (first:=[.ref a]) I1.HU hm.kp (Eo (us:=[.ref a]) (vs:=[.ref a]) F hr hb hd hx I1 (.cons rfl .nil) q)
structure Mk (K:W.Frag)(C f:Addr):Prop where
 makes:W.makesIn K C=true
 init:W.findIn K (.ref C) "__init__" = some (some (.ref f))
 fn:W.isFn K (.ref f)=true
 kp:W.keepIn K (.ref C)=true
theorem Oo {Q:VK}{vs:List V}(M:Mk X.K C f)(F:GV X.prog X.w X.K X.mg X.base CX k f fd ps sp)(hr:F0 (k+1) X.A)(hb:Binds X.K fd ps ds)(hd:Vals Nd ds)
  (hx:qO CX X E) (I:Inv X Fn σ H s) (r:Vals vs us)
  (h:∀x dx,H x=none->H dx=none->dx≠x->sp (.ref x::(vs++Nd)) (upd (upd H dx (.own x)) x (.ins C dx [])) (λv H2=>v=.FE/\Q (.ref x) H2) E):
  wpAny (model X.prog X.w) X.A (call (.ref C) us) (EP X Fn σ Q) X.xe s:=by
 have hq:=h (s.heap.objs.size+1) s.heap.objs.size (I.FH.fresh (qh _)) (I.FH.fresh (aw _)) (bt (iX _))
 have I2:=Inv.made (C:=C) I
 have r2:Vals (V.ref (s.heap.objs.size+1)::(vs++Nd)) (Value.ref (s.heap.objs.size+1)::(us++ds)):=.cons rfl (r.append hd)
 have hl:(Value.ref (s.heap.objs.size+1)::us++ds).length=ps.length:=by
  have e:=r2.length
  rw[F.len _ _ _ _ hq] at e
  exact e.symm
 refine wpAny_call (Ol (f:=f) I.HU M.makes M.init (ip.mp M.fn) (nV (F.run _ X.stack _ _ ⟨Value.ref (s.heap.objs.size+1)::us,[]⟩ (Value.ref (s.heap.objs.size+1)::(us++ds)) _ _ E (hr.make C us [])
  (I2.env0.make C us []) (hb _ (Value.ref (s.heap.objs.size+1)::us) I2.HU hl) r2 hq) λr s' hq'=>?_))
 cases r with
 | error e=>exact hx Fn σ _ _ e s' I2 hq'
 | ok fl=>
  cases fl with
  | ret u=>
   obtain⟨v,H',I3,rv,ev,q3⟩:=I2.after hq'
   subst ev
   exact⟨rv,⟨V.ref (s.heap.objs.size+1),H',I3,rfl,q3⟩⟩
  | next=>exact False.elim hq'
  | brk=>exact False.elim hq'
  | cont=>exact False.elim hq'
theorem RW (M:Mk X.K C f)(F:GV X.prog X.w X.K X.mg X.base CX k f fd ps sp)(hr:F0 (k+1) X.A)(hg:Gl X x)(hm:X.mg x=some (.ref C))(hb:Binds X.K fd ps ds)(hd:Vals Nd ds)(hx:qO CX X E)
  (ha:PA X (e::es) t) (Nl:autoParam ((x == ("__debug__" : Str))=false) r1_) (he:autoParam (starEach (e::es) X.env=(false,eval e X.env)::starEach es X.env) r0_) (IH:autoParam ((backTo pos (starEach es X.env)).any (·.1)=false) r0_):
  PE X (.Call (.Name x p) (e::es) [] pos) (Rb C sp Nd E t):=by
 intro Fn s σ H Q I h
 refine eT (Af I hg hm ?_ Nl)
 refine ms (h₀:=X.base) I.ok.mod.Po M.kp (FX (ha pos Fn s σ H _ I h) λus s1 ⟨vs,H1,I1,r,q⟩=>⟨I1.HU,?_⟩) he IH
 exact Oo M F hr hb hd hx I1 r q
end
structure Fs (N P:qE)(sc:Scope):Prop where
 kind:sc.kind=.function
 co:sc.isCoroutine=false
 gen:sc.isGenerator=false
 nd:N.Nodup
 pre:N.take P.length=P
 par:∀x∈P,sc.names.lookup x=some .local\/sc.names.lookup x=some .cell
 nofree:∀y∈sc.names,y.2≠.free
theorem Bx {kindOf:Str->Option NameKind}{x:Str}:∀{binds:List (Str×Value)}{m:Str->Option Value},(∀v,(x,v)∉binds)->bindL kindOf binds m x=m x
 | [],_,_=>rfl
 | (n,v)::r,m,h=>by
  unfold bindL
  rw[Bx λw hw=>h w (ah _ hw)]
  split
  ·have:x≠n:=by rintro rfl;exact h v am
   simp[this]
  ·rfl
theorem By {kindOf:Str->Option NameKind}{x:Str}:∀{binds:List (Str×Value)}{m:Str->Option Value},(∀v,(x,v)∉binds)->bindC kindOf binds m x=m x
 | [],_,_=>rfl
 | (n,v)::r,m,h=>by
  unfold bindC
  rw[By λw hw=>h w (ah _ hw)]
  split
  ·rfl
  ·have:x≠n:=by rintro rfl;exact h v am
   simp[this]
theorem BJ {kindOf:Str->Option NameKind}{x:Str}{v:Value}:∀{P:qE}{vs:qv}{i:Nat}{m:Str->Option Value},P.Nodup->P[i]?=some x->vs[i]?=some v->kindOf x=some .local->
  bindL kindOf (P.zip vs) m x=some v
 | [],_,_,_,_,h,_,_=>by simp at h
 | _::_,[],_,_,_,_,h,_=>by simp at h
 | p::P,w::vs,0,m,nd,h1,h2,hk=>by
  simp at h1 h2;subst h1;subst h2
  show bindL kindOf ((p,w)::P.zip vs) m p=_
  unfold bindL
  rw[Bx λv hv=>(fE.mp nd).1 (jp hv).1,ba hk]
  simp
 | p::P,w::vs,i+1,m,nd,h1,h2,hk=>by
  show bindL kindOf ((p,w)::P.zip vs) m x=_
  unfold bindL
  exact BJ (i:=i) (fE.mp nd).2 (by simpa using h1) (by simpa using h2) hk
theorem BK {kindOf:Str->Option NameKind}{x:Str}{v:Value}:∀{P:qE}{vs:qv}{i:Nat}{m:Str->Option Value},P.Nodup->P[i]?=some x->vs[i]?=some v->kindOf x≠some .local->
  bindC kindOf (P.zip vs) m x=some v
 | [],_,_,_,_,h,_,_=>by simp at h
 | _::_,[],_,_,_,_,h,_=>by simp at h
 | p::P,w::vs,0,m,nd,h1,h2,hk=>by
  simp at h1 h2;subst h1;subst h2
  show bindC kindOf ((p,w)::P.zip vs) m p=_
  unfold bindC
  rw[By λv hv=>(fE.mp nd).1 (jp hv).1,ax hk]
  simp
 | p::P,w::vs,i+1,m,nd,h1,h2,hk=>by
  show bindC kindOf ((p,w)::P.zip vs) m x=_
  unfold bindC
  exact BK (i:=i) (fE.mp nd).2 (by simpa using h1) (by simpa using h2) hk
def start (N:qE)(vs:List V):St:=vs.map some++List.replicate (N.length - vs.length) none
def yq (CX:SD)(P:Program)(w:World)(K:W.Frag)(mg:Str->Option Value)(base:Heap)(N:qE)(qual:Str)(scope:Scope)(f:Addr)(cd:Value)(A:Around)(outer:List Env)(s:Shared)(H:Hp)(E:XK):Cx where
 prog:=P
 w:=w
 K:=K
 mg:=mg
 base:=base
 A:=A.deeper (envOfC qual scope s.heap.objs.size f cd)
 N:=N
 s₀:=s
 H₀:=H
 env:=envOfC qual scope s.heap.objs.size f cd
 outer:=outer
 stack:=envOfC qual scope s.heap.objs.size f cd::outer
 ex:=[]
 calm:=true
 fn:=λ_=>true
 pn:=[]
 xe:=λe s'=>wpAny (model P w) (A.deeper (envOfC qual scope s.heap.objs.size f cd)) (leaving (envOfC qual scope s.heap.objs.size f cd) e) (λ_ s''=>CX outer H s E e s'') (λe' s''=>CX outer H s E e' s'') s'
theorem Ep {sc:Scope}{n:Nat}(h:sc.names.lookup x=some .cell):∃c,(cellsFrom n sc.names []).lookup x=some c:=by
 have q:=nX sc.names n [] (.inl h)
 exact mN.mp q
theorem KY {CX:SD}{base:Heap}{N ps:qE}{qual:Str}{scope:Scope}{f:Addr}{cd:Value}{outer:List Env}{s1:Shared}{E:XK}{vs:List V}
  (S:Fs N ps scope) (hd:A.handled=none) (e0:PC P w K mg base A outer s H) (hl:vs.length=ps.length) (r:Vals vs us)
  (x:InCallC s s.heap.objs.size (bindL (envOfC qual scope s.heap.objs.size f cd).kindOf (ps.zip us) λ_=>none) (cellsFrom (s.heap.objs.size+1) scope.names []) (bindC (envOfC qual scope s.heap.objs.size f cd).kindOf (ps.zip us) λ_=>none) s1):
  Inv (yq CX P w K mg base N qual scope f cd A outer s H E) [] (start N vs) H s1:=by
 have IH:ps.length<=N.length:=by have:=c5 List.length S.pre;rw[eW] at this;omega
 obtain⟨h1,tk,rfl,hk⟩:=x.done
 have noA:∀b:Addr,b∉(yq CX P w K mg base N qual scope f cd A outer s H E).ex:=λb z=>absurd (show b∈([]:qV) from z) (by simp)
 refine⟨⟨e0.mod,S.kind,rfl,rfl,aw _,λy z c h1 h2=>?_,λy hy=>?_,λy c _ h=>?_,λ_=>hd,Around.frames_deeper e0.frames,.inr ⟨rfl,rfl⟩,λb z=>absurd z (noA b),e0.bs,e0.YE,λb _ _=>noA b,λb z=>absurd z (noA b),e0.MA,e0.frf⟩,
  rfl,e0.bare,Un.kept hk,⟨_,x.toInCall.ns,λi y v h1 h2 h3=>?_⟩,λy c h=>⟨_,x.cell y c h⟩,e0.FH.fresh (aw _),λy c h=>?_,λp hp=>absurd (show p∈([]:qo) from hp) (by simp),e0.FH.kept hk,?_⟩
 ·exact name_of_addr x.apart (PySem.mem_of_lookup h1) (PySem.mem_of_lookup h2)
 ·have hy:scope.names.lookup y=some .cell\/scope.names.lookup y=some .free:=hy
  rcases hy with hy | hy
  ·exact Ep hy
  ·exact absurd rfl (S.nofree _ (PySem.mem_of_lookup hy))
 ·exact kx (x.above y c (PySem.mem_of_lookup h))
 ·have hi:i < vs.length:=by
   unfold start at h2
   by_cases hi:i < vs.length
   ·exact hi
   ·rw[iL (by simpa using hi)] at h2
    rw[kb] at h2
    split at h2 <;> cases h2
  have ha:vs[i]?=some v:=by
   unfold start at h2
   rw[eP (by simpa using hi),b0] at h2
   cases e:vs[i]? with
   | none=>rw[e] at h2;cases h2
   | some a=>rw[e] at h2;cases h2;rfl
  obtain⟨u,hu,rv⟩:=r.get ha
  have hp:ps[i]?=some y:=by
   rw[← S.pre,List.getElem?_take_of_lt (by omega)];exact h1
  have ndP:ps.Nodup:=by rw[← S.pre];exact S.nd.sublist (List.take_sublist _ _)
  refine⟨u,rv,?_⟩
  rcases S.par y (dc hp) with k | k
  ·exact .inl ⟨k,BJ ndP hp hu k⟩
  ·obtain⟨c,e⟩:=Ep (n:=s.heap.objs.size+1) k
   refine .inr ⟨.inl k,c,e,?_⟩
   have q:=x.cell y c e
   rw[BK ndP hp hu (by show scope.names.lookup y≠_;rw[k];decide)] at q
   exact q
 ·exact e0.FH.fresh (kx (x.above y c (PySem.mem_of_lookup h)))
 ·unfold start
  show _=N.length
  rw[a9,ac,kQ]
  omega
theorem X_ {CX:SD}{base:Heap}{k:Nat}{f:Addr}{name qual:Str}{params:Arguments}{body:qA}{scope:Scope}{dV kV doc pm Lu ct oc:Value}{an od:Option Addr}
  {osl:Array (Option Value)}{N ps:qE}{sp:Sp}(lk:K.lookup f=some ⟨oc,od,.func (W.fnOf name qual params body scope dV kV doc pm an Lu ct),osl⟩) (LH:W.codeIn K Lu qual=true) (S:Fs N ps scope)
  (len:∀vs H Q E,sp vs H Q E->vs.length=ps.length)
  (SF:∀(A:Around) (outer:List Env) (s:Shared) (H:Hp) (vs:List V) (Q:VK) (E:XK),F0 k (A.deeper (envOfC qual scope s.heap.objs.size f Lu))->sp vs H Q E->
   ∃t,MW (yq CX P w K mg base N qual scope f Lu A outer s H E) body t/\t { nx:=λ_ H'=>Q .FE H',rt:=Q } (start N vs) H):
  GV P w K mg base CX (k+1) f (W.fnOf name qual params body scope dV kV doc pm an Lu ct) ps sp:=by
 refine⟨len,λA outer s H args us vs Q E hr e0 hb r PD=>?_⟩
 have hl:=len _ _ _ _ PD
 have KX:K.In s.heap:=e0.mod.Po.keeps λb o e=>(e0.bs b o e).1
 have lim:s.heap.NoLimit:=e0.mod.nolimit.keeps λb o e=>(e0.bs b o e).1
 have hkind:∀y∈ps.zip us,scope.names.lookup y.1=some .local\/(scope.names.lookup y.1=some .cell/\((cellsFrom (s.heap.objs.size+1) scope.names []).lookup y.1).isSome=true):=by
  rintro ⟨n,v⟩ hy
  rcases S.par n (jp hy).1 with q | q
  ·exact .inl q
  ·exact .inr ⟨q,nX _ _ _ (.inl q)⟩
 refine codeAny_call_function hr.depth (KX _ _ lk) rfl S.co S.gen rfl (W.codeRec_of KX LH) (hb _ _ _ _ ?_)
 refine wpAny_newFunctionEnv_cells S.kind hkind λenv he s1 x=>?_
 subst he
 refine⟨lim.keeps x.toInCall.keep,codeAny_func ?_⟩
 obtain⟨t,ht,hq⟩:=SF A outer s H vs Q E (hr.deeper _) PD
 have I:Inv (yq CX P w K mg base N qual scope f Lu A outer s H E) [] (start N vs) H s1:=KY S hr.hd e0 hl r x
 refine eR (ht [] s1 (start N vs) H _ I hq) (λfl s' hs=>?_) λe s' hs=>hs
 have fin:∀{σ':St}{H':Hp}{v:V}{u:Value},Inv (yq CX P w K mg base N qual scope f Lu A outer s H E) [] σ' H' s'->RelV v u->Q v H'->CE outer P w K H s Q u s':=
  λ{σ' H' v u} J rv q=>⟨v,H',J.os,J.bare,J.base,J.FH,rv,q⟩
 cases fl with
 | ret u=>
  obtain⟨v,σ',H',J,rv,q⟩:=hs
  exact fin J rv q
 | next=>
  obtain⟨σ',H',J,q⟩:=hs
  exact fin (v:=V.FE) (u:=Value.none) J rfl q
 | brk=>
  obtain⟨_,_,_,q⟩:=hs
  exact False.elim q
 | cont=>
  obtain⟨_,_,_,q⟩:=hs
  exact False.elim q
section
variable {X:Cx}{x:Str}{p pos:Pos}{e:Expr}{es:qB}{t:TA}{id T:String}{r:List V->Hp->VK->Prop}
def tCB (r:List V->Hp->VK->Prop)(t:TA):TE:=fun σ H Q=>t σ H λvs H1=>r vs H1 Q
theorem yr (hc:F6 X (.builtin id) r)(hg:Gl X x)(hm:X.mg x=none)(hv:bootBuiltins x=some (.builtin id))(ha:PA X (e::es) t)(hn:x ≠ "__name__" := by decide)(Nl:autoParam ((x == ("__debug__" : Str))=false) r1_)
  (he:autoParam (starEach (e::es) X.env=(false,eval e X.env)::starEach es X.env) r0_) (IH:autoParam ((backTo pos (starEach es X.env)).any (·.1)=false) r0_):PE X (.Call (.Name x p) (e::es) [] pos) (tCB r t):=by
 intro Fn s σ H Q I h
 refine eT (gK I hg hm hv ?_ hn Nl)
 exact PyProof.Rows.callWith_builtin1 (FX (ha pos Fn s σ H _ I h) λus s1 ⟨vs,H1,I1,r1,q1⟩=>hc Fn s1 σ H1 vs us Q I1 r1 q1) he IH
theorem KZ (hc:F6 X (.type T) r)(hg:Gl X x)(hm:X.mg x=none)(hv:bootBuiltins x=some (.type T))(ha:PA X (e::es) t)(hn:x ≠ "__name__" := by decide)(Nl:autoParam ((x == ("__debug__" : Str))=false) r1_)
  (he:autoParam (starEach (e::es) X.env=(false,eval e X.env)::starEach es X.env) r0_) (IH:autoParam ((backTo pos (starEach es X.env)).any (·.1)=false) r0_):PE X (.Call (.Name x p) (e::es) [] pos) (tCB r t):=by
 intro Fn s σ H Q I h
 refine eT (gK I hg hm hv ?_ hn Nl)
 exact bX (FX (ha pos Fn s σ H _ I h) λus s1 ⟨vs,H1,I1,r1,q1⟩=>hc Fn s1 σ H1 vs us Q I1 r1 q1) he IH
end
section
variable {κ:Type}[DecidableEq κ]
noncomputable def jJ (kvs:List (κ×V))(k:κ):Option V:=(kvs.find? λkv=>decide (kv.1=k)).map (·.2)
noncomputable def putK (kvs:List (κ×V))(k:κ)(v:V):List (κ×V):=
 if (kvs.any λkv=>decide (kv.1=k))=true then kvs.map (λkv=>if kv.1=k then (kv.1,v) else kv) else kvs++[(k,v)]
theorem qP {p:κ×V}{r:List (κ×V)}{k:κ}(e:p.1=k):jJ (p::r) k=some p.2:=by simp[jJ,cv,e]
theorem qQ {p:κ×V}{r:List (κ×V)}{k:κ}(e:¬ p.1=k):jJ (p::r) k=jJ r k:=by simp[jJ,cv,e]
theorem Er (k:κ):∀kvs:List (κ×V),(kvs.any λkv=>decide (kv.1=k))=(jJ kvs k).isSome
 | []=>rfl
 | p::r=>by
  rw[dy]
  by_cases e:p.1=k
  ·simp only[qP e,bS e,Bool.true_or,Option.isSome_some]
  ·rw[qQ e,be e,Bool.false_or];exact Er k r
theorem yg (kvs:List (κ×V))(k:κ)(v:V):(putK kvs k v).length<=kvs.length+1:=by
 unfold putK
 split
 ·rw[ac];omega
 ·rw[a9,bg,eM];omega
theorem JJ.IQ {o:Option V}{u:Option Value}(r:JJ o u):o.isSome=u.isSome:=by
 cases o with
 | none=>cases u with
  | none=>rfl
  | some _=>exact(show False from r).elim
 | some _=>cases u with
  | none=>exact(show False from r).elim
  | some _=>rfl
theorem JJ.getD {o:Option V}{u:Option Value}{d:V}{d':Value}(r:JJ o u)(rd:RelV d d'):RelV (o.getD d) (u.getD d'):=by
 cases o with
 | none=>cases u with
  | none=>exact rd
  | some _=>exact(show False from r).elim
 | some _=>cases u with
  | none=>exact(show False from r).elim
  | some _=>exact r
theorem KV.val {kvs:List (κ×V)}{vs:List (κ×Value)}(r:KV kvs vs)(k:κ):JJ (jJ kvs k) (valueAt vs k):=by
 unfold KV at r
 induction r with
 | nil=>exact eS
 | @cons p q ps qs h t ih=>
  obtain⟨h1,h2⟩:=h
  by_cases e:p.1=k
  ·have e':q.1=k:=h1.symm.trans e
   have b:valueAt (q::qs) k=some q.2:=by simp[valueAt,cv,e']
   rw[qP e,b];exact h2
  ·have e':¬ q.1=k:=λz=>e (h1.trans z)
   have b:valueAt (q::qs) k=valueAt qs k:=by simp[valueAt,cv,e']
   rw[qQ e,b];exact ih
theorem KV.any {kvs:List (κ×V)}{vs:List (κ×Value)}(r:KV kvs vs)(k:κ):(kvs.any λkv=>decide (kv.1=k))=vs.any λkv=>decide (kv.1=k):=by
 unfold KV at r
 induction r with
 | nil=>rfl
 | cons h t ih=>rw[dy,dy,ih,h.1]
theorem KV.RS {kvs:List (κ×V)}{vs:List (κ×Value)}(r:KV kvs vs)(k:κ){y:V}(ry:RelV y u):
  KV (kvs.map λkv=>if kv.1=k then (kv.1,y) else kv) (vs.map λkv=>if kv.1=k then (kv.1,u) else kv):=by
 unfold KV at r ⊢
 induction r with
 | nil=>exact .nil
 | @cons p q ps qs h t ih=>
  rw[al,al]
  refine .cons ?_ ih
  obtain⟨h1,h2⟩:=h
  by_cases e:p.1=k
  ·rw[ba e,ba (h1.symm.trans e)];exact⟨h1,ry⟩
  ·rw[ax e,ax (λz=>e (h1.trans z))];exact⟨h1,h2⟩
theorem KV.put {kvs:List (κ×V)}{vs:List (κ×Value)}(r:KV kvs vs)(k:κ){y:V}(ry:RelV y u):KV (putK kvs k y) (stored vs k u):=by
 unfold putK stored
 rw[r.any k]
 by_cases e:(vs.any λkv=>decide (kv.1=k))=true
 ·rw[ba e,ba e];exact r.RS k ry
 ·rw[ax e,ax e];exact Paired.snoc r ⟨rfl,ry⟩
theorem KV.length {kvs:List (κ×V)}{vs:List (κ×Value)}(r:KV kvs vs):kvs.length=vs.length:=ff r
end
theorem uG {k:Key}(r:RelV (kV k) u):(ie P w).is k u=true:=by
 cases k with
 | inl i=>obtain⟨t,e⟩:=(show ∃t,u=Value.int i t from r);subst e;exact Hm P w i t
 | inr x=>obtain⟨t,e⟩:=(show ∃t,u=Value.str x t from r);subst e;exact Hn P w x t
theorem K1 {k:Key}(r:RelV (kV k) u):(cR P w).is k u=true:=Kr (uG (P:=P) (w:=w) r)
theorem HH {P:Program}{w:World}:∀{ks:List Key}{us:qv},Vals (ks.map kV) us->ItemsAre (cR P w) ks us
 | [],_,r=>by rw[cp] at r;cases r;exact .nil
 | k::ks,_,r=>by
  rw[al] at r
  cases r with
  | cons h t=>exact .cons (K1 h) (HH t)
theorem vK {ks:List Key}{vs:List V}(kt:vH ks vs)(r:Vals vs us):ItemsAre (cR P w) ks us:=by
 rcases kt with rfl | ⟨x,b,rfl,rfl⟩
 ·exact HH r
 ·cases r with
  | cons h1 t=>cases t with
   | cons h2 t=>
    cases t
    cases (show _=Value.bool b from h2)
    exact .cons (K1 (k:=.inr x) h1) (.cons (Hl b) .nil)
abbrev KT (K:PySem.W.Frag)(H:Hp):List (List Key×V)->List (List Key×Addr×Value)->Prop:=Paired λp q=>p.1=q.1/\IJ K H q.2.1 p.1/\RelV p.2 q.2.2
variable {kvs:List (List Key×V)}{xs:List (List Key×Addr×Value)}
theorem KT.val (r:KT K H kvs xs)(k:List Key):JJ (jJ kvs k) ((atKey xs k).map (·.2)):=by
 induction r with
 | nil=>exact eS
 | @cons p q ps qs h t ih=>
  obtain⟨h1,_,h2⟩:=h
  by_cases e:p.1=k
  ·have e':q.1=k:=h1.symm.trans e
   have b:atKey (q::qs) k=some q.2:=by simp[atKey,cv,e']
   rw[qP e,b];exact h2
  ·have e':¬ q.1=k:=λz=>e (h1.trans z)
   have b:atKey (q::qs) k=atKey qs k:=by simp[atKey,cv,e']
   rw[qQ e,b];exact ih
theorem KT.RS (r:KT K H kvs xs)(k:List Key){y:V}(ry:RelV y u):
  KT K H (kvs.map λkv=>if kv.1=k then (kv.1,y) else kv) (xs.map (putAt k u)):=by
 induction r with
 | nil=>exact .nil
 | @cons p q ps qs h t ih=>
  rw[al,al]
  refine .cons ?_ ih
  obtain⟨h1,h2,h3⟩:=h
  unfold putAt
  by_cases e:p.1=k
  ·rw[ba e,ba (h1.symm.trans e)];exact⟨h1,h2,ry⟩
  ·rw[ax e,ax (λz=>e (h1.trans z))];exact⟨h1,h2,h3⟩
theorem KT.put (r:KT K H kvs xs)(k:List Key){y:V}(hb:IJ K H b k)(ry:RelV y u):
  KT K H (putK kvs k y) (storedH xs k b u):=by
 have e:(kvs.any λkv=>decide (kv.1=k))=(atKey xs k).isSome:=by
  rw[Er,(r.val k).IQ,kz]
 unfold putK storedH
 rw[e]
 by_cases q:(atKey xs k).isSome=true
 ·rw[ba q,ba q];exact r.RS k ry
 ·rw[ax q,ax q];exact Paired.snoc r ⟨rfl,hb,ry⟩
theorem KT.keeps {K:W.Frag}{H H':Hp}{kvs:List (List Key×V)}{xs:List (List Key×Addr×Value)}(r:KT K H kvs xs)(ht:∀b ys,H b=some (.tup ys)->H' b=some (.tup ys)):KT K H' kvs xs:=
 Paired.mapP r λ_ _ z=>⟨z.1,z.2.1.keeps ht,z.2.2⟩
section
variable {P:Program}{w:World}{K:W.Frag}{H:Hp}{h:Heap}{a:Addr}
theorem Rf {u:HO}(ok:KL P w K H h)(e:Rd H a u):FK P w K H h a u:=e.ok ok
theorem ql {kvs:List (Key×V)}(ok:KL P w K H h)(e:Rd H a (.dK kvs)):kvs.length<=sizeLine/\(a == sysModules)=false/\∃vs,KV kvs vs/\h.DictOf (ie P w) a vs:=
 show FK P w K H h a (.dK kvs) from Rf ok e
theorem Rg {kvs:List (Key×V)}(ok:KL P w K H h)(e:H a=some (.dK kvs)):kvs.length<=sizeLine/\(a == sysModules)=false/\∃vs,KV kvs vs/\h.DictOf (ie P w) a vs:=ql ok (.inl e)
theorem Vr {ks:List Key}(ok:KL P w K H h)(e:Uv H a ks):(tupleKind (cR P w)).is h ks a:=by
 obtain⟨vs,e,kt⟩:=e
 obtain⟨_,its,r,o,h1,h2,n,h3⟩:=(show FK P w K H h a (.tup vs) from ok a _ e)
 exact⟨o,its.toArray,n,h1,h2,h3,by simpa using vK kt r⟩
theorem jX {ks:List Key}(Po:K.In h)(ok:KL P w K H h)(e:IJ K H a ks):(tupleKind (cR P w)).is h ks a:=by
 rcases e with e | ⟨vs,⟨o,its,n,e1,e2,e3,_,r⟩,kt⟩
 ·exact Vr ok e
 ·exact⟨o,its,n,Po a o e1,e2,e3,vK kt r⟩
theorem tH (Po:K.In h)(ok:KL P w K H h)(e:Rd H a (.dT kvs)):kvs.length<=sizeLine/\(a == sysModules)=false/\∃xs,KT K H kvs xs/\GO (tupleKind (cR P w)) h a xs:=by
 obtain⟨z,y,xs,r,o,es,ep,h1,h2,h3,h4,h5,h6⟩:=(show FK P w K H h a (.dT kvs) from Rf ok e)
 subst h6
 refine⟨z,y,xs,r,o,es,h1,h2,h3,h4,λx hx=>?_,h5⟩
 have all:∀{l:List (List Key×V)}{m:List (List Key×Addr×Value)},KT K H l m->∀x∈m,(tupleKind (cR P w)).is h x.1 x.2.1:=by
  intro l m q
  induction q with
  | nil=>intro x hx;exact nomatch hx
  | cons hq t ih=>
   intro x hx
   rcases aI.mp hx with e | hx
   ·rw[e];exact jX Po ok (by rw[← hq.1];exact hq.2.1)
   ·exact ih x hx
 exact all r x hx
theorem rY (Po:K.In h)(ok:KL P w K H h)(e:Rd H a (.dT kvs)):kvs.length<=sizeLine/\(a == sysModules)=false /\
  ∃xs,KT K H kvs xs/\h.DictOfH (tupleKind (cR P w)) a xs:=let ⟨z,y,xs,r,q⟩:=tH Po ok e;⟨z,y,xs,r,q.of⟩
end
def HK (K:W.Frag)(H:Hp)(a:Addr)(y:V)(r:Option V):Prop:=
 (∃kvs k,Rd H a (.dK kvs)/\y=kV k/\r=jJ kvs k)\/∃kvs k b,Rd H a (.dT kvs)/\y=.ref b/\IJ K H b k/\r=jJ kvs k
def OK (K:W.Frag)(H:Hp)(a:Addr)(y v:V)(H':Hp):Prop:=
 (∃kvs k,H a=some (.dK kvs)/\y=kV k/\kvs.length < sizeLine/\H'=upd H a (.dK (putK kvs k v))) \/
 ∃kvs k b,H a=some (.dT kvs)/\y=.ref b/\IJ K H b k/\kvs.length < sizeLine/\H'=upd H a (.dT (putK kvs k v))
theorem HK.k {K:W.Frag}{H:Hp}{a:Addr}{kvs:List (Key×V)}{k:Key}(e:H a=some (.dK kvs)):HK K H a (kV k) (jJ kvs k):=.inl ⟨kvs,k,.inl e,rfl,rfl⟩
theorem HK.t {k:List Key}(e:H a=some (.dT kvs))(eb:IJ K H b k):HK K H a (.ref b) (jJ kvs k):=.inr ⟨kvs,k,b,.inl e,rfl,eb,rfl⟩
theorem OK.k {K:W.Frag}{H:Hp}{a:Addr}{kvs:List (Key×V)}{k:Key}{v:V}(e:H a=some (.dK kvs))(hl:kvs.length < sizeLine):OK K H a (kV k) v (upd H a (.dK (putK kvs k v))):=.inl ⟨kvs,k,e,rfl,hl,rfl⟩
theorem OK.t {k:List Key}{v:V}(e:H a=some (.dT kvs))(eb:IJ K H b k)(hl:kvs.length < sizeLine):
  OK K H a (.ref b) v (upd H a (.dT (putK kvs k v))):=.inr ⟨kvs,k,b,e,rfl,eb,hl,rfl⟩
section
variable {X:Cx}{Fn:qo}{σ:St}{H:Hp}{s:Shared}{a:Addr}{y v:V}{u r:Value}{o:Option V}{A:Around}{E:qk}
theorem Inv.big (I:Inv X Fn σ H s):sysModules < s.heap.objs.size:=by
 have h:mainGlobals < s.heap.objs.size:=(I.mod.glob.keeps I.bk).lt
 exact Nat.lt_trans (by decide) h
theorem K3 {Q:qk}(hu:A.units+1 < cLine)(I:Inv X Fn σ H s)(g:HK X.K H a y (some v))(ry:RelV y u)(h:∀w' s',Inv X Fn σ H s'->RelV v w'->Q w' s'):
  wpAny (model X.prog X.w) A (getItem (.ref a) u) Q E s:=by
 rcases g with ⟨kvs,k,e,ey,l⟩ | ⟨kvs,k,b,e,ey,eb,l⟩
 ·subst ey
  obtain⟨z,hd,vs,rel,dd⟩:=ql I.FH e
  obtain⟨w',hw,PF⟩:=JJ.some_of (v:=v) (o:=valueAt vs k) (by rw[l];exact rel.val k)
  exact wpAny_getItem_of (uG ry) dd.mapOf hw (h w' _ (I.tok _) PF)
 ·subst ey
  cases (show u=Value.ref b from ry)
  obtain⟨z,hd,xs,rel,dd⟩:=rY I.HU I.FH e
  obtain⟨w',hw,PF⟩:=JJ.some_of (v:=v) (o:=(atKey xs k).map (·.2)) (by rw[l];exact rel.val k)
  obtain⟨p,hp,NS⟩:=df.mp hw
  refine wpAny_getItem_heap (e8 hu) (jX I.HU I.FH eb) dd hp ?_
  rw[NS]
  exact h w' _ (I.tok _) PF
theorem Zm {Q:qk}(hu:A.units+1 < cLine)(I:Inv X Fn σ H s)(g:HK X.K H a y o)(ry:RelV y u)(h:∀s',Inv X Fn σ H s'->Q (.bool o.isSome) s'):
  wpAny (model X.prog X.w) A (compareOp .In u (.ref a)) Q E s:=by
 rcases g with ⟨kvs,k,e,ey,l⟩ | ⟨kvs,k,b,e,ey,eb,l⟩
 ·subst ey
  obtain⟨z,hd,vs,rel,dd⟩:=ql I.FH e
  refine wpAny_in_of (uG ry) hd dd.mapOf ?_
  rw[← (rel.val k).IQ,← l]
  exact h _ (I.tok _)
 ·subst ey
  cases (show u=Value.ref b from ry)
  obtain⟨z,hd,xs,rel,dd⟩:=rY I.HU I.FH e
  refine wpAny_in_heap (e8 hu) (jX I.HU I.FH eb) hd dd ?_
  have q:=(rel.val k).IQ
  rw[kz] at q
  rw[← q,← l]
  exact h _ (I.tok _)
theorem RX {Q:qk}(hu:A.units+1 < cLine)(I:Inv X Fn σ H s)(g:HK X.K H a y o)(ry:RelV y u)(h:∀s',Inv X Fn σ H s'->Q (.bool (!o.isSome)) s'):
  wpAny (model X.prog X.w) A (compareOp .NotIn u (.ref a)) Q E s:=by
 rcases g with ⟨kvs,k,e,ey,l⟩ | ⟨kvs,k,b,e,ey,eb,l⟩
 ·subst ey
  obtain⟨z,hd,vs,rel,dd⟩:=ql I.FH e
  refine wpAny_notIn_of (uG ry) hd dd.mapOf ?_
  rw[← (rel.val k).IQ,← l]
  exact h _ (I.tok _)
 ·subst ey
  cases (show u=Value.ref b from ry)
  obtain⟨z,hd,xs,rel,dd⟩:=rY I.HU I.FH e
  refine wpAny_notIn_heap (e8 hu) (jX I.HU I.FH eb) hd dd ?_
  have q:=(rel.val k).IQ
  rw[kz] at q
  rw[← q,← l]
  exact h _ (I.tok _)
theorem Ai {h':Heap}{t':Nat}{ob:HO}(I:Inv X Fn σ H s)(mu:Mut (H a))(hs:Heap.SameBut a s.heap h')(he:∃q,h'.get? a=some q)(new:FK X.prog X.w X.K (upd H a ob) h' a ob):
  Inv X Fn σ (upd H a ob) { s with heap:=h',toks:=t' }:=
 I.write (x:=a) (e:=a) mu (.inl rfl) (λb q hb z=>(hs.2 b hb).trans z) he new
theorem Vs {H':Hp}{h':Heap}{kvs:List (Key×V)}{vs:List (Key×Value)}(z:kvs.length<=sizeLine)(hd:(a == sysModules)=false)(rel:KV kvs vs)(dd:h'.DictOf (ie P w) a vs):
  FK P w K H' h' a (.dK kvs):=⟨z,hd,vs,rel,dd⟩
theorem K4 {H':Hp}(hu:A.units+1 < cLine)(I:Inv X Fn σ H s)(g:OK X.K H a y v H')(ry:RelV y u)(rv:RelV v r)(h:∀s',Inv X Fn σ H' s'->Q () s'):
  wpAny (model X.prog X.w) A (setItem (.ref a) u r) Q E s:=by
 rcases g with ⟨kvs,k,e,ey,l,eH⟩ | ⟨kvs,k,b,e,ey,eb,l,eH⟩
 ·subst ey eH
  obtain⟨z,hd,vs,rel,dd⟩:=Rg I.FH e
  have hz:vs.length<=sizeLine:=by rw[← rel.length];exact z
  have hl:(putK kvs k v).length<=sizeLine:=by have:=yg kvs k v;omega
  refine wpAny_setItem_pairs (hsz:=hz) (uG ry) dd λh' dd' hs=>h _ ?_
  have he:∃q,h'.get? a=some q:=let ⟨q,_,_,hq,_⟩:=dd';⟨q,hq⟩
  exact Ai I (by rw[e];exact eS) hs he (Vs hl hd (rel.put k rv) dd')
 ·subst ey eH
  cases (show u=Value.ref b from ry)
  obtain⟨z,hd,xs,rel,dd⟩:=tH I.HU I.FH (.inl e)
  have hz:xs.length<=sizeLine:=by rw[← ff rel];exact z
  have hl:(putK kvs k v).length<=sizeLine:=by have:=yg kvs k v;omega
  refine N6 (e8 hu) (jX I.HU I.FH eb) dd hz λh' dd' hs=>h _ ?_
  obtain⟨q,es,hq,h2,h3,h4,_,h5⟩:=dd'
  refine Ai I (by rw[e];exact eS) hs ⟨q,hq⟩ ⟨hl,hd,_,(rel.put k eb rv).keeps λc ys ec=>?_,q,es,_,hq,h2,h3,h4,h5,rfl⟩
  rw[aO (Q7 ec e (λz=>nomatch z))]
  exact ec
end
section
variable {X:Cx}{Fn:qo}{σ:St}{H:Hp}{s:Shared}{a:Addr}{kvs:List (Key×V)}{k:Key}{u:Value}{A:Around}{E:qk}
theorem Yb {Q:qk}(I:Inv X Fn σ H s)(e:Rd H a (.dK kvs))(h:∀t s',Inv X Fn σ H s'->Q (.int kvs.length t) s'):wpAny (model X.prog X.w) A (call (.builtin "len") [.ref a]) Q E s:=by
 obtain⟨z,hd,vs,rel,dd⟩:=ql I.FH e
 refine call_len_dict hd dd (by rw[← rel.length];rw[oB] at z;omega) ?_
 rw[← rel.length]
 exact h _ _ (I.tok _)
end
def Oq (i:Expr):Prop:=∀ov iv,subscripted i false ov iv=operate [ov,iv] (getItem ov iv)
theorem RZ {prog:Program}{env:Env}{value slice:Expr}{T id:String}{Q:qk}
  (hl:typeLookup (.type T) "__getitem__" = pure (some (.builtin id))) (hs:Oq slice)
  (h:wpAny (model prog w) A (eval value env) (λo s₁=>wpAny (model prog w) A (eval slice env) (λi s₂=>s₂.TypeIs o T/\wpAny (model prog w) A (getItem o i) Q E s₂) E s₁) E s):
  wpAny (model prog w) A (eval (.Subscript value slice pos) env) Q E s:=by
 refine Subscript_ (eR h (λo s₁ h₁=>eR h₁ (λi s₂ h₂=>?_) λ_ _ x=>x) λ_ _ x=>x)
 obtain⟨hT,h₂⟩:=h₂
 unfold subscriptTail
 refine ab ?_
 rw[getitemInPython_of_ne hT.not_modules]
 refine ab (js hT hl ?_)
 have fin:wpAny (model prog w) A (subscripted slice false o i) (λr s₃=>wpAny (model prog w) A (letTemporaryGo value o r >>= λ_=>pure r) Q E s₃) E s₂:=by
  rw[hs o i]
  exact wpAny_operating (eR h₂ (λr s₃ h₃=>ab (wpAny_letTemporaryGo (ag h₃))) λ_ _ x=>x)
 first
  | exact ag (ab fin)
  | exact ab (ag (ab fin))
  | exact ab fin
theorem Ho {X:Cx}{y:V}{o:Option V}(I:Inv X Fn σ H s)(g:HK X.K H a y o):s.TypeIs (.ref a) "dict" := by
 rcases g with ⟨kvs,k,e,_,_⟩ | ⟨kvs,k,b,e,_,_,_⟩
 ·obtain⟨_,_,vs,_,dd⟩:=ql I.FH e
  exact dd.typeIs
 ·obtain⟨_,_,xs,_,dd⟩:=rY I.HU I.FH e
  exact dd.typeIs
def Yc (K:W.Frag)(td ty:TE):TE:=fun σ H Q=>td σ H λx H1=>ty σ H1 λy H2=>∃a v,x=.ref a/\HK K H2 a y (some v)/\Q v H2
def Yd (K:W.Frag)(td ty tv:TE):TS:=λD σ H=>tv σ H λv H1=>td σ H1 λx H2=>ty σ H2 λy H3=>∃a H4,x=.ref a/\OK K H3 a y v H4/\D.nx σ H4
section
variable {X:Cx}{o i e value:Expr}{pos pos' tpos:Pos}{td ty tv:TE}
theorem R0 (hu:X.A.units+1 < cLine)(ho:PE X o td)(hi:PE X i ty)(hs:Oq i):PE X (.Subscript o i pos) (Yc X.K td ty):=by
 intro Fn s σ H Q I h
 refine RZ PySem.F.slot_dict_getitem.lookup hs (FX (ho Fn s σ H _ I h) λu s1 ⟨x,H1,I1,rx,q1⟩=>FX (hi Fn s1 σ H1 _ I1 q1) ?_)
 rintro iv s2 ⟨y,H2,I2,ry,a,v,ex,g,q2⟩
 subst ex
 obtain rfl:u=Value.ref a:=rx
 exact⟨Ho I2 g,K3 hu I2 g ry λw' s3 I3 PF=>⟨v,H2,I3,PF,q2⟩⟩
theorem R1 (hu:X.A.units+1 < cLine)(ho:PE X o td)(hi:PE X i ty)(hv:PE X value tv)(hs:swapsWith value (some (.Subscript o i pos')) pos.line X.env=pure false):
  PS X (.Assign [.Subscript o i pos'] value pos) (Yd X.K td ty tv):=by
 intro Fn s σ H D I h
 refine wpAny_Assign_Subscript (FX (hv Fn s σ H _ I h) λr s1 ⟨v,H1,I1,rv,q1⟩=>FX (ho Fn s1 σ H1 _ I1 q1) λu s2 ⟨x,H2,I2,rx,q2⟩=>FX (hi Fn s2 σ H2 _ I2 q2) ?_) hs
 rintro iv s3 ⟨y,H3,I3,ry,a,H4,ex,g,q3⟩
 subst ex
 obtain rfl:u=Value.ref a:=rx
 exact K4 hu I3 g ry rv λs4 I4=>⟨σ,H4,I4,q3⟩
end
theorem Ou (h:Heap)(hb:sysModules < h.objs.size):FK P w K H (h.push { cls:=.type "dict",data:=.dict #[] }) h.objs.size (.dK []):=
 ⟨eA _,dL.mpr (fg (bt hb)),[],.nil,Heap.DictOf.new h⟩
theorem Es (h:Heap)(hb:sysModules < h.objs.size):FK P w K H (h.push { cls:=.type "dict",data:=.dict #[] }) h.objs.size (.dT []):=
 ⟨eA _,dL.mpr (fg (bt hb)),[],.nil,_,#[],0,ap _ rfl,⟨rfl,rfl,rfl⟩,rfl,rfl,List.nodup_nil,rfl⟩
def Vt:TE:=λ_ H Q=>∀p,H p=none->Q (.ref p) (upd H p (.dK []))
def Vu:TE:=λ_ H Q=>∀p,H p=none->Q (.ref p) (upd H p (.dT []))
section
variable {X:Cx}{pos:Pos}
theorem Ov:PE X (.Dict [] [] pos) Vt:=λFn s σ H Q I h=>
 wpAny_Dict_empty ⟨.ref s.heap.objs.size,_,I.laid (a:=s.heap.objs.size) (o:=.dK []) (t':=s.toks) (λ_ _ q=>af _ q) (aw _) (Ou s.heap I.big),rfl,h _ (I.FH.fresh (aw _))⟩
theorem Ox:PE X (.Dict [] [] pos) Vu:=λFn s σ H Q I h=>
 wpAny_Dict_empty ⟨.ref s.heap.objs.size,_,I.laid (a:=s.heap.objs.size) (o:=.dT []) (t':=s.toks) (λ_ _ q=>af _ q) (aw _) (Es s.heap I.big),rfl,h _ (I.FH.fresh (aw _))⟩
end
abbrev VV:List (V×V)->List (Value×Value)->Prop:=Paired λp q=>RelV p.1 q.1/\RelV p.2 q.2
structure M1 (X:Cx)(o:Expr)(m:Str)(apos:Pos)(e:Expr)(FG:Pos):Prop where
 base:attributeBase o m X.env (eval o X.env)=eval o X.env
 YO:((backTo FG (starEach [e] X.env)).all (λx=>!x.1)&&(backToKw FG (keywordEach [] X.env)).all (λx=>x.1.isSome)
  && decide (([e]:qB).length+([]:List Keyword).length+(if ([]:List Keyword).isEmpty then 0 else 1) < 30))=true
 line:(apos.endLine == FG.line)=true
 trees:backTo FG (starEach [e] X.env)=[(false,eval e X.env)]
structure M2 (X:Cx)(o:Expr)(m:Str)(apos:Pos)(e f:Expr)(FG:Pos):Prop where
 base:attributeBase o m X.env (eval o X.env)=eval o X.env
 YO:((backTo FG (starEach [e,f] X.env)).all (λx=>!x.1)&&(backToKw FG (keywordEach [] X.env)).all (λx=>x.1.isSome)
  && decide (([e,f]:qB).length+([]:List Keyword).length+(if ([]:List Keyword).isEmpty then 0 else 1) < 30))=true
 line:(apos.endLine == FG.line)=true
 trees:backTo FG (starEach [e,f] X.env)=[(false,eval e X.env),(false,eval f X.env)]
def IsD (H:Hp)(a:Addr):Prop:=(∃kvs,Rd H a (.dK kvs))\/∃kvs,Rd H a (.dT kvs)
theorem y_ {X:Cx}(I:Inv X Fn σ H s)(d:IsD H a):
  s.TypeIs (.ref a) "dict" /\ (∀b,Value.ref a=.ref b->∃ob,s.heap.get? b=some ob/\ob.dict=none)/\(a == sysModules)=false:=by
 rcases d with ⟨kvs,e⟩ | ⟨kvs,e⟩
 ·obtain⟨_,hd,vs,_,dd⟩:=ql I.FH e
  refine⟨dd.typeIs,λb q=>?_,hd⟩
  cases q
  obtain⟨ob,_,_,h1,h2,_⟩:=dd
  exact⟨ob,h1,h2.2.1⟩
 ·obtain⟨_,hd,xs,_,dd⟩:=rY I.HU I.FH e
  refine⟨dd.typeIs,λb q=>?_,hd⟩
  cases q
  obtain⟨ob,_,_,h1,h2,_⟩:=dd
  exact⟨ob,h1,h2.2.1⟩
section
variable {X:Cx}{Fn:qo}{σ:St}{H:Hp}{s:Shared}{a:Addr}{y d:V}{u r:Value}{o:Option V}{A:Around}{E:qk}
theorem Vv {Q:qk}(hu:A.units+1 < cLine)(I:Inv X Fn σ H s)(g:HK X.K H a y o)(ry:RelV y u)(h:∀w' s',Inv X Fn σ H s'->RelV (o.getD .FE) w'->Q w' s'):
  wpAny (model X.prog X.w) A (call (.builtin "dict.get") [.ref a,u]) Q E s:=by
 rcases g with ⟨kvs,k,e,ey,l⟩ | ⟨kvs,k,b,e,ey,eb,l⟩
 ·subst ey
  obtain⟨z,hd,vs,rel,dd⟩:=ql I.FH e
  refine l9 dQ dd.typeIs fT (nc _ _) (meets_dict_get (ie X.prog X.w) a (uG ry) hd) ⟨_,dd.mapOf,h _ _ (I.tok _) ?_⟩
  rw[l]
  exact(rel.val k).getD rfl
 ·subst ey
  cases (show u=Value.ref b from ry)
  obtain⟨z,hd,xs,rel,dd⟩:=rY I.HU I.FH e
  refine l9 dQ dd.typeIs fT (nc _ _) (meetsH_dict_get (tupleKind (cR X.prog X.w)) a b hd) ⟨e8 hu,k,xs,jX I.HU I.FH eb,dd,h _ _ (I.tok _) ?_⟩
  rw[l]
  exact(rel.val k).getD rfl
theorem Vw {Q:qk}(hu:A.units+1 < cLine)(I:Inv X Fn σ H s)(g:HK X.K H a y o)(ry:RelV y u)(rd:RelV d r)(h:∀w' s',Inv X Fn σ H s'->RelV (o.getD d) w'->Q w' s'):
  wpAny (model X.prog X.w) A (call (.builtin "dict.get") [.ref a,u,r]) Q E s:=by
 rcases g with ⟨kvs,k,e,ey,l⟩ | ⟨kvs,k,b,e,ey,eb,l⟩
 ·subst ey
  obtain⟨z,hd,vs,rel,dd⟩:=ql I.FH e
  refine l9 dQ dd.typeIs fT (kc _ _ _) (meets_dict_get_default (ie X.prog X.w) a (uG ry) hd r) ⟨_,dd.mapOf,h _ _ (I.tok _) ?_⟩
  rw[l]
  exact(rel.val k).getD rd
 ·subst ey
  cases (show u=Value.ref b from ry)
  obtain⟨z,hd,xs,rel,dd⟩:=rY I.HU I.FH e
  refine l9 dQ dd.typeIs fT (kc _ _ _) (ng (tupleKind (cR X.prog X.w)) a b hd r) ⟨e8 hu,k,xs,jX I.HU I.FH eb,dd,h _ _ (I.tok _) ?_⟩
  rw[l]
  exact(rel.val k).getD rd
end
def Vx (K:W.Frag)(td ty:TE):TE:=fun σ H Q=>td σ H λx H1=>∃a,x=.ref a/\IsD H1 a/\ty σ H1 λy H2=>∃o,HK K H2 a y o/\Q (o.getD .FE) H2
def Vy (K:W.Frag)(td ty tx:TE):TE:=fun σ H Q=>td σ H λx H1=>∃a,x=.ref a/\IsD H1 a/\ty σ H1 λy H2=>tx σ H2 λz H3=>∃o,HK K H3 a y o/\Q (o.getD z) H3
section
variable {X:Cx}{o e f:Expr}{apos FG:Pos}{td ty tx:TE}
theorem Oz (hu:X.A.units+1 < cLine)(ho:PE X o td)(he:PE X e ty)(m:M1 X o "get" apos e FG):PE X (.Call (.Attribute o "get" apos) [e] [] FG) (Vx X.K td ty):=by
 intro Fn s σ H Q I h
 refine kB m.base m.YO m.line ke dQ kR (FX (ho Fn s σ H _ I h) ?_)
 rintro u s1 ⟨x,H1,I1,rx,a,ex,d,q1⟩
 subst ex
 obtain rfl:u=Value.ref a:=rx
 obtain⟨t1,t2,_⟩:=y_ I1 d
 refine⟨t1,t2,?_⟩
 rw[m.trees]
 refine f7 rfl (iN (d0 (FX (he Fn s1 σ H1 _ I1 q1) λiv s2 ⟨y,H2,I2,ry,ov,g,q2⟩=>fz ?_)))
 exact Vv hu I2 g ry λw' s3 I3 PF=>⟨_,H2,I3,PF,q2⟩
theorem OD (hu:X.A.units+1 < cLine)(ho:PE X o td)(he:PE X e ty)(hf:PE X f tx)(m:M2 X o "get" apos e f FG):PE X (.Call (.Attribute o "get" apos) [e,f] [] FG) (Vy X.K td ty tx):=by
 intro Fn s σ H Q I h
 refine kB m.base m.YO m.line ke dQ kR (FX (ho Fn s σ H _ I h) ?_)
 rintro u s1 ⟨x,H1,I1,rx,a,ex,d,q1⟩
 subst ex
 obtain rfl:u=Value.ref a:=rx
 obtain⟨t1,t2,_⟩:=y_ I1 d
 refine⟨t1,t2,?_⟩
 rw[m.trees]
 refine f7 rfl (iN (d0 (FX (he Fn s1 σ H1 _ I1 q1) λiv s2 ⟨y,H2,I2,ry,q2⟩=>
  d0 (FX (hf Fn s2 σ H2 _ I2 q2) λfv s3 ⟨z,H3,I3,rz,ov,g,q3⟩=>fz ?_))))
 exact Vw hu I3 g ry rz λw' s4 I4 PF=>⟨_,H3,I4,PF,q3⟩
end
end Lake.L2
namespace Lake.HT
open PySem PyProof.Rows
theorem OJ (A:Around)(s:Shared)(a:Int)(t:Tok)(c:Int)(u:Tok)(prog:Program)(w:World)(E:qk)(Q:qk)(h:Q (.bool (decide (a < c))) s):
  wpAny (model prog w) A (richCompare .Lt (.int a t) (.int c u)) Q E s:=
 (PyProof.Rows.lt_int h:wpAny (model prog w) A (compareOp .Lt (.int a t) (.int c u)) Q E s)
section
variable {prog:Program}{w:World}{A:Around}{E:qk}{s:Shared}
theorem YR {t b:Addr}{vs ws:qv}{Q:qk}(ht:IsTup s.heap t vs.toArray)(hb:IsTup s.heap b ws.toArray)(hv:vs≠[])
  (h1:ws=[]->Q (.ref t) s) (h2:ws≠[]->Q (.ref s.heap.objs.size) { s with heap:=s.heap.push { cls:=.type "tuple",data:=.seq (vs++ws).toArray } })
  (hsz:vs.length+ws.length<=sizeLine):wpAny (model prog w) A (binaryOp .Add (.ref t) (.ref b)) Q E s:=by
 obtain⟨⟨cls,dd,data,sl⟩,ho,hc,n,hd⟩:=id ht
 obtain⟨⟨cls2,QI,data2,Sl⟩,Pm,PH,n2,hd2⟩:=id hb
 simp only at hc hd PH hd2
 subst hc hd PH hd2
 have e:vs.toArray++ws.toArray=(vs++ws).toArray:=by simp
 by_cases hw:ws=[]
 ·exact concat_meets ⟨_,ho,rfl⟩ ⟨_,Pm,rfl⟩ nh pS kC kf (i8 _ _)
   (tuple_addW1 t b vs.toArray ws.toArray n n2 dd QI sl Sl (by simpa using hv) (by simp[hw])) ⟨ho,Pm,h1 hw⟩
 ·refine concat_meets ⟨_,ho,rfl⟩ ⟨_,Pm,rfl⟩ nh pS kC kf (i8 _ _)
   (tuple_addW2 t b vs.toArray ws.toArray n n2 dd QI sl Sl (by simpa using hv) (by simpa using hw) (by rw[ar,ar];exact hsz)) ⟨ho,Pm,?_⟩
  rw[e]
  exact h2 hw
noncomputable def ID (n d:Nat):Option Int->Nat
 | none=>d
 | some v=>if v < 0 then (v+(n:Int)).toNat else min v.toNat n
theorem Ki (n d:Nat):ID n d none=d:=rfl
theorem GA (n d k:Nat):ID n d (some (k:Int))=min k n:=by
 show (if (k:Int) < 0 then ((k:Int)+(n:Int)).toNat else min (k:Int).toNat n)=min k n
 rw[ax (by omega),ft]
theorem sIx_le (n d:Nat)(hd:d<=n)(o:Option Int):ID n d o<=n:=by
 cases o with
 | none=>exact hd
 | some v=>
  show (if v < 0 then (v+(n:Int)).toNat else min v.toNat n)<=n
  by_cases hv:v < 0
  ·rw[ba hv];omega
  ·rw[ax hv];exact nr _ _
end
end Lake.HT
namespace Lake.L2
open PySem PySem.Spec PyProof.Rows
abbrev TO:=St->Hp->(Option Int->Hp->Prop)->Prop
def PO (X:Cx)(e:Option Expr)(t:TO):Prop:=
 ∀(Fn:qo) (s:Shared) (σ:St) (H:Hp) (Q:Option Int->Hp->Prop),Inv X Fn σ H s->t σ H Q->
  wpAny (model X.prog X.w) X.A (evalPart e X.env) (λu s'=>∃o H',Inv X Fn σ H' s'/\IsPart u o/\Q o H') X.xe s
def R3:TO:=λ_ H Q=>Q none H
def Ye (t:TE):TO:=fun σ H Q=>t σ H λx H1=>∃i,x=.int i/\Q (some i) H1
section
variable {X:Cx}{e:Expr}{te:TE}{lo hi:Option Expr}{tl th:TO}{pos p2:Pos}
theorem R4:PO X none R3:=by
 intro Fn s σ H Q I h
 rw[evalPart_none]
 exact ag ⟨none,H,I,.none,h⟩
theorem R5 (h:PE X e te):PO X (some e) (Ye te):=by
 intro Fn s σ H Q I hw
 rw[evalPart_some]
 refine FX (h Fn s σ H _ I hw) ?_
 rintro u s1 ⟨x,H1,I1,r1,q1⟩
 obtain⟨i,rfl,q⟩:=q1
 obtain⟨t,rfl⟩:=r1
 exact⟨some i,H1,I1,.int i t,q⟩
def SlR (X:Cx)(r:V->Option Int->Option Int->Hp->VK->Prop):Prop:=
 ∀(Fn:qo) (s:Shared) (σ:St) (H:Hp) (x:V) (v vl vu:Value) (lo hi:Option Int) (sl:Addr) (Q:VK),Inv X Fn σ H s->RelV x v->s.heap.IsSliceOf sl vl vu .none->IsPart vl lo->IsPart vu hi->r x lo hi H Q->
  ∃T id,typeLookup (.type T) "__getitem__" = pure (some (.builtin id))/\s.TypeIs v T/\wpAny (model X.prog X.w) X.A (getItem v (.ref sl)) (EP X Fn σ Q) X.xe s
theorem SlR.or {r r':V->Option Int->Option Int->Hp->VK->Prop}(h:SlR X r)(h':SlR X r'):SlR X (λx lo hi H Q=>r x lo hi H Q\/r' x lo hi H Q):=by
 intro Fn s σ H x v vl vu lo hi sl Q I rx hs pl pu q
 rcases q with q | q
 ·exact h Fn s σ H x v vl vu lo hi sl Q I rx hs pl pu q
 ·exact h' Fn s σ H x v vl vu lo hi sl Q I rx hs pl pu q
def tSl (r:V->Option Int->Option Int->Hp->VK->Prop)(te:TE)(tl th:TO):TE:=fun σ H Q=>te σ H λx H1=>tl σ H1 λl H2=>th σ H2 λu H3=>r x l u H3 Q
theorem O1 {r:V->Option Int->Option Int->Hp->VK->Prop}(hr:SlR X r)(he:PE X e te)(hl:PO X lo tl)(hu:PO X hi th):PE X (.Subscript e (.Slice lo hi none p2) pos) (tSl r te tl th):=by
 intro Fn s σ H Q I h
 refine Subscript_ (FX (he Fn s σ H _ I h) ?_)
 rintro v s1 ⟨x,H1,I1,r1,q1⟩
 refine wpAny_Slice (FX (hl Fn s1 σ H1 _ I1 q1) λvl s2 ⟨l,H2,I2,pl,q2⟩=>FX (hu Fn s2 σ H2 _ I2 q2) ?_)
 rintro vu s3 ⟨u,H3,I3,pu,q3⟩
 rw[evalPart_none]
 refine ag ?_
 have I4:Inv X Fn σ H3 { s3 with heap:=s3.heap.push { cls:=.type "slice",data:=.fields #[vl,vu,.none] } }:=I3.kept (t':=s3.toks) λb ob q=>af _ q
 obtain⟨T,id,hT,ht,hg⟩:=hr Fn { s3 with heap:=s3.heap.push { cls:=.type "slice",data:=.fields #[vl,vu,.none] } } σ H3 x v vl vu l u s3.heap.objs.size Q I4 r1 (Heap.IsSliceOf.new ..) pl pu q3
 show wpAny (model X.prog X.w) X.A (subscriptTail e (.Slice lo hi none p2) v (.ref s3.heap.objs.size)) (EP X Fn σ Q) X.xe { s3 with heap:=s3.heap.push { cls:=.type "slice",data:=.fields #[vl,vu,.none] } }
 exact tail_any (ops:=[.ref s3.heap.objs.size,v]) ht hT hg (by with_unfolding_all rfl)
noncomputable def Aj (xs:List V)(lo hi:Option Int):List V:=(xs.drop (HT.ID xs.length 0 lo)).take (HT.ID xs.length xs.length hi - HT.ID xs.length 0 lo)
theorem Hq (xs:List V)(lo hi:Option Int):(Aj xs lo hi).length<=xs.length:=by
 unfold Aj
 rw[eW,dA]
 omega
def za (K:W.Frag):R2:=λx y H Q=>∃a b xs ys,x=.ref a/\y=.ref b/\IP K H a xs/\IP K H b ys/\xs≠[]/\xs.length+ys.length<=sizeLine /\
 (ys=[]->Q (.ref a) H)/\(ys≠[]->∀p,H p=none->Q (.ref p) (upd H p (.tup (xs++ys))))
theorem Vals.NU {xs:List V}{us:qv}(r:Vals xs us):us=[]↔xs=[]:=by
 cases r with
 | nil=>simp
 | cons _ _=>simp
theorem R6:G0 X (binaryOp .Add) (za X.K):=by
 intro Fn s σ H x y v u Q I rx ry h
 obtain⟨a,b,xs,ys,rfl,rfl,ha,hb,hx,hz,q1,q2⟩:=h
 cases rx
 cases ry
 obtain⟨its,r1,p1,_⟩:=I.tuple ha
 obtain⟨JA,r2,p2,_⟩:=I.tuple hb
 refine HT.YR p1 p2 (λz=>hx (r1.NU.mp z)) (λz=>⟨.ref a,H,I,rfl,q1 (r2.NU.mp z)⟩) (λz=>?_) (by rw[← r1.length,← r2.length];exact hz)
 refine⟨.ref s.heap.objs.size,_,I.laid (t':=s.toks) (o:=.tup (xs++ys)) (λb ob q=>af _ q) (aw _) ?_,rfl,q2 (λw=>z (r2.NU.mpr w)) _ (I.FH.fresh (aw _))⟩
 exact⟨by rw[a9];exact hz,_,r1.append r2,IsTup.new _ _⟩
end
noncomputable def NW (n:Nat)(i:Int):Option Nat:=if 0<=i then (if i < n then some i.toNat else none) else if -(n:Int)<=i then some (i+n).toNat else none
noncomputable def F1 {α:Type}(xs:List α)(i:Int):Option α:=(NW xs.length i).bind λj=>xs[j]?
theorem HJ {n:Nat}{i:Int}{j:Nat}(h:NW n i=some j):seqIndex? i n=some j/\j < n/\-(n:Int)<=i/\i < n:=by
 unfold NW at h
 by_cases h0:0<=i
 ·rw[ba h0] at h
  by_cases h1:i < n
  ·rw[ba h1] at h
   have e:i.toNat=j:=bo h
   exact⟨by rw[seqIndex_of h0 h1,e],by omega,by omega,h1⟩
  ·rw[ax h1] at h;cases h
 ·rw[ax h0] at h
  by_cases h1:-(n:Int)<=i
  ·rw[ba h1] at h
   have e:(i+n).toNat=j:=bo h
   exact⟨by rw[seqIndex_neg (by omega) h1,e],by omega,h1,by omega⟩
  ·rw[ax h1] at h;cases h
theorem Ak {α:Type}{xs:List α}{i:Int}{v:α}(h:F1 xs i=some v):∃j,seqIndex? i xs.length=some j/\xs[j]?=some v/\j < xs.length/\-(xs.length:Int)<=i/\i < xs.length:=by
 unfold F1 at h
 cases e:NW xs.length i with
 | none=>rw[e] at h;cases h
 | some j=>
  rw[e] at h
  obtain⟨h1,h2,h3,h4⟩:=HJ e
  exact⟨j,h1,h,h2,h3,h4⟩
theorem R7 {α:Type}{xs:List α}{j:Nat}{v:α}(h:xs[j]?=some v):F1 xs (j:Int)=some v:=by
 have hj:j < xs.length:=(aS.mp h).1
 have e:NW xs.length (j:Int)=some j:=by
  unfold NW
  rw[ba (by omega),ba (by omega)];simp
 unfold F1;rw[e];exact h
def HN (b:Expr):Prop:=∀o i,subscripted b false o i=operate [o,i] (getItem o i)
def YU (X:Cx)(r:R2):Prop:=
 ∀(value slice:Expr) (Fn:qo) (s:Shared) (σ:St) (H:Hp) (x y:V) (v u:Value) (Q:VK),Inv X Fn σ H s->RelV x v->RelV y u->r x y H Q->
  subscripted slice false v u=operate [v,u] (getItem v u)->wpAny (model X.prog X.w) X.A (subscriptTail value slice v u) (EP X Fn σ Q) X.xe s
def MtR (X:Cx)(id:String)(r:V->List V->Hp->VK->Prop):Prop:=
 ∀(Fn:qo) (s:Shared) (σ:St) (H:Hp) (x:V) (xs:List V) (v:Value) (us:qv) (Q:VK),Inv X Fn σ H s->RelV x v->Vals xs us->r x xs H Q->
  wpAny (model X.prog X.w) X.A (call (.builtin id) (v::us)) (EP X Fn σ Q) X.xe s
section
variable {X:Cx}{a b:Expr}{ta tb:TE}{pos:Pos}
theorem YU.or {r r':R2}(h:YU X r)(h':YU X r'):YU X (λx y H Q=>r x y H Q\/r' x y H Q):=by
 intro value slice Fn s σ H x y v u Q I rx ry q hs
 rcases q with q | q
 ·exact h value slice Fn s σ H x y v u Q I rx ry q hs
 ·exact h' value slice Fn s σ H x y v u Q I rx ry q hs
theorem Yg {r:R2}(hr:YU X r)(ha:PE X a ta)(hb:PE X b tb)(hs:HN b):PE X (.Subscript a b pos) (tOp r ta tb):=by
 intro Fn s σ H Q I h
 exact Subscript_ (Oe ha hb I h λv u s2 x y H2 I2 rx ry q=>hr a b Fn s2 σ H2 x y v u Q I2 rx ry q (hs _ _))
def Vz (K:W.Frag):R2:=λx y H Q=>∃p xs i v,x=.ref p/\y=.int i/\F8 K H p xs/\F1 xs i=some v/\Q v H
def VB (K:W.Frag):R2:=λx y H Q=>∃p xs i v,x=.ref p/\y=.int i/\IP K H p xs/\F1 xs i=some v/\Q v H
def VD:R2:=λx y H Q=>∃z i c,x=.str z/\y=.int i/\z.length<=sizeLine/\F1 z.cps.toList i=some c/\Q (.str ⟨#[c]⟩) H
theorem YV:YU X (Vz X.K):=by
 intro value slice Fn s σ H x y v u Q I rx ry h hs
 obtain⟨p,xs,i,z,rfl,rfl,hq,he,q⟩:=h
 cases rx
 obtain⟨t,rfl⟩:=ry
 obtain⟨its,r,pl,hz⟩:=I.list hq
 obtain⟨j,h1,h2,h3,h4,h5⟩:=Ak he
 obtain⟨w,ew,PF⟩:=r.get h2
 have hl:=r.length
 have hn:=ug
 have fin:EP X Fn σ Q w s:=⟨z,H,I,PF,q⟩
 by_cases h0:0<=i
 ·have hj:i.toNat=j:=by
   rw[seqIndex_of h0 h5] at h1
   exact bo h1
  exact item_listR pl.isList h0 (by omega) (by rw[hj];simpa using ew) fin hs
 ·have hj:(i+(its.toArray.size:Int)).toNat=j:=by
   rw[seqIndex_neg (by omega) h4] at h1
   rw[ar,← hl]
   exact bo h1
  exact subscriptTail_builtinR (x:=w) pl.isList.typeIs slot_list_getitem.lookup
   (wpAny_getItem_list_neg (Q:=λr s'=>r=w/\EP X Fn σ Q r s') pl.isList (by omega) (by rw[ar] <;> omega) (by omega) (by rw[hj];simpa using ew) ⟨rfl,fin⟩) hs
theorem ix_tup:YU X (VB X.K):=by
 intro value slice Fn s σ H x y v u Q I rx ry h hs
 obtain⟨p,xs,i,z,rfl,rfl,hq,he,q⟩:=h
 cases rx
 obtain⟨t,rfl⟩:=ry
 obtain⟨its,r,pl,hz⟩:=I.tuple hq
 obtain⟨j,h1,h2,h3,h4,h5⟩:=Ak he
 obtain⟨w,ew,PF⟩:=r.get h2
 have hl:=r.length
 have hn:=ug
 have fin:EP X Fn σ Q w s:=⟨z,H,I,PF,q⟩
 exact subscriptTail_builtinR (x:=w) pl.typeIs slot_tuple_getitem.lookup
  (getItem_tuple (j:=j) (Q:=λr s'=>r=w/\EP X Fn σ Q r s') pl (by omega) (by omega) (by rw[ar,← hl];exact h1) (by simpa using ew) ⟨rfl,fin⟩) hs
theorem VF:YU X VD:=by
 intro value slice Fn s σ H x y v u Q I rx ry h hs
 obtain⟨z,i,c,rfl,rfl,hz,he,q⟩:=h
 obtain⟨t,rfl⟩:=rx
 obtain⟨t',rfl⟩:=ry
 obtain⟨j,h1,h2,h3,h4,h5⟩:=Ak he
 have hl:z.cps.toList.length=z.length:=by simp[Str.length]
 rw[hl] at h1 h4 h5
 have hn:=ug
 exact tail_any (mv s z t) slot_str_getitem.lookup (getItem_str (c:=c) (by
  have e1:decide (i < -(2 ^ 63:Int))=false:=be (by omega)
  have e2:decide (i ≥ 2 ^ 63)=false:=be (by omega)
  rw[e1,e2,Bool.or_false]) (by rw[h1];simpa using h2) ⟨.str ⟨#[c]⟩,H,I.tok _,⟨_,rfl⟩,q⟩) hs
def rIx (K:W.Frag):R2:=λx y H Q=>Vz K x y H Q\/VB K x y H Q\/VD x y H Q
theorem VG:YU X (rIx X.K):=YV.or (ix_tup.or VF)
theorem Jp (its:qv)(n j:Nat)(u:Value):Obj.mapSeq (·.setIfInBounds j u) { cls:=.type "list",data:=.seq its.toArray n }={ cls:=.type "list",data:=.seq (its.set j u).toArray n }:=by
 simp[Obj.mapSeq]
theorem Inv.lst {Fn:qo}{σ:St}{H:Hp}{s:Shared}{p:Addr}{xs:List V}(I:Inv X Fn σ H s)(h:H p=some (.lst xs)):
  ∃(its:qv) (n:Nat),Vals xs its/\s.heap.get? p=some { cls:=.type "list",data:=.seq its.toArray n }/\xs.length<=sizeLine:=by
 obtain⟨z,its,n,r,e⟩:=I.FH p _ h
 exact⟨its,n,r,e,z⟩
theorem Inv.lstUpd {Fn:qo}{σ:St}{H:Hp}{s:Shared}{p:Addr}{xs ys:List V}{its its':qv}{n n':Nat}{f:Obj->Obj}(I:Inv X Fn σ H s)(h:H p=some (.lst xs))
  (ho:s.heap.get? p=some { cls:=.type "list",data:=.seq its.toArray n }) (hf:f { cls:=.type "list",data:=.seq its.toArray n }={ cls:=.type "list",data:=.seq its'.toArray n' }) (r:Vals ys its') (hz:ys.length<=sizeLine) (t:Nat):
  Inv X Fn σ (upd H p (.lst ys)) { s with heap:=s.heap.update p f,toks:=t }:=by
 have e:(s.heap.update p f).get? p=some { cls:=.type "list",data:=.seq its'.toArray n' }:=by
  rw[cn f ho (by rw[hf] <;> rfl),hf]
 refine I.write (x:=p) (e:=p) (by rw[h];trivial) (.inl rfl) (λb u hb q=>(cf _ _ (fg hb)).trans q) ⟨_,e⟩ ?_
 exact⟨hz,its',n',r,e⟩
def Yh:V->V->V->Hp->(Hp->Prop)->Prop:=λo i v H Q=>∃p xs k j,o=.ref p/\i=.int k/\H p=some (.lst xs)/\NW xs.length k=some j/\Q (upd H p (.lst (xs.set j v)))
theorem set_list:U3 X Yh:=by
 intro Fn s σ H o i v ov iv u Q I ro ri rv h
 obtain⟨p,xs,k,j,rfl,rfl,hp,hj,q⟩:=h
 cases ro
 obtain⟨t,rfl⟩:=ri
 obtain⟨its,n,r,ho,hz⟩:=I.lst hp
 obtain⟨h1,h2,h3,h4⟩:=HJ hj
 have hl:=r.length
 have hn:=ug
 have I':Inv X Fn σ (upd H p (.lst (xs.set j v))) { s with heap:=s.heap.update p (Obj.mapSeq (·.setIfInBounds j u)) }:=
  I.lstUpd hp ho (Jp its n j u) (r.set rv j) (by rw[em];exact hz) s.toks
 by_cases h0:0<=k
 ·have hk:k.toNat=j:=by
   rw[seqIndex_of h0 h4] at h1
   exact bo h1
  exact W.ki_setAt ho h0 (by omega) (by rw[ar,← hl];exact h4) (by rw[hk];exact⟨_,I',q⟩)
 ·have hk:(k+(its.toArray.size:Int)).toNat=j:=by
   rw[seqIndex_neg (by omega) h3] at h1
   rw[ar,← hl]
   exact bo h1
  exact W.ki_setBack ho (by omega) (by rw[ar,← hl];exact h3) (by omega) (by rw[hk];exact⟨_,I',q⟩)
theorem cl0 (n:Nat)(o:Option Int)(d:Nat):(match o with | none=>(d:Int) | some i=>let i:=if i < 0 then i+(n:Int) else i;if (1:Int) > 0 then max 0 (min i (n:Int)) else max (-1) (min i ((n:Int) - 1)))=((HT.ID n d o:Nat):Int):=by
 cases o with
 | none=>rfl
 | some i=>
  show max 0 (min (if i < 0 then i+(n:Int) else i) (n:Int))=((if i < 0 then (i+(n:Int)).toNat else min i.toNat n:Nat):Int)
  by_cases h:i < 0
  ·rw[ba h,ba h,Int.min_eq_left (by omega),Int.max_comm,Int.toNat_eq_max]
  ·have h:=Int.not_lt.mp h
   rw[ax (Int.not_lt.mpr h),ax (Int.not_lt.mpr h)]
   rcases Int.le_total i n with q | q
   ·rw[Int.min_eq_left q,Int.max_eq_right h,gE (Int.toNat_le.mpr q),Int.toNat_of_nonneg h]
   ·rw[Int.min_eq_right q,Int.max_eq_right (Int.natCast_nonneg n),Nat.min_eq_right ((Int.le_toNat h).mpr q)]
theorem Et (lo hi:Option Int)(n:Nat):(sliceBounds lo hi none n).1=((HT.ID n 0 lo:Nat):Int)/\(sliceBounds lo hi none n).2.1=((HT.ID n n hi:Nat):Int)/\(sliceBounds lo hi none n).2.2=1:=by
 refine⟨?_,?_,rfl⟩
 ·rw[← cl0]
  cases lo <;> rfl
 ·rw[← cl0]
  cases hi <;> rfl
theorem De (its:qv)(lo hi:Option Int):slicePick its.toArray lo hi none=((its.drop (HT.ID its.length 0 lo)).take (HT.ID its.length its.length hi - HT.ID its.length 0 lo)).toArray:=by
 obtain⟨h1,h2,h3⟩:=Et lo hi its.toArray.size
 unfold slicePick
 rw[h1,h2,h3]
 simp only[sliceRange_one,pick_run,ar] <;> rfl
def VH (K:W.Frag):V->Option Int->Option Int->Hp->VK->Prop:=λx lo hi H Q=>∃a xs,x=.ref a/\F8 K H a xs/\∀p,H p=none->Q (.ref p) (upd H p (.lst (Aj xs lo hi)))
theorem YY:SlR X (VH X.K):=by
 intro Fn s σ H x v vl vu lo hi sl Q I rx hs pl pu h
 obtain⟨a,xs,rfl,hx,q⟩:=h
 cases rx
 obtain⟨its,r,ht,hz⟩:=I.list hx
 have hlen:=r.length
 refine⟨"list",_,slot_list_getitem.lookup,ht.isList.typeIs,?_⟩
 refine wpAny_getItem_list_slice ht.isList hs pl pu .none (by simp) ?_ (by rw[ar] <;> omega)
 rw[De,← hlen]
 refine⟨.ref s.heap.objs.size,_,I.laid (t':=s.toks) (o:=.lst (Aj xs lo hi)) (λb ob q=>af _ q) (aw _) ?_,rfl,q _ (I.FH.fresh (aw _))⟩
 exact⟨cm (Hq xs lo hi) hz,_,0,(r.drop (HT.ID xs.length 0 lo)).take (HT.ID xs.length xs.length hi - HT.ID xs.length 0 lo),ap _ rfl⟩
noncomputable def jY:V->Bool
 | .FE=>true
 | .bl _=>true
 | .int _=>true
 | .str _=>true
 | _=>false
noncomputable def Y1:V->V->Bool
 | .FE,.FE=>true
 | .bl a,.bl b=>a == b
 | .bl a,.int b=>(if a then 1 else 0) == b
 | .int a,.bl b=>a == (if b then 1 else 0)
 | .int a,.int b=>a == b
 | .str a,.str b=>a == b
 | _,_=>false
theorem VJ {A:Around}{s:Shared}{y x:V}{u v:Value}(ry:RelV y u)(rx:RelV x v)(fy:jY y=true)(fx:jY x=true):SeqAt.EqAt A s u v (Y1 y x):=by
 cases y with
 | FE=>
  cases ry
  cases x with
  | FE=>cases rx;exact SeqAt.EqAt.same _
  | bl b=>cases rx;exact SeqAt.EqAt.none_bool b
  | int b=>obtain⟨t,rfl⟩:=rx;exact SeqAt.EqAt.none_int b t
  | str b=>obtain⟨t,rfl⟩:=rx;exact SeqAt.EqAt.none_str b t
  | _=>exact absurd (show false=true from fx) bd
 | bl a=>
  cases ry
  cases x with
  | FE=>cases rx;exact SeqAt.EqAt.bool_none a
  | bl b=>cases rx;exact SeqAt.EqAt.bool_bool a b
  | int b=>obtain⟨t,rfl⟩:=rx;exact SeqAt.EqAt.bool_int a b t
  | str b=>obtain⟨t,rfl⟩:=rx;exact SeqAt.EqAt.bool_str a b t
  | _=>exact absurd (show false=true from fx) bd
 | int a=>
  obtain⟨t',rfl⟩:=ry
  cases x with
  | FE=>cases rx;exact SeqAt.EqAt.int_none a t'
  | bl b=>cases rx;exact SeqAt.EqAt.int_bool a t' b
  | int b=>obtain⟨t,rfl⟩:=rx;exact SeqAt.EqAt.int_int a t' b t
  | str b=>obtain⟨t,rfl⟩:=rx;exact ml a t' b t
  | _=>exact absurd (show false=true from fx) bd
 | str a=>
  obtain⟨t',rfl⟩:=ry
  cases x with
  | FE=>cases rx;exact SeqAt.EqAt.str_none a t'
  | bl b=>cases rx;exact SeqAt.EqAt.str_bool a t' b
  | int b=>obtain⟨t,rfl⟩:=rx;exact mm a t' b t
  | str b=>obtain⟨t,rfl⟩:=rx;exact SeqAt.EqAt.str_str a t' b t
  | _=>exact absurd (show false=true from fx) bd
 | _=>exact absurd (show false=true from fy) bd
noncomputable def PM (x:V)(u:Value):Bool:=match u with
 | .none=>Y1 .FE x
 | .bool b=>Y1 (.bl b) x
 | .int i _=>Y1 (.int i) x
 | .str z _=>Y1 (.str z) x
 | _=>false
theorem K5 {x y:V}{u:Value}(r:RelV y u)(f:jY y=true):PM x u=Y1 y x:=by
 cases y with
 | FE=>cases r;rfl
 | bl b=>cases r;rfl
 | int i=>obtain⟨t,rfl⟩:=r;rfl
 | str z=>obtain⟨t,rfl⟩:=r;rfl
 | _=>exact absurd (show false=true from f) bd
theorem uh {x:V}:∀{xs:List V}{us:qv},Vals xs us->xs.all jY=true->us.any (PM x)=xs.any λy=>Y1 y x
 | _,_,.nil,_=>rfl
 | y::xs,u::us,.cons r t,f=>by
  rw[i9,cb] at f
  rw[dy,dy,K5 r f.1,uh t f.2]
theorem qR {A:Around}{s:Shared}{x:V}{v:Value}(rx:RelV x v)(fx:jY x=true):∀{xs:List V}{us:qv},Vals xs us->xs.all jY=true->∀u∈us,SeqAt.EqAt A s u v (PM x u)
 | _,_,.nil,_=>λu hu=>by cases hu
 | y::xs,u::us,.cons r t,f=>λu' hu=>by
  rw[i9,cb] at f
  rcases aI.mp hu with rfl | hu
  ·rw[K5 r f.1];exact VJ r rx f.1 fx
  ·exact qR rx fx t f.2 u' hu
noncomputable def inV (x:V)(xs:List V):Bool:=xs.any λy=>Y1 y x
def rIn (K:W.Frag)(neg:Bool):R2:=λx y H Q=>∃p xs,y=.ref p/\(F8 K H p xs\/IP K H p xs)/\jY x=true/\xs.all jY=true/\Q (.bl (if neg then !inV x xs else inV x xs)) H
theorem K6:G0 X (compareOp .In) (rIn X.K false):=by
 intro Fn s σ H x y v u Q I rx ry h
 obtain⟨p,xs,rfl,hq,fx,fs,q⟩:=h
 cases ry
 rcases hq with hq | hq
 ·obtain⟨its,r,pl,hz⟩:=I.list hq
  refine SeqAt.in_listAt (PM x) pl.isList (λw hw=>qR rx fx r fs w (by simpa using hw)) ⟨.bl _,H,I,rfl,?_⟩
  rw[show its.toArray.any (PM x)=its.any (PM x) by simp,uh r fs]
  exact q
 ·obtain⟨its,r,pl,hz⟩:=I.tuple hq
  refine SeqAt.in_tupleAt (PM x) pl (λw hw=>qR rx fx r fs w (by simpa using hw)) ⟨.bl _,H,I,rfl,?_⟩
  rw[show its.toArray.any (PM x)=its.any (PM x) by simp,uh r fs]
  exact q
theorem Eu:G0 X (compareOp .NotIn) (rIn X.K true):=by
 intro Fn s σ H x y v u Q I rx ry h
 obtain⟨p,xs,rfl,hq,fx,fs,q⟩:=h
 cases ry
 rcases hq with hq | hq
 ·obtain⟨its,r,pl,hz⟩:=I.list hq
  refine SeqAt.notIn_listAt (PM x) pl.isList (λw hw=>qR rx fx r fs w (by simpa using hw)) ⟨.bl _,H,I,rfl,?_⟩
  rw[show its.toArray.any (PM x)=its.any (PM x) by simp,uh r fs]
  exact q
 ·obtain⟨its,r,pl,hz⟩:=I.tuple hq
  refine SeqAt.notIn_tupleAt (PM x) pl (λw hw=>qR rx fx r fs w (by simpa using hw)) ⟨.bl _,H,I,rfl,?_⟩
  rw[show its.toArray.any (PM x)=its.any (PM x) by simp,uh r fs]
  exact q
theorem Ew:G0 X (compareOp .NotIn) (λx y H Q=>∃i j,x=.str i/\y=.str j/\Q (.bl (!(!(Builtin.Str.occurrences j i 0 j.length 1).isEmpty))) H):=by
 intro Fn s σ H x y v u Q I rx ry h
 obtain⟨i,j,rfl,rfl,q⟩:=h
 obtain⟨t,rfl⟩:=rx
 obtain⟨t',rfl⟩:=ry
 exact notIn_str ⟨.bl _,H,I,rfl,q⟩
theorem Ey:F6 X (.builtin "len") (λxs H Q=>∃p ys,xs=[.ref p]/\(F8 X.K H p ys\/IP X.K H p ys)/\Q (.int ys.length) H):=by
 intro Fn s σ H xs us Q I r h
 obtain⟨p,ys,rfl,hq,q⟩:=h
 obtain⟨u,rfl,rx⟩:=vals1 r
 cases rx
 have hn:=ug
 rcases hq with hq | hq
 ·obtain⟨its,r',pl,hz⟩:=I.list hq
  have hlen:=r'.length
  exact Calls.call_len_list pl.isList (by simp only[ar] <;> omega) ⟨.int ys.length,H,I.tok _,⟨s.toks+1,by rw[ar,hlen]⟩,q⟩
 ·obtain⟨its,r',pl,hz⟩:=I.tuple hq
  have hlen:=r'.length
  exact len_tuple pl (by simp only[ar] <;> omega) ⟨.int ys.length,H,I.tok _,⟨s.toks+1,by rw[ar,hlen]⟩,q⟩
theorem Ez:F6 X (.builtin "len") (λxs H Q=>∃z,xs=[.str z]/\z.length<=sizeLine/\Q (.int z.length) H):=by
 intro Fn s σ H xs us Q I r h
 obtain⟨z,rfl,hz,q⟩:=h
 obtain⟨u,rfl,t,rfl⟩:=vals1 r
 have hn:=ug
 exact len_str (by omega) ⟨.int z.length,H,I.tok _,⟨_,rfl⟩,q⟩
theorem F6.or {f:Value}{r r':List V->Hp->VK->Prop}(h:F6 X f r)(h':F6 X f r'):F6 X f (λxs H Q=>r xs H Q\/r' xs H Q):=by
 intro Fn s σ H xs us Q I rs q
 rcases q with q | q
 ·exact h Fn s σ H xs us Q I rs q
 ·exact h' Fn s σ H xs us Q I rs q
theorem EY:F6 X (.type "list") (λxs H Q=>∃p ys,xs=[.ref p]/\(F8 X.K H p ys\/IP X.K H p ys)/\∀l,H l=none->Q (.ref l) (upd H l (.lst ys))):=by
 intro Fn s σ H xs us Q I r h
 obtain⟨p,ys,rfl,hq,q⟩:=h
 obtain⟨u,rfl,rx⟩:=vals1 r
 cases rx
 have fin:∀(its:qv),Vals ys its->ys.length<=sizeLine->∀(h':Heap) (c':Nat),(∀b o',s.heap.get? b=some o'->h'.get? b=some o')->
   h'.get? s.heap.objs.size=some { cls:=.type "list",dict:=none,data:=.seq its.toArray c',slots:=#[] }->EP X Fn σ Q (.ref s.heap.objs.size) { s with heap:=h' }:=λits r' hz h' c' kp e=>
  ⟨.ref s.heap.objs.size,_,I.laid (t':=s.toks) kp (aw _) (show FK X.prog X.w X.K _ h' _ (.lst ys) from ⟨hz,its,c',r',e⟩),rfl,q _ (I.FH.fresh (aw _))⟩
 rcases hq with hq | hq
 ·obtain⟨its,r',pl,hz⟩:=I.list hq
  have hlen:=r'.length
  obtain⟨o,ho,hc,n,hd⟩:=pl.isList
  exact call_list_seq p (.inl rfl) ho hc hd (λh' c' kp e=>fin its r' hz h' c' kp e) (by simp only[ar] <;> omega)
 ·obtain⟨its,r',pl,hz⟩:=I.tuple hq
  have hlen:=r'.length
  obtain⟨o,ho,hc,n,hd⟩:=pl
  exact call_list_seq p (.inr rfl) ho hc hd (λh' c' kp e=>fin its r' hz h' c' kp e) (by simp only[ar] <;> omega)
theorem Df:F6 X (.type "tuple") (λxs H Q=>∃p ys,xs=[.ref p]/\((F8 X.K H p ys/\∀l,H l=none->Q (.ref l) (upd H l (.tup ys)))\/(IP X.K H p ys/\Q (.ref p) H))):=by
 intro Fn s σ H xs us Q I r h
 obtain⟨p,ys,rfl,h⟩:=h
 obtain⟨u,rfl,rx⟩:=vals1 r
 cases rx
 rcases h with ⟨hq,q⟩ | ⟨hq,q⟩
 ·obtain⟨its,r',pl,hz⟩:=I.list hq
  have hlen:=r'.length
  refine call_tuple_list pl.isList (λh' kp=>?_) (by simp only[ar] <;> omega)
  have I1:Inv X Fn σ H { s with heap:=h' }:=I.kept (t':=s.toks) kp
  have I2:Inv X Fn σ (upd H h'.objs.size (.tup ys)) { s with heap:=h'.push { cls:=.type "tuple",data:=.seq its.toArray } }:=
   I1.laid (t':=s.toks) (λb o e=>af _ e) (aw _) (show FK X.prog X.w X.K _ _ _ (.tup ys) from ⟨hz,its,r',IsTup.new _ _⟩)
  exact⟨.ref h'.objs.size,_,I2,rfl,q _ (I1.FH.fresh (aw _))⟩
 ·obtain⟨its,r',pl,hz⟩:=I.tuple hq
  exact call_tuple_same pl ⟨.ref p,H,I,rfl,q⟩
def tyV (K:W.Frag)(T:String)(x:V)(H:Hp):Prop:=match x with
 | .str _=>T = "str"
 | .int _=>T = "int"
 | .ref p=>(T = "list" /\ ∃xs,F8 K H p xs)\/(T = "tuple" /\ ∃o,K.lookup p=some o/\o.cls=.type "tuple" /\ o.dict=none) \/
   (T = "dict" /\ ((∃kvs,H p=some (.dK kvs))\/∃kvs,H p=some (.dT kvs)))\/(T = "set" /\ ∃S n,H p=some (.set S n))
 | _=>False
theorem K7 {Fn:qo}{σ:St}{H:Hp}{s:Shared}{T:String}{x:V}{v:Value}(I:Inv X Fn σ H s)(r:RelV x v)(ty:tyV X.K T x H):
  s.TypeIs v T/\∀a,v=.ref a->∃ob,s.heap.get? a=some ob/\ob.dict=none:=by
 cases x with
 | str z=>
  obtain⟨t,rfl⟩:=r
  cases (show T = "str" from ty)
  exact⟨mv s z t,λ_ e=>nomatch e⟩
 | int i=>
  obtain⟨t,rfl⟩:=r
  cases (show T = "int" from ty)
  exact⟨typeIs_int s i t,λ_ e=>nomatch e⟩
 | ref p=>
  cases r
  rcases ty with ⟨rfl,xs,hq⟩ | ⟨rfl,o,hk,hc,hd⟩ | ⟨rfl,hk⟩ | ⟨rfl,S,n,hk⟩
  ·obtain⟨its,_,pl,_⟩:=I.list hq
   refine⟨pl.isList.typeIs,λa e=>?_⟩
   cases e
   obtain⟨o,n,e,c,hd,_⟩:=pl
   exact⟨o,e,hd⟩
  ·refine⟨⟨o,I.HU p o hk,hc⟩,λa e=>?_⟩
   cases e
   exact⟨o,I.HU _ o hk,hd⟩
  ·have z:∃o,s.heap.get? p=some o/\o.ExactDict:=by
    rcases hk with ⟨kvs,hk⟩ | ⟨kvs,hk⟩
    ·obtain⟨_,_,_,_,o,_,_,e,ex,_⟩:=I.FH p _ hk
     exact⟨o,e,ex⟩
    ·obtain⟨_,_,_,_,o,_,_,e,ex,_⟩:=I.FH p _ hk
     exact⟨o,e,ex⟩
   obtain⟨o,e,ex⟩:=z
   refine⟨⟨o,e,ex.1⟩,λa e2=>?_⟩
   cases e2
   exact⟨o,e,ex.2.1⟩
  ·obtain⟨o,_,_,_,e,ex,_⟩:=I.FH p _ hk
   refine⟨⟨o,e,ex.1⟩,λa e2=>?_⟩
   cases e2
   exact⟨o,e,ex.2.1⟩
 | _=>exact False.elim ty
def Zn (K:W.Frag)(T:String)(r:V->List V->Hp->VK->Prop)(to:TE):TE:=fun σ H Q=>to σ H λx H1=>tyV K T x H1/\r x [] H1 Q
def tBM (K:W.Frag)(T:String)(r:V->List V->Hp->VK->Prop)(to:TE)(t:TA):TE:=fun σ H Q=>to σ H λx H1=>tyV K T x H1/\t σ H1 λxs H2=>r x xs H2 Q
variable {o e:Expr}{es:qB}{to:TE}{t:TA}{name:Str}{apos FG:Pos}{T id:String}{r:V->List V->Hp->VK->Prop}
theorem VL (pa:PlainAttrs T)(slot:Slot T name id)(hty:typeOf (.builtin id)=pure (.type "method_descriptor"))(hm:MtR X id r)(ho:PE X o to)
  (He:autoParam (attributeBase o name X.env (eval o X.env)=eval o X.env) r0_) (HA:autoParam ((apos.endLine == FG.line)=true) r0_):PE X (.Call (.Attribute o name apos) [] [] FG) (Zn X.K T r to):=by
 intro Fn s σ H Q I h
 refine wpAny_Call_method0_late He HA (FX (ho Fn s σ H _ I h) ?_)
 rintro v s1 ⟨x,H1,I1,r1,ty,q1⟩
 obtain⟨h1,h2⟩:=K7 I1 r1 ty
 exact⟨T,id,pa,slot,hty,h1,h2,f7 rfl (pj (hm Fn s1 σ H1 x [] v [] Q I1 r1 .nil q1))⟩
theorem Jq (pa:PlainAttrs T)(slot:Slot T name id)(hty:typeOf (.builtin id)=pure (.type "method_descriptor"))(hm:MtR X id r)(ho:PE X o to)(ha:PA X (e::es) t)
  (He:autoParam (attributeBase o name X.env (eval o X.env)=eval o X.env) r0_)
  (ML:((backTo FG (starEach (e::es) X.env)).all (λx=>!x.1)&&(backToKw FG (keywordEach [] X.env)).all (λx=>x.1.isSome)
   && decide ((e::es).length+([]:List Keyword).length+(if ([]:List Keyword).isEmpty then 0 else 1) < 30))=true:=by rfl)
  (HA:autoParam ((apos.endLine == FG.line)=true) r0_) (hs:autoParam (starEach (e::es) X.env=(false,eval e X.env)::starEach es X.env) r0_) (hplain:autoParam ((backTo FG (starEach es X.env)).any (·.1)=false) r0_):
  PE X (.Call (.Attribute o name apos) (e::es) [] FG) (tBM X.K T r to t):=by
 intro Fn s σ H Q I h
 refine wpAny_Call_method_late He ML HA rfl (FX (ho Fn s σ H _ I h) ?_)
 rintro v s1 ⟨x,H1,I1,r1,ty,q1⟩
 obtain⟨h1,h2⟩:=K7 I1 r1 ty
 refine⟨T,id,pa,slot,hty,h1,h2,?_⟩
 have hA:=ha FG Fn s1 σ H1 _ I1 q1
 rw[hs] at hA ⊢
 refine f7 (by show (false||(backTo FG (starEach es X.env)).any (·.1))=false;rw[hplain] <;> rfl) (iN ?_)
 exact FX hA λus s2 ⟨vs,H2,I2,r2,q2⟩=>hm Fn s2 σ H2 x vs v us Q I2 r1 r2 q2
end
def MtM (X:Cx)(id:String)(r:V->List V->Hp->VK->Prop):Prop:=
 ∀(Fn:qo) (s:Shared) (σ:St) (H:Hp) (x:V) (xs:List V) (v:Value) (us:qv) (Q:VK),Inv X Fn σ H s->RelV x v->Vals xs us->r x xs H Q->
  wpAny (model X.prog X.w) X.A (call (.builtin id) (v::us)) (EP X Fn σ Q) X.xe s
theorem Vals.one {x:V}{us:qv}(h:Vals [x] us):∃u,us=[u]/\RelV x u:=by
 cases h with
 | cons r t=>cases t;exact⟨_,rfl,r⟩
theorem Vals.zero {us:qv}(h:Vals [] us):us=[]:=by cases h;rfl
theorem Vals.reverse {xs:List V}{us:qv}(h:Vals xs us):Vals xs.reverse us.reverse:=by
 induction h with
 | nil=>exact .nil
 | cons r t ih=>rw[gS,gS];exact Vals.append ih (.cons r .nil)
theorem Vals.rep {xs:List V}{us:qv}(h:Vals xs us):∀k:Nat,Vals (List.replicate k xs).flatten (List.replicate k us).flatten
 | 0=>.nil
 | k+1=>by
  rw[c8,c8,cS,cS]
  exact Vals.append h (Vals.rep h k)
theorem foldl_rep (its:qv):∀(k:Nat) (acc:qv),
  List.foldl (λx1 x2=>x1++x2) acc.toArray (List.replicate k its.toArray)=(acc++(List.replicate k its).flatten).toArray
 | 0,acc=>by simp
 | k+1,acc=>by
  have e:acc.toArray++its.toArray=(acc++its).toArray:=by simp
  have e2:(acc++its)++(List.replicate k its).flatten=acc++(List.replicate (k+1) its).flatten:=by
   rw[c8,cS,da]
  rw[← e2,← foldl_rep its k (acc++its),← e,c8,fI]
section
variable {X:Cx}{Fn:qo}{σ:St}{H:Hp}{s:Shared}{l b:Addr}{xs ys zs:List V}
theorem Inv.lset {its its':qv}{n:Nat}{f:Array Value->Array Value}{t':Nat}(I:Inv X Fn σ H s)(hH:H l=some (.lst xs))
  (e:s.heap.get? l=some { cls:=.type "list",data:=.seq its.toArray n }) (hf:f its.toArray=its'.toArray) (hv:Vals ys its') (hz:ys.length<=sizeLine):
  Inv X Fn σ (upd H l (.lst ys)) { s with heap:=s.heap.update l (Obj.mapSeq f),toks:=t' }:=by
 have q:=PySem.IsL.update e f
 rw[hf] at q
 refine I.write (x:=l) (e:=l) (by rw[hH];exact trivial) (.inl rfl) (λb' u hb hu=>(cf s.heap (Obj.mapSeq f) (fg hb)).trans hu) ⟨_,q⟩ ?_
 exact⟨hz,its',_,hv,q⟩
theorem Inv.lnew {its:qv}{t':Nat}(I:Inv X Fn σ H s)(hv:Vals ys its)(hz:ys.length<=sizeLine):
  Inv X Fn σ (upd H s.heap.objs.size (.lst ys)) { s with heap:=s.heap.push { cls:=.type "list",data:=.seq its.toArray },toks:=t' }:=
 I.laid (λ_ _ q=>af _ q) (aw _) ⟨hz,its,0,hv,ap _ rfl⟩
theorem Inv.fresh (I:Inv X Fn σ H s):H s.heap.objs.size=none:=I.FH.fresh (aw _)
theorem Inv.PR (I:Inv X Fn σ H s)(hH:H l=some (.lst xs)):xs.length<=sizeLine/\∃(its:qv) (n:Nat),Vals xs its/\xs.length=its.length/\s.heap.get? l=some { cls:=.type "list",data:=.seq its.toArray n }:=by
 obtain⟨z,its,n,r,e⟩:=I.FH l _ hH
 exact⟨z,its,n,r,r.length,e⟩
theorem E_ {n:Nat}(h:n<=sizeLine):Builtin.List.listTooLong n=false:=by
 unfold Builtin.List.listTooLong
 exact be (by omega)
end
section
variable {X:Cx}
def R8:V->List V->Hp->VK->Prop:=λx vs H Q=>∃l xs y,x=.ref l/\vs=[y]/\H l=some (.lst xs)/\xs.length < sizeLine/\Q .FE (upd H l (.lst (xs++[y])))
theorem BL:MtM X "list.append" R8:=by
 intro Fn s σ H x vs v us Q I rx rv h
 obtain⟨l,xs,y,rfl,rfl,hH,hz,q⟩:=h
 cases rx
 obtain⟨u,rfl,ru⟩:=rv.one
 obtain⟨z,its,n,r,hl,e⟩:=I.PR hH
 refine iO F.slot_list_append ⟨_,e,rfl⟩ F.entry_list_append (F.args_list_append_2 _ _) (PySem.list_append l its.toArray n u (by rw[ar];omega)) ⟨e,?_⟩
 refine⟨.FE,_,I.lset (its':=its++[u]) hH e (by simp) (r.append (.cons ru .nil)) ?_,rfl,q⟩
 rw[a9,kT]
 omega
def R9:V->List V->Hp->VK->Prop:=λx vs H Q=>∃l b xs zs,x=.ref l/\vs=[.ref b]/\H l=some (.lst xs)/\H b=some (.lst zs)/\xs.length+zs.length<=sizeLine/\Q .FE (upd H l (.lst (xs++zs)))
theorem K8:MtM X "list.extend" R9:=by
 intro Fn s σ H x vs v us Q I rx rv h
 obtain⟨l,b,xs,zs,rfl,rfl,hH,hB,hz,q⟩:=h
 cases rx
 obtain⟨u,rfl,ru⟩:=rv.one
 cases ru
 obtain⟨z,its,n,r,hl,e⟩:=I.PR hH
 obtain⟨z2,JA,n2,r2,Of,e2⟩:=I.PR hB
 have hsz:its.toArray.size+JA.toArray.size<=sizeLine:=by rw[ar,ar];omega
 have SH:¬ (!its.toArray.isEmpty&&Builtin.List.listTooLong (its.toArray.size+JA.toArray.size))=true:=by
  rw[E_ hsz,Bool.and_false]
  exact bd
 refine iO F.slot_list_extend ⟨_,e,rfl⟩ F.entry_list_extend (F.args_list_extend_2 _ _)
  (AutoSeq1.list_extend_list_list_0 l its.toArray n b JA.toArray n2 SH (by rw[ar];omega) (by omega)) ⟨e,e2,?_⟩
 refine⟨.FE,_,I.lset (its':=its++JA) hH e (by simp) (r.append r2) ?_,rfl,q⟩
 rw[a9]
 omega
def O3:V->List V->Hp->VK->Prop:=λx vs H Q=>∃l xs,x=.ref l/\vs=[]/\H l=some (.lst xs)/\Q .FE (upd H l (.lst xs.reverse))
theorem Jr:MtM X "list.reverse" O3:=by
 intro Fn s σ H x vs v us Q I rx rv h
 obtain⟨l,xs,rfl,rfl,hH,q⟩:=h
 cases rx
 have hus:=rv.zero
 subst hus
 obtain⟨z,its,n,r,hl,e⟩:=I.PR hH
 refine iO F.slot_list_reverse ⟨_,e,rfl⟩ F.entry_list_reverse (F.args_list_reverse_1 _) (AutoSeq1.list_reverse_list_0 l its.toArray n (by rw[ar];omega)) ⟨e,?_⟩
 refine⟨.FE,_,I.lset (its':=its.reverse) hH e (by simp) r.reverse ?_,rfl,q⟩
 rw[ib]
 omega
def O4:R2:=λx y H Q=>∃l b xs zs,x=.ref l/\y=.ref b/\H l=some (.lst xs)/\H b=some (.lst zs)/\xs.length+zs.length<=sizeLine/\∀p,H p=none->Q (.ref p) (upd H p (.lst (xs++zs)))
theorem K9:G0 X (binaryOp .Add) O4:=by
 intro Fn s σ H x y v u Q I rx ry h
 obtain⟨l,b,xs,zs,rfl,rfl,hH,hB,hz,q⟩:=h
 cases rx
 cases ry
 obtain⟨z,its,n,r,hl,e⟩:=I.PR hH
 obtain⟨z2,JA,n2,r2,Of,e2⟩:=I.PR hB
 refine PySem.P.add_list e e2 ?_ (by rw[ar,ar];omega)
 have ea:its.toArray++JA.toArray=(its++JA).toArray:=by simp
 rw[ea]
 exact⟨.ref _,_,I.lnew (t':=s.toks) (r.append r2) (by rw[a9];omega),rfl,q _ I.fresh⟩
def VM:R2:=λx y H Q=>∃l k xs,x=.ref l/\y=.int k/\H l=some (.lst xs)/\-(2 ^ 63)<=k/\k < 2 ^ 63/\xs.length*k.toNat<=sizeLine /\
 ∀p,H p=none->Q (.ref p) (upd H p (.lst (List.replicate k.toNat xs).flatten))
theorem len_rep {α:Type}(xs:List α)(k:Nat):(List.replicate k xs).flatten.length=k*xs.length:=by
 induction k with
 | zero=>simp
 | succ k ih=>rw[c8,cS,a9,ih,Nat.succ_mul,Nat.add_comm]
theorem VN:G0 X (binaryOp .Mult) VM:=by
 intro Fn s σ H x y v u Q I rx ry h
 obtain⟨l,k,xs,rfl,rfl,hH,h1,h2,hz,q⟩:=h
 cases rx
 obtain⟨t,rfl⟩:=ry
 obtain⟨z,its,n,r,hl,e⟩:=I.PR hH
 have hlen:its.toArray.size*k.toNat<=sizeLine:=by rw[ar,← hl];exact hz
 have hcap:¬ its.toArray.size*k.toNat > (2 ^ 63 - 1) / 8:=by
  have:(sizeLine:Nat)<=(2 ^ 63 - 1) / 8:=by decide
  omega
 have hfit:¬ (!Builtin.List.listFitsIndex k)=true:=by
  rw[fitsIndex_both h1 h2]
  exact bd
 have SH:¬ Builtin.List.listTooLong (its.toArray.size*k.toNat)=true:=by
  rw[E_ hlen]
  exact bd
 have SR:List.foldl (λx1 x2=>x1++x2) #[] (List.replicate (if its.toArray.isEmpty=true then 0 else k.toNat) its.toArray)=(List.replicate k.toNat its).flatten.toArray:=by
  have f0:∀m:Nat,List.foldl (λx1 x2=>x1++x2) #[] (List.replicate m its.toArray)=(List.replicate m its).flatten.toArray:=λm=>by
   have:=foldl_rep its m []
   rw[gx] at this
   exact this
  rw[f0]
  cases its with
  | nil=>simp
  | cons a r'=>rw[ax (by simp)]
 refine wpAny_binaryOp_repeat_ref (T := "list") (U := "int") (by decide) ⟨_,e,rfl⟩ (λs'=>typeIs_int s' k t) noFill_list_mul F.fills_int_mul F.slot_int_rmul repeat_list F.slot_int_index.lookup
  (iO F.slot_int_rmul (typeIs_int s k t) F.entry_int_rmul (F.args_int_rmul_2 _ _) (int___rmul___int_list k t l its.toArray n)
   ⟨e,rfl,⟨_,e,rfl⟩,iO F.slot_list_mul ⟨_,e,rfl⟩ F.entry_list_mul (F.args_list_mul_2 _ _) (AutoListH.list___mul___list_int_3 l its.toArray n k t hfit hcap SH) ⟨e,?_⟩⟩)
 rw[SR]
 exact⟨.ref _,_,I.lnew (t':=s.toks) (r.rep k.toNat) (by rw[len_rep,Nat.mul_comm];exact hz),rfl,q _ I.fresh⟩
end
end Lake.L2
namespace Lake.Att
open PySem PySem.W PySem.Calls PyProof.Rows
theorem zb {P:Params}{h:Heap}:∀(ns:qS) (vs:qv),WellAll P h vs (ns.map WData.int)->IntsAre vs ns:=by
 intro ns
 induction ns with
 | nil=>
  intro vs w
  rw[cp] at w
  cases w
  exact .nil
 | cons n ns ih=>
  intro vs w
  rw[al] at w
  cases w with
  | cons a b=>
   cases a
   exact .cons _ _ (ih _ b)
theorem K_ {l:OpenLaw}{n:Nat}(hn:l.most=some n){P:Params}{h:Heap}{args:List WData}{vals:qv}
  (Y2:l.row.toRowW.claim.pre args=true) (RU:WellAll P h vals args):
  ∃a vs ns,vals=[Value.ref a]/\args=[WData.list (ns.map WData.int)]/\h.get? a=some { cls:=.type "list",data:=.seq vs.toArray }/\IntsAre vs ns/\ns.length<=n:=by
 have hsh:WShape.hasAll [] args [.list .int]=true:=(pre_splitW Y2).1
 have hc:l.pre.holds [] { args:=args }=true:=(pre_splitW Y2).2
 obtain⟨d,r,rfl,h1,h2⟩:=hasAllW_cons hsh
 obtain rfl:=hasAllW_nil h2
 obtain⟨xs,rfl,h3⟩:=hasW_list h1
 obtain⟨ns,rfl⟩:=items_int h3
 have hlen:ns.length<=n:=by
  unfold OpenLaw.pre at hc
  have h4:(WTm.not (.lt (.lit (.int (n:Int))) (.len (.arg 0)))).holds [] { args:=[.list (ns.map .int)] }=true:=by
   have h4:=(holds_andW hc).1
   rw[hn] at h4
   exact h4
  have h5:=condW_of h4 (w_not (w_lt w_lit (w_len_list (w_arg rfl))))
  rw[ac] at h5
  refine Nat.le_of_not_lt λq=>?_
  have q':(n:Int) < ((ns.length:Nat):Int):=by omega
  first
   | (rw[bS q'] at h5;exact absurd h5 (by decide))
   | (simp at h5;omega)
 cases RU with
 | cons w1 w2=>
  cases w2
  cases w1 with
  | list ho Lv=>exact⟨_,_,ns,rfl,rfl,ho,zb ns _ Lv,hlen⟩
theorem La (l:OpenLaw)(args:List WData):l.row.toRowW.claim.post args (.bool true) args=true:=
 postW_of (r:=l.row.toRowW) (X:=(true == true))
  (show WShape.has [] (.bool true) .bool=true by first | rfl | decide | simp[WShape.has,WShape.arms,WShape.armsAll])
  (show (WTm.eq .res (.lit (.bool true))).value [] { args:=args,res:=some (.bool true),after:=args }=some (.bool (true == true)) from w_eq_bool (w_res rfl) w_lit) rfl
theorem OL {l:OpenLaw}{n:Nat}{q:Program}{loose:qE}{XP:(Str->Option Value)->Heap->Prop}{YP:World->Heap->Prop}{d:DefRec}
  (hn:l.most=some n) (hdf:d.params.defaults=[])
  (call:∀(w:World) (s₀ s₁:Shared) (mg mb:Str->Option Value) (fa:Addr) (o:Obj) (pm cd doc:Value) (a:Addr) (vs:qv) (ns:qS),
   Ground q loose [] XP w s₀ mg mb s₁.heap->YP w s₁.heap->
   s₁.heap.get? fa=some o->o.data=.func (docDef d.name d.params d.body d.scope pm cd doc)->s₁.heap.CodeRec cd d.name->mg d.name=some (.ref fa)->
   s₁.heap.get? a=some { cls:=.type "list",data:=.seq vs.toArray }->IntsAre vs ns->ns.length<=n->s₁.gens=#[]->
   codeAny (model l.prog w) callerA (.call (.ref fa) ⟨[.ref a],[]⟩) (λr s'=>r=.ok (.ret (.bool true))/\OldK s₁.heap s'.heap/\s'.os=s₁.os/\AllBare s'.gens) s₁):
  WalkO q loose XP YP l.row.toRowW d [] (λf vs=>PySem.call f vs):=by
 intro w s₀ s₁ mg mb G Y fa o pm cd doc dV kV ho hd LH hD hmg hg args vals as Y2 hlay hrd RU hlo
 obtain rfl:dV=.none:=Dflts.none hD hdf
 obtain rfl:kV=.none:=Dflts.noKw hD
 obtain⟨a,vs,ns,rfl,rfl,hobj,hints,hlen⟩:=K_ hn Y2 RU
 refine enter_call (nV (call w s₀ s₁ mg mb fa o pm cd doc a vs ns G Y ho (fd_plain hd) LH hmg hobj hints hlen hg) λr s' hq=>?_)
 obtain⟨rfl,h2,h3,h4⟩:=hq
 exact⟨.inl ⟨.bool true,.bool true,[],rfl,λ_=>rfl,.bool true,La l _,λ_=>⟨List.Pairwise.nil,λ_ hm=>(nomatch hm)⟩⟩,h2,h3,h4⟩
end Lake.Att
namespace Lake.L2
open PySem PySem.Spec PyProof.Rows
theorem BP:∀{vs:qv}{ns:qS},IntsAre vs ns->Vals (ns.map V.int) vs
 | _,_,.nil=>.nil
 | _,_,.cons n t h=>.cons ⟨t,rfl⟩ (BP h)
def Y3 (H:Hp):Prop:=∀b,H b=none\/∃o xs,H b=some (.frz o (.lst xs))
variable {fd:FuncData}{x:Str}
theorem O5 {P:Program}{w:World}{K:W.Frag}{mg mb:Str->Option Value}{CX:SD}{k:Nat}{fa a:Addr}{sp:Sp}{s₁:Shared}{vs:qv}{ns:qS}
  (KX:K.In s₁.heap) (hns:s₁.heap.Ns mainGlobals mg) (hb:s₁.heap.Ns builtinsNs mb) (hbb:∀x:Str,x ≠ "__name__" -> mb x=bootBuiltins x) (hlim:s₁.heap.NoLimit) (hg:s₁.gens=#[])
  (ha:s₁.heap.get? a=some { cls:=.type "list",data:=.seq vs.toArray }) (hi:IntsAre vs ns) (hl:ns.length<=sizeLine) (hr:F0 k callerA)
  (F:∀base:Heap,K.In base->base.Ns mainGlobals mg->GV P w K mg base CX k fa fd [x] sp) (hbind:∀(s:Shared) (u:Value),BindsTo s fd ⟨[u],[]⟩ [(x,u)])
  (PD:∀H:Hp,Y3 H->F8 K H a (ns.map V.int)->sp [.ref a] H (λv _=>v=.bl true) λ_ _ _=>False)
  (hCX:∀H e s',CX [] H s₁ (λ_ _ _=>False) e s'->False):
  codeAny (model P w) callerA (.call (.ref fa) ⟨[.ref a],[]⟩) (λr s'=>r=.ok (.ret (.bool true))/\OldK s₁.heap s'.heap/\s'.os=s₁.os/\AllBare s'.gens) s₁:=by
 have rv:=BP hi
 have F7:=hi.length
 have core:∀H:Hp,Y3 H->F8 K H a (ns.map V.int)->KL P w K H s₁.heap->(∀b,H b≠none->b=a)->(H a≠none->K.lookup a=none)->
   codeAny (model P w) callerA (.call (.ref fa) ⟨[.ref a],[]⟩) (λr s'=>r=.ok (.ret (.bool true))/\OldK s₁.heap s'.heap/\s'.os=s₁.os/\AllBare s'.gens) s₁:=by
  intro H hO hS FH hA hK
  have QN:∀{b:Addr}{o:Obj},s₁.heap.get? b=some o->H b=none->(uF s₁.heap H).get? b=some o:=λe n=>N7 e n
  have noA:∀{b:Addr}{o:Obj}{es:Array DictEntry}{ep:Nat},s₁.heap.get? b=some o->o.data=.dict es ep->H b=none:=λ{b o es ep} e d=>by
   cases q:H b with
   | none=>rfl
   | some u=>
    have e':b=a:=hA b (by rw[q];simp)
    subst e'
    rw[ha] at e;cases e
    have d':Data.seq vs.toArray _=Data.dict es ep:=d
    cases d'
  have nsK:∀{b:Addr}{m:Str->Option Value},s₁.heap.Ns b m->(uF s₁.heap H).Ns b m:=λ{b m} ⟨o,es,ep,e,d,r⟩=>⟨o,es,ep,QN e (noA e d),d,r⟩
  have hKb:K.In (uF s₁.heap H):=λb o e=>QN (KX b o e) (by
   cases q:H b with
   | none=>rfl
   | some u=>
    have e':b=a:=hA b (by rw[q];simp)
    subst e'
    rw[hK (by rw[q];simp)] at e;cases e)
  have hM:Mod K mg (uF s₁.heap H):=⟨hKb,nsK hns,⟨mb,nsK hb,hbb⟩,let ⟨mc,h1,h2⟩:=hlim;⟨mc,nsK h1,h2⟩⟩
  have e0:PC P w K mg (uF s₁.heap H) callerA [] s₁ H:=⟨rfl,hM,λb o e=>Rv e,p5 (Ku _ _),trivial,λb hb=>absurd (show b∈([]:qV) from hb) (by simp),FH,.of_eq hg⟩
  refine nV ((F _ hKb (nsK hns)).run callerA [] s₁ H ⟨[.ref a],[]⟩ [.ref a] [.ref a] _ _ hr e0 (hbind s₁ (.ref a)) (.cons rfl .nil) (PD H hO hS)) λr s' h=>?_
  cases r with
  | error e=>exact(hCX H e s' h).elim
  | ok fl=>
   cases fl with
   | next=>exact False.elim h
   | brk=>exact False.elim h
   | cont=>exact False.elim h
   | ret u=>
    obtain⟨v,H',os,bare,un,hok',r',q⟩:=h
    have q':v=.bl true:=q
    subst q'
    obtain rfl:u=Value.bool true:=r'
    refine⟨rfl,OldK.of_keep λb o e=>?_,os,bare⟩
    cases q:H b with
    | none=>exact un.keep b o e q (by intro z;exact absurd (show b∈([]:qV) from z) (by simp)) (by simp)
    | some u=>
     rcases hO b with z | ⟨ob,xs,z⟩
     ·rw[q] at z;cases z
     ·have z2:=un.NO b ob _ z
      obtain⟨e1,_⟩:=FH b _ z
      obtain⟨e2,_⟩:=hok' b _ z2
      rw[e] at e1;cases e1
      exact e2
 cases hk:K.lookup a with
 | some o=>
  have e:=KX a o hk
  rw[ha] at e
  cases e
  refine core (λ_=>none) (λ_=>.inl rfl) (.inr ⟨_,vs.toArray,_,hk,rfl,rfl,rfl,by rw[ar,F7];exact hl,by simpa using rv⟩) (λb u z=>by have z':(none:Option HO)=some u:=z;cases z') (λb z=>absurd rfl z) λz=>absurd rfl z
 | none=>
  refine core (λb=>if b=a then some (.frz { cls:=.type "list",data:=.seq vs.toArray } (.lst (ns.map V.int))) else none) (λb=>?_) (.inl (.inr ⟨{ cls:=.type "list",data:=.seq vs.toArray },ba rfl⟩)) (λb u z=>?_) (λb z=>?_) λ_=>hk
  ·by_cases hb:b=a
   ·exact .inr ⟨_,_,ba hb⟩
   ·exact .inl (ax hb)
  ·by_cases hb:b=a
   ·have z':=(ba hb).symm.trans z
    cases z'
    subst hb
    exact⟨ha,by rw[ac];exact hl,vs,_,rv,ha⟩
   ·have z':=(ax hb).symm.trans z
    cases z'
  ·by_cases hb:b=a
   ·exact hb
   ·exact absurd (ax hb) z
theorem Zl {l:W.OpenLaw}{n k:Nat}{q:Program}{loose:qE}{XP:(Str->Option Value)->Heap->Prop}{YP:World->Heap->Prop}{d:DefRec}{K:Params->W.Frag}{CX:World->SD}{sp:World->Sp}
  (hn:l.most=some n) (hn2:n<=sizeLine) (hdf:d.params.defaults=[]) (hr:F0 k callerA)
  (hY:∀(w:World) (h:Heap),YP w h->(K w.params).In h)
  (F:∀(w:World) (mg:Str->Option Value) (fa:Addr) (h:Heap),(K w.params).In h->h.Ns mainGlobals mg->mg d.name=some (.ref fa)->
   ∃fd:FuncData,(∀(s:Shared) (u:Value),BindsTo s fd ⟨[u],[]⟩ [(x,u)]) /\
    ∀base:Heap,(K w.params).In base->base.Ns mainGlobals mg->GV l.prog w (K w.params) mg base (CX w) k fa fd [x] (sp w))
  (PD:∀(w:World) (H:Hp) (a:Addr) (ns:qS),ns.length<=n->Y3 H->F8 (K w.params) H a (ns.map V.int)->sp w [.ref a] H (λv _=>v=.bl true) λ_ _ _=>False)
  (hCX:∀(w:World) (H:Hp) (s:Shared) (e:Value) (s':Shared),CX w [] H s (λ_ _ _=>False) e s'->False):
  W.WalkO q loose XP YP l.row.toRowW d [] (λf vs=>PySem.call f vs):=by
 refine Att.OL hn hdf λw s₀ s₁ mg mb fa o pm cd doc a vs ns G Y ho hd LH hmg hobj hints hlen hg=>?_
 have KX:=hY w _ Y
 obtain⟨fd,hb,hF⟩:=F w mg fa _ KX G.T.g hmg
 exact O5 KX G.T.g G.T.b G.T.builtins G.T.nolimit hg hobj hints (cm hlen hn2) hr hF hb (λH hO hS=>PD w H a ns hlen hO hS) λH e s'=>hCX w H s₁ e s'
noncomputable def inClass (s:Stmt)(j:Nat):Stmt:=match s with
 | .ClassDef _ _ _ body _ _ _ _ _ _ _=>body.getD j (.Pass ⟨0,0,0,0⟩)
 | _=>.Pass ⟨0,0,0,0⟩
def jn (s:Stmt):Arguments:=match s with
 | .FunctionDef _ a _ _ _ _ _ _ _ _=>a
 | _=>{ posonlyargs:=[],args:=[],vararg:=none,kwonlyargs:=[],kw_defaults:=[],kwarg:=none,defaults:=[] }
noncomputable def gC (s:Stmt):List Stmt:=match s with
 | .FunctionDef _ _ b _ _ _ _ _ _ _=>b
 | _=>[]
def aA (s:Stmt):Scope:=match s with
 | .FunctionDef _ _ _ _ _ _ sc _ _ _=>sc
 | _=>{ kind:=.function,names:=[],isGenerator:=false,isCoroutine:=false }
abbrev MO:SD:=λ_ _ _ _ _ _=>False
abbrev E0:XK:=λ_ _ _=>False
theorem DX {X:Cx}:qO MO X E0:=λ_ _ _ _ _ _ _ h=>h.elim
structure K0 (K:W.Frag)(x qual:Str)(st:Stmt)(f:Addr)(fd:FuncData):Prop where
 ex:∃(oc:Value) (od:Option Addr) (kV doc pm:Value) (an:Option Addr) (Lu ct:Value) (osl:Array (Option Value)),
  fd=W.fnOf x qual (jn st) (gC st) (aA st) .none kV doc pm an Lu ct/\K.lookup f=some ⟨oc,od,.func fd,osl⟩/\W.codeIn K Lu qual=true
 kp:W.keepIn K (.ref f)=true
section
variable {P:Program}{w:World}{K:W.Frag}{mg:Str->Option Value}{base:Heap}
theorem K0.ok {qual:Str}{st:Stmt}{f:Addr}{N ps:qE}{k:Nat}{sp:Sp}(F:K0 K x qual st f fd)(S:Fs N ps (aA st))(len:∀vs H Q E,sp vs H Q E->vs.length=ps.length)
  (SF:∀(Lu:Value) (A:Around) (outer:List Env) (s:Shared) (H:Hp) (vs:List V) (Q:VK) (E:XK),F0 k (A.deeper (envOfC qual (aA st) s.heap.objs.size f Lu))->sp vs H Q E->
   ∃t,MW (yq MO P w K mg base N qual (aA st) f Lu A outer s H E).nox (gC st) t/\t { nx:=λ_ H'=>Q .FE H',rt:=Q } (start N vs) H):GV P w K mg base MO (k+1) f fd ps sp:=by
 obtain⟨oc,od,kV,doc,pm,an,Lu,ct,osl,rfl,lk,LH⟩:=F.ex
 refine X_ lk LH S len λA outer s H vs Q E hr PD=>?_
 obtain⟨t,h,q⟩:=SF Lu A outer s H vs Q E hr PD
 exact⟨t,h.nox,q⟩
theorem K0.binds {qual:Str}{st:Stmt}{f:Addr}{ps:qE}(F:K0 K x qual st f fd)
  (h:∀(kV doc pm:Value) (an:Option Addr) (Lu ct:Value) (us:qv),us.length=ps.length->bindArgs (W.fnOf x qual (jn st) (gC st) (aA st) .none kV doc pm an Lu ct) ⟨us,[]⟩=pure (ps.zip us)):Binds K fd ps []:=by
 obtain⟨oc,od,kV,doc,pm,an,Lu,ct,osl,rfl,lk,LH⟩:=F.ex
 exact .all (h kV doc pm an Lu ct)
theorem SU {qual:Str}{st:Stmt}{f:Addr}{oc:Value}{od an:Option Addr}{osl:Array (Option Value)}{kV doc pm Lu ct:Value}(l:K.lookup f=some ⟨oc,od,.func (W.fnOf x qual (jn st) (gC st) (aA st) .none kV doc pm an Lu ct),osl⟩)
  (c:W.codeIn K Lu qual=true) (k:W.keepIn K (.ref f)=true):K0 K x qual st f (W.fnOf x qual (jn st) (gC st) (aA st) .none kV doc pm an Lu ct):=⟨⟨oc,od,kV,doc,pm,an,Lu,ct,osl,rfl,l,c⟩,k⟩
end
theorem rZ {A:Around}{k:Nat}(hr:F0 k A):A.units+1 < cLine:=jS (l7 (by decide:1<=64) _) hr.units
section
variable {X:Cx}
theorem r5_q (_h:True:=by first | exact fN rfl | exact d6 (fN rfl) | exact d6 (d6 rfl)):True:=trivial
def r5_:Lean.Syntax:=r5_q._auto_1
theorem pv (i:Nat){pos:Pos}(hN:autoParam (X.N[i]?=some x) r0_)(hv:autoParam (Sn X.env.scope x) r5_)(hd:autoParam ((x == ("__debug__" : Str))=false) r1_)
  (LH:autoParam ((x == ("__classdict__" : Str))=false) r1_):PE X (.Name x pos) (Uw i):=k_ hN hv hd LH
end
theorem O6 {A B:Prop}(h:B):if false=true then A else B:=by
 rw[ax bd]
 exact h
theorem O7 {A B:Prop}(h:A):if true=true then A else B:=by
 rw[ba rfl]
 exact h
def FD (H H':Hp):Prop:=∀b o,H b=some o->H' b=some o
theorem FD.refl (H:Hp):FD H H:=λ_ _ h=>h
theorem FD.trans {H H1 H2:Hp}(a:FD H H1)(b:FD H1 H2):FD H H2:=λc o h=>b c o (a c o h)
theorem FD.free {H H':Hp}(e:FD H H'){l:Addr}(h:H' l=Option.none):H l=Option.none:=by
 cases q:H l with
 | none=>rfl
 | some o=>
  rw[e l o q] at h
  cases h
section
variable {X:Cx}
theorem Lb:F6 X (.builtin "len") (λxs H Q=>∃a kvs,xs=[V.ref a]/\H a=some (.dK kvs)/\Q (.int kvs.length) H):=by
 intro Fn s σ H xs us Q I r h
 obtain⟨a,kvs,rfl,ha,q⟩:=h
 obtain⟨u,rfl,ru⟩:=vals1 r
 cases ru
 exact Yb I (.inl ha) λt s' I'=>⟨.int kvs.length,H,I',⟨t,rfl⟩,q⟩
end
theorem yt {α β:Type}{l:List α}{f:α->β->Sem (ForInStep β)}(g:α->β->β):∀(c:β),(∀x∈l,∀c,f x c=pure (.yield (g x c)))->
  forIn l c f=pure (l.foldl (λc x=>g x c) c):=by
 induction l with
 | nil=>intro c _;rfl
 | cons x l ih=>
  intro c h
  rw[lI,h x am,pure_bind]
  exact ih _ λy hy=>h y (ah _ hy)
noncomputable def jK (env:Env)(x:Str×NameKind)(c:List (Str×Addr)):List (Str×Addr):=if x.2=.free then (x.1,(env.cells.lookup x.1).getD 0)::c else c
noncomputable def yu (env:Env)(names:List (Str×NameKind)):List (Str×Addr):=names.foldl (λc x=>jK env x c) []
theorem Dh {scope:Scope}{env:Env}(h:∀x∈scope.names,x.2=.free->∃c,env.cells.lookup x.1=some c):closureFor scope env=pure (yu env scope.names):=by
 simp only[closureFor]
 rw[yt (jK env) [] (λx hx c=>by
  obtain⟨n,kind⟩:=x
  by_cases e:kind=.free
  ·subst e
   obtain⟨a,ha⟩:=h _ hx rfl
   have ha':env.cells.lookup n=some a:=ha
   simp[jK,cellOf,ha']
  ·have:(kind == NameKind.free)=false:=by simpa using e
   simp[jK,e,this])]
 rfl
theorem zc {env:Env}:∀(l:List (Str×NameKind)) (cs:List (Str×Addr)),(∀x∈l,x.2=.free->∃c,env.cells.lookup x.1=some c)->(∀y c,cs.lookup y=some c->env.cells.lookup y=some c)->
  ∀y c,(l.foldl (λc x=>jK env x c) cs).lookup y=some c->env.cells.lookup y=some c
 | [],cs,_,h2,y,c,e=>h2 y c e
 | x::r,cs,h1,h2,y,c,e=>by
  refine zc r (jK env x cs) (λz hz=>h1 z (ah _ hz)) (λz d q=>?_) y c e
  unfold jK at q
  by_cases k:x.2=.free
  ·rw[ba k] at q
   obtain⟨a,ha⟩:=h1 x am k
   rw[b6] at q
   cases hb:z == x.1 with
   | true=>
    rw[hb] at q
    have ez:z=x.1:=by simpa using hb
    rw[ha] at q
    have q':a=d:=by simpa using q
    rw[ez,ha,q']
   | false=>
    rw[hb] at q
    exact h2 z d q
  ·rw[ax k] at q
   exact h2 z d q
variable {names:List (Str×NameKind)}
theorem qT {env:Env}(h:∀x∈names,x.2=.free->∃c,env.cells.lookup x.1=some c){y:Str}{c:Addr}(e:(yu env names).lookup y=some c):env.cells.lookup y=some c:=
 zc names [] h (λy c q=>by simp at q) y c e
theorem zf {env:Env}{y:Str}:∀(l:List (Str×NameKind)) (cs:List (Str×Addr)),((y,.free)∈l\/∃c,cs.lookup y=some c)->∃c,(l.foldl (λc x=>jK env x c) cs).lookup y=some c
 | [],cs,h=>by
  rcases h with h | h
  ·simp at h
  ·exact h
 | x::r,cs,h=>by
  refine zf r (jK env x cs) ?_
  rcases h with h | ⟨c,h⟩
  ·rcases aI.mp h with e | e
   ·refine .inr ⟨(env.cells.lookup y).getD 0,?_⟩
    rw[← e]
    simp[jK]
   ·exact .inl e
  ·refine .inr ?_
   unfold jK
   split
   ·rw[b6]
    split
    ·exact⟨_,rfl⟩
    ·exact⟨c,h⟩
   ·exact⟨c,h⟩
theorem Ld {env:Env}{y:Str}(h:(y,.free)∈names):∃c,(yu env names).lookup y=some c:=zf names [] (.inl h)
theorem mem_of_lookup {x:Str}{k:NameKind}:∀{l:List (Str×NameKind)},l.lookup x=some k->(x,k)∈l
 | [],h=>by simp at h
 | (n,j)::r,h=>by
  rw[b6] at h
  cases hb:x == n with
  | true=>
   rw[hb] at h
   have e:x=n:=by simpa using hb
   have e2:j=k:=by simpa using h
   rw[e,e2]
   exact am
  | false=>
   rw[hb] at h
   exact ah _ (mem_of_lookup h)
theorem vL {env:Env}:∀{names:List (Str×NameKind)}{x:Str},names.lookup x=some .free->
  (names.map λ(n,k)=>if (k == NameKind.free&&env.scope.kind == .function&&env.kindOf n == some .cell) then (n,NameKind.cell) else (n,k)).lookup x=some .cell \/
  (names.map λ(n,k)=>if (k == NameKind.free&&env.scope.kind == .function&&env.kindOf n == some .cell) then (n,NameKind.cell) else (n,k)).lookup x=some .free
 | [],_,h=>by simp at h
 | (n,k)::r,x,h=>by
  have ih:=@vL env r x
  cases hx:x == n with
  | true=>
   simp only[b6,hx] at h
   cases h
   by_cases hc:(NameKind.free == NameKind.free&&env.scope.kind == .function&&env.kindOf n == some .cell)=true
   ·refine .inl ?_
    simp only[al,ba hc,b6,hx]
   ·refine .inr ?_
    simp only[al,ax hc,b6,hx]
  | false=>
   simp only[b6,hx] at h
   have ih:=ih h
   by_cases hc:(k == NameKind.free&&env.scope.kind == .function&&env.kindOf n == some .cell)=true
   ·simp only[al,ba hc,b6,hx]
    exact ih
   ·simp only[al,ax hc,b6,hx]
    exact ih
theorem uH {env:Env}:∀{names:List (Str×NameKind)}{x:Str}{j:NameKind},(∀y∈names,y.2≠.cell)->(j=.cell\/j=.free)->
  (names.map λ(n,k)=>if (k == NameKind.free&&env.scope.kind == .function&&env.kindOf n == some .cell) then (n,NameKind.cell) else (n,k)).lookup x=some j->(x,.free)∈names
 | [],_,_,_,_,h=>by simp at h
 | (n,k)::r,x,j,hn,hj,h=>by
  have ih:=@uH env r x j (λy hy=>hn y (ah _ hy)) hj
  cases hx:x == n with
  | true=>
   have e:x=n:=by simpa using hx
   subst e
   by_cases hc:(k == NameKind.free&&env.scope.kind == .function&&env.kindOf x == some .cell)=true
   ·have hk:k=.free:=by
     simp only[cb,ip] at hc
     exact hc.1.1
    subst hk
    exact am
   ·simp only[al,ax hc,b6,hx] at h
    have hk:k=j:=by simpa using h
    rcases hj with z | z
    ·exact absurd (hk.trans z) (hn (x,k) am)
    ·rw[hk,z]
     exact am
  | false=>
   by_cases hc:(k == NameKind.free&&env.scope.kind == .function&&env.kindOf n == some .cell)=true
   ·simp only[al,ba hc,b6,hx] at h
    exact ah _ (ih h)
   ·simp only[al,ax hc,b6,hx] at h
    exact ah _ (ih h)
abbrev Cx.comp (X:Cx)(N:qE)(scope:Scope)(C:Addr)(s:Shared)(H:Hp)(fp:qV):Cx where
 prog:=X.prog
 w:=X.w
 K:=X.K
 mg:=X.mg
 base:=X.base
 A:=X.A
 N:=N
 s₀:=s
 H₀:=H
 env:=compEnvC scope (yu X.env scope.names) C X.env
 outer:=X.stack
 stack:=X.stack
 ex:=fp
 fn:=λ_=>false
 calm:=X.calm
 pn:=[]
 xe:=λ_ _=>False
noncomputable def zg (scope:Scope)(ON N:qE)(FF:List (Option Nat)):Bool:=
 FF.length == N.length&&(List.range N.length).all λj=>match FF[j]? with
  | some (some i)=>(match N[j]?,ON[i]? with
   | some x,some y=>x == y&&(scope.names.lookup x == some NameKind.free)
   | _,_=>false)
  | _=>true
structure QO (HG scope:Scope)(ON N:qE)(FF:List (Option Nat)):Prop where
 kind:scope.kind=.function
 noc:∀y∈scope.names,y.2≠.cell
 loc:∀y∈scope.names,y.2=.local->scope.names.lookup y.1=some .local
 fr:∀y∈scope.names,y.2=.free->HG.names.lookup y.1=some .cell\/HG.names.lookup y.1=some .free
 FF:zg scope ON N FF=true
theorem QO.at {HG scope:Scope}{ON N:qE}{FF:List (Option Nat)}(S:QO HG scope ON N FF){j i:Nat}{x:Str}(h:FF[j]?=some (some i))(hx:N[j]?=some x):ON[i]?=some x/\scope.names.lookup x=some .free:=by
 have h0:=S.FF
 unfold zg at h0
 rw[cb] at h0
 have hj:j < N.length:=(aS.mp hx).1
 have h1:=cr.mp h0.2 j (cq.mpr hj)
 rw[h] at h1
 dsimp only at h1
 rw[hx] at h1
 cases hy:ON[i]? with
 | none=>rw[hy] at h1;simp at h1
 | some y=>
  rw[hy] at h1
  simp only[cb,ip] at h1
  exact⟨by rw[h1.1],h1.2⟩
theorem QO.len {HG scope:Scope}{ON N:qE}{FF:List (Option Nat)}(S:QO HG scope ON N FF):FF.length=N.length:=by
 have h0:=S.FF
 unfold zg at h0
 rw[cb,ip] at h0
 exact h0.1
noncomputable def Fb (σ:St):Option Nat->Option V
 | some i=>(σ[i]?).getD none
 | none=>none
def gh (FF:List (Option Nat))(σ:St):St:=FF.map (Fb σ)
def uI (X:Cx)(ifs:qB)(t:TT):Prop:=
 ∀(Fn:qo) (s:Shared) (σ:St) (H:Hp) (Q:Bool->Hp->Prop),Inv X Fn σ H s->t σ H Q->
  wpAny (model X.prog X.w) X.A (forIn ifs true λc r=>if r=true then do let ok ← isTrue c X.env (eval c X.env);pure (ForInStep.yield ok) else pure (ForInStep.yield r)) (TP X Fn σ Q) X.xe s
def Zo:TT:=λ_ H Q=>Q true H
theorem O8 {X:Cx}:uI X [] Zo:=λ_ _ _ H _ I h=>wpAny_tests_nil ⟨H,I,h⟩
theorem oE {X:Cx}{c:Expr}{t:TT}(h:PT X c t):uI X [c] t:=λFn s σ H Q I q=>wpAny_tests_one (h Fn s σ H Q I q)
theorem rT {prog:Program}{w:World}{A:Around}{R:Result->Shared->Prop}{s:Shared}{elt target iter:Expr}{ifs:qB}{scope:Scope}{pos:Pos}{it acc:Value}{env:Env}(I:Nat->Shared->Prop)
  (turn:∀n s,I n s->wpAny (model prog w) A (pyNext it) (λr s₁=>match r with
   | none=>R (.ok .next) s₁
   | some v=>wpAny (model prog w) A (letOwnedTupleGo target it v) (λ_ s₁'=>wpAny (model prog w) A (assign target env v) (λ_ s₂=>
     wpAny (model prog w) A (forIn ifs true λc r=>if r=true then do let ok ← isTrue c env (eval c env);pure (ForInStep.yield ok) else pure (ForInStep.yield r)) (λok s₃=>
      if ok=true then wpAny (model prog w) A (eval elt env) (λx s₄=>
       wpAny (model prog w) A (call (.builtin "list.append") [acc,x]) (λ_ s₅=>∃m,m < n/\I m s₅) (λ_ _=>False) s₄) (λ_ _=>False) s₃
      else ∃m,m < n/\I m s₃) (λ_ _=>False) s₂) (λ_ _=>False) s₁') (λ_ _=>False) s₁) (λ_ _=>False) s)
  (n:Nat) (h:I n s):
  codeAny (model prog w) A (.compLoop (.ListComp elt [⟨target,iter,ifs,0⟩] scope pos) 0 it acc env) R s:=by
 refine codeAny_loop rfl I (λn s hI=>?_) n h
 show wpAny _ A ((compTurn (.ListComp elt [⟨target,iter,ifs,0⟩] scope pos) 0 it acc env).onRaise (λx=>do noteFrame x env;theTreesLotGoes x)) _ _ s
 refine wpAny_noted ?_
 rw[compTurn_list]
 refine ab (pE (ab (eR (turn n s hI) (λr s₁ h₁=>?_) λ_ _ h'=>h'.elim)))
 cases r with
 | none=>exact ag h₁
 | some v=>
  refine ab (eR h₁ (λ_ s₁' h₁'=>?_) λ_ _ h'=>h'.elim)
  refine ab (eR h₁' (λ_ s₂ h₂=>ab (eR h₂ (λok s₃ h₃=>?_) λ_ _ h'=>h'.elim)) λ_ _ h'=>h'.elim)
  cases ok with
  | false=>exact ag ⟨rfl,h₃⟩
  | true=>
   exact ab (ab (eR h₃ (λx s₄ h₄=>ab (eR h₄ (λ_ s₅ h₅=>ag (ag ⟨rfl,h₅⟩)) λ_ _ h'=>h'.elim)) λ_ _ h'=>h'.elim))
def Kp (σ σ2:St):Prop:=σ.length=σ2.length/\∀(i:Nat) (v:V),σ[i]?=some (some v)->σ2[i]?=some (some v)
structure TComp (wi:TI)(FF:List (Option Nat))(g:TG)(tt:TT)(te:TE)(σ:St)(H:Hp)(Q:VK):Prop where
 ex:wi σ H λJ H1=>∀D,H1 D=none->∃W:Nat->Nat->List V->Hp->Prop,
 (∃m,W 0 m [] (upd H1 D (.lst [])))/\∀i m ys H,W i m ys H->H D=some (.lst ys)/\((J.stop i H/\Q (.ref D) H) \/
  (J.go i H/\∃N:List V->Hp->Prop,(∀NX H',N NX H'->∃m',m' < m/\W (i+1) m' NX H')/\∀x H',J.yld i H x H'->g x (gh FF σ) H' fun σ2 H2=>Kp (gh FF σ) σ2/\tt σ2 H2 λb H3=>
   if b=true then te σ2 H3 λy H4=>H4 D=some (.lst ys)/\ys.length < sizeLine/\N (ys++[y]) (upd H4 D (.lst (ys++[y]))) else N ys H3))
def DY (wi:TI)(FF:List (Option Nat))(g:TG)(tt:TT)(te:TE):TE:=fun σ H Q=>TComp wi FF g tt te σ H Q
section
variable {X:Cx}{tg iter elt:Expr}{ifs:qB}{scope HG:Scope}{ON N:qE}{FF:List (Option Nat)}{wi:TI}{g:TG}{tt:TT}{te:TE}{pos:Pos}
theorem R_ {Fn:qo}{σ:St}{H2:Hp}{s2:Shared}{fp:qV}{C:Addr}(I2:Inv X Fn σ H2 s2)(S:QO HG scope ON N FF)(LO:X.env.scope=HG)(f2:∀b∈fp,oA X Fn H2 b)
  (hfp:∀b∈fp,b < s2.heap.objs.size) (hC:s2.heap.objs.size<=C):(X.comp N scope C s2 H2 fp).Ok:=by
 have hfr:∀x∈scope.names,x.2=.free->∃c,X.env.cells.lookup x.1=some c:=λx hx e=>I2.ok.has x.1 (by
  rcases S.fr x hx e with z | z
  ·exact .inl (by rw[Env.kindOf,LO];exact z)
  ·exact .inr (by rw[Env.kindOf,LO];exact z))
 refine⟨I2.mod,S.kind,I2.ok.glob,I2.ok.blt,hC,λx y c h1 h2=>I2.ok.inj x y c (qT hfr h1) (qT hfr h2),λx h=>?_,λx c h=>by simp at h,I2.ok.hd,I2.ok.frames,.inl rfl,λb hb=>⟨?_,λx c e=>?_⟩,λb o e=>I2.bs b o e,?_,λb o e hb=>?_,λb hb hz=>?_,I2.stack,I2.Qr⟩
 ·have hm:(x,NameKind.free)∈scope.names:=by
   rcases h with h | h
   ·exact uH (env:=X.env) S.noc (.inl rfl) h
   ·exact uH (env:=X.env) S.noc (.inr rfl) h
  exact Ld hm
 ·exact bt (bE (hfp b hb) hC)
 ·exact(f2 b hb).2.2.2.2.1 x c (qT hfr e)
 ·exact cm I2.ok.YE I2.sz
 ·rcases(f2 b hb).2.2.2.1 with z | z
  ·exact I2.ok.So b o e z
  ·exact absurd (bE (ay e) (cm I2.ok.YE z)) (d5 _)
 ·obtain⟨_,f1,f3,_⟩:=f2 b hb
  rcases aI.mp (I2.NR b hz) with z | z
  ·exact f1 z
  ·exact f3 z
theorem BR {Fn:qo}{s:Shared}{σ:St}{H:Hp}{Q:VK}{RR:Value->Addr->Result->Shared->Prop}{cqual:Str}(hc:X.calm=true)(S:QO HG scope ON N FF)(LO:X.env.scope=HG)(hN:X.N=ON)
  (hi:PI X tg iter wi) (hg:∀C s H fp,PG (X.comp N scope C s H fp) tg g) (ht:∀C s H fp,uI (X.comp N scope C s H fp) ifs tt) (he:∀C s H fp,PE (X.comp N scope C s H fp) elt te)
  (I:Inv X Fn σ H s) (h:DY wi FF g tt te σ H Q)
  (fin:∀D C H' s',Inv X Fn σ H' s'->oA X Fn H' C->(∃m,s'.heap.Ns C m)->Q (.ref D) H'->RR (.ref D) C (.ok .next) s'):
  wpAny (model X.prog X.w) X.A (eval iter X.env) (λx s₁=>wpAny (model X.prog X.w) X.A (pyIter x) (λitv s₂=>wpAny (model X.prog X.w) X.A (newList []) (λacc s₃=>
   wpAny (model X.prog X.w) X.A (newFunctionEnv scope X.env.globals (yu X.env scope.names) [] X.env.qual none .none (some X.env)) (λcenv s₄=>
    codeAny (model X.prog X.w) X.A (.compStart (.ListComp elt [⟨tg,iter,ifs,0⟩] scope pos) 0 itv acc { cenv with scope:=relabel scope X.env }) (RR acc cenv.locals) s₄) X.xe s₃) X.xe s₂) X.xe s₁) X.xe s:=by
 refine FX (hi Fn s σ H _ I h.ex) λv s1 h1=>FX h1 λitv s2 h2=>?_
 obtain⟨it,fp,tn,J,H2,e,I2,T,st2,f2,q2⟩:=h2
 subst e
 refine cK (wpAny_newFunctionEnv S.noc (by intro y hy;simp at hy) (λh₁ Zp SY=>?_) S.kind)
 dsimp only at Zp SY ⊢
 generalize hH2:s2.heap.push { cls:=.type "list",dict:=none,data:=.seq ([]:qv).toArray }=P2 at Zp SY ⊢
 generalize hD:s2.heap.objs.size=D
 generalize hCe:P2.objs.size=C at Zp SY ⊢
 have hCD:C=D+1:=by rw[← hCe,← hH2,dn,hD]
 have Zs:s2.heap.objs.size<=C:=by rw[hCD,hD];exact qh _
 have hfp:∀b∈fp,b < s2.heap.objs.size:=λb hb=>by
  obtain⟨o,e,_⟩:=T.obj 0 _ st2 b hb
  exact ay e
 have below:∀b,b < s2.heap.objs.size->b≠C:=λb hb=>bt (bE hb Zs)
 have k1:∀b o,s2.heap.get? b=some o->h₁.get? b=some o:=λb o e=>SY.extBut b o (below b (ay e)) (af _ (hH2▸af _ e))
 have hDC:D≠C:=by rw[hCD];exact bt (iX _)
 have gD:h₁.get? D=some { cls:=.type "list",dict:=none,data:=.seq ([]:qv).toArray }:=by
  refine SY.extBut D _ hDC (af _ ?_)
  rw[← hH2,← hD]
  exact ap _ rfl
 have nD:H2 D=none:=I2.FH.fresh (by rw[hD];exact aw _)
 have nC:H2 C=none:=I2.FH.fresh Zs
 have hfr:∀x∈scope.names,x.2=.free->∃c,X.env.cells.lookup x.1=some c:=λx hx e=>I2.ok.has x.1 (by
  rcases S.fr x hx e with z | z
  ·exact .inl (by rw[Env.kindOf,LO];exact z)
  ·exact .inr (by rw[Env.kindOf,LO];exact z))
 obtain⟨W,⟨m0,w0⟩,turn⟩:=q2 D nD
 have IY:Inv (X.comp N scope C s2 H2 fp) [] (gh FF σ) (upd H2 D (.lst [])) { s2 with heap:=h₁,toks:=s2.toks+([]:List (Str×Value)).length }:=by
  have hp:s2.heap.objs.size<=D:=by rw[hD];exact aw _
  refine⟨R_ I2 S LO f2 hfp Zs,rfl,I2.bare,Un.laid k1 hp nD,⟨_,Zp,λj x v e1 e2 e3=>?_⟩,λx c e=>?_,?_,λx c e=>?_,λp hp=>by simp at hp,I2.FH.laid k1 hp ⟨eA _,[],_,.nil,gD⟩,?_⟩
  ·have e2':(FF.map (Fb σ))[j]?=some (some v):=e2
   rw[b0] at e2'
   cases q:FF[j]? with
   | none=>rw[q] at e2';cases e2'
   | some o=>
    rw[q] at e2'
    have e4:Fb σ o=some v:=bo e2'
    cases o with
    | none=>cases e4
    | some i=>
     have hσ:σ[i]?=some (some v):=by
      have e5:(σ[i]?).getD none=some v:=e4
      cases z:σ[i]? with
      | none=>rw[z] at e5;cases e5
      | some w=>rw[z] at e5;exact c5 some e5
     obtain⟨hx1,hx2⟩:=S.at q e1
     have hk:X.env.kindOf x=some .cell\/X.env.kindOf x=some .free:=by
      rcases S.fr _ (mem_of_lookup hx2) rfl with z | z
      ·exact .inl (by rw[Env.kindOf,LO];exact z)
      ·exact .inr (by rw[Env.kindOf,LO];exact z)
     obtain⟨m,hn,hl⟩:=I2.loc
     obtain⟨u,r,l⟩:=hl i x v (by rw[hN];exact hx1) hσ (by
      rcases hk with z | z
      ·exact .inr (.inl z)
      ·exact .inr (.inr z))
     refine⟨u,r,?_⟩
     rcases l with ⟨z,_⟩ | ⟨_,c,hc',QE⟩
     ·rcases hk with y | y
      ·rw[y] at z;cases z
      ·rw[y] at z;cases z
     ·obtain⟨c',PH⟩:=Ld (env:=X.env) (mem_of_lookup hx2)
      have e6:=qT hfr PH
      rw[hc'] at e6
      have e7:c=c':=bo e6
      subst e7
      obtain⟨oc,ho,hd⟩:=QE
      exact .inr ⟨vL (env:=X.env) hx2,c,PH,⟨oc,k1 c oc ho,hd⟩⟩
  ·obtain⟨v,oc,ho,hd⟩:=I2.cell x c (qT hfr e)
   exact⟨v,oc,k1 c oc ho,hd⟩
  ·show upd H2 D (.lst []) C=none
   rw[aO (fg hDC)]
   exact nC
  ·have e':=qT hfr e
   obtain⟨v,oc,ho,hd⟩:=I2.cell x c e'
   show upd H2 D (.lst []) c=none
   rw[aO (λz=>absurd (ay ho) (by rw[z,hD];exact d5 _))]
   exact I2.JY x c e'
  ·show (FF.map (Fb σ)).length=N.length
   rw[ac]
   exact S.len
 have Pt:∀{H':Hp},(∀b∈fp,H' b=none)->∀b∈fp,oA (X.comp N scope C s2 H2 fp) [] H' b:=λhn b hb=>by
  obtain⟨_,f1,f3,f4,f5,f6⟩:=f2 b hb
  refine⟨hn b hb,below b (hfp b hb),λhz=>?_,.inl hb,λx c e=>f5 x c (qT hfr e),λp hp=>by simp at hp⟩
  rcases aI.mp (I2.NR b hz) with z | z
  ·exact f1 z
  ·exact f3 z
 have back:∀{σ':St}{H':Hp}{s':Shared},Inv (X.comp N scope C s2 H2 fp) [] σ' H' s'->Inv X Fn σ H' s':=λ{σ' H' s'} I'=>
  I2.call' (ch:=fp) I'.os I'.base I'.FH I'.bare λb hb=>let ⟨_,f1,_,f4,f5,f6⟩:=f2 b hb;⟨f4,f1,f5,f6⟩
 have st1:tn 0 h₁:=T.keep 0 _ _ st2 λb _ o e=>k1 b o e
 have fr1:∀b∈fp,upd H2 D (.lst []) b=none:=λb hb=>by
  rw[aO (λz=>absurd (hfp b hb) (by rw[z,hD];exact d5 _))]
  exact(f2 b hb).1
 have loop:codeAny (model X.prog X.w) X.A (.compLoop (.ListComp elt [⟨tg,iter,ifs,0⟩] scope pos) 0 (.ref it) (.ref D) (compEnvC scope (yu X.env scope.names) C X.env)) (RR (.ref D) C) { s2 with heap:=h₁,toks:=s2.toks+([]:List (Str×Value)).length }:=by
  refine rT (λn s'=>∃i ys H',Inv (X.comp N scope C s2 H2 fp) [] (gh FF σ) H' s'/\tn i s'.heap/\(∀b∈fp,H' b=none)/\W i n ys H') ?_ m0 ⟨0,[],_,IY,st1,fr1,w0⟩
  rintro n s3 ⟨i,ys,H3,I3,st3,fr3,w3⟩
  obtain⟨hDy,hturn⟩:=turn i n ys H3 w3
  rcases hturn with ⟨stop,qn⟩ | ⟨go,Nx,hNx,step⟩
  ·refine FX (T.done (X.comp N scope C s2 H2 fp) rfl rfl rfl hc i [] s3 (gh FF σ) H3 _ I3 (Pt fr3) st3 stop) ?_
   rintro r s4 ⟨hr,I4⟩
   subst hr
   obtain⟨m,hm,_⟩:=I4.loc
   exact fin D C H3 s4 (back I4) (I2.Nc Zs I4.free) ⟨m,hm⟩ qn
  ·refine FX (T.item (X.comp N scope C s2 H2 fp) rfl rfl rfl hc i [] s3 (gh FF σ) H3 _ I3 (Pt fr3) st3 go) ?_
   rintro r s4 ⟨u,hr,h4⟩
   subst hr
   refine FX h4 ?_
   rintro _ s5 ⟨x,H5,I5,r5,y5,st5,fr5⟩
   have I5':=I5.pinned (Pt fr5) (T.obj _ _ st5)
   refine FX (hg C s2 H2 fp _ s5 (gh FF σ) H5 x u _ I5' r5 (step x H5 y5)) ?_
   rintro _ s6 ⟨σ6,H6,I6,kp6,q6⟩
   refine FX (ht C s2 H2 fp _ s6 σ6 H6 _ I6 q6) ?_
   rintro b s7 ⟨H7,I7,q7⟩
   have again:∀{NX:List V}{H7:Hp}{s7:Shared},Inv (X.comp N scope C s2 H2 fp) ([]++vI fp s5.heap) σ6 H7 s7->Nx NX H7->∃m,m < n/\∃i ys H',Inv (X.comp N scope C s2 H2 fp) [] (gh FF σ) H' s7/\tn i s7.heap/\(∀b∈fp,H' b=none)/\W i m ys H':=λ{NX H7 s7} I7 n7=>by
    obtain⟨m',hm,w7⟩:=hNx NX H7 n7
    refine⟨m',hm,i+1,NX,H7,I7.Lo.weak kp6.1 kp6.2,T.keep _ _ _ st5 λb hb o e=>(I7.pin (b,o) (cw _ (cw _ (qj hb e)))).1,λb hb=>?_,w7⟩
    obtain⟨o,e,d⟩:=T.obj _ _ st5 b hb
    exact(I7.pin (b,o) (cw _ (cw _ (qj hb e)))).2.1
   cases b with
   | false=>
    rw[ax bd] at q7 ⊢
    exact again I7 q7
   | true=>
    rw[ba rfl] at q7 ⊢
    refine FX (he C s2 H2 fp _ s7 σ6 H7 _ I7 q7) ?_
    rintro xv s8 ⟨y,H8,I8,r8,hD8,hl8,n8⟩
    refine FX (BL (X:=X.comp N scope C s2 H2 fp) _ s8 σ6 H8 (.ref D) [y] (.ref D) [xv] (λ_ H9=>Nx (ys++[y]) H9) I8 rfl (.cons r8 .nil) ⟨D,ys,y,rfl,rfl,hD8,hl8,n8⟩) ?_
    rintro _ s9 ⟨_,H9,I9,_,n9⟩
    exact again I9 n9
 subst hD hCe
 exact codeAny_compStart_list loop (T.self _ 0 _ _ _ st1 loop)
theorem Fd {Fn:qo}{s:Shared}{σ:St}{H:Hp}(S:QO HG scope ON N FF)(LO:X.env.scope=HG)(I:Inv X Fn σ H s):closureFor scope X.env=pure (yu X.env scope.names):=
 Dh λx hx e=>I.ok.has x.1 (by
  rcases S.fr x hx e with z | z
  ·exact .inl (by rw[Env.kindOf,LO];exact z)
  ·exact .inr (by rw[Env.kindOf,LO];exact z))
theorem Inv.letgo {Fn:qo}{s':Shared}{σ:St}{H':Hp}{C:Addr}{h':Heap}(I:Inv X Fn σ H' s')(f:oA X Fn H' C)(hs:Heap.SameBut C s'.heap h'):Inv X Fn σ H' { s' with heap:=h' }:=
 I.turned (t':=s'.toks) (it:=C) (λb o hb e=>(hs.2 b hb).trans e) f.1 f.2.1 f.2.2.2.1 f.2.2.2.2.1 f.2.2.2.2.2
theorem Sd (S:QO HG scope ON N FF)(hi:PI X tg iter wi)(hg:∀C s H fp,PG (X.comp N scope C s H fp) tg g)(ht:∀C s H fp,uI (X.comp N scope C s H fp) ifs tt)(he:∀C s H fp,PE (X.comp N scope C s H fp) elt te)
  (hc:autoParam (X.calm=true) r0_) (LO:autoParam (X.env.scope=HG) r0_) (hN:autoParam (X.N=ON) r0_) (hs:autoParam (∀x,foldedSetIterable iter X.env x=pure x) r4_):PE X (.ListComp elt [⟨tg,iter,ifs,0⟩] scope pos) (DY wi FF g tt te):=by
 intro Fn s σ H Q I h
 rw[eval_ListComp]
 refine mS (use:=none) rfl hs (Fd S LO I) S.kind S.loc ?_
 refine BR (RR:=λacc C=>compPost (model X.prog X.w) X.A X.xe none (EP X Fn σ Q) acc C) (cqual := "") hc S LO hN hi hg ht he I h λD C H' s' I' f hm q=>?_
 obtain⟨m,hm⟩:=hm
 exact⟨m,hm,λh' Mn=>⟨.ref D,H',I'.letgo f Mn,rfl,q⟩⟩
theorem HQ {i:Nat}{y:Str}{py OM:Pos}(S:QO HG scope ON N FF)(hNd:X.N.Nodup)(N4:X.N[i]?=some y)(hy:Loc X.env.scope y)(hi:PI X tg iter wi)(hg:∀C s H fp,PG (X.comp N scope C s H fp) tg g)(ht:∀C s H fp,uI (X.comp N scope C s H fp) ifs tt)(he:∀C s H fp,PE (X.comp N scope C s H fp) elt te)
  (hsw:autoParam (swapsWith (.ListComp elt [⟨tg,iter,ifs,0⟩] scope pos) (some (.Name y py)) OM.line X.env=pure true) r0_)
  (hc:autoParam (X.calm=true) r0_) (LO:autoParam (X.env.scope=HG) r0_) (hN:autoParam (X.N=ON) r0_) (hs:autoParam (∀x,foldedSetIterable iter X.env x=pure x) r4_)
  (hf:autoParam (X.fn y=true\/X.env.scope.names.lookup y=some .local) r3_):
  PS X (.Assign [.Name y py] (.ListComp elt [⟨tg,iter,ifs,0⟩] scope pos) OM) (Oc (DY wi FF g tt te) (wX i)):=by
 intro Fn s σ H D0 I h
 rw[exec_Assign_Name_used _ _ _ _ hsw]
 refine ab (pE (ab ?_))
 show wpAny _ _ (do let _ ← comprehension (.ListComp elt [⟨tg,iter,ifs,0⟩] scope pos) scope X.env _ (newList []) false (eval iter X.env) (some (assign (.Name y py) X.env))) _ _ s
 refine ab (eR (mS (use:=some (assign (.Name y py) X.env)) (Q:=λ_ s'=>SP X Fn D0 .next s') rfl hs (Fd S LO I) S.kind S.loc
  (BR (RR:=λacc C=>compPost (model X.prog X.w) X.A X.xe (some (assign (.Name y py) X.env)) (λ_ s'=>SP X Fn D0 .next s') acc C) (cqual := "") hc S LO hN hi hg ht he I h λD C H' s' I' f hm q=>?_))
  (λ_ s' hq=>ag (ag hq)) λ_ _ e=>e)
 obtain⟨m,hm⟩:=hm
 show wpAny _ _ (assign (.Name y py) X.env (.ref D)) _ _ s'
 refine wpAny_assign_Name (Bw I' hNd N4 hy (v:=.ref D) rfl (λs'' I'' Pp=>?_) hf)
 obtain⟨a,hsb,ha⟩:=Pp
 have nCa:C≠a:=by
  rintro rfl
  rcases ha with z | z
  ·exact f.2.1 z
  ·exact f.2.2.2.2.1 y C z rfl
 refine⟨m,hm.sameBut hsb nCa,λh' Mn=>⟨_,H',I''.letgo f Mn,q⟩⟩
end
section
variable {X:Cx}{Fn:qo}{σ:St}{H H':Hp}{s:Shared}{h':Heap}
theorem Inv.NY {t':Nat}{ch:qV}{a:Addr}{o:HO}(I:Inv X Fn σ H s)(k:∀b u,b∉ch->s.heap.get? b=some u->h'.get? b=some u)(ht:∀b u,s.heap.get? b=some u->∃u',h'.get? b=some u')(hf:∀b∈ch,oA X Fn H b)
  (hp:s.heap.objs.size<=a) (new:FK X.prog X.w X.K (upd H a o) h' a o):Inv X Fn σ (upd H a o) { s with heap:=h',toks:=t' }:=by
 have hn:H a=none:=I.FH.fresh hp
 have Sz:∀b u,H b=some u->b∉ch:=λb u e hb=>by
  rw[(hf b hb).1] at e;cases e
 have na:∀b u,s.heap.get? b=some u->b≠a:=λb u e=>bt (bE (ay e) hp)
 have hhok:KL X.prog X.w X.K (upd H a o) h':=λb u e=>by
  by_cases hb:b=a
  ·subst hb;rw[bu] at e;cases e;exact new
  ·rw[aO hb] at e
   refine(I.FH b u e).OG (λc v hc q=>k c v ?_ q) (λc q=>by rw[aO (a_ q hn)];exact q) λc xs q=>by rw[aO (a_ q hn)];exact q
   rcases hc with rfl | hc
   ·exact Sz c u e
   ·exact Sz c _ hc
 refine I.step (g':=s.gens) (d':=s.drawn) (ch:=ch) (λb hb=>let ⟨_,f1,_,f4,f5,f6⟩:=hf b hb;⟨f4,f1,f5,f6⟩) (λb o _ _ hc e _=>k b o hc e) (λb o _ _ hc e _=>⟨o.slots,k b o hc e⟩)
  (λb o _ e n=>by rw[aO (na b o e)];exact n) (λb o _ e=>ht b o e) (λb xs q=>by rw[aO (a_ q hn)];exact q) (λb u xs q=>by rw[aO (a_ q hn)];exact q)
  (λb ps q=>⟨#[],by rw[aO (a_ q hn),q];simp⟩) (λm hm=>?_) hhok I.bare
 obtain⟨oL,es,ep,ho,r⟩:=hm
 have nL:X.env.locals∉ch:=λhb=>(hf _ hb).2.1 rfl
 exact⟨oL,es,ep,k _ oL nL ho,r⟩
end
def Its (x:Str):It:=⟨λi _=>i < x.cps.size,λi H v H'=>H'=H/\∃c,x.cps[i]?=some c/\v=.str ⟨#[c]⟩,λi _=>i=x.cps.size⟩
theorem Fe {P:Program}{w:World}{K:W.Frag}{tg:Expr}(it:Addr)(x:Str)(t:Tok)(ty:String)(hty:["enumerate","zip","dict_itemiterator","dict_reverseitemiterator","odict_iterator","itertools.zip_longest","itertools.pairwise"].contains ty=false)
  (W:∀A:Around,A.handled=none->Walks P w A it [it] [it] x.cps.size (SignAt x) (λi h=>h.IsStrIter it ty x t i))
  (slf:∀(A:Around) (i:Nat) (s:Shared) (Q:qk) (E:qk),s.heap.IsStrIter it ty x t i->Q (.ref it) s->wpAny (model P w) A (pyIter (.ref it)) Q E s):
  Turn P w K tg (Its x) [it] it (λi h=>h.IsStrIter it ty x t i) where
 mem:=by simp
 obj:=λi h st b hb=>by
  have e:b=it:=by simpa using hb
  subst e
  obtain⟨o,e,c,d⟩:=st
  exact⟨o,e,λv z=>by rw[d] at z;cases z⟩
 keep:=λi h h' st k=>by
  obtain⟨o,e,r⟩:=st
  exact⟨o,k it (by simp) o e,r⟩
 item:=by
  intro X hP hw hK hc i Fn s σ H E I hf st hg
  subst hP hw hK
  obtain⟨f0,f1,f2,f3,f4,f5⟩:=hf it (by simp)
  refine(W X.A (I.ok.hd hc)).item i s _ _ hg st λv h' tk hv MI kk=>?_
  obtain⟨c,u,hx,rfl⟩:=hv
  have I1:Inv X Fn σ H { s with heap:=h',toks:=tk }:=I.turned (λb o hb e=>kk b o (by simpa using hb) e) f0 f1 f3 f4 f5
  obtain⟨o,e,cc,d⟩:=id MI
  exact⟨_,rfl,wY (s:={ s with heap:=h',toks:=tk }) e cc d hty ⟨.str ⟨#[c]⟩,H,I1,⟨u,rfl⟩,⟨rfl,c,hx,rfl⟩,MI,λb hb=>(hf b hb).1⟩⟩
 done:=by
  intro X hP hw hK hc i Fn s σ H E I hf st hg
  subst hP hw hK
  obtain⟨f0,f1,f2,f3,f4,f5⟩:=hf it (by simp)
  have hg':i=x.cps.size:=hg
  subst hg'
  exact(W X.A (I.ok.hd hc)).done s _ _ st λh' tk kk=>⟨rfl,I.turned (λb o hb e=>kk b o (by simpa using hb) e) f0 f1 f3 f4 f5⟩
 self:=slf
section
variable {X:Cx}{tg:Expr}
def Zr (tl:TE):TI:=fun σ H R=>tl σ H λx H1=>∃z,x=.str z/\R (Its z) H1
theorem VP {l:Expr}{tl:TE}(hl:PE X l tl):PI X tg l (Zr tl):=by
 intro Fn s σ H R I h
 refine FX (hl Fn s σ H _ I h) ?_
 rintro v s1 ⟨x,H1,I1,r1,q1⟩
 obtain⟨z,e,q⟩:=q1
 subst e
 obtain⟨t,rfl⟩:=r1
 have fp:∀b∈[s1.heap.objs.size],oA X Fn H1 b:=λb hb=>by
  have e:b=s1.heap.objs.size:=by simpa using hb
  subst e
  exact I1.Nc (aw _) (I1.FH.fresh (aw _))
 cases ha:z.cps.all (· < 128)
 ·exact wpAny_pyIter_wide ha ⟨s1.heap.objs.size,[s1.heap.objs.size],_,_,H1,rfl,I1.kept (t':=s1.toks) λb o e=>af _ e,Fe _ z t "str_iterator" (by decide) (λA hA=>Walks.strWide hA _ z t) (λA i s Q E st h=>wpAny_pyIter_striter_wide st h),⟨_,ap _ rfl,rfl,rfl⟩,fp,q⟩
 ·exact wpAny_pyIter_ascii ha ⟨s1.heap.objs.size,[s1.heap.objs.size],_,_,H1,rfl,I1.kept (t':=s1.toks) λb o e=>af _ e,Fe _ z t "str_ascii_iterator" (by decide) (λA hA=>Walks.strAscii hA _ z t) (λA i s Q E st h=>wpAny_pyIter_striter_ascii st h),⟨_,ap _ rfl,rfl,rfl⟩,fp,q⟩
end
section
variable {X:Cx}
theorem BV:∀{l:List (Str×Tok)}{zs:qE},l.map (·.1)=zs->Vals (zs.map V.str) (strValues l)
 | [],_,e=>by subst e;exact .nil
 | (x,t)::r,_,e=>by subst e;exact .cons ⟨t,rfl⟩ (BV rfl)
theorem vM:∀{zs:qE}{us:qv},Vals (zs.map V.str) us->∃l:List (Str×Tok),us=strValues l/\l.map (·.1)=zs
 | [],_,r=>by cases r;exact⟨[],rfl,rfl⟩
 | z::zs,_,r=>by
  cases r with
  | cons r1 r2=>
   obtain⟨t,rfl⟩:=r1
   obtain⟨l,rfl,e⟩:=vM r2
   exact⟨(z,t)::l,rfl,by rw[al,e]⟩
def Le:V->List V->Hp->VK->Prop:=λx vs H Q=>∃z y,x=.str z/\vs=[.str y]/\(y.length == 0)=false/\z.length<=1000000/\∀l,H l=none->Q (.ref l) (upd H l (.lst ((Txt.split z y).map V.str)))
theorem BW (x y:Str):(Builtin.Str.partsBetween x (Builtin.Str.occurrences x y 0 x.length (x.length+1)) y.length).length<=x.length+2:=by
 have h:=StrLaws.occ_length_le_len x y 0 x.length (x.length+1)
 unfold Builtin.Str.partsBetween
 simp only[ac,lP,bg,a9,eM]
 omega
theorem split_len {x y:Str}:(Txt.split x y).length<=x.length+2:=by
 unfold Txt.split
 split
 ·simp
 ·split
  ·simp
  ·exact BW x y
theorem O9:MtR X "str.split" Le:=by
 intro Fn s σ H x vs v us Q I rx rv h
 obtain⟨z,y,rfl,rfl,hy,hz,q⟩:=h
 obtain⟨t,rfl⟩:=rx
 obtain⟨u,rfl,u',rfl⟩:=rv.one
 have sl:=@split_len z y
 have hz2:z.length<=sizeLine:=cm hz (by decide)
 have hz3:z.length+2<=sizeLine:=cm (Nat.add_le_add_right hz 2) (by decide)
 have e0:∀(l:List (Str×Tok)) (t':Nat),l.map (·.1)=Txt.split z y->EP X Fn σ Q (.ref s.heap.objs.size) { s with heap:=s.heap.push { cls:=.type "list",data:=.seq (strValues l).toArray },toks:=t' }:=λl t' e=>
  ⟨.ref s.heap.objs.size,_,I.lnew (BV e) (by
   rw[ac]
   exact cm sl hz3),rfl,q _ I.fresh⟩
 cases h1:(decide (z.length < y.length)||decide (Builtin.Str.strKind z < Builtin.Str.strKind y))
 ·cases hf:(Builtin.Str.occurrences z y 0 z.length (z.length+1)).isEmpty
  ·refine iO ny (mv _ _ _) mM (mw _ _) (meets_str_split_sep z y t u' h1 hy hf hz2 (cm (BW z y) hz3)) ?_
   show wants _ _ _ { s with toks:=_,heap:=s.heap.push { cls:=.type "list",data:=.seq (strsFrom s.toks (Builtin.Str.partsBetween z (Builtin.Str.occurrences z y 0 z.length (z.length+1)) y.length)).toArray } }
   rw[strsFrom_eq]
   exact e0 (numbered s.toks _) _ ((numbered_texts _ _).trans ((ax (l8 h1)).trans (ax (l8 hf))).symm)
  ·exact iO ny (mv _ _ _) mM (mw _ _) (meets_str_split_not_found z y t u' h1 hy hf)
    (e0 [(z,t)] s.toks ((ax (l8 h1)).trans (ba hf)).symm)
 ·exact iO ny (mv _ _ _) mM (mw _ _) (meets_str_split_cannot_occur z y t u' h1) (e0 [(z,t)] s.toks (ba h1).symm)
def rJoin (K:W.Frag):V->List V->Hp->VK->Prop:=λx vs H Q=>∃z l zs,x=.str z/\vs=[.ref l]/\F8 K H l (zs.map V.str)/\JoinOk z zs=true/\Q (.str (Str.join z zs)) H
theorem Sh:MtR X "str.join" (rJoin X.K):=by
 intro Fn s σ H x vs v us Q I rx rv h
 obtain⟨z,l,zs,rfl,rfl,hl,ok,q⟩:=h
 obtain⟨t,rfl⟩:=rx
 obtain⟨u,rfl,ru⟩:=rv.one
 cases ru
 obtain⟨its,r,p,_⟩:=I.list hl
 obtain⟨l',e,e2⟩:=vM r
 subst e
 refine SC.join p.isList e2 ok λt' k=>⟨.str (Str.join z zs),H,I.tok _,⟨t',?_⟩,q⟩
 unfold Txt.join
 rw[StrLaws.glued_eq_join]
theorem BZ {bs:List Bool}{us:qv}(r:Vals (bs.map V.bl) us){i:Nat}{v:Value}(e:us[i]?=some v):∃b,bs[i]?=some b/\v=.bool b:=by
 have hl:=r.length
 rw[ac] at hl
 have hi:i < us.length:=(aS.mp e).1
 have hb:bs[i]?=some bs[i]:=aT (by omega)
 obtain⟨u,h1,h2⟩:=r.get (i:=i) (x:=.bl bs[i]) (by rw[b0,hb] <;> rfl)
 rw[e] at h1
 cases h1
 exact⟨_,hb,h2⟩
theorem range_all {bs:List Bool}{n:Nat}(hn:n=bs.length):((List.range n).all λi=>(bs[i]?).getD true)=bs.all id:=by
 subst hn
 rw[gv]
 simp only[cr,cq,id]
 constructor
 ·intro h x hx
  obtain⟨i,hi,e⟩:=oC.mp hx
  have:=h i hi
  rw[aT hi] at this
  rw[← e]
  exact this
 ·intro h i hi
  rw[aT hi]
  exact h _ (e9 hi)
theorem range_any {bs:List Bool}{n:Nat}(hn:n=bs.length):((List.range n).any λi=>(bs[i]?).getD true)=bs.any id:=by
 subst hn
 rw[gv]
 simp only[lc,cq,id]
 constructor
 ·rintro ⟨i,hi,h⟩
  rw[aT hi] at h
  exact⟨_,e9 hi,h⟩
 ·rintro ⟨x,hx,h⟩
  obtain⟨i,hi,e⟩:=oC.mp hx
  refine⟨i,hi,?_⟩
  rw[aT hi]
  show bs[i]=true
  rw[e]
  exact h
theorem kept_iter {h h':Heap}{o:Obj}(hk:∀b x,b∉[h.objs.size]->(h.push o).get? b=some x->h'.get? b=some x):∀b x,h.get? b=some x->h'.get? b=some x:=
 λb x e=>hk b x (λhm=>by rw[av.mp hm] at e;exact d5 _ (ay e)) (af _ e)
theorem O_ (hc:autoParam (X.calm=true) r0_):F6 X (.builtin "all") (λxs H Q=>∃(p:Addr) (bs:List Bool),xs=[.ref p]/\F8 X.K H p (bs.map V.bl)/\Q (.bl (bs.all id)) H):=by
 intro Fn s σ H xs us Q I r h
 obtain⟨l,bs,rfl,hq,q⟩:=h
 obtain⟨u,rfl,rx⟩:=vals1 r
 cases rx
 obtain⟨its,r',pl,hz⟩:=I.list hq
 have hl:=pl.isList
 have hlen:=r'.length
 rw[ac] at hlen
 have LI:l < s.heap.objs.size:=by obtain⟨_,e,_⟩:=hl;exact ay e
 have hh:=I.ok.hd hc
 refine call_all_walk (fw hl ?_)
 refine⟨s.heap.objs.size,[s.heap.objs.size,l],[s.heap.objs.size],its.toArray.size,_,_,λi=>(bs[i]?).getD true,rfl,Walks.list (A:=X.A.in1) hh _ l (bt LI) its.toArray,
  ⟨⟨_,ap _ rfl,rfl,rfl⟩,hl.push _⟩,λi v s' Q' E' hP hQ=>?_,λh' tk hk=>?_⟩
 ·obtain⟨b,e,rfl⟩:=BZ r' (i:=i) (v:=v) (by simpa using hP)
  simp only[e,lf] at hQ
  exact eD hQ
 ·refine⟨.bl (bs.all id),H,I.kept (kept_iter hk),?_,q⟩
  rw[range_all (by simp[hlen])]
  rfl
theorem Pa (hc:autoParam (X.calm=true) r0_):F6 X (.builtin "any") (λxs H Q=>∃(p:Addr) (bs:List Bool),xs=[.ref p]/\F8 X.K H p (bs.map V.bl)/\Q (.bl (bs.any id)) H):=by
 intro Fn s σ H xs us Q I r h
 obtain⟨l,bs,rfl,hq,q⟩:=h
 obtain⟨u,rfl,rx⟩:=vals1 r
 cases rx
 obtain⟨its,r',pl,hz⟩:=I.list hq
 have hl:=pl.isList
 have hlen:=r'.length
 rw[ac] at hlen
 have LI:l < s.heap.objs.size:=by obtain⟨_,e,_⟩:=hl;exact ay e
 have hh:=I.ok.hd hc
 refine call_any_walk (fw hl ?_)
 refine⟨s.heap.objs.size,[s.heap.objs.size,l],[s.heap.objs.size],its.toArray.size,_,_,λi=>(bs[i]?).getD true,rfl,Walks.list (A:=X.A.in1) hh _ l (bt LI) its.toArray,
  ⟨⟨_,ap _ rfl,rfl,rfl⟩,hl.push _⟩,λi v s' Q' E' hP hQ=>?_,λh' tk hk=>?_⟩
 ·obtain⟨b,e,rfl⟩:=BZ r' (i:=i) (v:=v) (by simpa using hP)
  simp only[e,lf] at hQ
  exact eD hQ
 ·refine⟨.bl (bs.any id),H,I.kept (kept_iter hk),?_,q⟩
  rw[range_any (by simp[hlen])]
  rfl
theorem Al (hc:autoParam (X.calm=true) r0_):F6 X (.type "list") (λxs H Q=>∃p kvs,xs=[.ref p]/\H p=some (.dK kvs)/\∀l,H l=none->Q (.ref l) (upd H l (.lst (kvs.map λkv=>kV kv.1)))):=by
 intro Fn s σ H xs us Q I r h
 obtain⟨p,kvs,rfl,hp,q⟩:=h
 obtain⟨u,rfl,rx⟩:=vals1 r
 cases rx
 obtain⟨hz,lo,vs,rel,hD⟩:=Rg I.FH hp
 obtain⟨o,es,ep,ho,hx,hd,hk,hpr,hn⟩:=hD
 have hlen:=rel.length
 refine W.kdl_call (W.kdl_dict (knd:=ie X.prog X.w) (kvs:=vs) (ep:=ep) lo) (I.ok.hd hc) ⟨o,es,ho,hx,hd,hk,hpr,hn⟩ (by omega) λh' tk Nn c' kk hS hacc=>?_
 have hv:Vals (kvs.map λkv=>kV kv.1) Nn.toList:=by
  have gen:∀(l:List (Key×V)) (l2:List (Key×Value)) (us:qv),KV l l2->us.length=l2.length->(∀(j:Nat) (v:Value),us[j]?=some v->∃k x,l2[j]?=some (k,x)/\(ie X.prog X.w).is k v=true)->Vals (l.map λkv=>kV kv.1) us:=by
   intro l
   induction l with
   | nil=>
    intro l2 us hr hl hu
    cases hr
    have:us=[]:=kg.mp hl
    subst this
    exact .nil
   | cons a r ih=>
    intro l2 us hr hl hu
    cases hr with
    | @cons _ b _ r2 h1 h2=>
     cases us with
     | nil=>simp at hl
     | cons v us=>
      obtain⟨k,x,e,hk⟩:=hu 0 v rfl
      have e':b=(k,x):=by simpa using e
      have ek:a.1=k:=by rw[h1.1,e']
      refine .cons ?_ (ih r2 us h2 (by simpa using hl) λj w e=>by simpa using hu (j+1) w (by simpa using e))
      show RelV (kV a.1) v
      rw[ek]
      rcases cL hk with ⟨i,t,rfl,rfl⟩ | ⟨x,t,rfl,rfl⟩
      ·exact⟨t,rfl⟩
      ·exact⟨t,rfl⟩
  refine gen kvs vs Nn.toList rel (by rw[aE];exact hacc.1) λj v e=>hacc.2 j v (by rw[← iF];exact e)
 refine⟨.ref s.heap.objs.size,_,I.laid kk (aw _) (show FK X.prog X.w X.K _ h' _ (.lst _) from ⟨?_,Nn.toList,c',hv,?_⟩),rfl,q _ I.fresh⟩
 ·rw[ac];omega
 ·simpa using hS
mutual
inductive Dt (K:W.Frag) (H:Hp):V->PyData->Prop
 | FE:Dt K H .FE .none
 | bl (b:Bool):Dt K H (.bl b) (.bool b)
 | int (i:Int):Dt K H (.int i) (.int i)
 | str (x:Str):Dt K H (.str x) (.str x)
 | lst {a:Addr}{xs:List V}{ds:List PyData}:F8 K H a xs->S3 K H xs ds->Dt K H (.ref a) (.list ds)
 | tup {a:Addr}{xs:List V}{ds:List PyData}:IP K H a xs->S3 K H xs ds->Dt K H (.ref a) (.tuple ds)
inductive S3 (K:W.Frag) (H:Hp):List V->List PyData->Prop
 | nil:S3 K H [] []
 | cons {x:V}{xs:List V}{d:PyData}{ds:List PyData}:Dt K H x d->S3 K H xs ds->S3 K H (x::xs) (d::ds)
end
mutual
theorem Dt.reads {Fn:qo}{σ:St}{H:Hp}{s:Shared}(I:Inv X Fn σ H s):∀{x:V}{d:PyData}{u:Value},Dt X.K H x d->RelV x u->∃as,Reads s.heap u d as
 | _,_,_,.FE,r=>by cases r;exact⟨[],.none⟩
 | _,_,_,.bl b,r=>by cases r;exact⟨[],.bool b⟩
 | _,_,_,.int i,r=>by obtain⟨t,rfl⟩:=r;exact⟨[],.int i t⟩
 | _,_,_,.str x,r=>by obtain⟨t,rfl⟩:=r;exact⟨[],.str x t⟩
 | _,_,_,.lst hq hs,r=>by
  cases r
  obtain⟨its,rv,pl,_⟩:=I.list hq
  obtain⟨o,e,c,n,d⟩:=pl.isList
  obtain⟨as,ra⟩:=S3.reads I hs rv
  exact⟨_,.list e c d (by simpa using ra)⟩
 | _,_,_,.tup hq hs,r=>by
  cases r
  obtain⟨its,rv,pl,_⟩:=I.tuple hq
  obtain⟨o,e,c,n,d⟩:=pl
  obtain⟨as,ra⟩:=S3.reads I hs rv
  exact⟨_,.tuple e c d (by simpa using ra)⟩
theorem S3.reads {Fn:qo}{σ:St}{H:Hp}{s:Shared}(I:Inv X Fn σ H s):∀{xs:List V}{ds:List PyData}{us:qv},S3 X.K H xs ds->Vals xs us->∃as,ReadsAll s.heap us ds as
 | _,_,_,.nil,r=>by cases r;exact⟨[],.nil⟩
 | _,_,_,.cons h hs,r=>by
  cases r with
  | cons r1 r2=>
   obtain⟨as,ra⟩:=Dt.reads I h r1
   obtain⟨bs,rb⟩:=S3.reads I hs r2
   exact⟨_,.cons ra rb⟩
end
theorem VR (hu:X.A.units+64 < cLine):G0 X (compareOp .Eq) (λx y H Q=>∃d e,Dt X.K H x d/\Dt X.K H y e/\SeqAt.shaped d=true/\SeqAt.shaped e=true/\Q (.bl (PyData.eqv d e)) H):=by
 intro Fn s σ H x y v u Q I rx ry h
 obtain⟨d,e,h1,h2,s1,s2,q⟩:=h
 obtain⟨as,ra⟩:=h1.reads I rx
 obtain⟨bs,rb⟩:=h2.reads I ry
 exact eq_dataH ra rb s1 s2 hu ⟨.bl _,H,I,rfl,q⟩
theorem V0 (hu:X.A.units+64 < cLine):G0 X (compareOp .NotEq) (λx y H Q=>∃d e,Dt X.K H x d/\Dt X.K H y e/\SeqAt.shaped d=true/\SeqAt.shaped e=true/\Q (.bl (!PyData.eqv d e)) H):=by
 intro Fn s σ H x y v u Q I rx ry h
 obtain⟨d,e,h1,h2,s1,s2,q⟩:=h
 obtain⟨as,ra⟩:=h1.reads I rx
 obtain⟨bs,rb⟩:=h2.reads I ry
 exact ne_dataH ra rb s1 s2 hu ⟨.bl _,H,I,rfl,q⟩
theorem Hr:F6 X (.builtin "isinstance") (λxs H Q=>∃x n t b,xs=[x,.ty n]/\KW X.K H x t/\W.kitOne X.K t (.type n)=some b/\Q (.bl b) H):=by
 intro Fn s σ H xs us Q I r h
 obtain⟨x,n,t,b,rfl,ty,e,q⟩:=h
 obtain⟨u,w',rfl,r1,r2⟩:=vals2 r
 cases r2
 exact KR I r1 ty e λtk=>⟨.bl b,H,I.tok _,rfl,q⟩
end
structure X2 (P:Program)(w:World)(K:W.Frag)(mg:Str->Option Value)(base:Heap)(k:Nat)(x:Str)(ps:qE)(sp:Sp):Prop where
 ex:∃f fd,GV P w K mg base MO k f fd ps sp/\Binds K fd ps []/\W.keepIn K (.ref f)=true/\mg x=some (.ref f)
theorem V1 {P:Program}{w:World}{K:W.Frag}{mg:Str->Option Value}{base:Heap}{k:Nat}{ps:qE}{sp:Sp}{st:Stmt}{f:Addr}(F:K0 K x x st f fd)
  (hm:mg x=some (.ref f)) (hb:Binds K fd ps []) (G:GV P w K mg base MO k f fd ps sp):X2 P w K mg base k x ps sp:=⟨f,fd,G,hb,F.kp,hm⟩
theorem V2 {X:Cx}{k j:Nat}{ps:qE}{sp:Sp}{p pos:Pos}{e:Expr}{es:qB}{t:TA}(c:X2 X.prog X.w X.K X.mg X.base k x ps sp)(hr:F0 j X.A)(ha:PA X (e::es) t)(hle:autoParam (k<=j) r1_)(hg:autoParam (Gl X x) r0_)
  (Nl:autoParam ((x == ("__debug__" : Str))=false) r1_) (he:autoParam (starEach (e::es) X.env=(false,eval e X.env)::starEach es X.env) r0_) (IH:autoParam ((backTo pos (starEach es X.env)).any (·.1)=false) r0_):
  PE X (.Call (.Name x p) (e::es) [] pos) (Q_ sp [] E0 t):=by
 obtain⟨f,fd,G,hb,kp,hm⟩:=c.ex
 exact RP G (hr.mono hle) hg hm kp hb .nil DX ha Nl he IH
theorem bc {H:Hp}{p:Addr}(h:H p=none)(o:HO):FD H (upd H p o):=λb u q=>by rw[aO (a_ q h)];exact q
theorem FD.new {H H':Hp}{p:Addr}(s:FD H H')(h:H' p=none)(o:HO):FD H (upd H' p o):=s.trans (bc h o)
theorem oF {n:Nat}(h:n<=1000000):n < sizeLine:=jS h (by decide)
noncomputable def cT (x:Str)(lo hi:Option Int):Str:=⟨((x.cps.toList.drop (HT.ID x.length 0 lo)).take (HT.ID x.length x.length hi - HT.ID x.length 0 lo)).toArray⟩
theorem Sq (lo hi:Option Int)(n:Nat):Builtin.Str.strSliceIndices lo hi 1 n=(List.range (HT.ID n n hi - HT.ID n 0 lo)).map (HT.ID n 0 lo+·):=by
 rw[← sliceRange_one]
 unfold Builtin.Str.strSliceIndices
 have c1:=cl0 n lo 0
 have c2:=cl0 n hi n
 simp only[show (1:Int) > 0 by decide,fi] at c1 c2 ⊢
 exact congr (c5 sliceRange c1) c2▸rfl
theorem Pb (x:Str)(t:Tok)(l u:Option (Int×Tok)){Q:qk}{s:Shared}(hl:x.length<=sizeLine)
  (h:∀t' s',(s'=s\/s'={ s with toks:=s.toks+1 })->Q (.str (cT x (l.map (·.1)) (u.map (·.1))) t') s'):(sliceMade x t l u none).post Q s:=by
 unfold sliceMade slicePicked
 have e:Builtin.Str.strSliceIndices (l.map (·.1)) (u.map (·.1)) ((((none:Option (Int×Tok)).map (·.1)).getD 1)) x.length=_:=Sq (l.map (·.1)) (u.map (·.1)) x.length
 rw[e]
 have hp:=pick_run x.cps (HT.ID x.length 0 (l.map (·.1))) (HT.ID x.length x.length (u.map (·.1)) - HT.ID x.length 0 (l.map (·.1)))
 have hs:HT.ID x.length x.length (u.map (·.1))<=x.length:=HT.sIx_le _ _ (aw _) _
 have hc:x.length=x.cps.toList.length:=by rfl
 by_cases hw:((((none:Option (Int×Tok)).map (·.1)).getD 1 == 1&&((List.range (HT.ID x.length x.length (u.map (·.1)) - HT.ID x.length 0 (l.map (·.1)))).map (HT.ID x.length 0 (l.map (·.1))+·)).length == x.length)=true)
 ·rw[ba hw]
  show Q (.str x t) s
  have hn:HT.ID x.length x.length (u.map (·.1)) - HT.ID x.length 0 (l.map (·.1))=x.length:=by
   have:=(cb _ _▸hw).2
   simpa using this
  have e2:cT x (l.map (·.1)) (u.map (·.1))=x:=by
   unfold cT
   rw[hn]
   by_cases h0:x.length=0
   ·have:x.cps.toList=[]:=ls (by omega)
    cases x with | mk c=>simp at this;subst this;rfl
   ·have h1:HT.ID x.length 0 (l.map (·.1))=0:=by omega
    rw[h1,ii,hc,List.take_length]
  have:=h t s (.inl rfl)
  rw[e2] at this
  exact this
 ·rw[ax hw,hp]
  refine⟨?_,h _ _ (.inr rfl)⟩
  show ((x.cps.toList.drop _).take _).toArray.size<=sizeLine
  rw[ar,eW,dA,← hc]
  omega
section
variable {X:Cx}
def V3:V->Option Int->Option Int->Hp->VK->Prop:=λx lo hi H Q=>∃z,x=.str z/\z.length<=sizeLine/\Q (.str (cT z lo hi)) H
theorem V4:SlR X V3:=by
 intro Fn s σ H x v vl vu lo hi sl Q I rx hs pl pu h
 obtain⟨z,rfl,hz,q⟩:=h
 obtain⟨t,rfl⟩:=rx
 refine⟨"str",_,slot_str_getitem.lookup,mv s z t,?_⟩
 have part:∀{v:Value}{o:Option Int},IsPart v o->∃p:Option (Int×Tok),v=partValue p/\p.map (·.1)=o:=λp=>by
  cases p with
  | none=>exact⟨none,rfl,rfl⟩
  | int i t=>exact⟨some (i,t),rfl,rfl⟩
 obtain⟨l,rfl,rfl⟩:=part pl
 obtain⟨u,rfl,rfl⟩:=part pu
 refine wpAny_getItem_str_slice (l:=l) (u:=u) (st:=none) hs rfl (Pb z t l u hz λt' s' Mn=>?_)
 rcases Mn with rfl | rfl
 ·exact⟨.str (cT z (l.map (·.1)) (u.map (·.1))),H,I,⟨t',rfl⟩,q⟩
 ·exact⟨.str (cT z (l.map (·.1)) (u.map (·.1))),H,I.tok _,⟨t',rfl⟩,q⟩
def V5 (K:W.Frag):V->Option Int->Option Int->Hp->VK->Prop:=λx lo hi H Q=>VH K x lo hi H Q\/V3 x lo hi H Q
theorem V6:SlR X (V5 X.K):=YY.or V4
end
end Lake.L2
namespace Lake.MR
open PySem L2
inductive PV where
 | FE | bl (b:Bool) | int (i:Int) | str (x:Str)
 | lst (xs:List PV) | frz (xs:List PV) | tup (xs:List PV) | ktp (xs:List PV)
 | dK (kvs:List (Key×PV)) | dT (kvs:List (List Key×PV))
 | obj (c:Nat) (fs:List (Str×PV))
structure MC where
 K:W.Frag
 cl:Nat->Addr
mutual
inductive Rep (C:MC) (A:Addr->Prop) (H:Hp):V->PV->Prop
 | FE:Rep C A H .FE .FE
 | bl (b:Bool):Rep C A H (.bl b) (.bl b)
 | int (i:Int):Rep C A H (.int i) (.int i)
 | str (x:Str):Rep C A H (.str x) (.str x)
 | lst {a:Addr}{vs:List V}{xs:List PV}:H a=some (.lst vs)->A a->Fu C A H vs xs->Rep C A H (.ref a) (.lst xs)
 | Nw {a:Addr}{o:Obj}{vs:List V}{xs:List PV}:H a=some (.frz o (.lst vs))->Fu C A H vs xs->Rep C A H (.ref a) (.frz xs)
 | lstK {a:Addr}{vs:List V}{xs:List PV}:F8 C.K (λ_=>none) a vs->Fu C A H vs xs->Rep C A H (.ref a) (.frz xs)
 | tup {a:Addr}{vs:List V}{xs:List PV}:H a=some (.tup vs)->Fu C A H vs xs->Rep C A H (.ref a) (.tup xs)
 | MB {a:Addr}{vs:List V}{xs:List PV}:RI C.K a vs->Fu C A H vs xs->Rep C A H (.ref a) (.tup xs)
 | tupK {a:Addr}{vs:List V}{xs:List PV}:IP C.K (λ_=>none) a vs->Fu C A H vs xs->Rep C A H (.ref a) (.ktp xs)
 | dK {a:Addr}{kv:List (Key×V)}{kvs:List (Key×PV)}:H a=some (.dK kv)->A a->F9 C A H kv kvs->Rep C A H (.ref a) (.dK kvs)
 | dT {a:Addr}{kv:List (List Key×V)}{kvs:List (List Key×PV)}:H a=some (.dT kv)->A a->FY C A H kv kvs->Rep C A H (.ref a) (.dT kvs)
 | obj {a dx:Addr}{c:Nat}{f:List (Str×V)}{fs:List (Str×PV)}:H a=some (.ins (C.cl c) dx f)->A a->GY C A H f fs->Rep C A H (.ref a) (.obj c fs)
inductive Fu (C:MC) (A:Addr->Prop) (H:Hp):List V->List PV->Prop
 | nil:Fu C A H [] []
 | cons {v:V}{p:PV}{vs:List V}{ps:List PV}:Rep C A H v p->Fu C A H vs ps->Fu C A H (v::vs) (p::ps)
inductive F9 (C:MC) (A:Addr->Prop) (H:Hp):List (Key×V)->List (Key×PV)->Prop
 | nil:F9 C A H [] []
 | cons {k:Key}{v:V}{p:PV}{vs:List (Key×V)}{ps:List (Key×PV)}:Rep C A H v p->F9 C A H vs ps->F9 C A H ((k,v)::vs) ((k,p)::ps)
inductive FY (C:MC) (A:Addr->Prop) (H:Hp):List (List Key×V)->List (List Key×PV)->Prop
 | nil:FY C A H [] []
 | cons {k:List Key}{v:V}{p:PV}{vs:List (List Key×V)}{ps:List (List Key×PV)}:Rep C A H v p->FY C A H vs ps->FY C A H ((k,v)::vs) ((k,p)::ps)
inductive GY (C:MC) (A:Addr->Prop) (H:Hp):List (Str×V)->List (Str×PV)->Prop
 | nil:GY C A H [] []
 | cons {k:Str}{v:V}{p:PV}{vs:List (Str×V)}{ps:List (Str×PV)}:Rep C A H v p->GY C A H vs ps->GY C A H ((k,v)::vs) ((k,p)::ps)
end
noncomputable def zj:HO->Bool
 | .lst _=>true
 | .dK _=>true
 | .dT _=>true
 | .ins _ _ _=>true
 | _=>false
def Ex (A:Addr->Prop)(H:Hp)(A':Addr->Prop)(H':Hp):Prop:=∀a o,H a=some o->(A a->H' a=some o/\A' a)/\(zj o=false->H' a=some o)
theorem Ex.refl (A:Addr->Prop)(H:Hp):Ex A H A H:=λa o h=>⟨λq=>⟨h,q⟩,λ_=>h⟩
variable {A:Addr->Prop}{H:Hp}
theorem Ex.trans {B C:Addr->Prop}{I J:Hp}(e:Ex A H B I)(f:Ex B I C J):Ex A H C J:=λa o h=>⟨λq=>by
 obtain⟨h1,q1⟩:=(e a o h).1 q
 exact(f a o h1).1 q1,λm=>(f a o ((e a o h).2 m)).2 m⟩
theorem Ex.of_same {H':Hp}(s:FD H H'):Ex A H A H':=λa o h=>⟨λq=>⟨s a o h,q⟩,λ_=>s a o h⟩
mutual
theorem Rep.ex {C:MC}{A A':Addr->Prop}{H H':Hp}(e:Ex A H A' H'):∀{v:V}{p:PV},Rep C A H v p->Rep C A' H' v p
 | _,_,.FE=>.FE
 | _,_,.bl b=>.bl b
 | _,_,.int i=>.int i
 | _,_,.str x=>.str x
 | _,_,.lst h q r=>.lst ((e _ _ h).1 q).1 ((e _ _ h).1 q).2 (Fu.ex e r)
 | _,_,.Nw h r=>.Nw ((e _ _ h).2 rfl) (Fu.ex e r)
 | _,_,.lstK h r=>.lstK h (Fu.ex e r)
 | _,_,.tup h r=>.tup ((e _ _ h).2 rfl) (Fu.ex e r)
 | _,_,.MB h r=>.MB h (Fu.ex e r)
 | _,_,.tupK h r=>.tupK h (Fu.ex e r)
 | _,_,.dK h q r=>.dK ((e _ _ h).1 q).1 ((e _ _ h).1 q).2 (F9.ex e r)
 | _,_,.dT h q r=>.dT ((e _ _ h).1 q).1 ((e _ _ h).1 q).2 (FY.ex e r)
 | _,_,.obj h q r=>.obj ((e _ _ h).1 q).1 ((e _ _ h).1 q).2 (GY.ex e r)
theorem Fu.ex {C:MC}{A A':Addr->Prop}{H H':Hp}(e:Ex A H A' H'):∀{v:List V}{p:List PV},Fu C A H v p->Fu C A' H' v p
 | _,_,.nil=>.nil
 | _,_,.cons h t=>.cons (Rep.ex e h) (Fu.ex e t)
theorem F9.ex {C:MC}{A A':Addr->Prop}{H H':Hp}(e:Ex A H A' H'):∀{v:List (Key×V)}{p:List (Key×PV)},F9 C A H v p->F9 C A' H' v p
 | _,_,.nil=>.nil
 | _,_,.cons h t=>.cons (Rep.ex e h) (F9.ex e t)
theorem FY.ex {C:MC}{A A':Addr->Prop}{H H':Hp}(e:Ex A H A' H'):∀{v:List (List Key×V)}{p:List (List Key×PV)},FY C A H v p->FY C A' H' v p
 | _,_,.nil=>.nil
 | _,_,.cons h t=>.cons (Rep.ex e h) (FY.ex e t)
theorem GY.ex {C:MC}{A A':Addr->Prop}{H H':Hp}(e:Ex A H A' H'):∀{v:List (Str×V)}{p:List (Str×PV)},GY C A H v p->GY C A' H' v p
 | _,_,.nil=>.nil
 | _,_,.cons h t=>.cons (Rep.ex e h) (GY.ex e t)
end
theorem dC {A':Addr->Prop}(h:∀a o,H a=some o->A a->A' a):Ex A H A' H:=λa o e=>⟨λq=>⟨e,h a o e q⟩,λ_=>e⟩
theorem Fu.length {C:MC}{A:Addr->Prop}{H:Hp}:∀{vs:List V}{ps:List PV},Fu C A H vs ps->vs.length=ps.length
 | _,_,.nil=>rfl
 | _,_,.cons _ t=>by simp[Fu.length t]
theorem Fu.append {C:MC}{A:Addr->Prop}{H:Hp}:∀{vs us:List V}{ps qs:List PV},Fu C A H vs ps->Fu C A H us qs->Fu C A H (vs++us) (ps++qs)
 | _,_,_,_,.nil,h=>h
 | _,_,_,_,.cons h t,r=>.cons h (Fu.append t r)
theorem Fu.get {C:MC}{A:Addr->Prop}{H:Hp}:∀{vs:List V}{ps:List PV}{i:Nat}{p:PV},Fu C A H vs ps->ps[i]?=some p->∃v,vs[i]?=some v/\Rep C A H v p
 | _,_,_,_,.nil,e=>by simp at e
 | _,_,0,_,.cons h t,e=>by simp at e;subst e;exact⟨_,rfl,h⟩
 | _,_,i+1,p,.cons h t,e=>by
  obtain⟨v,e1,r⟩:=Fu.get (i:=i) (p:=p) t (by simpa using e)
  exact⟨v,by simpa using e1,r⟩
theorem Fu.drop {C:MC}{A:Addr->Prop}{H:Hp}:∀{vs:List V}{ps:List PV}(n:Nat),Fu C A H vs ps->Fu C A H (vs.drop n) (ps.drop n)
 | _,_,0,h=>by simpa using h
 | _,_,n+1,.nil=>by simpa using Fu.nil
 | _,_,n+1,.cons _ t=>by simpa using Fu.drop n t
theorem Fu.take {C:MC}{A:Addr->Prop}{H:Hp}:∀{vs:List V}{ps:List PV}(n:Nat),Fu C A H vs ps->Fu C A H (vs.take n) (ps.take n)
 | _,_,0,h=>by simpa using Fu.nil
 | _,_,n+1,.nil=>by simpa using Fu.nil
 | _,_,n+1,.cons h t=>by simpa using Fu.cons h (Fu.take n t)
theorem Fu.set {C:MC}{A:Addr->Prop}{H:Hp}{v:V}{p:PV}(r:Rep C A H v p):∀{vs:List V}{ps:List PV}(n:Nat),Fu C A H vs ps->Fu C A H (vs.set n v) (ps.set n p)
 | _,_,_,.nil=>.nil
 | _,_,0,.cons _ t=>.cons r t
 | _,_,n+1,.cons h t=>.cons h (Fu.set r n t)
theorem Fu.reverse {C:MC}{A:Addr->Prop}{H:Hp}:∀{vs:List V}{ps:List PV},Fu C A H vs ps->Fu C A H vs.reverse ps.reverse
 | _,_,.nil=>.nil
 | _,_,.cons h t=>by
  rw[gS,gS]
  exact(Fu.reverse t).append (.cons h .nil)
theorem w5 {C:MC}{A:Addr->Prop}{H:Hp}{α:Type}(f:α->V)(g:α->PV)(h:∀x,Rep C A H (f x) (g x)):∀l:List α,Fu C A H (l.map f) (l.map g)
 | []=>.nil
 | x::l=>.cons (h x) (w5 f g h l)
theorem F9.val {C:MC}{A:Addr->Prop}{H:Hp}{k:Key}:∀{kv:List (Key×V)}{kvs:List (Key×PV)},F9 C A H kv kvs->(∃v p,jJ kv k=some v/\(kvs.find? λx=>decide (x.1=k)).map (·.2)=some p/\Rep C A H v p)\/(jJ kv k=none/\(kvs.find? λx=>decide (x.1=k)).map (·.2)=none)
 | _,_,.nil=>.inr ⟨rfl,rfl⟩
 | _,_,.cons (k:=k') (v:=v) (p:=p) h t=>by
  by_cases e:k'=k
  ·subst e
   exact .inl ⟨v,p,qP rfl,by simp,h⟩
  ·rw[qQ e,kD (by simpa using e)]
   exact F9.val t
theorem FY.val {C:MC}{A:Addr->Prop}{H:Hp}{k:List Key}:∀{kv:List (List Key×V)}{kvs:List (List Key×PV)},FY C A H kv kvs->(∃v p,jJ kv k=some v/\(kvs.find? λx=>decide (x.1=k)).map (·.2)=some p/\Rep C A H v p)\/(jJ kv k=none/\(kvs.find? λx=>decide (x.1=k)).map (·.2)=none)
 | _,_,.nil=>.inr ⟨rfl,rfl⟩
 | _,_,.cons (k:=k') (v:=v) (p:=p) h t=>by
  by_cases e:k'=k
  ·subst e
   exact .inl ⟨v,p,qP rfl,by simp,h⟩
  ·rw[qQ e,kD (by simpa using e)]
   exact FY.val t
theorem GY.look {C:MC}{A:Addr->Prop}{H:Hp}{k:Str}{p:PV}:∀{f:List (Str×V)}{fs:List (Str×PV)},GY C A H f fs->fs.lookup k=some p->∃v,f.lookup k=some v/\Rep C A H v p
 | _,_,.nil,e=>by cases e
 | _,_,.cons (k:=k') (v:=v) (p:=p') h t,e=>by
  rw[b6] at e ⊢
  cases q:k == k' with
  | true=>rw[q] at e;cases e;exact⟨v,rfl,h⟩
  | false=>rw[q] at e;exact GY.look t e
theorem GY.S4 {C:MC}{A:Addr->Prop}{H:Hp}{k:Str}:∀{f:List (Str×V)}{fs:List (Str×PV)},GY C A H f fs->fs.lookup k=none->f.lookup k=none
 | _,_,.nil,e=>rfl
 | _,_,.cons (k:=k') (v:=v) (p:=p') h t,e=>by
  rw[b6] at e ⊢
  cases q:k == k' with
  | true=>rw[q] at e;cases e
  | false=>rw[q] at e;exact GY.S4 t e
def Top (C:MC)(A:Addr->Prop)(H:Hp)(a:Addr):PV->Prop
 | .lst xs=>∃vs,H a=some (.lst vs)/\Fu C A H vs xs
 | .dK kvs=>∃kv,H a=some (.dK kv)/\F9 C A H kv kvs
 | .dT kvs=>∃kv,H a=some (.dT kv)/\FY C A H kv kvs
 | .obj c fs=>∃dx f,H a=some (.ins (C.cl c) dx f)/\GY C A H f fs
 | _=>False
theorem Top.ex {C:MC}{A A':Addr->Prop}{H H':Hp}{a:Addr}{p:PV}(e:Ex A H A' H')(h:∀o,H a=some o->H' a=some o)(t:Top C A H a p):Top C A' H' a p:=by
 cases p with
 | lst xs=>obtain⟨vs,q,r⟩:=t;exact⟨vs,h _ q,r.ex e⟩
 | dK kvs=>obtain⟨vs,q,r⟩:=t;exact⟨vs,h _ q,r.ex e⟩
 | dT kvs=>obtain⟨vs,q,r⟩:=t;exact⟨vs,h _ q,r.ex e⟩
 | obj c fs=>obtain⟨dx,f,q,r⟩:=t;exact⟨dx,f,h _ q,r.ex e⟩
 | _=>exact t
variable {C:MC}{a:Addr}
theorem Top.live {p:PV}(t:Top C A H a p):∃o,H a=some o/\zj o=true:=by
 cases p with
 | lst xs=>obtain⟨vs,q,r⟩:=t;exact⟨_,q,rfl⟩
 | dK kvs=>obtain⟨vs,q,r⟩:=t;exact⟨_,q,rfl⟩
 | dT kvs=>obtain⟨vs,q,r⟩:=t;exact⟨_,q,rfl⟩
 | obj c fs=>obtain⟨dx,f,q,r⟩:=t;exact⟨_,q,rfl⟩
 | _=>exact t.elim
theorem Top.rep {p:PV}(t:Top C A H a p)(h:A a):Rep C A H (.ref a) p:=by
 cases p with
 | lst xs=>obtain⟨vs,q,r⟩:=t;exact .lst q h r
 | dK kvs=>obtain⟨vs,q,r⟩:=t;exact .dK q h r
 | dT kvs=>obtain⟨vs,q,r⟩:=t;exact .dT q h r
 | obj c fs=>obtain⟨dx,f,q,r⟩:=t;exact .obj q h r
 | _=>exact t.elim
def FC (C:MC)(A:Addr->Prop)(H:Hp)(v:V)(p:PV):Prop:=Rep C A H v p\/∃a,v=.ref a/\Top C A H a p
theorem FC.ex {C:MC}{A A':Addr->Prop}{H H':Hp}{v:V}{p:PV}(e:Ex A H A' H')(s:FD H H')(h:FC C A H v p):FC C A' H' v p:=by
 rcases h with h | ⟨a,q,t⟩
 ·exact .inl (h.ex e)
 ·exact .inr ⟨a,q,t.ex e λo z=>s _ _ z⟩
variable {K:W.Frag}{vs:List V}
section
variable {C:MC}{A:Addr->Prop}{H:Hp}{v:V}
theorem sqK (h:F8 K (λ_=>none) a vs):F8 K H a vs:=by
 rcases h with (h | ⟨o,h⟩) | h
 ·cases h
 ·cases h
 ·exact .inr h
theorem yw (h:IP K (λ_=>none) a vs):IP K H a vs:=by
 rcases h with (h | ⟨o,h⟩) | h
 ·cases h
 ·cases h
 ·exact .inr h
theorem FC.lst {xs:List PV}(h:FC C A H v (.lst xs)):∃a vs,v=.ref a/\H a=some (.lst vs)/\Fu C A H vs xs:=by
 rcases h with h | ⟨a,rfl,vs,q,r⟩
 ·cases h with
  | lst q _ r=>exact⟨_,_,rfl,q,r⟩
 ·exact⟨a,vs,rfl,q,r⟩
theorem FC.frz {xs:List PV}(h:FC C A H v (.frz xs)):∃a vs,v=.ref a/\F8 C.K H a vs/\Fu C A H vs xs:=by
 rcases h with h | ⟨a,rfl,t⟩
 ·cases h with
  | Nw q r=>exact⟨_,_,rfl,.inl (.inr ⟨_,q⟩),r⟩
  | lstK q r=>exact⟨_,_,rfl,sqK q,r⟩
 ·exact t.elim
def LA (K:W.Frag)(H:Hp)(a:Addr)(vs:List V):Prop:=H a=some (.tup vs)\/RI K a vs
theorem LA.sq {H:Hp}(h:LA K H a vs):IP K H a vs:=h.elim (λq=>IP.of q) d6
theorem LA.rep {C:MC}{A:Addr->Prop}{H:Hp}{xs:List PV}(h:LA C.K H a vs)(r:Fu C A H vs xs):Rep C A H (.ref a) (.tup xs):=h.elim (λq=>.tup q r) λq=>.MB q r
theorem LA.ex {A A':Addr->Prop}{H H':Hp}(h:LA K H a vs)(e:Ex A H A' H'):LA K H' a vs:=h.imp (λq=>(e _ _ q).2 rfl) id
theorem LA.up {H H':Hp}(h:LA K H a vs)(s:FD H H'):LA K H' a vs:=h.imp (λq=>s _ _ q) id
theorem LA.key {H:Hp}{ks:List Key}(h:LA K H a vs)(k:vH ks vs):IJ K H a ks:=h.imp (λq=>⟨vs,q,k⟩) λq=>⟨vs,q,k⟩
theorem FC.tup {xs:List PV}(h:FC C A H v (.tup xs)):∃a vs,v=.ref a/\LA C.K H a vs/\Fu C A H vs xs:=by
 rcases h with h | ⟨a,rfl,t⟩
 ·cases h with
  | tup q r=>exact⟨_,_,rfl,.inl q,r⟩
  | MB q r=>exact⟨_,_,rfl,.inr q,r⟩
 ·exact t.elim
theorem FC.ktp {xs:List PV}(h:FC C A H v (.ktp xs)):∃a vs,v=.ref a/\IP C.K H a vs/\Fu C A H vs xs:=by
 rcases h with h | ⟨a,rfl,t⟩
 ·cases h with
  | tupK q r=>exact⟨_,_,rfl,yw q,r⟩
 ·exact t.elim
theorem FC.dK {kvs:List (Key×PV)}(h:FC C A H v (.dK kvs)):∃a kv,v=.ref a/\H a=some (.dK kv)/\F9 C A H kv kvs:=by
 rcases h with h | ⟨a,rfl,vs,q,r⟩
 ·cases h with
  | dK q _ r=>exact⟨_,_,rfl,q,r⟩
 ·exact⟨a,vs,rfl,q,r⟩
theorem FC.dT {kvs:List (List Key×PV)}(h:FC C A H v (.dT kvs)):∃a kv,v=.ref a/\H a=some (.dT kv)/\FY C A H kv kvs:=by
 rcases h with h | ⟨a,rfl,vs,q,r⟩
 ·cases h with
  | dT q _ r=>exact⟨_,_,rfl,q,r⟩
 ·exact⟨a,vs,rfl,q,r⟩
theorem FC.obj {c:Nat}{fs:List (Str×PV)}(h:FC C A H v (.obj c fs)):∃a dx f,v=.ref a/\H a=some (.ins (C.cl c) dx f)/\GY C A H f fs:=by
 rcases h with h | ⟨a,rfl,dx,vs,q,r⟩
 ·cases h with
  | obj q _ r=>exact⟨_,_,_,rfl,q,r⟩
 ·exact⟨a,dx,vs,rfl,q,r⟩
theorem FC.int {i:Int}(h:FC C A H v (.int i)):v=.int i:=by
 rcases h with h | ⟨a,rfl,t⟩
 ·cases h;rfl
 ·exact t.elim
theorem FC.str {x:Str}(h:FC C A H v (.str x)):v=.str x:=by
 rcases h with h | ⟨a,rfl,t⟩
 ·cases h;rfl
 ·exact t.elim
theorem FC.bl {x:Bool}(h:FC C A H v (.bl x)):v=.bl x:=by
 rcases h with h | ⟨a,rfl,t⟩
 ·cases h;rfl
 ·exact t.elim
theorem FC.FE (h:FC C A H v .FE):v=.FE:=by
 rcases h with h | ⟨a,rfl,t⟩
 ·cases h;rfl
 ·exact t.elim
end
structure BX where
 C:MC
 A:Addr->Prop
 H0:Hp
 fx:Nat->Option V
noncomputable def fx0 (x:V):Nat->Option V
 | 0=>some x
 | _+1=>none
abbrev Env:=List (Option PV)
abbrev rh:=Env->Option PV
def Bs (b:BX)(Ow:Addr->Prop)(a:Addr):Prop:=¬ Ow a/\(b.A a\/b.H0 a=none)
structure ER (b:BX)(Ow:Addr->Prop)(G:qr)(σ:St)(env:Env)(H:Hp):Prop where
 len:σ.length=env.length
 same:FD b.H0 H
 live:∀a,Ow a->∃o,H a=some o
 new:∀a,Ow a->b.H0 a=none
 val:∀i p,env[i]?=some (some p)->i∉G->∃v,σ[i]?=some (some v)/\Rep b.C (Bs b Ow) H v p
 own:∀i p,env[i]?=some (some p)->i∈G->∃a,σ[i]?=some (some (.ref a))/\Ow a/\Top b.C (Bs b Ow) H a p
 sep:∀i j a p q,env[i]?=some (some p)->i∈G->σ[i]?=some (some (.ref a))->env[j]?=some (some q)->j∈G->σ[j]?=some (some (.ref a))->i=j
 fix:∀i v,b.fx i=some v->σ[i]?=some (some v)
inductive Md where | val | own | bor
def Res (b:BX)(Ow:Addr->Prop)(H H':Hp)(m:Md)(v:V)(p:PV):Prop:=match m with
 | .val=>Rep b.C (Bs b Ow) H' v p
 | .own=>∃a,v=.ref a/\H a=none/\Top b.C (λc=>Bs b Ow c/\c≠a) H' a p
 | .bor=>FC b.C (Bs b Ow) H' v p
def tM (b:BX)(G:qr)(m:Md)(f:rh):TE:=fun σ H Q=>∃Ow env p,ER b Ow G σ env H/\f env=some p/\∀v H',FD H H'->Res b Ow H H' m v p->Q v H'
def tMT (b:BX)(G:qr)(f:Env->Option Bool):TT:=fun σ H Q=>∃Ow env k,ER b Ow G σ env H/\f env=some k/\∀H',FD H H'->Q k H'
variable {v:V}
section
variable {b:BX}{Ow:Addr->Prop}{G:qr}{σ:St}{env:Env}{H H':Hp}
theorem ER.up (E:ER b Ow G σ env H)(s:FD H H'):ER b Ow G σ env H':=
 ⟨E.len,E.same.trans s,λa h=>let ⟨o,e⟩:=E.live a h;⟨o,s _ _ e⟩,E.new,λi p h n=>let ⟨v,e,r⟩:=E.val i p h n;⟨v,e,r.ex (.of_same s)⟩,
  λi p h n=>let ⟨a,e,w,t⟩:=E.own i p h n;⟨a,e,w,t.ex (.of_same s) λo z=>s _ _ z⟩,E.sep,E.fix⟩
theorem ER.fresh (E:ER b Ow G σ env H)(h:H a=none):Bs b Ow a:=
 ⟨λw=>(by obtain⟨o,e⟩:=E.live a w;rw[h] at e;cases e),.inr (E.same.free h)⟩
theorem Res.val {m:Md}{v:V}{p:PV}(E:ER b Ow G σ env H)(hm:m≠.bor)(r:Res b Ow H H' m v p):Res b Ow H H' .val v p:=by
 cases m with
 | val=>exact r
 | bor=>exact absurd rfl hm
 | own=>
  obtain⟨a,rfl,h,t⟩:=r
  have hw:Ex (λc=>Bs b Ow c/\c≠a) H' (Bs b Ow) H':=dC λ_ _ _ z=>z.1
  exact(t.ex hw λo z=>z).rep (E.fresh h)
theorem Res.bor {m:Md}{v:V}{p:PV}(r:Res b Ow H H' m v p):Res b Ow H H' .bor v p:=by
 cases m with
 | val=>exact .inl r
 | bor=>exact r
 | own=>
  obtain⟨a,rfl,h,t⟩:=r
  have hw:Ex (λc=>Bs b Ow c/\c≠a) H' (Bs b Ow) H':=dC λ_ _ _ z=>z.1
  exact .inr ⟨a,rfl,t.ex hw λo z=>z⟩
theorem Res.up {m:Md}{p:PV}{RY:Hp}(r:Res b Ow H H' m v p)(s:FD H' RY):Res b Ow H RY m v p:=by
 cases m with
 | val=>exact Rep.ex (.of_same s) r
 | bor=>exact FC.ex (.of_same s) s r
 | own=>
  obtain⟨a,e,h,t⟩:=r
  exact⟨a,e,h,t.ex (.of_same s) λo z=>s _ _ z⟩
theorem Res.down {m:Md}{p:PV}{RY:Hp}(s:FD H H')(r:Res b Ow H' RY m v p):Res b Ow H RY m v p:=by
 cases m with
 | val=>exact r
 | bor=>exact r
 | own=>
  obtain⟨a,e,h,t⟩:=r
  exact⟨a,e,s.free h,t⟩
end
variable {X:Cx}
theorem PE.imp {e:Expr}{t u:TE}(h:PE X e t)(i:∀ σ H Q,u σ H Q->t σ H Q):PE X e u:=λFn s σ H Q I q=>h Fn s σ H Q I (i σ H Q q)
theorem PT.imp {e:Expr}{t u:TT}(h:PT X e t)(i:∀ σ H Q,u σ H Q->t σ H Q):PT X e u:=λFn s σ H Q I q=>h Fn s σ H Q I (i σ H Q q)
theorem PS.imp {e:Stmt}{t u:TS}(h:PS X e t)(i:∀D σ H,u D σ H->t D σ H):PS X e u:=λFn s σ H D I q=>h Fn s σ H D I (i D σ H q)
theorem PE.or {e:Expr}{t u:TE}(h:PE X e t)(h':PE X e u):PE X e (fun σ H Q=>t σ H Q\/u σ H Q):=λFn s σ H Q I q=>q.elim (h Fn s σ H Q I) (h' Fn s σ H Q I)
theorem G0.or {op:Value->Value->Sem Value}{r r':R2}(h:G0 X op r)(h':G0 X op r'):G0 X op (λx y H Q=>r x y H Q\/r' x y H Q):=λFn s σ H x y v u Q I rx ry q=>q.elim (h Fn s σ H x y v u Q I rx ry) (h' Fn s σ H x y v u Q I rx ry)
abbrev SE (X:Cx)(b:BX)(G:qr)(m:Md)(e:Expr)(f:rh):Prop:=PE X e (tM b G m f)
abbrev ST (X:Cx)(b:BX)(G:qr)(e:Expr)(f:Env->Option Bool):Prop:=PT X e (tMT b G f)
theorem SE.bor {X:Cx}{b:BX}{G:qr}{m:Md}{e:Expr}{f:rh}(h:SE X b G m e f):SE X b G .bor e f:=
 PE.imp h fun σ H Q ⟨Ow,env,p,E,hf,k⟩=>⟨Ow,env,p,E,hf,λv H' s r=>k v H' s r.bor⟩
theorem SE.val {X:Cx}{b:BX}{G:qr}{e:Expr}{f:rh}(h:SE X b G .own e f):SE X b G .val e f:=
 PE.imp h fun σ H Q ⟨Ow,env,p,E,hf,k⟩=>⟨Ow,env,p,E,hf,λv H' s r=>k v H' s (r.val E (by intro z;cases z))⟩
noncomputable def bC (p:PV)(env:Env):Option PV:=some p
@[simp] theorem D_ (p:PV)(env:Env):bC p env=(some p):=id rfl
noncomputable def bV (i:Nat)(env:Env):Option PV:=match env[i]? with | some o=>o | none=>none
@[simp] theorem aar (i:Nat)(env:Env):bV i env=(match env[i]? with | some o=>o | none=>none):=id rfl
noncomputable def b1 (g:PV->Option PV)(f:rh)(env:Env):Option PV:=(f env).bind g
@[simp] theorem Js (g:PV->Option PV)(f:rh)(env:Env):b1 g f env=((f env).bind g):=id rfl
noncomputable def b2 (g:PV->PV->Option PV)(f h:rh)(env:Env):Option PV:=(f env).bind λx=>(h env).bind λy=>g x y
@[simp] theorem uJ (g:PV->PV->Option PV)(f h:rh)(env:Env):b2 g f h env=((f env).bind λx=>(h env).bind λy=>g x y):=id rfl
noncomputable def b3 (g:PV->PV->PV->Option PV)(f h k:rh)(env:Env):Option PV:=(f env).bind λx=>(h env).bind λy=>(k env).bind λz=>g x y z
@[simp] theorem aas (g:PV->PV->PV->Option PV)(f h k:rh)(env:Env):b3 g f h k env=((f env).bind λx=>(h env).bind λy=>(k env).bind λz=>g x y z):=id rfl
noncomputable def gn (f g:rh)(env:Env):Option PV:=(f env).bind λx=>match x with | .bl true=>g env | .bl false=>some (.bl false) | _=>none
@[simp] theorem Am (f g:rh)(env:Env):gn f g env=((f env).bind λx=>match x with | .bl true=>g env | .bl false=>some (.bl false) | _=>none):=id rfl
noncomputable def bOr (f g:rh)(env:Env):Option PV:=(f env).bind λx=>match x with | .bl true=>some (.bl true) | .bl false=>g env | _=>none
@[simp] theorem aaa (f g:rh)(env:Env):bOr f g env=((f env).bind λx=>match x with | .bl true=>some (.bl true) | .bl false=>g env | _=>none):=id rfl
noncomputable def bIf (c:Env->Option Bool)(f g:rh)(env:Env):Option PV:=(c env).bind λx=>if x=true then f env else g env
@[simp] theorem aab (c:Env->Option Bool)(f g:rh)(env:Env):bIf c f g env=((c env).bind λx=>if x=true then f env else g env):=id rfl
noncomputable def tV (f:rh)(env:Env):Option Bool:=(f env).bind λx=>match x with | .bl c=>some c | _=>none
@[simp] theorem Yi (f:rh)(env:Env):tV f env=((f env).bind λx=>match x with | .bl c=>some c | _=>none):=id rfl
noncomputable def tA (f g:Env->Option Bool)(env:Env):Option Bool:=(f env).bind λx=>if x=true then g env else some false
@[simp] theorem aat (f g:Env->Option Bool)(env:Env):tA f g env=((f env).bind λx=>if x=true then g env else some false):=id rfl
noncomputable def tO (f g:Env->Option Bool)(env:Env):Option Bool:=(f env).bind λx=>if x=true then some true else g env
@[simp] theorem Yj (f g:Env->Option Bool)(env:Env):tO f g env=((f env).bind λx=>if x=true then some true else g env):=id rfl
noncomputable def tN (f:Env->Option Bool)(env:Env):Option Bool:=(f env).bind λx=>some (!x)
@[simp] theorem aau (f:Env->Option Bool)(env:Env):tN f env=((f env).bind λx=>some (!x)):=id rfl
noncomputable def aB (env:Env):Option (List PV):=some []
@[simp] theorem ZV (env:Env):aB env=(some []):=id rfl
noncomputable def ak (f:rh)(g:Env->Option (List PV))(env:Env):Option (List PV):=(f env).bind λx=>(g env).bind λxs=>some (x::xs)
abbrev Fh (n:Int):=bC (.int n)
abbrev Fm (i:Nat):=ak (bV i)
@[simp] theorem Zt (f:rh)(g:Env->Option (List PV))(env:Env):ak f g env=((f env).bind λx=>(g env).bind λxs=>some (x::xs)):=id rfl
noncomputable def bD (g:Env->Option (List PV))(env:Env):Option PV:=(g env).bind λxs=>if xs.length<=1000000 then some (.lst xs) else none
@[simp] theorem ZW (g:Env->Option (List PV))(env:Env):bD g env=((g env).bind λxs=>if xs.length<=1000000 then some (.lst xs) else none):=id rfl
noncomputable def cB (g:Env->Option (List PV))(env:Env):Option PV:=(g env).bind λxs=>if xs.length<=1000000 then some (.tup xs) else none
@[simp] theorem ZX (g:Env->Option (List PV))(env:Env):cB g env=((g env).bind λxs=>if xs.length<=1000000 then some (.tup xs) else none):=id rfl
noncomputable def aH (m:List PV->Option PV)(g:Env->Option (List PV))(env:Env):Option PV:=(g env).bind m
variable {g:PV->PV->Option PV}
@[simp] theorem Ff (m:List PV->Option PV)(g:Env->Option (List PV))(env:Env):aH m g env=((g env).bind m):=id rfl
section
variable {b:BX}{G:qr}{m:Md}{σ:St}{H:Hp}{Q:VK}
def MD (b:BX)(m:Md)(r:R2)(g:PV->PV->Option PV):Prop:=∀(Ow:Addr->Prop) (H:Hp) (v1 v2:V) (p1 p2 p:PV) (Q:VK),(∀a,H a=none->Bs b Ow a)->FC b.C (Bs b Ow) H v1 p1->FC b.C (Bs b Ow) H v2 p2->g p1 p2=some p->
 (∀v H',FD H H'->Res b Ow H H' m v p->Q v H')->r v1 v2 H Q
theorem Jt {r:R2}{f1 f2:rh}(hr:MD b m r g)(h:tM b G m (b2 g f1 f2) σ H Q):tOp r (tM b G .bor f1) (tM b G .bor f2) σ H Q:=by
 obtain⟨Ow,env,p,E,hf,k⟩:=h
 unfold b2 at hf
 cases h1:f1 env with
 | none=>rw[h1] at hf;cases hf
 | some p1=>
  rw[h1] at hf
  cases h2:f2 env with
  | none=>rw[h2] at hf;cases hf
  | some p2=>
   rw[h2] at hf
   exact⟨Ow,env,p1,E,h1,λv1 H1 s1 r1=>⟨Ow,env,p2,E.up s1,h2,λv2 H2 s2 r2=>hr Ow H2 v1 v2 p1 p2 p Q (λa=>(E.up (s1.trans s2)).fresh) (r1.up s2) r2 hf λv H' s r=>k v H' (s1.trans (s2.trans s)) (r.down (s1.trans s2))⟩⟩
def Op1 (b:BX)(m:Md)(r:V->Hp->VK->Prop)(g:PV->Option PV):Prop:=∀(Ow:Addr->Prop) (H:Hp) (v1:V) (p1 p:PV) (Q:VK),(∀a,H a=none->Bs b Ow a)->FC b.C (Bs b Ow) H v1 p1->g p1=some p->
 (∀v H',FD H H'->Res b Ow H H' m v p->Q v H')->r v1 H Q
theorem Ju {r:V->Hp->VK->Prop}{g:PV->Option PV}{f1:rh}(hr:Op1 b m r g)(h:tM b G m (b1 g f1) σ H Q):tM b G .bor f1 σ H λx H1=>r x H1 Q:=by
 obtain⟨Ow,env,p,E,hf,k⟩:=h
 unfold b1 at hf
 cases h1:f1 env with
 | none=>rw[h1] at hf;cases hf
 | some p1=>
  rw[h1] at hf
  exact⟨Ow,env,p1,E,h1,λv1 H1 s1 r1=>hr Ow H1 v1 p1 p Q (λa=>(E.up s1).fresh) r1 hf λv H' s r=>k v H' (s1.trans s) (r.down s1)⟩
end
@[simp] noncomputable def cg:PV->PV->Option PV
 | .int i,.int j=>some (.int (i+j))
 | .str x,.str y=>if x.length+y.length<=1000000 then some (.str (x++y)) else none
 | .lst xs,.lst ys=>if xs.length+ys.length<=1000000 then some (.lst (xs++ys)) else none
 | _,_=>none
@[simp] noncomputable def uK:PV->PV->Option PV
 | .lst xs,.lst ys=>if xs.length+ys.length<=1000000 then some (.lst (xs++ys)) else none
 | _,_=>none
noncomputable def V7:PV->PV->Option PV
 | .tup xs,.tup ys=>if xs≠[]/\xs.length+ys.length<=1000000 then some (.tup (xs++ys)) else none
 | _,_=>none
@[simp] noncomputable def OQ:PV->PV->Option PV
 | .int i,.int j=>some (.int (i - j))
 | _,_=>none
noncomputable def Oy (i:Int):Bool:=@decide (-18446744073709551616 < i/\i < 18446744073709551616) (Classical.propDecidable _)
@[simp] noncomputable def mC:PV->PV->Option PV
 | .int i,.int j=>if (Oy i||Oy j)=true then some (.int (i*j)) else none
 | _,_=>none
@[simp] noncomputable def fH:PV->PV->Option PV
 | .int i,.int j=>if 0 < j/\j < 1073741824 then some (.int (i / j)) else none
 | _,_=>none
@[simp] noncomputable def cU:PV->PV->Option PV
 | .int i,.int j=>if 0 < j then some (.int (i % j)) else none
 | _,_=>none
@[simp] noncomputable def Jv:PV->PV->Option PV
 | .int i,.int j=>if 0<=j/\j<=1000000/\i.natAbs < 2 ^ 64 then some (.int (i ^ j.toNat)) else none
 | _,_=>none
@[simp] noncomputable def gq (g:Int->Int->Bool):PV->PV->Option PV
 | .int i,.int j=>some (.bl (g i j))
 | _,_=>none
theorem ig {n:Nat}(h:n<=1000000):n<=sizeLine:=kx (oF h)
section
variable {b:BX}
theorem Ss {g:Int->Int->Int}{f:PV->PV->Option PV}(hf:∀x y p,f x y=some p->∃i j,x=.int i/\y=.int j/\p=.int (g i j)):MD b .val (RO λi j=>.int (g i j)) f:=by
 intro Ow H v1 v2 p1 p2 p Q hn r1 r2 e k
 obtain⟨i,j,rfl,rfl,rfl⟩:=hf _ _ _ e
 rw[r1.int,r2.int]
 exact⟨i,j,rfl,rfl,k _ H (FD.refl _) (.int _)⟩
theorem Lf {g:Int->Int->Bool}:MD b .val (RO λi j=>.bl (g i j)) (gq g):=by
 intro Ow H v1 v2 p1 p2 p Q hn r1 r2 e k
 unfold gq at e
 split at e
 ·cases e
  rw[r1.int,r2.int]
  exact⟨_,_,rfl,rfl,k _ H (FD.refl _) (.bl _)⟩
 ·cases e
theorem V8:MD b .val (RO λi j=>.int (i - j)) OQ:=Ss λx y p e=>by
 unfold OQ at e
 split at e
 ·cases e;exact⟨_,_,rfl,rfl,rfl⟩
 ·cases e
theorem V9:MD b .val (rI YN λi j=>.int (i*j)) mC:=by
 intro Ow H v1 v2 p1 p2 p Q hn r1 r2 e k
 unfold mC at e
 split at e
 ·split at e
  ·rename_i h
   cases e
   rw[r1.int,r2.int]
   refine⟨_,_,rfl,rfl,?_,k _ H (FD.refl _) (.int _)⟩
   simp only[Oy,Bool.or_eq_true,gX] at h
   exact h
  ·cases e
 ·cases e
theorem dW {i:Int}(h:-18446744073709551616 < i)(h':i < 18446744073709551616):Oy i=true:=@bS _ (Classical.propDecidable _) ⟨h,h'⟩
theorem V_:MD b .val (rI Vb λi j=>.int (i / j)) fH:=by
 intro Ow H v1 v2 p1 p2 p Q hn r1 r2 e k
 unfold fH at e
 split at e
 ·split at e
  ·rename_i h
   cases e
   rw[r1.int,r2.int]
   exact⟨_,_,rfl,rfl,h,k _ H (FD.refl _) (.int _)⟩
  ·cases e
 ·cases e
theorem Wa:MD b .val (rI (λ_ j=>0 < j) λi j=>.int (i % j)) cU:=by
 intro Ow H v1 v2 p1 p2 p Q hn r1 r2 e k
 unfold cU at e
 split at e
 ·split at e
  ·rename_i h
   cases e
   rw[r1.int,r2.int]
   exact⟨_,_,rfl,rfl,h,k _ H (FD.refl _) (.int _)⟩
  ·cases e
 ·cases e
theorem Wb:MD b .val (rI Vc λi j=>.int (i ^ j.toNat)) Jv:=by
 intro Ow H v1 v2 p1 p2 p Q hn r1 r2 e k
 unfold Jv at e
 split at e
 ·split at e
  ·rename_i h
   cases e
   rw[r1.int,r2.int]
   exact⟨_,_,rfl,rfl,h,k _ H (FD.refl _) (.int _)⟩
  ·cases e
 ·cases e
end
variable {Ow:Addr->Prop}
theorem fP {b:BX}{xs:List PV}(h:H a=none)(r:Fu b.C (Bs b Ow) H vs xs):Res b Ow H (upd H a (.lst vs)) .own (.ref a) (.lst xs):=by
 refine⟨a,rfl,h,vs,bu,r.ex λc o e=>?_⟩
 have hc:c≠a:=a_ e h
 exact⟨λq=>⟨by rw[aO hc];exact e,q,hc⟩,λ_=>by rw[aO hc];exact e⟩
theorem w6 {b:BX}{H0:Hp}{xs:List PV}(h:H a=none)(r:Fu b.C (Bs b Ow) H vs xs):Res b Ow H0 (upd H a (.tup vs)) .val (.ref a) (.tup xs):=
 Rep.tup bu (r.ex (.of_same (bc h _)))
section
variable {b:BX}
theorem Wc:MD b .val (λx y H Q=>(RO (λi j=>.int (i+j)) x y H Q\/∃i j,x=.str i/\y=.str j/\i.length+j.length<=sizeLine/\Q (.str (i++j)) H)\/O4 x y H Q) cg:=by
 intro Ow H v1 v2 p1 p2 p Q hn r1 r2 e k
 unfold cg at e
 split at e
 ·cases e
  rw[r1.int,r2.int]
  exact .inl (.inl ⟨_,_,rfl,rfl,k _ H (FD.refl _) (.int _)⟩)
 ·split at e
  ·rename_i h
   cases e
   rw[r1.str,r2.str]
   exact .inl (.inr ⟨_,_,rfl,rfl,ig h,k _ H (FD.refl _) (.str _)⟩)
  ·cases e
 ·split at e
  ·rename_i h
   cases e
   obtain⟨a,vs,rfl,ha,ra⟩:=r1.lst
   obtain⟨c,us,rfl,hc,rc⟩:=r2.lst
   exact .inr ⟨a,c,vs,us,rfl,rfl,ha,hc,ig (by rw[ra.length,rc.length];exact h),λq hq=>k _ _ (bc hq _) (.lst bu (hn q hq) ((ra.append rc).ex (.of_same (bc hq _))))⟩
  ·cases e
 ·cases e
theorem Wd:MD b .own O4 uK:=by
 intro Ow H v1 v2 p1 p2 p Q hn r1 r2 e k
 unfold uK at e
 split at e
 ·split at e
  ·rename_i h
   cases e
   obtain⟨a,vs,rfl,ha,ra⟩:=r1.lst
   obtain⟨c,us,rfl,hc,rc⟩:=r2.lst
   refine⟨a,c,vs,us,rfl,rfl,ha,hc,ig (by rw[ra.length,rc.length];exact h),λq hq=>k _ _ (bc hq _) (fP hq (ra.append rc))⟩
  ·cases e
 ·cases e
theorem Su:MD b .val (za b.C.K) V7:=by
 intro Ow H v1 v2 p1 p2 p Q hn r1 r2 e k
 unfold V7 at e
 split at e
 ·split at e
  ·rename_i h
   cases e
   obtain⟨a,vs,rfl,ha,ra⟩:=r1.tup
   obtain⟨c,us,rfl,hc,rc⟩:=r2.tup
   refine⟨a,c,vs,us,rfl,rfl,ha.sq,hc.sq,?_,ig (by rw[ra.length,rc.length];exact h.2),λhu=>?_,λ_ q hq=>k _ _ (bc hq _) (w6 hq (ra.append rc))⟩
   rotate_left
   ·subst hu
    cases rc
    rw[bp] at k
    exact k _ H (FD.refl _) (ha.rep ra)
   intro z
   have:=ra.length
   rw[z] at this
   exact h.1 (kg.mp this.symm)
  ·cases e
 ·cases e
end
variable {env:Env}{x:Str}
section
variable {X:Cx}{b:BX}{G:qr}{m:Md}{e e1 e2:Expr}{f f1 f2:rh}{pos:Pos}
theorem ao {i j pos}:SE X b G .val (.Constant (.int i) j pos) (Fh i):=PE.imp Ux<|by rintro σ H Q ⟨Ow,env,p,E,hf,k⟩;cases hf;exact k _ H (FD.refl _) (.int i)
theorem gZ {i j pos}:SE X b G .val (.Constant (.bool i) j pos) (bC (.bl i)):=PE.imp Xz<|by rintro σ H Q ⟨Ow,env,p,E,hf,k⟩;cases hf;exact k _ H (FD.refl _) (.bl i)
theorem aJ {i j pos}:SE X b G .val (.Constant (.str i) j pos) (bC (.str i)):=PE.imp Uz<|by rintro σ H Q ⟨Ow,env,p,E,hf,k⟩;cases hf;exact k _ H (FD.refl _) (.str i)
theorem cO {j pos}:SE X b G .val (.Constant .none j pos) (bC .FE):=PE.imp Uy<|by rintro σ H Q ⟨Ow,env,p,E,hf,k⟩;cases hf;exact k _ H (FD.refl _) .FE
theorem eF {i:Nat}{p:PV}(h:bV i env=some p):env[i]?=some (some p):=by
 unfold bV at h
 split at h
 ·rename_i o e;rw[e,h]
 ·cases h
theorem aj (i:Nat){pos:Pos}(hN:autoParam (X.N[i]?=some x) r0_)(hv:autoParam (Sn X.env.scope x) r5_)(hG:autoParam (i∉G) r1_)(hd:autoParam ((x == ("__debug__" : Str))=false) r1_)
  (LH:autoParam ((x == ("__classdict__" : Str))=false) r1_):SE X b G .val (.Name x pos) (bV i):=PE.imp (k_ hN hv hd LH)<|by
 rintro σ H Q ⟨Ow,env,p,E,hf,k⟩
 obtain⟨v,e,r⟩:=E.val i p (eF hf) hG
 exact⟨v,e,k v H (FD.refl _) r⟩
theorem lK (i:Nat){pos:Pos}(hN:autoParam (X.N[i]?=some x) r0_)(hv:autoParam (Sn X.env.scope x) r5_)(hd:autoParam ((x == ("__debug__" : Str))=false) r1_)
  (LH:autoParam ((x == ("__classdict__" : Str))=false) r1_):SE X b G .bor (.Name x pos) (bV i):=PE.imp (k_ hN hv hd LH)<|by
 rintro σ H Q ⟨Ow,env,p,E,hf,k⟩
 by_cases hG:i∈G
 ·obtain⟨a,e,_,t⟩:=E.own i p (eF hf) hG
  exact⟨_,e,k _ H (FD.refl _) (.inr ⟨a,rfl,t⟩)⟩
 ·obtain⟨v,e,r⟩:=E.val i p (eF hf) hG
  exact⟨v,e,k v H (FD.refl _) (.inl r)⟩
theorem Yk {z:Str}{t:Tok}{pos:Pos}(hm:X.mg x=some (.str z t))(hg:autoParam (Gl X x) r0_)(hd:autoParam ((x == ("__debug__" : Str))=false) r1_):SE X b G .val (.Name x pos) (bC (.str z)):=
 PE.imp (Ag hg hm (v:=.str z) ⟨_,rfl⟩ hd)<|by rintro σ H Q ⟨Ow,env,p,E,hf,k⟩;cases hf;exact k _ H (FD.refl _) (.str z)
theorem Jw {i:Int}{t:Tok}{pos:Pos}(hm:X.mg x=some (.int i t))(hg:autoParam (Gl X x) r0_)(hd:autoParam ((x == ("__debug__" : Str))=false) r1_):SE X b G .val (.Name x pos) (Fh i):=
 PE.imp (Ag hg hm (v:=.int i) ⟨_,rfl⟩ hd)<|by rintro σ H Q ⟨Ow,env,p,E,hf,k⟩;cases hf;exact k _ H (FD.refl _) (.int i)
theorem Jx {q:PV}{pos:Pos}(hm:X.mg x=some (.ref a))(hr:∀A H,Rep b.C A H (.ref a) q)(hg:autoParam (Gl X x) r0_)(hd:autoParam ((x == ("__debug__" : Str))=false) r1_):SE X b G .val (.Name x pos) (bC q):=
 PE.imp (Ag hg hm (v:=.ref a) rfl hd)<|by rintro σ H Q ⟨Ow,env,p,E,hf,k⟩;cases hf;exact k _ H (FD.refl _) (hr _ _)
theorem qm {op:Operator}{r:R2}(ho:G0 X (binaryOp op) r)(hr:MD b m r g){m1 m2:Md}(h1:SE X b G m1 e1 f1)(h2:SE X b G m2 e2 f2):SE X b G m (.BinOp e1 op e2 pos) (b2 g f1 f2):=
 PE.imp (XS ho h1.bor h2.bor) fun σ H Q h=>Jt hr h
theorem bF {m1 m2:Md}(h1:SE X b G m1 e1 f1)(h2:SE X b G m2 e2 f2):SE X b G .val (.BinOp e1 .Add e2 pos) (b2 cg f1 f2):=qm (G0.or (G0.or Vd Jj) K9) Wc h1 h2
theorem ul {m1 m2:Md}(h1:SE X b G m1 e1 f1)(h2:SE X b G m2 e2 f2):SE X b G .own (.BinOp e1 .Add e2 pos) (b2 uK f1 f2):=qm K9 Wd h1 h2
theorem Fg {m1 m2:Md}(h1:SE X b G m1 e1 f1)(h2:SE X b G m2 e2 f2):SE X b G .val (.BinOp e1 .Sub e2 pos) (b2 OQ f1 f2):=qm Ve V8 h1 h2
theorem jL {m1 m2:Md}(h1:SE X b G m1 e1 f1)(h2:SE X b G m2 e2 f2):SE X b G .val (.BinOp e1 .Mult e2 pos) (b2 mC f1 f2):=qm Vf V9 h1 h2
theorem e_ {m1 m2:Md}(h1:SE X b G m1 e1 f1)(h2:SE X b G m2 e2 f2):SE X b G .val (.BinOp e1 .FloorDiv e2 pos) (b2 fH f1 f2):=qm RD V_ h1 h2
theorem cG {m1 m2:Md}(h1:SE X b G m1 e1 f1)(h2:SE X b G m2 e2 f2):SE X b G .val (.BinOp e1 .Mod e2 pos) (b2 cU f1 f2):=qm Vg Wa h1 h2
theorem We {m1 m2:Md}(h1:SE X b G m1 e1 f1)(h2:SE X b G m2 e2 f2):SE X b G .val (.BinOp e1 .Pow e2 pos) (b2 Jv f1 f2):=qm Vh Wb h1 h2
end
@[simp] noncomputable def eqS:PV->PV->Option Bool
 | .FE,.FE=>some true
 | .FE,.int _=>some false | .int _,.FE=>some false | .FE,.bl _=>some false | .bl _,.FE=>some false | .FE,.str _=>some false | .str _,.FE=>some false
 | .int i,.int j=>some (decide (i=j))
 | .bl i,.bl j=>some (decide (i=j))
 | .str i,.str j=>some (decide (i=j))
 | .int _,.str _=>some false | .str _,.int _=>some false | .bl _,.str _=>some false | .str _,.bl _=>some false
 | _,_=>none
mutual
noncomputable def toD:PV->Option PyData
 | .FE=>some .none
 | .bl b=>some (.bool b)
 | .int i=>some (.int i)
 | .str x=>some (.str x)
 | .lst xs=>(gw xs).map .list
 | .frz xs=>(gw xs).map .list
 | .tup xs=>(gw xs).map .tuple
 | .ktp xs=>(gw xs).map .tuple
 | _=>none
noncomputable def gw:List PV->Option (List PyData)
 | []=>some []
 | x::xs=>match toD x,gw xs with
  | some d,some ds=>some (d::ds)
  | _,_=>none
end
noncomputable def eqD (x y:PV):Option Bool:=match toD x,toD y with
 | some d,some e=>if SeqAt.shaped d=true/\SeqAt.shaped e=true then some (PyData.eqv d e) else none
 | _,_=>none
noncomputable def OR (x y:PV):Option Bool:=match eqS x y with
 | some k=>some k
 | none=>eqD x y
noncomputable def eqQ (x y:PV):Option PV:=(OR x y).map .bl
@[simp] theorem Lg (x y:PV):eqQ x y=((OR x y).map .bl):=id rfl
noncomputable def OS (x y:PV):Option PV:=(OR x y).map λk=>.bl (!k)
@[simp] theorem aac (x y:PV):OS x y=((OR x y).map λk=>.bl (!k)):=id rfl
mutual
theorem Rep.dt {C:MC}{A:Addr->Prop}{H:Hp}:∀{v:V}{p:PV}{d:PyData},Rep C A H v p->toD p=some d->Dt C.K H v d
 | _,_,_,.FE,e=>by simp only[toD] at e;cases e;exact .FE
 | _,_,_,.bl b,e=>by simp only[toD] at e;cases e;exact .bl b
 | _,_,_,.int b,e=>by simp only[toD] at e;cases e;exact .int b
 | _,_,_,.str b,e=>by simp only[toD] at e;cases e;exact .str b
 | _,_,_,.lst (xs:=xs) h _ r,e=>by
  simp only[toD] at e
  cases q:gw xs with
  | none=>rw[q] at e;cases e
  | some ds=>rw[q] at e;cases e;exact .lst (F8.of h) (Fu.dt r q)
 | _,_,_,.Nw (xs:=xs) h r,e=>by
  simp only[toD] at e
  cases q:gw xs with
  | none=>rw[q] at e;cases e
  | some ds=>rw[q] at e;cases e;exact .lst (.inl (.inr ⟨_,h⟩)) (Fu.dt r q)
 | _,_,_,.lstK (xs:=xs) h r,e=>by
  simp only[toD] at e
  cases q:gw xs with
  | none=>rw[q] at e;cases e
  | some ds=>rw[q] at e;cases e;exact .lst (sqK h) (Fu.dt r q)
 | _,_,_,.tup (xs:=xs) h r,e=>by
  simp only[toD] at e
  cases q:gw xs with
  | none=>rw[q] at e;cases e
  | some ds=>rw[q] at e;cases e;exact .tup (IP.of h) (Fu.dt r q)
 | _,_,_,.MB (xs:=xs) h r,e=>by
  simp only[toD] at e
  cases q:gw xs with
  | none=>rw[q] at e;cases e
  | some ds=>rw[q] at e;cases e;exact .tup (.inr h) (Fu.dt r q)
 | _,_,_,.tupK (xs:=xs) h r,e=>by
  simp only[toD] at e
  cases q:gw xs with
  | none=>rw[q] at e;cases e
  | some ds=>rw[q] at e;cases e;exact .tup (yw h) (Fu.dt r q)
 | _,_,_,.dK h _ r,e=>by simp only[toD] at e;cases e
 | _,_,_,.dT h _ r,e=>by simp only[toD] at e;cases e
 | _,_,_,.obj h _ r,e=>by simp only[toD] at e;cases e
theorem Fu.dt {C:MC}{A:Addr->Prop}{H:Hp}:∀{v:List V}{p:List PV}{d:List PyData},Fu C A H v p->gw p=some d->S3 C.K H v d
 | _,_,_,.nil,e=>by simp only[gw] at e;cases e;exact .nil
 | _,_,_,.cons (p:=p) (ps:=ps) h t,e=>by
  simp only[gw] at e
  cases q:toD p with
  | none=>rw[q] at e;cases e
  | some d=>
   cases q2:gw ps with
   | none=>rw[q,q2] at e;cases e
   | some ds=>rw[q,q2] at e;cases e;exact .cons (Rep.dt h q) (Fu.dt t q2)
end
theorem FC.dt {C:MC}{A:Addr->Prop}{H:Hp}{v:V}{p:PV}{d:PyData}(h:FC C A H v p)(e:toD p=some d):Dt C.K H v d:=by
 rcases h with h | ⟨a,rfl,t⟩
 ·exact h.dt e
 ·cases p with
  | lst xs=>
   obtain⟨vs,q,r⟩:=t
   exact(Rep.lst (A:=λ_=>True) q eS (r.ex (dC λ_ _ _ _=>eS))).dt e
  | dK kvs=>simp only[toD] at e;cases e
  | dT kvs=>simp only[toD] at e;cases e
  | obj c fs=>simp only[toD] at e;cases e
  | _=>exact t.elim
theorem Fi {u:V}{p q:PV}{k:Bool}(h:FC C A H v p)(h':FC C A H u q)(e:eqS p q=some k):Oh v u=true/\decide (v=u)=k:=by
 unfold eqS at e
 split at e <;> first | cases e | skip
 ·rw[h.FE,h'.FE];exact⟨rfl,rfl⟩
 ·rw[h.FE,h'.int];exact⟨rfl,rfl⟩
 ·rw[h.int,h'.FE];exact⟨rfl,rfl⟩
 ·rw[h.FE,h'.bl];exact⟨rfl,rfl⟩
 ·rw[h.bl,h'.FE];exact⟨rfl,rfl⟩
 ·rw[h.FE,h'.str];exact⟨rfl,rfl⟩
 ·rw[h.str,h'.FE];exact⟨rfl,rfl⟩
 ·rw[h.int,h'.int];exact⟨rfl,by simp⟩
 ·rw[h.bl,h'.bl];exact⟨rfl,by simp⟩
 ·rw[h.str,h'.str];exact⟨rfl,by simp⟩
 ·rw[h.int,h'.str];exact⟨rfl,rfl⟩
 ·rw[h.str,h'.int];exact⟨rfl,rfl⟩
 ·rw[h.bl,h'.str];exact⟨rfl,rfl⟩
 ·rw[h.str,h'.bl];exact⟨rfl,rfl⟩
def Wf (K:W.Frag):R2:=λx y H Q=>rEq x y H Q\/∃d e,Dt K H x d/\Dt K H y e/\SeqAt.shaped d=true/\SeqAt.shaped e=true/\Q (.bl (PyData.eqv d e)) H
def Wg (K:W.Frag):R2:=λx y H Q=>rNe x y H Q\/∃d e,Dt K H x d/\Dt K H y e/\SeqAt.shaped d=true/\SeqAt.shaped e=true/\Q (.bl (!PyData.eqv d e)) H
section
variable {b:BX}
theorem Yl:MD b .val (Wf b.C.K) eqQ:=by
 intro Ow H v1 v2 p1 p2 p Q hn r1 r2 e k
 unfold eqQ OR at e
 cases q:eqS p1 p2 with
 | some c=>
  rw[q] at e
  cases e
  obtain⟨h1,h2⟩:=Fi r1 r2 q
  exact .inl ⟨h1,by rw[h2];exact k _ H (FD.refl _) (.bl c)⟩
 | none=>
  rw[q] at e
  simp only[eqD] at e
  cases q1:toD p1 with
  | none=>rw[q1] at e;cases e
  | some d=>
   cases q2:toD p2 with
   | none=>rw[q1,q2] at e;cases e
   | some d'=>
    rw[q1,q2] at e
    simp only at e
    split at e
    ·rename_i hs
     cases e
     exact .inr ⟨d,d',r1.dt q1,r2.dt q2,hs.1,hs.2,k _ H (FD.refl _) (.bl _)⟩
    ·cases e
theorem Ym:MD b .val (Wg b.C.K) OS:=by
 intro Ow H v1 v2 p1 p2 p Q hn r1 r2 e k
 unfold OS OR at e
 cases q:eqS p1 p2 with
 | some c=>
  rw[q] at e
  cases e
  obtain⟨h1,h2⟩:=Fi r1 r2 q
  exact .inl ⟨h1,by rw[h2];exact k _ H (FD.refl _) (.bl _)⟩
 | none=>
  rw[q] at e
  simp only[eqD] at e
  cases q1:toD p1 with
  | none=>rw[q1] at e;cases e
  | some d=>
   cases q2:toD p2 with
   | none=>rw[q1,q2] at e;cases e
   | some d'=>
    rw[q1,q2] at e
    simp only at e
    split at e
    ·rename_i hs
     cases e
     exact .inr ⟨d,d',r1.dt q1,r2.dt q2,hs.1,hs.2,k _ H (FD.refl _) (.bl _)⟩
    ·cases e
end
@[simp] noncomputable def keyOf:PV->Option Key
 | .int i=>some (.inl i)
 | .str x=>some (.inr x)
 | _=>none
@[simp] noncomputable def keysOf:List PV->Option (List Key)
 | []=>some []
 | x::xs=>match keyOf x,keysOf xs with
  | some k,some ks=>some (k::ks)
  | _,_=>none
@[simp] noncomputable def FO:List PV->Option (List Key)
 | [.str x,.bl b]=>some [.inr x,.inl (if b=true then 1 else 0)]
 | xs=>keysOf xs
@[simp] noncomputable def fJ:PV->Bool
 | .FE=>true
 | .bl _=>true
 | .int _=>true
 | .str _=>true
 | _=>false
noncomputable def ZE:PV->PV->Bool
 | .FE,.FE=>true
 | .bl a,.bl b=>a == b
 | .bl a,.int b=>(if a then 1 else 0) == b
 | .int a,.bl b=>a == (if b then 1 else 0)
 | .int a,.int b=>a == b
 | .str a,.str b=>a == b
 | _,_=>false
noncomputable def cN {κ:Type}[DecidableEq κ](kvs:List (κ×PV))(k:κ):Option PV:=(kvs.find? λx=>decide (x.1=k)).map (·.2)
noncomputable def inD (x:PV)(ys:List PV):Option Bool:=match toD x,gw ys with
 | some d,some ds=>if PyData.canLayAll0 ds=true/\d.canLay0=true/\d.depth<=32 then some (ds.any λy=>PyData.eqv y d) else none
 | _,_=>none
theorem uL {x:PV}{ys:List PV}{k:Bool}(h:inD x ys=some k):∃d ds,toD x=some d/\gw ys=some ds/\PyData.canLayAll0 ds=true/\d.canLay0=true/\d.depth<=32/\(ds.any λy=>PyData.eqv y d)=k:=by
 unfold inD at h
 split at h
 ·rename_i d ds h1 h2
  split at h
  ·rename_i hc
   exact⟨d,ds,h1,h2,hc.1,hc.2.1,hc.2.2,bo h⟩
  ·cases h
 ·cases h
noncomputable def N0:PV->PV->Option Bool
 | x,.lst ys=>if fJ x=true/\ys.all fJ=true then some (ys.any λy=>ZE y x) else inD x ys
 | x,.frz ys=>if fJ x=true/\ys.all fJ=true then some (ys.any λy=>ZE y x) else inD x ys
 | x,.ktp ys=>if fJ x=true/\ys.all fJ=true then some (ys.any λy=>ZE y x) else inD x ys
 | x,.tup ys=>if fJ x=true/\ys.all fJ=true then some (ys.any λy=>ZE y x) else inD x ys
 | .str x,.str y=>some (!(Builtin.Str.occurrences y x 0 y.length 1).isEmpty)
 | x,.dK kvs=>(keyOf x).map λk=>(cN kvs k).isSome
 | .tup xs,.dT kvs=>(FO xs).map λk=>(cN kvs k).isSome
 | _,_=>none
theorem Fu.keys {C:MC}{A:Addr->Prop}{H:Hp}:∀{vs:List V}{ps:List PV}{ks:List Key},Fu C A H vs ps->keysOf ps=some ks->vs=ks.map kV
 | _,_,_,.nil,e=>by cases e;rfl
 | _,_,_,.cons (p:=p) (ps:=ps) h t,e=>by
  unfold keysOf at e
  cases q:keyOf p with
  | none=>rw[q] at e;cases e
  | some k=>
   cases q2:keysOf ps with
   | none=>rw[q,q2] at e;cases e
   | some ks=>
    rw[q,q2] at e
    cases e
    have ih:=Fu.keys t q2
    rw[al,ih]
    congr 1
    unfold keyOf at q
    split at q <;> cases q <;> cases h <;> rfl
theorem Fu.FO {C:MC}{A:Addr->Prop}{H:Hp}{vs:List V}{ps:List PV}{ks:List Key}(r:Fu C A H vs ps)(e:FO ps=some ks):vH ks vs:=by
 unfold MR.FO at e
 split at e
 ·cases e
  cases r with
  | cons h1 t=>cases t with
   | cons h2 t=>cases t;cases h1;cases h2;exact .inr ⟨_,_,rfl,rfl⟩
 ·exact .inl (r.keys e)
theorem FC.key {p:PV}{k:Key}(h:FC C A H v p)(e:keyOf p=some k):v=kV k:=by
 unfold keyOf at e
 split at e
 ·cases e;exact h.int
 ·cases e;exact h.str
 ·cases e
theorem FC.flat {p:PV}(h:FC C A H v p)(e:fJ p=true):jY v=true:=by
 unfold fJ at e
 split at e
 ·rw[h.FE];rfl
 ·rw[h.bl];rfl
 ·rw[h.int];rfl
 ·rw[h.str];rfl
 ·cases e
noncomputable def fV:PV->V
 | .bl b=>.bl b
 | .int i=>.int i
 | .str x=>.str x
 | _=>.FE
theorem FC.fV {C:MC}{A:Addr->Prop}{H:Hp}{v:V}{p:PV}(h:FC C A H v p)(e:fJ p=true):v=fV p:=by
 cases p with
 | FE=>exact h.FE
 | bl b=>exact h.bl
 | int i=>exact h.int
 | str x=>exact h.str
 | _=>cases e
theorem Yn (p q:PV)(hp:fJ p=true)(hq:fJ q=true):L2.Y1 (fV p) (fV q)=ZE p q:=by
 cases p <;> cases q <;> first | rfl | (cases hp;done) | (cases hq;done)
theorem Fu.flat {C:MC}{A:Addr->Prop}{H:Hp}{v:V}{p:PV}(h:FC C A H v p)(e:fJ p=true):∀{vs:List V}{ps:List PV},Fu C A H vs ps->ps.all fJ=true->vs.all jY=true/\inV v vs=ps.any λy=>ZE y p
 | _,_,.nil,_=>⟨rfl,rfl⟩
 | _,_,.cons (v:=v') (p:=p') (vs:=vs) (ps:=ps) q t,e'=>by
  rw[i9,cb] at e'
  obtain⟨h1,h2⟩:=Fu.flat h e t e'.2
  have hf:jY v'=true:=FC.flat (.inl q) e'.1
  refine⟨by rw[i9,hf,h1];rfl,?_⟩
  unfold inV at h2 ⊢
  rw[dy,dy,h2]
  have q1:=h.fV e
  have q2:=FC.fV (.inl q) e'.1
  rw[q1,q2,Yn _ _ e'.1 e]
section
variable {X:Cx}
theorem Wh (hu:X.A.units+1 < cLine):G0 X (compareOp .In) (λx y H Q=>∃a o,y=.ref a/\HK X.K H a x o/\Q (.bl o.isSome) H):=by
 intro Fn s σ H x y v u Q I rx ry h
 obtain⟨a,o,rfl,g,q⟩:=h
 obtain rfl:u=Value.ref a:=ry
 exact Zm hu I g rx λs3 I3=>⟨.bl o.isSome,H,I3,rfl,q⟩
def Jy (K:W.Frag)(neg:Bool):R2:=λx y H Q=>∃d ds,(Dt K H y (.list ds)\/Dt K H y (.tuple ds))/\Dt K H x d/\PyData.canLayAll0 ds=true/\d.canLay0=true/\d.depth<=32/\Q (.bl (if neg then !(ds.any λy=>PyData.eqv y d) else ds.any λy=>PyData.eqv y d)) H
theorem Wi (hu:X.A.units+64 < cLine):G0 X (compareOp .In) (Jy X.K false):=by
 intro Fn s σ H x y v u Q I rx ry h
 obtain⟨d,ds,h1,h2,c1,c2,c3,q⟩:=h
 have hm:min (PyData.depthAll ds) d.depth<=d.depth:=nr _ _
 obtain⟨as,ra⟩:=h2.reads I rx
 rcases h1 with h1 | h1
 ·obtain⟨bs,rb⟩:=h1.reads I ry
  exact PySem.SeqAt.in_list_reads rb ra c1 c2 (by omega) ⟨.bl _,H,I,rfl,q⟩
 ·obtain⟨bs,rb⟩:=h1.reads I ry
  exact PySem.SeqAt.in_tuple_reads rb ra c1 c2 (by omega) ⟨.bl _,H,I,rfl,q⟩
theorem Lh (hu:X.A.units+64 < cLine):G0 X (compareOp .NotIn) (Jy X.K true):=by
 intro Fn s σ H x y v u Q I rx ry h
 obtain⟨d,ds,h1,h2,c1,c2,c3,q⟩:=h
 have hm:min (PyData.depthAll ds) d.depth<=d.depth:=nr _ _
 obtain⟨as,ra⟩:=h2.reads I rx
 rcases h1 with h1 | h1
 ·obtain⟨bs,rb⟩:=h1.reads I ry
  exact PySem.SeqAt.notIn_list_reads rb ra c1 c2 (by omega) ⟨.bl _,H,I,rfl,q⟩
 ·obtain⟨bs,rb⟩:=h1.reads I ry
  exact PySem.SeqAt.notIn_tuple_reads rb ra c1 c2 (by omega) ⟨.bl _,H,I,rfl,q⟩
theorem Li (hu:X.A.units+1 < cLine):G0 X (compareOp .NotIn) (λx y H Q=>∃a o,y=.ref a/\HK X.K H a x o/\Q (.bl (!o.isSome)) H):=by
 intro Fn s σ H x y v u Q I rx ry h
 obtain⟨a,o,rfl,g,q⟩:=h
 obtain rfl:u=Value.ref a:=ry
 exact RX hu I g rx λs3 I3=>⟨.bl (!o.isSome),H,I3,rfl,q⟩
end
def Wj (K:W.Frag):R2:=λx y H Q=>(rIn K false x y H Q\/∃i j,x=.str i/\y=.str j/\Q (.bl (!(Builtin.Str.occurrences j i 0 j.length 1).isEmpty)) H)\/(∃a o,y=.ref a/\HK K H a x o/\Q (.bl o.isSome) H)\/Jy K false x y H Q
def HR (K:W.Frag):R2:=λx y H Q=>(rIn K true x y H Q\/∃i j,x=.str i/\y=.str j/\Q (.bl (!(!(Builtin.Str.occurrences j i 0 j.length 1).isEmpty))) H)\/(∃a o,y=.ref a/\HK K H a x o/\Q (.bl (!o.isSome)) H)\/Jy K true x y H Q
noncomputable def NH (x y:PV):Option PV:=(N0 x y).map .bl
@[simp] theorem aad (x y:PV):NH x y=((N0 x y).map .bl):=id rfl
noncomputable def qU (x y:PV):Option PV:=(N0 x y).map λk=>.bl (!k)
@[simp] theorem YW (x y:PV):qU x y=((N0 x y).map λk=>.bl (!k)):=id rfl
theorem Lj {v1 v2:V}{p1 p2:PV}{k:Bool}(r1:FC C A H v1 p1)(r2:FC C A H v2 p2)(e:N0 p1 p2=some k):
  (∃p xs,v2=.ref p/\(F8 C.K H p xs\/IP C.K H p xs)/\jY v1=true/\xs.all jY=true/\inV v1 xs=k)\/(∃i j,v1=.str i/\v2=.str j/\(!(Builtin.Str.occurrences j i 0 j.length 1).isEmpty)=k)\/(∃a o,v2=.ref a/\HK C.K H a v1 o/\o.isSome=k)\/∃d ds,(Dt C.K H v2 (.list ds)\/Dt C.K H v2 (.tuple ds))/\Dt C.K H v1 d/\PyData.canLayAll0 ds=true/\d.canLay0=true/\d.depth<=32/\(ds.any λy=>PyData.eqv y d)=k:=by
 unfold N0 at e
 split at e
 ·split at e
  ·rename_i h
   cases e
   obtain⟨a,vs,rfl,ha,ra⟩:=r2.lst
   obtain⟨h1,h2⟩:=Fu.flat r1 h.1 ra h.2
   exact .inl ⟨a,vs,rfl,.inl (F8.of ha),r1.flat h.1,h1,h2⟩
  ·obtain⟨d,ds,t1,t2,c1,c2,c3,c4⟩:=uL e
   exact .inr (.inr (.inr ⟨d,ds,.inl (r2.dt (by simp[toD,t2])),r1.dt t1,c1,c2,c3,c4⟩))
 ·split at e
  ·rename_i h
   cases e
   obtain⟨a,vs,rfl,ha,ra⟩:=r2.frz
   obtain⟨h1,h2⟩:=Fu.flat r1 h.1 ra h.2
   exact .inl ⟨a,vs,rfl,.inl ha,r1.flat h.1,h1,h2⟩
  ·obtain⟨d,ds,t1,t2,c1,c2,c3,c4⟩:=uL e
   exact .inr (.inr (.inr ⟨d,ds,.inl (r2.dt (by simp[toD,t2])),r1.dt t1,c1,c2,c3,c4⟩))
 ·split at e
  ·rename_i h
   cases e
   obtain⟨a,vs,rfl,ha,ra⟩:=r2.ktp
   obtain⟨h1,h2⟩:=Fu.flat r1 h.1 ra h.2
   exact .inl ⟨a,vs,rfl,.inr ha,r1.flat h.1,h1,h2⟩
  ·obtain⟨d,ds,t1,t2,c1,c2,c3,c4⟩:=uL e
   exact .inr (.inr (.inr ⟨d,ds,.inr (r2.dt (by simp[toD,t2])),r1.dt t1,c1,c2,c3,c4⟩))
 ·split at e
  ·rename_i h
   cases e
   obtain⟨a,vs,rfl,ha,ra⟩:=r2.tup
   obtain⟨h1,h2⟩:=Fu.flat r1 h.1 ra h.2
   exact .inl ⟨a,vs,rfl,.inr ha.sq,r1.flat h.1,h1,h2⟩
  ·obtain⟨d,ds,t1,t2,c1,c2,c3,c4⟩:=uL e
   exact .inr (.inr (.inr ⟨d,ds,.inr (r2.dt (by simp[toD,t2])),r1.dt t1,c1,c2,c3,c4⟩))
 ·cases e
  exact .inr (.inl ⟨_,_,r1.str,r2.str,rfl⟩)
 ·obtain⟨a,kv,rfl,ha,ra⟩:=r2.dK
  cases q:keyOf p1 with
  | none=>rw[q] at e;cases e
  | some ky=>
   rw[q] at e
   cases e
   rw[r1.key q]
   refine .inr (.inr (.inl ⟨a,_,rfl,HK.k ha,?_⟩))
   unfold cN
   dsimp only
   rcases F9.val (k:=ky) ra with ⟨v,p,h1,h2,_⟩ | ⟨h1,h2⟩
   ·rw[h1,h2];rfl
   ·rw[h1,h2];rfl
 ·rename_i xs kvs
  obtain⟨a,kv,rfl,ha,ra⟩:=r2.dT
  obtain⟨c,vs,rfl,hc,rc⟩:=r1.tup
  cases q:FO xs with
  | none=>rw[q] at e;cases e
  | some ky=>
   rw[q] at e
   cases e
   refine .inr (.inr (.inl ⟨a,_,rfl,HK.t ha (hc.key (rc.FO q)),?_⟩))
   unfold cN
   dsimp only
   rcases FY.val (k:=ky) ra with ⟨v,p,h1,h2,_⟩ | ⟨h1,h2⟩
   ·rw[h1,h2];rfl
   ·rw[h1,h2];rfl
 ·cases e
section
variable {b:BX}
theorem Yo:MD b .val (Wj b.C.K) NH:=by
 intro Ow H v1 v2 p1 p2 p Q hn r1 r2 e k
 unfold NH at e
 cases q:N0 p1 p2 with
 | none=>rw[q] at e;cases e
 | some c=>
  rw[q] at e
  cases e
  have fin:=k (.bl c) H (FD.refl _) (.bl c)
  rcases Lj r1 r2 q with ⟨a,xs,rfl,h1,h2,h3,h4⟩ | ⟨i,j,rfl,rfl,h1⟩ | ⟨a,o,rfl,h1,h2⟩ | ⟨d,ds,h1,h2,c1,c2,c3,h4⟩
  ·subst h4;exact .inl (.inl ⟨a,xs,rfl,h1,h2,h3,fin⟩)
  ·subst h1;exact .inl (.inr ⟨i,j,rfl,rfl,fin⟩)
  ·subst h2;exact .inr (.inl ⟨a,o,rfl,h1,fin⟩)
  ·subst h4;exact .inr (.inr ⟨d,ds,h1,h2,c1,c2,c3,fin⟩)
theorem Pg:MD b .val (HR b.C.K) qU:=by
 intro Ow H v1 v2 p1 p2 p Q hn r1 r2 e k
 unfold qU at e
 cases q:N0 p1 p2 with
 | none=>rw[q] at e;cases e
 | some c=>
  rw[q] at e
  cases e
  have fin:=k (.bl (!c)) H (FD.refl _) (.bl _)
  rcases Lj r1 r2 q with ⟨a,xs,rfl,h1,h2,h3,h4⟩ | ⟨i,j,rfl,rfl,h1⟩ | ⟨a,o,rfl,h1,h2⟩ | ⟨d,ds,h1,h2,c1,c2,c3,h4⟩
  ·subst h4;exact .inl (.inl ⟨a,xs,rfl,h1,h2,h3,fin⟩)
  ·subst h1;exact .inl (.inr ⟨i,j,rfl,rfl,fin⟩)
  ·subst h2;exact .inr (.inl ⟨a,o,rfl,h1,fin⟩)
  ·subst h4;exact .inr (.inr ⟨d,ds,h1,h2,c1,c2,c3,fin⟩)
end
@[simp] noncomputable def An:PV->Bool
 | .FE=>true
 | _=>false
noncomputable def OT (x y:PV):Option PV:=match y with
 | .FE=>some (.bl (An x))
 | _=>none
@[simp] theorem aae (x y:PV):OT x y=(match y with
 | .FE=>some (.bl (An x))
 | _=>none):=id rfl
noncomputable def pH (x y:PV):Option PV:=match y with
 | .FE=>some (.bl (!An x))
 | _=>none
@[simp] theorem YX (x y:PV):pH x y=(match y with
 | .FE=>some (.bl (!An x))
 | _=>none):=id rfl
theorem FC.OT {p:PV}(h:FC C A H v p):decide (v=.FE)=An p:=by
 cases p with
 | FE=>rw[h.FE];rfl
 | bl b=>rw[h.bl];rfl
 | int b=>rw[h.int];rfl
 | str b=>rw[h.str];rfl
 | lst b=>obtain⟨a,_,rfl,_⟩:=h.lst;rfl
 | frz b=>obtain⟨a,_,rfl,_⟩:=h.frz;rfl
 | tup b=>obtain⟨a,_,rfl,_⟩:=h.tup;rfl
 | ktp b=>obtain⟨a,_,rfl,_⟩:=h.ktp;rfl
 | dK b=>obtain⟨a,_,rfl,_⟩:=h.dK;rfl
 | dT b=>obtain⟨a,_,rfl,_⟩:=h.dT;rfl
 | obj c b=>obtain⟨a,_,_,rfl,_⟩:=h.obj;rfl
section
variable {b:BX}
theorem Wk:MD b .val (λx y H Q=>y=.FE/\Q (.bl (decide (x=.FE))) H) OT:=by
 intro Ow H v1 v2 p1 p2 p Q hn r1 r2 e k
 cases p2 with
 | FE=>
  simp only[OT] at e
  cases e
  exact⟨r2.FE,by rw[r1.OT];exact k _ H (FD.refl _) (.bl _)⟩
 | _=>simp only[OT] at e;cases e
theorem Lk:MD b .val (λx y H Q=>y=.FE/\Q (.bl (!decide (x=.FE))) H) pH:=by
 intro Ow H v1 v2 p1 p2 p Q hn r1 r2 e k
 cases p2 with
 | FE=>
  simp only[pH] at e
  cases e
  exact⟨r2.FE,by rw[r1.OT];exact k _ H (FD.refl _) (.bl _)⟩
 | _=>simp only[pH] at e;cases e
end
section
variable {X:Cx}{b:BX}{G:qr}{m:Md}{e e1 e2 e3:Expr}{f f1 f2 f3:rh}{pos:Pos}{m1 m2 m3:Md}
structure SC (X:Cx)(b:BX)(G:qr)(op:CmpOp)(e1 e2:Expr)(f:rh):Prop where
 pe:∀pos,SE X b G .val (.Compare e1 [op] [e2] pos) f
 pt:∀pos,ST X b G (.Compare e1 [op] [e2] pos) (tV f)
theorem sr {op:CmpOp}{r:R2}(ho:G0 X (compareOp op) r)(hr:MD b .val r g)(h1:SE X b G m1 e1 f1)(h2:SE X b G m2 e2 f2)(hm:behindInMarks op e2=false):SC X b G op e1 e2 (b2 g f1 f2):=by
 refine⟨λpos=>PE.imp (RJ ho h1.bor h2.bor hm) fun σ H Q h=>Jt hr h,λpos=>PT.imp (RK ho h1.bor h2.bor hm) fun σ H Q h=>?_⟩
 obtain⟨Ow,env,c,E,hf,k⟩:=h
 unfold tV at hf
 cases q:b2 g f1 f2 env with
 | none=>rw[q] at hf;cases hf
 | some p=>
  rw[q] at hf
  refine Jt (Q:=λx H'=>∃k,x=.bl k/\_) hr ⟨Ow,env,p,E,q,λv H' s r=>?_⟩
  cases p with
  | bl d=>
   cases hf
   cases r
   exact⟨_,rfl,k H' s⟩
  | _=>cases hf
theorem cz {j:Nat}(hr:F0 j X.A)(h1:SE X b G m1 e1 f1)(h2:SE X b G m2 e2 f2)(hK:autoParam (X.K=b.C.K) r0_):SC X b G .Eq e1 e2 (b2 eqQ f1 f2):=sr (r:=Wf b.C.K) (by rw[← hK];exact G0.or X3 (VR hr.units)) Yl h1 h2 (uf _)
theorem mD {j:Nat}(hr:F0 j X.A)(h1:SE X b G m1 e1 f1)(h2:SE X b G m2 e2 f2)(hK:autoParam (X.K=b.C.K) r0_):SC X b G .NotEq e1 e2 (b2 OS f1 f2):=sr (r:=Wg b.C.K) (by rw[← hK];exact G0.or X4 (V0 hr.units)) Ym h1 h2 (uf _)
theorem zm (h1:SE X b G m1 e1 f1)(h2:SE X b G m2 e2 f2):SC X b G .Lt e1 e2 (b2 (gq λi j=>decide (i < j)) f1 f2):=sr X5 Lf h1 h2 (uf _)
theorem su (h1:SE X b G m1 e1 f1)(h2:SE X b G m2 e2 f2):SC X b G .Gt e1 e2 (b2 (gq λi j=>decide (j < i)) f1 f2):=sr X6 Lf h1 h2 (uf _)
theorem jx {j:Nat}(hr:F0 j X.A)(h1:SE X b G m1 e1 f1)(h2:SE X b G m2 e2 f2)(hm:autoParam (behindInMarks .In e2=false) r0_)(hK:autoParam (X.K=b.C.K) r0_):SC X b G .In e1 e2 (b2 NH f1 f2):=
 sr (r:=Wj b.C.K) (by rw[← hK];exact G0.or (G0.or K6 KD) (G0.or (Wh (rZ hr)) (Wi hr.units))) Yo h1 h2 hm
theorem yx {j:Nat}(hr:F0 j X.A)(h1:SE X b G m1 e1 f1)(h2:SE X b G m2 e2 f2)(hm:autoParam (behindInMarks .NotIn e2=false) r0_)(hK:autoParam (X.K=b.C.K) r0_):SC X b G .NotIn e1 e2 (b2 qU f1 f2):=
 sr (r:=HR b.C.K) (by rw[← hK];exact G0.or (G0.or Eu Ew) (G0.or (Li (rZ hr)) (Lh hr.units))) Pg h1 h2 hm
theorem qp (h1:SE X b G m1 e1 f1)(h2:SE X b G m2 e2 f2):SC X b G .Is e1 e2 (b2 OT f1 f2):=sr Vj Wk h1 h2 (uf _)
theorem yz (h1:SE X b G m1 e1 f1)(h2:SE X b G m2 e2 f2):SC X b G .IsNot e1 e2 (b2 pH f1 f2):=sr RG Lk h1 h2 (uf _)
theorem bQ {op:CmpOp}(h:SC X b G op e1 e2 f):SE X b G .val (.Compare e1 [op] [e2] pos) f:=h.pe pos
theorem aQ {op:CmpOp}(h:SC X b G op e1 e2 f):ST X b G (.Compare e1 [op] [e2] pos) (tV f):=h.pt pos
noncomputable def vN (g g':Int->Int->Bool)(f1 f2 f3:rh)(env:Env):Option PV:=(f1 env).bind λx=>(f2 env).bind λy=>match x,y with
 | .int i,.int j=>if g i j=true then (f3 env).bind λz=>gq g' y z else some (.bl false)
 | _,_=>none
@[simp] theorem YZ (g g':Int->Int->Bool)(f1 f2 f3:rh)(env:Env):vN g g' f1 f2 f3 env=((f1 env).bind λx=>(f2 env).bind λy=>match x,y with
 | .int i,.int j=>if g i j=true then (f3 env).bind λz=>gq g' y z else some (.bl false)
 | _,_=>none):=id rfl
theorem Hs {g g':Int->Int->Bool}{f1 f2 f3:rh}{p:PV}(h:vN g g' f1 f2 f3 env=some p):
  ∃i j,f1 env=some (.int i)/\f2 env=some (.int j)/\((g i j=false/\p=.bl false)\/(g i j=true/\∃l,f3 env=some (.int l)/\p=.bl (g' j l))):=by
 unfold vN at h
 cases q1:f1 env with
 | none=>rw[q1] at h;cases h
 | some p1=>
  cases q2:f2 env with
  | none=>rw[q1,q2] at h;cases h
  | some p2=>
   rw[q1,q2] at h
   simp only[bq] at h
   split at h
   ·rename_i i j
    refine⟨i,j,rfl,rfl,?_⟩
    cases hg:g i j with
    | false=>
     rw[hg] at h
     cases h
     exact .inl ⟨rfl,rfl⟩
    | true=>
     rw[hg] at h
     simp only[fi] at h
     obtain⟨p3,q3,h⟩:=Option.bind_eq_some_iff.mp h
     cases p3 with
     | int l=>
      cases h
      exact .inr ⟨rfl,l,q3,rfl⟩
     | _=>cases h
   ·cases h
theorem Ph {op op':CmpOp}{g g':Int->Int->Bool}(ho:G0 X (compareOp op) (RO λi j=>.bl (g i j)))(Sr:G0 X (compareOp op') (RO λi j=>.bl (g' i j)))(h1:SE X b G m1 e1 f1)(h2:SE X b G m2 e2 f2)(h3:SE X b G m3 e3 f3)
  (hm:autoParam (lastMarks [op,op'] [e2,e3]=false) r11_):SE X b G .val (.Compare e1 [op,op'] [e2,e3] pos) (vN g g' f1 f2 f3):=
 PE.imp (Oi ho Sr h1.bor h2.bor h3.bor hm)<|by
  rintro σ H Q ⟨Ow,env,p,E,hf,k⟩
  obtain⟨i,j,q1,q2,hc⟩:=Hs hf
  refine⟨Ow,env,_,E,q1,λv1 H1 s1 r1=>⟨Ow,env,_,E.up s1,q2,λv2 H2 s2 r2=>?_⟩⟩
  have MQ:FC b.C (Bs b Ow) H2 v1 (.int i):=Res.up (m:=.bor) r1 s2
  have OA:FC b.C (Bs b Ow) H2 v2 (.int j):=r2
  rw[MQ.int,OA.int]
  refine⟨i,j,rfl,rfl,g i j,rfl,?_⟩
  rcases hc with ⟨hc,rfl⟩ | ⟨hc,l,q3,rfl⟩
  ·rw[hc]
   simp only[et,fm]
   exact k _ H2 (s1.trans s2) (.bl false)
  ·rw[hc]
   simp only[fi]
   refine⟨Ow,env,_,E.up (s1.trans s2),q3,λv3 H3 s3 r3=>?_⟩
   have r3':FC b.C (Bs b Ow) H3 v3 (.int l):=r3
   rw[r3'.int]
   exact⟨_,_,rfl,rfl,k _ H3 (s1.trans (s2.trans s3)) (.bl _)⟩
theorem fW {op}(h:SE X b G m e f):SE X b G m (.BoolOp op [e] pos) f:=UV h
theorem fc {rest:qB}(h1:SE X b G .val e1 f1)(h2:SE X b G .val (.BoolOp .And (e2::rest) pos) f2):SE X b G .val (.BoolOp .And (e1::e2::rest) pos) (gn f1 f2):=
 PE.imp (UW h1 h2)<|by
  rintro σ H Q ⟨Ow,env,p,E,hf,k⟩
  unfold gn at hf
  cases q1:f1 env with
  | none=>rw[q1] at hf;cases hf
  | some p1=>
   rw[q1] at hf
   refine⟨Ow,env,p1,E,q1,λv1 H1 s1 r1=>?_⟩
   cases p1 with
   | bl c=>
    cases r1
    refine⟨c,rfl,?_⟩
    cases c with
    | true=>exact⟨Ow,env,p,E.up s1,hf,λv H' s r=>k v H' (s1.trans s) r⟩
    | false=>cases hf;exact k _ H1 s1 (.bl false)
   | _=>cases hf
theorem Rh {rest:qB}(h1:SE X b G .val e1 f1)(h2:SE X b G .val (.BoolOp .Or (e2::rest) pos) f2):SE X b G .val (.BoolOp .Or (e1::e2::rest) pos) (bOr f1 f2):=
 PE.imp (XF h1 h2)<|by
  rintro σ H Q ⟨Ow,env,p,E,hf,k⟩
  unfold bOr at hf
  cases q1:f1 env with
  | none=>rw[q1] at hf;cases hf
  | some p1=>
   rw[q1] at hf
   refine⟨Ow,env,p1,E,q1,λv1 H1 s1 r1=>?_⟩
   cases p1 with
   | bl c=>
    cases r1
    refine⟨c,rfl,?_⟩
    cases c with
    | false=>exact⟨Ow,env,p,E.up s1,hf,λv H' s r=>k v H' (s1.trans s) r⟩
    | true=>cases hf;exact k _ H1 s1 (.bl true)
   | _=>cases hf
@[simp] noncomputable def fX:PV->Option PV
 | .int i=>some (.int (-i))
 | _=>none
theorem dH (h1:SE X b G m e1 f1):SE X b G .val (.UnaryOp .USub e1 pos) (b1 fX f1):=
 PE.imp (XX Vi h1.bor) fun σ H Q h=>Ju (r:=rU λi=>.int (-i)) (λOw H v1 p1 p Q hn r1 e k=>by
  cases p1 <;> simp only[fX] at e <;> cases e
  exact⟨_,r1.int,k _ H (FD.refl _) (.int _)⟩) h
theorem dX (h:SE X b G .val e f)(he:autoParam (∀whole,isTrue e X.env whole=(do let v ← whole;standAt e.pos;holding [v] (truthy v))) r4_):ST X b G e (tV f):=
 PT.imp (UG h he)<|by
  rintro σ H Q ⟨Ow,env,c,E,hf,k⟩
  unfold tV at hf
  cases q1:f env with
  | none=>rw[q1] at hf;cases hf
  | some p1=>
   rw[q1] at hf
   refine⟨Ow,env,p1,E,q1,λv1 H1 s1 r1=>?_⟩
   cases p1 with
   | bl d=>cases r1;cases hf;exact⟨_,rfl,k H1 s1⟩
   | _=>cases hf
theorem vO {g:Env->Option Bool}(h:ST X b G e g):ST X b G (.UnaryOp .Not e pos) (tN g):=
 PT.imp (UT h)<|by
  rintro σ H Q ⟨Ow,env,c,E,hf,k⟩
  unfold tN at hf
  cases q1:g env with
  | none=>rw[q1] at hf;cases hf
  | some p1=>rw[q1] at hf;cases hf;exact⟨Ow,env,p1,E,q1,λH' s=>k H' s⟩
abbrev SW (X:Cx)(b:BX)(G:qr)(e:Expr)(g:Env->Option Bool):Prop:=PW X e (tMT b G g)
theorem PW.imp {t u:TT}(h:PW X e t)(i:∀ σ H Q,u σ H Q->t σ H Q):PW X e u:=λwh Fn s σ H Q I q=>h wh Fn s σ H Q I (i σ H Q q)
variable {g1 g2:Env->Option Bool}
theorem um (h:ST X b G e g1):SW X b G (.BoolOp .And [e] pos) g1:=Ry h
theorem mF (h:ST X b G e g1):SW X b G (.BoolOp .Or [e] pos) g1:=UJ h
theorem vQ {rest:qB}(h1:ST X b G e1 g1)(h2:SW X b G (.BoolOp .And (e2::rest) pos) g2):SW X b G (.BoolOp .And (e1::e2::rest) pos) (tA g1 g2):=
 PW.imp (UL h1 h2)<|by
  rintro σ H Q ⟨Ow,env,c,E,hf,k⟩
  unfold tA at hf
  cases q1:g1 env with
  | none=>rw[q1] at hf;cases hf
  | some p1=>
   rw[q1] at hf
   refine⟨Ow,env,p1,E,q1,λH1 s1=>?_⟩
   cases p1 with
   | true=>exact⟨Ow,env,c,E.up s1,hf,λH' s=>k H' (s1.trans s)⟩
   | false=>cases hf;exact k H1 s1
theorem o_ {rest:qB}(h1:ST X b G e1 g1)(h2:SW X b G (.BoolOp .Or (e2::rest) pos) g2):SW X b G (.BoolOp .Or (e1::e2::rest) pos) (tO g1 g2):=
 PW.imp (XC h1 h2)<|by
  rintro σ H Q ⟨Ow,env,c,E,hf,k⟩
  unfold tO at hf
  cases q1:g1 env with
  | none=>rw[q1] at hf;cases hf
  | some p1=>
   rw[q1] at hf
   refine⟨Ow,env,p1,E,q1,λH1 s1=>?_⟩
   cases p1 with
   | false=>exact⟨Ow,env,c,E.up s1,hf,λH' s=>k H' (s1.trans s)⟩
   | true=>cases hf;exact k H1 s1
theorem SW.st (h:SW X b G e g1):ST X b G e g1:=h _
theorem zp {c:Expr}(hc:ST X b G c g1)(h1:SE X b G m e1 f1)(h2:SE X b G m e2 f2):SE X b G m (.IfExp c e1 e2 pos) (bIf g1 f1 f2):=
 PE.imp (N8 hc h1 h2)<|by
  rintro σ H Q ⟨Ow,env,p,E,hf,k⟩
  unfold bIf at hf
  cases q1:g1 env with
  | none=>rw[q1] at hf;cases hf
  | some c=>
   rw[q1] at hf
   refine⟨Ow,env,c,E,q1,λH1 s1=>?_⟩
   cases c with
   | true=>exact⟨Ow,env,p,E.up s1,hf,λv H' s r=>k v H' (s1.trans s) (r.down s1)⟩
   | false=>exact⟨Ow,env,p,E.up s1,hf,λv H' s r=>k v H' (s1.trans s) (r.down s1)⟩
end
def ArA (b:BX)(Ow:Addr->Prop)(L:Bool)(H:Hp)(a:Addr):Prop:=Bs b Ow a\/(L=true/\∃vs,H a=some (.lst vs))
def tMA (b:BX)(G:qr)(L:Bool)(g:Env->Option (List PV)):TA:=fun σ H Q=>∃Ow env ps,ER b Ow G σ env H/\g env=some ps/\∀vs H',FD H H'->Fu b.C (ArA b Ow L H') H' vs ps->Q vs H'
abbrev SA (X:Cx)(b:BX)(G:qr)(L:Bool)(es:qB)(g:Env->Option (List PV)):Prop:=PA X es (tMA b G L g)
theorem PA.imp {es:qB}{t u:TA}(h:PA X es t)(i:∀ σ H Q,u σ H Q->t σ H Q):PA X es u:=λpos Fn s σ H Q I q=>h pos Fn s σ H Q I (i σ H Q q)
variable {apos:Pos}{σ:St}{ro:Bool}{ps:qE}{mi:List PV->Option PV}
section
variable {X:Cx}{b:BX}{G:qr}{m m1 m2:Md}{L:Bool}{e e1 e2:Expr}{es:qB}{f f1 f2:rh}{g:Env->Option (List PV)}{pos p:Pos}
theorem aq:SA X b G L [] aB:=PA.imp eZ<|by rintro σ H Q ⟨Ow,env,ps,E,hg,k⟩;cases hg;exact k [] H (FD.refl _) .nil
theorem aa (h1:SE X b G .val e f)(h2:SA X b G L es g)(hs:autoParam (starEach (e::es) X.env=(false,eval e X.env)::starEach es X.env) r0_):SA X b G L (e::es) (ak f g):=
 PA.imp (cF h1 h2 hs)<|by
  rintro σ H Q ⟨Ow,env,ps,E,hg,k⟩
  unfold ak at hg
  cases q1:f env with
  | none=>rw[q1] at hg;cases hg
  | some p1=>
   rw[q1] at hg
   cases q2:g env with
   | none=>rw[q2] at hg;cases hg
   | some ps'=>
    rw[q2] at hg
    cases hg
    exact⟨Ow,env,p1,E,q1,λv H1 s1 r1=>⟨Ow,env,ps',E.up s1,q2,λvs H2 s2 r2=>k (v::vs) H2 (s1.trans s2) (.cons (Rep.ex (λa o h=>⟨λq=>⟨s2 _ _ h,.inl q⟩,λ_=>s2 _ _ h⟩) r1) r2)⟩⟩
theorem Ea {b:BX}{ps:List PV}(h:Fu b.C (ArA b Ow false H) H vs ps):Fu b.C (Bs b Ow) H vs ps:=h.ex (dC λa o _ q=>q.elim id λz=>by cases z.1)
theorem aW (h:SA X b G false es g):SE X b G .own (.List es pos) (bD g):=PE.imp (Vq h)<|by
 rintro σ H Q ⟨Ow,env,p,E,hf,k⟩
 unfold bD at hf
 cases q1:g env with
 | none=>rw[q1] at hf;cases hf
 | some ps=>
  rw[q1] at hf
  simp only[bq] at hf
  split at hf
  ·rename_i hl
   cases hf
   refine⟨Ow,env,ps,E,q1,λvs H1 s1 r=>⟨ig (by rw[r.length];exact hl),λq hq=>k _ _ (s1.trans (bc hq _)) (Res.down s1 (fP hq (Ea r)))⟩⟩
  ·cases hf
theorem bz {x1}(h:SA X b G false es g):SE X b G .val (.Tuple es x1 pos) (cB g):=PE.imp (Vp h)<|by
 rintro σ H Q ⟨Ow,env,p,E,hf,k⟩
 unfold cB at hf
 cases q1:g env with
 | none=>rw[q1] at hf;cases hf
 | some ps=>
  rw[q1] at hf
  simp only[bq] at hf
  split at hf
  ·rename_i hl
   cases hf
   refine⟨Ow,env,ps,E,q1,λvs H1 s1 r=>⟨ig (by rw[r.length];exact hl),λq hq=>k _ _ (s1.trans (bc hq _)) (w6 hq (Ea r))⟩⟩
  ·cases hf
theorem Yp:SE X b G .own (.Dict [] [] pos) (bC (.dK [])):=PE.imp Ov<|by
 rintro σ H Q ⟨Ow,env,p,E,hf,k⟩ q hq
 cases hf
 exact k _ _ (bc hq _) ⟨q,rfl,hq,[],bu,.nil⟩
theorem zq:SE X b G .own (.Dict [] [] pos) (bC (.dT [])):=PE.imp Ox<|by
 rintro σ H Q ⟨Ow,env,p,E,hf,k⟩ q hq
 cases hf
 exact k _ _ (bc hq _) ⟨q,rfl,hq,[],bu,.nil⟩
@[simp] noncomputable def FI:PV->PV->Option PV
 | .lst xs,.int i=>F1 xs i
 | .frz xs,.int i=>F1 xs i
 | .tup xs,.int i=>F1 xs i
 | .ktp xs,.int i=>F1 xs i
 | .str x,.int i=>if x.length<=1000000 then (F1 x.cps.toList i).map λc=>.str ⟨#[c]⟩ else none
 | .dK kvs,y=>(keyOf y).bind λk=>cN kvs k
 | .dT kvs,.tup ys=>(FO ys).bind λk=>cN kvs k
 | _,_=>none
theorem Fu.F1 {C:MC}{A:Addr->Prop}{H:Hp}{vs:List V}{ps:List PV}{i:Int}{p:PV}(h:Fu C A H vs ps)(e:F1 ps i=some p):∃v,L2.F1 vs i=some v/\Rep C A H v p:=by
 unfold L2.F1 at e ⊢
 rw[h.length]
 cases q:NW ps.length i with
 | none=>rw[q] at e;cases e
 | some j=>rw[q] at e;exact h.get e
theorem aM {j:Nat}(hr:F0 j X.A)(h1:SE X b G m1 e1 f1)(h2:SE X b G m2 e2 f2)(hs:autoParam (HN e2) r12_)(Mn:autoParam (Oq e2) r12_)(hK:autoParam (X.K=b.C.K) r0_):SE X b G .val (.Subscript e1 e2 pos) (b2 FI f1 f2):=by
 refine PE.imp (PE.or (Yg (r:=rIx b.C.K) (by rw[← hK];exact VG) h1.bor h2.bor hs) (R0 (rZ hr) h1.bor h2.bor Mn)) fun σ H Q h=>?_
 obtain⟨Ow,env,p,E,hf,k⟩:=h
 unfold b2 at hf
 cases q1:f1 env with
 | none=>rw[q1] at hf;cases hf
 | some p1=>
  rw[q1] at hf
  cases q2:f2 env with
  | none=>rw[q2] at hf;cases hf
  | some p2=>
   rw[q2] at hf
   simp only[bq] at hf
   have step:∀(R:V->V->Hp->VK->Prop),(∀H2 v1 v2,FC b.C (Bs b Ow) H2 v1 p1->FC b.C (Bs b Ow) H2 v2 p2->FD H H2->R v1 v2 H2 Q)->tM b G .bor f1 σ H λx H1=>tM b G .bor f2 σ H1 λy H2=>R x y H2 Q:=λR hR=>
    ⟨Ow,env,p1,E,q1,λv1 H1 s1 r1=>⟨Ow,env,p2,E.up s1,q2,λv2 H2 s2 r2=>hR H2 v1 v2 (Res.up (m:=.bor) r1 s2) r2 (s1.trans s2)⟩⟩
   unfold FI at hf
   split at hf
   ·refine .inl (step _ λH2 v1 v2 r1 r2 s=>?_)
    obtain⟨a,vs,rfl,ha,ra⟩:=r1.lst
    obtain⟨v,hv,rv⟩:=ra.F1 hf
    rw[r2.int]
    exact .inl ⟨a,vs,_,v,rfl,rfl,F8.of ha,hv,k v H2 s rv⟩
   ·refine .inl (step _ λH2 v1 v2 r1 r2 s=>?_)
    obtain⟨a,vs,rfl,ha,ra⟩:=r1.frz
    obtain⟨v,hv,rv⟩:=ra.F1 hf
    rw[r2.int]
    exact .inl ⟨a,vs,_,v,rfl,rfl,ha,hv,k v H2 s rv⟩
   ·refine .inl (step _ λH2 v1 v2 r1 r2 s=>?_)
    obtain⟨a,vs,rfl,ha,ra⟩:=r1.tup
    obtain⟨v,hv,rv⟩:=ra.F1 hf
    rw[r2.int]
    exact .inr (.inl ⟨a,vs,_,v,rfl,rfl,ha.sq,hv,k v H2 s rv⟩)
   ·refine .inl (step _ λH2 v1 v2 r1 r2 s=>?_)
    obtain⟨a,vs,rfl,ha,ra⟩:=r1.ktp
    obtain⟨v,hv,rv⟩:=ra.F1 hf
    rw[r2.int]
    exact .inr (.inl ⟨a,vs,_,v,rfl,rfl,ha,hv,k v H2 s rv⟩)
   ·split at hf
    ·rename_i x i hx
     cases q3:F1 x.cps.toList i with
     | none=>rw[q3] at hf;cases hf
     | some c=>
      rw[q3] at hf
      cases hf
      refine .inl (step _ λH2 v1 v2 r1 r2 s=>?_)
      rw[r1.str,r2.int]
      exact .inr (.inr ⟨x,i,c,rfl,rfl,ig hx,q3,k _ H2 s (.str _)⟩)
    ·cases hf
   ·rename_i kvs
    cases q3:keyOf p2 with
    | none=>rw[q3] at hf;cases hf
    | some ky=>
     rw[q3] at hf
     simp only[bq] at hf
     refine .inr (step (λx y H2 Q=>∃a v,x=.ref a/\HK X.K H2 a y (some v)/\Q v H2) λH2 v1 v2 r1 r2 s=>?_)
     obtain⟨a,kv,rfl,ha,ra⟩:=r1.dK
     rw[r2.key q3]
     unfold cN at hf
     rcases F9.val (k:=ky) ra with ⟨v,p',h1,h2,rv⟩ | ⟨h1,h2⟩
     ·rw[h2] at hf
      cases hf
      exact⟨a,v,rfl,by rw[← h1];exact HK.k ha,k v H2 s rv⟩
     ·rw[h2] at hf;cases hf
   ·rename_i kvs ys
    cases q3:FO ys with
    | none=>rw[q3] at hf;cases hf
    | some ky=>
     rw[q3] at hf
     simp only[bq] at hf
     refine .inr (step (λx y H2 Q=>∃a v,x=.ref a/\HK X.K H2 a y (some v)/\Q v H2) λH2 v1 v2 r1 r2 s=>?_)
     obtain⟨a,kv,rfl,ha,ra⟩:=r1.dT
     obtain⟨c,vs,rfl,hc,rc⟩:=r2.tup
     unfold cN at hf
     rcases FY.val (k:=ky) ra with ⟨v,p',h1,h2,rv⟩ | ⟨h1,h2⟩
     ·rw[h2] at hf
      cases hf
      exact⟨a,v,rfl,by rw[← h1,hK];exact HK.t ha (hc.key (rc.FO q3)),k v H2 s rv⟩
     ·rw[h2] at hf;cases hf
   ·cases hf
noncomputable def dY (xs:List PV)(lo hi:Option Int):List PV:=(xs.drop (HT.ID xs.length 0 lo)).take (HT.ID xs.length xs.length hi - HT.ID xs.length 0 lo)
theorem Fu.cut {ps:List PV}(h:Fu C A H vs ps)(lo hi:Option Int):Fu C A H (Aj vs lo hi) (dY ps lo hi):=by
 unfold Aj dY
 rw[h.length]
 exact(h.drop _).take _
noncomputable def oN (env:Env):Option (Option Int):=some none
@[simp] theorem aav (env:Env):oN env=(some none):=id rfl
noncomputable def oS (f:rh)(env:Env):Option (Option Int):=(f env).bind λp=>match p with | .int i=>some (some i) | _=>none
@[simp] theorem aaw (f:rh)(env:Env):oS f env=((f env).bind λp=>match p with | .int i=>some (some i) | _=>none):=id rfl
def tMO (b:BX)(G:qr)(f:Env->Option (Option Int)):TO:=fun σ H Q=>∃Ow env o,ER b Ow G σ env H/\f env=some o/\∀H',FD H H'->Q o H'
theorem PO.imp {x:Option Expr}{t u:TO}(h:PO X x t)(i:∀ σ H Q,u σ H Q->t σ H Q):PO X x u:=by
 intro Fn s σ H Q I q
 exact h Fn s σ H Q I (i σ H Q q)
abbrev SO (X:Cx)(b:BX)(G:qr)(e:Option Expr)(f:Env->Option (Option Int)):Prop:=PO X e (tMO b G f)
theorem dD:SO X b G none oN:=PO.imp R4<|by rintro σ H Q ⟨Ow,env,o,E,hf,k⟩;cases hf;exact k H (FD.refl _)
theorem bT (h:SE X b G m e f):SO X b G (some e) (oS f):=PO.imp (R5 h.bor)<|by
 rintro σ H Q ⟨Ow,env,o,E,hf,k⟩
 unfold oS at hf
 cases q1:f env with
 | none=>rw[q1] at hf;cases hf
 | some p1=>
  rw[q1] at hf
  refine⟨Ow,env,p1,E,q1,λv H1 s1 r1=>?_⟩
  have MQ:FC b.C (Bs b Ow) H1 v p1:=r1
  cases p1 <;> simp only[bq] at hf <;> cases hf
  exact⟨_,MQ.int,k H1 s1⟩
noncomputable def LJ (f:rh)(lo hi:Env->Option (Option Int))(env:Env):Option PV:=(f env).bind λx=>(lo env).bind λl=>(hi env).bind λh=>match x with
 | .lst xs=>some (.lst (dY xs l h))
 | .frz xs=>some (.lst (dY xs l h))
 | .str x=>if x.length<=1000000 then some (.str (cT x l h)) else none
 | _=>none
@[simp] theorem aaf (f:rh)(lo hi:Env->Option (Option Int))(env:Env):LJ f lo hi env=((f env).bind λx=>(lo env).bind λl=>(hi env).bind λh=>match x with
 | .lst xs=>some (.lst (dY xs l h))
 | .frz xs=>some (.lst (dY xs l h))
 | .str x=>if x.length<=1000000 then some (.str (cT x l h)) else none
 | _=>none):=id rfl
theorem dR {lo hi:Option Expr}{p2:Pos}{fl fh:Env->Option (Option Int)}(h1:SE X b G m e f)(hl:SO X b G lo fl)(hh:SO X b G hi fh)(hK:autoParam (X.K=b.C.K) r0_):SE X b G .val (.Subscript e (.Slice lo hi none p2) pos) (LJ f fl fh):=by
 refine PE.imp (O1 (r:=V5 b.C.K) (by rw[← hK];exact V6) h1.bor hl hh) fun σ H Q ⟨Ow,env,p,E,hf,k⟩=>?_
 unfold LJ at hf
 cases q1:f env with
 | none=>rw[q1] at hf;cases hf
 | some p1=>
  rw[q1] at hf
  cases q2:fl env with
  | none=>rw[q2] at hf;cases hf
  | some l=>
   rw[q2] at hf
   cases q3:fh env with
   | none=>rw[q3] at hf;cases hf
   | some h=>
    rw[q3] at hf
    refine⟨Ow,env,p1,E,q1,λv H1 s1 r1=>⟨Ow,env,l,E.up s1,q2,λH2 s2=>⟨Ow,env,h,E.up (s1.trans s2),q3,λH3 s3=>?_⟩⟩⟩
    have MQ:FC b.C (Bs b Ow) H3 v p1:=Res.up (m:=.bor) r1 (s2.trans s3)
    cases p1 <;> simp only[bq] at hf
    case lst xs=>
     cases hf
     obtain⟨a,vs,rfl,ha,ra⟩:=MQ.lst
     exact .inl ⟨a,vs,rfl,F8.of ha,λq hq=>k _ _ (s1.trans (s2.trans (s3.trans (bc hq _)))) (Res.val (m:=.own) E (λz=>nomatch z) (Res.down (s1.trans (s2.trans s3)) (fP hq (ra.cut l h))))⟩
    case frz xs=>
     cases hf
     obtain⟨a,vs,rfl,ha,ra⟩:=MQ.frz
     exact .inl ⟨a,vs,rfl,ha,λq hq=>k _ _ (s1.trans (s2.trans (s3.trans (bc hq _)))) (Res.val (m:=.own) E (λz=>nomatch z) (Res.down (s1.trans (s2.trans s3)) (fP hq (ra.cut l h))))⟩
    case str x=>
     split at hf
     ·rename_i hx
      cases hf
      exact .inr ⟨x,MQ.str,ig hx,k _ _ (s1.trans (s2.trans s3)) (.str _)⟩
     ·cases hf
    all_goals cases hf
theorem Fj {id:String}{r:List V->Hp->VK->Prop}{g:PV->Option PV}(hc:F6 X (.builtin id) r)(hr:Op1 b m (λv H Q=>r [v] H Q) g)(hm:X.mg x=none)(hv:bootBuiltins x=some (.builtin id))(h:SE X b G m1 e f)
  (hg:autoParam (Gl X x) r0_) (hn:x ≠ "__name__" := by decide) (Nl:autoParam ((x == ("__debug__" : Str))=false) r1_) (he:autoParam (starEach [e] X.env=(false,eval e X.env)::starEach [] X.env) r0_):
  SE X b G m (.Call (.Name x p) [e] [] pos) (b1 g f):=
 PE.imp (yr hc hg hm hv (cF h.bor eZ he) hn Nl he rfl) fun σ H Q h=>Ju hr h
theorem xf {id:String}{r:List V->Hp->VK->Prop}{g:PV->Option PV}(hc:F6 X (.type id) r)(hr:Op1 b m (λv H Q=>r [v] H Q) g)(hm:X.mg x=none)(hv:bootBuiltins x=some (.type id))(h:SE X b G m1 e f)
  (hg:autoParam (Gl X x) r0_) (hn:x ≠ "__name__" := by decide) (Nl:autoParam ((x == ("__debug__" : Str))=false) r1_) (he:autoParam (starEach [e] X.env=(false,eval e X.env)::starEach [] X.env) r0_):
  SE X b G m (.Call (.Name x p) [e] [] pos) (b1 g f):=
 PE.imp (KZ hc hg hm hv (cF h.bor eZ he) hn Nl he rfl) fun σ H Q h=>Ju hr h
@[simp] noncomputable def F7:PV->Option PV
 | .lst xs=>some (.int xs.length)
 | .frz xs=>some (.int xs.length)
 | .tup xs=>some (.int xs.length)
 | .ktp xs=>some (.int xs.length)
 | .str x=>if x.length<=1000000 then some (.int x.length) else none
 | .dK kvs=>some (.int kvs.length)
 | _=>none
theorem F9.length {C:MC}{A:Addr->Prop}{H:Hp}:∀{vs:List (Key×V)}{ps:List (Key×PV)},F9 C A H vs ps->vs.length=ps.length
 | _,_,.nil=>rfl
 | _,_,.cons _ t=>by simp[F9.length t]
theorem bZ (hm:X.mg "len" = none)(h:SE X b G m1 e f)(hK:autoParam (X.K=b.C.K) r0_)(hg:Gl X "len" := by rfl)(he:autoParam (starEach [e] X.env=(false,eval e X.env)::starEach [] X.env) r0_):SE X b G .val (.Call (.Name "len" p) [e] [] pos) (b1 F7 f):=by
 refine Fj (F6.or (F6.or Ey Ez) Lb) (λOw H v1 p1 p Q hn r1 e k=>?_) hm PySem.boot_len h hg (by decide) (by decide) he
 rw[hK]
 cases p1 <;> simp only[F7] at e
 case lst xs=>cases e;obtain⟨a,vs,rfl,ha,ra⟩:=r1.lst;exact .inl (.inl ⟨a,vs,rfl,.inl (F8.of ha),by rw[ra.length];exact k _ H (FD.refl _) (.int _)⟩)
 case frz xs=>cases e;obtain⟨a,vs,rfl,ha,ra⟩:=r1.frz;exact .inl (.inl ⟨a,vs,rfl,.inl ha,by rw[ra.length];exact k _ H (FD.refl _) (.int _)⟩)
 case tup xs=>cases e;obtain⟨a,vs,rfl,ha,ra⟩:=r1.tup;exact .inl (.inl ⟨a,vs,rfl,.inr ha.sq,by rw[ra.length];exact k _ H (FD.refl _) (.int _)⟩)
 case ktp xs=>cases e;obtain⟨a,vs,rfl,ha,ra⟩:=r1.ktp;exact .inl (.inl ⟨a,vs,rfl,.inr ha,by rw[ra.length];exact k _ H (FD.refl _) (.int _)⟩)
 case str x=>
  split at e
  ·rename_i hx
   cases e
   rw[r1.str]
   exact .inl (.inr ⟨x,rfl,ig hx,k _ H (FD.refl _) (.int _)⟩)
  ·cases e
 case dK kvs=>cases e;obtain⟨a,vs,rfl,ha,ra⟩:=r1.dK;exact .inr ⟨a,vs,rfl,ha,by rw[ra.length];exact k _ H (FD.refl _) (.int _)⟩
 all_goals cases e
noncomputable def Eb:Key->PV
 | .inl i=>.int i
 | .inr x=>.str x
@[simp] noncomputable def qt:PV->Option PV
 | .lst xs=>some (.lst xs)
 | .frz xs=>some (.lst xs)
 | .tup xs=>some (.lst xs)
 | .ktp xs=>some (.lst xs)
 | .dK kvs=>some (.lst (kvs.map λkv=>Eb kv.1))
 | _=>none
theorem Sv (k:Key):Rep C A H (kV k) (Eb k):=by cases k with | inl i=>exact .int i | inr x=>exact .str x
theorem F9.keys {C:MC}{A:Addr->Prop}{H:Hp}:∀{vs:List (Key×V)}{ps:List (Key×PV)},F9 C A H vs ps->Fu C A H (vs.map λkv=>kV kv.1) (ps.map λkv=>Eb kv.1)
 | _,_,.nil=>.nil
 | _,_,.cons (k:=k) _ t=>.cons (Sv k) (F9.keys t)
theorem uo (hm:X.mg "list" = none)(h:SE X b G m1 e f)(OB:autoParam (X.calm=true) r0_)(hK:autoParam (X.K=b.C.K) r0_)(hg:Gl X "list" := by rfl)(he:autoParam (starEach [e] X.env=(false,eval e X.env)::starEach [] X.env) r0_):SE X b G .own (.Call (.Name "list" p) [e] [] pos) (b1 qt f):=by
 refine xf (F6.or EY (Al OB)) (λOw H v1 p1 p Q hn r1 e k=>?_) hm iq h hg (by decide) (by decide) he
 rw[hK]
 cases p1 <;> simp only[qt] at e <;> cases e
 case lst xs=>obtain⟨a,vs,rfl,ha,ra⟩:=r1.lst;exact .inl ⟨a,vs,rfl,.inl (F8.of ha),λl hl=>k _ _ (bc hl _) (fP hl ra)⟩
 case frz xs=>obtain⟨a,vs,rfl,ha,ra⟩:=r1.frz;exact .inl ⟨a,vs,rfl,.inl ha,λl hl=>k _ _ (bc hl _) (fP hl ra)⟩
 case tup xs=>obtain⟨a,vs,rfl,ha,ra⟩:=r1.tup;exact .inl ⟨a,vs,rfl,.inr ha.sq,λl hl=>k _ _ (bc hl _) (fP hl ra)⟩
 case ktp xs=>obtain⟨a,vs,rfl,ha,ra⟩:=r1.ktp;exact .inl ⟨a,vs,rfl,.inr ha,λl hl=>k _ _ (bc hl _) (fP hl ra)⟩
 case dK kvs=>obtain⟨a,vs,rfl,ha,ra⟩:=r1.dK;exact .inr ⟨a,vs,rfl,ha,λl hl=>k _ _ (bc hl _) (fP hl ra.keys)⟩
@[simp] noncomputable def vU:PV->Option PV
 | .int i=>some (.int i)
 | .bl k=>some (.int (if k then 1 else 0))
 | _=>none
theorem xg (hm:X.mg "int" = none)(h:SE X b G m1 e f)(hg:Gl X "int" := by rfl)(he:autoParam (starEach [e] X.env=(false,eval e X.env)::starEach [] X.env) r0_):SE X b G .val (.Call (.Name "int" p) [e] [] pos) (b1 vU f):=by
 refine xf KJ (λOw H v1 p1 p Q hn r1 e k=>?_) hm PyProof.Rows.boot_int h hg (by decide) (by decide) he
 cases p1 <;> simp only[vU] at e <;> cases e
 ·rw[r1.bl];exact .inr ⟨_,rfl,k _ H (FD.refl _) (.int _)⟩
 ·rw[r1.int];exact .inl ⟨_,rfl,k _ H (FD.refl _) (.int _)⟩
@[simp] noncomputable def bools:List PV->Option (List Bool)
 | []=>some []
 | .bl c::r=>(bools r).map (c::·)
 | _::_=>none
theorem Fu.bools {C:MC}{A:Addr->Prop}{H:Hp}:∀{vs:List V}{ps:List PV}{bs:List Bool},Fu C A H vs ps->bools ps=some bs->vs=bs.map V.bl
 | _,_,_,.nil,e=>by cases e;rfl
 | _,_,_,.cons (p:=p) (ps:=ps) h t,e=>by
  cases p <;> simp only[MR.bools] at e <;> first | cases e | skip
  rename_i c
  cases q:MR.bools ps with
  | none=>rw[q] at e;cases e
  | some bs=>rw[q] at e;cases e;cases h;rw[Fu.bools t q];rfl
@[simp] noncomputable def pX:PV->Option PV
 | .lst xs=>(bools xs).map λbs=>.bl (bs.all id)
 | _=>none
@[simp] noncomputable def Pj:PV->Option PV
 | .lst xs=>(bools xs).map λbs=>.bl (bs.any id)
 | _=>none
theorem pI (hm:X.mg "all" = none)(h:SE X b G m1 e f)(OB:autoParam (X.calm=true) r0_)(hg:Gl X "all" := by rfl)(he:autoParam (starEach [e] X.env=(false,eval e X.env)::starEach [] X.env) r0_):SE X b G .val (.Call (.Name "all" p) [e] [] pos) (b1 pX f):=by
 refine Fj (O_ OB) (λOw H v1 p1 p Q hn r1 e k=>?_) hm PyProof.Rows.boot_all h hg (by decide) (by decide) he
 cases p1 <;> simp only[pX] at e <;> first | cases e | skip
 rename_i xs
 cases q:bools xs with
 | none=>rw[q] at e;cases e
 | some bs=>
  rw[q] at e
  cases e
  obtain⟨a,vs,rfl,ha,ra⟩:=r1.lst
  have hv:=ra.bools q
  subst hv
  exact⟨a,bs,rfl,F8.of ha,k _ H (FD.refl _) (.bl _)⟩
theorem Wl (hm:X.mg "any" = none)(h:SE X b G m1 e f)(OB:autoParam (X.calm=true) r0_)(hg:Gl X "any" := by rfl)(he:autoParam (starEach [e] X.env=(false,eval e X.env)::starEach [] X.env) r0_):SE X b G .val (.Call (.Name "any" p) [e] [] pos) (b1 Pj f):=by
 refine Fj (Pa OB) (λOw H v1 p1 p Q hn r1 e k=>?_) hm PyProof.Rows.boot_any h hg (by decide) (by decide) he
 cases p1 <;> simp only[Pj] at e <;> first | cases e | skip
 rename_i xs
 cases q:bools xs with
 | none=>rw[q] at e;cases e
 | some bs=>
  rw[q] at e
  cases e
  obtain⟨a,vs,rfl,ha,ra⟩:=r1.lst
  have hv:=ra.bools q
  subst hv
  exact⟨a,bs,rfl,F8.of ha,k _ H (FD.refl _) (.bl _)⟩
@[simp] noncomputable def HP:List PV->Option (List Str)
 | []=>some []
 | .str c::r=>(HP r).map (c::·)
 | _::_=>none
theorem Fu.HP {C:MC}{A:Addr->Prop}{H:Hp}:∀{vs:List V}{ps:List PV}{bs:qE},Fu C A H vs ps->HP ps=some bs->vs=bs.map V.str
 | _,_,_,.nil,e=>by cases e;rfl
 | _,_,_,.cons (p:=p) (ps:=ps) h t,e=>by
  cases p <;> simp only[MR.HP] at e <;> first | cases e | skip
  rename_i c
  cases q:MR.HP ps with
  | none=>rw[q] at e;cases e
  | some bs=>rw[q] at e;cases e;cases h;rw[Fu.HP t q];rfl
@[simp] noncomputable def xj:PV->PV->Option PV
 | .str z,.lst xs=>(HP xs).bind λzs=>if JoinOk z zs=true then some (.str (Str.join z zs)) else none
 | _,_=>none
@[simp] noncomputable def vV:PV->PV->Option PV
 | .str z,.str y=>if (y.length == 0)=false/\z.length<=1000000 then some (.lst ((Txt.split z y).map .str)) else none
 | _,_=>none
theorem Ri {id:String}{name:Str}{FG:Pos}{o:Expr}{fo:rh}{r:V->List V->Hp->VK->Prop}{g:PV->PV->Option PV}(slot:Slot "str" name id)(hty:typeOf (.builtin id)=pure (.type "method_descriptor"))(pa:PlainAttrs "str")(hm:MtR X id r)
  (hr:MD b m (λx y H Q=>(∃z,x=.str z)->r x [y] H Q) g) (hgs:∀x y p,g x y=some p->∃z,x=.str z) (ho:SE X b G m1 o fo) (h:SE X b G m2 e f)
  (He:autoParam (attributeBase o name X.env (eval o X.env)=eval o X.env) r0_)
  (ML:((backTo FG (starEach [e] X.env)).all (λx=>!x.1)&&(backToKw FG (keywordEach [] X.env)).all (λx=>x.1.isSome)
   && decide ([e].length+([]:List Keyword).length+(if ([]:List Keyword).isEmpty then 0 else 1) < 30))=true:=by rfl)
  (HA:autoParam ((apos.endLine == FG.line)=true) r0_) (hs:autoParam (starEach [e] X.env=(false,eval e X.env)::starEach [] X.env) r0_):
  SE X b G m (.Call (.Attribute o name apos) [e] [] FG) (b2 g fo f):=by
 refine PE.imp (Jq pa slot hty hm ho.bor (cF h.bor eZ hs) He ML HA hs rfl) fun σ H Q h=>?_
 obtain⟨Ow,env,p,E,hf,k⟩:=h
 unfold b2 at hf
 cases q1:fo env with
 | none=>rw[q1] at hf;cases hf
 | some p1=>
  rw[q1] at hf
  cases q2:f env with
  | none=>rw[q2] at hf;cases hf
  | some p2=>
   rw[q2] at hf
   simp only[bq] at hf
   obtain⟨z,rfl⟩:=hgs _ _ _ hf
   refine⟨Ow,env,_,E,q1,λv1 H1 s1 r1=>?_⟩
   have MQ:FC b.C (Bs b Ow) H1 v1 (.str z):=r1
   have ev:=MQ.str
   subst ev
   refine⟨rfl,Ow,env,p2,E.up s1,q2,λv2 H2 s2 r2=>?_⟩
   exact hr Ow H2 _ v2 _ p2 p Q (λa=>(E.up (s1.trans s2)).fresh) (FC.ex (.of_same s2) s2 MQ) r2 hf (λv H' s r=>k v H' (s1.trans (s2.trans s)) (r.down (s1.trans s2))) ⟨z,rfl⟩
theorem Sw:MD b .val (λx y H Q=>(∃z,x=.str z)->rJoin b.C.K x [y] H Q) xj:=by
 intro Ow H v1 v2 p1 p2 p Q hn r1 r2 e k _
 unfold xj at e
 split at e
 ·rename_i z xs
  cases q:HP xs with
  | none=>rw[q] at e;cases e
  | some zs=>
   rw[q] at e
   simp only[bq] at e
   split at e
   ·rename_i hj
    cases e
    obtain⟨a,vs,rfl,ha,ra⟩:=r2.lst
    have hv:=ra.HP q
    subst hv
    exact⟨z,a,zs,r1.str,rfl,F8.of ha,hj,k _ H (FD.refl _) (.str _)⟩
   ·cases e
 ·cases e
theorem Pk:MD b .own (λx y H Q=>(∃z,x=.str z)->Le x [y] H Q) vV:=by
 intro Ow H v1 v2 p1 p2 p Q hn r1 r2 e k _
 unfold vV at e
 split at e
 ·rename_i z y
  split at e
  ·rename_i hj
   cases e
   refine⟨z,y,r1.str,by rw[r2.str],hj.1,hj.2,λl hl=>k _ _ (bc hl _) (fP hl (w5 _ _ (λx=>.str x) _))⟩
  ·cases e
 ·cases e
theorem Sx {FG:Pos}{o:Expr}{fo:rh}(ho:SE X b G m1 o fo)(h:SE X b G m2 e f)(hK:autoParam (X.K=b.C.K) r0_)(He:autoParam (attributeBase o "join" X.env (eval o X.env)=eval o X.env) r0_)
  (ML:((backTo FG (starEach [e] X.env)).all (λx=>!x.1)&&(backToKw FG (keywordEach [] X.env)).all (λx=>x.1.isSome)
   && decide ([e].length+([]:List Keyword).length+(if ([]:List Keyword).isEmpty then 0 else 1) < 30))=true:=by rfl)
  (HA:autoParam ((apos.endLine == FG.line)=true) r0_) (hs:autoParam (starEach [e] X.env=(false,eval e X.env)::starEach [] X.env) r0_):
  SE X b G .val (.Call (.Attribute o "join" apos) [e] [] FG) (b2 xj fo f):=
 Ri PySem.F.slot_str_join PySem.F.type_str_join n0 (r:=rJoin b.C.K) (by rw[← hK];exact Sh) Sw (λx y p e=>by
  unfold xj at e
  split at e
  ·exact⟨_,rfl⟩
  ·cases e) ho h He ML HA hs
theorem Pn {FG:Pos}{o:Expr}{fo:rh}(ho:SE X b G m1 o fo)(h:SE X b G m2 e f)(He:autoParam (attributeBase o "split" X.env (eval o X.env)=eval o X.env) r0_)
  (ML:((backTo FG (starEach [e] X.env)).all (λx=>!x.1)&&(backToKw FG (keywordEach [] X.env)).all (λx=>x.1.isSome)
   && decide ([e].length+([]:List Keyword).length+(if ([]:List Keyword).isEmpty then 0 else 1) < 30))=true:=by rfl)
  (HA:autoParam ((apos.endLine == FG.line)=true) r0_) (hs:autoParam (starEach [e] X.env=(false,eval e X.env)::starEach [] X.env) r0_):
  SE X b G .own (.Call (.Attribute o "split" apos) [e] [] FG) (b2 vV fo f):=
 Ri PySem.F.slot_str_split PySem.F.type_str_split n0 O9 Pk (λx y p e=>by
  unfold vV at e
  split at e
  ·exact⟨_,rfl⟩
  ·cases e) ho h He ML HA hs
def Ret (C:MC)(A:Addr->Prop)(H:Hp)(ro:Bool)(H':Hp)(v:V)(p:PV):Prop:=match ro with
 | true=>∃a,v=.ref a/\H a=none/\Top C (λc=>(A c\/H c=none)/\c≠a) H' a p
 | false=>Rep C (λc=>A c\/H c=none) H' v p
def Kj (C:MC)(m:List PV->Option PV)(ro:Bool):Sp:=λvs H Q _=>∃A ps p,Fu C A H vs ps/\m ps=some p/\∀v H',FD H H'->Ret C A H ro H' v p->Q v H'
def Jz:Bool->Md
 | true=>.own
 | false=>.val
theorem Ret.res {H1 H':Hp}{q:PV}(E:ER b Ow G σ env H)(s:FD H H1)(r:Ret b.C (Bs b Ow) H1 ro H' v q):Res b Ow H H' (Jz ro) v q:=by
 cases ro with
 | true=>
  obtain⟨a,rfl,h,t⟩:=r
  exact⟨a,rfl,s.free h,t.ex (dC λc o _ z=>⟨z.1.elim id λw=>(E.up s).fresh w,z.2⟩) λo z=>z⟩
 | false=>exact Rep.ex (dC λc o _ z=>z.elim id λw=>(E.up s).fresh w) r
theorem HS {k j:Nat}(c:X2 X.prog X.w X.K X.mg X.base k x ps (Kj b.C mi ro))(hr:F0 j X.A)(ha:SA X b G false (e::es) g)(hle:autoParam (k<=j) r1_)(hg:autoParam (Gl X x) r0_)
  (Nl:autoParam ((x == ("__debug__" : Str))=false) r1_) (he:autoParam (starEach (e::es) X.env=(false,eval e X.env)::starEach es X.env) r0_) (IH:autoParam ((backTo pos (starEach es X.env)).any (·.1)=false) r0_):
  SE X b G (Jz ro) (.Call (.Name x p) (e::es) [] pos) (aH mi g):=by
 refine PE.imp (V2 c hr ha hle hg Nl he IH) ?_
 rintro σ H Q ⟨Ow,env,q,E,hf,kk⟩
 unfold aH at hf
 cases q1:g env with
 | none=>rw[q1] at hf;cases hf
 | some qs=>
  rw[q1] at hf
  refine⟨Ow,env,qs,E,q1,λvs H1 s1 r=>?_⟩
  dsimp only
  rw[bp]
  exact⟨Bs b Ow,qs,q,Ea r,hf,λv H' s' rr=>kk v H' (s1.trans s') (Ret.res E s1 rr)⟩
mutual
noncomputable def QP:PV->Bool
 | .lst _=>false
 | .tup xs=>Ao xs
 | .ktp xs=>Ao xs
 | .frz xs=>Ao xs
 | .dK kvs=>JB kvs
 | .dT kvs=>JC kvs
 | .obj _ fs=>Fl fs
 | _=>true
noncomputable def Ao:List PV->Bool
 | []=>true
 | x::xs=>QP x&&Ao xs
noncomputable def JB:List (Key×PV)->Bool
 | []=>true
 | x::xs=>QP x.2&&JB xs
noncomputable def JC:List (List Key×PV)->Bool
 | []=>true
 | x::xs=>QP x.2&&JC xs
noncomputable def Fl:List (Str×PV)->Bool
 | []=>true
 | x::xs=>QP x.2&&Fl xs
end
def NL (A A':Addr->Prop)(H:Hp):Prop:=∀a o,H a=some o->A a->A' a\/∃vs,o=.lst vs
mutual
theorem Rep.nl {C:MC}{A A':Addr->Prop}{H:Hp}(e:NL A A' H):∀{v:V}{p:PV},Rep C A H v p->QP p=true->Rep C A' H v p
 | _,_,.FE,_=>.FE
 | _,_,.bl b,_=>.bl b
 | _,_,.int i,_=>.int i
 | _,_,.str x,_=>.str x
 | _,_,.lst h q r,n=>by simp only[QP] at n;cases n
 | _,_,.Nw h r,n=>.Nw h (Fu.nl e r (by simpa only [QP] using n))
 | _,_,.lstK h r,n=>.lstK h (Fu.nl e r (by simpa only [QP] using n))
 | _,_,.tup h r,n=>.tup h (Fu.nl e r (by simpa only [QP] using n))
 | _,_,.MB h r,n=>.MB h (Fu.nl e r (by simpa only [QP] using n))
 | _,_,.tupK h r,n=>.tupK h (Fu.nl e r (by simpa only [QP] using n))
 | _,_,.dK h q r,n=>.dK h ((e _ _ h q).elim id λ⟨_,z⟩=>nomatch z) (F9.nl e r (by simpa only [QP] using n))
 | _,_,.dT h q r,n=>.dT h ((e _ _ h q).elim id λ⟨_,z⟩=>nomatch z) (FY.nl e r (by simpa only [QP] using n))
 | _,_,.obj h q r,n=>.obj h ((e _ _ h q).elim id λ⟨_,z⟩=>nomatch z) (GY.nl e r (by simpa only [QP] using n))
theorem Fu.nl {C:MC}{A A':Addr->Prop}{H:Hp}(e:NL A A' H):∀{v:List V}{p:List PV},Fu C A H v p->Ao p=true->Fu C A' H v p
 | _,_,.nil,_=>.nil
 | _,_,.cons h t,n=>by
  simp only[Ao,cb] at n
  exact .cons (Rep.nl e h n.1) (Fu.nl e t n.2)
theorem F9.nl {C:MC}{A A':Addr->Prop}{H:Hp}(e:NL A A' H):∀{v:List (Key×V)}{p:List (Key×PV)},F9 C A H v p->JB p=true->F9 C A' H v p
 | _,_,.nil,_=>.nil
 | _,_,.cons h t,n=>by
  simp only[JB,cb] at n
  exact .cons (Rep.nl e h n.1) (F9.nl e t n.2)
theorem FY.nl {C:MC}{A A':Addr->Prop}{H:Hp}(e:NL A A' H):∀{v:List (List Key×V)}{p:List (List Key×PV)},FY C A H v p->JC p=true->FY C A' H v p
 | _,_,.nil,_=>.nil
 | _,_,.cons h t,n=>by
  simp only[JC,cb] at n
  exact .cons (Rep.nl e h n.1) (FY.nl e t n.2)
theorem GY.nl {C:MC}{A A':Addr->Prop}{H:Hp}(e:NL A A' H):∀{v:List (Str×V)}{p:List (Str×PV)},GY C A H v p->Fl p=true->GY C A' H v p
 | _,_,.nil,_=>.nil
 | _,_,.cons h t,n=>by
  simp only[Fl,cb] at n
  exact .cons (Rep.nl e h n.1) (GY.nl e t n.2)
end
noncomputable def oG (c:Nat)(x:Str)(f:rh)(env:Env):Option PV:=(f env).bind λp=>match p with
 | .obj c' fs=>if c'=c then fs.lookup x else none
 | _=>none
@[simp] theorem ZZ (c:Nat)(x:Str)(f:rh)(env:Env):oG c x f env=((f env).bind λp=>match p with
 | .obj c' fs=>if c'=c then fs.lookup x else none
 | _=>none):=id rfl
theorem lg {c:Nat}(hc:N9 b.C.K (b.C.cl c))(hn:GI b.C.K (b.C.cl c) x)(h:SE X b G m e f)(hb:autoParam (attributeBase e x X.env (eval e X.env)=eval e X.env) r0_)(hK:autoParam (X.K=b.C.K) r0_):SE X b G .val (.Attribute e x pos) (oG c x f):=
 PE.imp (Vm h.bor hb)<|by
  rintro σ H Q ⟨Ow,env,p,E,hf,k⟩
  unfold oG at hf
  cases q1:f env with
  | none=>rw[q1] at hf;cases hf
  | some p1=>
   rw[q1] at hf
   refine⟨Ow,env,p1,E,q1,λv H1 s1 r1=>?_⟩
   have MQ:FC b.C (Bs b Ow) H1 v p1:=r1
   cases p1 <;> simp only[bq] at hf <;> first | cases hf | skip
   rename_i c' fs
   split at hf
   ·rename_i Sk
    subst Sk
    obtain⟨a,dx,fv,rfl,ha,ra⟩:=MQ.obj
    obtain⟨v',hv,rv⟩:=ra.look hf
    rw[hK]
    exact⟨a,_,dx,fv,v',rfl,ha,hc,hn,hv,k v' H1 s1 rv⟩
   ·cases hf
structure IS (P:Program)(w:World)(K:W.Frag)(mg:Str->Option Value)(base:Heap)(C:Addr)(k:Nat)(x:Str)(ps:qE)(sp:Sp):Prop where
 ex:∃f fd,GV P w K mg base MO k f fd ps sp/\Binds K fd ps []/\Meth K C x f
noncomputable def gj (c:Nat)(x:Str)(mi:List PV->Option PV)(f:rh)(g:Env->Option (List PV))(env:Env):Option PV:=(f env).bind λp=>match p with
 | .obj c' fs=>if c'=c/\fs.lookup x=none then (g env).bind λps=>mi (p::ps) else none
 | _=>none
@[simp] theorem Zu (c:Nat)(x:Str)(mi:List PV->Option PV)(f:rh)(g:Env->Option (List PV))(env:Env):gj c x mi f g env=((f env).bind λp=>match p with
 | .obj c' fs=>if c'=c/\fs.lookup x=none then (g env).bind λps=>mi (p::ps) else none
 | _=>none):=id rfl
theorem Sy {c k j:Nat}{o:Expr}{fo:rh}(cM:IS X.prog X.w X.K X.mg X.base (b.C.cl c) k x ps (Kj b.C mi ro))(hc:N9 X.K (b.C.cl c))(hr:F0 j X.A)(ho:SE X b G .val o fo)(ha:SA X b G false (e::es) g)(hle:autoParam (k<=j) r1_)
  (Pl:autoParam (starEach (e::es) X.env=(false,eval e X.env)::starEach es X.env) r0_) (IH:autoParam ((backTo pos (starEach es X.env)).any (·.1)=false) r0_){pl:Sem Bool}
  (ht:eval (.Call (.Attribute o x apos) (e::es) [] pos) X.env=(do
   let ov ← eval o X.env
   standAt apos.atName
   let (f,first) ← holding [ov] (getMethod ov x pl)
   callWith pos f first (backTo pos (starEach (e::es) X.env)) (backToKw pos (keywordEach [] X.env))):=by rfl):
  SE X b G (Jz ro) (.Call (.Attribute o x apos) (e::es) [] pos) (gj c x mi fo g):=by
 obtain⟨f,fd,F,hb,hM⟩:=cM.ex
 refine PE.imp (RT (pl:=pl) ho hc hM F (hr.mono hle) hb .nil DX ha Pl IH ht) ?_
 rintro σ H Q ⟨Ow,env,q,E,hf,kk⟩
 unfold gj at hf
 cases q1:fo env with
 | none=>rw[q1] at hf;cases hf
 | some p1=>
  rw[q1] at hf
  refine⟨Ow,env,p1,E,q1,λv H1 s1 r1=>?_⟩
  have r1v:Rep b.C (Bs b Ow) H1 v p1:=r1
  cases p1 <;> simp only[bq] at hf <;> first | cases hf | skip
  rename_i c' fs
  split at hf
  ·rename_i Sk
   obtain⟨rfl,QU⟩:=Sk
   cases q2:g env with
   | none=>rw[q2] at hf;cases hf
   | some qs=>
    rw[q2] at hf
    obtain⟨a,dx,fv,rfl,hha,ra⟩:=FC.obj (.inl r1v)
    refine⟨a,dx,fv,rfl,hha,ra.S4 QU,Ow,env,qs,E.up s1,q2,λvs H2 s2 r2=>?_⟩
    dsimp only
    rw[bp]
    exact⟨Bs b Ow,_::qs,q,.cons (r1v.ex (.of_same s2)) (Ea r2),hf,λv' H' s' rr=>kk v' H' (s1.trans (s2.trans s')) (Ret.res E (s1.trans s2) rr)⟩
  ·cases hf
theorem Pq {c k j:Nat}{o:Expr}{fo:rh}(cM:IS X.prog X.w X.K X.mg X.base (b.C.cl c) k x ps (Kj b.C mi ro))(hc:N9 X.K (b.C.cl c))(hr:F0 j X.A)(ho:SE X b G .val o fo)(hle:autoParam (k<=j) r1_){pl:Sem Bool}
  (ht:eval (.Call (.Attribute o x apos) [] [] pos) X.env=(do
   let ov ← eval o X.env
   standAt apos.atName
   let (f,first) ← holding [ov] (getMethod ov x pl)
   callWith pos f first (backTo pos (starEach [] X.env)) (backToKw pos (keywordEach [] X.env))):=by rfl):
  SE X b G (Jz ro) (.Call (.Attribute o x apos) [] [] pos) (gj c x mi fo aB):=by
 obtain⟨f,fd,F,hb,hM⟩:=cM.ex
 refine PE.imp (Om (pl:=pl) ho hc hM F (hr.mono hle) hb .nil DX ht) ?_
 rintro σ H Q ⟨Ow,env,q,E,hf,kk⟩
 unfold gj at hf
 cases q1:fo env with
 | none=>rw[q1] at hf;cases hf
 | some p1=>
  rw[q1] at hf
  refine⟨Ow,env,p1,E,q1,λv H1 s1 r1=>?_⟩
  have r1v:Rep b.C (Bs b Ow) H1 v p1:=r1
  cases p1 <;> simp only[bq] at hf <;> first | cases hf | skip
  rename_i c' fs
  split at hf
  ·rename_i Sk
   obtain⟨rfl,QU⟩:=Sk
   obtain⟨a,dx,fv,rfl,hha,ra⟩:=FC.obj (.inl r1v)
   refine⟨a,dx,fv,rfl,hha,ra.S4 QU,?_⟩
   show Kj b.C mi ro ([.ref a]++[]) H1 Q E0
   exact⟨Bs b Ow,[_],q,.cons r1v .nil,hf,λv' H' s' rr=>kk v' H' (s1.trans s') (Ret.res E s1 rr)⟩
  ·cases hf
theorem aC {k j:Nat}(c:X2 X.prog X.w X.K X.mg X.base k x ps (Kj b.C mi false))(hr:F0 j X.A)(ha:SA X b G false (e::es) g)(hle:autoParam (k<=j) r1_)(hg:autoParam (Gl X x) r0_)
  (Nl:autoParam ((x == ("__debug__" : Str))=false) r1_) (he:autoParam (starEach (e::es) X.env=(false,eval e X.env)::starEach es X.env) r0_) (IH:autoParam ((backTo pos (starEach es X.env)).any (·.1)=false) r0_):
  SE X b G .val (.Call (.Name x p) (e::es) [] pos) (aH mi g):=HS c hr ha hle hg Nl he IH
theorem uM {k j:Nat}(c:X2 X.prog X.w X.K X.mg X.base k x ps (Kj b.C mi true))(hr:F0 j X.A)(ha:SA X b G false (e::es) g)(hle:autoParam (k<=j) r1_)(hg:autoParam (Gl X x) r0_)
  (Nl:autoParam ((x == ("__debug__" : Str))=false) r1_) (he:autoParam (starEach (e::es) X.env=(false,eval e X.env)::starEach es X.env) r0_) (IH:autoParam ((backTo pos (starEach es X.env)).any (·.1)=false) r0_):
  SE X b G .own (.Call (.Name x p) (e::es) [] pos) (aH mi g):=HS c hr ha hle hg Nl he IH
theorem iR {c k j:Nat}{o:Expr}{fo:rh}(cM:IS X.prog X.w X.K X.mg X.base (b.C.cl c) k x ps (Kj b.C mi false))(hc:N9 X.K (b.C.cl c))(hr:F0 j X.A)(ho:SE X b G .val o fo)(ha:SA X b G false (e::es) g)(hle:autoParam (k<=j) r1_)
  (Pl:autoParam (starEach (e::es) X.env=(false,eval e X.env)::starEach es X.env) r0_) (IH:autoParam ((backTo pos (starEach es X.env)).any (·.1)=false) r0_){pl:Sem Bool}
  (ht:eval (.Call (.Attribute o x apos) (e::es) [] pos) X.env=(do
   let ov ← eval o X.env
   standAt apos.atName
   let (f,first) ← holding [ov] (getMethod ov x pl)
   callWith pos f first (backTo pos (starEach (e::es) X.env)) (backToKw pos (keywordEach [] X.env))):=by rfl):
  SE X b G .val (.Call (.Attribute o x apos) (e::es) [] pos) (gj c x mi fo g):=Sy (pl:=pl) cM hc hr ho ha hle Pl IH ht
theorem B_ {c k j:Nat}{o:Expr}{fo:rh}(cM:IS X.prog X.w X.K X.mg X.base (b.C.cl c) k x ps (Kj b.C mi false))(hc:N9 X.K (b.C.cl c))(hr:F0 j X.A)(ho:SE X b G .val o fo)(hle:autoParam (k<=j) r1_){pl:Sem Bool}
  (ht:eval (.Call (.Attribute o x apos) [] [] pos) X.env=(do
   let ov ← eval o X.env
   standAt apos.atName
   let (f,first) ← holding [ov] (getMethod ov x pl)
   callWith pos f first (backTo pos (starEach [] X.env)) (backToKw pos (keywordEach [] X.env))):=by rfl):
  SE X b G .val (.Call (.Attribute o x apos) [] [] pos) (gj c x mi fo aB):=Pq (pl:=pl) cM hc hr ho hle ht
end
section
variable {b:BX}{Ow:Addr->Prop}{G:qr}{σ:St}{env:Env}{H H':Hp}
theorem ER.set (E:ER b Ow G σ env H){i:Nat}{v:V}{p:PV}(hi:i∉G)(r:Rep b.C (Bs b Ow) H v p)(hx:b.fx i=none):ER b Ow G (σ.set i (some v)) (env.set i (some p)) H:=by
 refine⟨by rw[em,em];exact E.len,E.same,E.live,E.new,λj q e n=>?_,λj q e n=>?_,λj k a q q' e1 n1 s1 e2 n2 s2=>?_,λk w hw=>?_⟩
 ·by_cases hj:i=j
  ·subst hj
   rw[kF] at e
   split at e
   ·split at e
    ·rename_i hl
     have:=bo (bo e)
     subst this
     exact⟨v,by rw[eC (by rw[E.len];exact hl)],r⟩
    ·cases e
   ·exact absurd rfl ‹_›
  ·rw[br hj] at e ⊢
   exact E.val j q e n
 ·have hj:i≠j:=λz=>hi (z▸n)
  rw[br hj] at e ⊢
  exact E.own j q e n
 ·have hj:i≠j:=λz=>hi (z▸n1)
  have hk:i≠k:=λz=>hi (z▸n2)
  rw[br hj] at e1 s1
  rw[br hk] at e2 s2
  exact E.sep j k a q q' e1 n1 s1 e2 n2 s2
 ·by_cases hk:i=k
  ·subst hk;rw[hx] at hw;cases hw
  ·rw[br hk];exact E.fix k w hw
theorem ER.setO (E:ER b Ow G σ env H){i:Nat}{p:PV}{H0:Hp}{G':qr}(hG:∀j,j∈G'↔(j∈G\/j=i))(s0:FD H0 H)(hn:H0 a=none)(hE0:ER b Ow G σ env H0)(t:Top b.C (λc=>Bs b Ow c/\c≠a) H a p)(hx:b.fx i=none):
  ER b (λc=>Ow c\/c=a) G' (σ.set i (some (.ref a))) (env.set i (some p)) H/\Ex (Bs b Ow) H0 (Bs b λc=>Ow c\/c=a) H:=by
 have hx0:Ex (Bs b Ow) H0 (Bs b λc=>Ow c\/c=a) H:=λc o h=>⟨λq=>⟨s0 _ _ h,λz=>z.elim q.1 (a_ h hn),q.2⟩,λ_=>s0 _ _ h⟩
 have ht:Top b.C (Bs b λc=>Ow c\/c=a) H a p:=t.ex (dC λc o _ q=>⟨λz=>z.elim q.1.1 q.2,q.1.2⟩) λo z=>z
 refine⟨⟨by rw[em,em];exact E.len,E.same,λc w=>w.elim (E.live c) λz=>by subst z;obtain⟨o,h,_⟩:=t.live;exact⟨o,h⟩,λc w=>w.elim (E.new c) λz=>by subst z;exact hE0.same.free hn,λj q e n=>?_,λj q e n=>?_,λj k c q q' e1 n1 s1 e2 n2 s2=>?_,λk w hw=>?_⟩,hx0⟩
 ·have hj:i≠j:=λz=>n ((hG j).mpr (.inr z.symm))
  rw[br hj] at e ⊢
  obtain⟨v,h1,h2⟩:=hE0.val j q e λz=>n ((hG j).mpr (.inl z))
  exact⟨v,h1,h2.ex hx0⟩
 ·by_cases hj:i=j
  ·subst hj
   rw[kF] at e
   split at e
   ·split at e
    ·rename_i hl
     have:=bo (bo e)
     subst this
     exact⟨a,by rw[eC (by rw[E.len];exact hl)],.inr rfl,ht⟩
    ·cases e
   ·exact absurd rfl ‹_›
  ·rw[br hj] at e ⊢
   have nG:j∈G:=((hG j).mp n).elim id λz=>absurd z.symm hj
   obtain⟨c,h1,h2,h3⟩:=hE0.own j q e nG
   exact⟨c,h1,.inl h2,h3.ex hx0 λo z=>s0 _ _ z⟩
 ·have old:∀{j:Nat}{q:PV},i≠j->j∈G'->env[j]?=some (some q)->σ[j]?=some (some (.ref c))->c≠a:=λ{j q} hj n e s=>by
   have nG:j∈G:=((hG j).mp n).elim id λz=>absurd z.symm hj
   obtain⟨c',h1,h2,h3⟩:=hE0.own j q e nG
   rw[s] at h1
   cases h1
   obtain⟨o,h4,_⟩:=h3.live
   exact a_ h4 hn
  by_cases hj:i=j
  ·by_cases hk:i=k
   ·exact hj.symm.trans hk
   ·subst hj
    rw[br hk] at e2 s2
    have hl:i < σ.length:=by
     by_cases hl:i < σ.length
     ·exact hl
     ·rw[dS (by rw[em];omega)] at s1;cases s1
    rw[eC hl] at s1
    cases s1
    exact absurd rfl (old hk n2 e2 s2)
  ·by_cases hk:i=k
   ·subst hk
    rw[br hj] at e1 s1
    have hl:i < σ.length:=by
     by_cases hl:i < σ.length
     ·exact hl
     ·rw[dS (by rw[em];omega)] at s2;cases s2
    rw[eC hl] at s2
    cases s2
    exact absurd rfl (old hj n1 e1 s1)
   ·rw[br hj] at e1 s1
    rw[br hk] at e2 s2
    have g1:j∈G:=((hG j).mp n1).elim id λz=>absurd z.symm hj
    have g2:k∈G:=((hG k).mp n2).elim id λz=>absurd z.symm hk
    exact E.sep j k c q q' e1 g1 s1 e2 g2 s2
 ·by_cases hk:i=k
  ·subst hk;rw[hx] at hw;cases hw
  ·rw[br hk];exact E.fix k w hw
theorem ER.write (E:ER b Ow G σ env H){i:Nat}{p p':PV}{o':HO}(hi:i∈G)(hσ:σ[i]?=some (some (.ref a)))(he:env[i]?=some (some p))(hw:Ow a)(t:Top b.C (Bs b Ow) H a p)(t':Top b.C (Bs b Ow) (upd H a o') a p'):
  ER b Ow G σ (env.set i (some p')) (upd H a o')/\Ex (Bs b Ow) H (Bs b Ow) (upd H a o'):=by
 obtain⟨o,ho,hm⟩:=t.live
 have hx:Ex (Bs b Ow) H (Bs b Ow) (upd H a o'):=λc u h=>⟨λq=>⟨by rw[aO (λz:c=a=>q.1 (z▸hw))];exact h,q⟩,λm=>by
  have hc:c≠a:=λz=>by subst z;rw[ho] at h;cases h;rw[hm] at m;cases m
  rw[aO hc];exact h⟩
 refine⟨⟨by rw[em];exact E.len,λc u h=>?_,λc w=>?_,E.new,λj q e n=>?_,λj q e n=>?_,λj k c q q' e1 n1 s1 e2 n2 s2=>?_,E.fix⟩,hx⟩
 ·have hc:c≠a:=a_ h (E.new a hw)
  rw[aO hc];exact E.same c u h
 ·by_cases hc:c=a
  ·subst hc;exact⟨o',bu⟩
  ·obtain⟨u,h⟩:=E.live c w
   exact⟨u,by rw[aO hc];exact h⟩
 ·have hj:i≠j:=λz=>n (z▸hi)
  rw[br hj] at e
  obtain⟨v,h1,h2⟩:=E.val j q e n
  exact⟨v,h1,h2.ex hx⟩
 ·by_cases hj:i=j
  ·subst hj
   rw[kF] at e
   split at e
   ·split at e
    ·have:=bo (bo e)
     subst this
     exact⟨a,hσ,hw,t'⟩
    ·cases e
   ·exact absurd rfl ‹_›
  ·rw[br hj] at e
   obtain⟨c,h1,h2,h3⟩:=E.own j q e n
   have hc:c≠a:=λz=>by subst z;exact hj (E.sep i j c p q he hi hσ e n h1)
   exact⟨c,h1,h2,h3.ex hx λu z=>by rw[aO hc];exact z⟩
 ·have back:∀{j:Nat}{q:PV},(env.set i (some p'))[j]?=some (some q)->∃q,env[j]?=some (some q):=λ{j q} e=>by
   by_cases hj:i=j
   ·subst hj;exact⟨p,he⟩
   ·rw[br hj] at e;exact⟨q,e⟩
  obtain⟨r1,e1'⟩:=back e1
  obtain⟨r2,e2'⟩:=back e2
  exact E.sep j k c r1 r2 e1' n1 s1 e2' n2 s2
theorem ER.weak {G':qr}(E:ER b Ow G σ env H)(h:∀j,j∈G'->j∈G):∃F5,ER b F5 G' σ env H/\Ex (Bs b Ow) H (Bs b F5) H:=by
 refine⟨λa=>Ow a/\∃j q,j∈G'/\env[j]?=some (some q)/\σ[j]?=some (some (.ref a)),?_⟩
 have hx:Ex (Bs b Ow) H (Bs b λa=>Ow a/\∃j q,j∈G'/\env[j]?=some (some q)/\σ[j]?=some (some (.ref a))) H:=dC λc o _ q=>⟨λz=>q.1 z.1,q.2⟩
 refine⟨⟨E.len,E.same,λa w=>E.live a w.1,λa w=>E.new a w.1,λi p e n=>?_,λi p e n=>?_,λi j a p q e1 n1 s1 e2 n2 s2=>E.sep i j a p q e1 (h i n1) s1 e2 (h j n2) s2,E.fix⟩,hx⟩
 ·by_cases hi:i∈G
  ·obtain⟨a,h1,h2,h3⟩:=E.own i p e hi
   refine⟨_,h1,(h3.ex hx λo z=>z).rep ⟨λz=>?_,.inr (E.new a h2)⟩⟩
   obtain⟨_,j,q,hj,e',s'⟩:=z
   have:=E.sep i j a p q e hi h1 e' (h j hj) s'
   subst this
   exact n hj
  ·obtain⟨v,h1,h2⟩:=E.val i p e hi
   exact⟨v,h1,h2.ex hx⟩
 ·obtain⟨a,h1,h2,h3⟩:=E.own i p e (h i n)
  exact⟨a,h1,⟨h2,i,p,n,e,h1⟩,h3.ex hx λo z=>z⟩
theorem ER.forget (E:ER b Ow G σ env H)(i:Nat):ER b Ow G σ (env.set i none) H:=by
 have back:∀{j:Nat}{q:PV},(env.set i none)[j]?=some (some q)->env[j]?=some (some q):=λ{j q} e=>by
  by_cases hj:i=j
  ·subst hj
   rw[kF] at e
   split at e
   ·split at e <;> cases e
   ·exact absurd rfl ‹_›
  ·rw[br hj] at e;exact e
 exact⟨by rw[em];exact E.len,E.same,E.live,E.new,λj q e n=>E.val j q (back e) n,λj q e n=>E.own j q (back e) n,λj k a q q' e1 n1 s1 e2 n2 s2=>E.sep j k a q q' (back e1) n1 s1 (back e2) n2 s2,E.fix⟩
@[simp] noncomputable def Kk:List Nat->Env->Env
 | [],env=>env
 | i::r,env=>Kk r (env.set i none)
theorem ER.Kk:∀{ds:qr}{env:Env},ER b Ow G σ env H->ER b Ow G σ (Kk ds env) H
 | [],_,E=>E
 | i::r,env,E=>ER.Kk (ds:=r) (E.forget i)
end
inductive Out where
 | nx (e:Env) | bk (e:Env) | ct (e:Env) | rt (p:PV)
def ZH (b:BX)(Ow:Addr->Prop)(H:Hp)(G L:qr)(ro:Bool)(D:Ends):Out->Prop
 | .nx e=>∀F5 σ' H',ER b F5 G σ' e H'->Ex (Bs b Ow) H (Bs b F5) H'->D.nx σ' H'
 | .bk e=>∀F5 σ' H',ER b F5 L σ' e H'->Ex (Bs b Ow) H (Bs b F5) H'->D.bk σ' H'
 | .ct e=>∀F5 σ' H',ER b F5 L σ' e H'->Ex (Bs b Ow) H (Bs b F5) H'->D.ct σ' H'
 | .rt p=>∀v H',FD b.H0 H'->Ret b.C b.A b.H0 ro H' v p->D.rt v H'
def tS (b:BX)(G G' L:qr)(ro:Bool)(f:Env->Option Out):TS:=λD σ H=>∃Ow env out,ER b Ow G σ env H/\f env=some out/\ZH b Ow H G' L ro D out
abbrev SS (X:Cx)(b:BX)(G G' L:qr)(ro:Bool)(st:Stmt)(f:Env->Option Out):Prop:=PS X st (tS b G G' L ro f)
abbrev Sa (X:Cx)(b:BX)(G G' L:qr)(ro:Bool)(st:qA)(f:Env->Option Out):Prop:=MW X st (tS b G G' L ro f)
theorem MW.imp {e:qA}{t u:TS}(h:MW X e t)(i:∀D σ H,u D σ H->t D σ H):MW X e u:=λFn s σ H D I q=>h Fn s σ H D I (i D σ H q)
theorem PS.or {e:Stmt}{t u:TS}(h:PS X e t)(h':PS X e u):PS X e (λD σ H=>t D σ H\/u D σ H):=λFn s σ H D I q=>q.elim (h Fn s σ H D I) (h' Fn s σ H D I)
theorem ZH.ex {b:BX}{Ow1:Addr->Prop}{H1:Hp}{G L:qr}{D:Ends}{o:Out}(e:Ex (Bs b Ow) H (Bs b Ow1) H1)(h:ZH b Ow H G L ro D o):ZH b Ow1 H1 G L ro D o:=by
 cases o with
 | nx e'=>exact λF5 σ' H' E x=>h F5 σ' H' E (e.trans x)
 | bk e'=>exact λF5 σ' H' E x=>h F5 σ' H' E (e.trans x)
 | ct e'=>exact λF5 σ' H' E x=>h F5 σ' H' E (e.trans x)
 | rt p=>exact h
noncomputable def HV (env:Env):Option Out:=some (.nx env)
@[simp] theorem aag (env:Env):HV env=(some (.nx env)):=id rfl
noncomputable def sNo (env:Env):Option Out:=none
@[simp] theorem aah (env:Env):sNo env=(none):=id rfl
noncomputable def aG (f g:Env->Option Out)(env:Env):Option Out:=(f env).bind λo=>match o with | .nx e=>g e | o=>some o
@[simp] theorem SJ (f g:Env->Option Out)(env:Env):aG f g env=((f env).bind λo=>match o with | .nx e=>g e | o=>some o):=id rfl
noncomputable def aK (i:Nat)(f:rh)(env:Env):Option Out:=(f env).bind λp=>some (.nx (env.set i (some p)))
@[simp] theorem HW (i:Nat)(f:rh)(env:Env):aK i f env=((f env).bind λp=>some (.nx (env.set i (some p)))):=id rfl
noncomputable def aN (f:rh)(env:Env):Option Out:=(f env).bind λp=>some (.rt p)
@[simp] theorem Z0 (f:rh)(env:Env):aN f env=((f env).bind λp=>some (.rt p)):=id rfl
noncomputable def HZ (c:Env->Option Bool)(f g:Env->Option Out)(env:Env):Option Out:=(c env).bind λk=>if k=true then f env else g env
@[simp] theorem aai (c:Env->Option Bool)(f g:Env->Option Out)(env:Env):HZ c f g env=((c env).bind λk=>if k=true then f env else g env):=id rfl
noncomputable def xm (f:rh)(env:Env):Option Out:=(f env).bind λ_=>some (.nx env)
@[simp] theorem Zv (f:rh)(env:Env):xm f env=((f env).bind λ_=>some (.nx env)):=id rfl
noncomputable def bM (g:PV->PV->Option PV)(i:Nat)(f:rh)(env:Env):Option Out:=(bV i env).bind λx=>(f env).bind λp=>(g x p).bind λy=>some (.nx (env.set i (some y)))
@[simp] theorem Zw (g:PV->PV->Option PV)(i:Nat)(f:rh)(env:Env):bM g i f env=((bV i env).bind λx=>(f env).bind λp=>(g x p).bind λy=>some (.nx (env.set i (some y)))):=id rfl
noncomputable def zr (g:PV->Option PV)(i:Nat)(env:Env):Option Out:=(bV i env).bind λx=>(g x).bind λy=>some (.nx (env.set i (some y)))
@[simp] theorem Zx (g:PV->Option PV)(i:Nat)(env:Env):zr g i env=((bV i env).bind λx=>(g x).bind λy=>some (.nx (env.set i (some y)))):=id rfl
noncomputable def ph (g:PV->PV->PV->Option PV)(i:Nat)(f h:rh)(env:Env):Option Out:=(bV i env).bind λx=>(f env).bind λp=>(h env).bind λq=>(g x p q).bind λy=>some (.nx (env.set i (some y)))
@[simp] theorem Zy (g:PV->PV->PV->Option PV)(i:Nat)(f h:rh)(env:Env):ph g i f h env=((bV i env).bind λx=>(f env).bind λp=>(h env).bind λq=>(g x p q).bind λy=>some (.nx (env.set i (some y)))):=id rfl
@[simp] noncomputable def eV:PV->PV->Option PV
 | .lst xs,p=>if xs.length < 1000000 then some (.lst (xs++[p])) else none
 | _,_=>none
noncomputable def jq {κ:Type}[DecidableEq κ](kvs:List (κ×PV))(k:κ)(v:PV):List (κ×PV):=
 if (kvs.any λkv=>decide (kv.1=k))=true then kvs.map (λkv=>if kv.1=k then (kv.1,v) else kv) else kvs++[(k,v)]
@[simp] noncomputable def ik:PV->PV->PV->Option PV
 | .dK kvs,k,v=>(keyOf k).bind λk=>if kvs.length < 1000000 then some (.dK (jq kvs k v)) else none
 | .dT kvs,.tup ks,v=>(FO ks).bind λk=>if kvs.length < 1000000 then some (.dT (jq kvs k v)) else none
 | .lst xs,.int i,v=>(NW xs.length i).map λj=>.lst (xs.set j v)
 | _,_,_=>none
noncomputable def pF (f:Str)(v:PV):List (Str×PV)->List (Str×PV)
 | []=>[(f,v)]
 | (g,x)::r=>if g=f then (g,v)::r else (g,x)::pF f v r
@[simp] noncomputable def X9 (c:Nat)(x:Str):PV->PV->Option PV
 | .obj c' fs,v=>if c'=c/\fs.length < 1000 then some (.obj c' (pF x v fs)) else none
 | _,_=>none
variable {tg:Expr}{fr:Bool}
section
variable {X:Cx}{b:BX}{G G' G1 L:qr}{ro:Bool}{st:Stmt}{rest:qA}{f g:Env->Option Out}{e e1 e2:Expr}{h h1 h2:rh}{m m1 m2:Md}{pos:Pos}
theorem aY:Sa X b G G L ro [] HV:=MW.imp Rz<|by rintro D σ H ⟨Ow,env,o,E,hf,k⟩;cases hf;exact k Ow σ H E (Ex.refl _ _)
theorem au (a:SS X b G G1 L ro st f)(c:Sa X b G1 G' L ro rest g):Sa X b G G' L ro (st::rest) (aG f g):=MW.imp (N_ a c)<|by
 rintro D σ H ⟨Ow,env,o,E,hf,k⟩
 unfold aG at hf
 cases q:f env with
 | none=>rw[q] at hf;cases hf
 | some o1=>
  rw[q] at hf
  refine⟨Ow,env,o1,E,q,?_⟩
  cases o1 with
  | nx e'=>exact λF5 σ' H' E' x=>⟨F5,e',o,E',hf,k.ex x⟩
  | bk e'=>cases hf;exact k
  | ct e'=>cases hf;exact k
  | rt p=>cases hf;exact k
theorem az (a:SS X b G G' L ro st f):Sa X b G G' L ro [st] f:=RB a
theorem cZ (c:Sa X b G1 G' L ro rest g)(hs:autoParam (∀j,j∈G1->j∈G) r1_):Sa X b G G' L ro rest g:=MW.imp c<|by
 rintro D σ H ⟨Ow,env,o,E,hf,k⟩
 obtain⟨F5,E',x⟩:=E.weak hs
 exact⟨F5,env,o,E',hf,k.ex x⟩
theorem Wm:SS X b G G' L ro st sNo:=PS.imp Oa<|by rintro D σ H ⟨Ow,env,o,E,hf,k⟩;cases hf
theorem aD {α β:Type}{x:Option α}{k:α->Option β}{y:β}(h:x.bind k=some y):∃a,x=some a/\k a=some y:=by
 cases x with
 | none=>cases h
 | some a=>exact⟨a,rfl,h⟩
theorem Wn {i:Nat}{D:Ends}(hi:i∉G)(hx:b.fx i=none)(q:tS b G G L ro (aK i h) D σ H):tM b G .val h σ H λv H1=>D.nx (σ.set i (some v)) H1:=by
 obtain⟨Ow,env,o,E,hf,k⟩:=q
 obtain⟨p,hp,e⟩:=aD hf
 cases e
 exact⟨Ow,env,p,E,hp,λv H' s r=>k Ow _ H' ((E.up s).set hi r hx) (.of_same s)⟩
theorem JD {i:Nat}{D:Ends}(hG:∀j,j∈G'↔(j∈G\/j=i))(hx:b.fx i=none)(q:tS b G G' L ro (aK i h) D σ H):tM b G .own h σ H λv H1=>D.nx (σ.set i (some v)) H1:=by
 obtain⟨Ow,env,o,E,hf,k⟩:=q
 obtain⟨p,hp,e⟩:=aD hf
 cases e
 refine⟨Ow,env,p,E,hp,?_⟩
 rintro v H' s ⟨a,ev,hn,t⟩
 subst ev
 obtain⟨E',x⟩:=(E.up s).setO hG s hn E t hx
 exact k _ _ H' E' x
theorem r7_q (_h:True:=by first | exact fN rfl | exact d6 rfl):True:=trivial
def r7_:Lean.Syntax:=r7_q._auto_1
theorem aR (i:Nat){pos':Pos}(nd:X.N.Nodup)(he:SE X b G .val e h)(hG:autoParam (i∉G) r1_)(hx:autoParam (b.fx i=none) r6_)(hi:autoParam (X.N[i]?=some x) r0_)(hl:autoParam (Loc X.env.scope x) r7_)
  (hs:autoParam (swapsWith e (some (.Name x pos')) pos.line X.env=pure false) r0_) (hf:autoParam (X.fn x=true\/X.env.scope.names.lookup x=some .local) r3_):SS X b G G L ro (.Assign [.Name x pos'] e pos) (aK i h):=
 PS.imp (Em nd hi hl he hs hf) λD σ H q=>Wn hG hx q
theorem cQ (i:Nat){pos':Pos}(nd:X.N.Nodup)(he:SE X b G .own e h)(hG:autoParam (i∈G) r1_)(hx:autoParam (b.fx i=none) r6_)(hi:autoParam (X.N[i]?=some x) r0_)(hl:autoParam (Loc X.env.scope x) r7_)
  (hs:autoParam (swapsWith e (some (.Name x pos')) pos.line X.env=pure false) r0_) (hf:autoParam (X.fn x=true\/X.env.scope.names.lookup x=some .local) r3_):SS X b G G L ro (.Assign [.Name x pos'] e pos) (aK i h):=
 PS.imp (Em nd hi hl he hs hf) λD σ H q=>JD (λj=>⟨.inl,λz=>z.elim id λy=>y▸hG⟩) hx q
theorem aL (he:SE X b G .val e h):SS X b G G' L false (.Return (some e) pos) (aN h):=PS.imp (El he)<|by
 rintro D σ H ⟨Ow,env,o,E,hf,k⟩
 obtain⟨p,hp,z1⟩:=aD hf
 clear hf
 cases z1
 exact⟨Ow,env,p,E,hp,λv H' s r=>k v H' (E.same.trans s) (Rep.ex (dC λc o _ q=>q.2) r)⟩
theorem Wo (he:SE X b G .own e h):SS X b G G' L true (.Return (some e) pos) (aN h):=PS.imp (El he)<|by
 rintro D σ H ⟨Ow,env,o,E,hf,k⟩
 obtain⟨p,hp,z1⟩:=aD hf
 clear hf
 cases z1
 exact⟨Ow,env,p,E,hp,λv H' s ⟨a,ev,hn,t⟩=>k v H' (E.same.trans s) ⟨a,ev,E.same.free hn,t.ex (dC λc o _ q=>⟨q.1.2,q.2⟩) λo z=>z⟩⟩
theorem Ln (i:Nat){p1:Pos}(hi:autoParam (i∈G) r1_)(hN:autoParam (X.N[i]?=some x) r0_)(hv:autoParam (Sn X.env.scope x) r5_)(hd:autoParam ((x == ("__debug__" : Str))=false) r1_)
  (LH:autoParam ((x == ("__classdict__" : Str))=false) r1_):SS X b G G' L true (.Return (some (.Name x p1)) pos) (aN (bV i)):=PS.imp (El (k_ hN hv hd LH))<|by
 rintro D σ H ⟨Ow,env,o,E,hf,k⟩
 obtain⟨p,hp,z1⟩:=aD hf
 clear hf
 cases z1
 obtain⟨a,e,w,t⟩:=E.own i p (eF hp) hi
 exact⟨_,e,k _ H E.same ⟨a,rfl,E.new a w,t.ex (dC λc o _ q=>⟨q.2,λz=>q.1 (z▸w)⟩) λo z=>z⟩⟩
theorem b7 {c:Expr}{k:Env->Option Bool}{sa sb:qA}(hc:ST X b G c k)(ha:Sa X b G G' L ro sa f)(hb:Sa X b G G' L ro sb g):SS X b G G' L ro (.If c sa sb pos) (HZ k f g):=PS.imp (XM hc ha hb)<|by
 rintro D σ H ⟨Ow,env,o,E,hf,kk⟩
 obtain⟨p,hp,z1⟩:=aD hf
 clear hf
 refine⟨Ow,env,p,E,hp,λH' s=>?_⟩
 cases p with
 | true=>exact O7 ⟨Ow,env,o,E.up s,z1,kk.ex (.of_same s)⟩
 | false=>exact O6 ⟨Ow,env,o,E.up s,z1,kk.ex (.of_same s)⟩
theorem Fo (he:SE X b G m e h)(hs:autoParam (swapsWith e none pos.line X.env=pure false) r0_):SS X b G G L ro (.Expr e pos) (xm h):=PS.imp (wW he.bor hs)<|by
 rintro D σ H ⟨Ow,env,o,E,hf,k⟩
 obtain⟨p,hp,z1⟩:=aD hf
 clear hf
 cases z1
 exact⟨Ow,env,p,E,hp,λv H' s r=>k Ow σ H' (E.up s) (.of_same s)⟩
theorem eG (i:Nat){p1 FG:Pos}(he:SE X b G .val e h)(hi:autoParam (i∈G) r1_)(hN:autoParam (X.N[i]?=some x) r0_)(hv:autoParam (Sn X.env.scope x) r5_)(hd:autoParam ((x == ("__debug__" : Str))=false) r1_)
  (LH:autoParam ((x == ("__classdict__" : Str))=false) r1_) (He:autoParam (attributeBase (.Name x p1) "append" X.env (eval (.Name x p1) X.env)=eval (.Name x p1) X.env) r0_)
  (ML:((backTo FG (starEach [e] X.env)).all (λx=>!x.1)&&(backToKw FG (keywordEach [] X.env)).all (λx=>x.1.isSome)
   && decide ([e].length+([]:List Keyword).length+(if ([]:List Keyword).isEmpty then 0 else 1) < 30))=true:=by rfl)
  (HA:autoParam ((apos.endLine == FG.line)=true) r0_) (hs:autoParam (starEach [e] X.env=(false,eval e X.env)::starEach [] X.env) r0_):
  SS X b G G L ro (.Expr (.Call (.Attribute (.Name x p1) "append" apos) [e] [] FG) pos) (bM eV i h):=
 PS.imp (wW (Jq ki PySem.F.slot_list_append PySem.F.type_list_append BL (k_ hN hv hd LH) (cF he eZ hs) He ML HA hs rfl))<|by
  rintro D σ H ⟨Ow,env,o,E,hf,k⟩
  obtain⟨px,QY,z1⟩:=aD hf
  clear hf
  obtain⟨p,hp,z2⟩:=aD z1
  clear z1
  obtain⟨y,hy,z3⟩:=aD z2
  clear z2
  cases z3
  obtain⟨a,ea,w,t⟩:=E.own i px (eF QY) hi
  cases px <;> simp only[eV] at hy <;> first | cases hy | skip
  rename_i xs
  split at hy
  ·rename_i hl
   cases hy
   obtain⟨vs,ha,ra⟩:=id t
   refine⟨_,ea,.inl ⟨rfl,_,F8.of ha⟩,Ow,env,p,E,hp,λv H' s r=>?_⟩
   refine⟨a,vs,v,rfl,rfl,s _ _ ha,oF (by rw[ra.length];omega),?_⟩
   have ra':Fu b.C (Bs b Ow) (upd H' a (.lst (vs++[v]))) (vs++[v]) (xs++[p]):=by
    refine(ra.ex (.of_same s)).append (.cons r .nil) |>.ex λc o h=>⟨λq=>⟨by rw[aO (λz:c=a=>q.1 (z▸w))];exact h,q⟩,λm=>?_⟩
    have hc:c≠a:=λz=>by subst z;rw[s _ _ ha] at h;cases h;cases m
    rw[aO hc];exact h
   obtain⟨E',x⟩:=(E.up s).write hi ea (eF QY) w (t.ex (.of_same s) λo z=>s _ _ z) (o':=.lst (vs++[v])) (p':=.lst (xs++[p])) ⟨_,bu,ra'⟩
   exact k Ow σ _ E' ((Ex.of_same s).trans x)
  ·cases hy
theorem F9.put {k:Key}{p:PV}(r:Rep C A H v p){kv:List (Key×V)}{kvs:List (Key×PV)}(t:F9 C A H kv kvs):F9 C A H (putK kv k v) (jq kvs k p):=by
 have NA:∀{kv:List (Key×V)}{kvs:List (Key×PV)},F9 C A H kv kvs->(kv.any λx=>decide (x.1=k))=(kvs.any λx=>decide (x.1=k)):=by
  intro kv kvs t
  induction kv generalizing kvs with
  | nil=>cases t;rfl
  | cons x l ih=>cases t with | cons h t=>rw[dy,dy,ih t]
 have hmap:∀{kv:List (Key×V)}{kvs:List (Key×PV)},F9 C A H kv kvs->F9 C A H (kv.map λx=>if x.1=k then (x.1,v) else x) (kvs.map λx=>if x.1=k then (x.1,p) else x):=by
  intro kv kvs t
  induction kv generalizing kvs with
  | nil=>cases t;exact .nil
  | cons x l ih=>
   cases t with
   | cons h t=>
    rw[al,al]
    rename_i k' v' p' ps'
    by_cases e:k'=k
    ·simp only[e,fi];exact .cons r (ih t)
    ·simp only[e,fm];exact .cons h (ih t)
 have happ:∀{kv:List (Key×V)}{kvs:List (Key×PV)},F9 C A H kv kvs->F9 C A H (kv++[(k,v)]) (kvs++[(k,p)]):=by
  intro kv kvs t
  induction kv generalizing kvs with
  | nil=>cases t;exact .cons r .nil
  | cons x l ih=>cases t with | cons h t=>exact .cons h (ih t)
 unfold putK jq
 rw[NA t]
 split
 ·exact hmap t
 ·exact happ t
theorem FY.put {k:List Key}{p:PV}(r:Rep C A H v p){kv:List (List Key×V)}{kvs:List (List Key×PV)}(t:FY C A H kv kvs):FY C A H (putK kv k v) (jq kvs k p):=by
 have NA:∀{kv:List (List Key×V)}{kvs:List (List Key×PV)},FY C A H kv kvs->(kv.any λx=>decide (x.1=k))=(kvs.any λx=>decide (x.1=k)):=by
  intro kv kvs t
  induction kv generalizing kvs with
  | nil=>cases t;rfl
  | cons x l ih=>cases t with | cons h t=>rw[dy,dy,ih t]
 have hmap:∀{kv:List (List Key×V)}{kvs:List (List Key×PV)},FY C A H kv kvs->FY C A H (kv.map λx=>if x.1=k then (x.1,v) else x) (kvs.map λx=>if x.1=k then (x.1,p) else x):=by
  intro kv kvs t
  induction kv generalizing kvs with
  | nil=>cases t;exact .nil
  | cons x l ih=>
   cases t with
   | cons h t=>
    rw[al,al]
    rename_i k' v' p' ps'
    by_cases e:k'=k
    ·simp only[e,fi];exact .cons r (ih t)
    ·simp only[e,fm];exact .cons h (ih t)
 have happ:∀{kv:List (List Key×V)}{kvs:List (List Key×PV)},FY C A H kv kvs->FY C A H (kv++[(k,v)]) (kvs++[(k,p)]):=by
  intro kv kvs t
  induction kv generalizing kvs with
  | nil=>cases t;exact .cons r .nil
  | cons x l ih=>cases t with | cons h t=>exact .cons h (ih t)
 unfold putK jq
 rw[NA t]
 split
 ·exact hmap t
 ·exact happ t
theorem FY.length {C:MC}{A:Addr->Prop}{H:Hp}:∀{vs:List (List Key×V)}{ps:List (List Key×PV)},FY C A H vs ps->vs.length=ps.length
 | _,_,.nil=>rfl
 | _,_,.cons _ t=>by simp[FY.length t]
theorem GY.length {C:MC}{A:Addr->Prop}{H:Hp}:∀{vs:List (Str×V)}{ps:List (Str×PV)},GY C A H vs ps->vs.length=ps.length
 | _,_,.nil=>rfl
 | _,_,.cons _ t=>by simp[GY.length t]
theorem GY.put {C:MC}{A:Addr->Prop}{H:Hp}{k:Str}{v:V}{p:PV}(r:Rep C A H v p):∀{kv:List (Str×V)}{kvs:List (Str×PV)},GY C A H kv kvs->GY C A H (iQ k v kv) (pF k p kvs)
 | _,_,.nil=>.cons r .nil
 | _,_,.cons (k:=k') h t=>by
  unfold iQ pF
  split
  ·exact .cons r t
  ·exact .cons h (GY.put r t)
theorem qW {o o':HO}(w:Ow a)(ha:H a=some o)(hm:zj o=true):Ex (Bs b Ow) H (Bs b Ow) (upd H a o'):=λc u h=>⟨λq=>⟨by rw[aO (λz:c=a=>q.1 (z▸w))];exact h,q⟩,λm=>by
 have hc:c≠a:=λz=>by subst z;rw[ha] at h;cases h;rw[hm] at m;cases m
 rw[aO hc];exact h⟩
theorem sy (i:Nat){p1 p2:Pos}{j:Nat}(hr:F0 j X.A)(hk:SE X b G .val e1 h1)(hv':SE X b G .val e2 h2)(hi:autoParam (i∈G) r1_)(hN:autoParam (X.N[i]?=some x) r0_)(hv:autoParam (Sn X.env.scope x) r5_)(hd:autoParam ((x == ("__debug__" : Str))=false) r1_)
  (LH:autoParam ((x == ("__classdict__" : Str))=false) r1_) (hs:autoParam (swapsWith e2 (some (.Subscript (.Name x p1) e1 p2)) pos.line X.env=pure false) r0_) (JO:autoParam (swapsWithSole [.Subscript (.Name x p1) e1 p2] e2 pos.line X.env=pure false) r0_) (hw:autoParam (swappedStores [.Subscript (.Name x p1) e1 p2] e2 X.env=pure none) r0_)
  (ha1:autoParam ((assignEach [.Subscript (.Name x p1) e1 p2] X.env).map (·.2)=[assign (.Subscript (.Name x p1) e1 p2) X.env]) r0_)
  (ha:∀v,assign (.Subscript (.Name x p1) e1 p2) X.env v=(do
   let ov ← holding [v] (eval (.Name x p1) X.env)
   let iv ← holding [v,ov] (eval e1 X.env)
   standAt p2
   holding [v,ov,iv] (setItem ov iv v)
   release [v,ov,iv] []):=by intro _;rfl) (hK:autoParam (X.K=b.C.K) r0_):SS X b G G L ro (.Assign [.Subscript (.Name x p1) e1 p2] e2 pos) (ph ik i h1 h2):=by
 refine PS.imp (PS.or (R1 (rZ hr) (k_ hN hv hd LH) hk hv' hs) (U7 hv' (U6 (k_ hN hv hd LH) hk set_list ha) JO hw ha1)) ?_
 rintro D σ H ⟨Ow,env,o,E,hf,k⟩
 obtain⟨px,QY,z1⟩:=aD hf
 clear hf
 obtain⟨pk,hpk,z2⟩:=aD z1
 clear z1
 obtain⟨pv,hpv,z3⟩:=aD z2
 clear z2
 obtain⟨y,hy,z4⟩:=aD z3
 clear z3
 cases z4
 obtain⟨a,ea,w,t⟩:=E.own i px (eF QY) hi
 have fin:∀{H2:Hp}{o':HO},FD H H2->Top b.C (Bs b Ow) (upd H2 a o') a y->D.nx σ (upd H2 a o'):=λ{H2 o'} s t'=>by
  obtain⟨E',x⟩:=(E.up s).write hi ea (eF QY) w (t.ex (.of_same s) λo z=>s _ _ z) t'
  exact k Ow σ _ E' ((Ex.of_same s).trans x)
 unfold ik at hy
 split at hy
 ·obtain⟨ky,hky,hy⟩:=aD hy
  split at hy
  ·rename_i hl
   cases hy
   obtain⟨kv,ha,ra⟩:=id t
   refine .inl ⟨Ow,env,pv,E,hpv,λv H1 s1 r1=>⟨_,ea,Ow,env,pk,E.up s1,hpk,λu H2 s2 r2=>?_⟩⟩
   have s:=s1.trans s2
   have eu:=FC.key (.inl r2) hky
   subst eu
   refine⟨a,_,rfl,OK.k (s _ _ ha) (oF (by rw[ra.length];omega)),fin s ⟨_,bu,?_⟩⟩
   exact(F9.put (k:=ky) (Rep.ex (.of_same s2) r1) (ra.ex (.of_same s))).ex (qW w (s _ _ ha) rfl)
  ·cases hy
 ·obtain⟨ky,hky,hy⟩:=aD hy
  split at hy
  ·rename_i hl
   cases hy
   obtain⟨kv,ha,ra⟩:=id t
   refine .inl ⟨Ow,env,pv,E,hpv,λv H1 s1 r1=>⟨_,ea,Ow,env,_,E.up s1,hpk,λu H2 s2 r2=>?_⟩⟩
   have s:=s1.trans s2
   obtain⟨c,us,rfl,hc,rc⟩:=FC.tup (.inl r2)
   refine⟨a,_,rfl,OK.t (s _ _ ha) (by rw[hK];exact hc.key (rc.FO hky)) (oF (by rw[ra.length];omega)),fin s ⟨_,bu,?_⟩⟩
   exact(FY.put (k:=ky) (Rep.ex (.of_same s2) r1) (ra.ex (.of_same s))).ex (qW w (s _ _ ha) rfl)
  ·cases hy
 ·rename_i xs n
  cases q:NW xs.length n with
  | none=>rw[q] at hy;cases hy
  | some jj=>
   rw[q] at hy
   cases hy
   obtain⟨vs,ha,ra⟩:=id t
   refine .inr ⟨Ow,env,pv,E,hpv,λv H1 s1 r1=>⟨_,ea,Ow,env,_,E.up s1,hpk,λu H2 s2 r2=>?_⟩⟩
   have s:=s1.trans s2
   have eu:=FC.int (.inl r2)
   subst eu
   refine⟨a,vs,n,jj,rfl,rfl,s _ _ ha,by rw[ra.length];exact q,fin s ⟨_,bu,?_⟩⟩
   exact(Fu.set (Rep.ex (.of_same s2) r1) jj (ra.ex (.of_same s))).ex (qW w (s _ _ ha) rfl)
 ·cases hy
theorem sE (i:Nat){y:Str}{p1 p2:Pos}{c:Nat}(hc:N9 X.K (b.C.cl c))(hn:GI X.K (b.C.cl c) y)(he:SE X b G .val e h)(hi:autoParam (i∈G) r1_)(hN:autoParam (X.N[i]?=some x) r0_)(hv:autoParam (Sn X.env.scope x) r5_)(hd:autoParam ((x == ("__debug__" : Str))=false) r1_)
  (LH:autoParam ((x == ("__classdict__" : Str))=false) r1_) (hs:autoParam (swapsWith e (some (.Attribute (.Name x p1) y p2)) pos.line X.env=pure false) r0_):SS X b G G L ro (.Assign [.Attribute (.Name x p1) y p2] e pos) (bM (X9 c y) i h):=
 PS.imp (Vn (k_ hN hv hd LH) he hs)<|by
  rintro D σ H ⟨Ow,env,o,E,hf,k⟩
  obtain⟨px,QY,z1⟩:=aD hf
  clear hf
  obtain⟨p,hp,z2⟩:=aD z1
  clear z1
  obtain⟨y',hy,z3⟩:=aD z2
  clear z2
  cases z3
  obtain⟨a,ea,w,t⟩:=E.own i px (eF QY) hi
  cases px <;> simp only[X9] at hy <;> first | cases hy | skip
  rename_i c' fs
  split at hy
  ·rename_i Sk
   obtain⟨rfl,hl⟩:=Sk
   cases hy
   obtain⟨dx,fv,ha,ra⟩:=id t
   refine⟨Ow,env,p,E,hp,λv H1 s r=>⟨_,ea,a,_,dx,fv,rfl,s _ _ ha,hc,hn,by rw[ra.length];exact hl,?_⟩⟩
   obtain⟨E',x⟩:=(E.up s).write hi ea (eF QY) w (t.ex (.of_same s) λo z=>s _ _ z) (o':=.ins (b.C.cl c') dx (iQ y v fv)) (p':=.obj c' (pF y p fs)) ⟨dx,_,bu,(GY.put r (ra.ex (.of_same s))).ex (qW w (s _ _ ha) rfl)⟩
   exact k Ow σ _ E' ((Ex.of_same s).trans x)
  ·cases hy
def IW (b:BX)(Ow:Addr->Prop)(fr:Bool)(H1:Hp)(J:It)(ps:List PV):Prop:=∀F5 H,(fr=false->FD H1 H)->Ex (Bs b Ow) H1 (Bs b F5) H->(∀a,H a=none->Bs b F5 a)->
 (∀i p,ps[i]?=some p->J.go i H/\∀x H',J.yld i H x H'->FD H H'/\Rep b.C (Bs b F5) H' x p)/\J.stop ps.length H
def tMI (b:BX)(G:qr)(fr:Bool)(g:Env->Option (List PV)):TI:=fun σ H R=>∃Ow env ps,ER b Ow G σ env H/\g env=some ps/\∀J H1,FD H H1->IW b Ow fr H1 J ps->R J H1
abbrev SI (X:Cx)(b:BX)(G:qr)(fr:Bool)(tg it:Expr)(g:Env->Option (List PV)):Prop:=PI X tg it (tMI b G fr g)
theorem PI.imp {it:Expr}{t u:TI}(h:PI X tg it t)(i:∀ σ H R,u σ H R->t σ H R):PI X tg it u:=λFn s σ H R I q=>h Fn s σ H R I (i σ H R q)
theorem PI.or {it:Expr}{t u:TI}(h:PI X tg it t)(h':PI X tg it u):PI X tg it (fun σ H R=>t σ H R\/u σ H R):=λFn s σ H R I q=>q.elim (h Fn s σ H R I) (h' Fn s σ H R I)
noncomputable def Q1 (x:Str):List PV:=x.cps.toList.map λc=>.str ⟨#[c]⟩
@[simp] noncomputable def PU:PV->Option (List PV)
 | .lst xs=>some xs
 | .frz xs=>some xs
 | .tup xs=>some xs
 | .ktp xs=>some xs
 | .str x=>some (Q1 x)
 | _=>none
noncomputable def iV (f:rh)(env:Env):Option (List PV):=(f env).bind PU
@[simp] theorem Yq (f:rh)(env:Env):iV f env=((f env).bind PU):=id rfl
theorem Aq {H1:Hp}{xs:List PV}(hq:∀F5 H,(fr=false->FD H1 H)->Ex (Bs b Ow) H1 (Bs b F5) H->F8 b.C.K H a vs/\Fu b.C (Bs b F5) H vs xs):IW b Ow fr H1 (Itl b.C.K a) xs:=by
 intro F5 H h0 h1 hn
 obtain⟨q,r⟩:=hq F5 H h0 h1
 refine⟨λi p hp=>?_,⟨vs,q,by rw[r.length];exact aw _⟩⟩
 obtain⟨v,hv,rv⟩:=r.get hp
 refine⟨⟨vs,v,q,hv⟩,λx H' y=>?_⟩
 obtain⟨e,y⟩:=y
 subst e
 have e2:=y vs q
 rw[hv] at e2
 cases e2
 exact⟨FD.refl _,rv⟩
theorem Lp {H1:Hp}{xs:List PV}(hq:∀F5 H,(fr=false->FD H1 H)->Ex (Bs b Ow) H1 (Bs b F5) H->IP b.C.K H a vs/\Fu b.C (Bs b F5) H vs xs):IW b Ow fr H1 (Itt b.C.K a) xs:=by
 intro F5 H h0 h1 hn
 obtain⟨q,r⟩:=hq F5 H h0 h1
 refine⟨λi p hp=>?_,⟨vs,q,by rw[r.length];exact aw _⟩⟩
 obtain⟨v,hv,rv⟩:=r.get hp
 refine⟨⟨vs,v,q,hv⟩,λx H' y=>?_⟩
 obtain⟨e,y⟩:=y
 subst e
 have e2:=y vs q
 rw[hv] at e2
 cases e2
 exact⟨FD.refl _,rv⟩
theorem Wq {H1:Hp}:IW b Ow fr H1 (Its x) (Q1 x):=by
 intro F5 H h0 h1 hn
 refine⟨λi p hp=>?_,by show (Q1 x).length=x.cps.size;unfold Q1;rw[ac,aE]⟩
 unfold Q1 at hp
 rw[b0] at hp
 cases q:x.cps.toList[i]? with
 | none=>rw[q] at hp;cases hp
 | some c=>
  rw[q] at hp
  cases hp
  have hc:x.cps[i]?=some c:=by rw[← iF];exact q
  refine⟨(Array.getElem?_eq_some_iff.mp hc).1,λv H' y=>?_⟩
  obtain⟨e,c',h',ev⟩:=y
  subst e
  rw[hc] at h'
  cases h'
  subst ev
  exact⟨FD.refl _,.str _⟩
theorem b8 (he:SE X b G m e h)(hm:autoParam (fr=true->m≠.bor) r9_)(hK:autoParam (X.K=b.C.K) r0_):SI X b G fr tg e (iV h):=by
 have hPI:=PI.or (tg:=tg) (PI.or (RC he) (U9 he)) (VP he)
 refine PI.imp hPI ?_
 rintro σ H R ⟨Ow,env,ps,E,hg,k⟩
 rw[hK]
 obtain⟨p,hp,II⟩:=aD hg
 have keep:∀{H1 F5 H2}{v:V},FD H H1->Res b Ow H H1 m v p->(fr=false->FD H1 H2)->Ex (Bs b Ow) H1 (Bs b F5) H2->FC b.C (Bs b F5) H2 v p:=λ{H1 F5 H2 v} s r h0 h1=>by
  cases fr with
  | false=>exact FC.ex h1 (h0 rfl) r.bor
  | true=>exact .inl (Rep.ex h1 (r.val E (hm rfl)))
 unfold PU at II
 split at II
 ·cases II
  refine .inl (.inl ⟨Ow,env,_,E,hp,λv H1 s r=>?_⟩)
  have r1:FC b.C (Bs b Ow) H1 v (.lst _):=r.bor
  obtain⟨a,vs,rfl,ha,ra⟩:=r1.lst
  refine⟨a,rfl,⟨vs,F8.of ha⟩,k _ _ s (Aq (vs:=vs) λF5 H2 h0 h1=>?_)⟩
  obtain⟨a',vs',e',ha',ra'⟩:=(keep s r h0 h1).lst
  cases e'
  have:H2 a=some (.lst vs):=by
   cases fr with
   | false=>exact h0 rfl _ _ ha
   | true=>
    have rv:Rep b.C (Bs b Ow) H1 (.ref a) (.lst _):=r.val E (hm rfl)
    cases rv with
    | lst q1 q2 q3=>rw[ha] at q1;cases q1;exact((h1 _ _ ha).1 q2).1
  rw[ha'] at this
  cases this
  exact⟨F8.of ha',ra'⟩
 ·cases II
  refine .inl (.inl ⟨Ow,env,_,E,hp,λv H1 s r=>?_⟩)
  have r1:Rep b.C (Bs b Ow) H1 v (.frz _):=(by rcases r.bor with z | ⟨_,_,z⟩;exact z;exact z.elim)
  cases r1 with
  | Nw q1 q3=>exact⟨_,rfl,⟨_,.inl (.inr ⟨_,q1⟩)⟩,k _ _ s (Aq λF5 H2 h0 h1=>⟨.inl (.inr ⟨_,(h1 _ _ q1).2 rfl⟩),q3.ex h1⟩)⟩
  | lstK q1 q3=>exact⟨_,rfl,⟨_,sqK q1⟩,k _ _ s (Aq λF5 H2 h0 h1=>⟨sqK q1,q3.ex h1⟩)⟩
 ·cases II
  refine .inl (.inr ⟨Ow,env,_,E,hp,λv H1 s r=>?_⟩)
  have r1:FC b.C (Bs b Ow) H1 v (.tup _):=r.bor
  obtain⟨a,vs,rfl,ha,ra⟩:=r1.tup
  exact⟨a,rfl,⟨vs,ha.sq⟩,k _ _ s (Lp (vs:=vs) λF5 H2 h0 h1=>⟨(ha.ex h1).sq,ra.ex h1⟩)⟩
 ·cases II
  refine .inl (.inr ⟨Ow,env,_,E,hp,λv H1 s r=>?_⟩)
  have r1:FC b.C (Bs b Ow) H1 v (.ktp _):=r.bor
  rcases r1 with r1 | ⟨_,_,t⟩
  ·cases r1 with
   | tupK q1 q3=>exact⟨_,rfl,⟨_,yw q1⟩,k _ _ s (Lp λF5 H2 h0 h1=>⟨yw q1,q3.ex h1⟩)⟩
  ·exact t.elim
 ·cases II
  refine .inr ⟨Ow,env,_,E,hp,λv H1 s r=>?_⟩
  have r1:FC b.C (Bs b Ow) H1 v (.str _):=r.bor
  exact⟨_,r1.str,k _ _ s Wq⟩
 ·cases II
noncomputable def N1 (i:Int):Bool:=@decide (-4611686018427387904<=i/\i < 4611686018427387904) (Classical.propDecidable _)
theorem Fp {i:Int}(h:-4611686018427387904<=i)(h':i < 4611686018427387904):N1 i=true:=@bS _ (Classical.propDecidable _) ⟨h,h'⟩
theorem uq {i:Int}(h:N1 i=true):-(2 ^ 62)<=i/\i < 2 ^ 62:=by
 simp only[N1,gX] at h
 exact h
noncomputable def cH (lo hi:Int):List PV:=(List.range (hi - lo).toNat).map λi=>.int (lo+(i:Nat))
noncomputable def iR1 (f:rh)(env:Env):Option (List PV):=(f env).bind λp=>match p with
 | .int j=>if N1 j=true then some (cH 0 j) else none
 | _=>none
@[simp] theorem aaj (f:rh)(env:Env):iR1 f env=((f env).bind λp=>match p with
 | .int j=>if N1 j=true then some (cH 0 j) else none
 | _=>none):=id rfl
noncomputable def iR2 (f g:rh)(env:Env):Option (List PV):=(f env).bind λp=>(g env).bind λq=>match p,q with
 | .int i,.int j=>if (N1 i&&N1 j)=true then some (cH i j) else none
 | _,_=>none
@[simp] theorem aak (f g:rh)(env:Env):iR2 f g env=((f env).bind λp=>(g env).bind λq=>match p,q with
 | .int i,.int j=>if (N1 i&&N1 j)=true then some (cH i j) else none
 | _,_=>none):=id rfl
theorem Lq {H1:Hp}{lo hi:Int}:IW b Ow fr H1 (Itr lo (hi - lo).toNat) (cH lo hi):=by
 intro F5 H h0 h1 hn
 have hl:(cH lo hi).length=(hi - lo).toNat:=by unfold cH;rw[ac,kG]
 refine⟨λi p hp=>?_,by show (hi - lo).toNat<=(cH lo hi).length;rw[hl];exact aw _⟩
 have N4:i < (hi - lo).toNat:=by rw[← hl];exact(aS.mp hp).1
 refine⟨N4,λx H' y=>?_⟩
 obtain⟨e,ex⟩:=y
 subst e ex
 unfold cH at hp
 rw[b0,List.getElem?_range N4] at hp
 cases hp
 exact⟨FD.refl _,.int _⟩
theorem xn {p pos:Pos}(hm:X.mg "range" = none)(he:SE X b G m e h)(hg:Gl X "range" := by rfl)(hs:autoParam (starEach [e] X.env=[(false,eval e X.env)]) r0_)(Mn:autoParam (starEach [e] X.env=(false,eval e X.env)::starEach [] X.env) r0_):SI X b G fr tg (.Call (.Name "range" p) [e] [] pos) (iR1 h):=by
 refine PI.imp (Kw hg hm (cF he.bor eZ Mn) hs) ?_
 rintro σ H R ⟨Ow,env,ps,E,hf,k⟩
 obtain⟨p1,hp,II⟩:=aD hf
 refine⟨Ow,env,p1,E,hp,λv H1 s r=>?_⟩
 have r1:FC b.C (Bs b Ow) H1 v p1:=r
 cases p1 <;> simp only at II <;> first | cases II | skip
 rename_i j
 split at II
 ·rename_i hj
  cases II
  have hw:IW b Ow fr H1 (Itr 0 (j - 0).toNat) (cH 0 j):=Lq
  rw[Int.sub_zero] at hw
  exact⟨j,by rw[r1.int],(uq hj).1,(uq hj).2,k _ _ s hw⟩
 ·cases II
theorem Yr {p pos:Pos}(hm:X.mg "range" = none)(he:SE X b G m1 e1 h1)(PY:SE X b G m2 e2 h2)(hg:Gl X "range" := by rfl)(hs:autoParam (starEach [e1,e2] X.env=[(false,eval e1 X.env),(false,eval e2 X.env)]) r0_)(JO:autoParam (starEach [e2] X.env=[(false,eval e2 X.env)]) r0_)
  (Mn:autoParam (starEach [e1,e2] X.env=(false,eval e1 X.env)::starEach [e2] X.env) r0_) (hs2':autoParam (starEach [e2] X.env=(false,eval e2 X.env)::starEach [] X.env) r0_):SI X b G fr tg (.Call (.Name "range" p) [e1,e2] [] pos) (iR2 h1 h2):=by
 refine PI.imp (Ky hg hm (cF he.bor (cF PY.bor eZ hs2') Mn) hs JO) ?_
 rintro σ H R ⟨Ow,env,ps,E,hf,k⟩
 obtain⟨p1,hp,Ta⟩:=aD hf
 clear hf
 obtain⟨p2,NS,II⟩:=aD Ta
 clear Ta
 refine⟨Ow,env,p1,E,hp,λv H1 s r=>⟨Ow,env,p2,E.up s,NS,λv2 H2 s2 r2=>?_⟩⟩
 have r1:FC b.C (Bs b Ow) H1 v p1:=r
 have OA:FC b.C (Bs b Ow) H2 v2 p2:=r2
 cases p1 <;> cases p2 <;> simp only at II <;> first | cases II | skip
 rename_i i j
 split at II
 ·rename_i hj
  cases II
  exact⟨i,j,by rw[r1.int,OA.int],(by rw[cb] at hj;exact⟨(uq hj.1).1,(uq hj.1).2,(uq hj.2).1,(uq hj.2).2⟩),k _ _ (s.trans s2) Lq⟩
 ·cases II
noncomputable def dU (n:Nat):List PV->List PV
 | []=>[]
 | x::xs=>.tup [.int (n:Nat),x]::dU (n+1) xs
theorem Ca {p:PV}:∀{xs:List PV}{n i:Nat},(dU n xs)[i]?=some p->∃x,xs[i]?=some x/\p=.tup [.int ((n+i:Nat):Int),x]
 | [],n,i,e=>by simp[dU] at e
 | x::xs,n,0,e=>by
  simp[dU] at e
  exact⟨x,rfl,by rw[← e];rfl⟩
 | x::xs,n,i+1,e=>by
  simp only[dU,fA] at e
  obtain⟨y,h1,h2⟩:=Ca e
  exact⟨y,by simpa using h1,by rw[h2,Nat.add_right_comm,Nat.add_assoc]⟩
theorem vW:∀{xs:List PV}{n:Nat},(dU n xs).length=xs.length
 | [],_=>rfl
 | x::xs,n=>by simp[dU,vW (xs:=xs)]
end
noncomputable def gN (i:Nat)(p:PV)(env:Env):Option Env:=some (env.set i (some p))
@[simp] theorem aax (i:Nat)(p:PV)(env:Env):gN i p env=(some (env.set i (some p))):=id rfl
@[simp] noncomputable def gNs:List Nat->List PV->Env->Option Env
 | [],[],env=>some env
 | i::is,p::ps,env=>gNs is ps (env.set i (some p))
 | _,_,_=>none
noncomputable def gT (is:qr)(p:PV)(env:Env):Option Env:=match p with
 | .tup xs=>gNs is xs env
 | _=>none
@[simp] theorem Ys (is:qr)(p:PV)(env:Env):gT is p env=(match p with
 | .tup xs=>gNs is xs env
 | _=>none):=id rfl
def tMG (b:BX)(G:qr)(g:PV->Env->Option Env):TG:=λv σ H Q=>∃Ow env p Kn,ER b Ow G σ env H/\Rep b.C (Bs b Ow) H v p/\g p env=some Kn/\∀ σ',ER b Ow G σ' Kn H->Q σ' H
def Zz (b:BX)(G:qr)(is:qr):XZ:=λvs σ H Q=>∃Ow env ps Kn,ER b Ow G σ env H/\Fu b.C (Bs b Ow) H vs ps/\gNs is ps env=some Kn/\∀ σ',ER b Ow G σ' Kn H->Q σ' H
abbrev SG (X:Cx)(b:BX)(G:qr)(tg:Expr)(g:PV->Env->Option Env):Prop:=PG X tg (tMG b G g)
abbrev SGs (X:Cx)(b:BX)(G:qr)(tgs:qB)(is:qr):Prop:=X1 X tgs (Zz b G is)
theorem PG.imp {t u:TG}(h:PG X tg t)(i:∀v σ H Q,u v σ H Q->t v σ H Q):PG X tg u:=λFn s σ H v w Q I r q=>h Fn s σ H v w Q I r (i v σ H Q q)
theorem X1.imp {tg:qB}{t u:XZ}(h:X1 X tg t)(i:∀v σ H Q,u v σ H Q->t v σ H Q):X1 X tg u:=λFn s σ H v w Q I r q=>h Fn s σ H v w Q I r (i v σ H Q q)
variable {f:Env->Option Out}
section
variable {X:Cx}{b:BX}{G G' L:qr}{ro:Bool}{pos:Pos}
theorem fY (i:Nat)(nd:X.N.Nodup)(hG:autoParam (i∉G) r1_)(hx:autoParam (b.fx i=none) r6_)(hi:autoParam (X.N[i]?=some x) r0_)(hl:autoParam (Loc X.env.scope x) r7_)
  (hf:autoParam (X.fn x=true\/X.env.scope.names.lookup x=some .local) r3_):SG X b G (.Name x pos) (gN i):=
 PG.imp (Ah nd hi hl hf)<|by rintro v σ H Q ⟨Ow,env,p,Kn,E,r,e,k⟩;cases e;exact k _ (E.set hG r hx)
theorem fQ:SGs X b G [] []:=X1.imp gB<|by
 rintro vs σ H Q ⟨Ow,env,ps,Kn,E,r,e,k⟩
 cases ps with
 | nil=>cases r;cases e;exact⟨rfl,k σ E⟩
 | cons p ps=>cases e
theorem bA (i:Nat){es:qB}{is:qr}{p1:Pos}(nd:X.N.Nodup)(h2:SGs X b G es is)(hG:autoParam (i∉G) r1_)(hx:autoParam (b.fx i=none) r6_)(hi:autoParam (X.N[i]?=some x) r0_)(hl:autoParam (Loc X.env.scope x) r7_)
  (hf:autoParam (X.fn x=true\/X.env.scope.names.lookup x=some .local) r3_) (hs:autoParam ((assignEach (.Name x p1::es) X.env).map (·.2)=assign (.Name x p1) X.env::(assignEach es X.env).map (·.2)) r0_):SGs X b G (.Name x p1::es) (i::is):=
 X1.imp (bw (Ah nd hi hl hf) h2 hs)<|by
  rintro vs σ H Q ⟨Ow,env,ps,Kn,E,r,e,k⟩
  cases ps with
  | nil=>cases e
  | cons p ps=>
   cases r with
   | cons r1 r2=>exact⟨_,_,rfl,Ow,env.set i (some p),ps,Kn,E.set hG r1 hx,r2,e,k⟩
theorem Ar:∀{is:qr}{ps:List PV}{env Kn:Env},gNs is ps env=some Kn->ps.length=is.length
 | [],[],_,_,_=>rfl
 | i::is,p::ps,env,Kn,e=>by simp[Ar (is:=is) (ps:=ps) e]
 | [],_::_,_,_,e=>by cases e
 | _::_,[],_,_,e=>by cases e
theorem oH {es:qB}{k:Nat}{is:qr}(h:SGs X b G es is)(hc:autoParam (X.calm=true) r0_)(hn:autoParam ((assignEach es X.env).length=is.length) r0_)(Pl:autoParam ((assignEach es X.env).findIdx? (·.1)=none) r0_)(hK:autoParam (X.K=b.C.K) r0_):SG X b G (.Tuple es k pos) (gT is):=
 PG.imp (jh hc h hn Pl)<|by
  rintro v σ H Q ⟨Ow,env,p,Kn,E,r,e,k⟩
  cases p <;> simp only[gT] at e <;> first | cases e | skip
  rename_i xs
  obtain⟨a,vs,rfl,ha,ra⟩:=FC.tup (.inl r)
  rw[hK]
  exact⟨a,vs,rfl,ha.sq,by rw[ra.length];exact Ar e,Ow,env,xs,Kn,E,ra,e,k⟩
noncomputable def bB (g:PV->Env->Option Env)(ds:qr)(body:Env->Option Out):List PV->Env->Option Out
 | [],env=>some (.nx env)
 | x::xs,env=>(g x env).bind λe1=>(body e1).bind λo=>match o with
  | .nx e=>bB g ds body xs (Kk ds e)
  | .ct e=>bB g ds body xs (Kk ds e)
  | .bk e=>some (.nx (Kk ds e))
  | .rt p=>some (.rt p)
noncomputable def cD (g:PV->Env->Option Env)(src:Env->Option (List PV))(ds:qr)(body:Env->Option Out)(env:Env):Option Out:=(src env).bind λxs=>bB g ds body xs (Kk ds env)
@[simp] theorem Z3 (g:PV->Env->Option Env)(src:Env->Option (List PV))(ds:qr)(body:Env->Option Out)(env:Env):cD g src ds body env=((src env).bind λxs=>bB g ds body xs (Kk ds env)):=id rfl
theorem bW {it:Expr}{body:qA}{g:PV->Env->Option Env}{src:Env->Option (List PV)}(ds:qr)(hi:SI X b G true tg it src)(hg:SG X b G tg g)(hb:Sa X b G G G ro body f)(hp:PassesOwn (model X.prog X.w) X.A X.env X.xe)(hc:autoParam (X.calm=true) r0_)
  (hs:autoParam (∀x,foldedSetIterable it X.env x=pure x) r4_):SS X b G G L ro (.For tg it body [] pos) (cD g src ds f):=by
 refine PS.imp (U_ hp hc hi hg hb hs) ?_
 rintro D σ H ⟨Ow,env,out,E,hf,k⟩
 obtain⟨ps,II,hl⟩:=aD hf
 refine⟨Ow,env,ps,E,II,λJ H1 s1 iw=>?_⟩
 refine⟨λi m σ2 H2=>m=ps.length - i/\i<=ps.length/\∃NC KO,ER b NC G σ2 KO H2/\Ex (Bs b Ow) H1 (Bs b NC) H2/\bB g ds f (ps.drop i) KO=some out,⟨ps.length,by simp,eA _,Ow,Kk ds env,(E.up s1).Kk,Ex.refl _ _,by simpa using hl⟩,?_⟩
 rintro i m σ2 H2 ⟨rfl,hi,NC,KO,E2,x2,l2⟩
 obtain⟨w1,w2⟩:=iw NC H2 (λz=>by cases z) x2 λa=>E2.fresh
 have xk:Ex (Bs b Ow) H (Bs b NC) H2:=(Ex.of_same s1).trans x2
 by_cases LI:i < ps.length
 ·rw[i3 LI] at l2
  obtain⟨e1,he1,l2⟩:=aD l2
  obtain⟨o,ho,l2⟩:=aD l2
  obtain⟨g1,g2⟩:=w1 i ps[i] (aT LI)
  refine .inr ⟨g1,fun σ' H'=>i+1<=ps.length/\∃NC KO,ER b NC G σ' KO H'/\Ex (Bs b Ow) H1 (Bs b NC) H'/\bB g ds f (ps.drop (i+1)) KO=some out,fun σ' H' q=>⟨ps.length - (i+1),by omega,rfl,q⟩,λx H' y=>?_⟩
  obtain⟨s3,r3⟩:=g2 x H' y
  refine⟨NC,KO,_,e1,E2.up s3,r3,he1,fun σ3 E3=>⟨NC,e1,o,E3,ho,?_⟩⟩
  cases o with
  | nx e'=>exact λF5 σ' RY E' x'=>⟨LI,F5,_,E'.Kk,x2.trans ((Ex.of_same s3).trans x'),l2⟩
  | ct e'=>exact λF5 σ' RY E' x'=>⟨LI,F5,_,E'.Kk,x2.trans ((Ex.of_same s3).trans x'),l2⟩
  | bk e'=>cases l2;exact λF5 σ' RY E' x'=>k F5 σ' RY E'.Kk (xk.trans ((Ex.of_same s3).trans x'))
  | rt p=>cases l2;exact k
 ·have e:i=ps.length:=by omega
  subst e
  rw[List.drop_length] at l2
  cases l2
  exact .inl ⟨w2,k NC σ2 H2 E2 xk⟩
noncomputable def jy (c:Env->Option Bool)(ds:qr)(body:Env->Option Out):Nat->Env->Option Out
 | 0,_=>none
 | n+1,env=>(c env).bind λk=>if k=true then (body env).bind λo=>match o with
   | .nx e=>jy c ds body n (Kk ds e)
   | .ct e=>jy c ds body n (Kk ds e)
   | .bk e=>some (.nx (Kk ds e))
   | .rt p=>some (.rt p)
  else some (.nx env)
noncomputable def vX (n:Nat)(c:Env->Option Bool)(ds:qr)(body:Env->Option Out)(env:Env):Option Out:=jy c ds body n (Kk ds env)
@[simp] theorem Lr (n:Nat)(c:Env->Option Bool)(ds:qr)(body:Env->Option Out)(env:Env):vX n c ds body env=(jy c ds body n (Kk ds env)):=id rfl
theorem HX {c:Expr}{body:qA}{t:Env->Option Bool}(n:Nat)(ds:qr)(hc:ST X b G c t)(hb:Sa X b G G G ro body f)(hp:PassesOwn (model X.prog X.w) X.A X.env X.xe):SS X b G G L ro (.While c body [] pos) (vX n t ds f):=by
 refine PS.imp (Od hp hc hb) ?_
 rintro D σ H ⟨Ow,env,out,E,hf,k⟩
 refine⟨λm σ2 H2=>∃NC KO,ER b NC G σ2 KO H2/\Ex (Bs b Ow) H (Bs b NC) H2/\jy t ds f m KO=some out,⟨n,Ow,Kk ds env,E.Kk,Ex.refl _ _,hf⟩,?_⟩
 rintro m σ2 H2 ⟨NC,KO,E2,x2,l2⟩
 cases m with
 | zero=>cases l2
 | succ m=>
  obtain⟨kk,hk,l2⟩:=aD l2
  refine⟨NC,KO,kk,E2,hk,λH3 s3=>?_⟩
  cases kk with
  | false=>cases l2;exact O6 (k NC σ2 H3 (E2.up s3) (x2.trans (.of_same s3)))
  | true=>
   refine O7 ⟨fun σ' H'=>∃NC KO,ER b NC G σ' KO H'/\Ex (Bs b Ow) H (Bs b NC) H'/\jy t ds f m KO=some out,fun σ' H' q=>⟨m,iX m,q⟩,?_⟩
   obtain⟨o,ho,l2⟩:=aD l2
   refine⟨NC,KO,o,E2.up s3,ho,?_⟩
   cases o with
   | nx e'=>exact λF5 σ' RY E' x'=>⟨F5,_,E'.Kk,x2.trans ((Ex.of_same s3).trans x'),l2⟩
   | ct e'=>exact λF5 σ' RY E' x'=>⟨F5,_,E'.Kk,x2.trans ((Ex.of_same s3).trans x'),l2⟩
   | bk e'=>cases l2;exact λF5 σ' RY E' x'=>k F5 σ' RY E'.Kk (x2.trans ((Ex.of_same s3).trans x'))
   | rt p=>cases l2;exact k
end
noncomputable def fK (FF:List (Option Nat))(env:Env):Env:=FF.map λo=>match o with | some i=>(env[i]?).getD none | none=>none
@[simp] theorem Z4 (FF:List (Option Nat))(env:Env):fK FF env=(FF.map λo=>match o with | some i=>(env[i]?).getD none | none=>none):=id rfl
noncomputable def lL (FF:List (Option Nat))(G:qr):List Nat:=(List.range FF.length).filter λj=>match FF[j]? with | some (some i)=>decide (i∈G) | _=>false
def BX.in (b:BX):BX:={ b with fx:=λ_=>none }
noncomputable def bJ (env:Env)(g:PV->Env->Option Env)(t:Env->Option Bool)(f:rh):List PV->Option (List PV)
 | []=>some []
 | x::xs=>(g x env).bind λe=>(t e).bind λk=>if k=true then (f e).bind λy=>(bJ env g t f xs).bind λys=>some (y::ys) else bJ env g t f xs
noncomputable def bY (FF:List (Option Nat))(src:Env->Option (List PV))(g:PV->Env->Option Env)(t:Env->Option Bool)(f:rh)(env:Env):Option PV:=(src env).bind λxs=>if xs.length<=1000000 then (bJ (fK FF env) g t f xs).bind λys=>some (.lst ys) else none
@[simp] theorem Pr (FF:List (Option Nat))(src:Env->Option (List PV))(g:PV->Env->Option Env)(t:Env->Option Bool)(f:rh)(env:Env):bY FF src g t f env=((src env).bind λxs=>if xs.length<=1000000 then (bJ (fK FF env) g t f xs).bind λys=>some (.lst ys) else none):=id rfl
noncomputable def aZ (env:Env):Option Bool:=some true
@[simp] theorem ZC (env:Env):aZ env=(some true):=id rfl
theorem Kt {FF:List (Option Nat)}{G:qr}{j:Nat}:j∈lL FF G↔∃i,FF[j]?=some (some i)/\i∈G:=by
 unfold lL
 rw[gt,cq]
 constructor
 ·rintro ⟨h1,h2⟩
  split at h2
  ·rename_i i e;exact⟨i,e,by simpa using h2⟩
  ·cases h2
 ·rintro ⟨i,e,h⟩
  refine⟨(aS.mp e).1,?_⟩
  rw[e];simpa using h
theorem uN {FF:List (Option Nat)}{j:Nat}{p:PV}(h:(fK FF env)[j]?=some (some p)):∃i,FF[j]?=some (some i)/\env[i]?=some (some p):=by
 unfold fK at h
 rw[b0] at h
 cases q:FF[j]? with
 | none=>rw[q] at h;cases h
 | some o=>
  rw[q] at h
  cases o with
  | none=>cases h
  | some i=>
   refine⟨i,rfl,?_⟩
   have h':(env[i]?).getD none=some p:=by simpa using h
   cases q2:env[i]? with
   | none=>rw[q2] at h';cases h'
   | some o=>rw[q2] at h';simp at h';rw[h']
theorem sG {FF:List (Option Nat)}{j i:Nat}(h:FF[j]?=some (some i))(e:σ[i]?=some (some v)):(gh FF σ)[j]?=some (some v):=by
 unfold gh
 rw[b0,h]
 simp[Fb,e]
noncomputable def ur (FF:List (Option Nat)):Bool:=(List.range FF.length).all λj=>(List.range FF.length).all λk=>match FF[j]?,FF[k]? with
 | some (some i),some (some i')=>decide (i=i'->j=k)
 | _,_=>true
theorem Ls {FF:List (Option Nat)}(h:ur FF=true){j k i:Nat}(h1:FF[j]?=some (some i))(h2:FF[k]?=some (some i)):j=k:=by
 have a:=cr.mp h j (cq.mpr (aS.mp h1).1)
 have c:=cr.mp a k (cq.mpr (aS.mp h2).1)
 rw[h1,h2] at c
 simpa using c
theorem ER.FF {b:BX}{Ow:Addr->Prop}{G:qr}{σ:St}{env:Env}{H:Hp}{FF:List (Option Nat)}(E:ER b Ow G σ env H)(hc:ur FF=true):ER b.in Ow (lL FF G) (gh FF σ) (fK FF env) H:=by
 refine⟨by unfold gh fK;rw[ac,ac],E.same,E.live,E.new,λj p e n=>?_,λj p e n=>?_,λj k a p q e1 n1 s1 e2 n2 s2=>?_,λk v z=>by cases z⟩
 ·obtain⟨i,h1,h2⟩:=uN e
  obtain⟨v,h3,h4⟩:=E.val i p h2 λz=>n (Kt.mpr ⟨i,h1,z⟩)
  exact⟨v,sG h1 h3,h4⟩
 ·obtain⟨i,h1,h2⟩:=uN e
  obtain⟨i',Q2,hG⟩:=Kt.mp n
  rw[h1] at Q2;cases Q2
  obtain⟨a,h3,h4,h5⟩:=E.own i p h2 hG
  exact⟨a,sG h1 h3,h4,h5⟩
 ·obtain⟨i,h1,h2⟩:=uN e1
  obtain⟨i',Q2,hG⟩:=Kt.mp n1
  rw[h1] at Q2;cases Q2
  obtain⟨k',h3,h4⟩:=uN e2
  obtain⟨k'',h3',hG2⟩:=Kt.mp n2
  rw[h3] at h3';cases h3'
  obtain⟨c,g1,_,_⟩:=E.own i p h2 hG
  obtain⟨c2,g2,_,_⟩:=E.own k' q h4 hG2
  have t1:=sG (FF:=FF) h1 g1
  have t2:=sG (FF:=FF) h3 g2
  rw[s1] at t1;cases t1
  rw[s2] at t2;cases t2
  have:=E.sep i k' _ p q h2 hG g1 h4 hG2 g2
  subst this
  exact Ls hc h1 h3
theorem ER.more {b:BX}{G:qr}{H':Hp}{D:Addr}(E:ER b Ow G σ env H)(hD:H D=none)(s:FD H H')(hl:∃o,H' D=some o):ER b (λc=>Ow c\/c=D) G σ env H'/\Ex (Bs b Ow) H (Bs b λc=>Ow c\/c=D) H':=by
 have hx:Ex (Bs b Ow) H (Bs b λc=>Ow c\/c=D) H':=λc o h=>⟨λq=>⟨s _ _ h,λz=>z.elim q.1 (a_ h hD),q.2⟩,λ_=>s _ _ h⟩
 exact⟨⟨E.len,E.same.trans s,λc w=>w.elim (λz=>let ⟨o,h⟩:=E.live c z;⟨o,s _ _ h⟩) λz=>by subst z;exact hl,λc w=>w.elim (E.new c) λz=>by subst z;exact E.same.free hD,λi p e n=>let ⟨v,h1,h2⟩:=E.val i p e n;⟨v,h1,h2.ex hx⟩,
  λi p e n=>let ⟨a,h1,h2,h3⟩:=E.own i p e n;⟨a,h1,.inl h2,h3.ex hx λo z=>s _ _ z⟩,E.sep,E.fix⟩,hx⟩
structure Sb (K:W.Frag)(FF:List (Option Nat))(g:TG)(gm:PV->Env->Option Env):Prop where
 go:∀(b:BX) (Ow:Addr->Prop) (G:qr) (σ:St) (env e:Env) (H:Hp) (v:V) (p:PV) (Q:St->Hp->Prop),b.C.K=K->(∀i,b.fx i=none)->ER b Ow (lL FF G) (gh FF σ) (fK FF env) H->Rep b.C (Bs b Ow) H v p->gm p (fK FF env)=some e->
  (∀ σ',Kp (gh FF σ) σ'->ER b Ow (lL FF G) σ' e H->Q σ' H)->g v (gh FF σ) H Q
theorem Lw {σ':St}{i:Nat}(h:Kp σ σ')(hn:∀w,σ[i]?≠some (some w)):Kp σ (σ'.set i (some v)):=by
 refine⟨by rw[em];exact h.1,λj w e=>?_⟩
 by_cases hj:i=j
 ·subst hj;exact absurd e (hn w)
 ·rw[br hj];exact h.2 j w e
theorem HY (σ:St):Kp σ σ:=⟨rfl,λ_ _ e=>e⟩
theorem zu {FF:List (Option Nat)}{i:Nat}(h:FF[i]?=some none)(w:V):(gh FF σ)[i]?≠some (some w):=by
 unfold gh
 rw[b0,h]
 intro z;cases z
theorem Cd {FF:List (Option Nat)}{G:qr}{i:Nat}(h:FF[i]?=some none):i∉lL FF G:=λz=>by
 obtain⟨k,e,_⟩:=Kt.mp z
 rw[h] at e;cases e
theorem jr {FF:List (Option Nat)}(i:Nat)(h:autoParam (FF[i]?=some none) r0_):Sb K FF (wX i) (gN i):=
 ⟨λb Ow G σ env e H v p Q hK hx E r he k=>by
  cases he
  exact k _ (Lw (HY _) (zu h)) (E.set (Cd h) r (hx _))⟩
def Fq:List Nat->XZ
 | []=>U4
 | i::is=>Q8 (wX i) (Fq is)
theorem qX {FF:List (Option Nat)}(is:qr)(h:autoParam ((is.all λi=>decide (FF[i]?=some none))=true) r0_):Sb K FF (U5 K is.length (Fq is)) (gT is):=
 ⟨λb Ow G σ env e H v p Q hK hx E r he k=>by
  subst hK
  cases p <;> simp only[gT] at he <;> first | cases he | skip
  rename_i xs
  obtain⟨a,vs,rfl,ha,ra⟩:=FC.tup (.inl r)
  refine⟨a,vs,rfl,ha.sq,by rw[ra.length];exact Ar he,?_⟩
  have gen:∀(is:qr) (vs:List V) (xs:List PV) (σ1:St) (ZI:Env),(is.all λi=>decide (FF[i]?=some none))=true->Kp (gh FF σ) σ1->ER b Ow (lL FF G) σ1 ZI H->Fu b.C (Bs b Ow) H vs xs->gNs is xs ZI=some e->Fq is vs σ1 H Q:=by
   intro is
   induction is with
   | nil=>
    intro vs xs σ1 ZI _ kp E1 r1 e1
    cases xs with
    | nil=>cases r1;cases e1;exact⟨rfl,k σ1 kp E1⟩
    | cons x xs=>cases e1
   | cons i is ih=>
    intro vs xs σ1 ZI Lv kp E1 r1 e1
    cases xs with
    | nil=>cases e1
    | cons x xs=>
     cases r1 with
     | cons r2 r3=>
      rw[i9,cb] at Lv
      have hi:FF[i]?=some none:=by simpa using Lv.1
      exact⟨_,_,rfl,ih _ xs _ _ Lv.2 (Lw kp (zu hi)) (E1.set (Cd hi) r2 (hx _)) r3 e1⟩
  exact gen is vs xs _ _ h (HY _) E ra he⟩
section
variable {X:Cx}{b:BX}{G L:qr}{ro:Bool}{pos:Pos}{tg iter elt:Expr}{ifs:qB}{scope HG:Scope}{ON N:qE}{FF:List (Option Nat)}{src:Env->Option (List PV)}{g:TG}{gm:PV->Env->Option Env}{t:Env->Option Bool}{f:rh}
theorem JF {Q:VK}(tgo:Sb b.C.K FF g gm)(hc:ur FF=true)(h:tM b G .own (bY FF src gm t f) σ H Q):
  DY (tMI b G false src) FF g (tMT b.in (lL FF G) t) (tM b.in (lL FF G) .val f) σ H Q:=by
 obtain⟨Ow,env,p,E,hf,k⟩:=h
 obtain⟨xs,hxs,hf⟩:=aD hf
 split at hf
 ·rename_i hlen
  obtain⟨ys,hys,hf⟩:=aD hf
  cases hf
  refine⟨Ow,env,xs,E,hxs,λJ H1 s1 iw D hD=>?_⟩
  have E1:=E.up s1
  have nD:H D=none:=s1.free hD
  refine⟨λi m vs H2=>m=xs.length - i/\i<=xs.length/\FD H1 H2/\H2 D=some (.lst vs)/\vs.length<=i/\∃done rest,Fu b.C (Bs b λc=>Ow c\/c=D) H2 vs done/\bJ (fK FF env) gm t f (xs.drop i)=some rest/\done++rest=ys,
   ⟨xs.length,by simp,eA _,bc hD _,bu,aw _,[],ys,.nil,by simpa using hys,rfl⟩,?_⟩
  rintro i m vs H2 ⟨rfl,hi,s2,d2,hv,done,rest,rd,cl,Rl⟩
  refine⟨d2,?_⟩
  obtain⟨E2,x2⟩:=E1.more hD s2 ⟨_,d2⟩
  obtain⟨w1,w2⟩:=iw _ H2 (λ_=>s2) x2 λa=>E2.fresh
  by_cases LI:i < xs.length
  ·rw[i3 LI] at cl
   obtain⟨e1,he1,cl⟩:=aD cl
   obtain⟨kk,hk,cl⟩:=aD cl
   obtain⟨g1,g2⟩:=w1 i xs[i] (aT LI)
   refine .inr ⟨g1,λvs' H'=>i+1<=xs.length/\FD H1 H'/\H' D=some (.lst vs')/\vs'.length<=i+1/\∃done rest,Fu b.C (Bs b λc=>Ow c\/c=D) H' vs' done/\bJ (fK FF env) gm t f (xs.drop (i+1))=some rest/\done++rest=ys,λvs' H' q=>⟨xs.length - (i+1),by omega,rfl,q⟩,λx H' y=>?_⟩
   obtain⟨s3,r3⟩:=g2 x H' y
   have E3:=(E2.up s3).FF hc
   refine tgo.go b.in _ G σ env e1 H' x _ _ rfl (λ_=>rfl) E3 r3 he1 fun σ3 kp E4=>⟨kp,_,e1,kk,E4,hk,λH4 s4=>?_⟩
   have d4:H4 D=some (.lst vs):=s4 _ _ (s3 _ _ d2)
   have s24:FD H2 H4:=s3.trans s4
   cases kk with
   | false=>
    refine O6 ⟨LI,s2.trans s24,d4,Nat.le_succ_of_le hv,done,rest,rd.ex (.of_same s24),?_,Rl⟩
    simpa using cl
   | true=>
    simp only[fi] at cl
    obtain⟨y1,hy1,cl⟩:=aD cl
    obtain⟨ys1,hys1,cl⟩:=aD cl
    cases cl
    refine O7 ⟨_,e1,y1,E4.up s4,hy1,λv5 H5 s5 r5=>⟨s5 _ _ d4,oF (by omega),LI,?_,bu,by rw[a9];show vs.length+1<=i+1;omega,done++[y1],ys1,?_,hys1,by rw[da];exact Rl⟩⟩
    ·exact λc o h=>by rw[aO (a_ h hD)];exact s5 _ _ (s24 _ _ (s2 _ _ h))
    ·have r5':Rep b.C (Bs b λc=>Ow c\/c=D) H5 v5 y1:=r5
     refine((rd.ex (.of_same (s24.trans s5))).append (.cons r5' .nil)).ex ?_
     exact qW (b:=b) (Ow:=λc=>Ow c\/c=D) (.inr rfl) (s5 _ _ d4) rfl
  ·have e:i=xs.length:=by omega
   subst e
   rw[List.drop_length] at cl
   cases cl
   rw[bp] at Rl
   subst Rl
   refine .inl ⟨w2,k _ H2 (s1.trans s2) ⟨D,rfl,nD,vs,d2,rd.ex (dC λc o _ q=>⟨⟨λz=>q.1 (.inl z),q.2⟩,λz=>q.1 (.inr z)⟩)⟩⟩
 ·cases hf
theorem bR {X:Cx}:uI X [] (tMT b G aZ):=by rintro Fn s σ H Q I ⟨Ow,env,k,E,hf,kk⟩;cases hf;exact O8 Fn s σ H Q I (kk H (FD.refl _))
theorem bU (S:QO HG scope ON N FF)(tgo:Sb b.C.K FF g gm)(hi:SI X b G false tg iter src)(hg:∀C s H fp,PG (X.comp N scope C s H fp) tg g)(ht:∀C s H fp,uI (X.comp N scope C s H fp) ifs (tMT b.in (lL FF G) t))(he:∀C s H fp,SE (X.comp N scope C s H fp) b.in (lL FF G) .val elt f)
  (Tb:autoParam (ur FF=true) r0_) (hc:autoParam (X.calm=true) r0_) (LO:autoParam (X.env.scope=HG) r0_) (hN:autoParam (X.N=ON) r0_) (hs:autoParam (∀x,foldedSetIterable iter X.env x=pure x) r4_):SE X b G .own (.ListComp elt [⟨tg,iter,ifs,0⟩] scope pos) (bY FF src gm t f):=
 PE.imp (Sd S hi hg ht he hc LO hN hs) fun σ H Q h=>JF tgo Tb h
theorem Lx (i:Nat){y:Str}{py OM:Pos}(nd:X.N.Nodup)(S:QO HG scope ON N FF)(tgo:Sb b.C.K FF g gm)(hi:SI X b G false tg iter src)(hg:∀C s H fp,PG (X.comp N scope C s H fp) tg g)(ht:∀C s H fp,uI (X.comp N scope C s H fp) ifs (tMT b.in (lL FF G) t))(he:∀C s H fp,SE (X.comp N scope C s H fp) b.in (lL FF G) .val elt f)
  (hG:autoParam (i∉G) r1_) (hx:autoParam (b.fx i=none) r6_) (N4:autoParam (X.N[i]?=some y) r0_) (hy:autoParam (Loc X.env.scope y) r7_) (Tb:autoParam (ur FF=true) r0_)
  (hsw:autoParam (swapsWith (.ListComp elt [⟨tg,iter,ifs,0⟩] scope pos) (some (.Name y py)) OM.line X.env=pure true) r0_)
  (hc:autoParam (X.calm=true) r0_) (LO:autoParam (X.env.scope=HG) r0_) (hN:autoParam (X.N=ON) r0_) (hs:autoParam (∀x,foldedSetIterable iter X.env x=pure x) r4_)
  (hf:autoParam (X.fn y=true\/X.env.scope.names.lookup y=some .local) r3_):
  SS X b G G L ro (.Assign [.Name y py] (.ListComp elt [⟨tg,iter,ifs,0⟩] scope pos) OM) (aK i (bY FF src gm t f)):=
 PS.imp (HQ S nd N4 hy hi hg ht he hsw hc LO hN hs hf) λD σ H q=>JF tgo Tb (by
  obtain⟨Ow,env,p,E,hf,k⟩:=Wn hG hx q
  exact⟨Ow,env,p,E,hf,λv H' s r=>k v H' s (r.val E (by intro z;cases z))⟩)
theorem SM (i:Nat){y:Str}{py OM:Pos}(nd:X.N.Nodup)(S:QO HG scope ON N FF)(tgo:Sb b.C.K FF g gm)(hi:SI X b G false tg iter src)(hg:∀C s H fp,PG (X.comp N scope C s H fp) tg g)(ht:∀C s H fp,uI (X.comp N scope C s H fp) ifs (tMT b.in (lL FF G) t))(he:∀C s H fp,SE (X.comp N scope C s H fp) b.in (lL FF G) .val elt f)
  (hG:autoParam (i∈G) r1_) (hx:autoParam (b.fx i=none) r6_) (N4:autoParam (X.N[i]?=some y) r0_) (hy:autoParam (Loc X.env.scope y) r7_) (Tb:autoParam (ur FF=true) r0_)
  (hsw:autoParam (swapsWith (.ListComp elt [⟨tg,iter,ifs,0⟩] scope pos) (some (.Name y py)) OM.line X.env=pure true) r0_)
  (hc:autoParam (X.calm=true) r0_) (LO:autoParam (X.env.scope=HG) r0_) (hN:autoParam (X.N=ON) r0_) (hs:autoParam (∀x,foldedSetIterable iter X.env x=pure x) r4_)
  (hf:autoParam (X.fn y=true\/X.env.scope.names.lookup y=some .local) r3_):
  SS X b G G L ro (.Assign [.Name y py] (.ListComp elt [⟨tg,iter,ifs,0⟩] scope pos) OM) (aK i (bY FF src gm t f)):=
 PS.imp (HQ S nd N4 hy hi hg ht he hsw hc LO hN hs hf) λD σ H q=>JF tgo Tb (JD (λj=>⟨.inl,λz=>z.elim id λy=>y▸hG⟩) hx q)
end
noncomputable def aV (n k:Nat)(ro:Bool)(f:Env->Option Out)(ps:List PV):Option PV:=if ps.length=k then (f (ps.map some++List.replicate (n - k) none)).bind λo=>match o with
 | .nx _=>if ro=true then none else some .FE
 | .rt p=>some p
 | _=>none
 else none
@[simp] theorem Z5 (n k:Nat)(ro:Bool)(f:Env->Option Out)(ps:List PV):aV n k ro f ps=(if ps.length=k then (f (ps.map some++List.replicate (n - k) none)).bind λo=>match o with
 | .nx _=>if ro=true then none else some .FE
 | .rt p=>some p
 | _=>none
 else none):=id rfl
theorem Pu {N:qE}{ps:List PV}{G:qr}(r:Fu C A H vs ps)(hG:∀i,i∈G->ps.length<=i)(hn:ps.length<=N.length):ER ⟨C,A,H,λ_=>none⟩ (λ_=>False) G (L2.start N vs) (ps.map some++List.replicate (N.length - ps.length) none) H:=by
 have hl:=r.length
 have old:∀i p,(ps.map some++List.replicate (N.length - ps.length) none)[i]?=some (some p)->ps[i]?=some p:=λi p e=>by
  by_cases hi:i < ps.length
  ·rw[eP (by rw[ac];exact hi),b0] at e
   cases q:ps[i]? with
   | none=>rw[q] at e;cases e
   | some p'=>rw[q] at e;cases e;rfl
  ·rw[iL (by rw[ac];omega),kb] at e
   split at e <;> cases e
 refine⟨?_,FD.refl _,λa w=>w.elim,λa w=>w.elim,λi p e n=>?_,λi p e n=>?_,λi j a p q e1 n1 s1 e2 n2 s2=>?_,λk v z=>by cases z⟩
 ·unfold L2.start
  simp only[a9,ac,kQ]
  omega
 ·obtain⟨v,hv,rv⟩:=r.get (old i p e)
  refine⟨v,?_,rv.ex (dC λa o _ q=>⟨λz=>z,.inl q⟩)⟩
  unfold L2.start
  have hi:i < vs.length:=(aS.mp hv).1
  rw[eP (by rw[ac];exact hi),b0,hv]
  rfl
 ·have h1:=(aS.mp (old i p e)).1
  have h2:=hG i n
  omega
 ·have h1:=(aS.mp (old i p e1)).1
  have h2:=hG i n1
  omega
theorem SN {N:qE}{n k:Nat}{G G' L:qr}{body:qA}(hN:N.length=n)(hk:k<=n)(hG:(G.all λi=>decide (k<=i))=true)(hb:∀A H,Sa X ⟨C,A,H,λ_=>none⟩ G G' L ro body f)
  {vs:List V}{H:Hp}{Q:VK}{E:XK}(h:Kj C (aV n k ro f) ro vs H Q E):∃t,MW X body t/\t { nx:=λ_ H'=>Q .FE H',rt:=Q } (L2.start N vs) H:=by
 obtain⟨A,ps,p,r,hm,kk⟩:=h
 refine⟨_,hb A H,?_⟩
 unfold aV at hm
 split at hm
 ·rename_i hl
  obtain⟨o,ho,hm⟩:=aD hm
  refine⟨_,_,o,Pu (N:=N) (G:=G) r (λi hi=>by rw[hl];simpa using cr.mp hG i hi) (by omega),by rw[hN,hl];exact ho,?_⟩
  cases o with
  | nx e=>
   cases ro with
   | true=>cases hm
   | false=>cases hm;exact λF5 σ' H' E' _=>kk .FE H' E'.same .FE
  | rt q=>cases hm;exact λv H' s rr=>kk v H' s rr
  | bk e=>cases hm
  | ct e=>cases hm
 ·cases hm
theorem SQ {n k:Nat}{ro':Bool}{Q:VK}{E:XK}(h:Kj C (aV n k ro' f) ro vs H Q E):vs.length=k:=by
 obtain⟨A,ps,p,r,hm,kk⟩:=h
 unfold aV at hm
 split at hm
 ·rename_i hl;rw[r.length];exact hl
 ·cases hm
noncomputable def xq (n k c:Nat)(f:Env->Option Out)(ps:List PV):Option (List (Str×PV)):=if ps.length+1=k then (f (some (.obj c [])::(ps.map some++List.replicate (n - k) none))).bind λo=>match o with
 | .nx (some (.obj c' fs)::_)=>if c'=c then some fs else none
 | _=>none
 else none
@[simp] theorem ZD (n k c:Nat)(f:Env->Option Out)(ps:List PV):xq n k c f ps=(if ps.length+1=k then (f (some (.obj c [])::(ps.map some++List.replicate (n - k) none))).bind λo=>match o with
 | .nx (some (.obj c' fs)::_)=>if c'=c then some fs else none
 | _=>none
 else none):=id rfl
def spI (C:MC)(c:Nat)(m:List PV->Option (List (Str×PV))):Sp:=λvs H Q _=>∃A ps fs x dx us,vs=.ref x::us/\H x=some (.ins (C.cl c) dx [])/\¬ A x/\Fu C A H us ps/\m ps=some fs /\
 ∀H',(∀a o,a≠x->H a=some o->H' a=some o)->Top C (λz=>(A z\/H z=none)/\z≠x) H' x (.obj c fs)->Q .FE H'
theorem SX {N:qE}{n k c:Nat}{G G' L:qr}{body:qA}(hN:N.length=n)(hk:k<=n)(hG0:0∈G)(hG1:0∈G')(hG:(G.all λi=>decide (i=0\/k<=i))=true)(hb:∀A H x,Sa X ⟨C,A,H,fx0 x⟩ G G' L false body f)
  {vs:List V}{H:Hp}{Q:VK}{E:XK}(h:spI C c (xq n k c f) vs H Q E):∃t,MW X body t/\t { nx:=λ_ H'=>Q .FE H',rt:=Q } (L2.start N vs) H:=by
 obtain⟨A,ps,fs,x,dx,us,rfl,hx,nA,r,hm,kk⟩:=h
 refine⟨_,hb A (λa=>if a=x then none else H a) (.ref x),?_⟩
 unfold xq at hm
 split at hm
 ·rename_i hl
  obtain⟨o,ho,MX⟩:=aD hm
  clear hm
  have hus:=r.length
  have old:∀i p,(ps.map some++List.replicate (n - k) none)[i]?=some (some p)->ps[i]?=some p:=λi p e=>by
   by_cases hi:i < ps.length
   ·rw[eP (by rw[ac];exact hi),b0] at e
    cases q:ps[i]? with
    | none=>rw[q] at e;cases e
    | some p'=>rw[q] at e;cases e;rfl
   ·rw[iL (by rw[ac];omega),kb] at e
    split at e <;> cases e
  have low:∀i,i+1∈G->∀p,(ps.map some++List.replicate (n - k) none)[i]?=some (some p)->False:=λi hi p e=>by
   have h1:=(aS.mp (old i p e)).1
   have h2:i+1=0\/k<=i+1:=by simpa using cr.mp hG (i+1) hi
   omega
  have E0:ER ⟨C,A,λa=>if a=x then none else H a,fx0 (.ref x)⟩ (λa=>a=x) G (L2.start N (.ref x::us)) (some (.obj c [])::(ps.map some++List.replicate (n - k) none)) H:=by
   refine⟨?_,λa o e=>?_,λa w=>?_,λa w=>?_,λi p e n=>?_,λi p e n=>?_,λi j a p q e1 n1 s1 e2 n2 s2=>?_,λk v z=>?_⟩
   ·unfold L2.start
    simp only[a9,ac,kQ,bg]
    omega
   ·have e':(if a=x then none else H a)=some o:=e
    split at e'
    ·cases e'
    ·exact e'
   ·subst w;exact⟨_,hx⟩
   ·subst w;show (if a=a then none else H a)=none;rw[ba rfl]
   ·cases i with
    | zero=>exact absurd hG0 n
    | succ i=>
     rw[fA] at e
     obtain⟨v,hv,rv⟩:=r.get (old i p e)
     refine⟨v,?_,rv.ex (dC λa o _ q=>⟨λz=>nA (z▸q),.inl q⟩)⟩
     have hi:i < us.length:=(aS.mp hv).1
     show ((V.ref x::us).map some++_)[i+1]?=_
     rw[al,i0,fA,eP (by rw[ac];exact hi),b0,hv]
     rfl
   ·cases i with
    | zero=>cases e;exact⟨x,rfl,rfl,dx,[],hx,.nil⟩
    | succ i=>exact(low i n p e).elim
   ·cases i with
    | zero=>
     cases j with
     | zero=>rfl
     | succ j=>exact(low j n2 q e2).elim
    | succ i=>exact(low i n1 p e1).elim
   ·cases k with
    | zero=>cases z;rfl
    | succ k=>cases z
  refine⟨_,_,o,E0,ho,?_⟩
  cases o with
  | nx e=>
   cases e with
   | nil=>cases MX
   | cons s0 rest=>
    cases s0 with
    | none=>cases MX
    | some p0=>
     cases p0 <;> simp only at MX <;> first | cases MX | skip
     rename_i c' fs'
     split at MX
     ·rename_i Sk
      subst Sk
      cases MX
      intro F5 σ' H' E' _
      obtain⟨a,h1,h2,h3⟩:=E'.own 0 _ rfl hG1
      have h4:=E'.fix 0 (.ref x) rfl
      rw[h1] at h4
      cases h4
      refine kk H' (λa o na e=>E'.same a o (by show (if a=x then none else H a)=some o;rw[ax na];exact e)) (h3.ex (dC λz o _ q=>?_) λo z=>z)
      have nz:z≠x:=λy=>q.1 (y▸h2)
      refine⟨q.2.imp id λy=>?_,nz⟩
      have y':(if z=x then none else H z)=none:=y
      rwa [ax nz] at y'
     ·cases MX
  | rt q=>cases MX
  | bk e=>cases MX
  | ct e=>cases MX
 ·cases hm
theorem S5 {n k c c':Nat}{Q:VK}{E:XK}(h:spI C c' (xq n k c f) vs H Q E):vs.length=k:=by
 obtain⟨A,ps,fs,x,dx,us,rfl,hx,nA,r,hm,kk⟩:=h
 unfold xq at hm
 split at hm
 ·rename_i hl;rw[bg,r.length];exact hl
 ·cases hm
structure CalI (P:Program)(w:World)(K:W.Frag)(mg:Str->Option Value)(base:Heap)(C:Addr)(k:Nat)(x:Str)(ps:qE)(sp:Sp):Prop where
 ex:∃f fd,GV P w K mg base MO k f fd ps sp/\Binds K fd ps []/\Mk K C f/\mg x=some (.ref C)
noncomputable def JG (c:Nat)(m:List PV->Option (List (Str×PV)))(g:Env->Option (List PV))(env:Env):Option PV:=(g env).bind λps=>(m ps).bind λfs=>some (.obj c fs)
@[simp] theorem ZF (c:Nat)(m:List PV->Option (List (Str×PV)))(g:Env->Option (List PV))(env:Env):JG c m g env=((g env).bind λps=>(m ps).bind λfs=>some (.obj c fs)):=id rfl
section
variable {X:Cx}{b:BX}{G:qr}{pos p:Pos}{e:Expr}{es:qB}{g:Env->Option (List PV)}
theorem Px {c:Nat}{mi:List PV->Option (List (Str×PV))}{L:Bool}{Q:VK}{qs:List PV}{fs:List (Str×PV)}(E:ER b Ow G σ env H)(q1:g env=some qs)(q2:mi qs=some fs)(hl:L=true->Fl fs=true)
  (kk:∀v H',FD H H'->Res b Ow H H' .own v (.obj c fs)->Q v H'):Rb (b.C.cl c) (spI b.C c mi) [] E0 (tMA b G L g) σ H Q:=by
 refine⟨Ow,env,qs,E,q1,λvs H1 s1 r x dx hx hdx HL=>?_⟩
 rw[bp]
 have s2:FD H1 (upd (upd H1 dx (.own x)) x (.ins (b.C.cl c) dx [])):=λa o h=>by rw[aO (a_ h hx),aO (a_ h hdx)];exact h
 have nw:(upd (upd H1 dx (.own x)) x (.ins (b.C.cl c) dx [])) x=some (.ins (b.C.cl c) dx []):=bu
 refine⟨λa=>ArA b Ow L H1 a/\a≠x,qs,fs,x,dx,vs,rfl,nw,λz=>z.2 rfl,r.ex λa o h=>⟨λq=>⟨s2 _ _ h,q,a_ h hx⟩,λ_=>s2 _ _ h⟩,q2,λH' hH t=>⟨rfl,kk _ H' ?_ ⟨x,rfl,s1.free hx,?_⟩⟩⟩
 ·exact λa o h=>hH a o (a_ (s1 _ _ h) hx) (s2 _ _ (s1 _ _ h))
 ·obtain⟨dx',f,h1,h2⟩:=t
  refine⟨dx',f,h1,?_⟩
  have keep:∀a o,H1 a=some o->H' a=some o:=λa o h=>hH a o (a_ h hx) (s2 _ _ h)
  have old:∀a,(upd (upd H1 dx (.own x)) x (.ins (b.C.cl c) dx [])) a=none->H1 a=none:=λa h=>s2.free h
  cases L with
  | false=>exact h2.ex (dC λz o _ q=>⟨q.1.elim (λy=>y.1.elim id λy'=>by cases y'.1) λy=>(E.up s1).fresh (old z y),q.2⟩)
  | true=>
   refine h2.nl (λa o ha z=>?_) (hl rfl)
   rcases z with ⟨(⟨z | ⟨_,us,z⟩,_⟩ | z),nz⟩
   ·exact .inl ⟨z,nz⟩
   ·have:=keep _ _ z
    rw[this] at ha
    exact .inr ⟨us,(bo ha).symm⟩
   ·exact .inl ⟨(E.up s1).fresh (old a z),nz⟩
theorem S6 {c k j:Nat}{mi:List PV->Option (List (Str×PV))}(cI:CalI X.prog X.w X.K X.mg X.base (b.C.cl c) k x ps (spI b.C c mi))(hr:F0 j X.A)(ha:SA X b G false (e::es) g)(hle:autoParam (k+1<=j) r1_)(hg:autoParam (Gl X x) r0_)
  (Nl:autoParam ((x == ("__debug__" : Str))=false) r1_) (he:autoParam (starEach (e::es) X.env=(false,eval e X.env)::starEach es X.env) r0_) (IH:autoParam ((backTo pos (starEach es X.env)).any (·.1)=false) r0_):
  SE X b G .own (.Call (.Name x p) (e::es) [] pos) (JG c mi g):=by
 obtain⟨f,fd,F,hb,hM,hm⟩:=cI.ex
 refine PE.imp (RW hM F (hr.mono hle) hg hm hb .nil DX ha Nl he IH) ?_
 rintro σ H Q ⟨Ow,env,q,E,hf,kk⟩
 obtain⟨qs,q1,hf⟩:=aD hf
 obtain⟨fs,q2,hf⟩:=aD hf
 cases hf
 exact Px E q1 q2 (λz=>by cases z) kk
@[simp] noncomputable def tyN:PV->Option String
 | .FE=>some "NoneType"
 | .bl _=>some "bool"
 | .int _=>some "int"
 | .str _=>some "str"
 | .lst _=>some "list"
 | .tup _=>some "tuple"
 | .dK _=>some "dict"
 | .dT _=>some "dict"
 | _=>none
noncomputable def Ft (tb:List (String×Bool))(p:PV):Option PV:=(tyN p).bind λt=>(tb.lookup t).bind λk=>some (.bl k)
@[simp] theorem Z6 (tb:List (String×Bool))(p:PV):Ft tb p=((tyN p).bind λt=>(tb.lookup t).bind λk=>some (.bl k)):=id rfl
theorem FC.ty {p:PV}{t:String}(r:FC C A H v p)(h:tyN p=some t):KW C.K H v (.type t):=by
 cases p <;> simp only[tyN] at h <;> cases h
 ·rw[r.FE];exact .FE
 ·rw[r.bl];exact .bl _
 ·rw[r.int];exact .int _
 ·rw[r.str];exact .str _
 ·obtain⟨a,vs,rfl,ha,_⟩:=r.lst;exact .lst ha
 ·obtain⟨a,vs,rfl,ha,_⟩:=r.tup;exact ha.elim (λq=>.tup q) λq=>.MB q
 ·obtain⟨a,vs,rfl,ha,_⟩:=r.dK;exact .dK ha
 ·obtain⟨a,vs,rfl,ha,_⟩:=r.dT;exact .dT ha
theorem fZ {α β:Type}[BEq α][LawfulBEq α]{x:α}{y:β}:∀{l:List (α×β)},l.lookup x=some y->(x,y)∈l
 | [],h=>by cases h
 | (a,c)::r,h=>by
  rw[b6] at h
  cases q:x == a with
  | true=>rw[q] at h;cases h;have:=eq_of_beq q;subst this;exact am
  | false=>rw[q] at h;exact ah _ (fZ h)
theorem Fv {m:Md}{f:rh}{n:Str}{n':String}{p1:Pos}(tb:List (String×Bool))(hk:∀t k,(t,k)∈tb->W.kitOne X.K (.type t) (.type n')=some k)(hm:X.mg "isinstance" = none)(hmn:X.mg n=none)(hbn:bootBuiltins n=some (.type n'))(h:SE X b G m e f)(hK:autoParam (X.K=b.C.K) r0_)(hg:Gl X "isinstance" := by rfl)(hgn:autoParam (Gl X n) r0_)
  (hbi:autoParam (bootBuiltins "isinstance" = some (.builtin "isinstance")) r2_) (hn1:n ≠ "__name__" := by decide) (hd:autoParam ((n == ("__debug__" : Str))=false) r1_)
  (he:autoParam (starEach [e,.Name n p1] X.env=(false,eval e X.env)::starEach [.Name n p1] X.env) r0_) (PY:autoParam (starEach [.Name n p1] X.env=(false,eval (.Name n p1) X.env)::starEach [] X.env) r0_) (IH:autoParam ((backTo pos (starEach [.Name n p1] X.env)).any (·.1)=false) r0_):
  SE X b G .val (.Call (.Name "isinstance" p) [e,.Name n p1] [] pos) (b1 (Ft tb) f):=by
 refine PE.imp (yr Hr hg hm hbi (cF h.bor (cF (Rx (v:=.ty n') hgn hmn hbn rfl hn1 hd) eZ PY) he) (by decide) (by decide) he IH) ?_
 rintro σ H Q ⟨Ow,env,q,E,hf,kk⟩
 obtain⟨p1,hp1,hf⟩:=aD hf
 obtain⟨t,ht,hf⟩:=aD hf
 obtain⟨k,hk',hf⟩:=aD hf
 cases hf
 refine⟨Ow,env,p1,E,hp1,λv H1 s r=>?_⟩
 have r1:FC b.C (Bs b Ow) H1 v p1:=r
 exact⟨v,n',.type t,k,rfl,by rw[hK];exact r1.ty ht,hk t k (fZ hk'),kk _ H1 s (.bl k)⟩
end
end Lake.MR
namespace Lake.L2
open PySem PySem.Spec PyProof.Rows
section
variable {X:Cx}{Fn:qo}{σ:St}{H H':Hp}{s:Shared}{h':Heap}
theorem Inv.ZN {t':Nat}{ch:qV}(I:Inv X Fn σ H s)(k:∀b u,b∉ch->s.heap.get? b=some u->h'.get? b=some u)(hf:∀b∈ch,oA X Fn H b):Inv X Fn σ H { s with heap:=h',toks:=t' }:=by
 have Sz:∀b u,H b=some u->b∉ch:=λb u e hb=>by
  rw[(hf b hb).1] at e;cases e
 refine I.step (g':=s.gens) (d':=s.drawn) (ch:=ch) (λb hb=>let ⟨_,f1,_,f4,f5,f6⟩:=hf b hb;⟨f4,f1,f5,f6⟩) (λb o _ _ hc e _=>k b o hc e) (λb o _ _ hc e _=>⟨o.slots,k b o hc e⟩)
  (λ_ _ _ _ n=>n) (λb o hc e=>⟨o,k b o hc e⟩) (λ_ _ e=>e) (λ_ _ _ e=>e) (λb ps e=>⟨#[],by rw[e];simp⟩) (λm hm=>?_) (λb u e=>?_) I.bare
 ·obtain⟨oL,es,ep,ho,r⟩:=hm
  have nL:X.env.locals∉ch:=λhb=>(hf _ hb).2.1 rfl
  exact⟨oL,es,ep,k _ oL nL ho,r⟩
 ·refine(I.FH b u e).OG (λc v hc q=>k c v ?_ q) (λ_ q=>q) λ_ _ q=>q
  rcases hc with z | z
  ·rw[z];exact Sz b u e
  ·exact Sz c _ z
end
def Itz (K:W.Frag)(a b:Addr):It:=
  ⟨λi H=>∃xs x ys y,F8 K H a xs/\xs[i]?=some x/\F8 K H b ys/\ys[i]?=some y,
   λi H v H'=>∃t x y,H t=none/\v=.ref t/\H'=upd H t (.tup [x,y])/\(∀xs,F8 K H a xs->xs[i]?=some x)/\∀ys,F8 K H b ys->ys[i]?=some y,
   λi H=>∃xs ys,F8 K H a xs/\F8 K H b ys/\(xs.length<=i\/ys.length<=i)⟩
def Rj (z TI TO i1 i2 l1 l2:Addr)(i:Nat)(h:Heap):Prop:=IsZip h z TI TO .none/\IsPair h TI (.ref i1) (.ref i2)/\(∃a b,IsPair h TO a b)/\h.IsListIter i1 l1 i/\h.IsListIter i2 l2 i
theorem Fw {P:Program}{w:World}{K:W.Frag}{es:qB}{x1:Nat}{tpos:Pos}{z TI TO i1 i2 l1 l2:Addr}(D:ZipApart z TI TO i1 i2 l1 l2):Turn P w K (.Tuple es x1 tpos) (Itz K l1 l2) [z,TI,TO,i1,i2] z (Rj z TI TO i1 i2 l1 l2) where
 mem:=by simp
 obj:=λi h st b hb=>by
  obtain⟨hz,LS,⟨a,c,N2⟩,⟨o1,e1,c1,d1⟩,⟨o2,e2,c2,d2⟩⟩:=st
  simp only[aI,bi,c9] at hb
  rcases hb with rfl | rfl | rfl | rfl | rfl
  ·exact⟨_,hz,λv y=>by have y':Data.fields _=Data.cell v:=y;cases y'⟩
  ·exact⟨_,LS,λv y=>by have y':Data.seq _ _=Data.cell v:=y;cases y'⟩
  ·exact⟨_,N2,λv y=>by have y':Data.seq _ _=Data.cell v:=y;cases y'⟩
  ·exact⟨o1,e1,λv y=>by rw[d1] at y;cases y⟩
  ·exact⟨o2,e2,λv y=>by rw[d2] at y;cases y⟩
 keep:=λi h h' st k=>by
  obtain⟨hz,LS,⟨a,c,N2⟩,s1,s2⟩:=st
  exact⟨k z (by simp) _ hz,k TI (by simp) _ LS,⟨a,c,k TO (by simp) _ N2⟩,s1.at λo q=>k i1 (by simp) o q,s2.at λo q=>k i2 (by simp) o q⟩
 item:=by
  intro X hP hw hK hc i Fn s σ H E I hf st hg
  subst hP hw hK
  obtain⟨xs,x,ys,y,hq1,hx,RA,hy⟩:=hg
  obtain⟨hz,LS,⟨a,b,N2⟩,s1,s2⟩:=st
  obtain⟨its1,rv1,p1,hz1⟩:=I.list hq1
  obtain⟨JA,rv2,p2,hz2⟩:=I.list RA
  obtain⟨u,hu,ru⟩:=rv1.get hx
  obtain⟨v,hv,rv⟩:=rv2.get hy
  refine wpAny_pyNext_zip_item D hz LS N2 s1 s2 p1.isList p2.isList (x:=u) (y:=v) (by simpa using hu) (by simpa using hv) λh' z1 t1 j1 j2 tp hsz hk=>⟨_,rfl,?_⟩
  refine wpAny_letOwnedTupleGo_zip (s:={ s with heap:=h' }) z1 λh2 z2 sb=>?_
  have lz:z < s.heap.objs.size:=ay hz
  have g2:h2.get? s.heap.objs.size=some { cls:=.type "tuple",data:=.seq #[u,v] }:=(sb.2 _ (iS lz)).trans tp
  have k2:∀c o,c∉[z,TO,i1,i2]->s.heap.get? c=some o->h2.get? c=some o:=λc o hb q=>by
   have n1:c≠z:=λe=>hb (by simp[e])
   have n2:c≠TO:=λe=>hb (by simp[e])
   have n3:c≠i1:=λe=>hb (by simp[e])
   have n4:c≠i2:=λe=>hb (by simp[e])
   exact(sb.2 c n1).trans (hk c o n1 n2 n3 n4 q)
  have gTO:IsPair h2 TO u v:=(sb.2 _ D.TOz).trans t1
  have g1:h2.IsListIter i1 l1 (i+1):=j1.extBut sb.extBut D.i1z
  have g2':h2.IsListIter i2 l2 (i+1):=j2.extBut sb.extBut D.i2z
  have Ya:∀c o,s.heap.get? c=some o->∃o',h2.get? c=some o':=λc o q=>by
   by_cases n1:c=z
   ·subst n1;exact⟨_,z2⟩
   ·by_cases n2:c=TO
    ·subst n2;exact⟨_,gTO⟩
    ·by_cases n3:c=i1
     ·subst n3;obtain⟨o',e',_⟩:=g1;exact⟨o',e'⟩
     ·by_cases n4:c=i2
      ·subst n4;obtain⟨o',e',_⟩:=g2';exact⟨o',e'⟩
      ·exact⟨o,k2 c o (by simp[n1,n2,n3,n4]) q⟩
  have I2:Inv X Fn σ (upd H s.heap.objs.size (.tup [x,y])) { s with heap:=h2,toks:=s.toks }:=
   I.NY (ch:=[z,TO,i1,i2]) k2 Ya (λb hb=>hf b (by simp only[aI,bi,c9] at hb ⊢;rcases hb with e | e | e | e <;> simp[e])) (aw _)
    ⟨by show 2<=sizeLine;decide,[u,v],.cons ru (.cons rv .nil),⟨_,g2,rfl,_,rfl⟩⟩
  refine⟨.ref s.heap.objs.size,_,I2,rfl,⟨s.heap.objs.size,x,y,I.fresh,rfl,rfl,λzs hy=>by rw[I.Kb hy hq1];exact hx,λzs ZO=>by rw[I.Kb ZO RA];exact hy⟩,⟨z2,?_,⟨u,v,gTO⟩,g1,g2'⟩,λb hb=>?_⟩
  ·exact k2 TI _ (by simp[D.TIz,D.TITO,D.TIi1,D.TIi2]) LS
  ·have hb0:=(hf b hb).1
   rw[aO ?_]
   ·exact hb0
   ·have LI:b < s.heap.objs.size:=by
     simp only[aI,bi,c9] at hb
     rcases hb with rfl | rfl | rfl | rfl | rfl
     ·exact lz
     ·exact ay LS
     ·exact ay N2
     ·obtain⟨o,e1,_⟩:=s1;exact ay e1
     ·obtain⟨o,e1,_⟩:=s2;exact ay e1
    exact bt LI
 done:=by
  intro X hP hw hK hc i Fn s σ H E I hf st hg
  subst hP hw hK
  obtain⟨xs,ys,hq1,RA,hl⟩:=hg
  obtain⟨hz,LS,⟨a,b,N2⟩,s1,s2⟩:=st
  obtain⟨its1,rv1,p1,hz1⟩:=I.list hq1
  obtain⟨JA,rv2,p2,hz2⟩:=I.list RA
  have l1':=rv1.length
  have l2':=rv2.length
  refine wpAny_pyNext_zip_end (I.ok.hd hc) D hz LS N2 s1 s2 p1.isList p2.isList (hl.imp (λh=>by simp;omega) λh=>by simp;omega) λh' hk=>⟨rfl,?_⟩
  refine I.ZN (t':=s.toks) (ch:=[z,TO,i1,i2]) (λc o hb q=>?_) (λb hb=>hf b (by simp only[aI,bi,c9] at hb ⊢;rcases hb with e | e | e | e <;> simp[e]))
  exact hk c o (λe=>hb (by simp[e])) (λe=>hb (by simp[e])) (λe=>hb (by simp[e])) (λe=>hb (by simp[e])) q
 self:=λA i s Q E st h=>wpAny_pyIter_zip st.1 h
section
variable {X:Cx}
def ZG (K:W.Frag)(ta:TA):TI:=fun σ H R=>ta σ H λvs H1=>∃a b,vs=[.ref a,.ref b]/\(∃xs,F8 K H1 a xs)/\(∃ys,F8 K H1 b ys)/\R (Itz K a b) H1
theorem Wr {l r:Expr}{ta:TA}{es:qB}{x1:Nat}{tpos p pos:Pos}(hg:Gl X "zip")(hm:X.mg "zip" = none)(ha:PA X [l,r] ta)(hs:autoParam (starEach [l,r] X.env=(false,eval l X.env)::starEach [r] X.env) r0_)(hp:autoParam ((backTo pos (starEach [r] X.env)).any (·.1)=false) r0_):
  PI X (.Tuple es x1 tpos) (.Call (.Name "zip" p) [l,r] [] pos) (ZG X.K ta):=by
 intro Fn s σ H R I h
 refine Call_ (gK I hg hm PyProof.Rows.boot_zip (bX (FX (ha pos Fn s σ H _ I h) ?_) hs hp))
 rintro us s1 ⟨vs,H1,I1,r1,q1⟩
 obtain⟨a,b,e,⟨xs,hq1⟩,⟨ys,RA⟩,q⟩:=q1
 subst e
 obtain⟨u,v,rfl,ru,rv⟩:=vals2 r1
 cases ru
 cases rv
 obtain⟨its1,rv1,p1,hz1⟩:=I1.list hq1
 obtain⟨JA,rv2,p2,hz2⟩:=I1.list RA
 have a1:a < s1.heap.objs.size:=by obtain⟨_,e,_⟩:=p1.isList;exact ay e
 have a2:b < s1.heap.objs.size:=by obtain⟨_,e,_⟩:=p2.isList;exact ay e
 refine call_zip_2 p1.isList p2.isList λh' hz LS N2 hi1 hi2 hsz hk=>?_
 have I2:Inv X Fn σ H1 { s1 with heap:=h' }:=I1.kept (t':=s1.toks) hk
 have D:=zipApart_new a1 a2
 have st:Rj (s1.heap.objs.size+4) (s1.heap.objs.size+2) (s1.heap.objs.size+3) s1.heap.objs.size (s1.heap.objs.size+1) a b 0 h':=⟨hz,LS,⟨_,_,N2⟩,hi1,hi2⟩
 refine(Fw (P:=X.prog) (w:=X.w) (K:=X.K) (es:=es) (x1:=x1) (tpos:=tpos) D).self X.A 0 { s1 with heap:=h' } _ _ st ?_
 refine⟨s1.heap.objs.size+4,_,_,_,H1,rfl,I2,Fw D,st,λc hb=>?_,q⟩
 have PZ:s1.heap.objs.size<=c:=by
  simp only[aI,bi,c9] at hb
  rcases hb with e | e | e | e | e <;> rw[e] <;> omega
 exact I1.Nc PZ (I1.FH.fresh PZ)
end
end Lake.L2
namespace Lake.MR
open PySem L2
section
variable {X:Cx}{b:BX}{G G' L:qr}{ro:Bool}{pos:Pos}
noncomputable def dZ (xs ys:List PV):List PV:=List.zipWith (λx y=>.tup [x,y]) xs ys
noncomputable def iZ (f g:rh)(env:Env):Option (List PV):=(f env).bind λp=>(g env).bind λq=>match p,q with
 | .lst xs,.lst ys=>some (dZ xs ys)
 | _,_=>none
@[simp] theorem aay (f g:rh)(env:Env):iZ f g env=((f env).bind λp=>(g env).bind λq=>match p,q with
 | .lst xs,.lst ys=>some (dZ xs ys)
 | _,_=>none):=id rfl
theorem vY {fr:Bool}{m1 m2:Md}{e1 e2:Expr}{h1 h2:rh}{es:qB}{x1:Nat}{tpos p pos:Pos}(hm:X.mg "zip" = none)(he:SE X b G m1 e1 h1)(PY:SE X b G m2 e2 h2)(ZT:fr=true->m1≠.bor)(hmd2:fr=true->m2≠.bor)(hK:autoParam (X.K=b.C.K) r0_)(hg:Gl X "zip" := by rfl)
  (hs:autoParam (starEach [e1,e2] X.env=(false,eval e1 X.env)::starEach [e2] X.env) r0_) (JO:autoParam (starEach [e2] X.env=(false,eval e2 X.env)::starEach [] X.env) r0_) (hp:autoParam ((backTo pos (starEach [e2] X.env)).any (·.1)=false) r0_):
  SI X b G fr (.Tuple es x1 tpos) (.Call (.Name "zip" p) [e1,e2] [] pos) (iZ h1 h2):=by
 refine PI.imp (Wr hg hm (cF he (cF PY eZ JO) hs) hs hp) ?_
 rintro σ H R ⟨Ow,env,ps,E,hf,k⟩
 rw[hK]
 obtain⟨p1,hp1,Ta⟩:=aD hf
 clear hf
 obtain⟨p2,NS,II⟩:=aD Ta
 clear Ta
 refine⟨Ow,env,p1,E,hp1,λv H1 s r=>⟨Ow,env,p2,E.up s,NS,λv2 H2 s2 r2=>?_⟩⟩
 have r':Res b Ow H H2 m1 v p1:=Res.up r s2
 have b1:FC b.C (Bs b Ow) H2 v p1:=r'.bor
 have b2:FC b.C (Bs b Ow) H2 v2 p2:=r2.bor
 cases p1 <;> cases p2 <;> simp only at II <;> cases II
 rename_i xs ys
 obtain⟨a,vs,rfl,ha,ra⟩:=b1.lst
 obtain⟨c,us,rfl,hc,rc⟩:=b2.lst
 refine⟨a,c,rfl,⟨vs,F8.of ha⟩,⟨us,F8.of hc⟩,k _ _ (s.trans s2) λF5 H3 h0 hx hn=>?_⟩
 have hq:H3 a=some (.lst vs)/\Fu b.C (Bs b F5) H3 vs xs:=by
  refine⟨?_,ra.ex hx⟩
  cases fr with
  | false=>exact h0 rfl _ _ ha
  | true=>
   have rv:Rep b.C (Bs b Ow) H2 (.ref a) (.lst _):=r'.val E (ZT rfl)
   cases rv with
   | lst q1 q2 q3=>rw[ha] at q1;cases q1;exact((hx _ _ ha).1 q2).1
 have RA:H3 c=some (.lst us)/\Fu b.C (Bs b F5) H3 us ys:=by
  refine⟨?_,rc.ex hx⟩
  cases fr with
  | false=>exact h0 rfl _ _ hc
  | true=>
   have rv:Rep b.C (Bs b Ow) H2 (.ref c) (.lst _):=r2.val (E.up s) (hmd2 rfl)
   cases rv with
   | lst q1 q2 q3=>rw[hc] at q1;cases q1;exact((hx _ _ hc).1 q2).1
 refine⟨λi p OU=>?_,⟨vs,us,F8.of hq.1,F8.of RA.1,?_⟩⟩
 ·unfold dZ at OU
  rw[on] at OU
  cases qx:xs[i]? with
  | none=>rw[qx] at OU;simp at OU
  | some x=>
   cases qy:ys[i]? with
   | none=>rw[qx,qy] at OU;simp at OU
   | some y=>
    rw[qx,qy] at OU
    cases OU
    obtain⟨v,hv,rv⟩:=hq.2.get qx
    obtain⟨u,hu,ru⟩:=RA.2.get qy
    refine⟨⟨vs,v,us,u,F8.of hq.1,hv,F8.of RA.1,hu⟩,λz H' yl=>?_⟩
    obtain⟨t,x',y',ht,e1,e2,y1,y2⟩:=yl
    subst e1 e2
    have e3:=y1 vs (F8.of hq.1)
    have e4:=y2 us (F8.of RA.1)
    rw[hv] at e3
    rw[hu] at e4
    cases e3
    cases e4
    exact⟨bc ht _,.tup bu (.cons (rv.ex (.of_same (bc ht _))) (.cons (ru.ex (.of_same (bc ht _))) .nil))⟩
 ·have l1:=hq.2.length
  have l2:=RA.2.length
  unfold dZ
  rw[pp]
  omega
end
section
variable {X:Cx}{b:BX}{G G' L:qr}{ro:Bool}{pos p:Pos}{m m1 m2:Md}{e e1 e2:Expr}{f f1 f2 h:rh}
@[simp] noncomputable def yC:PV->PV->Option PV
 | .lst xs,.lst ys=>if xs.length+ys.length<=1000000 then some (.lst (xs++ys)) else none
 | _,_=>none
theorem Lz {x y z:PV}(e:yC x y=some z):∃xs ys,x=.lst xs/\y=.lst ys/\xs.length+ys.length<=1000000/\z=.lst (xs++ys):=by
 unfold yC at e
 split at e
 ·split at e
  ·cases e;exact⟨_,_,rfl,rfl,‹_›,rfl⟩
  ·cases e
 ·cases e
theorem Ec (i:Nat){x:Str}{p1 apos FG:Pos}(he:SE X b G .val e h)(hi:autoParam (i∈G) r1_)(hN:autoParam (X.N[i]?=some x) r0_)(hv:autoParam (Sn X.env.scope x) r5_)(hd:autoParam ((x == ("__debug__" : Str))=false) r1_)
  (LH:autoParam ((x == ("__classdict__" : Str))=false) r1_) (He:autoParam (attributeBase (.Name x p1) "extend" X.env (eval (.Name x p1) X.env)=eval (.Name x p1) X.env) r0_)
  (ML:((backTo FG (starEach [e] X.env)).all (λx=>!x.1)&&(backToKw FG (keywordEach [] X.env)).all (λx=>x.1.isSome)
   && decide ([e].length+([]:List Keyword).length+(if ([]:List Keyword).isEmpty then 0 else 1) < 30))=true:=by rfl)
  (HA:autoParam ((apos.endLine == FG.line)=true) r0_) (hs:autoParam (starEach [e] X.env=(false,eval e X.env)::starEach [] X.env) r0_):
  SS X b G G L ro (.Expr (.Call (.Attribute (.Name x p1) "extend" apos) [e] [] FG) pos) (bM yC i h):=
 PS.imp (wW (Jq ki PySem.F.slot_list_extend PySem.F.type_list_extend K8 (k_ hN hv hd LH) (cF he eZ hs) He ML HA hs rfl))<|by
  rintro D σ H ⟨Ow,env,o,E,hf,k⟩
  obtain⟨px,QY,z1⟩:=aD hf
  clear hf
  obtain⟨p,hp,z2⟩:=aD z1
  clear z1
  obtain⟨y,hy,z3⟩:=aD z2
  clear z2
  cases z3
  obtain⟨xs,ys,rfl,rfl,hl,rfl⟩:=Lz hy
  obtain⟨a,ea,w,t⟩:=E.own i _ (eF QY) hi
  obtain⟨vs,ha,ra⟩:=id t
  refine⟨_,ea,.inl ⟨rfl,_,F8.of ha⟩,Ow,env,_,E,hp,λv H' s r=>?_⟩
  cases r with
  | @lst c us _ q1 q2 q3=>
   refine⟨a,c,vs,us,rfl,rfl,s _ _ ha,q1,ig (by rw[ra.length,q3.length];exact hl),?_⟩
   have ra':Fu b.C (Bs b Ow) (upd H' a (.lst (vs++us))) (vs++us) (xs++ys):=by
    refine(ra.ex (.of_same s)).append q3 |>.ex λc o h=>⟨λq=>⟨by rw[aO (λz:c=a=>q.1 (z▸w))];exact h,q⟩,λm=>?_⟩
    have hc:c≠a:=λz=>by subst z;rw[s _ _ ha] at h;cases h;cases m
    rw[aO hc];exact h
   obtain⟨E',x⟩:=(E.up s).write hi ea (eF QY) w (t.ex (.of_same s) λo z=>s _ _ z) (o':=.lst (vs++us)) (p':=.lst (xs++ys)) ⟨_,bu,ra'⟩
   exact k Ow σ _ E' ((Ex.of_same s).trans x)
@[simp] noncomputable def JH:PV->PV->Option PV
 | .lst xs,.int k=>if -1000000<=k/\k<=1000000/\xs.length*k.toNat<=1000000 then some (.lst (List.replicate k.toNat xs).flatten) else none
 | _,_=>none
theorem Fu.RS {C:MC}{A:Addr->Prop}{H:Hp}{vs:List V}{ps:List PV}(h:Fu C A H vs ps):∀n:Nat,Fu C A H (List.replicate n vs).flatten (List.replicate n ps).flatten
 | 0=>.nil
 | n+1=>by
  rw[c8,c8,cS,cS]
  exact h.append (Fu.RS h n)
theorem Ws:MD b .own VM JH:=by
 intro Ow H v1 v2 p1 p2 p Q hn r1 r2 e k
 unfold JH at e
 split at e
 ·split at e
  ·rename_i h
   cases e
   obtain⟨a,vs,rfl,ha,ra⟩:=r1.lst
   have e2:=r2.int
   subst e2
   have h63:(2 ^ 63:Int)=9223372036854775808:=by decide
   exact⟨a,_,vs,rfl,rfl,ha,by omega,by omega,ig (by rw[ra.length];exact h.2.2),λq hq=>k _ _ (bc hq _) (fP hq (ra.RS _))⟩
  ·cases e
 ·cases e
theorem Wt (h1:SE X b G m1 e1 f1)(h2:SE X b G m2 e2 f2):SE X b G .own (.BinOp e1 .Mult e2 pos) (b2 JH f1 f2):=qm VN Ws h1 h2
@[simp] noncomputable def vZ:PV->Option PV
 | .lst xs=>some (.tup xs)
 | .frz xs=>some (.tup xs)
 | .tup xs=>some (.tup xs)
 | _=>none
theorem Fx (hm:X.mg "tuple" = none)(h:SE X b G m1 e f)(hK:autoParam (X.K=b.C.K) r0_)(hg:Gl X "tuple" := by rfl)(he:autoParam (starEach [e] X.env=(false,eval e X.env)::starEach [] X.env) r0_):SE X b G .val (.Call (.Name "tuple" p) [e] [] pos) (b1 vZ f):=by
 refine xf Df (λOw H v1 p1 p Q hn r1 e k=>?_) hm nB h hg (by decide) (by decide) he
 rw[hK]
 cases p1 <;> simp only[vZ] at e <;> cases e
 case lst xs=>obtain⟨a,vs,rfl,ha,ra⟩:=r1.lst;exact⟨a,vs,rfl,.inl ⟨F8.of ha,λl hl=>k _ _ (bc hl _) (w6 hl ra)⟩⟩
 case frz xs=>obtain⟨a,vs,rfl,ha,ra⟩:=r1.frz;exact⟨a,vs,rfl,.inl ⟨ha,λl hl=>k _ _ (bc hl _) (w6 hl ra)⟩⟩
 case tup xs=>obtain⟨a,vs,rfl,ha,ra⟩:=r1.tup;exact⟨a,vs,rfl,.inr ⟨ha.sq,k _ _ (FD.refl _) (ha.rep ra)⟩⟩
@[simp] noncomputable def Ed:PV->Option PV
 | .int j=>if 0<=j/\j<=1000000 then some (.lst (cH 0 j)) else none
 | _=>none
@[simp] noncomputable def zx:PV->Option PV
 | .lst xs=>some (.lst xs.reverse)
 | _=>none
noncomputable def iRv (f:rh)(env:Env):Option (List PV):=(f env).bind λp=>match p with
 | .lst xs=>some xs.reverse
 | _=>none
@[simp] theorem aal (f:rh)(env:Env):iRv f env=((f env).bind λp=>match p with
 | .lst xs=>some xs.reverse
 | _=>none):=id rfl
end
end Lake.MR
namespace Lake.L2
open PySem PySem.Spec PyProof.Rows
section
variable {X:Cx}
noncomputable def Av (n:Nat):List V:=(List.range n).map λi=>.int (i:Nat)
theorem Fy:∀(n k:Nat) (l:qv),l.length=n->(∀(j:Nat) v,l[j]?=some v->∃t,v=.int ((k+j:Nat):Int) t)->Vals ((List.range' k n).map λi=>V.int (i:Nat)) l
 | 0,k,l,h,_=>by
  have:=ls h
  subst this
  exact .nil
 | n+1,k,l,h,hv=>by
  cases l with
  | nil=>cases h
  | cons v l=>
   rw[List.range'_succ,al]
   refine .cons ?_ (Fy n (k+1) l (by simpa using h) λj u hu=>?_)
   ·obtain⟨t,e⟩:=hv 0 v rfl
    exact⟨t,e⟩
   ·obtain⟨t,e⟩:=hv (j+1) u (by simpa using hu)
    exact⟨t,by rw[e];congr 1;omega⟩
def Wu (ta:TA):TE:=fun σ H Q=>ta σ H λvs H1=>∃n:Nat,vs=[.int (n:Nat)]/\n<=1000000/\∀l,H1 l=none->Q (.ref l) (upd H1 l (.lst (Av n)))
theorem Py {a:Expr}{ta:TA}{p p2 pos GL:Pos}(hg:Gl X "list")(hm:X.mg "list" = none)(To:Gl X "range")(MX:X.mg "range" = none)(hc:X.calm=true)(ha:PA X [a] ta)(hs:autoParam (starEach [a] X.env=[(false,eval a X.env)]) r0_)
  (JO:autoParam (starEach [.Call (.Name "range" p2) [a] [] GL] X.env=(false,eval (.Call (.Name "range" p2) [a] [] GL) X.env)::starEach [] X.env) r0_) (IH:autoParam ((backTo pos (starEach [] X.env)).any (·.1)=false) r0_):
  PE X (.Call (.Name "list" p) [.Call (.Name "range" p2) [a] [] GL] [] pos) (Wu ta):=by
 intro Fn s σ H Q I h
 refine eT (gK I hg hm iq ?_ (by decide) (by decide))
 refine bX ?_ JO IH
 rw[JO]
 show wpAny _ _ (spliced ((false,eval (.Call (.Name "range" p2) [a] [] GL) X.env)::backTo pos (starEach [] X.env))) _ _ s
 refine d0 ?_
 refine Call_ (gK I To MX PyProof.Rows.boot_range (bX (FX (ha GL Fn s σ H _ I h) ?_) hs rfl))
 rintro us s1 ⟨vs,H1,I1,r1,q1⟩
 obtain⟨n,e,hn,q⟩:=q1
 subst e
 cases r1 with
 | cons r rr=>
  cases rr
  obtain⟨t,rfl⟩:=r
  refine call_range_1 (fz ?_)
  have h64:(2 ^ 62:Int)=4611686018427387904:=by decide
  refine call_list_range (n:=n) (I1.ok.hd hc) (IsRange.new ..) (small_one (by omega) (by omega) (by omega) (by omega)) (by rw[rangeSize_one];split <;> omega) (by omega) λh' tk Nn c' kp e it=>?_
  obtain⟨i1,i2⟩:=it
  have hv:Vals (Av n) Nn.toList:=by
   have:=Fy n 0 Nn.toList (by simpa using i1) λj v hj=>by
    obtain⟨t,e⟩:=i2 j v (by simpa using hj)
    exact⟨t,by rw[e];congr 1;omega⟩
   unfold Av
   rw[oI]
   exact this
  have I2:=I1.laid (a:=s1.heap.objs.size+1) (o:=.lst (Av n)) (h':=h') (t':=tk) (λb o eb=>kp b o (af _ eb)) (by omega)
   (show FK X.prog X.w X.K _ h' _ (.lst (Av n)) from ⟨(by unfold Av;rw[ac,kG];exact kx (oF hn)),Nn.toList,c',hv,by
    have:=e
    rw[dn] at this
    simpa using this⟩)
  refine⟨.ref (s1.heap.objs.size+1),_,I2,?_,q _ (I1.FH.fresh (by omega))⟩
  show Value.ref _=Value.ref _
  rw[dn]
end
theorem LC:typeLookup (.type "list_reverseiterator") "__len__" = pure none:=by rw[jv,gi];kernel_rfl
theorem Pz:typeLookup (.type "list_reverseiterator") "__length_hint__" = pure (some (.builtin "list_reverseiterator.__length_hint__")):=by rw[jv,gi];kernel_rfl
section
variable {prog:Program}{w:World}{A:Around}{E:qk}{s:Shared}
theorem JK {J l N:Addr}{items:re}{c₀:Nat}{R:Result->Shared->Prop}(hh:A.handled=none)(hit:s.heap.IsRevIter J l ((items.size:Int) - 1))(hl:s.heap.IsList l items)(hlJ:l≠J)(hNJ:N≠J)(hNl:N≠l)(hn:items.size<=sizeLine)
  (hN:s.heap.get? N=some { cls:=.type "list",data:=.seq #[] c₀ })
  (hR:∀h' tk acc c,(∀b o,b≠J->b≠N->s.heap.get? b=some o->h'.get? b=some o)->h'.get? N=some { cls:=.type "list",dict:=none,data:=.seq acc c,slots:=#[] }->ItemsOf (λi v=>items[items.size - 1 - i]?=some v) acc items.size->R (.ok (.ret .none)) { s with heap:=h',toks:=tk }):
  wpAny (model prog w) A.in1 (Builtin.List.listExtendWith (.ref N) (.ref J) .none)
   (λfin s'=>match fin with | .done f=>R (.ok f) s' | .again c'=>c'.quiet=true/\codeAny (model prog w) A c' R s') (λe s'=>R (.error e) s') s:=by
 have W:=(Walks.listRev (prog:=prog) (w:=w) (A:=A.in1) hh J l hlJ items).toS
 have OW:(0:Nat)<=items.size/\s.heap.IsRevIter J l ((items.size:Int) - 1 - ((0:Nat):Int))/\s.heap.IsList l items:=⟨eA _,by simpa using hit,hl⟩
 unfold Builtin.List.listExtendWith
 have hr:Builtin.List.listSameRef (.ref N) (.ref J)=false:=by simp[Builtin.List.listSameRef,hNJ]
 refine ab (oa hit.typeIs ?_);rw[ax (by rw[hr];decide)]
 refine ab (lv hit (ab (cy ?_)))
 unfold Builtin.List.listLengthHint
 refine ab (js hit.typeIs LC ?_)
 show wpAny _ A.in1 (specialOf (Value.ref J) (Str.ofString "__length_hint__") >>= _) _ _ _
 refine ab (js hit.typeIs Pz ?_)
 (generalize hid:("list_reverseiterator.__length_hint__" : String)=nm;(fail_if_success (clear hid nm));wp_delta;rw[show splitId nm=some ("list_reverseiterator","__length_hint__") from by subst hid;decide +kernel];subst hid)
 refine ab (lb (b:=true) hit.typeIs (by rw[isSubtype_type];kernel_rfl) (ag ?_))
 rw[ax (by decide)]
 have hNf:N∉[J,l]:=by simp[hNJ,hNl]
 refine ag ⟨iA ic _,codeAny_extend_loopS W hn N hNf .none items.size 0 _ _ _ rfl (eA _) OW hN (ItemsOf.nil _) λs' acc c hm hN' it=>?_⟩
 rw[Moved.eq_with hm]
 exact hR s'.heap s'.toks acc c (λb o h1 h2 e=>hm.heap b o (by simp[h1,h2]) e) hN' it
theorem Di {J l:Addr}{items:re}{Q:qk}(hh:A.handled=none)(hit:s.heap.IsRevIter J l ((items.size:Int) - 1))(hl:s.heap.IsList l items)(hlJ:l≠J)(hn:items.size<=sizeLine)
  (hQ:∀h' tk acc c,(∀b o,b≠J->s.heap.get? b=some o->h'.get? b=some o)->h'.get? s.heap.objs.size=some { cls:=.type "list",dict:=none,data:=.seq acc c,slots:=#[] }->ItemsOf (λi v=>items[items.size - 1 - i]?=some v) acc items.size->Q (.ref s.heap.objs.size) { s with heap:=h',toks:=tk }):
  wpAny (model prog w) A (call (.type "list") [.ref J]) Q E s:=by
 have lt:∀{b:Addr}{o:Obj},s.heap.get? b=some o->b≠s.heap.objs.size:=λe=>bt (ay e)
 have nJ:J≠s.heap.objs.size:=let ⟨_,e,_⟩:=hit;lt e
 have nl:l≠s.heap.objs.size:=let ⟨_,e,_⟩:=hl;lt e
 refine oQ (Q₁:=λx t=>x=.ref s.heap.objs.size/\t={ s with heap:=s.heap.push { cls:=.type "list",data:=.seq #[] } }) F.called_list (F.typeCall_list_1 _) F.entry_list_init (code_list_new _ ⟨rfl,rfl⟩) λx t ht=>?_
 obtain⟨rfl,rfl⟩:=ht
 have hN:(s.heap.push { cls:=.type "list",data:=.seq #[] }).get? s.heap.objs.size=some { cls:=.type "list",data:=.seq #[] }:=ap _ rfl
 refine⟨⟨_,hN,rfl⟩,F.args_list_init_2 _ _,?_⟩
 generalize hS:s.heap.objs.size=N at *
 have up:∀b o,b≠N->s.heap.get? b=some o->((s.heap.push { cls:=.type "list",data:=.seq #[] }).update N (Obj.mapSeq (λ_=>(#[]:re)))).get? b=some o:=λb o hb e=>(cf _ _ (fg hb)).trans (af _ e)
 show wpAny _ A.in1.in1 (do let old ← Builtin.List.listItems (.ref N);Builtin.List.listUpdate (.ref N) (λ_=>#[]);letGo old.toList.reverse;Builtin.List.listExtendWith (.ref N) (.ref J) .none) _ _ _
 refine ab ?_;unfold Builtin.List.listItems
 refine ab (eI hN rfl (ag ?_))
 show wpAny _ A.in1.in1 (updateSeq N (λ_=>#[]) >>= λ_=>letGo (#[]:re).toList.reverse >>= λ_=>Builtin.List.listExtendWith (.ref N) (.ref J) .none) _ _ _
 refine ab (fR hN rfl (ab (kl ?_)))
 have hN2:=cn (Obj.mapSeq (λ_=>(#[]:re))) hN rfl
 refine JK (A:=A.in1) hh (hit.at λo e=>up J o nJ e) (hl.at λo e=>up l o nl e) hlJ (fg nJ) (fg nl) hn hN2 λh' tk acc c k e it=>⟨rfl,hQ h' tk acc c (λb o hb eb=>k b o hb (hS▸lt eb) (up b o (hS▸lt eb) eb)) e it⟩
end
def Itv (K:W.Frag)(a:Addr)(n:Nat):It:=
 ⟨λi H=>∃xs x,F8 K H a xs/\xs.length=n/\i < n/\xs[n - 1 - i]?=some x,λi H x H'=>H'=H/\∀xs,F8 K H a xs->xs[n - 1 - i]?=some x,λi _=>n=i⟩
theorem PB {P:Program}{w:World}{K:W.Frag}{tg:Expr}(a it:Addr)(n:Nat):Turn P w K tg (Itv K a n) [it] it (λi h=>h.IsRevIter it a ((n:Int) - 1 - ((i:Nat):Int))) where
 mem:=by simp
 obj:=λi h st b hb=>by
  obtain⟨o,e,c,d⟩:=st
  exact⟨o,by rw[av.mp hb];exact e,λv z=>by rw[d] at z;cases z⟩
 keep:=λi h h' st k=>st.at λo e=>k it am o e
 item:=by
  intro X hP hw hK hc i Fn s σ H E I hf st hg
  subst hP hw hK
  obtain⟨xs,x,hq,hlen,LI,hx⟩:=hg
  obtain⟨its,rv,p,hz⟩:=I.list hq
  obtain⟨u,hu,ru⟩:=rv.get hx
  obtain⟨f0,f1,f2,f3,f4,f5⟩:=hf it am
  have e1:(n:Int) - 1 - ((i:Nat):Int)=((n - 1 - i:Nat):Int):=by omega
  have st1:=st
  rw[e1] at st1
  refine wpAny_pyNext_rev_item st1 p.isList (x:=u) (by simpa using hu) λh' MI sb=>?_
  have e2:((n - 1 - i:Nat):Int) - 1=(n:Int) - 1 - ((i+1:Nat):Int):=by omega
  rw[e2] at MI
  obtain⟨o,e,c,d⟩:=id MI
  exact⟨u,rfl,wY (s:={ s with heap:=h' }) e c d (by decide) ⟨x,H,I.turned (t':=s.toks) (λb o hb q=>(sb.2 b hb).trans q) f0 f1 f3 f4 f5,ru,⟨rfl,λys hy=>by rw[I.Kb hy hq];exact hx⟩,MI,λb hb=>(hf b hb).1⟩⟩
 done:=by
  intro X hP hw hK hc i Fn s σ H E I hf st hg
  subst hP hw hK
  obtain⟨f0,f1,f2,f3,f4,f5⟩:=hf it am
  have hg':n=i:=hg
  have e1:(n:Int) - 1 - ((i:Nat):Int)=-1:=by omega
  rw[e1] at st
  exact wpAny_pyNext_rev_end (I.ok.hd hc) st λh' eb=>⟨rfl,I.turned (t':=s.toks) (λb o hb q=>eb b o hb q) f0 f1 f3 f4 f5⟩
 self:=λ_ _ _ _ _ st h=>lv st h
section
variable {X:Cx}{tg:Expr}
def ZJ (K:W.Frag)(ta:TA):TI:=fun σ H R=>ta σ H λvs H1=>∃a xs,vs=[.ref a]/\F8 K H1 a xs/\R (Itv K a xs.length) H1
theorem Wv {l:Expr}{ta:TA}{p pos:Pos}(hg:Gl X "reversed")(hm:X.mg "reversed" = none)(ha:PA X [l] ta)(hb:bootBuiltins "reversed" = some (.type "reversed"))(hs:autoParam (starEach [l] X.env=(false,eval l X.env)::starEach [] X.env) r0_)(hp:autoParam ((backTo pos (starEach [] X.env)).any (·.1)=false) r0_):
  PI X tg (.Call (.Name "reversed" p) [l] [] pos) (ZJ X.K ta):=by
 intro Fn s σ H R I h
 refine Call_ (gK I hg hm hb (bX (FX (ha pos Fn s σ H _ I h) ?_) hs hp))
 rintro us s1 ⟨vs,H1,I1,r1,q1⟩
 obtain⟨a,xs,e,hq,q⟩:=q1
 subst e
 obtain⟨u,rfl,ru⟩:=vals1 r1
 cases ru
 obtain⟨its,rv,p,hz⟩:=I1.list hq
 refine call_reversed_list p.isList ?_
 have hlen:=rv.length
 have ez:((its.toArray.size:Nat):Int) - 1=(xs.length:Int) - 1 - ((0:Nat):Int):=by rw[ar];omega
 rw[ez]
 refine lv ⟨_,ap _ rfl,rfl,rfl⟩ ⟨s1.heap.objs.size,[s1.heap.objs.size],_,_,H1,rfl,I1.kept (t':=s1.toks) λb o e=>af _ e,PB a _ xs.length,⟨_,ap _ rfl,rfl,rfl⟩,λb hb=>?_,q⟩
 rw[av.mp hb]
 exact I1.Nc (aw _) (I1.FH.fresh (aw _))
theorem LK {xs:List V}{its:qv}(r:Vals xs its)(acc:qv)(hl:acc.length=its.length)(h:∀(i:Nat) v,acc[i]?=some v->its[its.length - 1 - i]?=some v):Vals xs.reverse acc:=by
 have e:acc=its.reverse:=by
  refine List.ext_getElem? λi=>?_
  rcases oe i acc.length with hi | hi
  ·have:=h i acc[i] (aT hi)
   rw[aT hi,oo (by omega),this]
  ·rw[dS hi,dS (by rw[ib];omega)]
 rw[e]
 exact r.reverse
def Ww (K:W.Frag)(ta:TA):TE:=fun σ H Q=>ta σ H λvs H1=>∃a xs,vs=[.ref a]/\F8 K H1 a xs/\∀l,H1 l=none->Q (.ref l) (upd H1 l (.lst xs.reverse))
theorem PJ {a:Expr}{ta:TA}{p p2 pos GL:Pos}(hg:Gl X "list")(hm:X.mg "list" = none)(To:Gl X "reversed")(MX:X.mg "reversed" = none)(hb:bootBuiltins "reversed" = some (.type "reversed"))(hc:X.calm=true)(ha:PA X [a] ta)(hs:autoParam (starEach [a] X.env=(false,eval a X.env)::starEach [] X.env) r0_)(NS:autoParam ((backTo GL (starEach [] X.env)).any (·.1)=false) r0_)
  (JO:autoParam (starEach [.Call (.Name "reversed" p2) [a] [] GL] X.env=(false,eval (.Call (.Name "reversed" p2) [a] [] GL) X.env)::starEach [] X.env) r0_) (IH:autoParam ((backTo pos (starEach [] X.env)).any (·.1)=false) r0_):
  PE X (.Call (.Name "list" p) [.Call (.Name "reversed" p2) [a] [] GL] [] pos) (Ww X.K ta):=by
 intro Fn s σ H Q I h
 refine eT (gK I hg hm iq (bX ?_ JO IH) (by decide) (by decide))
 rw[JO]
 show wpAny _ _ (spliced ((false,eval (.Call (.Name "reversed" p2) [a] [] GL) X.env)::backTo pos (starEach [] X.env))) _ _ s
 refine d0 (Call_ (gK I To MX hb (bX (FX (ha GL Fn s σ H _ I h) ?_) hs NS)))
 rintro us s1 ⟨vs,H1,I1,r1,q1⟩
 obtain⟨a,xs,e,hq,q⟩:=q1
 subst e
 obtain⟨u,rfl,ru⟩:=vals1 r1
 cases ru
 obtain⟨its,rv,pl,hz⟩:=I1.list hq
 have hlen:=rv.length
 have LI:a≠s1.heap.objs.size:=let ⟨_,e,_⟩:=pl.isList;bt (ay e)
 refine call_reversed_list pl.isList (fz ?_)
 refine Di (I1.ok.hd hc) ⟨_,ap _ rfl,rfl,rfl⟩ (pl.isList.at λo e=>af _ e) LI (by rw[ar];omega) λh' tk acc c k e it=>?_
 obtain⟨i1,i2⟩:=it
 rw[ar] at i1
 have hv:Vals xs.reverse acc.toList:=LK rv acc.toList (by simpa using i1) λi v hi=>by
  have:=i2 i v (by simpa using hi)
  simpa using this
 have I2:=I1.laid (a:=s1.heap.objs.size+1) (o:=.lst xs.reverse) (h':=h') (t':=tk) (λb o eb=>k b o (bt (ay eb)) (af _ eb)) (by omega)
  (show FK X.prog X.w X.K _ h' _ (.lst xs.reverse) from ⟨(by rw[ib];exact hz),acc.toList,c,hv,by
   have:=e
   rw[dn] at this
   simpa using this⟩)
 refine⟨.ref (s1.heap.objs.size+1),_,I2,?_,q _ (I1.FH.fresh (by omega))⟩
 show Value.ref _=Value.ref _
 rw[dn]
end
end Lake.L2
namespace Lake.MR
open PySem L2
section
variable {X:Cx}{b:BX}{G G' L:qr}{ro:Bool}{pos p p2 GL:Pos}{m m1 m2:Md}{e e1 e2:Expr}{f f1 f2 h:rh}
theorem LQ (i:Nat)(G2:qr){x:Str}{pos':Pos}(nd:X.N.Nodup)(he:SE X b G .own e h)(h1:autoParam (∀j,j∈G2->j∈i::G) r1_)(h2:autoParam (∀j,j∈G->j∈G2) r1_)(h3:autoParam (i∈G2) r1_)(hx:autoParam (b.fx i=none) r6_)(hi:autoParam (X.N[i]?=some x) r0_)(hl:autoParam (Loc X.env.scope x) r7_)
  (hs:autoParam (swapsWith e (some (.Name x pos')) pos.line X.env=pure false) r0_) (hf:autoParam (X.fn x=true\/X.env.scope.names.lookup x=some .local) r3_):SS X b G G2 L ro (.Assign [.Name x pos'] e pos) (aK i h):=
 PS.imp (Em nd hi hl he hs hf) λD σ H q=>JD (λj=>⟨λz=>(aI.mp (h1 j z)).symm,λz=>z.elim (h2 j) λy=>y▸h3⟩) hx q
theorem JL {x q:PV}(e:Ed x=some q):∃n:Nat,x=.int (n:Nat)/\n<=1000000/\q=.lst (cH 0 (n:Nat)):=by
 unfold Ed at e
 split at e
 ·split at e
  ·rename_i j hj
   cases e
   have ej:j=((j.toNat:Nat):Int):=by omega
   exact⟨j.toNat,by rw[← ej],by omega,by rw[← ej]⟩
  ·cases e
 ·cases e
theorem PK (hm:X.mg "list" = none)(MX:X.mg "range" = none)(h:SE X b G m1 e f)(hc:autoParam (X.calm=true) r0_)(hg:Gl X "list" := by rfl)(To:Gl X "range" := by rfl)(hs:autoParam (starEach [e] X.env=[(false,eval e X.env)]) r0_)(Mn:autoParam (starEach [e] X.env=(false,eval e X.env)::starEach [] X.env) r0_)
  (JO:autoParam (starEach [.Call (.Name "range" p2) [e] [] GL] X.env=(false,eval (.Call (.Name "range" p2) [e] [] GL) X.env)::starEach [] X.env) r0_) (IH:autoParam ((backTo pos (starEach [] X.env)).any (·.1)=false) r0_):
  SE X b G .own (.Call (.Name "list" p) [.Call (.Name "range" p2) [e] [] GL] [] pos) (b1 Ed f):=by
 refine PE.imp (Py hg hm To MX hc (cF h.bor eZ Mn) hs JO IH) ?_
 rintro σ H Q ⟨Ow,env,q,E,hf,k⟩
 obtain⟨x,hx,hf⟩:=aD hf
 obtain⟨n,rfl,hn,rfl⟩:=JL hf
 refine⟨Ow,env,_,E,hx,λv H1 s r=>?_⟩
 have r1:FC b.C (Bs b Ow) H1 v (.int (n:Nat)):=r
 refine⟨n,by rw[r1.int],hn,λl hl=>k _ _ (s.new hl _) (Res.down s (fP hl ?_))⟩
 have rr:Fu b.C (Bs b Ow) H1 ((List.range n).map λi=>V.int (i:Nat)) ((List.range n).map λi=>PV.int (i:Nat)):=w5 _ _ (λi=>.int _) _
 have e1:cH 0 (n:Nat)=(List.range n).map λi=>PV.int (i:Nat):=by unfold cH;simp
 rw[e1]
 exact rr
theorem JM {x q:PV}(e:zx x=some q):∃xs,x=.lst xs/\q=.lst xs.reverse:=by
 unfold zx at e
 split at e
 ·cases e;exact⟨_,rfl,rfl⟩
 ·cases e
theorem Fz (hm:X.mg "list" = none)(MX:X.mg "reversed" = none)(h:SE X b G m1 e f)(hb:autoParam (bootBuiltins "reversed" = some (.type "reversed")) r2_)(hK:autoParam (X.K=b.C.K) r0_)(hc:autoParam (X.calm=true) r0_)(hg:Gl X "list" := by rfl)(To:Gl X "reversed" := by rfl)(Mn:autoParam (starEach [e] X.env=(false,eval e X.env)::starEach [] X.env) r0_)(NS:autoParam ((backTo GL (starEach [] X.env)).any (·.1)=false) r0_)
  (JO:autoParam (starEach [.Call (.Name "reversed" p2) [e] [] GL] X.env=(false,eval (.Call (.Name "reversed" p2) [e] [] GL) X.env)::starEach [] X.env) r0_) (IH:autoParam ((backTo pos (starEach [] X.env)).any (·.1)=false) r0_):
  SE X b G .own (.Call (.Name "list" p) [.Call (.Name "reversed" p2) [e] [] GL] [] pos) (b1 zx f):=by
 refine PE.imp (PJ hg hm To MX hb hc (cF h.bor eZ Mn) Mn NS JO IH) ?_
 rintro σ H Q ⟨Ow,env,q,E,hf,k⟩
 rw[hK]
 obtain⟨x,hx,hf⟩:=aD hf
 obtain⟨xs,rfl,rfl⟩:=JM hf
 refine⟨Ow,env,_,E,hx,λv H1 s r=>?_⟩
 have r1:FC b.C (Bs b Ow) H1 v (.lst xs):=r
 obtain⟨a,vs,rfl,ha,ra⟩:=r1.lst
 exact⟨a,vs,rfl,F8.of ha,λl hl=>k _ _ (s.new hl _) (Res.down s (fP hl ra.reverse))⟩
theorem LR {fr:Bool}{tg:Expr}(hm:X.mg "reversed" = none)(he:SE X b G m1 e h)(ZT:fr=true->m1≠.bor)(hb:autoParam (bootBuiltins "reversed" = some (.type "reversed")) r2_)(hK:autoParam (X.K=b.C.K) r0_)(hg:Gl X "reversed" := by rfl)(hs:autoParam (starEach [e] X.env=(false,eval e X.env)::starEach [] X.env) r0_)(hp:autoParam ((backTo pos (starEach [] X.env)).any (·.1)=false) r0_):
  SI X b G fr tg (.Call (.Name "reversed" p) [e] [] pos) (iRv h):=by
 refine PI.imp (Wv hg hm (cF he eZ hs) hb hs hp) ?_
 rintro σ H R ⟨Ow,env,ps,E,hf,k⟩
 rw[hK]
 obtain⟨x,hx,II⟩:=aD hf
 clear hf
 refine⟨Ow,env,x,E,hx,λv H1 s r=>?_⟩
 have r1:FC b.C (Bs b Ow) H1 v x:=r.bor
 cases x <;> simp only at II <;> cases II
 rename_i xs
 obtain⟨a,vs,rfl,ha,ra⟩:=r1.lst
 refine⟨a,vs,rfl,F8.of ha,k _ _ s λF5 H2 h0 h1 hn=>?_⟩
 have hq:H2 a=some (.lst vs)/\Fu b.C (Bs b F5) H2 vs xs:=by
  refine⟨?_,ra.ex h1⟩
  cases fr with
  | false=>exact h0 rfl _ _ ha
  | true=>
   have rv:Rep b.C (Bs b Ow) H1 (.ref a) (.lst _):=r.val E (ZT rfl)
   cases rv with
   | lst q1 q2 q3=>rw[ha] at q1;cases q1;exact((h1 _ _ ha).1 q2).1
 have hlen:=hq.2.length
 refine⟨λi p OU=>?_,?_⟩
 ·rcases oe i xs.length with z | z
  ·rw[oo z] at OU
   obtain⟨u,hu,ru⟩:=hq.2.get OU
   rw[← hlen] at hu
   refine⟨⟨vs,u,F8.of hq.1,rfl,by omega,hu⟩,λy H' yl=>?_⟩
   obtain⟨e1,e2⟩:=yl
   subst e1
   have e3:=e2 vs (F8.of hq.1)
   rw[hu] at e3
   cases e3
   exact⟨FD.refl _,ru⟩
  ·rw[dS (by simpa using z)] at OU
   cases OU
 ·show vs.length=xs.reverse.length
  rw[ib]
  exact hlen
end
theorem FJ {α:Type}{n:Nat}{us:List α}(hl:us.length=n+1):∃a r,us=a::r/\r.length=n:=by
 cases us with
 | nil=>cases hl
 | cons a r=>exact⟨a,r,rfl,p9 hl⟩
@[elab_as_elim] theorem len0 {α:Type}{P:List α->Prop}(us:List α)(hl:us.length=0)(h:P []):P us:=by
 cases us with
 | nil=>exact h
 | cons a r=>cases hl
@[elab_as_elim] theorem Wx {α:Type}{P:List α->Prop}(us:List α)(hl:us.length=1)(h:∀a,P [a]):P us:=by
 obtain⟨a,r,rfl,hr⟩:=FJ hl
 exact len0 (P:=λr=>P (a::r)) r hr (h a)
@[elab_as_elim] theorem Wy {α:Type}{P:List α->Prop}(us:List α)(hl:us.length=2)(h:∀a b,P [a,b]):P us:=by
 obtain⟨a,r,rfl,hr⟩:=FJ hl
 exact Wx (P:=λr=>P (a::r)) r hr (h a)
@[elab_as_elim] theorem Wz {α:Type}{P:List α->Prop}(us:List α)(hl:us.length=3)(h:∀a b c,P [a,b,c]):P us:=by
 obtain⟨a,r,rfl,hr⟩:=FJ hl
 exact Wy (P:=λr=>P (a::r)) r hr (h a)
@[elab_as_elim] theorem WD {α:Type}{P:List α->Prop}(us:List α)(hl:us.length=4)(h:∀a b c d,P [a,b,c,d]):P us:=by
 obtain⟨a,r,rfl,hr⟩:=FJ hl
 exact Wz (P:=λr=>P (a::r)) r hr (h a)
@[elab_as_elim] theorem ZK {α:Type}{P:List α->Prop}(us:List α)(hl:us.length=5)(h:∀a b c d e,P [a,b,c,d,e]):P us:=by
 obtain⟨a,r,rfl,hr⟩:=FJ hl
 exact WD (P:=λr=>P (a::r)) r hr (h a)
end Lake.MR
namespace Lake.L2
open PySem PySem.Spec PyProof.Rows
section
variable {prog:Program}{w:World}{A:Around}{E:qk}{s:Shared}
theorem nextT {it t:Addr}{i:Nat}{items:re}{x:Value}{Q:qk}(hit:s.heap.IsTupleIter it t i)(ht:s.heap.IsTuple t items)(hx:items[i]?=some x)
  (hQ:∀h',h'.IsTupleIter it t (i+1)->Heap.SameBut it s.heap h'->Q x { s with heap:=h' }):wpAny (model prog w) A (Builtin.SmallTypes.nextOf (.ref it)) Q E s:=by
 obtain⟨o,eo,co,fo⟩:=id hit
 obtain⟨p,ep,_,np,dp⟩:=ht
 unfold Builtin.SmallTypes.nextOf
 refine ab (cx (name:=Str.ofString "__next__") hit.typeIs gc (cE gc hit.typeIs md ?_ (lS _)))
 show wpAny _ _ (field (.ref it) 0 >>= _) _ _ _
 refine ab (eB eo fo (x:=.ref t) rfl ?_)
 show wpAny _ _ (if (Value.ref t == Value.none)=true then _ else _) _ _ _
 rw[ax (λz:(Value.ref t == Value.none)=true=>bd z)]
 show wpAny _ _ (field (.ref it) 1 >>= _) _ _ _
 refine ab (eB eo fo (x:=.int i 0) rfl ?_)
 show wpAny _ _ (seqItems? (.ref t) >>= _) _ _ _
 refine ab (eI ep dp ?_);simp only[ft,hx]
 refine ab (kq eo fo (by simp) (ag ⟨x,rfl,ag (hQ _ ⟨_,cn _ eo (Obj.isFreed_of_fields (jI fo _)),(Obj.cls_mapFields ..).trans co,?_⟩ (ci ..))⟩))
 rw[jI fo]
 rfl
theorem L_ {it t:Addr}{i:Nat}{items:re}{Q:qk}(hh:A.handled=none)(hit:s.heap.IsTupleIter it t i)(ht:s.heap.IsTuple t items)(hx:items[i]?=none)
  (hE:∀h' e,Heap.ExtBut it s.heap h'->(∃o,h'.get? e=some o/\o.cls=.type "StopIteration")->E (.ref e) { s with heap:=h' }):wpAny (model prog w) A (Builtin.SmallTypes.nextOf (.ref it)) Q E s:=by
 obtain⟨o,eo,co,fo⟩:=id hit
 obtain⟨p,ep,_,np,dp⟩:=ht
 unfold Builtin.SmallTypes.nextOf
 refine ab (cx (name:=Str.ofString "__next__") hit.typeIs gc (cE gc hit.typeIs md ?_ (lS _)))
 show wpAny _ _ (field (.ref it) 0 >>= _) _ _ _
 refine ab (eB eo fo (x:=.ref t) rfl ?_)
 show wpAny _ _ (if (Value.ref t == Value.none)=true then _ else _) _ _ _
 rw[ax (λz:(Value.ref t == Value.none)=true=>bd z)]
 show wpAny _ _ (field (.ref it) 1 >>= _) _ _ _
 refine ab (eB eo fo (x:=.int i 0) rfl ?_)
 show wpAny _ _ (seqItems? (.ref t) >>= _) _ _ _
 refine ab (eI ep dp ?_);simp only[ft,hx]
 refine ab (nS (ab (kq eo fo (by simp) ?_)))
 show wpAny _ _ (newExc (.type "StopIteration") [] >>= _) _ _ _
 refine ab ?_;simp only[newExc,newTuple]
 refine ab (cK (ab (m:=firstArgMember _ _) (oy (a:=Value.none) (by first | rfl | (simp only[firstArgMember];rfl)) (cK ?_ (by size_fits)))) (by size_fits))
 simp only[raiseNew]
 refine ab (pz ?_);rw[hh]
 refine ab (ag (wpAny_throw ?_))
 exact hE _ _ (((ci ..).extBut.push _).push _) ⟨_,ap _ rfl,rfl⟩
theorem WF (hh:A.handled=none)(it t:Addr)(HL:t≠it)(items:re):Draws prog w A it [it,t] items.size (λi v=>items[i]?=some v) (λi h=>h.IsTupleIter it t i/\h.IsTuple t items) where
 live:=λi h st=>let ⟨o,e,_⟩:=st.1;⟨o,e⟩
 frame:=λi h h' st k=>⟨st.1.at λo e=>k it (by simp) o e,let ⟨o,e,c⟩:=st.2;⟨o,k t (by simp) o e,c⟩⟩
 item:=λi s Q E hi st hQ=>nextT st.1 st.2 (b9 hi) λh' a b=>hQ _ h' s.toks (b9 hi) ⟨a,let ⟨o,e,c⟩:=st.2;⟨o,(b.2 t HL).trans e,c⟩⟩ b
 done:=λs Q E st hE=>L_ hh st.1 st.2 (im (aw _)) hE
structure ZA (z TI TO i1 i2:Addr)(fp1 fp2:qV):Prop where
 TIz:TI≠z
 TOz:TO≠z
 TIO:TI≠TO
 m1:i1∈fp1
 m2:i2∈fp2
 z1:z∉fp1
 z2:z∉fp2
 o1:TO∉fp1
 o2:TO∉fp2
 x12:i1∉fp2
 x21:i2∉fp1
variable {z TI TO i1 i2:Addr}{fp1 fp2:qV}{n1 n2:Nat}{P1 P2:Nat->Value->Prop}{St1 St2:Nat->Heap->Prop}
theorem ZA.i1z (D:ZA z TI TO i1 i2 fp1 fp2):i1≠z:=λe=>D.z1 (e▸D.m1)
theorem ZA.i2z (D:ZA z TI TO i1 i2 fp1 fp2):i2≠z:=λe=>D.z2 (e▸D.m2)
end
inductive SK where | L | T
def SK.ty:SK->String
 | .L => "list_iterator"
 | .T => "tuple_iterator"
def SK.is (k:SK)(h:Heap)(a:Addr)(items:re):Prop:=match k with
 | .L=>h.IsList a items
 | .T=>h.IsTuple a items
def SK.at (k:SK)(h:Heap)(it a:Addr)(i:Nat):Prop:=match k with
 | .L=>h.IsListIter it a i
 | .T=>h.IsTupleIter it a i
theorem SK.at_of {k:SK}{h:Heap}{it a:Addr}(e:h.get? it=some { cls:=.type k.ty,data:=.fields #[.ref a,.int 0 0] }):k.at h it a 0:=by
 cases k with
 | L=>exact⟨_,e,rfl,rfl⟩
 | T=>exact⟨_,e,rfl,rfl⟩
theorem SK.P4 {k:SK}{h:Heap}{it a:Addr}{i:Nat}(st:k.at h it a i):∃o,h.get? it=some o/\∀v,o.data≠.cell v:=by
 cases k with
 | L=>obtain⟨o,e,c,d⟩:=st;exact⟨o,e,λv y=>by rw[d] at y;cases y⟩
 | T=>obtain⟨o,e,c,d⟩:=st;exact⟨o,e,λv y=>by rw[d] at y;cases y⟩
theorem SK.RE {k:SK}{h h':Heap}{it a:Addr}{i:Nat}(st:k.at h it a i)(q:∀o,h.get? it=some o->h'.get? it=some o):k.at h' it a i:=by
 cases k with
 | L=>exact Heap.IsListIter.at st q
 | T=>exact Heap.IsTupleIter.at st q
theorem SK.is_lt {k:SK}{h:Heap}{a:Addr}{items:re}(p:k.is h a items):a < h.objs.size:=by
 cases k with
 | L=>obtain⟨o,e,_⟩:=p;exact ay e
 | T=>obtain⟨o,e,_⟩:=p;exact ay e
theorem SK.draws {prog:Program}{w:World}{A:Around}(k:SK)(hh:A.handled=none)(it a:Addr)(HL:a≠it)(items:re):Draws prog w A it [it,a] items.size (λi v=>items[i]?=some v) (λi h=>k.at h it a i/\k.is h a items):=by
 cases k with
 | L=>exact Draws.list hh it a HL items
 | T=>exact WF hh it a HL items
def SK.sq (k:SK)(K:W.Frag)(H:Hp)(a:Addr)(xs:List V):Prop:=match k with
 | .L=>F8 K H a xs
 | .T=>IP K H a xs
section
variable {X:Cx}{Fn:qo}{σ:St}{H:Hp}{s:Shared}
theorem Inv.sk (I:Inv X Fn σ H s){k:SK}{a:Addr}{xs:List V}(h:k.sq X.K H a xs):∃its:List Value,Vals xs its/\k.is s.heap a its.toArray:=by
 cases k with
 | L=>obtain⟨its,r,p,_⟩:=I.list h;exact⟨its,r,p.isList⟩
 | T=>obtain⟨its,r,p,_⟩:=I.tuple h;exact⟨its,r,p⟩
theorem Inv.sk_inj (I:Inv X Fn σ H s){k:SK}{a:Addr}{xs ys:List V}(h:k.sq X.K H a xs)(h':k.sq X.K H a ys):xs=ys:=by
 cases k with
 | L=>exact I.Kb h h'
 | T=>exact I.NG h h'
end
end Lake.L2
namespace Lake.MR
open PySem L2
@[simp] noncomputable def oJ:PV->Option (List PV)
 | .lst xs=>some xs
 | .frz xs=>some xs
 | .tup xs=>some xs
 | .ktp xs=>some xs
 | _=>none
def kd:PV->SK
 | .tup _=>.T
 | .ktp _=>.T
 | _=>.L
noncomputable def iZ2 (f g:rh)(env:Env):Option (List PV):=(f env).bind λp=>(g env).bind λq=>(oJ p).bind λxs=>(oJ q).bind λys=>some (dZ xs ys)
@[simp] theorem aam (f g:rh)(env:Env):iZ2 f g env=((f env).bind λp=>(g env).bind λq=>(oJ p).bind λxs=>(oJ q).bind λys=>some (dZ xs ys)):=id rfl
section
variable {X:Cx}{b:BX}{G G' L:qr}{ro:Bool}{pos p:Pos}{m m1 m2:Md}{e e1 e2:Expr}
theorem PL {Ow:Addr->Prop}{σ:St}{env:Env}{H H2:Hp}{fr:Bool}{v:V}{p:PV}{xs:List PV}(E:ER b Ow G σ env H)(r:Res b Ow H H2 m v p)(ZT:fr=true->m≠.bor)(hs:oJ p=some xs):
  ∃a vs,v=.ref a/\SK.sq (kd p) b.C.K H2 a vs/\Fu b.C (Bs b Ow) H2 vs xs/\∀F5 H3,(fr=false->FD H2 H3)->Ex (Bs b Ow) H2 (Bs b F5) H3->SK.sq (kd p) b.C.K H3 a vs/\Fu b.C (Bs b F5) H3 vs xs:=by
 have b1:FC b.C (Bs b Ow) H2 v p:=r.bor
 unfold oJ at hs
 split at hs
 ·cases hs
  obtain⟨a,vs,rfl,ha,ra⟩:=b1.lst
  refine⟨a,vs,rfl,F8.of ha,ra,λF5 H3 h0 hx=>?_⟩
  have hq:H3 a=some (.lst vs):=by
   cases fr with
   | false=>exact h0 rfl _ _ ha
   | true=>
    have rv:Rep b.C (Bs b Ow) H2 (.ref a) (.lst _):=r.val E (ZT rfl)
    cases rv with
    | lst q1 q2 q3=>rw[ha] at q1;cases q1;exact((hx _ _ ha).1 q2).1
  exact⟨F8.of hq,ra.ex hx⟩
 ·cases hs
  have r1:Rep b.C (Bs b Ow) H2 v (.frz _):=(by rcases b1 with z | ⟨_,_,z⟩;exact z;exact z.elim)
  cases r1 with
  | Nw q1 q3=>exact⟨_,_,rfl,.inl (.inr ⟨_,q1⟩),q3,λF5 H3 h0 hx=>⟨.inl (.inr ⟨_,(hx _ _ q1).2 rfl⟩),q3.ex hx⟩⟩
  | lstK q1 q3=>exact⟨_,_,rfl,sqK q1,q3,λF5 H3 h0 hx=>⟨sqK q1,q3.ex hx⟩⟩
 ·cases hs
  obtain⟨a,vs,rfl,ha,ra⟩:=b1.tup
  exact⟨a,vs,rfl,ha.sq,ra,λF5 H3 h0 hx=>⟨(ha.ex hx).sq,ra.ex hx⟩⟩
 ·cases hs
  have r1:Rep b.C (Bs b Ow) H2 v (.ktp _):=(by rcases b1 with z | ⟨_,_,z⟩;exact z;exact z.elim)
  cases r1 with
  | tupK q1 q3=>exact⟨_,_,rfl,yw q1,q3,λF5 H3 h0 hx=>⟨yw q1,q3.ex hx⟩⟩
 ·cases hs
theorem PI.all {α:Type}{tg iter:Expr}{wi:α->TI}(h:∀a,PI X tg iter (wi a)):PI X tg iter (fun σ H R=>∃a,wi a σ H R):=λFn s σ H R I ⟨a,q⟩=>h a Fn s σ H R I q
end
end Lake.MR
namespace Lake.L2
open PySem PySem.Spec PyProof.Rows
def OX (h:Heap)(a t:Addr)(i:Int):Prop:=∃o,h.get? a=some o/\o.cls=.type "reversed" /\ o.data=.fields #[.ref t,rawInt i]
theorem OX.typeIs {s:Shared}{a l:Addr}{i:Int}(x:OX s.heap a l i):s.TypeIs (.ref a) "reversed" := let ⟨o,ho,hc,_⟩:=x;⟨o,ho,hc⟩
theorem OX.at {h h':Heap}{a l:Addr}{i:Int}(x:OX h a l i)(e:∀o,h.get? a=some o->h'.get? a=some o):OX h' a l i:=let ⟨o,ho,r⟩:=x;⟨o,e _ ho,r⟩
end Lake.L2
namespace Lake.MR
open PySem L2
section
variable {X:Cx}{b:BX}{G G' L:qr}{ro:Bool}{pos p p2 GL:Pos}{m m1 m2:Md}{e:Expr}{h:rh}
noncomputable def ZL (f:rh)(env:Env):Option (List PV):=(f env).bind λp=>(oJ p).bind λxs=>some xs.reverse
@[simp] theorem Z8 (f:rh)(env:Env):ZL f env=((f env).bind λp=>(oJ p).bind λxs=>some xs.reverse):=id rfl
end
@[simp] noncomputable def WL:PV->Option (List PV)
 | .str x=>some (Q1 x)
 | p=>oJ p
noncomputable def iZ3 (f g:rh)(env:Env):Option (List PV):=(f env).bind λp=>(g env).bind λq=>(WL p).bind λxs=>(oJ q).bind λys=>some (dZ xs ys)
@[simp] theorem aan (f g:rh)(env:Env):iZ3 f g env=((f env).bind λp=>(g env).bind λq=>(WL p).bind λxs=>(oJ q).bind λys=>some (dZ xs ys)):=id rfl
end Lake.MR
namespace Lake.HT
open PySem PyProof.Rows
section
open PySem.SeqAt
open PySem.AutoSeq1 (wpAny_loadPart')
open PySem.MeetsSeq PySem.MeetsSeq2 PySem.MeetsSeq3
theorem zy {its:re}{i:Nat}(h:its.toList.drop i=[]):its[((i:Nat):Int).toNat]?=none/\its.size<=i:=by
 have h1:its.size<=i:=by
  have:=c5 List.length h
  simp at this
  omega
 exact⟨by simp;omega,h1⟩
end
end Lake.HT
namespace Lake.L2
open PySem PySem.Spec PyProof.Rows
noncomputable def en1 (k:SK)(h:Heap)(l:Addr):Heap:=h.push { cls:=.type k.ty,data:=.fields #[.ref l,.int 0 0] }
noncomputable def en2 (k:SK)(h:Heap)(l:Addr):Heap:=(en1 k h l).push { cls:=.type "enumerate",data:=.fields #[.none,.bool false,.ref h.objs.size,rawInt 0,.none,.none] }
theorem S7 (k:SK)(l:Addr)(xs:re):Meets (Builtin.«enumerate.__new__» ⟨[.type "enumerate",.ref l],[]⟩) (λ_ R s=>k.is s.heap l xs/\R (.ok (.ret (.ref (en1 k s.heap l).objs.size))) { s with heap:=en2 k s.heap l }):=
 .of_wp λprog w A R s h=>by
  obtain⟨hp,g,d,tk,os⟩:=s
  obtain⟨q1,h⟩:=h
  have hsub:=sub_enumerate
  cases k with
  | L=>
   have e1:Heap.IsList (Shared.heap ⟨hp,g,d,tk,os⟩) l xs:=q1
   wp_walk using fw e1
   refine wpAny_stack_any λst=>ag ?_
   split
   ·rename_i c _ _ _ _ _
    cases (c == Value.type "enumerate") <;> (wp_walk using fw e1;exact⟨_,rfl,h⟩)
   ·wp_walk using fw e1
    exact⟨_,rfl,h⟩
  | T=>
   have e1:Heap.IsTuple (Shared.heap ⟨hp,g,d,tk,os⟩) l xs:=q1
   wp_walk using io e1
   refine wpAny_stack_any λst=>ag ?_
   split
   ·rename_i c _ _ _ _ _
    cases (c == Value.type "enumerate") <;> (wp_walk using io e1;exact⟨_,rfl,h⟩)
   ·wp_walk using io e1
    exact⟨_,rfl,h⟩
theorem JN {prog:Program}{w:World}{A:Around}{E:qk}{s:Shared}{k:SK}{l:Addr}{xs:re}{Q:qk}(q1:k.is s.heap l xs)
  (h:∀h',IsEnum h' (s.heap.objs.size+1) s.heap.objs.size 0 .none->k.at h' s.heap.objs.size l 0->(∀b o,s.heap.get? b=some o->h'.get? b=some o)->Q (.ref (s.heap.objs.size+1)) { s with heap:=h' }):
  wpAny (model prog w) A (call (.type "enumerate") [.ref l]) Q E s:=by
 refine callType_new F.called_enumerate (by decide) (F.typeCall_enumerate_1 _) (F.newCall_enumerate_1 _) (λobj=>F.args_object_init_2 obj _) F.entry_enumerate_new (S7 k l xs) ⟨q1,?_⟩
 have hz:(en1 k s.heap l).objs.size=s.heap.objs.size+1:=dn ..
 show _/\_
 rw[hz]
 have he:IsEnum (en2 k s.heap l) (s.heap.objs.size+1) s.heap.objs.size 0 .none:=by
  have z:=ap (en1 k s.heap l) (o:={ cls:=.type "enumerate",data:=.fields #[.none,.bool false,.ref s.heap.objs.size,rawInt 0,.none,.none] }) rfl
  rw[hz] at z
  exact z
 exact⟨⟨_,he,rfl⟩,h _ he (SK.at_of (af _ (ap _ rfl))) λb o x=>af _ (af _ x)⟩
def WM (K:W.Frag)(k:SK)(a:Addr):It:=
 ⟨λi H=>∃xs x,k.sq K H a xs/\xs[i]?=some x,λi H v H'=>∃t x,H t=none/\v=.ref t/\H'=upd H t (.tup [.int (i:Nat),x])/\∀xs,k.sq K H a xs->xs[i]?=some x,λi H=>∃xs,k.sq K H a xs/\xs.length=i⟩
def EAt (k:SK)(e it a:Addr)(i:Nat)(h:Heap):Prop:=(∃old,IsEnum h e it (i:Nat) old)/\k.at h it a i
theorem JP {P:Program}{w:World}{K:W.Frag}{es:qB}{x1:Nat}{tpos:Pos}(k:SK)(a e it:Addr)(HL:e≠it)(hae:a≠e)(hai:a≠it):Turn P w K (.Tuple es x1 tpos) (WM K k a) [it,e] e (EAt k e it a) where
 mem:=by simp
 obj:=λi h st b hb=>by
  obtain⟨⟨old,he⟩,s1⟩:=st
  simp only[aI,bi,c9] at hb
  rcases hb with rfl | rfl
  ·exact SK.P4 s1
  ·exact⟨_,he,λv y=>by have y':Data.fields _=Data.cell v:=y;cases y'⟩
 keep:=λi h h' st kk=>by
  obtain⟨⟨old,he⟩,s1⟩:=st
  exact⟨⟨old,kk e (by simp) _ he⟩,SK.RE s1 λo q=>kk it (by simp) o q⟩
 item:=by
  intro X hP hw hK hc i Fn s σ H E I hf st hg
  subst hP hw hK
  obtain⟨xs,x,hq,hx⟩:=hg
  obtain⟨⟨old,he⟩,s1⟩:=st
  obtain⟨its,rv,p1⟩:=I.sk hq
  obtain⟨u,hu,ru⟩:=rv.get hx
  have hh:=I.ok.hd hc
  have hi1:i < its.toArray.size:=by
   rcases oe i its.length with q | q
   ·simpa using q
   ·rw[dS q] at hu;cases hu
  refine wpAny_pyNext_enum_itemD (SK.draws (prog:=X.prog) (w:=X.w) (A:=X.A.in1) k hh it a hai its.toArray) he ⟨s1,p1⟩ hi1 HL (by simp[HL,hae.symm]) λx' h' tk ex heo j1 Ts hsz hk=>⟨_,rfl,?_⟩
  have eu:x'=u:=bo (by rw[← ex,← hu];simp)
  subst eu
  refine wpAny_letOwnedTupleGo_enum (s:={ s with heap:=h',toks:=tk+1 }) heo λh2 PY JO=>?_
  have hel:e < s.heap.objs.size:=ay he
  have g2:h2.get? s.heap.objs.size=some { cls:=.type "tuple",data:=.seq #[.int i tk,x'] }:=(JO.2 _ (iS hel)).trans Ts
  have k2:∀b o,b∉[it,e]->s.heap.get? b=some o->h2.get? b=some o:=λb o hb q=>by
   simp only[aI,bi,c9,not_or] at hb
   exact(JO.2 b hb.2).trans (hk b o hb.2 hb.1 q)
  have g1:k.at h2 it a (i+1):=SK.RE j1.1 λo q=>(JO.2 it (fg HL)).trans q
  have Ya:∀b o,s.heap.get? b=some o->∃o',h2.get? b=some o':=λb o q=>by
   by_cases n1:b=it
   ·subst n1;obtain⟨o',e',_⟩:=SK.P4 g1;exact⟨o',e'⟩
   ·by_cases n2:b=e
    ·subst n2;exact⟨_,PY⟩
    ·exact⟨o,k2 b o (by simp[n1,n2]) q⟩
  have I2:Inv X Fn σ (upd H s.heap.objs.size (.tup [.int (i:Nat),x])) { s with heap:=h2,toks:=tk+1 }:=
   I.NY (ch:=[it,e]) k2 Ya hf (aw _) ⟨by show 2<=sizeLine;decide,[.int i tk,x'],.cons ⟨_,rfl⟩ (.cons ru .nil),⟨_,g2,rfl,_,rfl⟩⟩
  refine⟨.ref s.heap.objs.size,_,I2,rfl,⟨s.heap.objs.size,x,I.fresh,rfl,rfl,λys hy=>by rw[I.sk_inj hy hq];exact hx⟩,⟨⟨x',PY⟩,g1⟩,λb hb=>?_⟩
  have hb0:=(hf b hb).1
  rw[aO ?_]
  ·exact hb0
  ·simp only[aI,bi,c9] at hb
   rcases hb with rfl | rfl
   ·obtain⟨o,e1,_⟩:=SK.P4 s1;exact bt (ay e1)
   ·exact bt hel
 done:=by
  intro X hP hw hK hc i Fn s σ H E I hf st hg
  subst hP hw hK
  obtain⟨xs,hq,hx⟩:=hg
  obtain⟨⟨old,he⟩,s1⟩:=st
  obtain⟨its,rv,p1⟩:=I.sk hq
  obtain⟨f0,f1,f2,f3,f4,f5⟩:=hf it (by simp)
  have hl:=rv.length
  have hi:i=its.toArray.size:=by rw[ar];omega
  rw[hi] at s1
  exact wpAny_pyNext_enum_endD (SK.draws (prog:=X.prog) (w:=X.w) (A:=X.A.in1) k (I.ok.hd hc) it a hai its.toArray) he ⟨s1,p1⟩ λh' eb=>⟨rfl,I.turned (t':=s.toks) (λb o hb q=>eb b o hb q) f0 f1 f3 f4 f5⟩
 self:=λA i s Q E st h=>by
  obtain⟨⟨old,he⟩,s1⟩:=st
  have hT:s.TypeIs (.ref e) "enumerate" := ⟨_,he,rfl⟩
  refine ko hT F.slot_enumerate_iter (cE F.slot_enumerate_iter hT F.entry_enumerate_iter ?_ (F.args_enumerate_iter_1 _))
  show wpAny _ _ (ret (.ref e)) _ _ s
  exact ag ⟨_,rfl, "enumerate",_,hT,F.slot_enumerate_next.lookup,h⟩
section
variable {X:Cx}
def WN (K:W.Frag)(k:SK)(ta:TA):TI:=fun σ H R=>ta σ H λvs H1=>∃a,vs=[.ref a]/\(∃xs,k.sq K H1 a xs)/\R (WM K k a) H1
theorem PN {k:SK}{l:Expr}{ta:TA}{es:qB}{x1:Nat}{tpos p pos:Pos}(hg:Gl X "enumerate")(hm:X.mg "enumerate" = none)(ha:PA X [l] ta)(hs:autoParam (starEach [l] X.env=[(false,eval l X.env)]) r0_):
  PI X (.Tuple es x1 tpos) (.Call (.Name "enumerate" p) [l] [] pos) (WN X.K k ta):=by
 intro Fn s σ H R I h
 refine Call_ (gK I hg hm PyProof.Rows.boot_enumerate (bX (FX (ha pos Fn s σ H _ I h) ?_) hs rfl))
 rintro us s1 ⟨vs,H1,I1,r1,q1⟩
 obtain⟨a,e,⟨xs,hq⟩,q⟩:=q1
 subst e
 obtain⟨u,rfl,ru⟩:=vals1 r1
 cases ru
 obtain⟨its,rv,p1⟩:=I1.sk hq
 refine JN p1 λh' he hit hk=>?_
 have I2:Inv X Fn σ H1 { s1 with heap:=h' }:=I1.kept (t':=s1.toks) hk
 have la:=SK.is_lt p1
 have st:EAt k (s1.heap.objs.size+1) s1.heap.objs.size a 0 h':=⟨⟨.none,he⟩,hit⟩
 have T:=JP (P:=X.prog) (w:=X.w) (K:=X.K) (es:=es) (x1:=x1) (tpos:=tpos) k a (s1.heap.objs.size+1) s1.heap.objs.size (Nat.succ_ne_self _) (bt (eJ la)) (bt la)
 refine T.self X.A 0 { s1 with heap:=h' } _ _ st ?_
 refine⟨s1.heap.objs.size+1,[s1.heap.objs.size,s1.heap.objs.size+1],_,_,H1,rfl,I2,T,st,λb hb=>?_,q⟩
 have PZ:s1.heap.objs.size<=b:=by
  simp only[aI,bi,c9] at hb
  rcases hb with z | z
  ·rw[z];exact aw _
  ·rw[z];exact qh _
 exact I1.Nc PZ (I1.FH.fresh PZ)
end
end Lake.L2
namespace Lake.MR
open PySem L2
noncomputable def iE2 (f:rh)(env:Env):Option (List PV):=(f env).bind λp=>(oJ p).bind λxs=>some (dU 0 xs)
@[simp] theorem aao (f:rh)(env:Env):iE2 f env=((f env).bind λp=>(oJ p).bind λxs=>some (dU 0 xs)):=id rfl
section
variable {X:Cx}{b:BX}{G G' L:qr}{ro:Bool}{pos p:Pos}{m m1 m2:Md}{e e1 e2:Expr}
theorem uO {fr:Bool}{h:rh}{es:qB}{x1:Nat}{tpos:Pos}(hm:X.mg "enumerate" = none)(he:SE X b G m e h)(ZT:autoParam (fr=true->m≠.bor) r9_)(hK:autoParam (X.K=b.C.K) r0_)(hg:Gl X "enumerate" := by rfl)(hs:autoParam (starEach [e] X.env=[(false,eval e X.env)]) r0_)(Mn:autoParam (starEach [e] X.env=(false,eval e X.env)::starEach [] X.env) r0_):
  SI X b G fr (.Tuple es x1 tpos) (.Call (.Name "enumerate" p) [e] [] pos) (iE2 h):=by
 refine PI.imp (PI.all λk:SK=>PN (k:=k) hg hm (cF he eZ Mn) hs) ?_
 rintro σ H R ⟨Ow,env,ps,E,hf,k⟩
 rw[hK]
 obtain⟨p1,hp1,z1⟩:=aD hf
 clear hf
 obtain⟨xs,hxs,z4⟩:=aD z1
 clear z1
 cases z4
 refine⟨kd p1,Ow,env,p1,E,hp1,λv H1 s r=>?_⟩
 obtain⟨a,vs,rfl,qa,ra,ka⟩:=PL (fr:=fr) E r ZT hxs
 refine⟨a,rfl,⟨vs,qa⟩,k _ _ s λF5 H3 h0 hx hn=>?_⟩
 obtain⟨qa',ra'⟩:=ka F5 H3 h0 hx
 refine⟨λi p OU=>?_,⟨vs,qa',by rw[vW,ra'.length]⟩⟩
 obtain⟨x,Yf,rfl⟩:=Ca OU
 obtain⟨v,hv,rv⟩:=ra'.get Yf
 refine⟨⟨vs,v,qa',hv⟩,λy H' yl=>?_⟩
 obtain⟨t,x',ht,e1,e2,yl⟩:=yl
 subst e1 e2
 have e3:=yl vs qa'
 rw[hv] at e3
 cases e3
 refine⟨bc ht _,.tup bu (.cons ?_ (.cons (rv.ex (.of_same (bc ht _))) .nil))⟩
 rw[Nat.zero_add]
 exact .int _
end
inductive Inn (C:MC) (A:Addr->Prop) (H:Hp):List Addr->List (List PV)->Prop
 | nil:Inn C A H [] []
 | cons {c:Addr}{cs:qV}{us:List V}{ys:List PV}{yss:List (List PV)}:H c=some (.lst us)->Fu C A H us ys->Inn C A H cs yss->Inn C A H (c::cs) (ys::yss)
noncomputable def hid (i:Nat)(f:Env->Option Out)(env:Env):Option Out:=(f (env.set i none)).bind λo=>match o with
 | .nx e=>some (.nx (e.set i (env.getD i none)))
 | _=>none
@[simp] noncomputable def jZ:PV->PV->PV->Option PV
 | .dK kvs,y,z=>(keyOf y).map λk=>(cN kvs k).getD z
 | .dT kvs,.tup ys,z=>(FO ys).map λk=>(cN kvs k).getD z
 | _,_,_=>none
section
variable {X:Cx}{b:BX}{G:qr}{apos FG:Pos}{m1 m2:Md}{e1 e2 e3:Expr}{f1 f2 f3:rh}
theorem Aw {j:Nat}(hr:F0 j X.A)(h1:SE X b G m1 e1 f1)(h2:SE X b G m2 e2 f2)(h3:SE X b G .val e3 f3)(m:autoParam (M2 X e1 "get" apos e2 e3 FG) r10_)(hK:autoParam (X.K=b.C.K) r0_):SE X b G .val (.Call (.Attribute e1 "get" apos) [e2,e3] [] FG) (b3 jZ f1 f2 f3):=by
 refine PE.imp (OD (rZ hr) h1.bor h2.bor h3 m) fun σ H Q h=>?_
 obtain⟨Ow,env,p,E,hf,k⟩:=h
 obtain⟨p1,q1,z1⟩:=aD hf
 clear hf
 obtain⟨p2,q2,z2⟩:=aD z1
 clear z1
 obtain⟨p3,q3,hf⟩:=aD z2
 clear z2
 refine⟨Ow,env,p1,E,q1,λv1 H1 s1 r1=>?_⟩
 unfold jZ at hf
 split at hf
 ·rename_i kvs
  obtain⟨ky,hk,e⟩:=df.mp hf
  obtain⟨a,kv,rfl,ha,ra⟩:=r1.dK
  refine⟨a,rfl,.inl ⟨kv,.inl ha⟩,Ow,env,p2,E.up s1,q2,λv2 H2 s2 r2=>⟨Ow,env,p3,(E.up s1).up s2,q3,λv3 H3 s3 r3=>?_⟩⟩
  have OA:FC b.C (Bs b Ow) H2 v2 p2:=r2
  rw[OA.key hk]
  have ha3:=s3 _ _ (s2 _ _ ha)
  refine⟨_,HK.k ha3,k _ H3 ((s1.trans s2).trans s3) ?_⟩
  unfold cN at e
  rcases F9.val (k:=ky) ra with ⟨v,p',g1,g2,rv⟩ | ⟨g1,g2⟩
  ·rw[g2] at e
   rw[g1,← e]
   exact rv.ex (.of_same (s2.trans s3))
  ·rw[g2] at e
   rw[g1,← e]
   exact r3
 ·rename_i kvs ys
  obtain⟨ky,hk,e⟩:=df.mp hf
  obtain⟨a,kv,rfl,ha,ra⟩:=r1.dT
  refine⟨a,rfl,.inr ⟨kv,.inl ha⟩,Ow,env,_,E.up s1,q2,λv2 H2 s2 r2=>⟨Ow,env,p3,(E.up s1).up s2,q3,λv3 H3 s3 r3=>?_⟩⟩
  have OA:FC b.C (Bs b Ow) H2 v2 (.tup ys):=r2
  obtain⟨c,vs,rfl,hc,rc⟩:=OA.tup
  have ha3:=s3 _ _ (s2 _ _ ha)
  refine⟨_,HK.t ha3 (by rw[hK];exact(hc.up s3).key (rc.FO hk)),k _ H3 ((s1.trans s2).trans s3) ?_⟩
  unfold cN at e
  rcases FY.val (k:=ky) ra with ⟨v,p',g1,g2,rv⟩ | ⟨g1,g2⟩
  ·rw[g2] at e
   rw[g1,← e]
   exact rv.ex (.of_same (s2.trans s3))
  ·rw[g2] at e
   rw[g1,← e]
   exact r3
 ·cases hf
end
end Lake.MR
namespace Lake.L2
open PySem PySem.Spec PyProof.Rows
abbrev yD (h:Heap)(z TI TO T:Addr)(f:Bool):Prop:=h.get? z=some { cls:=.type "zip",dict:=none,data:=.fields #[rawInt T,.bool f,.bool false,.ref TI,.ref TO],slots:=#[] }
variable {Q:Option Value->Shared->Prop}
section
variable {prog:Program}{w:World}{A:Around}{E:qk}{s:Shared}{z TI TO T i1 i2 l1 l2:Addr}{k:Nat}{xs ys:re}{x y:Value}{f:Bool}{oT:Obj}
theorem H_ {Q:Bool->Shared->Prop}(hz:yD s.heap z TI TO T f)(hT:s.heap.get? T=some oT)(q:∀h',yD h' z TI TO T true->Heap.SameBut z s.heap h'->Q false { s with heap:=h' }):wpAny (model prog w) A (Builtin.SmallTypes.ownedTupleIsFree (.ref z)) Q E s:=by
 unfold Builtin.SmallTypes.ownedTupleIsFree
 refine ab (eB hz rfl (x:=rawInt T) rfl ?_)
 have hl:∀{R:Option Obj->Shared->Prop},R (some oT) s->wpAny (model prog w) A (loadIfAlive T) R E s:=λ{R} hr Γ p _=>by
  show Sem.wp _ _ (.loadIfAlive T _) _ _ p s
  rw[Sem.wp_loadIfAlive,hT]
  exact hr
 refine ab (hl ?_)
 have hf:(Option.isNone (some oT))=false:=rfl
 simp only[hf,et,fm]
 refine ab (eB hz rfl (x:=.bool f) rfl ?_)
 cases f with
 | true=>
  rw[ax (by decide)]
  exact ag (q s.heap hz ⟨rfl,λ_ _=>rfl⟩)
 | false=>
  rw[ba (by decide)]
  exact ab (gd hz (by simp) λh1 hz1 s1=>ag (q h1 hz1 s1))
theorem S8 (D:ZipApart z TI TO i1 i2 l1 l2)(hz:yD s.heap z TI TO T f)(hT:s.heap.get? T=some oT)(LS:IsPair s.heap TI (.ref i1) (.ref i2))
  (h1:s.heap.IsListIter i1 l1 k) (h2:s.heap.IsListIter i2 l2 k) (OC:s.heap.IsList l1 xs) (Of:s.heap.IsList l2 ys) (hx:xs[k]?=some x) (hy:ys[k]?=some y)
  (q:∀h',yD h' z TI TO T true->h'.IsListIter i1 l1 (k+1)->h'.IsListIter i2 l2 (k+1)->IsPair h' s.heap.objs.size x y->
   (∀c o,c≠z->c≠i1->c≠i2->s.heap.get? c=some o->h'.get? c=some o)->h'.objs.size=s.heap.objs.size+1->Q (some (.ref s.heap.objs.size)) { s with heap:=h' }):wpAny (model prog w) A (pyNext (.ref z)) Q E s:=by
 have ty:s.TypeIs (.ref z) "zip" := ⟨_,hz,rfl⟩
 unfold pyNext
 refine ab (i7 (cx (name:=Str.ofString "__next__") ty lT (cE lT ty F.entry_zip_next ?_ (F.args_zip_next_1 _))))
 show wpAny _ _ (field (.ref z) 2 >>= λ_=>_) _ _ _
 refine ab (eB hz rfl (x:=.bool false) rfl ?_)
 show wpAny _ _ (field (.ref z) 3 >>= λ_=>_) _ _ _
 refine ab (eB hz rfl (x:=.ref TI) rfl (ab (eI LS rfl ?_)))
 show wpAny _ _ (Builtin.SmallTypes.ownedTupleIsFree (.ref z) >>= λ_=>_) _ _ _
 refine ab (H_ hz hT λg1 z1 u1=>?_)
 simp only[et,fm]
 have e1:g1.IsListIter i1 l1 k:=h1.extBut u1.extBut D.i1z
 have e2:g1.IsListIter i2 l2 k:=h2.extBut u1.extBut D.i2z
 have e3:g1.IsList l1 xs:=OC.extBut u1.extBut D.l1z
 have e4:g1.IsList l2 ys:=Of.extBut u1.extBut D.l2z
 refine ab ?_
 rw[← Array.forIn_toList];simp only[lI,o0]
 refine ab (ab (cy ?_))
 show wpAny _ _ (Builtin.SmallTypes.nextOf (.ref i1) >>= λ_=>_) _ _ _
 refine ab (wpAny_nextOf_list_item (s:={ s with heap:=g1 }) e1 e3 hx λg2 z2 u2=>ag (ag ?_))
 refine ab (ab (cy ?_))
 show wpAny _ _ (Builtin.SmallTypes.nextOf (.ref i2) >>= λ_=>_) _ _ _
 refine ab (wpAny_nextOf_list_item (s:={ s with heap:=g2 }) (e2.extBut u2.extBut D.i12.symm) (e4.extBut u2.extBut D.l2i1) hy λg3 z3 u3=>ag (ag (ag ?_)))
 have sz:g3.objs.size=s.heap.objs.size:=by rw[u3.1,u2.1,u1.1]
 refine ab (wpAny_newTuple (hsz:=by show (2:Nat)<=sizeLine;decide) ?_)
 have up:∀c o,c≠z->c≠i1->c≠i2->s.heap.get? c=some o->(g3.push { cls:=.type "tuple",data:=.seq #[x,y] }).get? c=some o:=λc o c1 c2 c3 e=>af _ (u3.extBut _ _ c3 (u2.extBut _ _ c2 (u1.extBut _ _ c1 e)))
 refine ag ⟨_,rfl,ag ?_⟩
 show Q (some (.ref g3.objs.size)) _
 rw[sz]
 refine q _ (af _ (u3.extBut _ _ D.i2z.symm (u2.extBut _ _ D.i1z.symm z1))) ((z2.extBut u3.extBut D.i12).at λo e=>af _ e) (z3.at λo e=>af _ e) (by rw[← sz];exact ap _ rfl) up (by rw[dn,sz])
theorem WQ (hh:A.handled=none)(D:ZipApart z TI TO i1 i2 l1 l2)(hz:yD s.heap z TI TO T f)(hT:s.heap.get? T=some oT)(LS:IsPair s.heap TI (.ref i1) (.ref i2))
  (h1:s.heap.IsListIter i1 l1 k) (OC:s.heap.IsList l1 xs) (hx:xs[k]?=none)
  (q:∀h',(∀c o,c≠z->c≠i1->c≠i2->s.heap.get? c=some o->h'.get? c=some o)->Q none { s with heap:=h' }):wpAny (model prog w) A (pyNext (.ref z)) Q E s:=by
 have ty:s.TypeIs (.ref z) "zip" := ⟨_,hz,rfl⟩
 unfold pyNext
 refine ab (i7 (cx (name:=Str.ofString "__next__") ty lT (cE lT ty F.entry_zip_next ?_ (F.args_zip_next_1 _))))
 show wpAny _ _ (field (.ref z) 2 >>= λ_=>_) _ _ _
 refine ab (eB hz rfl (x:=.bool false) rfl ?_)
 show wpAny _ _ (field (.ref z) 3 >>= λ_=>_) _ _ _
 refine ab (eB hz rfl (x:=.ref TI) rfl (ab (eI LS rfl ?_)))
 show wpAny _ _ (Builtin.SmallTypes.ownedTupleIsFree (.ref z) >>= λ_=>_) _ _ _
 refine ab (H_ hz hT λg1 z1 u1=>?_)
 simp only[et,fm]
 refine ab ?_
 rw[← Array.forIn_toList];simp only[lI,o0]
 refine ab (ab (cy ?_))
 show wpAny _ _ (Builtin.SmallTypes.nextOf (.ref i1) >>= λ_=>_) _ _ _
 refine ab (wpAny_nextOf_list_end (s:={ s with heap:=g1 }) hh (h1.extBut u1.extBut D.i1z) (OC.extBut u1.extBut D.l1z) hx λg2 e u2 he=>?_)
 obtain⟨o,ho,hc⟩:=he
 refine ab (lb (b:=true) (T := "StopIteration") ⟨o,ho,hc⟩ oz ?_)
 exact ag (q _ λc o c1 c2 c3 e=>u2 _ _ c2 (u1.extBut _ _ c1 e))
def ND (h:Heap)(xs ys:re)(B:Addr)(W:qV)(acc:re)(n:Nat):Prop:=
 acc.size=n/\∀i,i < n->∃t x y,acc[i]?=some (.ref t)/\xs[i]?=some x/\ys[i]?=some y/\IsPair h t x y/\B<=t/\t∉W/\∀j,j < i->acc[j]?≠some (.ref t)
theorem ND.keep {h h':Heap}{B:Addr}{W:qV}{acc:re}{n:Nat}(q:ND h xs ys B W acc n)(k:∀c o,c∉W->h.get? c=some o->h'.get? c=some o):ND h' xs ys B W acc n:=
 ⟨q.1,λi hi=>let ⟨t,x,y,a,b,c,d,e,f,g⟩:=q.2 i hi;⟨t,x,y,a,b,c,k _ _ f d,e,f,g⟩⟩
theorem ND.push {h:Heap}{B t:Addr}{W:qV}{acc:re}{n:Nat}{x y:Value}(q:ND h xs ys B W acc n)(hx:xs[n]?=some x)(hy:ys[n]?=some y)(ht:IsPair h t x y)(hB:B<=t)(hW:t∉W)(hw:∀j,j < n->acc[j]?≠some (.ref t)):ND h xs ys B W (acc.push (.ref t)) (n+1):=by
 obtain⟨q1,q2⟩:=q
 refine⟨by rw[Array.size_push,q1],λi hi=>?_⟩
 rcases oe i n with h1 | h1
 ·obtain⟨t',x',y',a,b,c,d,e,f,g⟩:=q2 i h1
  exact⟨t',x',y',by rw[kH (by omega)];rw[b9 (by omega)] at a;exact a,b,c,d,e,f,λj hj=>by rw[kH (by omega),← b9 (by omega)];exact g j hj⟩
 ·have e:i=n:=by omega
  subst e
  exact⟨t,x,y,by rw[← q1];exact Array.getElem?_push_size,hx,hy,ht,hB,hW,λj hj=>by rw[kH (by omega),← b9 (by omega)];exact hw j hj⟩
theorem S9 {R:Result->Shared->Prop}{N B:Addr}{res:Value}{a b:Value}(hh:A.handled=none)(D:ZipApart z TI TO i1 i2 l1 l2)(hn:xs.size<=sizeLine)(hxy:ys.size=xs.size)(n1:N≠z)(n2:N≠TI)(n3:N≠TO)(n4:N≠i1)(n5:N≠i2)(n6:N≠l1)(n7:N≠l2)
  (lz:z < B) (lTO:TO < B) (li1:i1 < B) (li2:i2 < B) (lN:N < B):
  ∀(m k:Nat) (s:Shared) (acc:re) (c:Nat),xs.size - k=m->k<=xs.size->B<=s.heap.objs.size->((k=0/\IsZip s.heap z TI TO .none/\IsPair s.heap TO a b)\/∃T f oT,yD s.heap z TI TO T f/\s.heap.get? T=some oT/\T∉[z,TO,i1,i2,N])->
  IsPair s.heap TI (.ref i1) (.ref i2)->s.heap.IsListIter i1 l1 k->s.heap.IsListIter i2 l2 k->s.heap.IsList l1 xs->s.heap.IsList l2 ys->
  s.heap.get? N=some { cls:=.type "list",dict:=none,data:=.seq acc c,slots:=#[] }->ND s.heap xs ys B [z,TO,i1,i2,N] acc k->
  (∀h' Nn c',(∀c o,c∉[z,TO,i1,i2,N]->s.heap.get? c=some o->h'.get? c=some o)->h'.get? N=some { cls:=.type "list",dict:=none,data:=.seq Nn c',slots:=#[] }->ND h' xs ys B [z,TO,i1,i2,N] Nn xs.size->R (.ok (.ret res)) { s with heap:=h' })->
  codeAny (model prog w) A (.builtin "list.extend.loop" ⟨[.ref N,.ref z,res],[]⟩) R s:=by
 have ni:∀{c:Addr},c∉[z,TO,i1,i2,N]->c≠z/\c≠TO/\c≠i1/\c≠i2/\c≠N:=λ{c} h=>by simpa using h
 intro m
 induction m with
 | zero=>
  intro k s acc c hm hk hB hZ LS h1 h2 OC Of hN hI q
  have e:k=xs.size:=by omega
  subst e
  have ex:xs[xs.size]?=none:=im (aw _)
  refine gy F.entry_extend_loop ?_
  rw[g7 ic _]
  show wpAny _ A.in1 (pyNext (.ref z) >>= λ_=>_) _ _ s
  rcases hZ with ⟨_,hz,N2⟩ | ⟨T,f,oT,hz,hT,_⟩
  ·refine ab (wpAny_pyNext_zip_end hh D hz LS N2 h1 h2 OC Of (.inl ex) λh' k'=>ag ?_)
   have kk:∀c o,c∉[z,TO,i1,i2,N]->s.heap.get? c=some o->h'.get? c=some o:=λc o hc e=>let ⟨a,b,c,d,_⟩:=ni hc;k' _ _ a b c d e
   exact q h' acc c kk (k' _ _ n1 n3 n4 n5 hN) (hI.keep kk)
  ·refine ab (WQ hh D hz hT LS h1 OC ex λh' k'=>ag ?_)
   have kk:∀c o,c∉[z,TO,i1,i2,N]->s.heap.get? c=some o->h'.get? c=some o:=λc o hc e=>let ⟨a,b,c,d,_⟩:=ni hc;k' _ _ a c d e
   exact q h' acc c kk (k' _ _ n1 n4 n5 hN) (hI.keep kk)
 | succ m ih=>
  intro k s acc c hm hk hB hZ LS h1 h2 OC Of hN hI q
  have lt:k < xs.size:=by omega
  have ex:xs[k]?=some xs[k]:=b9 lt
  have ey:ys[k]?=some (ys[k]'(by omega)):=b9 (by omega)
  refine gy F.entry_extend_loop ?_
  rw[g7 ic _]
  show wpAny _ A.in1 (pyNext (.ref z) >>= λ_=>_) _ _ s
  have big:∀c,c < B->s.heap.objs.size≠c:=λc hc e=>absurd (bE hc hB) (by rw[e];exact d5 _)
  have nW:s.heap.objs.size∉[z,TO,i1,i2,N]:=by
   simp only[aI,bi,c9,not_or]
   exact⟨big _ lz,big _ lTO,big _ li1,big _ li2,big _ lN⟩
  have go:∀h',(∀c o,c∉[z,TO,i1,i2,N]->s.heap.get? c=some o->h'.get? c=some o)->h'.get? N=some { cls:=.type "list",dict:=none,data:=.seq acc c,slots:=#[] }->IsPair h' TI (.ref i1) (.ref i2)->h'.IsListIter i1 l1 (k+1)->h'.IsListIter i2 l2 (k+1)->
    h'.IsList l1 xs->h'.IsList l2 ys->IsPair h' s.heap.objs.size xs[k] (ys[k]'(by omega))->h'.objs.size=s.heap.objs.size+1->(∃T f oT,yD h' z TI TO T f/\h'.get? T=some oT/\T∉[z,TO,i1,i2,N])->
    wpAny (model prog w) A.in1 (updateSeq N (·.push (.ref s.heap.objs.size)) >>= λ_=>pure (Fin.again (.builtin "list.extend.loop" ⟨[.ref N,.ref z,res],[]⟩)))
     (λfin s'=>match fin with | .done f=>R (.ok f) s' | .again c'=>c'.quiet=true/\codeAny (model prog w) A c' R s') (λe s'=>R (.error e) s') { s with heap:=h' }:=by
   intro h' kk hN' hTI' Q2 h2' hl1' hl2' hp hsz hZ'
   have up:∀c o,c≠N->h'.get? c=some o->(h'.update N (Obj.mapSeq (·.push (.ref s.heap.objs.size)))).get? c=some o:=λc o hc e=>(cf _ _ (fg hc)).trans e
   have usz:(h'.update N (Obj.mapSeq (·.push (.ref s.heap.objs.size)))).objs.size=h'.objs.size:=(ci h' N _).1
   refine ab (fR (s:={ s with heap:=h' }) hN' rfl (ag ⟨iA ic _,ih (k+1) { s with heap:=h'.update N (Obj.mapSeq (·.push (.ref s.heap.objs.size))) } (acc.push (.ref s.heap.objs.size)) _ (by omega) lt (by show B<=Array.size _;rw[usz,hsz];exact Nat.le_succ_of_le hB) (.inr ?_) (up _ _ n2.symm hTI') (Q2.at λo e=>up _ o n4.symm e) (h2'.at λo e=>up _ o n5.symm e) (hl1'.at λo e=>up _ o n6.symm e) (hl2'.at λo e=>up _ o n7.symm e) (cn _ hN' rfl) ?_ λh2 acc2 c2 k2 e2 i2=>?_⟩) (by rw[hI.1];omega) (by show (acc.push _).size<=sizeLine+1;rw[Array.size_push,hI.1];omega))
   ·obtain⟨T,f,oT,a1,a2,a3⟩:=hZ'
    exact⟨T,f,oT,up _ _ n1.symm a1,up _ _ (ni a3).2.2.2.2 a2,a3⟩
   ·exact((hI.keep kk).push ex ey hp hB nW λj hj e=>by
     obtain⟨t',_,_,a1,_,_,a2,_⟩:=hI.2 j hj
     rw[a1] at e
     have e':t'=s.heap.objs.size:=pT (bo e)
     exact absurd (ay a2) (by rw[e'];exact d5 _)).keep λc o hc e=>up c o (ni hc).2.2.2.2 e
   ·exact q h2 acc2 c2 (λc o hc e=>k2 c o hc (up c o (ni hc).2.2.2.2 (kk c o hc e))) e2 i2
  rcases hZ with ⟨_,hz,N2⟩ | ⟨T,f,oT,hz,hT,nT⟩
  ·refine ab (wpAny_pyNext_zip_item D hz LS N2 h1 h2 OC Of ex ey λh' z1 z2 z3 z4 z5 z6 k'=>?_)
   exact go h' (λc o hc e=>let ⟨a,b,c,d,_⟩:=ni hc;k' _ _ a b c d e) (k' _ _ n1 n3 n4 n5 hN) (k' _ _ D.TIz D.TITO D.TIi1 D.TIi2 LS) z3 z4 (OC.at λo e=>k' _ o D.l1z D.l1TO D.l1i1 D.l1i2 e) (Of.at λo e=>k' _ o D.l2z D.l2TO D.l2i1 D.l2i2 e) z5 z6 ⟨_,false,_,z1,z5,nW⟩
  ·refine ab (S8 D hz hT LS h1 h2 OC Of ex ey λh' z1 z3 z4 z5 k' z6=>?_)
   obtain⟨b1,b2,b3,b4,b5⟩:=ni nT
   exact go h' (λc o hc e=>let ⟨a,b,c,d,_⟩:=ni hc;k' _ _ a c d e) (k' _ _ n1 n4 n5 hN) (k' _ _ D.TIz D.TIi1 D.TIi2 LS) z3 z4 (OC.at λo e=>k' _ o D.l1z D.l1i1 D.l1i2 e) (Of.at λo e=>k' _ o D.l2z D.l2i1 D.l2i2 e) z5 z6 ⟨T,true,oT,z1,k' _ _ b1 b3 b4 hT,nT⟩
theorem Ma:typeLookup (.type "zip") "__len__" = pure none:=by rw[jv,gi];kernel_rfl
theorem JQ:typeLookup (.type "zip") "__length_hint__" = pure none:=by rw[jv,gi];kernel_rfl
theorem Dj {Q:qk}{a b:Value}(hh:A.handled=none)(D:ZipApart z TI TO i1 i2 l1 l2)(hn:xs.size<=sizeLine)(hxy:ys.size=xs.size)(hz:IsZip s.heap z TI TO .none)(N2:IsPair s.heap TO a b)(LS:IsPair s.heap TI (.ref i1) (.ref i2))
  (h1:s.heap.IsListIter i1 l1 0) (h2:s.heap.IsListIter i2 l2 0) (OC:s.heap.IsList l1 xs) (Of:s.heap.IsList l2 ys)
  (q:∀h' acc c,(∀c o,c∉[z,TO,i1,i2,s.heap.objs.size]->s.heap.get? c=some o->h'.get? c=some o)->h'.get? s.heap.objs.size=some { cls:=.type "list",dict:=none,data:=.seq acc c,slots:=#[] }->
   ND h' xs ys (s.heap.objs.size+1) [z,TO,i1,i2,s.heap.objs.size] acc xs.size->Q (.ref s.heap.objs.size) { s with heap:=h' }):wpAny (model prog w) A (call (.type "list") [.ref z]) Q E s:=by
 refine oQ (Q₁:=λx t=>x=.ref s.heap.objs.size/\t={ s with heap:=s.heap.push { cls:=.type "list",data:=.seq #[] } }) F.called_list (F.typeCall_list_1 _) F.entry_list_init (code_list_new _ ⟨rfl,rfl⟩) λx t ht=>?_
 obtain⟨rfl,rfl⟩:=ht
 have hN:(s.heap.push { cls:=.type "list",data:=.seq #[] }).get? s.heap.objs.size=some { cls:=.type "list",data:=.seq #[] }:=ap _ rfl
 refine⟨⟨_,hN,rfl⟩,F.args_list_init_2 _ _,?_⟩
 have lt:∀{b:Addr}{o:Obj},s.heap.get? b=some o->b < s.heap.objs.size:=λe=>ay e
 have ne:∀{b:Addr}{o:Obj},s.heap.get? b=some o->b≠s.heap.objs.size:=λe=>bt (ay e)
 have m1:∃o,s.heap.get? i1=some o:=let ⟨o,e,_⟩:=h1;⟨o,e⟩
 have m2:∃o,s.heap.get? i2=some o:=let ⟨o,e,_⟩:=h2;⟨o,e⟩
 have m3:∃o,s.heap.get? l1=some o:=let ⟨o,e,_⟩:=OC;⟨o,e⟩
 have m4:∃o,s.heap.get? l2=some o:=let ⟨o,e,_⟩:=Of;⟨o,e⟩
 obtain⟨o1,m1⟩:=m1
 obtain⟨o2,m2⟩:=m2
 obtain⟨o3,m3⟩:=m3
 obtain⟨o4,m4⟩:=m4
 have psz:(s.heap.push { cls:=.type "list",data:=.seq #[] }).objs.size=s.heap.objs.size+1:=dn ..
 show wpAny _ A.in1.in1 (do let old ← Builtin.List.listItems (.ref s.heap.objs.size);Builtin.List.listUpdate (.ref s.heap.objs.size) (λ_=>#[]);letGo old.toList.reverse;Builtin.List.listExtendWith (.ref s.heap.objs.size) (.ref z) .none) _ _ _
 refine ab ?_;unfold Builtin.List.listItems
 refine ab (eI hN rfl (ag ?_))
 show wpAny _ A.in1.in1 (updateSeq s.heap.objs.size (λ_=>#[]) >>= λ_=>letGo (#[]:re).toList.reverse >>= λ_=>Builtin.List.listExtendWith (.ref s.heap.objs.size) (.ref z) .none) _ _ _
 refine ab (fR hN rfl (ab (kl ?_)))
 have g1:=cn (Obj.mapSeq (λ_=>(#[]:re))) hN rfl
 generalize hS:s.heap.objs.size=N at *
 have up:∀b o,b≠N->s.heap.get? b=some o->((s.heap.push { cls:=.type "list",data:=.seq #[] }).update N (Obj.mapSeq (λ_=>(#[]:re)))).get? b=some o:=λb o hb e=>(cf _ _ (fg hb)).trans (af _ e)
 have usz:((s.heap.push { cls:=.type "list",data:=.seq #[] }).update N (Obj.mapSeq (λ_=>(#[]:re)))).objs.size=N+1:=by rw[(ci (s.heap.push { cls:=.type "list",data:=.seq #[] }) N _).1,psz]
 generalize (s.heap.push { cls:=.type "list",data:=.seq #[] }).update N (Obj.mapSeq (λ_=>(#[]:re)))=G1 at *
 have zn:z≠N:=ne hz
 have tz:(⟨G1,s.gens,s.drawn,s.toks,s.os⟩:Shared).TypeIs (.ref z) "zip" := ⟨_,up _ _ zn hz,rfl⟩
 unfold Builtin.List.listExtendWith
 refine ab (oa tz ?_)
 have r1:Builtin.List.listSameRef (.ref N) (.ref z)=false:=by simp[Builtin.List.listSameRef,zn.symm]
 have r2:(Value.type "zip" == Value.type "list")=false:=by decide
 have r3:(Value.type "zip" == Value.type "tuple")=false:=by decide
 simp only[r1,r2,r3,Bool.or_false,et,fm]
 refine ab (wpAny_pyIter_zip (up _ _ zn hz) (ab (cy ?_)))
 unfold Builtin.List.listLengthHint
 refine ab (js tz Ma ?_)
 show wpAny _ A.in1.in1 (specialOf (Value.ref z) (Str.ofString "__length_hint__") >>= λ_=>_) _ _ _
 refine ab (js tz JQ (ag ?_))
 show wpAny _ A.in1.in1 (rule "list.extend.makes-room" >>= λ_=>Builtin.List.listTouch (.ref N) >>= λ_=>again (.builtin "list.extend.loop" ⟨[.ref N,.ref z,.none],[]⟩)) _ _ _
 refine ab (nS (ab ?_))
 show wpAny _ A.in1.in1 (updateSeq N (·.push .none) >>= λ_=>updateSeq N (·.pop)) _ _ _
 refine ab (fR g1 rfl ?_)
 have g2:=cn (Obj.mapSeq (·.push Value.none)) g1 rfl
 refine fR (hz:=by seq_fits) g2 rfl ?_
 have g3:=cn (Obj.mapSeq (·.pop)) g2 rfl
 have up2:∀b o,b≠N->s.heap.get? b=some o->((G1.update N (Obj.mapSeq (·.push Value.none))).update N (Obj.mapSeq (·.pop))).get? b=some o:=λb o hb e=>(cf _ _ (fg hb)).trans ((cf _ _ (fg hb)).trans (up b o hb e))
 have usz2:((G1.update N (Obj.mapSeq (·.push Value.none))).update N (Obj.mapSeq (·.pop))).objs.size=N+1:=by rw[(ci _ N _).1,(ci G1 N _).1,usz]
 generalize (G1.update N (Obj.mapSeq (·.push Value.none))).update N (Obj.mapSeq (·.pop))=G2 at *
 refine ag ⟨iA ic _,S9 (A:=A.in1) (a:=a) (b:=b) (show A.in1.handled=none from hh) D hn hxy zn.symm (ne LS).symm (ne N2).symm (ne m1).symm (ne m2).symm (ne m3).symm (ne m4).symm (eJ (lt hz)) (eJ (lt N2)) (eJ (lt m1)) (eJ (lt m2)) (iX N) xs.size 0 _ #[] _ rfl (eA _) (p5 usz2.symm) (.inl ⟨rfl,up2 _ _ zn hz,up2 _ _ (ne N2) N2⟩) (up2 _ _ (ne LS) LS)
  (h1.at λo e=>up2 _ o (ne m1) e) (h2.at λo e=>up2 _ o (ne m2) e) (OC.at λo e=>up2 _ o (ne m3) e) (Of.at λo e=>up2 _ o (ne m4) e) g3 ⟨rfl,λi hi=>absurd hi (Nat.not_lt_zero _)⟩ λh' acc c kk e it=>?_⟩
 exact⟨rfl,q h' acc c (λc o hc e=>kk c o hc (up2 c o (λz=>hc (by simp[z])) e)) e it⟩
end
def v4 (H:Hp)(L:List (Addr×HO)):Hp:=λa=>match L.lookup a with
 | some o=>some o
 | none=>H a
variable {L:List (Addr×HO)}
theorem xr {H:Hp}{a:Addr}(h:L.lookup a=none):v4 H L a=H a:=by unfold v4;rw[h]
theorem Ax {H:Hp}{a:Addr}{o:HO}(h:L.lookup a=some o):v4 H L a=some o:=by unfold v4;rw[h]
theorem sH {a:Addr}(h:∀p∈L,p.1≠a):L.lookup a=none:=by
 induction L with
 | nil=>rfl
 | cons p L ih=>
  rw[b6,dL.mpr (fg (h p am))]
  exact ih λq hq=>h q (ah _ hq)
theorem Inv.lays {X:Cx}{Fn:qo}{σ:St}{H:Hp}{s:Shared}{h':Heap}{t':Nat}(I:Inv X Fn σ H s)(k:∀b u,s.heap.get? b=some u->h'.get? b=some u)(hp:∀p∈L,s.heap.objs.size<=p.1)
  (new:∀a o,L.lookup a=some o->FK X.prog X.w X.K (v4 H L) h' a o):Inv X Fn σ (v4 H L) { s with heap:=h',toks:=t' }:=by
 have hn:∀p∈L,H p.1=none:=λp q=>I.FH.fresh (hp p q)
 have old:∀b o,H b=some o->v4 H L b=some o:=λb o e=>by
  rw[xr (sH λp q z=>by have:=hn p q;rw[z,e] at this;cases this)];exact e
 have there:∀b u,s.heap.get? b=some u->L.lookup b=none:=λb u e=>sH λp q z=>by
  have:=ay e
  rw[← z] at this
  exact absurd (bE this (hp p q)) (d5 _)
 refine I.un ⟨λb u q _ _ _=>k b u q,λb u q _ _ _=>⟨u.slots,k b u q⟩,λb u q n _=>by rw[xr (there b u q)];exact n,λb u q _=>⟨u,k b u q⟩,λb xs q=>old b _ q,λb u xs q=>old b _ q,λb ps q=>⟨#[],by rw[old b _ q];simp⟩⟩ λb u e=>?_
 cases q:L.lookup b with
 | some o=>rw[Ax q] at e;cases e;exact new b _ q
 | none=>
  rw[xr q] at e
  exact(I.FH b u e).OG (λc v _ q=>k c v q) (λc q=>old c _ q) λc xs q=>old c _ q
inductive ZTs (H:Hp):List Addr->List V->List V->Prop
 | nil:ZTs H [] [] []
 | cons {t:Addr}{x y:V}{ts:qV}{xs ys:List V}:H t=some (.tup [x,y])->ZTs H ts xs ys->ZTs H (t::ts) (x::xs) (y::ys)
theorem Mf {H:Hp}:∀{ts:qV}{xs ys:List V},ts.length=xs.length->ys.length=xs.length->(∀(i:Nat) (t:Addr) (x y:V),ts[i]?=some t->xs[i]?=some x->ys[i]?=some y->H t=some (.tup [x,y]))->ZTs H ts xs ys
 | [],[],[],_,_,_=>.nil
 | t::ts,x::xs,y::ys,e1,e2,h=>.cons (h 0 t x y rfl rfl rfl) (Mf (p9 e1) (p9 e2) λi a b c=>h (i+1) a b c)
 | [],_::_,_,e,_,_=>nomatch e
 | _::_,[],_,e,_,_=>nomatch e
 | _,[],_::_,_,e,_=>nomatch e
 | _,_::_,[],_,e,_=>nomatch e
noncomputable def zL (ts:qV)(xs ys:List V):List (Addr×HO):=List.zipWith (λt (p:V×V)=>(t,.tup [p.1,p.2])) ts (xs.zip ys)
theorem Ia:∀{ts:qV}{xs ys:List V},ts.Nodup->∀(i:Nat) (t:Addr) (x y:V),ts[i]?=some t->xs[i]?=some x->ys[i]?=some y->(zL ts xs ys).lookup t=some (.tup [x,y])
 | [],_,_,_,i,t,x,y,h,_,_=>by simp at h
 | _::_,[],_,_,i,t,x,y,_,h,_=>by simp at h
 | _::_,_::_,[],_,i,t,x,y,_,_,h=>by simp at h
 | a::ts,b::xs,c::ys,nd,0,t,x,y,h1,h2,h3=>by
  cases h1;cases h2;cases h3
  show List.lookup a ((a,_)::zL ts xs ys)=_
  rw[b6,beq_self_eq_true]
 | a::ts,b::xs,c::ys,nd,i+1,t,x,y,h1,h2,h3=>by
  have h1:ts[i]?=some t:=h1
  have ne:t≠a:=λz=>(fE.mp nd).1 (z▸dc h1)
  show List.lookup t ((a,_)::zL ts xs ys)=_
  rw[b6,dL.mpr ne]
  exact Ia (xs:=xs) (ys:=ys) (fE.mp nd).2 i t x y h1 h2 h3
theorem FN {ts:qV}{xs ys:List V}{p:Addr×HO}(h:p∈zL ts xs ys):∃(i:Nat) (x y:V),ts[i]?=some p.1/\xs[i]?=some x/\ys[i]?=some y/\p.2=.tup [x,y]:=by
 obtain⟨i,hi⟩:=kU.mp h
 unfold zL at hi
 rw[on] at hi
 cases q1:ts[i]? with
 | none=>rw[q1] at hi;cases hi
 | some t=>
  rw[q1] at hi
  cases q2:(xs.zip ys)[i]? with
  | none=>rw[q2] at hi;cases hi
  | some xy=>
   rw[q2] at hi
   cases hi
   rw[List.getElem?_zip_eq_some] at q2
   exact⟨i,xy.1,xy.2,q1,q2.1,q2.2,rfl⟩
theorem fZ {a:Addr}{o:HO}(h:L.lookup a=some o):(a,o)∈L:=by
 induction L with
 | nil=>cases h
 | cons p L ih=>
  rw[b6] at h
  split at h
  ·rename_i e
   cases h
   rw[ip] at e
   subst e
   exact am
  ·exact ah _ (ih h)
theorem Ce:∀ts:List Addr,Vals (ts.map V.ref) (ts.map Value.ref)
 | []=>.nil
 | _::ts=>.cons rfl (Ce ts)
section
variable {X:Cx}{tg:Expr}
def WR (K:W.Frag)(ta:TA):TE:=fun σ H Q=>ta σ H λvs H1=>∃a c xs ys,vs=[.ref a,.ref c]/\F8 K H1 a xs/\F8 K H1 c ys/\ys.length=xs.length /\
 ∀l ts H2,H1 l=none->(∀b o,H1 b=some o->H2 b=some o)->H2 l=some (.lst (ts.map V.ref))->ZTs H2 ts xs ys->Q (.ref l) H2
theorem PP {a c:Expr}{ta:TA}{p p2 pos GL:Pos}(hg:Gl X "list")(hm:X.mg "list" = none)(To:Gl X "zip")(MX:X.mg "zip" = none)(hb:bootBuiltins "zip" = some (.type "zip"))(hc:X.calm=true)(ha:PA X [a,c] ta)(hs:autoParam (starEach [a,c] X.env=(false,eval a X.env)::starEach [c] X.env) r0_)(NS:autoParam ((backTo GL (starEach [c] X.env)).any (·.1)=false) r0_)
  (JO:autoParam (starEach [.Call (.Name "zip" p2) [a,c] [] GL] X.env=(false,eval (.Call (.Name "zip" p2) [a,c] [] GL) X.env)::starEach [] X.env) r0_) (IH:autoParam ((backTo pos (starEach [] X.env)).any (·.1)=false) r0_):
  PE X (.Call (.Name "list" p) [.Call (.Name "zip" p2) [a,c] [] GL] [] pos) (WR X.K ta):=by
 intro Fn s σ H Q I h
 refine eT (gK I hg hm iq (bX ?_ JO IH) (by decide) (by decide))
 rw[JO]
 show wpAny _ _ (spliced ((false,eval (.Call (.Name "zip" p2) [a,c] [] GL) X.env)::backTo pos (starEach [] X.env))) _ _ s
 refine d0 (Call_ (gK I To MX hb (bX (FX (ha GL Fn s σ H _ I h) ?_) hs NS)))
 rintro us s1 ⟨vs,H1,I1,r1,q1⟩
 obtain⟨a,c,xs,ys,e,hq,RA,hxy,q⟩:=q1
 subst e
 obtain⟨u,v,rfl,ru,rv⟩:=vals2 r1
 cases ru
 cases rv
 obtain⟨its,rv,pl,hz⟩:=I1.list hq
 obtain⟨JA,rv2,pl2,hz2⟩:=I1.list RA
 have l1:=rv.length
 have l2:=rv2.length
 refine call_zip_2 pl.isList pl2.isList λg gz gTI gTO g1 g2 gsz gk=>fz ?_
 have lt:∀{b:Addr},s1.heap.get? b≠none->∀n,b≠s1.heap.objs.size+n:=λ{b} hb n z=>hb (by rw[z];exact Heap.get?_none_of_le (ed _ _))
 have ma:s1.heap.get? a≠none:=let ⟨_,e,_⟩:=pl.isList;by rw[e];exact λz=>nomatch z
 have mc:s1.heap.get? c≠none:=let ⟨_,e,_⟩:=pl2.isList;by rw[e];exact λz=>nomatch z
 have nn:∀m n:Nat,m≠n->s1.heap.objs.size+m≠s1.heap.objs.size+n:=λm n h z=>h (Nat.add_left_cancel z)
 have D:ZipApart (s1.heap.objs.size+4) (s1.heap.objs.size+2) (s1.heap.objs.size+3) s1.heap.objs.size (s1.heap.objs.size+1) a c:=
  ⟨nn _ _ (by decide),nn _ _ (by decide),nn 0 _ (by decide),nn _ _ (by decide),nn _ _ (by decide),nn _ 0 (by decide),nn _ _ (by decide),nn _ 0 (by decide),nn _ _ (by decide),nn 0 _ (by decide),lt ma _,lt ma _,lt ma 0,lt ma _,lt mc _,lt mc _,lt mc 0,lt mc _⟩
 refine Dj (s:={ s1 with heap:=g }) (I1.ok.hd hc) D (by rw[ar];omega) (by rw[ar,ar];omega) gz gTO gTI g1 g2 (pl.isList.at λo e=>gk _ _ e) (pl2.isList.at λo e=>gk _ _ e) λh' acc cc kk he it=>?_
 have he:h'.get? g.objs.size=some { cls:=.type "list",dict:=none,data:=.seq acc cc,slots:=#[] }:=he
 have it:ND h' its.toArray JA.toArray (g.objs.size+1) [s1.heap.objs.size+4,s1.heap.objs.size+3,s1.heap.objs.size,s1.heap.objs.size+1,g.objs.size] acc its.toArray.size:=it
 have kk:∀c o,c∉[s1.heap.objs.size+4,s1.heap.objs.size+3,s1.heap.objs.size,s1.heap.objs.size+1,g.objs.size]->g.get? c=some o->h'.get? c=some o:=kk
 obtain⟨i1,i2⟩:=it
 have esz:its.toArray.size=its.length:=ar ..
 rw[esz] at i1 i2
 have refs:∀v∈acc.toList,∃t,v=.ref t:=λv hv=>by
  obtain⟨i,hi⟩:=kU.mp hv
  have LI:i < acc.size:=by have:=(aS.mp hi).1;rwa [aE] at this
  obtain⟨t,_,_,e,_⟩:=i2 i (by omega)
  rw[iF,e] at hi
  exact⟨t,(bo hi).symm⟩
 let ad:Value->Addr:=λv=>match v with | .ref t=>t | _=>0
 have ea:acc.toList=(acc.toList.map ad).map Value.ref:=by
  rw[bP]
  refine(List.map_id _).symm.trans (ei λv hv=>?_)
  obtain⟨t,rfl⟩:=refs v hv
  rfl
 generalize htt:acc.toList.map ad=ts at ea
 have lts:ts.length=its.length:=by rw[← htt,ac,aE,i1]
 have tat:∀(i:Nat) (t:Addr),ts[i]?=some t->acc[i]?=some (Value.ref t):=λi t h=>by rw[← iF,ea,b0,h];rfl
 have nd:ts.Nodup:=by
  rw[List.nodup_iff_pairwise_ne,List.pairwise_iff_getElem]
  intro i j hi hj hij z
  have a1:=tat i ts[i] (aT hi)
  have a2:=tat j ts[j] (aT hj)
  obtain⟨t,_,_,e,_,_,_,_,_,w⟩:=i2 j (by omega)
  rw[e] at a2
  have e2:t=ts[j]:=pT (bo a2)
  refine w i hij ?_
  rw[a1,z,e2]
 have fact:∀(i:Nat) (t:Addr),ts[i]?=some t->∃x y,its[i]?=some x/\JA[i]?=some y/\IsPair h' t x y/\g.objs.size+1<=t:=λi t h=>by
  have hi:i < its.length:=by have:=(aS.mp h).1;omega
  obtain⟨t',x,y,e,ex,ey,hp,hB,_,_⟩:=i2 i hi
  have:=tat i t h
  rw[e] at this
  have e2:t'=t:=pT (bo this)
  subst e2
  exact⟨x,y,by simpa using ex,by simpa using ey,hp,hB⟩
 have big:∀t∈ts,g.objs.size+1<=t:=λt ht=>by
  obtain⟨i,hi⟩:=kU.mp ht
  obtain⟨_,_,_,_,_,w⟩:=fact i t hi
  exact w
 have lk:∀(i:Nat) (t:Addr) (x y:V),ts[i]?=some t->xs[i]?=some x->ys[i]?=some y->(zL ts xs ys++[(g.objs.size,HO.lst (ts.map V.ref))]).lookup t=some (.tup [x,y]):=λi t x y h1 h2 h3=>by
  rw[List.lookup_append,Ia (xs:=xs) (ys:=ys) nd i t x y h1 h2 h3];rfl
 have ln:(zL ts xs ys++[(g.objs.size,HO.lst (ts.map V.ref))]).lookup g.objs.size=some (.lst (ts.map V.ref)):=by
  rw[List.lookup_append,sH λp hp z=>by
   obtain⟨i,_,_,e,_⟩:=FN hp
   have:=big _ (dc e)
   rw[z] at this
   exact absurd this (Nat.not_succ_le_self _)]
  simp
 have sz:s1.heap.objs.size<=g.objs.size:=by rw[gsz];exact ed _ _
 have hmem:∀p∈zL ts xs ys++[(g.objs.size,HO.lst (ts.map V.ref))],s1.heap.objs.size<=p.1:=λp hp=>by
  rcases bv.mp hp with hp | hp
  ·obtain⟨i,_,_,e,_⟩:=FN hp
   exact cm sz (Nat.le_of_succ_le (big _ (dc e)))
  ·rw[av.mp hp];exact sz
 have I2:Inv X Fn σ (v4 H1 (zL ts xs ys++[(g.objs.size,HO.lst (ts.map V.ref))])) { s1 with heap:=h' }:=I1.lays (t':=s1.toks) (λb u e=>kk b u (λz=>by
   simp only[aI,bi,c9] at z
   have hb:=ay e
   rcases z with z | z | z | z | z <;> rw[z] at hb
   ·exact absurd hb (pV.mpr (ed _ _))
   ·exact absurd hb (pV.mpr (ed _ _))
   ·exact absurd hb (d5 _)
   ·exact absurd hb (pV.mpr (ed _ _))
   ·exact absurd hb (pV.mpr sz)) (gk _ _ e)) hmem λb o lo=>by
  rcases bv.mp (fZ lo) with hp | hp
  ·obtain⟨i,x,y,e1,e2,e3,e4⟩:=FN hp
   dsimp only at e1 e4
   subst e4
   obtain⟨u,v,f1,f2,f3,_⟩:=fact i b e1
   obtain⟨u',w1,w2⟩:=rv.get e2
   obtain⟨v',w3,w4⟩:=rv2.get e3
   rw[f1] at w1
   rw[f2] at w3
   cases w1
   cases w3
   exact⟨by show (2:Nat)<=sizeLine;decide,[u,v],.cons w2 (.cons w4 .nil),_,f3,rfl,_,rfl⟩
  ·cases av.mp hp
   exact⟨by rw[ac,lts,← l1];exact hz,acc.toList,cc,by
    rw[ea]
    exact Ce ts,by simpa using he⟩
 refine⟨.ref g.objs.size,_,I2,rfl,q g.objs.size ts _ (I1.FH.fresh sz) (λb o e=>?_) (Ax ln) (Mf (by omega) hxy λi t x y h1 h2 h3=>Ax (lk i t x y h1 h2 h3))⟩
 rw[xr (sH λp hp z=>by
  have:=I1.FH.fresh (hmem p hp)
  rw[z,e] at this;cases this)]
 exact e
end
section
variable {X:Cx}{tg:Expr}{Fn:qo}{σ:St}{H:Hp}{s:Shared}{apos FG pos:Pos}{td ty tx tv:TE}{o e f:Expr}
theorem WT {b:Addr}{vs:List V}{ks:List Key}(I:Inv X Fn σ H s)(hq:IP X.K H b vs)(kt:vH ks vs):(tupleKind (cR X.prog X.w)).is s.heap ks b:=by
 obtain⟨its,r,⟨o,h1,h2,n,h3⟩,_⟩:=I.tuple hq
 exact⟨o,its.toArray,n,h1,h2,h3,by simpa using vK kt r⟩
def WX (K:W.Frag)(td ty tx:TE):TE:=fun σ H Q=>td σ H λx H1=>∃a,x=.ref a/\IsD H1 a/\ty σ H1 λy H2=>tx σ H2 λz H3=>∃kvs ks b vs,Rd H3 a (.dT kvs)/\y=.ref b/\IP K H3 b vs/\vH ks vs/\Q ((jJ kvs ks).getD z) H3
theorem PQ (hu:X.A.units+1 < cLine)(ho:PE X o td)(he:PE X e ty)(hf:PE X f tx)(m:M2 X o "get" apos e f FG):PE X (.Call (.Attribute o "get" apos) [e,f] [] FG) (WX X.K td ty tx):=by
 intro Fn s σ H Q I h
 refine kB m.base m.YO m.line ke dQ kR (FX (ho Fn s σ H _ I h) ?_)
 rintro u s1 ⟨x,H1,I1,rx,a,ex,d,q1⟩
 subst ex
 cases (show u=Value.ref a from rx)
 obtain⟨t1,t2,_⟩:=y_ I1 d
 refine⟨t1,t2,?_⟩
 rw[m.trees]
 refine f7 rfl (iN (d0 (FX (he Fn s1 σ H1 _ I1 q1) λiv s2 ⟨y,H2,I2,ry,q2⟩=>d0 (FX (hf Fn s2 σ H2 _ I2 q2) λfv s3 ⟨z,H3,I3,rz,kvs,ks,b,vs,e1,e2,e3,e4,q3⟩=>fz ?_))))
 subst e2
 cases (show iv=Value.ref b from ry)
 obtain⟨_,hd,xs,rel,dd⟩:=rY I3.HU I3.FH e1
 exact l9 dQ dd.typeIs fT (kc _ _ _) (ng (tupleKind (cR X.prog X.w)) a b hd fv) ⟨e8 hu,ks,xs,WT I3 e3 e4,dd,⟨_,H3,I3.tok _,(rel.val ks).getD rz,q3⟩⟩
def Yt (K:W.Frag)(tk tv:TE):TE:=fun σ H Q=>∀p,H p=none->tk σ (upd H p (.dT [])) λy H1=>tv σ H1 λz H2=>H2 p=some (.dT [])/\∃b ks,y=.ref b/\IJ K H2 b ks/\Q (.ref p) (upd H2 p (.dT [(ks,z)]))
theorem S_ (hu:X.A.units+1 < cLine)(hk:PE X e ty)(hv:PE X f tv):PE X (.Dict [some e] [f] pos) (Yt X.K ty tv):=by
 intro Fn s σ H Q I q
 have hn:=I.FH.fresh (aw s.heap.objs.size)
 have I1:=I.laid (a:=s.heap.objs.size) (o:=.dT []) (h':=s.heap.push { cls:=.type "dict",data:=.dict #[] }) (t':=s.toks) (λ_ _ q=>af _ q) (aw _) (Es s.heap I.big)
 refine wpAny_Dict_any rfl rfl (λz=>nomatch z) (show (1:Nat)<=15 by decide) ?_
 refine pairTrees_cons_walk (FX (hk Fn _ σ _ _ I1 (q _ hn)) λu s1 ⟨y,H1,I2,ry,q1⟩=>FX (hv Fn s1 σ H1 _ I2 q1) λw2 s2 ⟨z,H2,I3,rz,e1,b,ks,e2,dk,q2⟩=>pairTrees_nil_walk ?_)
 subst e2
 cases (show u=Value.ref b from ry)
 obtain⟨_,hd,xs,rel,dd⟩:=tH I3.HU I3.FH (.inl e1)
 cases rel
 unfold storeAll
 rw[lI]
 refine ab (ab (yp (show X.A.units < cLine from Nat.lt_of_succ_lt hu) (jX I3.HU I3.FH dk) dd (eA _) λh' dd' hs=>ag ?_))
 show wpAny _ _ (forIn [] _ _) _ _ _
 rw[o0]
 refine ag ?_
 obtain⟨o,es,hq,h2,h3,h4,_,h5⟩:=dd'
 have new:FK X.prog X.w X.K (upd H2 s.heap.objs.size (.dT [(ks,z)])) h' s.heap.objs.size (.dT [(ks,z)]):=⟨by show (1:Nat)<=sizeLine;decide,hd,_,((KT.put (H:=H2) (kvs:=[]) .nil ks dk rz)).keeps λc ys ec=>by rw[aO (Q7 ec e1 (λz=>nomatch z))];exact ec,o,es,_,hq,h2,h3,h4,h5,rfl⟩
 exact⟨.ref s.heap.objs.size,_,Ai (t':=s2.toks+(tupleKind (cR X.prog X.w)).draws ks) I3 (by rw[e1];exact eS) hs ⟨o,hq⟩ new,rfl,q2⟩
def WY (K:W.Frag)(a:Addr)(n:Nat):It:=
 ⟨λi H=>∃kvs,Rd H a (.dT kvs)/\kvs.length=n/\i < n,λi H x H'=>H'=H/\∃kvs b ks y,Rd H a (.dT kvs)/\kvs[i]?=some (ks,y)/\x=.ref b/\IJ K H b ks,λi H=>∃kvs,Rd H a (.dT kvs)/\kvs.length=n/\n<=i⟩
theorem KT.get {K:W.Frag}{kvs:List (List Key×V)}{xs:List (List Key×Addr×Value)}(r:KT K H kvs xs):∀{i:Nat}{p:List Key×V},kvs[i]?=some p->∃b u,xs[i]?=some (p.1,b,u)/\IJ K H b p.1:=by
 induction r with
 | nil=>intro i p h;simp at h
 | @cons p q ps qs h t ih=>
  intro i p' e
  cases i with
  | zero=>
   cases e
   obtain⟨k,b,u⟩:=q
   obtain⟨h1,h2,_⟩:=h
   dsimp only at h1 h2
   exact⟨b,u,by rw[h1];rfl,h2⟩
  | succ i=>exact ih (i:=i) e
theorem Tc {P:Program}{w:World}{K:W.Frag}{tg:Expr}(a it:Addr)(n:Nat):Turn P w K tg (WY K a n) [it] it (λi h=>h.IsKeyIter it a i n n) where
 mem:=am
 obj:=λi h st b hb=>by
  obtain⟨o,e,c,d⟩:=st
  exact⟨o,by rw[av.mp hb];exact e,λv z=>by rw[d] at z;cases z⟩
 keep:=λi h h' st k=>let ⟨o,e,c⟩:=st;⟨o,k it am o e,c⟩
 item:=by
  intro X hP hw hK hc i Fn s σ H E I hf st hg
  subst hP hw hK
  obtain⟨kvs,hq,hlen,LI⟩:=hg
  obtain⟨f0,f1,f2,f3,f4,f5⟩:=hf it am
  obtain⟨_,_,xs,rel,dd⟩:=tH I.HU I.FH hq
  have hl:xs.length=n:=by rw[← ff rel];exact hlen
  obtain⟨p,hp⟩:∃p,kvs[i]?=some p:=⟨_,aT (by omega)⟩
  obtain⟨b,u,hx,dk⟩:=rel.get hp
  subst hl
  refine Xy st dd hx λh' MI sb=>?_
  obtain⟨o,e,c,d⟩:=id MI
  obtain⟨ks,y⟩:=p
  exact⟨.ref b,rfl,wY (s:={ s with heap:=h' }) e c d (by decide) ⟨.ref b,H,I.turned (t':=s.toks) (λb o hb q=>(sb.2 b hb).trans q) f0 f1 f3 f4 f5,rfl,⟨rfl,kvs,b,ks,y,hq,hp,rfl,dk⟩,MI,λb hb=>(hf b hb).1⟩⟩
 done:=by
  intro X hP hw hK hc i Fn s σ H E I hf st hg
  subst hP hw hK
  obtain⟨kvs,hq,hlen,hge⟩:=hg
  obtain⟨f0,f1,f2,f3,f4,f5⟩:=hf it am
  obtain⟨_,_,xs,rel,dd⟩:=tH I.HU I.FH hq
  have hl:xs.length=n:=by rw[← ff rel];exact hlen
  subst hl
  exact Y7 (I.ok.hd hc) st dd hge λh' eb=>⟨rfl,I.turned (t':=s.toks) (λb o hb q=>eb b o hb q) f0 f1 f3 f4 f5⟩
 self:=λA i s Q E st h=>wpAny_pyIter_keyiter st h
def iDk (K:W.Frag)(tl:TE):TI:=fun σ H R=>tl σ H λx H1=>∃a kvs,x=.ref a/\Rd H1 a (.dT kvs)/\R (WY K a kvs.length) H1
theorem Yu {l:Expr}{tl:TE}(hl:PE X l tl):PI X tg l (iDk X.K tl):=by
 intro Fn s σ H R I h
 refine FX (hl Fn s σ H _ I h) ?_
 rintro v s1 ⟨x,H1,I1,r1,q1⟩
 obtain⟨a,kvs,e,hq,q⟩:=q1
 subst e
 cases r1
 obtain⟨_,hd,xs,rel,dd⟩:=tH I1.HU I1.FH hq
 have hl:xs.length=kvs.length:=(ff rel).symm
 refine Xx hd dd λh' eh=>?_
 subst eh
 rw[hl]
 refine⟨s1.heap.objs.size,[s1.heap.objs.size],_,_,H1,rfl,I1.kept (t':=s1.toks) λb o e=>af _ e,Tc a _ kvs.length,⟨_,ap _ rfl,rfl,rfl⟩,λb hb=>?_,q⟩
 rw[av.mp hb]
 exact I1.Nc (aw _) (I1.FH.fresh (aw _))
end
end Lake.L2
namespace Lake.MR
open PySem L2
@[simp] noncomputable def xu:PV->PV->Option PV
 | .lst xs,.lst ys=>if ys.length=xs.length then some (.lst (List.zipWith (λa c=>.tup [a,c]) xs ys)) else none
 | _,_=>none
noncomputable def kP:Key->PV
 | .inl i=>.int i
 | .inr x=>.str x
@[simp] noncomputable def zz:PV->Option (List PV)
 | .dT kvs=>if (kvs.all λkv=>kv.1.length != 2)=true then some (kvs.map λkv=>.tup (kv.1.map kP)) else none
 | _=>none
noncomputable def iK (f:rh)(env:Env):Option (List PV):=(f env).bind zz
@[simp] theorem aaz (f:rh)(env:Env):iK f env=((f env).bind zz):=id rfl
@[simp] noncomputable def zA:PV->PV->PV->Option PV
 | .dT kvs,.ktp ys,z=>(FO ys).map λk=>(cN kvs k).getD z
 | _,_,_=>none
section
variable {X:Cx}{b:BX}{G:qr}{apos FG p p2 pos GL:Pos}{m m1 m2:Md}{e e1 e2 e3:Expr}{f f1 f2 f3:rh}
theorem PX {C:MC}{A A':Addr->Prop}{H H':Hp}{ts:qV}{vs us:List V}{xs ys:List PV}(z:ZTs H' ts vs us)(ex:Ex A H A' H')(r1:Fu C A H vs xs)(r2:Fu C A H us ys):Fu C A' H' (ts.map V.ref) (List.zipWith (λa c=>.tup [a,c]) xs ys):=by
 induction z generalizing xs ys with
 | nil=>cases r1;exact .nil
 | cons h t ih=>
  cases r1 with
  | cons a1 b1=>cases r2 with
   | cons a2 b2=>exact .cons (.tup h (.cons (Rep.ex ex a1) (.cons (Rep.ex ex a2) .nil))) (ih b1 b2)
theorem P_ (hm:X.mg "list" = none)(MX:X.mg "zip" = none)(h1:SE X b G m1 e1 f1)(h2:SE X b G m2 e2 f2)(hb:autoParam (bootBuiltins "zip" = some (.type "zip")) r2_)(hK:autoParam (X.K=b.C.K) r0_)(hc:autoParam (X.calm=true) r0_)(hg:Gl X "list" := by rfl)(To:Gl X "zip" := by rfl)
  (hs:autoParam (starEach [e1,e2] X.env=(false,eval e1 X.env)::starEach [e2] X.env) r0_) (hs1:autoParam (starEach [e2] X.env=(false,eval e2 X.env)::starEach [] X.env) r0_) (NS:autoParam ((backTo GL (starEach [e2] X.env)).any (·.1)=false) r0_)
  (JO:autoParam (starEach [.Call (.Name "zip" p2) [e1,e2] [] GL] X.env=(false,eval (.Call (.Name "zip" p2) [e1,e2] [] GL) X.env)::starEach [] X.env) r0_) (IH:autoParam ((backTo pos (starEach [] X.env)).any (·.1)=false) r0_):
  SE X b G .own (.Call (.Name "list" p) [.Call (.Name "zip" p2) [e1,e2] [] GL] [] pos) (b2 xu f1 f2):=by
 refine PE.imp (PP hg hm To MX hb hc (cF h1.bor (cF h2.bor eZ hs1) hs) hs NS JO IH) ?_
 rintro σ H Q ⟨Ow,env,q,E,hf,k⟩
 rw[hK]
 obtain⟨x,hx,z1⟩:=aD hf
 clear hf
 obtain⟨y,hy,hf⟩:=aD z1
 clear z1
 unfold xu at hf
 split at hf
 ·rename_i xs ys
  split at hf
  ·rename_i hl
   cases hf
   refine⟨Ow,env,_,E,hx,λv H1 s1 r1=>⟨Ow,env,_,E.up s1,hy,λu H2 s2 r2=>?_⟩⟩
   have MQ:FC b.C (Bs b Ow) H1 v (.lst xs):=r1
   have MQ:FC b.C (Bs b Ow) H2 v (.lst xs):=Res.up (m:=.bor) r1 s2
   have OA:FC b.C (Bs b Ow) H2 u (.lst ys):=r2
   obtain⟨a,vs,rfl,ha,ra⟩:=MQ.lst
   obtain⟨c,us,rfl,hc,rc⟩:=OA.lst
   have s:=s1.trans s2
   refine⟨a,c,vs,us,rfl,F8.of ha,F8.of hc,by rw[ra.length,rc.length];exact hl,λl ts H3 hl0 kp Of z=>?_⟩
   have hn:H l=none:=by
    cases q:H l with
    | none=>rfl
    | some o=>have:=s _ _ q;rw[hl0] at this;cases this
   have ex:Ex (Bs b Ow) H2 (λc=>Bs b Ow c/\c≠l) H3:=λc o e=>⟨λq=>⟨kp _ _ e,q,λw=>by rw[w,hl0] at e;cases e⟩,λ_=>kp _ _ e⟩
   exact k _ _ (s.trans kp) ⟨l,rfl,hn,_,Of,PX z ex ra rc⟩
  ·cases hf
 ·cases hf
theorem Td {j:Nat}(hr:F0 j X.A)(h1:SE X b G m1 e1 f1)(h2:SE X b G m2 e2 f2)(h3:SE X b G .val e3 f3)(m:autoParam (M2 X e1 "get" apos e2 e3 FG) r10_)(hK:autoParam (X.K=b.C.K) r0_):SE X b G .val (.Call (.Attribute e1 "get" apos) [e2,e3] [] FG) (b3 zA f1 f2 f3):=by
 refine PE.imp (PQ (rZ hr) h1.bor h2.bor h3 m) fun σ H Q h=>?_
 obtain⟨Ow,env,p,E,hf,k⟩:=h
 obtain⟨p1,q1,z1⟩:=aD hf
 clear hf
 obtain⟨p2,q2,z2⟩:=aD z1
 clear z1
 obtain⟨p3,q3,hf⟩:=aD z2
 clear z2
 refine⟨Ow,env,p1,E,q1,λv1 H1 s1 r1=>?_⟩
 unfold zA at hf
 split at hf
 ·rename_i kvs ys
  obtain⟨ky,hk,e⟩:=df.mp hf
  have MQ:FC b.C (Bs b Ow) H1 v1 (.dT kvs):=r1
  obtain⟨a,kv,rfl,ha,ra⟩:=MQ.dT
  refine⟨a,rfl,.inr ⟨kv,.inl ha⟩,Ow,env,_,E.up s1,q2,λv2 H2 s2 r2=>⟨Ow,env,p3,(E.up s1).up s2,q3,λv3 H3 s3 r3=>?_⟩⟩
  have OA:FC b.C (Bs b Ow) H2 v2 (.ktp ys):=r2
  rcases OA with OA | ⟨_,_,t⟩
  ·cases OA with
   | tupK w1 w3=>
    refine⟨kv,ky,_,_,.inl (s3 _ _ (s2 _ _ ha)),rfl,by rw[hK];exact yw w1,w3.FO hk,k _ H3 ((s1.trans s2).trans s3) ?_⟩
    unfold cN at e
    rcases FY.val (k:=ky) ra with ⟨v,p',g1,g2,rv⟩ | ⟨g1,g2⟩
    ·rw[g2] at e
     rw[g1,← e]
     exact rv.ex (.of_same (s2.trans s3))
    ·rw[g2] at e
     rw[g1,← e]
     exact r3
  ·exact t.elim
 ·cases hf
theorem Ib {K:W.Frag}{H:Hp}{a:Addr}{ks:List Key}(c:IJ K H a ks):∃us,LA K H a us/\vH ks us:=c.elim (λ⟨vs,e,k⟩=>⟨vs,.inl e,k⟩) λ⟨vs,e,k⟩=>⟨vs,.inr e,k⟩
theorem xx {C:MC}{A:Addr->Prop}{H:Hp}:∀ks:List Key,Fu C A H (ks.map kV) (ks.map kP)
 | []=>.nil
 | .inl i::ks=>.cons (.int i) (xx ks)
 | .inr x::ks=>.cons (.str x) (xx ks)
theorem Ie {C:MC}{A:Addr->Prop}{H:Hp}:∀{kv:List (List Key×V)}{kvs:List (List Key×PV)},FY C A H kv kvs->kv.map (·.1)=kvs.map (·.1)
 | _,_,.nil=>rfl
 | _,_,.cons _ t=>by rw[al,al,Ie t]
theorem Yv {tg:Expr}(he:SE X b G m e f)(hK:autoParam (X.K=b.C.K) r0_):SI X b G false tg e (iK f):=by
 refine PI.imp (Yu he) ?_
 rintro σ H R ⟨Ow,env,ps,E,hg,k⟩
 obtain⟨q,hq,II⟩:=aD hg
 unfold zz at II
 split at II
 ·rename_i kvs
  split at II
  ·rename_i Lv
   cases II
   refine⟨Ow,env,_,E,hq,λv H1 s r=>?_⟩
   have r1:FC b.C (Bs b Ow) H1 v (.dT kvs):=r.bor
   obtain⟨a,kv,rfl,ha,ra⟩:=r1.dT
   have hks:=Ie ra
   have hlen:kv.length=kvs.length:=ra.length
   refine⟨a,kv,rfl,.inl ha,k _ _ s λF5 H2 h0 h1 hn=>?_⟩
   have ZU:H2 a=some (.dT kv):=h0 rfl _ _ ha
   refine⟨λi p hp=>?_,⟨kv,.inl ZU,rfl,by rw[ac,hlen];exact aw _⟩⟩
   have hi:i < kvs.length:=by have:=(aS.mp hp).1;rwa [ac] at this
   refine⟨⟨kv,.inl ZU,rfl,by omega⟩,λx H' y=>?_⟩
   obtain⟨e',kv',c,ks,y,hr',N4,ex,dk⟩:=y
   subst e' ex
   have ekv:kv'=kv:=by
    rcases hr' with z | ⟨o,z⟩
    ·rw[ZU] at z;cases z;rfl
    ·rw[ZU] at z;cases z
   subst ekv
   have ek:(kvs.map (·.1))[i]?=some ks:=by rw[← hks,b0,N4];rfl
   rw[b0] at ek hp
   cases qq:kvs[i]? with
   | none=>rw[qq] at ek;cases ek
   | some w=>
    rw[qq] at ek hp
    cases ek
    cases hp
    have nl:w.1.length≠2:=by
     have:=cr.mp Lv w (dc qq)
     simpa using this
    obtain⟨us,hu,kt⟩:=Ib (hK▸dk)
    rcases kt with rfl | ⟨x,t,z,_⟩
    ·exact⟨FD.refl _,hu.rep (xx _)⟩
    ·have z:w.1=_:=z
     rw[z] at nl;exact absurd rfl nl
  ·cases II
 ·cases II
end
end Lake.MR
namespace Lake.My
open PySem L2 MR
@[simp] theorem Z9 (i j:Int):OR (.int i) (.int j)=some (decide (i=j)):=rfl
@[simp] theorem Ig (i j:Str):OR (.str i) (.str j)=some (decide (i=j)):=rfl
@[simp] theorem aap (i j:Bool):OR (.bl i) (.bl j)=some (decide (i=j)):=rfl
theorem Ay {α:Type}{xs:List α}{i:Int}(h0:0<=i)(h1:i < xs.length):F1 xs i=xs[i.toNat]?:=by
 unfold F1 NW
 rw[ba h0,ba h1]
 rfl
theorem Az {α β:Type}(f:α->β)(xs:List α)(i:Int):F1 (xs.map f) i=(F1 xs i).map f:=by
 unfold F1
 rw[ac]
 cases NW xs.length i with
 | none=>rfl
 | some j=>simp
theorem cu {α:Type}{xs:List α}{k:Nat}{x:α}(h:xs[k]?=some x):F1 xs (k:Int)=some x:=R7 h
section
variable {α:Type}{env:MR.Env}{g:PV->MR.Env->Option MR.Env}{t:MR.Env->Option Bool}{f:MR.Env->Option PV}
theorem bI (c h:α->PV):∀(ys:List α),(∀y∈ys,∃e,g (c y) env=some e/\f e=some (h y))->bJ env g aZ f (ys.map c)=some (ys.map h)
 | [],_=>rfl
 | y::ys,hh=>by
  obtain⟨e,h1,h2⟩:=hh y am
  have ih:=bI c h ys λz hz=>hh z (ah _ hz)
  simp[bJ,h1,h2,ih]
theorem ir (c h:α->PV)(p:α->Bool):∀(ys:List α),(∀y∈ys,∃e,g (c y) env=some e/\t e=some (p y)/\(p y=true->f e=some (h y)))->bJ env g t f (ys.map c)=some ((ys.filter p).map h)
 | [],_=>rfl
 | y::ys,hh=>by
  obtain⟨e,h1,h2,h3⟩:=hh y am
  have ih:=ir c h p ys λz hz=>hh z (ah _ hz)
  cases hp:p y with
  | true=>simp[bJ,h1,h2,h3 hp,ih,hp]
  | false=>simp[bJ,h1,h2,ih,hp]
theorem zB {S:Type}{ds:qr}{body:MR.Env->Option Out}(c:α->PV)(E:S->MR.Env)(step:S->α->S):∀(ys:List α) (s:S),(∀y∈ys,∀s,∃e1 e2,g (c y) (E s)=some e1/\body e1=some (.nx e2)/\Kk ds e2=E (step s y))->
  bB g ds body (ys.map c) (E s)=some (.nx (E (ys.foldl step s)))
 | [],s,_=>rfl
 | y::ys,s,hh=>by
  obtain⟨e1,e2,h1,h2,h3⟩:=hh y am s
  have ih:=zB c E step ys (step s y) λz hz=>hh z (ah _ hz)
  simp[bB,h1,h2,h3,ih]
theorem zE {ds:qr}{body:MR.Env->Option Out}(c:α->PV):∀(ys:List α),(∀y∈ys,∃e1 e2,g (c y) env=some e1/\body e1=some (.nx e2)/\Kk ds e2=env)->bB g ds body (ys.map c) env=some (.nx env)
 | [],_=>rfl
 | y::ys,hh=>by
  obtain⟨e1,e2,h1,h2,h3⟩:=hh y am
  have ih:=zE c ys λz hz=>hh z (ah _ hz)
  simp[bB,h1,h2,h3,ih]
end
theorem sI {α:Type}(c:α->PV):∀(ys:List α) (n:Nat),dU n (ys.map c)=(ys.zipIdx n).map λy=>.tup [.int (y.2:Nat),c y.1]
 | [],_=>rfl
 | y::ys,n=>by simp[dU,sI c ys]
noncomputable def F4 (ks:qE):List (Key×PV):=ks.map λx=>((Sum.inr x:Key),PV.bl true)
theorem zF (ks:qE):(F4 ks).length=ks.length:=by simp[F4]
theorem FP (x:Str):∀ks:List Str,cN (F4 ks) (Sum.inr x:Key)=if x∈ks then some (.bl true) else none
 | []=>rfl
 | k::r=>by
  have ih:=FP x r
  unfold cN at ih ⊢
  show ((((Sum.inr k:Key),PV.bl true)::F4 r).find? _).map _=_
  by_cases h:k=x
  ·subst h;simp
  ·have h':¬ x=k:=λe=>h e.symm
   have hk:¬ (Sum.inr k:Key)=Sum.inr x:=λe=>h (qf e)
   rw[kD (by simpa using hk),ih]
   simp[h']
theorem mG (x:Str)(ks:qE):N0 (.str x) (.dK (F4 ks))=some (decide (x∈ks)):=by
 simp only[N0,keyOf,er,FP]
 by_cases h:x∈ks <;> simp[h]
noncomputable def uP (ks:qE)(x:Str):List Str:=if x∈ks then ks else ks++[x]
theorem Te (ks:qE)(x:Str):jq (F4 ks) (Sum.inr x:Key) (.bl true)=F4 (uP ks x):=by
 have NA:((F4 ks).any λkv=>decide (kv.1=(Sum.inr x:Key)))=decide (x∈ks):=by
  unfold F4
  rw[qc]
  induction ks with
  | nil=>simp
  | cons k r ih=>
   rw[dy,ih]
   by_cases h:k=x
   ·subst h;simp
   ·have h':¬ x=k:=λe=>h e.symm
    simp[h,h']
 unfold jq uP
 rw[NA]
 by_cases h:x∈ks
 ·rw[ba (by simpa using h),ba h]
  unfold F4
  rw[bP]
  refine ei λy _=>?_
  by_cases e:y=x
  ·subst e;simp
  ·have:¬ (Sum.inr y:Key)=Sum.inr x:=λz=>e (qf z)
   simp[this]
 ·rw[ax (by simpa using h),ax h]
  unfold F4
  simp
noncomputable def sJ (ks ws:qE):List Str:=ws.foldl uP ks
noncomputable def gW (kind:Str)(ks:qE):List Str->List Str
 | c::r=>if c=kind then sJ ks r else ks
 | []=>ks
noncomputable def tell (kind:Str)(rs:List (List Str)):List Str:=rs.foldl (gW kind) []
theorem FQ (ks:qE)(x:Str):(uP ks x).length<=ks.length+1:=by
 unfold uP;split <;> simp
theorem v6:∀(ws ks:qE),(sJ ks ws).length<=ks.length+ws.length
 | [],ks=>aw _
 | x::r,ks=>by
  have h1:=v6 r (uP ks x)
  have h2:=FQ ks x
  show (sJ (uP ks x) r).length<=ks.length+(r.length+1)
  omega
noncomputable def total (rs:List (List Str)):Nat:=(rs.map List.length).sum
theorem Cg {kind:Str}:∀(rs:List (List Str)) (ks:qE),(rs.foldl (gW kind) ks).length<=ks.length+total rs
 | [],ks=>ed _ _
 | ws::rs,ks=>by
  have h1:=Cg (kind:=kind) rs (gW kind ks ws)
  have h2:(gW kind ks ws).length<=ks.length+ws.length:=by
   cases ws with
   | nil=>exact ed _ _
   | cons c r=>
    show (if c=kind then sJ ks r else ks).length<=_
    split
    ·have h4:=v6 r ks
     simp
     omega
    ·exact ed _ _
  rw[fI]
  unfold total at *
  simp
  omega
section
variable {α:Type}(a b c d e f g h:α)(l:List α)
@[simp] theorem at0:F1 (a::l) 0=some a:=cu (k:=0) rfl
@[simp] theorem at1:F1 (a::b::l) 1=some b:=cu (k:=1) rfl
@[simp] theorem at2:F1 (a::b::c::l) 2=some c:=cu (k:=2) rfl
@[simp] theorem at3:F1 (a::b::c::d::l) 3=some d:=cu (k:=3) rfl
end
@[simp] noncomputable def nxt (ds:qr):Option Out->Option MR.Env
 | some (.nx e)=>some (Kk ds e)
 | some (.ct e)=>some (Kk ds e)
 | _=>none
noncomputable def turn (g:PV->MR.Env->Option MR.Env)(ds:qr)(body:MR.Env->Option Out)(x:PV)(env:MR.Env):Option MR.Env:=(g x env).bind λe=>nxt ds (body e)
theorem aX (g:PV->MR.Env->Option MR.Env)(ds:qr)(body:MR.Env->Option Out)(x:PV)(env:MR.Env):turn g ds body x env=(g x env).bind λe=>nxt ds (body e):=id rfl
theorem dg {g:PV->MR.Env->Option MR.Env}{ds:qr}{body:MR.Env->Option Out}{x:PV}{xs:List PV}{env Kn:MR.Env}(h:turn g ds body x env=some Kn):bB g ds body (x::xs) env=bB g ds body xs Kn:=by
 unfold turn at h
 obtain⟨e,h1,h2⟩:=aD h
 unfold nxt at h2
 split at h2
 ·rename_i q;cases h2;simp[bB,h1,q]
 ·rename_i q;cases h2;simp[bB,h1,q]
 ·cases h2
theorem bG {f g:MR.Env->Option Out}{env e:MR.Env}(h:f env=some (.nx e)):aG f g env=g e:=by simp[h]
theorem jM (n:Nat):cH 0 (n:Int)=(List.range n).map λk=>PV.int (k:Nat):=by
 unfold cH
 simp
noncomputable def cell (ns:qS)(k:Nat):Int:=ns.getD k 0
noncomputable def mixed (c k:Int):Int:=(c*48271+k*k*69621+5) % 2147483647
def LB:Nat->PV->Prop
 | _,.FE=>True
 | _,.bl _=>True
 | _,.int _=>True
 | _,.str x=>PyData.strOk x=true
 | n+1,.lst xs=>∀x∈xs,LB n x
 | n+1,.tup xs=>∀x∈xs,LB n x
 | _,_=>False
theorem FT {n:Nat}(ih:∀p,LB n p->∃d,toD p=some d/\d.canLay0=true/\d.depth<=n/\PyData.eqv d d=true):∀xs:List PV,(∀x∈xs,LB n x)->∃ds,gw xs=some ds/\PyData.canLayAll0 ds=true/\PyData.depthAll ds<=n/\PyData.eqvAll ds ds=true
 | [],_=>⟨[],rfl,rfl,eA _,rfl⟩
 | x::xs,h=>by
  obtain⟨d,h1,h2,h3,h4⟩:=ih x (h x am)
  obtain⟨ds,g1,g2,g3,g4⟩:=FT ih xs λz hz=>h z (ah _ hz)
  refine⟨d::ds,by simp[gw,h1,g1],by simp[PyData.canLayAll0,h2,g2],?_,by simp[PyData.eqvAll,h4,g4]⟩
  simp only[PyData.depthAll]
  omega
theorem zG:∀(n:Nat) (p:PV),LB n p->∃d,toD p=some d/\d.canLay0=true/\d.depth<=n/\PyData.eqv d d=true
 | n,.FE,_=>⟨.none,by simp[toD],by simp[PyData.canLay0],by simp[PyData.depth],by simp[PyData.eqv]⟩
 | n,.bl b,_=>⟨.bool b,by simp[toD],by simp[PyData.canLay0],by simp[PyData.depth],by simp[PyData.eqv]⟩
 | n,.int b,_=>⟨.int b,by simp[toD],by simp[PyData.canLay0],by simp[PyData.depth],by simp[PyData.eqv]⟩
 | n,.str b,h=>⟨.str b,by simp[toD],by simpa [PyData.canLay0,LB] using h,by simp[PyData.depth],by simp[PyData.eqv]⟩
 | n+1,.lst xs,h=>by
  obtain⟨ds,g1,g2,g3,g4⟩:=FT (zG n) xs (by simpa [LB] using h)
  exact⟨.list ds,by simp[toD,g1],by simp[PyData.canLay0,g2],by simp only[PyData.depth];omega,by simp[PyData.eqv,g4]⟩
 | n+1,.tup xs,h=>by
  obtain⟨ds,g1,g2,g3,g4⟩:=FT (zG n) xs (by simpa [LB] using h)
  exact⟨.tuple ds,by simp[toD,g1],by simp[PyData.canLay0,g2],by simp only[PyData.depth];omega,by simp[PyData.eqv,g4]⟩
 | 0,.lst _,h=>by simp[LB] at h
 | 0,.tup _,h=>by simp[LB] at h
 | _,.frz _,h=>by simp[LB] at h
 | _,.ktp _,h=>by simp[LB] at h
 | _,.dK _,h=>by simp[LB] at h
 | _,.dT _,h=>by simp[LB] at h
 | _,.obj _ _,h=>by simp[LB] at h
theorem Qa {n:Nat}{p:PV}(h:LB n p)(hn:n<=64):eqD p p=some true:=by
 obtain⟨d,h1,h2,h3,h4⟩:=zG n p h
 have hs:SeqAt.shaped d=true:=by
  unfold SeqAt.shaped
  rw[h2,Bool.true_and,gX]
  omega
 simp[eqD,h1,hs,h4]
theorem Qc {p:PV}{k:Bool}(h:eqS p p=some k):k=true:=by
 cases p <;> simp at h <;> first | exact h | exact h.symm | cases h
theorem FW {n:Nat}{p:PV}(h:LB n p)(hn:n<=64):OR p p=some true:=by
 unfold OR
 cases q:eqS p p with
 | none=>exact Qa h hn
 | some k=>rw[Qc q]
@[simp] theorem Z_:OR (.lst []) (.lst [])=some true:=FW (n:=1) (by simp[LB]) (by decide)
end Lake.My
namespace Lake.MR
open PySem L2 PyProof.Rows PySem.Spec
theorem LM {HG scope:Scope}{ON N:qE}{FF:List (Option Nat)}(h1:autoParam (scope.kind=.function) r0_)(h2:autoParam (∀y∈scope.names,y.2≠.cell) r2_)(h3:autoParam (∀y∈scope.names,y.2=.local->scope.names.lookup y.1=some .local) r2_)
  (h4:autoParam (∀y∈scope.names,y.2=.free->HG.names.lookup y.1=some .cell\/HG.names.lookup y.1=some .free) r2_) (h5:autoParam (zg scope ON N FF=true) r2_):QO HG scope ON N FF:=⟨h1,h2,h3,h4,h5⟩
theorem GN {N P:qE}{sc:Scope}(h1:autoParam (sc.kind=.function) r0_)(h2:autoParam (sc.isCoroutine=false) r0_)(h3:autoParam (sc.isGenerator=false) r0_)(h4:autoParam (N.Nodup) r2_)(h5:autoParam (N.take P.length=P) r0_)
  (h6:autoParam (∀x∈P,sc.names.lookup x=some .local\/sc.names.lookup x=some .cell) r2_) (h7:autoParam (∀y∈sc.names,y.2≠.free) r2_):Fs N P sc:=⟨h1,h2,h3,h4,h5,h6,h7⟩
theorem b_ {X:Cx}{N:qE}{scope:Scope}{C s H fp}{x:Str}{pos:Pos}(i:Nat)(hN:autoParam (N.Nodup) r2_)(hi:autoParam (N[i]?=some x) r0_)(hx:Loc (X.comp N scope C s H fp).env.scope x:=by exact fN rfl)
  (hf:autoParam ((X.comp N scope C s H fp).fn x=true\/(X.comp N scope C s H fp).env.scope.names.lookup x=some .local) r3_):PG (X.comp N scope C s H fp) (.Name x pos) (wX i):=Ah hN hi hx hf
section
variable {P:Program}{w:World}{K:W.Frag}{mg:Str->Option Value}{base:Heap}
theorem GU {x qual:Str}{st:Stmt}{f:Addr}{fd:FuncData}{N ps:qE}{k n kk:Nat}{C:MC}{ro:Bool}{g:Env->Option Out}(F:K0 K x qual st f fd)(S:Fs N ps (aA st))(G G' L:qr)
  (hb:∀{Lu:Value}{A:Around}{outer:List PySem.Env}{s:Shared}{H:Hp}{E:XK},F0 k (A.deeper (envOfC qual (aA st) s.heap.objs.size f Lu))->∀{B H'},Sa (yq MO P w K mg base N qual (aA st) f Lu A outer s H E).nox ⟨C,B,H',λ_=>none⟩ G G' L ro (gC st) g)
  (hp:autoParam (kk=ps.length) r0_) (hN:autoParam (N.length=n) r0_) (hk:autoParam (kk<=n) r1_) (hG:autoParam ((G.all λi=>decide (kk<=i))=true) r1_):GV P w K mg base MO (k+1) f fd ps (Kj C (aV n kk ro g) ro):=
 F.ok S (λvs H Q E h=>(SQ h).trans hp) λLu A outer s H vs Q E hr h=>SN hN hk hG (λB H'=>hb hr) h
end
end Lake.MR
namespace Lake.L2
open PySem MR
section
variable {K:W.Frag}{x q:Str}{st:Stmt}{f:Addr}{fd:FuncData}{ps:qE}(F:K0 K x q st f fd)
include F
theorem K0.P5 (hl:autoParam (ps.length=1) r0_)(h:autoParam (∀k d p n c t a,bindArgs (W.fnOf x q (jn st) (gC st) (aA st) .none k d p n c t) ⟨[a],[]⟩=pure (ps.zip [a])) r8_):Binds K fd ps []:=F.binds λk d p n c t us e=>Wx us (e.trans hl) (h k d p n c t)
theorem K0.Lm (hl:autoParam (ps.length=2) r0_)(h:autoParam (∀k d p n c t a b,bindArgs (W.fnOf x q (jn st) (gC st) (aA st) .none k d p n c t) ⟨[a,b],[]⟩=pure (ps.zip [a,b])) r8_):Binds K fd ps []:=F.binds λk d p n c t us e=>Wy us (e.trans hl) (h k d p n c t)
theorem K0.Tx (hl:autoParam (ps.length=3) r0_)(h:autoParam (∀k d p n c t a b g,bindArgs (W.fnOf x q (jn st) (gC st) (aA st) .none k d p n c t) ⟨[a,b,g],[]⟩=pure (ps.zip [a,b,g])) r8_):Binds K fd ps []:=F.binds λk d p n c t us e=>Wz us (e.trans hl) (h k d p n c t)
theorem K0.bd4 (hl:autoParam (ps.length=4) r0_)(h:autoParam (∀k d p n c t a b g i,bindArgs (W.fnOf x q (jn st) (gC st) (aA st) .none k d p n c t) ⟨[a,b,g,i],[]⟩=pure (ps.zip [a,b,g,i])) r8_):Binds K fd ps []:=F.binds λk d p n c t us e=>WD us (e.trans hl) (h k d p n c t)
theorem K0.bd5 (hl:autoParam (ps.length=5) r0_)(h:autoParam (∀k d p n c t a b g i j,bindArgs (W.fnOf x q (jn st) (gC st) (aA st) .none k d p n c t) ⟨[a,b,g,i,j],[]⟩=pure (ps.zip [a,b,g,i,j])) r8_):Binds K fd ps []:=F.binds λk d p n c t us e=>ZK us (e.trans hl) (h k d p n c t)
end
open PySem PySem.Spec PyProof.Rows
section
variable {X:Cx}
def Ef (K:W.Frag):R2:=λx y H Q=>∃a b ys,x=.ref a/\y=.ref b/\IP K H a []/\IP K H b ys/\Q (.ref b) H
theorem Tf:G0 X (binaryOp .Add) (Ef X.K):=by
 intro Fn s σ H x y v u Q I rx ry h
 obtain⟨a,b,ys,rfl,rfl,ha,hb,q⟩:=h
 cases rx
 cases ry
 obtain⟨its,r1,p1,_⟩:=I.tuple ha
 obtain⟨JA,r2,p2,_⟩:=I.tuple hb
 cases r1
 obtain⟨⟨cls,dd,data,sl⟩,ho,hc,n,hd⟩:=id p1
 obtain⟨⟨cls2,QI,data2,Sl⟩,Pm,PH,n2,hd2⟩:=id p2
 simp only at hc hd PH hd2
 subst hc hd PH hd2
 exact concat_meets ⟨_,ho,rfl⟩ ⟨_,Pm,rfl⟩ nh pS kC kf (i8 _ _)
  (tuple_addW0 a b _ JA.toArray n n2 dd QI sl Sl (by simp)) ⟨ho,Pm,⟨.ref b,H,I,rfl,q⟩⟩
end
end Lake.L2
namespace Lake.MR
open PySem L2 PyProof.Rows PySem.Spec
@[simp] noncomputable def qY:PV->Option PV
 | .lst xs=>some (.lst xs.reverse)
 | _=>none
noncomputable def xF:PV->PV->Option PV
 | .tup [],.tup ys=>some (.tup ys)
 | .tup xs,.tup ys=>if xs.length+ys.length<=1000000 then some (.tup (xs++ys)) else none
 | _,_=>none
@[simp] theorem Y0 (ys:List PV):xF (.tup []) (.tup ys)=some (.tup ys):=id rfl
@[simp] theorem Yw (x:PV)(xs ys:List PV):xF (.tup (x::xs)) (.tup ys)=if (x::xs).length+ys.length<=1000000 then some (.tup ((x::xs)++ys)) else none:=id rfl
@[simp] noncomputable def zH:PV->PV->Option PV
 | .dT kvs,.tup ys=>(FO ys).map λk=>(cN kvs k).getD .FE
 | _,_=>none
section
variable {X:Cx}{b:BX}{G L:qr}{ro:Bool}{pos apos FG:Pos}{m1 m2:Md}{e1 e2:Expr}{f1 f2:rh}
theorem Ci (i:Nat){x:Str}{p1 apos FG:Pos}(hi:autoParam (i∈G) r1_)(hN:autoParam (X.N[i]?=some x) r0_)(hv:autoParam (Sn X.env.scope x) r5_)(hd:autoParam ((x == ("__debug__" : Str))=false) r1_)
  (LH:autoParam ((x == ("__classdict__" : Str))=false) r1_) (He:autoParam (attributeBase (.Name x p1) "reverse" X.env (eval (.Name x p1) X.env)=eval (.Name x p1) X.env) r0_)
  (HA:autoParam ((apos.endLine == FG.line)=true) r0_):
  SS X b G G L ro (.Expr (.Call (.Attribute (.Name x p1) "reverse" apos) [] [] FG) pos) (zr qY i):=
 PS.imp (wW (VL ki PySem.F.slot_list_reverse PySem.F.type_list_reverse Jr (k_ hN hv hd LH) He HA))<|by
  rintro D σ H ⟨Ow,env,o,E,hf,k⟩
  obtain⟨px,QY,z1⟩:=aD hf
  clear hf
  obtain⟨y,hy,z2⟩:=aD z1
  clear z1
  cases z2
  obtain⟨a,ea,w,t⟩:=E.own i px (eF QY) hi
  cases px <;> simp only[qY] at hy <;> cases hy
  obtain⟨vs,ha,ra⟩:=id t
  refine⟨_,ea,.inl ⟨rfl,_,F8.of ha⟩,a,vs,rfl,rfl,ha,?_⟩
  have rr:Fu b.C (Bs b Ow) (upd H a (.lst vs.reverse)) vs.reverse _:=(Fu.reverse ra).ex λc o e=>by
   by_cases hc:c=a
   ·subst hc
    rw[ha] at e
    cases e
    exact⟨λq=>absurd w q.1,λm=>by cases m⟩
   ·exact⟨λq=>⟨by rw[aO hc];exact e,q⟩,λ_=>by rw[aO hc];exact e⟩
  obtain⟨E',x⟩:=E.write hi ea (eF QY) w t (o':=.lst vs.reverse) (p':=.lst _) ⟨_,bu,rr⟩
  exact k Ow σ _ E' x
theorem Qd:MD b .val (λx y H Q=>za b.C.K x y H Q\/Ef b.C.K x y H Q) xF:=by
 intro Ow H v1 v2 p1 p2 p Q hn r1 r2 e k
 unfold xF at e
 split at e
 ·cases e
  obtain⟨a,vs,rfl,ha,ra⟩:=r1.tup
  obtain⟨c,us,rfl,hc,rc⟩:=r2.tup
  cases ra
  exact .inr ⟨a,c,us,rfl,rfl,ha.sq,hc.sq,k _ H (FD.refl _) (hc.rep rc)⟩
 ·rename_i xs ys HL
  split at e
  ·rename_i h
   cases e
   refine .inl (Su Ow H v1 v2 (.tup xs) (.tup ys) (.tup (xs++ys)) Q hn r1 r2 ?_ k)
   show (if xs≠[]/\xs.length+ys.length<=1000000 then some (PV.tup (xs++ys)) else none)=_
   rw[ba ⟨λz=>HL z,h⟩]
  ·cases e
 ·cases e
theorem Tg:G0 X (binaryOp .Add) (λx y H Q=>za X.K x y H Q\/Ef X.K x y H Q):=λFn s σ H x y v u Q I rx ry h=>h.elim (R6 Fn s σ H x y v u Q I rx ry) (Tf Fn s σ H x y v u Q I rx ry)
theorem Qe (h1:SE X b G m1 e1 f1)(h2:SE X b G m2 e2 f2)(hK:autoParam (X.K=b.C.K) r0_):SE X b G .val (.BinOp e1 .Add e2 pos) (b2 xF f1 f2):=qm (r:=λx y H Q=>za b.C.K x y H Q\/Ef b.C.K x y H Q) (by rw[← hK];exact Tg) Qd h1 h2
theorem Th {j:Nat}(hr:F0 j X.A)(h1:SE X b G m1 e1 f1)(h2:SE X b G m2 e2 f2)(m:autoParam (M1 X e1 "get" apos e2 FG) r10_)(hK:autoParam (X.K=b.C.K) r0_):SE X b G .val (.Call (.Attribute e1 "get" apos) [e2] [] FG) (b2 zH f1 f2):=by
 refine PE.imp (Oz (rZ hr) h1.bor h2.bor m) fun σ H Q h=>?_
 obtain⟨Ow,env,p,E,hf,k⟩:=h
 obtain⟨p1,q1,z1⟩:=aD hf
 clear hf
 obtain⟨p2,q2,hf⟩:=aD z1
 clear z1
 refine⟨Ow,env,p1,E,q1,λv1 H1 s1 r1=>?_⟩
 unfold zH at hf
 split at hf
 ·rename_i kvs ys
  obtain⟨ky,hk,e⟩:=df.mp hf
  obtain⟨a,kv,rfl,ha,ra⟩:=r1.dT
  refine⟨a,rfl,.inr ⟨kv,.inl ha⟩,Ow,env,_,E.up s1,q2,λv2 H2 s2 r2=>?_⟩
  have OA:FC b.C (Bs b Ow) H2 v2 (.tup ys):=r2
  obtain⟨c,vs,rfl,hc,rc⟩:=OA.tup
  have ha3:=s2 _ _ ha
  refine⟨_,HK.t ha3 (by rw[hK];exact hc.key (rc.FO hk)),k _ H2 (s1.trans s2) ?_⟩
  unfold cN at e
  rcases FY.val (k:=ky) ra with ⟨v,p',g1,g2,rv⟩ | ⟨g1,g2⟩
  ·rw[g2] at e
   rw[g1,← e]
   exact rv.ex (.of_same s2)
  ·rw[g2] at e
   rw[g1,← e]
   exact .FE
 ·cases hf
end
theorem ZM {HG scope:Scope}{ON N:qE}{FF:List (Option Nat)}(h1:autoParam (scope.kind=.function) r0_)(h2:autoParam (∀y∈scope.names,y.2≠.cell) r2_)(h3:autoParam (∀y∈scope.names,y.2=.local->scope.names.lookup y.1=some .local) r2_)
  (h4:autoParam (∀y∈scope.names,y.2≠.free) r2_) (h5:autoParam (zg scope ON N FF=true) r2_):QO HG scope ON N FF:=⟨h1,h2,h3,λy hy e=>absurd e (h4 y hy),h5⟩
end Lake.MR
namespace Lake.L2
open PySem PySem.Spec PyProof.Rows
section
variable {prog:Program}{w:World}{A:Around}{E:qk}{s:Shared}
theorem nq {a b:Nat}(h:a≠b):@Ne Addr a b:=h
end
end Lake.L2
namespace Lake.HT
open PySem PyProof.Rows L2
section
variable {prog:Program}{w:World}{A:Around}{E:qk}{R:Result->Shared->Prop}{s:Shared}
theorem Rk {I T S:Addr}{its:re}{v:Value}{c:Nat}(hh:A.handled=none)(hT:T≠I)(hS:S≠I)(st:s.heap.IsTupleIter I T its.size/\s.heap.IsTuple T its)(hl:s.heap.get? S=some { cls:=.type "list",dict:=none,data:=.seq #[v,v] c,slots:=#[] })
  (hR:∀h' tk,(∀b o,b≠I->b≠S->s.heap.get? b=some o->h'.get? b=some o)->R (.ok (.ret v)) { s with heap:=h',toks:=tk }):codeAny (model prog w) A (.builtin "min.loop" ⟨[.ref I,.none,.ref S],[]⟩) R s:=by
 have W:=Walks.tuple (prog:=prog) (w:=w) (A:=A.in1) hh I T hT its
 refine gy nE ?_
 rw[g7 f8 _]
 show wpAny _ A.in1 (seqItems? (.ref S) >>= _) _ _ s
 refine ab (eI hl rfl ?_)
 show wpAny _ A.in1 (tryCatch (pyNext (.ref I)) _ >>= _) _ _ s
 refine ab (kK (W.done s _ _ st λh' tk hk=>?_))
 have MH:=hk S _ (by simp[hS]) hl
 show wpAny _ A.in1 (updateSeq S (λ_=>#[]) >>= _) _ _ _
 refine ab (fR MH rfl (ab (kl (ag (hR _ tk λb o n1 n2 e=>?_)))))
 exact(cf _ _ (fg n2)).trans (hk b o (by simp[n1]) e)
theorem Yx {I T S:Addr}{a b:Value}{c:Nat}{k:Bool}(hh:A.handled=none)(hT:T≠I)(hS:S≠I)(hTS:T≠S)(st:s.heap.IsTupleIter I T 1/\s.heap.IsTuple T #[a,b])(hl:s.heap.get? S=some { cls:=.type "list",dict:=none,data:=.seq #[a,a] c,slots:=#[] })
  (hc:∀(s':Shared) (Q E:qk),(∀b o,b≠I->b≠S->s.heap.get? b=some o->s'.heap.get? b=some o)->Q (.bool k) s'->wpAny (model prog w) A.in1 (richCompare .Lt b a) Q E s')
  (hR:∀h' tk,(∀b o,b≠I->b≠S->s.heap.get? b=some o->h'.get? b=some o)->R (.ok (.ret (if k=true then b else a))) { s with heap:=h',toks:=tk }):codeAny (model prog w) A (.builtin "min.loop" ⟨[.ref I,.none,.ref S],[]⟩) R s:=by
 have W:=Walks.tuple (prog:=prog) (w:=w) (A:=A.in1) hh I T hT #[a,b]
 have NI:(toString "min" ++ toString ".loop" : String) = "min.loop" := by decide
 refine gy nE ?_
 rw[g7 f8 _]
 show wpAny _ A.in1 (seqItems? (.ref S) >>= _) _ _ s
 refine ab (eI hl rfl ?_)
 show wpAny _ A.in1 (tryCatch (pyNext (.ref I)) _ >>= _) _ _ s
 refine ab (kK (W.item 1 s _ _ (by simp) st λv h' tk hP MI hk=>?_))
 have ev:v=b:=by simpa using hP.symm
 subst ev
 have MH:=hk S _ (by simp[hS]) hl
 have kp:∀b o,b≠I->b≠S->s.heap.get? b=some o->h'.get? b=some o:=λb o n1 _ e=>hk b o (by simp[n1]) e
 show wpAny _ A.in1 (tryCatch (holding [v,v] (richCompare .Lt v a >>= _)) _ >>= _) _ _ _
 refine ab (kK (cy (ab (hc _ _ _ kp ?_))))
 refine ab (cy (eD (ab (kl (ag ?_)))))
 cases k with
 | true=>
  simp only[fi]
  refine ab (fR MH rfl (ab (kl ?_)))
  rw[NI]
  refine ag ⟨iA f8 _,Rk (its:=#[a,v]) hh hT hS (W.frame _ _ _ MI λb hb o e=>?_) (cn _ MH rfl) λh2 tk2 k2=>?_⟩
  ·have:S≠b:=λq=>by
    subst q
    simp only[aI,bi,c9] at hb
    rcases hb with q | q
    ·exact hS q
    ·exact hTS q.symm
   exact(cf _ _ this).trans e
  ·exact hR h2 tk2 λb o n1 n2 e=>k2 b o n1 n2 ((cf _ _ (fg n2)).trans (kp b o n1 n2 e))
 | false=>
  simp only[et,fm]
  refine ab (kl ?_)
  rw[NI]
  exact ag ⟨iA f8 _,Rk (its:=#[a,v]) hh hT hS MI MH λh2 tk2 k2=>hR h2 tk2 λb o n1 n2 e=>k2 b o n1 n2 (kp b o n1 n2 e)⟩
theorem Yy {I T S:Addr}{a b:Value}{c:Nat}{k:Bool}(hh:A.handled=none)(hT:T≠I)(hS:S≠I)(hTS:T≠S)(st:s.heap.IsTupleIter I T 0/\s.heap.IsTuple T #[a,b])(hl:s.heap.get? S=some { cls:=.type "list",dict:=none,data:=.seq #[] c,slots:=#[] })
  (hc:∀(s':Shared) (Q E:qk),(∀b o,b≠I->b≠S->s.heap.get? b=some o->s'.heap.get? b=some o)->Q (.bool k) s'->wpAny (model prog w) A.in1 (richCompare .Lt b a) Q E s')
  (hR:∀h' tk,(∀b o,b≠I->b≠S->s.heap.get? b=some o->h'.get? b=some o)->R (.ok (.ret (if k=true then b else a))) { s with heap:=h',toks:=tk }):codeAny (model prog w) A (.builtin "min.loop" ⟨[.ref I,.none,.ref S],[]⟩) R s:=by
 have W:=Walks.tuple (prog:=prog) (w:=w) (A:=A.in1) hh I T hT #[a,b]
 have NI:(toString "min" ++ toString ".loop" : String) = "min.loop" := by decide
 refine gy nE ?_
 rw[g7 f8 _]
 show wpAny _ A.in1 (seqItems? (.ref S) >>= _) _ _ s
 refine ab (eI hl rfl ?_)
 show wpAny _ A.in1 (tryCatch (pyNext (.ref I)) _ >>= _) _ _ s
 refine ab (kK (W.item 0 s _ _ (by simp) st λv h' tk hP MI hk=>?_))
 have ev:v=a:=by simpa using hP.symm
 subst ev
 have MH:=hk S _ (by simp[hS]) hl
 show wpAny _ A.in1 (updateSeq S (λ_=>#[v,v]) >>= _) _ _ _
 refine ab (fR MH rfl ?_)
 rw[NI]
 have kp:∀b o,b≠I->b≠S->s.heap.get? b=some o->(h'.update S (Obj.mapSeq λ_=>#[v,v])).get? b=some o:=λb o n1 n2 e=>(cf _ _ (fg n2)).trans (hk b o (by simp[n1]) e)
 refine ag ⟨iA f8 _,Yx (b:=b) (k:=k) hh hT hS hTS (W.frame _ _ _ MI λb hb o e=>?_) (cn _ MH rfl) (λs' Q E q=>hc s' Q E λb o n1 n2 e=>q b o n1 n2 (kp b o n1 n2 e)) λh2 tk2 k2=>hR h2 tk2 λb o n1 n2 e=>k2 b o n1 n2 (kp b o n1 n2 e)⟩
 have:S≠b:=λq=>by
  subst q
  simp only[aI,bi,c9] at hb
  rcases hb with q | q
  ·exact hS q
  ·exact hTS q.symm
 exact(cf _ _ this).trans e
theorem min2v {a b:Value}{k:Bool}{Q:qk}(hh:A.handled=none)(hc:∀(s':Shared) (Q E:qk),(∀c o,s.heap.get? c=some o->s'.heap.get? c=some o)->Q (.bool k) s'->wpAny (model prog w) A.in1 (richCompare .Lt b a) Q E s')
  (h:∀h' tk,(∀c o,s.heap.get? c=some o->h'.get? c=some o)->Q (if k=true then b else a) { s with heap:=h',toks:=tk }):wpAny (model prog w) A (call (.builtin "min") [a,b]) Q E s:=by
 have NI:(toString "min" ++ toString ".loop" : String) = "min.loop" := by decide
 refine call_function_tree F.kind_min F.plain_min F.entry_min (F.args_min2 _ _) ?_
 show wpAny _ A.in1 (Builtin.Builtins.bindParams "min" ["key","default"] 0 ⟨[],[]⟩ >>= _) _ _ s
 refine ab (oy (show Builtin.Builtins.bindParams "min" ["key","default"] 0 ⟨[],[]⟩=pure [none,none] from rfl) ?_)
 show wpAny _ A.in1 (newTuple [a,b] >>= _) _ _ s
 refine ab (cK ?_)
 have hT:(s.heap.push { cls:=.type "tuple",data:=.seq #[a,b] }).IsTuple s.heap.objs.size #[a,b]:=⟨_,ap _ rfl,rfl,0,rfl⟩
 refine ab (io hT ?_)
 refine ab (cK ?_)
 have hsz:(s.heap.push { cls:=.type "tuple",data:=.seq #[a,b] }).objs.size=s.heap.objs.size+1:=dn ..
 rw[NI]
 refine ag ⟨iA f8 _,?_⟩
 have e0:∀c o,s.heap.get? c=some o->(((s.heap.push { cls:=.type "tuple",data:=.seq #[a,b] }).push { cls:=.type "tuple_iterator",data:=.fields #[.ref s.heap.objs.size,.int 0 0] }).push { cls:=.type "list",data:=.seq #[] }).get? c=some o:=λc o e=>af _ (af _ (af _ e))
 have JO:((s.heap.push { cls:=.type "tuple",data:=.seq #[a,b] }).push { cls:=.type "tuple_iterator",data:=.fields #[.ref s.heap.objs.size,.int 0 0] }).objs.size=s.heap.objs.size+2:=by rw[dn,hsz]
 have far:∀c o,s.heap.get? c=some o->c≠(s.heap.push { cls:=.type "tuple",data:=.seq #[a,b] }).objs.size/\c≠((s.heap.push { cls:=.type "tuple",data:=.seq #[a,b] }).push { cls:=.type "tuple_iterator",data:=.fields #[.ref s.heap.objs.size,.int 0 0] }).objs.size:=λc o e=>by
  have LI:c < s.heap.objs.size:=ay e
  rw[JO,hsz]
  exact⟨bt (eJ LI),bt (eJ (eJ LI))⟩
 refine Yy (T:=s.heap.objs.size) (I:=(s.heap.push { cls:=.type "tuple",data:=.seq #[a,b] }).objs.size) (a:=a) (b:=b) (k:=k) hh ?_ ?_ ?_ ⟨⟨_,af _ (ap _ rfl),rfl,rfl⟩,(hT.push _).push _⟩ (ap _ rfl) (λs' Q E q=>hc s' Q E λc o e=>q c o (far c o e).1 (far c o e).2 (e0 c o e)) λh' tk q=>h h' tk λc o e=>q c o (far c o e).1 (far c o e).2 (e0 c o e)
 ·rw[hsz];exact nq (by omega)
 ·show _≠_
  rw[hsz]
  exact(λz=>by rw[JO] at z;exact absurd z (nq (by omega)))
 ·rw[JO];exact nq (by omega)
end
def W0 (A:Around)(s:Shared)(x y:Value)(r:Bool):Prop:=∀(prog:Program) (w:World) (E Q:qk),Q (.bool r) s->wpAny (model prog w) A (richCompare .Lt x y) Q E s
section
open PySem.SeqAt
open PySem.AutoSeq1 (wpAny_loadPart')
open PySem.MeetsSeq PySem.MeetsSeq2 PySem.MeetsSeq3
theorem FZ (l b:Addr)(x1 x2 y1 y2:Value)(n n2:Nat)(dd QI:Option Addr)(sl Sl:Array (Option Value))(e1 e2 r1 r2:Bool):
  Meets (Builtin.«tuple.__lt__» ⟨[.ref l,.ref b],[]⟩)
   (λA R s=>s.heap.get? l=some { cls:=.type "tuple",dict:=dd,data:=.seq #[x1,x2] n,slots:=sl }/\s.heap.get? b=some { cls:=.type "tuple",dict:=QI,data:=.seq #[y1,y2] n2,slots:=Sl } /\
    EqAt A.in1 s x1 y1 e1/\(e1=true->EqAt A.in1 s x2 y2 e2)/\(e1=false->W0 A.in1 s x1 y1 r1)/\(e1=true->e2=false->W0 A.in1 s x2 y2 r2) /\
    R (.ok (.ret (.bool (if e1=true then (if e2=true then false else r2) else r1)))) s):=
 .of_wp λprog w A R s h=>by
  obtain⟨hp,g,d,tk,os⟩:=s;obtain⟨hl,hb,q1,q2,q3,q4,h⟩:=h
  have f2:=mT
  wp_walk using fF hl,fF hb,wpAny_forIn_list _ (λrest b s'=>b.1=none/\s'=⟨hp,g,d,tk,os⟩/\(rest=[(x1,y1),(x2,y2)]\/(rest=[(x2,y2)]/\e1=true)\/(rest=[]/\e1=true/\e2=true))) _
  case turn=>
   rintro ⟨y,x⟩ rest b s' ⟨PZ,rfl,hz⟩
   rcases hz with hz | ⟨hz,he1⟩ | ⟨hz,_⟩
   ·injection hz with hyx OY
    injection hyx with hy hx
    subst hy hx
    refine ab (q1 prog w _ _ ?_)
    cases e1 with
    | true=>
     wp_walk
     exact⟨rfl,rfl,.inr (.inl ⟨OY,rfl⟩)⟩
    | false=>
     have hri:=q3 rfl prog w
     wp_walk using hri
     exact⟨_,rfl,by simpa using h⟩
   ·injection hz with hyx OY
    injection hyx with hy hx
    subst hy hx he1
    refine ab (q2 rfl prog w _ _ ?_)
    cases e2 with
    | true=>
     wp_walk
     exact⟨rfl,rfl,.inr (.inr ⟨OY,rfl,rfl⟩)⟩
    | false=>
     have hri:=q4 rfl rfl prog w
     wp_walk using hri
     exact⟨_,rfl,by simpa using h⟩
   ·cases hz
  case fin=>
   rintro ⟨b1,b2⟩ s' ⟨PZ,rfl,hz⟩
   simp only at PZ
   subst PZ
   rcases hz with hz | ⟨hz,he1⟩ | ⟨_,he1,PY⟩
   ·cases hz
   ·cases hz
   ·subst he1 PY
    wp_walk
    exact⟨_,rfl,by simpa [Builtin.Tuple.tupleCompareSizes] using h⟩
  case h=>
   exact⟨rfl,rfl,.inl rfl⟩
end
noncomputable def mH:List Str->List Str->Bool
 | x::xs,y::ys=>if x=y then mH xs ys else decide (x.cps.toList < y.cps.toList)
 | [],_::_=>true
 | _,[]=>false
theorem Cj (x y:Str)(xs ys:qE):mH (x::xs) (y::ys)=if x=y then mH xs ys else decide (x.cps.toList < y.cps.toList):=rfl
theorem Ck:∀xs:List Str,mH xs xs=false
 | []=>rfl
 | x::xs=>by rw[Cj,ba rfl];exact Ck xs
theorem lZ {x:Str}{xs:qE}{us:qv}(h:Vals ((x::xs).map V.str) us):∃t ws,us=.str x t::ws/\Vals (xs.map V.str) ws:=by
 cases h with
 | cons h t=>obtain⟨k,rfl⟩:=(show ∃t,_=Value.str x t from h);exact⟨k,_,rfl,t⟩
section
open PySem.SeqAt
open PySem.AutoSeq1 (wpAny_loadPart')
open PySem.MeetsSeq PySem.MeetsSeq2 PySem.MeetsSeq3
theorem Dk (l b:Addr)(xs ys:qE)(its MS:qv)(n n2:Nat)(dd QI:Option Addr)(sl Sl:Array (Option Value))(hx:Vals (xs.map V.str) its)(hy:Vals (ys.map V.str) MS):
  Meets (Builtin.«tuple.__lt__» ⟨[.ref l,.ref b],[]⟩)
   (λA R s=>s.heap.get? l=some { cls:=.type "tuple",dict:=dd,data:=.seq its.toArray n,slots:=sl }/\s.heap.get? b=some { cls:=.type "tuple",dict:=QI,data:=.seq MS.toArray n2,slots:=Sl } /\
    R (.ok (.ret (.bool (mH xs ys)))) s):=
 .of_wp λprog w A R s h=>by
  obtain⟨hp,g,d,tk,os⟩:=s;obtain⟨hl,hb,h⟩:=h
  have f2:=mT
  wp_walk using fF hl,fF hb,wpAny_forIn_list _ (λrest b s'=>b.1=none/\s'=⟨hp,g,d,tk,os⟩/\∃ZY NX its' TC,rest=its'.zip TC/\Vals (ZY.map V.str) its'/\Vals (NX.map V.str) TC/\mH xs ys=mH ZY NX/\its.length+TC.length=MS.length+its'.length) _
  case turn=>
   rintro ⟨u,v⟩ rest b s' ⟨PZ,rfl,ZY,NX,its',TC,hz,Yf,ZO,hlx,hln⟩
   cases ZY with
   | nil=>cases Yf;cases hz
   | cons x ZY=>
    obtain⟨t,JA,rfl,hx2⟩:=lZ Yf
    cases NX with
    | nil=>cases ZO;cases hz
    | cons y NX=>
     obtain⟨t',jts2,rfl,hy2⟩:=lZ ZO
     injection hz with hyx OY
     injection hyx with e1 e2
     subst e1 e2
     refine ab (EqAt.str_str (A:=A.in1) (s:=⟨hp,g,d,tk,os⟩) x t y t' prog w _ _ ?_)
     rw[Cj] at hlx
     cases q:(x == y) with
     | true=>
      rw[ba (by simpa using q)] at hlx
      wp_walk
      simp only[bg] at hln
      exact⟨rfl,rfl,ZY,NX,JA,jts2,OY,hx2,hy2,hlx,by omega⟩
     | false=>
      rw[ax (by simpa using q)] at hlx
      have hri:∀(E:qk) (Q:qk),Q (.bool (decide (x.cps.toList < y.cps.toList))) ⟨hp,g,d,tk,os⟩->wpAny (model prog w) A.in1 (richCompare .Lt (.str x t) (.str y t')) Q E ⟨hp,g,d,tk,os⟩:=λE Q hq=>(PyProof.Rows.lt_str hq:wpAny (model prog w) A.in1 (compareOp .Lt (.str x t) (.str y t')) Q E _)
      wp_walk using hri
      exact⟨_,rfl,by rw[hlx] at h;exact h⟩
  case fin=>
   rintro ⟨b1,b2⟩ s' ⟨PZ,rfl,ZY,NX,its',TC,hz,Yf,ZO,hlx,hln⟩
   simp only at PZ
   subst PZ
   wp_walk
   refine⟨_,rfl,?_⟩
   have:Builtin.Tuple.tupleCompareSizes .Lt its.toArray.size MS.toArray.size=.bool (mH xs ys):=by
    rw[hlx]
    show Value.bool (decide (its.toArray.size < MS.toArray.size))=_
    rw[ar,ar]
    congr 1
    cases ZY with
    | nil=>
     cases Yf
     simp only[eM] at hln
     cases NX with
     | nil=>cases ZO;simp only[eM] at hln;exact be (by omega)
     | cons y NX=>
      obtain⟨t',jts2,rfl,hy2⟩:=lZ ZO
      simp only[bg] at hln
      exact bS (by omega)
    | cons x ZY=>
     obtain⟨t,JA,rfl,hx2⟩:=lZ Yf
     cases NX with
     | nil=>cases ZO;simp only[eM,bg] at hln;exact be (by omega)
     | cons y NX=>obtain⟨t',jts2,rfl,hy2⟩:=lZ ZO;cases hz
   rw[this]
   exact h
  case h=>
   exact⟨rfl,rfl,xs,ys,its,MS,by simp,hx,hy,rfl,Nat.add_comm ..⟩
end
section
variable {prog:Program}{w:World}{A:Around}{E:qk}{s:Shared}
theorem Qf {l b:Addr}{xs ys:qE}{its MS:qv}{Q:qk}(hl:IsTup s.heap l its.toArray)(hb:IsTup s.heap b MS.toArray)(hx:Vals (xs.map V.str) its)(hy:Vals (ys.map V.str) MS)(hu:A.units < cLine)(h:Q (.bool (mH xs ys)) s):wpAny (model prog w) A (richCompare .Lt (.ref l) (.ref b)) Q E s:=by
 obtain⟨⟨cls,dd,data,sl⟩,ho,hc,n,hd⟩:=id hl
 obtain⟨⟨cls2,QI,data2,Sl⟩,Pm,PH,n2',hd2⟩:=id hb
 simp only at hc hd PH hd2
 subst hc hd PH hd2
 exact richCompare_meets_room (op:=.Lt) ⟨_,ho,rfl⟩ ⟨_,Pm,rfl⟩ oq og (nI _ _) (Dk l b xs ys its MS n n2' dd QI sl Sl hx hy)
  ⟨ho,Pm,(show Value.bool (mH xs ys)≠Value.notImplemented/\Q (.bool (mH xs ys)) s from ⟨(λx=>nomatch x),h⟩)⟩ hu
theorem F_:∀{xs ys:qE}{us:qv},Vals (xs.map V.str) us->Vals (ys.map V.str) us->xs=ys
 | [],[],_,_,_=>rfl
 | [],y::ys,us,h1,h2=>by cases h1;cases h2
 | x::xs,[],us,h1,h2=>by cases h2;cases h1
 | x::xs,y::ys,us,h1,h2=>by
  obtain⟨t,ws,rfl,h3⟩:=lZ h1
  obtain⟨t',ws',e,h4⟩:=lZ h2
  cases e
  rw[F_ h3 h4]
theorem yE:∀{xs:qE}{us:qv},Vals (xs.map V.str) us->∀{j:Nat}{v:Value},us[j]?=some v->∃a t,v=.str a t/\xs[j]?=some a
 | [],us,h,j,v,e=>by cases h;simp at e
 | x::xs,us,h,j,v,e=>by
  obtain⟨t,ws,rfl,h3⟩:=lZ h
  cases j with
  | zero=>simp at e;exact⟨x,t,e.symm,rfl⟩
  | succ j=>obtain⟨a,u,h1,h2⟩:=yE h3 (j:=j) (v:=v) (by simpa using e);exact⟨a,u,h1,by simpa using h2⟩
theorem JR {p q:Addr}{its MS:qv}{xs ys:qE}(hl:IsTup s.heap p its.toArray)(hb:IsTup s.heap q MS.toArray)(hi:Vals (xs.map V.str) its)(hj:Vals (ys.map V.str) MS)(hu:A.units < cLine):SeqAt.EqAt A s (.ref p) (.ref q) (decide (xs=ys)):=by
 by_cases hpq:p=q
 ·subst hpq
  have e:its.toArray=MS.toArray:=by
   obtain⟨o,ho,hc,n,hd⟩:=hl
   obtain⟨o2,Pm,PH,n2,hd2⟩:=hb
   rw[ho] at Pm
   cases Pm
   rw[hd] at hd2
   cases hd2
   rfl
  have e':its=MS:=by simpa using e
  subst e'
  rw[bS (F_ hi hj)]
  exact SeqAt.EqAt.same _
 ·refine SeqAt.EqAt.of_refs hpq ?_
  have z1:its.length=xs.length:=by rw[← hi.length,ac]
  have z2:MS.length=ys.length:=by rw[← hj.length,ac]
  have key:=SeqAt.RcAt.tuples (A:=A) (e:=λj=>decide (xs[j]?=ys[j]?)) hl hb hu λj h1 h2=>by
   rw[ar] at h1 h2
   obtain⟨a,t,ha,na⟩:=yE hi (j:=j) (v:=its[j]) (aT h1)
   obtain⟨c,u,hc,mc⟩:=yE hj (j:=j) (v:=MS[j]) (aT h2)
   have g1:its.toArray[j]=.str a t:=by simpa using ha
   have g2:MS.toArray[j]=.str c u:=by simpa using hc
   rw[g1,g2,na,mc]
   have:=SeqAt.EqAt.str_str (A:=A.in1) (s:=s) a t c u
   have e:(a == c)=decide (some a=some c):=by by_cases z:a=c <;> simp[z]
   rw[← e]
   exact this
  have hd:((List.range (min its.toArray.size MS.toArray.size)).all (λj=>decide (xs[j]?=ys[j]?))&&its.toArray.size == MS.toArray.size)=decide (xs=ys):=by
   rw[ar,ar,z1,z2]
   have:((List.range (min xs.length ys.length)).all (λj=>decide (xs[j]?=ys[j]?))&&xs.length == ys.length)=true↔xs=ys:=by
    rw[cb,cr,ip]
    constructor
    ·rintro ⟨hh,hl⟩
     apply List.ext_getElem?
     intro i
     by_cases N4:i < xs.length
     ·simpa using hh i (cq.mpr (by omega))
     ·rw[dS (by omega),dS (by omega)]
    ·rintro rfl
     simp
   cases q:((List.range (min xs.length ys.length)).all (λj=>decide (xs[j]?=ys[j]?))&&xs.length == ys.length) with
   | true=>exact(bS (this.mp q)).symm
   | false=>exact(be λz=>by rw[this.mpr z] at q;cases q).symm
  rw[hd] at key
  exact key
noncomputable def LU (i j:Int)(xs ys:qE):Bool:=if i=j then mH xs ys else decide (i < j)
theorem lt_prT {l b a1 b1:Addr}{i j:Int}{t u:Tok}{xs ys:qE}{its MS:qv}{Q:qk}(hl:IsTup s.heap l #[.int i t,.ref a1])(hb:IsTup s.heap b #[.int j u,.ref b1])(h1:IsTup s.heap a1 its.toArray)(h2:IsTup s.heap b1 MS.toArray)(hx:Vals (xs.map V.str) its)(hy:Vals (ys.map V.str) MS)(hu:A.units+1 < cLine)
  (h:Q (.bool (LU i j xs ys)) s):wpAny (model prog w) A (richCompare .Lt (.ref l) (.ref b)) Q E s:=by
 obtain⟨⟨cls,dd,data,sl⟩,ho,hc,n,hd⟩:=id hl
 obtain⟨⟨cls2,QI,data2,Sl⟩,Pm,PH,n2',hd2⟩:=id hb
 simp only at hc hd PH hd2
 subst hc hd PH hd2
 have e:(if (i == j)=true then (if decide (xs=ys)=true then false else mH xs ys) else decide (i < j))=LU i j xs ys:=by
  unfold LU
  by_cases q:i=j
  ·rw[ba (by simpa using q),ba q]
   by_cases q2:xs=ys
   ·rw[ba (bS q2),q2,Ck]
   ·rw[ax (by simpa using q2)]
  ·rw[ax (by simpa using q),ax q]
 refine richCompare_meets_room (op:=.Lt) ⟨_,ho,rfl⟩ ⟨_,Pm,rfl⟩ oq og (nI _ _) (FZ l b (.int i t) (.ref a1) (.int j u) (.ref b1) n n2' dd QI sl Sl (i == j) (decide (xs=ys)) (decide (i < j)) (mH xs ys))
  ⟨ho,Pm,SeqAt.EqAt.int_int i t j u,λ_=>JR h1 h2 hx hy ?_,λ_ prog w E Q q=>OJ _ _ i t j u prog w E Q q,λ_ _ prog w E Q q=>Qf h1 h2 hx hy ?_ q,?_⟩ (Nat.lt_of_succ_lt hu)
 ·exact hu
 ·exact hu
 ·rw[e]
  exact(show Value.bool (LU i j xs ys)≠Value.notImplemented/\Q (.bool (LU i j xs ys)) s from ⟨(λx=>nomatch x),h⟩)
end
end Lake.HT
namespace Lake.L2
open PySem PySem.Spec PyProof.Rows
section
variable {X:Cx}
theorem Mg (hc:X.calm=true)(hu:X.A.units+2 < cLine):F6 X (.builtin "min") (λvs H Q=>∃a b a1 b1 i j xs ys,vs=[.ref a,.ref b]/\IP X.K H a [.int i,.ref a1]/\IP X.K H b [.int j,.ref b1]/\IP X.K H a1 (xs.map V.str)/\IP X.K H b1 (ys.map V.str)/\Q (if HT.LU j i ys xs=true then .ref b else .ref a) H):=by
 intro Fn s σ H vs us Q I r h
 obtain⟨a,b,a1,b1,i,j,xs,ys,rfl,h1,h2,h3,h4,q⟩:=h
 obtain⟨u,w',rfl,ru,PF⟩:=vals2 r
 cases ru
 cases PF
 obtain⟨it1,r1,p1,_⟩:=I.tuple h1
 obtain⟨it2,r2,p2,_⟩:=I.tuple h2
 obtain⟨it3,r3,p3,_⟩:=I.tuple h3
 obtain⟨it4,r4,p4,_⟩:=I.tuple h4
 obtain⟨x1,x2,rfl,⟨t1,rfl⟩,e2⟩:=vals2 r1
 cases e2
 obtain⟨y1,y2,rfl,⟨t2,rfl⟩,f2⟩:=vals2 r2
 cases f2
 have keep:∀{l:Addr}{its:re}{s':Shared},(∀c o,s.heap.get? c=some o->s'.heap.get? c=some o)->IsTup s.heap l its->IsTup s'.heap l its:=λk ⟨o,e,r⟩=>⟨o,k _ _ e,r⟩
 refine HT.min2v (k:=HT.LU j i ys xs) (I.ok.hd hc) (λs' Q E kp q=>HT.lt_prT (A:=X.A.in1) (keep kp p2) (keep kp p1) (keep kp p4) (keep kp p3) r4 r3 ?_ q) λh' tk k=>⟨_,H,I.kept k,?_,q⟩
 ·exact hu
 ·cases HT.LU j i ys xs with
  | true=>rfl
  | false=>rfl
end
end Lake.L2
namespace Lake.MR
open PySem L2 PyProof.Rows PySem.Spec
noncomputable def qu:PV->PV->Option PV
 | .int i,.int j=>some (.int (if j < i then j else i))
 | .tup [.int i,.tup xs],.tup [.int j,.tup ys]=>(HP xs).bind λzs=>(HP ys).bind λws=>some (if HT.LU j i ws zs=true then .tup [.int j,.tup ys] else .tup [.int i,.tup xs])
 | _,_=>none
@[simp] theorem Y4 (i j:Int):qu (.int i) (.int j)=some (.int (if j < i then j else i)):=id rfl
@[simp] theorem Mh (i j:Int)(xs ys:List PV):qu (.tup [.int i,.tup xs]) (.tup [.int j,.tup ys])=(HP xs).bind λzs=>(HP ys).bind λws=>some (if HT.LU j i ws zs=true then .tup [.int j,.tup ys] else .tup [.int i,.tup xs]):=id rfl
section
variable {X:Cx}{b:BX}{G:qr}{p pos:Pos}{m1 m2:Md}{e1 e2:Expr}{f1 f2:rh}
theorem Mi (hc:X.calm=true)(hu:X.A.units+2 < cLine):F6 X (.builtin "min") (λvs H Q=>(∃i j,vs=[.int i,.int j]/\Q (.int (if j < i then j else i)) H)\/∃a b a1 b1 i j xs ys,vs=[.ref a,.ref b]/\IP X.K H a [.int i,.ref a1]/\IP X.K H b [.int j,.ref b1]/\IP X.K H a1 (xs.map V.str)/\IP X.K H b1 (ys.map V.str)/\Q (if HT.LU j i ys xs=true then .ref b else .ref a) H):=
 λFn s σ H vs us Q I r h=>h.elim (KH hc Fn s σ H vs us Q I r) (Mg hc hu Fn s σ H vs us Q I r)
theorem Mj {C:MC}{A:Addr->Prop}{H:Hp}{v:V}{i:Int}{xs:List PV}{zs:qE}(r:FC C A H v (.tup [.int i,.tup xs]))(hz:HP xs=some zs):∃a a1,v=.ref a/\IP C.K H a [.int i,.ref a1]/\IP C.K H a1 (zs.map V.str)/\Rep C A H v (.tup [.int i,.tup xs]):=by
 obtain⟨a,vs,rfl,ha,ra⟩:=r.tup
 cases ra with
 | cons r1 ra=>
  cases ra with
  | cons r2 ra=>
   cases ra
   have q1:FC C A H _ (.int i):=.inl r1
   have q2:FC C A H _ (.tup xs):=.inl r2
   have e1:=q1.int
   obtain⟨a1,us,e2,h2,rx⟩:=q2.tup
   subst e1 e2
   refine⟨a,a1,rfl,ha.sq,?_,ha.rep (.cons r1 (.cons r2 .nil))⟩
   rw[← rx.HP hz]
   exact h2.sq
theorem A_ {k:Nat}(hr:F0 k X.A)(hm:X.mg "min" = none)(h1:SE X b G m1 e1 f1)(h2:SE X b G m2 e2 f2)(hc:autoParam (X.calm=true) r0_)(hK:autoParam (X.K=b.C.K) r0_)(hg:Gl X "min" := by rfl)(hbi:autoParam (bootBuiltins "min" = some (.builtin "min")) r2_)
  (he:autoParam (starEach [e1,e2] X.env=(false,eval e1 X.env)::starEach [e2] X.env) r0_) (PY:autoParam (starEach [e2] X.env=(false,eval e2 X.env)::starEach [] X.env) r0_) (IH:autoParam ((backTo pos (starEach [e2] X.env)).any (·.1)=false) r0_):
  SE X b G .val (.Call (.Name "min" p) [e1,e2] [] pos) (b2 qu f1 f2):=by
 have hu:X.A.units+2 < cLine:=jS (l7 (by decide:2<=64) _) hr.units
 refine PE.imp (yr (Mi hc hu) hg hm hbi (cF h1.bor (cF h2.bor eZ PY) he) (by decide) (by decide) he IH) ?_
 rintro σ H Q ⟨Ow,env,q,E,hf,kk⟩
 obtain⟨p1,hp1,hf⟩:=aD hf
 obtain⟨p2,NS,hf⟩:=aD hf
 refine⟨Ow,env,p1,E,hp1,λv H1 s r=>⟨Ow,env,p2,E.up s,NS,λv2 H2 s2 r2=>?_⟩⟩
 have r1:FC b.C (Bs b Ow) H1 v p1:=r
 have OA:FC b.C (Bs b Ow) H2 v2 p2:=r2
 have MQ:FC b.C (Bs b Ow) H2 v p1:=r1.ex (.of_same s2) s2
 rw[hK]
 unfold qu at hf
 split at hf
 ·cases hf
  exact .inl ⟨_,_,by rw[r1.int,OA.int],kk _ H2 (s.trans s2) (.int _)⟩
 ·obtain⟨zs,hz,hf⟩:=aD hf
  obtain⟨ws,hw,hf⟩:=aD hf
  cases hf
  obtain⟨a,a1,rfl,g1,g2,g3⟩:=Mj MQ hz
  obtain⟨c,c1,rfl,g4,g5,g6⟩:=Mj OA hw
  refine .inr ⟨a,c,a1,c1,_,_,zs,ws,rfl,g1,g4,g2,g5,kk _ H2 (s.trans s2) ?_⟩
  show Rep _ _ _ _ _
  split
  ·exact g6
  ·exact g3
 ·cases hf
end
end Lake.MR
namespace Lake.L2
open PySem PySem.Spec PyProof.Rows
theorem Dl:typeLookup (.type "list") "keys" = pure none:=by rw[jv,gi];kernel_rfl
section
variable {prog:Program}{w:World}{A:Around}{E:qk}{s:Shared}{a:Addr}
theorem Ti {xs:re}{k:Nat}{Q:Option Value->Shared->Prop}(hx:s.heap.get? a=some { cls:=.type "list",data:=.seq xs k })(hA:A.handled=none)
  (hq:∀h' tk,(∀b o,s.heap.get? b=some o->h'.get? b=some o)->Q none { s with heap:=h',toks:=tk }):wpAny (model prog w) A (getAttr? (.ref a) "keys") Q E s:=by
 obtain⟨hp,g,d,tk,os⟩:=s
 have hT:∀tk',(⟨hp,g,d,tk',os⟩:Shared).TypeIs (.ref a) "list" := λ_=>⟨_,hx,rfl⟩
 have f1:=sub_AttributeError
 have f3:=ja.lookup
 have f4:=ja.bind (.ref a)
 have f5:=am_list_getattr_none
 unfold getAttr? getAttrBy? getAttrBy
 repeat (any_goals (first | assumption | exact hT _ | ((with_reducible show wpAny _ _ (call (Value.builtin "list.__getattribute__") _ _) _ _ _);refine iO ja (hT _) am_entry_list_getattribute (F.args_list_getattribute_2 _ _) (meets_getattribute_miss_list a xs k #[] "keys" _ Dl (by decide)) ⟨hx,hA,λh' tk' e Yf=>?_⟩) | wp_step))
 obtain⟨t',u',he⟩:=Yf.there
 show wpAny _ _ (getattributeRaised _ _ _ _ _ _ _) _ _ _
 unfold getattributeRaised
 repeat (any_goals (first | assumption | wp_step))
 exact hq _ _ Yf.keeps
theorem Cm:entryFor table "dict.update.loop" = some Builtin.«dict.update.loop»:=entryFor_of_tree (by kernel_rfl)
abbrev Se (prog:Program)(w:World):=tupleKind (cR prog w)
theorem xG {h h':Heap}{ks:List Key}{b:Addr}(e:(Se prog w).is h ks b)(k:∀o,h.get? b=some o->h'.get? b=some o):(Se prog w).is h' ks b:=by
 obtain⟨o,its,n,h1,r⟩:=e
 exact⟨o,its,n,k o h1,r⟩
theorem Ga {h:Heap}{ks:List Key}{b:Addr}(e:(Se prog w).is h ks b):∃o,h.get? b=some o/\o.cls=.type "tuple" := by
 obtain⟨o,its,n,h1,h2,r⟩:=e
 exact⟨o,h1,h2⟩
theorem uQ {h h':Heap}{d:Addr}{xs:List (List Key×Addr×Value)}(m:GO (Se prog w) h d xs)(k:∀b o,h.get? b=some o->(b=d\/o.cls=.type "tuple")->h'.get? b=some o):GO (Se prog w) h' d xs:=by
 obtain⟨o,es,o1,o2,o3,o4,o5,o6⟩:=m
 refine⟨o,es,k d o o1 (.inl rfl),o2,o3,o4,λx hx=>?_,o6⟩
 obtain⟨ob,h1,h2⟩:=Ga (o5 x hx)
 exact xG (o5 x hx) λo' e=>by rw[h1] at e;cases e;exact k _ _ h1 (.inr h2)
def uR (prog:Program)(w:World)(h:Heap)(p:List Key×Addr×Value)(u:Value):Prop:=∃t,u=.ref t/\IsTup h t #[.ref p.2.1,p.2.2]/\(Se prog w).is h p.1 p.2.1
theorem Rm {R:Result->Shared->Prop}{dd it l:Addr}{items:re}(hA:A.handled=none)(hu:(A.in1).units < cLine)(nd:it≠dd)(nl:l≠dd)(nil':l≠it):∀(L:List (List Key×Addr×Value)) (rest:qv) (i:Nat) (kvs:List (List Key×Addr×Value)) (s:Shared),
  items.toList.drop i=rest->Paired (uR prog w s.heap) L rest->s.heap.IsListIter it l i->s.heap.IsList l items->GO (Se prog w) s.heap dd kvs->kvs.length+L.length<=sizeLine->
  (∀h' tk,GO (Se prog w) h' dd (L.foldl (λacc kv=>storedH acc kv.1 kv.2.1 kv.2.2) kvs)->(∀b o,b≠dd->b≠it->s.heap.get? b=some o->h'.get? b=some o)->R (.ok (.ret .none)) { s with heap:=h',toks:=tk })->
  codeAny (model prog w) A (.builtin "dict.update.loop" ⟨[.ref dd,.ref it,rawInt i,.none],[]⟩) R s
 | [],rest,i,kvs,s,hr,hp,hit,hl,hd,hz,hR=>by
  cases hp
  refine gy Cm ?_
  unfold Builtin.«dict.update.loop»
  have hx:items[i]?=none:=by
   rw[Array.getElem?_eq_none_iff]
   have:=List.drop_eq_nil_iff.mp hr
   simpa using this
  show wpAny _ _ (pyNext (.ref it) >>= _) _ _ _
  refine ab (wpAny_pyNext_list_end (A:=A.under _) hA hit hl hx λh1 x1=>?_)
  show wpAny _ _ (Builtin.Dict.addKeywords dd [] >>= _) _ _ _
  refine ab (ag (ag ?_))
  obtain⟨oi,hoi,Tb,_⟩:=hit
  refine hR h1 s.toks (uQ hd λb o e q=>x1 b o (λz=>?_) e) λb o' _ n2 e=>x1 b o' n2 e
  rcases q with q | q
  ·exact nd (z.symm.trans q)
  ·rw[z,hoi] at e;cases e;rw[Tb] at q;exact absurd (pb q) (by decide)
 | p::L,rest,i,kvs,s,hr,hp,hit,hl,hd,hz,hR=>by
  cases hp with
  | @cons _ u _ us hpu hp=>
   obtain⟨t,rfl,Ts,hk⟩:=hpu
   have hx:items[i]?=some (.ref t):=by
    have e:items.toList[i]?=some (.ref t):=by rw[← List.head?_drop,hr];rfl
    rw[← e];simp
   obtain⟨oi,hoi,Tb,hdi⟩:=id hit
   refine gy Cm ?_
   unfold Builtin.«dict.update.loop»
   show wpAny _ _ (pyNext (.ref it) >>= _) _ _ _
   refine ab (wpAny_pyNext_list_item hit hl hx λh1 hit1 sb1=>?_)
   have OZ:∀{b:Addr}{o:Obj},s.heap.get? b=some o->o.cls=.type "tuple" -> b≠it:=λ{b o} e q z=>by rw[z,hoi] at e;cases e;rw[Tb] at q;exact absurd (pb q) (by decide)
   have ne_dd:∀{b:Addr}{o:Obj},s.heap.get? b=some o->o.cls=.type "tuple" -> b≠dd:=λ{b o} e q z=>by
    obtain⟨od,es,hod,hex,_⟩:=hd
    rw[z,hod] at e;cases e;rw[hex.1] at q;exact absurd (pb q) (by decide)
   obtain⟨ot,hot,hct,nt,hdt⟩:=id Ts
   have hot1:h1.get? t=some ot:=(sb1.2 t (OZ hot hct)).trans hot
   have hT:({ s with heap:=h1 }:Shared).TypeIs (.ref t) "tuple" := ⟨_,hot1,hct⟩
   show wpAny _ _ (holding [.ref t] _ >>= _) _ _ _
   refine ab (cy ?_)
   refine ab (kK ?_)
   unfold Builtin.Dict.pairItems
   refine ab (oa hT ?_)
   rw[ba (by decide)]
   refine ab (eI hot1 hdt (ag ?_))
   show wpAny _ _ (holding [.ref p.2.1,p.2.2] (dictSet dd (.ref p.2.1) p.2.2)) _ _ _
   have hd1:GO (Se prog w) h1 dd kvs:=uQ hd λb o e q=>(sb1.2 b (q.elim (λz=>z▸nd.symm) λz=>OZ e z)).trans e
   obtain⟨ok,FH,hck⟩:=Ga hk
   have hk1:(Se prog w).is h1 p.1 p.2.1:=xG hk λo e=>(sb1.2 _ (OZ FH hck)).trans e
   have hzl:kvs.length<=sizeLine:=by simp only[bg] at hz;omega
   refine cy (yp (kd:=Se prog w) ?_ hk1 hd1 hzl λh2 hd2 sb2=>?_)
   ·exact hu
   refine ag ⟨Code.quiet_builtin _ (by decide +kernel),?_⟩
   have keep:∀b o,b≠dd->b≠it->s.heap.get? b=some o->h2.get? b=some o:=λb o n1 n2 e=>(sb2.2 b n1).trans ((sb1.2 b n2).trans e)
   have hls:(storedH kvs p.1 p.2.1 p.2.2).length<=kvs.length+1:=by
    unfold storedH
    split <;> simp
   refine Rm (items:=items) hA hu nd nl nil' L us (i+1) (storedH kvs p.1 p.2.1 p.2.2) _ ?_ ?_ ?_ ?_ hd2 ?_ λh3 tk hd3 k3=>?_
   ·rw[← List.drop_drop,hr];rfl
   ·have go:∀{L:List (List Key×Addr×Value)}{us:qv},Paired (uR prog w s.heap) L us->Paired (uR prog w h2) L us:=by
     intro L us hp
     induction hp with
     | nil=>exact .nil
     | cons a _ ih=>
      obtain⟨t1,e1,⟨o1,q1,q2,q4⟩,q3⟩:=a
      obtain⟨o2,g1,g2⟩:=Ga q3
      exact .cons ⟨t1,e1,⟨o1,keep t1 o1 (ne_dd q1 q2) (OZ q1 q2) q1,q2,q4⟩,xG q3 λo e=>keep _ o (ne_dd g1 g2) (OZ g1 g2) e⟩ ih
    exact go hp
   ·obtain⟨oi,hoi,Tb,hdi⟩:=hit1
    exact⟨oi,(sb2.2 it nd).trans hoi,Tb,hdi⟩
   ·obtain⟨ol,hol,RF,nl',hdl⟩:=hl
    exact⟨ol,keep l ol nl nil' hol,RF,nl',hdl⟩
   ·simp only[bg] at hz;omega
   ·exact hR h3 tk hd3 λb o n1 n2 e=>k3 b o n1 n2 (keep b o n1 n2 e)
theorem Ml (h:Heap):GO (Se prog w) (h.push { cls:=.type "dict",data:=.dict #[] }) h.objs.size []:=⟨_,#[],ap _ rfl,⟨rfl,rfl,rfl⟩,rfl,rfl,(λx hx=>absurd hx bi),List.nodup_nil⟩
theorem JS {l:Addr}{its:qv}{n:Nat}{L:List (List Key×Addr×Value)}{Q:qk}(hA:A.handled=none)(hu:A.units+2 < cLine)(hl:s.heap.get? l=some { cls:=.type "list",data:=.seq its.toArray n })(hp:Paired (uR prog w s.heap) L its)(hz:L.length<=sizeLine)
  (hq:∀h' tk,GO (Se prog w) h' s.heap.objs.size (L.foldl (λacc kv=>storedH acc kv.1 kv.2.1 kv.2.2) [])->(∀b o,s.heap.get? b=some o->h'.get? b=some o)->Q (.ref s.heap.objs.size) { s with heap:=h',toks:=tk }):
  wpAny (model prog w) A (call (.type "dict") [.ref l]) Q E s:=by
 refine oQ (Q₁:=λobj s₁=>obj=.ref s.heap.objs.size/\s₁={ s with heap:=s.heap.push { cls:=.type "dict",data:=.dict #[] } }) F.kt_called_dict (F.kt_typeCall_dict_1 _) F.entry_dict_init (kt_code_dict_new _ ⟨rfl,rfl⟩) ?_
 rintro obj s₁ ⟨rfl,rfl⟩
 have SR:=Ml (prog:=prog) (w:=w) s.heap
 have ty:({ s with heap:=s.heap.push { cls:=.type "dict",data:=.dict #[] } }:Shared).TypeIs (.ref s.heap.objs.size) "dict" := SR.of.typeIs
 refine⟨ty,F.args_dict_init_2 _ _,?_⟩
 have OC:(s.heap.push { cls:=.type "dict",data:=.dict #[] }).get? l=some { cls:=.type "list",data:=.seq its.toArray n }:=af _ hl
 unfold Builtin.«dict.__init__»
 refine ab ?_
 unfold Builtin.Dict.selfAndRest
 refine ab (iE ty ?_)
 show wpAny _ _ (pure (s.heap.objs.size,[Value.ref l])) _ _ _
 refine ag ?_
 show wpAny _ _ (Builtin.Dict.updateFrom "dict.__init__" s.heap.objs.size (.ref l) [] .none) _ _ _
 unfold Builtin.Dict.updateFrom
 refine ab (oa (T := "list") ⟨_,OC,rfl⟩ ?_)
 rw[ba (by decide)]
 refine ab (Ti OC hA λh2 tk2 k2=>?_)
 rw[ba (show (none:Option Value).isNone=true from rfl)]
 refine ab (nS ?_)
 have Of:h2.IsList l its.toArray:=⟨_,k2 _ _ OC,rfl,n,rfl⟩
 refine ab (fw Of ?_)
 refine ag ⟨Code.quiet_builtin _ (by decide +kernel),?_⟩
 have lt1:s.heap.objs.size < h2.objs.size:=by
  obtain⟨o,es,ho,_⟩:=SR
  exact ay (k2 _ _ ho)
 have k3:∀b o,h2.get? b=some o->(h2.push { cls:=.type "list_iterator",data:=.fields #[.ref l,.int 0 0] }).get? b=some o:=λb o e=>af _ e
 have k0:∀b o,s.heap.get? b=some o->(h2.push { cls:=.type "list_iterator",data:=.fields #[.ref l,.int 0 0] }).get? b=some o:=λb o e=>k3 b o (k2 b o (af _ e))
 have old:∀b o,s.heap.get? b=some o->b≠s.heap.objs.size/\b≠h2.objs.size:=λb o e=>by
  have:=ay e
  exact⟨bt this,bt (Nat.lt_trans this lt1)⟩
 refine Rm (A:=A.in1) (items:=its.toArray) (show A.in1.handled=none from hA) hu (iS lt1) (old l _ hl).1 (old l _ hl).2 L its 0 [] _ (by rfl) ?_ ?_ ?_ ?_ (by simpa using hz) λh4 tk hd4 k4=>?_
 ·have go:∀{L:List (List Key×Addr×Value)}{us:qv},Paired (uR prog w s.heap) L us->Paired (uR prog w (h2.push { cls:=.type "list_iterator",data:=.fields #[.ref l,.int 0 0] })) L us:=by
   intro L us hp
   induction hp with
   | nil=>exact .nil
   | cons a _ ih=>
    obtain⟨t1,e1,⟨o1,q1,q2⟩,q3⟩:=a
    exact .cons ⟨t1,e1,⟨o1,k0 t1 o1 q1,q2⟩,xG q3 λo e=>k0 _ o e⟩ ih
  exact go hp
 ·exact⟨_,ap _ rfl,rfl,rfl⟩
 ·obtain⟨ol,hol,r⟩:=Of
  exact⟨ol,k3 _ _ hol,r⟩
 ·exact uQ SR λb o e _=>k3 b o (k2 b o e)
 ·exact⟨rfl,hq h4 tk hd4 λb o e=>k4 b o (old b o e).1 (old b o e).2 (k0 b o e)⟩
end
inductive LW (K:W.Frag) (H:Hp):List V->List (List Key×V)->Prop where
 | nil:LW K H [] []
 | cons {t b:Addr}{ks:List Key}{v:V}{ts:List V}{kvs:List (List Key×V)}(h:H t=some (.tup [.ref b,v])\/RI K t [.ref b,v]) (k:IJ K H b ks) (r:LW K H ts kvs):LW K H (.ref t::ts) ((ks,v)::kvs)
noncomputable def lq (kvs more:List (List Key×V)):List (List Key×V):=more.foldl (λacc kv=>putK acc kv.1 kv.2) kvs
theorem vh:∀(more kvs:List (List Key×V)),(lq kvs more).length<=kvs.length+more.length
 | [],kvs=>aw _
 | p::more,kvs=>by
  have h:=vh more (putK kvs p.1 p.2)
  have h2:(putK kvs p.1 p.2).length<=kvs.length+1:=by unfold putK;split <;> simp
  show (lq (putK kvs p.1 p.2) more).length<=_
  simp only[bg]
  omega
theorem Cp {P:Program}{w:World}{K:W.Frag}{H:Hp}{h:Heap}(Po:K.In h)(ok:KL P w K H h):∀{ts:List V}{kvs:List (List Key×V)}{its:qv},LW K H ts kvs->Vals ts its->∃rs:List (List Key×Addr×Value),KT K H kvs rs/\Paired (uR P w h) rs its
 | _,_,_,.nil,r=>by cases r;exact⟨[],.nil,.nil⟩
 | _,_,_,.cons (t:=t) (b:=b) (ks:=ks) (v:=v) e ck q,r=>by
  cases r with
  | cons r1 r2=>
   cases r1
   obtain⟨rs,h1,h2⟩:=Cp Po ok q r2
   obtain⟨us,hv,ht⟩:∃us,Vals [.ref b,v] us/\IsTup h t us.toArray:=by
    rcases e with e | ⟨o,its,n,e1,e2,e3,_,r⟩
    ·obtain⟨_,us,hv,ht⟩:=(show FK P w K H h t (.tup [.ref b,v]) from ok t _ e)
     exact⟨us,hv,ht⟩
    ·exact⟨its.toList,r,o,Po t o e1,e2,n,by simpa using e3⟩
   obtain⟨ku,vu,rfl,rk,rv⟩:=vals2 hv
   cases rk
   exact⟨(ks,b,vu)::rs,.cons ⟨rfl,ck,rv⟩ h1,.cons ⟨t,rfl,ht,jX Po ok ck⟩ h2⟩
theorem KT.merge {K:W.Frag}{H:Hp}:∀{more:List (List Key×V)}{rs:List (List Key×Addr×Value)}{kvs:List (List Key×V)}{xs:List (List Key×Addr×Value)},KT K H more rs->KT K H kvs xs->KT K H (lq kvs more) (rs.foldl (λacc kv=>storedH acc kv.1 kv.2.1 kv.2.2) xs):=by
 intro more rs kvs xs r
 unfold KT at r
 induction r generalizing kvs xs with
 | nil=>intro q;exact q
 | @cons p q ps qs h t ih=>
  intro r0
  obtain⟨e,ck,rv⟩:=h
  refine ih ?_
  obtain⟨q1,q2,q3⟩:=q
  cases e
  exact KT.put r0 p.1 ck rv
theorem Dm {X:Cx}(hc:X.calm=true)(hu:X.A.units+2 < cLine):F6 X (.type "dict") (λxs H Q=>∃p ts kvs,xs=[.ref p]/\H p=some (.lst ts)/\LW X.K H ts kvs/\kvs.length<=1000000/\∀l,H l=none->Q (.ref l) (upd H l (.dT (lq [] kvs)))):=by
 intro Fn s σ H xs us Q I r h
 obtain⟨p,ts,kvs,rfl,hp,II,hz,q⟩:=h
 obtain⟨u,rfl,rx⟩:=vals1 r
 cases rx
 obtain⟨_,its,n,hv,ho⟩:=(show FK X.prog X.w X.K H s.heap p (.lst ts) from I.FH p _ hp)
 obtain⟨rs,h1,h2⟩:=Cp I.HU I.FH II hv
 have hl:rs.length<=sizeLine:=by rw[← ff h1];exact kx (oF hz)
 refine JS (I.ok.hd hc) hu ho h2 hl λh' tk hd hk=>?_
 have low:(s.heap.objs.size == sysModules)=false:=by
  have:=modules_low I.nolimit
  rw[dL]
  exact iS this
 have kt:KT X.K H (lq [] kvs) _:=KT.merge h1 .nil
 have lm:=vh kvs []
 have hn:=I.FH.fresh (aw s.heap.objs.size)
 have kt':=kt.keeps (H':=upd H s.heap.objs.size (.dT (lq [] kvs))) λb ys e=>by rw[aO (a_ e hn)];exact e
 obtain⟨o,es,o1,o2,o3,o4,o5,o6⟩:=hd
 refine⟨.ref s.heap.objs.size,_,I.laid (t':=tk) hk (aw _) (show FK X.prog X.w X.K _ h' _ (.dT (lq [] kvs)) from ⟨?_,low,_,kt',o,es,_,o1,o2,o3,o4,o6,rfl⟩),rfl,q _ hn⟩
 have:(1000000:Nat)<=sizeLine:=by decide
 simp only[eM] at lm
 omega
end Lake.L2
namespace Lake.MR
open PySem L2 PyProof.Rows PySem.Spec
noncomputable def tK:List PV->Option (List (List Key×PV))
 | []=>some []
 | .tup [.tup k,v]::r=>(FO k).bind λk=>(tK r).bind λl=>some ((k,v)::l)
 | _::_=>none
@[simp] theorem ZP:tK []=some []:=id rfl
@[simp] theorem Mm (k:List PV)(v:PV)(r:List PV):tK (.tup [.tup k,v]::r)=((FO k).bind λk=>(tK r).bind λl=>some ((k,v)::l)):=id rfl
noncomputable def qZ (l acc:List (List Key×PV)):List (List Key×PV):=l.foldl (λacc kv=>jq acc kv.1 kv.2) acc
noncomputable def Gb:PV->Option PV
 | .lst xs=>(tK xs).bind λl=>if l.length<=1000000 then some (.dT (qZ l [])) else none
 | _=>none
@[simp] theorem Tj (xs:List PV):Gb (.lst xs)=((tK xs).bind λl=>if l.length<=1000000 then some (.dT (qZ l [])) else none):=id rfl
theorem Cq {C:MC}{A:Addr->Prop}{H:Hp}:∀{vs:List V}{xs:List PV}{l:List (List Key×PV)},Fu C A H vs xs->tK xs=some l->∃kvs,LW C.K H vs kvs/\FY C A H kvs l
 | _,_,_,.nil,h=>by cases h;exact⟨[],.nil,.nil⟩
 | _,x::xs,l,.cons r1 r2,h=>by
  unfold tK at h
  split at h
  ·rename_i e;cases e
  ·rename_i k v r e
   obtain⟨e1,e2⟩:=List.cons.inj e
   subst e1 e2
   obtain⟨k',hk,h⟩:=aD h
   obtain⟨l',MH,h⟩:=aD h
   cases h
   obtain⟨kvs,h1,h2⟩:=Cq r2 MH
   have q0:FC C A H _ (.tup [.tup k,v]):=.inl r1
   obtain⟨a,us,rfl,ha,ra⟩:=q0.tup
   cases ra with
   | cons rk rv=>
    cases rv with
    | cons rv rn=>
     cases rn
     have q1:FC C A H _ (.tup k):=.inl rk
     obtain⟨b,ks,rfl,hb,rb⟩:=q1.tup
     exact⟨_,.cons ha (hb.key (rb.FO hk)) h1,.cons rv h2⟩
  ·cases h
theorem zJ {C:MC}{A:Addr->Prop}{H:Hp}:∀{kvs:List (List Key×V)}{l:List (List Key×PV)}{a:List (List Key×V)}{b:List (List Key×PV)},FY C A H kvs l->FY C A H a b->FY C A H (lq a kvs) (qZ l b)
 | _,_,_,_,.nil,r=>r
 | (k,v)::kvs,(_,p)::l,a,b,.cons h t,r=>by
  show FY C A H (lq (putK a k v) kvs) (qZ l (jq b k p))
  exact zJ t (FY.put h r)
section
variable {X:Cx}{b:BX}{G:qr}{m1:Md}{e e1 e2:Expr}{f f1 f2:rh}{p pos:Pos}
theorem Qg {k:Nat}(hr:F0 k X.A)(hm:X.mg "dict" = none)(h:SE X b G m1 e f)(OB:autoParam (X.calm=true) r0_)(hK:autoParam (X.K=b.C.K) r0_)(hg:Gl X "dict" := by rfl)(hb:autoParam (bootBuiltins "dict" = some (.type "dict")) r2_)(he:autoParam (starEach [e] X.env=(false,eval e X.env)::starEach [] X.env) r0_):SE X b G .own (.Call (.Name "dict" p) [e] [] pos) (b1 Gb f):=by
 have hu:X.A.units+2 < cLine:=jS (l7 (by decide:2<=64) _) hr.units
 refine xf (Dm OB hu) (λOw H v1 p1 p Q hn r1 e k=>?_) hm hb h hg (by decide) (by decide) he
 cases p1 with
 | lst xs=>
  unfold Gb at e
  obtain⟨l,hl,e⟩:=aD e
  split at e
  ·rename_i hz
   cases e
   obtain⟨a,vs,rfl,ha,ra⟩:=r1.lst
   obtain⟨kvs,h1,h2⟩:=Cq ra hl
   rw[hK]
   refine⟨a,vs,kvs,rfl,ha,h1,by rw[h2.length];exact hz,λd hd=>k _ _ (bc hd _) ⟨d,rfl,hd,lq [] kvs,bu,(zJ h2 .nil).ex λc o e=>?_⟩⟩
   have hc:c≠d:=a_ e hd
   exact⟨λq=>⟨by rw[aO hc];exact e,q,hc⟩,λ_=>by rw[aO hc];exact e⟩
  ·cases e
 | _=>cases e
end
mutual
noncomputable def jt:PV->Bool
 | .FE=>true
 | .bl _=>true
 | .int _=>true
 | .str _=>true
 | .tup xs=>zK xs
 | _=>false
noncomputable def zK:List PV->Bool
 | []=>true
 | x::xs=>jt x&&zK xs
end
mutual
theorem Rep.imm {C:MC}{A A':Addr->Prop}{H H':Hp}(k:∀a o,H a=some o->zj o=false->H' a=some o):∀{v:V}{p:PV},Rep C A H v p->jt p=true->Rep C A' H' v p
 | _,_,.FE,_=>.FE
 | _,_,.bl b,_=>.bl b
 | _,_,.int i,_=>.int i
 | _,_,.str x,_=>.str x
 | _,_,.tup h r,q=>.tup (k _ _ h rfl) (Fu.imm k r (by simpa [jt] using q))
 | _,_,.MB h r,q=>.MB h (Fu.imm k r (by simpa [jt] using q))
 | _,_,.lst _ _ _,q=>by simp[jt] at q
 | _,_,.Nw _ _,q=>by simp[jt] at q
 | _,_,.lstK _ _,q=>by simp[jt] at q
 | _,_,.tupK _ _,q=>by simp[jt] at q
 | _,_,.dK _ _ _,q=>by simp[jt] at q
 | _,_,.dT _ _ _,q=>by simp[jt] at q
 | _,_,.obj _ _ _,q=>by simp[jt] at q
theorem Fu.imm {C:MC}{A A':Addr->Prop}{H H':Hp}(k:∀a o,H a=some o->zj o=false->H' a=some o):∀{v:List V}{p:List PV},Fu C A H v p->zK p=true->Fu C A' H' v p
 | _,_,.nil,_=>.nil
 | _,_,.cons h t,q=>by
  simp only[zK,cb] at q
  exact .cons (Rep.imm k h q.1) (Fu.imm k t q.2)
end
noncomputable def sO:PV->PV->Option PV
 | .tup ys,v=>if jt v=true then (FO ys).map λk=>.dT [(k,v)] else none
 | .ktp ys,v=>if jt v=true then (FO ys).map λk=>.dT [(k,v)] else none
 | _,_=>none
@[simp] theorem Y5 (ys:List PV)(v:PV):sO (.tup ys) v=if jt v=true then (FO ys).map λk=>.dT [(k,v)] else none:=id rfl
@[simp] theorem Y6 (ys:List PV)(v:PV):sO (.ktp ys) v=if jt v=true then (FO ys).map λk=>.dT [(k,v)] else none:=id rfl
section
variable {X:Cx}{b:BX}{G:qr}{e1 e2:Expr}{f1 f2:rh}{pos:Pos}
theorem Mp {j:Nat}(hr:F0 j X.A)(h1:SE X b G .val e1 f1)(h2:SE X b G .val e2 f2)(hK:autoParam (X.K=b.C.K) r0_):SE X b G .own (.Dict [some e1] [e2] pos) (b2 sO f1 f2):=by
 refine PE.imp (S_ (rZ hr) h1 h2) ?_
 rintro σ H Q ⟨Ow,env,q,E,hf,k⟩ l hl
 obtain⟨x,hx,z1⟩:=aD hf
 clear hf
 obtain⟨y,hy,hf⟩:=aD z1
 clear z1
 have s0:=bc hl (.dT [])
 have fin:∀(H1 H2:Hp) (v u:V) (c:Addr) (ks:List Key),FD (upd H l (.dT [])) H1->FD H1 H2->Rep b.C (Bs b Ow) H2 u y->jt y=true->some (PV.dT [(ks,y)])=some q->v=.ref c->IJ b.C.K H2 c ks->∃b' ks',v=.ref b'/\IJ X.K H2 b' ks'/\Q (.ref l) (upd H2 l (.dT [(ks',u)])):=λH1 H2 v u c ks s1 s2 r2 hi e ev ck=>by
  cases e
  refine⟨c,ks,ev,by rw[hK];exact ck,k _ _ (λa o e=>?_) ⟨l,rfl,hl,_,bu,.cons (Rep.imm (λa o e m=>?_) r2 hi) .nil⟩⟩
  ·rw[aO (a_ e hl)]
   exact s2 _ _ (s1 _ _ (s0 _ _ e))
  ·by_cases ha:a=l
   ·subst ha
    have:=s2 _ _ (s1 _ _ (bu (H:=H) (a:=a) (o:=.dT [])))
    rw[e] at this
    cases this
    cases m
   ·rw[aO ha];exact e
 unfold sO at hf
 split at hf
 ·rename_i ys
  split at hf
  ·rename_i hfl
   obtain⟨ks,hk,e⟩:=df.mp hf
   refine⟨Ow,env,_,E.up s0,hx,λv H1 s1 r1=>⟨Ow,env,_,(E.up s0).up s1,hy,λu H2 s2 r2=>⟨s2 _ _ (s1 _ _ bu),?_⟩⟩⟩
   have MQ:FC b.C (Bs b Ow) H1 v (.tup ys):=.inl r1
   obtain⟨c,vs,rfl,hc,rc⟩:=MQ.tup
   exact fin H1 H2 _ u c ks s1 s2 r2 hfl (c5 some e) rfl ((hc.up s2).key (rc.FO hk))
  ·cases hf
 ·rename_i ys
  split at hf
  ·rename_i hfl
   obtain⟨ks,hk,e⟩:=df.mp hf
   refine⟨Ow,env,_,E.up s0,hx,λv H1 s1 r1=>⟨Ow,env,_,(E.up s0).up s1,hy,λu H2 s2 r2=>⟨s2 _ _ (s1 _ _ bu),?_⟩⟩⟩
   have MQ:Rep b.C (Bs b Ow) H1 v (.ktp ys):=r1
   cases MQ with
   | @tupK c vs _ w1 w3=>
    have hc:RI b.C.K c vs:=by
     rcases w1 with (z | ⟨o,z⟩) | z
     ·cases z
     ·cases z
     ·exact z
    exact fin H1 H2 _ u c ks s1 s2 r2 hfl (c5 some e) rfl (.inr ⟨vs,hc,w3.FO hk⟩)
  ·cases hf
 ·cases hf
end
end Lake.MR
namespace Lake.L2
open PySem PySem.Spec PyProof.Rows
variable {Q:Option Value->Shared->Prop}
section
variable {prog:Program}{w:World}{κ:Type}[DecidableEq κ]{kd:HeapKind prog w κ}{A:Around}{E:qk}{s:Shared}{d a it vw:Addr}{xs:List (κ×Addr×Value)}{k:κ}{v ok ov:Value}
theorem Gd (kd:HeapKind prog w κ)(d:Addr)(hd:(d == sysModules)=false):
  MeetsIn prog w (Builtin.«dict.items» ⟨[.ref d],[]⟩) (λ_ R s=>(∃xs,GO kd s.heap d xs) /\
   R (.ok (.ret (.ref s.heap.objs.size))) { s with heap:=s.heap.push { cls:=.type "dict_items",data:=.fields #[.ref d] } }):=
 .of_wp<|by
  rintro A R s ⟨⟨xs,m⟩,h⟩
  unfold Builtin.«dict.items»
  refine ab ?_
  unfold Builtin.Dict.noArgs
  refine ab (iE m.of.typeIs ?_)
  show wpAny _ _ (pure d) _ _ s
  refine ag ?_
  show wpAny _ _ (Builtin.Dict.showsAll d >>= _) _ _ s
  unfold Builtin.Dict.showsAll
  rw[ax (by rw[hd];decide)]
  exact ab (ag (ab (cK (ag ⟨_,rfl,h⟩))))
theorem W3 {Q:qk}(hv:s.heap.IsItemsView vw d)(m:GO kd s.heap d xs)
  (q:∀h',h'=s.heap.push { cls:=.type "dict_itemiterator",data:=.fields #[.none,.bool false,.ref d,.int 0 0,.int xs.length 0,.int xs.length 0,.none,.none] }->Q (.ref s.heap.objs.size) { s with heap:=h' }):wpAny (model prog w) A (pyIter (.ref vw)) Q E s:=by
 obtain⟨u,u1,u2,u3⟩:=id hv
 obtain⟨o,es,o1,o2,o3,o4,o5,o6⟩:=id m
 have sz:=gs o4
 refine ko hv.typeIs F.slot_dict_items_iter (cE F.slot_dict_items_iter hv.typeIs F.entry_dict_items_iter ?_ (F.args_dict_items_iter_1 _))
 unfold Builtin.«dict_items.__iter__»
 refine ab (ag (ab ?_))
 unfold Builtin.Dict_items.dictOf
 refine ab (eB u1 u3 (x:=.ref d) rfl (ag (ab ?_)))
 unfold Builtin.Dict_items.newIterator
 refine ab (gI o1 o3 (ab (ix o1 o3 ?_)))
 have own:Builtin.Dict_items.ownsTuple "dict_itemiterator" = true:=by decide
 simp only[own,fi]
 refine cK (ag ⟨_,rfl, "dict_itemiterator",_,⟨_,ap _ rfl,rfl⟩,de.lookup,?_⟩)
  (by simp only[sizeOk,Builtin.Dict_items.ownedTupleFields,ar,a9,bg,eM,oB];omega)
 simpa [rawInt,sz,Builtin.Dict_items.ownedTupleFields] using q _ rfl
theorem W4 {i:Nat}{b:Addr}(hi:IsItemIter s.heap it d i xs.length xs.length ok ov)(m:GO kd s.heap d xs)(hx:xs[i]?=some (k,b,v))
  (q:∀h',IsItemIterOut h' it d (i+1) xs.length xs.length (.ref b) v s.heap.objs.size->h'.get? s.heap.objs.size=some { cls:=.type "tuple",data:=.seq #[.ref b,v] }->h'.objs.size=s.heap.objs.size+1->
   (∀c o,c≠it->s.heap.get? c=some o->h'.get? c=some o)->Q (some (.ref s.heap.objs.size)) { s with heap:=h' }):wpAny (model prog w) A (pyNext (.ref it)) Q E s:=by
 obtain⟨hp,g,dr,tk,os⟩:=s
 obtain⟨o,es,o1,o2,o3,o4,o5,o6⟩:=id m
 have ty:Shared.TypeIs ⟨hp,g,dr,tk,os⟩ (.ref it) "dict_itemiterator" := ⟨_,hi,rfl⟩
 have sz:=gs o4
 unfold pyNext
 refine ab (i7 (cx (name:=Str.ofString "__next__") ty de (cE de ty lh ?_ (kN _))))
 refine ab (ag (ab (ab ?_)))
 first | refine ab (fe ty (ag ?_)) | refine ab (gp ty (ag ?_))
 refine ab (mh hi rfl ?_)
 have own:Builtin.Dict_items.ownsTuple "dict_itemiterator" = true:=by decide
 simp only[own,fi]
 show wpAny _ _ (if (Value.ref d == Value.none)=true then _ else _) _ _ _
 rw[ax (by intro z;cases z)]
 refine ab (ag (ab (gI o1 o3 ?_)))
 rw[ax (by rw[sz];simp)]
 refine ab (ag (ab (ix o1 o3 ?_)))
 rw[ax (by simp)]
 refine ag ?_
 have lt:i < es.size:=by rw[sz];exact(aS.mp hx).1
 have ee:es[i]=entryOfKey kd (k,b,v):=by
  have z:=entry_at o4 i
  rw[hx,b9 lt] at z
  exact bo z
 have ek:es[i].key=.ref b:=by rw[ee];rfl
 have ev:es[i].val=v:=by rw[ee];rfl
 simp only[show ¬ ((i:Int) < 0) by omega,fm,ft,b9 lt]
 refine ab ?_
 first | refine ab (fe ty (ag ?_)) | refine ab (gp ty (ag ?_))
 refine ab (kL ty ?_)
 show wpAny _ _ (setField (.ref it) 3 (rawInt ((i:Int)+1)) >>= _) _ _ ⟨hp,g,dr,tk,os⟩
 refine ab (gd hi (by simp) λh1 e1 s1=>?_)
 have s1:Heap.SameBut it hp h1:=s1
 have e1:IsItemIter h1 it d (i+1) xs.length xs.length ok ov:=by
  have e:((i+1:Nat):Int)=(i:Int)+1:=by omega
  unfold IsItemIter;rw[e];simpa [rawInt] using e1
 have t1:Shared.TypeIs ⟨h1,g,dr,tk,os⟩ (.ref it) "dict_itemiterator" := ⟨_,e1,rfl⟩
 refine ab (cy (ab (kL t1 (ab (kL t1 ?_)))))
 show wpAny _ _ (Builtin.Dict_items.pairFromOwner (.ref it) 6 es[i].key es[i].val) _ _ ⟨h1,g,dr,tk,os⟩
 rw[ek,ev]
 unfold Builtin.Dict_items.pairFromOwner
 refine ab (wpAny_newTuple ?_)
 have z1:h1.objs.size=hp.objs.size:=s1.1
 have il:it < hp.objs.size:=ay hi
 have e2:IsItemIter (h1.push { cls:=.type "tuple",data:=.seq #[.ref b,v] }) it d (i+1) xs.length xs.length ok ov:=af _ e1
 have t2:(h1.push { cls:=.type "tuple",data:=.seq #[.ref b,v] }).get? hp.objs.size=some { cls:=.type "tuple",data:=.seq #[.ref b,v] }:=by rw[← z1];exact ap _ rfl
 have z2:(h1.push { cls:=.type "tuple",data:=.seq #[.ref b,v] }).objs.size=hp.objs.size+1:=by rw[dn,z1]
 have k2:∀c o,c≠it->hp.get? c=some o->(h1.push { cls:=.type "tuple",data:=.seq #[.ref b,v] }).get? c=some o:=λc o hc e=>af _ (s1.extBut c o hc e)
 generalize h1.push { cls:=.type "tuple",data:=.seq #[.ref b,v] }=h2 at e2 t2 z2 k2 ⊢
 show wpAny _ _ (Builtin.Dict_items.ownedTupleIsFree (.ref it) >>= _) _ _ ⟨h2,g,dr,tk,os⟩
 rw[z1]
 refine ab ?_
 unfold Builtin.Dict_items.ownedTupleIsFree
 refine ab (eB e2 rfl (x:=.none) rfl (ag ?_))
 simp only[fi]
 refine ab (eB e2 rfl (x:=ok) rfl (ab (eB e2 rfl (x:=ov) rfl ?_)))
 refine ab (gd e2 (by simp) λh3 e3 s3=>?_)
 have s3:Heap.SameBut it h2 h3:=s3
 have e3:IsItemIter h3 it d (i+1) xs.length xs.length (.ref b) ov:=e3
 refine ab (gd e3 (by simp) λh4 e4 s4=>?_)
 have s4:Heap.SameBut it h3 h4:=s4
 have e4:IsItemIter h4 it d (i+1) xs.length xs.length (.ref b) v:=e4
 refine ab (gd e4 (by simp) λh5 e5 s5=>?_)
 have s5:Heap.SameBut it h4 h5:=s5
 have e5:IsItemIterOut h5 it d (i+1) xs.length xs.length (.ref b) v hp.objs.size:=e5
 refine ab (gd e5 (by simp) λh6 e6 s6=>?_)
 have s6:Heap.SameBut it h5 h6:=s6
 have e6:IsItemIterOut h6 it d (i+1) xs.length xs.length (.ref b) v hp.objs.size:=e6
 have kk:∀c o,c≠it->h2.get? c=some o->h6.get? c=some o:=λc o hc e=>s6.extBut c o hc (s5.extBut c o hc (s4.extBut c o hc (s3.extBut c o hc e)))
 refine ab (kl (ag (ag ⟨_,rfl,ag (q h6 e6 (kk _ _ (iS il) t2) ?_ λc o hc e=>kk c o hc (k2 c o hc e))⟩)))
 show h6.objs.size=hp.objs.size+1
 rw[s6.1,s5.1,s4.1,s3.1,z2]
theorem Yz {i:Nat}(hh:A.handled=none)(hi:IsItemIter s.heap it d i xs.length xs.length ok ov)(m:GO kd s.heap d xs)(hx:xs.length<=i)
  (q:∀h',Heap.ExtBut it s.heap h'->Q none { s with heap:=h' }):wpAny (model prog w) A (pyNext (.ref it)) Q E s:=by
 obtain⟨o,es,o1,o2,o3,o4,o5,o6⟩:=id m
 have ty:s.TypeIs (.ref it) "dict_itemiterator" := ⟨_,hi,rfl⟩
 have sz:=gs o4
 unfold pyNext
 refine ab (i7 (cx (name:=Str.ofString "__next__") ty de (cE de ty lh ?_ (kN _))))
 refine ab (ag (ab (ab ?_)))
 first | refine ab (fe ty (ag ?_)) | refine ab (gp ty (ag ?_))
 refine ab (mh hi rfl ?_)
 have own:Builtin.Dict_items.ownsTuple "dict_itemiterator" = true:=by decide
 simp only[own,fi]
 show wpAny _ _ (if (Value.ref d == Value.none)=true then _ else _) (λ_ _=>_) _ s
 rw[ax (by intro z;cases z)]
 refine ab (ag (ab (gI o1 o3 ?_)))
 rw[ax (by rw[sz];simp)]
 refine ab (ag (ab (ix o1 o3 ?_)))
 rw[ax (by simp)]
 refine ag ?_
 simp only[show ¬ ((i:Int) < 0) by omega,fm,ft,im (show es.size<=i by omega)]
 refine ab ?_
 first | refine ab (fe ty (ag ?_)) | refine ab (gp ty (ag ?_))
 show wpAny _ _ (setField (.ref it) 2 .none >>= λ_=>_) _ _ s
 refine ab (kq hi rfl (by simp) ?_)
 show wpAny _ _ (newExc (.type "StopIteration") [] >>= λ_=>_) _ _ _
 refine ab ?_
 simp only[newExc,newTuple]
 refine ab (cK (ab (m:=firstArgMember _ _) (oy (a:=Value.none) (by first | rfl | (simp only[firstArgMember];rfl)) (cK ?_ (by size_fits)))) (by size_fits))
 simp only[raiseNew]
 refine ab (pz ?_)
 rw[show A.in1.handled=none by exact hh]
 refine ab (ag (wpAny_throw ?_))
 refine ab (lb (b:=true) (T := "StopIteration") ⟨_,ap _ rfl,rfl⟩ oz ?_)
 exact ag (q _ (((ci ..).extBut.push _).push _))
end
section
variable {X:Cx}{tg:Expr}{Fn:qo}{σ:St}{H:Hp}{s:Shared}{apos FG pos:Pos}{td:TE}{o:Expr}
theorem KT.get2 {K:W.Frag}{kvs:List (List Key×V)}{xs:List (List Key×Addr×Value)}(r:KT K H kvs xs):∀{i:Nat}{p:List Key×V},kvs[i]?=some p->∃b u,xs[i]?=some (p.1,b,u)/\IJ K H b p.1/\RelV p.2 u:=by
 induction r with
 | nil=>intro i p h;simp at h
 | @cons p q ps qs h t ih=>
  intro i p' e
  cases i with
  | zero=>
   cases e
   obtain⟨k,b,u⟩:=q
   obtain⟨h1,h2,h3⟩:=h
   dsimp only at h1 h2 h3
   exact⟨b,u,by rw[h1];rfl,h2,h3⟩
  | succ i=>exact ih (i:=i) e
def W5 (K:W.Frag)(a:Addr)(n:Nat):It:=
 ⟨λi H=>∃kvs,Rd H a (.dT kvs)/\kvs.length=n/\i < n,λi H x H'=>∃t kvs b ks y,H t=none/\x=.ref t/\H'=upd H t (.tup [.ref b,y])/\Rd H a (.dT kvs)/\kvs[i]?=some (ks,y)/\IJ K H b ks,λi H=>∃kvs,Rd H a (.dT kvs)/\kvs.length=n/\n<=i⟩
def Tn (it a:Addr)(n i:Nat)(h:Heap):Prop:=∃ok ov,IsItemIter h it a i n n ok ov
theorem Tp {P:Program}{w:World}{K:W.Frag}{es:qB}{x1:Nat}{tpos:Pos}(a it:Addr)(n:Nat):Turn P w K (.Tuple es x1 tpos) (W5 K a n) [it] it (Tn it a n) where
 mem:=am
 obj:=λi h st b hb=>by
  obtain⟨ok,ov,e⟩:=st
  exact⟨_,by rw[av.mp hb];exact e,λv z=>by
   have z':Data.fields _=Data.cell v:=z
   cases z'⟩
 keep:=λi h h' st k=>let ⟨ok,ov,e⟩:=st;⟨ok,ov,k it am _ e⟩
 item:=by
  intro X hP hw hK hc i Fn s σ H E I hf st hg
  subst hP hw hK
  obtain⟨kvs,hq,hlen,LI⟩:=hg
  obtain⟨ok,ov,st⟩:=st
  obtain⟨_,_,xs,rel,dd⟩:=tH I.HU I.FH hq
  have hl:xs.length=n:=by rw[← ff rel];exact hlen
  obtain⟨p,hp⟩:∃p,kvs[i]?=some p:=⟨_,aT (by omega)⟩
  obtain⟨b,u,hx,dk,ru⟩:=rel.get2 hp
  subst hl
  have hil:it < s.heap.objs.size:=ay st
  refine W4 st dd hx λh' out Ts hsz hk=>⟨_,rfl,?_⟩
  refine wpAny_letOwnedTupleGo_items (s:={ s with heap:=h' }) out λh2 PY JO=>?_
  have g2:h2.get? s.heap.objs.size=some { cls:=.type "tuple",data:=.seq #[.ref b,u] }:=(JO.2 _ (iS hil)).trans Ts
  have k2:∀c o,c∉[it]->s.heap.get? c=some o->h2.get? c=some o:=λc o hc q=>by
   have h1:c≠it:=λz=>hc (by simp[z])
   exact(JO.2 c h1).trans (hk c o h1 q)
  have Ya:∀c o,s.heap.get? c=some o->∃o',h2.get? c=some o':=λc o q=>by
   by_cases h1:c=it
   ·subst h1;exact⟨_,PY⟩
   ·exact⟨o,k2 c o (by simp[h1]) q⟩
  have I2:Inv X Fn σ (upd H s.heap.objs.size (.tup [.ref b,p.2])) { s with heap:=h2 }:=
   I.NY (t':=s.toks) (ch:=[it]) k2 Ya hf (aw _) ⟨by show 2<=sizeLine;decide,[.ref b,u],.cons rfl (.cons ru .nil),⟨_,g2,rfl,_,rfl⟩⟩
  refine⟨.ref s.heap.objs.size,_,I2,rfl,⟨s.heap.objs.size,kvs,b,p.1,p.2,I.fresh,rfl,rfl,hq,hp,dk⟩,⟨_,_,PY⟩,λc hc=>?_⟩
  have hc0:=(hf c hc).1
  rw[aO ?_]
  ·exact hc0
  ·rw[av.mp hc];exact bt hil
 done:=by
  intro X hP hw hK hc i Fn s σ H E I hf st hg
  subst hP hw hK
  obtain⟨kvs,hq,hlen,hge⟩:=hg
  obtain⟨ok,ov,st⟩:=st
  obtain⟨f0,f1,f2,f3,f4,f5⟩:=hf it am
  obtain⟨_,_,xs,rel,dd⟩:=tH I.HU I.FH hq
  have hl:xs.length=n:=by rw[← ff rel];exact hlen
  subst hl
  exact Yz (I.ok.hd hc) st dd hge λh' eb=>⟨rfl,I.turned (t':=s.toks) (λb o hb q=>eb b o hb q) f0 f1 f3 f4 f5⟩
 self:=λA i s Q E st h=>by
  obtain⟨ok,ov,st⟩:=st
  have hT:s.TypeIs (.ref it) "dict_itemiterator" := ⟨_,st,rfl⟩
  refine ko hT lx (cE lx hT W.kcp_entry ?_ (F.args_dict_itemiterator_iter_1 _))
  show wpAny _ _ (ret (.ref it)) _ _ s
  exact ag ⟨_,rfl, "dict_itemiterator",_,hT,de.lookup,h⟩
noncomputable def iDi (K:W.Frag)(tl:TE):TI:=fun σ H R=>tl σ H λx H1=>∃a kvs,x=.ref a/\Rd H1 a (.dT kvs)/\R (W5 K a kvs.length) H1
theorem YB {es:qB}{x1:Nat}{tpos:Pos}(ho:PE X o td)(He:autoParam (attributeBase o "items" X.env (eval o X.env)=eval o X.env) r0_)(HA:autoParam ((apos.endLine == FG.line)=true) r0_):
  PI X (.Tuple es x1 tpos) (.Call (.Attribute o "items" apos) [] [] FG) (iDi X.K td):=by
 intro Fn s σ H R I h
 refine kB (T := "dict") (id := "dict.items") He rfl HA F.plainAttrs_dict F.slot_dict_items F.type_dict_items (FX (ho Fn s σ H _ I h) ?_)
 rintro u s1 ⟨x,H1,I1,rx,a,kvs,ex,hq,q⟩
 subst ex
 cases (show u=Value.ref a from rx)
 obtain⟨t1,t2,_⟩:=y_ I1 (.inr ⟨kvs,hq⟩)
 refine⟨t1,t2,?_⟩
 obtain⟨_,hd,xs,rel,dd⟩:=tH I1.HU I1.FH hq
 have I2:Inv X Fn σ H1 { s1 with heap:=s1.heap.push { cls:=.type "dict_items",data:=.fields #[.ref a] } }:=I1.kept (t':=s1.toks) λb o e=>af _ e
 refine method_meetsIn F.slot_dict_items F.entry_dict_items rfl (pj ⟨rfl,t1,F.args_dict_items_1 _,_,Gd (tupleKind (cR X.prog X.w)) a hd,⟨xs,dd⟩,?_⟩)
 obtain⟨_,hd2,ys,rel2,QI⟩:=tH I2.HU I2.FH hq
 have hl:ys.length=kvs.length:=(ff rel2).symm
 refine W3 ⟨_,ap _ rfl,rfl,rfl⟩ QI λh' eh=>?_
 subst eh
 rw[hl]
 refine⟨_,[_],_,_,H1,rfl,I2.kept (t':=s1.toks) λb o e=>af _ e,Tp a _ kvs.length,⟨_,_,ap _ rfl⟩,λb hb=>?_,q⟩
 rw[av.mp hb]
 exact I2.Nc (aw _) (I2.FH.fresh (aw _))
end
end Lake.L2
namespace Lake.MR
open PySem L2
@[simp] noncomputable def q8:PV->Option (List PV)
 | .dT kvs=>if (kvs.all λkv=>kv.1.length != 2)=true then some (kvs.map λkv=>.tup [.tup (kv.1.map kP),kv.2]) else none
 | _=>none
noncomputable def iDi (f:rh)(env:Env):Option (List PV):=(f env).bind q8
@[simp] theorem aaq (f:rh)(env:Env):iDi f env=((f env).bind q8):=id rfl
section
variable {X:Cx}{b:BX}{G:qr}{apos FG:Pos}{m:Md}{e:Expr}{f:rh}
theorem FY.get {C:MC}{A:Addr->Prop}{H:Hp}:∀{vs:List (List Key×V)}{ps:List (List Key×PV)}{i:Nat}{w:List Key×PV},FY C A H vs ps->ps[i]?=some w->∃v,vs[i]?=some (w.1,v)/\Rep C A H v w.2
 | _,_,i,w,.nil,h=>by simp at h
 | _,_,0,w,.cons r t,h=>by simp at h;subst h;exact⟨_,rfl,r⟩
 | _,_,i+1,w,.cons r t,h=>by
  obtain⟨v,h1,h2⟩:=FY.get (i:=i) t (by simpa using h)
  exact⟨v,by simpa using h1,h2⟩
theorem Rn {fr:Bool}{es:qB}{x1:Nat}{tpos:Pos}(he:SE X b G m e f)(ZT:autoParam (fr=true->m≠.bor) r9_)(hK:autoParam (X.K=b.C.K) r0_)(He:autoParam (attributeBase e "items" X.env (eval e X.env)=eval e X.env) r0_)(HA:autoParam ((apos.endLine == FG.line)=true) r0_):
  SI X b G fr (.Tuple es x1 tpos) (.Call (.Attribute e "items" apos) [] [] FG) (iDi f):=by
 refine PI.imp (YB he He HA) ?_
 rintro σ H R ⟨Ow,env,ps,E,hg,k⟩
 obtain⟨q,hq,II⟩:=aD hg
 unfold q8 at II
 split at II
 ·rename_i kvs
  split at II
  ·rename_i Lv
   cases II
   refine⟨Ow,env,_,E,hq,λv H1 s r=>?_⟩
   have r1:FC b.C (Bs b Ow) H1 v (.dT kvs):=r.bor
   obtain⟨a,kv,rfl,ha,ra⟩:=r1.dT
   have hlen:kv.length=kvs.length:=ra.length
   refine⟨a,kv,rfl,.inl ha,k _ _ s λF5 H2 h0 h1 hn=>?_⟩
   have hh:H2 a=some (.dT kv)/\FY b.C (Bs b F5) H2 kv kvs:=by
    refine⟨?_,ra.ex h1⟩
    cases fr with
    | false=>exact h0 rfl _ _ ha
    | true=>
     have rv:Rep b.C (Bs b Ow) H1 (.ref a) (.dT kvs):=r.val E (ZT rfl)
     cases rv with
     | dT q1 q2 q3=>rw[ha] at q1;cases q1;exact((h1 _ _ ha).1 q2).1
   obtain⟨ZU,ra2⟩:=hh
   refine⟨λi p hp=>?_,⟨kv,.inl ZU,rfl,by rw[ac,hlen];exact aw _⟩⟩
   have hi:i < kvs.length:=by have:=(aS.mp hp).1;rwa [ac] at this
   refine⟨⟨kv,.inl ZU,rfl,by omega⟩,λx H' y=>?_⟩
   obtain⟨t,kv',c,ks,y,ht,ex,eH,hr',N4,dk⟩:=y
   subst ex eH
   have ekv:kv'=kv:=by
    rcases hr' with z | ⟨o,z⟩
    ·rw[ZU] at z;cases z;rfl
    ·rw[ZU] at z;cases z
   subst ekv
   rw[b0] at hp
   cases qq:kvs[i]? with
   | none=>rw[qq] at hp;cases hp
   | some w=>
    rw[qq] at hp
    cases hp
    obtain⟨v',hv',rv'⟩:=FY.get ra2 qq
    rw[N4] at hv'
    cases hv'
    have nl:w.1.length≠2:=by
     have:=cr.mp Lv w (dc qq)
     simpa using this
    obtain⟨us,hu,kt⟩:=Ib (hK▸dk)
    have sn:=bc ht (HO.tup [.ref c,y])
    rcases kt with rfl | ⟨x,t',z,_⟩
    ·exact⟨sn,.tup bu (.cons ((hu.up sn).rep (xx _)) (.cons (rv'.ex (.of_same sn)) .nil))⟩
    ·have z:w.1=_:=z
     rw[z] at nl;exact absurd rfl nl
  ·cases II
 ·cases II
end
end Lake.MR
namespace Lake.My
open PySem L2 MR
noncomputable def ut:PV:=.ktp [.str "never",.str "may",.str "must"]
noncomputable def l_:PV:=.ktp [.int 0,.int 0,.int 0]
noncomputable def KA:List (String×Bool):=[("bool",true),("int",false)]
noncomputable def LX:List (String×Bool):=[("str",true)]
noncomputable def IX:List (String×Bool):=[("tuple",true)]
def lM:=(ph ik 2 (bV 4) (bC (.bl true)))
def dI:=(HZ (tV (b2 eqQ (b2 FI (bV 3) (Fh 0)) (bV 0))) (cD (gN 4) (iV (LJ (bV 3) (oS (Fh 1)) oN)) [4] lM) HV)
def uv:=(aG (aK 2 (bC (.dK []))) (aG (cD (gN 3) (iV (bV 1)) [3,4] dI) (aN (bV 2))))
def bx:=aV 5 2 false uv
def lB:=(HZ (tV (b2 eqQ (b2 FI (bV 2) (Fh 0)) (bC (.str "run")))) (aK 1 (b2 FI (bV 2) (Fh 1))) HV)
def yh:=(aG (aK 1 (bC (.str "never"))) (aG (cD (gN 2) (iV (bV 0)) [2] lB) (aN (bV 1))))
def lr:=aV 3 1 false yh
def eN:=(HZ (tV (b2 eqQ (b2 FI (bV 2) (Fh 0)) (bC (.str "alike")))) (ph ik 1 (cB (ak (b2 FI (bV 2) (Fh 1)) (ak (b2 FI (bV 2) (Fh 2)) aB))) (bC (.bl true))) HV)
def vm:=(aG (aK 1 (bC (.dT []))) (aG (cD (gN 2) (iV (bV 0)) [2] eN) (aN (bV 1))))
def ji:=aV 3 1 false vm
def v7:=(aN (gn (b2 eqQ (b1 F7 (bV 0)) (Fh 1)) (b2 NH (bV 0) (bC (.str "abcdefghijklmnopqrstuvwxyz")))))
def iu:=aV 1 1 false v7
def kh:=(aH iu (Fm 0 aB))
def sS:=(aN (gn (b2 eqQ (b2 FI (bV 0) (Fh 0)) (bC (.str "carry"))) (gn (b2 (gq λi j=>decide (j < i)) (b1 F7 (bV 0)) (Fh 1)) (b1 pX (bY [none] (iV (LJ (bV 0) (oS (Fh 1)) oN)) (gN 0) aZ kh)))))
def eO:=aV 1 1 false sS
def vo:=(aN (gn (b2 eqQ (b1 F7 (bV 1)) (Fh 2)) (gn (b2 NH (b2 FI (bV 1) (Fh 0)) (bV 0)) (b2 NH (b2 FI (bV 1) (Fh 1)) (bV 0)))))
def lC:=aV 2 2 false vo
def mJ:=(aH lC (Fm 1 (Fm 0 aB)))
def vp:=(aN (gn (b2 eqQ (b2 FI (bV 1) (Fh 0)) (bC (.str "one"))) (gn (b2 (gq λi j=>decide (j < i)) (b1 F7 (bV 1)) (Fh 1)) (b1 pX (bY [none,some 0] (iV (LJ (bV 1) (oS (Fh 1)) oN)) (gN 0) aZ mJ)))))
def gF:=aV 2 2 false vp
def zM:=(aN (gn (aH iu (Fm 1 aB)) (b2 qU (bV 1) (bV 0))))
def mK:=aV 2 2 false zM
def iT:=(b2 NH (bV 0) (bV 1))
def iU:=(aH mK (Fm 1 (Fm 0 aB)))
def pJ:=(aG (HZ (tV (b2 OS (b1 F7 (bV 2)) (Fh 2))) (aN (bC (.bl false))) HV) (aN (bOr (b1 pX (bY [none,some 1] (iV (bV 2)) (gN 0) aZ iT)) (b1 pX (bY [none,some 0] (iV (bV 2)) (gN 0) aZ iU)))))
def gM:=aV 3 3 false pJ
def mL:=(aH mK (Fm 1 (Fm 0 aB)))
def vq:=(aN (gn (vN (λi j=>decide (i<=j)) (λi j=>decide (i<=j)) (Fh 2) (b1 F7 (bV 1)) (Fh 4)) (b1 pX (bY [none,some 0] (iV (bV 1)) (gN 0) aZ mL))))
def lD:=aV 2 2 false vq
def q9:=(b2 NH (bV 0) (bV 1))
def q_:=(aH lD (Fm 1 (Fm 0 aB)))
def uT:=(aG (aK 3 (b2 FI (bV 2) (Fh 0))) (aG (aK 4 (LJ (bV 2) (oS (Fh 1)) oN)) (aG (aK 5 (b2 cg (b1 qt (bV 0)) (b1 qt (bV 1)))) (aG (HZ (tV (b2 eqQ (bV 3) (bC (.str "carry")))) (aN (aH eO (Fm 2 aB))) HV) (aG (HZ (tV (b2 eqQ (bV 3) (bC (.str "one")))) (aN (aH gF (Fm 0 (Fm 2 aB)))) HV) (aG (HZ (tO (tV (b2 eqQ (bV 3) (bC (.str "long")))) (tV (b2 eqQ (bV 3) (bC (.str "either"))))) (aN (gn (b2 (gq λi j=>decide (j < i)) (b1 F7 (bV 4)) (Fh 0)) (b1 pX (bY [none,some 5] (iV (bV 4)) (gN 0) aZ q9)))) HV) (aG (HZ (tO (tV (b2 eqQ (bV 3) (bC (.str "begin")))) (tV (b2 eqQ (bV 3) (bC (.str "split"))))) (aN (gn (b2 (gq λi j=>decide (j < i)) (b1 F7 (bV 4)) (Fh 0)) (b1 pX (bY [none,some 0] (iV (bV 4)) (gN 0) aZ q_)))) HV) (aG (HZ (tV (b2 eqQ (bV 3) (bC (.str "run")))) (aN (gn (b2 eqQ (b1 F7 (bV 4)) (Fh 1)) (b2 NH (b2 FI (bV 4) (Fh 0)) (bC ut)))) HV) (aN (gn (b2 eqQ (bV 3) (bC (.str "alike"))) (aH gM (Fm 0 (Fm 5 (Fm 4 aB))))))))))))))
def qw:=aV 6 3 false uT
def eQ:=(b2 vV (bV 0) (bC (.str " ")))
def iy:=(bV 0)
def iz:=(tV (aH eO (Fm 0 aB)))
def iB:=(bV 0)
def iC:=(tV (aH gF (ak (oG 0 "carrying" (bV 1)) (Fm 0 aB))))
def iD:=(HZ (tN (tV (aH qw (ak (oG 0 "carrying" (bV 0)) (ak (oG 0 "pairs" (bV 0)) (Fm 4 aB)))))) sNo HV)
def ou:=(aG (aK 2 (bY [none] (iV (bV 1)) (gN 0) aZ eQ)) (aG (bM (X9 0 "carrying") 0 (aH bx (ak (bC (.str "carry")) (ak (bY [none] (iV (bV 2)) (gN 0) iz iy) aB)))) (aG (bM (X9 0 "pairs") 0 (aH bx (ak (bC (.str "one")) (ak (bY [none,some 0] (iV (bV 2)) (gN 0) iC iB) aB)))) (aG (cD (gT [3,4]) (iE2 (bV 2)) [3,4] iD) (aG (bM (X9 0 "longs") 0 (aH bx (ak (bC (.str "long")) (Fm 2 aB)))) (aG (bM (X9 0 "eithers") 0 (aH bx (ak (bC (.str "either")) (Fm 2 aB)))) (aG (bM (X9 0 "beginnings") 0 (aH bx (ak (bC (.str "begin")) (Fm 2 aB)))) (aG (bM (X9 0 "splittings") 0 (aH bx (ak (bC (.str "split")) (Fm 2 aB)))) (aG (bM (X9 0 "running") 0 (aH lr (Fm 2 aB))) (bM (X9 0 "likes") 0 (aH ji (Fm 2 aB))))))))))))
noncomputable def cY:List PV->Option (List (Str×PV)):=xq 5 2 0 ou
def j0:=(aG (aK 1 (b2 cg (bV 1) (b2 FI (bD (ak (bC (.str "a")) (ak (bC (.str "e")) (ak (bC (.str "i")) (ak (bC (.str "ae")) (ak (bC (.str "ai")) (ak (bC (.str "ia")) aB))))))) (b2 cU (b2 fH (bV 0) (b2 cg (Fh 12) (b2 mC (Fh 5) (bV 2)))) (Fh 6))))) (aK 1 (b2 cg (bV 1) (b2 FI (bD (ak (bC (.str "")) (ak (bC (.str "t")) (ak (bC (.str "s")) (ak (bC (.str "tr")) (ak (bC (.str "pr")) (ak (bC (.str "sp")) (ak (bC (.str "st")) (ak (bC (.str "spr")) aB))))))))) (b2 cU (b2 fH (bV 0) (b2 cg (Fh 72) (b2 mC (Fh 7) (bV 2)))) (Fh 8))))))
def v8:=(aG (aK 1 (b2 FI (bD (ak (bC (.str "")) (ak (bC (.str "a")) (ak (bC (.str "p")) (ak (bC (.str "tr")) (ak (bC (.str "e")) (ak (bC (.str "pr")) aB))))))) (b2 cU (bV 0) (Fh 6)))) (aG (cD (gN 2) (iR1 (b2 cg (Fh 1) (b2 cU (b2 fH (bV 0) (Fh 6)) (Fh 2)))) [2] j0) (aN (bV 1))))
def f9:=aV 3 1 false v8
def vy:=(aN (b2 cU (b2 cg (b2 cg (b2 mC (bV 0) (Fh 48271)) (b2 mC (b2 mC (bV 1) (bV 1)) (Fh 69621))) (Fh 5)) (Fh 2147483647)))
def dG:=aV 2 2 false vy
def jz:=(aH f9 (ak (aH dG (Fm 1 (Fm 0 aB))) aB))
def vz:=(aN (bY [none,none] (iE2 (bV 0)) (gT [0,1]) aZ jz))
def lE:=aV 1 1 false vz
def dJ:=(aG (aK 6 (aH dG (Fm 1 (ak (b2 cg (b2 cg (Fh 50) (b2 mC (Fh 9) (bV 4))) (bV 5)) aB)))) (aG (aK 7 (b2 FI (bD (ak (b2 cg (Fh 1) (b2 cU (bV 6) (Fh 4))) (ak (b2 cg (b2 cg (Fh 1) (b2 cU (bV 6) (Fh 4))) (b2 mC (bV 6) (b2 Jv (Fh 10) (Fh 48)))) aB))) (b1 vU (b2 eqQ (b2 cU (b2 fH (bV 6) (Fh 7)) (Fh 5)) (Fh 3))))) (bM eV 3 (cB (ak (b2 FI (bV 0) (bV 4)) (ak (aH f9 (ak (b2 fH (bV 6) (Fh 13)) aB)) (Fm 7 aB)))))))
def gb:=(cD (gN 5) (iR1 (b2 mC (b2 cU (aH dG (Fm 1 (ak (b2 cg (b2 mC (Fh 3) (bV 4)) (Fh 1)) aB))) (b2 cg (bV 2) (Fh 1))) (b1 vU (b2 qU (b2 FI (bV 0) (bV 4)) (LJ (bV 0) oN (oS (bV 4))))))) [5,6,7] dJ)
def oK:=(aG (aK 3 (bD aB)) (aG (cD (gN 4) (iR1 (b1 F7 (bV 0))) [4,5,6,7] gb) (aG (HZ (tV (b2 eqQ (b2 cU (bV 1) (Fh 3)) (Fh 1))) (zr qY 3) HV) (aN (bV 3)))))
def iG:=aV 8 3 false oK
def xQ:=(cB (Fm 1 (Fm 2 aB)))
def xR:=(tV (b2 eqQ (bV 0) (bV 3)))
def zN:=(aN (b2 uK (bD (ak (cB (Fm 0 (ak (Fh 0) aB))) aB)) (bY [none,none,none,some 0] (iV (bV 1)) (gT [0,1,2]) xR xQ)))
def jA:=aV 2 2 false zN
def lF:=(bM eV 4 (cB (ak (b2 cg (bV 5) (bV 8)) (ak (b2 uK (bV 6) (bD (Fm 7 aB))) aB))))
def lG:=(cD (gT [7,8]) (iV (aH jA (Fm 3 (Fm 1 aB)))) [7,8] lF)
def pY:=(aG (aK 4 (bD aB)) (aG (cD (gT [5,6]) (iV (bV 2)) [5,6,7,8] lG) (aK 2 (bV 4))))
def yj:=(aG (aK 2 (bD (ak (cB (ak (Fh 0) (ak (bD aB) aB))) aB))) (aG (cD (gN 3) (iV (bV 0)) [3,4,5,6,7,8] pY) (aN (bV 2))))
def pq:=aV 9 2 false yj
def mO:=(aG (HZ (tV (b2 (gq λi j=>decide (i < j)) (bV 1) (b1 F7 (bV 0)))) (aN (b2 FI (bV 0) (bV 1))) HV) (aN (Fh 0)))
def bO:=aV 2 2 false mO
def gO:=(bV 0)
def d7:=(aG (aK 4 (aH dG (Fm 1 (ak (b2 cg (b2 mC (Fh 11) (bV 3)) (Fh 4)) aB)))) (aG (aK 5 (b2 qu (b2 FI (bD (ak (b2 cg (Fh 2) (b2 cU (bV 4) (Fh 3))) (ak (Fh 4) aB))) (b1 vU (b2 (gq λi j=>decide (j < i)) (b1 F7 (bV 0)) (Fh 24)))) (b2 OQ (b1 F7 (bV 0)) (bV 3)))) (aG (aK 6 (b2 xj (bC (.str "")) (bY [none,none] (iV (LJ (bV 0) (oS (bV 3)) (oS (b2 cg (bV 3) (bV 5))))) (gT [0,1]) aZ gO))) (aG (aK 7 (bD (Fm 6 aB))) (aG (HZ (tV (b2 eqQ (b2 cU (b2 fH (bV 4) (Fh 3)) (Fh 3)) (Fh 1))) (bM eV 7 (b2 FI (bD (ak (bC (.str "u")) (ak (bC (.str "x-")) (ak (bC (.str "uu")) (ak (bC (.str "-x")) aB))))) (b2 cU (b2 fH (bV 4) (Fh 9)) (Fh 4)))) HV) (aG (HZ (tV (b2 eqQ (b2 cU (b2 fH (bV 4) (Fh 3)) (Fh 3)) (Fh 2))) (bM eV 7 (b2 cg (LJ (bV 6) oN (oS (b1 fX (Fh 1)))) (bC (.str "x")))) HV) (aG (aK 3 (b2 cg (bV 3) (bV 5))) (aG (HZ (tA (tV (b2 eqQ (b2 cU (b2 fH (bV 4) (Fh 36)) (Fh 2)) (Fh 1))) (tV (b2 OS (b2 FI (bV 7) (b1 fX (Fh 1))) (bV 6)))) (zr qY 7) HV) (aG (bM eV 2 (cB (ak (b1 vZ (LJ (bV 7) oN (oS (b2 cg (Fh 1) (b1 vU (b2 OS (b2 FI (bV 7) (Fh 0)) (b2 FI (bV 7) (b1 fX (Fh 1))))))))) (ak (gn (b2 FI (b2 FI (bV 0) (b2 OQ (bV 3) (Fh 1))) (Fh 1)) (b2 eqQ (b2 cU (b2 fH (bV 4) (Fh 72)) (Fh 2)) (Fh 1))) aB)))) HV)))))))))
def cJ:=(tV (b2 (gq λi j=>decide (i < j)) (bV 3) (b1 F7 (bV 0))))
def rm:=(aG (aK 2 (bD aB)) (aG (aK 3 (Fh 0)) (aG (vX 1000000 cJ [4,5,6,7] d7) (aN (b1 vZ (bV 2))))))
def iW:=aV 8 2 false rm
def pK:=(aN (b2 NH (bV 1) (oG 0 "carrying" (bV 0))))
def bh:=aV 2 2 false pK
def mQ:=(aH iu (Fm 0 aB))
def mR:=(gj 0 "carries" bh (bV 1) (Fm 0 aB))
def zO:=(aG (HZ (tO (tN (tV (b1 (Ft LX) (bV 1)))) (tV (b2 (gq λi j=>decide (j < i)) (b1 F7 (bV 1)) (Fh 24)))) (aN (bC (.bl false))) HV) (aN (gn (b1 pX (bY [none] (iV (bV 1)) (gN 0) aZ mQ)) (b1 Pj (bY [none,some 0] (iV (bV 1)) (gN 0) aZ mR)))))
def qz:=aV 2 2 false zO
def g8:=(HZ (tN (tV (aH qz (Fm 0 (Fm 1 aB))))) sNo HV)
def bL:=aV 2 2 false g8
def mU:=(cB (Fm 1 (Fm 2 aB)))
def mV:=(tV (b2 eqQ (bV 0) (bV 3)))
def vA:=(aN (b2 uK (bD (ak (cB (Fm 0 (ak (Fh 0) aB))) aB)) (bY [none,none,none,some 0] (iV (bV 1)) (gT [0,1,2]) mV mU)))
def jk:=aV 2 2 false vA
def iY:=(xm (aH bL (Fm 0 (Fm 3 aB))))
def i_:=(aH jk (Fm 0 (Fm 1 aB)))
def pL:=(aG (cD (gN 3) (iV (bV 1)) [3] iY) (aN (bY [none,some 2] (iV (bV 1)) (gN 0) aZ i_)))
def d8:=aV 4 3 false pL
def mW:=(aN (cB (ak (b1 F7 (bV 0)) (ak (Fh 0) (ak (Fh 0) aB)))))
def c7:=aV 1 1 false mW
def pM:=(aN (b2 NH (bV 1) (oG 0 "pairs" (bV 0))))
def d9:=aV 2 2 false pM
def gG:=(aG (aK 4 (bIf (tV (gj 0 "is_pair" d9 (bV 0) (ak (LJ (bV 1) (oS (bV 3)) (oS (b2 cg (bV 3) (Fh 2)))) aB))) (Fh 2) (Fh 1))) (aG (bM eV 2 (LJ (bV 1) (oS (bV 3)) (oS (b2 cg (bV 3) (bV 4))))) (aK 3 (b2 cg (bV 3) (bV 4)))))
def gH:=(tV (b2 (gq λi j=>decide (i < j)) (bV 3) (b1 F7 (bV 1))))
def tL:=(aG (xm (aH bL (Fm 0 (Fm 1 aB)))) (aG (aK 2 (bD aB)) (aG (aK 3 (Fh 0)) (aG (vX 1000000 gH [4] gG) (aN (bV 2))))))
def lu:=aV 5 2 false tL
def lO:=(bV 0)
def lQ:=(tV (gj 0 "carries" bh (bV 1) (ak (b2 FI (bV 0) (Fh 0)) aB)))
def uw:=(aN (bY [none,some 0] (iV (bV 1)) (gN 0) lQ lO))
def iH:=aV 2 2 false uw
def gf:=(HZ (tV (gj 0 "carries" bh (bV 0) (ak (b2 FI (bV 3) (Fh 0)) aB))) (bM eV 2 (bC (.str ""))) (ph ik 2 (b1 fX (Fh 1)) (b2 cg (b2 FI (bV 2) (b1 fX (Fh 1))) (bV 3))))
def qC:=(aG (aK 2 (bD (ak (bC (.str "")) aB))) (aG (cD (gN 3) (iV (bV 1)) [3] gf) (aN (bV 2))))
def mX:=aV 4 2 false qC
def qe:=(aN (b2 NH (bV 1) (oG 0 "splittings" (bV 0))))
def cV:=aV 2 2 false qe
def qg:=(aN (b2 NH (bV 1) (oG 0 "beginnings" (bV 0))))
def fj:=aV 2 2 false qg
def iI:=(HZ (tV (gj 0 "begins" fj (bV 0) (ak (LJ (bV 1) (oS (bV 2)) oN) aB))) (aN (LJ (bV 1) oN (oS (bV 2)))) HV)
def qD:=(aG (HZ (tV (gj 0 "splits" cV (bV 0) (Fm 1 aB))) (aN (bC (.str ""))) HV) (aG (cD (gN 2) (iR1 (b1 F7 (bV 1))) [2] iI) (aN (LJ (bV 1) oN (oS (b1 fX (Fh 1)))))))
def mY:=aV 3 2 false qD
def fB:=(aG (aK 9 (aH mY (Fm 0 (Fm 8 aB)))) (aG (bM eV 5 (cB (Fm 6 (Fm 7 (Fm 9 (ak (gj 0 "splits" cV (bV 0) (Fm 8 aB)) aB)))))) (aK 6 (LJ (bV 8) (oS (b1 F7 (bV 9))) oN))))
def jB:=(aG (aK 2 (aH lu (Fm 0 (Fm 1 aB)))) (aG (aK 3 (aH iH (Fm 0 (Fm 2 aB)))) (aG (aK 4 (aH mX (Fm 0 (Fm 2 aB)))) (aG (aK 5 (bD aB)) (aG (aK 6 (b2 FI (bV 4) (Fh 0))) (aG (cD (gT [7,8]) (iZ (LJ (bV 3) oN (oS (b1 fX (Fh 1)))) (LJ (bV 4) (oS (Fh 1)) (oS (b1 fX (Fh 1))))) [7,8,9] fB) (aG (bM eV 5 (cB (Fm 6 (ak (b2 FI (bV 3) (b1 fX (Fh 1))) (ak (b2 FI (bV 4) (b1 fX (Fh 1))) (ak (bC (.bl false)) aB)))))) (aN (bV 5)))))))))
def du:=aV 10 2 false jB
def g_:=(aG (HZ (tV (b2 NH (bV 1) (oG 0 "longs" (bV 0)))) (aN (bC (.str "-"))) HV) (aG (HZ (tV (b2 NH (bV 1) (oG 0 "eithers" (bV 0)))) (aN (bC (.str "x"))) HV) (aN (bC (.str "u")))))
def cW:=aV 2 2 false g_
def mZ:=(aG (HZ (tV (b2 OS (bV 2) (bC (.str "")))) (aN (bD (ak (cB (ak (Fh 0) (ak (bC (.str "-")) aB))) aB))) HV) (aG (aK 4 (gj 0 "weight" cW (bV 0) (Fm 1 aB))) (aG (aK 5 (bD aB)) (aG (HZ (tV (b2 OS (bV 4) (bC (.str "-")))) (bM eV 5 (cB (ak (Fh 0) (ak (bC (.str "u")) aB)))) HV) (aG (HZ (tV (b2 OS (bV 4) (bC (.str "u")))) (bM eV 5 (cB (ak (Fh 0) (ak (bC (.str "-")) aB)))) HV) (aG (HZ (tV (bV 3)) (bM eV 5 (cB (ak (Fh 1) (ak (bC (.str "-")) aB)))) HV) (aN (bV 5))))))))
def dw:=aV 6 4 true mZ
def ux:=(aN (oG 0 "running" (bV 0)))
def fU:=aV 1 1 false ux
def jN:=(aG (HZ (tV (b2 OS (bV 2) (bC (.str "")))) (aN (aH dw (Fm 0 (Fm 1 (ak (LJ (bV 2) oN (oS (b1 fX (Fh 1)))) (ak (bC (.bl false)) aB)))))) HV) (aG (HZ (tV (b2 eqQ (gj 0 "run" fU (bV 0) aB) (bC (.str "must")))) (aN (bD (ak (bC .FE) aB))) HV) (aG (aK 3 (aH dw (Fm 0 (Fm 1 (Fm 2 (ak (bC (.bl false)) aB)))))) (aG (HZ (tV (b2 eqQ (gj 0 "run" fU (bV 0) aB) (bC (.str "may")))) (bM eV 3 (bC .FE)) HV) (aN (bV 3))))))
def d_:=aV 4 3 false jN
def jC:=(aH dw (Fm 4 (Fm 1 (Fm 2 (Fm 3 aB)))))
def pZ:=(aG (aK 3 (aH du (Fm 0 (Fm 1 aB)))) (aG (aK 4 (bY [none,none,none,none,some 0] (iV (bV 3)) (gT [0,1,2,3]) aZ jC)) (aG (HZ (tV (b2 OT (bV 2) (bC .FE))) (aN (bV 4)) HV) (aG (xm (aH bL (Fm 0 (Fm 2 aB)))) (aG (HZ (tV (gj 0 "carries" bh (bV 0) (ak (b2 FI (bV 2) (Fh 0)) aB))) (aG (aK 5 (b2 FI (bV 3) (b1 fX (Fh 1)))) (ph ik 4 (b1 fX (Fh 1)) (aH d_ (Fm 0 (ak (b2 FI (bV 5) (Fh 1)) (ak (b2 FI (bV 5) (Fh 2)) aB)))))) HV) (aN (bV 4)))))))
def bH:=aV 6 3 false pZ
def oM:=(cB (Fm 0 (Fm 0 aB)))
def jO:=(aN (bIf (tV (b2 OT (bV 1) (bC .FE))) (bY [none] (iK (bV 3)) (gN 0) aZ oM) (b2 FI (bV 0) (cB (ak (b2 FI (bV 1) (Fh 1)) (Fm 2 aB))))))
def eE:=aV 4 4 false jO
def j4:=(HZ (tV (b2 NH (bV 6) (bV 1))) (ph ik 4 (bV 7) (b2 qu (b2 FI (bV 1) (bV 6)) (b3 jZ (bV 4) (bV 7) (b2 FI (bV 1) (bV 6))))) HV)
def uU:=(cD (gT [6,7]) (iV (aH eE (Fm 0 (Fm 5 (Fm 3 (Fm 1 aB)))))) [6,7] j4)
def Ge:=(aG (aK 4 (bC (.dT []))) (aG (cD (gN 5) (iV (bV 2)) [5,6,7] uU) (aN (bV 4))))
def rA:=aV 8 4 false Ge
def lA:=(ph ik 5 (bV 9) (b2 qu (bV 10) (b3 jZ (bV 5) (bV 9) (bV 10))))
def pA:=(aG (aK 8 (bIf (tV (b2 OT (bV 6) (bC .FE))) (bD (ak (bC .FE) aB)) (b2 FI (aH bH (Fm 0 (Fm 6 (Fm 4 aB)))) (b1 fX (Fh 1))))) (cD (gT [9,10]) (iDi (aH rA (Fm 1 (Fm 7 (Fm 8 (ak (bC (.bl true)) aB)))))) [9,10] lA))
def Cr:=(aG (aK 5 (bC (.dT []))) (aG (cD (gT [6,7]) (iZ (bV 2) (bV 3)) [6,7,8,9,10] pA) (aN (bV 5))))
def jP:=aV 11 5 false Cr
def oO:=(cB (Fm 1 (Fm 2 (Fm 0 aB))))
def iJ:=(bM yC 1 (bY [none,some 2,some 4] (iR2 (Fh 1) (b1 F7 (bV 5))) (gN 0) aZ oO))
def oR:=(aG (bM eV 1 (cB (Fm 2 (ak (Fh 0) (ak (Fh 0) aB))))) (cD (gT [4,5]) (iE2 (b2 FI (bV 3) (Fh 0))) [4,5] iJ))
def v9:=(aG (aK 1 (bD aB)) (aG (cD (gT [2,3]) (iE2 (bV 0)) [2,3,4,5] oR) (aN (bV 1))))
def m8:=aV 6 1 false v9
def m9:=(aG (aK 3 (b2 FI (bV 1) (Fh 0))) (aG (aK 4 (b2 cg (b2 FI (bV 1) (Fh 2)) (Fh 1))) (aG (HZ (tV (b2 (gq λi j=>decide (i < j)) (bV 4) (b1 F7 (b2 FI (b2 FI (b2 FI (bV 0) (bV 3)) (Fh 0)) (b2 FI (bV 1) (Fh 1)))))) (aN (cB (Fm 3 (ak (b2 FI (bV 1) (Fh 1)) (Fm 4 aB))))) HV) (aG (HZ (tA (tV (b2 FI (b2 FI (bV 0) (bV 3)) (Fh 1))) (tN (tV (bV 2)))) (aN (bC .FE)) HV) (aN (cB (ak (b2 cg (bV 3) (Fh 1)) (ak (Fh 0) (ak (Fh 0) aB)))))))))
def gP:=aV 5 3 false m9
def p6:=(aN (bOr (b2 eqQ (bV 0) (bV 1)) (b2 eqQ (bV 0) (bC (.str "x")))))
def jl:=aV 2 2 false p6
def eX:=(aG (aK 10 (aH gP (Fm 0 (ak (cB (Fm 4 (Fm 9 (Fm 5 aB)))) (Fm 3 aB))))) (HZ (tA (tV (b2 pH (bV 10) (bC .FE))) (tV (aH jl (ak (b2 FI (b2 FI (bV 6) (bV 9)) (bV 5)) (Fm 2 aB))))) (bM eV 8 (cB (Fm 9 (Fm 10 aB)))) HV))
def pB:=(aG (HZ (tV (b2 eqQ (bV 1) (aH c7 (Fm 0 aB)))) (aN (bD aB)) HV) (aG (aK 4 (b2 FI (bV 1) (Fh 0))) (aG (aK 5 (b2 FI (bV 1) (Fh 2))) (aG (aK 6 (b2 FI (b2 FI (bV 0) (bV 4)) (Fh 0))) (aG (aK 7 (bIf (tV (b2 eqQ (bV 5) (Fh 0))) (b1 Ed (b1 F7 (bV 6))) (bD (ak (b2 FI (bV 1) (Fh 1)) aB)))) (aG (aK 8 (bD aB)) (aG (cD (gN 9) (iV (bV 7)) [9,10] eX) (aN (bV 8)))))))))
def gY:=aV 11 4 false pB
def p7:=(cB (Fm 2 (Fm 1 aB)))
def p8:=(bM yC 3 (bY [none,none,some 4] (iV (aH gY (Fm 0 (Fm 4 (Fm 1 (Fm 2 aB)))))) (gT [0,1]) aZ p7))
def ym:=(aG (aK 3 (bD aB)) (aG (cD (gN 4) (iV (aH m8 (Fm 0 aB))) [4] p8) (aN (bV 3))))
def fM:=aV 5 3 false ym
def uy:=(ph ik 1 (cB (Fm 2 (Fm 3 aB))) (aH fM (Fm 0 (Fm 2 (Fm 3 aB)))))
def uz:=(cD (gN 3) (iV (cB (ak (bC (.bl false)) (ak (bC (.bl true)) aB)))) [3] uy)
def v_:=(aG (aK 1 (bC (.dT []))) (aG (cD (gN 2) (iV (cB (ak (bC (.str "u")) (ak (bC (.str "-")) aB)))) [2,3] uz) (aN (bV 1))))
def iM:=aV 4 1 false v_
def ju:=(bV 0)
def jw:=(bY [none,none] (iV (bV 0)) (gT [0,1]) aZ ju)
def qi:=(aN (b2 uK (bD (ak (bD (ak (bC .FE) aB)) aB)) (bY [none] (iV (bV 0)) (gN 0) aZ jw)))
def fC:=aV 1 1 false qi
def wg:=(aN (b2 zH (aH jP (Fm 0 (ak (aH iM (Fm 1 aB)) (ak (b2 FI (aH fC (Fm 2 aB)) (b1 fX (Fh 1))) (Fm 3 (ak (bC .FE) aB)))))) (aH c7 (Fm 1 aB))))
def m_:=aV 4 4 false wg
def pC:=(cB (Fm 0 (ak (cB (ak (b2 cg (b2 FI (bV 1) (Fh 0)) (bV 2)) (ak (b2 xF (b2 FI (bV 1) (Fh 1)) (cB (Fm 3 aB))) aB))) aB)))
def Cu:=(aN (b1 Gb (bY [none,none,some 2,some 1] (iDi (bV 0)) (gT [0,1]) aZ pC)))
def pN:=aV 3 3 false Cu
def rB:=(aK 5 (aH rA (Fm 1 (Fm 5 (Fm 6 (ak (bC (.bl false)) aB))))))
def zQ:=(aG (aK 5 (aH jP (Fm 0 (Fm 1 (Fm 2 (Fm 3 (Fm 4 aB))))))) (aG (cD (gN 6) (iV (LJ (aH bH (Fm 0 (Fm 4 (ak (bC .FE) aB)))) oN (oS (b1 fX (Fh 1))))) [6] rB) (aN (bV 5))))
def nj:=aV 7 5 false zQ
def kj:=(aH pN (ak (aH nj (Fm 2 (Fm 3 (Fm 4 (Fm 5 (Fm 0 aB)))))) (Fm 0 (Fm 1 aB))))
def kE:=(aG (aK 8 (b2 FI (bV 5) (b1 fX (Fh 1)))) (bM eV 5 (bY [none,none,some 0,some 3,some 6,some 8] (iV (bV 7)) (gT [0,1]) aZ kj)))
def sU:=(aG (aK 3 (aH iM (Fm 1 aB))) (aG (aK 4 (aH fC (Fm 2 aB))) (aG (aK 5 (bD (ak (bD (ak (b2 sO (bC l_) (cB (ak (Fh 0) (ak (cB aB) aB)))) aB)) aB))) (aG (cD (gT [6,7]) (iZ (bV 4) (bV 2)) [6,7,8] kE) (aN (bV 5))))))
def jD:=aV 9 3 false sU
def Ba:=(aG (aK 4 (aH d8 (Fm 0 (Fm 1 (Fm 3 aB))))) (aG (aK 5 (aH m_ (Fm 0 (Fm 2 (Fm 4 (ak (b2 FI (aH jD (Fm 0 (Fm 2 (Fm 4 aB)))) (b1 fX (Fh 1))) aB)))))) (aN (bIf (tV (b2 OT (bV 5) (bC .FE))) (bC .FE) (cB (ak (b2 FI (bV 5) (Fh 0)) (ak (b1 qt (b2 FI (bV 5) (Fh 1))) aB)))))))
def qM:=aV 6 4 false Ba
def dM:=(HZ (tA (tV (b2 eqQ (b2 cU (b2 fH (bV 0) (b2 FI (bD (ak (Fh 1) (ak (Fh 2) (ak (Fh 4) (ak (Fh 8) (ak (Fh 16) (ak (Fh 32) (ak (Fh 64) (ak (Fh 128) aB))))))))) (bV 3))) (Fh 2)) (Fh 1))) (tO (tV (b2 OS (bV 3) (Fh 1))) (tV (b2 eqQ (b2 cU (bV 0) (Fh 2)) (Fh 1))))) (bM eV 2 (b2 FI (bV 1) (bV 3))) HV)
def wj:=(aG (aK 1 (bD (ak (bC (.str "one ae ai")) (ak (bC (.str "long ae")) (ak (bC (.str "long e")) (ak (bC (.str "either a")) (ak (bC (.str "either i")) (ak (bC (.str "begin tr pr spr")) (ak (bC (.str "split tr")) (ak (bC (.str "split sp pr spr")) aB)))))))))) (aG (aK 2 (bD (ak (bC (.str "carry a e i")) aB))) (aG (cD (gN 3) (iR1 (Fh 8)) [3] dM) (aG (bM eV 2 (b2 cg (bC (.str "run ")) (b2 FI (bD (ak (bC (.str "never")) (ak (bC (.str "may")) (ak (bC (.str "must")) (ak (bC (.str "may")) aB))))) (b2 cU (b2 fH (bV 0) (Fh 256)) (Fh 4))))) (aN (bV 2))))))
def jQ:=aV 4 1 true wj
def jm:=(aH bH (Fm 2 (Fm 0 (Fm 1 aB))))
def yo:=(aG (aK 2 (b2 uK (LJ (bV 1) (oS (Fh 1)) oN) (bD (ak (bC .FE) aB)))) (aN (bY [none,none,some 0] (iZ (bV 1) (bV 2)) (gT [0,1]) aZ jm)))
def fO:=aV 3 2 false yo
def jR:=(bM yC 1 (b2 uK (b2 JH (bD (ak (bC (.bl false)) aB)) (b2 OQ (b1 F7 (bV 2)) (Fh 1))) (bD (ak (bC (.bl true)) aB))))
def qF:=(aG (aK 1 (bD aB)) (aG (cD (gN 2) (iV (bV 0)) [2] jR) (aN (bV 1))))
def j5:=aV 3 1 false qF
def rC:=(cB (ak (b2 FI (bV 0) (Fh 1)) (Fm 1 aB)))
def rD:=(tV (b2 pH (bV 0) (bC .FE)))
def qG:=(aN (bY [none,none] (iZ (bV 1) (aH j5 (Fm 0 aB))) (gT [0,1]) rD rC))
def qH:=aV 2 2 false qG
def nu:=(bM yC 1 (bV 2))
def vB:=(aG (aK 1 (bD aB)) (aG (cD (gN 2) (iV (bV 0)) [2] nu) (aN (bV 1))))
def gJ:=aV 3 1 false vB
def oU:=(aG (bM eV 2 (b2 FI (bV 4) (b2 cU (bV 3) (b1 F7 (bV 4))))) (aK 3 (b2 fH (bV 3) (b1 F7 (bV 4)))))
def wu:=(aG (aK 2 (bD aB)) (aG (aK 3 (bV 1)) (aG (cD (gN 4) (iRv (aH gJ (Fm 0 aB))) [4] oU) (aN (b1 zx (bV 2))))))
def nF:=aV 5 2 false wu
def kI:=(aK 1 (b2 mC (bV 1) (b1 F7 (bV 2))))
def sV:=(aG (aK 1 (Fh 1)) (aG (cD (gN 2) (iV (aH gJ (Fm 0 aB))) [2] kI) (aN (bV 1))))
def jE:=aV 3 1 false sV
def ww:=(aG (aK 3 (aH fO (Fm 0 (Fm 1 aB)))) (aN (aH qH (Fm 3 (ak (aH nF (Fm 3 (ak (b2 cU (bV 2) (aH jE (Fm 3 aB))) aB))) aB)))))
def nH:=aV 4 3 false ww
def dF:=(HZ (tV (b2 NH (bV 7) (bV 3))) (ph ik 4 (bV 6) (b2 cg (b3 jZ (bV 4) (bV 6) (Fh 0)) (b2 FI (bV 3) (bV 7)))) HV)
def kJ:=(cD (gT [6,7]) (iV (aH eE (Fm 0 (Fm 5 (Fm 2 (Fm 3 aB)))))) [6,7] dF)
def sW:=(aG (aK 4 (bC (.dT []))) (aG (cD (gN 5) (iV (bV 1)) [5,6,7] kJ) (aN (bV 4))))
def jF:=aV 8 4 false sW
def gA:=(aG (aK 3 (aH jF (Fm 2 (Fm 5 (Fm 6 (Fm 3 aB)))))) (bM eV 4 (bV 3)))
def mj:=(aG (aK 2 (aH iM (Fm 1 aB))) (aG (aK 3 (b2 sO (aH c7 (Fm 1 aB)) (Fh 1))) (aG (aK 4 (bD (Fm 3 aB))) (aG (cD (gT [5,6]) (iRv (b2 xu (aH gJ (Fm 0 aB)) (aH j5 (Fm 0 aB)))) [5,6] gA) (aN (b1 zx (bV 4)))))))
def eU:=aV 7 2 false mj
def rE:=(aN (b3 zA (b2 FI (aH eU (Fm 0 (Fm 1 aB))) (Fh 0)) (bC l_) (Fh 0)))
def di:=aV 2 2 false rE
def yF:=(aH f9 (ak (aH dG (Fm 1 (ak (b2 cg (Fh 31) (bV 0)) aB))) aB))
def jT:=(HZ (tA (tO (tV (b2 OT (bV 8) (bC .FE))) (tV (b2 (gq λi j=>decide (i < j)) (bV 9) (bV 8)))) (tV (b2 (gq λi j=>decide (j < i)) (aH di (ak (aH fO (Fm 1 (Fm 10 aB))) (Fm 7 aB))) (Fh 0)))) (aK 8 (bV 9)) HV)
def Gg:=(aG (aK 1 (JG 0 cY (ak (aH jQ (ak (aH bO (Fm 0 (ak (Fh 0) aB))) aB)) aB))) (aG (aK 2 (aH lE (ak (b2 cg (LJ (bV 0) (oS (Fh 4)) (oS (Fh 7))) (LJ (bD (ak (Fh 0) aB)) (oS (b2 fH (b1 F7 (bV 0)) (Fh 5))) oN)) aB))) (aG (aK 3 (aH iG (Fm 2 (ak (aH bO (Fm 0 (ak (Fh 1) aB))) (ak (Fh 2) aB))))) (aG (aK 4 (aH pq (Fm 2 (Fm 3 aB)))) (aG (aK 5 (aH bO (Fm 0 (ak (Fh 2) aB)))) (aG (aK 6 (b2 FI (b2 FI (bV 4) (b2 cU (b2 fH (bV 5) (Fh 5)) (b1 F7 (bV 4)))) (Fh 1))) (aG (HZ (tV (b2 eqQ (b2 cU (bV 5) (Fh 5)) (Fh 1))) (aK 6 (bY [none,some 5] (iR1 (b2 cg (Fh 1) (b2 cU (b2 fH (bV 5) (Fh 5)) (Fh 3)))) (gN 0) aZ yF)) HV) (aG (aK 7 (aH iW (ak (aH nH (Fm 1 (Fm 6 (ak (aH bO (Fm 0 (ak (Fh 3) aB))) aB)))) (Fm 5 aB)))) (aG (aK 8 (bC .FE)) (aG (cD (gT [9,10]) (iV (bV 4)) [9,10] jT) (aG (aK 11 (bD (ak (b1 qt (bV 2)) (ak (b1 qt (bV 3)) aB)))) (aG (aK 12 (aH qM (Fm 1 (ak (b2 FI (bV 11) (Fh 0)) (Fm 7 (ak (b2 FI (bV 11) (Fh 1)) aB)))))) (aG (HZ (tO (tV (b2 OS (bV 11) (bD (Fm 2 (Fm 3 aB))))) (tV (b2 pH (aH qM (Fm 1 (ak (bD aB) (Fm 7 (Fm 3 aB))))) (bC .FE)))) (aN (bC (.bl false))) HV) (aG (HZ (tO (tV (b2 OT (bV 8) (bC .FE))) (tV (b2 OT (bV 12) (bC .FE)))) (aN (gn (b2 OT (bV 12) (bC .FE)) (b2 OT (bV 8) (bC .FE)))) HV) (aG (HZ (tO (tN (tV (b1 (Ft IX) (bV 12)))) (tO (tV (b2 OS (b1 F7 (bV 12)) (Fh 2))) (tV (b1 (Ft KA) (b2 FI (bV 12) (Fh 0)))))) (aN (bC (.bl false))) HV) (aG (HZ (tO (tV (b2 OS (b2 FI (bV 12) (Fh 0)) (bV 8))) (tV (b2 qU (cB (ak (b2 FI (bV 12) (Fh 0)) (ak (b2 FI (bV 12) (Fh 1)) aB))) (bV 4)))) (aN (bC (.bl false))) HV) (aN (b2 (gq λi j=>decide (j < i)) (aH di (ak (aH fO (Fm 1 (ak (b2 FI (bV 12) (Fh 1)) aB))) (Fm 7 aB))) (Fh 0)))))))))))))))))))
def zR:=aV 13 1 false Gg
abbrev LET:Str := "abcdefghijklmnopqrstuvwxyz"
noncomputable def isLetter (x:Str):Bool:=decide (x.length=1)&&!(Builtin.Str.occurrences LET x 0 LET.length 1).isEmpty
noncomputable def jb:List Str->Bool
 | w::r=>decide (w=("carry" : Str))&&decide (0 < r.length)&&r.all isLetter
 | []=>false
noncomputable def pairOf (C:Str->Bool)(x:Str):Bool:=match x.cps.toList with
 | [a,b]=>C ⟨#[a]⟩&&C ⟨#[b]⟩
 | _=>false
noncomputable def nM (C:Str->Bool):List Str->Bool
 | w::r=>decide (w=("one" : Str))&&decide (0 < r.length)&&r.all (pairOf C)
 | []=>false
noncomputable def uA (C:Str->Bool)(x:Str):Bool:=isLetter x&&!C x
noncomputable def pO (C:Str->Bool)(x:Str):Bool:=decide (2<=x.length)&&decide (x.length<=4)&&x.cps.toList.all λc=>uA C ⟨#[c]⟩
noncomputable def nO (C:Str->Bool)(cs ws:qE):Bool:=decide (ws.length=2)&&(ws.all (λw=>decide (w∈cs))||ws.all (uA C))
noncomputable def fD (C:Str->Bool)(cs:qE):List Str->Bool
 | w::r=>
  if w=("carry" : Str) then jb (w::r)
  else if w=("one" : Str) then nM C (w::r)
  else if w=("long" : Str)\/w=("either" : Str) then decide (0 < r.length)&&r.all λx=>decide (x∈cs)
  else if w=("begin" : Str)\/w=("split" : Str) then decide (0 < r.length)&&r.all (pO C)
  else if w=("run" : Str) then decide (r.length=1)&&r.all λx=>decide (x=("never" : Str)\/x=("may" : Str)\/x=("must" : Str))
  else decide (w=("alike" : Str))&&nO C cs r
 | []=>false
def Few (ws:qE):Prop:=ws.length<=1000/\∀x∈ws,x.length<=1000
noncomputable def LN (ks:qE)(x:Str):Bool:=decide (x∈ks)
theorem wy {x:Str}(h:x.length<=1000):iu [.str x]=some (.bl (isLetter x)):=by
 have h':x.length<=1000000:=by omega
 simp[iu,v7,eqQ,OR,h',isLetter,N0]
 by_cases e:(x.length:Int)=1
 ·have e':x.length=1:=by omega
  simp[e,e']
 ·have e':¬ x.length=1:=by omega
  simp[e,e']
theorem pP {α:Type}(f:α->PV)(w:α)(r:List α):dY ((w::r).map f) (some 1) none=r.map f:=by
 unfold dY
 have h1:HT.ID ((w::r).map f).length 0 (some ((1:Nat):Int))=1:=by
  rw[HT.GA];simp
 have Q2:HT.ID ((w::r).map f).length 0 (some 1)=1:=h1
 rw[Q2,HT.Ki]
 simp only[al,List.drop_succ_cons,ii]
 exact eK (by simp)
theorem mq {α:Type}(p:α->Bool):∀l:List α,bools (l.map λx=>PV.bl (p x))=some (l.map p)
 | []=>rfl
 | x::l=>by simp[mq p l]
variable {w:Str}
theorem Gh {r:qE}(hf:Few (w::r)):eO [.lst ((w::r).map .str)]=some (.bl (jb (w::r))):=by
 have hl:r.length<=1000:=by have:=hf.1;simp at this;omega
 have hc:bJ [none] (gN 0) aZ kh (r.map .str)=some (r.map λx=>.bl (isLetter x)):=
  bI _ _ r λy hy=>⟨_,rfl,by simp[kh,wy (hf.2 y (ah _ hy))]⟩
 have h0:F1 ((w::r).map PV.str) 0=some (.str w):=cu (k:=0) rfl
 have ht:=pP PV.str w r
 simp only[al] at h0 ht
 simp[eO,sS,h0,ht,eqQ,OR,jb]
 by_cases e:w=("carry" : Str)
 ·subst e
  simp
  by_cases e2:(1:Int) < (r.length:Int)+1
  ·have e3:0 < r.length:=by omega
   have MH:r.length<=1000000:=by omega
   simp[e2,e3,hc,MH,mq]
  ·have e3:¬ 0 < r.length:=by omega
   simp[e2,e3]
 ·simp[e]
theorem Mq {x:Str}(h:x.length=2):∃a b,x.cps.toList=[a,b]:=by
 have h':x.cps.toList.length=2:=by rw[aE];exact h
 match hx:x.cps.toList,h' with
 | [a,b],_=>exact⟨a,b,rfl⟩
theorem Tq {ks:qE}{x:Str}(h:x.length<=1000):lC [.dK (F4 ks),.str x]=some (.bl (pairOf (LN ks) x)):=by
 have h':x.length<=1000000:=by omega
 simp[lC,vo,h']
 by_cases e:(x.length:Int)=2
 ·obtain⟨a,c,hs⟩:=Mq (x:=x) (by omega)
  have a0:F1 x.cps.toList 0=some a:=by rw[hs];exact cu (k:=0) rfl
  have a1:F1 x.cps.toList 1=some c:=by rw[hs];exact cu (k:=1) rfl
  have ep:pairOf (LN ks) x=(LN ks ⟨#[a]⟩&&LN ks ⟨#[c]⟩):=by unfold pairOf;rw[hs]
  rw[ep]
  simp[e,a0,a1,mG,LN]
  by_cases m:(⟨#[a]⟩:Str)∈ks <;> simp[m]
 ·have e1:pairOf (LN ks) x=false:=by
   unfold pairOf
   split
   ·rename_i a c hs
    have:x.cps.toList.length=2:=by rw[hs];rfl
    rw[aE] at this
    exact absurd (show ((x.length:Nat):Int)=2 by unfold Str.length;omega) e
   ·rfl
  simp[e,e1]
theorem Mr {ks:qE}{r:qE}(hf:Few (w::r)):gF [.dK (F4 ks),.lst ((w::r).map .str)]=some (.bl (nM (LN ks) (w::r))):=by
 have hl:r.length<=1000:=by have:=hf.1;simp at this;omega
 have hc:bJ [none,some (.dK (F4 ks))] (gN 0) aZ mJ (r.map .str)=some (r.map λx=>.bl (pairOf (LN ks) x)):=
  bI _ _ r λy hy=>⟨_,rfl,by simp[mJ,Tq (hf.2 y (ah _ hy))]⟩
 have h0:F1 ((w::r).map PV.str) 0=some (.str w):=cu (k:=0) rfl
 have ht:=pP PV.str w r
 simp only[al] at h0 ht
 simp[gF,vp,h0,ht,nM]
 by_cases e:w=("one" : Str)
 ·subst e
  simp
  by_cases e2:(1:Int) < (r.length:Int)+1
  ·have e3:0 < r.length:=by omega
   have MH:r.length<=1000000:=by omega
   simp[e2,e3,hc,MH,mq]
  ·have e3:¬ 0 < r.length:=by omega
   simp[e2,e3]
 ·simp[e]
theorem Ih {ks:qE}{x:Str}(h:x.length<=1000):mK [.dK (F4 ks),.str x]=some (.bl (uA (LN ks) x)):=by
 simp[mK,zM,wy h,uA,mG,LN]
 cases isLetter x <;> simp
theorem Bb (x:Str):Q1 x=x.cps.toList.map λc=>PV.str ⟨#[c]⟩:=rfl
theorem JT {ks:qE}{x:Str}(h:x.length<=1000):lD [.dK (F4 ks),.str x]=some (.bl (pO (LN ks) x)):=by
 have h':x.length<=1000000:=by omega
 have hl:x.cps.toList.length=x.length:=aE
 have hc:bJ [none,some (.dK (F4 ks))] (gN 0) aZ mL (Q1 x)=some (x.cps.toList.map λc=>.bl (uA (LN ks) ⟨#[c]⟩)):=by
  rw[Bb]
  exact bI _ _ _ λy hy=>⟨_,rfl,by simp[mL,Ih (ks:=ks) (x:=⟨#[y]⟩) (by show 1<=1000;decide)]⟩
 have RF:(Q1 x).length<=1000000:=by unfold Q1;rw[ac,hl];exact h'
 simp[lD,vq,h',pO]
 by_cases e:(2:Int)<=x.length
 ·have e1:2<=x.length:=by omega
  simp[e,e1]
  by_cases e2:(x.length:Int)<=4
  ·have e3:x.length<=4:=by omega
   simp[e2,e3,hc,RF,mq]
  ·have e3:¬ x.length<=4:=by omega
   simp[e2,e3]
 ·have e1:¬ 2<=x.length:=by omega
  simp[e,e1]
theorem yG (x:Str):∀cs:List Str,((cs.map PV.str).any λy=>ZE y (.str x))=decide (x∈cs)
 | []=>by simp
 | c::r=>by
  have ih:=yG x r
  rw[al,dy,ih]
  by_cases h:c=x
  ·subst h;simp[ZE]
  ·have h':¬ x=c:=λe=>h e.symm
   simp[ZE,h,h']
theorem Cv:∀cs:List Str,(cs.map PV.str).all fJ=true
 | []=>rfl
 | _::r=>by simp[Cv r]
theorem yH (x:Str)(cs:qE):N0 (.str x) (.lst (cs.map .str))=some (decide (x∈cs)):=by
 have h:=yG x cs
 have hf:=Cv cs
 unfold N0
 simp only[hf,h,fJ,and_self,fi]
variable {ws:qE}
theorem Qh {ks cs:qE}(hf:Few ws):gM [.dK (F4 ks),.lst (cs.map .str),.lst (ws.map .str)]=some (.bl (nO (LN ks) cs ws)):=by
 have hl:ws.length<=1000000:=by have:=hf.1;omega
 have h1:bJ [none,some (.lst (cs.map .str))] (gN 0) aZ iT (ws.map .str)=some (ws.map λx=>.bl (decide (x∈cs))):=
  bI _ _ ws λy hy=>⟨_,rfl,by simp[iT,yH]⟩
 have h2:bJ [none,some (.dK (F4 ks))] (gN 0) aZ iU (ws.map .str)=some (ws.map λx=>.bl (uA (LN ks) x)):=
  bI _ _ ws λy hy=>⟨_,rfl,by simp[iU,Ih (hf.2 y hy)]⟩
 simp[gM,pJ,nO]
 by_cases e:(ws.length:Int)=2
 ·have e':ws.length=2:=by omega
  simp[e,e',h1,h2,hl,mq]
  cases (ws.all λx=>decide (x∈cs)) <;> rfl
 ·have e':¬ ws.length=2:=by omega
  simp[e,e']
theorem Qi (ks:qE):(F4 ks).map (λkv=>Eb kv.1)=ks.map PV.str:=by
 unfold F4;rw[bP];rfl
theorem yI {f g:MR.Env->Option Out}{env e:MR.Env}(h:f env=some (.nx e)):aG f g env=g e:=by simp[h]
theorem wz {c:MR.Env->Option Bool}{f g:MR.Env->Option Out}{env:MR.Env}(h:c env=some false):aG (HZ c f HV) g env=g env:=by simp[h]
theorem wA {c:MR.Env->Option Bool}{f g:MR.Env->Option Out}{env:MR.Env}{p:PV}(h:c env=some true)(h':f env=some (.rt p)):aG (HZ c f HV) g env=some (.rt p):=by simp[h,h']
theorem my {env:MR.Env}(h:bV 3 env=some (.str w))(s:Str):tV (b2 eqQ (bV 3) (bC (.str s))) env=some (decide (w=s)):=by
 simp only[Yi,uJ,h,bq,D_,Lg,Ig,er]
theorem xH {env:MR.Env}(h:bV 3 env=some (.str w))(s t:Str):tO (tV (b2 eqQ (bV 3) (bC (.str s)))) (tV (b2 eqQ (bV 3) (bC (.str t)))) env=some (decide (w=s\/w=t)):=by
 rw[Yj,my h,my h]
 by_cases q:w=s <;> simp[q]
theorem oV {f:MR.Env->Option PV}{env:MR.Env}{p:PV}(h:f env=some p):aN f env=some (.rt p):=by simp[h]
theorem Ms {env:MR.Env}{FF:List (Option Nat)}{ce:MR.Env->Option PV}{r:qE}{q:Str->Bool}(h4:bV 4 env=some (.lst (r.map .str)))(hl:r.length<=1000000)(hc:bJ (fK FF env) (gN 0) aZ ce (r.map .str)=some (r.map λx=>.bl (q x))):
  gn (b2 (gq λi j=>decide (j < i)) (b1 F7 (bV 4)) (Fh 0)) (b1 pX (bY FF (iV (bV 4)) (gN 0) aZ ce)) env=some (.bl (decide (0 < r.length)&&r.all q)):=by
 have hbl:=mq q r
 rw[Am,uJ,Js,h4,Js,Pr,Yq,h4]
 simp only[bq,F7,D_,gq,PU,ac,hl,fi,hc,pX,hbl,er]
 cases r with
 | nil=>rfl
 | cons x r=>
  have h1:(0:Int) < ((x::r).length:Int):=by simp
  simp only[h1,decide_true]
  simp
theorem Tr {ks ps:qE}{r:qE}(hf:Few (w::r))(hk:ks.length<=100000)(hp:ps.length<=100000):
  qw [.dK (F4 ks),.dK (F4 ps),.lst ((w::r).map .str)]=some (.bl (fD (LN ks) (ks++ps) (w::r))):=by
 have hl:r.length<=1000:=by have:=hf.1;simp at this;omega
 have MH:r.length<=1000000:=by omega
 have rf:Few r:=⟨hl,λx hx=>hf.2 x (ah _ hx)⟩
 have h0:F1 ((w::r).map PV.str) 0=some (.str w):=cu (k:=0) rfl
 have ht:=pP PV.str w r
 have hC:=Gh hf
 have hO:=Mr (ks:=ks) hf
 have hU:=Qh (ks:=ks) (cs:=ks++ps) rf
 have c1:bJ [none,some (.lst ((ks++ps).map .str))] (gN 0) aZ q9 (r.map .str)=some (r.map λx=>.bl (decide (x∈ks++ps))):=
  bI _ _ r λy hy=>⟨_,rfl,by simp only[q9,b2,bV,NH];simp only[List.set,nK,fA,bq,yH,er]⟩
 have c2:bJ [none,some (.dK (F4 ks))] (gN 0) aZ q_ (r.map .str)=some (r.map λx=>.bl (pO (LN ks) x)):=
  bI _ _ r λy hy=>⟨_,rfl,by simp[q_,JT (rf.2 y hy)]⟩
 have hz:ks.length+ps.length<=1000000:=by omega
 generalize hrow:PV.lst ((w::r).map .str)=row at hC hO
 generalize hcs:ks++ps=cs at c1 hU
 have s1:aK 3 (b2 FI (bV 2) (Fh 0)) [some (.dK (F4 ks)),some (.dK (F4 ps)),some row,none,none,none]=some (.nx [some (.dK (F4 ks)),some (.dK (F4 ps)),some row,some (.str w),none,none]):=by
  subst hrow
  simp only[HW,uJ,bV,fA,nK,bq,D_,FI,h0,List.set]
 have s2:aK 4 (LJ (bV 2) (oS (Fh 1)) oN) [some (.dK (F4 ks)),some (.dK (F4 ps)),some row,some (.str w),none,none]=some (.nx [some (.dK (F4 ks)),some (.dK (F4 ps)),some row,some (.str w),some (.lst (r.map .str)),none]):=by
  subst hrow
  simp[-List.map_cons,ht]
 have s3:aK 5 (b2 cg (b1 qt (bV 0)) (b1 qt (bV 1))) [some (.dK (F4 ks)),some (.dK (F4 ps)),some row,some (.str w),some (.lst (r.map .str)),none]=some (.nx [some (.dK (F4 ks)),some (.dK (F4 ps)),some row,some (.str w),some (.lst (r.map .str)),some (.lst (cs.map .str))]):=by
  subst hcs
  simp[Qi,zF,hz]
 have g3:bV 3 [some (.dK (F4 ks)),some (.dK (F4 ps)),some row,some (.str w),some (.lst (r.map .str)),some (.lst (cs.map .str))]=some (.str w):=rfl
 have g4:bV 4 [some (.dK (F4 ks)),some (.dK (F4 ps)),some row,some (.str w),some (.lst (r.map .str)),some (.lst (cs.map .str))]=some (.lst (r.map .str)):=rfl
 have fb:uT [some (.dK (F4 ks)),some (.dK (F4 ps)),some row,none,none,none]=some (.rt (.bl (fD (LN ks) cs (w::r)))):=by
  have hC':aN (aH eO (Fm 2 aB)) [some (.dK (F4 ks)),some (.dK (F4 ps)),some row,some (.str w),some (.lst (r.map .str)),some (.lst (cs.map .str))]=_:=oV (by rw[Ff];exact hC)
  have hO':aN (aH gF (Fm 0 (Fm 2 aB))) [some (.dK (F4 ks)),some (.dK (F4 ps)),some row,some (.str w),some (.lst (r.map .str)),some (.lst (cs.map .str))]=_:=oV (by rw[Ff];exact hO)
  have a1:=Ms (FF:=[none,some 5]) (q:=λx=>decide (x∈cs)) g4 MH c1
  have a2:=Ms (FF:=[none,some 0]) (q:=λx=>pO (LN ks) x) g4 MH c2
  generalize hE:[some (PV.dK (F4 ks)),some (.dK (F4 ps)),some row,some (.str w),some (.lst (r.map .str)),some (.lst (cs.map .str))]=E at s3 g3 g4 hC' hO' a1 a2
  unfold uT
  rw[yI s1,yI s2,yI s3]
  by_cases n1:w=("carry" : Str)
  ·rw[wA (by rw[my g3,bS n1]) hC']
   simp only[fD,ba n1]
  rw[wz (by rw[my g3,be n1])]
  by_cases n2:w=("one" : Str)
  ·rw[wA (by rw[my g3,bS n2]) hO']
   simp only[fD,ax n1,ba n2]
  rw[wz (by rw[my g3,be n2])]
  by_cases n3:w=("long" : Str)\/w=("either" : Str)
  ·rw[wA (by rw[xH g3,bS n3]) (oV a1)]
   simp only[fD,ax n1,ax n2,ba n3]
  rw[wz (by rw[xH g3,be n3])]
  by_cases n4:w=("begin" : Str)\/w=("split" : Str)
  ·rw[wA (by rw[xH g3,bS n4]) (oV a2)]
   simp only[fD,ax n1,ax n2,ax n3,ba n4]
  rw[wz (by rw[xH g3,be n4])]
  by_cases n5:w=("run" : Str)
  ·have a3:gn (b2 eqQ (b1 F7 (bV 4)) (Fh 1)) (b2 NH (b2 FI (bV 4) (Fh 0)) (bC ut)) E=some (.bl (decide (r.length=1)&&r.all λx=>decide (x=("never" : Str)\/x=("may" : Str)\/x=("must" : Str)))):=by
    rw[Am,uJ,Js,g4,uJ,uJ,g4]
    clear hE
    match r with
    | []=>rfl
    | [x]=>
     have h8:N0 (.str x) ut=some (decide (x=("never" : Str)\/x=("may" : Str)\/x=("must" : Str))):=by
      have q:=yG x ["never","may","must"]
      simp only[al,cp] at q
      unfold ut N0
      simp only[fJ,i9,List.all_nil,Bool.and_self,and_self,fi,q]
      simp
     have h9:F1 [PV.str x] 0=some (.str x):=cu (k:=0) rfl
     simp[h9,h8]
    | x::y::r'=>
     have:¬ ((r'.length:Int)+1+1=1):=by omega
     rfl
   rw[wA (by rw[my g3,bS n5]) (oV a3)]
   simp only[fD,ax n1,ax n2,ax n3,ax n4,ba n5]
  rw[wz (by rw[my g3,be n5])]
  refine oV ?_
  have e:fD (LN ks) cs (w::r)=(decide (w=("alike" : Str))&&nO (LN ks) cs r):=by
   simp only[fD,ax n1,ax n2,ax n3,ax n4,ax n5]
  rw[e,Am,uJ,g3]
  simp only[bq,D_,Lg,Ig,er]
  by_cases n6:w=("alike" : Str)
  ·subst hE
   simp[n6,hU]
  ·simp[n6]
 subst hcs
 simp[qw,fb]
noncomputable def eY (ws:qE):PV:=.lst (ws.map .str)
noncomputable def cC (rs:List (List Str)):List PV:=rs.map eY
theorem Ii {kind:Str}{q:PV}{row:PV}:∀(ws ks:qE),ks.length+ws.length < 1000000->
  bB (gN 4) [4] lM (ws.map .str) [some (.str kind),some q,some (.dK (F4 ks)),some row,none]=some (.nx [some (.str kind),some q,some (.dK (F4 (sJ ks ws))),some row,none])
 | [],ks,_=>rfl
 | w::ws,ks,h=>by
  have h1:(F4 ks).length < 1000000:=by rw[zF];simp at h;omega
  have h2:=FQ ks w
  have ih:=Ii (kind:=kind) (q:=q) (row:=row) ws (uP ks w) (by simp at h;omega)
  have e:sJ ks (w::ws)=sJ (uP ks w) ws:=rfl
  rw[e,← ih]
  simp[bB,lM,h1,Te]
theorem Gi {kind:Str}{q:PV}:∀(rs:List (List Str)) (ks:qE),(∀ws∈rs,ws≠[])->ks.length+total rs < 1000000->
  bB (gN 3) [3,4] dI (cC rs) [some (.str kind),some q,some (.dK (F4 ks)),none,none]=some (.nx [some (.str kind),some q,some (.dK (F4 (rs.foldl (gW kind) ks))),none,none])
 | [],ks,_,_=>rfl
 | []::rs,ks,HL,_=>absurd rfl (HL [] am)
 | (c::r)::rs,ks,HL,h=>by
  have ht:ks.length+(r.length+1)+total rs < 1000000:=by unfold total at h ⊢;simp at h;omega
  have h0:F1 ((c::r).map PV.str) 0=some (.str c):=cu (k:=0) rfl
  have hc:=pP PV.str c r
  simp only[al] at h0 hc
  have key:dI [some (.str kind),some q,some (.dK (F4 ks)),some (eY (c::r)),none]=some (.nx [some (.str kind),some q,some (.dK (F4 (gW kind ks (c::r)))),some (eY (c::r)),none]):=by
   by_cases e:c=kind
   ·subst e
    have hi:=Ii (kind:=c) (q:=q) (row:=eY (c::r)) r ks (by omega)
    simp only[eY,al] at hi
    simp[dI,eY,h0,hc,gW,hi]
   ·simp[dI,eY,h0,hc,gW,e]
  have hl:(gW kind ks (c::r)).length<=ks.length+(r.length+1):=by
   show (if c=kind then sJ ks r else ks).length<=_
   split
   ·have:=v6 r ks;omega
   ·omega
  have ih:=Gi (kind:=kind) (q:=q) rs (gW kind ks (c::r)) (λws Sf=>HL ws (ah _ Sf)) (by omega)
  rw[fI,← ih]
  show bB (gN 3) [3,4] dI (eY (c::r)::cC rs) _=_
  simp[bB,key]
variable {rs:List (List Str)}
theorem qN {kind:Str}(HL:∀ws∈rs,ws≠[])(h:total rs < 1000000):bx [.str kind,.lst (cC rs)]=some (.dK (F4 (tell kind rs))):=by
 have hl:=Gi (kind:=kind) (q:=.lst (cC rs)) rs [] HL (by simpa using h)
 have e:([]:List (Key×PV))=F4 []:=rfl
 simp[bx,uv,e,hl,tell]
noncomputable def xJ (t:Str):List Str->Str
 | c::x::_=>if c=("run" : Str) then x else t
 | _=>t
noncomputable def jo (rs:List (List Str)):Str:=rs.foldl xJ ("never" : Str)
theorem W6 (HL:∀ws∈rs,ws≠[])(hrun:∀r,(("run" : Str)::r)∈rs->r≠[]):lr [.lst (cC rs)]=some (.str (jo rs)):=by
 have hl:=zB (g:=gN 2) (ds:=[2]) (body:=lB) eY (λs:Str=>[some (.lst (cC rs)),some (.str s),none]) xJ rs ("never" : Str) (λws Sf s=>by
  cases ws with
  | nil=>exact absurd rfl (HL _ Sf)
  | cons c r=>
   have h0:F1 ((c::r).map PV.str) 0=some (.str c):=cu (k:=0) rfl
   simp only[al] at h0
   by_cases e:c=("run" : Str)
   ·cases r with
    | nil=>subst e;exact absurd rfl (hrun _ Sf)
    | cons x r=>
     subst e
     have h1:F1 (((("run" : Str)::x::r)).map PV.str) 1=some (.str x):=cu (k:=1) rfl
     simp only[al] at h0 h1
     exact⟨_,_,rfl,by simp[lB,eY,h0,h1];rfl,by (first | rfl | simp[xJ])⟩
   ·refine⟨_,_,rfl,by simp[lB,eY,h0,e];rfl,?_⟩
    cases r <;> (first | rfl | simp[xJ,e]))
 simp[lr,yh,jo]
 unfold cC at hl ⊢
 simp[hl]
noncomputable def Gj (ks:List (Str×Str))(x:Str×Str):List (Str×Str):=if x∈ks then ks else ks++[x]
noncomputable def jc (ks:List (Str×Str)):List Str->List (Str×Str)
 | c::x::y::_=>if c=("alike" : Str) then Gj ks (x,y) else ks
 | _=>ks
noncomputable def RH (rs:List (List Str)):List (Str×Str):=rs.foldl jc []
noncomputable def pk (x:Str×Str):List Key:=[Sum.inr x.1,Sum.inr x.2]
theorem Mt {x y:Str×Str}(h:pk x=pk y):x=y:=by
 obtain⟨a,b⟩:=x
 obtain⟨c,d⟩:=y
 simp[pk] at h
 rw[h.1,h.2]
noncomputable def O0 (ks:List (Str×Str)):List (List Key×PV):=ks.map λx=>(pk x,PV.bl true)
theorem JV (ks:List (Str×Str)):(O0 ks).length=ks.length:=by simp[O0]
theorem Tt (ks:List (Str×Str))(x:Str×Str):jq (O0 ks) (pk x) (.bl true)=O0 (Gj ks x):=by
 have NA:((O0 ks).any λkv=>decide (kv.1=pk x))=decide (x∈ks):=by
  unfold O0
  rw[qc]
  induction ks with
  | nil=>simp
  | cons k r ih=>
   rw[dy,ih]
   by_cases h:k=x
   ·subst h;simp
   ·have h':¬ x=k:=λe=>h e.symm
    have hk:¬ pk k=pk x:=λe=>h (Mt e)
    simp[hk,h']
 unfold jq Gj
 rw[NA]
 by_cases h:x∈ks
 ·rw[ba (by simpa using h),ba h]
  unfold O0
  rw[bP]
  refine ei λy _=>?_
  by_cases e:y=x
  ·subst e;simp
  ·have:¬ pk y=pk x:=λz=>e (Mt z)
   simp[this]
 ·rw[ax (by simpa using h),ax h]
  unfold O0
  simp
theorem Qj (ks:List (Str×Str))(x:Str×Str):(Gj ks x).length<=ks.length+1:=by
 unfold Gj;split <;> simp
theorem Gk (ks:List (Str×Str))(ws:qE):(jc ks ws).length<=ks.length+1:=by
 unfold jc
 split
 ·split
  ·exact Qj _ _
  ·exact ed _ _
 ·exact ed _ _
theorem Ht {ks:List (Str×Str)}{c:Str}{r:qE}(e:¬ c=("alike" : Str)):jc ks (c::r)=ks:=by
 cases r with
 | nil=>rfl
 | cons x r=>
  cases r with
  | nil=>rfl
  | cons y r=>simp[jc,e]
theorem Gm {q:PV}:∀(rs:List (List Str)) (ks:List (Str×Str)),(∀ws∈rs,ws≠[])->(∀r,(("alike" : Str)::r)∈rs->2<=r.length)->ks.length+rs.length < 1000000->
  bB (gN 2) [2] eN (cC rs) [some q,some (.dT (O0 ks)),none]=some (.nx [some q,some (.dT (O0 (rs.foldl jc ks))),none])
 | [],ks,_,_,_=>rfl
 | []::rs,ks,HL,_,_=>absurd rfl (HL [] am)
 | (c::r)::rs,ks,HL,hal,h=>by
  have hk:(O0 ks).length < 1000000:=by rw[JV];omega
  have key:eN [some q,some (.dT (O0 ks)),some (eY (c::r))]=some (.nx [some q,some (.dT (O0 (jc ks (c::r)))),some (eY (c::r))]):=by
   by_cases e:c=("alike" : Str)
   ·subst e
    have h2:=hal r am
    match r,h2 with
    | x::y::r,_=>
     have h0:F1 (((("alike" : Str)::x::y::r)).map PV.str) 0=some (.str "alike"):=cu (k:=0) rfl
     have h1:F1 (((("alike" : Str)::x::y::r)).map PV.str) 1=some (.str x):=cu (k:=1) rfl
     have h2:F1 (((("alike" : Str)::x::y::r)).map PV.str) 2=some (.str y):=cu (k:=2) rfl
     have hp:=Tt ks (x,y)
     simp only[al] at h0 h1 h2
     simp only[pk] at hp
     simp[eN,eY,h0,h1,h2,hk,jc,hp]
   ·have h0:F1 ((c::r).map PV.str) 0=some (.str c):=cu (k:=0) rfl
    simp only[al] at h0
    simp[eN,eY,h0,e,Ht e]
  have hl:=Gk ks (c::r)
  have ih:=Gm (q:=q) rs (jc ks (c::r)) (λws Sf=>HL ws (ah _ Sf)) (λr hr=>hal r (ah _ hr)) (by simp at h;omega)
  rw[fI,← ih]
  show bB (gN 2) [2] eN (eY (c::r)::cC rs) _=_
  simp[bB,key]
theorem Qk (HL:∀ws∈rs,ws≠[])(hal:∀r,(("alike" : Str)::r)∈rs->2<=r.length)(h:rs.length < 1000000):ji [.lst (cC rs)]=some (.dT (O0 (RH rs))):=by
 have hl:=Gm (q:=.lst (cC rs)) rs [] HL hal (by simpa using h)
 have e:([]:List (List Key×PV))=O0 []:=rfl
 simp[ji,vm,e,hl,RH]
noncomputable def jU (z:Str):List Str:=Txt.split z (" " : Str)
noncomputable def aU (cut:List (List Str)):List Str:=tell ("carry" : Str) (cut.filter jb)
noncomputable def pairsOf (cut:List (List Str)):List Str:=tell ("one" : Str) (cut.filter (nM (LN (aU cut))))
noncomputable def aF (cut:List (List Str)):List (Str×PV):=[("carrying",.dK (F4 (aU cut))),("pairs",.dK (F4 (pairsOf cut))),("longs",.dK (F4 (tell ("long" : Str) cut))),("eithers",.dK (F4 (tell ("either" : Str) cut))),
 ("beginnings",.dK (F4 (tell ("begin" : Str) cut))),("splittings",.dK (F4 (tell ("split" : Str) cut))),("running",.str (jo cut)),("likes",.dT (O0 (RH cut)))]
theorem YC (a:PV):List.lookup ("carrying" : Str) (pF "carrying" a [])=some a:=rfl
theorem YD (a b:PV):List.lookup ("carrying" : Str) (pF "pairs" b (pF "carrying" a []))=some a:=rfl
theorem YF (a b:PV):List.lookup ("pairs" : Str) (pF "pairs" b (pF "carrying" a []))=some b:=rfl
theorem W7 {C:Str->Bool}{cs r:qE}(h:fD C cs (("run" : Str)::r)=true):r≠[]:=by
 intro e
 subst e
 have:fD C cs [("run" : Str)]=false:=by
  dsimp only [fD]
  rw[ax (by decide +kernel),ax (by decide +kernel),ax (by decide +kernel),ax (by decide +kernel),ba rfl]
  rfl
 rw[this] at h;cases h
theorem Ql {C:Str->Bool}{cs r:qE}(h:fD C cs (("alike" : Str)::r)=true):2<=r.length:=by
 dsimp only [fD] at h
 rw[ax (by decide +kernel),ax (by decide +kernel),ax (by decide +kernel),ax (by decide +kernel),ax (by decide +kernel)] at h
 simp[nO] at h
 omega
theorem nP (p:List Str->Bool):∀rs:List (List Str),total (rs.filter p)<=total rs
 | []=>aw _
 | ws::rs=>by
  have ih:=nP p rs
  unfold total at *
  rw[List.filter_cons]
  split <;> simp <;> omega
theorem Gn (kind:Str)(rs:List (List Str)):(tell kind rs).length<=total rs:=by
 have:=Cg (kind:=kind) rs []
 simpa [tell] using this
structure RowsOk (cut:List (List Str)):Prop where
 n:cut.length<=1000
 YO:∀ws∈cut,ws≠[]/\Few ws
 tot:total cut<=100000
 good:∀ws∈cut,fD (LN (aU cut)) (aU cut++pairsOf cut) ws=true
theorem Tu {zs:qE}(hz:∀z∈zs,z.length<=1000)(R:RowsOk (zs.map jU)):cY [.lst (zs.map .str)]=some (aF (zs.map jU)):=by
 have c1:bJ [none] (gN 0) aZ eQ (zs.map .str)=some (cC (zs.map jU)):=by
  have h:=bI (env:=[none]) (g:=gN 0) (f:=eQ) PV.str (λz=>eY (jU z)) zs λy hy=>⟨_,rfl,by
   have h1:y.length<=1000000:=by have:=hz y hy;omega
   have h2:¬ (Str.ofString " ").length=0:=by decide +kernel
   simp[eQ,h1,h2,eY,jU]⟩
  rw[h]
  unfold cC
  rw[bP]
  rfl
 have hlz:zs.length<=1000000:=by have:=R.n;rw[ac] at this;omega
 generalize TH:zs.map jU=cut at *
 have hlc:(cC cut).length<=1000000:=by unfold cC;rw[ac];have:=R.n;omega
 have c2:bJ [none] (gN 0) iz iy (cC cut)=some (cC (cut.filter jb)):=
  ir eY eY jb cut λws Sf=>by
   obtain⟨HL,hf⟩:=R.YO ws Sf
   cases ws with
   | nil=>exact absurd rfl HL
   | cons w r=>
    have:=Gh hf
    exact⟨_,rfl,by simp[iz,eY] at this ⊢;simp[this],λ_=>by rfl⟩
 have ne:∀ws∈cut,ws≠[]:=λws h=>(R.YO ws h).1
 have nef:∀p:List Str->Bool,∀ws∈cut.filter p,ws≠[]:=λp ws h=>ne ws (gt.mp h).1
 have tf:∀p:List Str->Bool,total (cut.filter p) < 1000000:=λp=>by have:=nP p cut;have:=R.tot;omega
 have t0:total cut < 1000000:=by have:=R.tot;omega
 have k1:bx [.str "carry",.lst (cC (cut.filter jb))]=some (.dK (F4 (aU cut))):=qN (nef _) (tf _)
 have hC:(aU cut).length<=100000:=by have h1:=Gn ("carry" : Str) (cut.filter jb);have h2:=nP jb cut;have:=R.tot;unfold aU;omega
 have hP:(pairsOf cut).length<=100000:=by have h1:=Gn ("one" : Str) (cut.filter (nM (LN (aU cut))));have h2:=nP (nM (LN (aU cut))) cut;have:=R.tot;unfold pairsOf;omega
 have c3:bJ [none,some (.obj 0 (pF "carrying" (.dK (F4 (aU cut))) []))] (gN 0) iC iB (cC cut)=some (cC (cut.filter (nM (LN (aU cut))))):=
  ir eY eY (nM (LN (aU cut))) cut λws Sf=>by
   obtain⟨HL,hf⟩:=R.YO ws Sf
   cases ws with
   | nil=>exact absurd rfl HL
   | cons w r=>
    have:=Mr (ks:=aU cut) hf
    exact⟨_,rfl,by simp[iC,eY,YC] at this ⊢;simp[this],λ_=>by rfl⟩
 have k2:bx [.str "one",.lst (cC (cut.filter (nM (LN (aU cut)))))]=some (.dK (F4 (pairsOf cut))):=qN (nef _) (tf _)
 have l6:∀q:PV,bB (gT [3,4]) [3,4] iD (dU 0 (cC cut)) [some (.obj 0 (pF "pairs" (.dK (F4 (pairsOf cut))) (pF "carrying" (.dK (F4 (aU cut))) []))),some q,some (.lst (cC cut)),none,none]=
   some (.nx [some (.obj 0 (pF "pairs" (.dK (F4 (pairsOf cut))) (pF "carrying" (.dK (F4 (aU cut))) []))),some q,some (.lst (cC cut)),none,none]):=λq=>by
  unfold cC
  rw[sI]
  refine zE _ _ λy hy=>?_
  have hm:y.1∈cut:=by
   have:=List.mem_zipIdx' hy
   rw[this.2]
   exact e9 _
  obtain⟨HL,hf⟩:=R.YO _ hm
  have hg:=R.good _ hm
  obtain⟨ws,i⟩:=y
  cases ws with
  | nil=>exact absurd rfl HL
  | cons w r=>
   have:=Tr (ks:=aU cut) (ps:=pairsOf cut) hf hC hP
   rw[hg] at this
   simp only[al] at this
   exact⟨_,_,rfl,by simp[iD,eY,YD,YF,this];rfl,by rfl⟩
 have k3:bx [.str "long",.lst (cC cut)]=some (.dK (F4 (tell ("long" : Str) cut))):=qN ne t0
 have k4:bx [.str "either",.lst (cC cut)]=some (.dK (F4 (tell ("either" : Str) cut))):=qN ne t0
 have k5:bx [.str "begin",.lst (cC cut)]=some (.dK (F4 (tell ("begin" : Str) cut))):=qN ne t0
 have k6:bx [.str "split",.lst (cC cut)]=some (.dK (F4 (tell ("split" : Str) cut))):=qN ne t0
 have k7:lr [.lst (cC cut)]=some (.str (jo cut)):=W6 ne λr h=>W7 (R.good _ h)
 have k8:ji [.lst (cC cut)]=some (.dT (O0 (RH cut))):=Qk ne (λr h=>Ql (R.good _ h)) (by have:=R.n;omega)
 have m1:∀a:PV,(pF "carrying" a []).length < 1000:=λa=>by show 1 < 1000;decide
 have m2:∀a b:PV,(pF "pairs" b (pF "carrying" a [])).length < 1000:=λa b=>by show 2 < 1000;decide
 have m3:∀a b c:PV,(pF "longs" c (pF "pairs" b (pF "carrying" a []))).length < 1000:=λa b c=>by show 3 < 1000;decide
 have m4:∀a b c d:PV,(pF "eithers" d (pF "longs" c (pF "pairs" b (pF "carrying" a [])))).length < 1000:=λa b c d=>by show 4 < 1000;decide
 have m5:∀a b c d e:PV,(pF "beginnings" e (pF "eithers" d (pF "longs" c (pF "pairs" b (pF "carrying" a []))))).length < 1000:=λa b c d e=>by show 5 < 1000;decide
 have m6:∀a b c d e f:PV,(pF "splittings" f (pF "beginnings" e (pF "eithers" d (pF "longs" c (pF "pairs" b (pF "carrying" a [])))))).length < 1000:=λa b c d e f=>by show 6 < 1000;decide
 have m7:∀a b c d e f g:PV,(pF "running" g (pF "splittings" f (pF "beginnings" e (pF "eithers" d (pF "longs" c (pF "pairs" b (pF "carrying" a []))))))).length < 1000:=λa b c d e f g=>by show 7 < 1000;decide
 have fin:∀a b c d e f g h:PV,pF "likes" h (pF "running" g (pF "splittings" f (pF "beginnings" e (pF "eithers" d (pF "longs" c (pF "pairs" b (pF "carrying" a [])))))))=([("carrying",a),("pairs",b),("longs",c),("eithers",d),("beginnings",e),("splittings",f),("running",g),("likes",h)]:List (Str×PV)):=λa b c d e f g h=>rfl
 unfold aF
 simp[cY,ou,c1,hlz,c2,hlc,k1,m1,c3,k2,m2,l6,k3,m3,k4,m4,k5,m5,k6,m6,k7,m7,k8,fin]
theorem JW (cut:List (List Str)):List.lookup ("carrying" : Str) (aF cut)=some (.dK (F4 (aU cut))):=rfl
theorem Tv (cut:List (List Str)):List.lookup ("pairs" : Str) (aF cut)=some (.dK (F4 (pairsOf cut))):=rfl
theorem Bc (cut:List (List Str)):List.lookup ("longs" : Str) (aF cut)=some (.dK (F4 (tell ("long" : Str) cut))):=rfl
theorem Cw (cut:List (List Str)):List.lookup ("eithers" : Str) (aF cut)=some (.dK (F4 (tell ("either" : Str) cut))):=rfl
theorem Gp (cut:List (List Str)):List.lookup ("beginnings" : Str) (aF cut)=some (.dK (F4 (tell ("begin" : Str) cut))):=rfl
theorem Gq (cut:List (List Str)):List.lookup ("splittings" : Str) (aF cut)=some (.dK (F4 (tell ("split" : Str) cut))):=rfl
theorem Mu (cut:List (List Str)):List.lookup ("running" : Str) (aF cut)=some (.str (jo cut)):=rfl
theorem wB {α S:Type}{g:PV->MR.Env->Option MR.Env}{ds:qr}{body:MR.Env->Option Out}(c:α->PV)(E:S->MR.Env)(step:S->α->S)(sz:S->Nat)(wt:α->Nat)(B:Nat)(I:S->Prop):∀(ys:List α) (s:S),I s->sz s+(ys.map wt).sum<=B->
  (∀y∈ys,∀s,I s->sz s+wt y<=B->sz (step s y)<=sz s+wt y/\I (step s y)/\turn g ds body (c y) (E s)=some (E (step s y)))->
  bB g ds body (ys.map c) (E s)=some (.nx (E (ys.foldl step s)))
 | [],s,_,_,_=>rfl
 | y::ys,s,i,hb,hh=>by
  simp at hb
  obtain⟨h0,hI,h1⟩:=hh y am s i (by omega)
  have ih:=wB c E step sz wt B I ys (step s y) hI (by omega) λz hz=>hh z (ah _ hz)
  rw[al,dg h1,ih,fI]
theorem Gr {α:Type}:∀ys:List α,(ys.map λ_=>1).sum=ys.length
 | []=>rfl
 | _::ys=>by simp[Gr ys];omega
noncomputable def pick (l:qE)(i:Int):Str:=l.getD i.toNat ⟨#[]⟩
theorem uB {l:qE}{i:Int}(h0:0<=i)(h1:i < l.length):F1 (l.map PV.str) i=some (.str (pick l i)):=by
 have h:i.toNat < l.length:=by omega
 rw[Ay h0 (by rw[ac];exact h1),b0]
 unfold pick
 rw[gg,aT h]
 rfl
theorem rF {l:qE}{i:Int}(h0:0<=i)(h1:i < l.length):pick l i∈l:=by
 have h:i.toNat < l.length:=by omega
 unfold pick
 rw[gg,aT h]
 exact e9 h
theorem rG (n:Nat):(cH 0 (n:Int)).length=n:=by rw[jM];simp
theorem rH {k:Nat}(h:k<=1000):N1 (k:Int)=true:=Fp (by omega) (by omega)
theorem Dn {n:Nat}(h:97<=n)(h':n < 123):isLetter ⟨#[n]⟩=true:=by
 have key:∀m:Fin 26,isLetter ⟨#[97+m.val]⟩=true:=by decide +kernel
 have:=key ⟨n - 97,by omega⟩
 rwa [show 97+(n - 97)=n by omega] at this
structure Rc where
 FL:List Str
 pairs:List Str
 KS:List Str
 HM:List Str
 IE:List Str
 splits:List Str
 run:Str
structure Rc.Good (R:Rc):Prop where
 one:∀w∈R.FL,∃c,w=⟨#[c]⟩
 prs:∀w∈R.pairs,∃a∈R.FL,∃b∈R.FL,w=a++b
theorem jd (a b:Str):(a++b).length=a.length+b.length:=by
 unfold Str.length
 rw[ij]
 simp
theorem sX (a b:Str):(a++b).cps.toList=a.cps.toList++b.cps.toList:=by
 rw[ij]
 simp
theorem Mv {α:Type}(f:α->PV)(l:List α)(m:Nat)(h:m<=l.length):dY (l.map f) none (some (m:Int))=(l.take m).map f:=by
 unfold dY
 rw[HT.GA,HT.Ki]
 simp only[ac]
 rw[gE h]
 simp
def KP (w:Str):Prop:=∀c∈w.cps.toList,97<=c/\c < 123
theorem KP.ok (h:KP w):PyData.strOk w=true:=by
 unfold PyData.strOk
 rw[← Array.all_toList,cr]
 intro c hc
 have:=h c hc
 simp;omega
theorem gQ (x:Str)(lo hi:Option Int):(cT x lo hi).cps.toList=(x.cps.toList.drop (HT.ID x.length 0 lo)).take (HT.ID x.length x.length hi - HT.ID x.length 0 lo):=by simp[cT]
theorem Qm (x:Str)(lo hi:Option Int):(cT x lo hi).length<=x.length:=by
 have h:=c5 List.length (gQ x lo hi)
 have h1:(cT x lo hi).cps.toList.length=(cT x lo hi).length:=aE
 have h2:x.cps.toList.length=x.length:=aE
 rw[h1,eW,dA,h2] at h
 omega
theorem KP.app {a b:Str}(ha:KP a)(hb:KP b):KP (a++b):=λc hc=>by
 rw[sX] at hc
 exact(bv.mp hc).elim (ha c) (hb c)
structure F2 (R:Rc)(w:Str):Prop where
 t:KP w
 l:w.length<=24
 c:∃s∈w.cps.toList,(⟨#[s]⟩:Str)∈R.FL
noncomputable def runOf (R:Rc):Str:=if R.run=("" : Str) then ("never" : Str) else R.run
theorem zT (cut:List (List Str))(x:Str):bh [.obj 0 (aF cut),.str x]=some (.bl (decide (x∈aU cut))):=by
 simp[bh,pK,JW,mG]
theorem Cy (cut:List (List Str))(x:Str):d9 [.obj 0 (aF cut),.str x]=some (.bl (decide (x∈pairsOf cut))):=by
 simp[d9,pM,Tv,mG]
theorem nQ (cut:List (List Str)):List.lookup ("carries" : Str) (aF cut)=none:=rfl
theorem Cz (cut:List (List Str)):List.lookup ("is_pair" : Str) (aF cut)=none:=rfl
theorem zU {c:MR.Env->Option Bool}{ds:qr}{body:MR.Env->Option Out}{n:Nat}{env e:MR.Env}(h:c env=some true)(h':body env=some (.nx e)):jy c ds body (n+1) env=jy c ds body n (Kk ds e):=by simp[jy,h,h']
theorem uV {c:MR.Env->Option Bool}{ds:qr}{body:MR.Env->Option Out}{n:Nat}{env:MR.Env}(h:c env=some false):jy c ds body (n+1) env=some (.nx env):=by simp[jy,h]
section
variable {R:Rc}(G:R.Good)
noncomputable def P6 (w:Str)(a:Nat)(k:Nat):Str:=cT w (some (a:Int)) (some ((a:Int)+(k:Int)))
noncomputable def ME (R:Rc)(w:Str)(a:Nat):Nat:=if P6 w a 2∈R.pairs then 2 else 1
noncomputable def un (R:Rc)(w:Str):Nat->Nat->List Str
 | 0,_=>[]
 | n+1,a=>if a < w.length then P6 w a (ME R w a)::un R w n (a+ME R w a) else []
theorem Ij (w:Str)(a:Nat):1<=ME R w a:=by unfold ME;split <;> omega
include G
theorem Gu {x:Str}(h:x∈R.pairs):x.length=2:=by
 obtain⟨a,ha,b,hb,e⟩:=G.prs x h
 obtain⟨i,ea⟩:=G.one a ha
 obtain⟨j,eb⟩:=G.one b hb
 rw[e,jd,ea,eb];rfl
theorem Mw {a:Nat}(h:a < w.length):a+ME R w a<=w.length:=by
 unfold ME
 split
 ·rename_i hm
  have h2:=Gu G hm
  have hl:=c5 List.length (gQ w (some (a:Int)) (some ((a:Int)+2)))
  have h1:(cT w (some (a:Int)) (some ((a:Int)+2))).cps.toList.length=(cT w (some (a:Int)) (some ((a:Int)+2))).length:=aE
  have h3:(cT w (some (a:Int)) (some ((a:Int)+2))).length=2:=h2
  have e2:(some ((a:Int)+2))=some (((a+2:Nat)):Int):=rfl
  rw[h1,h3,eW,e2,HT.GA,HT.GA] at hl
  omega
 ·omega
variable {cut:List (List Str)}(hc:∀y,y∈aU cut↔y∈R.FL)(hp:∀y,y∈pairsOf cut↔y∈R.pairs)
include hc
theorem wC (W:F2 R w):qz [.obj 0 (aF cut),.str w]=some (.bl true):=by
 have hl:=W.l
 have h6:w.length<=1000000:=by omega
 have RU:w.cps.toList.length=w.length:=aE
 have RF:(Q1 w).length<=1000000:=by unfold Q1;rw[ac,RU];omega
 have h24:¬ (24:Int) < (w.length:Int):=by omega
 have h24':¬ 24 < w.length:=by omega
 have k1:bJ [none] (gN 0) aZ mQ (Q1 w)=some ((w.cps.toList.map λ_=>true).map .bl):=by
  rw[Bb]
  have h:=bI (env:=[none]) (g:=gN 0) (f:=mQ) (λs:Nat=>PV.str ⟨#[s]⟩) (λ_=>.bl true) w.cps.toList λs hs=>⟨_,rfl,by
   have h1:=wy (x:=⟨#[s]⟩) (by show 1<=1000;decide)
   rw[Dn (W.t s hs).1 (W.t s hs).2] at h1
   simp[mQ,h1]⟩
  rw[h,bP];rfl
 have k2:bJ [none,some (.obj 0 (aF cut))] (gN 0) aZ mR (Q1 w)=some ((w.cps.toList.map λs=>decide ((⟨#[s]⟩:Str)∈aU cut)).map .bl):=by
  rw[Bb]
  have h:=bI (env:=[none,some (.obj 0 (aF cut))]) (g:=gN 0) (f:=mR) (λs:Nat=>PV.str ⟨#[s]⟩) (λs=>.bl (decide ((⟨#[s]⟩:Str)∈aU cut))) w.cps.toList λs hs=>⟨_,rfl,by
   simp[mR,nQ,zT]⟩
  rw[h,bP];rfl
 have NA:((w.cps.toList.map λs=>decide ((⟨#[s]⟩:Str)∈aU cut)).any id)=true:=by
  obtain⟨s,hs,hm⟩:=W.c
  rw[lc]
  exact⟨true,bn.mpr ⟨s,hs,bS ((hc _).mpr hm)⟩,rfl⟩
 have Lv:((w.cps.toList.map λ_=>true).all id)=true:=by
  rw[cr]
  intro b hb
  obtain⟨_,_,e⟩:=bn.mp hb
  rw[← e];rfl
 have bb:∀bs:List Bool,bools (bs.map PV.bl)=some bs:=by
  intro bs
  induction bs with
  | nil=>rfl
  | cons b bs ih=>simp[bools,ih]
 generalize (w.cps.toList.map λ_=>true)=b1' at k1 Lv
 generalize (w.cps.toList.map λs=>decide ((⟨#[s]⟩:Str)∈aU cut))=b2' at k2 NA
 simp[qz,zO,LX,h6,h24,h24',k1,k2,RF,bb,Lv,NA]
include hp
theorem JX (W:F2 R w):lu [.obj 0 (aF cut),.str w]=some (.lst ((un R w 24 0).map .str)):=by
 have hl:=W.l
 have h6:w.length<=1000000:=by omega
 have hr:bL [.obj 0 (aF cut),.str w]=some .FE:=by
  have:=wC G hc W
  simp[bL,g8,this]
 have loop:∀(n a:Nat) (us:qE) (N:Nat),a<=w.length->w.length - a<=n->n < N->us.length+n<=1000->
   jy gH [4] gG N [some (.obj 0 (aF cut)),some (.str w),some (.lst (us.map .str)),some (.int a),none]=some (.nx [some (.obj 0 (aF cut)),some (.str w),some (.lst ((us++un R w n a).map .str)),some (.int w.length),none]):=by
  intro n
  induction n with
  | zero=>
   intro a us N ha hn hN hu
   obtain⟨N,rfl⟩:∃M,N=M+1:=⟨N - 1,by omega⟩
   have e:a=w.length:=by omega
   rw[uV (by simp[gH,h6,e]),e]
   simp[un]
  | succ n ih=>
   intro a us N ha hn hN hu
   obtain⟨N,rfl⟩:∃M,N=M+1:=⟨N - 1,by omega⟩
   by_cases h:a < w.length
   ·have hsz:=Mw G h
    have hs1:=Ij (R:=R) w a
    have hb:gG [some (.obj 0 (aF cut)),some (.str w),some (.lst (us.map .str)),some (.int a),none]=some (.nx [some (.obj 0 (aF cut)),some (.str w),some (.lst ((us++[P6 w a (ME R w a)]).map .str)),some (.int ((a+ME R w a:Nat):Int)),some (.int (ME R w a:Nat))]):=by
     have hu':us.length < 1000000:=by omega
     by_cases hm:P6 w a 2∈R.pairs
     ·have hq:cT w (some (a:Int)) (some ((a:Int)+2))∈pairsOf cut:=(hp _).mpr hm
      have hz:ME R w a=2:=ba hm
      rw[hz]
      simp[gG,Cz,Cy,h6,hq,hu',P6]
     ·have hq:¬ cT w (some (a:Int)) (some ((a:Int)+2))∈pairsOf cut:=λz=>hm ((hp _).mp z)
      have hz:ME R w a=1:=ax hm
      rw[hz]
      simp[gG,Cz,Cy,h6,hq,hu',P6]
    have hi:(a:Int) < (w.length:Int):=by omega
    rw[zU (by simp[gH,h6,hi,h]) hb]
    have:=ih (a+ME R w a) (us++[P6 w a (ME R w a)]) N hsz (by omega) (by omega) (by simp;omega)
    have e:un R w (n+1) a=P6 w a (ME R w a)::un R w n (a+ME R w a):=by
     rw[un,ba h]
    rw[e]
    rw[da,List.singleton_append] at this
    exact this
   ·have e:a=w.length:=by omega
    have e2:un R w (n+1) a=[]:=by rw[un,ax h]
    rw[uV (by simp[gH,h6,e]),e2,e]
    simp
 have l0:=loop 24 0 [] 1000000 (by omega) (by omega) (by omega) (by simp)
 have s1:xm (aH bL (Fm 0 (Fm 1 aB))) [some (.obj 0 (aF cut)),some (.str w),none,none,none]=some (.nx [some (.obj 0 (aF cut)),some (.str w),none,none,none]):=by simp[hr]
 have s2:aK 2 (bD aB) [some (.obj 0 (aF cut)),some (.str w),none,none,none]=some (.nx [some (.obj 0 (aF cut)),some (.str w),some (.lst []),none,none]):=by rfl
 have s3:aK 3 (Fh 0) [some (.obj 0 (aF cut)),some (.str w),some (.lst []),none,none]=some (.nx [some (.obj 0 (aF cut)),some (.str w),some (.lst []),some (.int 0),none]):=by rfl
 have s4:vX 1000000 gH [4] gG [some (.obj 0 (aF cut)),some (.str w),some (.lst []),some (.int 0),none]=some (.nx [some (.obj 0 (aF cut)),some (.str w),some (.lst ((un R w 24 0).map .str)),some (.int w.length),none]):=by
  rw[Lr]
  exact l0
 have e:tL [some (.obj 0 (aF cut)),some (.str w),none,none,none]=some (.rt (.lst ((un R w 24 0).map .str))):=by
  unfold tL
  rw[bG s1,bG s2,bG s3,bG s4]
  rfl
 simp[lu,e]
end
theorem CG {α:Type}(f:α->PV)(l:List α)(x:α):dY ((l++[x]).map f) none (some (-1))=l.map f:=by
 unfold dY
 have e1:HT.ID ((l++[x]).map f).length 0 none=0:=rfl
 have e2:HT.ID ((l++[x]).map f).length ((l++[x]).map f).length (some (-1))=l.length:=by
  show (if (-1:Int) < 0 then ((-1:Int)+(((l++[x]).map f).length:Int)).toNat else min (-1:Int).toNat ((l++[x]).map f).length)=l.length
  rw[ba (by decide)]
  simp
  omega
 rw[e1,e2]
 simp
noncomputable def tQ (u:Str):Str:=⟨#[u.cps.toList.headD 0]⟩
noncomputable def dN (R:Rc)(u:Str):Bool:=decide (tQ u∈R.FL)
section
variable {R:Rc}(G:R.Good)
theorem CJ (w:Str)(a k:Nat):(P6 w a k).cps.toList=(w.cps.toList.drop a).take k:=by
 have hl:w.cps.toList.length=w.length:=aE
 unfold P6
 rw[gQ,show ((a:Int)+(k:Int))=((a+k:Nat):Int) from rfl,HT.GA,HT.GA]
 by_cases h:a<=w.length
 ·rw[gE h]
  by_cases h2:a+k<=w.length
  ·rw[gE h2,Nat.add_sub_cancel_left]
  ·rw[nN (by omega)]
   rw[eK (by rw[dA,hl];omega),eK (by rw[dA,hl];omega)]
 ·have e1:w.cps.toList.drop a=[]:=eg (by omega)
  have e2:w.cps.toList.drop (min a w.length)=[]:=eg (by omega)
  rw[e1,e2]
  simp
noncomputable def flat (us:qE):List Nat:=(us.map λu=>u.cps.toList).flatten
include G
theorem xK {w:Str}:∀(n a:Nat),w.length - a<=n->a<=w.length->flat (un R w n a)=w.cps.toList.drop a
 | 0,a,h1,h2=>by
  have hl:w.cps.toList.length=w.length:=aE
  rw[eg (by omega)]
  rfl
 | n+1,a,h1,h2=>by
  have hl:w.cps.toList.length=w.length:=aE
  by_cases h:a < w.length
  ·have hsz:=Mw G h
   have hs1:=Ij (R:=R) w a
   have e:un R w (n+1) a=P6 w a (ME R w a)::un R w n (a+ME R w a):=by rw[un,ba h]
   have ih:=xK (w:=w) n (a+ME R w a) (by omega) hsz
   have ef:flat (P6 w a (ME R w a)::un R w n (a+ME R w a))=(P6 w a (ME R w a)).cps.toList++flat (un R w n (a+ME R w a)):=rfl
   rw[e,ef,ih,CJ,← List.drop_drop,ow]
  ·have e:un R w (n+1) a=[]:=by rw[un,ax h]
   rw[e,eg (by omega)]
   rfl
theorem uW {w:Str}:∀(n a:Nat),∀u∈un R w n a,u∈R.pairs\/∃c,u=⟨#[c]⟩
 | 0,_,u,h=>by cases h
 | n+1,a,u,h=>by
  unfold un at h
  split at h
  ·rename_i LI
   rcases aI.mp h with e | h
   ·by_cases hm:P6 w a 2∈R.pairs
    ·have hz:ME R w a=2:=ba hm
     rw[hz] at e
     rw[e]
     exact .inl hm
    ·have hz:ME R w a=1:=ax hm
     rw[hz] at e
     have hl:w.cps.toList.length=w.length:=aE
     have hc:=CJ w a 1
     rw[i3 (by omega:a < w.cps.toList.length),List.take_succ_cons,List.take_zero] at hc
     refine .inr ⟨w.cps.toList[a],?_⟩
     rw[e]
     generalize P6 w a 1=z at hc
     cases z with
     | mk cps=>
      congr 1
      exact Array.toList_inj.mp hc
   ·exact uW n _ u h
  ·cases h
theorem yJ {u:Str}(h:u∈R.pairs):dN R u=true/\u.length=2:=by
 refine⟨?_,Gu G h⟩
 obtain⟨a,ha,b,hb,e⟩:=G.prs u h
 obtain⟨i,ea⟩:=G.one a ha
 have hf:tQ u=a:=by
  rw[e,ea]
  unfold tQ
  rw[ij,i5]
  rfl
 unfold dN
 rw[hf]
 exact bS ha
theorem Gv (W:F2 R w):∃u∈un R w 24 0,dN R u=true:=by
 obtain⟨s,hs,hm⟩:=W.c
 have hj:=xK G (w:=w) 24 0 (by have:=W.l;omega) (by omega)
 rw[ii] at hj
 rw[← hj] at hs
 obtain⟨l,hl,Mn⟩:=List.mem_flatten.mp hs
 obtain⟨u,hu,rfl⟩:=bn.mp hl
 refine⟨u,hu,?_⟩
 rcases uW G 24 0 u hu with z | ⟨c,z⟩
 ·exact(yJ G z).1
 ·rw[z] at Mn ⊢
  have:s=c:=by simpa using Mn
  subst this
  exact bS hm
end
theorem xM {x y:Str}(h:x.cps.toList=y.cps.toList):x=y:=by
 cases x;cases y
 congr 1
 exact Array.toList_inj.mp h
noncomputable def OE (w:Str)(a:Nat):Str:=cT w (some (a:Int)) none
theorem Mx (w:Str)(a:Nat):(OE w a).cps.toList=w.cps.toList.drop a:=by
 have hl:w.cps.toList.length=w.length:=aE
 unfold OE
 rw[gQ,HT.GA,HT.Ki]
 by_cases h:a<=w.length
 ·rw[gE h,eK (by rw[dA,hl];omega)]
 ·rw[eg (by omega:w.cps.toList.length<=a),nN (by omega)]
  simp
theorem Mz (x y z:Str):(x++y)++z=x++(y++z):=by
 cases x;cases y;cases z
 show Str.mk _=Str.mk _
 simp[ij,Array.append_assoc]
theorem Ik (x:Str):("" : Str)++x=x:=by
 apply xM
 have e0:("" : Str).cps.toList=[]:=by decide +kernel
 rw[ij,i5,e0]
 rfl
theorem Il (x:Str):x++("" : Str)=x:=by
 apply xM
 have e0:("" : Str).cps.toList=[]:=by decide +kernel
 rw[ij,i5,e0,bp]
noncomputable def cA (R:Rc):List Str->Str×List (Str×Str)
 | []=>("",[])
 | v::us=>if dN R v=true then ("",(v,(cA R us).1)::(cA R us).2) else (v++(cA R us).1,(cA R us).2)
theorem uX (R:Rc):∀us:List Str,(cA R us).2.map (·.1)=us.filter (dN R)
 | []=>rfl
 | v::us=>by
  have ih:=uX R us
  unfold cA
  by_cases h:dN R v=true
  ·rw[ba h,List.filter_cons_of_pos h,al,ih]
  ·rw[ax h,List.filter_cons_of_neg h]
   exact ih
theorem Gw (R:Rc):∀us:List Str,(cA R us).2.length<=us.length
 | []=>aw _
 | v::us=>by
  have ih:=Gw R us
  unfold cA
  split
  ·simp;exact ih
  ·simp;omega
noncomputable def bindG (l:List (Str×Str)):List Nat:=(l.map λx=>x.1.cps.toList++x.2.cps.toList).flatten
theorem wD (R:Rc):∀us:List Str,(cA R us).1.cps.toList++bindG (cA R us).2=flat us
 | []=>by
  have e0:("" : Str).cps.toList=[]:=by decide +kernel
  show ("" : Str).cps.toList++[]=[]
  rw[e0]
  rfl
 | v::us=>by
  have ih:=wD R us
  have ef:flat (v::us)=v.cps.toList++flat us:=rfl
  have e0:("" : Str).cps.toList=[]:=by decide +kernel
  unfold cA
  rw[ef,← ih]
  by_cases h:dN R v=true
  ·rw[ba h]
   simp only[e0,gx]
   show (v.cps.toList++(cA R us).1.cps.toList)++bindG (cA R us).2=_
   rw[da]
  ·rw[ax h]
   simp only
   rw[ij,i5,da]
section
variable {R:Rc}(G:R.Good){cut:List (List Str)}(hc:∀y,y∈aU cut↔y∈R.FL)(hp:∀y,y∈pairsOf cut↔y∈R.pairs)
include G
theorem yK {u:Str}(hm:u∈un R w 24 0):FI (.str u) (.int 0)=some (.str (tQ u))/\u.length<=2:=by
 have hlen:u.length<=2:=by
  rcases uW G 24 0 u hm with z | ⟨c,z⟩
  ·have:=(yJ G z).2;omega
  ·rw[z];show 1<=2;decide
 have HL:∃c cs,u.cps.toList=c::cs:=by
  rcases uW G 24 0 u hm with z | ⟨c,z⟩
  ·have h2:=(yJ G z).2
   have hl:u.cps.toList.length=u.length:=aE
   cases q:u.cps.toList with
   | nil=>rw[q] at hl;simp at hl;omega
   | cons c cs=>exact⟨c,cs,rfl⟩
  ·rw[z];exact⟨c,[],rfl⟩
 obtain⟨c,cs,hcs⟩:=HL
 have h6:u.length<=1000000:=by omega
 refine⟨?_,hlen⟩
 unfold tQ
 simp[h6,hcs]
include hc
omit G in
theorem Bd (u:Str):bh [.obj 0 (aF cut),.str (tQ u)]=some (.bl (dN R u)):=by
 have hcar:=zT cut (tQ u)
 have hd:decide (tQ u∈aU cut)=dN R u:=by
  unfold dN
  exact li.mpr (hc _)
 rw[hd] at hcar
 exact hcar
theorem MF {us:qE}(hus:∀u∈us,u∈un R w 24 0)(hl:us.length<=24):iH [.obj 0 (aF cut),.lst (us.map .str)]=some (.lst (((cA R us).2.map (·.1)).map .str)):=by
 have OB:=ir (env:=[none,some (.obj 0 (aF cut))]) (g:=gN 0) (t:=lQ) (f:=lO) PV.str PV.str (dN R) us λu hu=>⟨[some (.str u),some (.obj 0 (aF cut))],rfl,by
  have h1:=(yK G (hus u hu)).1
  have h2:=Bd hc u
  simp[lQ,-FI,h1,nQ,h2],λ_=>by simp[lO]⟩
 rw[← uX] at OB
 have q:(us.map PV.str).length<=1000000:=by rw[ac];omega
 unfold iH uw
 generalize us.map PV.str=US,((cA R us).2.map (·.1)).map PV.str=CS at *
 simp[q,OB]
theorem MJ {v:Str}(hv:v∈un R w 24 0){x:PV}{Gs:qE}{c:Str}(hg:Gs.length < 900)(RF:c.length<=1000):
  turn (gN 3) [3] gf (.str v) [some (.obj 0 (aF cut)),some x,some (.lst ((Gs++[c]).map .str)),none]=
   some [some (.obj 0 (aF cut)),some x,some (.lst ((if dN R v=true then (Gs++[c])++[("" : Str)] else Gs++[c++v]).map .str)),none]:=by
 obtain⟨h1,hvl⟩:=yK G hv
 have h2:=Bd hc v
 have hll:(Gs++[c]).length < 1000000:=by simp;omega
 have Mo:NW ((Gs++[c]).map PV.str).length (-1)=some Gs.length:=by
  unfold NW
  rw[ax (by decide),ba (by simp;omega)]
  simp
  omega
 have hix:FI (.lst ((Gs++[c]).map PV.str)) (.int (-1))=some (.str c):=by
  show F1 ((Gs++[c]).map PV.str) (-1)=_
  unfold F1
  rw[Mo]
  simp
 have hset:((Gs++[c]).map PV.str).set Gs.length (.str (c++v))=(Gs++[c++v]).map PV.str:=by
  simp[List.set_append]
 have hcv:c.length+v.length<=1000000:=by omega
 by_cases h:dN R v=true
 ·rw[h] at h2
  rw[ba h,bm (l₁:=Gs++[c])]
  have hlm:((Gs++[c]).map PV.str).length < 1000000:=by rw[ac];exact hll
  generalize (Gs++[c]).map PV.str=GC at *
  simp[aX,gf,-FI,h1,nQ,h2,hlm]
 ·have h0:dN R v=false:=by cases z:dN R v with | true=>exact absurd z h | false=>rfl
  rw[h0] at h2
  rw[ax h,← hset]
  generalize (Gs++[c]).map PV.str=GC at *
  simp[aX,gf,-FI,h1,nQ,h2,hix,hcv,ik,Mo]
end
noncomputable def xN (R:Rc)(s:List Str×Str)(v:Str):List Str×Str:=if dN R v=true then (s.1++[s.2], "") else (s.1,s.2++v)
theorem zV (R:Rc):∀(us:qE) (s:List Str×Str),(us.foldl (xN R) s).1++[(us.foldl (xN R) s).2]=s.1++(s.2++(cA R us).1)::(cA R us).2.map (·.2)
 | [],s=>by
  show s.1++[s.2]=s.1++(s.2++("" : Str))::[]
  rw[Il]
 | v::us,s=>by
  rw[fI,zV R us]
  have e:cA R (v::us)=if dN R v=true then (("" : Str),(v,(cA R us).1)::(cA R us).2) else (v++(cA R us).1,(cA R us).2):=rfl
  rw[e]
  unfold xN
  generalize cA R us=sg
  by_cases h:dN R v=true
  ·rw[ba h,ba h]
   simp only[Ik,Il,al,da]
   rfl
  ·rw[ax h,ax h]
   simp only[Mz]
section
variable {R:Rc}(G:R.Good){cut:List (List Str)}(hc:∀y,y∈aU cut↔y∈R.FL)
include G hc
theorem MK {us:qE}(hus:∀u∈us,u∈un R w 24 0)(hl:us.length<=24):mX [.obj 0 (aF cut),.lst (us.map .str)]=some (.lst (((cA R us).1::(cA R us).2.map (·.2)).map .str)):=by
 have hf:=wB (g:=gN 3) (ds:=[3]) (body:=gf) PV.str (λs:List Str×Str=>[some (.obj 0 (aF cut)),some (.lst (us.map .str)),some (.lst ((s.1++[s.2]).map .str)),none]) (xN R) (λs=>s.1.length*2+s.2.length) (λ_=>2) 800 (λ_=>True) us ([], "") trivial
  (by
   have:(us.map λ_=>2).sum=us.length*2:=by
    have gen:∀l:List Str,(l.map λ_=>2).sum=l.length*2:=by
     intro l
     induction l with
     | nil=>rfl
     | cons a l ih=>simp[ih];omega
    exact gen us
   have e0:("" : Str).length=0:=by decide +kernel
   rw[this]
   simp only[eM,Nat.zero_mul,e0]
   omega) λv hv s _ hs=>⟨by
    have hvl:=(yK G (hus v hv)).2
    have e0:("" : Str).length=0:=by decide +kernel
    unfold xN
    split
    ·simp only[a9,kT,e0];omega
    ·simp only[jd];omega,trivial,by
    have:=MJ G hc (hus v hv) (x:=.lst (us.map .str)) (Gs:=s.1) (c:=s.2) (by omega) (by omega)
    rw[this]
    unfold xN
    split <;> rfl⟩
 rw[zV,Ik] at hf
 have hf:bB (gN 3) [3] gf (us.map .str) [some (.obj 0 (aF cut)),some (.lst (us.map .str)),some (.lst [.str ""]),none]=some (.nx [some (.obj 0 (aF cut)),some (.lst (us.map .str)),some (.lst (((cA R us).1::(cA R us).2.map (·.2)).map .str)),none]):=hf
 have hb:qC [some (.obj 0 (aF cut)),some (.lst (us.map .str)),none,none]=some (.rt (.lst (((cA R us).1::(cA R us).2.map (·.2)).map .str))):=by
  unfold qC
  generalize gf=BB,us.map PV.str=US,((cA R us).1::(cA R us).2.map (·.2)).map PV.str=GS at *
  simp[hf]
 unfold mX
 generalize qC=B,us.map PV.str=US,((cA R us).1::(cA R us).2.map (·.2)).map PV.str=GS at *
 simp[hb]
end
theorem MN {R:Rc}{cut:List (List Str)}(hb:∀y,y∈tell ("begin" : Str) cut↔y∈R.IE)(x:Str):fj [.obj 0 (aF cut),.str x]=some (.bl (decide (x∈R.IE))):=by
 have:decide (x∈tell ("begin" : Str) cut)=decide (x∈R.IE):=li.mpr (hb x)
 simp[fj,qg,Gp,mG,this]
theorem CK {R:Rc}{cut:List (List Str)}(hb:∀y,y∈tell ("split" : Str) cut↔y∈R.splits)(x:Str):cV [.obj 0 (aF cut),.str x]=some (.bl (decide (x∈R.splits))):=by
 have:decide (x∈tell ("split" : Str) cut)=decide (x∈R.splits):=li.mpr (hb x)
 simp[cV,qe,Gq,mG,this]
theorem CN (cut:List (List Str)):List.lookup ("begins" : Str) (aF cut)=none:=rfl
theorem sY (cut:List (List Str)):List.lookup ("splits" : Str) (aF cut)=none:=rfl
noncomputable def NJ (g:Str)(k:Nat):Str:=cT g none (some (k:Int))
theorem sZ (g:Str)(k:Nat):(NJ g k).cps.toList=g.cps.toList.take k:=by
 have hl:g.cps.toList.length=g.length:=aE
 unfold NJ
 rw[gQ,HT.Ki,HT.GA,ii,Nat.sub_zero,ox,hl,Nat.min_assoc,Nat.min_self]
theorem Tw (g:Str)(k:Nat):(NJ g k).length=min k g.length:=by
 have hl:g.cps.toList.length=g.length:=aE
 have h2:(NJ g k).cps.toList.length=(NJ g k).length:=aE
 rw[← h2,sZ,eW,hl]
noncomputable def stF (R:Rc)(g:Str):Nat->Option Nat
 | 0=>none
 | n+1=>if OE g (g.length - (n+1))∈R.IE then some (g.length - (n+1)) else stF R g n
noncomputable def stN (R:Rc)(g:Str):Nat:=if g∈R.splits then 0 else (stF R g g.length).getD (g.length - 1)
theorem MT (R:Rc)(g:Str):∀n k,stF R g n=some k->k<=g.length/\OE g k∈R.IE
 | 0,k,h=>by cases h
 | n+1,k,h=>by
  unfold stF at h
  split at h
  ·rename_i hm
   cases h
   exact⟨by omega,hm⟩
  ·exact MT R g n k h
theorem W8 (R:Rc)(g:Str):stN R g<=g.length:=by
 unfold stN
 split
 ·exact eA _
 ·cases h:stF R g g.length with
  | none=>simp
  | some k=>simp;exact(MT R g _ k h).1
theorem Im {R:Rc}{cut:List (List Str)}(hb:∀y,y∈tell ("begin" : Str) cut↔y∈R.IE){g:Str}(hg:g.length<=1000):∀n,n<=g.length->
  bB (gN 2) [2] iI ((List.range' (g.length - n) n).map λk=>PV.int (k:Nat)) [some (.obj 0 (aF cut)),some (.str g),none]=some (match stF R g n with | some k=>.rt (.str (NJ g k)) | none=>.nx [some (.obj 0 (aF cut)),some (.str g),none])
 | 0,_=>rfl
 | n+1,hn=>by
  have ih:=Im hb hg n (by omega)
  have h6:g.length<=1000000:=by omega
  rw[List.range'_succ,al,show g.length - (n+1)+1=g.length - n by omega]
  have hm:=MN hb (OE g (g.length - (n+1)))
  have hs:cT g (some ((g.length - (n+1):Nat):Int)) none=OE g (g.length - (n+1)):=rfl
  have OU:cT g none (some ((g.length - (n+1):Nat):Int))=NJ g (g.length - (n+1)):=rfl
  unfold stF
  generalize g.length - (n+1)=k at *
  by_cases h:OE g k∈R.IE
  ·rw[ba h]
   rw[bS h] at hm
   have hbd:iI [some (.obj 0 (aF cut)),some (.str g),some (.int (k:Nat))]=some (.rt (.str (NJ g k))):=by
    simp[iI,h6,hs,CN,hm,OU]
   simp[bB,hbd]
  ·rw[ax h,← ih]
   rw[be h] at hm
   have hbd:iI [some (.obj 0 (aF cut)),some (.str g),some (.int (k:Nat))]=some (.nx [some (.obj 0 (aF cut)),some (.str g),some (.int (k:Nat))]):=by
    simp[iI,h6,hs,CN,hm]
   simp[bB,hbd]
theorem Tz {R:Rc}{cut:List (List Str)}(hb:∀y,y∈tell ("begin" : Str) cut↔y∈R.IE)(PD:∀y,y∈tell ("split" : Str) cut↔y∈R.splits){g:Str}(hg:g.length<=1000):mY [.obj 0 (aF cut),.str g]=some (.str (NJ g (stN R g))):=by
 have hs:=CK PD g
 have h6:g.length<=1000000:=by omega
 have fin:∀v,qD [some (.obj 0 (aF cut)),some (.str g),none]=some (.rt v)->mY [.obj 0 (aF cut),.str g]=some v:=λv h=>by
  unfold mY
  generalize qD=B at *
  simp[h]
 apply fin
 unfold qD stN
 by_cases h:g∈R.splits
 ·rw[ba h]
  rw[bS h] at hs
  have e0:NJ g 0=("" : Str):=by
   apply xM
   rw[sZ,List.take_zero]
   decide +kernel
  rw[e0]
  simp[sY,hs]
 ·rw[ax h]
  rw[be h] at hs
  have lp:=Im hb hg g.length (aw _)
  rw[Nat.sub_self,← oI,← jM] at lp
  have hr:N1 (g.length:Int)=true:=rH hg
  have Mo:cT g none (some (-1))=NJ g (g.length - 1):=by
   apply xM
   have hl:g.cps.toList.length=g.length:=aE
   rw[sZ,gQ,HT.Ki,ii,Nat.sub_zero]
   congr 1
   show (if (-1:Int) < 0 then ((-1:Int)+(g.length:Int)).toNat else min (-1:Int).toNat g.length)=g.length - 1
   rw[ba (by decide)]
   omega
  cases Pl:stF R g g.length with
  | none=>
   rw[Pl] at lp
   simp only[nv]
   simp[sY,hs,h6,hr,lp,Mo]
  | some k=>
   rw[Pl] at lp
   simp only[lf]
   simp[sY,hs,h6,hr,lp]
abbrev Row:=Str×Str×Str×Bool
noncomputable def oW (R:Rc):Str->List (Str×Str)->List Row
 | _,[]=>[]
 | h,[x]=>[(h,x.1,x.2,false)]
 | h,x::y::r=>(h,x.1,NJ x.2 (stN R x.2),decide (x.2∈R.splits))::oW R (OE x.2 (stN R x.2)) (y::r)
noncomputable def cX (r:Row):PV:=.tup [.str r.1,.str r.2.1,.str r.2.2.1,.bl r.2.2.2]
noncomputable def lH (R:Rc)(s:List Row×Str)(x:Str×Str):List Row×Str:=(s.1++[(s.2,x.1,NJ x.2 (stN R x.2),decide (x.2∈R.splits))],OE x.2 (stN R x.2))
theorem CP (R:Rc)(z:Str×Str):∀(init:List (Str×Str)) (s:List Row×Str),(init.foldl (lH R) s).1++[((init.foldl (lH R) s).2,z.1,z.2,false)]=s.1++oW R s.2 (init++[z])
 | [],s=>rfl
 | x::init,s=>by
  rw[fI,CP R z init]
  obtain⟨y,r,e⟩:∃y r,init++[z]=y::r:=by
   cases init with
   | nil=>exact⟨_,_,rfl⟩
   | cons a b=>exact⟨_,_,rfl⟩
  rw[i0,e]
  show (s.1++[_])++_=s.1++(_::_)
  rw[da]
  rfl
theorem TJ {l:List (Str×Str)}{y:Str×Str}(h:y∈l):y.1.length+y.2.length<=(bindG l).length:=by
 induction l with
 | nil=>cases h
 | cons a l ih=>
  have e:bindG (a::l)=(a.1.cps.toList++a.2.cps.toList)++bindG l:=rfl
  have h1:a.1.cps.toList.length=a.1.length:=aE
  have h2:a.2.cps.toList.length=a.2.length:=aE
  rw[e,a9,a9,h1,h2]
  rcases aI.mp h with z | z
  ·rw[z];omega
  ·have:=ih z;omega
section
variable {R:Rc}(G:R.Good){cut:List (List Str)}(hc:∀y,y∈aU cut↔y∈R.FL)(hp:∀y,y∈pairsOf cut↔y∈R.pairs)(hb:∀y,y∈tell ("begin" : Str) cut↔y∈R.IE)(PD:∀y,y∈tell ("split" : Str) cut↔y∈R.splits)
include hb PD
theorem Qn {x:Str×Str}(hx:x.2.length<=1000){x1 x2 x3 x4:PV}{acc:List Row}{h:Str}(ha:acc.length < 900):
  turn (gT [7,8]) [7,8,9] fB (.tup [.str x.1,.str x.2]) [some (.obj 0 (aF cut)),some x1,some x2,some x3,some x4,some (.lst (acc.map cX)),some (.str h),none,none,none]=
   some [some (.obj 0 (aF cut)),some x1,some x2,some x3,some x4,some (.lst ((lH R (acc,h) x).1.map cX)),some (.str (lH R (acc,h) x).2),none,none,none]:=by
 have Pl:=Tz hb PD hx
 have hs:=CK PD x.2
 have hle:=W8 R x.2
 have IH:(NJ x.2 (stN R x.2)).length=stN R x.2:=by rw[Tw];omega
 have hpl6:(NJ x.2 (stN R x.2)).length<=1000000:=by omega
 have h6:x.2.length<=1000000:=by omega
 have hsf:cT x.2 (some ((stN R x.2:Nat):Int)) none=OE x.2 (stN R x.2):=rfl
 have ha':(acc.map cX).length < 1000000:=by rw[ac];omega
 have e1:(lH R (acc,h) x).1.map cX=acc.map cX++[.tup [.str h,.str x.1,.str (NJ x.2 (stN R x.2)),.bl (decide (x.2∈R.splits))]]:=by
  simp[lH,cX]
 have e2:(lH R (acc,h) x).2=OE x.2 (stN R x.2):=rfl
 rw[e1,e2]
 generalize stN R x.2=k at *
 generalize NJ x.2 k=P,OE x.2 k=Q,acc.map cX=AP,decide (x.2∈R.splits)=db at *
 have hk6:k<=1000000:=by omega
 simp[aX,fB,Pl,sY,hs,ha',h6,hk6,IH,hsf]
include G hc hp
theorem W9 (W:F2 R w):du [.obj 0 (aF cut),.str w]=some (.lst ((oW R (cA R (un R w 24 0)).1 (cA R (un R w 24 0)).2).map cX)):=by
 have hu:=JX G hc hp W
 have hlu:(un R w 24 0).length<=24:=by
  have gen:∀n a,(un R w n a).length<=n:=by
   intro n
   induction n with
   | zero=>intro a;simp[un]
   | succ n ih=>
    intro a
    unfold un
    split
    ·simp;exact ih _
    ·simp
  exact gen 24 0
 have hca:=MF G hc (us:=un R w 24 0) (w:=w) (λ_ h=>h) hlu
 have hga:=MK G hc (us:=un R w 24 0) (w:=w) (λ_ h=>h) hlu
 have hfl:flat (un R w 24 0)=w.cps.toList:=by
  have:=xK G (w:=w) 24 0 (by have:=W.l;omega) (by omega)
  rw[ii] at this
  exact this
 have hsf:=wD R (un R w 24 0)
 have hll:=Gw R (un R w 24 0)
 have HL:(cA R (un R w 24 0)).2≠[]:=by
  obtain⟨u,hu1,hu2⟩:=Gv G W
  intro z
  have:=uX R (un R w 24 0)
  rw[z] at this
  have hm:u∈(un R w 24 0).filter (dN R):=gt.mpr ⟨hu1,hu2⟩
  rw[← this] at hm
  cases hm
 have RU:w.cps.toList.length=w.length:=aE
 have hW:=W.l
 generalize hus:un R w 24 0=us at *
 generalize hg0:(cA R us).1=g0,hl:(cA R us).2=l at *
 have hbl:(bindG l).length<=24:=by
  have:=c5 List.length hsf
  rw[a9,hfl,RU] at this
  omega
 obtain⟨init,z,rfl⟩:∃init z,l=init++[z]:=by
  rcases List.eq_nil_or_concat l with q | ⟨i,z,q⟩
  ·exact absurd q HL
  ·exact⟨i,z,by rw[q,List.concat_eq_append]⟩
 have hgl:∀y∈init,y.2.length<=1000:=λy hy=>by
  have:=TJ (gL [z] hy)
  omega
 have hil:init.length<=24:=by simp at hll;omega
 have c1:dY (((init++[z]).map (·.1)).map PV.str) none (some (-1))=(init.map (·.1)).map PV.str:=by
  rw[bm,j3]
  exact CG PV.str (init.map (·.1)) z.1
 have c2:dY ((g0::(init++[z]).map (·.2)).map PV.str) (some 1) (some (-1))=(init.map (·.2)).map PV.str:=by
  unfold dY
  have e1:HT.ID ((g0::(init++[z]).map (·.2)).map PV.str).length 0 (some 1)=1:=by
   rw[show (some (1:Int))=some ((1:Nat):Int) from rfl,HT.GA]
   rfl
  have e2:HT.ID ((g0::(init++[z]).map (·.2)).map PV.str).length ((g0::(init++[z]).map (·.2)).map PV.str).length (some (-1))=init.length+1:=by
   show (if (-1:Int) < 0 then ((-1:Int)+(((g0::(init++[z]).map (·.2)).map PV.str).length:Int)).toNat else min (-1:Int).toNat ((g0::(init++[z]).map (·.2)).map PV.str).length)=init.length+1
   rw[ba (by decide)]
   simp
   omega
  rw[e1,e2]
  simp
 have hz:dZ ((init.map (·.1)).map PV.str) ((init.map (·.2)).map PV.str)=init.map λy=>PV.tup [.str y.1,.str y.2]:=by
  unfold dZ
  generalize init=i
  induction i with
  | nil=>rfl
  | cons a i ih=>simp only[al,oj,ih]
 have hix0:FI (.lst ((g0::(init++[z]).map (·.2)).map PV.str)) (.int 0)=some (.str g0):=at0 _ _
 have atl:∀(L:List PV) (v:PV),FI (.lst (L++[v])) (.int (-1))=some v:=λL v=>by
  show F1 (L++[v]) (-1)=_
  unfold F1 NW
  rw[ax (by decide),ba (by simp;omega),bq,show ((-1:Int)+((L++[v]).length:Nat)).toNat=L.length by simp;omega]
  simp
 have hixc:FI (.lst (((init++[z]).map (·.1)).map PV.str)) (.int (-1))=some (.str z.1):=by
  rw[bm,bm]
  exact atl _ _
 have hixg:FI (.lst ((g0::(init++[z]).map (·.2)).map PV.str)) (.int (-1))=some (.str z.2):=by
  rw[al,bm,bm,← i0]
  exact atl _ _
 have lp:=wB (g:=gT [7,8]) (ds:=[7,8,9]) (body:=fB) (λy:Str×Str=>PV.tup [.str y.1,.str y.2])
  (λs:List Row×Str=>[some (.obj 0 (aF cut)),some (.str w),some (.lst (us.map .str)),some (.lst (((init++[z]).map (·.1)).map .str)),some (.lst ((g0::(init++[z]).map (·.2)).map .str)),some (.lst (s.1.map cX)),some (.str s.2),none,none,none])
  (lH R) (λs=>s.1.length) (λ_=>1) 800 (λ_=>True) init ([],g0) trivial (by rw[Gr];simp;omega)
  λy hy s _ hs=>⟨by simp[lH],trivial,Qn hb PD (hgl y hy) (by omega)⟩
 have hfin:=CP R z init ([],g0)
 generalize hF:init.foldl (lH R) ([],g0)=F at *
 have hFl:F.1.length<=24:=by
  rw[← hF]
  have gen:∀(i:List (Str×Str)) (s:List Row×Str),(i.foldl (lH R) s).1.length=s.1.length+i.length:=by
   intro i
   induction i with
   | nil=>intro s;rfl
   | cons a i ih=>intro s;rw[fI,ih];simp[lH];omega
  rw[gen]
  simp
  exact hil
 simp only[cp,gx] at lp hfin
 rw[← hz,← c1,← c2] at lp
 rw[← hfin,bm,j3]
 have hFm:(F.1.map cX).length < 1000000:=by rw[ac];omega
 have hrv:cX (F.2,z.1,z.2,false)=.tup [.str F.2,.str z.1,.str z.2,.bl false]:=rfl
 rw[hrv]
 have hbd:jB [some (.obj 0 (aF cut)),some (.str w),none,none,none,none,none,none,none,none]=some (.rt (.lst (F.1.map cX++[.tup [.str F.2,.str z.1,.str z.2,.bl false]]))):=by
  unfold jB
  generalize fB=BB,lu=m1,iH=m2,mX=m3,us.map PV.str=US,((init++[z]).map (·.1)).map PV.str=CS,(g0::(init++[z]).map (·.2)).map PV.str=GS,F.1.map cX=FR,aF cut=TF at *
  refine(bG (by simp[hu];rfl)).trans ?_
  refine(bG (by simp[hca];rfl)).trans ?_
  refine(bG (by simp[hga];rfl)).trans ?_
  refine(bG (by simp;rfl)).trans ?_
  refine(bG (by simp[-FI,hix0];rfl)).trans ?_
  refine(bG (by simp[-Ys,lp];rfl)).trans ?_
  refine(bG (by simp[-FI,hixc,hixg,hFm];rfl)).trans ?_
  rfl
 unfold du
 generalize jB=B,F.1.map cX=FR at *
 simp[hbd]
end
noncomputable def uY (r:Row):List Nat:=r.1.cps.toList++(r.2.1.cps.toList++r.2.2.1.cps.toList)
theorem Gx (R:Rc):∀(l:List (Str×Str)) (h:Str),l≠[]->((oW R h l).map uY).flatten=h.cps.toList++bindG l
 | [],_,hn=>absurd rfl hn
 | [x],h,_=>by
  show (uY (h,x.1,x.2,false))++[]=h.cps.toList++((x.1.cps.toList++x.2.cps.toList)++[])
  unfold uY
  simp
 | x::y::r,h,_=>by
  have ih:=Gx R (y::r) (OE x.2 (stN R x.2)) (by simp)
  have e:oW R h (x::y::r)=(h,x.1,NJ x.2 (stN R x.2),decide (x.2∈R.splits))::oW R (OE x.2 (stN R x.2)) (y::r):=rfl
  have eb:bindG (x::y::r)=(x.1.cps.toList++x.2.cps.toList)++bindG (y::r):=rfl
  rw[e,al,cS,ih,eb]
  unfold uY
  simp only[sZ,Mx]
  have:=ow (stN R x.2) x.2.cps.toList
  simp only[da]
  congr 2
  rw[← da,this]
theorem Io (R:Rc):∀(l:List (Str×Str)) (h:Str),(oW R h l).map (·.2.1)=l.map (·.1)
 | [],_=>rfl
 | [x],h=>rfl
 | x::y::r,h=>by
  have ih:=Io R (y::r) (OE x.2 (stN R x.2))
  have e:oW R h (x::y::r)=(h,x.1,NJ x.2 (stN R x.2),decide (x.2∈R.splits))::oW R (OE x.2 (stN R x.2)) (y::r):=rfl
  rw[e,al,ih]
  rfl
theorem TQ (R:Rc)(l:List (Str×Str))(h:Str):(oW R h l).length=l.length:=by
 have:=c5 List.length (Io R l h)
 simpa using this
theorem Gy (R:Rc):∀(l:List (Str×Str)) (h:Str),l≠[]->∃i r,oW R h l=i++[r]/\r.2.2.2=false
 | [],_,hn=>absurd rfl hn
 | [x],h,_=>⟨[],(h,x.1,x.2,false),rfl,rfl⟩
 | x::y::r,h,_=>by
  obtain⟨i,q,e1,e2⟩:=Gy R (y::r) (OE x.2 (stN R x.2)) (by simp)
  have e:oW R h (x::y::r)=(h,x.1,NJ x.2 (stN R x.2),decide (x.2∈R.splits))::oW R (OE x.2 (stN R x.2)) (y::r):=rfl
  exact⟨_::i,q,by rw[e,e1];rfl,e2⟩
abbrev TK:=Option (Bool×Bool)
noncomputable def oX:TK->PV
 | none=>.FE
 | some (a,b)=>.tup [.int (if a then 1 else 0),.str (if b then "-" else "u")]
noncomputable def wtR (R:Rc)(x:Str):Str:=if x∈R.KS then "-" else if x∈R.HM then "x" else "u"
noncomputable def JZ (R:Rc)(c:Str):List TK:=if c∈R.KS then [some (false,true)] else if c∈R.HM then [some (false,false),some (false,true)] else [some (false,false)]
noncomputable def jG (R:Rc)(c tail:Str)(sp:Bool):List TK:=if tail=("" : Str) then JZ R c++(if sp then [some (true,true)] else []) else [some (false,true)]
noncomputable def j6 (R:Rc)(c tail:Str):List TK:=
 if tail=("" : Str) then (if runOf R=("must" : Str) then [none] else jG R c tail false++(if runOf R=("may" : Str) then [none] else [])) else jG R c (cT tail none (some (-1))) false
theorem M4 {R:Rc}{cut:List (List Str)}(hl:∀y,y∈tell ("long" : Str) cut↔y∈R.KS)(he:∀y,y∈tell ("either" : Str) cut↔y∈R.HM)(x:Str):cW [.obj 0 (aF cut),.str x]=some (.str (wtR R x)):=by
 unfold wtR
 by_cases h1:x∈R.KS
 ·have Q2:=(hl x).mpr h1
  simp[cW,g_,Bc,mG,h1,Q2]
 ·have Q2:¬ x∈tell ("long" : Str) cut:=λz=>h1 ((hl x).mp z)
  by_cases h2:x∈R.HM
  ·have h2':=(he x).mpr h2
   simp[cW,g_,Bc,Cw,mG,h1,Q2,h2,h2']
  ·have h2':¬ x∈tell ("either" : Str) cut:=λz=>h2 ((he x).mp z)
   simp[cW,g_,Bc,Cw,mG,h1,Q2,h2,h2']
theorem TX (cut:List (List Str)):fU [.obj 0 (aF cut)]=some (.str (jo cut)):=by
 simp[fU,ux,Mu]
theorem M5 (cut:List (List Str)):List.lookup ("weight" : Str) (aF cut)=none:=rfl
theorem W_ (cut:List (List Str)):List.lookup ("run" : Str) (aF cut)=none:=rfl
section
variable {R:Rc}{cut:List (List Str)}(hl:∀y,y∈tell ("long" : Str) cut↔y∈R.KS)(he:∀y,y∈tell ("either" : Str) cut↔y∈R.HM)
include hl he
theorem Be (c t:Str)(sp:Bool):dw [.obj 0 (aF cut),.str c,.str t,.bl sp]=some (.lst ((jG R c t sp).map oX)):=by
 have hw:=M4 hl he c
 have QU:=M5 cut
 have n1:¬ (Str.ofString "-" = Str.ofString "u"):=by decide +kernel
 have n2:¬ (Str.ofString "x" = Str.ofString "u"):=by decide +kernel
 have n3:¬ (Str.ofString "x" = Str.ofString "-"):=by decide +kernel
 have n4:¬ (Str.ofString "u" = Str.ofString "-"):=by decide +kernel
 unfold jG JZ
 unfold wtR at hw
 by_cases ht:t=("" : Str)
 ·rw[ba ht]
  by_cases h1:c∈R.KS
  ·rw[ba h1] at hw ⊢
   cases sp <;> simp[dw,mZ,ht,QU,hw,n1,oX]
  ·rw[ax h1] at hw ⊢
   by_cases h2:c∈R.HM
   ·rw[ba h2] at hw ⊢
    cases sp <;> simp[dw,mZ,ht,QU,hw,n2,n3,oX]
   ·rw[ax h2] at hw ⊢
    cases sp <;> simp[dw,mZ,ht,QU,hw,n4,oX]
 ·rw[ax ht]
  have ht':¬ t=Str.ofString "" := ht
  simp[dw,mZ,ht,ht',oX]
variable (hr:jo cut=runOf R)
include hr
theorem Qo (c t:Str)(htl:t.length<=1000):d_ [.obj 0 (aF cut),.str c,.str t]=some (.lst ((j6 R c t).map oX)):=by
 have hq:=TX cut
 rw[hr] at hq
 have QU:=W_ cut
 have n1:¬ (Str.ofString "must" = Str.ofString "may"):=by decide +kernel
 have h6:t.length<=1000000:=by omega
 unfold j6
 by_cases ht:t=("" : Str)
 ·rw[ba ht]
  have hw:=Be hl he c t false
  rw[ht] at hw ⊢
  have RU:((jG R c "" false).map oX).length < 1000000:=by
   unfold jG JZ
   rw[ba rfl]
   split
   ·simp
   ·split <;> simp
  by_cases h1:runOf R=("must" : Str)
  ·rw[ba h1]
   rw[h1] at hq
   simp[d_,jN,QU,hq,oX]
  ·rw[ax h1]
   by_cases h2:runOf R=("may" : Str)
   ·rw[ba h2]
    rw[h2] at hq h1
    rw[bm]
    generalize (jG R c "" false).map oX=W at *
    simp[d_,jN,QU,hq,h1,hw,RU,oX]
   ·rw[ax h2]
    rw[bp]
    generalize (jG R c "" false).map oX=W,runOf R=r at *
    simp[d_,jN,QU,hq,h1,h2,hw]
 ·rw[ax ht]
  have ht':¬ t=Str.ofString "" := ht
  have hw:=Be hl he c (cT t none (some (-1))) false
  generalize (jG R c (cT t none (some (-1))) false).map oX=W at *
  simp[d_,jN,ht',h6,hw]
end
noncomputable def dz (R:Rc)(r:Row):List TK:=jG R r.2.1 r.2.2.1 r.2.2.2
noncomputable def LD (o:List TK):PV:=.lst (o.map oX)
section
variable {R:Rc}(G:R.Good){cut:List (List Str)}(hc:∀y,y∈aU cut↔y∈R.FL)(hp:∀y,y∈pairsOf cut↔y∈R.pairs)
variable (hl:∀y,y∈tell ("long" : Str) cut↔y∈R.KS)(he:∀y,y∈tell ("either" : Str) cut↔y∈R.HM)
include hl he
theorem CQ (rows:List Row):bJ [none,none,none,none,some (.obj 0 (aF cut))] (gT [0,1,2,3]) aZ jC (rows.map cX)=some ((rows.map (dz R)).map LD):=by
 have:=bI (env:=[none,none,none,none,some (.obj 0 (aF cut))]) (g:=gT [0,1,2,3]) (f:=jC) cX (λr=>LD (dz R r)) rows λr _=>⟨[some (.str r.1),some (.str r.2.1),some (.str r.2.2.1),some (.bl r.2.2.2),some (.obj 0 (aF cut))],by simp[cX],by
  have hw:=Be hl he r.2.1 r.2.2.1 r.2.2.2
  simp[jC,hw,LD,dz]⟩
 rw[this,bP]
 rfl
theorem Qp {rows:List Row}(hs:du [.obj 0 (aF cut),.str w]=some (.lst (rows.map cX)))(hn:rows.length<=1000):bH [.obj 0 (aF cut),.str w,.FE]=some (.lst ((rows.map (dz R)).map LD)):=by
 have OB:=CQ hl he rows
 have h6:(rows.map cX).length<=1000000:=by rw[ac];omega
 unfold bH pZ
 generalize rows.map cX=RV,(rows.map (dz R)).map LD=OV at *
 simp[hs,h6,OB]
include G hc
variable (hr:jo cut=runOf R)
include hr
theorem Qq {w2:Str}{i:List Row}{r:Row}(hs:du [.obj 0 (aF cut),.str w]=some (.lst ((i++[r]).map cX)))(hn:i.length<=900)(hrl:r.2.2.1.length<=1000)(W2:F2 R w2):
  bH [.obj 0 (aF cut),.str w,.str w2]=some (.lst ((i.map (dz R)++[if dN R w2=true then j6 R r.2.1 r.2.2.1 else dz R r]).map LD)):=by
 have OB:=CQ hl he (i++[r])
 have h6:((i++[r]).map cX).length<=1000000:=by rw[ac,a9];simp;omega
 have hrf:bL [.obj 0 (aF cut),.str w2]=some .FE:=by
  have:=wC G hc W2
  simp[bL,g8,this]
 have hix:FI (.str w2) (.int 0)=some (.str (tQ w2)):=by
  obtain⟨s,hs,_⟩:=W2.c
  have hl24:=W2.l
  have h6:w2.length<=1000000:=by omega
  unfold tQ
  cases q:w2.cps.toList with
  | nil=>rw[q] at hs;cases hs
  | cons c cs=>simp[h6,q]
 have hca:=Bd hc w2
 have hlw:=Qo hl he hr r.2.1 r.2.2.1 hrl
 have Mo:FI (.lst ((i++[r]).map cX)) (.int (-1))=some (cX r):=by
  rw[bm,j3]
  show F1 (i.map cX++[cX r]) (-1)=_
  unfold F1 NW
  rw[ax (by decide),ba (by simp;omega),bq,show ((-1:Int)+((i.map cX++[cX r]).length:Nat)).toNat=i.length by simp;omega]
  simp
 have r1:FI (cX r) (.int 1)=some (.str r.2.1):=rfl
 have r2:FI (cX r) (.int 2)=some (.str r.2.2.1):=rfl
 have e1:((i++[r]).map (dz R)).map LD=(i.map (dz R)).map LD++[LD (dz R r)]:=by simp
 have e2:(i.map (dz R)++[if dN R w2=true then j6 R r.2.1 r.2.2.1 else dz R r]).map LD=(i.map (dz R)).map LD++[if dN R w2=true then LD (j6 R r.2.1 r.2.2.1) else LD (dz R r)]:=by
  rw[bm,j3]
  congr 2
  split <;> rfl
 have hput:ik (.lst ((i.map (dz R)).map LD++[LD (dz R r)])) (.int (-1)) (LD (j6 R r.2.1 r.2.2.1))=some (.lst ((i.map (dz R)).map LD++[LD (j6 R r.2.1 r.2.2.1)])):=by
  show (NW ((i.map (dz R)).map LD++[LD (dz R r)]).length (-1)).map _=_
  unfold NW
  rw[ax (by decide),ba (by simp;omega)]
  rw[show ((-1:Int)+(((i.map (dz R)).map LD++[LD (dz R r)]).length:Nat)).toNat=i.length by simp;omega]
  simp
 have hlw:d_ [.obj 0 (aF cut),.str r.2.1,.str r.2.2.1]=some (LD (j6 R r.2.1 r.2.2.1)):=hlw
 rw[e1] at OB
 rw[e2]
 unfold bH pZ
 have QU:=nQ cut
 generalize (i++[r]).map cX=RV,(i.map (dz R)).map LD=OV,LD (j6 R r.2.1 r.2.2.1)=LV,LD (dz R r)=WV,cX r=RR,dN R w2=b at *
 cases b with
 | true=>simp[-FI,-ik,hs,h6,OB,hrf,hix,QU,hca,Mo,r1,r2,hlw,hput]
 | false=>simp[-FI,-ik,hs,h6,OB,hrf,hix,QU,hca]
end
noncomputable def allB:Nat->(List Bool->Bool)->Bool
 | 0,p=>p []
 | n+1,p=>allB n (λl=>p (false::l))&&allB n (λl=>p (true::l))
theorem uC:∀{n:Nat}{p:List Bool->Bool},allB n p=true->∀l:List Bool,l.length=n->p l=true
 | 0,p,h,l,e=>by rw[kg.mp e];exact h
 | n+1,p,h,b::l,e=>by
  unfold allB at h
  rw[cb] at h
  cases b with
  | false=>exact uC h.1 l (by simpa using e)
  | true=>exact uC h.2 l (by simpa using e)
noncomputable def tR (l:List Bool)(k:Nat)(x:qE):List (List Str):=if l.getD k false=true then [x] else []
noncomputable def wsT (l:List Bool)(k:Nat)(x:qE):List Str:=if l.getD k false=true then x else []
noncomputable def je (l:List Bool)(r:Str):List (List Str):=([["carry","a","e","i"]]:List (List Str))++tR l 0 ["one","ae","ai"]++tR l 1 ["long","ae"]++tR l 2 ["long","e"]++tR l 3 ["either","a"]++tR l 4 ["either","i"]++tR l 5 ["begin","tr","pr","spr"]++tR l 6 ["split","tr"]++tR l 7 ["split","sp","pr","spr"]++([["run",r]]:List (List Str))
def MY (l:List Bool)(r:Str):Rc:=⟨["a","e","i"],wsT l 0 ["ae","ai"],wsT l 1 ["ae"]++wsT l 2 ["e"],wsT l 3 ["a"]++wsT l 4 ["i"],wsT l 5 ["tr","pr","spr"],wsT l 6 ["tr"]++wsT l 7 ["sp","pr","spr"],r⟩
noncomputable def zW (r:Str)(l:List Bool):Bool:=(l.getD 1 false&&!l.getD 0 false)||(decide (aU (je l r)=(MY l r).FL)&&decide (pairsOf (je l r)=(MY l r).pairs)&&decide (tell ("long" : Str) (je l r)=(MY l r).KS)&&decide (tell ("either" : Str) (je l r)=(MY l r).HM) &&
 decide (tell ("begin" : Str) (je l r)=(MY l r).IE)&&decide (tell ("split" : Str) (je l r)=(MY l r).splits)&&decide (jo (je l r)=r) &&
 (je l r).all (λws=>fD (LN (MY l r).FL) ((MY l r).FL++(MY l r).pairs) ws&&decide (ws≠[])&&decide (ws.length<=1000)&&ws.all (λx=>decide (x.length<=1000)))&&decide ((je l r).length<=1000)&&decide (total (je l r)<=100000))
theorem M6:allB 8 (zW "never")=true:=by decide +kernel
theorem TY:allB 8 (zW "may")=true:=by decide +kernel
theorem Qs:allB 8 (zW "must")=true:=by decide +kernel
noncomputable def qI:List Str:=["never","may","must"]
variable {l:List Bool}
theorem T3 {r:Str}(h:r∈qI)(hl:l.length=8):zW r l=true:=by
 simp only[qI,aI,bi,c9] at h
 rcases h with rfl | rfl | rfl
 ·exact uC M6 l hl
 ·exact uC TY l hl
 ·exact uC Qs l hl
section
variable {α:Type}(a b c d e f g h:α)(l:List α)
@[simp] theorem at4:F1 (a::b::c::d::e::l) 4=some e:=cu (k:=4) rfl
@[simp] theorem at5:F1 (a::b::c::d::e::f::l) 5=some f:=cu (k:=5) rfl
@[simp] theorem at6:F1 (a::b::c::d::e::f::g::l) 6=some g:=cu (k:=6) rfl
@[simp] theorem at7:F1 (a::b::c::d::e::f::g::h::l) 7=some h:=cu (k:=7) rfl
end
noncomputable def N3 (l:List Bool)(k:Nat)(x:Str):List Str:=if l.getD k false=true then [x] else []
noncomputable def tu (l:List Bool):List Str:=(["carry a e i"]:qE)++N3 l 0 "one ae ai" ++ N3 l 1 "long ae" ++ N3 l 2 "long e" ++ N3 l 3 "either a" ++ N3 l 4 "either i" ++ N3 l 5 "begin tr pr spr" ++ N3 l 6 "split tr" ++ N3 l 7 "split sp pr spr"
noncomputable def rJ (l:List Bool)(r:Str):List Str:=tu l++[("run " : Str)++r]
theorem mz {k:Nat}{x:Str}(h:jU x=ws):(N3 l k x).map jU=tR l k ws:=by
 unfold N3 tR
 split
 ·simp[h]
 ·rfl
theorem Qt {r:Str}(h:r∈qI):(rJ l r).map jU=je l r:=by
 have hr:jU (("run " : Str)++r)=(["run",r]:qE):=by
  simp only[qI,aI,bi,c9] at h
  rcases h with rfl | rfl | rfl <;> decide +kernel
 have h0:jU ("carry a e i" : Str)=(["carry","a","e","i"]:qE):=by decide +kernel
 unfold rJ tu je
 rw[bm,bm,bm,bm,bm,bm,bm,bm,bm,mz (ws:=["one","ae","ai"]) (by decide +kernel),mz (ws:=["long","ae"]) (by decide +kernel),mz (ws:=["long","e"]) (by decide +kernel),mz (ws:=["either","a"]) (by decide +kernel),mz (ws:=["either","i"]) (by decide +kernel),
  mz (ws:=["begin","tr","pr","spr"]) (by decide +kernel),mz (ws:=["split","tr"]) (by decide +kernel),mz (ws:=["split","sp","pr","spr"]) (by decide +kernel),al,cp,al,cp,h0,hr]
noncomputable def bits (c:Int):List Bool:=[decide (c / 1 % 2=1),decide (c / 2 % 2=1)&&decide (c % 2=1),decide (c / 4 % 2=1),decide (c / 8 % 2=1),decide (c / 16 % 2=1),decide (c / 32 % 2=1),decide (c / 64 % 2=1),decide (c / 128 % 2=1)]
noncomputable def kO (c:Int):Str:=pick ["never","may","must","may"] (c / 256 % 4)
theorem Ip (c:Int):kO c∈qI:=by
 have h:kO c∈(["never","may","must","may"]:qE):=rF (by omega) (by show c / 256 % 4 < 4;omega)
 simp only[qI,aI,bi,c9] at h ⊢
 rcases h with h | h | h | h <;> simp[h]
abbrev s8:List Str:=["one ae ai","long ae","long e","either a","either i","begin tr pr spr","split tr","split sp pr spr"]
theorem jV {c:Int}{k:Nat}{L:qE}{x:Str}{p:Int}(hL:L.length<=100)(hx:F1 (s8.map PV.str) (k:Int)=some (.str x))(hp:F1 [PV.int 1,.int 2,.int 4,.int 8,.int 16,.int 32,.int 64,.int 128] (k:Int)=some (.int p))(h0:0 < p)(h1:p < 1073741824)(hb:(decide (c / p % 2=1)&&(decide (¬ (k:Int)=1)||decide (c % 2=1)))=l.getD k false):
  turn (gN 3) [3] dM (.int k) [some (.int c),some (.lst (s8.map .str)),some (.lst (L.map .str)),none]=some [some (.int c),some (.lst (s8.map .str)),some (.lst ((L++N3 l k x).map .str)),none]:=by
 have hl:L.length < 1000000:=by omega
 generalize s8.map PV.str=S at *
 have hP6:([PV.int 1,.int 2,.int 4,.int 8,.int 16,.int 32,.int 64,.int 128]:List PV).length<=1000000:=by decide
 generalize hP:[PV.int 1,.int 2,.int 4,.int 8,.int 16,.int 32,.int 64,.int 128]=P at *
 unfold N3
 rw[← hb]
 by_cases e1:c / p % 2=1
 ·by_cases e2:(k:Int)=1
  ·by_cases e3:c % 2=1
   ·simp[turn,dM,hP,hP6,hp,hx,h0,h1,e1,e2,e3,hl,Kk] <;> simp_all
   ·simp[turn,dM,hP,hP6,hp,hx,h0,h1,e1,e2,e3,hl,Kk] <;> simp_all
  ·simp[turn,dM,hP,hP6,hp,hx,h0,h1,e1,e2,hl,Kk] <;> simp_all
 ·simp[turn,dM,hP,hP6,hp,hx,h0,h1,e1,hl,Kk] <;> simp_all
theorem M7 (c:Int):jQ [.int c]=some (.lst ((rJ (bits c) (kO c)).map .str)):=by
 have l0:bB (gN 3) [3] dM [.int (0:Nat),.int (1:Nat),.int (2:Nat),.int (3:Nat),.int (4:Nat),.int (5:Nat),.int (6:Nat),.int (7:Nat)] [some (.int c),some (.lst (s8.map .str)),some (.lst (([("carry a e i" : Str)]:qE).map .str)),none]=
   some (.nx [some (.int c),some (.lst (s8.map .str)),some (.lst ((tu (bits c)).map .str)),none]):=by
  have tl:∀k x,(N3 (bits c) k x).length<=1:=λk x=>by unfold N3;split <;> simp
  have g:∀{A:qE}{n:Nat}(k:Nat) (x:Str),A.length<=n->(A++N3 (bits c) k x).length<=n+1:=λk x h=>by rw[a9];have:=tl k x;omega
  have a0:([("carry a e i" : Str)]:qE).length<=1:=by simp
  have a1:=g 0 "one ae ai" a0
  have a2:=g 1 "long ae" a1
  have a3:=g 2 "long e" a2
  have a4:=g 3 "either a" a3
  have a5:=g 4 "either i" a4
  have a6:=g 5 "begin tr pr spr" a5
  have a7:=g 6 "split tr" a6
  rw[dg (jV (k:=0) (p:=1) (x := "one ae ai") (l:=bits c) (by omega) (by rfl) (by rfl) (by decide) (by decide) (by simp[bits]))]
  rw[dg (jV (k:=1) (p:=2) (x := "long ae") (l:=bits c) (cm a1 (by decide)) (by rfl) (by rfl) (by decide) (by decide) (by rfl))]
  rw[dg (jV (k:=2) (p:=4) (x := "long e") (l:=bits c) (cm a2 (by decide)) (by rfl) (by rfl) (by decide) (by decide) (by simp[bits]))]
  rw[dg (jV (k:=3) (p:=8) (x := "either a") (l:=bits c) (cm a3 (by decide)) (by rfl) (by rfl) (by decide) (by decide) (by simp[bits]))]
  rw[dg (jV (k:=4) (p:=16) (x := "either i") (l:=bits c) (cm a4 (by decide)) (by rfl) (by rfl) (by decide) (by decide) (by simp[bits]))]
  rw[dg (jV (k:=5) (p:=32) (x := "begin tr pr spr") (l:=bits c) (cm a5 (by decide)) (by rfl) (by rfl) (by decide) (by decide) (by simp[bits]))]
  rw[dg (jV (k:=6) (p:=64) (x := "split tr") (l:=bits c) (cm a6 (by decide)) (by rfl) (by rfl) (by decide) (by decide) (by simp[bits]))]
  rw[dg (jV (k:=7) (p:=128) (x := "split sp pr spr") (l:=bits c) (cm a7 (by decide)) (by rfl) (by rfl) (by decide) (by decide) (by simp[bits]))]
  rfl
 have hrun:F1 [PV.str "never",.str "may",.str "must",.str "may"] (c / 256 % 4)=some (.str (kO c)):=uB (l:=["never","may","must","may"]) (by omega) (by show c / 256 % 4 < 4;omega)
 have hr8:cH 0 8=[.int (0:Nat),.int (1:Nat),.int (2:Nat),.int (3:Nat),.int (4:Nat),.int (5:Nat),.int (6:Nat),.int (7:Nat)]:=jM 8
 have hlen:(tu (bits c)).length < 1000000:=by
  have tl:∀k x,(N3 (bits c) k x).length<=1:=λk x=>by unfold N3;split <;> simp
  unfold tu
  simp only[a9,bg,eM]
  have:=tl 0 "one ae ai";have:=tl 1 "long ae";have:=tl 2 "long e";have:=tl 3 "either a";have:=tl 4 "either i";have:=tl 5 "begin tr pr spr";have:=tl 6 "split tr";have:=tl 7 "split sp pr spr"
  omega
 have hrl:(kO c).length<=10:=by
  have h:=Ip c
  simp only[qI,aI,bi,c9] at h
  rcases h with h | h | h <;> rw[h] <;> decide +kernel
 have e:rJ (bits c) (kO c)=(tu (bits c))++[("run " : Str)++kO c]:=rfl
 rw[e]
 generalize (tu (bits c))=A,kO c=r at *
 simp only[al,cp] at l0
 have hg:N1 8=true:=rH (k:=8) (by decide)
 generalize hx0:cH 0 8=X0 at *
 rw[← hr8] at l0
 have h6:X0.length<=1000000:=by rw[hr8];decide
 have hq:(Str.ofString "run ").length+r.length<=1000000:=by
  have:(Str.ofString "run ").length=4:=by decide +kernel
  omega
 simp[jQ,wj,hx0,hg,h6,l0,hrun,hlen,hq]
theorem Qu (l:List Bool)(r:Str):(MY l r).Good:=by
 refine⟨λw h=>?_,λw h=>?_⟩
 ·simp only[MY,aI,bi,c9] at h
  rcases h with rfl | rfl | rfl
  ·exact⟨97,by decide +kernel⟩
  ·exact⟨101,by decide +kernel⟩
  ·exact⟨105,by decide +kernel⟩
 ·have:w∈(["ae","ai"]:qE):=by
   simp only[MY,wsT] at h
   split at h
   ·exact h
   ·cases h
  simp only[aI,bi,c9] at this
  have ha:("a" : Str)∈(MY l r).FL:=by simp[MY]
  have he:("e" : Str)∈(MY l r).FL:=by simp[MY]
  have hi:("i" : Str)∈(MY l r).FL:=by simp[MY]
  rcases this with rfl | rfl
  ·exact⟨_,ha,_,he,by decide +kernel⟩
  ·exact⟨_,ha,_,hi,by decide +kernel⟩
structure TL (R:Rc)(cut:List (List Str)):Prop where
 g:R.Good
 hc:∀y,y∈aU cut↔y∈R.FL
 hp:∀y,y∈pairsOf cut↔y∈R.pairs
 hb:∀y,y∈tell ("begin" : Str) cut↔y∈R.IE
 hs:∀y,y∈tell ("split" : Str) cut↔y∈R.splits
 hl:∀y,y∈tell ("long" : Str) cut↔y∈R.KS
 he:∀y,y∈tell ("either" : Str) cut↔y∈R.HM
 hr:jo cut=runOf R
theorem Xa (c:Int):cY [.lst ((rJ (bits c) (kO c)).map .str)]=some (aF (je (bits c) (kO c)))/\TL (MY (bits c) (kO c)) (je (bits c) (kO c)):=by
 have hr:=Ip c
 have hk:=T3 hr (l:=bits c) rfl
 have h10:((bits c).getD 1 false&&!(bits c).getD 0 false)=false:=by
  simp only[bits,List.getD_cons_succ,List.getD_cons_zero,Int.ediv_one]
  cases decide (c / 2 % 2=1) <;> cases decide (c % 2=1) <;> rfl
 generalize kO c=r,bits c=l at *
 unfold zW at hk
 rw[h10,Bool.false_or] at hk
 simp only[cb,gX,cr] at hk
 obtain⟨⟨⟨⟨⟨⟨⟨⟨⟨k1,k2⟩,k3⟩,k4⟩,k5⟩,k6⟩,k7⟩,k8⟩,k9⟩,kA⟩:=hk
 have hcr:=Qt (l:=l) hr
 refine⟨?_,⟨Qu l r,λy=>by rw[k1],λy=>by rw[k2],λy=>by rw[k5],λy=>by rw[k6],λy=>by rw[k3],λy=>by rw[k4],?_⟩⟩
 ·have hz:∀z∈rJ l r,z.length<=1000:=λz hz=>by
   have tl:∀{k:Nat}{x:Str},x.length<=1000->∀z∈N3 l k x,z.length<=1000:=λ{k x} hx z hz=>by
    unfold N3 at hz
    split at hz
    ·rw[av.mp hz];exact hx
    ·cases hz
   unfold rJ tu at hz
   simp only[bv] at hz
   rcases hz with (((((((((z1 | z1) | z1) | z1) | z1) | z1) | z1) | z1) | z1) | z1)
   ·rw[av.mp z1];decide +kernel
   ·exact tl (by decide +kernel) z z1
   ·exact tl (by decide +kernel) z z1
   ·exact tl (by decide +kernel) z z1
   ·exact tl (by decide +kernel) z z1
   ·exact tl (by decide +kernel) z z1
   ·exact tl (by decide +kernel) z z1
   ·exact tl (by decide +kernel) z z1
   ·exact tl (by decide +kernel) z z1
   ·rw[av.mp z1]
    simp only[qI,aI,bi,c9] at hr
    rcases hr with rfl | rfl | rfl <;> decide +kernel
  have:=Tu hz (by
   rw[hcr]
   exact⟨k9,λws h=>⟨(k8 ws h).1.1.2,(k8 ws h).1.2,λx hx=>(k8 ws h).2 x hx⟩,kA,λws h=>by rw[k1,k2];exact(k8 ws h).1.1.1⟩)
  rw[this,hcr]
 ·rw[k7]
  unfold runOf
  rw[ax]
  ·rfl
  ·show ¬ r=_
   simp only[qI,aI,bi,c9] at hr
   rcases hr with rfl | rfl | rfl <;> decide +kernel
theorem bN {α S:Type}{g:PV->MR.Env->Option MR.Env}{ds:qr}{body:MR.Env->Option Out}(c:α->PV)(E:S->MR.Env)(I:List α->S->Prop)(hh:∀y ys s,I (y::ys) s->∃s',I ys s'/\turn g ds body (c y) (E s)=some (E s')):∀(ys:List α) (s:S),I ys s->
  ∃s',I [] s'/\bB g ds body (ys.map c) (E s)=some (.nx (E s'))
 | [],s,i=>⟨s,i,rfl⟩
 | y::ys,s,i=>by
  obtain⟨s1,i1,h1⟩:=hh y ys s i
  obtain⟨s2,i2,h2⟩:=bN c E I hh ys s1 i1
  exact⟨s2,i2,by rw[al,dg h1,h2]⟩
theorem tD:∀ws:List Str,HP (ws.map PV.str)=some ws
 | []=>rfl
 | w::ws=>by simp[HP,tD ws]
theorem Qv {sep:Str}{ts:qE}(hs:sep.length<=1)(h:∀y∈ts,y.length<=3000)(hn:ts.length<=100):JoinOk sep ts=true:=by
 unfold JoinOk
 have h1:ts.length*sep.length<=100*1:=Nat.mul_le_mul hn hs
 have:=StrLaws.joinFits (sep:=sep) (texts:=ts) (B:=3000) h (by omega)
 rw[this]
 rfl
theorem mem_join {sep:Str}{c:Nat}:∀{ts:qE},c∈(Str.join sep ts).cps.toList->c∈sep.cps.toList\/∃t∈ts,c∈t.cps.toList
 | [],h=>by cases h
 | [t],h=>.inr ⟨t,by simp,h⟩
 | t::y::r,h=>by
  have e:(Str.join sep (t::y::r)).cps.toList=t.cps.toList++sep.cps.toList++(Str.join sep (y::r)).cps.toList:=by
   show (t.cps++sep.cps++(Str.join sep (y::r)).cps).toList=_
   simp
  rw[e] at h
  rcases bv.mp h with h | h
  ·rcases bv.mp h with h | h
   ·exact .inr ⟨t,by simp,h⟩
   ·exact .inl h
  ·rcases mem_join h with h | ⟨x,hx,h⟩
   ·exact .inl h
   ·exact .inr ⟨x,ah _ hx,h⟩
theorem Ir:(Str.ofString "").length=0:=by decide +kernel
abbrev s9:List Str:=["a","e","i","p","t","r","s","spr","tr"]
structure LY (w:Str):Prop where
 t:KP w
 l:w.length<=24
 c:∃s∈w.cps.toList,(⟨#[s]⟩:Str)∈(["a","e","i"]:qE)
theorem LY.r {w:Str}(h:LY w)(l:List Bool)(r:Str):F2 (MY l r) w:=⟨h.t,h.l,h.c⟩
section
variable {R:Rc}{cut:List (List Str)}(T:TL R cut)
include T
theorem T4 (W:F2 R w):∃i rl,du [.obj 0 (aF cut),.str w]=some (.lst ((i++[rl]).map cX))/\rl.2.2.2=false/\i.length<=23/\∀r∈i++[rl],r.1.length<=24/\r.2.1.length<=24/\r.2.2.1.length<=24:=by
 have hsy:=W9 T.g T.hc T.hp T.hb T.hs W
 have hfl:flat (un R w 24 0)=w.cps.toList:=by
  have:=xK T.g (w:=w) 24 0 (by have:=W.l;omega) (by omega)
  rw[ii] at this
  exact this
 have hsf:=wD R (un R w 24 0)
 have LO:=uX R (un R w 24 0)
 have RU:w.cps.toList.length=w.length:=aE
 have hW:=W.l
 have HL:(cA R (un R w 24 0)).2≠[]:=by
  obtain⟨u,hu1,hu2⟩:=Gv T.g W
  intro z
  rw[z] at LO
  have hm:u∈(un R w 24 0).filter (dN R):=gt.mpr ⟨hu1,hu2⟩
  rw[← LO] at hm
  cases hm
 have hlu:((un R w 24 0).filter (dN R)).length<=24:=by
  have gen:∀n a,(un R w n a).length<=n:=by
   intro n
   induction n with
   | zero=>intro a;simp[un]
   | succ n ih=>
    intro a
    unfold un
    split
    ·simp;exact ih _
    ·simp
  exact cm (gl _ _) (gen 24 0)
 generalize hlq:(cA R (un R w 24 0)).2=l,hgq:(cA R (un R w 24 0)).1=g0 at *
 have P7:=Gx R l g0 HL
 rw[hsf,hfl] at P7
 have TM:=TQ R l g0
 obtain⟨i,rl,Mo,hlf⟩:=Gy R l g0 HL
 have hlc:l.length<=24:=by
  have:=c5 List.length LO
  rw[ac] at this
  omega
 rw[Mo] at hsy P7 TM
 refine⟨i,rl,hsy,hlf,by rw[a9] at TM;simp at TM;omega,λr hr=>?_⟩
 have h3:r.2.2.1.cps.toList.length=r.2.2.1.length:=aE
 have h3a:r.1.cps.toList.length=r.1.length:=aE
 have h3b:r.2.1.cps.toList.length=r.2.1.length:=aE
 have h4:(uY r).length<=(((i++[rl]).map uY).flatten).length:=by
  obtain⟨a,b,e⟩:=List.append_of_mem (bn.mpr ⟨r,hr,rfl⟩:uY r∈(i++[rl]).map uY)
  rw[e,List.flatten_append,cS]
  simp
  omega
 rw[P7,RU] at h4
 unfold uY at h4
 simp only[a9] at h4
 refine⟨?_,?_,?_⟩ <;> omega
end
noncomputable def lR:Option Str->PV
 | none=>.FE
 | some w=>.str w
theorem rK (c k:Int)(h:Oy k=true):dG [.int c,.int k]=some (.int (mixed c k)):=by
 have h1:Oy 48271=true:=dW (by decide) (by decide)
 have h2:Oy 69621=true:=dW (by decide) (by decide)
 simp[dG,vy,h,h1,h2,mixed]
theorem T5 {k:Nat}(h:k < 1000):Oy (k:Int)=true:=dW (by omega) (by omega)
structure KU (p:Str):Prop where
 ge:1<=p.length
 le:p.length<=4
 cs:∀c∈p.cps.toList,c=117\/c=45\/c=120
structure K2 (ps:qE):Prop where
 ne:ps≠[]
 le:ps.length<=4
 ok:∀p∈ps,KU p
 nd:ps.Nodup
abbrev Slot:=List Str×Bool
abbrev rg:=List Slot
noncomputable def JU (s:Slot):PV:=.tup [.tup (s.1.map .str),.bl s.2]
noncomputable def mP (m:rg):PV:=.tup (m.map JU)
def fL (m:rg):Prop:=∀s∈m,K2 s.1
abbrev Sg:=Str×Bool
noncomputable def P8 (e:Sg):PV:=.tup [.str e.1,.bl e.2]
noncomputable def dO (r:List Sg):PV:=.lst (r.map P8)
noncomputable def LZ (x mark:Str):Bool:=decide (x=mark)||decide (x=("x" : Str))
theorem yL {α β:Type}(f:α->PV)(g:β->PV):∀(xs:List α) (ys:List β),dZ (xs.map f) (ys.map g)=(xs.zip ys).map λz=>.tup [f z.1,g z.2]
 | [],ys=>by simp[dZ]
 | x::xs,[]=>by simp[dZ]
 | x::xs,y::ys=>by
  have:=yL f g xs ys
  unfold dZ at this ⊢
  simp only[al,oj,mx,this]
theorem CT {α:Type}{xs:List α}(h:xs≠[]):F1 xs (-1)=xs.getLast?:=by
 unfold F1 NW
 have hl:0 < xs.length:=eL.mpr h
 rw[ax (by decide),ba (by omega),List.getLast?_eq_getElem?]
 show xs[(-1+(xs.length:Int)).toNat]?=_
 congr 1
 omega
theorem M8 (x mark:Str):jl [.str x,.str mark]=some (.bl (LZ x mark)):=by
 unfold LZ
 by_cases h:x=mark
 ·simp[jl,p6,h]
 ·simp[jl,p6,h]
noncomputable def seg (row:List Sg)(a n:Nat):List Sg:=(row.drop a).take n
theorem T6 {row:List Sg}{a n:Nat}(h:a<=row.length):dY (row.map P8) (some (a:Int)) (some ((a:Int)+(n:Int)))=(seg row a n).map P8:=by
 have e:(a:Int)+(n:Int)=((a+n:Nat):Int):=by omega
 rw[e]
 unfold dY
 rw[HT.GA,HT.GA,ac,gE h]
 unfold seg
 rw[← List.map_drop,← List.map_take]
 congr 1
 by_cases hq:a+n<=row.length
 ·rw[gE hq,show a+n - a=n by omega]
 ·rw[nN (by omega),eK (by rw[dA];exact aw _),eK (by rw[dA];omega)]
noncomputable def xO (p:Str)(j:Nat):Str:=⟨#[p.cps.toList.getD j 0]⟩
def Qw (row:List Sg)(k:Nat):Sg:=row.getD k (⟨#[]⟩,false)
variable {p:Str}
theorem Xb {j:Nat}(h:j < p.length):F1 p.cps.toList (j:Int)=some (p.cps.toList.getD j 0):=by
 have h':j < p.cps.toList.length:=by simpa [Str.length] using h
 refine cu ?_
 rw[gg,aT h']
 rfl
theorem Xc {row:List Sg}{k:Nat}(h:k < row.length):F1 (row.map P8) (k:Int)=some (P8 (Qw row k)):=by
 refine cu ?_
 rw[b0,aT h]
 simp[Qw,h]
theorem Bf {row:List Sg}{a n:Nat}(h:a+n<=row.length):(seg row a n).length=n:=by
 unfold seg
 rw[eW,dA]
 omega
noncomputable def dB:Nat->PV
 | 0=>.tup [.int 0,.str "u"]
 | 1=>.tup [.int 0,.str "-"]
 | 2=>.tup [.int 1,.str "-"]
 | _=>.FE
theorem lt4 {i:Nat}(h:i < 4):i=0\/i=1\/i=2\/i=3:=by omega
def C4 (is:qr):Prop:=∀i∈is,i < 4
noncomputable def cj (is:qr):PV:=.lst (is.map dB)
noncomputable def OF (w:List (List Nat)):PV:=.lst (w.map cj)
noncomputable def MZ (g:gV):PV:=.lst (g.map OF)
noncomputable def jW (i:Nat):Str:=if i=0 then "u" else "-"
noncomputable def j7 (S:qr)(es:List Bool):List Sg:=(S.zip es).flatMap λy=>if y.1=3 then [] else [(jW y.1,y.2)]
noncomputable def qJ (n:Nat):List Bool:=(List.range n).map λi=>decide (i+1=n)
noncomputable def dm (g:gV):List Bool:=g.flatMap λw=>qJ w.length
theorem Gz (m:Nat):qJ (m+1)=List.replicate m false++[true]:=by
 unfold qJ
 rw[List.range_succ,bm]
 congr 1
 ·rw[List.eq_replicate_iff]
  refine⟨by simp,λx hx=>?_⟩
  obtain⟨i,hi,rfl⟩:=bn.mp hx
  have:=cq.mp hi
  simp
  omega
 ·simp
theorem M9 (n:Nat):(qJ n).length=n:=by simp[qJ]
theorem pQ:∀g:List (List (List Nat)),(dm g).length=g.flatten.length
 | []=>rfl
 | w::g=>by
  have:=pQ g
  show (qJ w.length++dm g).length=(w++g.flatten).length
  rw[a9,a9,M9,this]
theorem Bg {g:gV}(hm:g.flatten.length < 1000):gJ [MZ g]=some (.lst (g.flatten.map cj)):=by
 obtain⟨L,⟨d,h1,h2⟩,h3⟩:=bN (g:=gN 2) (ds:=[2]) (body:=nu) OF (λL:List (List Nat)=>[some (MZ g),some (.lst (L.map cj)),none]) (λr L=>∃d,g=d++r/\L=d.flatten)
  (by
   rintro w r L ⟨d,h1,h2⟩
   refine⟨L++w,⟨d++[w],by rw[h1];simp,by rw[h2];simp⟩,?_⟩
   have hs:L.length+w.length<=1000000:=by
    have e:g.flatten.length=L.length+(w.length+r.flatten.length):=by rw[h1,h2];simp
    omega
   simp[aX,nu,OF,hs])
  g [] ⟨[],rfl,rfl⟩
 rw[bp] at h1
 subst h1 h2
 have e:MZ g=.lst (g.map OF):=rfl
 simp only[cp] at h3
 rw[e] at h3 ⊢
 simp[gJ,vB,PU,h3]
theorem Iu (x:PV):∀n:Nat,(List.replicate n [x]).flatten=List.replicate n x
 | 0=>rfl
 | n+1=>by rw[c8,cS,Iu x n,c8];rfl
theorem M_ {GP:PV}{L:List Bool}{w:List (List Nat)}(hw:w≠[])(hl:w.length < 1000)(hL:L.length < 1000):turn (gN 2) [2] jR (OF w) [some GP,some (.lst (L.map PV.bl)),none]=some [some GP,some (.lst ((L++qJ w.length).map PV.bl)),none]:=by
 obtain⟨m,hm1⟩:∃m,w.length=m+1:=⟨w.length - 1,by cases w with | nil=>exact absurd rfl hw | cons a l=>simp⟩
 have q1:-1000000<=(m:Int)/\(m:Int)<=1000000/\m<=1000000:=by omega
 have q2:m+1<=1000000:=by omega
 have q3:L.length+(m+1)<=1000000:=by omega
 have q4:((m:Int)+1 - 1)=m:=by omega
 rw[hm1,Gz]
 simp[aX,jR,OF,hm1,q4,q1,q2,q3,Iu]
theorem Iv {g:gV}(hg:∀w∈g,w≠[])(hm:g.flatten.length < 1000):j5 [MZ g]=some (.lst ((dm g).map .bl)):=by
 obtain⟨L,⟨d,h1,h2⟩,h3⟩:=bN (g:=gN 2) (ds:=[2]) (body:=jR) OF (λL:List Bool=>[some (MZ g),some (.lst (L.map PV.bl)),none]) (λr L=>∃d,g=d++r/\L=dm d)
  (by
   rintro w r L ⟨d,h1,h2⟩
   have hw:=hg w (by rw[h1];simp)
   have e:g.flatten.length=d.flatten.length+(w.length+r.flatten.length):=by rw[h1];simp
   have hL:L.length=d.flatten.length:=by rw[h2,pQ]
   exact⟨L++qJ w.length,⟨d++[w],by rw[h1];simp,by rw[h2];simp[dm]⟩,M_ hw (by omega) (by omega)⟩)
  g [] ⟨[],rfl,rfl⟩
 rw[bp] at h1
 subst h1 h2
 have e:MZ g=.lst (g.map OF):=rfl
 simp only[cp] at h3
 generalize hlb:jR=B at h3
 have hb:qF [some (MZ g),none,none]=some (.rt (.lst ((dm g).map .bl))):=by
  unfold qF
  rw[hlb]
  rw[e] at h3 ⊢
  simp[PU,h3]
 unfold j5
 generalize qF=B2 at *
 simp[hb]
theorem T7 {g:gV}{S:qr}(hg:∀w∈g,w≠[])(hS:C4 S)(hm:g.flatten.length < 1000):qH [MZ g,cj S]=some (dO (j7 S (dm g))):=by
 have h1:=Iv hg hm
 have hlen:(dm g).length < 1000:=by rw[pQ];exact hm
 generalize dm g=es at *
 have hz:=yL dB PV.bl S es
 have hle:(S.zip es).length<=1000000:=by rw[lP];omega
 have hc:=ir (env:=[none,none]) (g:=gT [0,1]) (t:=rD) (f:=rC) (λz:Nat×Bool=>PV.tup [dB z.1,.bl z.2]) (λz=>PV.tup [.str (jW z.1),.bl z.2]) (λz=>!decide (z.1=3)) (S.zip es) (λz hz'=>by
  have h4:=hS _ (jp hz').1
  refine⟨[some (dB z.1),some (.bl z.2)],rfl,?_,λhq=>?_⟩
  ·rcases lt4 h4 with e | e | e | e <;> simp[rD,e,dB]
  ·rcases lt4 h4 with e | e | e | e <;> simp[rC,e,dB,jW] at hq ⊢)
 have hr:((S.zip es).filter λz:Nat×Bool=>!decide (z.1=3)).map (λz=>PV.tup [.str (jW z.1),.bl z.2])=(j7 S es).map P8:=by
  unfold j7
  generalize S.zip es=ZS
  induction ZS with
  | nil=>rfl
  | cons z ZS ih=>
   rw[g9,bm,← ih]
   by_cases e:z.1=3
   ·simp[e]
   ·simp[e,P8]
 rw[hr] at hc
 have e:cj S=.lst (S.map dB):=rfl
 have hb:qG [some (MZ g),some (cj S)]=some (.rt (dO (j7 S es))):=by
  unfold qG dO
  rw[e]
  generalize j5=me,S.zip es=ZS at *
  simp[h1,hz,hle,hc]
 unfold qH
 generalize qG=B at *
 simp[hb]
theorem Xd (a b c d e f:Int):OR (.tup [.int a,.int b,.int c]) (.tup [.int d,.int e,.int f])=some (decide (a=d/\b=e/\c=f)):=by
 have h1:∀x y z:Int,SeqAt.shaped (.tuple [.int x,.int y,.int z])=true:=λx y z=>by
  simp[SeqAt.shaped,PyData.canLay0,PyData.canLayAll0,PyData.depth,PyData.depthAll]
 simp[OR,eqS,eqD,toD,gw,h1,PyData.eqv,PyData.eqvAll,Bool.decide_and]
 rfl
noncomputable def Lc (a b c:Nat):PV:=.tup [.int a,.int b,.int c]
noncomputable def bhS (s:Slot)(slot k i:Nat)(p:Str)(ends:Bool):PV:=if i+1 < p.length then Lc slot k (i+1) else if (s.2&&!ends)=true then .FE else Lc (slot+1) 0 0
variable {m:rg}{s:Slot}
theorem Iw {slot:Nat}(h:m[slot]?=some s):F1 (m.map JU) (slot:Int)=some (JU s):=cu (by simp[h])
theorem Nb {k:Nat}(h:s.1[k]?=some p):F1 (s.1.map PV.str) (k:Int)=some (.str p):=cu (by simp[h])
theorem Nf {slot k i:Nat}{ends:Bool}(hs:m[slot]?=some s)(hp:s.1[k]?=some p)(ok:KU p):
  gP [mP m,Lc slot k i,.bl ends]=some (bhS s slot k i p ends):=by
 have h1:=Iw hs
 have h2:=Nb hp
 have h3:p.length<=1000000:=by have:=ok.le;omega
 have h4:((i:Int)+1 < (p.length:Int))↔i+1 < p.length:=by omega
 unfold bhS
 by_cases h5:i+1 < p.length
 ·simp[gP,m9,mP,Lc,h1,JU,h2,h3,h4,h5]
 ·have h6:(if i+1 < p.length then Lc slot k (i+1) else if (s.2&&!ends)=true then PV.FE else Lc (slot+1) 0 0)=(if (s.2&&!ends)=true then PV.FE else Lc (slot+1) 0 0):=ax h5
  rw[h6]
  cases hc:s.2 <;> cases ends <;> simp[gP,m9,mP,Lc,h1,JU,h2,h3,h4,h5,hc]
noncomputable def TN (s:Slot)(slot i:Nat)(mark:Str)(ends:Bool)(k:Nat):List PV:=
 if LZ (xO (s.1.getD k ⟨#[]⟩) i) mark=true/\An (bhS s slot k i (s.1.getD k ⟨#[]⟩) ends)=false then [.tup [.int k,bhS s slot k i (s.1.getD k ⟨#[]⟩) ends]] else []
theorem Iz {k:Nat}(h:s.1[k]?=some p):s.1.getD k ⟨#[]⟩=p:=by rw[gg,h];rfl
theorem Qx (s:Slot)(slot k i:Nat)(p:Str)(ends:Bool):(bhS s slot k i p ends=.FE/\¬ i+1 < p.length/\s.2=true/\ends=false)\/(∃a b c:Nat,bhS s slot k i p ends=Lc a b c/\((i+1 < p.length/\a=slot/\b=k/\c=i+1)\/(¬ i+1 < p.length/\(s.2=false\/ends=true)/\a=slot+1/\b=0/\c=0))):=by
 unfold bhS
 by_cases h:i+1 < p.length
 ·exact .inr ⟨_,_,_,ba h,.inl ⟨h,rfl,rfl,rfl⟩⟩
 ·rw[ax h]
  by_cases h':(s.2&&!ends)=true
  ·rw[ba h']
   simp at h'
   exact .inl ⟨rfl,h,h'.1,h'.2⟩
  ·rw[ax h']
   refine .inr ⟨_,_,_,rfl,.inr ⟨h,?_,rfl,rfl,rfl⟩⟩
   cases hs:s.2 <;> cases ends <;> simp_all
theorem T8 {slot k i:Nat}{mark:Str}{ends:Bool}{S N:PV}{L:List PV}(hs:m[slot]?=some s)(hp:s.1[k]?=some p)(ok:KU p)(hi:i < p.length)(hL:L.length < 1000):
  turn (gN 9) [9,10] eX (.int k) [some (mP m),some S,some (.str mark),some (.bl ends),some (.int slot),some (.int i),some (.tup (s.1.map .str)),some N,some (.lst L),none,none]=
   some [some (mP m),some S,some (.str mark),some (.bl ends),some (.int slot),some (.int i),some (.tup (s.1.map .str)),some N,some (.lst (L++TN s slot i mark ends k)),none,none]:=by
 have h1:=Nf (i:=i) (ends:=ends) hs hp ok
 have h2:=Nb hp
 have h3:p.length<=1000000:=by have:=ok.le;omega
 have h4:=Xb hi
 have h5:=M8 (xO p i) mark
 have hl:L.length < 1000000:=by omega
 unfold xO at h5
 unfold TN
 rw[Iz hp]
 rcases Qx s slot k i p ends with ⟨e,_⟩ | ⟨a,b,c,e,_⟩
 ·rw[e] at h1
  simp only[Lc] at h1
  simp[aX,eX,h1,e]
 ·rw[e] at h1 ⊢
  simp only[Lc] at h1
  unfold xO
  cases hq:LZ ⟨#[p.cps.toList.getD i 0]⟩ mark with
  | true=>
   rw[hq] at h5
   simp[aX,eX,h1,h2,h3,h4,h5,hl,Lc,-List.getD_eq_getElem?_getD]
  | false=>
   rw[hq] at h5
   simp[aX,eX,h1,h2,h3,h4,h5,hl,Lc,-List.getD_eq_getElem?_getD]
theorem T9 (s:Slot)(slot i:Nat)(mark:Str)(ends:Bool)(k:Nat):(TN s slot i mark ends k).length<=1:=by unfold TN;split <;> simp
theorem IK {slot i:Nat}{mark:Str}{ends:Bool}{S N:PV}(hs:m[slot]?=some s)(ok:K2 s.1)(ks:qr)(hk:∀k∈ks,∃p,s.1[k]?=some p/\i < p.length)(hl:ks.length < 1000):
  bB (gN 9) [9,10] eX (ks.map λk=>PV.int (k:Nat)) [some (mP m),some S,some (.str mark),some (.bl ends),some (.int slot),some (.int i),some (.tup (s.1.map .str)),some N,some (.lst []),none,none]=
   some (.nx [some (mP m),some S,some (.str mark),some (.bl ends),some (.int slot),some (.int i),some (.tup (s.1.map .str)),some N,some (.lst (ks.flatMap (TN s slot i mark ends))),none,none]):=by
 obtain⟨L,⟨d,e1,e2,_⟩,h⟩:=bN (g:=gN 9) (ds:=[9,10]) (body:=eX) (λk:Nat=>PV.int (k:Nat))
  (λL:List PV=>[some (mP m),some S,some (.str mark),some (.bl ends),some (.int slot),some (.int i),some (.tup (s.1.map .str)),some N,some (.lst L),none,none])
  (λr L=>∃d,ks=d++r/\L=d.flatMap (TN s slot i mark ends)/\L.length<=d.length)
  (by
   rintro k r L ⟨d,e1,e2,e3⟩
   obtain⟨p,hp,hi⟩:=hk k (by rw[e1];simp)
   have hd:d.length < 1000:=by have:=c5 List.length e1;simp at this;omega
   have hm:p∈s.1:=dc hp
   refine⟨L++TN s slot i mark ends k,⟨d++[k],by rw[e1];simp,by rw[e2];simp,?_⟩,T8 hs hp (ok.ok p hm) hi (by omega)⟩
   have:=T9 s slot i mark ends k
   simp;omega)
  ks [] ⟨[],rfl,rfl,aw _⟩
 rw[bp] at e1
 subst e1 e2
 exact h
structure StOk (m:rg)(slot pat i:Nat):Prop where
 le:slot<=m.length
 fin:slot=m.length->pat=0/\i=0
 mid:∀s,m[slot]?=some s->(i=0/\pat=0)\/∃p,s.1[pat]?=some p/\0 < i/\i < p.length
noncomputable def mvs (m:rg)(slot pat i:Nat)(mark:Str)(ends:Bool):List PV:=match m[slot]? with
 | none=>[]
 | some s=>if i=0 then (List.range s.1.length).flatMap (TN s slot i mark ends) else TN s slot i mark ends pat
theorem Qy (hm:fL m)(hl:m.length < 1000){slot pat i:Nat}(st:StOk m slot pat i)(mark:Str)(ends:Bool):
  gY [mP m,Lc slot pat i,.str mark,.bl ends]=some (.lst (mvs m slot pat i mark ends)):=by
 have he:c7 [mP m]=some (.tup [.int m.length,.int 0,.int 0]):=by simp[c7,mW,mP]
 have hq:=Xd slot pat i m.length 0 0
 unfold mvs
 by_cases hf:slot=m.length
 ·obtain⟨rfl,rfl⟩:=st.fin hf
  subst hf
  have:m[m.length]?=none:=by simp
  rw[this]
  simp at hq
  simp[gY,pB,he,Lc,hq]
 ·have LI:slot < m.length:=by have:=st.le;omega
  obtain⟨s,hs⟩:∃s,m[slot]?=some s:=⟨m[slot],aT LI⟩
  rw[hs]
  have HL:¬ ((slot:Int)=m.length/\(pat:Int)=0/\(i:Int)=0):=λz=>hf (by omega)
  rw[be HL] at hq
  have ok:=hm s (dc hs)
  have h1:=Iw hs
  by_cases hi:i=0
  ·subst hi
   have lp:=IK (S:=Lc slot pat 0) (N:=.lst ((List.range s.1.length).map λk=>PV.int (k:Nat))) (mark:=mark) (ends:=ends) (i:=0) hs ok (List.range s.1.length) (λk hk=>by
    have hk':=cq.mp hk
    have:=(ok.ok _ (e9 hk')).ge
    exact⟨s.1[k],aT hk',by omega⟩) (by have:=ok.le;simp;omega)
   have hr:=jM s.1.length
   have hb:0<=(s.1.length:Int)/\(s.1.length:Int)<=1000000:=by have:=ok.le;omega
   simp only[fi]
   have e1:mP m=.tup (m.map JU):=rfl
   have e2:Lc slot pat 0=.tup [.int slot,.int pat,.int 0]:=rfl
   rw[e1,e2] at lp ⊢
   rw[e1] at he
   simp at hq lp
   simp[gY,pB,he,hq,h1,JU,hr,hb,PU,lp]
  ·rcases st.mid s hs with z | ⟨p,hp,hp1,NS⟩
   ·exact absurd z.1 hi
   ·have lp:=IK (S:=Lc slot pat i) (N:=.lst [.int pat]) (mark:=mark) (ends:=ends) (i:=i) hs ok [pat] (λk hk=>by
     rw[av] at hk
     subst hk
     exact⟨p,hp,NS⟩) (by simp)
    simp only[ax hi]
    have e1:mP m=.tup (m.map JU):=rfl
    have e2:Lc slot pat i=.tup [.int slot,.int pat,.int i]:=rfl
    rw[e1,e2] at lp ⊢
    rw[e1] at he
    have N4:¬ (i:Int)=0:=by omega
    simp at lp
    simp[gY,pB,he,hq,h1,JU,PU,lp,hi,N4]
abbrev FU:=Nat×Nat×Nat
noncomputable def bhT (s:Slot)(slot k i:Nat)(p:Str)(ends:Bool):Option FU:=if i+1 < p.length then some (slot,k,i+1) else if (s.2&&!ends)=true then none else some (slot+1,0,0)
noncomputable def mvT (s:Slot)(slot i:Nat)(mark:Str)(ends:Bool)(k:Nat):List (Nat×FU):=
 if LZ (xO (s.1.getD k ⟨#[]⟩) i) mark=true then (bhT s slot k i (s.1.getD k ⟨#[]⟩) ends).toList.map λt=>(k,t) else []
noncomputable def kW (m:rg)(t:FU)(mark:Str)(ends:Bool):List (Nat×FU):=match m[t.1]? with
 | none=>[]
 | some s=>if t.2.2=0 then (List.range s.1.length).flatMap (mvT s t.1 0 mark ends) else mvT s t.1 t.2.2 mark ends t.2.1
noncomputable def LF (j k:Nat)(p:Str):List FU:=(List.range (p.length - 1)).map λi=>(j,k,1+i)
noncomputable def tU (j:Nat)(s:Slot):List FU:=(j,0,0)::s.1.zipIdx.flatMap λy=>LF j y.2 y.1
noncomputable def M0 (m:rg):List FU:=m.zipIdx.flatMap λy=>tU y.2 y.1
noncomputable def stp (m:rg)(mark:Str)(e:Bool):List (FU×FU):=(M0 m).flatMap λt=>(kW m t mark e).map λy=>(t,y.2)
theorem Pc {j k:Nat}{t:FU}:t∈LF j k p↔∃i,1<=i/\i < p.length/\t=(j,k,i):=by
 unfold LF
 rw[bn]
 constructor
 ·rintro ⟨i,hi,rfl⟩
  rw[cq] at hi
  exact⟨1+i,by omega,by omega,rfl⟩
 ·rintro ⟨i,h1,h2,rfl⟩
  exact⟨i - 1,by rw[cq];omega,by rw[show 1+(i - 1)=i by omega]⟩
theorem Pd {j:Nat}{t:FU}:t∈tU j s↔t=(j,0,0)\/∃k p i,s.1[k]?=some p/\1<=i/\i < p.length/\t=(j,k,i):=by
 unfold tU
 rw[aI,ga]
 refine or_congr Iff.rfl ⟨?_,?_⟩
 ·rintro ⟨⟨p,k⟩,hy,ht⟩
  obtain⟨i,h1,h2,rfl⟩:=Pc.mp ht
  exact⟨k,p,i,by simpa using fS.mp hy,h1,h2,rfl⟩
 ·rintro ⟨k,p,i,hk,h1,h2,rfl⟩
  exact⟨(p,k),fS.mpr hk,Pc.mpr ⟨i,h1,h2,rfl⟩⟩
theorem LG {t:FU}:t∈M0 m↔∃s,m[t.1]?=some s/\(t.2=(0,0)\/∃p,s.1[t.2.1]?=some p/\1<=t.2.2/\t.2.2 < p.length):=by
 unfold M0
 rw[ga]
 constructor
 ·rintro ⟨⟨s,j⟩,hy,ht⟩
  have hj:m[j]?=some s:=by simpa using fS.mp hy
  rcases Pd.mp ht with rfl | ⟨k,p,i,hk,h1,h2,rfl⟩
  ·exact⟨s,hj,.inl rfl⟩
  ·exact⟨s,hj,.inr ⟨p,hk,h1,h2⟩⟩
 ·rintro ⟨s,hs,h⟩
  obtain⟨j,k,i⟩:=t
  refine⟨(s,j),fS.mpr hs,Pd.mpr ?_⟩
  rcases h with h | ⟨p,h1,h2,h3⟩
  ·cases h;exact .inl rfl
  ·exact .inr ⟨k,p,i,h1,h2,h3,rfl⟩
noncomputable def bf (t:FU):PV:=Lc t.1 t.2.1 t.2.2
noncomputable def dh (y:FU×FU):PV:=.tup [bf y.1,bf y.2]
noncomputable def mvP (y:Nat×FU):PV:=.tup [.int (y.1:Nat),bf y.2]
theorem Ro (s:Slot)(slot i:Nat)(mark:Str)(ends:Bool)(k:Nat):TN s slot i mark ends k=(mvT s slot i mark ends k).map mvP:=by
 unfold TN mvT bhS bhT
 generalize s.1.getD k ⟨#[]⟩=p
 cases h1:LZ (xO p i) mark <;> by_cases h2:i+1 < p.length <;> cases h3:(s.2&&!ends) <;> simp[h2,mvP,bf,Lc]
theorem YG (m:rg)(t:FU)(mark:Str)(ends:Bool):mvs m t.1 t.2.1 t.2.2 mark ends=(kW m t mark ends).map mvP:=by
 unfold mvs kW
 split
 ·rename_i h;(try simp only[h]);rfl
 ·rename_i s h
  try simp only[h]
  split
  ·rename_i h0
   rw[h0,List.map_flatMap]
   congr 1
   funext k
   exact Ro s t.1 0 mark ends k
  ·exact Ro s t.1 t.2.2 mark ends t.2.1
theorem yM (j k:Nat)(p:Str):(LF j k p).length=p.length - 1:=by simp[LF]
theorem Qz {M:PV}{j:Nat}{y:Str×Nat}{L:List FU}(ok:KU y.1)(hL:L.length < 9000):
  turn (gT [4,5]) [4,5] iJ (.tup [.int (y.2:Nat),.str y.1]) [some M,some (.lst (L.map bf)),some (.int j),some (JU s),none,none]=some [some M,some (.lst ((L++LF j y.2 y.1).map bf)),some (.int j),some (JU s),none,none]:=by
 obtain⟨p,k⟩:=y
 have ok:KU p:=ok
 have h1:N1 ((p.length:Nat):Int)=true:=Fp (by omega) (by have:=ok.le;omega)
 have h0:N1 1=true:=Fp (by omega) (by omega)
 have h2:bJ [none,some (.int j),some (.int k)] (gN 0) aZ oO (cH 1 (p.length:Int))=some ((LF j k p).map bf):=by
  have e:cH 1 (p.length:Int)=(List.range (p.length - 1)).map λi=>PV.int (1+(i:Nat)):=by
   unfold cH
   have:((p.length:Int) - 1).toNat=p.length - 1:=by omega
   rw[this]
  rw[e]
  unfold LF
  rw[bP]
  exact bI _ _ _ λi _=>⟨[some (.int (1+(i:Nat))),some (.int j),some (.int k)],rfl,by rfl⟩
 have h3:p.length<=1000000:=by have:=ok.le;omega
 have h4:(cH 1 (p.length:Int)).length<=1000000:=by
  unfold cH
  rw[ac,kG]
  have:=ok.le;omega
 have h5:L.length+(LF j k p).length<=1000000:=by rw[yM];have:=ok.le;omega
 simp[aX,iJ,h0,h1,h2,h3,h4,h5,JU,fK]
theorem T_ {M:PV}{j:Nat}(ok:K2 s.1){L:List FU}(hL:L.length < 8000):
  bB (gT [4,5]) [4,5] iJ (dU 0 (s.1.map .str)) [some M,some (.lst (L.map bf)),some (.int j),some (JU s),none,none]=some (.nx [some M,some (.lst ((L++s.1.zipIdx.flatMap λy=>LF j y.2 y.1).map bf)),some (.int j),some (JU s),none,none]):=by
 have en:dU 0 (s.1.map .str)=s.1.zipIdx.map λy:Str×Nat=>PV.tup [.int (y.2:Nat),.str y.1]:=sI _ _ _
 rw[en]
 obtain⟨L',⟨d,e1,e2,e3⟩,h⟩:=bN (g:=gT [4,5]) (ds:=[4,5]) (body:=iJ) (λy:Str×Nat=>PV.tup [.int (y.2:Nat),.str y.1]) (λL:List FU=>[some M,some (.lst (L.map bf)),some (.int j),some (JU s),none,none])
  (λr L'=>∃d,s.1.zipIdx=d++r/\L'=(L++d.flatMap λy=>LF j y.2 y.1)/\L'.length<=L.length+4*d.length)
  (by
   rintro y r L' ⟨d,e1,e2,e3⟩
   have hm:y∈s.1.zipIdx:=by rw[e1];simp
   have okp:KU y.1:=ok.ok _ (iP hm)
   have hd:d.length+r.length+1=s.1.length:=by have:=c5 List.length e1;simp at this;omega
   have h4:=ok.le
   refine⟨L'++LF j y.2 y.1,⟨d++[y],by rw[e1];simp,by rw[e2];simp,?_⟩,Qz okp (by omega)⟩
   have:=yM j y.2 y.1
   have:=okp.le
   simp;omega)
  s.1.zipIdx L ⟨[],rfl,by simp,by simp⟩
 rw[bp] at e1
 rw[h,e2,← e1]
theorem QB (j:Nat)(ok:K2 s.1):(tU j s).length<=17:=by
 unfold tU
 have:∀(l:List (Str×Nat)),(∀y∈l,KU y.1)->(l.flatMap λy=>LF j y.2 y.1).length<=4*l.length:=λl=>by
  induction l with
  | nil=>simp
  | cons y l ih=>
   intro h
   have h1:=ih λz hz=>h z (ah _ hz)
   have h2:=(h y am).le
   have h3:=yM j y.2 y.1
   rw[g9,a9,bg]
   omega
 have h1:=this s.1.zipIdx λy hy=>ok.ok _ (iP hy)
 have h2:=ok.le
 rw[List.length_zipIdx] at h1
 rw[bg]
 omega
theorem CW (hm:fL m)(hl:m.length < 100):m8 [mP m]=some (.lst ((M0 m).map bf))/\(M0 m).length<=17*m.length:=by
 have en:dU 0 (m.map JU)=m.zipIdx.map λy:Slot×Nat=>PV.tup [.int (y.2:Nat),JU y.1]:=sI _ _ _
 obtain⟨L',⟨d,e1,e2,e3⟩,h⟩:=bN (g:=gT [2,3]) (ds:=[2,3,4,5]) (body:=oR) (λy:Slot×Nat=>PV.tup [.int (y.2:Nat),JU y.1]) (λL:List FU=>[some (mP m),some (.lst (L.map bf)),none,none,none,none])
  (λr L'=>∃d,m.zipIdx=d++r/\L'=(d.flatMap λy=>tU y.2 y.1)/\L'.length<=17*d.length)
  (by
   rintro y r L' ⟨d,e1,e2,e3⟩
   have hmm:y∈m.zipIdx:=by rw[e1];simp
   have ok:K2 y.1.1:=hm _ (iP hmm)
   have hd:d.length+r.length+1=m.length:=by have:=c5 List.length e1;simp at this;omega
   have h4:=QB y.2 ok
   refine⟨L'++tU y.2 y.1,⟨d++[y],by rw[e1];simp,by rw[e2];simp,by simp;omega⟩,?_⟩
   have h5:=T_ (M:=mP m) (j:=y.2) ok (L:=L'++[(y.2,0,0)]) (by simp;omega)
   have e5:(L'++[(y.2,0,0)]).map bf=L'.map bf++[.tup [.int (y.2:Nat),.int 0,.int 0]]:=by simp[bf,Lc]
   rw[e5] at h5
   have e6:L'++[(y.2,0,0)]++(y.1.1.zipIdx.flatMap λz=>LF y.2 z.2 z.1)=L'++tU y.2 y.1:=by simp[tU]
   rw[e6] at h5
   have MH:L'.length < 1000000:=by omega
   obtain⟨⟨ps,c⟩,j⟩:=y
   dsimp only at h5 ⊢
   simp only[JU] at h5
   generalize (L'++tU j (ps,c)).map bf=R at *
   simp[aX,oR,JU,MH,h5])
  m.zipIdx [] ⟨[],rfl,rfl,by simp⟩
 rw[bp] at e1
 have e7:L'=M0 m:=by rw[e2,← e1];rfl
 subst e7
 refine⟨?_,by rw[← e1] at e3;simpa using e3⟩
 simp only[cp] at h
 simp[m8,v9,mP] at h ⊢
 simp[en,h]
theorem QC (m:rg)(hm:fL m)(t:FU)(mark:Str)(e:Bool):(kW m t mark e).length<=4:=by
 have h1:∀(s:Slot) (slot i k:Nat),(mvT s slot i mark e k).length<=1:=λs slot i k=>by
  unfold mvT
  split
  ·cases bhT s slot k i (s.1.getD k ⟨#[]⟩) e <;> simp
  ·simp
 unfold kW
 split
 ·simp
 ·rename_i s h
  have ok:=hm s (dc h)
  split
  ·have:∀l:List Nat,(l.flatMap (mvT s t.1 0 mark e)).length<=l.length:=λl=>by
    induction l with
    | nil=>simp
    | cons k l ih=>have:=h1 s t.1 0 k;rw[g9,a9,bg];omega
   have h2:=this (List.range s.1.length)
   have h3:=ok.le
   rw[kG] at h2
   omega
  ·have:=h1 s t.1 t.2.2 t.2.1;omega
theorem Xe {t:FU}(h:t∈M0 m):StOk m t.1 t.2.1 t.2.2:=by
 obtain⟨s,hs,h⟩:=LG.mp h
 have LI:=(aS.mp hs).1
 refine⟨by omega,λz=>by omega,λs' Mn=>?_⟩
 rw[hs] at Mn
 cases Mn
 rcases h with h | ⟨p,h1,h2,h3⟩
 ·rw[h];exact .inl ⟨rfl,rfl⟩
 ·exact .inr ⟨p,h1,by omega,h3⟩
theorem uZ (hm:fL m)(hl:m.length < 100)(mark:Str)(e:Bool):fM [mP m,.str mark,.bl e]=some (.lst ((stp m mark e).map dh))/\(stp m mark e).length<=68*m.length:=by
 obtain⟨h1,h2⟩:=CW hm hl
 obtain⟨L',⟨d,e1,e2,e3⟩,h⟩:=bN (g:=gN 4) (ds:=[4]) (body:=p8) bf (λL:List (FU×FU)=>[some (mP m),some (.str mark),some (.bl e),some (.lst (L.map dh)),none])
  (λr L'=>∃d,M0 m=d++r/\L'=(d.flatMap λt=>(kW m t mark e).map λy=>(t,y.2))/\L'.length<=4*d.length)
  (by
   rintro t r L' ⟨d,e1,e2,e3⟩
   have hmm:t∈M0 m:=by rw[e1];simp
   have hd:d.length+r.length+1=(M0 m).length:=by have:=c5 List.length e1;simp at this;omega
   have h3:=Qy hm (by omega) (Xe hmm) mark e
   rw[YG] at h3
   have h4:=QC m hm t mark e
   refine⟨L'++(kW m t mark e).map λy=>(t,y.2),⟨d++[t],by rw[e1];simp,by rw[e2];simp,by simp;omega⟩,?_⟩
   have h5:bJ [none,none,some (bf t)] (gT [0,1]) aZ p7 ((kW m t mark e).map mvP)=some (((kW m t mark e).map λy=>(t,y.2)).map dh):=by
    rw[bP]
    exact bI _ _ _ λy _=>⟨[some (.int (y.1:Nat)),some (bf y.2),some (bf t)],rfl,by rfl⟩
   have h6:L'.length+((kW m t mark e).map λy=>(t,y.2)).length<=1000000:=by rw[ac];omega
   have h7:((kW m t mark e).map mvP).length<=1000000:=by rw[ac];omega
   have h3:gY [mP m,bf t,.str mark,.bl e]=some (.lst ((kW m t mark e).map mvP)):=h3
   rw[bm]
   have h8:(L'.map dh).length+(((kW m t mark e).map λy=>(t,y.2)).map dh).length<=1000000:=by simpa using h6
   generalize ((kW m t mark e).map λy=>(t,y.2)).map dh=R,(kW m t mark e).map mvP=V,L'.map dh=W,bf t=S,mP m=M at *
   simp[aX,p8,h3,h5,h7,h8,fK])
  (M0 m) [] ⟨[],rfl,rfl,by simp⟩
 rw[bp] at e1
 have e7:L'=stp m mark e:=by rw[e2,← e1];rfl
 subst e7
 refine⟨?_,by rw[← e1] at e3;omega⟩
 simp only[cp] at h
 simp[fM,ym,h1,h]
variable {α:Type}{f:α->PV}
noncomputable def kS (t:FU):List Key:=[.inl (t.1:Nat),.inl (t.2.1:Nat),.inl (t.2.2:Nat)]
theorem P9 {t u:FU}:kS t=kS u↔t=u:=by
 obtain⟨a,b,c⟩:=t
 obtain⟨d,e,f⟩:=u
 simp[kS]
 omega
abbrev Dg (α:Type):=List (FU×α)
abbrev Dc:=Dg Int
noncomputable def dE (f:α->PV)(y:FU×α):List Key×PV:=(kS y.1,f y.2)
noncomputable def dP (f:α->PV)(d:Dg α):PV:=.dT (d.map (dE f))
noncomputable def ks (d:Dg α):List FU:=d.map (·.1)
noncomputable def look (d:Dg α)(t:FU):Option α:=(d.find? λy=>decide (y.1=t)).map (·.2)
noncomputable def val (d:Dc)(t:FU):Int:=(look d t).getD 0
def lU (d:Dg α)(t:FU)(v:α):Dg α:=if t∈ks d then d.map λy=>if y.1=t then (t,v) else y else d++[(t,v)]
theorem uD (t:FU):∀d:Dg α,cN (d.map (dE f)) (kS t)=(look d t).map f
 | []=>rfl
 | y::d=>by
  have ih:=uD t d
  unfold cN look at ih ⊢
  rw[al,cv,cv]
  by_cases h:y.1=t
  ·subst h;simp[dE]
  ·have h':¬ (dE f y).1=kS t:=λz=>h (P9.mp z)
   simp only[be h,be h']
   exact ih
theorem fZ {t:FU}:∀{d:Dg α},(look d t).isSome=decide (t∈ks d)
 | []=>by simp[look,ks]
 | y::d=>by
  have ih:=fZ (t:=t) (d:=d)
  unfold look ks at ih ⊢
  rw[cv]
  by_cases h:y.1=t
  ·subst h;simp
  ·have h':¬ t=y.1:=λz=>h z.symm
   simp only[be h,al,aI,h',false_or]
   exact ih
theorem Ng {d:Dc}{t:FU}(h:t∉ks d):val d t=0:=by
 have:=fZ (d:=d) (t:=t)
 rw[be h] at this
 unfold val
 cases q:look d t with
 | none=>rfl
 | some v=>rw[q] at this;cases this
theorem QD (d:Dg α)(t:FU)(v:α)(u:FU)(h:t∉ks d):look (d++[(t,v)]) u=if u=t then some v else look d u:=by
 unfold look
 rw[List.find?_append]
 by_cases e:u=t
 ·subst e
  have:d.find? (λy=>decide (y.1=u))=none:=by
   rw[List.find?_eq_none]
   intro y hy
   simp only[gX]
   exact λz=>h (z▸pw hy)
  simp[this]
 ·have e':¬ t=u:=λz=>e z.symm
  simp[e,e']
theorem yN (t:FU)(v:α)(u:FU):∀d:Dg α,t∈ks d->look (d.map λy=>if y.1=t then (t,v) else y) u=if u=t then some v else look d u
 | [],h=>by simp[ks] at h
 | y::d,h=>by
  unfold look
  rw[al,cv,cv]
  by_cases hy:y.1=t
  ·rw[ba hy]
   by_cases e:u=t
   ·subst e;simp
   ·have e1:¬ t=u:=λz=>e z.symm
    have e2:¬ y.1=u:=λz=>e1 (hy.symm.trans z)
    simp only[be e1,be e2,ax e]
    by_cases hm:t∈ks d
    ·have:=yN t v u d hm
     unfold look at this
     rw[this,ax e]
    ·have:(d.map λy=>if y.1=t then (t,v) else y)=d:=by
      conv=>rhs;rw[← List.map_id d]
      refine ei λz hz=>?_
      have hz':¬ z.1=t:=λw=>hm (w▸pw hz)
      rw[ax hz']
      rfl
     rw[this]
  ·rw[ax hy]
   have hm:t∈ks d:=by
    unfold ks at h ⊢
    rw[al,aI] at h
    exact h.resolve_left λz=>hy z.symm
   have ih:=yN t v u d hm
   unfold look at ih
   by_cases e2:y.1=u
   ·have e:¬ u=t:=λz=>hy (e2.trans z)
    simp[e2,e]
   ·simp only[be e2]
    exact ih
theorem GD (d:Dg α)(t:FU)(v:α)(u:FU):look (lU d t v) u=if u=t then some v else look d u:=by
 unfold lU
 split
 ·rename_i h;exact yN t v u d h
 ·rename_i h;exact QD d t v u h
theorem Ua (d:Dc)(t:FU)(v:Int)(u:FU):val (lU d t v) u=if u=t then v else val d u:=by
 unfold val
 rw[GD]
 split <;> rfl
theorem Nh (d:Dg α)(t:FU)(v:α):ks (lU d t v)=if t∈ks d then ks d else ks d++[t]:=by
 unfold lU
 split
 ·unfold ks
  rw[bP]
  refine ei λy _=>?_
  show (if y.1=t then (t,v) else y).1=y.1
  split
  ·rename_i h;exact h.symm
  ·rfl
 ·unfold ks;simp
theorem Ni (d:Dg α)(t:FU)(v:α):jq (d.map (dE f)) (kS t) (f v)=(lU d t v).map (dE f):=by
 unfold jq lU
 have e:((d.map (dE f)).any λkv=>decide (kv.1=kS t))=decide (t∈ks d):=by
  rw[qc]
  have:(decide (t∈ks d))=d.any λy=>decide (y.1=t):=by
   rw[gv,gX,lc]
   unfold ks
   rw[bn]
   exact⟨λ⟨y,hy,e⟩=>⟨y,hy,bS e⟩,λ⟨y,hy,e⟩=>⟨y,hy,kr e⟩⟩
  rw[this]
  congr 1
  funext y
  simp only[i6,dE]
  exact li.mpr P9
 rw[e]
 by_cases h:t∈ks d
 ·rw[ba (bS h),ba h,bP,bP]
  refine ei λy _=>?_
  simp only[i6]
  by_cases q:y.1=t
  ·rw[ba q];subst q;simp[dE]
  ·rw[ax q]
   have:¬ (dE f y).1=kS t:=λz=>q (P9.mp z)
   rw[ax this]
 ·rw[be h,ax h]
  simp[dE]
structure JE (m:rg)(d:Dg α):Prop where
 nd:(ks d).Nodup
 sub:∀t∈ks d,t∈M0 m\/t=(m.length,0,0)
theorem GF {α:Type}[DecidableEq α]:∀{l u:List α},l.Nodup->(∀x∈l,x∈u)->l.length<=u.length
 | [],_,_,_=>eA _
 | a::l,u,h,s=>by
  rw[fE] at h
  have ha:a∈u:=s a am
  have:=GF (l:=l) (u:=u.erase a) h.2 λx hx=>(List.mem_erase_of_ne (show x≠a from λz=>h.1 (z▸hx))).mpr (s x (ah _ hx))
  rw[List.length_erase_of_mem ha] at this
  have hp:=List.length_pos_of_mem ha
  rw[bg]
  omega
theorem JE.len {d:Dg α}(h:JE m d)(hm:fL m)(hl:m.length < 100):d.length < 5000:=by
 have h1:(ks d).length<=(M0 m++[(m.length,0,0)]).length:=GF h.nd λt ht=>by
  rcases h.sub t ht with z | z
  ·exact gL _ z
  ·rw[z];simp
 have h2:=(CW hm hl).2
 unfold ks at h1
 simp at h1
 omega
theorem JE.put {d:Dg α}(h:JE m d){t:FU}(ht:t∈M0 m\/t=(m.length,0,0))(v:α):JE m (lU d t v):=by
 constructor
 ·rw[Nh]
  split
  ·exact h.nd
  ·rename_i hn
   rw[mI]
   exact⟨h.nd,by simp,λx hx y hy e=>hn (by rw[av] at hy;rw[← hy,← e];exact hx)⟩
 ·rw[Nh]
  split
  ·exact h.sub
  ·intro u hu
   rcases bv.mp hu with z | z
   ·exact h.sub u z
   ·rw[av] at z;rw[z];exact ht
theorem pR (t:FU):FO [.int (t.1:Nat),.int (t.2.1:Nat),.int (t.2.2:Nat)]=some (kS t):=by simp[kS]
theorem Xf (d:Dg α)(t:FU):N0 (bf t) (dP f d)=some (decide (t∈ks d)):=by
 have h1:=pR t
 have h2:=uD (f:=f) t d
 have h3:=fZ (d:=d) (t:=t)
 unfold bf Lc dP
 show (FO [.int (t.1:Nat),.int (t.2.1:Nat),.int (t.2.2:Nat)]).map (λk=>(cN (d.map (dE f)) k).isSome)=_
 rw[h1,er,h2,kz,h3]
theorem J0 (d:Dg α)(t:FU)(x:PV):jZ (dP f d) (bf t) x=some (((look d t).map f).getD x):=by
 have h1:=pR t
 have h2:=uD (f:=f) t d
 unfold bf Lc dP
 show (FO [.int (t.1:Nat),.int (t.2.1:Nat),.int (t.2.2:Nat)]).map (λk=>(cN (d.map (dE f)) k).getD x)=_
 rw[h1,er,h2]
theorem YH (d:Dc)(t:FU):jZ (dP .int d) (bf t) (.int 0)=some (.int (val d t)):=by
 rw[J0]
 unfold val
 cases look d t <;> rfl
theorem Xg {d:Dg α}{t:FU}{v:α}(h:look d t=some v):FI (dP f d) (bf t)=some (f v):=by
 have h1:=pR t
 have h2:=uD (f:=f) t d
 unfold bf Lc dP
 show (FO [.int (t.1:Nat),.int (t.2.1:Nat),.int (t.2.2:Nat)]).bind (λk=>cN (d.map (dE f)) k)=_
 rw[h1,bq,h2,h]
 rfl
theorem Ub {d:Dg α}{t:FU}(h:t∈ks d):∃v,look d t=some v:=by
 have h3:=fZ (d:=d) (t:=t)
 rw[bS h] at h3
 exact mN.mp h3
theorem ZQ {d:Dc}{t:FU}(h:t∈ks d):FI (dP .int d) (bf t)=some (.int (val d t)):=by
 obtain⟨v,q⟩:=Ub h
 rw[Xg q]
 unfold val
 rw[q]
 rfl
theorem J1 {d:Dg α}(t:FU)(v:α)(h:d.length < 5000):ik (dP f d) (bf t) (f v)=some (dP f (lU d t v)):=by
 have h1:=pR t
 have h2:=Ni (f:=f) d t v
 unfold bf Lc dP
 show (FO [.int (t.1:Nat),.int (t.2.1:Nat),.int (t.2.2:Nat)]).bind (λk=>if (d.map (dE f)).length < 1000000 then some (PV.dT (jq (d.map (dE f)) k (f v))) else none)=_
 rw[h1,bq,ba (by rw[ac];omega),h2]
variable {α:Type}{f:α->PV}
noncomputable def Qb (m:rg)(mark:Str)(e:Bool):PV:=.lst ((stp m mark e).map dh)
noncomputable def bj (m:rg):PV:=.dT [([.inr "u",.inl 0],Qb m "u" false),([.inr "u",.inl 1],Qb m "u" true),([.inr "-",.inl 0],Qb m "-" false),([.inr "-",.inl 1],Qb m "-" true)]
theorem GJ (hm:fL m)(hl:m.length < 100):iM [mP m]=some (bj m):=by
 have a1:fM [mP m,.str "u",.bl false]=some (Qb m "u" false):=(uZ hm hl _ _).1
 have a2:fM [mP m,.str "u",.bl true]=some (Qb m "u" true):=(uZ hm hl _ _).1
 have a3:fM [mP m,.str "-",.bl false]=some (Qb m "-" false):=(uZ hm hl _ _).1
 have a4:fM [mP m,.str "-",.bl true]=some (Qb m "-" true):=(uZ hm hl _ _).1
 unfold bj
 generalize Qb m "u" false=L1,Qb m "u" true=L2,Qb m "-" false=L3,Qb m "-" true=L4,mP m=M at *
 have HL:¬ (("u" : Str) = "-"):=by decide
 simp[iM,v_,uz,uy,bB,a1,a2,a3,a4,jq,HL,Kk]
noncomputable def wk (m:rg)(o:Nat)(e:Bool)(b:Dg α):List (FU×FU):=if o=3 then (ks b).map λt=>(t,t) else stp m (jW o) e
theorem Uc (b:Dg α):zz (dP f b)=some ((ks b).map bf):=by
 have h:((b.map (dE f)).all λkv=>kv.1.length != 2)=true:=by
  rw[List.all_map,cr]
  intro y _
  rfl
 unfold dP
 show (if ((b.map (dE f)).all λkv=>kv.1.length != 2)=true then some ((b.map (dE f)).map λkv=>PV.tup (kv.1.map kP)) else none)=_
 rw[ba h]
 unfold ks
 rw[bP,bP]
 rfl
theorem CZ {o:Nat}(ho:o < 4)(e:Bool){b:Dg α}(hb:b.length < 5000):eE [bj m,dB o,.bl e,dP f b]=some (.lst ((wk m o e b).map dh)):=by
 have HL:¬ (("u" : Str) = "-"):=by decide
 have hne':¬ (("-" : Str) = "u"):=by decide
 have h1:=Uc (f:=f) b
 have h2:bJ [none] (gN 0) aZ oM ((ks b).map bf)=some (((ks b).map λt=>(t,t)).map dh):=by
  rw[bP]
  exact bI _ _ _ λt _=>⟨[some (bf t)],rfl,by rfl⟩
 have h3:((ks b).map bf).length<=1000000:=by unfold ks;simp;omega
 unfold wk
 rcases lt4 ho with rfl | rfl | rfl | rfl
 ·cases e <;> rfl
 ·cases e <;> rfl
 ·cases e <;> rfl
 ·rw[ba rfl]
  generalize ((ks b).map λt=>(t,t)).map dh=R,(ks b).map bf=V,dP f b=B at *
  simp[eE,jO,dB,h1,h2,h3,fK,-zz]
def Si (m:rg)(o:Nat)(e:Bool)(s t:FU):Prop:=if o=3 then s=t else (s,t)∈stp m (jW o) e
def Run (m:rg):List (List Nat×Bool)->FU->FU->Prop
 | [],s,t=>s=t
 | x::O,s,t=>∃o∈x.1,∃u,Si m o x.2 s u/\Run m O u t
theorem KG {m:rg}:∀{O P:List (List Nat×Bool)}{s t:FU},Run m (O++P) s t↔∃u,Run m O s u/\Run m P u t
 | [],P,s,t=>by simp[Run]
 | x::O,P,s,t=>by
  simp only[i0,Run,KG (O:=O) (P:=P)]
  exact⟨λ⟨o,ho,u,h1,v,h2,h3⟩=>⟨v,⟨o,ho,u,h1,h2⟩,h3⟩,λ⟨v,⟨o,ho,u,h1,h2⟩,h3⟩=>⟨o,ho,u,h1,v,h2,h3⟩⟩
theorem Nj {o:Nat}{e:Bool}{b:Dg α}{s t:FU}(h:(s,t)∈wk m o e b):Si m o e s t:=by
 unfold wk at h
 unfold Si
 split
 ·rename_i q
  rw[ba q] at h
  obtain⟨u,_,e⟩:=bn.mp h
  rw[nb] at e
  exact e.1.symm.trans e.2
 ·rename_i q
  rw[ax q] at h
  exact h
theorem Nk {o:Nat}{e:Bool}{b:Dg α}{s t:FU}(h:Si m o e s t)(hb:s∈ks b\/t∈ks b):(s,t)∈wk m o e b:=by
 unfold Si at h
 unfold wk
 split
 ·rename_i q
  rw[ba q] at h
  subst h
  exact bn.mpr ⟨s,hb.elim id id,rfl⟩
 ·rename_i q
  rw[ax q] at h
  exact h
def xP (b:Dc)(d:Dc)(y:FU×FU):Dc:=if y.2∈ks b then lU d y.1 (val d y.1+val b y.2) else d
theorem QF {SP OP EP o:PV}{b d:Dc}{y:FU×FU}(hd:d.length < 5000):
  turn (gT [6,7]) [6,7] dF (dh y) [some SP,some OP,some EP,some (dP .int b),some (dP .int d),some o,none,none]=some [some SP,some OP,some EP,some (dP .int b),some (dP .int (xP b d y)),some o,none,none]:=by
 have h1:=Xf (f:=PV.int) b y.2
 have h2:=YH d y.1
 unfold xP
 by_cases h:y.2∈ks b
 ·have h3:=ZQ h
  have h4:=J1 (f:=PV.int) y.1 (val d y.1+val b y.2) hd
  rw[bS h] at h1
  rw[ba h]
  unfold dh
  generalize dP .int (lU d y.1 (val d y.1+val b y.2))=R,dP .int b=B,dP .int d=D,bf y.1=S1,bf y.2=S2 at *
  simp[aX,dF,h1,h2,h3,h4,-jZ,-FI,-ik]
 ·rw[be h] at h1
  rw[ax h]
  unfold dh
  generalize dP .int b=B,dP .int d=D,bf y.1=S1,bf y.2=S2 at *
  simp[aX,dF,h1,-jZ,-FI,-ik]
theorem QG (b d:Dc)(y:FU×FU)(t:FU):val (xP b d y) t=val d t+if y.1=t then val b y.2 else 0:=by
 unfold xP
 by_cases h:y.2∈ks b
 ·rw[ba h,Ua]
  by_cases e:t=y.1
  ·subst e;simp
  ·have e':¬ y.1=t:=λz=>e z.symm
   simp[e,e']
 ·rw[ax h,Ng h]
  simp
def Pos (d:Dc)(P:FU->Prop):Prop:=∀t,0<=val d t/\(0 < val d t↔P t)
theorem Ud {SP OP EP o:PV}(hm:fL m)(hl:m.length < 100){b d:Dc}{Q P0:FU->Prop}(hb:Pos b Q)(hd:JE m d)(hp:Pos d P0)(P:List (FU×FU))(hP:∀y∈P,y.1∈M0 m\/y.1=(m.length,0,0)):
  ∃d',JE m d'/\Pos d' (λt=>P0 t\/∃y∈P,y.1=t/\Q y.2) /\
   bB (gT [6,7]) [6,7] dF (P.map dh) [some SP,some OP,some EP,some (dP .int b),some (dP .int d),some o,none,none]=some (.nx [some SP,some OP,some EP,some (dP .int b),some (dP .int d'),some o,none,none]):=by
 obtain⟨d',⟨q,e1,e2,e3⟩,h⟩:=bN (g:=gT [6,7]) (ds:=[6,7]) (body:=dF) dh (λd:Dc=>[some SP,some OP,some EP,some (dP .int b),some (dP .int d),some o,none,none])
  (λr d'=>∃q,P=q++r/\JE m d'/\Pos d' (λt=>P0 t\/∃y∈q,y.1=t/\Q y.2))
  (by
   rintro y r d' ⟨q,e1,e2,e3⟩
   refine⟨xP b d' y,⟨q++[y],by rw[e1];simp,?_,λt=>?_⟩,QF (e2.len hm hl)⟩
   ·unfold xP
    split
    ·exact e2.put (hP y (by rw[e1];simp)) _
    ·exact e2
   ·obtain⟨a1,a2⟩:=e3 t
    obtain⟨b1,b2⟩:=hb y.2
    rw[QG]
    dsimp only at a2 ⊢
    have hq:(∃z∈q++[y],z.1=t/\Q z.2)↔(∃z∈q,z.1=t/\Q z.2)\/(y.1=t/\Q y.2):=by
     simp only[bv,av,mf,pi,kM]
    rw[hq,← or_assoc,← a2,← b2]
    by_cases z:y.1=t
    ·simp only[z,fi,true_and]
     exact⟨by omega,by omega⟩
    ·simp only[z,fm,false_and,c9]
     exact⟨by omega,by omega⟩)
  P d ⟨[],rfl,hd,λt=>by simpa using hp t⟩
 rw[bp] at e1
 subst e1
 exact⟨d',e2,e3,h⟩
theorem YJ {b:Dg α}(hb:JE m b)(o:Nat)(e:Bool):∀y∈wk m o e b,y.1∈M0 m\/y.1=(m.length,0,0):=λy hy=>by
 unfold wk at hy
 split at hy
 ·obtain⟨t,ht,rfl⟩:=bn.mp hy
  exact hb.sub t ht
 ·unfold stp at hy
  obtain⟨t,ht,hy⟩:=ga.mp hy
  obtain⟨z,_,rfl⟩:=bn.mp hy
  exact .inl ht
theorem QH (hm:fL m)(hl:m.length < 100){os:qr}(ho:C4 os)(e:Bool){b:Dc}(hb:JE m b){Q:FU->Prop}(hQ:Pos b Q):
  ∃d,JE m d/\Pos d (λt=>∃o∈os,∃u,Si m o e t u/\Q u)/\jF [bj m,cj os,.bl e,dP .int b]=some (dP .int d):=by
 obtain⟨d,⟨q,e1,e2,e3⟩,h⟩:=bN (g:=gN 5) (ds:=[5,6,7]) (body:=kJ) dB (λd:Dc=>[some (bj m),some (cj os),some (.bl e),some (dP .int b),some (dP .int d),none,none,none])
  (λr d'=>∃q,os=q++r/\JE m d'/\Pos d' (λt=>∃o∈q,∃u,Si m o e t u/\Q u))
  (by
   rintro o r d' ⟨q,e1,e2,e3⟩
   have h1:=CZ (m:=m) (f:=PV.int) (ho o (by rw[e1];simp)) e (b:=b) (hb.len hm hl)
   obtain⟨d2,f1,f2,f3⟩:=Ud (SP:=bj m) (OP:=cj os) (EP:=.bl e) (o:=dB o) hm hl (b:=b) hQ e2 e3 (wk m o e b) (YJ hb o e)
   refine⟨d2,⟨q++[o],by rw[e1];simp,f1,λt=>?_⟩,?_⟩
   ·refine⟨(f2 t).1,(f2 t).2.trans ?_⟩
    simp only[bv,av,mf,pi,kM]
    refine or_congr Iff.rfl ⟨λ⟨y,hy,e1,e2⟩=>⟨y.2,by subst e1;exact Nj hy,e2⟩,λ⟨u,h1,h2⟩=>⟨(t,u),Nk h1 (.inr ?_),rfl,h2⟩⟩
    have:=(hQ u).2.mpr h2
    by_cases z:u∈ks b
    ·exact z
    ·rw[Ng z] at this
     omega
   ·generalize (wk m o e b).map dh=W,bj m=SP,cj os=OP,dP .int b=B,dP .int d'=D1,dP .int d2=D2,dB o=OO at *
    simp[aX,kJ,h1,f3])
  os [] ⟨[],rfl,⟨by simp[ks],by simp[ks]⟩,λt=>by simp[val,look]⟩
 rw[bp] at e1
 subst e1
 refine⟨d,e2,e3,?_⟩
 have h0:dP PV.int []=.dT []:=rfl
 rw[h0] at h
 unfold cj at h ⊢
 generalize bj m=SP,os.map dB=OP,dP .int b=B,dP .int d=D1 at *
 simp[jF,sW,h]
noncomputable def zP (x:List Nat×Bool):PV:=.tup [cj x.1,.bl x.2]
theorem Rp:∀(xs:List (List Nat)) (es:List Bool),List.zipWith (λa c=>PV.tup [a,c]) (xs.map cj) (es.map PV.bl)=(xs.zip es).map zP
 | [],_=>by simp
 | _::_,[]=>by simp
 | x::xs,e::es=>by simp[Rp xs es,zP]
def CbS (m:rg)(s:Dc×List PV):Prop:=JE m s.1/\s.2.length < 2000/\∃l,s.2=l++[dP .int s.1]
theorem Ue (hm:fL m)(hl:m.length < 100){g:gV}(hg:∀w∈g,w≠[])(h4:∀is∈g.flatten,C4 is)(hf:g.flatten.length < 1000):
  ∃d l,Pos d (λt=>Run m (g.flatten.zip (dm g)) t (m.length,0,0))/\eU [MZ g,mP m]=some (.lst (dP .int d::l)):=by
 have h1:=GJ hm hl
 have h2:=Bg hf
 have h3:=Iv hg hf
 have hend:c7 [mP m]=some (bf (m.length,0,0)):=by simp[c7,mW,mP,bf,Lc]
 have hd0:JE m ([((m.length,0,0),1)]:Dc):=⟨by simp[ks],λt ht=>.inr (by simpa [ks] using ht)⟩
 have hO:∀x∈g.flatten.zip (dm g),C4 x.1:=λx hx=>h4 _ (jp hx).1
 have hOl:(g.flatten.zip (dm g)).length < 1000:=by rw[lP];omega
 generalize hOO:g.flatten.zip (dm g)=O at *
 obtain⟨⟨d,L⟩,⟨q,e1,⟨e2,e3,l,e4⟩,e5,e6⟩,h⟩:=bN (g:=gT [5,6]) (ds:=[5,6]) (body:=gA) zP (λs:Dc×List PV=>[some (MZ g),some (mP m),some (bj m),some (dP .int s.1),some (.lst s.2),none,none])
  (λr s=>∃q,O=r.reverse++q/\CbS m s/\s.2.length<=q.length+1/\Pos s.1 (λt=>Run m q t (m.length,0,0)))
  (by
   rintro x r s ⟨q,e1,⟨e2,e3,l,e4⟩,e5,e6⟩
   obtain⟨d,L⟩:=s
   have hq:r.length+1+q.length=O.length:=by have:=c5 List.length e1;simp at this;omega
   obtain⟨d2,f1,f2,f3⟩:=QH hm hl (hO x (by rw[e1];simp)) x.2 e2 e6
   have hL:L.length < 1000000:=by dsimp only at e5;omega
   refine⟨(d2,L++[dP .int d2]),⟨x::q,by rw[e1];simp,⟨f1,by dsimp only at e5;simp;omega,L,rfl⟩,by dsimp only at e5;simp;omega,f2⟩,?_⟩
   ·unfold zP
    generalize bj m=SP,MZ g=GP,mP m=MP,dP .int d2=D2,dP .int d=D1,cj x.1=OP at *
    simp[aX,gA,f3,hL])
  O.reverse ([((m.length,0,0),1)],[dP .int [((m.length,0,0),1)]]) ⟨[],by simp,⟨hd0,by simp,[],rfl⟩,by simp,λt=>by unfold val look Run;by_cases q:t=(m.length,0,0) <;> simp[q];(have:¬ (m.length,0,0)=t:=λz=>q z.symm);simp[this]⟩
 simp only[List.reverse_nil,gx] at e1
 subst e1
 dsimp only at e4 e6 h
 refine⟨d,l.reverse,e6,?_⟩
 have hz:xu (.lst (g.flatten.map cj)) (.lst ((dm g).map .bl))=some (.lst (O.map zP)):=by
  have:((dm g).map PV.bl).length=(g.flatten.map cj).length:=by rw[ac,ac,pQ]
  simp only[xu,ba this,Rp,hOO]
 have hr:(O.map zP).reverse=O.reverse.map zP:=by rw[lj]
 rw[← hr] at h
 have hdc:sO (bf (m.length,0,0)) (.int 1)=some (dP .int [((m.length,0,0),1)]):=by rfl
 rw[e4] at h
 generalize bj m=SP,MZ g=GP,mP m=MP,dP .int [((m.length,0,0),1)]=D0,bf (m.length,0,0)=S0,dP .int d=D1,O.map zP=OP,g.flatten.map cj=Z1,(dm g).map PV.bl=Z2 at *
 simp[eU,mj,h1,h2,h3,hend,hdc,hz,h,-xu]
theorem QJ (hm:fL m)(hl:m.length < 100){g:gV}(hg:∀w∈g,w≠[])(h4:∀is∈g.flatten,C4 is)(hf:g.flatten.length < 1000):
  ∃n:Int,di [MZ g,mP m]=some (.int n)/\(0 < n↔Run m (g.flatten.zip (dm g)) (0,0,0) (m.length,0,0)):=by
 obtain⟨d,l,e,h⟩:=Ue hm hl hg h4 hf
 have h2:zA (dP .int d) l_ (.int 0)=some (.int (val d (0,0,0))):=by
  have:=uD (f:=PV.int) (0,0,0) d
  unfold dP l_
  show (FO [.int 0,.int 0,.int 0]).map (λk=>(cN (d.map (dE .int)) k).getD (.int 0))=_
  have hk:FO [.int 0,.int 0,.int 0]=some (kS (0,0,0)):=by simp[kS]
  rw[hk,er,this]
  unfold val
  cases look d (0,0,0) <;> rfl
 refine⟨val d (0,0,0),?_,(e _).2⟩
 have h3:F1 (dP .int d::l) 0=some (dP .int d):=cu (k:=0) rfl
 generalize dP .int d=D,MZ g=GP,mP m=MP at *
 simp[di,rE,h,h3,h2,-zA]
abbrev Vl:=Int×List Str
noncomputable def vP (v:Vl):PV:=.tup [.int v.1,.tup (v.2.map .str)]
def mn (a b:Vl):Vl:=if HT.LU b.1 a.1 b.2 a.2=true then b else a
theorem Rq (a b:Vl):qu (vP a) (vP b)=some (vP (mn a b)):=by
 unfold vP mn
 rw[Mh,tD,tD]
 simp only[bq]
 split <;> rfl
theorem YK (a b:Vl):(mn a b=a\/mn a b=b)/\(mn a b).1<=a.1/\(mn a b).1<=b.1:=by
 unfold mn HT.LU
 by_cases h:b.1=a.1
 ·rw[ba h]
  split
  ·exact⟨.inr rfl,by omega,by omega⟩
  ·exact⟨.inl rfl,by omega,by omega⟩
 ·rw[ax h]
  split
  ·rename_i q
   have:=kr q
   exact⟨.inr rfl,by omega,by omega⟩
  ·rename_i q
   have:¬ b.1 < a.1:=λz=>q (bS z)
   exact⟨.inl rfl,by omega,by omega⟩
def Tells (d:Dg Vl)(P:FU->Vl->Prop):Prop:=∀s,(∀v,look d s=some v->P s v)/\∀v,P s v->∃u,look d s=some u/\u.1<=v.1
variable {d:Dg Vl}{P:FU->Vl->Prop}
theorem Tells.mono {Q:FU->Vl->Prop}(h:Tells d P)(h1:∀s v,P s v->Q s v)(h2:∀s v,Q s v->∃u,P s u/\u.1<=v.1):Tells d Q:=λs=>
 ⟨λv e=>h1 s v ((h s).1 v e),λv q=>by
  obtain⟨u,hu,le⟩:=h2 s v q
  obtain⟨x,e,le2⟩:=(h s).2 u hu
  exact⟨x,e,Int.le_trans le2 le⟩⟩
theorem Tells.nil:Tells [] λ_ _=>False:=λs=>⟨λv e=>by simp[look] at e,λv q=>q.elim⟩
def NF (d:Dg Vl)(t:FU)(v:Vl):Dg Vl:=lU d t (mn v ((look d t).getD v))
theorem Tells.put (h:Tells d P)(t:FU)(v:Vl):Tells (NF d t v) λs u=>P s u\/(s=t/\u=v):=λs=>by
 unfold NF
 rw[GD]
 by_cases e:s=t
 ·subst e
  rw[ba rfl]
  obtain⟨a1,a2,a3⟩:=YK v ((look d s).getD v)
  refine⟨λu q=>?_,λu q=>⟨_,rfl,?_⟩⟩
  ·cases q
   rcases a1 with z | z
   ·exact .inr ⟨rfl,z⟩
   ·rw[z]
    cases k:look d s with
    | none=>exact .inr ⟨rfl,rfl⟩
    | some x=>exact .inl ((h s).1 x k)
  ·rcases q with q | ⟨_,rfl⟩
   ·obtain⟨x,k,le⟩:=(h s).2 u q
    rw[k] at a3 ⊢
    exact Int.le_trans a3 le
   ·exact a2
 ·rw[ax e]
  exact⟨λu q=>.inl ((h s).1 u q),λu q=>(h s).2 u (q.resolve_right λz=>e z.1)⟩
theorem Rr (d:Dg Vl)(t:FU)(v:Vl):jZ (dP vP d) (bf t) (vP v)=some (vP ((look d t).getD v)):=by
 rw[J0]
 cases look d t <;> rfl
theorem JE.NF {m:rg}{d:Dg Vl}(h:JE m d){t:FU}(ht:t∈M0 m\/t=(m.length,0,0))(v:Vl):JE m (NF d t v):=h.put ht _
section
variable {m:rg}(hm:fL m)(hl:m.length < 100)
theorem Nm {j i k:Nat}{mark:Str}{e:Bool}{y:Nat×FU}(hs:m[j]?=some s)(hp:s.1[k]?=some p)(h:y∈mvT s j i mark e k):y.2∈M0 m\/y.2=(m.length,0,0):=by
 unfold mvT at h
 rw[Iz hp] at h
 split at h
 ·obtain⟨t,ht,rfl⟩:=bn.mp h
  rw[Option.mem_toList] at ht
  unfold bhT at ht
  split at ht
  ·rename_i q
   cases ht
   exact .inl (LG.mpr ⟨s,hs,.inr ⟨p,hp,by dsimp only;omega,q⟩⟩)
  ·split at ht
   ·cases ht
   ·cases ht
    have hj:j < m.length:=(aS.mp hs).1
    by_cases q:j+1=m.length
    ·right;dsimp only;rw[q]
    ·left
     exact LG.mpr ⟨m[j+1]'(by omega),by simp,.inl rfl⟩
 ·cases h
theorem Ug {mark:Str}{e:Bool}{y:FU×FU}(h:y∈stp m mark e):y.2∈M0 m\/y.2=(m.length,0,0):=by
 unfold stp at h
 obtain⟨t,ht,hy⟩:=ga.mp h
 obtain⟨z,hz,rfl⟩:=bn.mp hy
 obtain⟨s,hs,hk⟩:=LG.mp ht
 unfold kW at hz
 rw[hs] at hz
 dsimp only at hz
 split at hz
 ·obtain⟨k,hk,hz⟩:=ga.mp hz
  exact Nm hs (aT (cq.mp hk)) hz
 ·rename_i q
  rcases hk with hk | ⟨p,hp,_,_⟩
  ·rw[hk] at q;exact absurd rfl q
  ·exact Nm hs hp hz
theorem Xh {b:Dg Vl}(hb:JE m b)(o:Nat)(e:Bool):∀y∈wk m o e b,y.2∈M0 m\/y.2=(m.length,0,0):=λy hy=>by
 unfold wk at hy
 split at hy
 ·obtain⟨t,ht,rfl⟩:=bn.mp hy
  exact hb.sub t ht
 ·exact Ug hy
theorem QK {SP OP EP o:PV}{b:Dg Vl}{y:FU×FU}(hd:d.length < 5000):
  turn (gT [6,7]) [6,7] j4 (dh y) [some SP,some (dP vP b),some OP,some EP,some (dP vP d),some o,none,none]=some [some SP,some (dP vP b),some OP,some EP,some (dP vP (match look b y.1 with | some v=>NF d y.2 v | none=>d)),some o,none,none]:=by
 have h1:=Xf (f:=vP) b y.1
 have h0:=fZ (d:=b) (t:=y.1)
 rw[← h0] at h1
 clear h0
 cases q:look b y.1 with
 | none=>
  rw[q] at h1
  unfold dh
  generalize dP vP b=B,dP vP d=D,bf y.1=S1,bf y.2=S2 at *
  simp[aX,j4,h1,-jZ,-FI,-ik]
 | some v=>
  rw[q] at h1
  have h2:=Rr d y.2 v
  have h3:=Xg (f:=vP) q
  have h5:=Rq v ((look d y.2).getD v)
  have h4:=J1 (f:=vP) y.2 (mn v ((look d y.2).getD v)) hd
  unfold dh NF
  dsimp only
  generalize vP (mn v ((look d y.2).getD v))=M,vP ((look d y.2).getD v)=M2,dP vP (lU d y.2 (mn v ((look d y.2).getD v)))=R,dP vP b=B,dP vP d=D,bf y.1=S1,bf y.2=S2,vP v=M3 at *
  simp[aX,j4,h1,h2,h3,h4,h5,-jZ,-FI,-ik]
include hm hl
theorem Uh {SP OP EP o:PV}{b:Dg Vl}{P0:FU->Vl->Prop}(hd:JE m d)(hp:Tells d P0)(L:List (FU×FU))(hL:∀y∈L,y.2∈M0 m\/y.2=(m.length,0,0)):
  ∃d',JE m d'/\Tells d' (λs v=>P0 s v\/∃y∈L,y.2=s/\look b y.1=some v) /\
   bB (gT [6,7]) [6,7] j4 (L.map dh) [some SP,some (dP vP b),some OP,some EP,some (dP vP d),some o,none,none]=some (.nx [some SP,some (dP vP b),some OP,some EP,some (dP vP d'),some o,none,none]):=by
 obtain⟨d',⟨q,e1,e2,e3⟩,h⟩:=bN (g:=gT [6,7]) (ds:=[6,7]) (body:=j4) dh (λd:Dg Vl=>[some SP,some (dP vP b),some OP,some EP,some (dP vP d),some o,none,none])
  (λr d'=>∃q,L=q++r/\JE m d'/\Tells d' (λs v=>P0 s v\/∃y∈q,y.2=s/\look b y.1=some v))
  (by
   rintro y r d' ⟨q,e1,e2,e3⟩
   refine⟨_,⟨q++[y],by rw[e1];simp,?_,?_⟩,QK (e2.len hm hl)⟩
   ·cases look b y.1 with
    | none=>exact e2
    | some v=>exact e2.NF (hL y (by rw[e1];simp)) v
   ·simp only[bv,av,mf,pi,kM]
    cases k:look b y.1 with
    | none=>exact e3.mono (λs v h=>h.elim .inl λh=>.inr (.inl h)) (λs v h=>⟨v,h.elim .inl λh=>h.elim .inr (λz=>by cases z.2),fq _⟩)
    | some v=>exact(e3.put y.2 v).mono (λs u h=>h.elim (λh=>h.elim .inl λh=>.inr (.inl h)) λ⟨a,b⟩=>.inr (.inr ⟨a.symm,by rw[b]⟩)) (λs u h=>⟨u,h.elim (λh=>.inl (.inl h)) λh=>h.elim (λh=>.inl (.inr h)) λ⟨a,b⟩=>.inr ⟨a.symm,(bo b).symm⟩,fq _⟩))
  L d ⟨[],rfl,hd,hp.mono (λs v h=>.inl h) (λs v h=>⟨v,h.elim id (λ⟨y,hy,_⟩=>(by cases hy)),fq _⟩)⟩
 rw[bp] at e1
 subst e1
 exact⟨d',e2,e3,h⟩
theorem Np {os:qr}(ho:C4 os)(e:Bool){b:Dg Vl}(hb:JE m b)(hP:Tells b P):
  ∃d,JE m d/\Tells d (λs v=>∃o∈os,∃u,Si m o e u s/\P u v)/\rA [bj m,dP vP b,cj os,.bl e]=some (dP vP d):=by
 obtain⟨d,⟨q,e1,e2,e3⟩,h⟩:=bN (g:=gN 5) (ds:=[5,6,7]) (body:=uU) dB (λd:Dg Vl=>[some (bj m),some (dP vP b),some (cj os),some (.bl e),some (dP vP d),none,none,none])
  (λr d'=>∃q,os=q++r/\JE m d'/\Tells d' (λs v=>∃o∈q,∃u,Si m o e u s/\look b u=some v))
  (by
   rintro o r d' ⟨q,e1,e2,e3⟩
   have h1:=CZ (m:=m) (f:=vP) (ho o (by rw[e1];simp)) e (b:=b) (hb.len hm hl)
   obtain⟨d2,f1,f2,f3⟩:=Uh hm hl (SP:=bj m) (OP:=cj os) (EP:=.bl e) (o:=dB o) (b:=b) e2 e3 (wk m o e b) (Xh hb o e)
   refine⟨d2,⟨q++[o],by rw[e1];simp,f1,?_⟩,?_⟩
   ·simp only[bv,av,mf,pi,kM]
    refine f2.mono (λs v h=>h.elim .inl λ⟨y,hy,e1,e2⟩=>.inr ⟨y.1,by subst e1;exact Nj hy,e2⟩) (λs v h=>⟨v,h.elim .inl λ⟨u,h1,h2⟩=>.inr ⟨(u,s),Nk h1 (.inl ?_),rfl,h2⟩,fq _⟩)
    have:=fZ (d:=b) (t:=u)
    rw[h2] at this
    exact kr this.symm
   ·generalize (wk m o e b).map dh=W,bj m=SP,cj os=OP,dP vP b=B,dP vP d'=D1,dP vP d2=D2,dB o=OO at *
    simp[aX,uU,h1,f3])
  os [] ⟨[],rfl,⟨by simp[ks],by simp[ks]⟩,Tells.nil.mono (λ_ _ h=>h.elim) (by rintro s v ⟨o,ho,_⟩;cases ho)⟩
 rw[bp] at e1
 subst e1
 refine⟨d,e2,e3.mono (λs v ⟨o,ho,u,h1,h2⟩=>⟨o,ho,u,h1,(hP u).1 v h2⟩) (λs v ⟨o,ho,u,h1,h2⟩=>?_),?_⟩
 ·obtain⟨x,k,le⟩:=(hP u).2 v h2
  exact⟨x,⟨o,ho,u,h1,k⟩,le⟩
 have h0:dP vP []=.dT []:=rfl
 rw[h0] at h
 unfold cj at h ⊢
 generalize bj m=SP,os.map dB=OP,dP vP b=B,dP vP d=D1 at *
 simp[rA,Ge,h]
end
theorem Bh {s:FU}{v:Vl}:∀{d:Dg Vl},(ks d).Nodup->((s,v)∈d↔look d s=some v)
 | [],_=>by simp[look]
 | y::d,h=>by
  unfold ks at h
  rw[al,fE] at h
  have ih:=Bh (s:=s) (v:=v) (d:=d) h.2
  unfold look at ih ⊢
  rw[aI,cv]
  by_cases q:y.1=s
  ·simp only[q,decide_true,er,Option.some.injEq]
   refine⟨λz=>z.elim (λz=>by rw[← z]) (λz=>absurd (bn.mpr ⟨_,z,rfl⟩) (by rw[q] at h;exact h.1)),λz=>.inl ?_⟩
   rw[← q,← z]
  ·simp only[be q]
   rw[← ih]
   exact⟨λz=>z.resolve_left λe=>q (by rw[← e]),.inr⟩
noncomputable def Pe (z:FU×Vl):PV:=.tup [bf z.1,vP z.2]
theorem IV (d:Dg Vl):q8 (dP vP d)=some (d.map Pe):=by
 have h:((d.map (dE vP)).all λkv=>kv.1.length != 2)=true:=by
  rw[List.all_map,cr]
  intro y _
  rfl
 unfold dP
 show (if ((d.map (dE vP)).all λkv=>kv.1.length != 2)=true then some ((d.map (dE vP)).map λkv=>PV.tup [.tup (kv.1.map kP),kv.2]) else none)=_
 rw[ba h,bP]
 rfl
theorem C_ {α:Type}(f g:α->PV):∀Y:List α,dZ (Y.map f) (Y.map g)=Y.map λy=>.tup [f y,g y]
 | []=>rfl
 | y::Y=>by
  have:=C_ f g Y
  unfold dZ at this ⊢
  simp[this]
noncomputable def loF (lo:Str->List Nat):Option Str->List Nat
 | none=>[3]
 | some w=>lo w
noncomputable def yP (y:Option Str×Dg Vl):PV:=.tup [lR y.1,dP vP y.2]
section
variable {m:rg}(hm:fL m)(hl:m.length < 100)
theorem QL {T SP WP LP F W V O:PV}{z:FU×Vl}(hd:d.length < 5000):
  turn (gT [9,10]) [9,10] lA (Pe z) [some T,some SP,some WP,some LP,some F,some (dP vP d),some W,some V,some O,none,none]=some [some T,some SP,some WP,some LP,some F,some (dP vP (NF d z.1 z.2)),some W,some V,some O,none,none]:=by
 have h2:=Rr d z.1 z.2
 have h5:=Rq z.2 ((look d z.1).getD z.2)
 have h4:=J1 (f:=vP) z.1 (mn z.2 ((look d z.1).getD z.2)) hd
 unfold Pe NF
 generalize vP (mn z.2 ((look d z.1).getD z.2))=M,vP ((look d z.1).getD z.2)=M2,dP vP (lU d z.1 (mn z.2 ((look d z.1).getD z.2)))=R,dP vP d=D,bf z.1=S1,vP z.2=M3 at *
 simp[aX,lA,h2,h4,h5,-jZ,-ik]
include hm hl
theorem Ui {T SP WP LP F W V O:PV}{P0:FU->Vl->Prop}(hd:JE m d)(hp:Tells d P0){L:Dg Vl}(hL:JE m L):
  ∃d',JE m d'/\Tells d' (λs v=>P0 s v\/look L s=some v)/\bB (gT [9,10]) [9,10] lA (L.map Pe) [some T,some SP,some WP,some LP,some F,some (dP vP d),some W,some V,some O,none,none]=some (.nx [some T,some SP,some WP,some LP,some F,some (dP vP d'),some W,some V,some O,none,none]):=by
 obtain⟨d',⟨q,e1,e2,e3⟩,h⟩:=bN (g:=gT [9,10]) (ds:=[9,10]) (body:=lA) Pe (λd:Dg Vl=>[some T,some SP,some WP,some LP,some F,some (dP vP d),some W,some V,some O,none,none])
  (λr d'=>∃q,L=q++r/\JE m d'/\Tells d' (λs v=>P0 s v\/(s,v)∈q))
  (by
   rintro y r d' ⟨q,e1,e2,e3⟩
   refine⟨_,⟨q++[y],by rw[e1];simp,e2.NF (hL.sub y.1 (bn.mpr ⟨y,by rw[e1];simp,rfl⟩)) y.2,?_⟩,QL (e2.len hm hl)⟩
   simp only[bv,av]
   exact(e3.put y.1 y.2).mono (λs u h=>h.elim (λh=>h.elim .inl λh=>.inr (.inl h)) λ⟨a,b⟩=>.inr (.inr (by rw[a,b]))) (λs u h=>⟨u,h.elim (λh=>.inl (.inl h)) λh=>h.elim (λh=>.inl (.inr h)) λa=>.inr (by rw[← a];exact⟨rfl,rfl⟩),fq _⟩))
  L d ⟨[],rfl,hd,hp.mono (λs v h=>.inl h) (λs v h=>⟨v,h.elim id (λhy=>(by cases hy)),fq _⟩)⟩
 rw[bp] at e1
 subst e1
 simp only[Bh hL.nd] at e3
 exact⟨d',e2,e3,h⟩
theorem Xi {T F:PV}{lo:Str->List Nat}{Y:List (Option Str×Dg Vl)}(hY:∀y∈Y,JE m y.2/\∀w,y.1=some w->C4 (lo w)/\∃I,bH [T,.str w,F]=some (OF (I++[lo w]))):
  ∃d,JE m d/\Tells d (λs v=>∃y∈Y,∃o∈loF lo y.1,∃u,Si m o true u s/\look y.2 u=some v)/\jP [T,bj m,.lst (Y.map λy=>lR y.1),.lst (Y.map λy=>dP vP y.2),F]=some (dP vP d):=by
 generalize hA:Y.map (λy=>lR y.1)=A
 generalize hB:Y.map (λy=>dP vP y.2)=B
 have hz:dZ A B=Y.map yP:=by
  rw[← hA,← hB]
  exact C_ _ _ Y
 obtain⟨d,⟨q,e1,e2,e3⟩,h⟩:=bN (g:=gT [6,7]) (ds:=[6,7,8,9,10]) (body:=pA) yP (λd:Dg Vl=>[some T,some (bj m),some (.lst A),some (.lst B),some F,some (dP vP d),none,none,none,none,none])
  (λr d'=>∃q,Y=q++r/\JE m d'/\Tells d' (λs v=>∃y∈q,∃o∈loF lo y.1,∃u,Si m o true u s/\look y.2 u=some v))
  (by
   rintro y r d' ⟨q,e1,e2,e3⟩
   obtain⟨hy1,hy2⟩:=hY y (by rw[e1];simp)
   have hc:C4 (loF lo y.1):=by
    cases k:y.1 with
    | none=>intro i hi;simp[loF] at hi;omega
    | some w=>exact(hy2 w k).1
   obtain⟨d1,g1,g2,g3⟩:=Np hm hl hc true hy1 (P:=λs v=>look y.2 s=some v) (λs=>⟨λv e=>e,λv e=>⟨v,e,fq _⟩⟩)
   have hi:=IV d1
   obtain⟨d2,f1,f2,f3⟩:=Ui hm hl (T:=T) (SP:=bj m) (WP:=.lst A) (LP:=.lst B) (F:=F) (W:=lR y.1) (V:=dP vP y.2) (O:=cj (loF lo y.1)) e2 e3 g1
   refine⟨d2,⟨q++[y],by rw[e1];simp,f1,?_⟩,?_⟩
   ·simp only[bv,av,mf,pi,kM]
    refine f2.mono (λs v h=>h.elim .inl λh=>.inr ((g2 s).1 v h)) (λs v h=>h.elim (λh=>⟨v,.inl h,fq _⟩) λh=>?_)
    obtain⟨x,k,le⟩:=(g2 s).2 v h
    exact⟨x,.inr k,le⟩
   ·unfold yP
    generalize d1.map Pe=IT,dP vP d1=D1,dP vP d2=D2,dP vP d'=D3,dP vP y.2=V,bj m=SP at *
    cases k:y.1 with
    | none=>
     rw[k] at f3 g3
     have hs:cj (loF lo none)=.lst [.FE]:=rfl
     rw[hs] at f3 g3
     simp only[lR] at f3
     simp[aX,pA,lR,g3,hi,f3,-q8]
    | some w=>
     obtain⟨_,I,ho⟩:=hy2 w k
     have MH:F1 ((I++[lo w]).map cj) (-1)=some (cj (lo w)):=by
      rw[Az,CT (by simp)]
      simp
     rw[k] at f3 g3
     simp only[lR,loF] at f3 g3
     unfold OF at ho
     generalize (I++[lo w]).map cj=IL,cj (lo w)=O at *
     simp[aX,pA,lR,ho,MH,g3,hi,f3,-q8])
  Y [] ⟨[],rfl,⟨by simp[ks],by simp[ks]⟩,Tells.nil.mono (λ_ _ h=>h.elim) (by rintro s v ⟨o,ho,_⟩;cases ho)⟩
 rw[bp] at e1
 subst e1
 refine⟨d,e2,e3,?_⟩
 have h0:dP vP []=.dT []:=rfl
 rw[h0,← hz] at h
 generalize bj m=SP,dP vP d=D1 at *
 simp[jP,Cr,h]
end
noncomputable def tW (I:List (List Nat)):List (List Nat×Bool):=I.map λo=>(o,false)
section
variable {m:rg}(hm:fL m)(hl:m.length < 100)
include hm hl
theorem Uj {T WP LP:PV}{I:List (List Nat)}{la:qr}(hI:∀o∈I,C4 o)(ho:bH [T,.str w,.FE]=some (OF (I++[la]))){b:Dg Vl}(hb:JE m b)(hP:Tells b P)(hj:jP [T,bj m,WP,LP,.str w]=some (dP vP b)):
  ∃d,JE m d/\Tells d (λs v=>∃u,P u v/\Run m (tW I) u s)/\nj [T,bj m,WP,LP,.str w]=some (dP vP d):=by
 obtain⟨d,⟨q,e1,e2,e3⟩,h⟩:=bN (g:=gN 6) (ds:=[6]) (body:=rB) cj (λd:Dg Vl=>[some T,some (bj m),some WP,some LP,some (.str w),some (dP vP d),none])
  (λr d'=>∃q,I=q++r/\JE m d'/\Tells d' (λs v=>∃u,P u v/\Run m (tW q) u s))
  (by
   rintro o r d' ⟨q,e1,e2,e3⟩
   obtain⟨d1,g1,g2,g3⟩:=Np hm hl (hI o (by rw[e1];simp)) false e2 e3
   refine⟨d1,⟨q++[o],by rw[e1];simp,g1,?_⟩,?_⟩
   ·have:tW (q++[o])=tW q++[(o,false)]:=by simp[tW]
    rw[this]
    simp only[KG]
    refine g2.mono (λs v ⟨x,hx,y,h1,u,h2,h3⟩=>⟨u,h2,y,h3,x,hx,s,h1,rfl⟩) (λs v ⟨u,h2,y,h3,x,hx,z,h1,h4⟩=>⟨v,⟨x,hx,y,?_,u,h2,h3⟩,fq _⟩)
    cases h4
    exact h1
   ·generalize dP vP d1=D1,dP vP d'=D2,bj m=SP,cj o=O at *
    simp[aX,rB,g3])
  I b ⟨[],rfl,hb,hP.mono (λs v h=>⟨s,h,rfl⟩) (λs v ⟨u,h,e⟩=>⟨v,by cases e;exact h,fq _⟩)⟩
 rw[bp] at e1
 subst e1
 refine⟨d,e2,e3,?_⟩
 have hc:=CG cj I la
 unfold OF at ho
 generalize dP vP d=D1,dP vP b=D2,bj m=SP,(I++[la]).map cj=IL at *
 simp[nj,zQ,hj,ho,hc,PU,h]
end
theorem Nq (w:Str)(p:Int):∀d:Dg Vl,tK (d.map λz=>Pe z)=some (d.map (dE vP))
 | []=>rfl
 | z::d=>by
  have h1:=pR z.1
  have ih:=Nq w p d
  rw[al,al]
  unfold Pe bf Lc at ih ⊢
  rw[Mm,h1,bq,ih]
  rfl
theorem I_:∀(l acc:Dg Vl),(ks (acc++l)).Nodup->qZ (l.map (dE vP)) (acc.map (dE vP))=(acc++l).map (dE vP)
 | [],acc,_=>by rw[bp];rfl
 | y::l,acc,h=>by
  have hn:y.1∉ks acc:=by
   unfold ks at h ⊢
   rw[bm,mI] at h
   exact λz=>h.2.2 _ z _ (by simp) rfl
  have h1:jq (acc.map (dE vP)) (dE vP y).1 (dE vP y).2=(acc++[y]).map (dE vP):=by
   have:=Ni (f:=vP) acc y.1 y.2
   unfold lU at this
   rw[ax hn] at this
   exact this
  have ih:=I_ l (acc++[y]) (by rw[da];exact h)
  show qZ (l.map (dE vP)) (jq (acc.map (dE vP)) (dE vP y).1 (dE vP y).2)=_
  rw[h1,ih,da]
  rfl
def Pf (w:Str)(p:Int)(v:Vl):Vl:=(v.1+p,v.2++[w])
def NM (w:Str)(p:Int)(d:Dg Vl):Dg Vl:=d.map λz=>(z.1,Pf w p z.2)
theorem GK (w:Str)(p:Int)(d:Dg Vl):ks (NM w p d)=ks d:=by
 unfold ks NM
 rw[bP]
 rfl
theorem GQ (w:Str)(p:Int)(s:FU):∀d:Dg Vl,look (NM w p d) s=(look d s).map (Pf w p)
 | []=>rfl
 | y::d=>by
  have ih:=GQ w p s d
  unfold look NM at ih ⊢
  rw[al,cv,cv]
  dsimp only
  by_cases h:y.1=s
  ·simp[h]
  ·simp only[be h]
   exact ih
theorem Xj (hd:JE m d)(hl:d.length < 5000)(hw:∀z∈d,z.2.2.length < 1000)(w:Str)(p:Int):pN [dP vP d,.str w,.int p]=some (dP vP (NM w p d)):=by
 have h1:=IV d
 have h2:bJ [none,none,some (.int p),some (.str w)] (gT [0,1]) aZ pC (d.map Pe)=some ((NM w p d).map Pe):=by
  unfold NM
  rw[bP]
  refine bI _ _ _ λz hz=>⟨[some (bf z.1),some (vP z.2),some (.int p),some (.str w)],rfl,?_⟩
  have hb:=hw z hz
  obtain⟨s,i,l⟩:=z
  dsimp only at hb
  cases l with
  | nil=>rfl
  | cons x l=>
   have PZ:l.length+1+1<=1000000:=by simp at hb;omega
   simp[pC,vP,Pe,Pf,PZ]
 have h3:(d.map Pe).length<=1000000:=by rw[ac];omega
 have h4:=Nq w p (NM w p d)
 have h5:=I_ (NM w p d) [] (by rw[gx,GK];exact hd.nd)
 rw[gx] at h5
 have h6:((NM w p d).map (dE vP)).length<=1000000:=by unfold NM;simp;omega
 have h7:Gb (.lst ((NM w p d).map Pe))=some (dP vP (NM w p d)):=by
  rw[Tj]
  have h4':tK ((NM w p d).map Pe)=some ((NM w p d).map (dE vP)):=h4
  rw[h4',bq,ba h6]
  have h5':qZ ((NM w p d).map (dE vP)) []=(NM w p d).map (dE vP):=h5
  rw[h5']
  rfl
 clear h4 h5 h6
 generalize dP vP (NM w p d)=R,dP vP d=D,d.map Pe=IT,(NM w p d).map Pe=IU at *
 simp[pN,Cu,h1,h2,h3,h7,fK,-q8]
noncomputable def cd:TK->Nat
 | none=>3
 | some (true,_)=>2
 | some (false,true)=>1
 | some (false,false)=>0
theorem Xk {l:List TK}(h:some (true,false)∉l):LD l=cj (l.map cd):=by
 unfold LD cj
 rw[bP]
 congr 1
 refine ei λo ho=>?_
 rcases o with _ | ⟨_ | _,_ | _⟩
 ·rfl
 ·rfl
 ·rfl
 ·exact absurd ho h
 ·rfl
def TR (o:qr):Prop:=C4 o/\o≠[]/\o.length<=4
def YA (l:List TK):Prop:=l≠[]/\l.length<=4/\some (true,false)∉l
theorem YA.c {l:List TK}(h:YA l):TR (l.map cd):=by
 refine⟨λi hi=>?_,by simpa using h.1,by simpa using h.2.1⟩
 obtain⟨o,_,rfl⟩:=bn.mp hi
 rcases o with _ | ⟨_ | _,_ | _⟩ <;> decide
theorem zX (R:Rc)(c t:Str)(sp:Bool):YA (jG R c t sp)/\(jG R c t sp).length<=3/\none∉jG R c t sp:=by
 unfold YA jG JZ
 by_cases h:t=("" : Str)
 ·simp only[ba h]
  by_cases h1:c∈R.KS
  ·simp only[ba h1]
   cases sp <;> simp
  ·simp only[ax h1]
   by_cases h2:c∈R.HM
   ·simp only[ba h2]
    cases sp <;> simp
   ·simp only[ax h2]
    cases sp <;> simp
 ·simp[ax h]
theorem Xl (R:Rc)(c t:Str):YA (j6 R c t):=by
 unfold j6
 split
 ·split
  ·simp[YA]
  ·obtain⟨⟨h1,h2,h3⟩,h4,h5⟩:=zX R c t false
   split
   ·exact⟨by simp[h1],by simp;omega,by simpa using h3⟩
   ·rw[bp];exact⟨h1,h2,h3⟩
 ·exact(zX R c _ false).1
structure Wds (R:Rc)(cut:List (List Str))(ini:Str->List (List Nat))(la:Str->Option Str->List Nat):Prop where
 opt:∀{w:Str},F2 R w->∀{f:Option Str},(∀w2,f=some w2->F2 R w2)->bH [.obj 0 (aF cut),.str w,lR f]=some (OF (ini w++[la w f]))
 i4:∀{w:Str},F2 R w->∀o∈ini w,TR o
 l4:∀{w:Str},F2 R w->∀f,TR (la w f)
 n3:∀{w:Str},F2 R w->3∉la w none
 len:∀{w:Str},F2 R w->(ini w).length<=23
def WoP (R:Rc)(cut:List (List Str))(w:Str)(p:List (List Nat)×(Option Str->List Nat)):Prop:=(∀f,(∀w2,f=some w2->F2 R w2)->bH [.obj 0 (aF cut),.str w,lR f]=some (OF (p.1++[p.2 f])))/\(∀o∈p.1,TR o)/\(∀f,TR (p.2 f))/\3∉p.2 none/\p.1.length<=23
theorem YL {R:Rc}{cut:List (List Str)}(T:TL R cut)(W:F2 R w):∃p,WoP R cut w p:=by
 obtain⟨i,rl,h1,h2,h3,h4⟩:=T4 T W
 have hm:∀l:List (List TK),(∀o∈l,YA o)->l.map LD=(l.map (·.map cd)).map cj:=λl hl=>by
  rw[bP]
  exact ei λo ho=>Xk (hl o ho).2.2
 have hq:∀r:Row,YA (dz R r):=λr=>(zX R _ _ _).1
 have hi:∀o∈i.map (dz R),YA o:=λo ho=>by
  obtain⟨r,_,rfl⟩:=bn.mp ho
  exact hq r
 have hl:∀w2,YA (if dN R w2=true then j6 R rl.2.1 rl.2.2.1 else dz R rl):=λw2=>by
  split
  ·exact Xl R _ _
  ·exact hq rl
 refine⟨((i.map (dz R)).map (·.map cd),λf=>match f with | none=>(dz R rl).map cd | some w2=>(if dN R w2=true then j6 R rl.2.1 rl.2.2.1 else dz R rl).map cd),λf hf=>?_,λo ho=>?_,λf=>?_,λh=>?_,by simpa using h3⟩
 ·cases f with
  | none=>
   have:=Qp T.hl T.he h1 (by simp;omega)
   rw[hm _ (λo ho=>by obtain⟨r,_,rfl⟩:=bn.mp ho;exact hq r)] at this
   rw[bm,bm] at this
   exact this
  | some w2=>
   have:=Qq T.g T.hc T.hl T.he T.hr h1 (by omega) (by have:=(h4 rl (by simp)).2.2;omega) (hf w2 rfl)
   rw[hm _ (λo ho=>(bv.mp ho).elim (hi o) λh=>by rw[av.mp h];exact hl w2),bm] at this
   exact this
 ·obtain⟨q,hq',rfl⟩:=bn.mp ho
  exact(hi q hq').c
 ·cases f with
  | none=>exact(hq rl).c
  | some w2=>exact(hl w2).c
 ·obtain⟨o,ho,e⟩:=bn.mp h
  rcases o with _ | ⟨_ | _,_ | _⟩
  ·exact(zX R _ _ _).2.2 ho
  all_goals simp[cd] at e
theorem Xm {R:Rc}{cut:List (List Str)}(T:TL R cut):∃ini la,Wds R cut ini la:=by
 obtain⟨F,hF⟩:=kn (r:=λ(w:Str) p=>F2 R w->WoP R cut w p)
  λw=>by
   by_cases W:F2 R w
   ·obtain⟨p,hp⟩:=YL T W
    exact⟨p,λ_=>hp⟩
   ·exact⟨([],λ_=>[]),λz=>absurd z W⟩
 exact⟨λw=>(F w).1,λw=>(F w).2,λW f hf=>(hF _ W).1 f hf,λW=>(hF _ W).2.1,λW=>(hF _ W).2.2.1,λW=>(hF _ W).2.2.2.1,λW=>(hF _ W).2.2.2.2⟩
section
variable {R:Rc}{cut:List (List Str)}{ini:Str->List (List Nat)}{la:Str->Option Str->List Nat}
noncomputable def gr (ini:Str->List (List Nat))(la:Str->Option Str->List Nat):List Str->List (List (List Nat))
 | []=>[]
 | w::r=>(ini w++[la w r.head?])::gr ini la r
noncomputable def gR (ini:Str->List (List Nat))(la:Str->Option Str->List Nat):List Str->Option Str->List (List Nat×Bool)
 | [],_=>[]
 | w::r,f=>tW (ini w)++(la w (r.head?.or f),true)::gR ini la r f
theorem u0 (w:Str)(f:Option Str):∀ws:List Str,gR ini la (ws++[w]) f=gR ini la ws (some w)++tW (ini w)++[(la w f,true)]
 | []=>by simp[gR]
 | x::r=>by
  have ih:=u0 w f r
  have:(r++[w]).head?.or f=r.head?.or (some w):=by cases r <;> simp
  rw[i0,gR,gR,ih,this]
  simp
theorem Nr:∀ws:List Str,(gr ini la ws).flatten.zip (dm (gr ini la ws))=gR ini la ws none
 | []=>rfl
 | w::r=>by
  have ih:=Nr r
  have h1:dm (gr ini la (w::r))=qJ ((ini w).length+1)++dm (gr ini la r):=by simp[gr,dm]
  have h2:∀l:List (List Nat),l.zip (List.replicate l.length false)=tW l:=λl=>by
   induction l with
   | nil=>rfl
   | cons a l ih=>simp[tW,c8,ih] at ih ⊢
  rw[h1,Gz,gr,cS,List.zip_append (by simp),ih,List.zip_append (by simp),h2,gR]
  simp
theorem J2:∀ws:List Str,∀g∈gr ini la ws,g≠[]
 | [],g,h=>by cases h
 | w::r,g,h=>by
  rw[gr] at h
  rcases aI.mp h with e | h
  ·rw[e];simp
  ·exact J2 r g h
theorem J3 (D:Wds R cut ini la):∀{ws:qE},(∀w∈ws,F2 R w)->(∀o∈(gr ini la ws).flatten,TR o)/\(gr ini la ws).flatten.length<=24*ws.length
 | [],_=>by simp[gr]
 | w::r,h=>by
  obtain⟨h1,h2⟩:=J3 D (ws:=r) λx hx=>h x (ah _ hx)
  have W:=h w am
  have h3:=D.len W
  rw[gr,cS]
  refine⟨λo ho=>?_,by simp at h2 ⊢;omega⟩
  rcases bv.mp ho with z | z
  ·rcases bv.mp z with z | z
   ·exact D.i4 W o z
   ·rw[av.mp z];exact D.l4 W _
  ·exact h1 o z
theorem GR (D:Wds R cut ini la):∀{ws:qE},(∀w∈ws,F2 R w)->bJ [none,none,some (.obj 0 (aF cut))] (gT [0,1]) aZ jm (dZ (ws.map .str) ((ws.tail.map .str)++[.FE]))=some ((gr ini la ws).map OF)
 | [],_=>rfl
 | [w],h=>by
  have h1:bH [.obj 0 (aF cut),.str w,.FE]=_:=D.opt (h w (by simp)) (f:=none) (λ_ z=>by cases z)
  simp[dZ,bJ,jm,h1,gr]
 | w::w2::r,h=>by
  have h1:bH [.obj 0 (aF cut),.str w,.str w2]=_:=D.opt (h w (by simp)) (f:=some w2) (λx z=>by cases z;exact h w2 (by simp))
  have ih:=GR D (ws:=w2::r) λx hx=>h x (ah _ hx)
  simp only[al,List.tail_cons] at ih ⊢
  have e:dZ (.str w::.str w2::r.map .str) ((.str w2::r.map .str)++[.FE])=.tup [.str w,.str w2]::dZ (.str w2::r.map .str) (r.map .str++[.FE]):=rfl
  rw[e]
  generalize dZ (.str w2::r.map .str) (r.map .str++[.FE])=Z at *
  have hce:jm [some (.str w),some (.str w2),some (.obj 0 (aF cut))]=some (OF (ini w++[la w (some w2)])):=by simp[jm,h1]
  simp[bJ,hce,ih,gr]
theorem GX (D:Wds R cut ini la)(h:∀w∈ws,F2 R w)(hl:ws.length<=100):fO [.obj 0 (aF cut),.lst (ws.map .str)]=some (MZ (gr ini la ws)):=by
 have hc:=GR D h
 have h1:dY (ws.map PV.str) (some 1) none=ws.tail.map .str:=by
  cases ws with
  | nil=>rfl
  | cons d r=>exact pP PV.str d r
 have hn:(ws.map PV.str).length<=100:=by simpa using hl
 have hn2:(ws.tail.map PV.str).length<=100:=by simp;omega
 unfold MZ
 generalize (gr ini la ws).map OF=Q,ws.map PV.str=A,ws.tail.map PV.str=B at *
 have hz:(dZ A (B++[.FE])).length<=1000000:=by
  unfold dZ
  rw[pp]
  omega
 have h3:B.length+1<=1000000:=by omega
 generalize hZ:dZ A (B++[.FE])=Z at *
 simp[fO,yo,h1,h3,hZ,hz,hc]
end
theorem QM {g:gV}(hm:g.flatten.length < 1000)(ok:∀o∈g.flatten,TR o):∃m:Int,jE [MZ g]=some (.int m)/\0 < m:=by
 have h1:=Bg hm
 generalize MZ g=TB,g.flatten=O at *
 obtain⟨a,h2,h3⟩:=bN (g:=gN 2) (ds:=[2]) (body:=kI) cj (λa:Int=>[some TB,some (.int a),none]) (λr a=>0 < a/\∀o∈r,TR o)
  (by
   rintro o r a ⟨h2,h4⟩
   have ho:=h4 o am
   have hp:(0:Int) < o.length:=by have:=eL.mpr ho.2.1;omega
   refine⟨a*o.length,⟨Int.mul_pos h2 hp,λz hz=>h4 z (ah _ hz)⟩,?_⟩
   have hs:Oy (o.length:Int)=true:=by have:=ho.2.2;exact dW (by omega) (by omega)
   simp[aX,kI,cj,hs])
  O 1 ⟨by decide,ok⟩
 exact⟨a,by simp[jE,sV,h1,PU,h3],h2.1⟩
def Sel:List Nat->List (List Nat)->Prop
 | [],[]=>True
 | s::ss,o::os=>s∈o/\Sel ss os
 | _,_=>False
theorem Bj:∀{ss:qr}{os:List (List Nat)},Sel ss os->ss.length=os.length
 | [],[],_=>rfl
 | _::ss,_::os,h=>by simp[Bj h.2]
theorem yO:∀{ss:qr}{os:List (List Nat)}{s:Nat}{o:qr},Sel ss os->s∈o->Sel (ss++[s]) (os++[o])
 | [],[],_,_,_,h=>⟨h,trivial⟩
 | _::ss,_::os,_,_,h,h'=>⟨h.1,yO h.2 h'⟩
theorem Ja:∀{ss:qr}{os:List (List Nat)},Sel ss os->Sel ss.reverse os.reverse
 | [],[],_=>trivial
 | _::ss,_::os,h=>by rw[gS,gS];exact yO (Ja h.2) h.1
theorem Nt:∀{ss:qr}{os:List (List Nat)},Sel ss os->(∀o∈os,TR o)->C4 ss
 | [],[],_,_=>by simp[C4]
 | s::ss,o::os,h,ok=>by
  have ih:=Nt h.2 λx hx=>ok x (ah _ hx)
  intro i hi
  rcases aI.mp hi with e | e
  ·rw[e];exact(ok o am).1 s h.1
  ·exact ih i e
theorem Xn {o:qr}(h:o≠[])(n:Int):∃s∈o,F1 (o.map dB) (n % (o.length:Int))=some (dB s):=by
 have h0:0 < o.length:=eL.mpr h
 have h1:0<=n % (o.length:Int):=Int.emod_nonneg _ (by omega)
 have h2:n % (o.length:Int) < o.length:=Int.emod_lt_of_pos _ (by omega)
 have h3:(n % (o.length:Int)).toNat < o.length:=by omega
 refine⟨o[(n % (o.length:Int)).toNat],e9 _,?_⟩
 rw[Az,Ay h1 h2,aT h3]
 rfl
theorem Uk {g:gV}(hm:g.flatten.length < 1000)(ok:∀o∈g.flatten,TR o)(n:Int):∃ss:List Nat,nF [MZ g,.int n]=some (cj ss)/\Sel ss g.flatten:=by
 have h1:=Bg hm
 generalize MZ g=TB,g.flatten=O at *
 obtain⟨⟨B,m⟩,⟨d,h2,h4,h5⟩,h3⟩:=bN (g:=gN 4) (ds:=[4]) (body:=oU) cj (λs:List Nat×Int=>[some TB,some (.int n),some (.lst (s.1.map dB)),some (.int s.2),none]) (λr s=>∃d,O.reverse=d++r/\Sel s.1 d/\∀o∈r,TR o)
  (by
   rintro o r s ⟨d,h2,h4,h5⟩
   have ho:=h5 o am
   obtain⟨x,hx,ha⟩:=Xn ho.2.1 s.2
   refine⟨(s.1++[x],s.2 / (o.length:Int)),⟨d++[o],by rw[h2];simp,yO h4 hx,λz hz=>h5 z (ah _ hz)⟩,?_⟩
   have hp:0 < o.length:=eL.mpr ho.2.1
   have NS:(0:Int) < (o.length:Int)/\(o.length:Int) < 1073741824:=by have:=ho.2.2;omega
   have hs:s.1.length < 1000000:=by
    have:=Bj h4
    have e:=c5 List.length h2
    rw[ib,a9] at e
    omega
   simp[aX,oU,cj,ha,hp,NS,hs])
  O.reverse ([],n) ⟨[],rfl,trivial,λo ho=>ok o (List.mem_reverse.mp ho)⟩
 rw[bp] at h2
 subst h2
 refine⟨B.reverse,?_,by have:=Ja h4;rwa [List.reverse_reverse] at this⟩
 rw[lj] at h3
 simp only[cp] at h3
 unfold cj
 rw[lj]
 have h3':=h3
 generalize O.map cj=OV at *
 simp[nF,wu,h1,h3]
abbrev Ch:=List (Str×Int)
noncomputable def gU (F:List Vl)(t:Ch):List Vl:=F.flatMap λr=>t.map λc=>Pf c.1 c.2 r
noncomputable def allM (C:List Ch):List Vl:=C.foldl gU [(0,[])]
theorem wF (C:List Ch)(t:Ch):allM (C++[t])=gU (allM C) t:=by simp[allM]
theorem IZ {F:List Vl}{t:Ch}{v:Vl}:v∈gU F t↔∃u∈F,∃c∈t,v=Pf c.1 c.2 u:=by
 unfold gU
 simp only[ga,bn,eq_comm]
noncomputable def tP (t:Ch):PV:=.lst (t.map λc=>.tup [.str c.1,.int c.2])
noncomputable def wl (t:Ch):List (Option Str):=t.map λc=>some c.1
variable {C:List Ch}
theorem yQ {v:Vl}(h:v∈allM C):v.2.length=C.length:=by
 have gen:∀(C:List Ch) (F:List Vl) (n:Nat),(∀u∈F,u.2.length=n)->∀v∈C.foldl gU F,v.2.length=n+C.length:=by
  intro C
  induction C with
  | nil=>intro F n hF v hv;exact hF v hv
  | cons t C ih=>
   intro F n hF v hv
   have:=ih (gU F t) (n+1) (λu hu=>by
    obtain⟨x,hx,c,_,rfl⟩:=IZ.mp hu
    simp[Pf,hF x hx]) v hv
   rw[this,bg]
   omega
 have:=gen C [(0,[])] 0 (λu hu=>by rw[av.mp hu];rfl) v h
 omega
abbrev Ly:=List (Option Str×Dg Vl)
noncomputable def TU (Y:Ly):PV:=.lst (Y.map λy=>lR y.1)
noncomputable def MG (Y:Ly):PV:=.lst (Y.map λy=>dP vP y.2)
abbrev OW:FU:=(0,0,0)
theorem Xo (m:rg):OW∈M0 m\/OW=(m.length,0,0):=by
 cases m with
 | nil=>exact .inr rfl
 | cons s m=>exact .inl (LG.mpr ⟨s,rfl,.inl rfl⟩)
section
variable {R:Rc}{cut:List (List Str)}{ini:Str->List (List Nat)}{la:Str->Option Str->List Nat}(D:Wds R cut ini la){m:rg}(hm:fL m)(hl:m.length < 100)
def Cn (ini:Str->List (List Nat))(la:Str->Option Str->List Nat)(m:rg)(C:List Ch)(f:Option Str)(s:FU)(v:Vl):Prop:=v∈allM C/\Run m (gR ini la v.2 f) OW s
def Bn (ini:Str->List (List Nat))(la:Str->Option Str->List Nat)(m:rg)(C:List Ch)(c:Str×Int)(s:FU)(v:Vl):Prop:=∃u∈allM C,v=Pf c.1 c.2 u/\Run m (gR ini la u.2 (some c.1)++tW (ini c.1)) OW s
def Bk (ini:Str->List (List Nat))(la:Str->Option Str->List Nat)(m:rg)(C:List Ch)(Y:Ly):Prop:=(C=[]/\Y=[(none,[(OW,(0,[]))])])\/∃C' t,∃B:Str×Int->Dg Vl,C=C'++[t]/\Y=t.map (λc=>(some c.1,B c))/\∀c∈t,JE m (B c)/\Tells (B c) (Bn ini la m C' c)
def LyB (ini:Str->List (List Nat))(la:Str->Option Str->List Nat)(m:rg)(cut:List (List Str))(C:List Ch)(Y:Ly)(c:Str×Int)(b:Dg Vl):Prop:=(JE m b/\Tells b (Bn ini la m C c))/\∃x,nj [.obj 0 (aF cut),bj m,TU Y,MG Y,.str c.1]=some x/\pN [x,.str c.1,.int c.2]=some (dP vP b)
def WC (R:Rc)(C:List Ch):Prop:=∀t∈C,t.length<=1000/\∀c∈t,F2 R c.1
include D hm hl
theorem Nu {Y:Ly}(hC:WC R C)(hY:Bk ini la m C Y){f:Option Str}(hf:∀w2,f=some w2->F2 R w2):
  ∃d,JE m d/\Tells d (Cn ini la m C f)/\jP [.obj 0 (aF cut),bj m,TU Y,MG Y,lR f]=some (dP vP d):=by
 have hh:∀y∈Y,JE m y.2/\∀w,y.1=some w->C4 (la w f)/\∃I,bH [.obj 0 (aF cut),.str w,lR f]=some (OF (I++[la w f])):=λy hy=>by
  rcases hY with ⟨_,rfl⟩ | ⟨C',t,B,rfl,rfl,h⟩
  ·rw[av] at hy
   subst hy
   exact⟨⟨by simp[ks],λt ht=>by simp[ks] at ht;rw[ht];exact Xo m⟩,λw e=>by cases e⟩
  ·obtain⟨c,hc,rfl⟩:=bn.mp hy
   refine⟨(h c hc).1,λw e=>?_⟩
   cases e
   have W:=(hC t (by simp)).2 c hc
   exact⟨(D.l4 W f).1,_,D.opt W hf⟩
 obtain⟨d,h1,h2,h3⟩:=Xi hm hl (lo:=λw=>la w f) hh
 refine⟨d,h1,?_,h3⟩
 rcases hY with ⟨rfl,rfl⟩ | ⟨C',t,B,rfl,rfl,h⟩
 ·refine h2.mono (λs v ⟨y,hy,o,ho,u,q1,q2⟩=>?_) (λs v ⟨q1,q2⟩=>⟨v,⟨_,av.mpr rfl,3,by simp[loF],s,by rfl,?_⟩,fq _⟩)
  ·rw[av] at hy
   subst hy
   simp[loF] at ho
   subst ho
   simp[Si] at q1
   subst q1
   simp only[look,cv,List.find?_nil] at q2
   by_cases z:OW=u
   ·simp[z] at q2
    subst q2
    exact⟨by simp[allM],by simp[gR,Run,z]⟩
   ·simp[z] at q2
  ·simp[allM] at q1
   subst q1
   simp only[gR,Run] at q2
   subst q2
   rfl
 ·refine h2.mono (λs v ⟨y,hy,o,ho,u,q1,q2⟩=>?_) (λs v ⟨q1,q2⟩=>?_)
  ·obtain⟨c,hc,rfl⟩:=bn.mp hy
   obtain⟨x,hx,rfl,hr⟩:=((h c hc).2 u).1 v q2
   refine⟨?_,?_⟩
   ·rw[wF]
    exact IZ.mpr ⟨x,hx,c,hc,rfl⟩
   ·show Run m (gR ini la (x.2++[c.1]) f) OW s
    rw[u0,KG]
    exact⟨u,hr,o,ho,s,q1,rfl⟩
  ·rw[wF] at q1
   obtain⟨x,hx,c,hc,rfl⟩:=IZ.mp q1
   have q2':Run m (gR ini la (x.2++[c.1]) f) OW s:=q2
   rw[u0,KG] at q2'
   obtain⟨u,hr,o,ho,s',q3,e⟩:=q2'
   cases e
   obtain⟨w,k,le⟩:=((h c hc).2 u).2 _ ⟨x,hx,rfl,hr⟩
   exact⟨w,⟨_,bn.mpr ⟨c,hc,rfl⟩,o,ho,u,q3,k⟩,le⟩
theorem Xp {Y:Ly}(hC:WC R C)(hn:C.length < 900)(hY:Bk ini la m C Y){c:Str×Int}(W:F2 R c.1):
  ∃b,LyB ini la m cut C Y c b:=by
 obtain⟨d,h1,h2,h3⟩:=Nu D hm hl hC hY (f:=some c.1) (λw e=>by cases e;exact W)
 obtain⟨d2,g1,g2,g3⟩:=Uj hm hl (λo ho=>(D.i4 W o ho).1) (D.opt W (f:=none) (λ_ z=>by cases z)) h1 h2 h3
 refine⟨NM c.1 c.2 d2,⟨⟨by rw[GK];exact g1.nd,by rw[GK];exact g1.sub⟩,λs=>?_⟩,_,g3,Xj g1 (g1.len hm hl) (λz hz=>?_) _ _⟩
 ·rw[GQ]
  refine⟨λv e=>?_,λv ⟨u,hu,e,hr⟩=>?_⟩
  ·obtain⟨u,hu,rfl⟩:=df.mp e
   obtain⟨x,⟨q1,q2⟩,q3⟩:=(g2 s).1 u hu
   exact⟨u,q1,rfl,KG.mpr ⟨x,q2,q3⟩⟩
  ·obtain⟨x,q2,q3⟩:=KG.mp hr
   obtain⟨w,k,le⟩:=(g2 s).2 u ⟨x,⟨hu,q2⟩,q3⟩
   refine⟨Pf c.1 c.2 w,by rw[k];rfl,?_⟩
   rw[e]
   show w.1+c.2<=u.1+c.2
   omega
 ·obtain⟨x,⟨q1,_⟩,_⟩:=(g2 z.1).1 z.2 ((Bh g1.nd).mp hz)
  have:=yQ q1
  omega
theorem lay_next {Y:Ly}(hC:WC R C)(hn:C.length < 900)(hY:Bk ini la m C Y){t:Ch}(ht:∀c∈t,F2 R c.1):
  ∃Y',Bk ini la m (C++[t]) Y'/\Y'.map (·.1)=wl t/\∃L,MG Y'=.lst L/\bJ [none,none,some (.obj 0 (aF cut)),some (bj m),some (TU Y),some (MG Y)] (gT [0,1]) aZ kj (t.map λc=>.tup [.str c.1,.int c.2])=some L:=by
 obtain⟨B,hB⟩:=kn (r:=λ(c:Str×Int) (b:Dg Vl)=>c∈t->LyB ini la m cut C Y c b)
  λc=>by
   by_cases z:c∈t
   ·obtain⟨b,hb⟩:=Xp D hm hl hC hn hY (ht c z)
    exact⟨b,λ_=>hb⟩
   ·exact⟨[],λh=>absurd h z⟩
 refine⟨t.map λc=>(some c.1,B c),.inr ⟨C,t,B,rfl,rfl,λc hc=>(hB c hc).1⟩,by simp[wl],_,rfl,?_⟩
 rw[bP]
 refine bI _ _ _ λc hc=>⟨[some (.str c.1),some (.int c.2),some (.obj 0 (aF cut)),some (bj m),some (TU Y),some (MG Y)],rfl,?_⟩
 obtain⟨_,x,q1,q2⟩:=hB c hc
 simp only[i6]
 generalize dP vP (B c)=Z,bj m=SP,TU Y=N,MG Y=E at *
 simp[kj,q1,q2]
end
theorem zy {α:Type}(l:List α)(x:α):F1 (l++[x]) (-1)=some x:=by
 rw[CT (by simp)]
 simp
abbrev Ot:=Str×Str×Int
noncomputable def oP (o:Ot):PV:=.tup [.str o.1,.str o.2.1,.int o.2.2]
def Ic (O:List Ot)(w:Str):Ch:=(w,0)::(O.filter λo=>decide (o.1=w)).map (·.2)
variable {O:List Ot}
theorem Jb (hO:O.length<=1000)(w:Str):jk [.str w,.lst (O.map oP)]=some (tP (Ic O w)):=by
 have h1:=ir (env:=[none,none,none,some (.str w)]) (g:=gT [0,1,2]) (t:=mV) (f:=mU) oP (λo=>.tup [.str o.2.1,.int o.2.2]) (λo=>decide (o.1=w)) O λo _=>
  ⟨[some (.str o.1),some (.str o.2.1),some (.int o.2.2),some (.str w)],rfl,by rfl,λ_=>by rfl⟩
 have h2:(O.map oP).length<=1000000:=by rw[ac];omega
 have h3:((O.filter λo=>decide (o.1=w)).map λo:Ot=>PV.tup [.str o.2.1,.int o.2.2]).length+1<=1000000:=by
  have:=gl (λo:Ot=>decide (o.1=w)) O
  rw[ac]
  omega
 have e:tP (Ic O w)=.lst (.tup [.str w,.int 0]::(O.filter λo=>decide (o.1=w)).map λo:Ot=>PV.tup [.str o.2.1,.int o.2.2]):=by
  unfold tP Ic
  rw[al,bP]
  rfl
 rw[e]
 generalize O.map oP=OV,(O.filter λo=>decide (o.1=w)).map (λo:Ot=>PV.tup [.str o.2.1,.int o.2.2])=Q at *
 have h4:1+Q.length<=1000000:=by omega
 simp[jk,vA,h1,h2,h3,h4,fK]
theorem QQ:jA=jk:=rfl
section
variable {R:Rc}{cut:List (List Str)}
theorem Nv (T:TL R cut)(hO:O.length<=1000)(hw:∀w∈ws,F2 R w)(hl:ws.length<=100):d8 [.obj 0 (aF cut),.lst (ws.map .str),.lst (O.map oP)]=some (.lst ((ws.map (Ic O)).map tP)):=by
 have h1:=bN (g:=gN 3) (ds:=[3]) (body:=iY) PV.str (λ_:Unit=>[some (.obj 0 (aF cut)),some (.lst (ws.map .str)),some (.lst (O.map oP)),none]) (λr _=>∀w∈r,F2 R w)
  (λw r _ h=>by
   have:=wC T.g T.hc (h w am)
   have hr:bL [.obj 0 (aF cut),.str w]=some .FE:=by simp[bL,g8,this]
   exact⟨(),λx hx=>h x (ah _ hx),by simp[aX,iY,hr]⟩) ws () hw
 obtain⟨_,_,h1⟩:=h1
 have h2:bJ [none,some (.lst (O.map oP))] (gN 0) aZ i_ (ws.map .str)=some ((ws.map (Ic O)).map tP):=by
  rw[bP]
  refine bI _ _ _ λw hw=>⟨[some (.str w),some (.lst (O.map oP))],rfl,?_⟩
  have:=Jb hO w
  simp[i_,this]
 have h3:(ws.map PV.str).length<=1000000:=by rw[ac];omega
 generalize (ws.map (Ic O)).map tP=Q,ws.map PV.str=W,O.map oP=OV at *
 simp[d8,pL,h1,h2,h3,PU,fK]
noncomputable def NN (a:List (Option Str)):PV:=.lst (a.map lR)
theorem Ny (hC:WC R C)(hn:C.length < 900):fC [.lst (C.map tP)]=some (.lst (([none]::C.map wl).map NN)):=by
 have h1:bJ [none] (gN 0) aZ jw (C.map tP)=some ((C.map wl).map NN):=by
  rw[bP]
  refine bI _ _ _ λt ht=>⟨[some (tP t)],rfl,?_⟩
  have h2:bJ [none,none] (gT [0,1]) aZ ju (t.map λc=>.tup [.str c.1,.int c.2])=some (t.map λc=>.str c.1):=bI _ _ _ λc hc=>⟨[some (.str c.1),some (.int c.2)],rfl,by rfl⟩
  have h3:(t.map λc=>PV.tup [.str c.1,.int c.2]).length<=1000000:=by
   have:=(hC t ht).1
   rw[ac];omega
  have e:(NN∘wl) t=.lst (t.map λc=>.str c.1):=by
   simp only[i6,NN,wl,bP]
   rfl
  rw[e]
  unfold tP
  generalize (t.map λc=>PV.tup [.str c.1,.int c.2])=A,(t.map λc=>PV.str c.1)=B at *
  simp[jw,h2,h3,fK]
 have h4:(C.map tP).length<=1000000:=by rw[ac];omega
 have h5:((C.map wl).map NN).length+1<=1000000:=by simp;omega
 rw[al]
 have e:NN [none]=.lst [.FE]:=rfl
 rw[e]
 generalize C.map tP=A,(C.map wl).map NN=B at *
 have h6:1+B.length<=1000000:=by omega
 simp[fC,qi,h1,h4,h5,h6,fK]
variable {ini:Str->List (List Nat)}{la:Str->Option Str->List Nat}(D:Wds R cut ini la){m:rg}(hm:fL m)(hl:m.length < 100)
noncomputable def aP (y:List (Option Str)×Ch):PV:=.tup [NN y.1,tP y.2]
include D hm hl
theorem Ul (hC:WC R C)(hn:C.length < 900):∃Y L,Bk ini la m C Y/\jD [.obj 0 (aF cut),mP m,.lst (C.map tP)]=some (.lst (L++[MG Y])):=by
 have h1:=Ny hC hn
 have h2:=GJ hm hl
 have hz:dZ (([none]::C.map wl).map NN) (C.map tP)=(([none]::C.map wl).zip C).map aP:=by
  rw[yL]
  rfl
 obtain⟨⟨Y,L⟩,⟨C1,C2,e1,e2,e3,e4⟩,h⟩:=bN (g:=gT [6,7]) (ds:=[6,7,8]) (body:=kE) aP (λs:Ly×List PV=>[some (.obj 0 (aF cut)),some (mP m),some (.lst (C.map tP)),some (bj m),some (.lst (([none]::C.map wl).map NN)),some (.lst (s.2++[MG s.1])),none,none,none])
  (λr s=>∃C1 C2,C=C1++C2/\r=(s.1.map (·.1)::C2.map wl).zip C2/\Bk ini la m C1 s.1/\s.2.length=C1.length)
  (by
   rintro y r s ⟨C1,C2,e1,e2,e3,e4⟩
   obtain⟨Y,L⟩:=s
   cases C2 with
   | nil=>simp at e2
   | cons t C2=>
    have hc1:WC R C1:=λx hx=>hC x (by rw[e1];exact gL _ hx)
    have hn1:C1.length < 900:=by have:=c5 List.length e1;simp at this;omega
    have ht:=hC t (by rw[e1];simp)
    obtain⟨Y',f1,f2,L',f3,f4⟩:=lay_next D hm hl hc1 hn1 e3 ht.2
    rw[mx] at e2
    obtain⟨rfl,rfl⟩:=List.cons.inj e2
    refine⟨(Y',L++[MG Y]),⟨C1++[t],C2,by rw[e1];simp,by rw[f2];rfl,f1,by simp at e4 ⊢;omega⟩,?_⟩
    have h3:F1 (L++[MG Y]) (-1)=some (MG Y):=zy L (MG Y)
    have h4:(L++[MG Y]).length < 1000000:=by simp at e4 ⊢;omega
    have h5:(t.map λc=>PV.tup [.str c.1,.int c.2]).length<=1000000:=by rw[ac];omega
    have e5:NN (Y.map (·.1))=TU Y:=by
     unfold NN TU
     rw[bP]
     rfl
    dsimp only
    unfold aP tP
    dsimp only
    rw[e5,f3]
    obtain⟨LL,hLL⟩:∃LL,LL=L++[MG Y]:=⟨_,rfl⟩
    rw[← hLL] at h3 h4 ⊢
    clear hLL
    generalize TU Y=N,MG Y=E,bj m=SP,(t.map λc=>PV.tup [.str c.1,.int c.2])=TT,(([none]::C.map wl).map NN)=WW,mP m=MM at *
    simp[aX,kE,h3,h4,h5,f4,fK])
  (([none]::C.map wl).zip C) ([(none,[(OW,(0,[]))])],[]) ⟨[],C,rfl,rfl,.inl ⟨rfl,rfl⟩,rfl⟩
 have hC2:C2=[]:=by
  cases C2 with
  | nil=>rfl
  | cons t C2=>cases e2
 subst hC2
 rw[bp] at e1
 subst e1
 refine⟨Y,L,e3,?_⟩
 have h6:sO l_ (.tup [.int 0,.tup []])=some (dP vP [(OW,(0,[]))]):=by rfl
 have h7:(PV.lst ([]++[MG [(none,[(OW,(0,[]))])]]))=.lst [.lst [dP vP [(OW,(0,[]))]]]:=rfl
 rw[← hz] at h
 dsimp only at h
 rw[h7] at h
 generalize dP vP [(OW,(0,[]))]=D0,(([none]::C.map wl).map NN)=WW,C.map tP=TT,bj m=SP,mP m=MM,MG Y=E at *
 simp[jD,sU,h1,h2,h6,h]
noncomputable def vR:Option Vl->PV
 | none=>.FE
 | some v=>.tup [.int v.1,.lst (v.2.map .str)]
theorem Nz (hC:WC R C)(hn:C.length < 900){WV OV:PV}(Pp:d8 [.obj 0 (aF cut),WV,OV]=some (.lst (C.map tP))):
  ∃r:Option Vl,qM [.obj 0 (aF cut),WV,mP m,OV]=some (vR r)/\(∀v,r=some v->Cn ini la m C none (m.length,0,0) v)/\∀v,Cn ini la m C none (m.length,0,0) v->∃u,r=some u/\u.1<=v.1:=by
 obtain⟨Y,L,e3,h1⟩:=Ul D hm hl hC hn
 obtain⟨d,g1,g2,g3⟩:=Nu D hm hl hC e3 (f:=none) (λ_ z=>by cases z)
 refine⟨look d (m.length,0,0),?_,(g2 _).1,(g2 _).2⟩
 have h2:=Ny hC hn
 have h3:F1 (([none]::C.map wl).map NN) (-1)=some (TU Y):=by
  rcases e3 with ⟨rfl,rfl⟩ | ⟨C',t,B,rfl,rfl,_⟩
  ·rfl
  ·have:(([none]::(C'++[t]).map wl).map NN)=(([none]::C'.map wl).map NN)++[NN (wl t)]:=by simp
   rw[this,zy]
   unfold NN TU wl
   rw[bP,bP]
   rfl
 have h4:=GJ hm hl
 have h5:c7 [mP m]=some (bf (m.length,0,0)):=by simp[c7,mW,mP,bf,Lc]
 have h6:zH (dP vP d) (bf (m.length,0,0))=some (((look d (m.length,0,0)).map vP).getD .FE):=J0 d (m.length,0,0) .FE
 have h7:F1 (L++[MG Y]) (-1)=some (MG Y):=zy L (MG Y)
 simp only[lR] at g3
 have h8:m_ [.obj 0 (aF cut),mP m,.lst (C.map tP),MG Y]=some (((look d (m.length,0,0)).map vP).getD .FE):=by
  generalize ((look d (m.length,0,0)).map vP).getD .FE=RR,dP vP d=DD,(([none]::C.map wl).map NN)=WW,C.map tP=TT,bj m=SP,bf (m.length,0,0)=SE,mP m=MM,TU Y=N,MG Y=E at *
  simp[m_,wg,h4,h2,h3,g3,h5,h6,-zH]
 clear h2 h3 h4 h5 h6 g3
 generalize C.map tP=TT at *
 obtain⟨LL,hLL⟩:∃LL,LL=L++[MG Y]:=⟨_,rfl⟩
 rw[← hLL] at h1 h7
 clear hLL
 generalize MG Y=E at *
 cases q:look d (m.length,0,0) with
 | none=>
  rw[q] at h8
  generalize mP m=MM at *
  simp at h8
  simp[qM,Ba,Pp,h1,h7,h8,vR]
 | some v=>
  rw[q] at h8
  simp only[er,lf] at h8
  generalize mP m=MM at *
  have hp:vP v=.tup [.int v.1,.tup (v.2.map .str)]:=rfl
  rw[hp] at h8
  simp only[vR]
  generalize v.2.map PV.str=VS at *
  simp[qM,Ba,Pp,h1,h7,h8]
end
abbrev q6:List Str:=["","a","p","tr","e","pr"]
abbrev c6:List Str:=["a","e","i","ae","ai","ia"]
abbrev t8:List Str:=["","t","s","tr","pr","sp","st","spr"]
theorem YM:∀x∈q6,(∀c∈x.cps.toList,97<=c/\c < 123)/\x.length<=2:=by decide +kernel
theorem YQ:∀x∈c6,(∀c∈x.cps.toList,97<=c/\c < 123)/\x.length<=2/\∃s∈x.cps.toList,(⟨#[s]⟩:Str)∈(["a","e","i"]:qE):=by decide +kernel
theorem YS:∀x∈t8,(∀c∈x.cps.toList,97<=c/\c < 123)/\x.length<=3:=by decide +kernel
def Xq (w:Str):Prop:=∃s∈w.cps.toList,(⟨#[s]⟩:Str)∈(["a","e","i"]:qE)
theorem NB {n:Int}{k:Nat}(hk:k < 2)(ht:KP w)(hl:w.length<=100):∃w2,KP w2/\w2.length<=w.length+5/\Xq w2/\turn (gN 2) [2] j0 (.int (k:Nat)) [some (.int n),some (.str w),none]=some [some (.int n),some (.str w2),none]:=by
 have a1:F1 (c6.map PV.str) (n / (12+5*(k:Int)) % 6)=some (.str (pick c6 (n / (12+5*(k:Int)) % 6))):=uB (by omega) (by show _ < (6:Int);omega)
 have a2:F1 (t8.map PV.str) (n / (72+7*(k:Int)) % 8)=some (.str (pick t8 (n / (72+7*(k:Int)) % 8))):=uB (by omega) (by show _ < (8:Int);omega)
 have p1:=YQ (pick c6 (n / (12+5*(k:Int)) % 6)) (rF (by omega) (by show _ < (6:Int);omega))
 have p2:=YS (pick t8 (n / (72+7*(k:Int)) % 8)) (rF (by omega) (by show _ < (8:Int);omega))
 generalize pick c6 (n / (12+5*(k:Int)) % 6)=x1,pick t8 (n / (72+7*(k:Int)) % 8)=x2 at *
 refine⟨w++x1++x2,KP.app (KP.app ht p1.1) p2.1,by rw[jd,jd];omega,?_,?_⟩
 ·obtain⟨s,h1,h2⟩:=p1.2.2
  exact⟨s,by rw[sX,sX];simp[h1],h2⟩
 ·have s1:Oy (k:Int)=true:=dW (by omega) (by omega)
  have d1:(0:Int) < 12+5*(k:Int)/\12+5*(k:Int) < 1073741824:=by omega
  have d2:(0:Int) < 72+7*(k:Int)/\72+7*(k:Int) < 1073741824:=by omega
  have l1:w.length+x1.length<=1000000:=by omega
  have l2:(w++x1).length+x2.length<=1000000:=by rw[jd];omega
  simp only[al,cp] at a1 a2
  generalize hA:w++x1=A at *
  simp[aX,j0,s1,d1,d2,a1,a2,l1,l2,hA]
theorem Jc (n:Int):∃w,f9 [.int n]=some (.str w)/\LY w:=by
 have a0:F1 (q6.map PV.str) (n % 6)=some (.str (pick q6 (n % 6))):=uB (by omega) (by show _ < (6:Int);omega)
 have p0:=YM (pick q6 (n % 6)) (rF (by omega) (by show _ < (6:Int);omega))
 generalize pick q6 (n % 6)=x0 at *
 obtain⟨t,ht,ht1,Ya⟩:∃t:Nat,1+n / 6 % 2=(t:Int)/\1<=t/\t<=2:=⟨(1+n / 6 % 2).toNat,by omega,by omega,by omega⟩
 obtain⟨w,⟨h1,h2,h3,h4⟩,h⟩:=bN (g:=gN 2) (ds:=[2]) (body:=j0) (λk:Nat=>PV.int (k:Nat)) (λw:Str=>[some (.int n),some (.str w),none])
  (λr w=>KP w/\w.length+5*r.length<=12/\(∀k∈r,k < 2)/\(r.length < t->Xq w))
  (by
   rintro k r w ⟨h1,h2,h3,h4⟩
   obtain⟨w2,g1,g2,g3,g4⟩:=NB (n:=n) (h3 k am) h1 (by simp at h2;omega)
   exact⟨w2,⟨g1,by simp at h2;omega,λj hj=>h3 j (ah _ hj),λ_=>g3⟩,g4⟩)
  (List.range t) x0 ⟨p0.1,by simp;omega,λk hk=>by have:=cq.mp hk;omega,λz=>by simp at z⟩
 refine⟨w,?_,⟨h1,by simp at h2;omega,h4 (by simp;omega)⟩⟩
 rw[← jM] at h
 have e1:N1 (t:Int)=true:=rH (by omega)
 have e2:(cH 0 (t:Int)).length<=1000000:=by rw[rG];omega
 simp only[al,cp] at a0
 generalize hX:cH 0 (t:Int)=X at *
 simp[f9,v8,a0,ht,e1,hX,e2,h]
theorem Rt:∃lw:Int->Str,∀n,f9 [.int n]=some (.str (lw n))/\LY (lw n):=kn Jc
theorem QR {cs:qS}(hl:cs.length<=60):∃ws:List Str,lE [.lst (cs.map .int)]=some (.lst (ws.map .str))/\ws.length=cs.length/\∀w∈ws,LY w:=by
 obtain⟨lw,hlw⟩:=Rt
 have hc:∀(cs:qS) (n:Nat),n+cs.length<=100->∃ws:List Str,bJ [none,none] (gT [0,1]) aZ jz (dU n (cs.map .int))=some (ws.map .str)/\ws.length=cs.length/\∀w∈ws,LY w:=by
  intro cs
  induction cs with
  | nil=>intro n _;exact⟨[],rfl,rfl,by simp⟩
  | cons c cs ih=>
   intro n hn
   simp only[bg] at hn
   obtain⟨ws,h1,h2,h3⟩:=ih (n+1) (by omega)
   have hm:=rK c (n:Int) (T5 (by omega))
   have hw:=hlw (mixed c n)
   have hce:jz [some (.int (n:Nat)),some (.int c)]=some (.str (lw (mixed c n))):=by simp[jz,hm,hw.1]
   refine⟨lw (mixed c n)::ws,?_,by simp[h2],λw hw'=>?_⟩
   ·simp[dU,bJ,hce,h1]
   ·rcases aI.mp hw' with e | e
    ·rw[e];exact hw.2
    ·exact h3 w e
 obtain⟨ws,h1,h2,h3⟩:=hc cs 0 (by omega)
 refine⟨ws,?_,h2,h3⟩
 have hel:∀(xs:List PV) (n:Nat),(dU n xs).length=xs.length:=λxs=>by
  induction xs with
  | nil=>intro n;rfl
  | cons x xs ih=>intro n;simp[dU,ih]
 have h4:(dU 0 (cs.map PV.int)).length<=1000000:=by rw[hel,ac];omega
 generalize cs.map PV.int=C at *
 generalize hX:dU 0 C=X at *
 simp[lE,vz,hX,h4,h1,fK]
theorem QS (c k:Int):Oy (mixed c k)=true:=dW (by unfold mixed;omega) (by unfold mixed;omega)
def yR (o:Ot):Prop:=KP o.1/\LY o.2.1
theorem QT {n:Int}{k j:Nat}(hk:k < 100)(hj:j < 100){x:Str}(hx:KP x)(hxk:F1 (ws.map PV.str) (k:Int)=some (.str x))(hO:O.length<=1000):
  ∃o,yR o/\turn (gN 5) [5,6,7] dJ (.int (j:Nat)) [some (.lst (ws.map .str)),some (.int n),some (.int 2),some (.lst (O.map oP)),some (.int (k:Nat)),none,none,none]=some [some (.lst (ws.map .str)),some (.int n),some (.int 2),some (.lst ((O++[o]).map oP)),some (.int (k:Nat)),none,none,none]:=by
 have h1:=rK n (50+9*(k:Int)+(j:Int)) (dW (by omega) (by omega))
 have h2:=QS n (50+9*(k:Int)+(j:Int))
 generalize hM:mixed n (50+9*(k:Int)+(j:Int))=M at *
 obtain⟨w,h3,hw⟩:=Jc (M / 13)
 have s9:Oy 9=true:=dW (by decide) (by decide)
 have sk:Oy (k:Int)=true:=dW (by omega) (by omega)
 have hl:(O.map oP).length < 1000000:=by rw[ac];omega
 have e:∀p:Int,(O++[(x,w,p)]).map oP=O.map oP++[.tup [.str x,.str w,.int p]]:=λp=>by simp[oP]
 by_cases q:M / 7 % 5=3
 ·refine⟨(x,w,1+M % 4+M*10 ^ 48),⟨hx,hw⟩,?_⟩
  have a1:F1 [PV.int (1+M % 4),.int (1+M % 4+M*10 ^ 48)] 1=some (.int (1+M % 4+M*10 ^ 48)):=rfl
  rw[e]
  generalize O.map oP=OV,ws.map PV.str=WV at *
  simp[aX,dJ,h1,h2,q,a1,hxk,h3,hl,s9,sk]
 ·refine⟨(x,w,1+M % 4),⟨hx,hw⟩,?_⟩
  have a1:F1 [PV.int (1+M % 4),.int (1+M % 4+M*10 ^ 48)] 0=some (.int (1+M % 4)):=rfl
  rw[e]
  generalize O.map oP=OV,ws.map PV.str=WV at *
  simp[aX,dJ,h1,h2,q,a1,hxk,h3,hl,s9,sk]
theorem NK (hw:∀w∈ws,LY w){n:Int}{k:Nat}(hk:k < ws.length)(hl:ws.length<=100)(hO:O.length<=900)(ok:∀o∈O,yR o):
  ∃O2:List Ot,O2.length<=O.length+2/\(∀o∈O2,yR o)/\turn (gN 4) [4,5,6,7] gb (.int (k:Nat)) [some (.lst (ws.map .str)),some (.int n),some (.int 2),some (.lst (O.map oP)),none,none,none,none]=some [some (.lst (ws.map .str)),some (.int n),some (.int 2),some (.lst (O2.map oP)),none,none,none,none]:=by
 have hxk:F1 (ws.map PV.str) (k:Int)=some (.str ws[k]):=cu (by simp[hk])
 have hx:=(hw ws[k] (e9 hk)).t
 have TH:=Mv PV.str ws k (by omega)
 have hin:=yH ws[k] (ws.take k)
 generalize ws[k]=x at *
 have h1:=rK n (3*(k:Int)+1) (dW (by omega) (by omega))
 have s3:Oy 3=true:=dW (by decide) (by decide)
 have sk:Oy (k:Int)=true:=dW (by omega) (by omega)
 have s0:Oy 0=true:=dW (by decide) (by decide)
 have s1:Oy 1=true:=dW (by decide) (by decide)
 generalize mixed n (3*(k:Int)+1)=M at *
 have inner:∀t:Nat,t<=2->∃O2:List Ot,O2.length<=O.length+2/\(∀o∈O2,yR o)/\bB (gN 5) [5,6,7] dJ (cH 0 (t:Int)) [some (.lst (ws.map .str)),some (.int n),some (.int 2),some (.lst (O.map oP)),some (.int (k:Nat)),none,none,none]=some (.nx [some (.lst (ws.map .str)),some (.int n),some (.int 2),some (.lst (O2.map oP)),some (.int (k:Nat)),none,none,none]):=λt ht=>by
  rw[jM]
  obtain⟨O2,⟨g1,g2,g3⟩,g4⟩:=bN (g:=gN 5) (ds:=[5,6,7]) (body:=dJ) (λj:Nat=>PV.int (j:Nat)) (λO:List Ot=>[some (.lst (ws.map .str)),some (.int n),some (.int 2),some (.lst (O.map oP)),some (.int (k:Nat)),none,none,none])
   (λr O2=>O2.length+r.length<=O.length+2/\(∀o∈O2,yR o)/\∀j∈r,j < 100)
   (by
    rintro j r O2 ⟨g1,g2,g3⟩
    simp only[bg] at g1
    obtain⟨o,ho,h⟩:=QT (ws:=ws) (n:=n) (k:=k) (j:=j) (by omega) (g3 j am) hx hxk (O:=O2) (by omega)
    refine⟨O2++[o],⟨by simp;omega,λz hz=>?_,λz hz=>g3 z (ah _ hz)⟩,h⟩
    rcases bv.mp hz with q | q
    ·exact g2 z q
    ·rw[av.mp q];exact ho)
   (List.range t) O ⟨by simp;omega,ok,λj hj=>by have:=cq.mp hj;omega⟩
  exact⟨O2,by simpa using g1,g2,g4⟩
 by_cases q:x∈ws.take k
 ·obtain⟨O2,g1,g2,g3⟩:=inner 0 (by omega)
  refine⟨O2,g1,g2,?_⟩
  rw[bS q] at hin
  have e1:N1 0=true:=rH (k:=0) (by omega)
  have e2:(cH 0 ((0:Nat):Int)).length<=1000000:=by rw[rG];omega
  have e3:cH 0 ((0:Nat):Int)=cH 0 0:=rfl
  rw[e3] at g3 e2
  generalize O.map oP=OV,O2.map oP=OV2,(ws.take k).map PV.str=WK,ws.map PV.str=WV at *
  simp[aX,gb,h1,s3,sk,s0,hxk,TH,hin,e1,e2,g3]
 ·obtain⟨t,ht,Ya⟩:∃t:Nat,M % 3=(t:Int)/\t<=2:=⟨(M % 3).toNat,by omega,by omega⟩
  obtain⟨O2,g1,g2,g3⟩:=inner t Ya
  refine⟨O2,g1,g2,?_⟩
  rw[be q] at hin
  have e1:N1 (t:Int)=true:=rH (by omega)
  have e2:(cH 0 (t:Int)).length<=1000000:=by rw[rG];omega
  generalize hX:cH 0 (t:Int)=X,O.map oP=OV,O2.map oP=OV2,(ws.take k).map PV.str=WK,ws.map PV.str=WV at *
  simp[aX,gb,h1,s3,sk,s1,hxk,TH,hin,e1,e2,ht,hX,g3]
theorem NP (hw:∀w∈ws,LY w)(hl:ws.length<=100)(n:Int):∃O:List Ot,iG [.lst (ws.map .str),.int n,.int 2]=some (.lst (O.map oP))/\O.length<=2*ws.length/\∀o∈O,yR o:=by
 obtain⟨O,⟨g1,g2,g3⟩,h⟩:=bN (g:=gN 4) (ds:=[4,5,6,7]) (body:=gb) (λj:Nat=>PV.int (j:Nat)) (λO:List Ot=>[some (.lst (ws.map .str)),some (.int n),some (.int 2),some (.lst (O.map oP)),none,none,none,none])
  (λr O=>O.length+2*r.length<=2*ws.length/\(∀o∈O,yR o)/\∀j∈r,j < ws.length)
  (by
   rintro k r O ⟨g1,g2,g3⟩
   simp only[bg] at g1
   obtain⟨O2,f1,f2,f3⟩:=NK hw (n:=n) (g3 k am) hl (O:=O) (by omega) g2
   exact⟨O2,⟨by omega,f2,λz hz=>g3 z (ah _ hz)⟩,f3⟩)
  (List.range ws.length) [] ⟨by simp,by simp,λj hj=>cq.mp hj⟩
 rw[← jM] at h
 have e1:N1 (ws.length:Int)=true:=rH (by omega)
 have e2:(cH 0 (ws.length:Int)).length<=1000000:=by rw[rG];omega
 have e3:(ws.map PV.str).length=ws.length:=ac _
 simp only[cp] at h
 refine⟨if n % 3=1 then O.reverse else O,?_,by split <;> simpa using g1,λo ho=>?_⟩
 ·have e4:(if n % 3=1 then O.reverse else O).map oP=if n % 3=1 then (O.map oP).reverse else O.map oP:=by
   split
   ·rw[lj]
   ·rfl
  rw[e4]
  generalize O.map oP=OV,ws.map PV.str=WV,hX:cH 0 (ws.length:Int)=X at *
  by_cases q:n % 3=1
  ·simp[iG,oK,e3,e1,hX,e2,h,q]
  ·simp[iG,oK,e3,e1,hX,e2,h,q]
 ·split at ho
  ·exact g2 o (List.mem_reverse.mp ho)
  ·exact g2 o ho
noncomputable def rP (v:Vl):PV:=.tup [.int v.1,.lst (v.2.map .str)]
noncomputable def cP (c:Str×Int):PV:=.tup [.str c.1,.int c.2]
theorem all1 {W OV F:PV}{w:Str}{v:Vl}(hv:v.2.length<=100):∀(t:Ch) (M:List Vl),M.length+t.length<=100000->
  bB (gT [7,8]) [7,8] lF (t.map cP) [some W,some OV,some F,some (.str w),some (.lst (M.map rP)),some (.int v.1),some (.lst (v.2.map .str)),none,none]=some (.nx [some W,some OV,some F,some (.str w),some (.lst ((M++t.map λc=>Pf c.1 c.2 v).map rP)),some (.int v.1),some (.lst (v.2.map .str)),none,none])
 | [],M,_=>by simp[bB]
 | c::t,M,h=>by
  simp only[bg] at h
  have ih:=all1 (W:=W) (OV:=OV) (F:=F) (w:=w) hv t (M++[Pf c.1 c.2 v]) (by simp;omega)
  have h1:(M.map rP).length < 1000000:=by rw[ac];omega
  have h2:(v.2.map PV.str).length+1<=1000000:=by rw[ac];omega
  have e:(M++[Pf c.1 c.2 v]).map rP=M.map rP++[.tup [.int (v.1+c.2),.lst (v.2.map .str++[.str c.1])]]:=by simp[rP,Pf]
  have ht:turn (gT [7,8]) [7,8] lF (cP c) [some W,some OV,some F,some (.str w),some (.lst (M.map rP)),some (.int v.1),some (.lst (v.2.map .str)),none,none]=some [some W,some OV,some F,some (.str w),some (.lst ((M++[Pf c.1 c.2 v]).map rP)),some (.int v.1),some (.lst (v.2.map .str)),none,none]:=by
   rw[e]
   unfold cP
   generalize M.map rP=MV,v.2.map PV.str=VV at *
   simp[aX,lF,h1,h2]
  rw[al,dg ht,ih]
  simp
theorem all2 {W F:PV}{O:List Ot}(hO:O.length<=100){w:Str}:∀(L M:List Vl),(∀v∈L,v.2.length<=100)->M.length+L.length*101<=100000->
  bB (gT [5,6]) [5,6,7,8] lG (L.map rP) [some W,some (.lst (O.map oP)),some F,some (.str w),some (.lst (M.map rP)),none,none,none,none]=some (.nx [some W,some (.lst (O.map oP)),some F,some (.str w),some (.lst ((M++gU L (Ic O w)).map rP)),none,none,none,none])
 | [],M,_,_=>by simp[bB,gU]
 | v::L,M,hL,h=>by
  simp only[bg] at h
  have hc:(Ic O w).length<=101:=by
   unfold Ic
   have:=gl (λo:Ot=>decide (o.1=w)) O
   simp
   omega
  have ih:=all2 (W:=W) (F:=F) hO (w:=w) L (M++(Ic O w).map λc=>Pf c.1 c.2 v) (λu hu=>hL u (ah _ hu)) (by simp;omega)
  have h1:=all1 (W:=W) (OV:=.lst (O.map oP)) (F:=F) (w:=w) (hL v am) (Ic O w) M (by omega)
  have h2:jA [.str w,.lst (O.map oP)]=some (tP (Ic O w)):=by rw[QQ];exact Jb (by omega) w
  have h3:tP (Ic O w)=.lst ((Ic O w).map cP):=rfl
  rw[h3] at h2
  have ht:turn (gT [5,6]) [5,6,7,8] lG (rP v) [some W,some (.lst (O.map oP)),some F,some (.str w),some (.lst (M.map rP)),none,none,none,none]=some [some W,some (.lst (O.map oP)),some F,some (.str w),some (.lst ((M++(Ic O w).map λc=>Pf c.1 c.2 v).map rP)),none,none,none,none]:=by
   unfold rP at h1 ⊢
   generalize (M.map λv=>PV.tup [.int v.1,.lst (v.2.map .str)])=MV,((M++(Ic O w).map λc=>Pf c.1 c.2 v).map λv=>PV.tup [.int v.1,.lst (v.2.map .str)])=MV2,v.2.map PV.str=VV,O.map oP=OV,(Ic O w).map cP=CV at *
   simp[aX,lG,h2,PU,h1]
  rw[al,dg ht,ih]
  simp[gU]
theorem NQ {F:List Vl}{t:Ch}:(gU F t).length=F.length*t.length:=by
 unfold gU
 induction F with
 | nil=>simp
 | cons v F ih=>simp[g9,ih,Nat.succ_mul];omega
theorem Um (hO:O.length<=6)(hl:ws.length<=3):pq [.lst (ws.map .str),.lst (O.map oP)]=some (.lst ((allM (ws.map (Ic O))).map rP))/\(allM (ws.map (Ic O))).length<=343:=by
 obtain⟨F,⟨q,e1,e2,e3⟩,h⟩:=bN (g:=gN 3) (ds:=[3,4,5,6,7,8]) (body:=pY) PV.str (λF:List Vl=>[some (.lst (ws.map .str)),some (.lst (O.map oP)),some (.lst (F.map rP)),none,none,none,none,none,none])
  (λr F=>∃q,ws=q++r/\F=allM (q.map (Ic O))/\F.length<=7 ^ q.length)
  (by
   rintro w r F ⟨q,e1,e2,e3⟩
   have hq:q.length<=2:=by have:=c5 List.length e1;simp at this;omega
   have h7:(7:Nat) ^ q.length<=7 ^ 2:=pc (by omega) hq
   have hc:(Ic O w).length<=7:=by
    unfold Ic
    have:=gl (λo:Ot=>decide (o.1=w)) O
    simp
    omega
   refine⟨gU F (Ic O w),⟨q++[w],by rw[e1];simp,by rw[e2,bm];exact(wF _ _).symm,?_⟩,?_⟩
   ·rw[NQ,a9,kT,Nat.pow_succ]
    exact Nat.mul_le_mul e3 hc
   ·have:=all2 (W:=.lst (ws.map .str)) (F:=.lst (F.map rP)) (O:=O) (by omega) (w:=w) F [] (λv hv=>by
     rw[e2] at hv
     have:=yQ hv
     simp at this
     omega) (by simp;omega)
    rw[gx] at this
    simp only[cp] at this
    generalize F.map rP=FV,(gU F (Ic O w)).map rP=FV2,O.map oP=OV,ws.map PV.str=WV at *
    simp[aX,pY,PU,this])
  ws [(0,[])] ⟨[],rfl,rfl,by simp⟩
 rw[bp] at e1
 subst e1
 have h7:(7:Nat) ^ ws.length<=7 ^ 3:=pc (by omega) hl
 rw[e2] at h e3
 refine⟨?_,by omega⟩
 have e0:[((0,[]):Vl)].map rP=[.tup [.int 0,.lst []]]:=rfl
 rw[e0] at h
 generalize (allM (ws.map (Ic O))).map rP=FV,O.map oP=OV,ws.map PV.str=WV at *
 simp[pq,yj,PU,h]
theorem Uo {n:Nat}{ys:List PV}{x:PV}(hx:x∈ys)(h:∀y∈ys,LB n y)(hn:n<=32)(hf:fJ x=false):N0 x (.lst ys)=some true:=by
 obtain⟨d,d1,d2,d3,d4⟩:=zG n x (h x hx)
 have key:∀ys:List PV,(∀y∈ys,LB n y)->∃ds,gw ys=some ds/\PyData.canLayAll0 ds=true/\(x∈ys->d∈ds):=by
  intro ys
  induction ys with
  | nil=>intro _;exact⟨[],rfl,rfl,λz=>by cases z⟩
  | cons y ys ih=>
   intro hh
   obtain⟨ds,g1,g2,g3⟩:=ih λz hz=>hh z (ah _ hz)
   obtain⟨e,f1,f2,f3,f4⟩:=zG n y (hh y am)
   refine⟨e::ds,by simp[gw,f1,g1],by simp[PyData.canLayAll0,f2,g2],λz=>?_⟩
   rcases aI.mp z with q | q
   ·subst q
    rw[d1] at f1
    cases f1
    exact am
   ·exact ah _ (g3 q)
 obtain⟨ds,g1,g2,g3⟩:=key ys h
 have ha:(ds.any λy=>PyData.eqv y d)=true:=lc.mpr ⟨d,g3 hx,d4⟩
 simp only[N0]
 rw[ax (λz=>by have:=z.1;rw[hf] at this;cases this)]
 unfold inD
 rw[d1,g1]
 show (if _ then _ else _)=_
 rw[ba ⟨g2,d2,by omega⟩,ha]
theorem Dd:∀(ts:qE),(∀t∈ts,t.length=1)->(Str.join (Str.ofString "") ts).length=ts.length
 | [],_=>by decide +kernel
 | [t],h=>by simpa [Str.join] using h t (by simp)
 | t::y::r,h=>by
  have ih:=Dd (y::r) λz hz=>h z (ah _ hz)
  have h1:=h t (by simp)
  show (t++(Str.ofString "")++Str.join (Str.ofString "") (y::r)).length=_
  rw[jd,jd,Ir]
  simp only[bg] at ih ⊢
  omega
def yS (x:Str):Prop:=x=("u" : Str)\/x=("-" : Str)
theorem GZ {x:Str}(h:yS x):x.length=1/\∀c∈x.cps.toList,c=117\/c=45:=by
 have a:(Str.ofString "u").length=1/\∀c∈(Str.ofString "u").cps.toList,c=117\/c=45:=by decide +kernel
 have b:(Str.ofString "-").length=1/\∀c∈(Str.ofString "-").cps.toList,c=117\/c=45:=by decide +kernel
 rcases h with rfl | rfl
 ·exact a
 ·exact b
abbrev x4:List Str:=["u","x-","uu","-x"]
theorem YT:∀x∈x4,1<=x.length/\x.length<=4/\∀c∈x.cps.toList,c=117\/c=45\/c=120:=by decide +kernel
theorem J4:(Str.ofString "x").length=1/\∀c∈(Str.ofString "x").cps.toList,c=120:=by decide +kernel
section
variable {row:List Sg}(hr:∀e∈row,yS e.1){n:Int}{a:Nat}
include hr in
theorem Up {z:Nat}(h1:1<=z)(h4:z<=4)(h:a+z<=row.length):KU (Str.join (Str.ofString "") ((seg row a z).map (·.1)))/\JoinOk (Str.ofString "") ((seg row a z).map (·.1))=true:=by
 have hm:∀t∈(seg row a z).map (·.1),yS t:=λt ht=>by
  obtain⟨e,he,rfl⟩:=bn.mp ht
  exact hr e (pd (pf he))
 have hl:=Dd ((seg row a z).map (·.1)) λt ht=>(GZ (hm t ht)).1
 rw[ac,Bf h] at hl
 refine⟨⟨by omega,by omega,λc hc=>?_⟩,Qv (by rw[Ir];decide) (λy hy=>by have:=(GZ (hm y hy)).1;omega) (by rw[ac,Bf h];omega)⟩
 rcases mem_join hc with q | ⟨t,ht,q⟩
 ·have:(Str.ofString "").cps.toList=[]:=by decide +kernel
  rw[this] at q;cases q
 ·rcases(GZ (hm t ht)).2 c q with e | e
  ·exact .inl e
  ·exact .inr (.inl e)
def u5:=(aG (HZ (tV (b2 eqQ (b2 cU (b2 fH (bV 4) (Fh 3)) (Fh 3)) (Fh 1))) (bM eV 7 (b2 FI (bD (ak (bC (.str "u")) (ak (bC (.str "x-")) (ak (bC (.str "uu")) (ak (bC (.str "-x")) aB))))) (b2 cU (b2 fH (bV 4) (Fh 9)) (Fh 4)))) HV) (aG (HZ (tV (b2 eqQ (b2 cU (b2 fH (bV 4) (Fh 3)) (Fh 3)) (Fh 2))) (bM eV 7 (b2 cg (LJ (bV 6) oN (oS (b1 fX (Fh 1)))) (bC (.str "x")))) HV) (aG (aK 3 (b2 cg (bV 3) (bV 5))) (HZ (tA (tV (b2 eqQ (b2 cU (b2 fH (bV 4) (Fh 36)) (Fh 2)) (Fh 1))) (tV (b2 OS (b2 FI (bV 7) (b1 fX (Fh 1))) (bV 6)))) (zr qY 7) HV))))
def Bl:=(b1 vZ (LJ (bV 7) oN (oS (b2 cg (Fh 1) (b1 vU (b2 OS (b2 FI (bV 7) (Fh 0)) (b2 FI (bV 7) (b1 fX (Fh 1)))))))))
def Xr (p:Str)(M:Int)(ps:qE):Prop:=K2 ps/\∀(RV NV MV:PV) (a z:Int),∃e7,u5 [some RV,some NV,some MV,some (.int a),some (.int M),some (.int z),some (.str p),some (.lst [.str p])]=some (.nx [some RV,some NV,some MV,some (.int (a+z)),some (.int M),some (.int z),some (.str p),some (.lst e7)])/\Bl [some RV,some NV,some MV,some (.int (a+z)),some (.int M),some (.int z),some (.str p),some (.lst e7)]=some (.tup (ps.map .str))
theorem QV (hp:KU p)(M:Int):∃ps:List Str,Xr p M ps:=by
 have two:∀x:Str,KU x->(M / 3 % 3=1/\F1 (x4.map PV.str) (M / 9 % 4)=some (.str x)\/M / 3 % 3=2/\cT p none (some (-1))++("x" : Str)=x)->∃ps:List Str,Xr p M ps:=λx hx hM=>by
  have RF:(cT p none (some (-1))).length+(Str.ofString "x").length<=1000000:=by have:=Qm p none (some (-1));have:=hp.le;have:=J4.1;omega
  have IH:p.length<=1000000:=by have:=hp.le;omega
  have b1:F1 [PV.str p,.str x] (-1)=some (.str x):=rfl
  have b2:F1 [PV.str p,.str x] 0=some (.str p):=rfl
  have b3:F1 [PV.str x,.str p] (-1)=some (.str p):=rfl
  have b4:F1 [PV.str x,.str p] 0=some (.str x):=rfl
  have k1:∀y1 y2:PV,dY [y1,y2] none (some 1)=[y1]:=λ_ _=>rfl
  have k2:∀y1 y2:PV,dY [y1,y2] none (some 2)=[y1,y2]:=λ_ _=>rfl
  by_cases q:x=p
  ·subst q
   refine⟨[x],⟨by simp,by simp,by simpa using hp,by simp⟩,λRV NV MV at' z=>⟨[.str x,.str x],?_,?_⟩⟩
   ·rcases hM with ⟨e1,e2⟩ | ⟨e1,e2⟩
    ·simp only[al,cp] at e2
     simp[u5,e1,e2,b1]
    ·simp[u5,e1,RF,IH,e2,b1]
   ·simp[Bl,b1,b2,k1]
  ·have q':¬ p=x:=λz=>q z.symm
   by_cases d:M / 36 % 2=1
   ·refine⟨[x,p],⟨by simp,by simp,by simpa using ⟨hx,hp⟩,by simpa using q⟩,λRV NV MV at' z=>⟨[.str x,.str p],?_,?_⟩⟩
    ·rcases hM with ⟨e1,e2⟩ | ⟨e1,e2⟩
     ·simp only[al,cp] at e2
      simp[u5,e1,e2,b1,d,q]
     ·simp[u5,e1,RF,IH,e2,b1,d,q]
    ·simp[Bl,b3,b4,q,k2]
   ·refine⟨[p,x],⟨by simp,by simp,by simpa using ⟨hp,hx⟩,by simpa using q'⟩,λRV NV MV at' z=>⟨[.str p,.str x],?_,?_⟩⟩
    ·rcases hM with ⟨e1,e2⟩ | ⟨e1,e2⟩
     ·simp only[al,cp] at e2
      simp[u5,e1,e2,b1,d]
     ·simp[u5,e1,RF,IH,e2,b1,d]
    ·simp[Bl,b1,b2,q',k2]
 obtain h | h | h:M / 3 % 3=0\/M / 3 % 3=1\/M / 3 % 3=2:=by omega
 ·refine⟨[p],⟨by simp,by simp,by simpa using hp,by simp⟩,λRV NV MV at' z=>⟨[.str p],?_,?_⟩⟩
  ·have b1:F1 [PV.str p] (-1)=some (.str p):=rfl
   simp[u5,h,b1]
  ·have b1:F1 [PV.str p] (-1)=some (.str p):=rfl
   have b2:F1 [PV.str p] 0=some (.str p):=rfl
   have k1:dY [PV.str p] none (some 1)=[.str p]:=rfl
   simp[Bl,b1,b2,k1]
 ·have ha:F1 (x4.map PV.str) (M / 9 % 4)=some (.str (pick x4 (M / 9 % 4))):=uB (by omega) (by show _ < (4:Int);omega)
  have hx:=YT (pick x4 (M / 9 % 4)) (rF (by omega) (by show _ < (4:Int);omega))
  exact two _ ⟨hx.1,hx.2.1,hx.2.2⟩ (.inl ⟨h,ha⟩)
 ·refine two _ ⟨?_,?_,λc hc=>?_⟩ (.inr ⟨h,rfl⟩)
  ·rw[jd];have:=J4.1;omega
  ·have hc:(cT p none (some (-1))).length<=3:=by
    have:=c5 List.length (gQ p none (some (-1)))
    have e:(cT p none (some (-1))).cps.toList.length=(cT p none (some (-1))).length:=aE
    have e2:p.cps.toList.length=p.length:=aE
    rw[e] at this
    rw[this,eW,dA,e2]
    have h1:HT.ID p.length p.length (some (-1))=((-1:Int)+(p.length:Int)).toNat:=rfl
    rw[h1]
    have:=hp.le
    omega
   rw[jd];have:=J4.1;omega
  ·rw[sX] at hc
   rcases bv.mp hc with z | z
   ·rw[gQ] at z
    exact hp.cs c (pd (pf z))
   ·exact .inr (.inr (J4.2 c z))
end
theorem Bm (f g h:MR.Env->Option Out):aG (aG f g) h=aG f (aG g h):=by
 funext env
 simp only[SJ]
 cases f env with
 | none=>rfl
 | some o=>cases o <;> rfl
theorem ZR {f1 f2 f3 f4 r:MR.Env->Option Out}{env e:MR.Env}(h:aG f1 (aG f2 (aG f3 f4)) env=some (.nx e)):aG f1 (aG f2 (aG f3 (aG f4 r))) env=r e:=by
 have:=bG (g:=r) h
 rw[Bm,Bm,Bm] at this
 exact this
section
variable {row:List Sg}(hr:∀e∈row,yS e.1)(hN:row.length < 900){n:Int}
include hr hN
theorem QW {a:Nat}(ha:a < row.length){M:rg}(hM:M.length<=a):∃(s:Slot) (z:Nat),K2 s.1/\1<=z/\a+z<=row.length/\∃e4 e5 e6 e7,
  d7 [some (dO row),some (.int n),some (.lst (M.map JU)),some (.int a),none,none,none,none]=some (.nx [some (dO row),some (.int n),some (.lst ((M++[s]).map JU)),some (.int ((a+z:Nat):Int)),e4,e5,e6,e7]):=by
 have h1:=rK n (11*(a:Int)+4) (dW (by omega) (by omega))
 have s11:Oy (a:Int)=true:=dW (by omega) (by omega)
 generalize mixed n (11*(a:Int)+4)=m at *
 have hlen:(row.map P8).length=row.length:=ac _
 obtain⟨z,hz1,hz4,hza,hz⟩:∃z:Nat,1<=z/\z<=4/\a+z<=row.length/\(b2 qu (b2 FI (bD (ak (b2 cg (Fh 2) (b2 cU (bV 4) (Fh 3))) (ak (Fh 4) aB))) (b1 vU (b2 (gq λi j=>decide (j < i)) (b1 F7 (bV 0)) (Fh 24)))) (b2 OQ (b1 F7 (bV 0)) (bV 3))) [some (dO row),some (.int n),some (.lst (M.map JU)),some (.int a),some (.int m),none,none,none]=some (.int (z:Nat)):=by
  by_cases q:24 < row.length
  ·have q':(24:Int) < (row.length:Int):=by omega
   have a1:F1 [PV.int (2+m % 3),.int 4] 1=some (.int 4):=rfl
   refine⟨(if (row.length:Int) - (a:Int) < 4 then (row.length:Int) - (a:Int) else 4).toNat,by split <;> omega,by split <;> omega,by split <;> omega,?_⟩
   have e:(((if (row.length:Int) - (a:Int) < 4 then (row.length:Int) - (a:Int) else 4).toNat:Nat):Int)=if (row.length:Int) - (a:Int) < 4 then (row.length:Int) - (a:Int) else 4:=by split <;> omega
   rw[e]
   unfold dO
   generalize row.map P8=RV at *
   simp[hlen,q,q',a1]
  ·have q':¬ (24:Int) < (row.length:Int):=by omega
   have a1:F1 [PV.int (2+m % 3),.int 4] 0=some (.int (2+m % 3)):=rfl
   refine⟨(if (row.length:Int) - (a:Int) < 2+m % 3 then (row.length:Int) - (a:Int) else 2+m % 3).toNat,by split <;> omega,by split <;> omega,by split <;> omega,?_⟩
   have e:(((if (row.length:Int) - (a:Int) < 2+m % 3 then (row.length:Int) - (a:Int) else 2+m % 3).toNat:Nat):Int)=if (row.length:Int) - (a:Int) < 2+m % 3 then (row.length:Int) - (a:Int) else 2+m % 3:=by split <;> omega
   rw[e]
   unfold dO
   generalize row.map P8=RV at *
   simp[hlen,q,q',a1]
 obtain⟨hp,hj⟩:=Up hr hz1 hz4 hza
 have TH:=T6 (row:=row) (a:=a) (n:=z) (by omega)
 have OB:bJ [none,none] (gT [0,1]) aZ gO ((seg row a z).map P8)=some (((seg row a z).map (·.1)).map .str):=by
  rw[bP]
  exact bI _ _ _ λe he=>⟨[some (.str e.1),some (.bl e.2)],rfl,by rfl⟩
 have RF:((seg row a z).map P8).length<=1000000:=by rw[ac,Bf hza];omega
 have Pl:=tD ((seg row a z).map (·.1))
 obtain⟨ps,II,hA⟩:=QV hp m
 obtain⟨e7,hA1,hA2⟩:=hA (dO row) (.int n) (.lst (M.map JU)) a z
 have hat:=Xc (row:=row) (k:=a+z - 1) (by omega)
 generalize (Qw row (a+z - 1))=g at *
 refine⟨(ps,g.2&&decide (m / 72 % 2=1)),z,II,hz1,hza,some (.int m),some (.int (z:Nat)),some (.str (Str.join (Str.ofString "") ((seg row a z).map (·.1)))),some (.lst e7),?_⟩
 generalize (seg row a z).map (·.1)=ts at *
 generalize ts.map PV.str=TV,(seg row a z).map P8=SV,hJ:Str.join (Str.ofString "") ts=J at *
 have s3:(aK 6 (b2 xj (bC (.str "")) (bY [none,none] (iV (LJ (bV 0) (oS (bV 3)) (oS (b2 cg (bV 3) (bV 5))))) (gT [0,1]) aZ gO))) [some (dO row),some (.int n),some (.lst (M.map JU)),some (.int a),some (.int m),some (.int (z:Nat)),none,none]=some (.nx [some (dO row),some (.int n),some (.lst (M.map JU)),some (.int a),some (.int m),some (.int (z:Nat)),some (.str J),none]):=by
  unfold dO
  simp[TH,OB,RF,Pl,hj,hJ,fK]
 have e1:((a:Int)+(z:Int)) - 1=((a+z - 1:Nat):Int):=by omega
 have hml:(M.map JU).length < 1000000:=by rw[ac];omega
 have s9:aG (bM eV 2 (cB (ak Bl (ak (gn (b2 FI (b2 FI (bV 0) (b2 OQ (bV 3) (Fh 1))) (Fh 1)) (b2 eqQ (b2 cU (b2 fH (bV 4) (Fh 72)) (Fh 2)) (Fh 1))) aB)))) HV [some (dO row),some (.int n),some (.lst (M.map JU)),some (.int ((a:Int)+(z:Int))),some (.int m),some (.int (z:Nat)),some (.str J),some (.lst e7)]=some (.nx [some (dO row),some (.int n),some (.lst ((M++[(ps,g.2&&decide (m / 72 % 2=1))]).map JU)),some (.int ((a+z:Nat):Int)),some (.int m),some (.int (z:Nat)),some (.str J),some (.lst e7)]):=by
  have e2:(M++[(ps,g.2&&decide (m / 72 % 2=1))]).map JU=M.map JU++[.tup [.tup (ps.map .str),.bl (g.2&&decide (m / 72 % 2=1))]]:=by simp[JU]
  rw[e2]
  obtain⟨g1,g2⟩:=g
  unfold dO at hA2 ⊢
  generalize row.map P8=RV,M.map JU=MV at *
  have hat2:F1 RV ((a+z - 1:Nat):Int)=some (.tup [.str g1,.bl g2]):=hat
  cases g2 <;> simp[hA2,e1,hat2,hml]
 unfold d7
 refine(bG (by simp[h1,s11];rfl)).trans ?_
 refine(bG (by rw[HW,hz];rfl)).trans ?_
 refine(bG s3).trans ?_
 refine(bG (by simp;rfl)).trans ?_
 unfold u5 at hA1
 rw[ZR hA1]
 exact s9
theorem G3:∀(k a:Nat) (M:rg),row.length - a < k->a<=row.length->M.length<=a->fL M->∃M':List Slot,fL M'/\M'.length<=row.length/\(a < row.length\/M≠[]->M'≠[]) /\
  jy cJ [4,5,6,7] d7 k [some (dO row),some (.int n),some (.lst (M.map JU)),some (.int a),none,none,none,none]=some (.nx [some (dO row),some (.int n),some (.lst (M'.map JU)),some (.int row.length),none,none,none,none])
 | 0,a,M,h,_,_,_=>by omega
 | k+1,a,M,h,hle,hM,ok=>by
  have hlen:(row.map P8).length=row.length:=ac _
  by_cases ha:a < row.length
  ·obtain⟨s,z,p1,p2,p3,e4,e5,e6,e7,hb⟩:=QW hr hN (n:=n) ha hM
   have hc:cJ [some (dO row),some (.int n),some (.lst (M.map JU)),some (.int a),none,none,none,none]=some true:=by
    have:(a:Int) < (row.length:Int):=by omega
    simp[cJ,dO,ha]
   obtain⟨M',g1,g2,g3,g4⟩:=G3 k (a+z) (M++[s]) (by omega) p3 (by simp;omega) (λx hx=>by
    rcases bv.mp hx with q | q
    ·exact ok x q
    ·rw[av.mp q];exact p1)
   exact⟨M',g1,g2,λ_=>g3 (.inr (by simp)),by rw[zU hc hb];exact g4⟩
  ·have he:a=row.length:=by omega
   have hc:cJ [some (dO row),some (.int n),some (.lst (M.map JU)),some (.int a),none,none,none,none]=some false:=by
    simp[cJ,dO,ha]
   refine⟨M,ok,by omega,λz=>z.elim (λz=>absurd z ha) id,?_⟩
   rw[uV hc,he]
theorem J5:∃m:List Slot,fL m/\m.length<=row.length/\(row≠[]->m≠[])/\iW [dO row,.int n]=some (mP m):=by
 obtain⟨m,g1,g2,g3,g4⟩:=G3 hr hN (n:=n) 1000000 0 [] (by omega) (by omega) (by simp) (λs hs=>by cases hs)
 refine⟨m,g1,g2,λh=>g3 (.inl (eL.mpr h)),?_⟩
 unfold mP
 simp only[cp] at g4
 have g5:jy cJ [4,5,6,7] d7 1000000 [some (dO row),some (.int n),some (.lst []),some (.int 0),none,none,none,none]=_:=g4
 generalize dO row=RV at *
 simp[iW,rm,Kk,g5]
end
theorem Xu {P:Str->Prop}(hC:∀t∈C,∀c∈t,P c.1){v:Vl}(h:v∈allM C):∀w∈v.2,P w:=by
 have gen:∀(C:List Ch) (F:List Vl),(∀t∈C,∀c∈t,P c.1)->(∀u∈F,∀w∈u.2,P w)->∀v∈C.foldl gU F,∀w∈v.2,P w:=by
  intro C
  induction C with
  | nil=>intro F _ hF v hv;exact hF v hv
  | cons t C ih=>
   intro F hC hF v hv
   refine ih (gU F t) (λs hs=>hC s (ah _ hs)) (λu hu w hw=>?_) v hv
   obtain⟨x,hx,c,hc,rfl⟩:=IZ.mp hu
   rcases bv.mp hw with z | z
   ·exact hF x hx w z
   ·rw[av.mp z];exact hC t am c hc
 exact gen C [(0,[])] hC (λu hu=>by rw[av.mp hu];simp) v h
theorem Uq (hC:∀t∈C,t≠[]):allM C≠[]:=by
 have gen:∀(C:List Ch) (F:List Vl),(∀t∈C,t≠[])->F≠[]->C.foldl gU F≠[]:=by
  intro C
  induction C with
  | nil=>intro F _ hF;exact hF
  | cons t C ih=>
   intro F hC hF
   refine ih (gU F t) (λs hs=>hC s (ah _ hs)) ?_
   obtain⟨u,hu⟩:=mB _ hF
   obtain⟨c,hc⟩:=mB _ (hC t am)
   exact List.ne_nil_of_mem (IZ.mpr ⟨u,hu,c,hc,rfl⟩)
 exact gen C [(0,[])] hC (by simp)
theorem QX (S:qr)(es:List Bool):(j7 S es).length<=S.length:=by
 unfold j7
 have h:∀l:List (Nat×Bool),(l.flatMap λy=>if y.1=3 then [] else [((jW y.1,y.2):Sg)]).length<=l.length:=by
  intro l
  induction l with
  | nil=>simp
  | cons y l ih=>
   rw[g9,a9,bg]
   split <;> simp at ih ⊢ <;> omega
 have:=h (S.zip es)
 rw[lP] at this
 omega
theorem Ur {S:qr}{es:List Bool}:∀e∈j7 S es,yS e.1:=λe he=>by
 unfold j7 at he
 obtain⟨y,_,hy⟩:=ga.mp he
 split at hy
 ·cases hy
 ·rw[av.mp hy]
  unfold yS jW
  dsimp only
  split
  ·exact .inl rfl
  ·exact .inr rfl
theorem Jd {s:Nat}(h3:s≠3):∀{S:qr}{es:List Bool},S.length=es.length->s∈S->j7 S es≠[]
 | [],_,_,h=>by cases h
 | x::S,e::es,hl,h=>by
  unfold j7
  rw[mx,g9]
  rcases aI.mp h with q | q
  ·subst q
   simp[h3]
  ·have ih:=Jd h3 (S:=S) (es:=es) (by simpa using hl) q
   unfold j7 at ih
   exact λz=>ih (List.append_eq_nil_iff.mp z).2
 | x::S,[],hl,_=>by simp at hl
theorem Je:∀{X:List (List Nat)}{S:qr}{o:qr},Sel S (X++[o])->∃s∈S,s∈o
 | [],[s],o,h=>⟨s,by simp,h.1⟩
 | [],s::s2::S,o,h=>by exact h.2.elim
 | x::X,s::S,o,h=>by
  obtain⟨y,h1,h2⟩:=Je (X:=X) (S:=S) (o:=o) h.2
  exact⟨y,ah _ h1,h2⟩
section
variable {R:Rc}{cut:List (List Str)}{ini:Str->List (List Nat)}{la:Str->Option Str->List Nat}(D:Wds R cut ini la)
theorem Jf:∀{ws:qE},ws≠[]->∃X,∃w∈ws,(gr ini la ws).flatten=X++[la w none]
 | [w],_=>⟨ini w,w,by simp,by simp[gr]⟩
 | w::w2::r,_=>by
  obtain⟨X,x,hx,e⟩:=Jf (ws:=w2::r) (by simp)
  refine⟨(ini w++[la w (some w2)])++X,x,ah _ hx,?_⟩
  rw[gr,cS,e]
  simp
include D
theorem QZ (hw:∀w∈ws,F2 R w)(hl:ws.length<=30)(HL:ws≠[])(n:Int):∃row:List Sg,nH [.obj 0 (aF cut),.lst (ws.map .str),.int n]=some (dO row)/\(∀e∈row,yS e.1)/\row.length<=24*ws.length/\row≠[]:=by
 have h1:=GX D hw (by omega)
 obtain⟨ok,hf⟩:=J3 D hw
 obtain⟨X,w,hwm,hX⟩:=Jf (ini:=ini) (la:=la) HL
 have hg:=J2 (ini:=ini) (la:=la) ws
 generalize gr ini la ws=g at *
 obtain⟨m,h2,hm0⟩:=QM (g:=g) (by omega) ok
 obtain⟨S,h3,hS⟩:=Uk (g:=g) (by omega) ok (n % m)
 have h4:=T7 hg (Nt hS ok) (by omega)
 have hsl:=Bj hS
 refine⟨j7 S (dm g),?_,Ur,by have:=QX S (dm g);omega,?_⟩
 ·generalize dO (j7 S (dm g))=RQ,MZ g=GP,cj S=SP at *
  simp[nH,ww,h1,h2,h3,h4,hm0]
 ·rw[hX] at hS
  obtain⟨s,q1,q2⟩:=Je hS
  exact Jd (λz=>D.n3 (hw w hwm) (by rw[← z];exact q2)) (by rw[pQ,hsl]) q1
variable {m:rg}(hm:fL m)(hl:m.length < 100)
def Rd (ini:Str->List (List Nat))(la:Str->Option Str->List Nat)(m:rg)(v:Vl):Prop:=Run m (gR ini la v.2 none) OW (m.length,0,0)
include hm hl
theorem Jg (hw:∀w∈ws,F2 R w)(RU:ws.length<=30):∃g k,fO [.obj 0 (aF cut),.lst (ws.map .str)]=some g/\di [g,mP m]=some (.int k)/\(0 < k↔Run m (gR ini la ws none) OW (m.length,0,0)):=by
 obtain⟨ok,hf⟩:=J3 D hw
 obtain⟨k,h1,h2⟩:=QJ hm hl (J2 (ini:=ini) (la:=la) ws) (λo ho=>(ok o ho).1) (by omega)
 rw[Nr] at h2
 exact⟨_,k,GX D hw (by omega),h1,h2⟩
noncomputable def duV:Option Int->PV
 | none=>.FE
 | some p=>.int p
def G4 (ini:Str->List (List Nat))(la:Str->Option Str->List Nat)(m:rg)(F:List Vl)(d:Option Int):Prop:=(∀p,d=some p->∃v∈F,v.1=p/\Rd ini la m v)/\∀v∈F,Rd ini la m v->∃p,d=some p/\p<=v.1
theorem Q0 {S0 W OV RV N TG:PV}{F:List Vl}(hF:∀v∈F,(∀w∈v.2,F2 R w)/\v.2.length<=30):
  ∃d,G4 ini la m F d/\bB (gT [9,10]) [9,10] jT (F.map rP) [some S0,some (.obj 0 (aF cut)),some W,some OV,some RV,some N,some TG,some (mP m),some .FE,none,none,none,none]=some (.nx [some S0,some (.obj 0 (aF cut)),some W,some OV,some RV,some N,some TG,some (mP m),some (duV d),none,none,none,none]):=by
 obtain⟨d,⟨q,e1,e2,e3⟩,h⟩:=bN (g:=gT [9,10]) (ds:=[9,10]) (body:=jT) rP (λd:Option Int=>[some S0,some (.obj 0 (aF cut)),some W,some OV,some RV,some N,some TG,some (mP m),some (duV d),none,none,none,none])
  (λr d=>∃q,F=q++r/\G4 ini la m q d)
  (by
   rintro v r d ⟨q,e1,e2,e3⟩
   have hv:=hF v (by rw[e1];simp)
   obtain⟨g,k,h1,h2,h3⟩:=Jg D hm hl hv.1 hv.2
   have HL:∀d:Option Int,G4 ini la m q d->(¬ Rd ini la m v\/∃p,d=some p/\p<=v.1)->G4 ini la m (q++[v]) d:=λd ⟨e2,e3⟩ hz=>
    ⟨λp e=>by obtain⟨u,hu,k⟩:=e2 p e;exact⟨u,by simp[hu],k⟩,λu hu hr=>by
     rcases bv.mp hu with z | z
     ·exact e3 u z hr
     ·rw[av.mp z] at hr ⊢
      exact hz.resolve_left λn=>n hr⟩
   generalize mP m=MM at *
   unfold rP
   generalize v.2.map PV.str=VS at *
   by_cases hc:0 < k
   ·have hrd:Rd ini la m v:=h3.mp hc
    have new:(∀p,d=some p->v.1<=p)->G4 ini la m (q++[v]) (some v.1):=λhd=>
     ⟨λp e=>⟨v,by simp,by cases e;exact⟨rfl,hrd⟩⟩,λu hu hr=>⟨v.1,rfl,by
      rcases bv.mp hu with z | z
      ·obtain⟨p,e,le⟩:=e3 u z hr
       have:=hd p e
       omega
      ·rw[av.mp z];exact fq _⟩⟩
    cases d with
    | none=>exact⟨some v.1,⟨q++[v],by rw[e1];simp,new (λp e=>by cases e)⟩,by simp[aX,jT,duV,h1,h2,hc]⟩
    | some p=>
     by_cases hp:v.1 < p
     ·exact⟨some v.1,⟨q++[v],by rw[e1];simp,new (λp' e=>by cases e;omega)⟩,by simp[aX,jT,duV,h1,h2,hc,hp]⟩
     ·exact⟨some p,⟨q++[v],by rw[e1];simp,HL _ ⟨e2,e3⟩ (.inr ⟨p,rfl,by omega⟩)⟩,by simp[aX,jT,duV,h1,h2,hc,hp]⟩
   ·refine⟨d,⟨q++[v],by rw[e1];simp,HL _ ⟨e2,e3⟩ (.inl λz=>hc (h3.mpr z))⟩,?_⟩
    cases d with
    | none=>simp[aX,jT,duV,h1,h2,hc]
    | some p=>by_cases hp:v.1 < p <;> simp[aX,jT,duV,h1,h2,hc,hp])
  F none ⟨[],rfl,⟨λp e=>(by cases e),λv hv=>(by cases hv)⟩⟩
 rw[bp] at e1
 subst e1
 exact⟨d,⟨e2,e3⟩,h⟩
end
theorem Q3 {α:Type}(f:α->PV)(l:List α)(a b:Nat):dY (l.map f) (some (a:Int)) (some ((a:Int)+(b:Int)))=((l.drop a).take b).map f:=by
 unfold dY
 have e:(a:Int)+(b:Int)=((a+b:Nat):Int):=rfl
 rw[e,HT.GA,HT.GA,ac,← List.map_drop,← List.map_take]
 congr 1
 by_cases h:a<=l.length
 ·rw[gE h]
  rw[ox,dA,← Nat.sub_min_sub_right,Nat.add_sub_cancel_left,Nat.min_assoc,Nat.min_self]
 ·have h1:l.drop a=[]:=eg (by omega)
  have h2:l.drop (min a l.length)=[]:=eg (by omega)
  rw[h1,h2]
  simp
theorem tE (ns:qS)(k:Nat):bO [.frz (ns.map PV.int),.int k]=some (.int (cell ns k)):=by
 by_cases h:k < ns.length
 ·have h1:F1 (ns.map PV.int) (k:Int)=some (.int ns[k]):=cu (by simp[h])
  simp[bO,mO,h,h1,cell]
 ·simp[bO,mO,h,cell]
theorem Q4 (n:Nat):dY [PV.int 0] (some ((n:Int) / 5)) none=(if n < 5 then [(0:Int)] else []).map PV.int:=by
 by_cases h:n < 5
 ·have e:(n:Int) / 5=0:=by omega
  rw[e,ba h]
  rfl
 ·obtain⟨k,hk⟩:∃k:Nat,(n:Int) / 5=((k+1:Nat):Int):=⟨n / 5 - 1,by omega⟩
  rw[hk,ax h]
  unfold dY
  rw[HT.GA]
  have:min (k+1) [PV.int 0].length=1:=by simp
  rw[this]
  rfl
theorem Q5 {F:List Vl}(h:∀v∈F,∀w∈v.2,KP w):∀y∈F.map rP,LB 2 y:=λy hy=>by
 obtain⟨v,hv,rfl⟩:=bn.mp hy
 simp only[LB,rP,aI,bi,c9]
 rintro x (rfl | rfl)
 ·simp[LB]
 ·simp only[LB,bn]
  rintro x ⟨w,hw,rfl⟩
  exact(h v hv w hw).ok
theorem TZ (ns:qS)(h:ns.length<=63):zR [.frz (ns.map PV.int)]=some (.bl true):=by
 have c0:bO [.frz (ns.map PV.int),.int 0]=some (.int (cell ns 0)):=tE ns 0
 have c1:bO [.frz (ns.map PV.int),.int 1]=some (.int (cell ns 1)):=tE ns 1
 have c2:bO [.frz (ns.map PV.int),.int 2]=some (.int (cell ns 2)):=tE ns 2
 have c3:bO [.frz (ns.map PV.int),.int 3]=some (.int (cell ns 3)):=tE ns 3
 have hrow:=M7 (cell ns 0)
 obtain⟨hmk,T⟩:=Xa (cell ns 0)
 have hWR:∀{w:Str},LY w->F2 (MY (bits (cell ns 0)) (kO (cell ns 0))) w:=λhw=>hw.r _ _
 generalize je (bits (cell ns 0)) (kO (cell ns 0))=cut,MY (bits (cell ns 0)) (kO (cell ns 0))=R at *
 obtain⟨ini,la,D⟩:=Xm T
 have hcs1:dY (ns.map PV.int) (some 4) (some 7)=((ns.drop 4).take 3).map PV.int:=Q3 PV.int ns 4 3
 have hcs2:=Q4 ns.length
 obtain⟨cs,hcs⟩:∃cs,cs=(ns.drop 4).take 3++(if ns.length < 5 then [(0:Int)] else []):=⟨_,rfl⟩
 have hcsl:1<=cs.length/\cs.length<=3:=by
  rw[hcs]
  by_cases q:ns.length < 5 <;> simp[q] <;> omega
 have hcsm:cs.map PV.int=((ns.drop 4).take 3).map PV.int++(if ns.length < 5 then [(0:Int)] else []).map PV.int:=by rw[hcs,bm]
 obtain⟨ws,Sf,RU,hwd⟩:=QR (cs:=cs) (by omega)
 obtain⟨O,hoth,hOl,hO⟩:=NP hwd (by omega) (cell ns 1)
 obtain⟨Lv,_⟩:=Um (O:=O) (by omega) (ws:=ws) (by omega)
 have hC:∀t∈ws.map (Ic O),∀c∈t,LY c.1:=λt ht c hc=>by
  obtain⟨w,hw,rfl⟩:=bn.mp ht
  unfold Ic at hc
  rcases aI.mp hc with z | z
  ·rw[z];exact hwd w hw
  ·obtain⟨o,ho,rfl⟩:=bn.mp z
   exact(hO o (gt.mp ho).1).2
 have hWC:WC R (ws.map (Ic O)):=λt ht=>⟨by
  obtain⟨w,hw,rfl⟩:=bn.mp ht
  unfold Ic
  have:=gl (λo:Ot=>decide (o.1=w)) O
  simp
  omega,λc hc=>hWR (hC t ht c hc)⟩
 have hCl:(ws.map (Ic O)).length=ws.length:=ac _
 have HL:=Uq (C:=ws.map (Ic O)) (λt ht=>by
  obtain⟨w,hw,rfl⟩:=bn.mp ht
  simp[Ic])
 have hF:∀v∈allM (ws.map (Ic O)),(∀w∈v.2,LY w):=λv hv=>Xu hC hv
 have hF2:∀v∈allM (ws.map (Ic O)),v.2.length=ws.length:=λv hv=>by rw[← hCl];exact yQ hv
 have hchW:=Nv T (O:=O) (by omega) (λw hw=>hWR (hwd w hw)) (by omega)
 have hch0:=Nv T (O:=O) (by omega) (ws:=[]) (λw hw=>by cases hw) (by simp)
 obtain⟨v0,hv0,hat⟩:∃v∈allM (ws.map (Ic O)),F1 ((allM (ws.map (Ic O))).map rP) (cell ns 2 / 5 % ((allM (ws.map (Ic O))).length:Int))=some (rP v):=by
  have h0:=eL.mpr HL
  generalize allM (ws.map (Ic O))=F at *
  have h1:0<=cell ns 2 / 5 % (F.length:Int):=Int.emod_nonneg _ (by omega)
  have h2:cell ns 2 / 5 % (F.length:Int) < F.length:=Int.emod_lt_of_pos _ (by omega)
  have h3:(cell ns 2 / 5 % (F.length:Int)).toNat < F.length:=by omega
  refine⟨F[(cell ns 2 / 5 % (F.length:Int)).toNat],e9 _,?_⟩
  rw[Az,Ay h1 h2,aT h3]
  rfl
 obtain⟨tk,htk,htk1,htk3⟩:∃t:Nat,1+cell ns 2 / 5 % 3=(t:Int)/\1<=t/\t<=3:=⟨(1+cell ns 2 / 5 % 3).toNat,by omega,by omega,by omega⟩
 obtain⟨lw,hlw⟩:=Rt
 have ht4:bJ [none,some (.int (cell ns 2))] (gN 0) aZ yF (cH 0 (tk:Int))=some (((List.range tk).map λk:Nat=>lw (mixed (cell ns 2) (31+(k:Int)))).map .str):=by
  rw[jM,bP]
  refine bI _ _ _ λk hk=>⟨[some (.int (k:Nat)),some (.int (cell ns 2))],rfl,?_⟩
  have hk':=cq.mp hk
  have h1:=rK (cell ns 2) (31+(k:Int)) (dW (by omega) (by omega))
  have h2:=(hlw (mixed (cell ns 2) (31+(k:Int)))).1
  simp[yF,h1,h2]
 have Ya:N1 (tk:Int)=true:=rH (by omega)
 have ht3:(cH 0 (tk:Int)).length<=1000000:=by rw[rG];omega
 obtain⟨tg,htg,htgn,htgl,ht7,ht8⟩:∃tg:List Str,(∀w∈tg,LY w)/\tg≠[]/\tg.length<=3/\(cell ns 2 % 5=1->((List.range tk).map λk:Nat=>lw (mixed (cell ns 2) (31+(k:Int)))).map PV.str=tg.map .str)/\(¬ cell ns 2 % 5=1->v0.2.map PV.str=tg.map .str):=by
  by_cases q:cell ns 2 % 5=1
  ·refine⟨(List.range tk).map λk:Nat=>lw (mixed (cell ns 2) (31+(k:Int))),λw hw=>?_,?_,by simp;omega,λ_=>rfl,λz=>absurd q z⟩
   ·obtain⟨k,_,rfl⟩:=bn.mp hw
    exact(hlw _).2
   ·refine mE ?_
    simp
    omega
  ·have:=hF2 v0 hv0
   exact⟨v0.2,hF v0 hv0,mE (by omega),by omega,λz=>absurd z q,λ_=>rfl⟩
 obtain⟨row,hsaid,hmk1,hrl,hrn⟩:=QZ D (λw hw=>hWR (htg w hw)) (by omega) htgn (cell ns 3)
 obtain⟨m,hm,hml,hmn,hmet⟩:=J5 hmk1 (by omega) (n:=cell ns 2)
 have hm0:=hmn hrn
 have hl:m.length < 100:=by omega
 obtain⟨d,⟨hd1,hd2⟩,hdl⟩:=Q0 D hm hl (S0:=.frz (ns.map PV.int)) (W:=.lst (ws.map .str)) (OV:=.lst (O.map oP)) (RV:=.lst ((allM (ws.map (Ic O))).map rP)) (N:=.int (cell ns 2)) (TG:=.lst (tg.map .str)) (F:=allM (ws.map (Ic O))) (λv hv=>⟨λw hw=>hWR (hF v hv w hw),by have:=hF2 v hv;omega⟩)
 obtain⟨r,hmnd,hr1,hr2⟩:=Nz D hm hl hWC (by omega) hchW
 obtain⟨r0,hmnd0,hr0,_⟩:=Nz D hm hl (C:=[]) (λt ht=>by cases ht) (by simp) hch0
 have hr0n:r0=none:=by
  cases r0 with
  | none=>rfl
  | some v=>
   obtain⟨a1,a2⟩:=hr0 v rfl
   simp[allM] at a1
   subst a1
   simp only[gR,Run] at a2
   cases m with
   | nil=>exact absurd rfl hm0
   | cons s m=>simp at a2
 subst hr0n
 simp only[cp] at hmnd0
 have heq:OR (.lst [.lst (ws.map .str),.lst (O.map oP)]) (.lst [.lst (ws.map .str),.lst (O.map oP)])=some true:=FW (n:=4) (by
  simp only[LB,aI,bi,c9]
  rintro x (rfl | rfl)
  ·simp only[LB,bn]
   rintro x ⟨w,hw,rfl⟩
   exact(hwd w hw).t.ok
  ·simp only[LB,bn]
   rintro x ⟨o,ho,rfl⟩
   simp only[LB,oP,aI,bi,c9]
   rintro x (rfl | rfl | rfl)
   ·exact(hO o ho).1.ok
   ·exact(hO o ho).2.t.ok
   ·simp[LB]) (by decide)
 have hfin:(r=none/\d=none)\/∃v∈allM (ws.map (Ic O)),r=some v/\d=some v.1/\Rd ini la m v:=by
  cases r with
  | none=>
   refine .inl ⟨rfl,?_⟩
   cases d with
   | none=>rfl
   | some p=>
    obtain⟨v,hv,_,hr⟩:=hd1 p rfl
    obtain⟨u,e,_⟩:=hr2 v ⟨hv,hr⟩
    cases e
  | some v=>
   obtain⟨a1,a2⟩:=hr1 v rfl
   obtain⟨p,e,le⟩:=hd2 v a1 a2
   obtain⟨u,hu,e2,hr⟩:=hd1 p e
   obtain⟨x,e3,le2⟩:=hr2 u ⟨hu,hr⟩
   cases e3
   refine .inr ⟨v,a1,rfl,?_,a2⟩
   rw[e]
   congr 1
   omega
 have hin:∀v∈allM (ws.map (Ic O)),N0 (rP v) (.lst ((allM (ws.map (Ic O))).map rP))=some true:=λv hv=>Uo (bn.mpr ⟨v,hv,rfl⟩) (Q5 λu hu w hw=>(hF u hu w hw).t) (by decide) rfl
 have hrd:∀v∈allM (ws.map (Ic O)),Rd ini la m v->∃g k,fO [.obj 0 (aF cut),.lst (v.2.map .str)]=some g/\di [g,mP m]=some (.int k)/\0 < k:=λv hv hr=>by
  obtain⟨g,k,q1,q2,q3⟩:=Jg D hm hl (λw hw=>hWR (hF v hv w hw)) (by have:=hF2 v hv;omega)
  exact⟨g,k,q1,q2,q3.mpr hr⟩
 have hfl:((allM (ws.map (Ic O))).map rP).length=(allM (ws.map (Ic O))).length:=ac _
 have hfp:0 < (allM (ws.map (Ic O))).length:=eL.mpr HL
 have hnl:(ns.map PV.int).length=ns.length:=ac _
 have RF:(((ns.drop 4).take 3).map PV.int).length+((if ns.length < 5 then [(0:Int)] else []).map PV.int).length<=1000000:=by rw[← a9,← hcsm,ac];omega
 rw[hcsm] at Sf
 clear hcs hcsm hcsl hr0 hr1 hr2 hd1 hd2 hch0 hchW hWC hC
 generalize hB1:((ns.drop 4).take 3).map PV.int=B1,hB2:(if ns.length < 5 then [(0:Int)] else []).map PV.int=B2,((List.range tk).map λk:Nat=>lw (mixed (cell ns 2) (31+(k:Int)))).map PV.str=T1 at *
 obtain⟨T0,hT0⟩:∃T0,T0=v0.2.map PV.str:=⟨_,rfl⟩
 have hat2:F1 ((allM (ws.map (Ic O))).map rP) (cell ns 2 / 5 % ((allM (ws.map (Ic O))).length:Int))=some (.tup [.int v0.1,.lst T0]):=by rw[hT0];exact hat
 rw[← hT0] at ht8
 clear hat hT0
 generalize hFl:(allM (ws.map (Ic O))).length=fl,hFV:(allM (ws.map (Ic O))).map rP=FV,tg.map PV.str=TV,O.map oP=OV,ws.map PV.str=WV,ns.map PV.int=NV,mP m=MM,cell ns 2=n,dO row=RQ at *
 have hat:=hat2
 have e0:Gg [some (.frz NV),none,none,none,none,none,none,none,none,none,none,none,none]=some (.rt (.bl true)):=by
  unfold Gg
  refine(bG (by simp[c0,hrow,hmk];rfl)).trans ?_
  refine(bG (by simp[hcs1,hnl,hcs2,RF,Sf];rfl)).trans ?_
  refine(bG (by simp[c1,hoth];rfl)).trans ?_
  refine(bG (by simp[Lv];rfl)).trans ?_
  refine(bG (by simp[c2];rfl)).trans ?_
  refine(bG (by simp[hfl,hfp,hat];rfl)).trans ?_
  refine(bG (e:=[some (.frz NV),some (.obj 0 (aF cut)),some (.lst WV),some (.lst OV),some (.lst FV),some (.int n),some (.lst TV),none,none,none,none,none,none]) (by
   by_cases q:n % 5=1
   ·simp[q,htk,Ya,ht3,ht4,ht7 q,fK]
   ·simp[q,ht8 q])).trans ?_
  refine(bG (by simp[c3,hsaid,hmet];rfl)).trans ?_
  refine(bG (by simp;rfl)).trans ?_
  refine(bG (by simp[PU,hdl];rfl)).trans ?_
  refine(bG (by simp;rfl)).trans ?_
  refine(bG (by simp[hmnd];rfl)).trans ?_
  refine(bG (by simp[heq,hmnd0,vR];rfl)).trans ?_
  rcases hfin with ⟨rfl,rfl⟩ | ⟨v,hv,rfl,rfl,hr⟩
  ·rfl
  ·obtain⟨g,k,q1,q2,q3⟩:=hrd v hv hr
   have q4:=hin v hv
   unfold rP at q4
   simp only[vR,duV]
   generalize v.2.map PV.str=VS at *
   have q5:List.lookup "int" [("bool",true),("int",false)]=some false:=rfl
   simp[IX,KA,q1,q2,q3,q4,q5]
 simp[zR,e0]
noncomputable def top (i:Nat):Stmt:=PySem.Challenge.pw_lilt_k51_least_mendings.main.body.getD i (.Pass ⟨0,0,0,0⟩)
abbrev p_:=top 24
abbrev u6:=top 25
abbrev rM:=top 26
abbrev tX:=top 16
abbrev j8:=top 17
abbrev rN:=top 18
abbrev nR:=top 19
abbrev wG:=top 20
abbrev fG:=top 22
abbrev nU:=top 21
abbrev pU:=top 23
abbrev dj:=inClass (top 27) 0
abbrev tY:=top 69
abbrev rO:=top 67
abbrev nY:=top 70
abbrev qb:=top 71
abbrev j9:=top 72
abbrev u9:=top 74
abbrev oY:=top 66
abbrev jH:=top 73
abbrev kY:=inClass (top 27) 1
abbrev pW:=top 30
abbrev lV:=top 31
abbrev nZ:=top 55
abbrev h_:=top 56
abbrev tZ:=top 6
abbrev kZ:=inClass (top 27) 2
abbrev u_:=top 32
abbrev lJ:=top 33
abbrev wH:=top 34
abbrev lW:=inClass (top 27) 4
abbrev lX:=inClass (top 27) 3
abbrev wI:=top 35
abbrev oZ:=top 36
abbrev lY:=inClass (top 27) 5
abbrev wJ:=top 37
abbrev qd:=inClass (top 27) 6
abbrev t6:=top 38
abbrev n_:=top 39
abbrev pD:=top 50
abbrev Bo:=top 58
abbrev yU:=top 59
abbrev pG:=top 7
abbrev o7:=top 9
abbrev rQ:=top 8
abbrev vd:=top 10
abbrev qK:=top 48
abbrev t7:=top 49
abbrev jf:=top 57
abbrev t_:=top 63
abbrev vf:=top 61
abbrev wK:=top 60
abbrev j_:=top 62
abbrev G5:=top 64
abbrev uc:=top 68
abbrev qL:=top 41
abbrev wL:=top 43
abbrev tG:=top 46
abbrev rR:=top 42
abbrev ud:=top 45
abbrev o8:=top 44
abbrev ue:=top 75
abbrev o9:=top 51
abbrev jg:=top 52
abbrev oh:=top 53
abbrev vg:=top 76
abbrev Ru:List Str:=["carrying","pairs","row","kind","words","carriers"]
abbrev J6:List Str:=["self","rows","cut","at","row"]
noncomputable section
structure FR where
 k:Nat
 x:Str
 ps:List Str
 m:List PV->Option PV
 st:Stmt
abbrev x8:FR:=⟨1, "told_behind",["kind","rows"],bx,p_⟩
abbrev xh:FR:=⟨1, "last_run",["rows"],lr,u6⟩
abbrev x6:FR:=⟨1, "told_alike",["rows"],ji,rM⟩
abbrev sM:FR:=⟨1, "is_letter",["text"],iu,tX⟩
abbrev uk:FR:=⟨2, "is_carry_row",["row"],eO,j8⟩
abbrev xa:FR:=⟨1, "is_pair_of",["carrying","word"],lC,rN⟩
abbrev uS:FR:=⟨2, "is_one_row",["carrying","row"],gF,nR⟩
abbrev u4:FR:=⟨2, "is_stop",["carrying","text"],mK,wG⟩
abbrev wr:FR:=⟨3, "are_alike_units",["carrying","carriers","words"],gM,fG⟩
abbrev w9:FR:=⟨3, "is_cluster",["carrying","word"],lD,nU⟩
abbrev xb:FR:=⟨4, "is_rule",["carrying","pairs","row"],qw,pU⟩
abbrev sF:FR:=⟨1, "_law_word",["_law_n"],f9,tY⟩
abbrev sm:FR:=⟨1, "_law_mixed",["_law_cell","_law_k"],dG,rO⟩
abbrev wq:FR:=⟨2, "_law_words",["_law_cells"],lE,nY⟩
abbrev wn:FR:=⟨2, "_law_others",["_law_words_here","_law_n","_law_most"],iG,qb⟩
abbrev wf:FR:=⟨1, "_law_choices",["_law_word_here","_law_others_here"],jA,j9⟩
abbrev wd:FR:=⟨2, "_law_all",["_law_words_here","_law_others_here"],pq,u9⟩
abbrev we:FR:=⟨1, "_law_cell_at",["_law_script","_law_k"],bO,oY⟩
abbrev wm:FR:=⟨2, "_law_metre_of",["_law_row","_law_n"],iW,jH⟩
abbrev xc:FR:=⟨2, "is_word",["tongue","thing"],qz,pW⟩
abbrev sQ:FR:=⟨3, "refuse_no_word",["tongue","thing"],bL,lV⟩
abbrev wE:FR:=⟨1, "choices_of",["word","others"],jk,nZ⟩
abbrev wx:FR:=⟨4, "choices_by_word",["tongue","words","others"],d8,h_⟩
abbrev sL:FR:=⟨1, "end_state",["metre"],c7,tZ⟩
abbrev x9:FR:=⟨4, "units_of",["tongue","word"],lu,u_⟩
abbrev wv:FR:=⟨2, "carriers_of",["tongue","units"],iH,lJ⟩
abbrev w8:FR:=⟨2, "gaps_of",["tongue","units"],mX,wH⟩
abbrev xI:FR:=⟨2, "staying",["tongue","stops"],mY,wI⟩
abbrev x5:FR:=⟨5, "syllables_of",["tongue","word"],du,oZ⟩
abbrev xi:FR:=⟨3, "last_ways",["tongue","carrier","tail"],d_,t6⟩
abbrev sP:FR:=⟨6, "options_of",["tongue","word","follow"],bH,n_⟩
abbrev vb:FR:=⟨1, "walked_by",["steps","option","ends","states"],eE,pD⟩
abbrev u8:FR:=⟨2, "moved",["steps","values","options","ends"],rA,Bo⟩
abbrev u7:FR:=⟨7, "joined",["tongue","steps","words","layer","follow"],jP,yU⟩
abbrev xE:FR:=⟨1, "states_of",["metre"],m8,pG⟩
abbrev xD:FR:=⟨1, "state_behind",["metre","state","ends"],gP,o7⟩
abbrev xC:FR:=⟨1, "stands_for",["sign","mark"],jl,rQ⟩
abbrev xz:FR:=⟨2, "moves_of",["metre","state","mark","ends"],gY,vd⟩
abbrev xS:FR:=⟨3, "steps_by",["metre","mark","ends"],fM,qK⟩
abbrev sK:FR:=⟨4, "all_steps",["metre"],iM,t7⟩
abbrev vc:FR:=⟨1, "words_by_layer",["choices"],fC,jf⟩
abbrev xl:FR:=⟨8, "least_end",["tongue","metre","choices","layer"],m_,t_⟩
abbrev wP:FR:=⟨1, "chosen",["values","word","price"],pN,vf⟩
abbrev xL:FR:=⟨8, "stepped",["tongue","steps","words","layer","word"],nj,wK⟩
abbrev xo:FR:=⟨9, "least_layers",["tongue","metre","choices"],jD,j_⟩
abbrev xw:FR:=⟨10, "mend",["tongue","words","metre","others"],qM,G5⟩
abbrev va:FR:=⟨7, "table_of",["tongue","words"],fO,qL⟩
abbrev uj:FR:=⟨1, "ends_in",["table"],j5,wL⟩
abbrev xA:FR:=⟨2, "said_of",["table","saying"],qH,tG⟩
abbrev sN:FR:=⟨1, "options_in",["table"],gJ,rR⟩
abbrev xB:FR:=⟨2, "saying_at",["table","number"],nF,ud⟩
abbrev xt:FR:=⟨2, "many_sayings",["table"],jE,o8⟩
abbrev wo:FR:=⟨8, "_law_said",["_law_tongue","_law_words_here","_law_n"],nH,ue⟩
abbrev wS:FR:=⟨2, "counts_ahead",["steps","options","ends","behind"],jF,o9⟩
abbrev wT:FR:=⟨5, "counts_by_syllable",["table","metre"],eU,jg⟩
abbrev xp:FR:=⟨6, "many_readings",["table","metre"],di,oh⟩
abbrev zw:FR:=⟨11, "law",["_law_script"],zR,vg⟩
theorem yA:Fs ["kind","rows","told","row","word"] x8.ps (aA p_):=GN
theorem yk:Fs ["rows","told","row"] xh.ps (aA u6):=GN
theorem As:Fs ["rows","told","row"] x6.ps (aA rM):=GN
theorem G6:Fs ["text"] sM.ps (aA tX):=GN
theorem zY:Fs ["row"] uk.ps (aA j8):=GN
theorem Do:Fs ["carrying","word"] xa.ps (aA rN):=GN
theorem Dp:Fs ["carrying","row"] uS.ps (aA nR):=GN
theorem J7:Fs ["carrying","text"] u4.ps (aA wG):=GN
theorem wM:Fs ["carrying","carriers","words"] wr.ps (aA fG):=GN
theorem Dq:Fs ["carrying","word"] w9.ps (aA nU):=GN
theorem yi:Fs ["carrying","pairs","row","kind","words","carriers"] xb.ps (aA pU):=GN
theorem F3:Fs ["self","rows","cut","at","row"] ["self","rows"] (aA dj):=GN
theorem ve:Fs ["_law_n","_law_word_here","_law_k"] sF.ps (aA tY):=GN
theorem Dr:Fs ["_law_cell","_law_k"] sm.ps (aA rO):=GN
theorem Ds:Fs ["_law_cells"] wq.ps (aA nY):=GN
theorem sR:Fs ["_law_words_here","_law_n","_law_most","_law_others_here","_law_k","_law_j","_law_m","_law_price"] wn.ps (aA qb):=GN
theorem zZ:Fs ["_law_word_here","_law_others_here"] wf.ps (aA j9):=GN
theorem r6:Fs ["_law_words_here","_law_others_here","_law_found","_law_word_here","_law_more","_law_price","_law_row","_law_other","_law_cost"] wd.ps (aA u9):=GN
theorem z7:Fs ["_law_script","_law_k"] we.ps (aA oY):=GN
theorem sd:Fs ["_law_row","_law_n","_law_metre","_law_at","_law_m","_law_size","_law_marks","_law_patterns"] wm.ps (aA jH):=GN
theorem wN:Fs ["self","letter"] ["self","letter"] (aA kY):=GN
theorem J8:Fs ["tongue","thing"] xc.ps (aA pW):=GN
theorem xT:Fs ["tongue","thing"] sQ.ps (aA lV):=GN
theorem Du:Fs ["word","others"] wE.ps (aA nZ):=GN
theorem AO:Fs ["tongue","words","others","word"] wx.ps (aA h_):=GN
theorem G7:Fs ["metre"] sL.ps (aA tZ):=GN
theorem wO:Fs ["self","pair"] ["self","pair"] (aA kZ):=GN
theorem vn:Fs ["tongue","word","units","at","size"] x9.ps (aA u_):=GN
theorem Bp:Fs ["tongue","units"] wv.ps (aA lJ):=GN
theorem zD:Fs ["tongue","units","gaps","unit"] w8.ps (aA wH):=GN
theorem xU:Fs ["self","cluster"] ["self","cluster"] (aA lW):=GN
theorem xV:Fs ["self","cluster"] ["self","cluster"] (aA lX):=GN
theorem AR:Fs ["tongue","stops","start"] xI.ps (aA wI):=GN
theorem rV:Fs ["tongue","word","units","carriers","gaps","syllables","head","carrier","stops","tail"] x5.ps (aA oZ):=GN
theorem xW:Fs ["self","carrier"] ["self","carrier"] (aA lY):=GN
theorem At:Fs ["tongue","carrier","tail","split","weight","ways"] ["tongue","carrier","tail","split"] (aA wJ):=GN
theorem Bq:Fs ["self"] ["self"] (aA qd):=GN
theorem AQ:Fs ["tongue","carrier","tail","ways"] xi.ps (aA t6):=GN
theorem yv:Fs ["tongue","word","follow","syllables","options","last"] sP.ps (aA n_):=GN
theorem G8:Fs ["steps","option","ends","states"] vb.ps (aA pD):=GN
theorem vj:Fs ["steps","values","options","ends","least","option","state","reached"] u8.ps (aA Bo):=GN
theorem sv:Fs ["tongue","steps","words","layer","follow","least","word","values","options","state","value"] u7.ps (aA yU):=GN
theorem sT:Fs ["metre","states","slot","told","number","pattern"] xE.ps (aA pG):=GN
theorem z0:Fs ["metre","state","ends","slot","behind"] xD.ps (aA o7):=GN
theorem Dv:Fs ["sign","mark"] xC.ps (aA rQ):=GN
theorem se:Fs ["metre","state","mark","ends","slot","at","patterns","numbers","moves","number","reached"] xz.ps (aA vd):=GN
theorem Ap:Fs ["metre","mark","ends","steps","state"] xS.ps (aA qK):=GN
theorem yb:Fs ["metre","steps","mark","ends"] sK.ps (aA t7):=GN
theorem xX:Fs ["choices"] vc.ps (aA jf):=GN
theorem G9:Fs ["tongue","metre","choices","layer"] xl.ps (aA t_):=GN
theorem NT:Fs ["values","word","price"] wP.ps (aA vf):=GN
theorem yy:Fs ["tongue","steps","words","layer","word","values","options"] xL.ps (aA wK):=GN
theorem sw:Fs ["tongue","metre","choices","steps","words","layers","ahead","told","layer"] xo.ps (aA j_):=GN
theorem zI:Fs ["tongue","words","metre","others","choices","found"] xw.ps (aA G5):=GN
theorem ya:Fs ["_law_cell","_law_some","_law_rows_here","_law_k"] ["_law_cell"] (aA uc):=GN
theorem AS:Fs ["tongue","words","follows"] va.ps (aA qL):=GN
theorem zC:Fs ["table","listed","word"] uj.ps (aA wL):=GN
theorem J9:Fs ["table","saying"] xA.ps (aA tG):=GN
theorem zS:Fs ["table","listed","word"] sN.ps (aA rR):=GN
theorem vk:Fs ["table","number","backwards","rest","options"] xB.ps (aA ud):=GN
theorem yn:Fs ["table","many","options"] xt.ps (aA o8):=GN
theorem AN:Fs ["_law_tongue","_law_words_here","_law_n","_law_grid"] wo.ps (aA ue):=GN
theorem vi:Fs ["steps","options","ends","behind","counts","option","state","reached"] wS.ps (aA o9):=GN
theorem so:Fs ["table","metre","steps","behind","backwards","options","ends"] wT.ps (aA jg):=GN
theorem yV:Fs ["table","metre"] xp.ps (aA oh):=GN
theorem rp:Fs ["_law_script","_law_tongue","_law_words_here","_law_others_here","_law_rows_here","_law_n","_law_target","_law_metre","_law_due","_law_price","_law_row","_law_handed","_law_found"] zw.ps (aA vg):=GN
structure Z7 where
 P:Program
 w:World
 K:W.Frag
 mg:Str->Option Value
 base:Heap
 cl:Nat->Addr
 IM:Tok
 L0:Tok
 IF:Tok
 JI:Tok
 L5:Addr
 KI:Addr
section
variable (Z:Z7)(r:FR)(f:Addr)(fd:FuncData)
abbrev ca:=X2 Z.P Z.w Z.K Z.mg Z.base r.k r.x r.ps (Kj ⟨Z.K,Z.cl⟩ r.m false)
abbrev fu:=K0 Z.K r.x r.x r.st f fd
abbrev fo:=GV Z.P Z.w Z.K Z.mg Z.base MO r.k f fd r.ps (Kj ⟨Z.K,Z.cl⟩ r.m false)
structure Zq:Prop where
 rL:Z.mg "all" = none
 vt:Z.mg "any" = none
 vv:Z.mg "bool" = none
 vx:Z.mg "dict" = none
 sf:Z.mg "enumerate" = none
 sh:Z.mg "int" = none
 sx:Z.mg "isinstance" = none
 rj:Z.mg "len" = none
 rq:Z.mg "list" = none
 sA:Z.mg "min" = none
 rS:Z.mg "range" = none
 si:Z.mg "reversed" = none
 vE:Z.mg "str" = none
 sB:Z.mg "tuple" = none
 rX:Z.mg "zip" = none
 tT:Z.mg "LEAST_STOPS" = some (.int 2 Z.IM)
 t3:Z.mg "LETTERS" = some (.str "abcdefghijklmnopqrstuvwxyz" Z.L0)
 t4:Z.mg "MOST_LETTERS" = some (.int 24 Z.IF)
 t5:Z.mg "MOST_STOPS" = some (.int 4 Z.JI)
 t9:Z.mg "RUNS" = some (.ref Z.L5)
 sD:Z.mg "START" = some (.ref Z.KI)
 zv:∀(B:Addr->Prop) (H:Hp),Rep ⟨Z.K,Z.cl⟩ B H (.ref Z.L5) ut
 wc:∀(B:Addr->Prop) (H:Hp),Rep ⟨Z.K,Z.cl⟩ B H (.ref Z.KI) l_
 FA:N9 Z.K (Z.cl 0)
 ua:∀t k,(t,k)∈KA->W.kitOne Z.K (.type t) (.type "bool")=some k
 ub:∀t k,(t,k)∈LX->W.kitOne Z.K (.type t) (.type "str")=some k
 ui:∀t k,(t,k)∈IX->W.kitOne Z.K (.type t) (.type "tuple")=some k
 IB:GI Z.K (Z.cl 0) "beginnings"
 GB:GI Z.K (Z.cl 0) "carrying"
 I0:GI Z.K (Z.cl 0) "eithers"
 MU:GI Z.K (Z.cl 0) "likes"
 Kx:GI Z.K (Z.cl 0) "longs"
 IG:GI Z.K (Z.cl 0) "pairs"
 Jn:GI Z.K (Z.cl 0) "running"
 IC:GI Z.K (Z.cl 0) "splittings"
structure A6:Prop extends Zq Z where
 tw:ca Z sM
structure A8:Prop extends Zq Z where
 CM:ca Z xa
structure Bi:Prop extends Zq Z where
 tw:ca Z sM
structure A0:Prop extends Zq Z where
 y0:ca Z u4
structure A7:Prop extends Zq Z where
 y0:ca Z u4
structure A9:Prop extends Zq Z where
 Ct:ca Z wr
 yT:ca Z uk
 CL:ca Z w9
 yY:ca Z uS
structure AT:Prop extends Zq Z where
 yT:ca Z uk
 yY:ca Z uS
 CO:ca Z xb
 CY:ca Z xh
 DF:ca Z x6
 sC:ca Z x8
structure AY:Prop extends Zq Z where
 r9:ca Z sm
 tj:ca Z sF
structure AW:Prop extends Zq Z where
 r9:ca Z sm
 tj:ca Z sF
structure AU:Prop extends Zq Z where
 B9:ca Z wf
structure AV:Prop extends Zq Z where
 r9:ca Z sm
structure Bz:Prop extends Zq Z where
 tw:ca Z sM
 sj:IS Z.P Z.w Z.K Z.mg Z.base (Z.cl 0) 1 "carries" ["self","letter"] (Kj ⟨Z.K,Z.cl⟩ bh false)
structure BQ:Prop extends Zq Z where
 CU:ca Z xc
structure A2:Prop extends Zq Z where
 CC:ca Z wE
 tJ:ca Z sQ
structure B6:Prop extends Zq Z where
 tJ:ca Z sQ
 Fa:IS Z.P Z.w Z.K Z.mg Z.base (Z.cl 0) 1 "is_pair" ["self","pair"] (Kj ⟨Z.K,Z.cl⟩ d9 false)
structure A1:Prop extends Zq Z where
 sj:IS Z.P Z.w Z.K Z.mg Z.base (Z.cl 0) 1 "carries" ["self","letter"] (Kj ⟨Z.K,Z.cl⟩ bh false)
structure A5:Prop extends Zq Z where
 sj:IS Z.P Z.w Z.K Z.mg Z.base (Z.cl 0) 1 "carries" ["self","letter"] (Kj ⟨Z.K,Z.cl⟩ bh false)
structure BY:Prop extends Zq Z where
 E9:IS Z.P Z.w Z.K Z.mg Z.base (Z.cl 0) 1 "begins" ["self","cluster"] (Kj ⟨Z.K,Z.cl⟩ fj false)
 zt:IS Z.P Z.w Z.K Z.mg Z.base (Z.cl 0) 1 "splits" ["self","cluster"] (Kj ⟨Z.K,Z.cl⟩ cV false)
structure B4:Prop extends Zq Z where
 CA:ca Z wv
 CI:ca Z w8
 DA:ca Z xI
 DH:ca Z x9
 zt:IS Z.P Z.w Z.K Z.mg Z.base (Z.cl 0) 1 "splits" ["self","cluster"] (Kj ⟨Z.K,Z.cl⟩ cV false)
structure B7:Prop extends Zq Z where
 Fc:IS Z.P Z.w Z.K Z.mg Z.base (Z.cl 0) 1 "weight" ["self","carrier"] (Kj ⟨Z.K,Z.cl⟩ cW false)
structure BC:Prop extends Zq Z where
 vT:X2 Z.P Z.w Z.K Z.mg Z.base 2 "ways_of" ["tongue","carrier","tail","split"] (Kj ⟨Z.K,Z.cl⟩ dw true)
 AM:IS Z.P Z.w Z.K Z.mg Z.base (Z.cl 0) 1 "run" ["self"] (Kj ⟨Z.K,Z.cl⟩ fU false)
structure BO:Prop extends Zq Z where
 C0:ca Z xi
 tJ:ca Z sQ
 DE:ca Z x5
 vT:X2 Z.P Z.w Z.K Z.mg Z.base 2 "ways_of" ["tongue","carrier","tail","split"] (Kj ⟨Z.K,Z.cl⟩ dw true)
 sj:IS Z.P Z.w Z.K Z.mg Z.base (Z.cl 0) 1 "carries" ["self","letter"] (Kj ⟨Z.K,Z.cl⟩ bh false)
structure BM:Prop extends Zq Z where
 y6:ca Z vb
structure BA:Prop extends Zq Z where
 y4:ca Z u8
 tI:ca Z sP
structure BN:Prop extends Zq Z where
 tq:ca Z sL
 Da:ca Z xC
 Db:ca Z xD
structure B3:Prop extends Zq Z where
 C7:ca Z xz
 Dx:ca Z xE
structure AZ:Prop extends Zq Z where
 DC:ca Z xS
structure BE:Prop extends Zq Z where
 tm:ca Z sK
 tq:ca Z sL
 y3:ca Z u7
 y7:ca Z vc
structure B0:Prop extends Zq Z where
 y3:ca Z u7
 y4:ca Z u8
 tI:ca Z sP
structure BF:Prop extends Zq Z where
 tm:ca Z sK
 CD:ca Z wP
 DB:ca Z xL
 y7:ca Z vc
structure BI:Prop extends Zq Z where
 CB:ca Z wx
 C3:ca Z xl
 C5:ca Z xo
structure B5:Prop extends Zq Z where
 tI:ca Z sP
structure BS:Prop extends Zq Z where
 yB:ca Z uj
structure BU:Prop extends Zq Z where
 tF:ca Z sN
structure BH:Prop extends Zq Z where
 tF:ca Z sN
structure AX:Prop extends Zq Z where
 C6:ca Z xt
 C8:ca Z xA
 C9:ca Z xB
 vS:ca Z va
structure A3:Prop extends Zq Z where
 y6:ca Z vb
structure A4:Prop extends Zq Z where
 tm:ca Z sK
 CF:ca Z wS
 tq:ca Z sL
 yB:ca Z uj
 tF:ca Z sN
structure BG:Prop extends Zq Z where
 CH:ca Z wT
structure BD:Prop extends Zq Z where
 B8:ca Z wd
 vF:ca Z we
 Cb:ca Z wm
 r9:ca Z sm
 Cc:ca Z wn
 Cf:X2 Z.P Z.w Z.K Z.mg Z.base 1 "_law_rows" ["_law_cell"] (Kj ⟨Z.K,Z.cl⟩ jQ true)
 Co:ca Z wo
 tj:ca Z sF
 Cs:ca Z wq
 Au:ca Z xp
 AA:ca Z xw
 vS:ca Z va
 T2:CalI Z.P Z.w Z.K Z.mg Z.base (Z.cl 0) 5 "Tongue" ["self","rows"] (spI ⟨Z.K,Z.cl⟩ 0 cY)
end
section
variable {Z:Z7}{f:Addr}{fd:FuncData}
theorem Br (F:fu Z x8 f fd)(T:Zq Z):fo Z x8 f fd:=by
 refine GU F yA [2] [] [] λhr=>?_
 exact(au (cQ 2 yA.nd Yp) (au (bW [3,4] (b8 (aj 1)) (fY 3 yA.nd) (az (b7 (aQ (cz hr (aM hr (aj 3) ao) (aj 0))) (az (bW [4] (b8 (dR (aj 3) (bT ao) dD)) (fY 4 yA.nd) (az (sy 2 hr (aj 4) gZ)) a8)) aY)) a8) (cZ (G1:=[]) (az (aL (aj 2))))))
theorem Hu (F:fu Z xh f fd)(T:Zq Z):fo Z xh f fd:=by
 refine GU F yk [] [] [] λhr=>?_
 exact(au (aR 1 yk.nd aJ) (au (bW [2] (b8 (aj 0)) (fY 2 yk.nd) (az (b7 (aQ (cz hr (aM hr (aj 2) ao) aJ)) (az (aR 1 yk.nd (aM hr (aj 2) ao))) aY)) a8) (az (aL (aj 1)))))
theorem Dw (F:fu Z x6 f fd)(T:Zq Z):fo Z x6 f fd:=by
 refine GU F As [1] [] [] λhr=>?_
 exact(au (cQ 1 As.nd zq) (au (bW [2] (b8 (aj 0)) (fY 2 As.nd) (az (b7 (aQ (cz hr (aM hr (aj 2) ao) aJ)) (az (sy 1 hr (bz (aa (aM hr (aj 2) ao) (aa (aM hr (aj 2) ao) aq))) gZ)) aY)) a8) (cZ (G1:=[]) (az (aL (aj 1))))))
theorem G_ (F:fu Z sM f fd)(T:Zq Z):fo Z sM f fd:=by
 refine GU F G6 [] [] [] λhr=>?_
 exact(az (aL (fc (bQ (cz hr (bZ T.rj (aj 0)) ao)) (fW (bQ (jx hr (aj 0) (Yk T.t3)))))))
theorem z8 (F:fu Z uk f fd)(T:A6 Z):fo Z uk f fd:=by
 refine GU F zY [] [] [] λhr=>?_
 exact(az (aL (fc (bQ (cz hr (aM hr (aj 0) ao) aJ)) (fc (bQ (su (bZ T.rj (aj 0)) ao)) (fW (pI T.rL (bU (HG:=(aA j8)) (ON:=["row"]) (N:=["word"]) (FF:=[none]) LM (jr 0) (b8 (dR (aj 0) (bT ao) dD)) (λ_ _ _ _=>b_ 0) (λ_ _ _ _=>bR) (λ_ _ _ _=>(aC T.tw hr (aa (aj 0) aq))))))))))
theorem Dy (F:fu Z xa f fd)(T:Zq Z):fo Z xa f fd:=by
 refine GU F Do [] [] [] λhr=>?_
 exact(az (aL (fc (bQ (cz hr (bZ T.rj (aj 1)) ao)) (fc (bQ (jx hr (aM hr (aj 1) ao) (aj 0))) (fW (bQ (jx hr (aM hr (aj 1) ao) (aj 0))))))))
theorem Dz (F:fu Z uS f fd)(T:A8 Z):fo Z uS f fd:=by
 refine GU F Dp [] [] [] λhr=>?_
 exact(az (aL (fc (bQ (cz hr (aM hr (aj 1) ao) aJ)) (fc (bQ (su (bZ T.rj (aj 1)) ao)) (fW (pI T.rL (bU (HG:=(aA nR)) (ON:=["carrying","row"]) (N:=["word","carrying"]) (FF:=[none,some 0]) LM (jr 0) (b8 (dR (aj 1) (bT ao) dD)) (λ_ _ _ _=>b_ 0) (λ_ _ _ _=>bR) (λ_ _ _ _=>(aC T.CM hr (aa (aj 1) (aa (aj 0) aq)))))))))))
theorem J_ (F:fu Z u4 f fd)(T:Bi Z):fo Z u4 f fd:=by
 refine GU F J7 [] [] [] λhr=>?_
 exact(az (aL (fc (aC T.tw hr (aa (aj 1) aq)) (fW (bQ (yx hr (aj 1) (aj 0)))))))
theorem wQ (F:fu Z wr f fd)(T:A0 Z):fo Z wr f fd:=by
 refine GU F wM [] [] [] λhr=>?_
 exact(au (b7 (aQ (mD hr (bZ T.rj (aj 2)) ao)) (az (aL gZ)) aY) (az (aL (Rh (pI T.rL (bU (HG:=(aA fG)) (ON:=["carrying","carriers","words"]) (N:=["word","carriers"]) (FF:=[none,some 1]) LM (jr 0) (b8 (aj 2)) (λ_ _ _ _=>b_ 0) (λ_ _ _ _=>bR) (λ_ _ _ _=>(bQ (jx hr (aj 0) (aj 1)))))) (fW (pI T.rL (bU (HG:=(aA fG)) (ON:=["carrying","carriers","words"]) (N:=["word","carrying"]) (FF:=[none,some 0]) LM (jr 0) (b8 (aj 2)) (λ_ _ _ _=>b_ 0) (λ_ _ _ _=>bR) (λ_ _ _ _=>(aC T.y0 hr (aa (aj 1) (aa (aj 0) aq)))))))))))
theorem DG (F:fu Z w9 f fd)(T:A7 Z):fo Z w9 f fd:=by
 refine GU F Dq [] [] [] λhr=>?_
 exact(az (aL (fc (Ph Q9 Q9 (Jw T.tT) (bZ T.rj (aj 1)) (Jw T.t5)) (fW (pI T.rL (bU (HG:=(aA nU)) (ON:=["carrying","word"]) (N:=["sign","carrying"]) (FF:=[none,some 0]) LM (jr 0) (b8 (aj 1)) (λ_ _ _ _=>b_ 0) (λ_ _ _ _=>bR) (λ_ _ _ _=>(aC T.y0 hr (aa (aj 1) (aa (aj 0) aq))))))))))
theorem Ka (F:fu Z xb f fd)(T:A9 Z):fo Z xb f fd:=by
 refine GU F yi [] [] [] λhr=>?_
 exact(au (aR 3 yi.nd (aM hr (aj 2) ao)) (au (aR 4 yi.nd (dR (aj 2) (bT ao) dD)) (au (aR 5 yi.nd (bF (uo T.rq (aj 0)) (uo T.rq (aj 1)))) (au (b7 (aQ (cz hr (aj 3) aJ)) (az (aL (aC T.yT hr (aa (aj 2) aq)))) aY) (au (b7 (aQ (cz hr (aj 3) aJ)) (az (aL (aC T.yY hr (aa (aj 0) (aa (aj 2) aq))))) aY) (au (b7 (SW.st (o_ (aQ (cz hr (aj 3) aJ)) (mF (aQ (cz hr (aj 3) aJ))))) (az (aL (fc (bQ (su (bZ T.rj (aj 4)) ao)) (fW (pI T.rL (bU (HG:=(aA pU)) (ON:=Ru) (N:=["word","carriers"]) (FF:=[none,some 5]) LM (jr 0) (b8 (aj 4)) (λ_ _ _ _=>b_ 0) (λ_ _ _ _=>bR) (λ_ _ _ _=>(bQ (jx hr (aj 0) (aj 1)))))))))) aY) (au (b7 (SW.st (o_ (aQ (cz hr (aj 3) aJ)) (mF (aQ (cz hr (aj 3) aJ))))) (az (aL (fc (bQ (su (bZ T.rj (aj 4)) ao)) (fW (pI T.rL (bU (HG:=(aA pU)) (ON:=Ru) (N:=["word","carrying"]) (FF:=[none,some 0]) LM (jr 0) (b8 (aj 4)) (λ_ _ _ _=>b_ 0) (λ_ _ _ _=>bR) (λ_ _ _ _=>(aC T.CL hr (aa (aj 1) (aa (aj 0) aq)))))))))) aY) (au (b7 (aQ (cz hr (aj 3) aJ)) (az (aL (fc (bQ (cz hr (bZ T.rj (aj 4)) ao)) (fW (bQ (jx hr (aM hr (aj 4) ao) (Jx T.t9 (T.zv)))))))) aY) (az (aL (fc (bQ (cz hr (aj 3) aJ)) (fW (aC T.Ct hr (aa (aj 0) (aa (aj 5) (aa (aj 4) aq))))))))))))))))
theorem vC (F:K0 Z.K "__init__" "Tongue.__init__" dj f fd)(T:AT Z):GV Z.P Z.w Z.K Z.mg Z.base MO 5 f fd ["self","rows"] (spI ⟨Z.K,Z.cl⟩ 0 cY):=by
 refine F.ok F3 (λvs H Q E h=>S5 h) (λLu A' outer s H vs Q E hr h=>SX (G:=[0]) (G':=[0]) (L:=[]) (N:=["self","rows","cut","at","row"]) rfl (by decide) (by decide) (by decide) (by decide) (λB H' x=>?_) h)
 exact(au (Lx 2 F3.nd (HG:=(aA dj)) (ON:=J6) (N:=["row"]) (FF:=[none]) LM (jr 0) (b8 (aj 1)) (λ_ _ _ _=>b_ 0) (λ_ _ _ _=>bR) (λ_ _ _ _=>(SE.val (Pn (aj 0) aJ)))) (au (sE 0 (c:=0) T.FA T.GB (aC T.sC hr (aa aJ (aa (SE.val (bU (HG:=(aA dj)) (ON:=J6) (N:=["row"]) (FF:=[none]) LM (jr 0) (b8 (aj 2)) (λ_ _ _ _=>b_ 0) (λ_ _ _ _=>oE (dX (aC T.yT hr (aa (aj 0) aq)))) (λ_ _ _ _=>(aj 0)))) aq)))) (au (sE 0 (c:=0) T.FA T.IG (aC T.sC hr (aa aJ (aa (SE.val (bU (HG:=(aA dj)) (ON:=J6) (N:=["row","self"]) (FF:=[none,some 0]) LM (jr 0) (b8 (aj 2)) (λ_ _ _ _=>b_ 0) (λ_ _ _ _=>oE (dX (aC T.yY hr (aa (lg (c:=0) T.FA T.GB (lK 1)) (aa (aj 0) aq))))) (λ_ _ _ _=>(aj 0)))) aq)))) (au (bW [3,4] (uO T.sf (aj 2)) (oH (bA 3 F3.nd (bA 4 F3.nd fQ))) (az (b7 (vO (dX (aC T.CO hr (aa (lg (c:=0) T.FA T.GB (lK 0)) (aa (lg (c:=0) T.FA T.IG (lK 0)) (aa (aj 4) aq)))))) (az Wm) aY)) a8) (au (sE 0 (c:=0) T.FA T.Kx (aC T.sC hr (aa aJ (aa (aj 2) aq)))) (au (sE 0 (c:=0) T.FA T.I0 (aC T.sC hr (aa aJ (aa (aj 2) aq)))) (au (sE 0 (c:=0) T.FA T.IB (aC T.sC hr (aa aJ (aa (aj 2) aq)))) (au (sE 0 (c:=0) T.FA T.IC (aC T.sC hr (aa aJ (aa (aj 2) aq)))) (au (sE 0 (c:=0) T.FA T.Jn (aC T.CY hr (aa (aj 2) aq))) (az (sE 0 (c:=0) T.FA T.MU (aC T.DF hr (aa (aj 2) aq)))))))))))))
theorem Ha (F:fu Z sF f fd)(T:Zq Z):fo Z sF f fd:=by
 refine GU F ve [] [] [] λhr=>?_
 exact(au (aR 1 ve.nd (aM hr (aW (aa aJ (aa aJ (aa aJ (aa aJ (aa aJ (aa aJ aq))))))) (cG (aj 0) ao))) (au (bW [2] (xn T.rS (bF ao (cG (e_ (aj 0) ao) ao))) (fY 2 ve.nd) (au (aR 1 ve.nd (bF (aj 1) (aM hr (aW (aa aJ (aa aJ (aa aJ (aa aJ (aa aJ (aa aJ aq))))))) (cG (e_ (aj 0) (bF ao (jL ao (aj 2)))) ao)))) (az (aR 1 ve.nd (bF (aj 1) (aM hr (aW (aa aJ (aa aJ (aa aJ (aa aJ (aa aJ (aa aJ (aa aJ (aa aJ aq))))))))) (cG (e_ (aj 0) (bF ao (jL ao (aj 2)))) ao)))))) a8) (az (aL (aj 1)))))
theorem DK (F:fu Z sm f fd)(T:Zq Z):fo Z sm f fd:=by
 refine GU F Dr [] [] [] λhr=>?_
 exact(az (aL (cG (bF (bF (jL (aj 0) ao) (jL (jL (aj 1) (aj 1)) ao)) ao) ao)))
theorem DN (F:fu Z wq f fd)(T:AY Z):fo Z wq f fd:=by
 refine GU F Ds [] [] [] λhr=>?_
 exact(az (aL (SE.val (bU (HG:=(aA nY)) (ON:=["_law_cells"]) (N:=["_law_k","_law_cell"]) (FF:=[none,none]) LM (qX [0,1]) (uO T.sf (aj 0)) (λ_ _ _ _=>jh rfl (bw (b_ 0) (bw (b_ 1) gB))) (λ_ _ _ _=>bR) (λ_ _ _ _=>(aC T.tj hr (aa (aC T.r9 hr (aa (aj 1) (aa (aj 0) aq))) aq)))))))
theorem Bt (F:fu Z wn f fd)(T:AW Z):fo Z wn f fd:=by
 refine GU F sR [3] [] [] λhr=>?_
 exact(au (cQ 3 sR.nd (aW aq)) (au (bW [4,5,6,7] (xn T.rS (bZ T.rj (aj 0))) (fY 4 sR.nd) (az (bW [5,6,7] (xn T.rS (jL (cG (aC T.r9 hr (aa (aj 1) (aa (bF (jL ao (aj 4)) ao) aq))) (bF (aj 2) ao)) (xg T.sh (bQ (yx hr (aM hr (aj 0) (aj 4)) (dR (aj 0) dD (bT (aj 4)))))))) (fY 5 sR.nd) (au (aR 6 sR.nd (aC T.r9 hr (aa (aj 1) (aa (bF (bF ao (jL ao (aj 4))) (aj 5)) aq)))) (au (aR 7 sR.nd (aM hr (aW (aa (bF ao (cG (aj 6) ao)) (aa (bF (bF ao (cG (aj 6) ao)) (jL (aj 6) (We ao ao))) aq))) (xg T.sh (bQ (cz hr (cG (e_ (aj 6) ao) ao) ao))))) (az (eG 3 (bz (aa (aM hr (aj 0) (aj 4)) (aa (aC T.tj hr (aa (e_ (aj 6) ao) aq)) (aa (aj 7) aq)))))))) a8)) a8) (au (b7 (aQ (cz hr (cG (aj 1) ao) ao)) (az (Ci 3)) aY) (cZ (G1:=[]) (az (aL (aj 3)))))))
theorem z9 (F:fu Z wf f fd)(T:Zq Z):fo Z wf f fd:=by
 refine GU F zZ [] [] [] λhr=>?_
 exact(az (aL (SE.val (ul (aW (aa (bz (aa (aj 0) (aa ao aq))) aq)) (bU (HG:=(aA j9)) (ON:=["_law_word_here","_law_others_here"]) (N:=["_law_told","_law_other","_law_price","_law_word_here"]) (FF:=[none,none,none,some 0]) LM (qX [0,1,2]) (b8 (aj 1)) (λ_ _ _ _=>jh rfl (bw (b_ 0) (bw (b_ 1) (bw (b_ 2) gB)))) (λ_ _ _ _=>oE (aQ (cz hr (aj 0) (aj 3)))) (λ_ _ _ _=>(bz (aa (aj 1) (aa (aj 2) aq)))))))))
theorem Hv (F:fu Z wd f fd)(T:AU Z):fo Z wd f fd:=by
 refine GU F r6 [] [] [] λhr=>?_
 exact(au (aR 2 r6.nd (SE.val (aW (aa (bz (aa ao (aa (SE.val (aW aq)) aq))) aq)))) (au (bW [3,4,5,6,7,8] (b8 (aj 0)) (fY 3 r6.nd) (au (LQ 4 [4] r6.nd (aW aq)) (au (bW [5,6,7,8] (b8 (aj 2)) (oH (bA 5 r6.nd (bA 6 r6.nd fQ))) (az (bW [7,8] (b8 (aC T.B9 hr (aa (aj 3) (aa (aj 1) aq)))) (oH (bA 7 r6.nd (bA 8 r6.nd fQ))) (az (eG 4 (bz (aa (bF (aj 5) (aj 8)) (aa (SE.val (ul (aj 6) (aW (aa (aj 7) aq)))) aq))))) a8)) a8) (cZ (G1:=[]) (az (aR 2 r6.nd (aj 4)))))) a8) (az (aL (aj 2)))))
theorem z_ (F:fu Z we f fd)(T:Zq Z):fo Z we f fd:=by
 refine GU F z7 [] [] [] λhr=>?_
 exact(au (b7 (aQ (zm (aj 1) (bZ T.rj (aj 0)))) (az (aL (aM hr (aj 0) (aj 1)))) aY) (az (aL ao)))
theorem yW (F:fu Z wm f fd)(T:AV Z):fo Z wm f fd:=by
 refine GU F sd [2] [2] [] λhr=>?_
 exact(au (cQ 2 sd.nd (aW aq)) (au (aR 3 sd.nd ao) (au (HX 1000000 [4,5,6,7] (aQ (zm (aj 3) (bZ T.rj (aj 0)))) (au (aR 4 sd.nd (aC T.r9 hr (aa (aj 1) (aa (bF (jL ao (aj 3)) ao) aq)))) (au (aR 5 sd.nd (A_ hr T.sA (aM hr (aW (aa (bF ao (cG (aj 4) ao)) (aa ao aq))) (xg T.sh (bQ (su (bZ T.rj (aj 0)) ao)))) (Fg (bZ T.rj (aj 0)) (aj 3)))) (au (aR 6 sd.nd (Sx aJ (bU (HG:=(aA jH)) (ON:=["_law_row","_law_n","_law_metre","_law_at","_law_m","_law_size","_law_marks","_law_patterns"]) (N:=["_law_mark","_law_ends"]) (FF:=[none,none]) LM (qX [0,1]) (b8 (dR (aj 0) (bT (aj 3)) (bT (bF (aj 3) (aj 5))))) (λ_ _ _ _=>jh rfl (bw (b_ 0) (bw (b_ 1) gB))) (λ_ _ _ _=>bR) (λ_ _ _ _=>(aj 0))))) (au (LQ 7 [2,7] sd.nd (aW (aa (aj 6) aq))) (au (b7 (aQ (cz hr (cG (e_ (aj 4) ao) ao) ao)) (az (eG 7 (aM hr (aW (aa aJ (aa aJ (aa aJ (aa aJ aq))))) (cG (e_ (aj 4) ao) ao)))) aY) (au (b7 (aQ (cz hr (cG (e_ (aj 4) ao) ao) ao)) (az (eG 7 (bF (dR (aj 6) dD (bT (dH ao))) aJ))) aY) (au (aR 3 sd.nd (bF (aj 3) (aj 5))) (au (b7 (SW.st (vQ (aQ (cz hr (cG (e_ (aj 4) ao) ao) ao)) (um (aQ (mD hr (aM hr (lK 7) (dH ao)) (aj 6)))))) (az (Ci 7)) aY) (au (eG 2 (bz (aa (Fx T.sB (dR (lK 7) dD (bT (bF ao (xg T.sh (bQ (mD hr (aM hr (lK 7) ao) (aM hr (lK 7) (dH ao))))))))) (aa (fc (aM hr (aM hr (aj 0) (Fg (aj 3) ao)) ao) (fW (bQ (cz hr (cG (e_ (aj 4) ao) ao) ao)))) aq)))) (cZ aY)))))))))) a8) (az (aL (Fx T.sB (lK 2)))))))
theorem wR (F:K0 Z.K "carries" "Tongue.carries" kY f fd)(T:Zq Z):GV Z.P Z.w Z.K Z.mg Z.base MO 1 f fd ["self","letter"] (Kj ⟨Z.K,Z.cl⟩ bh false):=by
 refine GU F wN [] [] [] λhr=>?_
 exact(az (aL (bQ (jx hr (aj 1) (lg (c:=0) T.FA T.GB (aj 0))))))
theorem Kc (F:fu Z xc f fd)(T:Bz Z):fo Z xc f fd:=by
 refine GU F J8 [] [] [] λhr=>?_
 exact(au (b7 (SW.st (o_ (vO (dX (Fv LX T.ub T.sx T.vE PyProof.Rows.boot_str (aj 1)))) (mF (aQ (su (bZ T.rj (aj 1)) (Jw T.t4)))))) (az (aL gZ)) aY) (az (aL (fc (pI T.rL (bU (HG:=(aA pW)) (ON:=["tongue","thing"]) (N:=["sign"]) (FF:=[none]) LM (jr 0) (b8 (aj 1)) (λ_ _ _ _=>b_ 0) (λ_ _ _ _=>bR) (λ_ _ _ _=>(aC T.tw hr (aa (aj 0) aq))))) (fW (Wl T.vt (bU (HG:=(aA pW)) (ON:=["tongue","thing"]) (N:=["sign","tongue"]) (FF:=[none,some 0]) LM (jr 0) (b8 (aj 1)) (λ_ _ _ _=>b_ 0) (λ_ _ _ _=>bR) (λ_ _ _ _=>(iR (c:=0) T.sj T.FA hr (aj 1) (aa (aj 0) aq))))))))))
theorem xY (F:fu Z sQ f fd)(T:BQ Z):fo Z sQ f fd:=by
 refine GU F xT [] [] [] λhr=>?_
 exact(az (b7 (vO (dX (aC T.CU hr (aa (aj 0) (aa (aj 1) aq))))) (az Wm) aY))
theorem DP (F:fu Z wE f fd)(T:Zq Z):fo Z wE f fd:=by
 refine GU F Du [] [] [] λhr=>?_
 exact(az (aL (SE.val (ul (aW (aa (bz (aa (aj 0) (aa ao aq))) aq)) (bU (HG:=(aA nZ)) (ON:=["word","others"]) (N:=["told","other","price","word"]) (FF:=[none,none,none,some 0]) LM (qX [0,1,2]) (b8 (aj 1)) (λ_ _ _ _=>jh rfl (bw (b_ 0) (bw (b_ 1) (bw (b_ 2) gB)))) (λ_ _ _ _=>oE (aQ (cz hr (aj 0) (aj 3)))) (λ_ _ _ _=>(bz (aa (aj 1) (aa (aj 2) aq)))))))))
theorem wU (F:fu Z wx f fd)(T:A2 Z):fo Z wx f fd:=by
 refine GU F AO [] [] [] λhr=>?_
 exact(au (bW [3] (b8 (aj 1)) (fY 3 AO.nd) (az (Fo (aC T.tJ hr (aa (aj 0) (aa (aj 3) aq))))) a8) (az (aL (SE.val (bU (HG:=(aA h_)) (ON:=["tongue","words","others","word"]) (N:=["word","others"]) (FF:=[none,some 2]) LM (jr 0) (b8 (aj 1)) (λ_ _ _ _=>b_ 0) (λ_ _ _ _=>bR) (λ_ _ _ _=>(aC T.CC hr (aa (aj 0) (aa (aj 1) aq)))))))))
theorem Hb (F:fu Z sL f fd)(T:Zq Z):fo Z sL f fd:=by
 refine GU F G7 [] [] [] λhr=>?_
 exact(az (aL (bz (aa (bZ T.rj (aj 0)) (aa ao (aa ao aq))))))
theorem wV (F:K0 Z.K "is_pair" "Tongue.is_pair" kZ f fd)(T:Zq Z):GV Z.P Z.w Z.K Z.mg Z.base MO 1 f fd ["self","pair"] (Kj ⟨Z.K,Z.cl⟩ d9 false):=by
 refine GU F wO [] [] [] λhr=>?_
 exact(az (aL (bQ (jx hr (aj 1) (lg (c:=0) T.FA T.IG (aj 0))))))
theorem Hw (F:fu Z x9 f fd)(T:B6 Z):fo Z x9 f fd:=by
 refine GU F vn [2] [] [] λhr=>?_
 exact(au (Fo (aC T.tJ hr (aa (aj 0) (aa (aj 1) aq)))) (au (cQ 2 vn.nd (aW aq)) (au (aR 3 vn.nd ao) (au (HX 1000000 [4] (aQ (zm (aj 3) (bZ T.rj (aj 1)))) (au (aR 4 vn.nd (zp (dX (iR (c:=0) T.Fa T.FA hr (aj 0) (aa (dR (aj 1) (bT (aj 3)) (bT (bF (aj 3) ao))) aq))) ao ao)) (au (eG 2 (dR (aj 1) (bT (aj 3)) (bT (bF (aj 3) (aj 4))))) (az (aR 3 vn.nd (bF (aj 3) (aj 4)))))) a8) (cZ (G1:=[]) (az (aL (aj 2))))))))
theorem Bu (F:fu Z wv f fd)(T:A1 Z):fo Z wv f fd:=by
 refine GU F Bp [] [] [] λhr=>?_
 exact(az (aL (SE.val (bU (HG:=(aA lJ)) (ON:=["tongue","units"]) (N:=["unit","tongue"]) (FF:=[none,some 0]) LM (jr 0) (b8 (aj 1)) (λ_ _ _ _=>b_ 0) (λ_ _ _ _=>oE (dX (iR (c:=0) T.sj T.FA hr (aj 1) (aa (aM hr (aj 0) ao) aq)))) (λ_ _ _ _=>(aj 0))))))
theorem Kd (F:fu Z w8 f fd)(T:A5 Z):fo Z w8 f fd:=by
 refine GU F zD [2] [] [] λhr=>?_
 exact(au (cQ 2 zD.nd (aW (aa aJ aq))) (au (bW [3] (b8 (aj 1)) (fY 3 zD.nd) (az (b7 (dX (iR (c:=0) T.sj T.FA hr (aj 0) (aa (aM hr (aj 3) ao) aq))) (az (eG 2 aJ)) (az (sy 2 hr (dH ao) (bF (aM hr (lK 2) (dH ao)) (aj 3)))))) a8) (cZ (G1:=[]) (az (aL (aj 2))))))
theorem xZ (F:K0 Z.K "splits" "Tongue.splits" lW f fd)(T:Zq Z):GV Z.P Z.w Z.K Z.mg Z.base MO 1 f fd ["self","cluster"] (Kj ⟨Z.K,Z.cl⟩ cV false):=by
 refine GU F xU [] [] [] λhr=>?_
 exact(az (aL (bQ (jx hr (aj 1) (lg (c:=0) T.FA T.IC (aj 0))))))
theorem x_ (F:K0 Z.K "begins" "Tongue.begins" lX f fd)(T:Zq Z):GV Z.P Z.w Z.K Z.mg Z.base MO 1 f fd ["self","cluster"] (Kj ⟨Z.K,Z.cl⟩ fj false):=by
 refine GU F xV [] [] [] λhr=>?_
 exact(az (aL (bQ (jx hr (aj 1) (lg (c:=0) T.FA T.IB (aj 0))))))
theorem Ke (F:fu Z xI f fd)(T:BY Z):fo Z xI f fd:=by
 refine GU F AR [] [] [] λhr=>?_
 exact(au (b7 (dX (iR (c:=0) T.zt T.FA hr (aj 0) (aa (aj 1) aq))) (az (aL aJ)) aY) (au (bW [2] (xn T.rS (bZ T.rj (aj 1))) (fY 2 AR.nd) (az (b7 (dX (iR (c:=0) T.E9 T.FA hr (aj 0) (aa (dR (aj 1) (bT (aj 2)) dD) aq))) (az (aL (dR (aj 1) dD (bT (aj 2))))) aY)) a8) (az (aL (dR (aj 1) dD (bT (dH ao)))))))
theorem Aa (F:fu Z x5 f fd)(T:B4 Z):fo Z x5 f fd:=by
 refine GU F rV [5] [] [] λhr=>?_
 exact(au (aR 2 rV.nd (aC T.DH hr (aa (aj 0) (aa (aj 1) aq)))) (au (aR 3 rV.nd (aC T.CA hr (aa (aj 0) (aa (aj 2) aq)))) (au (aR 4 rV.nd (aC T.CI hr (aa (aj 0) (aa (aj 2) aq)))) (au (cQ 5 rV.nd (aW aq)) (au (aR 6 rV.nd (aM hr (aj 4) ao)) (au (bW [7,8,9] (vY T.rX (dR (aj 3) dD (bT (dH ao))) (dR (aj 4) (bT ao) (bT (dH ao))) (by simp) (by simp)) (oH (bA 7 rV.nd (bA 8 rV.nd fQ))) (au (aR 9 rV.nd (aC T.DA hr (aa (aj 0) (aa (aj 8) aq)))) (au (eG 5 (bz (aa (aj 6) (aa (aj 7) (aa (aj 9) (aa (iR (c:=0) T.zt T.FA hr (aj 0) (aa (aj 8) aq)) aq)))))) (az (aR 6 rV.nd (dR (aj 8) (bT (bZ T.rj (aj 9))) dD))))) a8) (au (eG 5 (bz (aa (aj 6) (aa (aM hr (aj 3) (dH ao)) (aa (aM hr (aj 4) (dH ao)) (aa gZ aq)))))) (cZ (G1:=[]) (az (aL (aj 5)))))))))))
theorem yc (F:K0 Z.K "weight" "Tongue.weight" lY f fd)(T:Zq Z):GV Z.P Z.w Z.K Z.mg Z.base MO 1 f fd ["self","carrier"] (Kj ⟨Z.K,Z.cl⟩ cW false):=by
 refine GU F xW [] [] [] λhr=>?_
 exact(au (b7 (aQ (jx hr (aj 1) (lg (c:=0) T.FA T.Kx (aj 0)))) (az (aL aJ)) aY) (au (b7 (aQ (jx hr (aj 1) (lg (c:=0) T.FA T.I0 (aj 0)))) (az (aL aJ)) aY) (az (aL aJ))))
theorem Kf (F:K0 Z.K "ways_of" "ways_of" wJ f fd)(T:B7 Z):GV Z.P Z.w Z.K Z.mg Z.base MO 2 f fd ["tongue","carrier","tail","split"] (Kj ⟨Z.K,Z.cl⟩ dw true):=by
 refine GU F At [5] [5] [] λhr=>?_
 exact(au (b7 (aQ (mD hr (aj 2) aJ)) (az (Wo (aW (aa (bz (aa ao (aa aJ aq))) aq)))) aY) (au (aR 4 At.nd (iR (c:=0) T.Fc T.FA hr (aj 0) (aa (aj 1) aq))) (au (cQ 5 At.nd (aW aq)) (au (b7 (aQ (mD hr (aj 4) aJ)) (az (eG 5 (bz (aa ao (aa aJ aq))))) aY) (au (b7 (aQ (mD hr (aj 4) aJ)) (az (eG 5 (bz (aa ao (aa aJ aq))))) aY) (au (b7 (dX (aj 3)) (az (eG 5 (bz (aa ao (aa aJ aq))))) aY) (az (Ln 5))))))))
theorem Bv (F:K0 Z.K "run" "Tongue.run" qd f fd)(T:Zq Z):GV Z.P Z.w Z.K Z.mg Z.base MO 1 f fd ["self"] (Kj ⟨Z.K,Z.cl⟩ fU false):=by
 refine GU F Bq [] [] [] λhr=>?_
 exact(az (aL (lg (c:=0) T.FA T.Jn (aj 0))))
theorem Hc (F:fu Z xi f fd)(T:BC Z):fo Z xi f fd:=by
 refine GU F AQ [3] [] [] λhr=>?_
 exact(au (b7 (aQ (mD hr (aj 2) aJ)) (az (aL (SE.val (uM T.vT hr (aa (aj 0) (aa (aj 1) (aa (dR (aj 2) dD (bT (dH ao))) (aa gZ aq)))))))) aY) (au (b7 (aQ (cz hr (B_ (c:=0) T.AM T.FA hr (aj 0)) aJ)) (az (aL (SE.val (aW (aa cO aq))))) aY) (au (cQ 3 AQ.nd (uM T.vT hr (aa (aj 0) (aa (aj 1) (aa (aj 2) (aa gZ aq)))))) (au (b7 (aQ (cz hr (B_ (c:=0) T.AM T.FA hr (aj 0)) aJ)) (az (eG 3 cO)) aY) (cZ (G1:=[]) (az (aL (aj 3))))))))
theorem DQ (F:fu Z sP f fd)(T:BO Z):fo Z sP f fd:=by
 refine GU F yv [4] [] [] λhr=>?_
 exact(au (aR 3 yv.nd (aC T.DE hr (aa (aj 0) (aa (aj 1) aq)))) (au (SM 4 yv.nd (HG:=(aA n_)) (ON:=["tongue","word","follow","syllables","options","last"]) (N:=["head","carrier","tail","split","tongue"]) (FF:=[none,none,none,none,some 0]) LM (qX [0,1,2,3]) (b8 (aj 3)) (λ_ _ _ _=>jh rfl (bw (b_ 0) (bw (b_ 1) (bw (b_ 2) (bw (b_ 3) gB))))) (λ_ _ _ _=>bR) (λ_ _ _ _=>(SE.val (uM T.vT hr (aa (aj 4) (aa (aj 1) (aa (aj 2) (aa (aj 3) aq)))))))) (au (b7 (aQ (qp (aj 2) cO)) (cZ (G1:=[]) (az (aL (aj 4)))) aY) (au (Fo (aC T.tJ hr (aa (aj 0) (aa (aj 2) aq)))) (au (b7 (dX (iR (c:=0) T.sj T.FA hr (aj 0) (aa (aM hr (aj 2) ao) aq))) (au (aR 5 yv.nd (aM hr (aj 3) (dH ao))) (az (sy 4 hr (dH ao) (aC T.C0 hr (aa (aj 0) (aa (aM hr (aj 5) ao) (aa (aM hr (aj 5) ao) aq))))))) aY) (cZ (G1:=[]) (az (aL (aj 4)))))))))
theorem Hd (F:fu Z vb f fd)(T:Zq Z):fo Z vb f fd:=by
 refine GU F G8 [] [] [] λhr=>?_
 exact(az (aL (zp (aQ (qp (aj 1) cO)) (SE.val (bU (HG:=(aA pD)) (ON:=["steps","option","ends","states"]) (N:=["state"]) (FF:=[none]) LM (jr 0) (Yv (aj 3)) (λ_ _ _ _=>b_ 0) (λ_ _ _ _=>bR) (λ_ _ _ _=>(bz (aa (aj 0) (aa (aj 0) aq)))))) (aM hr (aj 0) (bz (aa (aM hr (aj 1) ao) (aa (aj 2) aq)))))))
theorem Q6 (F:fu Z u8 f fd)(T:BM Z):fo Z u8 f fd:=by
 refine GU F vj [4] [] [] λhr=>?_
 exact(au (cQ 4 vj.nd zq) (au (bW [5,6,7] (b8 (aj 2)) (fY 5 vj.nd) (az (bW [6,7] (b8 (aC T.y6 hr (aa (aj 0) (aa (aj 5) (aa (aj 3) (aa (aj 1) aq)))))) (oH (bA 6 vj.nd (bA 7 vj.nd fQ))) (az (b7 (aQ (jx hr (aj 6) (aj 1))) (az (sy 4 hr (aj 7) (A_ hr T.sA (aM hr (aj 1) (aj 6)) (Aw hr (lK 4) (aj 7) (aM hr (aj 1) (aj 6)))))) aY)) a8)) a8) (cZ (G1:=[]) (az (aL (aj 4))))))
theorem NZ (F:fu Z u7 f fd)(T:BA Z):fo Z u7 f fd:=by
 refine GU F sv [5] [] [] λhr=>?_
 exact(au (cQ 5 sv.nd zq) (au (bW [6,7,8,9,10] (vY T.rX (aj 2) (aj 3) (by simp) (by simp)) (oH (bA 6 sv.nd (bA 7 sv.nd fQ))) (au (aR 8 sv.nd (zp (aQ (qp (aj 6) cO)) (SE.val (aW (aa cO aq))) (aM hr (aC T.tI hr (aa (aj 0) (aa (aj 6) (aa (aj 4) aq)))) (dH ao)))) (az (bW [9,10] (Rn (aC T.y4 hr (aa (aj 1) (aa (aj 7) (aa (aj 8) (aa gZ aq)))))) (oH (bA 9 sv.nd (bA 10 sv.nd fQ))) (az (sy 5 hr (aj 9) (A_ hr T.sA (aj 10) (Aw hr (lK 5) (aj 9) (aj 10))))) a8))) a8) (cZ (G1:=[]) (az (aL (aj 5))))))
theorem Hf (F:fu Z xE f fd)(T:Zq Z):fo Z xE f fd:=by
 refine GU F sT [1] [] [] λhr=>?_
 exact(au (cQ 1 sT.nd (aW aq)) (au (bW [2,3,4,5] (uO T.sf (aj 0)) (oH (bA 2 sT.nd (bA 3 sT.nd fQ))) (au (eG 1 (bz (aa (aj 2) (aa ao (aa ao aq))))) (az (bW [4,5] (uO T.sf (aM hr (aj 3) ao)) (oH (bA 4 sT.nd (bA 5 sT.nd fQ))) (az (Ec 1 (SE.val (bU (HG:=(aA pG)) (ON:=["metre","states","slot","told","number","pattern"]) (N:=["at","slot","number"]) (FF:=[none,some 2,some 4]) LM (jr 0) (Yr T.rS ao (bZ T.rj (aj 5))) (λ_ _ _ _=>b_ 0) (λ_ _ _ _=>bR) (λ_ _ _ _=>(bz (aa (aj 1) (aa (aj 2) (aa (aj 0) aq))))))))) a8))) a8) (cZ (G1:=[]) (az (aL (aj 1))))))
theorem Ab (F:fu Z xD f fd)(T:Zq Z):fo Z xD f fd:=by
 refine GU F z0 [] [] [] λhr=>?_
 exact(au (aR 3 z0.nd (aM hr (aj 1) ao)) (au (aR 4 z0.nd (bF (aM hr (aj 1) ao) ao)) (au (b7 (aQ (zm (aj 4) (bZ T.rj (aM hr (aM hr (aM hr (aj 0) (aj 3)) ao) (aM hr (aj 1) ao))))) (az (aL (bz (aa (aj 3) (aa (aM hr (aj 1) ao) (aa (aj 4) aq)))))) aY) (au (b7 (SW.st (vQ (dX (aM hr (aM hr (aj 0) (aj 3)) ao)) (um (vO (dX (aj 2)))))) (az (aL cO)) aY) (az (aL (bz (aa (bF (aj 3) ao) (aa ao (aa ao aq))))))))))
theorem DR (F:fu Z xC f fd)(T:Zq Z):fo Z xC f fd:=by
 refine GU F Dv [] [] [] λhr=>?_
 exact(az (aL (Rh (bQ (cz hr (aj 0) (aj 1))) (fW (bQ (cz hr (aj 0) aJ))))))
theorem Hx (F:fu Z xz f fd)(T:BN Z):fo Z xz f fd:=by
 refine GU F se [8] [] [] λhr=>?_
 exact(au (b7 (aQ (cz hr (aj 1) (aC T.tq hr (aa (aj 0) aq)))) (az (aL (SE.val (aW aq)))) aY) (au (aR 4 se.nd (aM hr (aj 1) ao)) (au (aR 5 se.nd (aM hr (aj 1) ao)) (au (aR 6 se.nd (aM hr (aM hr (aj 0) (aj 4)) ao)) (au (aR 7 se.nd (zp (aQ (cz hr (aj 5) ao)) (SE.val (PK T.rq T.rS (bZ T.rj (aj 6)))) (SE.val (aW (aa (aM hr (aj 1) ao) aq))))) (au (cQ 8 se.nd (aW aq)) (au (bW [9,10] (b8 (aj 7)) (fY 9 se.nd) (au (aR 10 se.nd (aC T.Db hr (aa (aj 0) (aa (bz (aa (aj 4) (aa (aj 9) (aa (aj 5) aq)))) (aa (aj 3) aq))))) (az (b7 (SW.st (vQ (aQ (yz (aj 10) cO)) (um (dX (aC T.Da hr (aa (aM hr (aM hr (aj 6) (aj 9)) (aj 5)) (aa (aj 2) aq))))))) (az (eG 8 (bz (aa (aj 9) (aa (aj 10) aq))))) aY))) a8) (cZ (G1:=[]) (az (aL (aj 8)))))))))))
theorem Hy (F:fu Z xS f fd)(T:B3 Z):fo Z xS f fd:=by
 refine GU F Ap [3] [] [] λhr=>?_
 exact(au (cQ 3 Ap.nd (aW aq)) (au (bW [4] (b8 (aC T.Dx hr (aa (aj 0) aq))) (fY 4 Ap.nd) (az (Ec 3 (SE.val (bU (HG:=(aA qK)) (ON:=["metre","mark","ends","steps","state"]) (N:=["pattern","reached","state"]) (FF:=[none,none,some 4]) LM (qX [0,1]) (b8 (aC T.C7 hr (aa (aj 0) (aa (aj 4) (aa (aj 1) (aa (aj 2) aq)))))) (λ_ _ _ _=>jh rfl (bw (b_ 0) (bw (b_ 1) gB))) (λ_ _ _ _=>bR) (λ_ _ _ _=>(bz (aa (aj 2) (aa (aj 1) aq)))))))) a8) (cZ (G1:=[]) (az (aL (aj 3))))))
theorem Hg (F:fu Z sK f fd)(T:AZ Z):fo Z sK f fd:=by
 refine GU F yb [1] [] [] λhr=>?_
 exact(au (cQ 1 yb.nd zq) (au (bW [2,3] (b8 (bz (aa aJ (aa aJ aq)))) (fY 2 yb.nd) (az (bW [3] (b8 (bz (aa gZ (aa gZ aq)))) (fY 3 yb.nd) (az (sy 1 hr (bz (aa (aj 2) (aa (aj 3) aq))) (aC T.DC hr (aa (aj 0) (aa (aj 2) (aa (aj 3) aq)))))) a8)) a8) (cZ (G1:=[]) (az (aL (aj 1))))))
theorem yd (F:fu Z vc f fd)(T:Zq Z):fo Z vc f fd:=by
 refine GU F xX [] [] [] λhr=>?_
 exact(az (aL (SE.val (ul (aW (aa (SE.val (aW (aa cO aq))) aq)) (bU (HG:=(aA jf)) (ON:=["choices"]) (N:=["told"]) (FF:=[none]) LM (jr 0) (b8 (aj 0)) (λ_ _ _ _=>b_ 0) (λ_ _ _ _=>bR) (λ_ _ _ _=>(SE.val (bU (ON:=["told"]) (N:=["word","price"]) (FF:=[none,none]) ZM (qX [0,1]) (b8 (aj 0)) (λ_ _ _ _=>jh rfl (bw (b_ 0) (bw (b_ 1) gB))) (λ_ _ _ _=>bR) (λ_ _ _ _=>(aj 0))))))))))
theorem Hh (F:fu Z xl f fd)(T:BE Z):fo Z xl f fd:=by
 refine GU F G9 [] [] [] λhr=>?_
 exact(az (aL (Th hr (aC T.y3 hr (aa (aj 0) (aa (aC T.tm hr (aa (aj 1) aq)) (aa (aM hr (aC T.y7 hr (aa (aj 2) aq)) (dH ao)) (aa (aj 3) (aa cO aq)))))) (aC T.tq hr (aa (aj 1) aq)))))
theorem N5 (F:fu Z wP f fd)(T:Zq Z):fo Z wP f fd:=by
 refine GU F NT [] [] [] λhr=>?_
 exact(az (aL (SE.val (Qg hr T.vx (bU (HG:=(aA vf)) (ON:=["values","word","price"]) (N:=["state","value","price","word"]) (FF:=[none,none,some 2,some 1]) LM (qX [0,1]) (Rn (aj 0)) (λ_ _ _ _=>jh rfl (bw (b_ 0) (bw (b_ 1) gB))) (λ_ _ _ _=>bR) (λ_ _ _ _=>(bz (aa (aj 0) (aa (bz (aa (bF (aM hr (aj 1) ao) (aj 2)) (aa (Qe (aM hr (aj 1) ao) (bz (aa (aj 3) aq))) aq))) aq)))))))))
theorem Kg (F:fu Z xL f fd)(T:B0 Z):fo Z xL f fd:=by
 refine GU F yy [] [] [] λhr=>?_
 exact(au (aR 5 yy.nd (aC T.y3 hr (aa (aj 0) (aa (aj 1) (aa (aj 2) (aa (aj 3) (aa (aj 4) aq))))))) (au (bW [6] (b8 (dR (aC T.tI hr (aa (aj 0) (aa (aj 4) (aa cO aq)))) dD (bT (dH ao)))) (fY 6 yy.nd) (az (aR 5 yy.nd (aC T.y4 hr (aa (aj 1) (aa (aj 5) (aa (aj 6) (aa gZ aq))))))) a8) (az (aL (aj 5)))))
theorem Ac (F:fu Z xo f fd)(T:BF Z):fo Z xo f fd:=by
 refine GU F sw [5] [] [] λhr=>?_
 exact(au (aR 3 sw.nd (aC T.tm hr (aa (aj 1) aq))) (au (aR 4 sw.nd (aC T.y7 hr (aa (aj 2) aq))) (au (cQ 5 sw.nd (aW (aa (SE.val (aW (aa (SE.val (Mp hr (Jx T.sD (T.wc)) (bz (aa ao (aa (bz aq) aq))))) aq))) aq))) (au (bW [6,7,8] (vY T.rX (aj 4) (aj 2) (by simp) (by simp)) (oH (bA 6 sw.nd (bA 7 sw.nd fQ))) (au (aR 8 sw.nd (aM hr (lK 5) (dH ao))) (az (eG 5 (SE.val (bU (HG:=(aA j_)) (ON:=["tongue","metre","choices","steps","words","layers","ahead","told","layer"]) (N:=["word","price","tongue","steps","ahead","layer"]) (FF:=[none,none,some 0,some 3,some 6,some 8]) LM (qX [0,1]) (b8 (aj 7)) (λ_ _ _ _=>jh rfl (bw (b_ 0) (bw (b_ 1) gB))) (λ_ _ _ _=>bR) (λ_ _ _ _=>(aC T.CD hr (aa (aC T.DB hr (aa (aj 2) (aa (aj 3) (aa (aj 4) (aa (aj 5) (aa (aj 0) aq)))))) (aa (aj 0) (aa (aj 1) aq)))))))))) a8) (cZ (G1:=[]) (az (aL (aj 5))))))))
theorem Us (F:fu Z xw f fd)(T:BI Z):fo Z xw f fd:=by
 refine GU F zI [] [] [] λhr=>?_
 exact(au (aR 4 zI.nd (aC T.CB hr (aa (aj 0) (aa (aj 1) (aa (aj 3) aq))))) (au (aR 5 zI.nd (aC T.C3 hr (aa (aj 0) (aa (aj 2) (aa (aj 4) (aa (aM hr (aC T.C5 hr (aa (aj 0) (aa (aj 2) (aa (aj 4) aq)))) (dH ao)) aq)))))) (az (aL (zp (aQ (qp (aj 5) cO)) cO (bz (aa (aM hr (aj 5) ao) (aa (SE.val (uo T.rq (aM hr (aj 5) ao))) aq))))))))
theorem Hi (F:K0 Z.K "_law_rows" "_law_rows" uc f fd)(T:Zq Z):GV Z.P Z.w Z.K Z.mg Z.base MO 1 f fd ["_law_cell"] (Kj ⟨Z.K,Z.cl⟩ jQ true):=by
 refine GU F ya [2] [2] [] λhr=>?_
 exact(au (aR 1 ya.nd (SE.val (aW (aa aJ (aa aJ (aa aJ (aa aJ (aa aJ (aa aJ (aa aJ (aa aJ aq))))))))))) (au (cQ 2 ya.nd (aW (aa aJ aq))) (au (bW [3] (xn T.rS ao) (fY 3 ya.nd) (az (b7 (SW.st (vQ (aQ (cz hr (cG (e_ (aj 0) (aM hr (aW (aa ao (aa ao (aa ao (aa ao (aa ao (aa ao (aa ao (aa ao aq))))))))) (aj 3))) ao) ao)) (um (SW.st (o_ (aQ (mD hr (aj 3) ao)) (mF (aQ (cz hr (cG (aj 0) ao) ao)))))))) (az (eG 2 (aM hr (aj 1) (aj 3)))) aY)) a8) (au (eG 2 (bF aJ (aM hr (aW (aa aJ (aa aJ (aa aJ (aa aJ aq))))) (cG (e_ (aj 0) ao) ao)))) (az (Ln 2))))))
theorem Hz (F:fu Z va f fd)(T:B5 Z):fo Z va f fd:=by
 refine GU F AS [] [] [] λhr=>?_
 exact(au (aR 2 AS.nd (SE.val (ul (dR (aj 1) (bT ao) dD) (aW (aa cO aq))))) (az (aL (SE.val (bU (HG:=(aA qL)) (ON:=["tongue","words","follows"]) (N:=["word","follow","tongue"]) (FF:=[none,none,some 0]) LM (qX [0,1]) (vY T.rX (aj 1) (aj 2) (by simp) (by simp)) (λ_ _ _ _=>jh rfl (bw (b_ 0) (bw (b_ 1) gB))) (λ_ _ _ _=>bR) (λ_ _ _ _=>(aC T.tI hr (aa (aj 2) (aa (aj 0) (aa (aj 1) aq))))))))))
theorem Kh (F:fu Z uj f fd)(T:Zq Z):fo Z uj f fd:=by
 refine GU F zC [1] [] [] λhr=>?_
 exact(au (cQ 1 zC.nd (aW aq)) (au (bW [2] (b8 (aj 0)) (fY 2 zC.nd) (az (Ec 1 (SE.val (ul (Wt (aW (aa gZ aq)) (Fg (bZ T.rj (aj 2)) ao)) (aW (aa gZ aq)))))) a8) (cZ (G1:=[]) (az (aL (aj 1))))))
theorem Kl (F:fu Z xA f fd)(T:BS Z):fo Z xA f fd:=by
 refine GU F J9 [] [] [] λhr=>?_
 exact(az (aL (SE.val (bU (HG:=(aA tG)) (ON:=["table","saying"]) (N:=["option","ends"]) (FF:=[none,none]) LM (qX [0,1]) (vY T.rX (aj 1) (aC T.yB hr (aa (aj 0) aq)) (by simp) (by simp)) (λ_ _ _ _=>jh rfl (bw (b_ 0) (bw (b_ 1) gB))) (λ_ _ _ _=>oE (aQ (yz (aj 0) cO))) (λ_ _ _ _=>(bz (aa (aM hr (aj 0) ao) (aa (aj 1) aq))))))))
theorem DW (F:fu Z sN f fd)(T:Zq Z):fo Z sN f fd:=by
 refine GU F zS [1] [] [] λhr=>?_
 exact(au (cQ 1 zS.nd (aW aq)) (au (bW [2] (b8 (aj 0)) (fY 2 zS.nd) (az (Ec 1 (aj 2))) a8) (cZ (G1:=[]) (az (aL (aj 1))))))
theorem Hj (F:fu Z xB f fd)(T:BU Z):fo Z xB f fd:=by
 refine GU F vk [2] [2] [] λhr=>?_
 exact(au (cQ 2 vk.nd (aW aq)) (au (aR 3 vk.nd (aj 1)) (au (bW [4] (LR T.si (aC T.tF hr (aa (aj 0) aq)) (by simp)) (fY 4 vk.nd) (au (eG 2 (aM hr (aj 4) (cG (aj 3) (bZ T.rj (aj 4))))) (az (aR 3 vk.nd (e_ (aj 3) (bZ T.rj (aj 4)))))) a8) (az (aL (SE.val (Fz T.rq T.si (lK 2))))))))
theorem Ad (F:fu Z xt f fd)(T:BH Z):fo Z xt f fd:=by
 refine GU F yn [] [] [] λhr=>?_
 exact(au (aR 1 yn.nd ao) (au (bW [2] (b8 (aC T.tF hr (aa (aj 0) aq))) (fY 2 yn.nd) (az (aR 1 yn.nd (jL (aj 1) (bZ T.rj (aj 2))))) a8) (az (aL (aj 1)))))
theorem Hk (F:fu Z wo f fd)(T:AX Z):fo Z wo f fd:=by
 refine GU F AN [] [] [] λhr=>?_
 exact(au (aR 3 AN.nd (aC T.vS hr (aa (aj 0) (aa (aj 1) aq)))) (az (aL (aC T.C8 hr (aa (aj 3) (aa (aC T.C9 hr (aa (aj 3) (aa (cG (aj 2) (aC T.C6 hr (aa (aj 3) aq))) aq))) aq))))))
theorem Ae (F:fu Z wS f fd)(T:A3 Z):fo Z wS f fd:=by
 refine GU F vi [4] [] [] λhr=>?_
 exact(au (cQ 4 vi.nd zq) (au (bW [5,6,7] (b8 (aj 1)) (fY 5 vi.nd) (az (bW [6,7] (b8 (aC T.y6 hr (aa (aj 0) (aa (aj 5) (aa (aj 2) (aa (aj 3) aq)))))) (oH (bA 6 vi.nd (bA 7 vi.nd fQ))) (az (b7 (aQ (jx hr (aj 7) (aj 3))) (az (sy 4 hr (aj 6) (bF (Aw hr (lK 4) (aj 6) ao) (aM hr (aj 3) (aj 7))))) aY)) a8)) a8) (cZ (G1:=[]) (az (aL (aj 4))))))
theorem uE (F:fu Z wT f fd)(T:A4 Z):fo Z wT f fd:=by
 refine GU F so [4] [4] [] λhr=>?_
 exact(au (aR 2 so.nd (aC T.tm hr (aa (aj 1) aq))) (au (aR 3 so.nd (SE.val (Mp hr (aC T.tq hr (aa (aj 1) aq)) ao))) (au (cQ 4 so.nd (aW (aa (aj 3) aq))) (au (bW [5,6] (LR T.si (P_ T.rq T.rX (aC T.tF hr (aa (aj 0) aq)) (aC T.yB hr (aa (aj 0) aq))) (by simp)) (oH (bA 5 so.nd (bA 6 so.nd fQ))) (au (aR 3 so.nd (aC T.CF hr (aa (aj 2) (aa (aj 5) (aa (aj 6) (aa (aj 3) aq)))))) (az (eG 4 (aj 3)))) a8) (az (aL (SE.val (Fz T.rq T.si (lK 4)))))))))
theorem yX (F:fu Z xp f fd)(T:BG Z):fo Z xp f fd:=by
 refine GU F yV [] [] [] λhr=>?_
 exact(az (aL (Td hr (aM hr (aC T.CH hr (aa (aj 0) (aa (aj 1) aq))) ao) (Jx T.sD (T.wc)) ao)))
theorem Xv (F:fu Z zw f fd)(T:BD Z):fo Z zw f fd:=by
 refine GU F rp [] [] [] λhr=>?_
 exact(au (aR 1 rp.nd (SE.val (S6 (c:=0) T.T2 hr (aa (SE.val (uM T.Cf hr (aa (aC T.vF hr (aa (aj 0) (aa ao aq))) aq))) aq)))) (au (aR 2 rp.nd (aC T.Cs hr (aa (bF (dR (aj 0) (bT ao) (bT ao)) (dR (aW (aa ao aq)) (bT (e_ (bZ T.rj (aj 0)) ao)) dD)) aq))) (au (aR 3 rp.nd (aC T.Cc hr (aa (aj 2) (aa (aC T.vF hr (aa (aj 0) (aa ao aq))) (aa ao aq))))) (au (aR 4 rp.nd (aC T.B8 hr (aa (aj 2) (aa (aj 3) aq)))) (au (aR 5 rp.nd (aC T.vF hr (aa (aj 0) (aa ao aq)))) (au (aR 6 rp.nd (aM hr (aM hr (aj 4) (cG (e_ (aj 5) ao) (bZ T.rj (aj 4)))) ao)) (au (b7 (aQ (cz hr (cG (aj 5) ao) ao)) (az (Lx 6 rp.nd (HG:=(aA vg)) (ON:=["_law_script","_law_tongue","_law_words_here","_law_others_here","_law_rows_here","_law_n","_law_target","_law_metre","_law_due","_law_price","_law_row","_law_handed","_law_found"]) (N:=["_law_k","_law_n"]) (FF:=[none,some 5]) LM (jr 0) (xn T.rS (bF ao (cG (e_ (aj 5) ao) ao))) (λ_ _ _ _=>b_ 0) (λ_ _ _ _=>bR) (λ_ _ _ _=>(aC T.tj hr (aa (aC T.r9 hr (aa (aj 1) (aa (bF ao (aj 0)) aq))) aq))))) aY) (au (aR 7 rp.nd (aC T.Cb hr (aa (aC T.Co hr (aa (aj 1) (aa (aj 6) (aa (aC T.vF hr (aa (aj 0) (aa ao aq))) aq)))) (aa (aj 5) aq)))) (au (aR 8 rp.nd cO) (au (bW [9,10] (b8 (aj 4)) (oH (bA 9 rp.nd (bA 10 rp.nd fQ))) (az (b7 (SW.st (vQ (SW.st (o_ (aQ (qp (aj 8) cO)) (mF (aQ (zm (aj 9) (aj 8)))))) (um (aQ (su (aC T.Au hr (aa (aC T.vS hr (aa (aj 1) (aa (aj 10) aq))) (aa (aj 7) aq))) ao))))) (az (aR 8 rp.nd (aj 9))) aY)) a8) (au (aR 11 rp.nd (SE.val (aW (aa (SE.val (uo T.rq (aj 2))) (aa (SE.val (uo T.rq (aj 3))) aq))))) (au (aR 12 rp.nd (aC T.AA hr (aa (aj 1) (aa (aM hr (aj 11) ao) (aa (aj 7) (aa (aM hr (aj 11) ao) aq)))))) (au (b7 (SW.st (o_ (aQ (mD hr (aj 11) (aW (aa (aj 2) (aa (aj 3) aq))))) (mF (aQ (yz (aC T.AA hr (aa (aj 1) (aa (SE.val (aW aq)) (aa (aj 7) (aa (aj 3) aq))))) cO))))) (az (aL gZ)) aY) (au (b7 (SW.st (o_ (aQ (qp (aj 8) cO)) (mF (aQ (qp (aj 12) cO))))) (az (aL (fc (bQ (qp (aj 12) cO)) (fW (bQ (qp (aj 8) cO)))))) aY) (au (b7 (SW.st (o_ (vO (dX (Fv IX T.ui T.sx T.sB nB (aj 12)))) (o_ (aQ (mD hr (bZ T.rj (aj 12)) ao)) (mF (dX (Fv KA T.ua T.sx T.vv PyProof.Rows.boot_bool (aM hr (aj 12) ao))))))) (az (aL gZ)) aY) (au (b7 (SW.st (o_ (aQ (mD hr (aM hr (aj 12) ao) (aj 8))) (mF (aQ (yx hr (bz (aa (aM hr (aj 12) ao) (aa (aM hr (aj 12) ao) aq))) (aj 4)))))) (az (aL gZ)) aY) (az (aL (bQ (su (aC T.Au hr (aa (aC T.vS hr (aa (aj 1) (aa (aM hr (aj 12) ao) aq))) (aa (aj 7) aq))) ao))))))))))))))))))))
end
end
def Eg (K:W.Frag):Sp:=λvs H Q _=>∃(a:Addr) (ns:qS),vs=[V.ref a]/\Y3 H/\F8 K H a (ns.map V.int)/\ns.length<=63/\∀J,Q (.bl true) J
theorem Xw {K:W.Frag}{cl:Nat->Addr}{vs:List V}{H:Hp}{Q:VK}{E:XK}(h:Eg K vs H Q E):Kj ⟨K,cl⟩ zR false vs H Q E:=by
 obtain⟨a,ns,rfl,ho,hs,hl,k⟩:=h
 have ri:Fu ⟨K,cl⟩ (λ_=>True) H (ns.map V.int) (ns.map PV.int):=w5 _ _ (λi=>.int i) ns
 refine⟨λ_=>True,[.frz (ns.map PV.int)],.bl true,.cons ?_ .nil,TZ ns hl,λv H' s r=>?_⟩
 ·rcases hs with (hs | ⟨o,hs⟩) | hs
  ·rcases ho a with z | ⟨o,xs,z⟩
   ·rw[z] at hs;cases hs
   ·rw[z] at hs;cases hs
  ·exact .Nw hs ri
  ·exact .lstK (.inr hs) ri
 ·cases r
  exact k _
structure Gf (K:W.Frag)(x:Str)(st:Stmt)(f:Addr)(fd:FuncData):Prop where
 a:W.nsIn K mainGlobals x=some (some (.ref f))
 F:K0 K x x st f fd
theorem km {K:W.Frag}{h:Heap}{mg:Str->Option Value}{P:Program}{w:World}{base:Heap}{k:Nat}{x:Str}{ps:qE}{sp:Sp}{st:Stmt}{f:Addr}{fd:FuncData}(X:K.In h)(G:h.Ns mainGlobals mg)(F:Gf K x st f fd)(hb:Binds K fd ps [])(o:GV P w K mg base MO k f fd ps sp):X2 P w K mg base k x ps sp:=V1 F.F (W.mg_of X G F.a) hb o
theorem all_mk {l:W.OpenLaw}{w:World}{K:W.Frag}{h:Heap}{mg:Str->Option Value}{fa:Addr}(X:K.In h)(G:h.Ns mainGlobals mg)(hfa:mg "law" = some (.ref fa))
  (aC_Tongue:W.nsIn K mainGlobals "Tongue" = some (some (.ref C_Tongue)))
  (F_0:Gf K "told_behind" p_ f_0 d_0)
  (F_1:Gf K "last_run" u6 f_1 d_1)
  (F_2:Gf K "told_alike" rM f_2 d_2)
  (F_3:Gf K "is_letter" tX f_3 d_3)
  (F_4:Gf K "is_carry_row" j8 f_4 d_4)
  (F_5:Gf K "is_pair_of" rN f_5 d_5)
  (F_6:Gf K "is_one_row" nR f_6 d_6)
  (F_7:Gf K "is_stop" wG f_7 d_7)
  (F_8:Gf K "are_alike_units" fG f_8 d_8)
  (F_9:Gf K "is_cluster" nU f_9 d_9)
  (F_10:Gf K "is_rule" pU f_10 d_10)
  (a_11:W.findIn K (.ref C_Tongue) "__init__" = some (some (.ref f_11)))
  (i_11:W.isFn K (.ref f_11)=true)
  (F_11:K0 K "__init__" "Tongue.__init__" dj f_11 d_11)
  (F_12:Gf K "_law_word" tY f_12 d_12)
  (F_13:Gf K "_law_mixed" rO f_13 d_13)
  (F_14:Gf K "_law_words" nY f_14 d_14)
  (F_15:Gf K "_law_others" qb f_15 d_15)
  (F_16:Gf K "_law_choices" j9 f_16 d_16)
  (F_17:Gf K "_law_all" u9 f_17 d_17)
  (F_18:Gf K "_law_cell_at" oY f_18 d_18)
  (F_19:Gf K "_law_metre_of" jH f_19 d_19)
  (a_20:W.findIn K (.ref C_Tongue) "carries" = some (some (.ref f_20)))
  (i_20:W.isFn K (.ref f_20)=true)
  (F_20:K0 K "carries" "Tongue.carries" kY f_20 d_20)
  (F_21:Gf K "is_word" pW f_21 d_21)
  (F_22:Gf K "refuse_no_word" lV f_22 d_22)
  (F_23:Gf K "choices_of" nZ f_23 d_23)
  (F_24:Gf K "choices_by_word" h_ f_24 d_24)
  (F_25:Gf K "end_state" tZ f_25 d_25)
  (a_26:W.findIn K (.ref C_Tongue) "is_pair" = some (some (.ref f_26)))
  (i_26:W.isFn K (.ref f_26)=true)
  (F_26:K0 K "is_pair" "Tongue.is_pair" kZ f_26 d_26)
  (F_27:Gf K "units_of" u_ f_27 d_27)
  (F_28:Gf K "carriers_of" lJ f_28 d_28)
  (F_29:Gf K "gaps_of" wH f_29 d_29)
  (a_30:W.findIn K (.ref C_Tongue) "splits" = some (some (.ref f_30)))
  (i_30:W.isFn K (.ref f_30)=true)
  (F_30:K0 K "splits" "Tongue.splits" lW f_30 d_30)
  (a_31:W.findIn K (.ref C_Tongue) "begins" = some (some (.ref f_31)))
  (i_31:W.isFn K (.ref f_31)=true)
  (F_31:K0 K "begins" "Tongue.begins" lX f_31 d_31)
  (F_32:Gf K "staying" wI f_32 d_32)
  (F_33:Gf K "syllables_of" oZ f_33 d_33)
  (a_34:W.findIn K (.ref C_Tongue) "weight" = some (some (.ref f_34)))
  (i_34:W.isFn K (.ref f_34)=true)
  (F_34:K0 K "weight" "Tongue.weight" lY f_34 d_34)
  (F_35:Gf K "ways_of" wJ f_35 d_35)
  (a_36:W.findIn K (.ref C_Tongue) "run" = some (some (.ref f_36)))
  (i_36:W.isFn K (.ref f_36)=true)
  (F_36:K0 K "run" "Tongue.run" qd f_36 d_36)
  (F_37:Gf K "last_ways" t6 f_37 d_37)
  (F_38:Gf K "options_of" n_ f_38 d_38)
  (F_39:Gf K "walked_by" pD f_39 d_39)
  (F_40:Gf K "moved" Bo f_40 d_40)
  (F_41:Gf K "joined" yU f_41 d_41)
  (F_42:Gf K "states_of" pG f_42 d_42)
  (F_43:Gf K "state_behind" o7 f_43 d_43)
  (F_44:Gf K "stands_for" rQ f_44 d_44)
  (F_45:Gf K "moves_of" vd f_45 d_45)
  (F_46:Gf K "steps_by" qK f_46 d_46)
  (F_47:Gf K "all_steps" t7 f_47 d_47)
  (F_48:Gf K "words_by_layer" jf f_48 d_48)
  (F_49:Gf K "least_end" t_ f_49 d_49)
  (F_50:Gf K "chosen" vf f_50 d_50)
  (F_51:Gf K "stepped" wK f_51 d_51)
  (F_52:Gf K "least_layers" j_ f_52 d_52)
  (F_53:Gf K "mend" G5 f_53 d_53)
  (F_54:Gf K "_law_rows" uc f_54 d_54)
  (F_55:Gf K "table_of" qL f_55 d_55)
  (F_56:Gf K "ends_in" wL f_56 d_56)
  (F_57:Gf K "said_of" tG f_57 d_57)
  (F_58:Gf K "options_in" rR f_58 d_58)
  (F_59:Gf K "saying_at" ud f_59 d_59)
  (F_60:Gf K "many_sayings" o8 f_60 d_60)
  (F_61:Gf K "_law_said" ue f_61 d_61)
  (F_62:Gf K "counts_ahead" o9 f_62 d_62)
  (F_63:Gf K "counts_by_syllable" jg f_63 d_63)
  (F_64:Gf K "many_readings" oh f_64 d_64)
  (F_65:Gf K "law" vg f_65 d_65)
  (pg_Tongue:W.plainGet K C_Tongue Str.empty=true)
  (hd_Tongue:W.hasDictIn K C_Tongue=true)
  (po_Tongue:W.plainOver K C_Tongue=true)
  (sa_Tongue:W.findIn K (.ref C_Tongue) "__setattr__" = some (some (.builtin "object.__setattr__")))
  (mk_Tongue:W.makesIn K C_Tongue=true)
  (kc_Tongue:W.keepIn K (.ref C_Tongue)=true)
  (nf_Tongue_beginnings:W.findIn K (.ref C_Tongue) "beginnings" = some none)
  (nf_Tongue_carrying:W.findIn K (.ref C_Tongue) "carrying" = some none)
  (nf_Tongue_eithers:W.findIn K (.ref C_Tongue) "eithers" = some none)
  (nf_Tongue_likes:W.findIn K (.ref C_Tongue) "likes" = some none)
  (nf_Tongue_longs:W.findIn K (.ref C_Tongue) "longs" = some none)
  (nf_Tongue_pairs:W.findIn K (.ref C_Tongue) "pairs" = some none)
  (nf_Tongue_running:W.findIn K (.ref C_Tongue) "running" = some none)
  (nf_Tongue_splittings:W.findIn K (.ref C_Tongue) "splittings" = some none)
  (rL:W.nsIn K mainGlobals "all" = some none)
  (vt:W.nsIn K mainGlobals "any" = some none)
  (vv:W.nsIn K mainGlobals "bool" = some none)
  (vx:W.nsIn K mainGlobals "dict" = some none)
  (sf:W.nsIn K mainGlobals "enumerate" = some none)
  (sh:W.nsIn K mainGlobals "int" = some none)
  (sx:W.nsIn K mainGlobals "isinstance" = some none)
  (rj:W.nsIn K mainGlobals "len" = some none)
  (rq:W.nsIn K mainGlobals "list" = some none)
  (sA:W.nsIn K mainGlobals "min" = some none)
  (rS:W.nsIn K mainGlobals "range" = some none)
  (si:W.nsIn K mainGlobals "reversed" = some none)
  (vE:W.nsIn K mainGlobals "str" = some none)
  (sB:W.nsIn K mainGlobals "tuple" = some none)
  (rX:W.nsIn K mainGlobals "zip" = some none)
  (tT:W.nsIn K mainGlobals "LEAST_STOPS" = some (some (.int 2 IM)))
  (t3:W.nsIn K mainGlobals "LETTERS" = some (some (.str "abcdefghijklmnopqrstuvwxyz" L0)))
  (t4:W.nsIn K mainGlobals "MOST_LETTERS" = some (some (.int 24 IF)))
  (t5:W.nsIn K mainGlobals "MOST_STOPS" = some (some (.int 4 JI)))
  (t9:W.nsIn K mainGlobals "RUNS" = some (some (.ref L5)))
  (zl:K.lookup L5=some ⟨.type "tuple",o_RUNS,.seq #[.str "never" t_RUNS_0,.str "may" t_RUNS_1,.str "must" t_RUNS_2] n_RUNS,sl_RUNS⟩)
  (sD:W.nsIn K mainGlobals "START" = some (some (.ref KI)))
  (zo:K.lookup KI=some ⟨.type "tuple",o_START,.seq #[.int 0 t_START_0,.int 0 t_START_1,.int 0 t_START_2] n_START,sl_START⟩)
  (ua:∀t k,(t,k)∈KA->W.kitOne K (.type t) (.type "bool")=some k)
  (ub:∀t k,(t,k)∈LX->W.kitOne K (.type t) (.type "str")=some k)
  (ui:∀t k,(t,k)∈IX->W.kitOne K (.type t) (.type "tuple")=some k):
  ∃fd:FuncData,(∀(s:Shared) (v:Value),BindsTo s fd ⟨[v],[]⟩ [("_law_script",v)])/\∀base:Heap,K.In base->base.Ns mainGlobals mg->GV l.prog w K mg base MO 11 fa fd ["_law_script"] (Eg K):=by
 have mo {x:Str}{v:Value}(h:W.nsIn K mainGlobals x=some (some v)):mg x=some v:=W.mg_of X G h
 have e:=hfa.symm.trans (mo F_65.a)
 cases e
 obtain⟨_,_,kV_65,dc_65,pm_65,an_65,cd_65,ct_65,_,rfl,_,_⟩:=F_65.F.ex
 refine⟨W.fnOf "law" "law" (jn vg) (gC vg) (aA vg) .none kV_65 dc_65 pm_65 an_65 cd_65 ct_65,λs v=>.of_eq rfl,λbase _ _=>?_⟩
 let cl:Nat->Addr:=λn=>match n with | 0=>C_Tongue | _=>0
 let Z:Z7:={ P:=l.prog,w,K,mg,base,cl,IM,L0,IF,JI,L5,KI }
 have FA:N9 K (cl 0):=⟨pg_Tongue,hd_Tongue,po_Tongue,sa_Tongue⟩
 have zv:∀(B:Addr->Prop) (H:Hp),Rep ⟨K,cl⟩ B H (.ref L5) ut:=λB H=>.tupK (vs:=[V.str "never",V.str "may",V.str "must"]) (.inr ⟨_,_,_,zl,rfl,rfl,(by show 3<=sizeLine;decide),(.cons ⟨_,rfl⟩ (.cons ⟨_,rfl⟩ (.cons ⟨_,rfl⟩ .nil)))⟩) (.cons (.str _) (.cons (.str _) (.cons (.str _) .nil)))
 have wc:∀(B:Addr->Prop) (H:Hp),Rep ⟨K,cl⟩ B H (.ref KI) l_:=λB H=>.tupK (vs:=[V.int 0,V.int 0,V.int 0]) (.inr ⟨_,_,_,zo,rfl,rfl,(by show 3<=sizeLine;decide),(.cons ⟨_,rfl⟩ (.cons ⟨_,rfl⟩ (.cons ⟨_,rfl⟩ .nil)))⟩) (.cons (.int _) (.cons (.int _) (.cons (.int _) .nil)))
 have zn {x:Str}(h:W.nsIn K mainGlobals x=some none):mg x=none:=W.mg_none_of X G h
 have q:Zq Z:=⟨zn rL,zn vt,zn vv,zn vx,zn sf,zn sh,zn sx,zn rj,zn rq,zn sA,zn rS,zn si,zn vE,zn sB,zn rX,mo tT,mo t3,mo t4,mo t5,mo t9,mo sD,zv,wc,FA,ua,ub,ui,nf_Tongue_beginnings,nf_Tongue_carrying,nf_Tongue_eithers,nf_Tongue_likes,nf_Tongue_longs,nf_Tongue_pairs,nf_Tongue_running,nf_Tongue_splittings⟩
 have E7:=km X G F_0 F_0.F.Lm (Br F_0.F q)
 have EH:=km X G F_1 F_1.F.P5 (Hu F_1.F q)
 have E6:=km X G F_2 F_2.F.P5 (Dw F_2.F q)
 have ze:=km X G F_3 F_3.F.P5 (G_ F_3.F q)
 have AD:=km X G F_4 F_4.F.P5 (z8 F_4.F ⟨q,ze⟩)
 have EE:=km X G F_5 F_5.F.Lm (Dy F_5.F q)
 have AE:=km X G F_6 F_6.F.Lm (Dz F_6.F ⟨q,EE⟩)
 have AF:=km X G F_7 F_7.F.Lm (J_ F_7.F ⟨q,ze⟩)
 have D7:=km X G F_8 F_8.F.Tx (wQ F_8.F ⟨q,AF⟩)
 have ED:=km X G F_9 F_9.F.Lm (DG F_9.F ⟨q,AF⟩)
 have EF:=km X G F_10 F_10.F.Tx (Ka F_10.F ⟨q,D7,AD,ED,AE⟩)
 have G_11:=vC F_11 ⟨q,AD,AE,EF,EH,E6,E7⟩
 have DI:CalI l.prog w K mg base (cl 0) _ "Tongue" _ _:=⟨_,_,G_11,F_11.Lm,⟨mk_Tongue,a_11,i_11,kc_Tongue⟩,mo aC_Tongue⟩
 have y8:=km X G F_12 F_12.F.P5 (Ha F_12.F q)
 have wb:=km X G F_13 F_13.F.Lm (DK F_13.F q)
 have D6:=km X G F_14 F_14.F.P5 (DN F_14.F ⟨q,wb,y8⟩)
 have DZ:=km X G F_15 F_15.F.Tx (Bt F_15.F ⟨q,wb,y8⟩)
 have DU:=km X G F_16 F_16.F.Lm (z9 F_16.F q)
 have DS:=km X G F_17 F_17.F.Lm (Hv F_17.F ⟨q,DU⟩)
 have DT:=km X G F_18 F_18.F.Lm (z_ F_18.F q)
 have DV:=km X G F_19 F_19.F.Lm (yW F_19.F ⟨q,wb⟩)
 have G_20:=wR F_20 q
 have wa:IS l.prog w K mg base (cl 0) _ "carries" _ _:=⟨_,_,G_20,F_20.Lm,⟨a_20,i_20,F_20.kp⟩⟩
 have EG:=km X G F_21 F_21.F.Lm (Kc F_21.F ⟨q,ze,wa⟩)
 have zk:=km X G F_22 F_22.F.Lm (xY F_22.F ⟨q,EG⟩)
 have Ee:=km X G F_23 F_23.F.Lm (DP F_23.F q)
 have D9:=km X G F_24 F_24.F.Tx (wU F_24.F ⟨q,Ee,zk⟩)
 have zd:=km X G F_25 F_25.F.P5 (Hb F_25.F q)
 have G_26:=wV F_26 q
 have DL:IS l.prog w K mg base (cl 0) _ "is_pair" _ _:=⟨_,_,G_26,F_26.Lm,⟨a_26,i_26,F_26.kp⟩⟩
 have E8:=km X G F_27 F_27.F.Lm (Hw F_27.F ⟨q,zk,DL⟩)
 have D8:=km X G F_28 F_28.F.Lm (Bu F_28.F ⟨q,wa⟩)
 have EC:=km X G F_29 F_29.F.Lm (Kd F_29.F ⟨q,wa⟩)
 have G_30:=xZ F_30 q
 have AB:IS l.prog w K mg base (cl 0) _ "splits" _ _:=⟨_,_,G_30,F_30.Lm,⟨a_30,i_30,F_30.kp⟩⟩
 have G_31:=x_ F_31 q
 have DJ:IS l.prog w K mg base (cl 0) _ "begins" _ _:=⟨_,_,G_31,F_31.Lm,⟨a_31,i_31,F_31.kp⟩⟩
 have EW:=km X G F_32 F_32.F.Lm (Ke F_32.F ⟨q,DJ,AB⟩)
 have E5:=km X G F_33 F_33.F.Lm (Aa F_33.F ⟨q,D8,EC,EW,E8,AB⟩)
 have G_34:=yc F_34 q
 have DO:IS l.prog w K mg base (cl 0) _ "weight" _ _:=⟨_,_,G_34,F_34.Lm,⟨a_34,i_34,F_34.kp⟩⟩
 have AK:=km X G F_35 F_35.F.bd4 (Kf F_35.F ⟨q,DO⟩)
 have G_36:=Bv F_36 q
 have DM:IS l.prog w K mg base (cl 0) _ "run" _ _:=⟨_,_,G_36,F_36.P5,⟨a_36,i_36,F_36.kp⟩⟩
 have EI:=km X G F_37 F_37.F.Tx (Hc F_37.F ⟨q,AK,DM⟩)
 have zi:=km X G F_38 F_38.F.Tx (DQ F_38.F ⟨q,EI,zk,E5,AK,wa⟩)
 have AJ:=km X G F_39 F_39.F.bd4 (Hd F_39.F q)
 have AH:=km X G F_40 F_40.F.bd4 (Q6 F_40.F ⟨q,AJ⟩)
 have AG:=km X G F_41 F_41.F.bd5 (NZ F_41.F ⟨q,AH,zi⟩)
 have EV:=km X G F_42 F_42.F.P5 (Hf F_42.F q)
 have EU:=km X G F_43 F_43.F.Tx (Ab F_43.F q)
 have ET:=km X G F_44 F_44.F.Lm (DR F_44.F q)
 have EO:=km X G F_45 F_45.F.bd4 (Hx F_45.F ⟨q,zd,ET,EU⟩)
 have EZ:=km X G F_46 F_46.F.Tx (Hy F_46.F ⟨q,EO,EV⟩)
 have y9:=km X G F_47 F_47.F.P5 (Hg F_47.F ⟨q,EZ⟩)
 have AL:=km X G F_48 F_48.F.P5 (yd F_48.F q)
 have EJ:=km X G F_49 F_49.F.bd4 (Hh F_49.F ⟨q,y9,zd,AG,AL⟩)
 have Ev:=km X G F_50 F_50.F.Tx (N5 F_50.F q)
 have EX:=km X G F_51 F_51.F.bd5 (Kg F_51.F ⟨q,AG,AH,zi⟩)
 have EK:=km X G F_52 F_52.F.Tx (Ac F_52.F ⟨q,y9,Ev,EX,AL⟩)
 have EN:=km X G F_53 F_53.F.bd4 (Us F_53.F ⟨q,D9,EJ,EK⟩)
 have D4:=km X G F_54 F_54.F.P5 (Hi F_54.F q)
 have AI:=km X G F_55 F_55.F.Lm (Hz F_55.F ⟨q,zi⟩)
 have AC:=km X G F_56 F_56.F.P5 (Kh F_56.F q)
 have EQ:=km X G F_57 F_57.F.Lm (Kl F_57.F ⟨q,AC⟩)
 have zh:=km X G F_58 F_58.F.P5 (DW F_58.F q)
 have ES:=km X G F_59 F_59.F.Lm (Hj F_59.F ⟨q,zh⟩)
 have EM:=km X G F_60 F_60.F.P5 (Ad F_60.F ⟨q,zh⟩)
 have D5:=km X G F_61 F_61.F.Tx (Hk F_61.F ⟨q,EM,EQ,ES,AI⟩)
 have EA:=km X G F_62 F_62.F.bd4 (Ae F_62.F ⟨q,AJ⟩)
 have EB:=km X G F_63 F_63.F.Lm (uE F_63.F ⟨q,y9,EA,zd,AC,zh⟩)
 have EL:=km X G F_64 F_64.F.Lm (yX F_64.F ⟨q,EB⟩)
 have G_65:=Xv F_65.F ⟨q,DS,DT,DV,wb,DZ,D4,D5,y8,D6,EL,EN,AI,DI⟩
 exact G_65.imp λvs H Q E h=>Xw h
theorem walk {l:W.OpenLaw}{q:Program}{loose:qE}{XP:(Str->Option Value)->Heap->Prop}{YP:World->Heap->Prop}{d:DefRec}{K:Params->W.Frag}(hn:l.most=some 63)(hdf:d.params.defaults=[])
  (hY:∀(w:World) (h:Heap),YP w h->(K w.params).In h)
  (F:∀(w:World) (mg:Str->Option Value) (fa:Addr) (h:Heap),(K w.params).In h->h.Ns mainGlobals mg->mg d.name=some (.ref fa)->
   ∃fd:FuncData,(∀(s:Shared) (u:Value),BindsTo s fd ⟨[u],[]⟩ [("_law_script",u)])/\∀base:Heap,(K w.params).In base->base.Ns mainGlobals mg->GV l.prog w (K w.params) mg base MO 11 fa fd ["_law_script"] (Eg (K w.params))):
  W.WalkO q loose XP YP l.row.toRowW d [] (λf vs=>PySem.call f vs):=
 L2.Zl (n:=63) (k:=11) (x := "_law_script") (CX:=λ_=>MO) (sp:=λw=>Eg (K w.params)) hn (by decide) hdf ⟨rfl,by decide,by decide⟩ hY F (λ_ _ a ns hl hO hS=>⟨a,ns,rfl,hO,hS,hl,λ_=>rfl⟩) λ_ _ _ _ _ z=>z
end Lake.My
open PySem PySem.W PyProof.Rows
end
namespace PySem.W.Fast
def tw12464207579812860316:=()
def tw11569920772475948786:=()
def tw13124366324143665684:=()
def tw9918950939739929952:=()
def tw15752700730241876308:=()
def tw17184426643178615404:=()
def tw10941473392827818015:=()
def tw6331482454190015701:=()
def tw384853282947635321:=()
def tw10013201269752735148:=()
def tw13645501192864139478:=()
def tw843247006460975494:=()
def tw4134524441862030416:=()
def tw12100384159870745261:=()
def tw9141667312986575210:=()
def tw12906640817945452251:=()
def tw6197374063492558281:=()
def tw1985138537887517893:=()
def tw13117182498697176138:=()
def tw13450512489650738826:=()
def tw11033925676481699486:=()
def tw4944819160534168385:=()
def tw4155603381050835011:=()
def tw16359514460977190980:=()
def tw5671092555750135910:=()
def tw16592876663894174783:=()
def tw9646361202208884602:=()
def tw9692143834259220294:=()
def tw15138037107603540252:=()
def tw7154286360364098506:=()
def tw7630771889525072799:=()
def tw7475502761522187387:=()
def tw9120456267079543466:=()
def tw18304203005467991159:=()
def tw6653914312199276540:=()
def tw6481194045070524006:=()
def tw8623105299473436575:=()
def tw10439636414691554575:=()
def tw13040461371278025561:=()
def tw18019228220995292415:=()
def tw17418216939446124371:=()
def tw18330349763714252005:=()
def tw2368295009386103733:=()
def tw6518563697133073716:=()
def tw14235186961219756515:=()
def tw10974983726110433:=()
def tw13505319764605698803:=()
def tw4318252748236447465:=()
def tw4876835899858200346:=()
def tw955241998256266874:=()
def tw4591150580762536336:=()
def tw10145074944982478980:=()
def tw6256611396675594866:=()
def tw6179529544806934057:=()
def tw17983350290530610915:=()
def tw2728570968573023069:=()
def tw10792711216446635331:=()
def tw15072792173322801499:=()
def tw12594136712147459915:=()
def tw6701421959641431985:=()
def tw10818417735560851978:=()
def tw10858704325170720147:=()
def tw10010384226124445330:=()
def tw1790448315695328034:=()
def tw10804140700265115200:=()
def tw1260594585938595358:=()
def tw16348174850736087364:=()
def tw17533419425844807637:=()
def tw3558208530036673032:=()
def tw1664582515333947020:=()
def tw3834710473600070737:=()
def tw4634403831242938519:=()
def tw5039060607425719934:=()
def tw17380252653511120203:=()
def tw304299147723265527:=()
def tw4070971628335956938:=()
def tw1025238203070267280:=()
def tw6475879415984853567:=()
def tw8007894275481489743:=()
def tw5942801820946562214:=()
def tw12576713543099336283:=()
def tw2300727332646520277:=()
def tw14855203503638606425:=()
def tw13146383561463087963:=()
def tw13793589553592518111:=()
def tw8828658810203927379:=()
def tw16187618679799992598:=()
def tw16272715287215120183:=()
def tw18092917841161068372:=()
def tw3021958869917469754:=()
def tw15099829020248284640:=()
def tw1603115724237289339:=()
def tw13864355490969034077:=()
def tw1715193611375038385:=()
def tw2797509859336018501:=()
def tw5601590904032196083:=()
def tw7246015308685457130:=()
def tw15602423991504235711:=()
def tw9031368259325902306:=()
def tw17420121272862003894:=()
def tw17258687778248195651:=()
def tw6352059112061605383:=()
def tw14181734190637872562:=()
def tw5256949882582896753:=()
def tw10990425546706499754:=()
def tw8587343495688572980:=()
def tw9235167616859204138:=()
def tw10090008828976652979:=()
def tw5024680989228656361:=()
def tw2985753825113036192:=()
def tw5914448830228262032:=()
def tw5118566438870685711:=()
def tw1115098233374576346:=()
def tw13281924694786817281:=()
def tw4923157388629312031:=()
def tw13598804502767030879:=()
def tw18224784089678167864:=()
def tw13470121362786976292:=()
def tw5472664046660314643:=()
def tw14941934270692250227:=()
def tw12433766438154276894:=()
def tw8159818647968634723:=()
def tw13206350954570506714:=()
def tw8848927103895241730:=()
def tw3390973769890004650:=()
def tw11376396008811949819:=()
def tw17892324876854446043:=()
def tw16278359381125908907:=()
def tw9775071102421709935:=()
def tw4391408715443180375:=()
def tw14191256901239263479:=()
def tw11772676511397458707:=()
def tw10059979944470617327:=()
def tw7938838387258044084:=()
def tw11998690135914486847:=()
def tw3101615390723055880:=()
def tw12025485131013363162:=()
def tw9901757700608023646:=()
def tw9679929195641623710:=()
def tw7249555921377600223:=()
def tw2508439658090743732:=()
def tw13779649586842260450:=()
def tw12289159581598602181:=()
def tw14475049160807687657:=()
def tw9639106130158101455:=()
def tw6590711558603699986:=()
def tw720849228009040879:=()
def tw2276167550851102703:=()
def tw6310523865208398895:=()
def tw16301809517837188342:=()
def tw9658609346724347295:=()
def tw11206397946695779903:=()
def tw15741100294849513127:=()
def tw17991145881547959906:=()
def tw12927351024872175497:=()
def tw10989395505907763183:=()
def tw7347593346394523146:=()
def tw9974671188669068958:=()
def tw12595148273816470624:=()
def tw9566237760079382565:=()
def tw7261134046056925896:=()
def tw17860199069418641158:=()
def tw4457373014068427369:=()
def tw17352182539615433134:=()
def tw5964976445735390465:=()
def tw9976839247120071303:=()
def tw9479138930722206580:=()
def tw18194866433461621347:=()
def tw6884491759559612628:=()
def tw13249019834209941570:=()
def tw7128842939609319169:=()
def tw2332882701016051598:=()
def tw860135456389803948:=()
def tw4872311598486616378:=()
def tw2729644631473468690:=()
def tw7716984028323795204:=()
def tw17650311971892133577:=()
def tw1858240979726412334:=()
def tw5359731585283989817:=()
def tw4139606894911775748:=()
def tw8507168700529986629:=()
def tw9011338908563910810:=()
def tw13208423301302967823:=()
def tw2992508737047596999:=()
def tw5277460429494152407:=()
def tw16487799128433672131:=()
def tw16647893602994162229:=()
def tw17610215221580499659:=()
def tw15087570484269773315:=()
def tw9399952273071801752:=()
def tw1163284121742823549:=()
def tw3250614817745993538:=()
def tw15249299961445013071:=()
def tw8192002872502974878:=()
def tw4403542718995277067:=()
def tw2227096426360716012:=()
def tw7912771787122426994:=()
def tw15503985914461306651:=()
def tw11149402467656372774:=()
def tw8347149606816594926:=()
def tw14883115718183810548:=()
def tw3374225509856215483:=()
def tw16871665793608468803:=()
def tw8243267323532928091:=()
def tw15579758182202130808:=()
def tw2140927104475053369:=()
def tw1423254556796981962:=()
def tw4870481741633917541:=()
def tw7067401079648514936:=()
def tw3280847760557577755:=()
def tw14097823142852131850:=()
def tw7380602087373064531:=()
def tw7464790318518188196:=()
def tw9771758001465650559:=()
def tw15283266748631388106:=()
def tw16190565196016993395:=()
def tw1647277325304302674:=()
def tw7953162284204798118:=()
def tw707208287921531189:=()
def tw8979445368007152849:=()
def tw14270230202583488009:=()
def tw15581707885676335577:=()
end PySem.W.Fast
set_option maxRecDepth 100000 in
set_option maxHeartbeats 0 in
theorem PySem.Challenge.cw_lilt_k51_least_mendings_holds : PySem.Challenge.rw_lilt_k51_least_mendings.Holds := by
 w_on;o_law;k_head;(case hw=>w_witness2)
 k_fill
 refine Lake.My.walk (l:=PySem.Challenge.rw_lilt_k51_least_mendings) rfl rfl (λw h Y=>W.kIn_of Y) ?F
 case F=>
  intro w mg fa h KX G hmg
  refine' Lake.My.all_mk KX G hmg ?aC_Tongue ?F_0 ?F_1 ?F_2 ?F_3 ?F_4 ?F_5 ?F_6 ?F_7 ?F_8 ?F_9 ?F_10 ?a_11 ?i_11 ?F_11 ?F_12 ?F_13 ?F_14 ?F_15 ?F_16 ?F_17 ?F_18 ?F_19 ?a_20 ?i_20 ?F_20 ?F_21 ?F_22 ?F_23 ?F_24 ?F_25 ?a_26 ?i_26 ?F_26 ?F_27 ?F_28 ?F_29 ?a_30 ?i_30 ?F_30 ?a_31 ?i_31 ?F_31 ?F_32 ?F_33 ?a_34 ?i_34 ?F_34 ?F_35 ?a_36 ?i_36 ?F_36 ?F_37 ?F_38 ?F_39 ?F_40 ?F_41 ?F_42 ?F_43 ?F_44 ?F_45 ?F_46 ?F_47 ?F_48 ?F_49 ?F_50 ?F_51 ?F_52 ?F_53 ?F_54 ?F_55 ?F_56 ?F_57 ?F_58 ?F_59 ?F_60 ?F_61 ?F_62 ?F_63 ?F_64 ?F_65 ?pg_Tongue ?hd_Tongue ?po_Tongue ?sa_Tongue ?mk_Tongue ?kc_Tongue ?nf_Tongue_beginnings ?nf_Tongue_carrying ?nf_Tongue_eithers ?nf_Tongue_likes ?nf_Tongue_longs ?nf_Tongue_pairs ?nf_Tongue_running ?nf_Tongue_splittings ?rL ?vt ?vv ?vx ?sf ?sh ?sx ?rj ?rq ?sA ?rS ?si ?vE ?sB ?rX ?tT ?t3 ?t4 ?t5 ?t9 ?zl ?sD ?zo ?ua ?ub ?ui
  (case aC_Tongue | a_11 | i_11 | a_20 | i_20 | a_26 | i_26 | a_30 | i_30 | a_31 | i_31 | a_34 | i_34 | a_36 | i_36 | pg_Tongue | hd_Tongue | po_Tongue | sa_Tongue | mk_Tongue | kc_Tongue | nf_Tongue_beginnings | nf_Tongue_carrying | nf_Tongue_eithers | nf_Tongue_likes | nf_Tongue_longs | nf_Tongue_pairs | nf_Tongue_running | nf_Tongue_splittings | rL | vt | vv | vx | sf | sh | sx | rj | rq | sA | rS | si | vE | sB | rX | tT | t3 | t4 | t5 | t9 | zl | sD | zo=>k_is)
  (case F_11 | F_20 | F_26 | F_30 | F_31 | F_34 | F_36=>refine' Lake.L2.SU ?l ?c ?k;(case l=>k_is);(case c=>k_is);(case k=>k_is))
  (case F_0 | F_1 | F_2 | F_3 | F_4 | F_5 | F_6 | F_7 | F_8 | F_9 | F_10 | F_12 | F_13 | F_14 | F_15 | F_16 | F_17 | F_18 | F_19 | F_21 | F_22 | F_23 | F_24 | F_25 | F_27 | F_28 | F_29 | F_32 | F_33 | F_35 | F_37 | F_38 | F_39 | F_40 | F_41 | F_42 | F_43 | F_44 | F_45 | F_46 | F_47 | F_48 | F_49 | F_50 | F_51 | F_52 | F_53 | F_54 | F_55 | F_56 | F_57 | F_58 | F_59 | F_60 | F_61 | F_62 | F_63 | F_64 | F_65=>refine' ⟨?a,Lake.L2.SU ?l ?c ?k⟩;(case a=>k_is);(case l=>k_is);(case c=>k_is);(case k=>k_is))
  (case ua=>intro t k hm;simp only[Lake.My.KA,aI,bi,c9,nb] at hm;rcases hm with ⟨rfl,rfl⟩ | ⟨rfl,rfl⟩ <;> first | rfl | k_is)
  (case ub=>intro t k hm;simp only[Lake.My.LX,aI,bi,c9,nb] at hm;rcases hm with ⟨rfl,rfl⟩ <;> first | rfl | k_is)
  (case ui=>intro t k hm;simp only[Lake.My.IX,aI,bi,c9,nb] at hm;rcases hm with ⟨rfl,rfl⟩ <;> first | rfl | k_is)
