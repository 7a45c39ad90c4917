import PyProof.Rows.All
import Wide.All
import OpenK.AllK
import Wide.FinOn
import Lean
import PyProof.EqAt
import PyProof.EqKinds
import PyProof.TupleCall
import KE.KRevIter
import PyProof.ListStr
import PyProof.Rows.Range3
import PyProof.Rows.SetFrom
import KE.KIntText
import PyProof.WalkInts
import PyProof.ZipIter
import PyProof.DictWalks
import PyProof.Rows.TupDisplay
import PyProof.MinMaxWalk
import PyProof.WalksMore
import PyProof.AttrMissHeap
import KE.KDictOf
import PyProof.DictItems
import KE.KPairComp
import PySem.Challenge.RW_lilt_k75_whole_poems_of_a_form
set_option Elab.async false
set_option linter.all false
set_option maxRecDepth 100000
set_option maxHeartbeats 4000000
set_option compiler.extract_closed false
abbrev ox:=PySem.Value->PySem.Shared->Prop
abbrev oy:=List (PySem.Addr×PySem.Obj)
abbrev oz:=List Nat
abbrev oB:=List PySem.Value
abbrev oC:=List PySem.Stmt
abbrev oI:=List PySem.Expr
abbrev oP:=List PySem.Str
abbrev oQ:=List Int
abbrev o0:=List PySem.Addr
abbrev pb:=Array PySem.Value
abbrev ab:=@PySem.wpAny_bind
abbrev ac:=@List.mem_cons_of_mem
abbrev ae:=@List.length_map
abbrev af:=@List.mem_cons_self
abbrev ag:=@List.map_cons
abbrev ah:=@List.getElem?_eq_getElem
abbrev al:=@List.getD_eq_getElem?_getD
abbrev am:=@PySem.Heap.get?_push_of_some
abbrev ap:=@if_neg
abbrev ar:=@List.mem_cons
abbrev av:=@List.getElem?_eq_some_iff
abbrev aw:=@Nat.le_refl
abbrev ax:=@List.length_append
abbrev ay:=@PySem.wpAny_pure
abbrev aE:=@PySem.Heap.lt_size
abbrev aI:=@List.getElem?_set_ne
abbrev aS:=@List.mem_singleton
abbrev aT:=@Bool.false_ne_true
abbrev a5:=@decide_eq_false
abbrev a6:=@List.getElem?_map
abbrev a7:=@List.size_toArray
abbrev ba:=@PySem.Heap.get?_push_size
abbrev bb:=@PySem.PassesOwn.never
abbrev be:=@List.getElem?_append_left
abbrev bg:=@if_pos
abbrev bi:=@Option.some.inj
abbrev bm:=@List.length_cons
abbrev bo:=@List.getElem?_eq_none
abbrev bp:=@PyProof.Rows.callWith_type1
abbrev bq:=@Option.bind_some
abbrev br:=@decide_eq_true
abbrev bt:=@List.getElem?_append_right
abbrev bv:=@Nat.lt_of_lt_of_le
abbrev bE:=@List.mem_of_getElem?
abbrev bP:=@Nat.ne_of_lt
abbrev bS:=@List.mem_range
abbrev bX:=@List.mem_append
abbrev b6:=@List.lookup_cons
abbrev b9:=@List.not_mem_nil
abbrev cb:=@List.getElem?_set_self
abbrev cf:=@List.append_nil
abbrev ci:=@Array.length_toList
abbrev cm:=@Bool.and_eq_true
abbrev cn:=@List.map_map
abbrev cp:=@List.append_assoc
abbrev cq:=@PySem.Heap.SameBut.update
abbrev cv:=@List.map_append
abbrev cw:=@Nat.le_trans
abbrev cx:=@List.mem_map
abbrev cy:=@List.any_cons
abbrev cE:=@Array.getElem?_eq_getElem
abbrev cK:=@List.map_congr_left
abbrev cS:=@PySem.Heap.get?_update_self
abbrev c5:=@List.mem_append_right
abbrev c6:=@List.getElem?_cons_succ
abbrev da:=@Nat.zero_le
abbrev db:=@Option.map_eq_some_iff
abbrev dc:=@List.length_filter_le
abbrev de:=@beq_eq_false_iff_ne
abbrev df:=@PySem.W.kia_one
abbrev dn:=@List.length_set
abbrev dr:=@congrArg
abbrev dv:=@Nat.lt_or_ge
abbrev dy:=@List.mem_filter
abbrev dA:=@List.nodup_cons
abbrev dE:=@List.range'_succ
abbrev dL:=@List.getElem?_range
abbrev dP:=@List.map_nil
abbrev dQ:=@PySem.wpAny_callSpecial?_slot
abbrev dS:=@PySem.Heap.size_push
abbrev d0:=@PySem.Calls.spliced_cons
abbrev d3:=@List.range_eq_range'
abbrev d5:=@Nat.lt_irrefl
abbrev d6:=@PySem.Heap.get?_update_other
abbrev ef:=@Or.inr
abbrev eg:=@List.all_eq_true
abbrev ei:=@Nat.le_add_right
abbrev em:=@List.take_of_length_le
abbrev et:=@List.replicate_succ
abbrev eA:=@List.length_range
abbrev eB:=@List.getLast?_eq_some_getLast
abbrev eC:=@PySem.wpAny_holding
abbrev eD:=@List.cons.inj
abbrev eI:=@PySem.F.slot_dict_keyiterator_next
abbrev eJ:=@Int.emod_nonneg
abbrev eK:=@PySem.wpAny_Call_Name_kw
abbrev eL:=@List.filter_append
abbrev eM:=@PySem.wpAny_call_entry
abbrev eP:=@Option.getD_some
abbrev eR:=@List.nil_append
abbrev eS:=@Ne.symm
abbrev eT:=@List.drop_eq_getElem_cons
abbrev eW:=@or_false
abbrev fe:=@Bool.false_eq_true
abbrev ff:=@PySem.wpAny_mono
abbrev fg:=@True.intro
abbrev fi:=@PySem.wpAny_typeNameOfWhole_keyiter
abbrev fk:=@PySem.wpAny_truthy_bool
abbrev fm:=@PySem.Calls.spliced_nil
abbrev fq:=@List.filter_cons_of_pos
abbrev ft:=@List.foldl_cons
abbrev fw:=@Or.inl
abbrev fE:=@PyProof.Rows.boot_list
abbrev fF:=@List.filter_eq_nil_iff
abbrev fI:=@List.getElem_mem
abbrev fR:=@List.any_eq_true
abbrev fS:=@List.filter_cons
abbrev fT:=@decide_eq_decide
abbrev f7:=@PySem.tupleKind_room_in1
abbrev f8:=@PySem.F.slot_tuple_iterator_next
abbrev ga:=@Int.emod_lt_of_pos
abbrev gc:=@PySem.F.slot_dict_get
abbrev gd:=@PySem.wpAny_passesOwn
abbrev ge:=@Option.map_some
abbrev gg:=@PySem.wpAny_newObj_type
abbrev gi:=@of_decide_eq_true
abbrev gl:=@PySem.wpAny_pyIter_list
abbrev gs:=@List.flatten_cons
abbrev gt:=@PySem.wpAny_field
abbrev gu:=@PySem.wpAny_typeNameOf_keyiter
abbrev gv:=@PySem.F.plain_extend_loop
abbrev gx:=@if_false
abbrev gy:=@Nat.lt_succ_self
abbrev gE:=@Nat.le_of_lt
abbrev gI:=@Bool.eq_iff_iff
abbrev gL:=@List.find?_cons
abbrev gS:=@List.length_nil
abbrev gX:=@List.all_cons
abbrev g0:=@List.length_singleton
abbrev g5:=@Array.getElem?_toList
abbrev g6:=@PySem.builtinLookup_eq_fast
abbrev g7:=@Int.toNat_natCast
abbrev g9:=@if_true
abbrev hJ:=@decide_eq_true_eq
abbrev hV:=@List.ext_getElem?
abbrev hX:=@Nat.lt_succ_of_lt
abbrev ia:=@beq_iff_eq
abbrev ib:=@PySem.wpAny_seqItems
abbrev ic:=@Nat.mul_le_mul_right
abbrev ii:=@List.cons_append
abbrev ij:=@Nat.zero_add
abbrev im:=@Classical.byContradiction
abbrev io:=@List.getLast?_eq_getElem?
abbrev ip:=@List.length_pos_iff
abbrev iq:=@PySem.Paired.length
abbrev ix:=@PySem.wpAny_specialOf
abbrev iA:=@List.forIn_cons
abbrev iE:=@PySem.wpAny_updateSeq
abbrev iF:=@Nat.min_eq_left
abbrev iL:=@PySem.Obj.data_mapFields
abbrev iN:=@PySem.wpAny_pyIter_tuple
abbrev iO:=@List.getElem?_replicate
abbrev iP:=@PySem.F.args_dict_get_3
abbrev iS:=@List.length_eq_zero_iff
abbrev iX:=@PySem.F.plainAttrs_list
abbrev i5:=@List.getElem?_cons_zero
abbrev i6:=@Array.getElem?_eq_none
abbrev i7:=@PySem.F.entry_dict_get
abbrev i8:=@PySem.Calls.callWith_builtin
abbrev i9:=@List.reverse_cons
abbrev ja:=@Nat.succ_mul
abbrev jp:=@List.find?_cons_of_neg
abbrev jv:=@List.getElem?_set
abbrev jI:=@Array.getElem?_push_lt
abbrev jS:=@List.length_replicate
abbrev j3:=@List.mem_iff_getElem?
abbrev kb:=@PySem.F.args_dict_keyiterator_next_1
abbrev kc:=@PySem.call_meets
abbrev ke:=@PySem.F.entry_dict_keyiterator_next
abbrev kf:=@PySem.Calls.evalArgs_plain
abbrev kg:=@List.eq_nil_of_length_eq_zero
abbrev ki:=@PySem.wpAny_pyIter_revIter
abbrev kl:=@List.mem_of_getLast?
abbrev kn:=@PySem.size_of_entries
abbrev ko:=@PySem.wpAny_execs_nil
abbrev kq:=@PySem.wpAny_loadPart'
abbrev kr:=@PySem.typeLookup_type
abbrev ku:=@PySem.F.args_tuple_iterator_next_1
abbrev kx:=@PySem.F.slot_zip_next
abbrev kz:=@Nat.not_lt_zero
abbrev kA:=@List.range_succ
abbrev kB:=@List.filterMap_cons
abbrev kC:=@PySem.W.plainGet_of
abbrev kD:=@ne_true_of_eq_false
abbrev kF:=@List.length_reverse
abbrev kG:=@PySem.F.entry_tuple_iterator_next
abbrev kH:=@List.set_set
abbrev kK:=@Nat.sub_self
abbrev kL:=@PySem.wpAny_setField
abbrev kM:=@PySem.SeqAt.EqAt.int_str
abbrev kN:=@PySem.SeqAt.EqAt.str_int
abbrev kQ:=@PySem.Calls.Name_function_global
abbrev kR:=@PySem.W.kitx_tuple
abbrev kS:=@PySem.W.callWith_K
abbrev kT:=@PySem.typeIs_str
abbrev kU:=@PySem.F.args_str_split_2
abbrev kX:=@List.length_range'
abbrev k0:=@List.exists_cons_of_ne_nil
abbrev k9:=@PySem.wpAny_dictEntries
abbrev lb:=@Option.isSome_map
abbrev le:=@PySem.F.entry_str_split
abbrev lf:=@Nat.lt_trichotomy
abbrev lh:=@List.flatMap_cons
abbrev li:=@PySem.Str.length_append
abbrev lj:=@PySem.wpAny_attempt
abbrev ll:=@List.getElem?_take_of_lt
abbrev lm:=@Bool.or_false
abbrev ls:=@PySem.wpAny_comprehension_free
abbrev lx:=@PySem.F.slot_list_append
abbrev ly:=@PySem.F.type_list_append
abbrev lI:=@PySem.wpAny_isInstance
abbrev lP:=@List.length_take
abbrev lS:=@PySem.meetsH_dict_get_default
abbrev lT:=@PySem.F.plainAttrs_dict
abbrev l0:=@Nat.min_le_right
abbrev l5:=@PySem.F.slot_str_split
abbrev l7:=@List.drop_length
abbrev l8:=@PyProof.Rows.boot_range
abbrev l9:=@Nat.add_sub_cancel_left
abbrev md:=@Int.eq_ofNat_of_zero_le
abbrev me:=@PySem.codeAny_mono
abbrev mf:=@PySem.W.cellsFrom_some
abbrev mh:=@PySem.F.plainAttrs_str
abbrev mv:=@List.range_succ_eq_map
abbrev mB:=@List.drop_of_length_le
abbrev mE:=@PySem.wpAny_dictEpoch
abbrev mI:=@List.of_mem_zip
abbrev mM:=@PySem.W.methodCall_KW
abbrev mN:=@PySem.F.type_dict_get
abbrev mP:=@List.getElem?_zipWith
abbrev mT:=@List.getElem?_reverse
abbrev ng:=@Classical.choose_spec
abbrev nh:=@Sum.inr.inj
abbrev nr:=@List.mem_append_left
abbrev nt:=@Array.mem_toList_iff
abbrev nv:=@List.mem_iff_getElem
abbrev ny:=@List.drop_zero
abbrev nB:=@List.forIn_nil
abbrev nE:=@Nat.mul_le_mul
abbrev nI:=@List.getLast?_append
abbrev nK:=@List.range_add
abbrev nN:=@List.findSome?_cons
abbrev nS:=@List.flatMap_append
abbrev nV:=@Array.toList_append
abbrev nX:=@PySem.wpAny_standAt
abbrev oa:=@PySem.rangeSize_one
abbrev oe:=@PySem.plainId_quiet
abbrev og:=@PySem.Value.ref.inj
abbrev oi:=@PySem.wpAny_rule
abbrev oj:=@not_or
abbrev ol:=@Nat.not_lt
abbrev om:=@Nat.ne_of_gt
abbrev on:=@Nat.le_of_eq
abbrev oo:=@Nat.mul_comm
abbrev oq:=@Nat.succ.inj
abbrev ot:=@List.any_map
abbrev ow:=@Nat.le_succ
theorem r0_q (_h:True:=by rfl):True:=trivial
def r0_:Lean.Syntax:=r0_q._auto_1
theorem r1_q (_h:True:=by decide):True:=trivial
def r1_:Lean.Syntax:=r1_q._auto_1
theorem r2_q (_h:True:=by first | exact .inl rfl | exact .inr rfl | assumption):True:=trivial
def r2_:Lean.Syntax:=r2_q._auto_1
theorem r3_q (_h:True:=by decide +kernel):True:=trivial
def r3_:Lean.Syntax:=r3_q._auto_1
theorem r4_q (_h:True:=by intro _;rfl):True:=trivial
def r4_:Lean.Syntax:=r4_q._auto_1
theorem r6_q (_h:True:=by first | rfl | assumption):True:=trivial
def r6_:Lean.Syntax:=r6_q._auto_1
theorem r8_q (_h:True:=by intros;rfl):True:=trivial
def r8_:Lean.Syntax:=r8_q._auto_1
theorem r9_q (_h:True:=by intro _ _;rfl):True:=trivial
def r9_:Lean.Syntax:=r9_q._auto_1
theorem r10_q (_h:True:=by with_unfolding_all rfl):True:=trivial
def r10_:Lean.Syntax:=r10_q._auto_1
theorem r11_q (_h:True:=by simp):True:=trivial
def r11_:Lean.Syntax:=r11_q._auto_1
theorem r12_q (_h:True:=by exact⟨rfl,rfl,rfl,rfl⟩):True:=trivial
def r12_:Lean.Syntax:=r12_q._auto_1
noncomputable section
namespace Lake.L2
open PySem PySem.Spec PyProof.Rows
section
variable {prog:Program}{w:World}{κ:Type}[DecidableEq κ]{kd:HeapKind prog w κ}{A:Around}{E:ox}{s:Shared}{d a it:Addr}{xs:List (κ×Addr×Value)}{k:κ}{v:Value}
def Lv (kd:HeapKind prog w κ)(h:Heap)(d:Addr)(xs:List (κ×Addr×Value)):Prop:=
 ∃o es,h.get? d=some o/\o.ExactDict/\o.data=.dict es xs.length/\es.toList=xs.map (entryOfKey kd)/\(∀x∈xs,kd.is h x.1 x.2.1)/\(xs.map (·.1)).Nodup
theorem Lv.of {h:Heap}(m:Lv kd h d xs):h.DictOfH kd d xs:=let ⟨o,es,q⟩:=m;⟨o,es,_,q⟩
theorem Eg {Q:Unit->Shared->Prop}(hu:kd.room A)(hk:kd.is s.heap k a)(m:Lv kd s.heap d xs)(hz:xs.length<=sizeLine)
  (q:∀h',Lv kd h' d (storedH xs k a v)->Heap.SameBut d s.heap h'->Q () { s with heap:=h',toks:=s.toks+kd.draws k }):wpAny (model prog w) A (dictSet d (.ref a) v) Q E s:=by
 obtain⟨o,es,o1,o2,o3,o4,o5,o6⟩:=m
 unfold dictSet
 try with_reducible refine eC ?_
 refine ab (kd.pyHash hu hk ?_)
 unfold dictSetHashed
 try with_reducible refine eC ?_
 refine ab (wpAny_dictFind_heap (s:={ s with toks:=s.toks+kd.draws k }) hu hk o1 o3 o4 o5 o6 (λno=>?_) λj p hj=>?_)
 ·have nk:k∉xs.map (·.1):=not_mem_keys_of_get no
  have e:=storedH_new (atKey_none_of_get no) a v
  rw[e] at q
  refine ab (oi (wpAny_updateDictKeys (hz:=by have:=kn o4;omega) (s:={ s with toks:=s.toks+kd.draws k }) o1 o3 (q _ ⟨_,_,cS _ o1 (Obj.isFreed_of_dict (Obj.data_mapDictKeys o3 _)),o2.mapDictKeys _,by rw[ax];exact Obj.data_mapDictKeys o3 _,?_,λx hx=>?_,?_⟩ (cq ..))))
  ·simp[o4,entryOfKey]
  ·rcases bX.mp hx with z | z
   ·exact kd.keeps (o5 x z) o1 o3 (cq ..)
   ·rw[aS.mp z];exact kd.keeps hk o1 o3 (cq ..)
  ·rw[cv]
   exact List.nodup_append.mpr ⟨o6,by simp,λx hx y hy z=>nk (by rw[ag,dP,aS] at hy;have hy:y=k:=hy;subst hy z;exact hx)⟩
 ·have e:=storedH_old (atKey_of_get o6 hj) a v
  rw[e] at q
  refine ab (oi (ab (wpAny_updateDict (s:={ s with toks:=s.toks+kd.draws k }) o1 o3 (wpAny_point (q _ ⟨_,_,cS _ o1 (Obj.isFreed_of_dict (Obj.data_mapDict o3 _)),o2.mapDict _,by rw[ae];exact Obj.data_mapDict o3 _,?_,λx hx=>?_,?_⟩ (cq ..))))))
  ·have y:=modify_map_putAt (entryOfKey kd) (λe:DictEntry=>{ e with val:=v }) k v (λ_ _=>rfl) o6 hj
   rw[← o4] at y
   cases es
   simpa using y
  ·obtain⟨y,hy,rfl⟩:=cx.mp hx
   unfold putAt
   split <;> exact kd.keeps (o5 y hy) o1 o3 (cq ..)
  ·rw[keys_map_putAt];exact o6
theorem Nr {Q:Unit->Shared->Prop}(hu:kd.room A.in1)(hk:kd.is s.heap k a)(m:Lv kd s.heap d xs)(hz:xs.length<=sizeLine)
  (q:∀h',Lv kd h' d (storedH xs k a v)->Heap.SameBut d s.heap h'->Q () { s with heap:=h',toks:=s.toks+kd.draws k }):wpAny (model prog w) A (setItem (.ref d) (.ref a) v) Q E s:=by
 have ty:=m.of.typeIs
 unfold setItem
 try with_reducible refine eC ?_
 refine ab (wpAny_sequenceKey ty (by decide) (ab (dQ (name:=Str.ofString "__setitem__") ty slot_dict_setitem (eM slot_dict_setitem ty entry_dict_setitem ?_ (args_dict_setitem _ _ _)))))
 show wpAny _ _ (Builtin.Dict.notOrdered "__setitem__" ⟨[.ref d,.ref a,v],[]⟩ >>= _) _ _ s
 refine ab (wpAny_notOrdered_dict ty ?_)
 show wpAny _ _ (dictSet d (.ref a) v >>= λ_=>_) _ _ s
 exact ab (Eg hu hk m hz λh' m' MM=>ay ⟨.none,rfl,ay (q h' m' MM)⟩)
theorem W_ {Q:ox}(hd:(d == sysModules)=false)(m:Lv kd s.heap d xs)
  (q:∀h',h'=s.heap.push { cls:=.type "dict_keyiterator",data:=.fields #[.ref d,.int 0 0,.int xs.length 0,.int xs.length 0] }->Q (.ref s.heap.objs.size) { s with heap:=h' }):wpAny (model prog w) A (pyIter (.ref d)) Q E s:=by
 obtain⟨o,es,o1,o2,o3,o4,o5,o6⟩:=id m
 have ty:=m.of.typeIs
 have sz:=kn o4
 refine wpAny_pyIter_slot ty F.slot_dict_iter (eM F.slot_dict_iter ty F.entry_dict_iter ?_ (F.args_dict_iter_1 _))
 unfold Builtin.«dict.__iter__» Builtin.Dict.dictSlotNone
 refine ab (ab (wpAny_notOrdered_dict ty ?_))
 show wpAny _ _ (pure (Value.ref d)) (λ_ _=>_) _ s
 refine ay ?_
 show wpAny _ _ (Builtin.Dict.showsAll d >>= λ_=>_) _ _ s
 unfold Builtin.Dict.showsAll
 rw[ap (by rw[hd];decide)]
 refine ab (ay (ab (k9 o1 o3 (ab (mE o1 o3 (ab (gg (ay ⟨_,rfl, "dict_keyiterator",_,⟨_,ba _ rfl,rfl⟩,eI.lookup,?_⟩))))))))
 simpa [rawInt,sz] using q _ rfl
theorem Xa {i:Nat}{b:Addr}{Q:Option Value->Shared->Prop}(hi:s.heap.IsKeyIter it d i xs.length xs.length)(m:Lv kd s.heap d xs)(hx:xs[i]?=some (k,b,v))
  (q:∀h',h'.IsKeyIter it d (i+1) xs.length xs.length->Heap.SameBut it s.heap h'->Q (some (.ref b)) { s with heap:=h' }):wpAny (model prog w) A (pyNext (.ref it)) Q E s:=by
 obtain⟨p,p1,p2,p3⟩:=id hi
 obtain⟨o,es,o1,o2,o3,o4,o5,o6⟩:=id m
 have ty:=hi.typeIs
 have sz:=kn o4
 unfold pyNext
 refine ab (lj (dQ (name:=Str.ofString "__next__") ty eI (eM eI ty ke ?_ (kb _))))
 refine ab (ay (ab (ab ?_)))
 first | refine ab (fi ty (ay ?_)) | refine ab (gu ty (ay ?_))
 refine ab (wpAny_fieldsOf p1 p3 ?_)
 have own:Builtin.Dict_items.ownsTuple "dict_keyiterator" = false:=by decide
 simp only[own,fe,gx]
 show wpAny _ _ (if (Value.ref d == Value.none)=true then _ else _) (λ_ _=>_) _ s
 rw[ap (by intro z;cases z)]
 refine ab (ay (ab (k9 o1 o3 ?_)))
 rw[ap (by rw[sz];simp)]
 refine ab (ay (ab (mE o1 o3 ?_)))
 rw[ap (by simp)]
 refine ay ?_
 have lt:i < es.size:=by rw[sz];exact(av.mp hx).1
 have ek:es[i].key=.ref b:=by
  have z:=entry_at o4 i
  rw[hx,cE lt] at z
  rw[bi z];rfl
 simp only[show ¬ ((i:Int) < 0) by omega,gx,g7,cE lt]
 refine ab ?_
 first | refine ab (fi ty (ay ?_)) | refine ab (gu ty (ay ?_))
 refine ab (wpAny_isOneOf_keyiter ty ?_)
 show wpAny _ _ (setField (.ref it) 1 (rawInt ((i:Int)+1)) >>= λ_=>_) _ _ s
 refine ab (kL p1 p3 (by simp) ?_)
 have LY:(s.heap.update it (Obj.mapFields (·.setIfInBounds 1 (rawInt ((i:Int)+1))))).IsKeyIter it d (i+1) xs.length xs.length:=
  ⟨_,cS _ p1 (Obj.isFreed_of_fields (iL p3 _)),(Obj.cls_mapFields ..).trans p2,by rw[iL p3];rfl⟩
 refine ab (eC (ab (wpAny_isOneOf_keyiter (s:={ s with heap:=s.heap.update it (Obj.mapFields (·.setIfInBounds 1 (rawInt ((i:Int)+1)))) }) LY.typeIs ?_)))
 show wpAny _ _ (pure es[i].key) (λ_ _=>_) _ _
 rw[ek]
 exact ay (ay ⟨_,rfl,ay (q _ LY (cq ..))⟩)
theorem Yo {i:Nat}{Q:Option Value->Shared->Prop}(hh:A.handled=none)(hi:s.heap.IsKeyIter it d i xs.length xs.length)(m:Lv kd s.heap d xs)(hx:xs.length<=i)
  (q:∀h',Heap.ExtBut it s.heap h'->Q none { s with heap:=h' }):wpAny (model prog w) A (pyNext (.ref it)) Q E s:=by
 obtain⟨p,p1,p2,p3⟩:=id hi
 obtain⟨o,es,o1,o2,o3,o4,o5,o6⟩:=id m
 have ty:=hi.typeIs
 have sz:=kn o4
 unfold pyNext
 refine ab (lj (dQ (name:=Str.ofString "__next__") ty eI (eM eI ty ke ?_ (kb _))))
 refine ab (ay (ab (ab ?_)))
 first | refine ab (fi ty (ay ?_)) | refine ab (gu ty (ay ?_))
 refine ab (wpAny_fieldsOf p1 p3 ?_)
 have own:Builtin.Dict_items.ownsTuple "dict_keyiterator" = false:=by decide
 simp only[own,fe,gx]
 show wpAny _ _ (if (Value.ref d == Value.none)=true then _ else _) (λ_ _=>_) _ s
 rw[ap (by intro z;cases z)]
 refine ab (ay (ab (k9 o1 o3 ?_)))
 rw[ap (by rw[sz];simp)]
 refine ab (ay (ab (mE o1 o3 ?_)))
 rw[ap (by simp)]
 refine ay ?_
 simp only[show ¬ ((i:Int) < 0) by omega,gx,g7,i6 (show es.size<=i by omega)]
 refine ab ?_
 first | refine ab (fi ty (ay ?_)) | refine ab (gu ty (ay ?_))
 show wpAny _ _ (setField (.ref it) 0 .none >>= λ_=>_) _ _ s
 refine ab (kL p1 p3 (by simp) ?_)
 show wpAny _ _ (newExc (.type "StopIteration") [] >>= λ_=>_) _ _ _
 refine ab ?_
 simp only[newExc,newTuple]
 refine ab (gg (ab (m:=firstArgMember _ _) (wpAny_of_eq (a:=Value.none) (by first | rfl | (simp only[firstArgMember];rfl)) (gg ?_ (by size_fits)))) (by size_fits))
 simp only[raiseNew]
 refine ab (wpAny_handled ?_)
 rw[show A.in1.handled=none by exact hh]
 refine ab (ay (wpAny_throw ?_))
 refine ab (lI (b:=true) (T := "StopIteration") ⟨_,ba _ rfl,rfl⟩ isSubtype_stop ?_)
 exact ay (q _ (((cq ..).extBut.push _).push _))
end
abbrev Key:=Sum Int Str
noncomputable def rP:Key->Value->Bool
 | .inl k,v=>Value.isInt k v
 | .inr x,v=>Value.isStrOf x v
noncomputable def Tw (w:World):Key->Int
 | .inl k=>hashInt k
 | .inr x=>hashStr w x
theorem cZ:∀{k:Key}{v:Value},rP k v=true->(∃i t,k=Sum.inl i/\v=Value.int i t)\/(∃x t,k=Sum.inr x/\v=Value.str x t)
 | .inl i,v,h=>by
  obtain⟨t,e⟩:=Value.isInt_shape (k:=i) (v:=v) h
  exact .inl ⟨i,t,rfl,e⟩
 | .inr x,v,h=>by
  obtain⟨t,e⟩:=Value.isStrOf_shape (x:=x) (v:=v) h
  exact .inr ⟨x,t,rfl,e⟩
theorem KD (i:Int)(t:Tok):rP (.inl i) (.int i t)=true:=by simp[rP,Value.isInt]
theorem KH (x:Str)(t:Tok):rP (.inr x) (.str x t)=true:=by simp[rP,Value.isStrOf]
theorem vo (a b:Int):decide ((Sum.inl a:Key)=Sum.inl b)=(a == b):=by
 by_cases e:a=b
 ·subst e;simp
 ·have h:¬ (Sum.inl a:Key)=Sum.inl b:=λq=>e (Sum.inl.inj q)
  rw[a5 h]
  exact(de.mpr e).symm
theorem KJ (a b:Str):decide ((Sum.inr a:Key)=Sum.inr b)=decide (a=b):=by
 by_cases e:a=b
 ·subst e;simp
 ·have h:¬ (Sum.inr a:Key)=Sum.inr b:=λq=>e (nh q)
  rw[a5 h,a5 e]
theorem Eh (a:Int)(b:Str):decide ((Sum.inl a:Key)=Sum.inr b)=false:=a5 (λq=>nomatch q)
theorem Ei (a:Str)(b:Int):decide ((Sum.inr a:Key)=Sum.inl b)=false:=a5 (λq=>nomatch q)
def jm (prog:Program)(w:World):PySem.KeyKind prog w Key where
 is:=rP
 hash:=Tw w
 inj:=λv a b ha hb=>by
  rcases cZ ha with ⟨i,t,rfl,rfl⟩ | ⟨x,t,rfl,rfl⟩
  ·rcases cZ hb with ⟨j,u,rfl,e⟩ | ⟨y,u,rfl,e⟩
   ·injection e with e1 _;rw[e1]
   ·exact nomatch e
  ·rcases cZ hb with ⟨j,u,rfl,e⟩ | ⟨y,u,rfl,e⟩
   ·exact nomatch e
   ·injection e with e1 _;rw[e1]
 byValue:=λk v h=>by
  rcases cZ h with ⟨i,t,rfl,rfl⟩ | ⟨x,t,rfl,rfl⟩ <;> rfl
 pyHash:=λhv h=>by
  rcases cZ hv with ⟨i,t,rfl,rfl⟩ | ⟨x,t,rfl,rfl⟩
  ·exact wpAny_pyHash_int h
  ·exact wpAny_pyHash_str h
 eqBool:=λhu hv h=>by
  rcases cZ hu with ⟨i,t,rfl,rfl⟩ | ⟨x,t,rfl,rfl⟩
  ·rcases cZ hv with ⟨j,u,rfl,rfl⟩ | ⟨y,u,rfl,rfl⟩
   ·rw[vo] at h;exact wpAny_eqBool_int h
   ·rw[Eh] at h;exact kM i t y u _ _ _ _ h
  ·rcases cZ hv with ⟨j,u,rfl,rfl⟩ | ⟨y,u,rfl,rfl⟩
   ·rw[Ei] at h;exact kN x t j u _ _ _ _ h
   ·rw[KJ] at h;exact wpAny_eqBool_str h
 «strs»:=λk x t v h=>by
  rcases cZ h with ⟨i,u,rfl,e⟩ | ⟨y,u,rfl,e⟩
  ·exact nomatch e
  ·injection e with e1 _
   subst e1
   cases v <;> rfl
noncomputable def vp:Key->Value->Bool
 | .inl k,.bool b=>decide (k=if b=true then 1 else 0)
 | k,v=>rP k v
theorem dR {k:Key}{v:Value}(h:vp k v=true):(∃b,k=Sum.inl (if b=true then 1 else 0)/\v=Value.bool b)\/(∃i t,k=Sum.inl i/\v=Value.int i t)\/(∃x t,k=Sum.inr x/\v=Value.str x t):=by
 unfold vp at h
 split at h
 ·exact .inl ⟨_,dr _ (gi h),rfl⟩
 ·exact .inr (cZ h)
theorem KQ {k:Key}{v:Value}(h:rP k v=true):vp k v=true:=by
 rcases cZ h with ⟨i,t,rfl,rfl⟩ | ⟨x,t,rfl,rfl⟩ <;> exact h
theorem Hj (b:Bool):vp (.inl (if b=true then 1 else 0)) (.bool b)=true:=br rfl
theorem Tz (a b:Bool):decide ((Sum.inl (if a=true then 1 else 0):Key)=Sum.inl (if b=true then 1 else 0))=(a == b):=by
 rw[vo];cases a <;> cases b <;> rfl
theorem KR {prog:Program}{w:World}{A:Around}{E:ox}{s:Shared}(b:Bool){Q:Int->Shared->Prop}(h:Q (hashInt (if b=true then 1 else 0)) { s with toks:=s.toks+1 }):
  wpAny (model prog w) A (pyHash (.bool b)) Q E s:=by
 refine W.pyHash_slot (s:=s) (T := "bool") (by cases b <;> exact PySem.typeIs_bool s _) PySem.F.slot_bool_hash entry_int_hash (args_int_hash _) (by rw[beq_builtin_none]) (.inl rfl) ?_
 have e:reduceHash (rawHash (if b=true then 1 else 0))=hashInt (if b=true then 1 else 0):=by cases b <;> decide
 show wpAny _ _ (do ret (← mkInt (rawHash (if b=true then 1 else 0)))) _ _ s
 refine ff (wpAny_ret_mkInt (Q:=λv s'=>∃t,v=.int (rawHash (if b=true then 1 else 0)) t/\s'={ s with toks:=s.toks+1 }) ⟨_,rfl,rfl⟩) (λfin s' hq=>?_) λ_ _ x=>x
 obtain⟨v,rfl,t,rfl,rfl⟩:=hq
 exact⟨_,_,rfl,by rw[e];exact h⟩
def d7 (prog:Program)(w:World):PySem.KeyKind prog w Key where
 is:=vp
 hash:=Tw w
 inj:=λv a b ha hb=>by
  rcases dR ha with ⟨c,rfl,rfl⟩ | ⟨i,t,rfl,rfl⟩ | ⟨x,t,rfl,rfl⟩ <;> rcases dR hb with ⟨d,rfl,e⟩ | ⟨j,u,rfl,e⟩ | ⟨y,u,rfl,e⟩ <;> cases e <;> rfl
 byValue:=λk v h=>by
  rcases dR h with ⟨c,rfl,rfl⟩ | ⟨i,t,rfl,rfl⟩ | ⟨x,t,rfl,rfl⟩ <;> rfl
 pyHash:=λhv h=>by
  rcases dR hv with ⟨c,rfl,rfl⟩ | ⟨i,t,rfl,rfl⟩ | ⟨x,t,rfl,rfl⟩
  ·exact KR c h
  ·exact wpAny_pyHash_int h
  ·exact wpAny_pyHash_str h
 eqBool:=λhu hv h=>by
  rcases dR hu with ⟨c,rfl,rfl⟩ | ⟨i,t,rfl,rfl⟩ | ⟨x,t,rfl,rfl⟩
  ·rcases dR hv with ⟨d,rfl,rfl⟩ | ⟨j,u,rfl,rfl⟩ | ⟨y,u,rfl,rfl⟩
   ·rw[Tz] at h;exact SeqAt.EqAt.bool_bool _ _ _ _ _ _ h
   ·rw[vo] at h;exact SeqAt.EqAt.bool_int _ _ _ _ _ _ _ h
   ·rw[Eh] at h;exact SeqAt.EqAt.bool_str _ _ _ _ _ _ _ h
  ·rcases dR hv with ⟨d,rfl,rfl⟩ | ⟨j,u,rfl,rfl⟩ | ⟨y,u,rfl,rfl⟩
   ·rw[vo] at h;exact SeqAt.EqAt.int_bool _ _ _ _ _ _ _ h
   ·rw[vo] at h;exact wpAny_eqBool_int h
   ·rw[Eh] at h;exact kM i t y u _ _ _ _ h
  ·rcases dR hv with ⟨d,rfl,rfl⟩ | ⟨j,u,rfl,rfl⟩ | ⟨y,u,rfl,rfl⟩
   ·rw[Ei] at h;exact SeqAt.EqAt.str_bool _ _ _ _ _ _ _ h
   ·rw[Ei] at h;exact kN x t j u _ _ _ _ h
   ·rw[KJ] at h;exact wpAny_eqBool_str h
 «strs»:=λk x t v h=>by
  rcases dR h with ⟨c,rfl,e⟩ | ⟨i,u,rfl,e⟩ | ⟨y,u,rfl,e⟩
  ·exact nomatch e
  ·exact nomatch e
  ·injection e with e1 _
   subst e1
   cases v <;> rfl
theorem Hk (prog:Program)(w:World)(i:Int)(t:Tok):(jm prog w).is (.inl i) (.int i t)=true:=KD i t
theorem Hl (prog:Program)(w:World)(x:Str)(t:Tok):(jm prog w).is (.inr x) (.str x t)=true:=KH x t
inductive V where
 | FG | bl (b:Bool) | int (i:Int) | str (x:Str) | Sa (b:Array UInt8) | N0 (b:UInt64) | ref (a:Addr) | ty (n:String)
 deriving DecidableEq
def RelV:V->Value->Prop
 | .FG,u=>u=Value.none
 | .bl b,u=>u=Value.bool b
 | .int i,u=>∃t,u=Value.int i t
 | .str x,u=>∃t,u=Value.str x t
 | .Sa b,u=>∃t,u=Value.bytes b t
 | .N0 b,u=>∃t,u=Value.float b t
 | .ref a,u=>u=Value.ref a
 | .ty n,u=>u=Value.type n
abbrev Vals:List V->List Value->Prop:=Paired RelV
theorem Vals.length {xs:List V}{us:oB}(r:Vals xs us):xs.length=us.length:=iq r
theorem Vals.get:∀{xs:List V}{us:oB}{i:Nat}{x:V},Vals xs us->xs[i]?=some x->∃u,us[i]?=some u/\RelV x u
 | _,_,_,_,.nil,e=>by simp at e
 | _,_,0,_,.cons r _,e=>by simp at e;subst e;exact⟨_,rfl,r⟩
 | _,_,i+1,x,.cons _ t,e=>by
  obtain⟨u,h1,h2⟩:=Vals.get (i:=i) (x:=x) t (by simpa using e)
  exact⟨u,by simpa using h1,h2⟩
theorem Vals.set {x:V}{u:Value}(r:RelV x u):∀{xs:List V}{us:oB}(i:Nat),Vals xs us->Vals (xs.set i x) (us.set i u)
 | _,_,_,.nil=>.nil
 | _,_,0,.cons _ t=>.cons r t
 | _,_,i+1,.cons q t=>.cons q (Vals.set r i t)
theorem Vals.append:∀{xs ys:List V}{us ws:oB},Vals xs us->Vals ys ws->Vals (xs++ys) (us++ws)
 | _,_,_,_,.nil,s=>s
 | _,_,_,_,.cons r t,s=>.cons r (Vals.append t s)
theorem Vals.take:∀{xs:List V}{us:oB}(n:Nat),Vals xs us->Vals (xs.take n) (us.take n)
 | _,_,0,_=>.nil
 | _,_,_+1,.nil=>.nil
 | _,_,n+1,.cons r t=>.cons r (Vals.take n t)
theorem Vals.drop:∀{xs:List V}{us:oB}(n:Nat),Vals xs us->Vals (xs.drop n) (us.drop n)
 | _,_,0,r=>r
 | _,_,_+1,.nil=>.nil
 | _,_,n+1,.cons _ t=>Vals.drop n t
def Kj:Option V->Option Value->Prop
 | some v,some u=>RelV v u
 | none,none=>True
 | _,_=>False
def KV {κ:Type}:List (κ×V)->List (κ×Value)->Prop:=Paired λ(p:κ×V) (q:κ×Value)=>p.1=q.1/\RelV p.2 q.2
noncomputable def kV:Key->V
 | .inl i=>.int i
 | .inr x=>.str x
inductive HO where
 | lst (xs:List V)
 | tup (xs:List V)
 | dK (kvs:List (Key×V)) | dT (kvs:List (List Key×V))
 | set (S:Int->Bool) (n:Nat)
 | ins (C dx:Addr) (fs:List (Str×V))
 | own (x:Addr)
 | xd (fs:List (Str×V))
 | met (f x:Addr)
 | rng (lo hi:Int)
 | frz (o:Obj) (u:HO)
 | tbl (ps:pb)
 | ext (φ:Heap->Prop)
abbrev Hp:=Addr->Option HO
def upd (H:Hp)(a:Addr)(o:HO):Hp:=λb=>if b=a then some o else H b
theorem bx {H:Hp}{a:Addr}{o:HO}:upd H a o a=some o:=by unfold upd;rw[bg rfl]
theorem aQ {H:Hp}{a b:Addr}{o:HO}(h:b≠a):upd H a o b=H b:=by unfold upd;rw[ap h]
theorem Qn {H:Hp}{a b:Addr}{o u:HO}(h:H a=some o)(h':H b=some u)(d:o≠u):a≠b:=by
 intro e;subst e;rw[h] at h';exact d (bi h')
theorem bz {H:Hp}{a b:Addr}{o:HO}(h:H a=some o)(h':H b=none):a≠b:=by
 intro e;subst e;rw[h] at h';cases h'
def vq (ks:List Key)(vs:List V):Prop:=vs=ks.map kV\/∃x b,ks=[.inr x,.inl (if b=true then 1 else 0)]/\vs=[.str x,.bl b]
abbrev TF (H:Hp)(b:Addr)(ks:List Key):Prop:=∃vs,H b=some (.tup vs)/\vq ks vs
def QE (K:W.Frag)(a:Addr)(xs:List V):Prop:=∃(o:Obj) (FD:pb) (n:Nat),K.lookup a=some o/\o.cls=.type "tuple" /\ o.data=.seq FD n/\FD.size<=sizeLine/\Vals xs FD.toList
def Kk (K:W.Frag)(H:Hp)(b:Addr)(ks:List Key):Prop:=TF H b ks\/∃vs,QE K b vs/\vq ks vs
theorem Kk.keeps {K:W.Frag}{H H':Hp}{b:Addr}{ks:List Key}(c:Kk K H b ks)(ht:∀b ys,H b=some (.tup ys)->H' b=some (.tup ys)):Kk K H' b ks:=c.imp (λ⟨vs,e,k⟩=>⟨vs,ht _ _ e,k⟩) id
section
variable (P:Program)(w:World)(K:W.Frag)
def FX (H:Hp)(h:Heap)(a:Addr):HO->Prop
 | .lst xs=>xs.length<=sizeLine/\∃(FD:oB) (n:Nat),Vals xs FD/\h.get? a=some { cls:=.type "list",data:=.seq FD.toArray n }
 | .tup xs=>xs.length<=sizeLine/\∃FD:List Value,Vals xs FD/\IsTup h a FD.toArray
 | .dK kvs=>kvs.length<=sizeLine/\(a == sysModules)=false/\∃vs,KV kvs vs/\h.DictOf (jm P w) a vs
 | .dT kvs=>kvs.length<=sizeLine/\(a == sysModules)=false/\∃xs:List (List Key×Addr×Value),
   Paired (λ(p:List Key×V) (q:List Key×Addr×Value)=>p.1=q.1/\Kk K H q.2.1 p.1/\RelV p.2 q.2.2) kvs xs /\
   ∃o es ep,h.get? a=some o/\o.ExactDict/\o.data=.dict es ep/\es.toList=xs.map (entryOfKey (tupleKind (d7 P w)))/\(xs.map (·.1)).Nodup/\ep=xs.length
 | .set S n=>h.SetOf (intKind P w) a S n
 | .ins C dx fs=>H dx=some (.own a)/\fs.length<=1000/\dx≠a/\h.get? a=some (W.instObj C dx) /\
   ∃mA,h.Ns1 dx mA/\(∀f,Kj (fs.lookup f) (mA f))/\PySem.Within mA (fs.map (·.1))
 | .own _=>∃o,h.get? a=some o
 | .xd fs=>∃mA,h.Ns1 a mA/\∀f,Kj (fs.lookup f) (mA f)
 | .rng lo hi=>∃t u v,h.get? a=some { cls:=.type "range",data:=.fields #[.int lo t,.int hi u,.int 1 v] }
 | .frz o u=>h.get? a=some o/\FX H h a u
 | .tbl ps=>h.get? a=some { cls:=.none,data:=.fields ps }
 | .met f x=>h.get? a=some (W.methodObj (.ref f) (.ref x))
 | .ext φ=>φ h/\(∃o,h.get? a=some o)/\∀h1 h2:Heap,φ h1->(∀o,h1.get? a=some o->h2.get? a=some o)->φ h2
def LA (H:Hp)(h:Heap):Prop:=∀a o,H a=some o->FX P w K H h a o
end
section
variable {P:Program}{w:World}{K:W.Frag}{H H':Hp}{h h':Heap}{a:Addr}{o:HO}
theorem FX.lt (x:FX P w K H h a o):a < h.objs.size:=by
 cases o with
 | lst xs=>obtain⟨_,_,_,_,e⟩:=x;exact aE e
 | tup xs=>obtain⟨_,_,_,p⟩:=x;exact p.lt
 | dK kvs=>obtain⟨_,_,_,_,o,_,_,e,_⟩:=x;exact aE e
 | dT kvs=>obtain⟨_,_,_,_,o,_,_,e,_⟩:=x;exact aE e
 | set S n=>obtain⟨o,_,_,_,e,_⟩:=x;exact aE e
 | ins C dx fs=>obtain⟨_,_,_,e,_⟩:=x;exact aE e
 | own y=>obtain⟨_,e⟩:=x;exact aE e
 | xd fs=>obtain⟨_,⟨_,_,_,e,_⟩,_⟩:=x;exact aE e
 | rng lo hi=>obtain⟨_,_,_,e⟩:=x;exact aE e
 | frz ob u=>obtain⟨e,_⟩:=x;exact aE e
 | tbl ps=>exact aE (show h.get? a=some _ from x)
 | met f y=>exact aE (show h.get? a=some _ from x)
 | ext φ=>obtain⟨_,⟨_,e⟩,_⟩:=x;exact aE e
theorem Paired.mapP {α β:Type}{F G:α->β->Prop}:∀{l₁:List α}{l₂:List β},Paired F l₁ l₂->(∀a b,F a b->G a b)->Paired G l₁ l₂
 | _,_,.nil,_=>.nil
 | _,_,.cons r t,f=>.cons (f _ _ r) (Paired.mapP t f)
theorem FX.OK (x:FX P w K H h a o)(k:∀b u,(b=a\/H b=some (.own a))->h.get? b=some u->h'.get? b=some u)
  (ho:∀b,H b=some (.own a)->H' b=some (.own a)) (ht:∀b xs,H b=some (.tup xs)->H' b=some (.tup xs)):FX P w K H' h' a o:=by
 induction o with
 | lst xs=>obtain⟨z,FD,n,r,e⟩:=x;exact⟨z,FD,n,r,k _ _ (.inl rfl) e⟩
 | tup xs=>obtain⟨z,FD,r,ob,e,c⟩:=x;exact⟨z,FD,r,ob,k _ _ (.inl rfl) e,c⟩
 | dK kvs=>obtain⟨z,y,vs,r,ob,es,ep,e,c⟩:=x;exact⟨z,y,vs,r,ob,es,ep,k _ _ (.inl rfl) e,c⟩
 | dT kvs=>
  obtain⟨z,y,xs,r,ob,es,ep,e,c⟩:=x
  exact⟨z,y,xs,Paired.mapP r λp q z=>⟨z.1,z.2.1.keeps ht,z.2.2⟩,ob,es,ep,k _ _ (.inl rfl) e,c⟩
 | set S n=>obtain⟨ob,es,ep,t,e,c⟩:=x;exact⟨ob,es,ep,t,k _ _ (.inl rfl) e,c⟩
 | ins C dx fs=>
  obtain⟨d,z,ne,e,mA,⟨od,es,ep,e2,c⟩,r⟩:=x
  exact⟨ho _ d,z,ne,k _ _ (.inl rfl) e,mA,⟨od,es,ep,k _ _ (.inr d) e2,c⟩,r⟩
 | own y=>obtain⟨ob,e⟩:=x;exact⟨ob,k _ _ (.inl rfl) e⟩
 | xd fs=>obtain⟨mA,⟨od,es,ep,e,c⟩,r⟩:=x;exact⟨mA,⟨od,es,ep,k _ _ (.inl rfl) e,c⟩,r⟩
 | rng lo hi=>obtain⟨t,u,v,e⟩:=x;exact⟨t,u,v,k _ _ (.inl rfl) e⟩
 | frz ob u ih=>obtain⟨e,q⟩:=x;exact⟨k _ _ (.inl rfl) e,ih q⟩
 | tbl ps=>
  have e:h.get? a=some { cls:=.none,data:=.fields ps }:=x
  show h'.get? a=some { cls:=.none,data:=.fields ps }
  exact k a _ (.inl rfl) e
 | met f y=>
  have e:h.get? a=some (W.methodObj (.ref f) (.ref y)):=x
  show h'.get? a=some (W.methodObj (.ref f) (.ref y))
  exact k a _ (.inl rfl) e
 | ext φ=>obtain⟨p,⟨o,e⟩,st⟩:=x;exact⟨st _ _ p λo q=>k _ _ (.inl rfl) q,⟨o,k _ _ (.inl rfl) e⟩,st⟩
theorem LA.lt (x:LA P w K H h)(e:H a=some o):a < h.objs.size:=(x a o e).lt
theorem LA.fresh (x:LA P w K H h)(e:h.objs.size<=a):H a=none:=by
 cases q:H a with
 | none=>rfl
 | some u=>exact absurd (bv (x.lt q) e) (d5 _)
theorem LA.kept (x:LA P w K H h)(k:∀b u,h.get? b=some u->h'.get? b=some u):LA P w K H h':=λa o e=>
 (x a o e).OK (λb u _ q=>k b u q) (λ_ q=>q) λ_ _ q=>q
theorem LA.laid (x:LA P w K H h)(k:∀b u,h.get? b=some u->h'.get? b=some u)(hp:h.objs.size<=a)(new:FX P w K (upd H a o) h' a o):LA P w K (upd H a o) h':=λb u e=>by
 have hn:=x.fresh hp
 by_cases hb:b=a
 ·subst hb;rw[bx] at e;cases e;exact new
 ·rw[aQ hb] at e
  exact(x b u e).OK (λc v _ q=>k c v q) (λc q=>by rw[aQ (bz q hn)];exact q) λc xs q=>by rw[aQ (bz q hn)];exact q
end
def Rd (H:Hp)(a:Addr)(u:HO):Prop:=H a=some u\/∃o,H a=some (.frz o u)
theorem Rd.ok {P:Program}{w:World}{K:W.Frag}{H:Hp}{h:Heap}{a:Addr}{u:HO}(r:Rd H a u)(x:LA P w K H h):FX P w K H h a u:=by
 rcases r with r | ⟨o,r⟩
 ·exact x a u r
 ·obtain⟨_,q⟩:=x a _ r
  exact q
def Mut:Option HO->Prop
 | some (.lst _)=>True
 | some (.dK _)=>True
 | some (.dT _)=>True
 | some (.set _ _)=>True
 | some (.ins _ _ _)=>True
 | some (.ext _)=>True
 | _=>False
section
variable {P:Program}{w:World}{K:W.Frag}{H:Hp}{h h':Heap}{x e:Addr}{o':HO}
theorem LA.write (ok:LA P w K H h)(mu:Mut (H x))(he:e=x\/H e=some (.own x))(k:∀b u,b≠e->h.get? b=some u->h'.get? b=some u)(heo:∃u,h'.get? e=some u)
  (new:FX P w K (upd H x o') h' x o'):LA P w K (upd H x o') h':=λb u q=>by
 have nown:∀c y,H c=some (.own y)->c≠x:=λc y r z=>by subst z;rw[r] at mu;exact mu
 have ntup:∀c xs,H c=some (.tup xs)->c≠x:=λc xs r z=>by subst z;rw[r] at mu;exact mu
 by_cases hb:b=x
 ·subst hb;rw[bx] at q;cases q;exact new
 ·rw[aQ hb] at q
  by_cases hbe:b=e
  ·have q':H b=some (.own x):=by
    rcases he with z | z
    ·exact absurd (hbe.trans z) hb
    ·rw[hbe];exact z
   rw[q] at q';cases q'
   obtain⟨v,hv⟩:=heo
   exact⟨v,by rw[hbe];exact hv⟩
  ·refine(ok b u q).OK (λc v hc r=>k c v ?_ r) (λc r=>by rw[aQ (nown c b r)];exact r) λc xs r=>by rw[aQ (ntup c xs r)];exact r
   rcases hc with rfl | hc
   ·exact hbe
   ·rintro rfl
    rcases he with z | z
    ·exact nown c b hc z
    ·rw[hc] at z;cases z;exact hb rfl
end
structure Un (fs ex:o0)(H H':Hp)(h h':Heap):Prop where
 keep:∀b o,h.get? b=some o->H b=none->b∉fs->b∉ex->h'.get? b=some o
 slot:∀b o,h.get? b=some o->H b=none->b∈fs->b∉ex->∃sl,h'.get? b=some { o with slots:=sl }
 free:∀b o,h.get? b=some o->H b=none->b∉ex->H' b=none
 there:∀b o,h.get? b=some o->b∉ex->∃o',h'.get? b=some o'
 OL:∀b xs,H b=some (.tup xs)->H' b=some (.tup xs)
 N1:∀b o u,H b=some (.frz o u)->H' b=some (.frz o u)
 OM:∀b ps,H b=some (.tbl ps)->∃more,H' b=some (.tbl (ps++more))
section
variable {fs fs' ex ex':o0}{H H1 H2:Hp}{h h1 h2 h':Heap}{a x e:Addr}{o:HO}
theorem Un.any (u:Un fs ex H H1 h h1){b:Addr}{ob:Obj}(q:h.get? b=some ob)(n:H b=none)(hx:b∉ex):∃sl,h1.get? b=some { ob with slots:=sl }:=by
 by_cases hb:b∈fs
 ·exact u.slot b ob q n hb hx
 ·exact⟨ob.slots,u.keep b ob q n hb hx⟩
theorem Un.kept (k:∀b u,h.get? b=some u->h'.get? b=some u):Un fs ex H H h h':=
 ⟨λb ob q _ _ _=>k b ob q,λb ob q _ _ _=>⟨ob.slots,k b ob q⟩,λ_ _ _ n _=>n,λb ob q _=>⟨ob,k b ob q⟩,λ_ _ q=>q,λ_ _ _ q=>q,λ_ ps q=>⟨#[],by rw[q];simp⟩⟩
theorem Un.refl:Un fs ex H H h h:=Un.kept λ_ _ q=>q
theorem Un.laid (k:∀b u,h.get? b=some u->h'.get? b=some u)(hp:h.objs.size<=a)(hn:H a=none):Un fs ex H (upd H a o) h h' where
 keep:=λb u q _ _ _=>k b u q
 slot:=λb u q _ _ _=>⟨u.slots,k b u q⟩
 free:=λb u q n _=>by rw[aQ (bP (bv (aE q) hp))];exact n
 there:=λb u q _=>⟨u,k b u q⟩
 OL:=λb xs q=>by rw[aQ (bz q hn)];exact q
 N1:=λb u xs q=>by rw[aQ (bz q hn)];exact q
 OM:=λb ps q=>⟨#[],by rw[aQ (bz q hn),q];simp⟩
theorem Un.write (mu:Mut (H x))(he:e=x\/H e=some (.own x))(k:∀b u,b≠e->h.get? b=some u->h'.get? b=some u)(heo:∃u,h'.get? e=some u):Un fs ex H (upd H x o) h h':=by
 have hx:∀b,H b=none->b≠x:=λb n z=>by subst z;rw[n] at mu;exact mu
 have hb:∀b,H b=none->b≠e:=λb n z=>by
  subst z
  rcases he with r | r
  ·exact hx b n r
  ·rw[n] at r;cases r
 have hm:∀b u,H b=some u->¬ Mut (some u)->b≠x:=λb u q nm z=>by subst z;rw[q] at mu;exact nm mu
 refine⟨λb u q n _ _=>k b u (hb b n) q,λb u q n _ _=>⟨u.slots,k b u (hb b n) q⟩,λb u q n _=>by rw[aQ (hx b n)];exact n,λb u q _=>?_,
  λb xs q=>by rw[aQ (hm b _ q λz=>z)];exact q,λb u xs q=>by rw[aQ (hm b _ q λz=>z)];exact q,λb ps q=>⟨#[],by rw[aQ (hm b _ q λz=>z),q];simp⟩⟩
 by_cases hbe:b=e
 ·subst hbe;exact heo
 ·exact⟨u,k b u hbe q⟩
end
noncomputable def trk (h:Heap)(H:Hp):List Addr:=(List.range h.objs.size).filter λa=>(H a).isSome
noncomputable def uy (h:Heap)(H:Hp):Heap:=W.hideAll h (trk h H)
theorem KY (h:Heap)(H:Hp):(uy h H).objs.size=h.objs.size:=W.hideAll_size _ _
theorem Nt {h:Heap}{H:Hp}{b:Addr}{o:Obj}(e:h.get? b=some o)(n:H b=none):(uy h H).get? b=some o:=
 W.hideAll_get _ e λhm=>by
  have q:(H b).isSome=true:=(dy.mp hm).2
  rw[n] at q;simp at q
theorem QR {h:Heap}{H:Hp}{b:Addr}{o:Obj}(e:(uy h H).get? b=some o):h.get? b=some o/\H b=none:=by
 have e':h.get? b=some o:=W.of_hideAll (trk h H) e
 refine⟨e',?_⟩
 cases q:H b with
 | none=>rfl
 | some x=>
  have hm:b∈trk h H:=dy.mpr ⟨bS.mpr (aE e'),by simp[q]⟩
  have z:(uy h H).get? b=none:=W.hideAll_none (trk h H) hm
  rw[z] at e;cases e
noncomputable def QS (g h:Heap)(L:Addr):List (Addr×Obj):=(List.range h.objs.size).filterMap λa=>if a=L\/(g.get? a).isSome=true then none else (h.get? a).map λo=>(a,o)
noncomputable def rest (g h:Heap)(L d:Addr):List (Addr×Obj):=(QS g h L).filter λp=>decide (p.1≠d)
structure Mod (K:W.Frag)(mg:Str->Option Value)(base:Heap):Prop where
 Sj:K.In base
 glob:base.Ns mainGlobals mg
 blt:∃mb,base.Ns builtinsNs mb/\∀x:Str,x ≠ "__name__" -> mb x=bootBuiltins x
 nolimit:base.NoLimit
structure Cx where
 prog:Program
 w:World
 K:W.Frag
 mg:Str->Option Value
 base:Heap
 A:Around
 N:List Str
 s₀:Shared
 H₀:Hp
 env:Env
 outer:List Env
 stack:List Env
 ex:List Addr
 fn:Str->Bool
 calm:Bool
 pn:List (Addr×Obj)
 xe:Value->Shared->Prop
noncomputable def Sk (l:List Env):List Addr:=l.filterMap (·.frame)
abbrev Cx.fs (X:Cx):List Addr:=Sk X.outer
def Sl (sc:Scope)(x:Str):Prop:=sc.names.lookup x=some .local\/sc.names.lookup x=some .cell\/sc.names.lookup x=some .free
def Loc (sc:Scope)(x:Str):Prop:=sc.names.lookup x=some .local\/sc.names.lookup x=some .cell
def Look (env:Env)(h:Heap)(m:Str->Option Value)(x:Str)(u:Value):Prop:=
 (env.kindOf x=some .local/\m x=some u)\/((env.kindOf x=some .cell\/env.kindOf x=some .free)/\∃c,env.cells.lookup x=some c/\h.IsCell c (some u))
structure Cx.Ok (X:Cx):Prop where
 mod:Mod X.K X.mg X.base
 kind:X.env.scope.kind=.function
 glob:X.env.globals=mainGlobals
 blt:X.env.builtins=builtinsNs
 above:X.s₀.heap.objs.size<=X.env.locals
 inj:∀x y c,X.env.cells.lookup x=some c->X.env.cells.lookup y=some c->x=y
 has:∀x,(X.env.kindOf x=some .cell\/X.env.kindOf x=some .free)->∃c,X.env.cells.lookup x=some c
 cab:∀x c,X.fn x=true->X.env.cells.lookup x=some c->X.s₀.heap.objs.size<=c
 hd:X.calm=true->X.A.handled=none
 frames:X.A.frames=some X.stack
 stk:X.stack=X.outer\/(X.stack=X.env::X.outer/\X.env.frame=some X.env.locals)
 exf:∀b∈X.ex,b≠X.env.locals/\∀x c,X.env.cells.lookup x=some c->c≠b
 bs:∀b o,X.base.get? b=some o->X.s₀.heap.get? b=some o/\X.H₀ b=none
 YE:X.base.objs.size<=X.s₀.heap.objs.size
 Sm:∀b o,X.base.get? b=some o->b∉X.ex
 YI:∀b∈X.ex,b∉X.fs
 ME:X.s₀.heap.FunFrames X.base X.outer
 frf:∀b∈X.fs,X.H₀ b=none
structure Inv (X:Cx)(Fs:oy)(σ:List (Option V))(H:Hp)(s:Shared):Prop where
 ok:X.Ok
 os:s.os=X.s₀.os
 bare:AllBare s.gens
 base:Un X.fs X.ex X.H₀ H X.s₀.heap s.heap
 loc:∃m,s.heap.Ns X.env.locals m/\∀(i:Nat) (x:Str) (v:V),X.N[i]?=some x->σ[i]?=some (some v)->Sl X.env.scope x->∃u,RelV v u/\Look X.env s.heap m x u
 cell:∀x c,X.env.cells.lookup x=some c->∃v,s.heap.IsCell c v
 free:H X.env.locals=none
 KA:∀x c,X.env.cells.lookup x=some c->H c=none
 pin:∀p∈X.pn++Fs,s.heap.get? p.1=some p.2/\H p.1=none/\p.1≠X.env.locals/\p.1∉X.fs/\∀v,p.2.data≠.cell v
 FL:LA X.prog X.w X.K H s.heap
 len:σ.length=X.N.length
section
variable {X:Cx}{Fs:oy}{σ:List (Option V)}{H H':Hp}{s:Shared}{h':Heap}
theorem Cx.Ok.nofr (ok:X.Ok){b:Addr}{o:Obj}(e:X.base.get? b=some o):b∉X.fs:=λhb=>by
 have:=(ok.ME.mem hb).1
 rw[e] at this;cases this
theorem Inv.bs (I:Inv X Fs σ H s):∀b o,X.base.get? b=some o->s.heap.get? b=some o/\H b=none:=λb o e=>
 ⟨I.base.keep b o (I.ok.bs b o e).1 (I.ok.bs b o e).2 (I.ok.nofr e) (I.ok.Sm b o e),I.base.free b o (I.ok.bs b o e).1 (I.ok.bs b o e).2 (I.ok.Sm b o e)⟩
theorem Inv.bk (I:Inv X Fs σ H s):∀b o,X.base.get? b=some o->s.heap.get? b=some o:=λb o e=>(I.bs b o e).1
theorem Inv.mod (I:Inv X Fs σ H s):Mod X.K X.mg X.base:=I.ok.mod
theorem Inv.IP (I:Inv X Fs σ H s):X.K.In s.heap:=I.ok.mod.Sj.keeps I.bk
theorem Inv.lt (I:Inv X Fs σ H s):X.env.locals < s.heap.objs.size:=let ⟨_,hn,_⟩:=I.loc;hn.lt
theorem Inv.sz (I:Inv X Fs σ H s):X.s₀.heap.objs.size<=s.heap.objs.size:=cw I.ok.above (gE I.lt)
theorem Inv.nofs (I:Inv X Fs σ H s){a:Addr}(h:s.heap.objs.size<=a):a∉X.fs:=λhb=>by
 obtain⟨_,o,ho,_⟩:=I.ok.ME.mem hb
 exact absurd (bv (aE ho) (cw I.sz h)) (d5 _)
theorem Inv.cne (I:Inv X Fs σ H s):∀x c,X.env.cells.lookup x=some c->c≠X.env.locals:=λx c e z=>by
 obtain⟨v,o,ho,hd⟩:=I.cell x c e
 obtain⟨m,⟨o',es,ep,OC,hd',_⟩,_⟩:=I.loc
 rw[z,OC] at ho;cases ho;rw[hd'] at hd;cases hd
theorem Inv.ME (I:Inv X Fs σ H s):s.heap.FunFrames X.base X.outer:=by
 have all:∀(l:List Env),(∀b∈Sk l,b∈X.fs)->X.s₀.heap.FunFrames X.base l->s.heap.FunFrames X.base l:=by
  intro l
  induction l with
  | nil=>intro _ _;trivial
  | cons env r ih=>
   intro hs hl
   obtain⟨hk,⟨L,o,hf,hn,ho,hd⟩,hr⟩:=hl
   have hL:L∈X.fs:=hs L (by unfold Sk;rw[kB,hf];exact af)
   obtain⟨sl,e⟩:=I.base.slot L o ho (I.ok.frf L hL) hL λz=>I.ok.YI L z hL
   exact⟨hk,⟨L,_,hf,hn,e,hd⟩,ih (λb hb=>hs b (by unfold Sk;rw[kB,hf];exact ac _ hb)) hr⟩
 exact all X.outer (λ_ hb=>hb) I.ok.ME
theorem Inv.stack (I:Inv X Fs σ H s):s.heap.FunFrames X.base X.stack:=by
 rcases I.ok.stk with e | ⟨e,hf⟩
 ·rw[e];exact I.ME
 ·rw[e]
  obtain⟨m,hn,_⟩:=I.loc
  refine .cons (by rw[I.ok.kind];decide) hf hn ?_ I.ME
  exact Heap.get?_none_of_le (cw I.ok.YE I.ok.above)
theorem Inv.N3 (I:Inv X Fs σ H s):∀b∈Sk X.stack,b∈X.env.locals::X.fs:=λb hb=>by
 rcases I.ok.stk with e | ⟨e,hf⟩
 ·rw[e] at hb;exact ac _ hb
 ·rw[e] at hb
  unfold Sk at hb
  rw[kB,hf] at hb
  exact hb
theorem Inv.PH (I:Inv X Fs σ H s):∀b∈Sk X.stack,H b=none:=λb hb=>by
 rcases ar.mp (I.N3 b hb) with e | hb
 ·rw[e];exact I.free
 ·obtain⟨_,o,ho,_⟩:=I.ok.ME.mem hb
  exact I.base.free b o ho (I.ok.frf b hb) λz=>I.ok.YI b z hb
theorem Inv.step {g':Array GenState}{t':Nat}{d':Drawn}{ch:o0}(I:Inv X Fs σ H s)
  (Sb:∀b∈ch,(b∈X.ex\/X.s₀.heap.objs.size<=b)/\b≠X.env.locals/\(∀x c,X.env.cells.lookup x=some c->c≠b)/\∀p∈X.pn++Fs,p.1≠b)
  (keep:∀b o,b≠X.env.locals->b∉X.fs->b∉ch->s.heap.get? b=some o->H b=none->h'.get? b=some o)
  (slot:∀b o,b≠X.env.locals->b∈X.fs->b∉ch->s.heap.get? b=some o->H b=none->∃sl,h'.get? b=some { o with slots:=sl }) (free:∀b o,b∉ch->s.heap.get? b=some o->H b=none->H' b=none)
  (there:∀b o,b∉ch->s.heap.get? b=some o->∃o',h'.get? b=some o')
  (OL:∀b xs,H b=some (.tup xs)->H' b=some (.tup xs)) (N1:∀b o u,H b=some (.frz o u)->H' b=some (.frz o u)) (OM:∀b ps,H b=some (.tbl ps)->∃more,H' b=some (.tbl (ps++more)))
  (ns:∀m,s.heap.Ns X.env.locals m->h'.Ns X.env.locals m) (FL:LA X.prog X.w X.K H' h') (hg:AllBare g'):
  Inv X Fs σ H' { s with heap:=h',gens:=g',drawn:=d',toks:=t' }:=by
 have neL:∀b o,X.s₀.heap.get? b=some o->b≠X.env.locals:=λb o e=>bP (bv (aE e) I.ok.above)
 have neC:∀b o,X.s₀.heap.get? b=some o->b∉X.ex->b∉ch:=λb o e hx hb=>by
  rcases(Sb b hb).1 with z | z
  ·exact hx z
  ·exact absurd (bv (aE e) z) (d5 _)
 have cellK:∀x c,X.env.cells.lookup x=some c->∀v,s.heap.IsCell c v->h'.IsCell c v:=by
  rintro x c e v ⟨o,ho,hd⟩
  have Sn:c∉ch:=λz=>(Sb c z).2.2.1 x c e rfl
  by_cases hc:c∈X.fs
  ·obtain⟨sl,q⟩:=slot c o (I.cne x c e) hc Sn ho (I.KA x c e)
   exact⟨_,q,hd⟩
  ·exact⟨o,keep c o (I.cne x c e) hc Sn ho (I.KA x c e),hd⟩
 refine⟨I.ok,I.os,hg,⟨λb o e n hb hx=>?_,λb o e n hb hx=>?_,λb o e n hx=>?_,λb o e hx=>?_,λb xs e=>OL b xs (I.base.OL b xs e),λb o xs e=>N1 b o xs (I.base.N1 b o xs e),λb ps e=>?_⟩,?_,λx c e=>?_,?_,λx c e=>?_,λp hp=>?_,FL,I.len⟩
 ·exact keep b o (neL b o e) hb (neC b o e hx) (I.base.keep b o e n hb hx) (I.base.free b o e n hx)
 ·obtain⟨sl,e1⟩:=I.base.slot b o e n hb hx
  obtain⟨sl',e2⟩:=slot b _ (neL b o e) hb (neC b o e hx) e1 (I.base.free b o e n hx)
  exact⟨sl',e2⟩
 ·obtain⟨o',e1⟩:=I.base.there b o e hx
  exact free b o' (neC b o e hx) e1 (I.base.free b o e n hx)
 ·obtain⟨o',e1⟩:=I.base.there b o e hx
  exact there b o' (neC b o e hx) e1
 ·obtain⟨m1,e1⟩:=I.base.OM b ps e
  obtain⟨m2,e2⟩:=OM b _ e1
  exact⟨m1++m2,by rw[e2,Array.append_assoc]⟩
 ·obtain⟨m,hn,hl⟩:=I.loc
  refine⟨m,ns m hn,λi x v e1 e2 e3=>?_⟩
  obtain⟨u,r,l⟩:=hl i x v e1 e2 e3
  refine⟨u,r,?_⟩
  rcases l with l | ⟨k,c,e,z⟩
  ·exact .inl l
  ·exact .inr ⟨k,c,e,cellK x c e _ z⟩
 ·obtain⟨v,z⟩:=I.cell x c e
  exact⟨v,cellK x c e v z⟩
 ·obtain⟨m,⟨o,_,_,ho,_⟩,_⟩:=I.loc
  exact free _ o (λz=>(Sb _ z).2.1 rfl) ho I.free
 ·obtain⟨v,o,ho,hd⟩:=I.cell x c e
  exact free c o (λz=>(Sb c z).2.2.1 x c e rfl) ho (I.KA x c e)
 ·obtain⟨e,n,ne,nf,d⟩:=I.pin p hp
  have Sn:p.1∉ch:=λz=>(Sb p.1 z).2.2.2 p hp rfl
  exact⟨keep p.1 p.2 ne nf Sn e n,free p.1 p.2 Sn e n,ne,nf,d⟩
theorem Inv.un {t':Nat}(I:Inv X Fs σ H s)(u:Un X.fs [] H H' s.heap h')(FL:LA X.prog X.w X.K H' h'):Inv X Fs σ H' { s with heap:=h',toks:=t' }:=by
 obtain⟨m,⟨o,es,ep,ho,r⟩,_⟩:=id I.loc
 obtain⟨sl,hL⟩:=u.any ho I.free (by simp)
 exact I.step (g':=s.gens) (d':=s.drawn) (ch:=[]) (λ_ z=>nomatch z) (λb o _ hb _ e n=>u.keep b o e n hb (by simp)) (λb o _ hb _ e n=>u.slot b o e n hb (by simp)) (λb o _ e n=>u.free b o e n (by simp)) (λb o _ e=>u.there b o e (by simp)) u.OL u.N1 u.OM (λm' hm=>by
  obtain⟨o',es',ep',OC,r'⟩:=hm
  rw[ho] at OC;cases OC
  exact⟨_,es',ep',hL,r'⟩) FL I.bare
theorem Inv.call {g':Array GenState}{t':Nat}{d':Drawn}{ch:o0}(I:Inv X Fs σ H s)(u:Un (Sk X.stack) ch H H' s.heap h')(FL:LA X.prog X.w X.K H' h')(hg:AllBare g')
  (Sb:∀b∈ch,(b∈X.ex\/X.s₀.heap.objs.size<=b)/\b≠X.env.locals/\(∀x c,X.env.cells.lookup x=some c->c≠b)/\∀p∈X.pn++Fs,p.1≠b):
  Inv X Fs σ H' { s with heap:=h',gens:=g',drawn:=d',toks:=t' }:=by
 obtain⟨m,⟨o,es,ep,ho,r⟩,_⟩:=id I.loc
 obtain⟨sl,hL⟩:=u.any ho I.free λz=>(Sb _ z).2.1 rfl
 exact I.step (ch:=ch) Sb (λb o hL hb hc e n=>u.keep b o e n (λz=>(ar.mp (I.N3 b z)).elim hL hb) hc) (λb o _ _ hc e n=>u.any e n hc) (λb o hc e n=>u.free b o e n hc) (λb o hc e=>u.there b o e hc) u.OL u.N1 u.OM (λm' hm=>by
  obtain⟨o',es',ep',OC,r'⟩:=hm
  rw[ho] at OC;cases OC
  exact⟨_,es',ep',hL,r'⟩) FL hg
theorem Inv.turned {t':Nat}{it:Addr}(I:Inv X Fs σ H s)(k:∀b o,b≠it->s.heap.get? b=some o->h'.get? b=some o)(hn:H it=none)(hL:it≠X.env.locals)
  (h1:it∈X.ex\/X.s₀.heap.objs.size<=it) (h2:∀x c,X.env.cells.lookup x=some c->c≠it) (h3:∀p∈X.pn++Fs,p.1≠it):Inv X Fs σ H { s with heap:=h',toks:=t' }:=by
 have nit:∀b u,H b=some u->b≠it:=λb u e z=>by rw[z,hn] at e;cases e
 refine I.step (g':=s.gens) (d':=s.drawn) (ch:=[it]) (λb hb=>?_) (λb o _ _ hc e _=>k b o (λz=>hc (by simp[z])) e) (λb o _ _ hc e _=>⟨o.slots,k b o (λz=>hc (by simp[z])) e⟩) (λ_ _ _ _ n=>n)
  (λb o hc e=>⟨o,k b o (λz=>hc (by simp[z])) e⟩) (λ_ _ e=>e) (λ_ _ _ e=>e) (λb ps e=>⟨#[],by rw[e];simp⟩) (λm hm=>?_) (λb u e=>?_) I.bare
 ·have e:b=it:=by simpa using hb
  subst e
  exact⟨h1,hL,h2,h3⟩
 ·obtain⟨o,es,ep,ho,r⟩:=hm
  exact⟨o,es,ep,k _ o (eS hL) ho,r⟩
 ·refine(I.FL b u e).OK (λc v hc q=>k c v ?_ q) (λ_ q=>q) λ_ _ q=>q
  rcases hc with z | z
  ·rw[z];exact nit b u e
  ·exact nit c _ z
theorem Inv.tok (I:Inv X Fs σ H s)(t:Nat):Inv X Fs σ H { s with toks:=t }:=I.un (h':=s.heap) (t':=t) Un.refl I.FL
theorem Inv.kept {t':Nat}(I:Inv X Fs σ H s)(k:∀b u,s.heap.get? b=some u->h'.get? b=some u):Inv X Fs σ H { s with heap:=h',toks:=t' }:=I.un (Un.kept k) (I.FL.kept k)
theorem Inv.laid {a:Addr}{o:HO}{t':Nat}(I:Inv X Fs σ H s)(k:∀b u,s.heap.get? b=some u->h'.get? b=some u)(hp:s.heap.objs.size<=a)(new:FX X.prog X.w X.K (upd H a o) h' a o):
  Inv X Fs σ (upd H a o) { s with heap:=h',toks:=t' }:=I.un (Un.laid k hp (I.FL.fresh hp)) (I.FL.laid k hp new)
theorem Inv.write {x e:Addr}{o:HO}{t':Nat}(I:Inv X Fs σ H s)(mu:Mut (H x))(he:e=x\/H e=some (.own x))(k:∀b u,b≠e->s.heap.get? b=some u->h'.get? b=some u)(heo:∃u,h'.get? e=some u)
  (new:FX X.prog X.w X.K (upd H x o) h' x o):Inv X Fs σ (upd H x o) { s with heap:=h',toks:=t' }:=I.un (Un.write mu he k heo) (I.FL.write mu he k heo new)
theorem Inv.weak {σ':List (Option V)}(I:Inv X Fs σ H s)(hl:σ'.length=σ.length)(w:∀(i:Nat) v,σ'[i]?=some (some v)->σ[i]?=some (some v)):Inv X Fs σ' H s:=
 ⟨I.ok,I.os,I.bare,I.base,let ⟨m,hn,NU⟩:=I.loc;⟨m,hn,λi x v e1 e2 e3=>NU i x v e1 (w i v e2) e3⟩,I.cell,I.free,I.KA,I.pin,I.FL,hl.trans I.len⟩
theorem Inv.PM {pins':oy}(I:Inv X Fs σ H s)(h:∀p∈pins',s.heap.get? p.1=some p.2/\H p.1=none/\p.1≠X.env.locals/\p.1∉X.fs/\∀v,p.2.data≠.cell v):Inv X pins' σ H s:=
 ⟨I.ok,I.os,I.bare,I.base,I.loc,I.cell,I.free,I.KA,λp hp=>(bX.mp hp).elim (λz=>I.pin p (nr _ z)) (h p),I.FL,I.len⟩
theorem Ej {N:oP}(hN:N.Nodup){i j:Nat}{x:Str}(a:N[i]?=some x)(b:N[j]?=some x):i=j:=by
 obtain⟨h1,e1⟩:=av.mp a
 obtain⟨h2,e2⟩:=av.mp b
 exact(List.getElem_inj hN).mp (e1.trans e2.symm)
theorem BR {M:Model}{A:Around}{E:ox}{i:Nat}{x:Str}{v:V}{u:Value}{Q:Unit->Shared->Prop}(I:Inv X Fs σ H s)(hN:X.N.Nodup)(hi:X.N[i]?=some x)(hx:Loc X.env.scope x)(r:RelV v u)
  (h:∀s',Inv X Fs (σ.set i (some v)) H s'->(∃a,Heap.SameBut a s.heap s'.heap/\(a=X.env.locals\/X.env.cells.lookup x=some a))->Q () s') (hf:autoParam (X.fn x=true\/X.env.scope.names.lookup x=some .local) r2_):wpAny M A (storeName X.env x u) Q E s:=by
 obtain⟨m,hn,hl⟩:=id I.loc
 have hcls:(X.env.scope.kind == .class||(X.env.scope.kind == .module&&X.env.locals != X.env.globals))=false:=by rw[I.ok.kind];rfl
 have hiσ:i < σ.length:=by rw[I.len];exact(av.mp hi).1
 have cne:=I.cne
 have tracked:∀{a:Addr}{h':Heap},(∃o,s.heap.get? a=some o/\H a=none)->Heap.SameBut a s.heap h'->LA X.prog X.w X.K H h':=λ{a h'} ha hs b ob e=>by
  obtain⟨_,_,hfree⟩:=ha
  refine(I.FL b ob e).OK (λc w' hc q=>(hs.2 c ?_).trans q) (λ_ q=>q) λ_ _ q=>q
  rintro rfl
  rcases hc with rfl | hc
  ·rw[hfree] at e;cases e
  ·rw[hfree] at hc;cases hc
 rcases hx with hk | hk
 ·refine wpAny_storeName_local hk hn (λh' hn' hs=>?_) hcls
  obtain⟨oL,_,_,hoL,_⟩:=id hn
  refine h _ ⟨I.ok,I.os,I.bare,⟨λb o e n hb hx=>?_,λb o e n hb hx=>?_,I.base.free,λb o e hx=>?_,I.base.OL,I.base.N1,I.base.OM⟩,⟨_,hn',λj y v' e1 e2 e3=>?_⟩,λy c e=>?_,I.free,I.KA,λp hp=>?_,tracked ⟨oL,hoL,I.free⟩ hs,by simpa using I.len⟩ ⟨_,hs,.inl rfl⟩
  ·exact(hs.2 b (bP (bv (aE e) I.ok.above))).trans (I.base.keep b o e n hb hx)
  ·obtain⟨sl,e1⟩:=I.base.slot b o e n hb hx
   exact⟨sl,(hs.2 b (bP (bv (aE e) I.ok.above))).trans e1⟩
  ·obtain⟨o',e1⟩:=I.base.there b o e hx
   exact⟨o',(hs.2 b (bP (bv (aE e) I.ok.above))).trans e1⟩
  ·by_cases hj:j=i
   ·subst hj
    rw[hi] at e1;cases e1
    rw[cb hiσ] at e2
    cases e2
    exact⟨u,r,.inl ⟨hk,by simp⟩⟩
   ·rw[aI (eS hj)] at e2
    obtain⟨u',r',q⟩:=hl j y v' e1 e2 e3
    refine⟨u',r',?_⟩
    rcases q with ⟨k,e⟩ | ⟨k,c,e,z⟩
    ·refine .inl ⟨k,?_⟩
     have:y≠x:=λe=>hj (Ej hN e1 (e▸hi))
     simp[this,e]
    ·exact .inr ⟨k,c,e,z.sameBut hs (cne y c e)⟩
  ·obtain⟨w',z⟩:=I.cell y c e
   exact⟨w',z.sameBut hs (cne y c e)⟩
  ·obtain⟨e,n,ne,nf,d⟩:=I.pin p hp
   exact⟨(hs.2 p.1 ne).trans e,n,ne,nf,d⟩
 ·have hfn:X.fn x=true:=by
   rcases hf with z | z
   ·exact z
   ·rw[z] at hk;cases hk
  obtain⟨c,hc⟩:=I.ok.has x (.inl hk)
  obtain⟨w',z⟩:=I.cell x c hc
  refine wpAny_storeName_cell I.ok.kind hk hc z (λh' YN hs=>?_)
  obtain⟨oc,hoc,hocd⟩:=id z
  refine h { s with heap:=h' } ⟨I.ok,I.os,I.bare,⟨λb o e n hb hx=>?_,λb o e n hb hx=>?_,I.base.free,λb o e hx=>?_,I.base.OL,I.base.N1,I.base.OM⟩,⟨m,hn.sameBut hs (eS (cne x c hc)),λj y v' e1 e2 e3=>?_⟩,λy c' e=>?_,I.free,I.KA,λp hp=>?_,tracked ⟨oc,hoc,I.KA x c hc⟩ hs,by simpa using I.len⟩ ⟨c,hs,.inr hc⟩
  ·exact(hs.2 b (bP (bv (aE e) (I.ok.cab x c hfn hc)))).trans (I.base.keep b o e n hb hx)
  ·obtain⟨sl,e1⟩:=I.base.slot b o e n hb hx
   exact⟨sl,(hs.2 b (bP (bv (aE e) (I.ok.cab x c hfn hc)))).trans e1⟩
  ·obtain⟨o',e1⟩:=I.base.there b o e hx
   exact⟨o',(hs.2 b (bP (bv (aE e) (I.ok.cab x c hfn hc)))).trans e1⟩
  ·by_cases hj:j=i
   ·subst hj
    rw[hi] at e1;cases e1
    rw[cb hiσ] at e2
    cases e2
    exact⟨u,r,.inr ⟨.inl hk,c,hc,YN⟩⟩
   ·rw[aI (eS hj)] at e2
    obtain⟨u',r',q⟩:=hl j y v' e1 e2 e3
    refine⟨u',r',?_⟩
    rcases q with q | ⟨k,c',e,z'⟩
    ·exact .inl q
    ·refine .inr ⟨k,c',e,z'.sameBut hs ?_⟩
     rintro rfl
     exact hj (Ej hN e1 (I.ok.inj _ _ _ e hc▸hi))
  ·by_cases PR:c'=c
   ·subst PR;exact⟨_,YN⟩
   ·obtain⟨w2,z2⟩:=I.cell y c' e
    exact⟨w2,z2.sameBut hs PR⟩
  ·obtain⟨e,n,ne,nf,d⟩:=I.pin p hp
   refine⟨(hs.2 p.1 ?_).trans e,n,ne,nf,d⟩
   intro q
   rw[q,hoc] at e
   have q':oc=p.2:=bi e
   exact d w' (by rw[← q'];exact hocd)
theorem Ek {M:Model}{A:Around}{E:ox}{i:Nat}{x:Str}{v:V}{u:Value}{Q:Unit->Shared->Prop}(I:Inv X Fs σ H s)(hN:X.N.Nodup)(hi:X.N[i]?=some x)(hx:Loc X.env.scope x)(r:RelV v u)
  (h:∀s',Inv X Fs (σ.set i (some v)) H s'->Q () s') (hf:autoParam (X.fn x=true\/X.env.scope.names.lookup x=some .local) r2_):wpAny M A (storeName X.env x u) Q E s:=
 BR I hN hi hx r (λs' I' _=>h s' I') hf
theorem Inv.call' {s':Shared}{ch:o0}(I:Inv X Fs σ H s)(ho:s'.os=s.os)(u:Un (Sk X.stack) ch H H' s.heap s'.heap)(FL:LA X.prog X.w X.K H' s'.heap)(hg:AllBare s'.gens)
  (Sb:∀b∈ch,(b∈X.ex\/X.s₀.heap.objs.size<=b)/\b≠X.env.locals/\(∀x c,X.env.cells.lookup x=some c->c≠b)/\∀p∈X.pn++Fs,p.1≠b):Inv X Fs σ H' s':=by
 obtain⟨h',g',d',t',o'⟩:=s'
 have e:o'=s.os:=ho
 subst e
 exact I.call (g':=g') (t':=t') (d':=d') u FL hg Sb
end
abbrev XK:=Value->Option Addr->Hp->Prop
abbrev St:=List (Option V)
abbrev VK:=V->Hp->Prop
abbrev TE:=St->Hp->VK->Prop
abbrev TT:=St->Hp->(Bool->Hp->Prop)->Prop
abbrev TA:=St->Hp->(List V->Hp->Prop)->Prop
structure Ends where
 nx:St->Hp->Prop
 rt:VK
 bk:St->Hp->Prop:=λ_ _=>False
 ct:St->Hp->Prop:=λ_ _=>False
abbrev TS:=Ends->St->Hp->Prop
def EP (X:Cx)(Fs:oy)(σ:St)(Q:VK)(u:Value)(s':Shared):Prop:=∃v H',Inv X Fs σ H' s'/\RelV v u/\Q v H'
def TP (X:Cx)(Fs:oy)(σ:St)(Q:Bool->Hp->Prop)(b:Bool)(s':Shared):Prop:=∃H',Inv X Fs σ H' s'/\Q b H'
def AP (X:Cx)(Fs:oy)(σ:St)(Q:List V->Hp->Prop)(us:oB)(s':Shared):Prop:=∃vs H',Inv X Fs σ H' s'/\Vals vs us/\Q vs H'
def SP (X:Cx)(Fs:oy)(D:Ends)(f:Flow)(s':Shared):Prop:=
 match f with
 | .next=>∃ σ' H',Inv X Fs σ' H' s'/\D.nx σ' H'
 | .brk=>∃ σ' H',Inv X Fs σ' H' s'/\D.bk σ' H'
 | .cont=>∃ σ' H',Inv X Fs σ' H' s'/\D.ct σ' H'
 | .ret u=>∃v σ' H',Inv X Fs σ' H' s'/\RelV v u/\D.rt v H'
def PE (X:Cx)(e:Expr)(t:TE):Prop:=
 ∀(Fs:oy) (s:Shared) (σ:St) (H:Hp) (Q:VK),Inv X Fs σ H s->t σ H Q->wpAny (model X.prog X.w) X.A (eval e X.env) (EP X Fs σ Q) X.xe s
def PT (X:Cx)(e:Expr)(t:TT):Prop:=
 ∀(Fs:oy) (s:Shared) (σ:St) (H:Hp) (Q:Bool->Hp->Prop),Inv X Fs σ H s->t σ H Q->wpAny (model X.prog X.w) X.A (isTrue e X.env (eval e X.env)) (TP X Fs σ Q) X.xe s
def PW (X:Cx)(e:Expr)(t:TT):Prop:=
 ∀(whole:Sem Value) (Fs:oy) (s:Shared) (σ:St) (H:Hp) (Q:Bool->Hp->Prop),Inv X Fs σ H s->t σ H Q->wpAny (model X.prog X.w) X.A (isTrue e X.env whole) (TP X Fs σ Q) X.xe s
def PA (X:Cx)(es:oI)(t:TA):Prop:=
 ∀(pos:Pos) (Fs:oy) (s:Shared) (σ:St) (H:Hp) (Q:List V->Hp->Prop),Inv X Fs σ H s->t σ H Q->wpAny (model X.prog X.w) X.A (spliced (backTo pos (starEach es X.env))) (AP X Fs σ Q) X.xe s
def PS (X:Cx)(st:Stmt)(t:TS):Prop:=
 ∀(Fs:oy) (s:Shared) (σ:St) (H:Hp) (D:Ends),Inv X Fs σ H s->t D σ H->wpAny (model X.prog X.w) X.A (exec st X.env) (SP X Fs D) X.xe s
def LV (X:Cx)(st:oC)(t:TS):Prop:=
 ∀(Fs:oy) (s:Shared) (σ:St) (H:Hp) (D:Ends),Inv X Fs σ H s->t D σ H->wpAny (model X.prog X.w) X.A (execs st X.env) (SP X Fs D) X.xe s
theorem F2 {α:Type}{t:Sem α}{Q Q':α->Shared->Prop}{M:Model}{A:Around}{E:ox}{s:Shared}(h:wpAny M A t Q E s)(hQ:∀a s,Q a s->Q' a s):wpAny M A t Q' E s:=ff h hQ λ_ _ x=>x
section
variable {X:Cx}
def TJ (i:Nat):TE:=fun σ H Q=>∃v,σ[i]?=some (some v)/\Q v H
def tC (v:V):TE:=λ_ H Q=>Q v H
theorem kh {i:Nat}{x:Str}{pos:Pos}(hN:X.N[i]?=some x)(hv:Sl X.env.scope x)(hd:autoParam ((x == ("__debug__" : Str))=false) r1_)(LW:autoParam ((x == ("__classdict__" : Str))=false) r1_):PE X (.Name x pos) (TJ i):=by
 intro Fs s σ H Q I h
 obtain⟨v,e,h⟩:=h
 obtain⟨m,hn,hl⟩:=I.loc
 obtain⟨u,r,l⟩:=hl i x v hN e hv
 have fin:EP X Fs σ Q u s:=⟨v,H,I,r,h⟩
 rcases l with ⟨hk,hm⟩ | ⟨hk,c,hc,PU⟩
 ·exact wpAny_Name (wpAny_loadName_local I.ok.kind hk hn hm fin) hd
 ·rcases hk with hk | hk
  ·exact wpAny_Name (wpAny_loadName_cell I.ok.kind hk hc PU fin) hd
  ·exact wpAny_Name (wpAny_loadName_free I.ok.kind hk hc PU fin LW) hd
theorem TQ {i j pos}:PE X (.Constant (.int i) j pos) (tC (.int i)):=λ_ _ _ H _ I h=>wpAny_Constant_int ⟨.int i,H,I.tok _,⟨_,rfl⟩,h⟩
theorem Xb {b j pos}:PE X (.Constant (.bool b) j pos) (tC (.bl b)):=λ_ _ _ H _ I h=>Constant_bool ⟨.bl b,H,I,rfl,h⟩
theorem TV {j pos}:PE X (.Constant .none j pos) (tC .FG):=λ_ _ _ H _ I h=>Constant_none ⟨.FG,H,I,rfl,h⟩
theorem TY {x j pos}:PE X (.Constant (.str x) j pos) (tC (.str x)):=λ_ _ _ H _ I h=>Calls.Constant_str ⟨.str x,H,I.tok _,⟨_,rfl⟩,h⟩
def Gl (X:Cx)(x:Str):Prop:=X.env.kindOf x=some .globalImplicit
theorem z_ {E:ox}{Fs:oy}{s:Shared}{σ:St}{H:Hp}{x:Str}{u:Value}{pos:Pos}{Q:ox}(I:Inv X Fs σ H s)(hg:Gl X x)(hm:X.mg x=some u)(h:Q u s)
  (hd:autoParam ((x == ("__debug__" : Str))=false) r1_):wpAny (model X.prog X.w) X.A (eval (.Name x pos) X.env) Q E s:=
 kQ I.ok.kind hg (Calls.loadGlobal_global (by rw[I.ok.glob];exact I.mod.glob.keeps I.bk) hm h) hd
theorem fK {E:ox}{Fs:oy}{s:Shared}{σ:St}{H:Hp}{x:Str}{u:Value}{pos:Pos}{Q:ox}(I:Inv X Fs σ H s)(hg:Gl X x)(hm:X.mg x=none)(hv:bootBuiltins x=some u)(h:Q u s)
  (hn:x ≠ "__name__" := by decide) (hd:autoParam ((x == ("__debug__" : Str))=false) r1_):wpAny (model X.prog X.w) X.A (eval (.Name x pos) X.env) Q E s:=by
 obtain⟨mb,h1,h2⟩:=I.mod.blt
 exact kQ I.ok.kind hg (Calls.loadGlobal_builtin (by rw[I.ok.glob];exact I.mod.glob.keeps I.bk) hm (by rw[I.ok.blt];exact h1.keeps I.bk) ((h2 x hn).trans hv) h) hd
theorem Aa {x:Str}{v:V}{u:Value}{pos:Pos}(hg:Gl X x)(hm:X.mg x=some u)(r:RelV v u)(hd:autoParam ((x == ("__debug__" : Str))=false) r1_):PE X (.Name x pos) (tC v):=
 λ_ _ _ H _ I h=>z_ I hg hm ⟨v,H,I,r,h⟩ hd
theorem QT {x:Str}{v:V}{u:Value}{pos:Pos}(hg:Gl X x)(hm:X.mg x=none)(hv:bootBuiltins x=some u)(r:RelV v u)(hn:x ≠ "__name__" := by decide)(hd:autoParam ((x == ("__debug__" : Str))=false) r1_):PE X (.Name x pos) (tC v):=
 λ_ _ _ H _ I h=>fK I hg hm hv ⟨v,H,I,r,h⟩ hn hd
variable {a b:Expr}{ta tb:TE}{pos:Pos}
def tB (t:TE):TT:=fun σ H Q=>t σ H λx H1=>∃c,x=.bl c/\Q c H1
theorem T3 {e:Expr}{t:TE}(h:PE X e t)(he:autoParam (∀whole,isTrue e X.env whole=(do let v ← whole;standAt e.pos;holding [v] (truthy v))) r4_):PT X e (tB t):=by
 intro Fs s σ H Q I hw
 refine isTrue_plain (F2 (h Fs s σ H _ I hw) ?_) (he _)
 rintro v s1 ⟨x,H1,I1,r1,q1⟩
 obtain⟨d,rfl,q⟩:=q1
 cases r1
 exact fk ⟨H1,I1,q⟩
variable {tA tB':TT}{rest:oI}
def Yp (t u:TT):TT:=fun σ H Q=>t σ H λc H1=>if c=true then u σ H1 Q else Q false H1
def tOr (t u:TT):TT:=fun σ H Q=>t σ H λc H1=>if c=true then Q true H1 else u σ H1 Q
def Yq (t:TT):TT:=fun σ H Q=>t σ H λc H1=>Q (!c) H1
theorem QV (ha:PT X a tA):PW X (.BoolOp .And [a] pos) tA:=by
 intro wh Fs s σ H Q I h
 refine isTrue_and (F2 (ha Fs s σ H Q I h) λc s1 e=>?_)
 cases c with
 | true=>exact isTrue_and_nil e
 | false=>exact e
theorem T4 (ha:PT X a tA):PW X (.BoolOp .Or [a] pos) tA:=by
 intro wh Fs s σ H Q I h
 refine isTrue_or (F2 (ha Fs s σ H Q I h) λc s1 e=>?_)
 cases c with
 | false=>exact isTrue_or_nil e
 | true=>exact e
theorem T5 (ha:PT X a tA)(hb:PW X (.BoolOp .And (b::rest) pos) tB'):PW X (.BoolOp .And (a::b::rest) pos) (Yp tA tB'):=by
 intro wh Fs s σ H Q I h
 refine isTrue_and (F2 (ha Fs s σ H _ I h) ?_)
 rintro c s1 ⟨H1,I1,q1⟩
 cases c with
 | true=>exact hb wh Fs s1 σ H1 Q I1 q1
 | false=>exact⟨H1,I1,q1⟩
theorem Xc (ha:PT X a tA)(hb:PW X (.BoolOp .Or (b::rest) pos) tB'):PW X (.BoolOp .Or (a::b::rest) pos) (tOr tA tB'):=by
 intro wh Fs s σ H Q I h
 refine isTrue_or (F2 (ha Fs s σ H _ I h) ?_)
 rintro c s1 ⟨H1,I1,q1⟩
 cases c with
 | true=>exact⟨H1,I1,q1⟩
 | false=>exact hb wh Fs s1 σ H1 Q I1 q1
theorem T6 (ha:PT X a tA):PT X (.UnaryOp .Not a pos) (Yq tA):=by
 intro Fs s σ H Q I h
 exact isTrue_not (ha Fs s σ H (λc H1=>Q (!c) H1) I h)
def Xd (ta tb:TE):TE:=fun σ H Q=>ta σ H λx H1=>∃c,x=.bl c/\if c=true then tb σ H1 Q else Q (.bl false) H1
def Yr (ta tb:TE):TE:=fun σ H Q=>ta σ H λx H1=>∃c,x=.bl c/\if c=true then Q (.bl true) H1 else tb σ H1 Q
theorem T7 {op}{t:TE}(h:PE X a t):PE X (.BoolOp op [a] pos) t:=λFs s σ H Q I hw=>BoolOp_one (h Fs s σ H Q I hw)
theorem T8 (ha:PE X a ta)(hb:PE X (.BoolOp .And (b::rest) pos) tb):PE X (.BoolOp .And (a::b::rest) pos) (Xd ta tb):=by
 intro Fs s σ H Q I h
 refine BoolOp_and (F2 (ha Fs s σ H _ I h) ?_)
 rintro v s1 ⟨x,H1,I1,r1,q1⟩
 obtain⟨c,rfl,q1⟩:=q1
 cases r1
 refine fk ?_
 cases c with
 | true=>exact hb Fs s1 σ H1 Q I1 q1
 | false=>exact⟨.bl false,H1,I1,rfl,q1⟩
theorem Xe (ha:PE X a ta)(hb:PE X (.BoolOp .Or (b::rest) pos) tb):PE X (.BoolOp .Or (a::b::rest) pos) (Yr ta tb):=by
 intro Fs s σ H Q I h
 refine BoolOp_or (F2 (ha Fs s σ H _ I h) ?_)
 rintro v s1 ⟨x,H1,I1,r1,q1⟩
 obtain⟨c,rfl,q1⟩:=q1
 cases r1
 refine fk ?_
 cases c with
 | false=>exact hb Fs s1 σ H1 Q I1 q1
 | true=>exact⟨.bl true,H1,I1,rfl,q1⟩
def tIf (t:TT)(ta tb:TE):TE:=fun σ H Q=>t σ H λc H1=>if c=true then ta σ H1 Q else tb σ H1 Q
theorem Nu {c:Expr}(hc:PT X c tA)(ha:PE X a ta)(hb:PE X b tb):PE X (.IfExp c a b pos) (tIf tA ta tb):=by
 intro Fs s σ H Q I h
 refine wpAny_IfExp (F2 (hc Fs s σ H _ I h) ?_)
 rintro d s1 ⟨H1,I1,q1⟩
 cases d with
 | true=>exact ha Fs s1 σ H1 Q I1 q1
 | false=>exact hb Fs s1 σ H1 Q I1 q1
end
def F7 (K:W.Frag)(H:Hp)(a:Addr)(xs:List V):Prop:=
 Rd H a (.lst xs) \/
  ∃(o:Obj) (FD:pb) (n:Nat),K.lookup a=some o/\o.cls=.type "list" /\ o.dict=none/\o.data=.seq FD n/\FD.size<=sizeLine/\Vals xs FD.toList
def LD (K:W.Frag)(H:Hp)(a:Addr)(xs:List V):Prop:=
 Rd H a (.tup xs) \/
  ∃(o:Obj) (FD:pb) (n:Nat),K.lookup a=some o/\o.cls=.type "tuple" /\ o.data=.seq FD n/\FD.size<=sizeLine/\Vals xs FD.toList
noncomputable def Ys:Value->Option V
 | .none=>some .FG
 | .bool b=>some (.bl b)
 | .int i _=>some (.int i)
 | .str x _=>some (.str x)
 | .bytes b _=>some (.Sa b)
 | .float b _=>some (.N0 b)
 | .ref a=>some (.ref a)
 | .type n=>some (.ty n)
 | _=>none
theorem RelV.abs {x:V}{u:Value}(r:RelV x u):Ys u=some x:=by
 cases x with
 | FG=>cases r;rfl
 | bl _=>cases r;rfl
 | int _=>obtain⟨t,rfl⟩:=r;rfl
 | str _=>obtain⟨t,rfl⟩:=r;rfl
 | Sa _=>obtain⟨t,rfl⟩:=r;rfl
 | N0 _=>obtain⟨t,rfl⟩:=r;rfl
 | ref _=>cases r;rfl
 | ty _=>cases r;rfl
theorem RelV.inj {x y:V}{u:Value}(r:RelV x u)(q:RelV y u):x=y:=bi (r.abs.symm.trans q.abs)
theorem Vals.inj:∀{xs ys:List V}{us:oB},Vals xs us->Vals ys us->xs=ys
 | _,_,_,.nil,.nil=>rfl
 | _,_,_,.cons r t,.cons r' t'=>by rw[r.inj r',Vals.inj t t']
section
variable {X:Cx}{Fs:oy}{σ:St}{H:Hp}{s:Shared}{a:Addr}{xs ys:List V}
theorem F7.of {K:W.Frag}(h:H a=some (.lst xs)):F7 K H a xs:=.inl (.inl h)
theorem LD.of {K:W.Frag}(h:H a=some (.tup xs)):LD K H a xs:=.inl (.inl h)
theorem Inv.list (I:Inv X Fs σ H s)(h:F7 X.K H a xs):∃FD:List Value,Vals xs FD/\PlainL s.heap a FD.toArray/\xs.length<=sizeLine:=by
 rcases h with h | ⟨o,FD,n,hk,hc,hd,hs,hz,r⟩
 ·obtain⟨z,FD,n,r,e⟩:=h.ok I.FL
  exact⟨FD,r,⟨_,n,e,rfl,rfl,rfl⟩,z⟩
 ·refine⟨FD.toList,r,⟨o,n,I.IP a o hk,hc,hd,by simpa using hs⟩,?_⟩
  have e:=r.length
  simp only[ci] at e
  omega
theorem Inv.tuple (I:Inv X Fs σ H s)(h:LD X.K H a xs):∃FD:List Value,Vals xs FD/\IsTup s.heap a FD.toArray/\xs.length<=sizeLine:=by
 rcases h with h | ⟨o,FD,n,hk,hc,hs,hz,r⟩
 ·obtain⟨z,FD,r,p⟩:=h.ok I.FL
  exact⟨FD,r,p,z⟩
 ·refine⟨FD.toList,r,⟨o,I.IP a o hk,hc,n,by simpa using hs⟩,?_⟩
  have e:=r.length
  simp only[ci] at e
  omega
theorem Inv.KG (I:Inv X Fs σ H s)(h:F7 X.K H a xs)(h':F7 X.K H a ys):xs=ys:=by
 obtain⟨FD,r,⟨o,n,e,_,_,d⟩,_⟩:=I.list h
 obtain⟨its',r',⟨o',n',e',_,_,d'⟩,_⟩:=I.list h'
 rw[e] at e';cases e'
 rw[d] at d'
 injection d' with d1 _
 have:FD=its':=by simpa using dr Array.toList d1
 subst this
 exact r.inj r'
theorem Inv.NV (I:Inv X Fs σ H s)(h:LD X.K H a xs)(h':LD X.K H a ys):xs=ys:=by
 obtain⟨FD,r,⟨o,e,_,n,d⟩,_⟩:=I.tuple h
 obtain⟨its',r',⟨o',e',_,n',d'⟩,_⟩:=I.tuple h'
 rw[e] at e';cases e'
 rw[d] at d'
 injection d' with d1 _
 have:FD=its':=by simpa using dr Array.toList d1
 subst this
 exact r.inj r'
end
abbrev Cx.NA (X:Cx)(E:ox):Cx:={ X with xe:=E }
abbrev Cx.nox (X:Cx):Cx:=X.NA λ_ _=>False
theorem Cx.Ok.NA {X:Cx}(ok:X.Ok)(E:ox):(X.NA E).Ok:=
 ⟨ok.mod,ok.kind,ok.glob,ok.blt,ok.above,ok.inj,ok.has,ok.cab,ok.hd,ok.frames,ok.stk,ok.exf,ok.bs,ok.YE,ok.Sm,ok.YI,ok.ME,ok.frf⟩
theorem Cx.Ok.unwish {X:Cx}{E:ox}(ok:(X.NA E).Ok):X.Ok:=
 ⟨ok.mod,ok.kind,ok.glob,ok.blt,ok.above,ok.inj,ok.has,ok.cab,ok.hd,ok.frames,ok.stk,ok.exf,ok.bs,ok.YE,ok.Sm,ok.YI,ok.ME,ok.frf⟩
section
variable {X:Cx}{Fs:oy}{σ:St}{H:Hp}{s:Shared}{E:ox}
theorem Inv.NA (I:Inv X Fs σ H s)(E:ox):Inv (X.NA E) Fs σ H s:=⟨I.ok.NA E,I.os,I.bare,I.base,I.loc,I.cell,I.free,I.KA,I.pin,I.FL,I.len⟩
theorem Inv.unwish (I:Inv (X.NA E) Fs σ H s):Inv X Fs σ H s:=⟨I.ok.unwish,I.os,I.bare,I.base,I.loc,I.cell,I.free,I.KA,I.pin,I.FL,I.len⟩
theorem SP.unwish {D:Ends}{f:Flow}{s':Shared}(h:SP (X.NA E) Fs D f s'):SP X Fs D f s':=by
 cases f with
 | next=>obtain⟨σ',H',I,q⟩:=h;exact⟨σ',H',I.unwish,q⟩
 | brk=>obtain⟨σ',H',I,q⟩:=h;exact⟨σ',H',I.unwish,q⟩
 | cont=>obtain⟨σ',H',I,q⟩:=h;exact⟨σ',H',I.unwish,q⟩
 | ret u=>obtain⟨v,σ',H',I,r,q⟩:=h;exact⟨v,σ',H',I.unwish,r,q⟩
theorem LV.nox {st:oC}{t:TS}(h:LV X.nox st t):LV X st t:=λFs s σ H D I hw=>
 ff (h Fs s σ H D (I.NA _) hw) (λ_ _ q=>q.unwish) λ_ _ z=>False.elim z
end
section
variable {X:Cx}{st:Stmt}{rest:oC}{t u:TS}{e:Expr}{te:TE}{pos:Pos}
def Xf:TS:=λD σ H=>D.nx σ H
def Yt (t u:TS):TS:=λD σ H=>t { D with nx:=u D } σ H
theorem QW:LV X [] Xf:=λ_ _ σ H _ I h=>ko ⟨σ,H,I,h⟩
theorem uz (h1:PS X st t)(h2:LV X rest u):LV X (st::rest) (Yt t u):=by
 intro Fs s σ H D I h
 refine wpAny_execs_cons (F2 (h1 Fs s σ H { D with nx:=u D } I h) λf s1 q=>?_)
 cases f with
 | next=>
  obtain⟨σ',H',I',q⟩:=q
  exact h2 Fs s1 σ' H' D I' q
 | ret v=>exact q
 | brk=>exact q
 | cont=>exact q
theorem HF (h1:PS X st t):LV X [st] t:=by
 intro Fs s σ H D I h
 refine wpAny_execs_cons (F2 (h1 Fs s σ H D I h) λf s1 q=>?_)
 cases f with
 | next=>exact ko q
 | ret v=>exact q
 | brk=>exact q
 | cont=>exact q
theorem Inv.quiet {Fs:oy}{σ:St}{H:Hp}{s:Shared}(I:Inv X Fs σ H s):interactive X.env=false:=by simp[interactive,I.ok.kind]
def Xg (te:TE):TS:=λD σ H=>te σ H λ_ H1=>D.nx σ H1
theorem wN (he:PE X e te)(hs:autoParam (swapsWith e none pos.line X.env=pure false) r0_):PS X (.Expr e pos) (Xg te):=by
 intro Fs s σ H D I h
 exact wpAny_Expr_any (F2 (he Fs s σ H _ I h) λv s1 ⟨x,H1,I1,r1,q1⟩=>⟨σ,H1,I1,q1⟩) I.quiet hs
def Yu (te:TE):TS:=λD σ H=>te σ H D.rt
theorem El (he:PE X e te):PS X (.Return (some e) pos) (Yu te):=by
 intro Fs s σ H D I h
 exact wpAny_Return_some (F2 (he Fs s σ H _ I h) λv s1 ⟨x,H1,I1,r1,q1⟩=>⟨x,σ,H1,I1,r1,q1⟩)
def Yv (c:TT)(t u:TS):TS:=λD σ H=>c σ H λb H1=>if b=true then t D σ H1 else u D σ H1
theorem Qo {c:Expr}{a b:oC}{tc:TT}(hc:PT X c tc)(ha:LV X a t)(hb:LV X b u):PS X (.If c a b pos) (Yv tc t u):=by
 intro Fs s σ H D I h
 refine wpAny_If (F2 (hc Fs s σ H _ I h) ?_)
 rintro d s1 ⟨H1,I1,q1⟩
 cases d with
 | true=>exact ha Fs s1 σ H1 D I1 q1
 | false=>exact hb Fs s1 σ H1 D I1 q1
def T9:TS:=λ_ _ _=>False
theorem Nv:PS X st T9:=λ_ _ _ _ _ _ h=>h.elim
end
abbrev TG:=V->St->Hp->(St->Hp->Prop)->Prop
abbrev XT:=List V->St->Hp->(St->Hp->Prop)->Prop
def PG (X:Cx)(target:Expr)(t:TG):Prop:=
 ∀(Fs:oy) (s:Shared) (σ:St) (H:Hp) (v:V) (u:Value) (Q:St->Hp->Prop),Inv X Fs σ H s->RelV v u->t v σ H Q->
  wpAny (model X.prog X.w) X.A (assign target X.env u) (λ_ s'=>∃ σ' H',Inv X Fs σ' H' s'/\Q σ' H') X.xe s
def XU (X:Cx)(ts:oI)(t:XT):Prop:=
 ∀(Fs:oy) (s:Shared) (σ:St) (H:Hp) (vs:List V) (us:oB) (Q:St->Hp->Prop),Inv X Fs σ H s->Vals vs us->t vs σ H Q->
  wpAny (model X.prog X.w) X.A (assignInOrder ((assignEach ts X.env).map (·.2)) us) (λ_ s'=>∃ σ' H',Inv X Fs σ' H' s'/\Q σ' H') X.xe s
abbrev Ny:=V->V->V->Hp->(Hp->Prop)->Prop
def T_ (X:Cx)(t:Ny):Prop:=
 ∀(Fs:oy) (s:Shared) (σ:St) (H:Hp) (o i v:V) (ov iv u:Value) (Q:Hp->Prop),Inv X Fs σ H s->RelV o ov->RelV i iv->RelV v u->t o i v H Q->
  wpAny (model X.prog X.w) X.A (setItem ov iv u) (λ_ s'=>∃H',Inv X Fs σ H' s'/\Q H') X.xe s
section
variable {X:Cx}{pos:Pos}
def wO (i:Nat):TG:=λv σ H Q=>Q (σ.set i (some v)) H
theorem Ab {i:Nat}{x:Str}(hN:X.N.Nodup)(hi:X.N[i]?=some x)(hx:Loc X.env.scope x)(hf:autoParam (X.fn x=true\/X.env.scope.names.lookup x=some .local) r2_):PG X (.Name x pos) (wO i):=by
 intro Fs s σ H v u Q I r h
 exact wpAny_assign_Name (Ek I hN hi hx r (λs' I'=>⟨_,H,I',h⟩) hf)
def Ua:XT:=λvs σ H Q=>vs=[]/\Q σ H
def Qp (t:TG)(u:XT):XT:=λvs σ H Q=>∃v r,vs=v::r/\t v σ H fun σ' H'=>u r σ' H' Q
theorem jL:XU X [] Ua:=by
 intro Fs s σ H vs us Q I r h
 obtain⟨e,h⟩:=h
 subst e
 cases r
 exact assignInOrder_nil ⟨σ,H,I,h⟩
theorem cH {e:Expr}{es:oI}{t:TG}{u:XT}(h1:PG X e t)(h2:XU X es u)
  (hs:autoParam ((assignEach (e::es) X.env).map (·.2)=assign e X.env::(assignEach es X.env).map (·.2)) r0_):XU X (e::es) (Qp t u):=by
 intro Fs s σ H vs us Q I r h
 obtain⟨v,vr,e1,h⟩:=h
 subst e1
 cases r with
 | cons r rr=>
  rw[hs]
  refine assignInOrder_cons (F2 (h1 Fs s σ H _ _ _ I r h) ?_)
  rintro _ s1 ⟨σ1,H1,I1,q1⟩
  exact h2 Fs s1 σ1 H1 _ _ Q I1 rr q1
def Ub (K:W.Frag)(n:Nat)(t:XT):TG:=λv σ H Q=>∃a xs,v=.ref a/\LD K H a xs/\xs.length=n/\t xs σ H Q
theorem mF {es:oI}{k:Nat}{t:XT}{n:Nat}(hc:X.calm=true)(h:XU X es t)
  (hn:autoParam ((assignEach es X.env).length=n) r0_) (PY:autoParam ((assignEach es X.env).findIdx? (·.1)=none) r0_):PG X (.Tuple es k pos) (Ub X.K n t):=by
 intro Fs s σ H v u Q I r hw
 obtain⟨a,xs,e1,hq,hl,hw⟩:=hw
 subst e1
 cases r
 obtain⟨FD,rv,ht,hz⟩:=I.tuple hq
 refine assign_Tuple_tuple (I.ok.hd hc) ht (by simp[hn,← hl,rv.length]) PY λh' hx=>?_
 have I1:Inv X Fs σ H { s with heap:=h' }:=I.kept (t':=s.toks) λb o e=>hx b o (bP (aE e)) e
 exact h Fs _ σ H xs _ Q I1 (by simpa using rv) hw
def Yw (to ti:TE)(t:Ny):TG:=λv σ H Q=>to σ H λo H1=>ti σ H1 λi H2=>t o i v H2 λH3=>Q σ H3
theorem Uc {o i:Expr}{to ti:TE}{t:Ny}(ho:PE X o to)(hi:PE X i ti)(hs:T_ X t)
  (ha:∀v,assign (.Subscript o i pos) X.env v=(do
   let ov ← holding [v] (eval o X.env)
   let iv ← holding [v,ov] (eval i X.env)
   standAt pos
   holding [v,ov,iv] (setItem ov iv v)
   release [v,ov,iv] []):=by intro _;rfl):PG X (.Subscript o i pos) (Yw to ti t):=by
 intro Fs s σ H v u Q I r h
 rw[ha]
 refine ab (eC (F2 (ho Fs s σ H _ I h) ?_))
 rintro ov s1 ⟨x,H1,I1,r1,q1⟩
 refine ab (eC (F2 (hi Fs s1 σ H1 _ I1 q1) ?_))
 rintro iv s2 ⟨y,H2,I2,r2,q2⟩
 refine ab (nX (ab (eC (F2 (hs Fs s2 σ H2 x y v ov iv u _ I2 r1 r2 r q2) ?_))))
 rintro _ s3 ⟨H3,I3,q3⟩
 exact wpAny_release ⟨σ,H3,I3,q3⟩
def Nz (te:TE)(g:TG):TS:=λD σ H=>te σ H λx H1=>g x σ H1 D.nx
theorem KZ {tg e:Expr}{te:TE}{g:TG}(he:PE X e te)(hg:PG X tg g)(hs:autoParam (swapsWithSole [tg] e pos.line X.env=pure false) r0_)(hw:autoParam (swappedStores [tg] e X.env=pure none) r0_)
  (h1:autoParam ((assignEach [tg] X.env).map (·.2)=[assign tg X.env]) r0_):PS X (.Assign [tg] e pos) (Nz te g):=by
 intro Fs s σ H D I h
 refine wpAny_Assign_stores (F2 (he Fs s σ H _ I h) ?_) hs hw
 rintro v s1 ⟨x,H1,I1,r1,q1⟩
 rw[h1]
 exact F2 (hg Fs s1 σ H1 x v _ I1 r1 q1) λ_ s2 q=>q
theorem Em {i:Nat}{x:Str}{e:Expr}{te:TE}{pos':Pos}(hN:X.N.Nodup)(hi:X.N[i]?=some x)(hx:Loc X.env.scope x)(he:PE X e te)(hs:autoParam (swapsWith e (some (.Name x pos')) pos.line X.env=pure false) r0_)(hf:autoParam (X.fn x=true\/X.env.scope.names.lookup x=some .local) r2_):
  PS X (.Assign [.Name x pos'] e pos) (Nz te (wO i)):=by
 intro Fs s σ H D I h
 refine wpAny_Assign_Name (F2 (he Fs s σ H _ I h) ?_) hs
 rintro v s1 ⟨y,H1,I1,r1,q1⟩
 exact Ek I1 hN hi hx r1 (λs2 I2=>⟨_,H1,I2,q1⟩) hf
end
section
variable {X:Cx}{pos:Pos}
def Ud (c:TT)(tb:TS):TS:=λD σ H=>∃W:Nat->St->Hp->Prop,(∃m,W m σ H)/\∀m σ H,W m σ H->
 c σ H λb H1=>if b=true then ∃N:St->Hp->Prop,(∀ σ' H',N σ' H'->∃m',m' < m/\W m' σ' H')/\tb { D with nx:=N,ct:=N,bk:=D.nx } σ H1 else D.nx σ H1
theorem NB {c:Expr}{body:oC}{tc:TT}{tb:TS}(hp:PassesOwn (model X.prog X.w) X.A X.env X.xe)(hc:PT X c tc)(hb:LV X body tb):PS X (.While c body [] pos) (Ud tc tb):=by
 intro Fs s σ H D I h
 obtain⟨W,⟨m0,w0⟩,turn⟩:=h
 refine wpAny_While (codeAny_whileLoop (λn s'=>∃ σ' H',Inv X Fs σ' H' s'/\W n σ' H') ?_ m0 ⟨σ,H,I,w0⟩)
 rintro n s1 ⟨σ1,H1,I1,w1⟩
 refine gd hp (F2 (hc Fs s1 σ1 H1 _ I1 (turn n σ1 H1 w1)) ?_)
 rintro b s2 ⟨H2,I2,q2⟩
 cases b with
 | true=>
  obtain⟨N,hN,q2⟩:=q2
  rw[bg rfl]
  refine gd hp (F2 (hb Fs s2 σ1 H2 _ I2 q2) λf s3 q3=>?_)
  cases f with
  | next=>
   obtain⟨σ3,H3,I3,n3⟩:=q3
   obtain⟨m',hm,w3⟩:=hN σ3 H3 n3
   exact⟨m',hm,σ3,H3,I3,w3⟩
  | cont=>
   obtain⟨σ3,H3,I3,n3⟩:=q3
   obtain⟨m',hm,w3⟩:=hN σ3 H3 n3
   exact⟨m',hm,σ3,H3,I3,w3⟩
  | brk=>exact q3
  | ret v=>exact q3
 | false=>
  rw[ap aT]
  exact ko ⟨σ1,H2,I2,q2⟩
end
structure It where
 go:Nat->Hp->Prop
 yld:Nat->Hp->V->Hp->Prop
 stop:Nat->Hp->Prop
def ou (X:Cx)(Fs:oy)(H:Hp)(b:Addr):Prop:=
 H b=none/\b≠X.env.locals/\b∉X.fs/\(b∈X.ex\/X.s₀.heap.objs.size<=b)/\(∀x c,X.env.cells.lookup x=some c->c≠b)/\∀p∈X.pn++Fs,p.1≠b
theorem Inv.N9 {X:Cx}{Fs:oy}{σ:St}{H H':Hp}{s:Shared}{b:Addr}(I:Inv X Fs σ H s)(hb:s.heap.objs.size<=b)(hn:H' b=none):ou X Fs H' b:=by
 refine⟨hn,om (bv I.lt hb),I.nofs hb,.inr (cw I.sz hb),λx c e z=>?_,λp hp z=>?_⟩
 ·obtain⟨v,q⟩:=I.cell x c e
  exact absurd (bv q.lt (by rw[z];exact hb)) (d5 _)
 ·exact absurd (bv (aE (I.pin p hp).1) (by rw[z];exact hb)) (d5 _)
structure Turn (P:Program)(w:World)(K:W.Frag)(tg:Expr)(J:It)(fp:o0)(it:Addr)(tn:Nat->Heap->Prop):Prop where
 mem:it∈fp
 obj:∀i h,tn i h->∀b∈fp,∃o,h.get? b=some o/\∀v,o.data≠.cell v
 keep:∀i h h',tn i h->(∀b∈fp,∀o,h.get? b=some o->h'.get? b=some o)->tn i h'
 item:∀(X:Cx),X.prog=P->X.w=w->X.K=K->X.calm=true->∀(i:Nat) (Fs:oy) (s:Shared) (σ:St) (H:Hp) (E:ox),Inv X Fs σ H s->(∀b∈fp,ou X Fs H b)->tn i s.heap->J.go i H->
  wpAny (model P w) X.A (pyNext (.ref it)) (λr s1=>∃u,r=some u /\
   wpAny (model P w) X.A (letOwnedTupleGo tg (.ref it) u) (λ_ s2=>∃x H',Inv X Fs σ H' s2/\RelV x u/\J.yld i H x H'/\tn (i+1) s2.heap/\∀b∈fp,H' b=none) E s1) E s
 done:∀(X:Cx),X.prog=P->X.w=w->X.K=K->X.calm=true->∀(i:Nat) (Fs:oy) (s:Shared) (σ:St) (H:Hp) (E:ox),Inv X Fs σ H s->(∀b∈fp,ou X Fs H b)->tn i s.heap->J.stop i H->
  wpAny (model P w) X.A (pyNext (.ref it)) (λr s1=>r=none/\Inv X Fs σ H s1) E s
 self:∀(A:Around) (i:Nat) (s:Shared) (Q:ox) (E:ox),tn i s.heap->Q (.ref it) s->wpAny (model P w) A (pyIter (.ref it)) Q E s
abbrev TI:=St->Hp->(It->Hp->Prop)->Prop
def PIE (X:Cx)(Fs:oy)(σ:St)(tg:Expr)(R:It->Hp->Prop)(itv:Value)(s2:Shared):Prop:=
 ∃(it:Addr) (fp:o0) (tn:Nat->Heap->Prop) (J:It) (H':Hp),itv=.ref it/\Inv X Fs σ H' s2/\Turn X.prog X.w X.K tg J fp it tn/\tn 0 s2.heap/\(∀b∈fp,ou X Fs H' b)/\R J H'
def PI (X:Cx)(tg iter:Expr)(wi:TI):Prop:=
 ∀(Fs:oy) (s:Shared) (σ:St) (H:Hp) (R:It->Hp->Prop),Inv X Fs σ H s->wi σ H R->
  wpAny (model X.prog X.w) X.A (eval iter X.env) (λv s1=>wpAny (model X.prog X.w) X.A (pyIter v) (PIE X Fs σ tg R) X.xe s1) X.xe s
theorem wQ {M:Model}{A:Around}{E:ox}{s:Shared}{tg:Expr}{it:Addr}{u:Value}{o:Obj}{n:String}{vs:pb}{Q:Unit->Shared->Prop}(ho:s.heap.get? it=some o)(hc:o.cls=.type n)(hd:o.data=.fields vs)
    (hn:["enumerate","zip","dict_itemiterator","dict_reverseitemiterator","odict_iterator","itertools.zip_longest","itertools.pairwise"].contains n=false) (hQ:Q () s):wpAny M A (letOwnedTupleGo tg (.ref it) u) Q E s:=by
  unfold letOwnedTupleGo
  cases tg <;> first
    | exact ay hQ
    | (cases u <;> first
        | exact ay hQ
        | (refine ab (wpAny_load ho ?_)
           rw[hc,hd]
           show wpAny M A (if (["enumerate","zip","dict_itemiterator","dict_reverseitemiterator","odict_iterator","itertools.zip_longest","itertools.pairwise"].contains n&&vs[0]? == some (rawInt _))=true then _ else _) Q E s
           rw[ap (by intro h;rw[hn,Bool.false_and] at h;cases h)]
           exact ay hQ))
def Itl (K:W.Frag)(a:Addr):It:=
 ⟨λi H=>∃xs x,F7 K H a xs/\xs[i]?=some x,λi H x H'=>H'=H/\∀xs,F7 K H a xs->xs[i]?=some x,λi H=>∃xs,F7 K H a xs/\xs.length<=i⟩
def Itt (K:W.Frag)(a:Addr):It:=
 ⟨λi H=>∃xs x,LD K H a xs/\xs[i]?=some x,λi H x H'=>H'=H/\∀xs,LD K H a xs->xs[i]?=some x,λi H=>∃xs,LD K H a xs/\xs.length<=i⟩
def Itr (lo:Int)(n:Nat):It:=⟨λi _=>i < n,λi H x H'=>H'=H/\x=.int (lo+i),λi _=>n<=i⟩
theorem K1 {P:Program}{w:World}{K:W.Frag}{tg:Expr}(a it:Addr):Turn P w K tg (Itl K a) [it] it (λi h=>h.IsListIter it a i) where
 mem:=by simp
 obj:=λi h st b hb=>by
  have e:b=it:=by simpa using hb
  subst e
  obtain⟨o,e,c,d⟩:=st
  exact⟨o,e,λv z=>by rw[d] at z;cases z⟩
 keep:=λi h h' st k=>st.at λo e=>k it (by simp) o e
 item:=by
  intro X hP hw hK hc i Fs s σ H E I hf st hg
  subst hP hw hK
  obtain⟨xs,x,hq,hx⟩:=hg
  obtain⟨FD,rv,p,hz⟩:=I.list hq
  obtain⟨u,hu,ru⟩:=rv.get hx
  obtain⟨f0,f1,f2,f3,f4,f5⟩:=hf it (by simp)
  refine wpAny_pyNext_list_item st p.isList (x:=u) (by simpa using hu) λh' OE sb=>?_
  have I1:Inv X Fs σ H { s with heap:=h' }:=I.turned (t':=s.toks) (λb o hb e=>(sb.2 b hb).trans e) f0 f1 f3 f4 f5
  obtain⟨o,e,c,d⟩:=id OE
  exact⟨u,rfl,wQ (s:={ s with heap:=h' }) e c d (by decide) ⟨x,H,I1,ru,⟨rfl,λys hy=>by rw[I.KG hy hq];exact hx⟩,OE,λb hb=>(hf b hb).1⟩⟩
 done:=by
  intro X hP hw hK hc i Fs s σ H E I hf st hg
  subst hP hw hK
  obtain⟨xs,hq,hx⟩:=hg
  obtain⟨FD,rv,p,hz⟩:=I.list hq
  obtain⟨f0,f1,f2,f3,f4,f5⟩:=hf it (by simp)
  have hl:=rv.length
  exact wpAny_pyNext_list_end (I.ok.hd hc) st p.isList (by simp;omega) λh' eb=>⟨rfl,I.turned (t':=s.toks) (λb o hb e=>eb b o hb e) f0 f1 f3 f4 f5⟩
 self:=λ_ _ _ _ _ st h=>wpAny_pyIter_listiter st h
theorem Jf {P:Program}{w:World}{K:W.Frag}{tg:Expr}(a it:Addr):Turn P w K tg (Itt K a) [it] it (λi h=>h.IsTupleIter it a i) where
 mem:=by simp
 obj:=λi h st b hb=>by
  have e:b=it:=by simpa using hb
  subst e
  obtain⟨o,e,c,d⟩:=st
  exact⟨o,e,λv z=>by rw[d] at z;cases z⟩
 keep:=λi h h' st k=>st.at λo e=>k it (by simp) o e
 item:=by
  intro X hP hw hK hc i Fs s σ H E I hf st hg
  subst hP hw hK
  obtain⟨xs,x,hq,hx⟩:=hg
  obtain⟨FD,rv,p,hz⟩:=I.tuple hq
  obtain⟨u,hu,ru⟩:=rv.get hx
  obtain⟨f0,f1,f2,f3,f4,f5⟩:=hf it (by simp)
  refine wpAny_pyNext_tuple_item st (show s.heap.IsTuple a FD.toArray from p) (x:=u) (by simpa using hu) λh' OE sb=>?_
  have I1:Inv X Fs σ H { s with heap:=h' }:=I.turned (t':=s.toks) (λb o hb e=>(sb.2 b hb).trans e) f0 f1 f3 f4 f5
  obtain⟨o,e,c,d⟩:=id OE
  exact⟨u,rfl,wQ (s:={ s with heap:=h' }) e c d (by decide) ⟨x,H,I1,ru,⟨rfl,λys hy=>by rw[I.NV hy hq];exact hx⟩,OE,λb hb=>(hf b hb).1⟩⟩
 done:=by
  intro X hP hw hK hc i Fs s σ H E I hf st hg
  subst hP hw hK
  obtain⟨xs,hq,hx⟩:=hg
  obtain⟨FD,rv,p,hz⟩:=I.tuple hq
  obtain⟨f0,f1,f2,f3,f4,f5⟩:=hf it (by simp)
  have hl:=rv.length
  exact wpAny_pyNext_tuple_end (I.ok.hd hc) st (show s.heap.IsTuple a FD.toArray from p) (by simp;omega) λh' eb=>⟨rfl,I.turned (t':=s.toks) (λb o hb e=>eb b o hb e) f0 f1 f3 f4 f5⟩
 self:=λ_ _ _ _ _ st h=>wpAny_pyIter_tupleiter st h
theorem Jg {P:Program}{w:World}{K:W.Frag}{tg:Expr}(it:Addr)(lo:Int)(n:Nat):Turn P w K tg (Itr lo n) [it] it (λi h=>IsRangeIter h it (lo+(i:Nat)*1) ((n:Int) - (i:Nat)) 1) where
 mem:=by simp
 obj:=λi h st b hb=>by
  have e:b=it:=by simpa using hb
  subst e
  exact⟨_,st,λv z=>by
   have z':Data.fields _=Data.cell v:=z
   cases z'⟩
 keep:=λi h h' st k=>k it (by simp) _ st
 item:=by
  intro X hP hw hK hc i Fs s σ H E I hf st hg
  subst hP hw hK
  obtain⟨f0,f1,f2,f3,f4,f5⟩:=hf it (by simp)
  have W:=Walks.range (prog:=X.prog) (w:=X.w) (I.ok.hd hc) it lo 1 n
  refine W.item i s _ _ hg st λv h' tk hv OE kk=>?_
  obtain⟨t,rfl⟩:=hv
  have I1:Inv X Fs σ H { s with heap:=h',toks:=tk }:=I.turned (λb o hb e=>kk b o (by simpa using hb) e) f0 f1 f3 f4 f5
  refine⟨_,rfl,wQ (s:={ s with heap:=h',toks:=tk }) (n := "range_iterator") OE rfl rfl (by decide) ⟨.int (lo+i),H,I1,⟨t,?_⟩,⟨rfl,rfl⟩,OE,λb hb=>(hf b hb).1⟩⟩
  rw[Int.mul_one]
 done:=by
  intro X hP hw hK hc i Fs s σ H E I hf st hg
  subst hP hw hK
  obtain⟨f0,f1,f2,f3,f4,f5⟩:=hf it (by simp)
  exact wpAny_pyNext_range_end (I.ok.hd hc) st (by have:n<=i:=hg;omega) λh' eb=>⟨rfl,I.turned (t':=s.toks) (λb o hb e=>eb b o hb e) f0 f1 f3 f4 f5⟩
 self:=λ_ _ _ _ _ st h=>wpAny_pyIter_rangeiter st h
section
variable {X:Cx}{tg:Expr}
def Xh (K:W.Frag)(tl:TE):TI:=fun σ H R=>tl σ H λx H1=>∃a,x=.ref a/\(∃xs,F7 K H1 a xs)/\R (Itl K a) H1
def Yx (K:W.Frag)(tl:TE):TI:=fun σ H R=>tl σ H λx H1=>∃a,x=.ref a/\(∃xs,LD K H1 a xs)/\R (Itt K a) H1
theorem QX {l:Expr}{tl:TE}(hl:PE X l tl):PI X tg l (Xh X.K tl):=by
 intro Fs s σ H R I h
 refine F2 (hl Fs s σ H _ I h) ?_
 rintro v s1 ⟨x,H1,I1,r1,q1⟩
 obtain⟨a,e,⟨xs,hq⟩,q⟩:=q1
 subst e
 cases r1
 obtain⟨FD,rv,p,hz⟩:=I1.list hq
 refine gl p.isList ?_
 refine⟨s1.heap.objs.size,[s1.heap.objs.size],_,_,H1,rfl,I1.kept (t':=s1.toks) λb o e=>am _ e,K1 a _,⟨_,ba _ rfl,rfl,rfl⟩,λb hb=>?_,q⟩
 have e:b=s1.heap.objs.size:=by simpa using hb
 subst e
 exact I1.N9 (aw _) (I1.FL.fresh (aw _))
theorem Ue {l:Expr}{tl:TE}(hl:PE X l tl):PI X tg l (Yx X.K tl):=by
 intro Fs s σ H R I h
 refine F2 (hl Fs s σ H _ I h) ?_
 rintro v s1 ⟨x,H1,I1,r1,q1⟩
 obtain⟨a,e,⟨xs,hq⟩,q⟩:=q1
 subst e
 cases r1
 obtain⟨FD,rv,p,hz⟩:=I1.tuple hq
 refine iN (show s1.heap.IsTuple a FD.toArray from p) ?_
 refine⟨s1.heap.objs.size,[s1.heap.objs.size],_,_,H1,rfl,I1.kept (t':=s1.toks) λb o e=>am _ e,Jf a _,⟨_,ba _ rfl,rfl,rfl⟩,λb hb=>?_,q⟩
 have e:b=s1.heap.objs.size:=by simpa using hb
 subst e
 exact I1.N9 (aw _) (I1.FL.fresh (aw _))
theorem En {Fs:oy}{σ:St}{H:Hp}{s:Shared}{R:It->Hp->Prop}{E:ox}{lo hi:Int}{t u v:Tok}{tk:Nat}(I:Inv X Fs σ H s)(h1:-(2 ^ 62)<=lo)(h2:lo < 2 ^ 62)(h3:-(2 ^ 62)<=hi)(h4:hi < 2 ^ 62)
  (q:R (Itr lo (hi - lo).toNat) H):wpAny (model X.prog X.w) X.A (pyIter (.ref s.heap.objs.size)) (PIE X Fs σ tg R) E { s with heap:=s.heap.push { cls:=.type "range",data:=.fields #[.int lo t,.int hi u,.int 1 v] },toks:=tk }:=by
 refine wpAny_pyIter_range (IsRange.new ..) (small_one h1 h2 h3 h4) ?_
 have I1:Inv X Fs σ H { s with heap:=s.heap.push { cls:=.type "range",data:=.fields #[.int lo t,.int hi u,.int 1 v] },toks:=tk }:=I.kept λb o e=>am _ e
 refine⟨(s.heap.push { cls:=.type "range",data:=.fields #[.int lo t,.int hi u,.int 1 v] }).objs.size,[(s.heap.push { cls:=.type "range",data:=.fields #[.int lo t,.int hi u,.int 1 v] }).objs.size],_,_,H,rfl,
  I1.kept (t':=tk) λb o e=>am _ e,Jg _ lo (hi - lo).toNat,?_,λb hb=>?_,q⟩
 ·have e1:lo+((0:Nat):Int)*1=lo:=by simp
  have e2:(((hi - lo).toNat:Nat):Int) - ((0:Nat):Int)=Builtin.Range.rangeSize lo hi 1:=by rw[oa];split <;> omega
  show IsRangeIter _ _ (lo+((0:Nat):Int)*1) ((((hi - lo).toNat:Nat):Int) - ((0:Nat):Int)) 1
  rw[e1,e2]
  exact ba _ rfl
 ·have e:b=(s.heap.push { cls:=.type "range",data:=.fields #[.int lo t,.int hi u,.int 1 v] }).objs.size:=by simpa using hb
  subst e
  exact I1.N9 (aw _) (I1.FL.fresh (aw _))
def Xi (ta:TA):TI:=fun σ H R=>ta σ H λvs H1=>∃j:Int,vs=[.int j]/\-(2 ^ 62)<=j/\j < 2 ^ 62/\R (Itr 0 j.toNat) H1
def Xj (ta:TA):TI:=fun σ H R=>ta σ H λvs H1=>∃i j:Int,vs=[.int i,.int j]/\(-(2 ^ 62)<=i/\i < 2 ^ 62/\-(2 ^ 62)<=j/\j < 2 ^ 62)/\R (Itr i (j - i).toNat) H1
theorem K3 {a:Expr}{ta:TA}{p pos:Pos}(hg:Gl X "range")(hm:X.mg "range" = none)(ha:PA X [a] ta)(hs:autoParam (starEach [a] X.env=[(false,eval a X.env)]) r0_):PI X tg (.Call (.Name "range" p) [a] [] pos) (Xi ta):=by
 intro Fs s σ H R I h
 refine Call_ (fK I hg hm boot_range (bp (F2 (ha pos Fs s σ H _ I h) ?_) hs rfl))
 rintro us s1 ⟨vs,H1,I1,r1,q1⟩
 obtain⟨j,e,q1,q2,q⟩:=q1
 subst e
 cases r1 with
 | cons r rr=>
  cases rr
  obtain⟨t,rfl⟩:=r
  exact call_range_1 (En I1 (by omega) (by omega) q1 q2 (by simpa using q))
theorem K4 {a b:Expr}{ta:TA}{p pos:Pos}(hg:Gl X "range")(hm:X.mg "range" = none)(ha:PA X [a,b] ta)(hs:autoParam (starEach [a,b] X.env=[(false,eval a X.env),(false,eval b X.env)]) r0_)(Kn:autoParam (starEach [b] X.env=[(false,eval b X.env)]) r0_):
  PI X tg (.Call (.Name "range" p) [a,b] [] pos) (Xj ta):=by
 intro Fs s σ H R I h
 refine Call_ (fK I hg hm boot_range (bp (F2 (ha pos Fs s σ H _ I h) λus s1 ⟨vs,H1,I1,r1,q1⟩=>?_) (by rw[hs,Kn]) (by rw[Kn];rfl)))
 obtain⟨i,j,e,⟨q1,q2,q3,q4⟩,q⟩:=q1
 subst e
 cases r1 with
 | cons r rr=>
  cases rr with
  | cons r' rr=>
   cases rr
   obtain⟨t,rfl⟩:=r
   obtain⟨t',rfl⟩:=r'
   exact call_range_2 (En I1 q1 q2 q3 q4 q)
def Yy (wi:TI)(g:TG)(tb:TS):TS:=λD σ H=>wi σ H λJ H1=>∃W:Nat->Nat->St->Hp->Prop,(∃m,W 0 m σ H1)/\∀i m σ H,W i m σ H->
 (J.stop i H/\D.nx σ H)\/(J.go i H/\∃N:St->Hp->Prop,(∀ σ' H',N σ' H'->∃m',m' < m/\W (i+1) m' σ' H')/\∀x H',J.yld i H x H'->g x σ H' fun σ2 H2=>tb { D with nx:=N,ct:=N,bk:=D.nx } σ2 H2)
noncomputable def vy (fp:o0)(h:Heap):List (Addr×Obj):=fp.filterMap λb=>(h.get? b).map λo=>(b,o)
theorem qp {fp:o0}{h:Heap}{b:Addr}{o:Obj}(hb:b∈fp)(e:h.get? b=some o):(b,o)∈vy fp h:=List.mem_filterMap.mpr ⟨b,hb,by rw[e];rfl⟩
theorem K5 {fp:o0}{h:Heap}{p:Addr×Obj}(hp:p∈vy fp h):p.1∈fp/\h.get? p.1=some p.2:=by
 obtain⟨b,hb,e⟩:=List.mem_filterMap.mp hp
 cases q:h.get? b with
 | none=>rw[q] at e;cases e
 | some o=>
  rw[q] at e
  have e':(b,o)=p:=bi e
  subst e'
  exact⟨hb,q⟩
theorem Inv.pinned {Fs:oy}{σ:St}{H:Hp}{s:Shared}{fp:o0}(I:Inv X Fs σ H s)(hf:∀b∈fp,ou X Fs H b)(ho:∀b∈fp,∃o,s.heap.get? b=some o/\∀v,o.data≠.cell v):Inv X (Fs++vy fp s.heap) σ H s:=
 I.PM λp hp=>(bX.mp hp).elim (λz=>I.pin p (c5 _ z)) λz=>by
  obtain⟨hb,e⟩:=K5 z
  obtain⟨f0,f1,f2,_⟩:=hf p.1 hb
  obtain⟨o,e',d⟩:=ho p.1 hb
  rw[e] at e';cases e'
  exact⟨e,f0,f1,f2,d⟩
theorem Inv.LJ {Fs pl:oy}{σ:St}{H:Hp}{s:Shared}(I:Inv X (Fs++pl) σ H s):Inv X Fs σ H s:=I.PM λp hp=>I.pin p (c5 _ (nr _ hp))
theorem K6 {iter:Expr}{body:oC}{wi:TI}{g:TG}{tb:TS}{pos:Pos}(hp:PassesOwn (model X.prog X.w) X.A X.env X.xe)(hc:X.calm=true)(hi:PI X tg iter wi)(hg:PG X tg g)(hb:LV X body tb)
  (hs:autoParam (∀x,foldedSetIterable iter X.env x=pure x) r4_):PS X (.For tg iter body [] pos) (Yy wi g tb):=by
 intro Fs s σ H D I h
 refine wpAny_For (F2 (hi Fs s σ H _ I h) λv s1 h1=>F2 h1 λitv s2 h2=>?_) hs
 obtain⟨it,fp,tn,J,H2,e,I2,T,st2,f2,W,⟨m0,w0⟩,turn⟩:=h2
 subst e
 have OX:∀{H':Hp},(∀b∈fp,H' b=none)->∀b∈fp,ou X Fs H' b:=λhn b hb=>⟨hn b hb,(f2 b hb).2⟩
 refine codeAny_forLoop_any (λn s'=>∃i σ' H',Inv X Fs σ' H' s'/\tn i s'.heap/\(∀b∈fp,H' b=none)/\W i n σ' H') ?_ m0 ⟨0,σ,H2,I2,st2,λb hb=>(f2 b hb).1,w0⟩
 rintro n s3 ⟨i,σ3,H3,I3,st3,fr3,w3⟩
 rcases turn i n σ3 H3 w3 with ⟨stop,qn⟩ | ⟨go,N,hN,step⟩
 ·refine gd hp (F2 (T.done X rfl rfl rfl hc i Fs s3 σ3 H3 X.xe I3 (OX fr3) st3 stop) ?_)
  rintro r s4 ⟨hr,I4⟩
  subst hr
  exact ko ⟨σ3,H3,I4,qn⟩
 ·refine gd hp (F2 (T.item X rfl rfl rfl hc i Fs s3 σ3 H3 X.xe I3 (OX fr3) st3 go) ?_)
  rintro r s4 ⟨u,hr,h4⟩
  subst hr
  refine gd hp (F2 h4 ?_)
  rintro _ s5 ⟨x,H5,I5,r5,y5,st5,fr5⟩
  have I5':=I5.pinned (OX fr5) (T.obj _ _ st5)
  refine gd hp (F2 (hg _ s5 σ3 H5 x u _ I5' r5 (step x H5 y5)) ?_)
  rintro _ s6 ⟨σ6,H6,I6,q6⟩
  refine gd hp (F2 (hb _ s6 σ6 H6 _ I6 q6) λf s7 q7=>?_)
  have again:∀{σ7:St}{H7:Hp},Inv X (Fs++vy fp s5.heap) σ7 H7 s7->N σ7 H7->∃m,m < n/\∃i σ' H',Inv X Fs σ' H' s7/\tn i s7.heap/\(∀b∈fp,H' b=none)/\W i m σ' H':=λ{σ7 H7} I7 n7=>by
   obtain⟨m',hm,w7⟩:=hN σ7 H7 n7
   refine⟨m',hm,i+1,σ7,H7,I7.LJ,T.keep _ _ _ st5 λb hb o e=>(I7.pin (b,o) (c5 _ (c5 _ (qp hb e)))).1,λb hb=>?_,w7⟩
   obtain⟨o,e,d⟩:=T.obj _ _ st5 b hb
   exact(I7.pin (b,o) (c5 _ (c5 _ (qp hb e)))).2.1
  cases f with
  | next=>obtain⟨σ7,H7,I7,n7⟩:=q7;exact again I7 n7
  | cont=>obtain⟨σ7,H7,I7,n7⟩:=q7;exact again I7 n7
  | brk=>obtain⟨σ7,H7,I7,q7⟩:=q7;exact⟨σ7,H7,I7.LJ,q7⟩
  | ret v=>obtain⟨x7,σ7,H7,I7,r7,q7⟩:=q7;exact⟨x7,σ7,H7,I7.LJ,r7,q7⟩
end
abbrev R2:=V->V->Hp->VK->Prop
def HL (X:Cx)(f:Value->Value->Sem Value)(r:R2):Prop:=
 ∀(Fs:oy) (s:Shared) (σ:St) (H:Hp) (x y:V) (v u:Value) (Q:VK),Inv X Fs σ H s->RelV x v->RelV y u->r x y H Q->
  wpAny (model X.prog X.w) X.A (f v u) (EP X Fs σ Q) X.xe s
def UnR (X:Cx)(f:Value->Sem Value)(r:V->Hp->VK->Prop):Prop:=
 ∀(Fs:oy) (s:Shared) (σ:St) (H:Hp) (x:V) (v:Value) (Q:VK),Inv X Fs σ H s->RelV x v->r x H Q->
  wpAny (model X.prog X.w) X.A (f v) (EP X Fs σ Q) X.xe s
def GN (X:Cx)(f:Value)(r:List V->Hp->VK->Prop):Prop:=
 ∀(Fs:oy) (s:Shared) (σ:St) (H:Hp) (xs:List V) (us:oB) (Q:VK),Inv X Fs σ H s->Vals xs us->r xs H Q->
  wpAny (model X.prog X.w) X.A (call f us) (EP X Fs σ Q) X.xe s
def tOp (r:R2)(ta tb:TE):TE:=fun σ H Q=>ta σ H λx H1=>tb σ H1 λy H2=>r x y H2 Q
def tUn (r:V->Hp->VK->Prop)(ta:TE):TE:=fun σ H Q=>ta σ H λx H1=>r x H1 Q
def rI (C:Int->Int->Prop)(g:Int->Int->V):R2:=λx y H Q=>∃i j,x=.int i/\y=.int j/\C i j/\Q (g i j) H
def QI (g:Int->Int->V):R2:=λx y H Q=>∃i j,x=.int i/\y=.int j/\Q (g i j) H
def rU (g:Int->V):V->Hp->VK->Prop:=λx H Q=>∃i,x=.int i/\Q (g i) H
section
variable {X:Cx}{a b c:Expr}{ta tb tc:TE}{pos:Pos}
theorem NK (ha:PE X a ta)(hb:PE X b tb){Fs:oy}{s:Shared}{σ:St}{H:Hp}{R:V->V->Hp->Prop}(I:Inv X Fs σ H s)
  (h:ta σ H λx H1=>tb σ H1 λy H2=>R x y H2){Q:ox}{f:Value->Value->Sem Value}
  (hf:∀v u s2 x y H2,Inv X Fs σ H2 s2->RelV x v->RelV y u->R x y H2->wpAny (model X.prog X.w) X.A (f v u) Q X.xe s2):
  wpAny (model X.prog X.w) X.A (eval a X.env) (λv s₁=>wpAny (model X.prog X.w) X.A (eval b X.env) (λu s₂=>wpAny (model X.prog X.w) X.A (f v u) Q X.xe s₂) X.xe s₁) X.xe s:=by
 refine F2 (ha Fs s σ H _ I h) ?_
 rintro v s1 ⟨x,H1,I1,r1,q1⟩
 refine F2 (hb Fs s1 σ H1 _ I1 q1) ?_
 rintro u s2 ⟨y,H2,I2,r2,q2⟩
 exact hf v u s2 x y H2 I2 r1 r2 q2
theorem Xk {op:Operator}{r:R2}(ho:HL X (binaryOp op) r)(ha:PE X a ta)(hb:PE X b tb):PE X (.BinOp a op b pos) (tOp r ta tb):=by
 intro Fs s σ H Q I h
 exact wpAny_BinOp (NK ha hb I h λv u s2 x y H2 I2 rx ry q=>ho Fs s2 σ H2 x y v u Q I2 rx ry q)
theorem Xl {op:UnaryOp}{r:V->Hp->VK->Prop}(ho:UnR X (unaryOp op) r)(ha:PE X a ta):PE X (.UnaryOp op a pos) (tUn r ta):=by
 intro Fs s σ H Q I h
 exact UnaryOp_ (F2 (ha Fs s σ H _ I h) λv s1 ⟨x,H1,I1,r1,q1⟩=>ho Fs s1 σ H1 x v Q I1 r1 q1)
theorem opI {f:Value->Value->Sem Value}{C:Int->Int->Prop}{g:Int->Int->Int}
  (rule:∀(i j:Int) (t u:Tok) (s:Shared) (Q:ox) (E:ox),C i j->Q (.int (g i j) s.toks) { s with toks:=s.toks+1 }->wpAny (model X.prog X.w) X.A (f (.int i t) (.int j u)) Q E s):
  HL X f (rI C λi j=>.int (g i j)):=by
 intro Fs s σ H x y v u Q I rx ry h
 obtain⟨i,j,rfl,rfl,hc,q⟩:=h
 obtain⟨t,rfl⟩:=rx
 obtain⟨t',rfl⟩:=ry
 exact rule i j t t' s _ _ hc ⟨.int (g i j),H,I.tok _,⟨_,rfl⟩,q⟩
theorem Ug {f:Value->Value->Sem Value}{g:Int->Int->Int}
  (rule:∀(i j:Int) (t u:Tok) (s:Shared) (Q:ox) (E:ox),Q (.int (g i j) s.toks) { s with toks:=s.toks+1 }->wpAny (model X.prog X.w) X.A (f (.int i t) (.int j u)) Q E s):
  HL X f (QI λi j=>.int (g i j)):=by
 intro Fs s σ H x y v u Q I rx ry h
 obtain⟨i,j,rfl,rfl,q⟩:=h
 obtain⟨t,rfl⟩:=rx
 obtain⟨t',rfl⟩:=ry
 exact rule i j t t' s _ _ ⟨.int (g i j),H,I.tok _,⟨_,rfl⟩,q⟩
theorem NP {f:Value->Value->Sem Value}{g:Int->Int->Bool}
  (rule:∀(i j:Int) (t u:Tok) (s:Shared) (Q:ox) (E:ox),Q (.bool (g i j)) s->wpAny (model X.prog X.w) X.A (f (.int i t) (.int j u)) Q E s):
  HL X f (QI λi j=>.bl (g i j)):=by
 intro Fs s σ H x y v u Q I rx ry h
 obtain⟨i,j,rfl,rfl,q⟩:=h
 obtain⟨t,rfl⟩:=rx
 obtain⟨t',rfl⟩:=ry
 exact rule i j t t' s _ _ ⟨.bl (g i j),H,I,rfl,q⟩
def Uh (i j:Int):Prop:=0 < j/\j < 1073741824
def So (i j:Int):Prop:=(-(2 ^ 64) < i/\i < 2 ^ 64)\/(-(2 ^ 64) < j/\j < 2 ^ 64)
theorem So.ok {i j:Int}(h:So i j):IntMulOk i j:=by
 rcases h with ⟨h1,h2⟩ | ⟨h1,h2⟩
 ·exact .of_left (intBits_le_64 h1 h2)
 ·exact .of_right (intBits_le_64 h1 h2)
theorem Ui:HL X (binaryOp .Add) (QI λi j=>.int (i+j)):=Ug λ_ _ _ _ _ _ _ q=>add_int q
theorem Uj:HL X (binaryOp .Sub) (QI λi j=>.int (i - j)):=Ug λ_ _ _ _ _ _ _ q=>sub_int q
theorem K7:HL X (binaryOp .Mult) (rI So λi j=>.int (i*j)):=opI λ_ _ _ _ _ _ _ hc q=>mul_int q hc.ok
theorem QZ:HL X (binaryOp .FloorDiv) (rI Uh λi j=>.int (i / j)):=opI λi j _ _ _ _ _ hc q=>by
 have h1:(0:Int) < j:=hc.1
 have h2:j < 1073741824:=hc.2
 exact floordiv_int (by omega) (by rw[Int.fdiv_eq_ediv_of_nonneg i (by omega)];exact q) (.inl (PyProof.noPylong_small (by omega)))
theorem Uk:HL X (binaryOp .Mod) (rI (λ_ j=>0 < j) λi j=>.int (i % j)):=opI λi j _ _ _ _ _ hc q=>by
 have h1:(0:Int) < j:=hc
 exact mod_int' (by omega) (by rw[Int.fmod_eq_emod_of_nonneg i (by omega)];exact q)
theorem unI {f:Value->Sem Value}{g:Int->Int}
  (rule:∀(i:Int) (t:Tok) (s:Shared) (Q:ox) (E:ox),Q (.int (g i) s.toks) { s with toks:=s.toks+1 }->wpAny (model X.prog X.w) X.A (f (.int i t)) Q E s):
  UnR X f (rU λi=>.int (g i)):=by
 intro Fs s σ H x v Q I rx h
 obtain⟨i,rfl,q⟩:=h
 obtain⟨t,rfl⟩:=rx
 exact rule i t s _ _ ⟨.int (g i),H,I.tok _,⟨_,rfl⟩,q⟩
theorem Ul:UnR X (unaryOp .USub) (rU λi=>.int (-i)):=unI λ_ _ _ _ _ q=>neg_int q
end
noncomputable def NQ:V->V->Bool
 | .FG,.FG=>true | .FG,.int _=>true | .int _,.FG=>true | .FG,.bl _=>true | .bl _,.FG=>true | .FG,.str _=>true | .str _,.FG=>true
 | .int _,.int _=>true | .bl _,.bl _=>true | .str _,.str _=>true | .Sa _,.Sa _=>true
 | .int _,.str _=>true | .str _,.int _=>true | .bl _,.str _=>true | .str _,.bl _=>true
 | _,_=>false
def rEq:R2:=λx y H Q=>NQ x y=true/\Q (.bl (decide (x=y))) H
def rNe:R2:=λx y H Q=>NQ x y=true/\Q (.bl (!decide (x=y))) H
theorem HH {i j:Int}:decide (V.int i=V.int j)=(i == j):=by
 rw[gI]
 simp
theorem K8 {i j:Bool}:decide (V.bl i=V.bl j)=(i == j):=by
 rw[gI]
 simp
theorem HJ {i j:Str}:decide (V.str i=V.str j)=(i == j):=by
 rw[gI]
 simp
theorem HN {i j:Array UInt8}:decide (V.Sa i=V.Sa j)=(i.toList == j.toList):=by
 rw[gI]
 cases i
 cases j
 simp
section
variable {X:Cx}{a b c:Expr}{ta tb tc:TE}{pos:Pos}
theorem bT {Fs:oy}{σ:St}{H:Hp}{s:Shared}{Q:VK}{k k':Bool}(I:Inv X Fs σ H s)(q:Q (.bl k) H)(e:k=k'):EP X Fs σ Q (.bool k') s:=by
 subst e
 exact⟨.bl k,H,I,rfl,q⟩
theorem Xm:HL X (compareOp .Eq) rEq:=by
 intro Fs s σ H x y v u Q I rx ry h
 obtain⟨hs,q⟩:=h
 cases x with
 | FG=>
  cases rx
  cases y with
  | FG=>cases ry;exact PySem.EqNone.eq_none_none (bT I q (by rfl))
  | bl j=>cases ry;exact PySem.EqNone.eq_none_bool (bT I q (by rfl))
  | int j=>obtain⟨t',rfl⟩:=ry;exact PySem.EqNone.eq_none_int (bT I q (by rfl))
  | str j=>obtain⟨t',rfl⟩:=ry;exact PySem.EqNone.eq_none_str (bT I q (by rfl))
  | _=>exact absurd (show false=true from hs) aT
 | bl i=>
  cases rx
  cases y with
  | FG=>cases ry;exact PySem.EqNone.eq_bool_none (bT I q (by rfl))
  | bl j=>cases ry;exact eq_bool (bT I q K8)
  | str j=>obtain⟨t',rfl⟩:=ry;exact PySem.EqMixed.eq_bool_str (bT I q (by rfl))
  | _=>exact absurd (show false=true from hs) aT
 | int i=>
  obtain⟨t,rfl⟩:=rx
  cases y with
  | FG=>cases ry;exact PySem.EqNone.eq_int_none (bT I q (by rfl))
  | int j=>obtain⟨t',rfl⟩:=ry;exact eq_int (bT I q HH)
  | str j=>obtain⟨t',rfl⟩:=ry;exact PySem.EqMixed.eq_int_str (bT I q (by rfl))
  | _=>exact absurd (show false=true from hs) aT
 | str i=>
  obtain⟨t,rfl⟩:=rx
  cases y with
  | FG=>cases ry;exact PySem.EqNone.eq_str_none (bT I q (by rfl))
  | bl j=>cases ry;exact PySem.EqMixed.eq_str_bool (bT I q (by rfl))
  | int j=>obtain⟨t',rfl⟩:=ry;exact PySem.EqMixed.eq_str_int (bT I q (by rfl))
  | str j=>obtain⟨t',rfl⟩:=ry;exact eq_str (bT I q HJ)
  | _=>exact absurd (show false=true from hs) aT
 | Sa i=>
  obtain⟨t,rfl⟩:=rx
  cases y with
  | Sa j=>obtain⟨t',rfl⟩:=ry;exact W.eq_bytes (bT I q HN)
  | _=>exact absurd (show false=true from hs) aT
 | _=>cases y <;> exact absurd (show false=true from hs) aT
theorem Xn:HL X (compareOp .NotEq) rNe:=by
 intro Fs s σ H x y v u Q I rx ry h
 obtain⟨hs,q⟩:=h
 cases x with
 | FG=>
  cases rx
  cases y with
  | FG=>cases ry;exact PySem.EqNone.ne_none_none (bT I q (by rfl))
  | bl j=>cases ry;exact PySem.EqNone.ne_none_bool (bT I q (by rfl))
  | int j=>obtain⟨t',rfl⟩:=ry;exact PySem.EqNone.ne_none_int (bT I q (by rfl))
  | str j=>obtain⟨t',rfl⟩:=ry;exact PySem.EqNone.ne_none_str (bT I q (by rfl))
  | _=>exact absurd (show false=true from hs) aT
 | bl i=>
  cases rx
  cases y with
  | FG=>cases ry;exact PySem.EqNone.ne_bool_none (bT I q (by rfl))
  | bl j=>cases ry;exact ne_bool (bT I q (dr not K8))
  | str j=>obtain⟨t',rfl⟩:=ry;exact PySem.EqMixed.ne_bool_str (bT I q (by rfl))
  | _=>exact absurd (show false=true from hs) aT
 | int i=>
  obtain⟨t,rfl⟩:=rx
  cases y with
  | FG=>cases ry;exact PySem.EqNone.ne_int_none (bT I q (by rfl))
  | int j=>obtain⟨t',rfl⟩:=ry;exact ne_int (bT I q (dr not HH))
  | str j=>obtain⟨t',rfl⟩:=ry;exact PySem.EqMixed.ne_int_str (bT I q (by rfl))
  | _=>exact absurd (show false=true from hs) aT
 | str i=>
  obtain⟨t,rfl⟩:=rx
  cases y with
  | FG=>cases ry;exact PySem.EqNone.ne_str_none (bT I q (by rfl))
  | bl j=>cases ry;exact PySem.EqMixed.ne_str_bool (bT I q (by rfl))
  | int j=>obtain⟨t',rfl⟩:=ry;exact PySem.EqMixed.ne_str_int (bT I q (by rfl))
  | str j=>obtain⟨t',rfl⟩:=ry;exact ne_str (bT I q (dr not HJ))
  | _=>exact absurd (show false=true from hs) aT
 | Sa i=>
  obtain⟨t,rfl⟩:=rx
  cases y with
  | Sa j=>obtain⟨t',rfl⟩:=ry;exact W.ne_bytes (bT I q (dr not HN))
  | _=>exact absurd (show false=true from hs) aT
 | _=>cases y <;> exact absurd (show false=true from hs) aT
theorem Xo:HL X (compareOp .Lt) (QI λi j=>.bl (decide (i < j))):=NP λ_ _ _ _ _ _ _ q=>lt_int q
theorem Qq:HL X (compareOp .LtE) (QI λi j=>.bl (decide (i<=j))):=NP λ_ _ _ _ _ _ _ q=>le_int q
theorem Xp:HL X (compareOp .Gt) (QI λi j=>.bl (decide (j < i))):=NP λ_ _ _ _ _ _ _ q=>gt_int q
theorem K9:HL X (compareOp .In) (λx y H Q=>∃i j,x=.str i/\y=.str j/\Q (.bl (!(Builtin.Str.occurrences j i 0 j.length 1).isEmpty)) H):=by
 intro Fs s σ H x y v u Q I rx ry h
 obtain⟨i,j,rfl,rfl,q⟩:=h
 obtain⟨t,rfl⟩:=rx
 obtain⟨t',rfl⟩:=ry
 exact in_str (bT I q rfl)
theorem Um:HL X (compareOp .Is) (λx y H Q=>y=.FG/\Q (.bl (decide (x=.FG))) H):=by
 intro Fs s σ H x y v u Q I rx ry h
 obtain⟨rfl,q⟩:=h
 cases ry
 refine is_none_gen (bT I q ?_)
 cases x <;> first
  | (cases rx;rfl)
  | (obtain⟨t,rfl⟩:=rx;rfl)
theorem Q0:HL X (compareOp .IsNot) (λx y H Q=>y=.FG/\Q (.bl (!decide (x=.FG))) H):=by
 intro Fs s σ H x y v u Q I rx ry h
 obtain⟨rfl,q⟩:=h
 cases ry
 refine isnot_none_gen (bT I q ?_)
 cases x <;> first
  | (cases rx;rfl)
  | (obtain⟨t,rfl⟩:=rx;rfl)
theorem HL.or {f:Value->Value->Sem Value}{r r':R2}(h:HL X f r)(h':HL X f r'):HL X f (λx y H Q=>r x y H Q\/r' x y H Q):=by
 intro Fs s σ H x y v u Q I rx ry q
 rcases q with q | q
 ·exact h Fs s σ H x y v u Q I rx ry q
 ·exact h' Fs s σ H x y v u Q I rx ry q
theorem tR (b:Expr){op:CmpOp}(h:autoParam (op≠.In) r1_)(h2:autoParam (op≠.NotIn) r1_):behindInMarks op b=false:=by
 have e1:(op == CmpOp.In)=false:=by cases op <;> first | rfl | exact absurd rfl h
 have e2:(op == CmpOp.NotIn)=false:=by cases op <;> first | rfl | exact absurd rfl h2
 cases b <;> simp[behindInMarks,e1,e2]
theorem Q3 {op:CmpOp}{r:R2}(ho:HL X (compareOp op) r)(ha:PE X a ta)(hb:PE X b tb)(hm:behindInMarks op b=false):PE X (.Compare a [op] [b] pos) (tOp r ta tb):=by
 intro Fs s σ H Q I h
 exact wpAny_Compare1 (NK ha hb I h λv u s2 x y H2 I2 rx ry q=>ho Fs s2 σ H2 x y v u Q I2 rx ry q) hm
def Xq (t:TE):TT:=fun σ H Q=>t σ H λx H'=>∃k,x=.bl k/\Q k H'
theorem Q4 {op:CmpOp}{r:R2}(ho:HL X (compareOp op) r)(ha:PE X a ta)(hb:PE X b tb)(hm:behindInMarks op b=false):PT X (.Compare a [op] [b] pos) (Xq (tOp r ta tb)):=by
 intro Fs s σ H Q I h
 refine wpAny_isTrue_Compare1 (F2 (ha Fs s σ H _ I h) λv s1 ⟨x,H1,I1,r1,q1⟩=>F2 (hb Fs s1 σ H1 _ I1 q1) λu s2 ⟨y,H2,I2,r2,q2⟩=>
  F2 (ho Fs s2 σ H2 x y v u _ I2 r1 r2 q2) λc s3 ⟨z,H3,I3,r3,k,e,q3⟩=>?_) hm
 subst e
 cases r3
 exact fk ⟨H3,I3,q3⟩
def Uo (r r':R2)(ta tb tc:TE):TE:=fun σ H Q=>ta σ H λx H1=>tb σ H1 λy H2=>r x y H2 λz H3=>∃k,z=.bl k /\
 (if k=true then tc σ H3 λw' H4=>r' y w' H4 Q else Q (.bl false) H3)
theorem NT {op op':CmpOp}{r r':R2}(ho:HL X (compareOp op) r)(OC:HL X (compareOp op') r')(ha:PE X a ta)(hb:PE X b tb)(hc:PE X c tc)
  (hm:autoParam (lastMarks [op,op'] [b,c]=false) r10_):PE X (.Compare a [op,op'] [b,c] pos) (Uo r r' ta tb tc):=by
 intro Fs s σ H Q I h
 refine Compare_chain (F2 (ha Fs s σ H _ I h) λv s1 ⟨x,H1,I1,r1,q1⟩=>chain_link (F2 (hb Fs s1 σ H1 _ I1 q1) λu s2 ⟨y,H2,I2,r2,q2⟩=>
  F2 (ho Fs s2 σ H2 x y v u _ I2 r1 r2 q2) λd s3 ⟨z,H3,I3,r3,k,e,q3⟩=>?_)) hm
 subst e
 cases r3
 refine fk ?_
 cases k with
 | false=>exact ite_ff ⟨.bl false,H3,I3,rfl,q3⟩
 | true=>exact ite_tt (chain_last (F2 (hc Fs s3 σ H3 _ I3 q3) λw' s4 ⟨z',H4,I4,r4,q4⟩=>OC Fs s4 σ H4 y z' u w' Q I4 r2 r4 q4))
theorem tU:(sizeLine:Nat) < 2 ^ 63:=by rw[sizeLine_eq];decide
theorem Jh:HL X (binaryOp .Add) (λx y H Q=>∃i j,x=.str i/\y=.str j/\i.length+j.length<=sizeLine/\Q (.str (i++j)) H):=by
 intro Fs s σ H x y v u Q I rx ry h
 obtain⟨i,j,rfl,rfl,hz,q⟩:=h
 obtain⟨t,rfl⟩:=rx
 obtain⟨t',rfl⟩:=ry
 exact add_str (λt' tk=>⟨.str (i++j),H,I.tok _,⟨_,rfl⟩,q⟩) hz
theorem vals1 {x:V}{us:oB}(r:Vals [x] us):∃u,us=[u]/\RelV x u:=by
 cases r with
 | cons r1 r2=>cases r2;exact⟨_,rfl,r1⟩
theorem vals2 {x y:V}{us:oB}(r:Vals [x,y] us):∃u w',us=[u,w']/\RelV x u/\RelV y w':=by
 cases r with
 | cons r1 r2=>
  cases r2 with
  | cons r3 r4=>cases r4;exact⟨_,_,rfl,r1,r3⟩
theorem K_ (hc:X.calm=true):GN X (.builtin "max") (λxs H Q=>∃i j,xs=[.int i,.int j]/\Q (.int (if j > i then j else i)) H):=by
 intro Fs s σ H xs us Q I r h
 obtain⟨i,j,rfl,q⟩:=h
 obtain⟨u,w',rfl,⟨t,rfl⟩,⟨t',rfl⟩⟩:=vals2 r
 refine max_two_ints (I.ok.hd hc) λh' tk k=>⟨_,H,I.kept k,?_,q⟩
 by_cases hj:j > i
 ·rw[bg hj,bg hj];exact⟨_,rfl⟩
 ·rw[ap hj,ap hj];exact⟨_,rfl⟩
end
structure OY (h:Heap)(x dx C:Addr)(mA:Str->Option Value):Prop where
 obj:h.get? x=some (W.instObj C dx)
 ns:h.Ns1 dx mA
 ne:dx≠x
theorem La {h:Heap}{dx:Addr}{mA:Str->Option Value}(n:h.Ns1 dx mA):∃od,h.get? dx=some od/\∀name,W.lookIn name od=some (mA name):=by
 obtain⟨o,es,ep,ho,hd,hk,_,hm⟩:=n
 refine⟨o,ho,λname=>?_⟩
 have e:=hm name
 unfold nsFind findBy at e
 rw[← Array.find?_toList] at e
 unfold W.lookIn
 rw[hd]
 dsimp only
 split
 ·rename_i y q
  rw[q] at e
  exact dr some e
 ·rename_i q
  rw[q] at e
  have a:es.toList.any (·.refKey)=false:=by
   rw[List.any_eq_false]
   intro y hy
   obtain⟨z,t,hkey⟩:=hk y (nt.mp hy)
   simp[DictEntry.refKey,hkey]
  have a':¬ es.toList.any (·.refKey)=true:=by rw[a];exact aT
  rw[ap a']
  exact dr some e
theorem OY.look {h:Heap}{x dx C:Addr}{mA:Str->Option Value}(I:OY h x dx C mA):∃od,W.InstAt h x (W.instObj C dx) C (some od)/\∀name,W.lookIn name od=some (mA name):=
 let ⟨od,ho,hl⟩:=La I.ns
 ⟨od,⟨I.obj,rfl,rfl,ho⟩,hl⟩
section
variable {prog:Program}{w:World}{A:Around}{E:ox}{s:Shared}{K:W.Frag}{x dx C f:Addr}{mA:Str->Option Value}{name:Str}{v:Value}
theorem Q5 {expr:Bool}{Q:ox}(X:K.In s.heap)(I:OY s.heap x dx C mA)(hg:W.plainGet K C name=true)(hh:W.hasDictIn K C=true)
  (ha:W.findIn K (.ref C) name=some none) (hv:mA name=some v) (YO:W.handedIn v=true) (h:Q v { s with toks:=s.toks+1 }):
  wpAny (model prog w) A (getAttr (.ref x) name expr) Q E s:=by
 obtain⟨od,J,hl⟩:=I.look
 exact W.get_value X J (kC hg).1 (W.findObj_own hh ha rfl (by rw[hl,hv])) YO h
theorem NZ {pl:Sem Bool}{Q:Value×List Value->Shared->Prop}(X:K.In s.heap)(I:OY s.heap x dx C mA)(hg:W.plainGet K C name=true)
  (hf:W.findIn K (.ref C) name=some (some (.ref f))) (ht:W.isFn K (.ref f)=true) (hv:mA name=none) (h:Q (.ref f,[.ref x]) s):
  wpAny (model prog w) A (getMethod (.ref x) name pl) Q E s:=by
 obtain⟨od,J,hl⟩:=I.look
 exact W.method_fn X J (kC hg).1 (kC hg).2 hf (ia.mp ht) (by show (W.lookIn name od).map (·.isSome)=some false;rw[hl,hv];rfl) h
theorem Q6 {ns:oP}{Q:Unit->Shared->Prop}(X:K.In s.heap)(I:OY s.heap x dx C mA)
  (hs:W.findIn K (.ref C) "__setattr__" = some (some (.builtin "object.__setattr__"))) (hp:W.plainOver K C=true) (ht:W.takerIn K C name=some none) (hh:W.hasDictIn K C=true)
  (hw:PySem.Within mA ns) (hsz:ns.length<=sizeLine)
  (h:∀h',OY h' x dx C (λy=>if y=name then some v else mA y)->Heap.SameBut dx s.heap h'->Q () { s with heap:=h',toks:=s.toks+2 }):
  wpAny (model prog w) A (setAttr (.ref x) name v) Q E s:=by
 obtain⟨od,J,hl⟩:=I.look
 refine W.set_plain X J hs (W.osa_open (s:={ s with toks:=s.toks+1 }) (r:=none) X J hp ht λb=>?_)
 obtain⟨cd,hc,hd'⟩:=W.any_some hh
 have hx:s.heap.get? x=some ⟨.ref C,some dx,.plain,#[]⟩:=I.obj
 refine ab (ay (ab (ab (wpAny_loadPart hx (ab (W.Looks.here (s:={ s with toks:=s.toks+1 }) (W.looks_clsIn X hc) ?_))))))
 rw[hd']
 refine ay (a:=some dx) (ab (ay (ab ?_)))
 refine wpAny_nsSet1 (s:={ s with toks:=s.toks+1 }) I.ns λh' hn2 Kn=>?_
 obtain⟨oD,esD,epD,hoD,hdD,hcD⟩:=hn2.count (PySem.Within.cons name v hw)
 refine ab (wpAny_lookBehind hoD (by rw[hdD];exact pastItsLine_dict (cw hcD (by rw[bm];omega))) ?_)
 exact ay (h _ ⟨(Kn.2 _ (eS I.ne)).trans I.obj,hn2,I.ne⟩ Kn)
theorem N5 {R:Result->Shared->Prop}{vs:oB}{kw:List (Str×Value)}(X:K.In s.heap)(hm:W.makesIn K C=true)
  (hi:W.findIn K (.ref C) "__init__" = some (some (.ref f))) (hf:W.typeIn K (.ref f)=some (.type "function"))
  (h:codeAny (model prog w) (A.under (.builtin "type.__call__" ⟨.ref C::vs,kw⟩)) (.call (.ref f) ⟨.ref (s.heap.objs.size+1)::vs,kw⟩) (W.InitBack (s.heap.objs.size+1) R)
   { s with heap:=(s.heap.push W.emptyDict).push (W.instObj C s.heap.objs.size) }):
  codeAny (model prog w) A (.call (.ref C) ⟨vs,kw⟩) R s:=by
 obtain⟨hh,g,d,t,os⟩:=s
 exact W.make_core (W.makes_of X hm) (W.looks_findIn X hi) (λself=>W.bind_fn X self hf) (.inl rfl) h
end
noncomputable def iT (f:Str)(v:V):List (Str×V)->List (Str×V)
 | []=>[(f,v)]
 | (g,x)::r=>if g=f then (g,v)::r else (g,x)::iT f v r
theorem xQ (f g:Str)(v:V):∀fs:List (Str×V),(iT f v fs).lookup g=if g=f then some v else fs.lookup g
 | []=>by
  show List.lookup g [(f,v)]=_
  by_cases h:g=f
  ·have hb:(g == f)=true:=ia.mpr h
   simp only[List.lookup,hb,bg h]
  ·have hb:(g == f)=false:=de.mpr h
   simp only[List.lookup,hb,ap h]
 | (k,x)::r=>by
  have ih:=xQ f g v r
  rw[show iT f v ((k,x)::r)=(if k=f then (k,v)::r else (k,x)::iT f v r) from rfl]
  by_cases hk:k=f
  ·rw[bg hk]
   by_cases h:g=k
   ·have hb:(g == k)=true:=ia.mpr h
    simp only[List.lookup,hb,bg (h.trans hk)]
   ·have hb:(g == k)=false:=de.mpr h
    simp only[List.lookup,hb,ap (λe:g=f=>h (e.trans hk.symm))]
  ·rw[ap hk]
   by_cases h:g=k
   ·have hb:(g == k)=true:=ia.mpr h
    simp only[List.lookup,hb,ap (λe:g=f=>hk (h.symm.trans e))]
   ·have hb:(g == k)=false:=de.mpr h
    simp only[List.lookup,hb]
    exact ih
theorem vz (f:Str)(v:V):∀fs:List (Str×V),f∈(iT f v fs).map (·.1)/\∀g,g∈fs.map (·.1)->g∈(iT f v fs).map (·.1)
 | []=>⟨by simp[iT],λg h=>by simp at h⟩
 | (k,x)::r=>by
  obtain⟨i1,i2⟩:=vz f v r
  rw[show iT f v ((k,x)::r)=(if k=f then (k,v)::r else (k,x)::iT f v r) from rfl]
  by_cases hk:k=f
  ·rw[bg hk]
   subst hk
   exact⟨by simp,λg h=>by simpa using h⟩
  ·rw[ap hk]
   refine⟨?_,λg h=>?_⟩
   ·rw[ag]
    exact ac _ i1
   ·rw[ag] at h ⊢
    rcases ar.mp h with e | e
    ·exact ar.mpr (.inl e)
    ·exact ac _ (i2 g e)
theorem xR (f:Str)(v:V):∀fs:List (Str×V),(iT f v fs).length<=fs.length+1
 | []=>by simp[iT]
 | (k,x)::r=>by
  have ih:=xR f v r
  rw[show iT f v ((k,x)::r)=(if k=f then (k,v)::r else (k,x)::iT f v r) from rfl]
  by_cases hk:k=f
  ·rw[bg hk,bm,bm];omega
  ·rw[ap hk,bm,bm];omega
theorem Kj.some_of {v:V}{o:Option Value}(r:Kj (some v) o):∃u,o=some u/\RelV v u:=by
 cases o with
 | none=>exact(show False from r).elim
 | some u=>exact⟨u,rfl,r⟩
theorem Kj.none_of {o:Option Value}(r:Kj none o):o=none:=by
 cases o with
 | none=>rfl
 | some u=>exact(show False from r).elim
theorem Lb {v:V}{u:Value}(r:RelV v u):W.handedIn u=true:=by
 cases v with
 | FG=>cases (show u=Value.none from r);rfl
 | bl b=>cases (show u=Value.bool b from r);rfl
 | int i=>obtain⟨t,e⟩:=(show ∃t,u=Value.int i t from r);cases e;rfl
 | str x=>obtain⟨t,e⟩:=(show ∃t,u=Value.str x t from r);cases e;rfl
 | Sa b=>obtain⟨t,e⟩:=(show ∃t,u=Value.bytes b t from r);cases e;rfl
 | N0 b=>obtain⟨t,e⟩:=(show ∃t,u=Value.float b t from r);cases e;rfl
 | ref a=>cases (show u=Value.ref a from r);rfl
 | ty n=>cases (show u=Value.type n from r);rfl
section
variable {P:Program}{w:World}{H H':Hp}{h h':Heap}{a C dx:Addr}{fs fs':List (Str×V)}
theorem wR {K:W.Frag}(FL:LA P w K H h)(e:H a=some (.ins C dx fs)):∃mA,OY h a dx C mA/\(∀f,Kj (fs.lookup f) (mA f))/\PySem.Within mA (fs.map (·.1))/\fs.length<=1000/\H dx=some (.own a):=by
 obtain⟨d,z,ne,ob,mA,n,r,q⟩:=(show FX P w K H h a (.ins C dx fs) from FL a _ e)
 exact⟨mA,⟨ob,n,ne⟩,r,q,z,d⟩
end
structure OF (K:W.Frag)(C:Addr):Prop where
 pg:W.plainGet K C Str.empty=true
 hd:W.hasDictIn K C=true
 po:W.plainOver K C=true
 sa:W.findIn K (.ref C) "__setattr__" = some (some (.builtin "object.__setattr__"))
theorem OF.get {K:W.Frag}{C:Addr}(c:OF K C)(f:Str):W.plainGet K C f=true:=c.pg
def GV (K:W.Frag)(C:Addr)(f:Str):Prop:=W.findIn K (.ref C) f=some none
theorem GV.taker {K:W.Frag}{C:Addr}{f:Str}(n:GV K C f):W.takerIn K C f=some none:=by
 unfold W.takerIn
 rw[show W.findIn K (.ref C) f=some none from n]
 rfl
structure Meth (K:W.Frag)(C:Addr)(m:Str)(f:Addr):Prop where
 at_:W.findIn K (.ref C) m=some (some (.ref f))
 fn:W.isFn K (.ref f)=true
 kp:W.keepIn K (.ref f)=true
section
variable {X:Cx}{Fs:oy}{σ:St}{H:Hp}{s:Shared}{a C dx:Addr}{fs:List (Str×V)}{f:Str}{v:V}{A:Around}{E:ox}
theorem Ji {b:Bool}{Q:ox}(I:Inv X Fs σ H s)(e:H a=some (.ins C dx fs))(c:OF X.K C)(n:GV X.K C f)(l:fs.lookup f=some v)
  (h:∀u s',Inv X Fs σ H s'->RelV v u->Q u s'):wpAny (model X.prog X.w) A (getAttr (.ref a) f b) Q E s:=by
 obtain⟨mA,O,r,_,_,_⟩:=wR I.FL e
 obtain⟨u,hu,ru⟩:=Kj.some_of (v:=v) (o:=mA f) (by rw[← l];exact r f)
 exact Q5 I.IP O (c.get f) c.hd n hu (Lb ru) (h u _ (I.tok _) ru)
theorem yM {m:Str}{g:Addr}{pl:Sem Bool}{Q:Value×List Value->Shared->Prop}(I:Inv X Fs σ H s)(e:H a=some (.ins C dx fs))(c:OF X.K C)(k:Meth X.K C m g)(l:fs.lookup m=none)
  (h:Q (.ref g,[.ref a]) s):wpAny (model X.prog X.w) A (getMethod (.ref a) m pl) Q E s:=by
 obtain⟨mA,O,r,_,_,_⟩:=wR I.FL e
 have hn:mA m=none:=Kj.none_of (by rw[← l];exact r m)
 exact NZ I.IP O (c.get m) k.at_ k.fn hn h
theorem Jj {y:V}{u:Value}{Q:Unit->Shared->Prop}(I:Inv X Fs σ H s)(e:H a=some (.ins C dx fs))(c:OF X.K C)(n:GV X.K C f)(hl:fs.length < 1000)(ry:RelV y u)
  (h:∀s',Inv X Fs σ (upd H a (.ins C dx (iT f y fs))) s'->Q () s'):wpAny (model X.prog X.w) A (setAttr (.ref a) f u) Q E s:=by
 obtain⟨mA,O,r,wi,_,ho⟩:=wR I.FL e
 have hz:(fs.map (·.1)).length<=sizeLine:=by rw[ae,sizeLine_eq];omega
 refine Q6 I.IP O c.sa c.po n.taker c.hd wi hz λh' O' sb=>h _ ?_
 have hd:∃o,h'.get? dx=some o:=let ⟨o,_,_,e',_⟩:=O'.ns;⟨o,e'⟩
 refine I.write (x:=a) (e:=dx) (by rw[e];exact fg) (.inr ho) (λb q hb z=>(sb.2 b hb).trans z) hd ?_
 refine⟨by rw[aQ O.ne];exact ho,?_,O.ne,O'.obj,_,O'.ns,λg=>?_,λg hg=>?_⟩
 ·have:=xR f y fs;omega
 ·show Kj ((iT f y fs).lookup g) (if g=f then some u else mA g)
  rw[xQ]
  by_cases q:g=f
  ·rw[bg q,bg q];exact ry
  ·rw[ap q,ap q];exact r g
 ·by_cases q:g=f
  ·rw[q];exact(vz f y fs).1
  ·refine(vz f y fs).2 g (wi g λz=>hg ?_)
   show (if g=f then some u else mA g)=none
   rw[ap q];exact z
theorem Inv.made (I:Inv X Fs σ H s):Inv X Fs σ (upd (upd H s.heap.objs.size (.own (s.heap.objs.size+1))) (s.heap.objs.size+1) (.ins C s.heap.objs.size []))
  { s with heap:=(s.heap.push W.emptyDict).push (W.instObj C s.heap.objs.size) }:=by
 have e1:(s.heap.push W.emptyDict).get? s.heap.objs.size=some W.emptyDict:=ba s.heap rfl
 have e2:((s.heap.push W.emptyDict).push (W.instObj C s.heap.objs.size)).get? (s.heap.objs.size+1)=some (W.instObj C s.heap.objs.size):=by
  have:=ba (s.heap.push W.emptyDict) (o:=W.instObj C s.heap.objs.size) rfl
  rwa [dS] at this
 have e3:(s.heap.push W.emptyDict).Ns s.heap.objs.size (λ_=>none):=⟨W.emptyDict,#[],_,e1,rfl,(λe he=>absurd he (by simp)),λ_=>rfl⟩
 have I1:=I.laid (a:=s.heap.objs.size) (o:=.own (s.heap.objs.size+1)) (h':=s.heap.push W.emptyDict) (t':=s.toks) (λb u q=>am _ q) (aw _) ⟨_,e1⟩
 refine I1.laid (a:=s.heap.objs.size+1) (o:=.ins C s.heap.objs.size []) (t':=s.toks) (λb u q=>am _ q) (on (dS _ _)) ?_
 have ne:s.heap.objs.size≠s.heap.objs.size+1:=bP (gy _)
 refine⟨by rw[aQ ne,bx],da _,ne,e2,λ_=>none,(Heap.Ns1.of_empty e3).at λo q=>am _ q,λ_=>fg,λy hy=>absurd rfl hy⟩
theorem Q7 {prog:Program}{w:World}{env:Env}{e:Expr}{f:Str}{pos:Pos}{s:Shared}{Q:ox}(hb:attributeBase e f env (eval e env)=eval e env)
  (h:wpAny (model prog w) A (eval e env) (λo s₁=>wpAny (model prog w) A (getAttr o f true) Q E s₁) E s):wpAny (model prog w) A (eval (.Attribute e f pos) env) Q E s:=
 Attribute_any_ h (by rw[arm_eval_Attribute,hb])
end
def Yz (K:W.Frag)(ta:TE)(f:Str):TE:=fun σ H Q=>ta σ H λx H1=>∃a C dx fs v,x=.ref a/\H1 a=some (.ins C dx fs)/\OF K C/\GV K C f/\fs.lookup f=some v/\Q v H1
def YB (K:W.Frag)(ta tv:TE)(f:Str):TS:=λD σ H=>tv σ H λy H1=>ta σ H1 λx H2=>∃a C dx fs,x=.ref a/\H2 a=some (.ins C dx fs)/\OF K C/\GV K C f/\fs.length < 1000 /\
 D.nx σ (upd H2 a (.ins C dx (iT f y fs)))
section
variable {X:Cx}{o e value:Expr}{f:Str}{pos pos' tpos:Pos}{ta tv:TE}
theorem Up (he:PE X e ta)(hb:attributeBase e f X.env (eval e X.env)=eval e X.env):PE X (.Attribute e f pos) (Yz X.K ta f):=by
 intro Fs s σ H Q I h
 refine Q7 hb (F2 (he Fs s σ H _ I h) ?_)
 rintro u s1 ⟨x,H1,I1,rx,a,C,dx,fs,v,ex,ea,c,n,l,q⟩
 subst ex
 obtain rfl:u=Value.ref a:=rx
 exact Ji I1 ea c n l λu' s2 I2 ru=>⟨v,H1,I2,ru,q⟩
theorem Uq (ha:PE X o ta)(hv:PE X value tv)(hs:swapsWith value (some (.Attribute o f pos')) pos.line X.env=pure false):PS X (.Assign [.Attribute o f pos'] value pos) (YB X.K ta tv f):=by
 intro Fs s σ H D I h
 refine plainObj_wpAny_Assign_Attribute (F2 (hv Fs s σ H _ I h) λu s1 ⟨y,H1,I1,ry,q⟩=>F2 (ha Fs s1 σ H1 _ I1 q) ?_) hs
 rintro ov s2 ⟨x,H2,I2,rx,a,C,dx,fs,ex,ea,c,n,l,q2⟩
 subst ex
 obtain rfl:ov=Value.ref a:=rx
 exact Jj I2 ea c n l ry λs3 I3=>⟨σ,_,I3,q2⟩
end
section
variable {X:Cx}{Fs:oy}{σ:St}{H:Hp}{s:Shared}{A:Around}{E:ox}{Q:ox}{c:Value}{b:Bool}
inductive K2 (K:W.Frag) (H:Hp):V->Value->Prop where
 | FG:K2 K H .FG (.type "NoneType")
 | bl (x:Bool):K2 K H (.bl x) (.type "bool")
 | int (i:Int):K2 K H (.int i) (.type "int")
 | str (x:Str):K2 K H (.str x) (.type "str")
 | N0 (x:UInt64):K2 K H (.N0 x) (.type "float")
 | lst {a:Addr}{xs:List V}(e:H a=some (.lst xs)):K2 K H (.ref a) (.type "list")
 | frz {a:Addr}{o:Obj}{xs:List V}(e:H a=some (.frz o (.lst xs))):K2 K H (.ref a) (.type "list")
 | tup {a:Addr}{xs:List V}(e:H a=some (.tup xs)):K2 K H (.ref a) (.type "tuple")
 | OO {a:Addr}{xs:List V}(e:QE K a xs):K2 K H (.ref a) (.type "tuple")
 | dK {a:Addr}{kvs:List (Key×V)}(e:H a=some (.dK kvs)):K2 K H (.ref a) (.type "dict")
 | dT {a:Addr}{kvs:List (List Key×V)}(e:H a=some (.dT kvs)):K2 K H (.ref a) (.type "dict")
 | ins {a C dx:Addr}{fs:List (Str×V)}(e:H a=some (.ins C dx fs)) (cl:OF K C) (ha:W.findIn K (.ref C) "__class__" = some (some (.builtin "object.__class__")))
   (hn:W.specialIn K (.builtin "object.__class__") "__get__" = some (some (.builtin "getset_descriptor.__get__"))) (htk:W.takesIn K (.builtin "object.__class__")=some true)
   (hm:W.mroIn K C (.type "object")=some true):K2 K H (.ref a) (.ref C)
theorem Ld {x:V}{u t:Value}(I:Inv X Fs σ H s)(rx:RelV x u)(ty:K2 X.K H x t)(e:W.kitOne X.K t c=some b)(h:∀tk,Q (.bool b) { s with toks:=tk }):
  wpAny (model X.prog X.w) A (call (.builtin "isinstance") [u,c]) Q E s:=by
 cases ty with
 | FG=>cases (show u=Value.none from rx);exact df W.kitx_none I.IP fg e (λz=>nomatch z) h
 | bl y=>cases (show u=Value.bool y from rx);exact df W.kitx_bool I.IP fg e (λz=>nomatch z) h
 | int i=>obtain⟨t,q⟩:=(show ∃t,u=Value.int i t from rx);cases q;exact df W.kitx_int I.IP fg e (λz=>nomatch z) h
 | str y=>obtain⟨t,q⟩:=(show ∃t,u=Value.str y t from rx);cases q;exact df W.kitx_str I.IP fg e (λz=>nomatch z) h
 | N0 y=>obtain⟨t,q⟩:=(show ∃t,u=Value.float y t from rx);cases q;exact df W.kitx_float I.IP fg e (λz=>nomatch z) h
 | @lst a xs ea=>
  cases (show u=Value.ref a from rx)
  obtain⟨_,_,n,_,h1⟩:=(show FX X.prog X.w X.K H s.heap a (.lst xs) from I.FL a _ ea)
  exact df W.kitx_list I.IP ⟨_,h1,rfl⟩ e (λz=>nomatch z) h
 | @frz a ob xs ea=>
  cases (show u=Value.ref a from rx)
  obtain⟨_,_,_,n,_,h1⟩:=(show FX X.prog X.w X.K H s.heap a (.frz ob (.lst xs)) from I.FL a _ ea)
  exact df W.kitx_list I.IP ⟨_,h1,rfl⟩ e (λz=>nomatch z) h
 | @tup a xs ea=>
  cases (show u=Value.ref a from rx)
  obtain⟨_,_,_,p⟩:=(show FX X.prog X.w X.K H s.heap a (.tup xs) from I.FL a _ ea)
  obtain⟨o,h1,h2,_⟩:=p
  exact df kR I.IP ⟨o,h1,h2⟩ e (λz=>nomatch z) h
 | @OO a xs e1=>
  cases (show u=Value.ref _ from rx)
  obtain⟨o,FD,n,g1,g2,g3,_⟩:=e1
  exact df kR I.IP ⟨o,I.IP _ o g1,g2⟩ e (λz=>nomatch z) h
 | @dK a kvs ea=>
  cases (show u=Value.ref a from rx)
  obtain⟨_,_,vs,_,p⟩:=(show FX X.prog X.w X.K H s.heap a (.dK kvs) from I.FL a _ ea)
  obtain⟨o,es,ep,h1,h2,_⟩:=p
  exact df W.kitx_dict I.IP ⟨o,h1,h2.1⟩ e (λz=>nomatch z) h
 | @dT a kvs ea=>
  cases (show u=Value.ref a from rx)
  obtain⟨_,_,xs,_,o,es,ep,h1,h2,_⟩:=(show FX X.prog X.w X.K H s.heap a (.dT kvs) from I.FL a _ ea)
  exact df W.kitx_dict I.IP ⟨o,h1,h2.1⟩ e (λz=>nomatch z) h
 | @ins a C dx fs ea cl ha hn htk hm=>
  cases (show u=Value.ref a from rx)
  obtain⟨mA,O,_⟩:=wR I.FL ea
  obtain⟨od,J,_⟩:=O.look
  exact df (W.kitx_own (cl.get _) cl.hd ha hn htk hm) I.IP J e (λz=>nomatch z) h
end
structure F5 (k:Nat)(A:Around):Prop where
 hd:A.handled=none
 dp:A.depth+3*k+5 < recursionLimit
 un:A.units+16*k+200 < cLine
theorem F5.mono {j k:Nat}{A:Around}(r:F5 k A)(h:j<=k):F5 j A:=⟨r.hd,by have:=r.dp;omega,by have:=r.un;omega⟩
theorem F5.deeper {k:Nat}{A:Around}(r:F5 (k+1) A)(env:Env):F5 k (A.deeper env):=
 ⟨r.hd,by have:=r.dp;show A.depth+1+3*k+5 < _;omega,by have:=r.un;show A.units+3+16*k+200 < _;omega⟩
theorem Jk {A:Around}{C:Addr}{us:oB}{kw:List (Str×Value)}:(A.under (.builtin "type.__call__" ⟨.ref C::us,kw⟩)).depth=A.depth+1:=by
 first | rfl | simp[Around.under,Code.weight,Code.isCreation,Code.isGuard,Code.isCaller,Code.frames,Code.isFrame,guardIds]
theorem Jl {A:Around}{C:Addr}{us:oB}{kw:List (Str×Value)}:(A.under (.builtin "type.__call__" ⟨.ref C::us,kw⟩)).units=A.units+1:=by
 first | rfl | simp[Around.under,Code.cUnits,Code.frames,Code.isFrame]
theorem F5.make {k:Nat}{A:Around}(r:F5 (k+1) A)(C:Addr)(us:oB)(kw:List (Str×Value)):F5 k (A.under (.builtin "type.__call__" ⟨.ref C::us,kw⟩)):=
 ⟨r.hd,by have:=r.dp;rw[Jk];omega,by have:=r.un;rw[Jl];omega⟩
theorem F5.depth {k:Nat}{A:Around}(r:F5 k A):A.depth < recursionLimit:=by have:=r.dp;omega
theorem F5.units {k:Nat}{A:Around}(r:F5 k A):A.units+64 < cLine:=by have:=r.un;omega
def Jm:TA:=λ_ H Q=>Q [] H
def Qs (ta:TE)(tr:TA):TA:=fun σ H Q=>ta σ H λx H1=>tr σ H1 λxs H2=>Q (x::xs) H2
section
variable {X:Cx}{e:Expr}{es:oI}{te:TE}{t:TA}{pos:Pos}
theorem dJ:PA X [] Jm:=λ_ _ _ _ H Q I h=>fm ⟨[],H,I,.nil,h⟩
theorem bW (ha:PE X e te)(hr:PA X es t)(hs:autoParam (starEach (e::es) X.env=(false,eval e X.env)::starEach es X.env) r0_):PA X (e::es) (Qs te t):=by
 intro pos Fs s σ H Q I h
 rw[hs]
 show wpAny _ _ (spliced ((false,eval e X.env)::backTo pos (starEach es X.env))) _ _ s
 refine d0 (F2 (ha Fs s σ H _ I h) ?_)
 rintro u s1 ⟨x,H1,I1,r1,q1⟩
 exact F2 (hr pos Fs s1 σ H1 _ I1 q1) λus s2 ⟨xs,H2,I2,r2,q2⟩=>⟨x::xs,H2,I2,.cons r1 r2,q2⟩
def YC (t:TA):TE:=fun σ H Q=>t σ H λxs H1=>xs.length<=sizeLine/\∀p,H1 p=none->Q (.ref p) (upd H1 p (.tup xs))
def Ur (t:TA):TE:=fun σ H Q=>t σ H λxs H1=>xs.length<=sizeLine/\∀p,H1 p=none->Q (.ref p) (upd H1 p (.lst xs))
theorem Us {x1}(h:PA X es t):PE X (.Tuple es x1 pos) (YC t):=by
 intro Fs s σ H Q I hq
 refine wpAny_Tuple_spliced (F2 (h pos Fs s σ H _ I hq) λus s1 ⟨xs,H1,I1,r,z,q⟩=>⟨by rw[← r.length];exact z,?_⟩)
 have hf:H1 s1.heap.objs.size=none:=I1.FL.fresh (aw _)
 refine⟨.ref s1.heap.objs.size,upd H1 s1.heap.objs.size (.tup xs),I1.laid (t':=s1.toks) (λb u e=>am _ e) (aw _) ?_,rfl,q _ hf⟩
 exact⟨z,us,r,⟨_,ba _ rfl,rfl,_,rfl⟩⟩
theorem Eo (h:PA X es t):PE X (.List es pos) (Ur t):=by
 intro Fs s σ H Q I hq
 refine wpAny_List_spliced (F2 (h pos Fs s σ H _ I hq) λus s1 ⟨xs,H1,I1,r,z,q⟩=>⟨by rw[← r.length];exact z,?_⟩)
 have hf:H1 s1.heap.objs.size=none:=I1.FL.fresh (aw _)
 refine⟨.ref s1.heap.objs.size,upd H1 s1.heap.objs.size (.lst xs),I1.laid (t':=s1.toks) (λb u e=>am _ e) (aw _) ?_,rfl,q _ hf⟩
 exact⟨z,us,0,r,ba _ rfl⟩
end
abbrev Sp:=List V->Hp->VK->XK->Prop
abbrev Sr:=List Env->Hp->Shared->XK->Value->Shared->Prop
structure OZ (P:Program)(w:World)(K:W.Frag)(mg:Str->Option Value)(base:Heap)(A:Around)(outer:List Env)(s:Shared)(H:Hp):Prop where
 frames:A.frames=some outer
 mod:Mod K mg base
 bs:∀b o,base.get? b=some o->s.heap.get? b=some o/\H b=none
 YE:base.objs.size<=s.heap.objs.size
 ME:s.heap.FunFrames base outer
 frf:∀b∈Sk outer,H b=none
 FL:LA P w K H s.heap
 bare:AllBare s.gens
def CE (outer:List Env)(P:Program)(w:World)(K:W.Frag)(H:Hp)(s:Shared)(Q:VK)(u:Value)(s':Shared):Prop:=
 ∃v H',s'.os=s.os/\AllBare s'.gens/\Un (Sk outer) [] H H' s.heap s'.heap/\LA P w K H' s'.heap/\RelV v u/\Q v H'
def CR (CX:Sr)(outer:List Env)(P:Program)(w:World)(K:W.Frag)(H:Hp)(s:Shared)(Q:VK)(E:XK)(r:Result)(s':Shared):Prop:=
 match r with
 | .ok (.ret u)=>CE outer P w K H s Q u s'
 | .ok _=>False
 | .error e=>CX outer H s E e s'
structure GY (P:Program)(w:World)(K:W.Frag)(mg:Str->Option Value)(base:Heap)(CX:Sr)(k:Nat)(f:Addr)(fd:FuncData)(ps:oP)(sp:Sp):Prop where
 len:∀vs H Q E,sp vs H Q E->vs.length=ps.length
 run:∀(A:Around) (outer:List Env) (s:Shared) (H:Hp) (args:Args) (us:oB) (vs:List V) (Q:VK) (E:XK),F5 k A->OZ P w K mg base A outer s H->BindsTo s fd args (ps.zip us)->Vals vs us->sp vs H Q E->
  codeAny (model P w) A (.call (.ref f) args) (CR CX outer P w K H s Q E) s
theorem GY.imp {P:Program}{w:World}{K:W.Frag}{mg:Str->Option Value}{base:Heap}{CX:Sr}{k:Nat}{f:Addr}{fd:FuncData}{ps:oP}{sp sp':Sp}(F:GY P w K mg base CX k f fd ps sp)
  (h:∀vs H Q E,sp' vs H Q E->sp vs H Q E):GY P w K mg base CX k f fd ps sp':=
 ⟨λvs H Q E q=>F.len vs H Q E (h _ _ _ _ q),λA outer s H args us vs Q E hr he hb hv hs=>F.run A outer s H args us vs Q E hr he hb hv (h _ _ _ _ hs)⟩
theorem OZ.make {P:Program}{w:World}{K:W.Frag}{mg:Str->Option Value}{base:Heap}{A:Around}{outer:List Env}{s:Shared}{H:Hp}(e:OZ P w K mg base A outer s H)(C:Addr)(us:oB)(kw:List (Str×Value)):
  OZ P w K mg base (A.under (.builtin "type.__call__" ⟨.ref C::us,kw⟩)) outer s H:=⟨by first | exact e.frames | (simpa [Around.under,Code.envs,Code.isFrame,pushEnvs] using e.frames),e.mod,e.bs,e.YE,e.ME,e.frf,e.FL,e.bare⟩
section
variable {X:Cx}{Fs:oy}{σ:St}{H:Hp}{s s':Shared}
theorem Inv.Lc (I:Inv X Fs σ H s):OZ X.prog X.w X.K X.mg X.base X.A X.stack s H:=
 ⟨I.ok.frames,I.ok.mod,I.bs,cw I.ok.YE I.sz,I.stack,I.PH,I.FL,I.bare⟩
theorem Inv.after {Q:VK}{u:Value}(I:Inv X Fs σ H s)(h:CE X.stack X.prog X.w X.K H s Q u s'):EP X Fs σ Q u s':=by
 obtain⟨v,H',os,bare,un,FL,r,q⟩:=h
 obtain⟨hh,g,d,t,os'⟩:=s'
 obtain rfl:os'=s.os:=os
 exact⟨v,H',I.call (h':=hh) (g':=g) (d':=d) (t':=t) (ch:=[]) un FL bare (λb z=>absurd z (by simp)),r,q⟩
end
def Qt (sp:Sp)(NC:List V)(E:XK)(t:TA):TE:=fun σ H Q=>t σ H λvs H1=>sp (vs++NC) H1 Q E
def Qu (C:Addr)(m:Str)(sp:Sp)(NC:List V)(E:XK)(ta:TE)(t:TA):TE:=fun σ H Q=>ta σ H λx H1=>∃a dx fs,x=.ref a/\H1 a=some (.ins C dx fs)/\fs.lookup m=none /\
 t σ H1 λvs H2=>sp (x::(vs++NC)) H2 Q E
def Qv (C:Addr)(sp:Sp)(NC:List V)(E:XK)(t:TA):TE:=fun σ H Q=>t σ H λvs H1=>∀x dx,H1 x=none->H1 dx=none->dx≠x->
 sp (.ref x::(vs++NC)) (upd (upd H1 dx (.own x)) x (.ins C dx [])) (λv H2=>v=.FG/\Q (.ref x) H2) E
def Binds (K:W.Frag)(fd:FuncData)(ps:oP)(ds:oB):Prop:=
 ∀(s:Shared) (us:oB),K.In s.heap->(us++ds).length=ps.length->BindsTo s fd ⟨us,[]⟩ (ps.zip (us++ds))
theorem Binds.all {K:W.Frag}{fd:FuncData}{ps:oP}(h:∀us:List Value,us.length=ps.length->bindArgs fd ⟨us,[]⟩=pure (ps.zip us)):Binds K fd ps []:=λs us _ hl=>by
 rw[cf] at hl ⊢
 exact .of_eq (h us hl)
def qL (CX:Sr)(X:Cx)(E:XK):Prop:=∀(Fs:oy) (σ:St) (H:Hp) (s:Shared) (e:Value) (s':Shared),Inv X Fs σ H s->CX X.stack H s E e s'->X.xe e s'
section
variable {X:Cx}{CX:Sr}{k:Nat}{f C:Addr}{fd:FuncData}{ps:oP}{sp:Sp}{NC:List V}{ds:oB}{E:XK}{x m:Str}{p pos apos:Pos}{e o:Expr}{es:oI}{ta:TE}{t:TA}
theorem Ep {Fs:oy}{σ:St}{H:Hp}{s:Shared}{Q:VK}{us:oB}{vs:List V}(F:GY X.prog X.w X.K X.mg X.base CX k f fd ps sp)(hr:F5 k X.A)(hb:Binds X.K fd ps ds)(hd:Vals NC ds)(hx:qL CX X E)
  (I:Inv X Fs σ H s) (r:Vals vs us) (h:sp (vs++NC) H Q E):wpAny (model X.prog X.w) X.A (call (.ref f) us) (EP X Fs σ Q) X.xe s:=by
 have r2:Vals (vs++NC) (us++ds):=r.append hd
 have hl:(us++ds).length=ps.length:=by rw[← r2.length];exact F.len _ _ _ _ h
 refine wpAny_call (me (F.run X.A X.stack s H ⟨us,[]⟩ (us++ds) (vs++NC) Q E hr I.Lc (hb s us I.IP hl) r2 h) λr s' hq=>?_)
 cases r with
 | error e=>exact hx Fs σ H s e s' I hq
 | ok fl=>
  cases fl with
  | ret u=>exact I.after hq
  | next=>exact False.elim hq
  | brk=>exact False.elim hq
  | cont=>exact False.elim hq
theorem Q8 (F:GY X.prog X.w X.K X.mg X.base CX k f fd ps sp)(hr:F5 k X.A)(hg:Gl X x)(hm:X.mg x=some (.ref f))(hk:W.keepIn X.K (.ref f)=true)(hb:Binds X.K fd ps ds)(hd:Vals NC ds)(hx:qL CX X E)
  (ha:PA X (e::es) t) (MQ:autoParam ((x == ("__debug__" : Str))=false) r1_) (he:autoParam (starEach (e::es) X.env=(false,eval e X.env)::starEach es X.env) r0_) (HM:autoParam ((backTo pos (starEach es X.env)).any (·.1)=false) r0_):
  PE X (.Call (.Name x p) (e::es) [] pos) (Qt sp NC E t):=by
 intro Fs s σ H Q I h
 refine eK (z_ I hg hm ?_ MQ)
 refine kS (h₀:=X.base) I.ok.mod.Sj hk (F2 (ha pos Fs s σ H _ I h) λus s1 ⟨vs,H1,I1,r,q⟩=>⟨I1.IP,?_⟩) he HM
 exact Ep F hr hb hd hx I1 r q
theorem Q9 {pl:Sem Bool}(he:PE X o ta)(c:OF X.K C)(hm:Meth X.K C m f)(F:GY X.prog X.w X.K X.mg X.base CX k f fd ps sp)(hr:F5 k X.A)(hb:Binds X.K fd ps ds)(hd:Vals NC ds)(hx:qL CX X E)(ha:PA X (e::es) t)
  (PY:autoParam (starEach (e::es) X.env=(false,eval e X.env)::starEach es X.env) r0_) (HM:autoParam ((backTo pos (starEach es X.env)).any (·.1)=false) r0_)
  (ht:eval (.Call (.Attribute o m apos) (e::es) [] pos) X.env=(do
   let ov ← eval o X.env
   standAt apos.atName
   let (f,first) ← holding [ov] (getMethod ov m pl)
   callWith pos f first (backTo pos (starEach (e::es) X.env)) (backToKw pos (keywordEach [] X.env))):=by rfl):
  PE X (.Call (.Attribute o m apos) (e::es) [] pos) (Qu C m sp NC E ta t):=by
 intro Fs s σ H Q I h
 refine mM (pl:=pl) (F2 (he Fs s σ H _ I h) ?_) ht
 rintro u s1 ⟨x,H1,I1,rx,a,dx,fs,ex,ea,l,q⟩
 subst ex
 obtain rfl:u=Value.ref a:=rx
 refine yM I1 ea c hm l ?_
 refine kS (first:=[.ref a]) (h₀:=X.base) I.ok.mod.Sj hm.kp (F2 (ha pos Fs s1 σ H1 _ I1 q) λus s2 ⟨vs,H2,I2,r,q2⟩=>⟨I2.IP,?_⟩) PY HM
 exact Ep (us:=.ref a::us) (vs:=.ref a::vs) F hr hb hd hx I2 (.cons rfl r) q2
theorem N6 {pl:Sem Bool}(he:PE X o ta)(c:OF X.K C)(hm:Meth X.K C m f)(F:GY X.prog X.w X.K X.mg X.base CX k f fd ps sp)(hr:F5 k X.A)(hb:Binds X.K fd ps ds)(hd:Vals NC ds)(hx:qL CX X E)
  (ht:eval (.Call (.Attribute o m apos) [] [] pos) X.env=(do
   let ov ← eval o X.env
   standAt apos.atName
   let (f,first) ← holding [ov] (getMethod ov m pl)
   callWith pos f first (backTo pos (starEach [] X.env)) (backToKw pos (keywordEach [] X.env))):=by rfl):
  PE X (.Call (.Attribute o m apos) [] [] pos) (Qu C m sp NC E ta Jm):=by
 intro Fs s σ H Q I h
 refine mM (pl:=pl) (F2 (he Fs s σ H _ I h) ?_) ht
 rintro u s1 ⟨x,H1,I1,rx,a,dx,fs,ex,ea,l,q⟩
 subst ex
 obtain rfl:u=Value.ref a:=rx
 refine yM I1 ea c hm l ?_
 exact W.callWith_K0 (first:=[.ref a]) I1.IP hm.kp (Ep (us:=[.ref a]) (vs:=[.ref a]) F hr hb hd hx I1 (.cons rfl .nil) q)
structure Mk (K:W.Frag)(C f:Addr):Prop where
 makes:W.makesIn K C=true
 init:W.findIn K (.ref C) "__init__" = some (some (.ref f))
 fn:W.isFn K (.ref f)=true
 kp:W.keepIn K (.ref C)=true
theorem N7 {Fs:oy}{σ:St}{H:Hp}{s:Shared}{Q:VK}{us:oB}{vs:List V}(M:Mk X.K C f)(F:GY X.prog X.w X.K X.mg X.base CX k f fd ps sp)(hr:F5 (k+1) X.A)(hb:Binds X.K fd ps ds)(hd:Vals NC ds)
  (hx:qL CX X E) (I:Inv X Fs σ H s) (r:Vals vs us)
  (h:∀x dx,H x=none->H dx=none->dx≠x->sp (.ref x::(vs++NC)) (upd (upd H dx (.own x)) x (.ins C dx [])) (λv H2=>v=.FG/\Q (.ref x) H2) E):
  wpAny (model X.prog X.w) X.A (call (.ref C) us) (EP X Fs σ Q) X.xe s:=by
 have hq:=h (s.heap.objs.size+1) s.heap.objs.size (I.FL.fresh (ow _)) (I.FL.fresh (aw _)) (bP (gy _))
 have I2:=Inv.made (C:=C) I
 have r2:Vals (V.ref (s.heap.objs.size+1)::(vs++NC)) (Value.ref (s.heap.objs.size+1)::(us++ds)):=.cons rfl (r.append hd)
 have hl:(Value.ref (s.heap.objs.size+1)::us++ds).length=ps.length:=by
  have e:=r2.length
  rw[F.len _ _ _ _ hq] at e
  exact e.symm
 refine wpAny_call (N5 (f:=f) I.IP M.makes M.init (ia.mp M.fn) (me (F.run _ X.stack _ _ ⟨Value.ref (s.heap.objs.size+1)::us,[]⟩ (Value.ref (s.heap.objs.size+1)::(us++ds)) _ _ E (hr.make C us [])
  (I2.Lc.make C us []) (hb _ (Value.ref (s.heap.objs.size+1)::us) I2.IP hl) r2 hq) λr s' hq'=>?_))
 cases r with
 | error e=>exact hx Fs σ _ _ e s' I2 hq'
 | ok fl=>
  cases fl with
  | ret u=>
   obtain⟨v,H',I3,rv,ev,q3⟩:=I2.after hq'
   subst ev
   exact⟨rv,⟨V.ref (s.heap.objs.size+1),H',I3,rfl,q3⟩⟩
  | next=>exact False.elim hq'
  | brk=>exact False.elim hq'
  | cont=>exact False.elim hq'
theorem Q_ (M:Mk X.K C f)(F:GY X.prog X.w X.K X.mg X.base CX k f fd ps sp)(hr:F5 (k+1) X.A)(hg:Gl X x)(hm:X.mg x=some (.ref C))(hb:Binds X.K fd ps ds)(hd:Vals NC ds)(hx:qL CX X E)
  (ha:PA X (e::es) t) (MQ:autoParam ((x == ("__debug__" : Str))=false) r1_) (he:autoParam (starEach (e::es) X.env=(false,eval e X.env)::starEach es X.env) r0_) (HM:autoParam ((backTo pos (starEach es X.env)).any (·.1)=false) r0_):
  PE X (.Call (.Name x p) (e::es) [] pos) (Qv C sp NC E t):=by
 intro Fs s σ H Q I h
 refine eK (z_ I hg hm ?_ MQ)
 refine kS (h₀:=X.base) I.ok.mod.Sj M.kp (F2 (ha pos Fs s σ H _ I h) λus s1 ⟨vs,H1,I1,r,q⟩=>⟨I1.IP,?_⟩) he HM
 exact N7 M F hr hb hd hx I1 r q
end
structure Fu (N P:oP)(sc:Scope):Prop where
 kind:sc.kind=.function
 co:sc.isCoroutine=false
 gen:sc.isGenerator=false
 nd:N.Nodup
 pre:N.take P.length=P
 par:∀x∈P,sc.names.lookup x=some .local\/sc.names.lookup x=some .cell
 nofree:∀y∈sc.names,y.2≠.free
theorem BW {kindOf:Str->Option NameKind}{x:Str}:∀{binds:List (Str×Value)}{m:Str->Option Value},(∀v,(x,v)∉binds)->bindL kindOf binds m x=m x
 | [],_,_=>rfl
 | (n,v)::r,m,h=>by
  unfold bindL
  rw[BW λw hw=>h w (ac _ hw)]
  split
  ·have:x≠n:=by rintro rfl;exact h v af
   simp[this]
  ·rfl
theorem BZ {kindOf:Str->Option NameKind}{x:Str}:∀{binds:List (Str×Value)}{m:Str->Option Value},(∀v,(x,v)∉binds)->bindC kindOf binds m x=m x
 | [],_,_=>rfl
 | (n,v)::r,m,h=>by
  unfold bindC
  rw[BZ λw hw=>h w (ac _ hw)]
  split
  ·rfl
  ·have:x≠n:=by rintro rfl;exact h v af
   simp[this]
theorem B_ {kindOf:Str->Option NameKind}{x:Str}{v:Value}:∀{P:oP}{vs:oB}{i:Nat}{m:Str->Option Value},P.Nodup->P[i]?=some x->vs[i]?=some v->kindOf x=some .local->
  bindL kindOf (P.zip vs) m x=some v
 | [],_,_,_,_,h,_,_=>by simp at h
 | _::_,[],_,_,_,_,h,_=>by simp at h
 | p::P,w::vs,0,m,nd,h1,h2,hk=>by
  simp at h1 h2;subst h1;subst h2
  show bindL kindOf ((p,w)::P.zip vs) m p=_
  unfold bindL
  rw[BW λv hv=>(dA.mp nd).1 (mI hv).1,bg hk]
  simp
 | p::P,w::vs,i+1,m,nd,h1,h2,hk=>by
  show bindL kindOf ((p,w)::P.zip vs) m x=_
  unfold bindL
  exact B_ (i:=i) (dA.mp nd).2 (by simpa using h1) (by simpa using h2) hk
theorem Ca {kindOf:Str->Option NameKind}{x:Str}{v:Value}:∀{P:oP}{vs:oB}{i:Nat}{m:Str->Option Value},P.Nodup->P[i]?=some x->vs[i]?=some v->kindOf x≠some .local->
  bindC kindOf (P.zip vs) m x=some v
 | [],_,_,_,_,h,_,_=>by simp at h
 | _::_,[],_,_,_,_,h,_=>by simp at h
 | p::P,w::vs,0,m,nd,h1,h2,hk=>by
  simp at h1 h2;subst h1;subst h2
  show bindC kindOf ((p,w)::P.zip vs) m p=_
  unfold bindC
  rw[BZ λv hv=>(dA.mp nd).1 (mI hv).1,ap hk]
  simp
 | p::P,w::vs,i+1,m,nd,h1,h2,hk=>by
  show bindC kindOf ((p,w)::P.zip vs) m x=_
  unfold bindC
  exact Ca (i:=i) (dA.mp nd).2 (by simpa using h1) (by simpa using h2) hk
def start (N:oP)(vs:List V):St:=vs.map some++List.replicate (N.length - vs.length) none
def yf (CX:Sr)(P:Program)(w:World)(K:W.Frag)(mg:Str->Option Value)(base:Heap)(N:oP)(qual:Str)(scope:Scope)(f:Addr)(cd:Value)(A:Around)(outer:List Env)(s:Shared)(H:Hp)(E:XK):Cx where
 prog:=P
 w:=w
 K:=K
 mg:=mg
 base:=base
 A:=A.deeper (envOfC qual scope s.heap.objs.size f cd)
 N:=N
 s₀:=s
 H₀:=H
 env:=envOfC qual scope s.heap.objs.size f cd
 outer:=outer
 stack:=envOfC qual scope s.heap.objs.size f cd::outer
 ex:=[]
 calm:=true
 fn:=λ_=>true
 pn:=[]
 xe:=λe s'=>wpAny (model P w) (A.deeper (envOfC qual scope s.heap.objs.size f cd)) (leaving (envOfC qual scope s.heap.objs.size f cd) e) (λ_ s''=>CX outer H s E e s'') (λe' s''=>CX outer H s E e' s'') s'
theorem Er {sc:Scope}{n:Nat}{x:Str}(h:sc.names.lookup x=some .cell):∃c,(cellsFrom n sc.names []).lookup x=some c:=by
 have q:=mf sc.names n [] (.inl h)
 exact Option.isSome_iff_exists.mp q
theorem Le {CX:Sr}{P:Program}{w:World}{K:W.Frag}{mg:Str->Option Value}{base:Heap}{N ps:oP}{qual:Str}{scope:Scope}{f:Addr}{cd:Value}{A:Around}{outer:List Env}{s s1:Shared}{H:Hp}{E:XK}{us:oB}{vs:List V}
  (S:Fu N ps scope) (hd:A.handled=none) (e0:OZ P w K mg base A outer s H) (hl:vs.length=ps.length) (r:Vals vs us)
  (x:InCallC s s.heap.objs.size (bindL (envOfC qual scope s.heap.objs.size f cd).kindOf (ps.zip us) λ_=>none) (cellsFrom (s.heap.objs.size+1) scope.names []) (bindC (envOfC qual scope s.heap.objs.size f cd).kindOf (ps.zip us) λ_=>none) s1):
  Inv (yf CX P w K mg base N qual scope f cd A outer s H E) [] (start N vs) H s1:=by
 have HM:ps.length<=N.length:=by have:=dr List.length S.pre;rw[lP] at this;omega
 obtain⟨h1,tk,rfl,hk⟩:=x.done
 have noA:∀b:Addr,b∉(yf CX P w K mg base N qual scope f cd A outer s H E).ex:=λb z=>absurd (show b∈([]:o0) from z) (by simp)
 refine⟨⟨e0.mod,S.kind,rfl,rfl,aw _,λy z c h1 h2=>?_,λy hy=>?_,λy c _ h=>?_,λ_=>hd,Around.frames_deeper e0.frames,.inr ⟨rfl,rfl⟩,λb z=>absurd z (noA b),e0.bs,e0.YE,λb _ _=>noA b,λb z=>absurd z (noA b),e0.ME,e0.frf⟩,
  rfl,e0.bare,Un.kept hk,⟨_,x.toInCall.ns,λi y v h1 h2 h3=>?_⟩,λy c h=>⟨_,x.cell y c h⟩,e0.FL.fresh (aw _),λy c h=>?_,λp hp=>absurd (show p∈([]:oy) from hp) (by simp),e0.FL.kept hk,?_⟩
 ·exact name_of_addr x.apart (PySem.mem_of_lookup h1) (PySem.mem_of_lookup h2)
 ·have hy:scope.names.lookup y=some .cell\/scope.names.lookup y=some .free:=hy
  rcases hy with hy | hy
  ·exact Er hy
  ·exact absurd rfl (S.nofree _ (PySem.mem_of_lookup hy))
 ·exact gE (x.above y c (PySem.mem_of_lookup h))
 ·have hi:i < vs.length:=by
   unfold start at h2
   by_cases hi:i < vs.length
   ·exact hi
   ·rw[bt (by simpa using hi)] at h2
    rw[iO] at h2
    split at h2 <;> cases h2
  have ha:vs[i]?=some v:=by
   unfold start at h2
   rw[be (by simpa using hi),a6] at h2
   cases e:vs[i]? with
   | none=>rw[e] at h2;cases h2
   | some a=>rw[e] at h2;cases h2;rfl
  obtain⟨u,hu,rv⟩:=r.get ha
  have hp:ps[i]?=some y:=by
   rw[← S.pre,ll (by omega)];exact h1
  have ndP:ps.Nodup:=by rw[← S.pre];exact S.nd.sublist (List.take_sublist _ _)
  refine⟨u,rv,?_⟩
  rcases S.par y (bE hp) with k | k
  ·exact .inl ⟨k,B_ ndP hp hu k⟩
  ·obtain⟨c,e⟩:=Er (n:=s.heap.objs.size+1) k
   refine .inr ⟨.inl k,c,e,?_⟩
   have q:=x.cell y c e
   rw[Ca ndP hp hu (by show scope.names.lookup y≠_;rw[k];decide)] at q
   exact q
 ·exact e0.FL.fresh (gE (x.above y c (PySem.mem_of_lookup h)))
 ·unfold start
  show _=N.length
  rw[ax,ae,jS]
  omega
theorem Xr {CX:Sr}{P:Program}{w:World}{K:W.Frag}{mg:Str->Option Value}{base:Heap}{k:Nat}{f:Addr}{name qual:Str}{params:Arguments}{body:oC}{scope:Scope}{dV kV doc pm LM ct oc:Value}{an od:Option Addr}
  {osl:Array (Option Value)}{N ps:oP}{sp:Sp}(lk:K.lookup f=some ⟨oc,od,.func (W.fnOf name qual params body scope dV kV doc pm an LM ct),osl⟩) (LW:W.codeIn K LM qual=true) (S:Fu N ps scope)
  (len:∀vs H Q E,sp vs H Q E->vs.length=ps.length)
  (Sz:∀(A:Around) (outer:List Env) (s:Shared) (H:Hp) (vs:List V) (Q:VK) (E:XK),F5 k (A.deeper (envOfC qual scope s.heap.objs.size f LM))->sp vs H Q E->
   ∃t,LV (yf CX P w K mg base N qual scope f LM A outer s H E) body t/\t { nx:=λ_ H'=>Q .FG H',rt:=Q } (start N vs) H):
  GY P w K mg base CX (k+1) f (W.fnOf name qual params body scope dV kV doc pm an LM ct) ps sp:=by
 refine⟨len,λA outer s H args us vs Q E hr e0 hb r Se=>?_⟩
 have hl:=len _ _ _ _ Se
 have KX:K.In s.heap:=e0.mod.Sj.keeps λb o e=>(e0.bs b o e).1
 have lim:s.heap.NoLimit:=e0.mod.nolimit.keeps λb o e=>(e0.bs b o e).1
 have hkind:∀y∈ps.zip us,scope.names.lookup y.1=some .local\/(scope.names.lookup y.1=some .cell/\((cellsFrom (s.heap.objs.size+1) scope.names []).lookup y.1).isSome=true):=by
  rintro ⟨n,v⟩ hy
  rcases S.par n (mI hy).1 with q | q
  ·exact .inl q
  ·exact .inr ⟨q,mf _ _ _ (.inl q)⟩
 refine codeAny_call_function hr.depth (KX _ _ lk) rfl S.co S.gen rfl (W.codeRec_of KX LW) (hb _ _ _ _ ?_)
 refine wpAny_newFunctionEnv_cells S.kind hkind λenv he s1 x=>?_
 subst he
 refine⟨lim.keeps x.toInCall.keep,codeAny_func ?_⟩
 obtain⟨t,ht,hq⟩:=Sz A outer s H vs Q E (hr.deeper _) Se
 have I:Inv (yf CX P w K mg base N qual scope f LM A outer s H E) [] (start N vs) H s1:=Le S hr.hd e0 hl r x
 refine ff (ht [] s1 (start N vs) H _ I hq) (λfl s' hs=>?_) λe s' hs=>hs
 have fin:∀{σ':St}{H':Hp}{v:V}{u:Value},Inv (yf CX P w K mg base N qual scope f LM A outer s H E) [] σ' H' s'->RelV v u->Q v H'->CE outer P w K H s Q u s':=
  λ{σ' H' v u} J rv q=>⟨v,H',J.os,J.bare,J.base,J.FL,rv,q⟩
 cases fl with
 | ret u=>
  obtain⟨v,σ',H',J,rv,q⟩:=hs
  exact fin J rv q
 | next=>
  obtain⟨σ',H',J,q⟩:=hs
  exact fin (v:=V.FG) (u:=Value.none) J rfl q
 | brk=>
  obtain⟨_,_,_,q⟩:=hs
  exact False.elim q
 | cont=>
  obtain⟨_,_,_,q⟩:=hs
  exact False.elim q
section
variable {X:Cx}{x:Str}{p pos:Pos}{e:Expr}{es:oI}{t:TA}{id T:String}{r:List V->Hp->VK->Prop}
def tCB (r:List V->Hp->VK->Prop)(t:TA):TE:=fun σ H Q=>t σ H λvs H1=>r vs H1 Q
theorem yg (hc:GN X (.builtin id) r)(hg:Gl X x)(hm:X.mg x=none)(hv:bootBuiltins x=some (.builtin id))(ha:PA X (e::es) t)(hn:x ≠ "__name__" := by decide)(MQ:autoParam ((x == ("__debug__" : Str))=false) r1_)
  (he:autoParam (starEach (e::es) X.env=(false,eval e X.env)::starEach es X.env) r0_) (HM:autoParam ((backTo pos (starEach es X.env)).any (·.1)=false) r0_):PE X (.Call (.Name x p) (e::es) [] pos) (tCB r t):=by
 intro Fs s σ H Q I h
 refine eK (fK I hg hm hv ?_ hn MQ)
 exact PyProof.Rows.callWith_builtin1 (F2 (ha pos Fs s σ H _ I h) λus s1 ⟨vs,H1,I1,r1,q1⟩=>hc Fs s1 σ H1 vs us Q I1 r1 q1) he HM
theorem Lf (hc:GN X (.type T) r)(hg:Gl X x)(hm:X.mg x=none)(hv:bootBuiltins x=some (.type T))(ha:PA X (e::es) t)(hn:x ≠ "__name__" := by decide)(MQ:autoParam ((x == ("__debug__" : Str))=false) r1_)
  (he:autoParam (starEach (e::es) X.env=(false,eval e X.env)::starEach es X.env) r0_) (HM:autoParam ((backTo pos (starEach es X.env)).any (·.1)=false) r0_):PE X (.Call (.Name x p) (e::es) [] pos) (tCB r t):=by
 intro Fs s σ H Q I h
 refine eK (fK I hg hm hv ?_ hn MQ)
 exact bp (F2 (ha pos Fs s σ H _ I h) λus s1 ⟨vs,H1,I1,r1,q1⟩=>hc Fs s1 σ H1 vs us Q I1 r1 q1) he HM
end
section
variable {κ:Type}[DecidableEq κ]
noncomputable def jz (kvs:List (κ×V))(k:κ):Option V:=(kvs.find? λkv=>decide (kv.1=k)).map (·.2)
noncomputable def putK (kvs:List (κ×V))(k:κ)(v:V):List (κ×V):=
 if (kvs.any λkv=>decide (kv.1=k))=true then kvs.map (λkv=>if kv.1=k then (kv.1,v) else kv) else kvs++[(k,v)]
theorem qM {p:κ×V}{r:List (κ×V)}{k:κ}(e:p.1=k):jz (p::r) k=some p.2:=by simp[jz,gL,e]
theorem qN {p:κ×V}{r:List (κ×V)}{k:κ}(e:¬ p.1=k):jz (p::r) k=jz r k:=by simp[jz,gL,e]
theorem Es (k:κ):∀kvs:List (κ×V),(kvs.any λkv=>decide (kv.1=k))=(jz kvs k).isSome
 | []=>rfl
 | p::r=>by
  rw[cy]
  by_cases e:p.1=k
  ·simp only[qM e,br e,Bool.true_or,Option.isSome_some]
  ·rw[qN e,a5 e,Bool.false_or];exact Es k r
theorem xT (kvs:List (κ×V))(k:κ)(v:V):(putK kvs k v).length<=kvs.length+1:=by
 unfold putK
 split
 ·rw[ae];omega
 ·rw[ax,bm,gS];omega
theorem Kj.JA {o:Option V}{u:Option Value}(r:Kj o u):o.isSome=u.isSome:=by
 cases o with
 | none=>cases u with
  | none=>rfl
  | some _=>exact(show False from r).elim
 | some _=>cases u with
  | none=>exact(show False from r).elim
  | some _=>rfl
theorem Kj.getD {o:Option V}{u:Option Value}{d:V}{d':Value}(r:Kj o u)(rd:RelV d d'):RelV (o.getD d) (u.getD d'):=by
 cases o with
 | none=>cases u with
  | none=>exact rd
  | some _=>exact(show False from r).elim
 | some _=>cases u with
  | none=>exact(show False from r).elim
  | some _=>exact r
theorem KV.val {kvs:List (κ×V)}{vs:List (κ×Value)}(r:KV kvs vs)(k:κ):Kj (jz kvs k) (valueAt vs k):=by
 unfold KV at r
 induction r with
 | nil=>exact fg
 | @cons p q ps qs h t ih=>
  obtain⟨h1,h2⟩:=h
  by_cases e:p.1=k
  ·have e':q.1=k:=h1.symm.trans e
   have b:valueAt (q::qs) k=some q.2:=by simp[valueAt,gL,e']
   rw[qM e,b];exact h2
  ·have e':¬ q.1=k:=λz=>e (h1.trans z)
   have b:valueAt (q::qs) k=valueAt qs k:=by simp[valueAt,gL,e']
   rw[qN e,b];exact ih
theorem KV.any {kvs:List (κ×V)}{vs:List (κ×Value)}(r:KV kvs vs)(k:κ):(kvs.any λkv=>decide (kv.1=k))=vs.any λkv=>decide (kv.1=k):=by
 unfold KV at r
 induction r with
 | nil=>rfl
 | cons h t ih=>rw[cy,cy,ih,h.1]
theorem KV.QN {kvs:List (κ×V)}{vs:List (κ×Value)}(r:KV kvs vs)(k:κ){y:V}{u:Value}(ry:RelV y u):
  KV (kvs.map λkv=>if kv.1=k then (kv.1,y) else kv) (vs.map λkv=>if kv.1=k then (kv.1,u) else kv):=by
 unfold KV at r ⊢
 induction r with
 | nil=>exact .nil
 | @cons p q ps qs h t ih=>
  rw[ag,ag]
  refine .cons ?_ ih
  obtain⟨h1,h2⟩:=h
  by_cases e:p.1=k
  ·rw[bg e,bg (h1.symm.trans e)];exact⟨h1,ry⟩
  ·rw[ap e,ap (λz=>e (h1.trans z))];exact⟨h1,h2⟩
theorem KV.put {kvs:List (κ×V)}{vs:List (κ×Value)}(r:KV kvs vs)(k:κ){y:V}{u:Value}(ry:RelV y u):KV (putK kvs k y) (stored vs k u):=by
 unfold putK stored
 rw[r.any k]
 by_cases e:(vs.any λkv=>decide (kv.1=k))=true
 ·rw[bg e,bg e];exact r.QN k ry
 ·rw[ap e,ap e];exact Paired.snoc r ⟨rfl,ry⟩
theorem KV.length {kvs:List (κ×V)}{vs:List (κ×Value)}(r:KV kvs vs):kvs.length=vs.length:=iq r
end
theorem wU {P:Program}{w:World}{k:Key}{u:Value}(r:RelV (kV k) u):(jm P w).is k u=true:=by
 cases k with
 | inl i=>obtain⟨t,e⟩:=(show ∃t,u=Value.int i t from r);subst e;exact Hk P w i t
 | inr x=>obtain⟨t,e⟩:=(show ∃t,u=Value.str x t from r);subst e;exact Hl P w x t
theorem Lg {P:Program}{w:World}{k:Key}{u:Value}(r:RelV (kV k) u):(d7 P w).is k u=true:=KQ (wU (P:=P) (w:=w) r)
theorem HQ {P:Program}{w:World}:∀{ks:List Key}{us:oB},Vals (ks.map kV) us->ItemsAre (d7 P w) ks us
 | [],_,r=>by rw[dP] at r;cases r;exact .nil
 | k::ks,_,r=>by
  rw[ag] at r
  cases r with
  | cons h t=>exact .cons (Lg h) (HQ t)
theorem vA {P:Program}{w:World}{ks:List Key}{vs:List V}{us:oB}(kt:vq ks vs)(r:Vals vs us):ItemsAre (d7 P w) ks us:=by
 rcases kt with rfl | ⟨x,b,rfl,rfl⟩
 ·exact HQ r
 ·cases r with
  | cons h1 t=>cases t with
   | cons h2 t=>
    cases t
    cases (show _=Value.bool b from h2)
    exact .cons (Lg (k:=.inr x) h1) (.cons (Hj b) .nil)
abbrev KT (K:PySem.W.Frag)(H:Hp):List (List Key×V)->List (List Key×Addr×Value)->Prop:=Paired λp q=>p.1=q.1/\Kk K H q.2.1 p.1/\RelV p.2 q.2.2
theorem KT.val {K:W.Frag}{H:Hp}{kvs:List (List Key×V)}{xs:List (List Key×Addr×Value)}(r:KT K H kvs xs)(k:List Key):Kj (jz kvs k) ((atKey xs k).map (·.2)):=by
 induction r with
 | nil=>exact fg
 | @cons p q ps qs h t ih=>
  obtain⟨h1,_,h2⟩:=h
  by_cases e:p.1=k
  ·have e':q.1=k:=h1.symm.trans e
   have b:atKey (q::qs) k=some q.2:=by simp[atKey,gL,e']
   rw[qM e,b];exact h2
  ·have e':¬ q.1=k:=λz=>e (h1.trans z)
   have b:atKey (q::qs) k=atKey qs k:=by simp[atKey,gL,e']
   rw[qN e,b];exact ih
theorem KT.QN {K:W.Frag}{H:Hp}{kvs:List (List Key×V)}{xs:List (List Key×Addr×Value)}(r:KT K H kvs xs)(k:List Key){y:V}{u:Value}(ry:RelV y u):
  KT K H (kvs.map λkv=>if kv.1=k then (kv.1,y) else kv) (xs.map (putAt k u)):=by
 induction r with
 | nil=>exact .nil
 | @cons p q ps qs h t ih=>
  rw[ag,ag]
  refine .cons ?_ ih
  obtain⟨h1,h2,h3⟩:=h
  unfold putAt
  by_cases e:p.1=k
  ·rw[bg e,bg (h1.symm.trans e)];exact⟨h1,h2,ry⟩
  ·rw[ap e,ap (λz=>e (h1.trans z))];exact⟨h1,h2,h3⟩
theorem KT.put {K:W.Frag}{H:Hp}{kvs:List (List Key×V)}{xs:List (List Key×Addr×Value)}(r:KT K H kvs xs)(k:List Key){b:Addr}{y:V}{u:Value}(hb:Kk K H b k)(ry:RelV y u):
  KT K H (putK kvs k y) (storedH xs k b u):=by
 have e:(kvs.any λkv=>decide (kv.1=k))=(atKey xs k).isSome:=by
  rw[Es,(r.val k).JA,lb]
 unfold putK storedH
 rw[e]
 by_cases q:(atKey xs k).isSome=true
 ·rw[bg q,bg q];exact r.QN k ry
 ·rw[ap q,ap q];exact Paired.snoc r ⟨rfl,hb,ry⟩
theorem KT.keeps {K:W.Frag}{H H':Hp}{kvs:List (List Key×V)}{xs:List (List Key×Addr×Value)}(r:KT K H kvs xs)(ht:∀b ys,H b=some (.tup ys)->H' b=some (.tup ys)):KT K H' kvs xs:=
 Paired.mapP r λ_ _ z=>⟨z.1,z.2.1.keeps ht,z.2.2⟩
section
variable {P:Program}{w:World}{K:W.Frag}{H:Hp}{h:Heap}{a:Addr}
theorem Qw {u:HO}(ok:LA P w K H h)(e:Rd H a u):FX P w K H h a u:=e.ok ok
theorem rQ {kvs:List (Key×V)}(ok:LA P w K H h)(e:Rd H a (.dK kvs)):kvs.length<=sizeLine/\(a == sysModules)=false/\∃vs,KV kvs vs/\h.DictOf (jm P w) a vs:=
 show FX P w K H h a (.dK kvs) from Qw ok e
theorem Qx {kvs:List (Key×V)}(ok:LA P w K H h)(e:H a=some (.dK kvs)):kvs.length<=sizeLine/\(a == sysModules)=false/\∃vs,KV kvs vs/\h.DictOf (jm P w) a vs:=rQ ok (.inl e)
theorem Ut {ks:List Key}(ok:LA P w K H h)(e:TF H a ks):(tupleKind (d7 P w)).is h ks a:=by
 obtain⟨vs,e,kt⟩:=e
 obtain⟨_,FD,r,o,h1,h2,n,h3⟩:=(show FX P w K H h a (.tup vs) from ok a _ e)
 exact⟨o,FD.toArray,n,h1,h2,h3,by simpa using vA kt r⟩
theorem oA {ks:List Key}(Sj:K.In h)(ok:LA P w K H h)(e:Kk K H a ks):(tupleKind (d7 P w)).is h ks a:=by
 rcases e with e | ⟨vs,⟨o,FD,n,e1,e2,e3,_,r⟩,kt⟩
 ·exact Ut ok e
 ·exact⟨o,FD,n,Sj a o e1,e2,e3,vA kt r⟩
theorem Ac {kvs:List (List Key×V)}(Sj:K.In h)(ok:LA P w K H h)(e:Rd H a (.dT kvs)):kvs.length<=sizeLine/\(a == sysModules)=false/\∃xs,KT K H kvs xs/\Lv (tupleKind (d7 P w)) h a xs:=by
 obtain⟨z,y,xs,r,o,es,ep,h1,h2,h3,h4,h5,h6⟩:=(show FX P w K H h a (.dT kvs) from Qw ok e)
 subst h6
 refine⟨z,y,xs,r,o,es,h1,h2,h3,h4,λx hx=>?_,h5⟩
 have all:∀{l:List (List Key×V)}{m:List (List Key×Addr×Value)},KT K H l m->∀x∈m,(tupleKind (d7 P w)).is h x.1 x.2.1:=by
  intro l m q
  induction q with
  | nil=>intro x hx;exact nomatch hx
  | cons hq t ih=>
   intro x hx
   rcases ar.mp hx with e | hx
   ·rw[e];exact oA Sj ok (by rw[← hq.1];exact hq.2.1)
   ·exact ih x hx
 exact all r x hx
theorem uA {kvs:List (List Key×V)}(Sj:K.In h)(ok:LA P w K H h)(e:Rd H a (.dT kvs)):kvs.length<=sizeLine/\(a == sysModules)=false /\
  ∃xs,KT K H kvs xs/\h.DictOfH (tupleKind (d7 P w)) a xs:=let ⟨z,y,xs,r,q⟩:=Ac Sj ok e;⟨z,y,xs,r,q.of⟩
end
def IE (K:W.Frag)(H:Hp)(a:Addr)(y:V)(r:Option V):Prop:=
 (∃kvs k,Rd H a (.dK kvs)/\y=kV k/\r=jz kvs k)\/∃kvs k b,Rd H a (.dT kvs)/\y=.ref b/\Kk K H b k/\r=jz kvs k
def OQ (K:W.Frag)(H:Hp)(a:Addr)(y v:V)(H':Hp):Prop:=
 (∃kvs k,H a=some (.dK kvs)/\y=kV k/\kvs.length < sizeLine/\H'=upd H a (.dK (putK kvs k v))) \/
 ∃kvs k b,H a=some (.dT kvs)/\y=.ref b/\Kk K H b k/\kvs.length < sizeLine/\H'=upd H a (.dT (putK kvs k v))
theorem IE.k {K:W.Frag}{H:Hp}{a:Addr}{kvs:List (Key×V)}{k:Key}(e:H a=some (.dK kvs)):IE K H a (kV k) (jz kvs k):=.inl ⟨kvs,k,.inl e,rfl,rfl⟩
theorem IE.t {K:W.Frag}{H:Hp}{a b:Addr}{kvs:List (List Key×V)}{k:List Key}(e:H a=some (.dT kvs))(eb:Kk K H b k):IE K H a (.ref b) (jz kvs k):=.inr ⟨kvs,k,b,.inl e,rfl,eb,rfl⟩
theorem OQ.k {K:W.Frag}{H:Hp}{a:Addr}{kvs:List (Key×V)}{k:Key}{v:V}(e:H a=some (.dK kvs))(hl:kvs.length < sizeLine):OQ K H a (kV k) v (upd H a (.dK (putK kvs k v))):=.inl ⟨kvs,k,e,rfl,hl,rfl⟩
theorem OQ.t {K:W.Frag}{H:Hp}{a b:Addr}{kvs:List (List Key×V)}{k:List Key}{v:V}(e:H a=some (.dT kvs))(eb:Kk K H b k)(hl:kvs.length < sizeLine):
  OQ K H a (.ref b) v (upd H a (.dT (putK kvs k v))):=.inr ⟨kvs,k,b,e,rfl,eb,hl,rfl⟩
section
variable {X:Cx}{Fs:oy}{σ:St}{H:Hp}{s:Shared}{a:Addr}{y v:V}{u r:Value}{o:Option V}{A:Around}{E:ox}
theorem Inv.big (I:Inv X Fs σ H s):sysModules < s.heap.objs.size:=by
 have h:mainGlobals < s.heap.objs.size:=(I.mod.glob.keeps I.bk).lt
 exact Nat.lt_trans (by decide) h
theorem Lh {Q:ox}(hu:A.units+1 < cLine)(I:Inv X Fs σ H s)(g:IE X.K H a y (some v))(ry:RelV y u)(h:∀w' s',Inv X Fs σ H s'->RelV v w'->Q w' s'):
  wpAny (model X.prog X.w) A (getItem (.ref a) u) Q E s:=by
 rcases g with ⟨kvs,k,e,ey,l⟩ | ⟨kvs,k,b,e,ey,eb,l⟩
 ·subst ey
  obtain⟨z,hd,vs,rel,dd⟩:=rQ I.FL e
  obtain⟨w',hw,SD⟩:=Kj.some_of (v:=v) (o:=valueAt vs k) (by rw[l];exact rel.val k)
  exact wpAny_getItem_of (wU ry) dd.mapOf hw (h w' _ (I.tok _) SD)
 ·subst ey
  cases (show u=Value.ref b from ry)
  obtain⟨z,hd,xs,rel,dd⟩:=uA I.IP I.FL e
  obtain⟨w',hw,SD⟩:=Kj.some_of (v:=v) (o:=(atKey xs k).map (·.2)) (by rw[l];exact rel.val k)
  obtain⟨p,hp,O0⟩:=db.mp hw
  refine wpAny_getItem_heap (f7 hu) (oA I.IP I.FL eb) dd hp ?_
  rw[O0]
  exact h w' _ (I.tok _) SD
theorem YD {Q:ox}(hu:A.units+1 < cLine)(I:Inv X Fs σ H s)(g:IE X.K H a y o)(ry:RelV y u)(h:∀s',Inv X Fs σ H s'->Q (.bool o.isSome) s'):
  wpAny (model X.prog X.w) A (compareOp .In u (.ref a)) Q E s:=by
 rcases g with ⟨kvs,k,e,ey,l⟩ | ⟨kvs,k,b,e,ey,eb,l⟩
 ·subst ey
  obtain⟨z,hd,vs,rel,dd⟩:=rQ I.FL e
  refine wpAny_in_of (wU ry) hd dd.mapOf ?_
  rw[← (rel.val k).JA,← l]
  exact h _ (I.tok _)
 ·subst ey
  cases (show u=Value.ref b from ry)
  obtain⟨z,hd,xs,rel,dd⟩:=uA I.IP I.FL e
  refine wpAny_in_heap (f7 hu) (oA I.IP I.FL eb) hd dd ?_
  have q:=(rel.val k).JA
  rw[lb] at q
  rw[← q,← l]
  exact h _ (I.tok _)
theorem Ra {Q:ox}(hu:A.units+1 < cLine)(I:Inv X Fs σ H s)(g:IE X.K H a y o)(ry:RelV y u)(h:∀s',Inv X Fs σ H s'->Q (.bool (!o.isSome)) s'):
  wpAny (model X.prog X.w) A (compareOp .NotIn u (.ref a)) Q E s:=by
 rcases g with ⟨kvs,k,e,ey,l⟩ | ⟨kvs,k,b,e,ey,eb,l⟩
 ·subst ey
  obtain⟨z,hd,vs,rel,dd⟩:=rQ I.FL e
  refine wpAny_notIn_of (wU ry) hd dd.mapOf ?_
  rw[← (rel.val k).JA,← l]
  exact h _ (I.tok _)
 ·subst ey
  cases (show u=Value.ref b from ry)
  obtain⟨z,hd,xs,rel,dd⟩:=uA I.IP I.FL e
  refine wpAny_notIn_heap (f7 hu) (oA I.IP I.FL eb) hd dd ?_
  have q:=(rel.val k).JA
  rw[lb] at q
  rw[← q,← l]
  exact h _ (I.tok _)
theorem Ad {h':Heap}{t':Nat}{ob:HO}(I:Inv X Fs σ H s)(mu:Mut (H a))(hs:Heap.SameBut a s.heap h')(he:∃q,h'.get? a=some q)(new:FX X.prog X.w X.K (upd H a ob) h' a ob):
  Inv X Fs σ (upd H a ob) { s with heap:=h',toks:=t' }:=
 I.write (x:=a) (e:=a) mu (.inl rfl) (λb q hb z=>(hs.2 b hb).trans z) he new
theorem Uu {K:W.Frag}{P:Program}{w:World}{H':Hp}{h':Heap}{kvs:List (Key×V)}{vs:List (Key×Value)}(z:kvs.length<=sizeLine)(hd:(a == sysModules)=false)(rel:KV kvs vs)(dd:h'.DictOf (jm P w) a vs):
  FX P w K H' h' a (.dK kvs):=⟨z,hd,vs,rel,dd⟩
theorem Li {H':Hp}{Q:Unit->Shared->Prop}(hu:A.units+1 < cLine)(I:Inv X Fs σ H s)(g:OQ X.K H a y v H')(ry:RelV y u)(rv:RelV v r)(h:∀s',Inv X Fs σ H' s'->Q () s'):
  wpAny (model X.prog X.w) A (setItem (.ref a) u r) Q E s:=by
 rcases g with ⟨kvs,k,e,ey,l,eH⟩ | ⟨kvs,k,b,e,ey,eb,l,eH⟩
 ·subst ey eH
  obtain⟨z,hd,vs,rel,dd⟩:=Qx I.FL e
  have hz:vs.length<=sizeLine:=by rw[← rel.length];exact z
  have hl:(putK kvs k v).length<=sizeLine:=by have:=xT kvs k v;omega
  refine wpAny_setItem_pairs (hsz:=hz) (wU ry) dd λh' dd' hs=>h _ ?_
  have he:∃q,h'.get? a=some q:=let ⟨q,_,_,hq,_⟩:=dd';⟨q,hq⟩
  exact Ad I (by rw[e];exact fg) hs he (Uu hl hd (rel.put k rv) dd')
 ·subst ey eH
  cases (show u=Value.ref b from ry)
  obtain⟨z,hd,xs,rel,dd⟩:=Ac I.IP I.FL (.inl e)
  have hz:xs.length<=sizeLine:=by rw[← iq rel];exact z
  have hl:(putK kvs k v).length<=sizeLine:=by have:=xT kvs k v;omega
  refine Nr (f7 hu) (oA I.IP I.FL eb) dd hz λh' dd' hs=>h _ ?_
  obtain⟨q,es,hq,h2,h3,h4,_,h5⟩:=dd'
  refine Ad I (by rw[e];exact fg) hs ⟨q,hq⟩ ⟨hl,hd,_,(rel.put k eb rv).keeps λc ys ec=>?_,q,es,_,hq,h2,h3,h4,h5,rfl⟩
  rw[aQ (Qn ec e (λz=>nomatch z))]
  exact ec
end
section
variable {X:Cx}{Fs:oy}{σ:St}{H:Hp}{s:Shared}{a:Addr}{kvs:List (Key×V)}{k:Key}{u:Value}{A:Around}{E:ox}
theorem Xu {Q:ox}(I:Inv X Fs σ H s)(e:Rd H a (.dK kvs))(h:∀t s',Inv X Fs σ H s'->Q (.int kvs.length t) s'):wpAny (model X.prog X.w) A (call (.builtin "len") [.ref a]) Q E s:=by
 obtain⟨z,hd,vs,rel,dd⟩:=rQ I.FL e
 refine call_len_dict hd dd (by rw[← rel.length];rw[sizeLine_eq] at z;omega) ?_
 rw[← rel.length]
 exact h _ _ (I.tok _)
end
def N8 (i:Expr):Prop:=∀ov iv,subscripted i false ov iv=operate [ov,iv] (getItem ov iv)
theorem Rb {prog:Program}{w:World}{A:Around}{E:ox}{s:Shared}{env:Env}{value slice:Expr}{pos:Pos}{T id:String}{Q:ox}
  (hl:typeLookup (.type T) "__getitem__" = pure (some (.builtin id))) (hs:N8 slice)
  (h:wpAny (model prog w) A (eval value env) (λo s₁=>wpAny (model prog w) A (eval slice env) (λi s₂=>s₂.TypeIs o T/\wpAny (model prog w) A (getItem o i) Q E s₂) E s₁) E s):
  wpAny (model prog w) A (eval (.Subscript value slice pos) env) Q E s:=by
 refine Subscript_ (ff h (λo s₁ h₁=>ff h₁ (λi s₂ h₂=>?_) λ_ _ x=>x) λ_ _ x=>x)
 obtain⟨hT,h₂⟩:=h₂
 unfold subscriptTail
 refine ab ?_
 rw[getitemInPython_of_ne hT.not_modules]
 refine ab (ix hT hl ?_)
 have fin:wpAny (model prog w) A (subscripted slice false o i) (λr s₃=>wpAny (model prog w) A (letTemporaryGo value o r >>= λ_=>pure r) Q E s₃) E s₂:=by
  rw[hs o i]
  exact wpAny_operating (ff h₂ (λr s₃ h₃=>ab (wpAny_letTemporaryGo (ay h₃))) λ_ _ x=>x)
 first
  | exact ay (ab fin)
  | exact ab (ay (ab fin))
  | exact ab fin
theorem Hm {X:Cx}{Fs:oy}{σ:St}{H:Hp}{s:Shared}{a:Addr}{y:V}{o:Option V}(I:Inv X Fs σ H s)(g:IE X.K H a y o):s.TypeIs (.ref a) "dict" := by
 rcases g with ⟨kvs,k,e,_,_⟩ | ⟨kvs,k,b,e,_,_,_⟩
 ·obtain⟨_,_,vs,_,dd⟩:=rQ I.FL e
  exact dd.typeIs
 ·obtain⟨_,_,xs,_,dd⟩:=uA I.IP I.FL e
  exact dd.typeIs
def Xv (K:W.Frag)(td ty:TE):TE:=fun σ H Q=>td σ H λx H1=>ty σ H1 λy H2=>∃a v,x=.ref a/\IE K H2 a y (some v)/\Q v H2
def Xw (K:W.Frag)(td ty tv:TE):TS:=λD σ H=>tv σ H λv H1=>td σ H1 λx H2=>ty σ H2 λy H3=>∃a H4,x=.ref a/\OQ K H3 a y v H4/\D.nx σ H4
section
variable {X:Cx}{o i e value:Expr}{pos pos' tpos:Pos}{td ty tv:TE}
theorem Rc (hu:X.A.units+1 < cLine)(ho:PE X o td)(hi:PE X i ty)(hs:N8 i):PE X (.Subscript o i pos) (Xv X.K td ty):=by
 intro Fs s σ H Q I h
 refine Rb PySem.F.slot_dict_getitem.lookup hs (F2 (ho Fs s σ H _ I h) λu s1 ⟨x,H1,I1,rx,q1⟩=>F2 (hi Fs s1 σ H1 _ I1 q1) ?_)
 rintro iv s2 ⟨y,H2,I2,ry,a,v,ex,g,q2⟩
 subst ex
 obtain rfl:u=Value.ref a:=rx
 exact⟨Hm I2 g,Lh hu I2 g ry λw' s3 I3 SD=>⟨v,H2,I3,SD,q2⟩⟩
theorem Rf (hu:X.A.units+1 < cLine)(ho:PE X o td)(hi:PE X i ty)(hv:PE X value tv)(hs:swapsWith value (some (.Subscript o i pos')) pos.line X.env=pure false):
  PS X (.Assign [.Subscript o i pos'] value pos) (Xw X.K td ty tv):=by
 intro Fs s σ H D I h
 refine wpAny_Assign_Subscript (F2 (hv Fs s σ H _ I h) λr s1 ⟨v,H1,I1,rv,q1⟩=>F2 (ho Fs s1 σ H1 _ I1 q1) λu s2 ⟨x,H2,I2,rx,q2⟩=>F2 (hi Fs s2 σ H2 _ I2 q2) ?_) hs
 rintro iv s3 ⟨y,H3,I3,ry,a,H4,ex,g,q3⟩
 subst ex
 obtain rfl:u=Value.ref a:=rx
 exact Li hu I3 g ry rv λs4 I4=>⟨σ,H4,I4,q3⟩
end
theorem N_ {P:Program}{w:World}{K:W.Frag}{H:Hp}(h:Heap)(hb:sysModules < h.objs.size):FX P w K H (h.push { cls:=.type "dict",data:=.dict #[] }) h.objs.size (.dK []):=
 ⟨da _,de.mpr (eS (bP hb)),[],.nil,Heap.DictOf.new h⟩
theorem Et {P:Program}{w:World}{K:W.Frag}{H:Hp}(h:Heap)(hb:sysModules < h.objs.size):FX P w K H (h.push { cls:=.type "dict",data:=.dict #[] }) h.objs.size (.dT []):=
 ⟨da _,de.mpr (eS (bP hb)),[],.nil,_,#[],0,ba _ rfl,⟨rfl,rfl,rfl⟩,rfl,rfl,List.nodup_nil,rfl⟩
def Uv:TE:=λ_ H Q=>∀p,H p=none->Q (.ref p) (upd H p (.dK []))
def Uw:TE:=λ_ H Q=>∀p,H p=none->Q (.ref p) (upd H p (.dT []))
section
variable {X:Cx}{pos:Pos}
theorem Oa:PE X (.Dict [] [] pos) Uv:=λFs s σ H Q I h=>
 wpAny_Dict_empty ⟨.ref s.heap.objs.size,_,I.laid (a:=s.heap.objs.size) (o:=.dK []) (t':=s.toks) (λ_ _ q=>am _ q) (aw _) (N_ s.heap I.big),rfl,h _ (I.FL.fresh (aw _))⟩
theorem Ob:PE X (.Dict [] [] pos) Uw:=λFs s σ H Q I h=>
 wpAny_Dict_empty ⟨.ref s.heap.objs.size,_,I.laid (a:=s.heap.objs.size) (o:=.dT []) (t':=s.toks) (λ_ _ q=>am _ q) (aw _) (Et s.heap I.big),rfl,h _ (I.FL.fresh (aw _))⟩
end
structure M1 (X:Cx)(o:Expr)(m:Str)(apos:Pos)(e:Expr)(FO:Pos):Prop where
 base:attributeBase o m X.env (eval o X.env)=eval o X.env
 few:((backTo FO (starEach [e] X.env)).all (λx=>!x.1)&&(backToKw FO (keywordEach [] X.env)).all (λx=>x.1.isSome)
  && decide (([e]:oI).length+([]:List Keyword).length+(if ([]:List Keyword).isEmpty then 0 else 1) < 30))=true
 line:(apos.endLine == FO.line)=true
 trees:backTo FO (starEach [e] X.env)=[(false,eval e X.env)]
structure M2 (X:Cx)(o:Expr)(m:Str)(apos:Pos)(e f:Expr)(FO:Pos):Prop where
 base:attributeBase o m X.env (eval o X.env)=eval o X.env
 few:((backTo FO (starEach [e,f] X.env)).all (λx=>!x.1)&&(backToKw FO (keywordEach [] X.env)).all (λx=>x.1.isSome)
  && decide (([e,f]:oI).length+([]:List Keyword).length+(if ([]:List Keyword).isEmpty then 0 else 1) < 30))=true
 line:(apos.endLine == FO.line)=true
 trees:backTo FO (starEach [e,f] X.env)=[(false,eval e X.env),(false,eval f X.env)]
def IsD (H:Hp)(a:Addr):Prop:=(∃kvs,Rd H a (.dK kvs))\/∃kvs,Rd H a (.dT kvs)
theorem Lj {X:Cx}{Fs:oy}{σ:St}{H:Hp}{s:Shared}{a:Addr}(I:Inv X Fs σ H s)(d:IsD H a):
  s.TypeIs (.ref a) "dict" /\ (∀b,Value.ref a=.ref b->∃ob,s.heap.get? b=some ob/\ob.dict=none)/\(a == sysModules)=false:=by
 rcases d with ⟨kvs,e⟩ | ⟨kvs,e⟩
 ·obtain⟨_,hd,vs,_,dd⟩:=rQ I.FL e
  refine⟨dd.typeIs,λb q=>?_,hd⟩
  cases q
  obtain⟨ob,_,_,h1,h2,_⟩:=dd
  exact⟨ob,h1,h2.2.1⟩
 ·obtain⟨_,hd,xs,_,dd⟩:=uA I.IP I.FL e
  refine⟨dd.typeIs,λb q=>?_,hd⟩
  cases q
  obtain⟨ob,_,_,h1,h2,_⟩:=dd
  exact⟨ob,h1,h2.2.1⟩
section
variable {X:Cx}{Fs:oy}{σ:St}{H:Hp}{s:Shared}{a:Addr}{y d:V}{u r:Value}{o:Option V}{A:Around}{E:ox}
theorem Ux {Q:ox}(hu:A.units+1 < cLine)(I:Inv X Fs σ H s)(g:IE X.K H a y o)(ry:RelV y u)(rd:RelV d r)(h:∀w' s',Inv X Fs σ H s'->RelV (o.getD d) w'->Q w' s'):
  wpAny (model X.prog X.w) A (call (.builtin "dict.get") [.ref a,u,r]) Q E s:=by
 rcases g with ⟨kvs,k,e,ey,l⟩ | ⟨kvs,k,b,e,ey,eb,l⟩
 ·subst ey
  obtain⟨z,hd,vs,rel,dd⟩:=rQ I.FL e
  refine call_meetsIn gc dd.typeIs i7 (iP _ _ _) (meets_dict_get_default (jm X.prog X.w) a (wU ry) hd r) ⟨_,dd.mapOf,h _ _ (I.tok _) ?_⟩
  rw[l]
  exact(rel.val k).getD rd
 ·subst ey
  cases (show u=Value.ref b from ry)
  obtain⟨z,hd,xs,rel,dd⟩:=uA I.IP I.FL e
  refine call_meetsIn gc dd.typeIs i7 (iP _ _ _) (lS (tupleKind (d7 X.prog X.w)) a b hd r) ⟨f7 hu,k,xs,oA I.IP I.FL eb,dd,h _ _ (I.tok _) ?_⟩
  rw[l]
  exact(rel.val k).getD rd
end
def Uy (K:W.Frag)(td ty tx:TE):TE:=fun σ H Q=>td σ H λx H1=>∃a,x=.ref a/\IsD H1 a/\ty σ H1 λy H2=>tx σ H2 λz H3=>∃o,IE K H3 a y o/\Q (o.getD z) H3
section
variable {X:Cx}{o e f:Expr}{apos FO:Pos}{td ty tx:TE}
theorem Oc (hu:X.A.units+1 < cLine)(ho:PE X o td)(he:PE X e ty)(hf:PE X f tx)(m:M2 X o "get" apos e f FO):PE X (.Call (.Attribute o "get" apos) [e,f] [] FO) (Uy X.K td ty tx):=by
 intro Fs s σ H Q I h
 refine wpAny_Call_method m.base m.few m.line lT gc mN (F2 (ho Fs s σ H _ I h) ?_)
 rintro u s1 ⟨x,H1,I1,rx,a,ex,d,q1⟩
 subst ex
 obtain rfl:u=Value.ref a:=rx
 obtain⟨t1,t2,_⟩:=Lj I1 d
 refine⟨t1,t2,?_⟩
 rw[m.trees]
 refine i8 rfl (kf (d0 (F2 (he Fs s1 σ H1 _ I1 q1) λiv s2 ⟨y,H2,I2,ry,q2⟩=>
  d0 (F2 (hf Fs s2 σ H2 _ I2 q2) λfv s3 ⟨z,H3,I3,rz,ov,g,q3⟩=>fm ?_))))
 exact Ux hu I3 g ry rz λw' s4 I4 SD=>⟨_,H3,I4,SD,q3⟩
end
end Lake.L2
namespace Lake.HT
open PySem PyProof.Rows
noncomputable def lexLt:List Int->List Int->Bool
 | [],[]=>false
 | [],_::_=>true
 | _::_,[]=>false
 | x::xs,y::ys=>if x=y then lexLt xs ys else decide (x < y)
section
variable {prog:Program}{w:World}{A:Around}{E:ox}{s:Shared}
noncomputable def IF (n d:Nat):Option Int->Nat
 | none=>d
 | some v=>if v < 0 then (v+(n:Int)).toNat else min v.toNat n
theorem JE (n d:Nat):IF n d none=d:=rfl
theorem IG (n d k:Nat):IF n d (some (k:Int))=min k n:=by
 show (if (k:Int) < 0 then ((k:Int)+(n:Int)).toNat else min (k:Int).toNat n)=min k n
 rw[ap (by omega),g7]
theorem sIx_le (n d:Nat)(hd:d<=n)(o:Option Int):IF n d o<=n:=by
 cases o with
 | none=>exact hd
 | some v=>
  show (if v < 0 then (v+(n:Int)).toNat else min v.toNat n)<=n
  by_cases hv:v < 0
  ·rw[bg hv];omega
  ·rw[ap hv];exact l0 _ _
end
end Lake.HT
namespace Lake.L2
open PySem PySem.Spec PyProof.Rows
abbrev TO:=St->Hp->(Option Int->Hp->Prop)->Prop
def PO (X:Cx)(e:Option Expr)(t:TO):Prop:=
 ∀(Fs:oy) (s:Shared) (σ:St) (H:Hp) (Q:Option Int->Hp->Prop),Inv X Fs σ H s->t σ H Q->
  wpAny (model X.prog X.w) X.A (evalPart e X.env) (λu s'=>∃o H',Inv X Fs σ H' s'/\IsPart u o/\Q o H') X.xe s
def Rg:TO:=λ_ H Q=>Q none H
def Xx (t:TE):TO:=fun σ H Q=>t σ H λx H1=>∃i,x=.int i/\Q (some i) H1
theorem intsAre_of {ns:oQ}:∀{us:oB},Vals (ns.map V.int) us->IntsAre us ns:=by
 induction ns with
 | nil=>intro us r;rw[dP] at r;cases r;exact .nil
 | cons n ns ih=>
  intro us r
  rw[ag] at r
  cases r with
  | cons r1 r2=>
   obtain⟨t,e⟩:=r1
   subst e
   exact .cons n t (ih r2)
section
variable {X:Cx}{e:Expr}{te:TE}{lo hi:Option Expr}{tl th:TO}{pos p2:Pos}
theorem Rh:PO X none Rg:=by
 intro Fs s σ H Q I h
 rw[evalPart_none]
 exact ay ⟨none,H,I,.none,h⟩
theorem Ri (h:PE X e te):PO X (some e) (Xx te):=by
 intro Fs s σ H Q I hw
 rw[evalPart_some]
 refine F2 (h Fs s σ H _ I hw) ?_
 rintro u s1 ⟨x,H1,I1,r1,q1⟩
 obtain⟨i,rfl,q⟩:=q1
 obtain⟨t,rfl⟩:=r1
 exact⟨some i,H1,I1,.int i t,q⟩
def SlR (X:Cx)(r:V->Option Int->Option Int->Hp->VK->Prop):Prop:=
 ∀(Fs:oy) (s:Shared) (σ:St) (H:Hp) (x:V) (v vl vu:Value) (lo hi:Option Int) (sl:Addr) (Q:VK),Inv X Fs σ H s->RelV x v->s.heap.IsSliceOf sl vl vu .none->IsPart vl lo->IsPart vu hi->r x lo hi H Q->
  ∃T id,typeLookup (.type T) "__getitem__" = pure (some (.builtin id))/\s.TypeIs v T/\wpAny (model X.prog X.w) X.A (getItem v (.ref sl)) (EP X Fs σ Q) X.xe s
theorem SlR.or {r r':V->Option Int->Option Int->Hp->VK->Prop}(h:SlR X r)(h':SlR X r'):SlR X (λx lo hi H Q=>r x lo hi H Q\/r' x lo hi H Q):=by
 intro Fs s σ H x v vl vu lo hi sl Q I rx hs pl pu q
 rcases q with q | q
 ·exact h Fs s σ H x v vl vu lo hi sl Q I rx hs pl pu q
 ·exact h' Fs s σ H x v vl vu lo hi sl Q I rx hs pl pu q
def tSl (r:V->Option Int->Option Int->Hp->VK->Prop)(te:TE)(tl th:TO):TE:=fun σ H Q=>te σ H λx H1=>tl σ H1 λl H2=>th σ H2 λu H3=>r x l u H3 Q
theorem Od {r:V->Option Int->Option Int->Hp->VK->Prop}(hr:SlR X r)(he:PE X e te)(hl:PO X lo tl)(hu:PO X hi th):PE X (.Subscript e (.Slice lo hi none p2) pos) (tSl r te tl th):=by
 intro Fs s σ H Q I h
 refine Subscript_ (F2 (he Fs s σ H _ I h) ?_)
 rintro v s1 ⟨x,H1,I1,r1,q1⟩
 refine wpAny_Slice (F2 (hl Fs s1 σ H1 _ I1 q1) λvl s2 ⟨l,H2,I2,pl,q2⟩=>F2 (hu Fs s2 σ H2 _ I2 q2) ?_)
 rintro vu s3 ⟨u,H3,I3,pu,q3⟩
 rw[evalPart_none]
 refine ay ?_
 have I4:Inv X Fs σ H3 { s3 with heap:=s3.heap.push { cls:=.type "slice",data:=.fields #[vl,vu,.none] } }:=I3.kept (t':=s3.toks) λb ob q=>am _ q
 obtain⟨T,id,hT,ht,hg⟩:=hr Fs { s3 with heap:=s3.heap.push { cls:=.type "slice",data:=.fields #[vl,vu,.none] } } σ H3 x v vl vu l u s3.heap.objs.size Q I4 r1 (Heap.IsSliceOf.new ..) pl pu q3
 show wpAny (model X.prog X.w) X.A (subscriptTail e (.Slice lo hi none p2) v (.ref s3.heap.objs.size)) (EP X Fs σ Q) X.xe { s3 with heap:=s3.heap.push { cls:=.type "slice",data:=.fields #[vl,vu,.none] } }
 exact tail_any (ops:=[.ref s3.heap.objs.size,v]) ht hT hg (by with_unfolding_all rfl)
noncomputable def Ae (xs:List V)(lo hi:Option Int):List V:=(xs.drop (HT.IF xs.length 0 lo)).take (HT.IF xs.length xs.length hi - HT.IF xs.length 0 lo)
theorem Hn (xs:List V)(lo hi:Option Int):(Ae xs lo hi).length<=xs.length:=by
 unfold Ae
 rw[lP,List.length_drop]
 omega
end
noncomputable def Nn (n:Nat)(i:Int):Option Nat:=if 0<=i then (if i < n then some i.toNat else none) else if -(n:Int)<=i then some (i+n).toNat else none
noncomputable def F0 {α:Type}(xs:List α)(i:Int):Option α:=(Nn xs.length i).bind λj=>xs[j]?
theorem HR {n:Nat}{i:Int}{j:Nat}(h:Nn n i=some j):seqIndex? i n=some j/\j < n/\-(n:Int)<=i/\i < n:=by
 unfold Nn at h
 by_cases h0:0<=i
 ·rw[bg h0] at h
  by_cases h1:i < n
  ·rw[bg h1] at h
   have e:i.toNat=j:=bi h
   exact⟨by rw[seqIndex_of h0 h1,e],by omega,by omega,h1⟩
  ·rw[ap h1] at h;cases h
 ·rw[ap h0] at h
  by_cases h1:-(n:Int)<=i
  ·rw[bg h1] at h
   have e:(i+n).toNat=j:=bi h
   exact⟨by rw[seqIndex_neg (by omega) h1,e],by omega,h1,by omega⟩
  ·rw[ap h1] at h;cases h
theorem Af {α:Type}{xs:List α}{i:Int}{v:α}(h:F0 xs i=some v):∃j,seqIndex? i xs.length=some j/\xs[j]?=some v/\j < xs.length/\-(xs.length:Int)<=i/\i < xs.length:=by
 unfold F0 at h
 cases e:Nn xs.length i with
 | none=>rw[e] at h;cases h
 | some j=>
  rw[e] at h
  obtain⟨h1,h2,h3,h4⟩:=HR e
  exact⟨j,h1,h,h2,h3,h4⟩
theorem gA {α:Type}{xs:List α}{j:Nat}{v:α}(h:xs[j]?=some v):F0 xs (j:Int)=some v:=by
 have hj:j < xs.length:=(av.mp h).1
 have e:Nn xs.length (j:Int)=some j:=by
  unfold Nn
  rw[bg (by omega),bg (by omega)];simp
 unfold F0;rw[e];exact h
def Ag (b:Expr):Prop:=∀o i,subscripted b false o i=operate [o,i] (getItem o i)
def YR (X:Cx)(r:R2):Prop:=
 ∀(value slice:Expr) (Fs:oy) (s:Shared) (σ:St) (H:Hp) (x y:V) (v u:Value) (Q:VK),Inv X Fs σ H s->RelV x v->RelV y u->r x y H Q->
  subscripted slice false v u=operate [v,u] (getItem v u)->wpAny (model X.prog X.w) X.A (subscriptTail value slice v u) (EP X Fs σ Q) X.xe s
def MtR (X:Cx)(id:String)(r:V->List V->Hp->VK->Prop):Prop:=
 ∀(Fs:oy) (s:Shared) (σ:St) (H:Hp) (x:V) (xs:List V) (v:Value) (us:oB) (Q:VK),Inv X Fs σ H s->RelV x v->Vals xs us->r x xs H Q->
  wpAny (model X.prog X.w) X.A (call (.builtin id) (v::us)) (EP X Fs σ Q) X.xe s
section
variable {X:Cx}{a b:Expr}{ta tb:TE}{pos:Pos}
theorem YR.or {r r':R2}(h:YR X r)(h':YR X r'):YR X (λx y H Q=>r x y H Q\/r' x y H Q):=by
 intro value slice Fs s σ H x y v u Q I rx ry q hs
 rcases q with q | q
 ·exact h value slice Fs s σ H x y v u Q I rx ry q hs
 ·exact h' value slice Fs s σ H x y v u Q I rx ry q hs
theorem Qy {r:R2}(hr:YR X r)(ha:PE X a ta)(hb:PE X b tb)(hs:Ag b):PE X (.Subscript a b pos) (tOp r ta tb):=by
 intro Fs s σ H Q I h
 exact Subscript_ (NK ha hb I h λv u s2 x y H2 I2 rx ry q=>hr a b Fs s2 σ H2 x y v u Q I2 rx ry q (hs _ _))
def Oe (K:W.Frag):R2:=λx y H Q=>∃p xs i v,x=.ref p/\y=.int i/\F7 K H p xs/\F0 xs i=some v/\Q v H
def Uz (K:W.Frag):R2:=λx y H Q=>∃p xs i v,x=.ref p/\y=.int i/\LD K H p xs/\F0 xs i=some v/\Q v H
def UG:R2:=λx y H Q=>∃z i c,x=.str z/\y=.int i/\z.length<=sizeLine/\F0 z.cps.toList i=some c/\Q (.str ⟨#[c]⟩) H
theorem PZ:YR X (Oe X.K):=by
 intro value slice Fs s σ H x y v u Q I rx ry h hs
 obtain⟨p,xs,i,z,rfl,rfl,hq,he,q⟩:=h
 cases rx
 obtain⟨t,rfl⟩:=ry
 obtain⟨FD,r,pl,hz⟩:=I.list hq
 obtain⟨j,h1,h2,h3,h4,h5⟩:=Af he
 obtain⟨w,ew,SD⟩:=r.get h2
 have hl:=r.length
 have hn:=tU
 have fin:EP X Fs σ Q w s:=⟨z,H,I,SD,q⟩
 by_cases h0:0<=i
 ·have hj:i.toNat=j:=by
   rw[seqIndex_of h0 h5] at h1
   exact bi h1
  exact item_listR pl.isList h0 (by omega) (by rw[hj];simpa using ew) fin hs
 ·have hj:(i+(FD.toArray.size:Int)).toNat=j:=by
   rw[seqIndex_neg (by omega) h4] at h1
   rw[a7,← hl]
   exact bi h1
  exact subscriptTail_builtinR (x:=w) pl.isList.typeIs slot_list_getitem.lookup
   (wpAny_getItem_list_neg (Q:=λr s'=>r=w/\EP X Fs σ Q r s') pl.isList (by omega) (by rw[a7] <;> omega) (by omega) (by rw[hj];simpa using ew) ⟨rfl,fin⟩) hs
theorem ix_tup:YR X (Uz X.K):=by
 intro value slice Fs s σ H x y v u Q I rx ry h hs
 obtain⟨p,xs,i,z,rfl,rfl,hq,he,q⟩:=h
 cases rx
 obtain⟨t,rfl⟩:=ry
 obtain⟨FD,r,pl,hz⟩:=I.tuple hq
 obtain⟨j,h1,h2,h3,h4,h5⟩:=Af he
 obtain⟨w,ew,SD⟩:=r.get h2
 have hl:=r.length
 have hn:=tU
 have fin:EP X Fs σ Q w s:=⟨z,H,I,SD,q⟩
 exact subscriptTail_builtinR (x:=w) pl.typeIs slot_tuple_getitem.lookup
  (getItem_tuple (j:=j) (Q:=λr s'=>r=w/\EP X Fs σ Q r s') pl (by omega) (by omega) (by rw[a7,← hl];exact h1) (by simpa using ew) ⟨rfl,fin⟩) hs
theorem UJ:YR X UG:=by
 intro value slice Fs s σ H x y v u Q I rx ry h hs
 obtain⟨z,i,c,rfl,rfl,hz,he,q⟩:=h
 obtain⟨t,rfl⟩:=rx
 obtain⟨t',rfl⟩:=ry
 obtain⟨j,h1,h2,h3,h4,h5⟩:=Af he
 have hl:z.cps.toList.length=z.length:=by simp[Str.length]
 rw[hl] at h1 h4 h5
 have hn:=tU
 exact tail_any (kT s z t) slot_str_getitem.lookup (getItem_str (c:=c) (by
  have e1:decide (i < -(2 ^ 63:Int))=false:=a5 (by omega)
  have e2:decide (i ≥ 2 ^ 63)=false:=a5 (by omega)
  rw[e1,e2,lm]) (by rw[h1];simpa using h2) ⟨.str ⟨#[c]⟩,H,I.tok _,⟨_,rfl⟩,q⟩) hs
def rIx (K:W.Frag):R2:=λx y H Q=>Oe K x y H Q\/Uz K x y H Q\/UG x y H Q
theorem UL:YR X (rIx X.K):=PZ.or (ix_tup.or UJ)
theorem Jo (FD:oB)(n j:Nat)(u:Value):Obj.mapSeq (·.setIfInBounds j u) { cls:=.type "list",data:=.seq FD.toArray n }={ cls:=.type "list",data:=.seq (FD.set j u).toArray n }:=by
 simp[Obj.mapSeq]
theorem Inv.lst {Fs:oy}{σ:St}{H:Hp}{s:Shared}{p:Addr}{xs:List V}(I:Inv X Fs σ H s)(h:H p=some (.lst xs)):
  ∃(FD:oB) (n:Nat),Vals xs FD/\s.heap.get? p=some { cls:=.type "list",data:=.seq FD.toArray n }/\xs.length<=sizeLine:=by
 obtain⟨z,FD,n,r,e⟩:=I.FL p _ h
 exact⟨FD,n,r,e,z⟩
theorem Inv.lstUpd {Fs:oy}{σ:St}{H:Hp}{s:Shared}{p:Addr}{xs ys:List V}{FD its':oB}{n n':Nat}{f:Obj->Obj}(I:Inv X Fs σ H s)(h:H p=some (.lst xs))
  (ho:s.heap.get? p=some { cls:=.type "list",data:=.seq FD.toArray n }) (hf:f { cls:=.type "list",data:=.seq FD.toArray n }={ cls:=.type "list",data:=.seq its'.toArray n' }) (r:Vals ys its') (hz:ys.length<=sizeLine) (t:Nat):
  Inv X Fs σ (upd H p (.lst ys)) { s with heap:=s.heap.update p f,toks:=t }:=by
 have e:(s.heap.update p f).get? p=some { cls:=.type "list",data:=.seq its'.toArray n' }:=by
  rw[cS f ho (by rw[hf] <;> rfl),hf]
 refine I.write (x:=p) (e:=p) (by rw[h];trivial) (.inl rfl) (λb u hb q=>(d6 _ _ (eS hb)).trans q) ⟨_,e⟩ ?_
 exact⟨hz,its',n',r,e⟩
def Xy:V->V->V->Hp->(Hp->Prop)->Prop:=λo i v H Q=>∃p xs k j,o=.ref p/\i=.int k/\H p=some (.lst xs)/\Nn xs.length k=some j/\Q (upd H p (.lst (xs.set j v)))
theorem set_list:T_ X Xy:=by
 intro Fs s σ H o i v ov iv u Q I ro ri rv h
 obtain⟨p,xs,k,j,rfl,rfl,hp,hj,q⟩:=h
 cases ro
 obtain⟨t,rfl⟩:=ri
 obtain⟨FD,n,r,ho,hz⟩:=I.lst hp
 obtain⟨h1,h2,h3,h4⟩:=HR hj
 have hl:=r.length
 have hn:=tU
 have I':Inv X Fs σ (upd H p (.lst (xs.set j v))) { s with heap:=s.heap.update p (Obj.mapSeq (·.setIfInBounds j u)) }:=
  I.lstUpd hp ho (Jo FD n j u) (r.set rv j) (by rw[dn];exact hz) s.toks
 by_cases h0:0<=k
 ·have hk:k.toNat=j:=by
   rw[seqIndex_of h0 h4] at h1
   exact bi h1
  exact W.ki_setAt ho h0 (by omega) (by rw[a7,← hl];exact h4) (by rw[hk];exact⟨_,I',q⟩)
 ·have hk:(k+(FD.toArray.size:Int)).toNat=j:=by
   rw[seqIndex_neg (by omega) h3] at h1
   rw[a7,← hl]
   exact bi h1
  exact W.ki_setBack ho (by omega) (by rw[a7,← hl];exact h3) (by omega) (by rw[hk];exact⟨_,I',q⟩)
theorem Eu (lo hi:Option Int)(n:Nat):(sliceBounds lo hi none n).1=((HT.IF n 0 lo:Nat):Int)/\(sliceBounds lo hi none n).2.1=((HT.IF n n hi:Nat):Int)/\(sliceBounds lo hi none n).2.2=1:=by
 refine⟨?_,?_,rfl⟩
 ·cases lo with
  | none=>simp[sliceBounds,HT.IF]
  | some i=>
   simp only[sliceBounds,HT.IF,Option.getD_none,show (1:Int) > 0 by decide,g9]
   by_cases h:i < 0
   ·simp only[h,g9] <;> omega
   ·simp only[h,gx] <;> omega
 ·cases hi with
  | none=>simp[sliceBounds,HT.IF]
  | some i=>
   simp only[sliceBounds,HT.IF,Option.getD_none,show (1:Int) > 0 by decide,g9]
   by_cases h:i < 0
   ·simp only[h,g9] <;> omega
   ·simp only[h,gx] <;> omega
theorem CV (FD:oB)(lo hi:Option Int):slicePick FD.toArray lo hi none=((FD.drop (HT.IF FD.length 0 lo)).take (HT.IF FD.length FD.length hi - HT.IF FD.length 0 lo)).toArray:=by
 obtain⟨h1,h2,h3⟩:=Eu lo hi FD.toArray.size
 unfold slicePick
 rw[h1,h2,h3]
 simp only[sliceRange_one,pick_run,a7] <;> rfl
def UT (K:W.Frag):V->Option Int->Option Int->Hp->VK->Prop:=λx lo hi H Q=>∃a xs,x=.ref a/\F7 K H a xs/\∀p,H p=none->Q (.ref p) (upd H p (.lst (Ae xs lo hi)))
theorem YU:SlR X (UT X.K):=by
 intro Fs s σ H x v vl vu lo hi sl Q I rx hs pl pu h
 obtain⟨a,xs,rfl,hx,q⟩:=h
 cases rx
 obtain⟨FD,r,ht,hz⟩:=I.list hx
 have hlen:=r.length
 refine⟨"list",_,slot_list_getitem.lookup,ht.isList.typeIs,?_⟩
 refine wpAny_getItem_list_slice ht.isList hs pl pu .none (by simp) ?_ (by rw[a7] <;> omega)
 rw[CV,← hlen]
 refine⟨.ref s.heap.objs.size,_,I.laid (t':=s.toks) (o:=.lst (Ae xs lo hi)) (λb ob q=>am _ q) (aw _) ?_,rfl,q _ (I.FL.fresh (aw _))⟩
 exact⟨cw (Hn xs lo hi) hz,_,0,(r.drop (HT.IF xs.length 0 lo)).take (HT.IF xs.length xs.length hi - HT.IF xs.length 0 lo),ba _ rfl⟩
noncomputable def jM:V->Bool
 | .FG=>true
 | .bl _=>true
 | .int _=>true
 | .str _=>true
 | _=>false
noncomputable def YV:V->V->Bool
 | .FG,.FG=>true
 | .bl a,.bl b=>a == b
 | .bl a,.int b=>(if a then 1 else 0) == b
 | .int a,.bl b=>a == (if b then 1 else 0)
 | .int a,.int b=>a == b
 | .str a,.str b=>a == b
 | _,_=>false
theorem UV {A:Around}{s:Shared}{y x:V}{u v:Value}(ry:RelV y u)(rx:RelV x v)(fy:jM y=true)(fx:jM x=true):SeqAt.EqAt A s u v (YV y x):=by
 cases y with
 | FG=>
  cases ry
  cases x with
  | FG=>cases rx;exact SeqAt.EqAt.same _
  | bl b=>cases rx;exact SeqAt.EqAt.none_bool b
  | int b=>obtain⟨t,rfl⟩:=rx;exact SeqAt.EqAt.none_int b t
  | str b=>obtain⟨t,rfl⟩:=rx;exact SeqAt.EqAt.none_str b t
  | _=>exact absurd (show false=true from fx) aT
 | bl a=>
  cases ry
  cases x with
  | FG=>cases rx;exact SeqAt.EqAt.bool_none a
  | bl b=>cases rx;exact SeqAt.EqAt.bool_bool a b
  | int b=>obtain⟨t,rfl⟩:=rx;exact SeqAt.EqAt.bool_int a b t
  | str b=>obtain⟨t,rfl⟩:=rx;exact SeqAt.EqAt.bool_str a b t
  | _=>exact absurd (show false=true from fx) aT
 | int a=>
  obtain⟨t',rfl⟩:=ry
  cases x with
  | FG=>cases rx;exact SeqAt.EqAt.int_none a t'
  | bl b=>cases rx;exact SeqAt.EqAt.int_bool a t' b
  | int b=>obtain⟨t,rfl⟩:=rx;exact SeqAt.EqAt.int_int a t' b t
  | str b=>obtain⟨t,rfl⟩:=rx;exact kM a t' b t
  | _=>exact absurd (show false=true from fx) aT
 | str a=>
  obtain⟨t',rfl⟩:=ry
  cases x with
  | FG=>cases rx;exact SeqAt.EqAt.str_none a t'
  | bl b=>cases rx;exact SeqAt.EqAt.str_bool a t' b
  | int b=>obtain⟨t,rfl⟩:=rx;exact kN a t' b t
  | str b=>obtain⟨t,rfl⟩:=rx;exact SeqAt.EqAt.str_str a t' b t
  | _=>exact absurd (show false=true from fx) aT
 | _=>exact absurd (show false=true from fy) aT
noncomputable def Pc (x:V)(u:Value):Bool:=match u with
 | .none=>YV .FG x
 | .bool b=>YV (.bl b) x
 | .int i _=>YV (.int i) x
 | .str z _=>YV (.str z) x
 | _=>false
theorem Lk {x y:V}{u:Value}(r:RelV y u)(f:jM y=true):Pc x u=YV y x:=by
 cases y with
 | FG=>cases r;rfl
 | bl b=>cases r;rfl
 | int i=>obtain⟨t,rfl⟩:=r;rfl
 | str z=>obtain⟨t,rfl⟩:=r;rfl
 | _=>exact absurd (show false=true from f) aT
theorem tW {x:V}:∀{xs:List V}{us:oB},Vals xs us->xs.all jM=true->us.any (Pc x)=xs.any λy=>YV y x
 | _,_,.nil,_=>rfl
 | y::xs,u::us,.cons r t,f=>by
  rw[gX,cm] at f
  rw[cy,cy,Lk r f.1,tW t f.2]
theorem qO {A:Around}{s:Shared}{x:V}{v:Value}(rx:RelV x v)(fx:jM x=true):∀{xs:List V}{us:oB},Vals xs us->xs.all jM=true->∀u∈us,SeqAt.EqAt A s u v (Pc x u)
 | _,_,.nil,_=>λu hu=>by cases hu
 | y::xs,u::us,.cons r t,f=>λu' hu=>by
  rw[gX,cm] at f
  rcases ar.mp hu with rfl | hu
  ·rw[Lk r f.1];exact UV r rx f.1 fx
  ·exact qO rx fx t f.2 u' hu
noncomputable def inV (x:V)(xs:List V):Bool:=xs.any λy=>YV y x
def rIn (K:W.Frag)(neg:Bool):R2:=λx y H Q=>∃p xs,y=.ref p/\(F7 K H p xs\/LD K H p xs)/\jM x=true/\xs.all jM=true/\Q (.bl (if neg then !inV x xs else inV x xs)) H
theorem Ln:HL X (compareOp .In) (rIn X.K false):=by
 intro Fs s σ H x y v u Q I rx ry h
 obtain⟨p,xs,rfl,hq,fx,fs,q⟩:=h
 cases ry
 rcases hq with hq | hq
 ·obtain⟨FD,r,pl,hz⟩:=I.list hq
  refine SeqAt.in_listAt (Pc x) pl.isList (λw hw=>qO rx fx r fs w (by simpa using hw)) ⟨.bl _,H,I,rfl,?_⟩
  rw[show FD.toArray.any (Pc x)=FD.any (Pc x) by simp,tW r fs]
  exact q
 ·obtain⟨FD,r,pl,hz⟩:=I.tuple hq
  refine SeqAt.in_tupleAt (Pc x) pl (λw hw=>qO rx fx r fs w (by simpa using hw)) ⟨.bl _,H,I,rfl,?_⟩
  rw[show FD.toArray.any (Pc x)=FD.any (Pc x) by simp,tW r fs]
  exact q
theorem Ew:HL X (compareOp .NotIn) (rIn X.K true):=by
 intro Fs s σ H x y v u Q I rx ry h
 obtain⟨p,xs,rfl,hq,fx,fs,q⟩:=h
 cases ry
 rcases hq with hq | hq
 ·obtain⟨FD,r,pl,hz⟩:=I.list hq
  refine SeqAt.notIn_listAt (Pc x) pl.isList (λw hw=>qO rx fx r fs w (by simpa using hw)) ⟨.bl _,H,I,rfl,?_⟩
  rw[show FD.toArray.any (Pc x)=FD.any (Pc x) by simp,tW r fs]
  exact q
 ·obtain⟨FD,r,pl,hz⟩:=I.tuple hq
  refine SeqAt.notIn_tupleAt (Pc x) pl (λw hw=>qO rx fx r fs w (by simpa using hw)) ⟨.bl _,H,I,rfl,?_⟩
  rw[show FD.toArray.any (Pc x)=FD.any (Pc x) by simp,tW r fs]
  exact q
theorem Ey:HL X (compareOp .NotIn) (λx y H Q=>∃i j,x=.str i/\y=.str j/\Q (.bl (!(!(Builtin.Str.occurrences j i 0 j.length 1).isEmpty))) H):=by
 intro Fs s σ H x y v u Q I rx ry h
 obtain⟨i,j,rfl,rfl,q⟩:=h
 obtain⟨t,rfl⟩:=rx
 obtain⟨t',rfl⟩:=ry
 exact notIn_str ⟨.bl _,H,I,rfl,q⟩
theorem Ez:GN X (.builtin "len") (λxs H Q=>∃p ys,xs=[.ref p]/\(F7 X.K H p ys\/LD X.K H p ys)/\Q (.int ys.length) H):=by
 intro Fs s σ H xs us Q I r h
 obtain⟨p,ys,rfl,hq,q⟩:=h
 obtain⟨u,rfl,rx⟩:=vals1 r
 cases rx
 have hn:=tU
 rcases hq with hq | hq
 ·obtain⟨FD,r',pl,hz⟩:=I.list hq
  have hlen:=r'.length
  exact Calls.call_len_list pl.isList (by simp only[a7] <;> omega) ⟨.int ys.length,H,I.tok _,⟨s.toks+1,by rw[a7,hlen]⟩,q⟩
 ·obtain⟨FD,r',pl,hz⟩:=I.tuple hq
  have hlen:=r'.length
  exact len_tuple pl (by simp only[a7] <;> omega) ⟨.int ys.length,H,I.tok _,⟨s.toks+1,by rw[a7,hlen]⟩,q⟩
theorem EY:GN X (.builtin "len") (λxs H Q=>∃z,xs=[.str z]/\z.length<=sizeLine/\Q (.int z.length) H):=by
 intro Fs s σ H xs us Q I r h
 obtain⟨z,rfl,hz,q⟩:=h
 obtain⟨u,rfl,t,rfl⟩:=vals1 r
 have hn:=tU
 exact len_str (by omega) ⟨.int z.length,H,I.tok _,⟨_,rfl⟩,q⟩
theorem GN.or {f:Value}{r r':List V->Hp->VK->Prop}(h:GN X f r)(h':GN X f r'):GN X f (λxs H Q=>r xs H Q\/r' xs H Q):=by
 intro Fs s σ H xs us Q I rs q
 rcases q with q | q
 ·exact h Fs s σ H xs us Q I rs q
 ·exact h' Fs s σ H xs us Q I rs q
theorem E_:GN X (.type "list") (λxs H Q=>∃p ys,xs=[.ref p]/\(F7 X.K H p ys\/LD X.K H p ys)/\∀l,H l=none->Q (.ref l) (upd H l (.lst ys))):=by
 intro Fs s σ H xs us Q I r h
 obtain⟨p,ys,rfl,hq,q⟩:=h
 obtain⟨u,rfl,rx⟩:=vals1 r
 cases rx
 have fin:∀(FD:oB),Vals ys FD->ys.length<=sizeLine->∀(h':Heap) (c':Nat),(∀b o',s.heap.get? b=some o'->h'.get? b=some o')->
   h'.get? s.heap.objs.size=some { cls:=.type "list",dict:=none,data:=.seq FD.toArray c',slots:=#[] }->EP X Fs σ Q (.ref s.heap.objs.size) { s with heap:=h' }:=λFD r' hz h' c' kp e=>
  ⟨.ref s.heap.objs.size,_,I.laid (t':=s.toks) kp (aw _) (show FX X.prog X.w X.K _ h' _ (.lst ys) from ⟨hz,FD,c',r',e⟩),rfl,q _ (I.FL.fresh (aw _))⟩
 rcases hq with hq | hq
 ·obtain⟨FD,r',pl,hz⟩:=I.list hq
  have hlen:=r'.length
  obtain⟨o,ho,hc,n,hd⟩:=pl.isList
  exact call_list_seq p (.inl rfl) ho hc hd (λh' c' kp e=>fin FD r' hz h' c' kp e) (by simp only[a7] <;> omega)
 ·obtain⟨FD,r',pl,hz⟩:=I.tuple hq
  have hlen:=r'.length
  obtain⟨o,ho,hc,n,hd⟩:=pl
  exact call_list_seq p (.inr rfl) ho hc hd (λh' c' kp e=>fin FD r' hz h' c' kp e) (by simp only[a7] <;> omega)
theorem CW:GN X (.type "tuple") (λxs H Q=>∃p ys,xs=[.ref p]/\((F7 X.K H p ys/\∀l,H l=none->Q (.ref l) (upd H l (.tup ys)))\/(LD X.K H p ys/\Q (.ref p) H))):=by
 intro Fs s σ H xs us Q I r h
 obtain⟨p,ys,rfl,h⟩:=h
 obtain⟨u,rfl,rx⟩:=vals1 r
 cases rx
 rcases h with ⟨hq,q⟩ | ⟨hq,q⟩
 ·obtain⟨FD,r',pl,hz⟩:=I.list hq
  have hlen:=r'.length
  refine call_tuple_list pl.isList (λh' kp=>?_) (by simp only[a7] <;> omega)
  have I1:Inv X Fs σ H { s with heap:=h' }:=I.kept (t':=s.toks) kp
  have I2:Inv X Fs σ (upd H h'.objs.size (.tup ys)) { s with heap:=h'.push { cls:=.type "tuple",data:=.seq FD.toArray } }:=
   I1.laid (t':=s.toks) (λb o e=>am _ e) (aw _) (show FX X.prog X.w X.K _ _ _ (.tup ys) from ⟨hz,FD,r',IsTup.new _ _⟩)
  exact⟨.ref h'.objs.size,_,I2,rfl,q _ (I1.FL.fresh (aw _))⟩
 ·obtain⟨FD,r',pl,hz⟩:=I.tuple hq
  exact call_tuple_same pl ⟨.ref p,H,I,rfl,q⟩
def tyV (K:W.Frag)(T:String)(x:V)(H:Hp):Prop:=match x with
 | .str _=>T = "str"
 | .int _=>T = "int"
 | .ref p=>(T = "list" /\ ∃xs,F7 K H p xs)\/(T = "tuple" /\ ∃o,K.lookup p=some o/\o.cls=.type "tuple" /\ o.dict=none) \/
   (T = "dict" /\ ((∃kvs,H p=some (.dK kvs))\/∃kvs,H p=some (.dT kvs)))\/(T = "set" /\ ∃S n,H p=some (.set S n))
 | _=>False
theorem UW {Fs:oy}{σ:St}{H:Hp}{s:Shared}{T:String}{x:V}{v:Value}(I:Inv X Fs σ H s)(r:RelV x v)(ty:tyV X.K T x H):
  s.TypeIs v T/\∀a,v=.ref a->∃ob,s.heap.get? a=some ob/\ob.dict=none:=by
 cases x with
 | str z=>
  obtain⟨t,rfl⟩:=r
  cases (show T = "str" from ty)
  exact⟨kT s z t,λ_ e=>nomatch e⟩
 | int i=>
  obtain⟨t,rfl⟩:=r
  cases (show T = "int" from ty)
  exact⟨typeIs_int s i t,λ_ e=>nomatch e⟩
 | ref p=>
  cases r
  rcases ty with ⟨rfl,xs,hq⟩ | ⟨rfl,o,hk,hc,hd⟩ | ⟨rfl,hk⟩ | ⟨rfl,S,n,hk⟩
  ·obtain⟨FD,_,pl,_⟩:=I.list hq
   refine⟨pl.isList.typeIs,λa e=>?_⟩
   cases e
   obtain⟨o,n,e,c,hd,_⟩:=pl
   exact⟨o,e,hd⟩
  ·refine⟨⟨o,I.IP p o hk,hc⟩,λa e=>?_⟩
   cases e
   exact⟨o,I.IP _ o hk,hd⟩
  ·have z:∃o,s.heap.get? p=some o/\o.ExactDict:=by
    rcases hk with ⟨kvs,hk⟩ | ⟨kvs,hk⟩
    ·obtain⟨_,_,_,_,o,_,_,e,ex,_⟩:=I.FL p _ hk
     exact⟨o,e,ex⟩
    ·obtain⟨_,_,_,_,o,_,_,e,ex,_⟩:=I.FL p _ hk
     exact⟨o,e,ex⟩
   obtain⟨o,e,ex⟩:=z
   refine⟨⟨o,e,ex.1⟩,λa e2=>?_⟩
   cases e2
   exact⟨o,e,ex.2.1⟩
  ·obtain⟨o,_,_,_,e,ex,_⟩:=I.FL p _ hk
   refine⟨⟨o,e,ex.1⟩,λa e2=>?_⟩
   cases e2
   exact⟨o,e,ex.2.1⟩
 | _=>exact False.elim ty
def tBM (K:W.Frag)(T:String)(r:V->List V->Hp->VK->Prop)(to:TE)(t:TA):TE:=fun σ H Q=>to σ H λx H1=>tyV K T x H1/\t σ H1 λxs H2=>r x xs H2 Q
variable {o e:Expr}{es:oI}{to:TE}{t:TA}{name:Str}{apos FO:Pos}{T id:String}{r:V->List V->Hp->VK->Prop}
theorem Dz (pa:PlainAttrs T)(slot:Slot T name id)(hty:typeOf (.builtin id)=pure (.type "method_descriptor"))(hm:MtR X id r)(ho:PE X o to)(ha:PA X (e::es) t)
  (JI:autoParam (attributeBase o name X.env (eval o X.env)=eval o X.env) r0_)
  (LZ:((backTo FO (starEach (e::es) X.env)).all (λx=>!x.1)&&(backToKw FO (keywordEach [] X.env)).all (λx=>x.1.isSome)
   && decide ((e::es).length+([]:List Keyword).length+(if ([]:List Keyword).isEmpty then 0 else 1) < 30))=true:=by rfl)
  (JJ:autoParam ((apos.endLine == FO.line)=true) r0_) (hs:autoParam (starEach (e::es) X.env=(false,eval e X.env)::starEach es X.env) r0_) (hplain:autoParam ((backTo FO (starEach es X.env)).any (·.1)=false) r0_):
  PE X (.Call (.Attribute o name apos) (e::es) [] FO) (tBM X.K T r to t):=by
 intro Fs s σ H Q I h
 refine wpAny_Call_method_late JI LZ JJ rfl (F2 (ho Fs s σ H _ I h) ?_)
 rintro v s1 ⟨x,H1,I1,r1,ty,q1⟩
 obtain⟨h1,h2⟩:=UW I1 r1 ty
 refine⟨T,id,pa,slot,hty,h1,h2,?_⟩
 have hA:=ha FO Fs s1 σ H1 _ I1 q1
 rw[hs] at hA ⊢
 refine i8 (by show (false||(backTo FO (starEach es X.env)).any (·.1))=false;rw[hplain] <;> rfl) (kf ?_)
 exact F2 hA λus s2 ⟨vs,H2,I2,r2,q2⟩=>hm Fs s2 σ H2 x vs v us Q I2 r1 r2 q2
end
def MtM (X:Cx)(id:String)(r:V->List V->Hp->VK->Prop):Prop:=
 ∀(Fs:oy) (s:Shared) (σ:St) (H:Hp) (x:V) (xs:List V) (v:Value) (us:oB) (Q:VK),Inv X Fs σ H s->RelV x v->Vals xs us->r x xs H Q->
  wpAny (model X.prog X.w) X.A (call (.builtin id) (v::us)) (EP X Fs σ Q) X.xe s
theorem Vals.one {x:V}{us:oB}(h:Vals [x] us):∃u,us=[u]/\RelV x u:=by
 cases h with
 | cons r t=>cases t;exact⟨_,rfl,r⟩
theorem Vals.reverse {xs:List V}{us:oB}(h:Vals xs us):Vals xs.reverse us.reverse:=by
 induction h with
 | nil=>exact .nil
 | cons r t ih=>rw[i9,i9];exact Vals.append ih (.cons r .nil)
theorem Vals.rep {xs:List V}{us:oB}(h:Vals xs us):∀k:Nat,Vals (List.replicate k xs).flatten (List.replicate k us).flatten
 | 0=>.nil
 | k+1=>by
  rw[et,et,gs,gs]
  exact Vals.append h (Vals.rep h k)
theorem foldl_rep (FD:oB):∀(k:Nat) (acc:oB),
  List.foldl (λx1 x2=>x1++x2) acc.toArray (List.replicate k FD.toArray)=(acc++(List.replicate k FD).flatten).toArray
 | 0,acc=>by simp
 | k+1,acc=>by
  have e:acc.toArray++FD.toArray=(acc++FD).toArray:=by simp
  have e2:(acc++FD)++(List.replicate k FD).flatten=acc++(List.replicate (k+1) FD).flatten:=by
   rw[et,gs,cp]
  rw[← e2,← foldl_rep FD k (acc++FD),← e,et,ft]
section
variable {X:Cx}{Fs:oy}{σ:St}{H:Hp}{s:Shared}{l b:Addr}{xs ys zs:List V}
theorem Inv.lset {FD its':oB}{n:Nat}{f:Array Value->Array Value}{t':Nat}(I:Inv X Fs σ H s)(hH:H l=some (.lst xs))
  (e:s.heap.get? l=some { cls:=.type "list",data:=.seq FD.toArray n }) (hf:f FD.toArray=its'.toArray) (hv:Vals ys its') (hz:ys.length<=sizeLine):
  Inv X Fs σ (upd H l (.lst ys)) { s with heap:=s.heap.update l (Obj.mapSeq f),toks:=t' }:=by
 have q:=PySem.IsL.update e f
 rw[hf] at q
 refine I.write (x:=l) (e:=l) (by rw[hH];exact trivial) (.inl rfl) (λb' u hb hu=>(d6 s.heap (Obj.mapSeq f) (eS hb)).trans hu) ⟨_,q⟩ ?_
 exact⟨hz,its',_,hv,q⟩
theorem Inv.lnew {FD:oB}{t':Nat}(I:Inv X Fs σ H s)(hv:Vals ys FD)(hz:ys.length<=sizeLine):
  Inv X Fs σ (upd H s.heap.objs.size (.lst ys)) { s with heap:=s.heap.push { cls:=.type "list",data:=.seq FD.toArray },toks:=t' }:=
 I.laid (λ_ _ q=>am _ q) (aw _) ⟨hz,FD,0,hv,ba _ rfl⟩
theorem Inv.fresh (I:Inv X Fs σ H s):H s.heap.objs.size=none:=I.FL.fresh (aw _)
theorem Inv.QO (I:Inv X Fs σ H s)(hH:H l=some (.lst xs)):xs.length<=sizeLine/\∃(FD:oB) (n:Nat),Vals xs FD/\xs.length=FD.length/\s.heap.get? l=some { cls:=.type "list",data:=.seq FD.toArray n }:=by
 obtain⟨z,FD,n,r,e⟩:=I.FL l _ hH
 exact⟨z,FD,n,r,r.length,e⟩
theorem Fb {n:Nat}(h:n<=sizeLine):Builtin.List.listTooLong n=false:=by
 unfold Builtin.List.listTooLong
 exact a5 (by omega)
end
section
variable {X:Cx}
def Rj:V->List V->Hp->VK->Prop:=λx vs H Q=>∃l xs y,x=.ref l/\vs=[y]/\H l=some (.lst xs)/\xs.length < sizeLine/\Q .FG (upd H l (.lst (xs++[y])))
theorem vB:MtM X "list.append" Rj:=by
 intro Fs s σ H x vs v us Q I rx rv h
 obtain⟨l,xs,y,rfl,rfl,hH,hz,q⟩:=h
 cases rx
 obtain⟨u,rfl,ru⟩:=rv.one
 obtain⟨z,FD,n,r,hl,e⟩:=I.QO hH
 refine kc F.slot_list_append ⟨_,e,rfl⟩ F.entry_list_append (F.args_list_append_2 _ _) (PySem.list_append l FD.toArray n u (by rw[a7];omega)) ⟨e,?_⟩
 refine⟨.FG,_,I.lset (its':=FD++[u]) hH e (by simp) (r.append (.cons ru .nil)) ?_,rfl,q⟩
 rw[ax,g0]
 omega
def Rk:V->List V->Hp->VK->Prop:=λx vs H Q=>∃l b xs zs,x=.ref l/\vs=[.ref b]/\H l=some (.lst xs)/\H b=some (.lst zs)/\xs.length+zs.length<=sizeLine/\Q .FG (upd H l (.lst (xs++zs)))
theorem Lp:MtM X "list.extend" Rk:=by
 intro Fs s σ H x vs v us Q I rx rv h
 obtain⟨l,b,xs,zs,rfl,rfl,hH,hB,hz,q⟩:=h
 cases rx
 obtain⟨u,rfl,ru⟩:=rv.one
 cases ru
 obtain⟨z,FD,n,r,hl,e⟩:=I.QO hH
 obtain⟨z2,L0,n2,r2,Pd,e2⟩:=I.QO hB
 have hsz:FD.toArray.size+L0.toArray.size<=sizeLine:=by rw[a7,a7];omega
 have SF:¬ (!FD.toArray.isEmpty&&Builtin.List.listTooLong (FD.toArray.size+L0.toArray.size))=true:=by
  rw[Fb hsz,Bool.and_false]
  exact aT
 refine kc F.slot_list_extend ⟨_,e,rfl⟩ F.entry_list_extend (F.args_list_extend_2 _ _)
  (AutoSeq1.list_extend_list_list_0 l FD.toArray n b L0.toArray n2 SF (by rw[a7];omega) (by omega)) ⟨e,e2,?_⟩
 refine⟨.FG,_,I.lset (its':=FD++L0) hH e (by simp) (r.append r2) ?_,rfl,q⟩
 rw[ax]
 omega
def Og:R2:=λx y H Q=>∃l b xs zs,x=.ref l/\y=.ref b/\H l=some (.lst xs)/\H b=some (.lst zs)/\xs.length+zs.length<=sizeLine/\∀p,H p=none->Q (.ref p) (upd H p (.lst (xs++zs)))
theorem Lq:HL X (binaryOp .Add) Og:=by
 intro Fs s σ H x y v u Q I rx ry h
 obtain⟨l,b,xs,zs,rfl,rfl,hH,hB,hz,q⟩:=h
 cases rx
 cases ry
 obtain⟨z,FD,n,r,hl,e⟩:=I.QO hH
 obtain⟨z2,L0,n2,r2,Pd,e2⟩:=I.QO hB
 refine PySem.P.add_list e e2 ?_ (by rw[a7,a7];omega)
 have ea:FD.toArray++L0.toArray=(FD++L0).toArray:=by simp
 rw[ea]
 exact⟨.ref _,_,I.lnew (t':=s.toks) (r.append r2) (by rw[ax];omega),rfl,q _ I.fresh⟩
def U0:R2:=λx y H Q=>∃l k xs,x=.ref l/\y=.int k/\H l=some (.lst xs)/\-(2 ^ 63)<=k/\k < 2 ^ 63/\xs.length*k.toNat<=sizeLine /\
 ∀p,H p=none->Q (.ref p) (upd H p (.lst (List.replicate k.toNat xs).flatten))
theorem len_rep {α:Type}(xs:List α)(k:Nat):(List.replicate k xs).flatten.length=k*xs.length:=by
 induction k with
 | zero=>simp
 | succ k ih=>rw[et,gs,ax,ih,ja,Nat.add_comm]
theorem U3:HL X (binaryOp .Mult) U0:=by
 intro Fs s σ H x y v u Q I rx ry h
 obtain⟨l,k,xs,rfl,rfl,hH,h1,h2,hz,q⟩:=h
 cases rx
 obtain⟨t,rfl⟩:=ry
 obtain⟨z,FD,n,r,hl,e⟩:=I.QO hH
 have hlen:FD.toArray.size*k.toNat<=sizeLine:=by rw[a7,← hl];exact hz
 have hcap:¬ FD.toArray.size*k.toNat > (2 ^ 63 - 1) / 8:=by
  have:(sizeLine:Nat)<=(2 ^ 63 - 1) / 8:=by decide
  omega
 have hfit:¬ (!Builtin.List.listFitsIndex k)=true:=by
  rw[fitsIndex_both h1 h2]
  exact aT
 have SF:¬ Builtin.List.listTooLong (FD.toArray.size*k.toNat)=true:=by
  rw[Fb hlen]
  exact aT
 have YY:List.foldl (λx1 x2=>x1++x2) #[] (List.replicate (if FD.toArray.isEmpty=true then 0 else k.toNat) FD.toArray)=(List.replicate k.toNat FD).flatten.toArray:=by
  have f0:∀m:Nat,List.foldl (λx1 x2=>x1++x2) #[] (List.replicate m FD.toArray)=(List.replicate m FD).flatten.toArray:=λm=>by
   have:=foldl_rep FD m []
   rw[eR] at this
   exact this
  rw[f0]
  cases FD with
  | nil=>simp
  | cons a r'=>rw[ap (by simp)]
 refine wpAny_binaryOp_repeat_ref (T := "list") (U := "int") (by decide) ⟨_,e,rfl⟩ (λs'=>typeIs_int s' k t) noFill_list_mul F.fills_int_mul F.slot_int_rmul repeat_list F.slot_int_index.lookup
  (kc F.slot_int_rmul (typeIs_int s k t) F.entry_int_rmul (F.args_int_rmul_2 _ _) (int___rmul___int_list k t l FD.toArray n)
   ⟨e,rfl,⟨_,e,rfl⟩,kc F.slot_list_mul ⟨_,e,rfl⟩ F.entry_list_mul (F.args_list_mul_2 _ _) (AutoListH.list___mul___list_int_3 l FD.toArray n k t hfit hcap SF) ⟨e,?_⟩⟩)
 rw[YY]
 exact⟨.ref _,_,I.lnew (t':=s.toks) (r.rep k.toNat) (by rw[len_rep,oo];exact hz),rfl,q _ I.fresh⟩
end
end Lake.L2
namespace Lake.Att
open PySem PySem.W PySem.Calls PyProof.Rows
theorem yN {P:Params}{h:Heap}:∀(ns:oQ) (vs:oB),WellAll P h vs (ns.map WData.int)->IntsAre vs ns:=by
 intro ns
 induction ns with
 | nil=>
  intro vs w
  rw[dP] at w
  cases w
  exact .nil
 | cons n ns ih=>
  intro vs w
  rw[ag] at w
  cases w with
  | cons a b=>
   cases a
   exact .cons _ _ (ih _ b)
theorem Lr {l:OpenLaw}{n:Nat}(hn:l.most=some n){P:Params}{h:Heap}{args:List WData}{vals:oB}
  (Y1:l.row.toRowW.claim.pre args=true) (hwl:WellAll P h vals args):
  ∃a vs ns,vals=[Value.ref a]/\args=[WData.list (ns.map WData.int)]/\h.get? a=some { cls:=.type "list",data:=.seq vs.toArray }/\IntsAre vs ns/\ns.length<=n:=by
 have hsh:WShape.hasAll [] args [.list .int]=true:=(pre_splitW Y1).1
 have hc:l.pre.holds [] { args:=args }=true:=(pre_splitW Y1).2
 obtain⟨d,r,rfl,h1,h2⟩:=hasAllW_cons hsh
 obtain rfl:=hasAllW_nil h2
 obtain⟨xs,rfl,h3⟩:=hasW_list h1
 obtain⟨ns,rfl⟩:=items_int h3
 have hlen:ns.length<=n:=by
  unfold OpenLaw.pre at hc
  have h4:(WTm.not (.lt (.lit (.int (n:Int))) (.len (.arg 0)))).holds [] { args:=[.list (ns.map .int)] }=true:=by
   have h4:=(holds_andW hc).1
   rw[hn] at h4
   exact h4
  have h5:=condW_of h4 (w_not (w_lt w_lit (w_len_list (w_arg rfl))))
  rw[ae] at h5
  refine Nat.le_of_not_lt λq=>?_
  have q':(n:Int) < ((ns.length:Nat):Int):=by omega
  first
   | (rw[br q'] at h5;exact absurd h5 (by decide))
   | (simp at h5;omega)
 cases hwl with
 | cons w1 w2=>
  cases w2
  cases w1 with
  | list ho ND=>exact⟨_,_,ns,rfl,rfl,ho,yN ns _ ND,hlen⟩
theorem Ls (l:OpenLaw)(args:List WData):l.row.toRowW.claim.post args (.bool true) args=true:=
 postW_of (r:=l.row.toRowW) (X:=(true == true))
  (show WShape.has [] (.bool true) .bool=true by first | rfl | decide | simp[WShape.has,WShape.arms,WShape.armsAll])
  (show (WTm.eq .res (.lit (.bool true))).value [] { args:=args,res:=some (.bool true),after:=args }=some (.bool (true == true)) from w_eq_bool (w_res rfl) w_lit) rfl
theorem OR {l:OpenLaw}{n:Nat}{q:Program}{loose:oP}{XP:(Str->Option Value)->Heap->Prop}{YP:World->Heap->Prop}{d:DefRec}
  (hn:l.most=some n) (hdf:d.params.defaults=[])
  (call:∀(w:World) (s₀ s₁:Shared) (mg mb:Str->Option Value) (fa:Addr) (o:Obj) (pm cd doc:Value) (a:Addr) (vs:oB) (ns:oQ),
   Ground q loose [] XP w s₀ mg mb s₁.heap->YP w s₁.heap->
   s₁.heap.get? fa=some o->o.data=.func (docDef d.name d.params d.body d.scope pm cd doc)->s₁.heap.CodeRec cd d.name->mg d.name=some (.ref fa)->
   s₁.heap.get? a=some { cls:=.type "list",data:=.seq vs.toArray }->IntsAre vs ns->ns.length<=n->s₁.gens=#[]->
   codeAny (model l.prog w) callerA (.call (.ref fa) ⟨[.ref a],[]⟩) (λr s'=>r=.ok (.ret (.bool true))/\OldK s₁.heap s'.heap/\s'.os=s₁.os/\AllBare s'.gens) s₁):
  WalkO q loose XP YP l.row.toRowW d [] (λf vs=>PySem.call f vs):=by
 intro w s₀ s₁ mg mb G Y fa o pm cd doc dV kV ho hd LW hD hmg hg args vals as Y1 hlay hrd hwl hlo
 obtain rfl:dV=.none:=Dflts.none hD hdf
 obtain rfl:kV=.none:=Dflts.noKw hD
 obtain⟨a,vs,ns,rfl,rfl,hobj,hints,hlen⟩:=Lr hn Y1 hwl
 refine enter_call (me (call w s₀ s₁ mg mb fa o pm cd doc a vs ns G Y ho (fd_plain hd) LW hmg hobj hints hlen hg) λr s' hq=>?_)
 obtain⟨rfl,h2,h3,h4⟩:=hq
 exact⟨.inl ⟨.bool true,.bool true,[],rfl,λ_=>rfl,.bool true,Ls l _,λ_=>⟨List.Pairwise.nil,λ_ hm=>(nomatch hm)⟩⟩,h2,h3,h4⟩
end Lake.Att
namespace Lake.L2
open PySem PySem.Spec PyProof.Rows
theorem Cd:∀{vs:oB}{ns:oQ},IntsAre vs ns->Vals (ns.map V.int) vs
 | _,_,.nil=>.nil
 | _,_,.cons n t h=>.cons ⟨t,rfl⟩ (Cd h)
def Y2 (H:Hp):Prop:=∀b,H b=none\/∃o xs,H b=some (.frz o (.lst xs))
theorem Oh {P:Program}{w:World}{K:W.Frag}{mg mb:Str->Option Value}{CX:Sr}{k:Nat}{fa a:Addr}{fd:FuncData}{x:Str}{sp:Sp}{s₁:Shared}{vs:oB}{ns:oQ}
  (KX:K.In s₁.heap) (hns:s₁.heap.Ns mainGlobals mg) (hb:s₁.heap.Ns builtinsNs mb) (hbb:∀x:Str,x ≠ "__name__" -> mb x=bootBuiltins x) (hlim:s₁.heap.NoLimit) (hg:s₁.gens=#[])
  (ha:s₁.heap.get? a=some { cls:=.type "list",data:=.seq vs.toArray }) (hi:IntsAre vs ns) (hl:ns.length<=sizeLine) (hr:F5 k callerA)
  (F:∀base:Heap,K.In base->base.Ns mainGlobals mg->GY P w K mg base CX k fa fd [x] sp) (hbind:∀(s:Shared) (u:Value),BindsTo s fd ⟨[u],[]⟩ [(x,u)])
  (Se:∀H:Hp,Y2 H->F7 K H a (ns.map V.int)->sp [.ref a] H (λv _=>v=.bl true) λ_ _ _=>False)
  (hCX:∀H e s',CX [] H s₁ (λ_ _ _=>False) e s'->False):
  codeAny (model P w) callerA (.call (.ref fa) ⟨[.ref a],[]⟩) (λr s'=>r=.ok (.ret (.bool true))/\OldK s₁.heap s'.heap/\s'.os=s₁.os/\AllBare s'.gens) s₁:=by
 have rv:=Cd hi
 have F3:=hi.length
 have core:∀H:Hp,Y2 H->F7 K H a (ns.map V.int)->LA P w K H s₁.heap->(∀b,H b≠none->b=a)->(H a≠none->K.lookup a=none)->
   codeAny (model P w) callerA (.call (.ref fa) ⟨[.ref a],[]⟩) (λr s'=>r=.ok (.ret (.bool true))/\OldK s₁.heap s'.heap/\s'.os=s₁.os/\AllBare s'.gens) s₁:=by
  intro H hO hS FL hA hK
  have P4:∀{b:Addr}{o:Obj},s₁.heap.get? b=some o->H b=none->(uy s₁.heap H).get? b=some o:=λe n=>Nt e n
  have noA:∀{b:Addr}{o:Obj}{es:Array DictEntry}{ep:Nat},s₁.heap.get? b=some o->o.data=.dict es ep->H b=none:=λ{b o es ep} e d=>by
   cases q:H b with
   | none=>rfl
   | some u=>
    have e':b=a:=hA b (by rw[q];simp)
    subst e'
    rw[ha] at e;cases e
    have d':Data.seq vs.toArray _=Data.dict es ep:=d
    cases d'
  have nsK:∀{b:Addr}{m:Str->Option Value},s₁.heap.Ns b m->(uy s₁.heap H).Ns b m:=λ{b m} ⟨o,es,ep,e,d,r⟩=>⟨o,es,ep,P4 e (noA e d),d,r⟩
  have hKb:K.In (uy s₁.heap H):=λb o e=>P4 (KX b o e) (by
   cases q:H b with
   | none=>rfl
   | some u=>
    have e':b=a:=hA b (by rw[q];simp)
    subst e'
    rw[hK (by rw[q];simp)] at e;cases e)
  have hM:Mod K mg (uy s₁.heap H):=⟨hKb,nsK hns,⟨mb,nsK hb,hbb⟩,let ⟨mc,h1,h2⟩:=hlim;⟨mc,nsK h1,h2⟩⟩
  have e0:OZ P w K mg (uy s₁.heap H) callerA [] s₁ H:=⟨rfl,hM,λb o e=>QR e,on (KY _ _),trivial,λb hb=>absurd (show b∈([]:o0) from hb) (by simp),FL,.of_eq hg⟩
  refine me ((F _ hKb (nsK hns)).run callerA [] s₁ H ⟨[.ref a],[]⟩ [.ref a] [.ref a] _ _ hr e0 (hbind s₁ (.ref a)) (.cons rfl .nil) (Se H hO hS)) λr s' h=>?_
  cases r with
  | error e=>exact(hCX H e s' h).elim
  | ok fl=>
   cases fl with
   | next=>exact False.elim h
   | brk=>exact False.elim h
   | cont=>exact False.elim h
   | ret u=>
    obtain⟨v,H',os,bare,un,hok',r',q⟩:=h
    have q':v=.bl true:=q
    subst q'
    obtain rfl:u=Value.bool true:=r'
    refine⟨rfl,OldK.of_keep λb o e=>?_,os,bare⟩
    cases q:H b with
    | none=>exact un.keep b o e q (by intro z;exact absurd (show b∈([]:o0) from z) (by simp)) (by simp)
    | some u=>
     rcases hO b with z | ⟨ob,xs,z⟩
     ·rw[q] at z;cases z
     ·have z2:=un.N1 b ob _ z
      obtain⟨e1,_⟩:=FL b _ z
      obtain⟨e2,_⟩:=hok' b _ z2
      rw[e] at e1;cases e1
      exact e2
 cases hk:K.lookup a with
 | some o=>
  have e:=KX a o hk
  rw[ha] at e
  cases e
  refine core (λ_=>none) (λ_=>.inl rfl) (.inr ⟨_,vs.toArray,_,hk,rfl,rfl,rfl,by rw[a7,F3];exact hl,by simpa using rv⟩) (λb u z=>by have z':(none:Option HO)=some u:=z;cases z') (λb z=>absurd rfl z) λz=>absurd rfl z
 | none=>
  refine core (λb=>if b=a then some (.frz { cls:=.type "list",data:=.seq vs.toArray } (.lst (ns.map V.int))) else none) (λb=>?_) (.inl (.inr ⟨{ cls:=.type "list",data:=.seq vs.toArray },bg rfl⟩)) (λb u z=>?_) (λb z=>?_) λ_=>hk
  ·by_cases hb:b=a
   ·exact .inr ⟨_,_,bg hb⟩
   ·exact .inl (ap hb)
  ·by_cases hb:b=a
   ·have z':=(bg hb).symm.trans z
    cases z'
    subst hb
    exact⟨ha,by rw[ae];exact hl,vs,_,rv,ha⟩
   ·have z':=(ap hb).symm.trans z
    cases z'
  ·by_cases hb:b=a
   ·exact hb
   ·exact absurd (ap hb) z
theorem Y3 {l:W.OpenLaw}{n k:Nat}{q:Program}{loose:oP}{XP:(Str->Option Value)->Heap->Prop}{YP:World->Heap->Prop}{d:DefRec}{K:Params->W.Frag}{CX:World->Sr}{sp:World->Sp}{x:Str}
  (hn:l.most=some n) (hn2:n<=sizeLine) (hdf:d.params.defaults=[]) (hr:F5 k callerA)
  (hY:∀(w:World) (h:Heap),YP w h->(K w.params).In h)
  (F:∀(w:World) (mg:Str->Option Value) (fa:Addr) (h:Heap),(K w.params).In h->h.Ns mainGlobals mg->mg d.name=some (.ref fa)->
   ∃fd:FuncData,(∀(s:Shared) (u:Value),BindsTo s fd ⟨[u],[]⟩ [(x,u)]) /\
    ∀base:Heap,(K w.params).In base->base.Ns mainGlobals mg->GY l.prog w (K w.params) mg base (CX w) k fa fd [x] (sp w))
  (Se:∀(w:World) (H:Hp) (a:Addr) (ns:oQ),ns.length<=n->Y2 H->F7 (K w.params) H a (ns.map V.int)->sp w [.ref a] H (λv _=>v=.bl true) λ_ _ _=>False)
  (hCX:∀(w:World) (H:Hp) (s:Shared) (e:Value) (s':Shared),CX w [] H s (λ_ _ _=>False) e s'->False):
  W.WalkO q loose XP YP l.row.toRowW d [] (λf vs=>PySem.call f vs):=by
 refine Att.OR hn hdf λw s₀ s₁ mg mb fa o pm cd doc a vs ns G Y ho hd LW hmg hobj hints hlen hg=>?_
 have KX:=hY w _ Y
 obtain⟨fd,hb,hF⟩:=F w mg fa _ KX G.T.g hmg
 exact Oh KX G.T.g G.T.b G.T.builtins G.T.nolimit hg hobj hints (cw hlen hn2) hr hF hb (λH hO hS=>Se w H a ns hlen hO hS) λH e s'=>hCX w H s₁ e s'
noncomputable def inClass (s:Stmt)(j:Nat):Stmt:=match s with
 | .ClassDef _ _ _ body _ _ _ _ _ _ _=>body.getD j (.Pass ⟨0,0,0,0⟩)
 | _=>.Pass ⟨0,0,0,0⟩
def tX (s:Stmt):Arguments:=match s with
 | .FunctionDef _ a _ _ _ _ _ _ _ _=>a
 | _=>{ posonlyargs:=[],args:=[],vararg:=none,kwonlyargs:=[],kw_defaults:=[],kwarg:=none,defaults:=[] }
noncomputable def oE (s:Stmt):List Stmt:=match s with
 | .FunctionDef _ _ b _ _ _ _ _ _ _=>b
 | _=>[]
def aB (s:Stmt):Scope:=match s with
 | .FunctionDef _ _ _ _ _ _ sc _ _ _=>sc
 | _=>{ kind:=.function,names:=[],isGenerator:=false,isCoroutine:=false }
abbrev MS:Sr:=λ_ _ _ _ _ _=>False
abbrev E0:XK:=λ_ _ _=>False
theorem DG {X:Cx}:qL MS X E0:=λ_ _ _ _ _ _ _ h=>h.elim
structure LB (K:W.Frag)(x qual:Str)(st:Stmt)(f:Addr)(fd:FuncData):Prop where
 ex:∃(oc:Value) (od:Option Addr) (kV doc pm:Value) (an:Option Addr) (LM ct:Value) (osl:Array (Option Value)),
  fd=W.fnOf x qual (tX st) (oE st) (aB st) .none kV doc pm an LM ct/\K.lookup f=some ⟨oc,od,.func fd,osl⟩/\W.codeIn K LM qual=true
 kp:W.keepIn K (.ref f)=true
section
variable {P:Program}{w:World}{K:W.Frag}{mg:Str->Option Value}{base:Heap}
theorem LB.ok {x qual:Str}{st:Stmt}{f:Addr}{fd:FuncData}{N ps:oP}{k:Nat}{sp:Sp}(F:LB K x qual st f fd)(S:Fu N ps (aB st))(len:∀vs H Q E,sp vs H Q E->vs.length=ps.length)
  (Sz:∀(LM:Value) (A:Around) (outer:List Env) (s:Shared) (H:Hp) (vs:List V) (Q:VK) (E:XK),F5 k (A.deeper (envOfC qual (aB st) s.heap.objs.size f LM))->sp vs H Q E->
   ∃t,LV (yf MS P w K mg base N qual (aB st) f LM A outer s H E).nox (oE st) t/\t { nx:=λ_ H'=>Q .FG H',rt:=Q } (start N vs) H):GY P w K mg base MS (k+1) f fd ps sp:=by
 obtain⟨oc,od,kV,doc,pm,an,LM,ct,osl,rfl,lk,LW⟩:=F.ex
 refine Xr lk LW S len λA outer s H vs Q E hr Se=>?_
 obtain⟨t,h,q⟩:=Sz LM A outer s H vs Q E hr Se
 exact⟨t,h.nox,q⟩
theorem LB.binds {x qual:Str}{st:Stmt}{f:Addr}{fd:FuncData}{ps:oP}(F:LB K x qual st f fd)
  (h:∀(kV doc pm:Value) (an:Option Addr) (LM ct:Value) (us:oB),us.length=ps.length->bindArgs (W.fnOf x qual (tX st) (oE st) (aB st) .none kV doc pm an LM ct) ⟨us,[]⟩=pure (ps.zip us)):Binds K fd ps []:=by
 obtain⟨oc,od,kV,doc,pm,an,LM,ct,osl,rfl,lk,LW⟩:=F.ex
 exact .all (h kV doc pm an LM ct)
theorem SH {x qual:Str}{st:Stmt}{f:Addr}{oc:Value}{od an:Option Addr}{osl:Array (Option Value)}{kV doc pm LM ct:Value}(l:K.lookup f=some ⟨oc,od,.func (W.fnOf x qual (tX st) (oE st) (aB st) .none kV doc pm an LM ct),osl⟩)
  (c:W.codeIn K LM qual=true) (k:W.keepIn K (.ref f)=true):LB K x qual st f (W.fnOf x qual (tX st) (oE st) (aB st) .none kV doc pm an LM ct):=⟨⟨oc,od,kV,doc,pm,an,LM,ct,osl,rfl,l,c⟩,k⟩
end
theorem uB {A:Around}{k:Nat}(hr:F5 k A):A.units+1 < cLine:=Nat.lt_of_le_of_lt (Nat.add_le_add_left (by decide:1<=64) _) hr.units
section
variable {X:Cx}
theorem r5_q (_h:True:=by first | exact fw rfl | exact ef (fw rfl) | exact ef (ef rfl)):True:=trivial
def r5_:Lean.Syntax:=r5_q._auto_1
theorem pv (i:Nat){x:Str}{pos:Pos}(hN:autoParam (X.N[i]?=some x) r0_)(hv:autoParam (Sl X.env.scope x) r5_)(hd:autoParam ((x == ("__debug__" : Str))=false) r1_)
  (LW:autoParam ((x == ("__classdict__" : Str))=false) r1_):PE X (.Name x pos) (TJ i):=kh hN hv hd LW
end
theorem Jp {A B:Prop}(h:B):if false=true then A else B:=by
 rw[ap aT]
 exact h
theorem Jq {A B:Prop}(h:A):if true=true then A else B:=by
 rw[bg rfl]
 exact h
def FE (H H':Hp):Prop:=∀b o,H b=some o->H' b=some o
theorem FE.refl (H:Hp):FE H H:=λ_ _ h=>h
theorem FE.trans {H H1 H2:Hp}(a:FE H H1)(b:FE H1 H2):FE H H2:=λc o h=>b c o (a c o h)
theorem FE.free {H H':Hp}(e:FE H H'){l:Addr}(h:H' l=Option.none):H l=Option.none:=by
 cases q:H l with
 | none=>rfl
 | some o=>
  rw[e l o q] at h
  cases h
section
variable {X:Cx}
theorem Lw:GN X (.builtin "len") (λxs H Q=>∃a kvs,xs=[V.ref a]/\H a=some (.dK kvs)/\Q (.int kvs.length) H):=by
 intro Fs s σ H xs us Q I r h
 obtain⟨a,kvs,rfl,ha,q⟩:=h
 obtain⟨u,rfl,ru⟩:=vals1 r
 cases ru
 exact Xu I (.inl ha) λt s' I'=>⟨.int kvs.length,H,I',⟨t,rfl⟩,q⟩
end
theorem yh {α β:Type}{l:List α}{f:α->β->Sem (ForInStep β)}(g:α->β->β):∀(c:β),(∀x∈l,∀c,f x c=pure (.yield (g x c)))->
  forIn l c f=pure (l.foldl (λc x=>g x c) c):=by
 induction l with
 | nil=>intro c _;rfl
 | cons x l ih=>
  intro c h
  rw[iA,h x af,pure_bind]
  exact ih _ λy hy=>h y (ac _ hy)
noncomputable def jA (env:Env)(x:Str×NameKind)(c:List (Str×Addr)):List (Str×Addr):=if x.2=.free then (x.1,(env.cells.lookup x.1).getD 0)::c else c
noncomputable def yj (env:Env)(names:List (Str×NameKind)):List (Str×Addr):=names.foldl (λc x=>jA env x c) []
theorem CZ {scope:Scope}{env:Env}(h:∀x∈scope.names,x.2=.free->∃c,env.cells.lookup x.1=some c):closureFor scope env=pure (yj env scope.names):=by
 simp only[closureFor]
 rw[yh (jA env) [] (λx hx c=>by
  obtain⟨n,kind⟩:=x
  by_cases e:kind=.free
  ·subst e
   obtain⟨a,ha⟩:=h _ hx rfl
   have ha':env.cells.lookup n=some a:=ha
   simp[jA,cellOf,ha']
  ·have:(kind == NameKind.free)=false:=by simpa using e
   simp[jA,e,this])]
 rfl
theorem yO {env:Env}:∀(l:List (Str×NameKind)) (cs:List (Str×Addr)),(∀x∈l,x.2=.free->∃c,env.cells.lookup x.1=some c)->(∀y c,cs.lookup y=some c->env.cells.lookup y=some c)->
  ∀y c,(l.foldl (λc x=>jA env x c) cs).lookup y=some c->env.cells.lookup y=some c
 | [],cs,_,h2,y,c,e=>h2 y c e
 | x::r,cs,h1,h2,y,c,e=>by
  refine yO r (jA env x cs) (λz hz=>h1 z (ac _ hz)) (λz d q=>?_) y c e
  unfold jA at q
  by_cases k:x.2=.free
  ·rw[bg k] at q
   obtain⟨a,ha⟩:=h1 x af k
   rw[b6] at q
   cases hb:z == x.1 with
   | true=>
    rw[hb] at q
    have ez:z=x.1:=by simpa using hb
    rw[ha] at q
    have q':a=d:=by simpa using q
    rw[ez,ha,q']
   | false=>
    rw[hb] at q
    exact h2 z d q
  ·rw[ap k] at q
   exact h2 z d q
theorem qP {env:Env}{names:List (Str×NameKind)}(h:∀x∈names,x.2=.free->∃c,env.cells.lookup x.1=some c){y:Str}{c:Addr}(e:(yj env names).lookup y=some c):env.cells.lookup y=some c:=
 yO names [] h (λy c q=>by simp at q) y c e
theorem yP {env:Env}{y:Str}:∀(l:List (Str×NameKind)) (cs:List (Str×Addr)),((y,.free)∈l\/∃c,cs.lookup y=some c)->∃c,(l.foldl (λc x=>jA env x c) cs).lookup y=some c
 | [],cs,h=>by
  rcases h with h | h
  ·simp at h
  ·exact h
 | x::r,cs,h=>by
  refine yP r (jA env x cs) ?_
  rcases h with h | ⟨c,h⟩
  ·rcases ar.mp h with e | e
   ·refine .inr ⟨(env.cells.lookup y).getD 0,?_⟩
    rw[← e]
    simp[jA]
   ·exact .inl e
  ·refine .inr ?_
   unfold jA
   split
   ·rw[b6]
    split
    ·exact⟨_,rfl⟩
    ·exact⟨c,h⟩
   ·exact⟨c,h⟩
theorem Lx {env:Env}{names:List (Str×NameKind)}{y:Str}(h:(y,.free)∈names):∃c,(yj env names).lookup y=some c:=yP names [] (.inl h)
theorem mem_of_lookup {x:Str}{k:NameKind}:∀{l:List (Str×NameKind)},l.lookup x=some k->(x,k)∈l
 | [],h=>by simp at h
 | (n,j)::r,h=>by
  rw[b6] at h
  cases hb:x == n with
  | true=>
   rw[hb] at h
   have e:x=n:=by simpa using hb
   have e2:j=k:=by simpa using h
   rw[e,e2]
   exact af
  | false=>
   rw[hb] at h
   exact ac _ (mem_of_lookup h)
theorem vC {env:Env}:∀{names:List (Str×NameKind)}{x:Str},names.lookup x=some .free->
  (names.map λ(n,k)=>if (k == NameKind.free&&env.scope.kind == .function&&env.kindOf n == some .cell) then (n,NameKind.cell) else (n,k)).lookup x=some .cell \/
  (names.map λ(n,k)=>if (k == NameKind.free&&env.scope.kind == .function&&env.kindOf n == some .cell) then (n,NameKind.cell) else (n,k)).lookup x=some .free
 | [],_,h=>by simp at h
 | (n,k)::r,x,h=>by
  have ih:=@vC env r x
  cases hx:x == n with
  | true=>
   simp only[b6,hx] at h
   cases h
   by_cases hc:(NameKind.free == NameKind.free&&env.scope.kind == .function&&env.kindOf n == some .cell)=true
   ·refine .inl ?_
    simp only[ag,bg hc,b6,hx]
   ·refine .inr ?_
    simp only[ag,ap hc,b6,hx]
  | false=>
   simp only[b6,hx] at h
   have ih:=ih h
   by_cases hc:(k == NameKind.free&&env.scope.kind == .function&&env.kindOf n == some .cell)=true
   ·simp only[ag,bg hc,b6,hx]
    exact ih
   ·simp only[ag,ap hc,b6,hx]
    exact ih
theorem uC {env:Env}:∀{names:List (Str×NameKind)}{x:Str}{j:NameKind},(∀y∈names,y.2≠.cell)->(j=.cell\/j=.free)->
  (names.map λ(n,k)=>if (k == NameKind.free&&env.scope.kind == .function&&env.kindOf n == some .cell) then (n,NameKind.cell) else (n,k)).lookup x=some j->(x,.free)∈names
 | [],_,_,_,_,h=>by simp at h
 | (n,k)::r,x,j,hn,hj,h=>by
  have ih:=@uC env r x j (λy hy=>hn y (ac _ hy)) hj
  cases hx:x == n with
  | true=>
   have e:x=n:=by simpa using hx
   subst e
   by_cases hc:(k == NameKind.free&&env.scope.kind == .function&&env.kindOf x == some .cell)=true
   ·have hk:k=.free:=by
     simp only[cm,ia] at hc
     exact hc.1.1
    subst hk
    exact af
   ·simp only[ag,ap hc,b6,hx] at h
    have hk:k=j:=by simpa using h
    rcases hj with z | z
    ·exact absurd (hk.trans z) (hn (x,k) af)
    ·rw[hk,z]
     exact af
  | false=>
   by_cases hc:(k == NameKind.free&&env.scope.kind == .function&&env.kindOf n == some .cell)=true
   ·simp only[ag,bg hc,b6,hx] at h
    exact ac _ (ih h)
   ·simp only[ag,ap hc,b6,hx] at h
    exact ac _ (ih h)
abbrev Cx.comp (X:Cx)(N:oP)(scope:Scope)(C:Addr)(s:Shared)(H:Hp)(fp:o0):Cx where
 prog:=X.prog
 w:=X.w
 K:=X.K
 mg:=X.mg
 base:=X.base
 A:=X.A
 N:=N
 s₀:=s
 H₀:=H
 env:=compEnvC scope (yj X.env scope.names) C X.env
 outer:=X.stack
 stack:=X.stack
 ex:=fp
 fn:=λ_=>false
 calm:=X.calm
 pn:=[]
 xe:=λ_ _=>False
noncomputable def DK (scope:Scope)(ON N:oP)(FH:List (Option Nat)):Bool:=
 FH.length == N.length&&(List.range N.length).all λj=>match FH[j]? with
  | some (some i)=>(match N[j]?,ON[i]? with
   | some x,some y=>x == y&&(scope.names.lookup x == some NameKind.free)
   | _,_=>false)
  | _=>true
structure QU (He scope:Scope)(ON N:oP)(FH:List (Option Nat)):Prop where
 kind:scope.kind=.function
 noc:∀y∈scope.names,y.2≠.cell
 loc:∀y∈scope.names,y.2=.local->scope.names.lookup y.1=some .local
 fr:∀y∈scope.names,y.2=.free->He.names.lookup y.1=some .cell\/He.names.lookup y.1=some .free
 FH:DK scope ON N FH=true
theorem QU.at {He scope:Scope}{ON N:oP}{FH:List (Option Nat)}(S:QU He scope ON N FH){j i:Nat}{x:Str}(h:FH[j]?=some (some i))(hx:N[j]?=some x):ON[i]?=some x/\scope.names.lookup x=some .free:=by
 have h0:=S.FH
 unfold DK at h0
 rw[cm] at h0
 have hj:j < N.length:=(av.mp hx).1
 have h1:=eg.mp h0.2 j (bS.mpr hj)
 rw[h] at h1
 dsimp only at h1
 rw[hx] at h1
 cases hy:ON[i]? with
 | none=>rw[hy] at h1;simp at h1
 | some y=>
  rw[hy] at h1
  simp only[cm,ia] at h1
  exact⟨by rw[h1.1],h1.2⟩
theorem QU.len {He scope:Scope}{ON N:oP}{FH:List (Option Nat)}(S:QU He scope ON N FH):FH.length=N.length:=by
 have h0:=S.FH
 unfold DK at h0
 rw[cm,ia] at h0
 exact h0.1
noncomputable def Fd (σ:St):Option Nat->Option V
 | some i=>(σ[i]?).getD none
 | none=>none
def gw (FH:List (Option Nat))(σ:St):St:=FH.map (Fd σ)
def uD (X:Cx)(ifs:oI)(t:TT):Prop:=
 ∀(Fs:oy) (s:Shared) (σ:St) (H:Hp) (Q:Bool->Hp->Prop),Inv X Fs σ H s->t σ H Q->
  wpAny (model X.prog X.w) X.A (forIn ifs true λc r=>if r=true then do let ok ← isTrue c X.env (eval c X.env);pure (ForInStep.yield ok) else pure (ForInStep.yield r)) (TP X Fs σ Q) X.xe s
def YF:TT:=λ_ H Q=>Q true H
theorem Oi {X:Cx}:uD X [] YF:=λ_ _ _ H _ I h=>wpAny_tests_nil ⟨H,I,h⟩
theorem fG {X:Cx}{c:Expr}{t:TT}(h:PT X c t):uD X [c] t:=λFs s σ H Q I q=>wpAny_tests_one (h Fs s σ H Q I q)
theorem rN {prog:Program}{w:World}{A:Around}{R:Result->Shared->Prop}{s:Shared}{elt target iter:Expr}{ifs:oI}{scope:Scope}{pos:Pos}{it acc:Value}{env:Env}(I:Nat->Shared->Prop)
  (turn:∀n s,I n s->wpAny (model prog w) A (pyNext it) (λr s₁=>match r with
   | none=>R (.ok .next) s₁
   | some v=>wpAny (model prog w) A (letOwnedTupleGo target it v) (λ_ s₁'=>wpAny (model prog w) A (assign target env v) (λ_ s₂=>
     wpAny (model prog w) A (forIn ifs true λc r=>if r=true then do let ok ← isTrue c env (eval c env);pure (ForInStep.yield ok) else pure (ForInStep.yield r)) (λok s₃=>
      if ok=true then wpAny (model prog w) A (eval elt env) (λx s₄=>
       wpAny (model prog w) A (call (.builtin "list.append") [acc,x]) (λ_ s₅=>∃m,m < n/\I m s₅) (λ_ _=>False) s₄) (λ_ _=>False) s₃
      else ∃m,m < n/\I m s₃) (λ_ _=>False) s₂) (λ_ _=>False) s₁') (λ_ _=>False) s₁) (λ_ _=>False) s)
  (n:Nat) (h:I n s):
  codeAny (model prog w) A (.compLoop (.ListComp elt [⟨target,iter,ifs,0⟩] scope pos) 0 it acc env) R s:=by
 refine codeAny_loop rfl I (λn s hI=>?_) n h
 show wpAny _ A ((compTurn (.ListComp elt [⟨target,iter,ifs,0⟩] scope pos) 0 it acc env).onRaise (λx=>do noteFrame x env;theTreesLotGoes x)) _ _ s
 refine wpAny_noted ?_
 rw[compTurn_list]
 refine ab (nX (ab (ff (turn n s hI) (λr s₁ h₁=>?_) λ_ _ h'=>h'.elim)))
 cases r with
 | none=>exact ay h₁
 | some v=>
  refine ab (ff h₁ (λ_ s₁' h₁'=>?_) λ_ _ h'=>h'.elim)
  refine ab (ff h₁' (λ_ s₂ h₂=>ab (ff h₂ (λok s₃ h₃=>?_) λ_ _ h'=>h'.elim)) λ_ _ h'=>h'.elim)
  cases ok with
  | false=>exact ay ⟨rfl,h₃⟩
  | true=>
   exact ab (ab (ff h₃ (λx s₄ h₄=>ab (ff h₄ (λ_ s₅ h₅=>ay (ay ⟨rfl,h₅⟩)) λ_ _ h'=>h'.elim)) λ_ _ h'=>h'.elim))
def Kp (σ σ2:St):Prop:=σ.length=σ2.length/\∀(i:Nat) (v:V),σ[i]?=some (some v)->σ2[i]?=some (some v)
structure TComp (wi:TI)(FH:List (Option Nat))(g:TG)(tt:TT)(te:TE)(σ:St)(H:Hp)(Q:VK):Prop where
 ex:wi σ H λJ H1=>∀D,H1 D=none->∃W:Nat->Nat->List V->Hp->Prop,
 (∃m,W 0 m [] (upd H1 D (.lst [])))/\∀i m ys H,W i m ys H->H D=some (.lst ys)/\((J.stop i H/\Q (.ref D) H) \/
  (J.go i H/\∃N:List V->Hp->Prop,(∀ys' H',N ys' H'->∃m',m' < m/\W (i+1) m' ys' H')/\∀x H',J.yld i H x H'->g x (gw FH σ) H' fun σ2 H2=>Kp (gw FH σ) σ2/\tt σ2 H2 λb H3=>
   if b=true then te σ2 H3 λy H4=>H4 D=some (.lst ys)/\ys.length < sizeLine/\N (ys++[y]) (upd H4 D (.lst (ys++[y]))) else N ys H3))
def DN (wi:TI)(FH:List (Option Nat))(g:TG)(tt:TT)(te:TE):TE:=fun σ H Q=>TComp wi FH g tt te σ H Q
section
variable {X:Cx}{tg iter elt:Expr}{ifs:oI}{scope He:Scope}{ON N:oP}{FH:List (Option Nat)}{wi:TI}{g:TG}{tt:TT}{te:TE}{pos:Pos}
theorem Rm {Fs:oy}{σ:St}{H2:Hp}{s2:Shared}{fp:o0}{C:Addr}(I2:Inv X Fs σ H2 s2)(S:QU He scope ON N FH)(MU:X.env.scope=He)(f2:∀b∈fp,ou X Fs H2 b)
  (hfp:∀b∈fp,b < s2.heap.objs.size) (hC:s2.heap.objs.size<=C):(X.comp N scope C s2 H2 fp).Ok:=by
 have hfr:∀x∈scope.names,x.2=.free->∃c,X.env.cells.lookup x.1=some c:=λx hx e=>I2.ok.has x.1 (by
  rcases S.fr x hx e with z | z
  ·exact .inl (by rw[Env.kindOf,MU];exact z)
  ·exact .inr (by rw[Env.kindOf,MU];exact z))
 refine⟨I2.mod,S.kind,I2.ok.glob,I2.ok.blt,hC,λx y c h1 h2=>I2.ok.inj x y c (qP hfr h1) (qP hfr h2),λx h=>?_,λx c h=>by simp at h,I2.ok.hd,I2.ok.frames,.inl rfl,λb hb=>⟨?_,λx c e=>?_⟩,λb o e=>I2.bs b o e,?_,λb o e hb=>?_,λb hb hz=>?_,I2.stack,I2.PH⟩
 ·have hm:(x,NameKind.free)∈scope.names:=by
   rcases h with h | h
   ·exact uC (env:=X.env) S.noc (.inl rfl) h
   ·exact uC (env:=X.env) S.noc (.inr rfl) h
  exact Lx hm
 ·exact bP (bv (hfp b hb) hC)
 ·exact(f2 b hb).2.2.2.2.1 x c (qP hfr e)
 ·exact cw I2.ok.YE I2.sz
 ·rcases(f2 b hb).2.2.2.1 with z | z
  ·exact I2.ok.Sm b o e z
  ·exact absurd (bv (aE e) (cw I2.ok.YE z)) (d5 _)
 ·obtain⟨_,f1,f3,_⟩:=f2 b hb
  rcases ar.mp (I2.N3 b hz) with z | z
  ·exact f1 z
  ·exact f3 z
theorem Ce {Fs:oy}{s:Shared}{σ:St}{H:Hp}{Q:VK}{RR:Value->Addr->Result->Shared->Prop}{cqual:Str}(hc:X.calm=true)(S:QU He scope ON N FH)(MU:X.env.scope=He)(hN:X.N=ON)
  (hi:PI X tg iter wi) (hg:∀C s H fp,PG (X.comp N scope C s H fp) tg g) (ht:∀C s H fp,uD (X.comp N scope C s H fp) ifs tt) (he:∀C s H fp,PE (X.comp N scope C s H fp) elt te)
  (I:Inv X Fs σ H s) (h:DN wi FH g tt te σ H Q)
  (fin:∀D C H' s',Inv X Fs σ H' s'->ou X Fs H' C->(∃m,s'.heap.Ns C m)->Q (.ref D) H'->RR (.ref D) C (.ok .next) s'):
  wpAny (model X.prog X.w) X.A (eval iter X.env) (λx s₁=>wpAny (model X.prog X.w) X.A (pyIter x) (λitv s₂=>wpAny (model X.prog X.w) X.A (newList []) (λacc s₃=>
   wpAny (model X.prog X.w) X.A (newFunctionEnv scope X.env.globals (yj X.env scope.names) [] X.env.qual none .none (some X.env)) (λcenv s₄=>
    codeAny (model X.prog X.w) X.A (.compStart (.ListComp elt [⟨tg,iter,ifs,0⟩] scope pos) 0 itv acc { cenv with scope:=relabel scope X.env }) (RR acc cenv.locals) s₄) X.xe s₃) X.xe s₂) X.xe s₁) X.xe s:=by
 refine F2 (hi Fs s σ H _ I h.ex) λv s1 h1=>F2 h1 λitv s2 h2=>?_
 obtain⟨it,fp,tn,J,H2,e,I2,T,st2,f2,q2⟩:=h2
 subst e
 refine gg (wpAny_newFunctionEnv S.noc (by intro y hy;simp at hy) (λh₁ Zl SR=>?_) S.kind)
 dsimp only at Zl SR ⊢
 generalize hH2:s2.heap.push { cls:=.type "list",dict:=none,data:=.seq ([]:oB).toArray }=P2 at Zl SR ⊢
 generalize hD:s2.heap.objs.size=D
 generalize hCe:P2.objs.size=C at Zl SR ⊢
 have hCD:C=D+1:=by rw[← hCe,← hH2,dS,hD]
 have Zp:s2.heap.objs.size<=C:=by rw[hCD,hD];exact ow _
 have hfp:∀b∈fp,b < s2.heap.objs.size:=λb hb=>by
  obtain⟨o,e,_⟩:=T.obj 0 _ st2 b hb
  exact aE e
 have below:∀b,b < s2.heap.objs.size->b≠C:=λb hb=>bP (bv hb Zp)
 have k1:∀b o,s2.heap.get? b=some o->h₁.get? b=some o:=λb o e=>SR.extBut b o (below b (aE e)) (am _ (hH2▸am _ e))
 have hDC:D≠C:=by rw[hCD];exact bP (gy _)
 have gD:h₁.get? D=some { cls:=.type "list",dict:=none,data:=.seq ([]:oB).toArray }:=by
  refine SR.extBut D _ hDC (am _ ?_)
  rw[← hH2,← hD]
  exact ba _ rfl
 have nD:H2 D=none:=I2.FL.fresh (by rw[hD];exact aw _)
 have nC:H2 C=none:=I2.FL.fresh Zp
 have hfr:∀x∈scope.names,x.2=.free->∃c,X.env.cells.lookup x.1=some c:=λx hx e=>I2.ok.has x.1 (by
  rcases S.fr x hx e with z | z
  ·exact .inl (by rw[Env.kindOf,MU];exact z)
  ·exact .inr (by rw[Env.kindOf,MU];exact z))
 obtain⟨W,⟨m0,w0⟩,turn⟩:=q2 D nD
 have IY:Inv (X.comp N scope C s2 H2 fp) [] (gw FH σ) (upd H2 D (.lst [])) { s2 with heap:=h₁,toks:=s2.toks+([]:List (Str×Value)).length }:=by
  have hp:s2.heap.objs.size<=D:=by rw[hD];exact aw _
  refine⟨Rm I2 S MU f2 hfp Zp,rfl,I2.bare,Un.laid k1 hp nD,⟨_,Zl,λj x v e1 e2 e3=>?_⟩,λx c e=>?_,?_,λx c e=>?_,λp hp=>by simp at hp,I2.FL.laid k1 hp ⟨da _,[],_,.nil,gD⟩,?_⟩
  ·have Zs:(FH.map (Fd σ))[j]?=some (some v):=e2
   rw[a6] at Zs
   cases q:FH[j]? with
   | none=>rw[q] at Zs;cases Zs
   | some o=>
    rw[q] at Zs
    have e4:Fd σ o=some v:=bi Zs
    cases o with
    | none=>cases e4
    | some i=>
     have hσ:σ[i]?=some (some v):=by
      have e5:(σ[i]?).getD none=some v:=e4
      cases z:σ[i]? with
      | none=>rw[z] at e5;cases e5
      | some w=>rw[z] at e5;exact dr some e5
     obtain⟨hx1,hx2⟩:=S.at q e1
     have hk:X.env.kindOf x=some .cell\/X.env.kindOf x=some .free:=by
      rcases S.fr _ (mem_of_lookup hx2) rfl with z | z
      ·exact .inl (by rw[Env.kindOf,MU];exact z)
      ·exact .inr (by rw[Env.kindOf,MU];exact z)
     obtain⟨m,hn,hl⟩:=I2.loc
     obtain⟨u,r,l⟩:=hl i x v (by rw[hN];exact hx1) hσ (by
      rcases hk with z | z
      ·exact .inr (.inl z)
      ·exact .inr (.inr z))
     refine⟨u,r,?_⟩
     rcases l with ⟨z,_⟩ | ⟨_,c,YN,PU⟩
     ·rcases hk with y | y
      ·rw[y] at z;cases z
      ·rw[y] at z;cases z
     ·obtain⟨c',hc2⟩:=Lx (env:=X.env) (mem_of_lookup hx2)
      have e6:=qP hfr hc2
      rw[YN] at e6
      have e7:c=c':=bi e6
      subst e7
      obtain⟨oc,ho,hd⟩:=PU
      exact .inr ⟨vC (env:=X.env) hx2,c,hc2,⟨oc,k1 c oc ho,hd⟩⟩
  ·obtain⟨v,oc,ho,hd⟩:=I2.cell x c (qP hfr e)
   exact⟨v,oc,k1 c oc ho,hd⟩
  ·show upd H2 D (.lst []) C=none
   rw[aQ (eS hDC)]
   exact nC
  ·have e':=qP hfr e
   obtain⟨v,oc,ho,hd⟩:=I2.cell x c e'
   show upd H2 D (.lst []) c=none
   rw[aQ (λz=>absurd (aE ho) (by rw[z,hD];exact d5 _))]
   exact I2.KA x c e'
  ·show (FH.map (Fd σ)).length=N.length
   rw[ae]
   exact S.len
 have OX:∀{H':Hp},(∀b∈fp,H' b=none)->∀b∈fp,ou (X.comp N scope C s2 H2 fp) [] H' b:=λhn b hb=>by
  obtain⟨_,f1,f3,f4,f5,f6⟩:=f2 b hb
  refine⟨hn b hb,below b (hfp b hb),λhz=>?_,.inl hb,λx c e=>f5 x c (qP hfr e),λp hp=>by simp at hp⟩
  rcases ar.mp (I2.N3 b hz) with z | z
  ·exact f1 z
  ·exact f3 z
 have back:∀{σ':St}{H':Hp}{s':Shared},Inv (X.comp N scope C s2 H2 fp) [] σ' H' s'->Inv X Fs σ H' s':=λ{σ' H' s'} I'=>
  I2.call' (ch:=fp) I'.os I'.base I'.FL I'.bare λb hb=>let ⟨_,f1,_,f4,f5,f6⟩:=f2 b hb;⟨f4,f1,f5,f6⟩
 have st1:tn 0 h₁:=T.keep 0 _ _ st2 λb _ o e=>k1 b o e
 have fr1:∀b∈fp,upd H2 D (.lst []) b=none:=λb hb=>by
  rw[aQ (λz=>absurd (hfp b hb) (by rw[z,hD];exact d5 _))]
  exact(f2 b hb).1
 have loop:codeAny (model X.prog X.w) X.A (.compLoop (.ListComp elt [⟨tg,iter,ifs,0⟩] scope pos) 0 (.ref it) (.ref D) (compEnvC scope (yj X.env scope.names) C X.env)) (RR (.ref D) C) { s2 with heap:=h₁,toks:=s2.toks+([]:List (Str×Value)).length }:=by
  refine rN (λn s'=>∃i ys H',Inv (X.comp N scope C s2 H2 fp) [] (gw FH σ) H' s'/\tn i s'.heap/\(∀b∈fp,H' b=none)/\W i n ys H') ?_ m0 ⟨0,[],_,IY,st1,fr1,w0⟩
  rintro n s3 ⟨i,ys,H3,I3,st3,fr3,w3⟩
  obtain⟨hDy,hturn⟩:=turn i n ys H3 w3
  rcases hturn with ⟨stop,qn⟩ | ⟨go,Nx,hNx,step⟩
  ·refine F2 (T.done (X.comp N scope C s2 H2 fp) rfl rfl rfl hc i [] s3 (gw FH σ) H3 _ I3 (OX fr3) st3 stop) ?_
   rintro r s4 ⟨hr,I4⟩
   subst hr
   obtain⟨m,hm,_⟩:=I4.loc
   exact fin D C H3 s4 (back I4) (I2.N9 Zp I4.free) ⟨m,hm⟩ qn
  ·refine F2 (T.item (X.comp N scope C s2 H2 fp) rfl rfl rfl hc i [] s3 (gw FH σ) H3 _ I3 (OX fr3) st3 go) ?_
   rintro r s4 ⟨u,hr,h4⟩
   subst hr
   refine F2 h4 ?_
   rintro _ s5 ⟨x,H5,I5,r5,y5,st5,fr5⟩
   have I5':=I5.pinned (OX fr5) (T.obj _ _ st5)
   refine F2 (hg C s2 H2 fp _ s5 (gw FH σ) H5 x u _ I5' r5 (step x H5 y5)) ?_
   rintro _ s6 ⟨σ6,H6,I6,kp6,q6⟩
   refine F2 (ht C s2 H2 fp _ s6 σ6 H6 _ I6 q6) ?_
   rintro b s7 ⟨H7,I7,q7⟩
   have again:∀{ys':List V}{H7:Hp}{s7:Shared},Inv (X.comp N scope C s2 H2 fp) ([]++vy fp s5.heap) σ6 H7 s7->Nx ys' H7->∃m,m < n/\∃i ys H',Inv (X.comp N scope C s2 H2 fp) [] (gw FH σ) H' s7/\tn i s7.heap/\(∀b∈fp,H' b=none)/\W i m ys H':=λ{ys' H7 s7} I7 n7=>by
    obtain⟨m',hm,w7⟩:=hNx ys' H7 n7
    refine⟨m',hm,i+1,ys',H7,I7.LJ.weak kp6.1 kp6.2,T.keep _ _ _ st5 λb hb o e=>(I7.pin (b,o) (c5 _ (c5 _ (qp hb e)))).1,λb hb=>?_,w7⟩
    obtain⟨o,e,d⟩:=T.obj _ _ st5 b hb
    exact(I7.pin (b,o) (c5 _ (c5 _ (qp hb e)))).2.1
   cases b with
   | false=>
    rw[ap aT] at q7 ⊢
    exact again I7 q7
   | true=>
    rw[bg rfl] at q7 ⊢
    refine F2 (he C s2 H2 fp _ s7 σ6 H7 _ I7 q7) ?_
    rintro xv s8 ⟨y,H8,I8,r8,hD8,hl8,n8⟩
    refine F2 (vB (X:=X.comp N scope C s2 H2 fp) _ s8 σ6 H8 (.ref D) [y] (.ref D) [xv] (λ_ H9=>Nx (ys++[y]) H9) I8 rfl (.cons r8 .nil) ⟨D,ys,y,rfl,rfl,hD8,hl8,n8⟩) ?_
    rintro _ s9 ⟨_,H9,I9,_,n9⟩
    exact again I9 n9
 subst hD hCe
 exact codeAny_compStart_list loop (T.self _ 0 _ _ _ st1 loop)
theorem Fe {Fs:oy}{s:Shared}{σ:St}{H:Hp}(S:QU He scope ON N FH)(MU:X.env.scope=He)(I:Inv X Fs σ H s):closureFor scope X.env=pure (yj X.env scope.names):=
 CZ λx hx e=>I.ok.has x.1 (by
  rcases S.fr x hx e with z | z
  ·exact .inl (by rw[Env.kindOf,MU];exact z)
  ·exact .inr (by rw[Env.kindOf,MU];exact z))
theorem Inv.letgo {Fs:oy}{s':Shared}{σ:St}{H':Hp}{C:Addr}{h':Heap}(I:Inv X Fs σ H' s')(f:ou X Fs H' C)(hs:Heap.SameBut C s'.heap h'):Inv X Fs σ H' { s' with heap:=h' }:=
 I.turned (t':=s'.toks) (it:=C) (λb o hb e=>(hs.2 b hb).trans e) f.1 f.2.1 f.2.2.2.1 f.2.2.2.2.1 f.2.2.2.2.2
theorem Rn (S:QU He scope ON N FH)(hi:PI X tg iter wi)(hg:∀C s H fp,PG (X.comp N scope C s H fp) tg g)(ht:∀C s H fp,uD (X.comp N scope C s H fp) ifs tt)(he:∀C s H fp,PE (X.comp N scope C s H fp) elt te)
  (hc:autoParam (X.calm=true) r0_) (MU:autoParam (X.env.scope=He) r0_) (hN:autoParam (X.N=ON) r0_) (hs:autoParam (∀x,foldedSetIterable iter X.env x=pure x) r4_):PE X (.ListComp elt [⟨tg,iter,ifs,0⟩] scope pos) (DN wi FH g tt te):=by
 intro Fs s σ H Q I h
 rw[eval_ListComp]
 refine ls (use:=none) rfl hs (Fe S MU I) S.kind S.loc ?_
 refine Ce (RR:=λacc C=>compPost (model X.prog X.w) X.A X.xe none (EP X Fs σ Q) acc C) (cqual := "") hc S MU hN hi hg ht he I h λD C H' s' I' f hm q=>?_
 obtain⟨m,hm⟩:=hm
 exact⟨m,hm,λh' MM=>⟨.ref D,H',I'.letgo f MM,rfl,q⟩⟩
theorem HS {i:Nat}{y:Str}{py L1:Pos}(S:QU He scope ON N FH)(hNd:X.N.Nodup)(LY:X.N[i]?=some y)(hy:Loc X.env.scope y)(hi:PI X tg iter wi)(hg:∀C s H fp,PG (X.comp N scope C s H fp) tg g)(ht:∀C s H fp,uD (X.comp N scope C s H fp) ifs tt)(he:∀C s H fp,PE (X.comp N scope C s H fp) elt te)
  (hsw:autoParam (swapsWith (.ListComp elt [⟨tg,iter,ifs,0⟩] scope pos) (some (.Name y py)) L1.line X.env=pure true) r0_)
  (hc:autoParam (X.calm=true) r0_) (MU:autoParam (X.env.scope=He) r0_) (hN:autoParam (X.N=ON) r0_) (hs:autoParam (∀x,foldedSetIterable iter X.env x=pure x) r4_)
  (hf:autoParam (X.fn y=true\/X.env.scope.names.lookup y=some .local) r2_):
  PS X (.Assign [.Name y py] (.ListComp elt [⟨tg,iter,ifs,0⟩] scope pos) L1) (Nz (DN wi FH g tt te) (wO i)):=by
 intro Fs s σ H D0 I h
 rw[exec_Assign_Name_used _ _ _ _ hsw]
 refine ab (nX (ab ?_))
 show wpAny _ _ (do let _ ← comprehension (.ListComp elt [⟨tg,iter,ifs,0⟩] scope pos) scope X.env _ (newList []) false (eval iter X.env) (some (assign (.Name y py) X.env))) _ _ s
 refine ab (ff (ls (use:=some (assign (.Name y py) X.env)) (Q:=λ_ s'=>SP X Fs D0 .next s') rfl hs (Fe S MU I) S.kind S.loc
  (Ce (RR:=λacc C=>compPost (model X.prog X.w) X.A X.xe (some (assign (.Name y py) X.env)) (λ_ s'=>SP X Fs D0 .next s') acc C) (cqual := "") hc S MU hN hi hg ht he I h λD C H' s' I' f hm q=>?_))
  (λ_ s' hq=>ay (ay hq)) λ_ _ e=>e)
 obtain⟨m,hm⟩:=hm
 show wpAny _ _ (assign (.Name y py) X.env (.ref D)) _ _ s'
 refine wpAny_assign_Name (BR I' hNd LY hy (v:=.ref D) rfl (λs'' I'' Sb=>?_) hf)
 obtain⟨a,hsb,ha⟩:=Sb
 have nCa:C≠a:=by
  rintro rfl
  rcases ha with z | z
  ·exact f.2.1 z
  ·exact f.2.2.2.2.1 y C z rfl
 refine⟨m,hm.sameBut hsb nCa,λh' MM=>⟨_,H',I''.letgo f MM,q⟩⟩
end
section
variable {X:Cx}{Fs:oy}{σ:St}{H H':Hp}{s:Shared}{h':Heap}
theorem Inv.P5 {t':Nat}{ch:o0}{a:Addr}{o:HO}(I:Inv X Fs σ H s)(k:∀b u,b∉ch->s.heap.get? b=some u->h'.get? b=some u)(ht:∀b u,s.heap.get? b=some u->∃u',h'.get? b=some u')(hf:∀b∈ch,ou X Fs H b)
  (hp:s.heap.objs.size<=a) (new:FX X.prog X.w X.K (upd H a o) h' a o):Inv X Fs σ (upd H a o) { s with heap:=h',toks:=t' }:=by
 have hn:H a=none:=I.FL.fresh hp
 have Sn:∀b u,H b=some u->b∉ch:=λb u e hb=>by
  rw[(hf b hb).1] at e;cases e
 have na:∀b u,s.heap.get? b=some u->b≠a:=λb u e=>bP (bv (aE e) hp)
 have hhok:LA X.prog X.w X.K (upd H a o) h':=λb u e=>by
  by_cases hb:b=a
  ·subst hb;rw[bx] at e;cases e;exact new
  ·rw[aQ hb] at e
   refine(I.FL b u e).OK (λc v hc q=>k c v ?_ q) (λc q=>by rw[aQ (bz q hn)];exact q) λc xs q=>by rw[aQ (bz q hn)];exact q
   rcases hc with rfl | hc
   ·exact Sn c u e
   ·exact Sn c _ hc
 refine I.step (g':=s.gens) (d':=s.drawn) (ch:=ch) (λb hb=>let ⟨_,f1,_,f4,f5,f6⟩:=hf b hb;⟨f4,f1,f5,f6⟩) (λb o _ _ hc e _=>k b o hc e) (λb o _ _ hc e _=>⟨o.slots,k b o hc e⟩)
  (λb o _ e n=>by rw[aQ (na b o e)];exact n) (λb o _ e=>ht b o e) (λb xs q=>by rw[aQ (bz q hn)];exact q) (λb u xs q=>by rw[aQ (bz q hn)];exact q)
  (λb ps q=>⟨#[],by rw[aQ (bz q hn),q];simp⟩) (λm hm=>?_) hhok I.bare
 obtain⟨oL,es,ep,ho,r⟩:=hm
 have nL:X.env.locals∉ch:=λhb=>(hf _ hb).2.1 rfl
 exact⟨oL,es,ep,k _ oL nL ho,r⟩
end
def NF (x:Str):It:=⟨λi _=>i < x.cps.size,λi H v H'=>H'=H/\∃c,x.cps[i]?=some c/\v=.str ⟨#[c]⟩,λi _=>i=x.cps.size⟩
theorem Ff {P:Program}{w:World}{K:W.Frag}{tg:Expr}(it:Addr)(x:Str)(t:Tok)(ty:String)(hty:["enumerate","zip","dict_itemiterator","dict_reverseitemiterator","odict_iterator","itertools.zip_longest","itertools.pairwise"].contains ty=false)
  (W:∀A:Around,A.handled=none->Walks P w A it [it] [it] x.cps.size (SignAt x) (λi h=>h.IsStrIter it ty x t i))
  (slf:∀(A:Around) (i:Nat) (s:Shared) (Q:ox) (E:ox),s.heap.IsStrIter it ty x t i->Q (.ref it) s->wpAny (model P w) A (pyIter (.ref it)) Q E s):
  Turn P w K tg (NF x) [it] it (λi h=>h.IsStrIter it ty x t i) where
 mem:=by simp
 obj:=λi h st b hb=>by
  have e:b=it:=by simpa using hb
  subst e
  obtain⟨o,e,c,d⟩:=st
  exact⟨o,e,λv z=>by rw[d] at z;cases z⟩
 keep:=λi h h' st k=>by
  obtain⟨o,e,r⟩:=st
  exact⟨o,k it (by simp) o e,r⟩
 item:=by
  intro X hP hw hK hc i Fs s σ H E I hf st hg
  subst hP hw hK
  obtain⟨f0,f1,f2,f3,f4,f5⟩:=hf it (by simp)
  refine(W X.A (I.ok.hd hc)).item i s _ _ hg st λv h' tk hv OE kk=>?_
  obtain⟨c,u,hx,rfl⟩:=hv
  have I1:Inv X Fs σ H { s with heap:=h',toks:=tk }:=I.turned (λb o hb e=>kk b o (by simpa using hb) e) f0 f1 f3 f4 f5
  obtain⟨o,e,cc,d⟩:=id OE
  exact⟨_,rfl,wQ (s:={ s with heap:=h',toks:=tk }) e cc d hty ⟨.str ⟨#[c]⟩,H,I1,⟨u,rfl⟩,⟨rfl,c,hx,rfl⟩,OE,λb hb=>(hf b hb).1⟩⟩
 done:=by
  intro X hP hw hK hc i Fs s σ H E I hf st hg
  subst hP hw hK
  obtain⟨f0,f1,f2,f3,f4,f5⟩:=hf it (by simp)
  have hg':i=x.cps.size:=hg
  subst hg'
  exact(W X.A (I.ok.hd hc)).done s _ _ st λh' tk kk=>⟨rfl,I.turned (λb o hb e=>kk b o (by simpa using hb) e) f0 f1 f3 f4 f5⟩
 self:=slf
section
variable {X:Cx}{tg:Expr}
def YG (tl:TE):TI:=fun σ H R=>tl σ H λx H1=>∃z,x=.str z/\R (NF z) H1
theorem U4 {l:Expr}{tl:TE}(hl:PE X l tl):PI X tg l (YG tl):=by
 intro Fs s σ H R I h
 refine F2 (hl Fs s σ H _ I h) ?_
 rintro v s1 ⟨x,H1,I1,r1,q1⟩
 obtain⟨z,e,q⟩:=q1
 subst e
 obtain⟨t,rfl⟩:=r1
 have fp:∀b∈[s1.heap.objs.size],ou X Fs H1 b:=λb hb=>by
  have e:b=s1.heap.objs.size:=by simpa using hb
  subst e
  exact I1.N9 (aw _) (I1.FL.fresh (aw _))
 cases ha:z.cps.all (· < 128)
 ·exact wpAny_pyIter_wide ha ⟨s1.heap.objs.size,[s1.heap.objs.size],_,_,H1,rfl,I1.kept (t':=s1.toks) λb o e=>am _ e,Ff _ z t "str_iterator" (by decide) (λA hA=>Walks.strWide hA _ z t) (λA i s Q E st h=>wpAny_pyIter_striter_wide st h),⟨_,ba _ rfl,rfl,rfl⟩,fp,q⟩
 ·exact wpAny_pyIter_ascii ha ⟨s1.heap.objs.size,[s1.heap.objs.size],_,_,H1,rfl,I1.kept (t':=s1.toks) λb o e=>am _ e,Ff _ z t "str_ascii_iterator" (by decide) (λA hA=>Walks.strAscii hA _ z t) (λA i s Q E st h=>wpAny_pyIter_striter_ascii st h),⟨_,ba _ rfl,rfl,rfl⟩,fp,q⟩
end
section
variable {X:Cx}
theorem Cg:∀{l:List (Str×Tok)}{zs:oP},l.map (·.1)=zs->Vals (zs.map V.str) (strValues l)
 | [],_,e=>by subst e;exact .nil
 | (x,t)::r,_,e=>by subst e;exact .cons ⟨t,rfl⟩ (Cg rfl)
theorem vD:∀{zs:oP}{us:oB},Vals (zs.map V.str) us->∃l:List (Str×Tok),us=strValues l/\l.map (·.1)=zs
 | [],_,r=>by cases r;exact⟨[],rfl,rfl⟩
 | z::zs,_,r=>by
  cases r with
  | cons r1 r2=>
   obtain⟨t,rfl⟩:=r1
   obtain⟨l,rfl,e⟩:=vD r2
   exact⟨(z,t)::l,rfl,by rw[ag,e]⟩
def Ly:V->List V->Hp->VK->Prop:=λx vs H Q=>∃z y,x=.str z/\vs=[.str y]/\(y.length == 0)=false/\z.length<=1000000/\∀l,H l=none->Q (.ref l) (upd H l (.lst ((Txt.split z y).map V.str)))
theorem Ci (x y:Str):(Builtin.Str.partsBetween x (Builtin.Str.occurrences x y 0 x.length (x.length+1)) y.length).length<=x.length+2:=by
 have h:=StrLaws.occ_length_le_len x y 0 x.length (x.length+1)
 unfold Builtin.Str.partsBetween
 simp only[ae,List.length_zip,bm,ax,gS]
 omega
theorem split_len {x y:Str}:(Txt.split x y).length<=x.length+2:=by
 unfold Txt.split
 split
 ·simp
 ·split
  ·simp
  ·exact Ci x y
theorem Oj:MtR X "str.split" Ly:=by
 intro Fs s σ H x vs v us Q I rx rv h
 obtain⟨z,y,rfl,rfl,hy,hz,q⟩:=h
 obtain⟨t,rfl⟩:=rx
 obtain⟨u,rfl,u',rfl⟩:=rv.one
 have sl:=@split_len z y
 have hz2:z.length<=sizeLine:=cw hz (by decide)
 have hz3:z.length+2<=sizeLine:=cw (Nat.add_le_add_right hz 2) (by decide)
 have e0:∀(l:List (Str×Tok)) (t':Nat),l.map (·.1)=Txt.split z y->EP X Fs σ Q (.ref s.heap.objs.size) { s with heap:=s.heap.push { cls:=.type "list",data:=.seq (strValues l).toArray },toks:=t' }:=λl t' e=>
  ⟨.ref s.heap.objs.size,_,I.lnew (Cg e) (by
   rw[ae]
   exact cw sl hz3),rfl,q _ I.fresh⟩
 cases h1:(decide (z.length < y.length)||decide (Builtin.Str.strKind z < Builtin.Str.strKind y))
 ·cases hf:(Builtin.Str.occurrences z y 0 z.length (z.length+1)).isEmpty
  ·refine kc l5 (kT _ _ _) le (kU _ _) (meets_str_split_sep z y t u' h1 hy hf hz2 (cw (Ci z y) hz3)) ?_
   show wants _ _ _ { s with toks:=_,heap:=s.heap.push { cls:=.type "list",data:=.seq (strsFrom s.toks (Builtin.Str.partsBetween z (Builtin.Str.occurrences z y 0 z.length (z.length+1)) y.length)).toArray } }
   rw[strsFrom_eq]
   exact e0 (numbered s.toks _) _ ((numbered_texts _ _).trans ((ap (kD h1)).trans (ap (kD hf))).symm)
  ·exact kc l5 (kT _ _ _) le (kU _ _) (meets_str_split_not_found z y t u' h1 hy hf)
    (e0 [(z,t)] s.toks ((ap (kD h1)).trans (bg hf)).symm)
 ·exact kc l5 (kT _ _ _) le (kU _ _) (meets_str_split_cannot_occur z y t u' h1) (e0 [(z,t)] s.toks (bg h1).symm)
def rJoin (K:W.Frag):V->List V->Hp->VK->Prop:=λx vs H Q=>∃z l zs,x=.str z/\vs=[.ref l]/\F7 K H l (zs.map V.str)/\JoinOk z zs=true/\Q (.str (Str.join z zs)) H
theorem Ro:MtR X "str.join" (rJoin X.K):=by
 intro Fs s σ H x vs v us Q I rx rv h
 obtain⟨z,l,zs,rfl,rfl,hl,ok,q⟩:=h
 obtain⟨t,rfl⟩:=rx
 obtain⟨u,rfl,ru⟩:=rv.one
 cases ru
 obtain⟨FD,r,p,_⟩:=I.list hl
 obtain⟨l',e,e2⟩:=vD r
 subst e
 refine SC.join p.isList e2 ok λt' k=>⟨.str (Str.join z zs),H,I.tok _,⟨t',?_⟩,q⟩
 unfold Txt.join
 rw[StrLaws.glued_eq_join]
theorem Cj {bs:List Bool}{us:oB}(r:Vals (bs.map V.bl) us){i:Nat}{v:Value}(e:us[i]?=some v):∃b,bs[i]?=some b/\v=.bool b:=by
 have hl:=r.length
 rw[ae] at hl
 have hi:i < us.length:=(av.mp e).1
 have hb:bs[i]?=some bs[i]:=ah (by omega)
 obtain⟨u,h1,h2⟩:=r.get (i:=i) (x:=.bl bs[i]) (by rw[a6,hb] <;> rfl)
 rw[e] at h1
 cases h1
 exact⟨_,hb,h2⟩
theorem range_all {bs:List Bool}{n:Nat}(hn:n=bs.length):((List.range n).all λi=>(bs[i]?).getD true)=bs.all id:=by
 subst hn
 rw[gI]
 simp only[eg,bS,id]
 constructor
 ·intro h x hx
  obtain⟨i,hi,e⟩:=nv.mp hx
  have:=h i hi
  rw[ah hi] at this
  rw[← e]
  exact this
 ·intro h i hi
  rw[ah hi]
  exact h _ (fI hi)
theorem range_any {bs:List Bool}{n:Nat}(hn:n=bs.length):((List.range n).any λi=>(bs[i]?).getD true)=bs.any id:=by
 subst hn
 rw[gI]
 simp only[fR,bS,id]
 constructor
 ·rintro ⟨i,hi,h⟩
  rw[ah hi] at h
  exact⟨_,fI hi,h⟩
 ·rintro ⟨x,hx,h⟩
  obtain⟨i,hi,e⟩:=nv.mp hx
  refine⟨i,hi,?_⟩
  rw[ah hi]
  show bs[i]=true
  rw[e]
  exact h
theorem kept_iter {h h':Heap}{o:Obj}(hk:∀b x,b∉[h.objs.size]->(h.push o).get? b=some x->h'.get? b=some x):∀b x,h.get? b=some x->h'.get? b=some x:=
 λb x e=>hk b x (λhm=>by rw[aS.mp hm] at e;exact d5 _ (aE e)) (am _ e)
theorem Ol (hc:autoParam (X.calm=true) r0_):GN X (.builtin "all") (λxs H Q=>∃(p:Addr) (bs:List Bool),xs=[.ref p]/\F7 X.K H p (bs.map V.bl)/\Q (.bl (bs.all id)) H):=by
 intro Fs s σ H xs us Q I r h
 obtain⟨l,bs,rfl,hq,q⟩:=h
 obtain⟨u,rfl,rx⟩:=vals1 r
 cases rx
 obtain⟨FD,r',pl,hz⟩:=I.list hq
 have hl:=pl.isList
 have hlen:=r'.length
 rw[ae] at hlen
 have IT:l < s.heap.objs.size:=by obtain⟨_,e,_⟩:=hl;exact aE e
 have hh:=I.ok.hd hc
 refine call_all_walk (gl hl ?_)
 refine⟨s.heap.objs.size,[s.heap.objs.size,l],[s.heap.objs.size],FD.toArray.size,_,_,λi=>(bs[i]?).getD true,rfl,Walks.list (A:=X.A.in1) hh _ l (bP IT) FD.toArray,
  ⟨⟨_,ba _ rfl,rfl,rfl⟩,hl.push _⟩,λi v s' Q' E' hP hQ=>?_,λh' tk hk=>?_⟩
 ·obtain⟨b,e,rfl⟩:=Cj r' (i:=i) (v:=v) (by simpa using hP)
  simp only[e,eP] at hQ
  exact fk hQ
 ·refine⟨.bl (bs.all id),H,I.kept (kept_iter hk),?_,q⟩
  rw[range_all (by simp[hlen])]
  rfl
theorem Om (hc:autoParam (X.calm=true) r0_):GN X (.builtin "any") (λxs H Q=>∃(p:Addr) (bs:List Bool),xs=[.ref p]/\F7 X.K H p (bs.map V.bl)/\Q (.bl (bs.any id)) H):=by
 intro Fs s σ H xs us Q I r h
 obtain⟨l,bs,rfl,hq,q⟩:=h
 obtain⟨u,rfl,rx⟩:=vals1 r
 cases rx
 obtain⟨FD,r',pl,hz⟩:=I.list hq
 have hl:=pl.isList
 have hlen:=r'.length
 rw[ae] at hlen
 have IT:l < s.heap.objs.size:=by obtain⟨_,e,_⟩:=hl;exact aE e
 have hh:=I.ok.hd hc
 refine call_any_walk (gl hl ?_)
 refine⟨s.heap.objs.size,[s.heap.objs.size,l],[s.heap.objs.size],FD.toArray.size,_,_,λi=>(bs[i]?).getD true,rfl,Walks.list (A:=X.A.in1) hh _ l (bP IT) FD.toArray,
  ⟨⟨_,ba _ rfl,rfl,rfl⟩,hl.push _⟩,λi v s' Q' E' hP hQ=>?_,λh' tk hk=>?_⟩
 ·obtain⟨b,e,rfl⟩:=Cj r' (i:=i) (v:=v) (by simpa using hP)
  simp only[e,eP] at hQ
  exact fk hQ
 ·refine⟨.bl (bs.any id),H,I.kept (kept_iter hk),?_,q⟩
  rw[range_any (by simp[hlen])]
  rfl
theorem Ah (hc:autoParam (X.calm=true) r0_):GN X (.type "list") (λxs H Q=>∃p kvs,xs=[.ref p]/\H p=some (.dK kvs)/\∀l,H l=none->Q (.ref l) (upd H l (.lst (kvs.map λkv=>kV kv.1)))):=by
 intro Fs s σ H xs us Q I r h
 obtain⟨p,kvs,rfl,hp,q⟩:=h
 obtain⟨u,rfl,rx⟩:=vals1 r
 cases rx
 obtain⟨hz,lo,vs,rel,hD⟩:=Qx I.FL hp
 obtain⟨o,es,ep,ho,hx,hd,hk,hpr,hn⟩:=hD
 have hlen:=rel.length
 refine W.kdl_call (W.kdl_dict (knd:=jm X.prog X.w) (kvs:=vs) (ep:=ep) lo) (I.ok.hd hc) ⟨o,es,ho,hx,hd,hk,hpr,hn⟩ (by omega) λh' tk LN c' kk hS hacc=>?_
 have hv:Vals (kvs.map λkv=>kV kv.1) LN.toList:=by
  have gen:∀(l:List (Key×V)) (l2:List (Key×Value)) (us:oB),KV l l2->us.length=l2.length->(∀(j:Nat) (v:Value),us[j]?=some v->∃k x,l2[j]?=some (k,x)/\(jm X.prog X.w).is k v=true)->Vals (l.map λkv=>kV kv.1) us:=by
   intro l
   induction l with
   | nil=>
    intro l2 us hr hl hu
    cases hr
    have:us=[]:=iS.mp hl
    subst this
    exact .nil
   | cons a r ih=>
    intro l2 us hr hl hu
    cases hr with
    | @cons _ b _ r2 h1 h2=>
     cases us with
     | nil=>simp at hl
     | cons v us=>
      obtain⟨k,x,e,hk⟩:=hu 0 v rfl
      have e':b=(k,x):=by simpa using e
      have ek:a.1=k:=by rw[h1.1,e']
      refine .cons ?_ (ih r2 us h2 (by simpa using hl) λj w e=>by simpa using hu (j+1) w (by simpa using e))
      show RelV (kV a.1) v
      rw[ek]
      rcases cZ hk with ⟨i,t,rfl,rfl⟩ | ⟨x,t,rfl,rfl⟩
      ·exact⟨t,rfl⟩
      ·exact⟨t,rfl⟩
  refine gen kvs vs LN.toList rel (by rw[ci];exact hacc.1) λj v e=>hacc.2 j v (by rw[← g5];exact e)
 refine⟨.ref s.heap.objs.size,_,I.laid kk (aw _) (show FX X.prog X.w X.K _ h' _ (.lst _) from ⟨?_,LN.toList,c',hv,?_⟩),rfl,q _ I.fresh⟩
 ·rw[ae];omega
 ·simpa using hS
mutual
inductive Dt (K:W.Frag) (H:Hp):V->PyData->Prop
 | FG:Dt K H .FG .none
 | bl (b:Bool):Dt K H (.bl b) (.bool b)
 | int (i:Int):Dt K H (.int i) (.int i)
 | str (x:Str):Dt K H (.str x) (.str x)
 | lst {a:Addr}{xs:List V}{ds:List PyData}:F7 K H a xs->Pe K H xs ds->Dt K H (.ref a) (.list ds)
 | tup {a:Addr}{xs:List V}{ds:List PyData}:LD K H a xs->Pe K H xs ds->Dt K H (.ref a) (.tuple ds)
inductive Pe (K:W.Frag) (H:Hp):List V->List PyData->Prop
 | nil:Pe K H [] []
 | cons {x:V}{xs:List V}{d:PyData}{ds:List PyData}:Dt K H x d->Pe K H xs ds->Pe K H (x::xs) (d::ds)
end
mutual
theorem Dt.reads {Fs:oy}{σ:St}{H:Hp}{s:Shared}(I:Inv X Fs σ H s):∀{x:V}{d:PyData}{u:Value},Dt X.K H x d->RelV x u->∃as,Reads s.heap u d as
 | _,_,_,.FG,r=>by cases r;exact⟨[],.none⟩
 | _,_,_,.bl b,r=>by cases r;exact⟨[],.bool b⟩
 | _,_,_,.int i,r=>by obtain⟨t,rfl⟩:=r;exact⟨[],.int i t⟩
 | _,_,_,.str x,r=>by obtain⟨t,rfl⟩:=r;exact⟨[],.str x t⟩
 | _,_,_,.lst hq hs,r=>by
  cases r
  obtain⟨FD,rv,pl,_⟩:=I.list hq
  obtain⟨o,e,c,n,d⟩:=pl.isList
  obtain⟨as,ra⟩:=Pe.reads I hs rv
  exact⟨_,.list e c d (by simpa using ra)⟩
 | _,_,_,.tup hq hs,r=>by
  cases r
  obtain⟨FD,rv,pl,_⟩:=I.tuple hq
  obtain⟨o,e,c,n,d⟩:=pl
  obtain⟨as,ra⟩:=Pe.reads I hs rv
  exact⟨_,.tuple e c d (by simpa using ra)⟩
theorem Pe.reads {Fs:oy}{σ:St}{H:Hp}{s:Shared}(I:Inv X Fs σ H s):∀{xs:List V}{ds:List PyData}{us:oB},Pe X.K H xs ds->Vals xs us->∃as,ReadsAll s.heap us ds as
 | _,_,_,.nil,r=>by cases r;exact⟨[],.nil⟩
 | _,_,_,.cons h hs,r=>by
  cases r with
  | cons r1 r2=>
   obtain⟨as,ra⟩:=Dt.reads I h r1
   obtain⟨bs,rb⟩:=Pe.reads I hs r2
   exact⟨_,.cons ra rb⟩
end
theorem U5 (hu:X.A.units+64 < cLine):HL X (compareOp .Eq) (λx y H Q=>∃d e,Dt X.K H x d/\Dt X.K H y e/\SeqAt.shaped d=true/\SeqAt.shaped e=true/\Q (.bl (PyData.eqv d e)) H):=by
 intro Fs s σ H x y v u Q I rx ry h
 obtain⟨d,e,h1,h2,s1,s2,q⟩:=h
 obtain⟨as,ra⟩:=h1.reads I rx
 obtain⟨bs,rb⟩:=h2.reads I ry
 exact eq_dataH ra rb s1 s2 hu ⟨.bl _,H,I,rfl,q⟩
theorem U6 (hu:X.A.units+64 < cLine):HL X (compareOp .NotEq) (λx y H Q=>∃d e,Dt X.K H x d/\Dt X.K H y e/\SeqAt.shaped d=true/\SeqAt.shaped e=true/\Q (.bl (!PyData.eqv d e)) H):=by
 intro Fs s σ H x y v u Q I rx ry h
 obtain⟨d,e,h1,h2,s1,s2,q⟩:=h
 obtain⟨as,ra⟩:=h1.reads I rx
 obtain⟨bs,rb⟩:=h2.reads I ry
 exact ne_dataH ra rb s1 s2 hu ⟨.bl _,H,I,rfl,q⟩
theorem Ho:GN X (.builtin "isinstance") (λxs H Q=>∃x n t b,xs=[x,.ty n]/\K2 X.K H x t/\W.kitOne X.K t (.type n)=some b/\Q (.bl b) H):=by
 intro Fs s σ H xs us Q I r h
 obtain⟨x,n,t,b,rfl,ty,e,q⟩:=h
 obtain⟨u,w',rfl,r1,r2⟩:=vals2 r
 cases r2
 exact Ld I r1 ty e λtk=>⟨.bl b,H,I.tok _,rfl,q⟩
end
structure XW (P:Program)(w:World)(K:W.Frag)(mg:Str->Option Value)(base:Heap)(k:Nat)(x:Str)(ps:oP)(sp:Sp):Prop where
 ex:∃f fd,GY P w K mg base MS k f fd ps sp/\Binds K fd ps []/\W.keepIn K (.ref f)=true/\mg x=some (.ref f)
theorem U7 {P:Program}{w:World}{K:W.Frag}{mg:Str->Option Value}{base:Heap}{k:Nat}{x:Str}{ps:oP}{sp:Sp}{st:Stmt}{f:Addr}{fd:FuncData}(F:LB K x x st f fd)
  (hm:mg x=some (.ref f)) (hb:Binds K fd ps []) (G:GY P w K mg base MS k f fd ps sp):XW P w K mg base k x ps sp:=⟨f,fd,G,hb,F.kp,hm⟩
theorem Lz {X:Cx}{k j:Nat}{x:Str}{ps:oP}{sp:Sp}{p pos:Pos}{e:Expr}{es:oI}{t:TA}(c:XW X.prog X.w X.K X.mg X.base k x ps sp)(hr:F5 j X.A)(ha:PA X (e::es) t)(hle:autoParam (k<=j) r1_)(hg:autoParam (Gl X x) r0_)
  (MQ:autoParam ((x == ("__debug__" : Str))=false) r1_) (he:autoParam (starEach (e::es) X.env=(false,eval e X.env)::starEach es X.env) r0_) (HM:autoParam ((backTo pos (starEach es X.env)).any (·.1)=false) r0_):
  PE X (.Call (.Name x p) (e::es) [] pos) (Qt sp [] E0 t):=by
 obtain⟨f,fd,G,hb,kp,hm⟩:=c.ex
 exact Q8 G (hr.mono hle) hg hm kp hb .nil DG ha MQ he HM
theorem bI {H:Hp}{p:Addr}(h:H p=none)(o:HO):FE H (upd H p o):=λb u q=>by rw[aQ (bz q h)];exact q
theorem FE.new {H H':Hp}{p:Addr}(s:FE H H')(h:H' p=none)(o:HO):FE H (upd H' p o):=s.trans (bI h o)
theorem jN {n:Nat}(h:n<=1000000):n < sizeLine:=Nat.lt_of_le_of_lt h (by decide)
noncomputable def gQ (x:Str)(lo hi:Option Int):Str:=⟨((x.cps.toList.drop (HT.IF x.length 0 lo)).take (HT.IF x.length x.length hi - HT.IF x.length 0 lo)).toArray⟩
theorem Rp (lo hi:Option Int)(n:Nat):Builtin.Str.strSliceIndices lo hi 1 n=(List.range (HT.IF n n hi - HT.IF n 0 lo)).map (HT.IF n 0 lo+·):=by
 rw[← sliceRange_one]
 unfold Builtin.Str.strSliceIndices
 have cl:∀(o:Option Int) (d:Nat),d<=n->(match o with | none=>(d:Int) | some i=>let i:=if i < 0 then i+(n:Int) else i;if (1:Int) > 0 then max 0 (min i (n:Int)) else max (-1) (min i ((n:Int) - 1)))=((HT.IF n d o:Nat):Int):=λo d hd=>by
  cases o with
  | none=>rfl
  | some i=>
   simp only[HT.IF,show (1:Int) > 0 by decide,g9]
   by_cases h:i < 0
   ·simp only[h,g9] <;> omega
   ·simp only[h,gx] <;> omega
 have c1:=cl lo 0 (da _)
 have c2:=cl hi n (aw _)
 simp only[show (1:Int) > 0 by decide,g9] at c1 c2 ⊢
 exact congr (dr sliceRange c1) c2▸rfl
theorem Oo (x:Str)(t:Tok)(l u:Option (Int×Tok)){Q:ox}{s:Shared}(hl:x.length<=sizeLine)
  (h:∀t' s',(s'=s\/s'={ s with toks:=s.toks+1 })->Q (.str (gQ x (l.map (·.1)) (u.map (·.1))) t') s'):(sliceMade x t l u none).post Q s:=by
 unfold sliceMade slicePicked
 have e:Builtin.Str.strSliceIndices (l.map (·.1)) (u.map (·.1)) ((((none:Option (Int×Tok)).map (·.1)).getD 1)) x.length=_:=Rp (l.map (·.1)) (u.map (·.1)) x.length
 rw[e]
 have hp:=pick_run x.cps (HT.IF x.length 0 (l.map (·.1))) (HT.IF x.length x.length (u.map (·.1)) - HT.IF x.length 0 (l.map (·.1)))
 have hs:HT.IF x.length x.length (u.map (·.1))<=x.length:=HT.sIx_le _ _ (aw _) _
 have hc:x.length=x.cps.toList.length:=by rfl
 by_cases hw:((((none:Option (Int×Tok)).map (·.1)).getD 1 == 1&&((List.range (HT.IF x.length x.length (u.map (·.1)) - HT.IF x.length 0 (l.map (·.1)))).map (HT.IF x.length 0 (l.map (·.1))+·)).length == x.length)=true)
 ·rw[bg hw]
  show Q (.str x t) s
  have hn:HT.IF x.length x.length (u.map (·.1)) - HT.IF x.length 0 (l.map (·.1))=x.length:=by
   have:=(cm _ _▸hw).2
   simpa using this
  have e2:gQ x (l.map (·.1)) (u.map (·.1))=x:=by
   unfold gQ
   rw[hn]
   by_cases h0:x.length=0
   ·have:x.cps.toList=[]:=kg (by omega)
    cases x with | mk c=>simp at this;subst this;rfl
   ·have h1:HT.IF x.length 0 (l.map (·.1))=0:=by omega
    rw[h1,ny,hc,List.take_length]
  have:=h t s (.inl rfl)
  rw[e2] at this
  exact this
 ·rw[ap hw,hp]
  refine⟨?_,h _ _ (.inr rfl)⟩
  show ((x.cps.toList.drop _).take _).toArray.size<=sizeLine
  rw[a7,lP,List.length_drop,← hc]
  omega
section
variable {X:Cx}
def U8:V->Option Int->Option Int->Hp->VK->Prop:=λx lo hi H Q=>∃z,x=.str z/\z.length<=sizeLine/\Q (.str (gQ z lo hi)) H
theorem U9:SlR X U8:=by
 intro Fs s σ H x v vl vu lo hi sl Q I rx hs pl pu h
 obtain⟨z,rfl,hz,q⟩:=h
 obtain⟨t,rfl⟩:=rx
 refine⟨"str",_,slot_str_getitem.lookup,kT s z t,?_⟩
 have part:∀{v:Value}{o:Option Int},IsPart v o->∃p:Option (Int×Tok),v=partValue p/\p.map (·.1)=o:=λp=>by
  cases p with
  | none=>exact⟨none,rfl,rfl⟩
  | int i t=>exact⟨some (i,t),rfl,rfl⟩
 obtain⟨l,rfl,rfl⟩:=part pl
 obtain⟨u,rfl,rfl⟩:=part pu
 refine wpAny_getItem_str_slice (l:=l) (u:=u) (st:=none) hs rfl (Oo z t l u hz λt' s' MM=>?_)
 rcases MM with rfl | rfl
 ·exact⟨.str (gQ z (l.map (·.1)) (u.map (·.1))),H,I,⟨t',rfl⟩,q⟩
 ·exact⟨.str (gQ z (l.map (·.1)) (u.map (·.1))),H,I.tok _,⟨t',rfl⟩,q⟩
def U_ (K:W.Frag):V->Option Int->Option Int->Hp->VK->Prop:=λx lo hi H Q=>UT K x lo hi H Q\/U8 x lo hi H Q
theorem Va:SlR X (U_ X.K):=YU.or U9
end
end Lake.L2
namespace Lake.MR
open PySem L2
inductive PV where
 | FG | bl (b:Bool) | int (i:Int) | str (x:Str)
 | lst (xs:List PV) | frz (xs:List PV) | tup (xs:List PV) | ktp (xs:List PV)
 | dK (kvs:List (Key×PV)) | dT (kvs:List (List Key×PV))
 | obj (c:Nat) (fs:List (Str×PV))
structure MC where
 K:W.Frag
 cl:Nat->Addr
mutual
inductive Rep (C:MC) (A:Addr->Prop) (H:Hp):V->PV->Prop
 | FG:Rep C A H .FG .FG
 | bl (b:Bool):Rep C A H (.bl b) (.bl b)
 | int (i:Int):Rep C A H (.int i) (.int i)
 | str (x:Str):Rep C A H (.str x) (.str x)
 | lst {a:Addr}{vs:List V}{xs:List PV}:H a=some (.lst vs)->A a->FA C A H vs xs->Rep C A H (.ref a) (.lst xs)
 | QY {a:Addr}{o:Obj}{vs:List V}{xs:List PV}:H a=some (.frz o (.lst vs))->FA C A H vs xs->Rep C A H (.ref a) (.frz xs)
 | lstK {a:Addr}{vs:List V}{xs:List PV}:F7 C.K (λ_=>none) a vs->FA C A H vs xs->Rep C A H (.ref a) (.frz xs)
 | tup {a:Addr}{vs:List V}{xs:List PV}:H a=some (.tup vs)->FA C A H vs xs->Rep C A H (.ref a) (.tup xs)
 | OO {a:Addr}{vs:List V}{xs:List PV}:QE C.K a vs->FA C A H vs xs->Rep C A H (.ref a) (.tup xs)
 | tupK {a:Addr}{vs:List V}{xs:List PV}:LD C.K (λ_=>none) a vs->FA C A H vs xs->Rep C A H (.ref a) (.ktp xs)
 | dK {a:Addr}{kv:List (Key×V)}{kvs:List (Key×PV)}:H a=some (.dK kv)->A a->GA C A H kv kvs->Rep C A H (.ref a) (.dK kvs)
 | dT {a:Addr}{kv:List (List Key×V)}{kvs:List (List Key×PV)}:H a=some (.dT kv)->A a->GB C A H kv kvs->Rep C A H (.ref a) (.dT kvs)
 | obj {a dx:Addr}{c:Nat}{f:List (Str×V)}{fs:List (Str×PV)}:H a=some (.ins (C.cl c) dx f)->A a->GU C A H f fs->Rep C A H (.ref a) (.obj c fs)
inductive FA (C:MC) (A:Addr->Prop) (H:Hp):List V->List PV->Prop
 | nil:FA C A H [] []
 | cons {v:V}{p:PV}{vs:List V}{ps:List PV}:Rep C A H v p->FA C A H vs ps->FA C A H (v::vs) (p::ps)
inductive GA (C:MC) (A:Addr->Prop) (H:Hp):List (Key×V)->List (Key×PV)->Prop
 | nil:GA C A H [] []
 | cons {k:Key}{v:V}{p:PV}{vs:List (Key×V)}{ps:List (Key×PV)}:Rep C A H v p->GA C A H vs ps->GA C A H ((k,v)::vs) ((k,p)::ps)
inductive GB (C:MC) (A:Addr->Prop) (H:Hp):List (List Key×V)->List (List Key×PV)->Prop
 | nil:GB C A H [] []
 | cons {k:List Key}{v:V}{p:PV}{vs:List (List Key×V)}{ps:List (List Key×PV)}:Rep C A H v p->GB C A H vs ps->GB C A H ((k,v)::vs) ((k,p)::ps)
inductive GU (C:MC) (A:Addr->Prop) (H:Hp):List (Str×V)->List (Str×PV)->Prop
 | nil:GU C A H [] []
 | cons {k:Str}{v:V}{p:PV}{vs:List (Str×V)}{ps:List (Str×PV)}:Rep C A H v p->GU C A H vs ps->GU C A H ((k,v)::vs) ((k,p)::ps)
end
theorem Rep.nd {C:MC}{A:Addr->Prop}{H:Hp}{M1:V->PV->Prop}{M2:List V->List PV->Prop}{M3:List (Key×V)->List (Key×PV)->Prop}{M4:List (List Key×V)->List (List Key×PV)->Prop}{M5:List (Str×V)->List (Str×PV)->Prop}(a1:M1 .FG .FG)(a2:∀b,M1 (.bl b) (.bl b))(a3:∀i,M1 (.int i) (.int i))(a4:∀x,M1 (.str x) (.str x))
  (a5:∀{a vs xs},H a=some (.lst vs)->A a->FA C A H vs xs->M2 vs xs->M1 (.ref a) (.lst xs))(a6:∀{a o vs xs},H a=some (.frz o (.lst vs))->FA C A H vs xs->M2 vs xs->M1 (.ref a) (.frz xs))(a7:∀{a vs xs},F7 C.K (λ_=>none) a vs->FA C A H vs xs->M2 vs xs->M1 (.ref a) (.frz xs))
  (a8:∀{a vs xs},H a=some (.tup vs)->FA C A H vs xs->M2 vs xs->M1 (.ref a) (.tup xs))(a9:∀{a vs xs},QE C.K a vs->FA C A H vs xs->M2 vs xs->M1 (.ref a) (.tup xs))(b1:∀{a vs xs},LD C.K (λ_=>none) a vs->FA C A H vs xs->M2 vs xs->M1 (.ref a) (.ktp xs))
  (b2:∀{a kv kvs},H a=some (.dK kv)->A a->GA C A H kv kvs->M3 kv kvs->M1 (.ref a) (.dK kvs))(b3:∀{a kv kvs},H a=some (.dT kv)->A a->GB C A H kv kvs->M4 kv kvs->M1 (.ref a) (.dT kvs))(b4:∀{a dx c f fs},H a=some (.ins (C.cl c) dx f)->A a->GU C A H f fs->M5 f fs->M1 (.ref a) (.obj c fs))
  (c1:M2 [] [])(c2:∀{v p vs ps},Rep C A H v p->FA C A H vs ps->M1 v p->M2 vs ps->M2 (v::vs) (p::ps))(c3:M3 [] [])(c4:∀{k v p vs ps},Rep C A H v p->GA C A H vs ps->M1 v p->M3 vs ps->M3 ((k,v)::vs) ((k,p)::ps))
  (c5:M4 [] [])(c6:∀{k v p vs ps},Rep C A H v p->GB C A H vs ps->M1 v p->M4 vs ps->M4 ((k,v)::vs) ((k,p)::ps))(c7:M5 [] [])(c8:∀{k v p vs ps},Rep C A H v p->GU C A H vs ps->M1 v p->M5 vs ps->M5 ((k,v)::vs) ((k,p)::ps)):
  (∀{v p},Rep C A H v p->M1 v p)/\(∀{v p},FA C A H v p->M2 v p)/\(∀{v p},GA C A H v p->M3 v p)/\(∀{v p},GB C A H v p->M4 v p)/\(∀{v p},GU C A H v p->M5 v p):=
 ⟨λ{v p} h=>@Rep.rec C A H (λv p _=>M1 v p) (λv p _=>M2 v p) (λv p _=>M3 v p) (λv p _=>M4 v p) (λv p _=>M5 v p) a1 a2 a3 a4 @a5 @a6 @a7 @a8 @a9 @b1 @b2 @b3 @b4 c1 @c2 c3 @c4 c5 @c6 c7 @c8 v p h,
  λ{v p} h=>@FA.rec C A H (λv p _=>M1 v p) (λv p _=>M2 v p) (λv p _=>M3 v p) (λv p _=>M4 v p) (λv p _=>M5 v p) a1 a2 a3 a4 @a5 @a6 @a7 @a8 @a9 @b1 @b2 @b3 @b4 c1 @c2 c3 @c4 c5 @c6 c7 @c8 v p h,
  λ{v p} h=>@GA.rec C A H (λv p _=>M1 v p) (λv p _=>M2 v p) (λv p _=>M3 v p) (λv p _=>M4 v p) (λv p _=>M5 v p) a1 a2 a3 a4 @a5 @a6 @a7 @a8 @a9 @b1 @b2 @b3 @b4 c1 @c2 c3 @c4 c5 @c6 c7 @c8 v p h,
  λ{v p} h=>@GB.rec C A H (λv p _=>M1 v p) (λv p _=>M2 v p) (λv p _=>M3 v p) (λv p _=>M4 v p) (λv p _=>M5 v p) a1 a2 a3 a4 @a5 @a6 @a7 @a8 @a9 @b1 @b2 @b3 @b4 c1 @c2 c3 @c4 c5 @c6 c7 @c8 v p h,
  λ{v p} h=>@GU.rec C A H (λv p _=>M1 v p) (λv p _=>M2 v p) (λv p _=>M3 v p) (λv p _=>M4 v p) (λv p _=>M5 v p) a1 a2 a3 a4 @a5 @a6 @a7 @a8 @a9 @b1 @b2 @b3 @b4 c1 @c2 c3 @c4 c5 @c6 c7 @c8 v p h⟩
noncomputable def yQ:HO->Bool
 | .lst _=>true
 | .dK _=>true
 | .dT _=>true
 | .ins _ _ _=>true
 | _=>false
def Ex (A:Addr->Prop)(H:Hp)(A':Addr->Prop)(H':Hp):Prop:=∀a o,H a=some o->(A a->H' a=some o/\A' a)/\(yQ o=false->H' a=some o)
theorem Ex.refl (A:Addr->Prop)(H:Hp):Ex A H A H:=λa o h=>⟨λq=>⟨h,q⟩,λ_=>h⟩
theorem Ex.trans {A B C:Addr->Prop}{H I J:Hp}(e:Ex A H B I)(f:Ex B I C J):Ex A H C J:=λa o h=>⟨λq=>by
 obtain⟨h1,q1⟩:=(e a o h).1 q
 exact(f a o h1).1 q1,λm=>(f a o ((e a o h).2 m)).2 m⟩
theorem Ex.of_same {A:Addr->Prop}{H H':Hp}(s:FE H H'):Ex A H A H':=λa o h=>⟨λq=>⟨s a o h,q⟩,λ_=>s a o h⟩
theorem Rep.ex5 {C:MC}{A A':Addr->Prop}{H H':Hp}(e:Ex A H A' H'):(∀{v p},Rep C A H v p->Rep C A' H' v p)/\(∀{v p},FA C A H v p->FA C A' H' v p)/\(∀{v p},GA C A H v p->GA C A' H' v p)/\(∀{v p},GB C A H v p->GB C A' H' v p)/\(∀{v p},GU C A H v p->GU C A' H' v p):=
 Rep.nd .FG .bl .int .str (λh q _ r=>.lst ((e _ _ h).1 q).1 ((e _ _ h).1 q).2 r) (λh _ r=>.QY ((e _ _ h).2 rfl) r) (λh _ r=>.lstK h r) (λh _ r=>.tup ((e _ _ h).2 rfl) r) (λh _ r=>.OO h r) (λh _ r=>.tupK h r)
  (λh q _ r=>.dK ((e _ _ h).1 q).1 ((e _ _ h).1 q).2 r) (λh q _ r=>.dT ((e _ _ h).1 q).1 ((e _ _ h).1 q).2 r) (λh q _ r=>.obj ((e _ _ h).1 q).1 ((e _ _ h).1 q).2 r) .nil (λ_ _ h t=>.cons h t) .nil (λ_ _ h t=>.cons h t) .nil (λ_ _ h t=>.cons h t) .nil (λ_ _ h t=>.cons h t)
theorem Rep.ex {C:MC}{A A':Addr->Prop}{H H':Hp}(e:Ex A H A' H'){v:V}{p:PV}:Rep C A H v p->Rep C A' H' v p:=(Rep.ex5 e).1
theorem FA.ex {C:MC}{A A':Addr->Prop}{H H':Hp}(e:Ex A H A' H'){v:List V}{p:List PV}:FA C A H v p->FA C A' H' v p:=(Rep.ex5 e).2.1
theorem GA.ex {C:MC}{A A':Addr->Prop}{H H':Hp}(e:Ex A H A' H'){v:List (Key×V)}{p:List (Key×PV)}:GA C A H v p->GA C A' H' v p:=(Rep.ex5 e).2.2.1
theorem GB.ex {C:MC}{A A':Addr->Prop}{H H':Hp}(e:Ex A H A' H'){v:List (List Key×V)}{p:List (List Key×PV)}:GB C A H v p->GB C A' H' v p:=(Rep.ex5 e).2.2.2.1
theorem GU.ex {C:MC}{A A':Addr->Prop}{H H':Hp}(e:Ex A H A' H'){v:List (Str×V)}{p:List (Str×PV)}:GU C A H v p->GU C A' H' v p:=(Rep.ex5 e).2.2.2.2
theorem cO {A A':Addr->Prop}{H:Hp}(h:∀a o,H a=some o->A a->A' a):Ex A H A' H:=λa o e=>⟨λq=>⟨e,h a o e q⟩,λ_=>e⟩
theorem FA.length {C:MC}{A:Addr->Prop}{H:Hp}:∀{vs:List V}{ps:List PV},FA C A H vs ps->vs.length=ps.length
 | _,_,.nil=>rfl
 | _,_,.cons _ t=>by simp[FA.length t]
theorem FA.append {C:MC}{A:Addr->Prop}{H:Hp}:∀{vs us:List V}{ps qs:List PV},FA C A H vs ps->FA C A H us qs->FA C A H (vs++us) (ps++qs)
 | _,_,_,_,.nil,h=>h
 | _,_,_,_,.cons h t,r=>.cons h (FA.append t r)
theorem FA.get {C:MC}{A:Addr->Prop}{H:Hp}:∀{vs:List V}{ps:List PV}{i:Nat}{p:PV},FA C A H vs ps->ps[i]?=some p->∃v,vs[i]?=some v/\Rep C A H v p
 | _,_,_,_,.nil,e=>by simp at e
 | _,_,0,_,.cons h t,e=>by simp at e;subst e;exact⟨_,rfl,h⟩
 | _,_,i+1,p,.cons h t,e=>by
  obtain⟨v,e1,r⟩:=FA.get (i:=i) (p:=p) t (by simpa using e)
  exact⟨v,by simpa using e1,r⟩
theorem FA.drop {C:MC}{A:Addr->Prop}{H:Hp}:∀{vs:List V}{ps:List PV}(n:Nat),FA C A H vs ps->FA C A H (vs.drop n) (ps.drop n)
 | _,_,0,h=>by simpa using h
 | _,_,n+1,.nil=>by simpa using FA.nil
 | _,_,n+1,.cons _ t=>by simpa using FA.drop n t
theorem FA.take {C:MC}{A:Addr->Prop}{H:Hp}:∀{vs:List V}{ps:List PV}(n:Nat),FA C A H vs ps->FA C A H (vs.take n) (ps.take n)
 | _,_,0,h=>by simpa using FA.nil
 | _,_,n+1,.nil=>by simpa using FA.nil
 | _,_,n+1,.cons h t=>by simpa using FA.cons h (FA.take n t)
theorem FA.set {C:MC}{A:Addr->Prop}{H:Hp}{v:V}{p:PV}(r:Rep C A H v p):∀{vs:List V}{ps:List PV}(n:Nat),FA C A H vs ps->FA C A H (vs.set n v) (ps.set n p)
 | _,_,_,.nil=>.nil
 | _,_,0,.cons _ t=>.cons r t
 | _,_,n+1,.cons h t=>.cons h (FA.set r n t)
theorem FA.reverse {C:MC}{A:Addr->Prop}{H:Hp}:∀{vs:List V}{ps:List PV},FA C A H vs ps->FA C A H vs.reverse ps.reverse
 | _,_,.nil=>.nil
 | _,_,.cons h t=>by
  rw[i9,i9]
  exact(FA.reverse t).append (.cons h .nil)
theorem tY {C:MC}{A:Addr->Prop}{H:Hp}{α:Type}(f:α->V)(g:α->PV)(h:∀x,Rep C A H (f x) (g x)):∀l:List α,FA C A H (l.map f) (l.map g)
 | []=>.nil
 | x::l=>.cons (h x) (tY f g h l)
theorem GA.val {C:MC}{A:Addr->Prop}{H:Hp}{k:Key}:∀{kv:List (Key×V)}{kvs:List (Key×PV)},GA C A H kv kvs->(∃v p,jz kv k=some v/\(kvs.find? λx=>decide (x.1=k)).map (·.2)=some p/\Rep C A H v p)\/(jz kv k=none/\(kvs.find? λx=>decide (x.1=k)).map (·.2)=none)
 | _,_,.nil=>.inr ⟨rfl,rfl⟩
 | _,_,.cons (k:=k') (v:=v) (p:=p) h t=>by
  by_cases e:k'=k
  ·subst e
   exact .inl ⟨v,p,qM rfl,by simp,h⟩
  ·rw[qN e,jp (by simpa using e)]
   exact GA.val t
theorem GB.val {C:MC}{A:Addr->Prop}{H:Hp}{k:List Key}:∀{kv:List (List Key×V)}{kvs:List (List Key×PV)},GB C A H kv kvs->(∃v p,jz kv k=some v/\(kvs.find? λx=>decide (x.1=k)).map (·.2)=some p/\Rep C A H v p)\/(jz kv k=none/\(kvs.find? λx=>decide (x.1=k)).map (·.2)=none)
 | _,_,.nil=>.inr ⟨rfl,rfl⟩
 | _,_,.cons (k:=k') (v:=v) (p:=p) h t=>by
  by_cases e:k'=k
  ·subst e
   exact .inl ⟨v,p,qM rfl,by simp,h⟩
  ·rw[qN e,jp (by simpa using e)]
   exact GB.val t
theorem GU.look {C:MC}{A:Addr->Prop}{H:Hp}{k:Str}{p:PV}:∀{f:List (Str×V)}{fs:List (Str×PV)},GU C A H f fs->fs.lookup k=some p->∃v,f.lookup k=some v/\Rep C A H v p
 | _,_,.nil,e=>by cases e
 | _,_,.cons (k:=k') (v:=v) (p:=p') h t,e=>by
  rw[b6] at e ⊢
  cases q:k == k' with
  | true=>rw[q] at e;cases e;exact⟨v,rfl,h⟩
  | false=>rw[q] at e;exact GU.look t e
theorem GU.SU {C:MC}{A:Addr->Prop}{H:Hp}{k:Str}:∀{f:List (Str×V)}{fs:List (Str×PV)},GU C A H f fs->fs.lookup k=none->f.lookup k=none
 | _,_,.nil,e=>rfl
 | _,_,.cons (k:=k') (v:=v) (p:=p') h t,e=>by
  rw[b6] at e ⊢
  cases q:k == k' with
  | true=>rw[q] at e;cases e
  | false=>rw[q] at e;exact GU.SU t e
def Top (C:MC)(A:Addr->Prop)(H:Hp)(a:Addr):PV->Prop
 | .lst xs=>∃vs,H a=some (.lst vs)/\FA C A H vs xs
 | .dK kvs=>∃kv,H a=some (.dK kv)/\GA C A H kv kvs
 | .dT kvs=>∃kv,H a=some (.dT kv)/\GB C A H kv kvs
 | .obj c fs=>∃dx f,H a=some (.ins (C.cl c) dx f)/\GU C A H f fs
 | _=>False
theorem Top.ex {C:MC}{A A':Addr->Prop}{H H':Hp}{a:Addr}{p:PV}(e:Ex A H A' H')(h:∀o,H a=some o->H' a=some o)(t:Top C A H a p):Top C A' H' a p:=by
 cases p with
 | lst xs=>obtain⟨vs,q,r⟩:=t;exact⟨vs,h _ q,r.ex e⟩
 | dK kvs=>obtain⟨vs,q,r⟩:=t;exact⟨vs,h _ q,r.ex e⟩
 | dT kvs=>obtain⟨vs,q,r⟩:=t;exact⟨vs,h _ q,r.ex e⟩
 | obj c fs=>obtain⟨dx,f,q,r⟩:=t;exact⟨dx,f,h _ q,r.ex e⟩
 | _=>exact t
theorem Top.live {C:MC}{A:Addr->Prop}{H:Hp}{a:Addr}{p:PV}(t:Top C A H a p):∃o,H a=some o/\yQ o=true:=by
 cases p with
 | lst xs=>obtain⟨vs,q,r⟩:=t;exact⟨_,q,rfl⟩
 | dK kvs=>obtain⟨vs,q,r⟩:=t;exact⟨_,q,rfl⟩
 | dT kvs=>obtain⟨vs,q,r⟩:=t;exact⟨_,q,rfl⟩
 | obj c fs=>obtain⟨dx,f,q,r⟩:=t;exact⟨_,q,rfl⟩
 | _=>exact t.elim
theorem Top.rep {C:MC}{A:Addr->Prop}{H:Hp}{a:Addr}{p:PV}(t:Top C A H a p)(h:A a):Rep C A H (.ref a) p:=by
 cases p with
 | lst xs=>obtain⟨vs,q,r⟩:=t;exact .lst q h r
 | dK kvs=>obtain⟨vs,q,r⟩:=t;exact .dK q h r
 | dT kvs=>obtain⟨vs,q,r⟩:=t;exact .dT q h r
 | obj c fs=>obtain⟨dx,f,q,r⟩:=t;exact .obj q h r
 | _=>exact t.elim
def FF (C:MC)(A:Addr->Prop)(H:Hp)(v:V)(p:PV):Prop:=Rep C A H v p\/∃a,v=.ref a/\Top C A H a p
theorem FF.ex {C:MC}{A A':Addr->Prop}{H H':Hp}{v:V}{p:PV}(e:Ex A H A' H')(s:FE H H')(h:FF C A H v p):FF C A' H' v p:=by
 rcases h with h | ⟨a,q,t⟩
 ·exact .inl (h.ex e)
 ·exact .inr ⟨a,q,t.ex e λo z=>s _ _ z⟩
section
variable {C:MC}{A:Addr->Prop}{H:Hp}{v:V}
theorem sqK {K:W.Frag}{a:Addr}{vs:List V}(h:F7 K (λ_=>none) a vs):F7 K H a vs:=by
 rcases h with (h | ⟨o,h⟩) | h
 ·cases h
 ·cases h
 ·exact .inr h
theorem ym {K:W.Frag}{a:Addr}{vs:List V}(h:LD K (λ_=>none) a vs):LD K H a vs:=by
 rcases h with (h | ⟨o,h⟩) | h
 ·cases h
 ·cases h
 ·exact .inr h
theorem FF.lst {xs:List PV}(h:FF C A H v (.lst xs)):∃a vs,v=.ref a/\H a=some (.lst vs)/\FA C A H vs xs:=by
 rcases h with h | ⟨a,rfl,vs,q,r⟩
 ·cases h with
  | lst q _ r=>exact⟨_,_,rfl,q,r⟩
 ·exact⟨a,vs,rfl,q,r⟩
theorem FF.frz {xs:List PV}(h:FF C A H v (.frz xs)):∃a vs,v=.ref a/\F7 C.K H a vs/\FA C A H vs xs:=by
 rcases h with h | ⟨a,rfl,t⟩
 ·cases h with
  | QY q r=>exact⟨_,_,rfl,.inl (.inr ⟨_,q⟩),r⟩
  | lstK q r=>exact⟨_,_,rfl,sqK q,r⟩
 ·exact t.elim
def LO (K:W.Frag)(H:Hp)(a:Addr)(vs:List V):Prop:=H a=some (.tup vs)\/QE K a vs
theorem LO.sq {K:W.Frag}{H:Hp}{a:Addr}{vs:List V}(h:LO K H a vs):LD K H a vs:=h.elim (λq=>LD.of q) ef
theorem LO.rep {C:MC}{A:Addr->Prop}{H:Hp}{a:Addr}{vs:List V}{xs:List PV}(h:LO C.K H a vs)(r:FA C A H vs xs):Rep C A H (.ref a) (.tup xs):=h.elim (λq=>.tup q r) λq=>.OO q r
theorem LO.ex {K:W.Frag}{A A':Addr->Prop}{H H':Hp}{a:Addr}{vs:List V}(h:LO K H a vs)(e:Ex A H A' H'):LO K H' a vs:=h.imp (λq=>(e _ _ q).2 rfl) id
theorem LO.up {K:W.Frag}{H H':Hp}{a:Addr}{vs:List V}(h:LO K H a vs)(s:FE H H'):LO K H' a vs:=h.imp (λq=>s _ _ q) id
theorem LO.key {K:W.Frag}{H:Hp}{a:Addr}{vs:List V}{ks:List Key}(h:LO K H a vs)(k:vq ks vs):Kk K H a ks:=h.imp (λq=>⟨vs,q,k⟩) λq=>⟨vs,q,k⟩
theorem FF.tup {xs:List PV}(h:FF C A H v (.tup xs)):∃a vs,v=.ref a/\LO C.K H a vs/\FA C A H vs xs:=by
 rcases h with h | ⟨a,rfl,t⟩
 ·cases h with
  | tup q r=>exact⟨_,_,rfl,.inl q,r⟩
  | OO q r=>exact⟨_,_,rfl,.inr q,r⟩
 ·exact t.elim
theorem FF.ktp {xs:List PV}(h:FF C A H v (.ktp xs)):∃a vs,v=.ref a/\LD C.K H a vs/\FA C A H vs xs:=by
 rcases h with h | ⟨a,rfl,t⟩
 ·cases h with
  | tupK q r=>exact⟨_,_,rfl,ym q,r⟩
 ·exact t.elim
theorem FF.dK {kvs:List (Key×PV)}(h:FF C A H v (.dK kvs)):∃a kv,v=.ref a/\H a=some (.dK kv)/\GA C A H kv kvs:=by
 rcases h with h | ⟨a,rfl,vs,q,r⟩
 ·cases h with
  | dK q _ r=>exact⟨_,_,rfl,q,r⟩
 ·exact⟨a,vs,rfl,q,r⟩
theorem FF.dT {kvs:List (List Key×PV)}(h:FF C A H v (.dT kvs)):∃a kv,v=.ref a/\H a=some (.dT kv)/\GB C A H kv kvs:=by
 rcases h with h | ⟨a,rfl,vs,q,r⟩
 ·cases h with
  | dT q _ r=>exact⟨_,_,rfl,q,r⟩
 ·exact⟨a,vs,rfl,q,r⟩
theorem FF.obj {c:Nat}{fs:List (Str×PV)}(h:FF C A H v (.obj c fs)):∃a dx f,v=.ref a/\H a=some (.ins (C.cl c) dx f)/\GU C A H f fs:=by
 rcases h with h | ⟨a,rfl,dx,vs,q,r⟩
 ·cases h with
  | obj q _ r=>exact⟨_,_,_,rfl,q,r⟩
 ·exact⟨a,dx,vs,rfl,q,r⟩
theorem FF.int {i:Int}(h:FF C A H v (.int i)):v=.int i:=by
 rcases h with h | ⟨a,rfl,t⟩
 ·cases h;rfl
 ·exact t.elim
theorem FF.str {x:Str}(h:FF C A H v (.str x)):v=.str x:=by
 rcases h with h | ⟨a,rfl,t⟩
 ·cases h;rfl
 ·exact t.elim
theorem FF.bl {x:Bool}(h:FF C A H v (.bl x)):v=.bl x:=by
 rcases h with h | ⟨a,rfl,t⟩
 ·cases h;rfl
 ·exact t.elim
theorem FF.FG (h:FF C A H v .FG):v=.FG:=by
 rcases h with h | ⟨a,rfl,t⟩
 ·cases h;rfl
 ·exact t.elim
end
structure BX where
 C:MC
 A:Addr->Prop
 H0:Hp
 fx:Nat->Option V
noncomputable def fx0 (x:V):Nat->Option V
 | 0=>some x
 | _+1=>none
abbrev Env:=List (Option PV)
abbrev pc:=Env->Option PV
def Bs (b:BX)(Ow:Addr->Prop)(a:Addr):Prop:=¬ Ow a/\(b.A a\/b.H0 a=none)
structure ER (b:BX)(Ow:Addr->Prop)(G:oz)(σ:St)(env:Env)(H:Hp):Prop where
 len:σ.length=env.length
 same:FE b.H0 H
 live:∀a,Ow a->∃o,H a=some o
 new:∀a,Ow a->b.H0 a=none
 val:∀i p,env[i]?=some (some p)->i∉G->∃v,σ[i]?=some (some v)/\Rep b.C (Bs b Ow) H v p
 own:∀i p,env[i]?=some (some p)->i∈G->∃a,σ[i]?=some (some (.ref a))/\Ow a/\Top b.C (Bs b Ow) H a p
 sep:∀i j a p q,env[i]?=some (some p)->i∈G->σ[i]?=some (some (.ref a))->env[j]?=some (some q)->j∈G->σ[j]?=some (some (.ref a))->i=j
 fix:∀i v,b.fx i=some v->σ[i]?=some (some v)
inductive Md where | val | own | bor
def Res (b:BX)(Ow:Addr->Prop)(H H':Hp)(m:Md)(v:V)(p:PV):Prop:=match m with
 | .val=>Rep b.C (Bs b Ow) H' v p
 | .own=>∃a,v=.ref a/\H a=none/\Top b.C (λc=>Bs b Ow c/\c≠a) H' a p
 | .bor=>FF b.C (Bs b Ow) H' v p
def tM (b:BX)(G:oz)(m:Md)(f:pc):TE:=fun σ H Q=>∃Ow env p,ER b Ow G σ env H/\f env=some p/\∀v H',FE H H'->Res b Ow H H' m v p->Q v H'
def tMT (b:BX)(G:oz)(f:Env->Option Bool):TT:=fun σ H Q=>∃Ow env k,ER b Ow G σ env H/\f env=some k/\∀H',FE H H'->Q k H'
section
variable {b:BX}{Ow:Addr->Prop}{G:oz}{σ:St}{env:Env}{H H':Hp}
theorem ER.up (E:ER b Ow G σ env H)(s:FE H H'):ER b Ow G σ env H':=
 ⟨E.len,E.same.trans s,λa h=>let ⟨o,e⟩:=E.live a h;⟨o,s _ _ e⟩,E.new,λi p h n=>let ⟨v,e,r⟩:=E.val i p h n;⟨v,e,r.ex (.of_same s)⟩,
  λi p h n=>let ⟨a,e,w,t⟩:=E.own i p h n;⟨a,e,w,t.ex (.of_same s) λo z=>s _ _ z⟩,E.sep,E.fix⟩
theorem ER.fresh (E:ER b Ow G σ env H){a:Addr}(h:H a=none):Bs b Ow a:=
 ⟨λw=>(by obtain⟨o,e⟩:=E.live a w;rw[h] at e;cases e),.inr (E.same.free h)⟩
theorem Res.val {m:Md}{v:V}{p:PV}(E:ER b Ow G σ env H)(hm:m≠.bor)(r:Res b Ow H H' m v p):Res b Ow H H' .val v p:=by
 cases m with
 | val=>exact r
 | bor=>exact absurd rfl hm
 | own=>
  obtain⟨a,rfl,h,t⟩:=r
  have hw:Ex (λc=>Bs b Ow c/\c≠a) H' (Bs b Ow) H':=cO λ_ _ _ z=>z.1
  exact(t.ex hw λo z=>z).rep (E.fresh h)
theorem Res.bor {m:Md}{v:V}{p:PV}(r:Res b Ow H H' m v p):Res b Ow H H' .bor v p:=by
 cases m with
 | val=>exact .inl r
 | bor=>exact r
 | own=>
  obtain⟨a,rfl,h,t⟩:=r
  have hw:Ex (λc=>Bs b Ow c/\c≠a) H' (Bs b Ow) H':=cO λ_ _ _ z=>z.1
  exact .inr ⟨a,rfl,t.ex hw λo z=>z⟩
theorem Res.up {m:Md}{v:V}{p:PV}{Q1:Hp}(r:Res b Ow H H' m v p)(s:FE H' Q1):Res b Ow H Q1 m v p:=by
 cases m with
 | val=>exact Rep.ex (.of_same s) r
 | bor=>exact FF.ex (.of_same s) s r
 | own=>
  obtain⟨a,e,h,t⟩:=r
  exact⟨a,e,h,t.ex (.of_same s) λo z=>s _ _ z⟩
theorem Res.down {m:Md}{v:V}{p:PV}{Q1:Hp}(s:FE H H')(r:Res b Ow H' Q1 m v p):Res b Ow H Q1 m v p:=by
 cases m with
 | val=>exact r
 | bor=>exact r
 | own=>
  obtain⟨a,e,h,t⟩:=r
  exact⟨a,e,s.free h,t⟩
end
theorem PE.imp {X:Cx}{e:Expr}{t u:TE}(h:PE X e t)(i:∀ σ H Q,u σ H Q->t σ H Q):PE X e u:=λFs s σ H Q I q=>h Fs s σ H Q I (i σ H Q q)
theorem PT.imp {X:Cx}{e:Expr}{t u:TT}(h:PT X e t)(i:∀ σ H Q,u σ H Q->t σ H Q):PT X e u:=λFs s σ H Q I q=>h Fs s σ H Q I (i σ H Q q)
theorem PS.imp {X:Cx}{e:Stmt}{t u:TS}(h:PS X e t)(i:∀D σ H,u D σ H->t D σ H):PS X e u:=λFs s σ H D I q=>h Fs s σ H D I (i D σ H q)
theorem PE.or {X:Cx}{e:Expr}{t u:TE}(h:PE X e t)(h':PE X e u):PE X e (fun σ H Q=>t σ H Q\/u σ H Q):=λFs s σ H Q I q=>q.elim (h Fs s σ H Q I) (h' Fs s σ H Q I)
theorem HL.or {X:Cx}{op:Value->Value->Sem Value}{r r':R2}(h:HL X op r)(h':HL X op r'):HL X op (λx y H Q=>r x y H Q\/r' x y H Q):=λFs s σ H x y v u Q I rx ry q=>q.elim (h Fs s σ H x y v u Q I rx ry) (h' Fs s σ H x y v u Q I rx ry)
abbrev SE (X:Cx)(b:BX)(G:oz)(m:Md)(e:Expr)(f:pc):Prop:=PE X e (tM b G m f)
abbrev ST (X:Cx)(b:BX)(G:oz)(e:Expr)(f:Env->Option Bool):Prop:=PT X e (tMT b G f)
theorem SE.bor {X:Cx}{b:BX}{G:oz}{m:Md}{e:Expr}{f:pc}(h:SE X b G m e f):SE X b G .bor e f:=
 PE.imp h fun σ H Q ⟨Ow,env,p,E,hf,k⟩=>⟨Ow,env,p,E,hf,λv H' s r=>k v H' s r.bor⟩
theorem SE.val {X:Cx}{b:BX}{G:oz}{e:Expr}{f:pc}(h:SE X b G .own e f):SE X b G .val e f:=
 PE.imp h fun σ H Q ⟨Ow,env,p,E,hf,k⟩=>⟨Ow,env,p,E,hf,λv H' s r=>k v H' s (r.val E (by intro z;cases z))⟩
noncomputable def bC (p:PV)(env:Env):Option PV:=some p
@[simp] theorem yR (p:PV)(env:Env):bC p env=(some p):=id rfl
noncomputable def bV (i:Nat)(env:Env):Option PV:=match env[i]? with | some o=>o | none=>none
@[simp] theorem Xz (i:Nat)(env:Env):bV i env=(match env[i]? with | some o=>o | none=>none):=id rfl
noncomputable def b1 (g:PV->Option PV)(f:pc)(env:Env):Option PV:=(f env).bind g
@[simp] theorem Jr (g:PV->Option PV)(f:pc)(env:Env):b1 g f env=((f env).bind g):=id rfl
noncomputable def b2 (g:PV->PV->Option PV)(f h:pc)(env:Env):Option PV:=(f env).bind λx=>(h env).bind λy=>g x y
@[simp] theorem rR (g:PV->PV->Option PV)(f h:pc)(env:Env):b2 g f h env=((f env).bind λx=>(h env).bind λy=>g x y):=id rfl
noncomputable def b3 (g:PV->PV->PV->Option PV)(f h k:pc)(env:Env):Option PV:=(f env).bind λx=>(h env).bind λy=>(k env).bind λz=>g x y z
@[simp] theorem ZW (g:PV->PV->PV->Option PV)(f h k:pc)(env:Env):b3 g f h k env=((f env).bind λx=>(h env).bind λy=>(k env).bind λz=>g x y z):=id rfl
noncomputable def fQ (f g:pc)(env:Env):Option PV:=(f env).bind λx=>match x with | .bl true=>g env | .bl false=>some (.bl false) | _=>none
@[simp] theorem Ai (f g:pc)(env:Env):fQ f g env=((f env).bind λx=>match x with | .bl true=>g env | .bl false=>some (.bl false) | _=>none):=id rfl
noncomputable def bOr (f g:pc)(env:Env):Option PV:=(f env).bind λx=>match x with | .bl true=>some (.bl true) | .bl false=>g env | _=>none
@[simp] theorem Zu (f g:pc)(env:Env):bOr f g env=((f env).bind λx=>match x with | .bl true=>some (.bl true) | .bl false=>g env | _=>none):=id rfl
noncomputable def XY (c:Env->Option Bool)(f g:pc)(env:Env):Option PV:=(c env).bind λx=>if x=true then f env else g env
@[simp] theorem Zv (c:Env->Option Bool)(f g:pc)(env:Env):XY c f g env=((c env).bind λx=>if x=true then f env else g env):=id rfl
noncomputable def tV (f:pc)(env:Env):Option Bool:=(f env).bind λx=>match x with | .bl c=>some c | _=>none
@[simp] theorem XC (f:pc)(env:Env):tV f env=((f env).bind λx=>match x with | .bl c=>some c | _=>none):=id rfl
noncomputable def tA (f g:Env->Option Bool)(env:Env):Option Bool:=(f env).bind λx=>if x=true then g env else some false
@[simp] theorem ZX (f g:Env->Option Bool)(env:Env):tA f g env=((f env).bind λx=>if x=true then g env else some false):=id rfl
noncomputable def tO (f g:Env->Option Bool)(env:Env):Option Bool:=(f env).bind λx=>if x=true then some true else g env
@[simp] theorem XD (f g:Env->Option Bool)(env:Env):tO f g env=((f env).bind λx=>if x=true then some true else g env):=id rfl
noncomputable def tN (f:Env->Option Bool)(env:Env):Option Bool:=(f env).bind λx=>some (!x)
@[simp] theorem ZZ (f:Env->Option Bool)(env:Env):tN f env=((f env).bind λx=>some (!x)):=id rfl
noncomputable def az (env:Env):Option (List PV):=some []
@[simp] theorem Zc (env:Env):az env=(some []):=id rfl
noncomputable def ak (f:pc)(g:Env->Option (List PV))(env:Env):Option (List PV):=(f env).bind λx=>(g env).bind λxs=>some (x::xs)
abbrev Fh (n:Int):=bC (.int n)
abbrev Fn (i:Nat):=ak (bV i)
@[simp] theorem YH (f:pc)(g:Env->Option (List PV))(env:Env):ak f g env=((f env).bind λx=>(g env).bind λxs=>some (x::xs)):=id rfl
noncomputable def bA (g:Env->Option (List PV))(env:Env):Option PV:=(g env).bind λxs=>if xs.length<=1000000 then some (.lst xs) else none
@[simp] theorem Zd (g:Env->Option (List PV))(env:Env):bA g env=((g env).bind λxs=>if xs.length<=1000000 then some (.lst xs) else none):=id rfl
noncomputable def a_ (g:Env->Option (List PV))(env:Env):Option PV:=(g env).bind λxs=>if xs.length<=1000000 then some (.tup xs) else none
@[simp] theorem Ze (g:Env->Option (List PV))(env:Env):a_ g env=((g env).bind λxs=>if xs.length<=1000000 then some (.tup xs) else none):=id rfl
noncomputable def aH (m:List PV->Option PV)(g:Env->Option (List PV))(env:Env):Option PV:=(g env).bind m
@[simp] theorem Fg (m:List PV->Option PV)(g:Env->Option (List PV))(env:Env):aH m g env=((g env).bind m):=id rfl
section
variable {b:BX}{G:oz}{m:Md}{σ:St}{H:Hp}{Q:VK}
def Nw (b:BX)(m:Md)(r:R2)(g:PV->PV->Option PV):Prop:=∀(Ow:Addr->Prop) (H:Hp) (v1 v2:V) (p1 p2 p:PV) (Q:VK),(∀a,H a=none->Bs b Ow a)->FF b.C (Bs b Ow) H v1 p1->FF b.C (Bs b Ow) H v2 p2->g p1 p2=some p->
 (∀v H',FE H H'->Res b Ow H H' m v p->Q v H')->r v1 v2 H Q
theorem Js {r:R2}{g:PV->PV->Option PV}{f1 f2:pc}(hr:Nw b m r g)(h:tM b G m (b2 g f1 f2) σ H Q):tOp r (tM b G .bor f1) (tM b G .bor f2) σ H Q:=by
 obtain⟨Ow,env,p,E,hf,k⟩:=h
 unfold b2 at hf
 cases h1:f1 env with
 | none=>rw[h1] at hf;cases hf
 | some p1=>
  rw[h1] at hf
  cases h2:f2 env with
  | none=>rw[h2] at hf;cases hf
  | some p2=>
   rw[h2] at hf
   exact⟨Ow,env,p1,E,h1,λv1 H1 s1 r1=>⟨Ow,env,p2,E.up s1,h2,λv2 H2 s2 r2=>hr Ow H2 v1 v2 p1 p2 p Q (λa=>(E.up (s1.trans s2)).fresh) (r1.up s2) r2 hf λv H' s r=>k v H' (s1.trans (s2.trans s)) (r.down (s1.trans s2))⟩⟩
def Op1 (b:BX)(m:Md)(r:V->Hp->VK->Prop)(g:PV->Option PV):Prop:=∀(Ow:Addr->Prop) (H:Hp) (v1:V) (p1 p:PV) (Q:VK),(∀a,H a=none->Bs b Ow a)->FF b.C (Bs b Ow) H v1 p1->g p1=some p->
 (∀v H',FE H H'->Res b Ow H H' m v p->Q v H')->r v1 H Q
theorem Jt {r:V->Hp->VK->Prop}{g:PV->Option PV}{f1:pc}(hr:Op1 b m r g)(h:tM b G m (b1 g f1) σ H Q):tM b G .bor f1 σ H λx H1=>r x H1 Q:=by
 obtain⟨Ow,env,p,E,hf,k⟩:=h
 unfold b1 at hf
 cases h1:f1 env with
 | none=>rw[h1] at hf;cases hf
 | some p1=>
  rw[h1] at hf
  exact⟨Ow,env,p1,E,h1,λv1 H1 s1 r1=>hr Ow H1 v1 p1 p Q (λa=>(E.up s1).fresh) r1 hf λv H' s r=>k v H' (s1.trans s) (r.down s1)⟩
end
@[simp] noncomputable def b7:PV->PV->Option PV
 | .int i,.int j=>some (.int (i+j))
 | .str x,.str y=>if x.length+y.length<=1000000 then some (.str (x++y)) else none
 | .lst xs,.lst ys=>if xs.length+ys.length<=1000000 then some (.lst (xs++ys)) else none
 | _,_=>none
@[simp] noncomputable def mG:PV->PV->Option PV
 | .lst xs,.lst ys=>if xs.length+ys.length<=1000000 then some (.lst (xs++ys)) else none
 | _,_=>none
@[simp] noncomputable def Pf:PV->PV->Option PV
 | .int i,.int j=>some (.int (i - j))
 | _,_=>none
noncomputable def SV (i:Int):Bool:=@decide (-18446744073709551616 < i/\i < 18446744073709551616) (Classical.propDecidable _)
@[simp] noncomputable def vG:PV->PV->Option PV
 | .int i,.int j=>if (SV i||SV j)=true then some (.int (i*j)) else none
 | _,_=>none
@[simp] noncomputable def jB:PV->PV->Option PV
 | .int i,.int j=>if 0 < j/\j < 1073741824 then some (.int (i / j)) else none
 | _,_=>none
@[simp] noncomputable def cN:PV->PV->Option PV
 | .int i,.int j=>if 0 < j then some (.int (i % j)) else none
 | _,_=>none
@[simp] noncomputable def gR (g:Int->Int->Bool):PV->PV->Option PV
 | .int i,.int j=>some (.bl (g i j))
 | _,_=>none
theorem g8 {n:Nat}(h:n<=1000000):n<=sizeLine:=gE (jN h)
section
variable {b:BX}
theorem Rq {g:Int->Int->Int}{f:PV->PV->Option PV}(hf:∀x y p,f x y=some p->∃i j,x=.int i/\y=.int j/\p=.int (g i j)):Nw b .val (QI λi j=>.int (g i j)) f:=by
 intro Ow H v1 v2 p1 p2 p Q hn r1 r2 e k
 obtain⟨i,j,rfl,rfl,rfl⟩:=hf _ _ _ e
 rw[r1.int,r2.int]
 exact⟨i,j,rfl,rfl,k _ H (FE.refl _) (.int _)⟩
theorem LC {g:Int->Int->Bool}:Nw b .val (QI λi j=>.bl (g i j)) (gR g):=by
 intro Ow H v1 v2 p1 p2 p Q hn r1 r2 e k
 unfold gR at e
 split at e
 ·cases e
  rw[r1.int,r2.int]
  exact⟨_,_,rfl,rfl,k _ H (FE.refl _) (.bl _)⟩
 ·cases e
theorem Vb:Nw b .val (QI λi j=>.int (i - j)) Pf:=Rq λx y p e=>by
 unfold Pf at e
 split at e
 ·cases e;exact⟨_,_,rfl,rfl,rfl⟩
 ·cases e
theorem LK:Nw b .val (rI So λi j=>.int (i*j)) vG:=by
 intro Ow H v1 v2 p1 p2 p Q hn r1 r2 e k
 unfold vG at e
 split at e
 ·split at e
  ·rename_i h
   cases e
   rw[r1.int,r2.int]
   refine⟨_,_,rfl,rfl,?_,k _ H (FE.refl _) (.int _)⟩
   simp only[SV,Bool.or_eq_true,hJ] at h
   exact h
  ·cases e
 ·cases e
theorem vH {i:Int}(h:-18446744073709551616 < i)(h':i < 18446744073709551616):SV i=true:=@br _ (Classical.propDecidable _) ⟨h,h'⟩
theorem Vc:Nw b .val (rI Uh λi j=>.int (i / j)) jB:=by
 intro Ow H v1 v2 p1 p2 p Q hn r1 r2 e k
 unfold jB at e
 split at e
 ·split at e
  ·rename_i h
   cases e
   rw[r1.int,r2.int]
   exact⟨_,_,rfl,rfl,h,k _ H (FE.refl _) (.int _)⟩
  ·cases e
 ·cases e
theorem Vd:Nw b .val (rI (λ_ j=>0 < j) λi j=>.int (i % j)) cN:=by
 intro Ow H v1 v2 p1 p2 p Q hn r1 r2 e k
 unfold cN at e
 split at e
 ·split at e
  ·rename_i h
   cases e
   rw[r1.int,r2.int]
   exact⟨_,_,rfl,rfl,h,k _ H (FE.refl _) (.int _)⟩
  ·cases e
 ·cases e
end
theorem eZ {b:BX}{Ow:Addr->Prop}{H:Hp}{a:Addr}{vs:List V}{xs:List PV}(h:H a=none)(r:FA b.C (Bs b Ow) H vs xs):Res b Ow H (upd H a (.lst vs)) .own (.ref a) (.lst xs):=by
 refine⟨a,rfl,h,vs,bx,r.ex λc o e=>?_⟩
 have hc:c≠a:=bz e h
 exact⟨λq=>⟨by rw[aQ hc];exact e,q,hc⟩,λ_=>by rw[aQ hc];exact e⟩
theorem Aj {b:BX}{Ow:Addr->Prop}{H H0:Hp}{a:Addr}{vs:List V}{xs:List PV}(h:H a=none)(r:FA b.C (Bs b Ow) H vs xs):Res b Ow H0 (upd H a (.tup vs)) .val (.ref a) (.tup xs):=
 Rep.tup bx (r.ex (.of_same (bI h _)))
section
variable {b:BX}
theorem Ve:Nw b .val (λx y H Q=>(QI (λi j=>.int (i+j)) x y H Q\/∃i j,x=.str i/\y=.str j/\i.length+j.length<=sizeLine/\Q (.str (i++j)) H)\/Og x y H Q) b7:=by
 intro Ow H v1 v2 p1 p2 p Q hn r1 r2 e k
 unfold b7 at e
 split at e
 ·cases e
  rw[r1.int,r2.int]
  exact .inl (.inl ⟨_,_,rfl,rfl,k _ H (FE.refl _) (.int _)⟩)
 ·split at e
  ·rename_i h
   cases e
   rw[r1.str,r2.str]
   exact .inl (.inr ⟨_,_,rfl,rfl,g8 h,k _ H (FE.refl _) (.str _)⟩)
  ·cases e
 ·split at e
  ·rename_i h
   cases e
   obtain⟨a,vs,rfl,ha,ra⟩:=r1.lst
   obtain⟨c,us,rfl,hc,rc⟩:=r2.lst
   exact .inr ⟨a,c,vs,us,rfl,rfl,ha,hc,g8 (by rw[ra.length,rc.length];exact h),λq hq=>k _ _ (bI hq _) (.lst bx (hn q hq) ((ra.append rc).ex (.of_same (bI hq _))))⟩
  ·cases e
 ·cases e
theorem Vf:Nw b .own Og mG:=by
 intro Ow H v1 v2 p1 p2 p Q hn r1 r2 e k
 unfold mG at e
 split at e
 ·split at e
  ·rename_i h
   cases e
   obtain⟨a,vs,rfl,ha,ra⟩:=r1.lst
   obtain⟨c,us,rfl,hc,rc⟩:=r2.lst
   refine⟨a,c,vs,us,rfl,rfl,ha,hc,g8 (by rw[ra.length,rc.length];exact h),λq hq=>k _ _ (bI hq _) (eZ hq (ra.append rc))⟩
  ·cases e
 ·cases e
end
section
variable {X:Cx}{b:BX}{G:oz}{m:Md}{e e1 e2:Expr}{f f1 f2:pc}{pos:Pos}
theorem ao {i j pos}:SE X b G .val (.Constant (.int i) j pos) (Fh i):=PE.imp TQ<|by rintro σ H Q ⟨Ow,env,p,E,hf,k⟩;cases hf;exact k _ H (FE.refl _) (.int i)
theorem jt {i j pos}:SE X b G .val (.Constant (.bool i) j pos) (bC (.bl i)):=PE.imp Xb<|by rintro σ H Q ⟨Ow,env,p,E,hf,k⟩;cases hf;exact k _ H (FE.refl _) (.bl i)
theorem aJ {i j pos}:SE X b G .val (.Constant (.str i) j pos) (bC (.str i)):=PE.imp TY<|by rintro σ H Q ⟨Ow,env,p,E,hf,k⟩;cases hf;exact k _ H (FE.refl _) (.str i)
theorem cX {j pos}:SE X b G .val (.Constant .none j pos) (bC .FG):=PE.imp TV<|by rintro σ H Q ⟨Ow,env,p,E,hf,k⟩;cases hf;exact k _ H (FE.refl _) .FG
theorem fY {i:Nat}{env:Env}{p:PV}(h:bV i env=some p):env[i]?=some (some p):=by
 unfold bV at h
 split at h
 ·rename_i o e;rw[e,h]
 ·cases h
theorem aj (i:Nat){x:Str}{pos:Pos}(hN:autoParam (X.N[i]?=some x) r0_)(hv:autoParam (Sl X.env.scope x) r5_)(hG:autoParam (i∉G) r1_)(hd:autoParam ((x == ("__debug__" : Str))=false) r1_)
  (LW:autoParam ((x == ("__classdict__" : Str))=false) r1_):SE X b G .val (.Name x pos) (bV i):=PE.imp (kh hN hv hd LW)<|by
 rintro σ H Q ⟨Ow,env,p,E,hf,k⟩
 obtain⟨v,e,r⟩:=E.val i p (fY hf) hG
 exact⟨v,e,k v H (FE.refl _) r⟩
theorem jC (i:Nat){x:Str}{pos:Pos}(hN:autoParam (X.N[i]?=some x) r0_)(hv:autoParam (Sl X.env.scope x) r5_)(hd:autoParam ((x == ("__debug__" : Str))=false) r1_)
  (LW:autoParam ((x == ("__classdict__" : Str))=false) r1_):SE X b G .bor (.Name x pos) (bV i):=PE.imp (kh hN hv hd LW)<|by
 rintro σ H Q ⟨Ow,env,p,E,hf,k⟩
 by_cases hG:i∈G
 ·obtain⟨a,e,_,t⟩:=E.own i p (fY hf) hG
  exact⟨_,e,k _ H (FE.refl _) (.inr ⟨a,rfl,t⟩)⟩
 ·obtain⟨v,e,r⟩:=E.val i p (fY hf) hG
  exact⟨v,e,k v H (FE.refl _) (.inl r)⟩
theorem XF {x z:Str}{t:Tok}{pos:Pos}(hm:X.mg x=some (.str z t))(hg:autoParam (Gl X x) r0_)(hd:autoParam ((x == ("__debug__" : Str))=false) r1_):SE X b G .val (.Name x pos) (bC (.str z)):=
 PE.imp (Aa hg hm (v:=.str z) ⟨_,rfl⟩ hd)<|by rintro σ H Q ⟨Ow,env,p,E,hf,k⟩;cases hf;exact k _ H (FE.refl _) (.str z)
theorem Ju {x:Str}{i:Int}{t:Tok}{pos:Pos}(hm:X.mg x=some (.int i t))(hg:autoParam (Gl X x) r0_)(hd:autoParam ((x == ("__debug__" : Str))=false) r1_):SE X b G .val (.Name x pos) (Fh i):=
 PE.imp (Aa hg hm (v:=.int i) ⟨_,rfl⟩ hd)<|by rintro σ H Q ⟨Ow,env,p,E,hf,k⟩;cases hf;exact k _ H (FE.refl _) (.int i)
theorem Qz {x:Str}{a:Addr}{q:PV}{pos:Pos}(hm:X.mg x=some (.ref a))(hr:∀A H,Rep b.C A H (.ref a) q)(hg:autoParam (Gl X x) r0_)(hd:autoParam ((x == ("__debug__" : Str))=false) r1_):SE X b G .val (.Name x pos) (bC q):=
 PE.imp (Aa hg hm (v:=.ref a) rfl hd)<|by rintro σ H Q ⟨Ow,env,p,E,hf,k⟩;cases hf;exact k _ H (FE.refl _) (hr _ _)
theorem rT {op:Operator}{r:R2}{g:PV->PV->Option PV}(ho:HL X (binaryOp op) r)(hr:Nw b m r g){m1 m2:Md}(h1:SE X b G m1 e1 f1)(h2:SE X b G m2 e2 f2):SE X b G m (.BinOp e1 op e2 pos) (b2 g f1 f2):=
 PE.imp (Xk ho h1.bor h2.bor) fun σ H Q h=>Js hr h
theorem bM {m1 m2:Md}(h1:SE X b G m1 e1 f1)(h2:SE X b G m2 e2 f2):SE X b G .val (.BinOp e1 .Add e2 pos) (b2 b7 f1 f2):=rT (HL.or (HL.or Ui Jh) Lq) Ve h1 h2
theorem jD {m1 m2:Md}(h1:SE X b G m1 e1 f1)(h2:SE X b G m2 e2 f2):SE X b G .own (.BinOp e1 .Add e2 pos) (b2 mG f1 f2):=rT Lq Vf h1 h2
theorem LQ {m1 m2:Md}(h1:SE X b G m1 e1 f1)(h2:SE X b G m2 e2 f2):SE X b G .val (.BinOp e1 .Sub e2 pos) (b2 Pf f1 f2):=rT Uj Vb h1 h2
theorem vI {m1 m2:Md}(h1:SE X b G m1 e1 f1)(h2:SE X b G m2 e2 f2):SE X b G .val (.BinOp e1 .Mult e2 pos) (b2 vG f1 f2):=rT K7 LK h1 h2
theorem kj {m1 m2:Md}(h1:SE X b G m1 e1 f1)(h2:SE X b G m2 e2 f2):SE X b G .val (.BinOp e1 .FloorDiv e2 pos) (b2 jB f1 f2):=rT QZ Vc h1 h2
theorem cU {m1 m2:Md}(h1:SE X b G m1 e1 f1)(h2:SE X b G m2 e2 f2):SE X b G .val (.BinOp e1 .Mod e2 pos) (b2 cN f1 f2):=rT Uk Vd h1 h2
end
@[simp] noncomputable def Pl:PV->PV->Option Bool
 | .FG,.FG=>some true
 | .FG,.int _=>some false | .int _,.FG=>some false | .FG,.bl _=>some false | .bl _,.FG=>some false | .FG,.str _=>some false | .str _,.FG=>some false
 | .int i,.int j=>some (decide (i=j))
 | .bl i,.bl j=>some (decide (i=j))
 | .str i,.str j=>some (decide (i=j))
 | .int _,.str _=>some false | .str _,.int _=>some false | .bl _,.str _=>some false | .str _,.bl _=>some false
 | _,_=>none
mutual
noncomputable def toD:PV->Option PyData
 | .FG=>some .none
 | .bl b=>some (.bool b)
 | .int i=>some (.int i)
 | .str x=>some (.str x)
 | .lst xs=>(d8 xs).map .list
 | .frz xs=>(d8 xs).map .list
 | .tup xs=>(d8 xs).map .tuple
 | .ktp xs=>(d8 xs).map .tuple
 | _=>none
noncomputable def d8:List PV->Option (List PyData)
 | []=>some []
 | x::xs=>match toD x,d8 xs with
  | some d,some ds=>some (d::ds)
  | _,_=>none
end
noncomputable def Q2 (x y:PV):Option Bool:=match toD x,toD y with
 | some d,some e=>if SeqAt.shaped d=true/\SeqAt.shaped e=true then some (PyData.eqv d e) else none
 | _,_=>none
noncomputable def Kt (x y:PV):Option Bool:=match Pl x y with
 | some k=>some k
 | none=>Q2 x y
noncomputable def eqQ (x y:PV):Option PV:=(Kt x y).map .bl
@[simp] theorem LR (x y:PV):eqQ x y=((Kt x y).map .bl):=id rfl
noncomputable def L3 (x y:PV):Option PV:=(Kt x y).map λk=>.bl (!k)
@[simp] theorem Zw (x y:PV):L3 x y=((Kt x y).map λk=>.bl (!k)):=id rfl
theorem Rep.dt2 {C:MC}{A:Addr->Prop}{H:Hp}:(∀{v p},Rep C A H v p->∀d,toD p=some d->Dt C.K H v d)/\(∀{v p},FA C A H v p->∀d,d8 p=some d->Pe C.K H v d):=by
 have l:∀{a vs xs},F7 C.K H a vs->(∀d,d8 xs=some d->Pe C.K H vs d)->∀d,(d8 xs).map .list=some d->Dt C.K H (.ref a) d:=by
  intro a vs xs h r d e
  obtain⟨x,hx,rfl⟩:=Option.map_eq_some_iff.mp e
  exact .lst h (r x hx)
 have t:∀{a vs xs},LD C.K H a vs->(∀d,d8 xs=some d->Pe C.K H vs d)->∀d,(d8 xs).map .tuple=some d->Dt C.K H (.ref a) d:=by
  intro a vs xs h r d e
  obtain⟨x,hx,rfl⟩:=Option.map_eq_some_iff.mp e
  exact .tup h (r x hx)
 have nd:=Rep.nd (C:=C) (A:=A) (H:=H) (M1:=λv p=>∀d,toD p=some d->Dt C.K H v d) (M2:=λv p=>∀d,d8 p=some d->Pe C.K H v d) (M3:=λ_ _=>True) (M4:=λ_ _=>True) (M5:=λ_ _=>True)
  ?_ ?_ ?_ ?_ ?_ ?_ ?_ ?_ ?_ ?_ ?_ ?_ ?_ ?_ ?_ trivial (λ_ _ _ _=>trivial) trivial (λ_ _ _ _=>trivial) trivial (λ_ _ _ _=>trivial)
 ·exact ⟨nd.1,nd.2.1⟩
 ·intro d e;simp only[toD] at e;cases e;exact .FG
 ·intro b d e;simp only[toD] at e;cases e;exact .bl b
 ·intro b d e;simp only[toD] at e;cases e;exact .int b
 ·intro b d e;simp only[toD] at e;cases e;exact .str b
 ·intro a vs xs h _ _ r d e;simp only[toD] at e;exact l (F7.of h) r d e
 ·intro a o vs xs h _ r d e;simp only[toD] at e;exact l (.inl (.inr ⟨_,h⟩)) r d e
 ·intro a vs xs h _ r d e;simp only[toD] at e;exact l (sqK h) r d e
 ·intro a vs xs h _ r d e;simp only[toD] at e;exact t (LD.of h) r d e
 ·intro a vs xs h _ r d e;simp only[toD] at e;exact t (.inr h) r d e
 ·intro a vs xs h _ r d e;simp only[toD] at e;exact t (ym h) r d e
 ·intro a vs xs h _ _ _ d e;simp only[toD] at e;cases e
 ·intro a vs xs h _ _ _ d e;simp only[toD] at e;cases e
 ·intro a dx c f fs h _ _ _ d e;simp only[toD] at e;cases e
 ·intro d e;simp only[d8] at e;cases e;exact .nil
 ·intro v p vs ps _ _ h t d e
  simp only[d8] at e
  cases q:toD p with
  | none=>rw[q] at e;cases e
  | some d=>
   cases q2:d8 ps with
   | none=>rw[q,q2] at e;cases e
   | some ds=>rw[q,q2] at e;cases e;exact .cons (h _ q) (t _ q2)
theorem Rep.dt {C:MC}{A:Addr->Prop}{H:Hp}{v:V}{p:PV}{d:PyData}(h:Rep C A H v p)(e:toD p=some d):Dt C.K H v d:=Rep.dt2.1 h d e
theorem FA.dt {C:MC}{A:Addr->Prop}{H:Hp}{v:List V}{p:List PV}{d:List PyData}(h:FA C A H v p)(e:d8 p=some d):Pe C.K H v d:=Rep.dt2.2 h d e
theorem FF.dt {C:MC}{A:Addr->Prop}{H:Hp}{v:V}{p:PV}{d:PyData}(h:FF C A H v p)(e:toD p=some d):Dt C.K H v d:=by
 rcases h with h | ⟨a,rfl,t⟩
 ·exact h.dt e
 ·cases p with
  | lst xs=>
   obtain⟨vs,q,r⟩:=t
   exact(Rep.lst (A:=λ_=>True) q fg (r.ex (cO λ_ _ _ _=>fg))).dt e
  | dK kvs=>simp only[toD] at e;cases e
  | dT kvs=>simp only[toD] at e;cases e
  | obj c fs=>simp only[toD] at e;cases e
  | _=>exact t.elim
theorem Fi {C:MC}{A:Addr->Prop}{H:Hp}{v u:V}{p q:PV}{k:Bool}(h:FF C A H v p)(h':FF C A H u q)(e:Pl p q=some k):NQ v u=true/\decide (v=u)=k:=by
 unfold Pl at e
 split at e <;> first | cases e | skip
 ·rw[h.FG,h'.FG];exact⟨rfl,rfl⟩
 ·rw[h.FG,h'.int];exact⟨rfl,rfl⟩
 ·rw[h.int,h'.FG];exact⟨rfl,rfl⟩
 ·rw[h.FG,h'.bl];exact⟨rfl,rfl⟩
 ·rw[h.bl,h'.FG];exact⟨rfl,rfl⟩
 ·rw[h.FG,h'.str];exact⟨rfl,rfl⟩
 ·rw[h.str,h'.FG];exact⟨rfl,rfl⟩
 ·rw[h.int,h'.int];exact⟨rfl,by simp⟩
 ·rw[h.bl,h'.bl];exact⟨rfl,by simp⟩
 ·rw[h.str,h'.str];exact⟨rfl,by simp⟩
 ·rw[h.int,h'.str];exact⟨rfl,rfl⟩
 ·rw[h.str,h'.int];exact⟨rfl,rfl⟩
 ·rw[h.bl,h'.str];exact⟨rfl,rfl⟩
 ·rw[h.str,h'.bl];exact⟨rfl,rfl⟩
def Vg (K:W.Frag):R2:=λx y H Q=>rEq x y H Q\/∃d e,Dt K H x d/\Dt K H y e/\SeqAt.shaped d=true/\SeqAt.shaped e=true/\Q (.bl (PyData.eqv d e)) H
def Vh (K:W.Frag):R2:=λx y H Q=>rNe x y H Q\/∃d e,Dt K H x d/\Dt K H y e/\SeqAt.shaped d=true/\SeqAt.shaped e=true/\Q (.bl (!PyData.eqv d e)) H
section
variable {b:BX}
theorem XH:Nw b .val (Vg b.C.K) eqQ:=by
 intro Ow H v1 v2 p1 p2 p Q hn r1 r2 e k
 unfold eqQ Kt at e
 cases q:Pl p1 p2 with
 | some c=>
  rw[q] at e
  cases e
  obtain⟨h1,h2⟩:=Fi r1 r2 q
  exact .inl ⟨h1,by rw[h2];exact k _ H (FE.refl _) (.bl c)⟩
 | none=>
  rw[q] at e
  simp only[Q2] at e
  cases q1:toD p1 with
  | none=>rw[q1] at e;cases e
  | some d=>
   cases q2:toD p2 with
   | none=>rw[q1,q2] at e;cases e
   | some d'=>
    rw[q1,q2] at e
    simp only at e
    split at e
    ·rename_i hs
     cases e
     exact .inr ⟨d,d',r1.dt q1,r2.dt q2,hs.1,hs.2,k _ H (FE.refl _) (.bl _)⟩
    ·cases e
theorem XJ:Nw b .val (Vh b.C.K) L3:=by
 intro Ow H v1 v2 p1 p2 p Q hn r1 r2 e k
 unfold L3 Kt at e
 cases q:Pl p1 p2 with
 | some c=>
  rw[q] at e
  cases e
  obtain⟨h1,h2⟩:=Fi r1 r2 q
  exact .inl ⟨h1,by rw[h2];exact k _ H (FE.refl _) (.bl _)⟩
 | none=>
  rw[q] at e
  simp only[Q2] at e
  cases q1:toD p1 with
  | none=>rw[q1] at e;cases e
  | some d=>
   cases q2:toD p2 with
   | none=>rw[q1,q2] at e;cases e
   | some d'=>
    rw[q1,q2] at e
    simp only at e
    split at e
    ·rename_i hs
     cases e
     exact .inr ⟨d,d',r1.dt q1,r2.dt q2,hs.1,hs.2,k _ H (FE.refl _) (.bl _)⟩
    ·cases e
end
@[simp] noncomputable def keyOf:PV->Option Key
 | .int i=>some (.inl i)
 | .str x=>some (.inr x)
 | _=>none
@[simp] noncomputable def keysOf:List PV->Option (List Key)
 | []=>some []
 | x::xs=>match keyOf x,keysOf xs with
  | some k,some ks=>some (k::ks)
  | _,_=>none
@[simp] noncomputable def GW:List PV->Option (List Key)
 | [.str x,.bl b]=>some [.inr x,.inl (if b=true then 1 else 0)]
 | xs=>keysOf xs
@[simp] noncomputable def dY:PV->Bool
 | .FG=>true
 | .bl _=>true
 | .int _=>true
 | .str _=>true
 | _=>false
noncomputable def MG:PV->PV->Bool
 | .FG,.FG=>true
 | .bl a,.bl b=>a == b
 | .bl a,.int b=>(if a then 1 else 0) == b
 | .int a,.bl b=>a == (if b then 1 else 0)
 | .int a,.int b=>a == b
 | .str a,.str b=>a == b
 | _,_=>false
noncomputable def dF {κ:Type}[DecidableEq κ](kvs:List (κ×PV))(k:κ):Option PV:=(kvs.find? λx=>decide (x.1=k)).map (·.2)
noncomputable def inD (x:PV)(ys:List PV):Option Bool:=match toD x,d8 ys with
 | some d,some ds=>if PyData.canLayAll0 ds=true/\d.canLay0=true/\d.depth<=32 then some (ds.any λy=>PyData.eqv y d) else none
 | _,_=>none
theorem uE {x:PV}{ys:List PV}{k:Bool}(h:inD x ys=some k):∃d ds,toD x=some d/\d8 ys=some ds/\PyData.canLayAll0 ds=true/\d.canLay0=true/\d.depth<=32/\(ds.any λy=>PyData.eqv y d)=k:=by
 unfold inD at h
 split at h
 ·rename_i d ds h1 h2
  split at h
  ·rename_i hc
   exact⟨d,ds,h1,h2,hc.1,hc.2.1,hc.2.2,bi h⟩
  ·cases h
 ·cases h
noncomputable def MV:PV->PV->Option Bool
 | x,.lst ys=>if dY x=true/\ys.all dY=true then some (ys.any λy=>MG y x) else inD x ys
 | x,.frz ys=>if dY x=true/\ys.all dY=true then some (ys.any λy=>MG y x) else inD x ys
 | x,.ktp ys=>if dY x=true/\ys.all dY=true then some (ys.any λy=>MG y x) else inD x ys
 | x,.tup ys=>if dY x=true/\ys.all dY=true then some (ys.any λy=>MG y x) else inD x ys
 | .str x,.str y=>some (!(Builtin.Str.occurrences y x 0 y.length 1).isEmpty)
 | x,.dK kvs=>(keyOf x).map λk=>(dF kvs k).isSome
 | .tup xs,.dT kvs=>(GW xs).map λk=>(dF kvs k).isSome
 | _,_=>none
theorem FA.keys {C:MC}{A:Addr->Prop}{H:Hp}:∀{vs:List V}{ps:List PV}{ks:List Key},FA C A H vs ps->keysOf ps=some ks->vs=ks.map kV
 | _,_,_,.nil,e=>by cases e;rfl
 | _,_,_,.cons (p:=p) (ps:=ps) h t,e=>by
  unfold keysOf at e
  cases q:keyOf p with
  | none=>rw[q] at e;cases e
  | some k=>
   cases q2:keysOf ps with
   | none=>rw[q,q2] at e;cases e
   | some ks=>
    rw[q,q2] at e
    cases e
    have ih:=FA.keys t q2
    rw[ag,ih]
    congr 1
    unfold keyOf at q
    split at q <;> cases q <;> cases h <;> rfl
theorem FA.GW {C:MC}{A:Addr->Prop}{H:Hp}{vs:List V}{ps:List PV}{ks:List Key}(r:FA C A H vs ps)(e:GW ps=some ks):vq ks vs:=by
 unfold MR.GW at e
 split at e
 ·cases e
  cases r with
  | cons h1 t=>cases t with
   | cons h2 t=>cases t;cases h1;cases h2;exact .inr ⟨_,_,rfl,rfl⟩
 ·exact .inl (r.keys e)
theorem FF.key {C:MC}{A:Addr->Prop}{H:Hp}{v:V}{p:PV}{k:Key}(h:FF C A H v p)(e:keyOf p=some k):v=kV k:=by
 unfold keyOf at e
 split at e
 ·cases e;exact h.int
 ·cases e;exact h.str
 ·cases e
theorem FF.flat {C:MC}{A:Addr->Prop}{H:Hp}{v:V}{p:PV}(h:FF C A H v p)(e:dY p=true):jM v=true:=by
 unfold dY at e
 split at e
 ·rw[h.FG];rfl
 ·rw[h.bl];rfl
 ·rw[h.int];rfl
 ·rw[h.str];rfl
 ·cases e
noncomputable def fV:PV->V
 | .bl b=>.bl b
 | .int i=>.int i
 | .str x=>.str x
 | _=>.FG
theorem FF.fV {C:MC}{A:Addr->Prop}{H:Hp}{v:V}{p:PV}(h:FF C A H v p)(e:dY p=true):v=fV p:=by
 cases p with
 | FG=>exact h.FG
 | bl b=>exact h.bl
 | int i=>exact h.int
 | str x=>exact h.str
 | _=>cases e
theorem XM (p q:PV)(hp:dY p=true)(hq:dY q=true):L2.YV (fV p) (fV q)=MG p q:=by
 cases p <;> cases q <;> first | rfl | (cases hp;done) | (cases hq;done)
theorem FA.flat {C:MC}{A:Addr->Prop}{H:Hp}{v:V}{p:PV}(h:FF C A H v p)(e:dY p=true):∀{vs:List V}{ps:List PV},FA C A H vs ps->ps.all dY=true->vs.all jM=true/\inV v vs=ps.any λy=>MG y p
 | _,_,.nil,_=>⟨rfl,rfl⟩
 | _,_,.cons (v:=v') (p:=p') (vs:=vs) (ps:=ps) q t,e'=>by
  rw[gX,cm] at e'
  obtain⟨h1,h2⟩:=FA.flat h e t e'.2
  have hf:jM v'=true:=FF.flat (.inl q) e'.1
  refine⟨by rw[gX,hf,h1];rfl,?_⟩
  unfold inV at h2 ⊢
  rw[cy,cy,h2]
  have q1:=h.fV e
  have q2:=FF.fV (.inl q) e'.1
  rw[q1,q2,XM _ _ e'.1 e]
section
variable {X:Cx}
theorem Vi (hu:X.A.units+1 < cLine):HL X (compareOp .In) (λx y H Q=>∃a o,y=.ref a/\IE X.K H a x o/\Q (.bl o.isSome) H):=by
 intro Fs s σ H x y v u Q I rx ry h
 obtain⟨a,o,rfl,g,q⟩:=h
 obtain rfl:u=Value.ref a:=ry
 exact YD hu I g rx λs3 I3=>⟨.bl o.isSome,H,I3,rfl,q⟩
def Jv (K:W.Frag)(neg:Bool):R2:=λx y H Q=>∃d ds,(Dt K H y (.list ds)\/Dt K H y (.tuple ds))/\Dt K H x d/\PyData.canLayAll0 ds=true/\d.canLay0=true/\d.depth<=32/\Q (.bl (if neg then !(ds.any λy=>PyData.eqv y d) else ds.any λy=>PyData.eqv y d)) H
theorem Vj (hu:X.A.units+64 < cLine):HL X (compareOp .In) (Jv X.K false):=by
 intro Fs s σ H x y v u Q I rx ry h
 obtain⟨d,ds,h1,h2,c1,c2,c3,q⟩:=h
 have hm:min (PyData.depthAll ds) d.depth<=d.depth:=l0 _ _
 obtain⟨as,ra⟩:=h2.reads I rx
 rcases h1 with h1 | h1
 ·obtain⟨bs,rb⟩:=h1.reads I ry
  exact PySem.SeqAt.in_list_reads rb ra c1 c2 (by omega) ⟨.bl _,H,I,rfl,q⟩
 ·obtain⟨bs,rb⟩:=h1.reads I ry
  exact PySem.SeqAt.in_tuple_reads rb ra c1 c2 (by omega) ⟨.bl _,H,I,rfl,q⟩
theorem L_ (hu:X.A.units+64 < cLine):HL X (compareOp .NotIn) (Jv X.K true):=by
 intro Fs s σ H x y v u Q I rx ry h
 obtain⟨d,ds,h1,h2,c1,c2,c3,q⟩:=h
 have hm:min (PyData.depthAll ds) d.depth<=d.depth:=l0 _ _
 obtain⟨as,ra⟩:=h2.reads I rx
 rcases h1 with h1 | h1
 ·obtain⟨bs,rb⟩:=h1.reads I ry
  exact PySem.SeqAt.notIn_list_reads rb ra c1 c2 (by omega) ⟨.bl _,H,I,rfl,q⟩
 ·obtain⟨bs,rb⟩:=h1.reads I ry
  exact PySem.SeqAt.notIn_tuple_reads rb ra c1 c2 (by omega) ⟨.bl _,H,I,rfl,q⟩
theorem Ma (hu:X.A.units+1 < cLine):HL X (compareOp .NotIn) (λx y H Q=>∃a o,y=.ref a/\IE X.K H a x o/\Q (.bl (!o.isSome)) H):=by
 intro Fs s σ H x y v u Q I rx ry h
 obtain⟨a,o,rfl,g,q⟩:=h
 obtain rfl:u=Value.ref a:=ry
 exact Ra hu I g rx λs3 I3=>⟨.bl (!o.isSome),H,I3,rfl,q⟩
end
def Vk (K:W.Frag):R2:=λx y H Q=>(rIn K false x y H Q\/∃i j,x=.str i/\y=.str j/\Q (.bl (!(Builtin.Str.occurrences j i 0 j.length 1).isEmpty)) H)\/(∃a o,y=.ref a/\IE K H a x o/\Q (.bl o.isSome) H)\/Jv K false x y H Q
def HW (K:W.Frag):R2:=λx y H Q=>(rIn K true x y H Q\/∃i j,x=.str i/\y=.str j/\Q (.bl (!(!(Builtin.Str.occurrences j i 0 j.length 1).isEmpty))) H)\/(∃a o,y=.ref a/\IE K H a x o/\Q (.bl (!o.isSome)) H)\/Jv K true x y H Q
noncomputable def LS (x y:PV):Option PV:=(MV x y).map .bl
@[simp] theorem Zx (x y:PV):LS x y=((MV x y).map .bl):=id rfl
noncomputable def g_ (x y:PV):Option PV:=(MV x y).map λk=>.bl (!k)
@[simp] theorem Yh (x y:PV):g_ x y=((MV x y).map λk=>.bl (!k)):=id rfl
theorem Mf {C:MC}{A:Addr->Prop}{H:Hp}{v1 v2:V}{p1 p2:PV}{k:Bool}(r1:FF C A H v1 p1)(r2:FF C A H v2 p2)(e:MV p1 p2=some k):
  (∃p xs,v2=.ref p/\(F7 C.K H p xs\/LD C.K H p xs)/\jM v1=true/\xs.all jM=true/\inV v1 xs=k)\/(∃i j,v1=.str i/\v2=.str j/\(!(Builtin.Str.occurrences j i 0 j.length 1).isEmpty)=k)\/(∃a o,v2=.ref a/\IE C.K H a v1 o/\o.isSome=k)\/∃d ds,(Dt C.K H v2 (.list ds)\/Dt C.K H v2 (.tuple ds))/\Dt C.K H v1 d/\PyData.canLayAll0 ds=true/\d.canLay0=true/\d.depth<=32/\(ds.any λy=>PyData.eqv y d)=k:=by
 unfold MV at e
 split at e
 ·split at e
  ·rename_i h
   cases e
   obtain⟨a,vs,rfl,ha,ra⟩:=r2.lst
   obtain⟨h1,h2⟩:=FA.flat r1 h.1 ra h.2
   exact .inl ⟨a,vs,rfl,.inl (F7.of ha),r1.flat h.1,h1,h2⟩
  ·obtain⟨d,ds,t1,t2,c1,c2,c3,c4⟩:=uE e
   exact .inr (.inr (.inr ⟨d,ds,.inl (r2.dt (by simp[toD,t2])),r1.dt t1,c1,c2,c3,c4⟩))
 ·split at e
  ·rename_i h
   cases e
   obtain⟨a,vs,rfl,ha,ra⟩:=r2.frz
   obtain⟨h1,h2⟩:=FA.flat r1 h.1 ra h.2
   exact .inl ⟨a,vs,rfl,.inl ha,r1.flat h.1,h1,h2⟩
  ·obtain⟨d,ds,t1,t2,c1,c2,c3,c4⟩:=uE e
   exact .inr (.inr (.inr ⟨d,ds,.inl (r2.dt (by simp[toD,t2])),r1.dt t1,c1,c2,c3,c4⟩))
 ·split at e
  ·rename_i h
   cases e
   obtain⟨a,vs,rfl,ha,ra⟩:=r2.ktp
   obtain⟨h1,h2⟩:=FA.flat r1 h.1 ra h.2
   exact .inl ⟨a,vs,rfl,.inr ha,r1.flat h.1,h1,h2⟩
  ·obtain⟨d,ds,t1,t2,c1,c2,c3,c4⟩:=uE e
   exact .inr (.inr (.inr ⟨d,ds,.inr (r2.dt (by simp[toD,t2])),r1.dt t1,c1,c2,c3,c4⟩))
 ·split at e
  ·rename_i h
   cases e
   obtain⟨a,vs,rfl,ha,ra⟩:=r2.tup
   obtain⟨h1,h2⟩:=FA.flat r1 h.1 ra h.2
   exact .inl ⟨a,vs,rfl,.inr ha.sq,r1.flat h.1,h1,h2⟩
  ·obtain⟨d,ds,t1,t2,c1,c2,c3,c4⟩:=uE e
   exact .inr (.inr (.inr ⟨d,ds,.inr (r2.dt (by simp[toD,t2])),r1.dt t1,c1,c2,c3,c4⟩))
 ·cases e
  exact .inr (.inl ⟨_,_,r1.str,r2.str,rfl⟩)
 ·obtain⟨a,kv,rfl,ha,ra⟩:=r2.dK
  cases q:keyOf p1 with
  | none=>rw[q] at e;cases e
  | some ky=>
   rw[q] at e
   cases e
   rw[r1.key q]
   refine .inr (.inr (.inl ⟨a,_,rfl,IE.k ha,?_⟩))
   unfold dF
   dsimp only
   rcases GA.val (k:=ky) ra with ⟨v,p,h1,h2,_⟩ | ⟨h1,h2⟩
   ·rw[h1,h2];rfl
   ·rw[h1,h2];rfl
 ·rename_i xs kvs
  obtain⟨a,kv,rfl,ha,ra⟩:=r2.dT
  obtain⟨c,vs,rfl,hc,rc⟩:=r1.tup
  cases q:GW xs with
  | none=>rw[q] at e;cases e
  | some ky=>
   rw[q] at e
   cases e
   refine .inr (.inr (.inl ⟨a,_,rfl,IE.t ha (hc.key (rc.GW q)),?_⟩))
   unfold dF
   dsimp only
   rcases GB.val (k:=ky) ra with ⟨v,p,h1,h2,_⟩ | ⟨h1,h2⟩
   ·rw[h1,h2];rfl
   ·rw[h1,h2];rfl
 ·cases e
section
variable {b:BX}
theorem XN:Nw b .val (Vk b.C.K) LS:=by
 intro Ow H v1 v2 p1 p2 p Q hn r1 r2 e k
 unfold LS at e
 cases q:MV p1 p2 with
 | none=>rw[q] at e;cases e
 | some c=>
  rw[q] at e
  cases e
  have fin:=k (.bl c) H (FE.refl _) (.bl c)
  rcases Mf r1 r2 q with ⟨a,xs,rfl,h1,h2,h3,h4⟩ | ⟨i,j,rfl,rfl,h1⟩ | ⟨a,o,rfl,h1,h2⟩ | ⟨d,ds,h1,h2,c1,c2,c3,h4⟩
  ·subst h4;exact .inl (.inl ⟨a,xs,rfl,h1,h2,h3,fin⟩)
  ·subst h1;exact .inl (.inr ⟨i,j,rfl,rfl,fin⟩)
  ·subst h2;exact .inr (.inl ⟨a,o,rfl,h1,fin⟩)
  ·subst h4;exact .inr (.inr ⟨d,ds,h1,h2,c1,c2,c3,fin⟩)
theorem Oq:Nw b .val (HW b.C.K) g_:=by
 intro Ow H v1 v2 p1 p2 p Q hn r1 r2 e k
 unfold g_ at e
 cases q:MV p1 p2 with
 | none=>rw[q] at e;cases e
 | some c=>
  rw[q] at e
  cases e
  have fin:=k (.bl (!c)) H (FE.refl _) (.bl _)
  rcases Mf r1 r2 q with ⟨a,xs,rfl,h1,h2,h3,h4⟩ | ⟨i,j,rfl,rfl,h1⟩ | ⟨a,o,rfl,h1,h2⟩ | ⟨d,ds,h1,h2,c1,c2,c3,h4⟩
  ·subst h4;exact .inl (.inl ⟨a,xs,rfl,h1,h2,h3,fin⟩)
  ·subst h1;exact .inl (.inr ⟨i,j,rfl,rfl,fin⟩)
  ·subst h2;exact .inr (.inl ⟨a,o,rfl,h1,fin⟩)
  ·subst h4;exact .inr (.inr ⟨d,ds,h1,h2,c1,c2,c3,fin⟩)
end
@[simp] noncomputable def Fj:PV->Bool
 | .FG=>true
 | _=>false
noncomputable def P6 (x y:PV):Option PV:=match y with
 | .FG=>some (.bl (Fj x))
 | _=>none
@[simp] theorem Zy (x y:PV):P6 x y=(match y with
 | .FG=>some (.bl (Fj x))
 | _=>none):=id rfl
noncomputable def gK (x y:PV):Option PV:=match y with
 | .FG=>some (.bl (!Fj x))
 | _=>none
@[simp] theorem Yi (x y:PV):gK x y=(match y with
 | .FG=>some (.bl (!Fj x))
 | _=>none):=id rfl
theorem FF.P6 {C:MC}{A:Addr->Prop}{H:Hp}{v:V}{p:PV}(h:FF C A H v p):decide (v=.FG)=Fj p:=by
 cases p with
 | FG=>rw[h.FG];rfl
 | bl b=>rw[h.bl];rfl
 | int b=>rw[h.int];rfl
 | str b=>rw[h.str];rfl
 | lst b=>obtain⟨a,_,rfl,_⟩:=h.lst;rfl
 | frz b=>obtain⟨a,_,rfl,_⟩:=h.frz;rfl
 | tup b=>obtain⟨a,_,rfl,_⟩:=h.tup;rfl
 | ktp b=>obtain⟨a,_,rfl,_⟩:=h.ktp;rfl
 | dK b=>obtain⟨a,_,rfl,_⟩:=h.dK;rfl
 | dT b=>obtain⟨a,_,rfl,_⟩:=h.dT;rfl
 | obj c b=>obtain⟨a,_,_,rfl,_⟩:=h.obj;rfl
section
variable {b:BX}
theorem Vl:Nw b .val (λx y H Q=>y=.FG/\Q (.bl (decide (x=.FG))) H) P6:=by
 intro Ow H v1 v2 p1 p2 p Q hn r1 r2 e k
 cases p2 with
 | FG=>
  simp only[P6] at e
  cases e
  exact⟨r2.FG,by rw[r1.P6];exact k _ H (FE.refl _) (.bl _)⟩
 | _=>simp only[P6] at e;cases e
theorem Mg:Nw b .val (λx y H Q=>y=.FG/\Q (.bl (!decide (x=.FG))) H) gK:=by
 intro Ow H v1 v2 p1 p2 p Q hn r1 r2 e k
 cases p2 with
 | FG=>
  simp only[gK] at e
  cases e
  exact⟨r2.FG,by rw[r1.P6];exact k _ H (FE.refl _) (.bl _)⟩
 | _=>simp only[gK] at e;cases e
end
section
variable {X:Cx}{b:BX}{G:oz}{m:Md}{e e1 e2 e3:Expr}{f f1 f2 f3:pc}{pos:Pos}{m1 m2 m3:Md}
structure SC (X:Cx)(b:BX)(G:oz)(op:CmpOp)(e1 e2:Expr)(f:pc):Prop where
 pe:∀pos,SE X b G .val (.Compare e1 [op] [e2] pos) f
 pt:∀pos,ST X b G (.Compare e1 [op] [e2] pos) (tV f)
theorem rW {op:CmpOp}{r:R2}{g:PV->PV->Option PV}(ho:HL X (compareOp op) r)(hr:Nw b .val r g)(h1:SE X b G m1 e1 f1)(h2:SE X b G m2 e2 f2)(hm:behindInMarks op e2=false):SC X b G op e1 e2 (b2 g f1 f2):=by
 refine⟨λpos=>PE.imp (Q3 ho h1.bor h2.bor hm) fun σ H Q h=>Js hr h,λpos=>PT.imp (Q4 ho h1.bor h2.bor hm) fun σ H Q h=>?_⟩
 obtain⟨Ow,env,c,E,hf,k⟩:=h
 unfold tV at hf
 cases q:b2 g f1 f2 env with
 | none=>rw[q] at hf;cases hf
 | some p=>
  rw[q] at hf
  refine Js (Q:=λx H'=>∃k,x=.bl k/\_) hr ⟨Ow,env,p,E,q,λv H' s r=>?_⟩
  cases p with
  | bl d=>
   cases hf
   cases r
   exact⟨_,rfl,k H' s⟩
  | _=>cases hf
theorem bB {j:Nat}(hr:F5 j X.A)(h1:SE X b G m1 e1 f1)(h2:SE X b G m2 e2 f2)(hK:autoParam (X.K=b.C.K) r0_):SC X b G .Eq e1 e2 (b2 eqQ f1 f2):=rW (r:=Vg b.C.K) (by rw[← hK];exact HL.or Xm (U5 hr.units)) XH h1 h2 (tR _)
theorem gZ {j:Nat}(hr:F5 j X.A)(h1:SE X b G m1 e1 f1)(h2:SE X b G m2 e2 f2)(hK:autoParam (X.K=b.C.K) r0_):SC X b G .NotEq e1 e2 (b2 L3 f1 f2):=rW (r:=Vh b.C.K) (by rw[← hK];exact HL.or Xn (U6 hr.units)) XJ h1 h2 (tR _)
theorem Jw (h1:SE X b G m1 e1 f1)(h2:SE X b G m2 e2 f2):SC X b G .Lt e1 e2 (b2 (gR λi j=>decide (i < j)) f1 f2):=rW Xo LC h1 h2 (tR _)
theorem qt (h1:SE X b G m1 e1 f1)(h2:SE X b G m2 e2 f2):SC X b G .Gt e1 e2 (b2 (gR λi j=>decide (j < i)) f1 f2):=rW Xp LC h1 h2 (tR _)
theorem fU {j:Nat}(hr:F5 j X.A)(h1:SE X b G m1 e1 f1)(h2:SE X b G m2 e2 f2)(hm:autoParam (behindInMarks .In e2=false) r0_)(hK:autoParam (X.K=b.C.K) r0_):SC X b G .In e1 e2 (b2 LS f1 f2):=
 rW (r:=Vk b.C.K) (by rw[← hK];exact HL.or (HL.or Ln K9) (HL.or (Vi (uB hr)) (Vj hr.units))) XN h1 h2 hm
theorem qQ {j:Nat}(hr:F5 j X.A)(h1:SE X b G m1 e1 f1)(h2:SE X b G m2 e2 f2)(hm:autoParam (behindInMarks .NotIn e2=false) r0_)(hK:autoParam (X.K=b.C.K) r0_):SC X b G .NotIn e1 e2 (b2 g_ f1 f2):=
 rW (r:=HW b.C.K) (by rw[← hK];exact HL.or (HL.or Ew Ey) (HL.or (Ma (uB hr)) (L_ hr.units))) Oq h1 h2 hm
theorem wV (h1:SE X b G m1 e1 f1)(h2:SE X b G m2 e2 f2):SC X b G .Is e1 e2 (b2 P6 f1 f2):=rW Um Vl h1 h2 (tR _)
theorem lG (h1:SE X b G m1 e1 f1)(h2:SE X b G m2 e2 f2):SC X b G .IsNot e1 e2 (b2 gK f1 f2):=rW Q0 Mg h1 h2 (tR _)
theorem bQ {op:CmpOp}(h:SC X b G op e1 e2 f):SE X b G .val (.Compare e1 [op] [e2] pos) f:=h.pe pos
theorem aM {op:CmpOp}(h:SC X b G op e1 e2 f):ST X b G (.Compare e1 [op] [e2] pos) (tV f):=h.pt pos
noncomputable def vJ (g g':Int->Int->Bool)(f1 f2 f3:pc)(env:Env):Option PV:=(f1 env).bind λx=>(f2 env).bind λy=>match x,y with
 | .int i,.int j=>if g i j=true then (f3 env).bind λz=>gR g' y z else some (.bl false)
 | _,_=>none
@[simp] theorem Yj (g g':Int->Int->Bool)(f1 f2 f3:pc)(env:Env):vJ g g' f1 f2 f3 env=((f1 env).bind λx=>(f2 env).bind λy=>match x,y with
 | .int i,.int j=>if g i j=true then (f3 env).bind λz=>gR g' y z else some (.bl false)
 | _,_=>none):=id rfl
theorem Hq {g g':Int->Int->Bool}{f1 f2 f3:pc}{env:Env}{p:PV}(h:vJ g g' f1 f2 f3 env=some p):
  ∃i j,f1 env=some (.int i)/\f2 env=some (.int j)/\((g i j=false/\p=.bl false)\/(g i j=true/\∃l,f3 env=some (.int l)/\p=.bl (g' j l))):=by
 unfold vJ at h
 cases q1:f1 env with
 | none=>rw[q1] at h;cases h
 | some p1=>
  cases q2:f2 env with
  | none=>rw[q1,q2] at h;cases h
  | some p2=>
   rw[q1,q2] at h
   simp only[bq] at h
   split at h
   ·rename_i i j
    refine⟨i,j,rfl,rfl,?_⟩
    cases hg:g i j with
    | false=>
     rw[hg] at h
     cases h
     exact .inl ⟨rfl,rfl⟩
    | true=>
     rw[hg] at h
     simp only[g9] at h
     obtain⟨p3,q3,h⟩:=Option.bind_eq_some_iff.mp h
     cases p3 with
     | int l=>
      cases h
      exact .inr ⟨rfl,l,q3,rfl⟩
     | _=>cases h
   ·cases h
theorem Ot {op op':CmpOp}{g g':Int->Int->Bool}(ho:HL X (compareOp op) (QI λi j=>.bl (g i j)))(OC:HL X (compareOp op') (QI λi j=>.bl (g' i j)))(h1:SE X b G m1 e1 f1)(h2:SE X b G m2 e2 f2)(h3:SE X b G m3 e3 f3)
  (hm:autoParam (lastMarks [op,op'] [e2,e3]=false) r10_):SE X b G .val (.Compare e1 [op,op'] [e2,e3] pos) (vJ g g' f1 f2 f3):=
 PE.imp (NT ho OC h1.bor h2.bor h3.bor hm)<|by
  rintro σ H Q ⟨Ow,env,p,E,hf,k⟩
  obtain⟨i,j,q1,q2,hc⟩:=Hq hf
  refine⟨Ow,env,_,E,q1,λv1 H1 s1 r1=>⟨Ow,env,_,E.up s1,q2,λv2 H2 s2 r2=>?_⟩⟩
  have MH:FF b.C (Bs b Ow) H2 v1 (.int i):=Res.up (m:=.bor) r1 s2
  have Of:FF b.C (Bs b Ow) H2 v2 (.int j):=r2
  rw[MH.int,Of.int]
  refine⟨i,j,rfl,rfl,g i j,rfl,?_⟩
  rcases hc with ⟨hc,rfl⟩ | ⟨hc,l,q3,rfl⟩
  ·rw[hc]
   simp only[fe,gx]
   exact k _ H2 (s1.trans s2) (.bl false)
  ·rw[hc]
   simp only[g9]
   refine⟨Ow,env,_,E.up (s1.trans s2),q3,λv3 H3 s3 r3=>?_⟩
   have r3':FF b.C (Bs b Ow) H3 v3 (.int l):=r3
   rw[r3'.int]
   exact⟨_,_,rfl,rfl,k _ H3 (s1.trans (s2.trans s3)) (.bl _)⟩
theorem eU {op}(h:SE X b G m e f):SE X b G m (.BoolOp op [e] pos) f:=T7 h
theorem dZ {rest:oI}(h1:SE X b G .val e1 f1)(h2:SE X b G .val (.BoolOp .And (e2::rest) pos) f2):SE X b G .val (.BoolOp .And (e1::e2::rest) pos) (fQ f1 f2):=
 PE.imp (T8 h1 h2)<|by
  rintro σ H Q ⟨Ow,env,p,E,hf,k⟩
  unfold fQ at hf
  cases q1:f1 env with
  | none=>rw[q1] at hf;cases hf
  | some p1=>
   rw[q1] at hf
   refine⟨Ow,env,p1,E,q1,λv1 H1 s1 r1=>?_⟩
   cases p1 with
   | bl c=>
    cases r1
    refine⟨c,rfl,?_⟩
    cases c with
    | true=>exact⟨Ow,env,p,E.up s1,hf,λv H' s r=>k v H' (s1.trans s) r⟩
    | false=>cases hf;exact k _ H1 s1 (.bl false)
   | _=>cases hf
theorem DP {rest:oI}(h1:SE X b G .val e1 f1)(h2:SE X b G .val (.BoolOp .Or (e2::rest) pos) f2):SE X b G .val (.BoolOp .Or (e1::e2::rest) pos) (bOr f1 f2):=
 PE.imp (Xe h1 h2)<|by
  rintro σ H Q ⟨Ow,env,p,E,hf,k⟩
  unfold bOr at hf
  cases q1:f1 env with
  | none=>rw[q1] at hf;cases hf
  | some p1=>
   rw[q1] at hf
   refine⟨Ow,env,p1,E,q1,λv1 H1 s1 r1=>?_⟩
   cases p1 with
   | bl c=>
    cases r1
    refine⟨c,rfl,?_⟩
    cases c with
    | false=>exact⟨Ow,env,p,E.up s1,hf,λv H' s r=>k v H' (s1.trans s) r⟩
    | true=>cases hf;exact k _ H1 s1 (.bl true)
   | _=>cases hf
@[simp] noncomputable def fW:PV->Option PV
 | .int i=>some (.int (-i))
 | _=>none
theorem dU (h1:SE X b G m e1 f1):SE X b G .val (.UnaryOp .USub e1 pos) (b1 fW f1):=
 PE.imp (Xl Ul h1.bor) fun σ H Q h=>Jt (r:=rU λi=>.int (-i)) (λOw H v1 p1 p Q hn r1 e k=>by
  cases p1 <;> simp only[fW] at e <;> cases e
  exact⟨_,r1.int,k _ H (FE.refl _) (.int _)⟩) h
theorem di (h:SE X b G .val e f)(he:autoParam (∀whole,isTrue e X.env whole=(do let v ← whole;standAt e.pos;holding [v] (truthy v))) r4_):ST X b G e (tV f):=
 PT.imp (T3 h he)<|by
  rintro σ H Q ⟨Ow,env,c,E,hf,k⟩
  unfold tV at hf
  cases q1:f env with
  | none=>rw[q1] at hf;cases hf
  | some p1=>
   rw[q1] at hf
   refine⟨Ow,env,p1,E,q1,λv1 H1 s1 r1=>?_⟩
   cases p1 with
   | bl d=>cases r1;cases hf;exact⟨_,rfl,k H1 s1⟩
   | _=>cases hf
theorem qR {g:Env->Option Bool}(h:ST X b G e g):ST X b G (.UnaryOp .Not e pos) (tN g):=
 PT.imp (T6 h)<|by
  rintro σ H Q ⟨Ow,env,c,E,hf,k⟩
  unfold tN at hf
  cases q1:g env with
  | none=>rw[q1] at hf;cases hf
  | some p1=>rw[q1] at hf;cases hf;exact⟨Ow,env,p1,E,q1,λH' s=>k H' s⟩
abbrev SW (X:Cx)(b:BX)(G:oz)(e:Expr)(g:Env->Option Bool):Prop:=PW X e (tMT b G g)
theorem PW.imp {t u:TT}(h:PW X e t)(i:∀ σ H Q,u σ H Q->t σ H Q):PW X e u:=λwh Fs s σ H Q I q=>h wh Fs s σ H Q I (i σ H Q q)
variable {g1 g2:Env->Option Bool}
theorem fZ (h:ST X b G e g1):SW X b G (.BoolOp .And [e] pos) g1:=QV h
theorem vK (h:ST X b G e g1):SW X b G (.BoolOp .Or [e] pos) g1:=T4 h
theorem gM {rest:oI}(h1:ST X b G e1 g1)(h2:SW X b G (.BoolOp .And (e2::rest) pos) g2):SW X b G (.BoolOp .And (e1::e2::rest) pos) (tA g1 g2):=
 PW.imp (T5 h1 h2)<|by
  rintro σ H Q ⟨Ow,env,c,E,hf,k⟩
  unfold tA at hf
  cases q1:g1 env with
  | none=>rw[q1] at hf;cases hf
  | some p1=>
   rw[q1] at hf
   refine⟨Ow,env,p1,E,q1,λH1 s1=>?_⟩
   cases p1 with
   | true=>exact⟨Ow,env,c,E.up s1,hf,λH' s=>k H' (s1.trans s)⟩
   | false=>cases hf;exact k H1 s1
theorem yS {rest:oI}(h1:ST X b G e1 g1)(h2:SW X b G (.BoolOp .Or (e2::rest) pos) g2):SW X b G (.BoolOp .Or (e1::e2::rest) pos) (tO g1 g2):=
 PW.imp (Xc h1 h2)<|by
  rintro σ H Q ⟨Ow,env,c,E,hf,k⟩
  unfold tO at hf
  cases q1:g1 env with
  | none=>rw[q1] at hf;cases hf
  | some p1=>
   rw[q1] at hf
   refine⟨Ow,env,p1,E,q1,λH1 s1=>?_⟩
   cases p1 with
   | false=>exact⟨Ow,env,c,E.up s1,hf,λH' s=>k H' (s1.trans s)⟩
   | true=>cases hf;exact k H1 s1
theorem SW.st (h:SW X b G e g1):ST X b G e g1:=h _
theorem uF {c:Expr}(hc:ST X b G c g1)(h1:SE X b G m e1 f1)(h2:SE X b G m e2 f2):SE X b G m (.IfExp c e1 e2 pos) (XY g1 f1 f2):=
 PE.imp (Nu hc h1 h2)<|by
  rintro σ H Q ⟨Ow,env,p,E,hf,k⟩
  unfold XY at hf
  cases q1:g1 env with
  | none=>rw[q1] at hf;cases hf
  | some c=>
   rw[q1] at hf
   refine⟨Ow,env,c,E,q1,λH1 s1=>?_⟩
   cases c with
   | true=>exact⟨Ow,env,p,E.up s1,hf,λv H' s r=>k v H' (s1.trans s) (r.down s1)⟩
   | false=>exact⟨Ow,env,p,E.up s1,hf,λv H' s r=>k v H' (s1.trans s) (r.down s1)⟩
end
def ArA (b:BX)(Ow:Addr->Prop)(L:Bool)(H:Hp)(a:Addr):Prop:=Bs b Ow a\/(L=true/\∃vs,H a=some (.lst vs))
def tMA (b:BX)(G:oz)(L:Bool)(g:Env->Option (List PV)):TA:=fun σ H Q=>∃Ow env ps,ER b Ow G σ env H/\g env=some ps/\∀vs H',FE H H'->FA b.C (ArA b Ow L H') H' vs ps->Q vs H'
abbrev SA (X:Cx)(b:BX)(G:oz)(L:Bool)(es:oI)(g:Env->Option (List PV)):Prop:=PA X es (tMA b G L g)
theorem PA.imp {X:Cx}{es:oI}{t u:TA}(h:PA X es t)(i:∀ σ H Q,u σ H Q->t σ H Q):PA X es u:=λpos Fs s σ H Q I q=>h pos Fs s σ H Q I (i σ H Q q)
section
variable {X:Cx}{b:BX}{G:oz}{m m1 m2:Md}{L:Bool}{e e1 e2:Expr}{es:oI}{f f1 f2:pc}{g:Env->Option (List PV)}{pos p:Pos}
theorem aq:SA X b G L [] az:=PA.imp dJ<|by rintro σ H Q ⟨Ow,env,ps,E,hg,k⟩;cases hg;exact k [] H (FE.refl _) .nil
theorem aa (h1:SE X b G .val e f)(h2:SA X b G L es g)(hs:autoParam (starEach (e::es) X.env=(false,eval e X.env)::starEach es X.env) r0_):SA X b G L (e::es) (ak f g):=
 PA.imp (bW h1 h2 hs)<|by
  rintro σ H Q ⟨Ow,env,ps,E,hg,k⟩
  unfold ak at hg
  cases q1:f env with
  | none=>rw[q1] at hg;cases hg
  | some p1=>
   rw[q1] at hg
   cases q2:g env with
   | none=>rw[q2] at hg;cases hg
   | some ps'=>
    rw[q2] at hg
    cases hg
    exact⟨Ow,env,p1,E,q1,λv H1 s1 r1=>⟨Ow,env,ps',E.up s1,q2,λvs H2 s2 r2=>k (v::vs) H2 (s1.trans s2) (.cons (Rep.ex (λa o h=>⟨λq=>⟨s2 _ _ h,.inl q⟩,λ_=>s2 _ _ h⟩) r1) r2)⟩⟩
noncomputable def bL (f:pc)(env:Env):Option PV:=(f env).bind λp=>match p with | .lst xs=>some (.lst xs) | _=>none
@[simp] theorem Z0 (f:pc)(env:Env):bL f env=((f env).bind λp=>match p with | .lst xs=>some (.lst xs) | _=>none):=id rfl
theorem Ou (h1:SE X b G m e f)(h2:SA X b G true es g)(hs:autoParam (starEach (e::es) X.env=(false,eval e X.env)::starEach es X.env) r0_):SA X b G true (e::es) (ak (bL f) g):=
 PA.imp (bW h1.bor h2 hs)<|by
  rintro σ H Q ⟨Ow,env,ps,E,hg,k⟩
  unfold ak bL at hg
  cases q1:f env with
  | none=>rw[q1] at hg;cases hg
  | some p1=>
   rw[q1] at hg
   cases p1 with
   | lst xs=>
    simp only[bq] at hg
    cases q2:g env with
    | none=>rw[q2] at hg;cases hg
    | some ps'=>
     rw[q2] at hg
     cases hg
     refine⟨Ow,env,_,E,q1,λv H1 s1 r1=>⟨Ow,env,ps',E.up s1,q2,λvs H2 s2 r2=>k (v::vs) H2 (s1.trans s2) (.cons ?_ r2)⟩⟩
     have MH:FF b.C (Bs b Ow) H1 v (.lst xs):=r1
     obtain⟨a,us,rfl,ha,ra⟩:=MH.lst
     exact .lst (s2 _ _ ha) (.inr ⟨rfl,us,s2 _ _ ha⟩) (ra.ex λa o h=>⟨λq=>⟨s2 _ _ h,.inl q⟩,λ_=>s2 _ _ h⟩)
   | _=>cases hg
theorem DQ {b:BX}{Ow:Addr->Prop}{H:Hp}{vs:List V}{ps:List PV}(h:FA b.C (ArA b Ow false H) H vs ps):FA b.C (Bs b Ow) H vs ps:=h.ex (cO λa o _ q=>q.elim id λz=>by cases z.1)
theorem aZ (h:SA X b G false es g):SE X b G .own (.List es pos) (bA g):=PE.imp (Eo h)<|by
 rintro σ H Q ⟨Ow,env,p,E,hf,k⟩
 unfold bA at hf
 cases q1:g env with
 | none=>rw[q1] at hf;cases hf
 | some ps=>
  rw[q1] at hf
  simp only[bq] at hf
  split at hf
  ·rename_i hl
   cases hf
   refine⟨Ow,env,ps,E,q1,λvs H1 s1 r=>⟨g8 (by rw[r.length];exact hl),λq hq=>k _ _ (s1.trans (bI hq _)) (Res.down s1 (eZ hq (DQ r)))⟩⟩
  ·cases hf
theorem aW {x1}(h:SA X b G false es g):SE X b G .val (.Tuple es x1 pos) (a_ g):=PE.imp (Us h)<|by
 rintro σ H Q ⟨Ow,env,p,E,hf,k⟩
 unfold a_ at hf
 cases q1:g env with
 | none=>rw[q1] at hf;cases hf
 | some ps=>
  rw[q1] at hf
  simp only[bq] at hf
  split at hf
  ·rename_i hl
   cases hf
   refine⟨Ow,env,ps,E,q1,λvs H1 s1 r=>⟨g8 (by rw[r.length];exact hl),λq hq=>k _ _ (s1.trans (bI hq _)) (Aj hq (DQ r))⟩⟩
  ·cases hf
theorem Jx:SE X b G .own (.Dict [] [] pos) (bC (.dK [])):=PE.imp Oa<|by
 rintro σ H Q ⟨Ow,env,p,E,hf,k⟩ q hq
 cases hf
 exact k _ _ (bI hq _) ⟨q,rfl,hq,[],bx,.nil⟩
theorem Jy:SE X b G .own (.Dict [] [] pos) (bC (.dT [])):=PE.imp Ob<|by
 rintro σ H Q ⟨Ow,env,p,E,hf,k⟩ q hq
 cases hf
 exact k _ _ (bI hq _) ⟨q,rfl,hq,[],bx,.nil⟩
@[simp] noncomputable def FI:PV->PV->Option PV
 | .lst xs,.int i=>F0 xs i
 | .frz xs,.int i=>F0 xs i
 | .tup xs,.int i=>F0 xs i
 | .ktp xs,.int i=>F0 xs i
 | .str x,.int i=>if x.length<=1000000 then (F0 x.cps.toList i).map λc=>.str ⟨#[c]⟩ else none
 | .dK kvs,y=>(keyOf y).bind λk=>dF kvs k
 | .dT kvs,.tup ys=>(GW ys).bind λk=>dF kvs k
 | _,_=>none
theorem FA.F0 {C:MC}{A:Addr->Prop}{H:Hp}{vs:List V}{ps:List PV}{i:Int}{p:PV}(h:FA C A H vs ps)(e:F0 ps i=some p):∃v,L2.F0 vs i=some v/\Rep C A H v p:=by
 unfold L2.F0 at e ⊢
 rw[h.length]
 cases q:Nn ps.length i with
 | none=>rw[q] at e;cases e
 | some j=>rw[q] at e;exact h.get e
theorem aG {j:Nat}(hr:F5 j X.A)(h1:SE X b G m1 e1 f1)(h2:SE X b G m2 e2 f2)(hs:autoParam (Ag e2) r9_)(MM:autoParam (N8 e2) r9_)(hK:autoParam (X.K=b.C.K) r0_):SE X b G .val (.Subscript e1 e2 pos) (b2 FI f1 f2):=by
 refine PE.imp (PE.or (Qy (r:=rIx b.C.K) (by rw[← hK];exact UL) h1.bor h2.bor hs) (Rc (uB hr) h1.bor h2.bor MM)) fun σ H Q h=>?_
 obtain⟨Ow,env,p,E,hf,k⟩:=h
 unfold b2 at hf
 cases q1:f1 env with
 | none=>rw[q1] at hf;cases hf
 | some p1=>
  rw[q1] at hf
  cases q2:f2 env with
  | none=>rw[q2] at hf;cases hf
  | some p2=>
   rw[q2] at hf
   simp only[bq] at hf
   have step:∀(R:V->V->Hp->VK->Prop),(∀H2 v1 v2,FF b.C (Bs b Ow) H2 v1 p1->FF b.C (Bs b Ow) H2 v2 p2->FE H H2->R v1 v2 H2 Q)->tM b G .bor f1 σ H λx H1=>tM b G .bor f2 σ H1 λy H2=>R x y H2 Q:=λR hR=>
    ⟨Ow,env,p1,E,q1,λv1 H1 s1 r1=>⟨Ow,env,p2,E.up s1,q2,λv2 H2 s2 r2=>hR H2 v1 v2 (Res.up (m:=.bor) r1 s2) r2 (s1.trans s2)⟩⟩
   unfold FI at hf
   split at hf
   ·refine .inl (step _ λH2 v1 v2 r1 r2 s=>?_)
    obtain⟨a,vs,rfl,ha,ra⟩:=r1.lst
    obtain⟨v,hv,rv⟩:=ra.F0 hf
    rw[r2.int]
    exact .inl ⟨a,vs,_,v,rfl,rfl,F7.of ha,hv,k v H2 s rv⟩
   ·refine .inl (step _ λH2 v1 v2 r1 r2 s=>?_)
    obtain⟨a,vs,rfl,ha,ra⟩:=r1.frz
    obtain⟨v,hv,rv⟩:=ra.F0 hf
    rw[r2.int]
    exact .inl ⟨a,vs,_,v,rfl,rfl,ha,hv,k v H2 s rv⟩
   ·refine .inl (step _ λH2 v1 v2 r1 r2 s=>?_)
    obtain⟨a,vs,rfl,ha,ra⟩:=r1.tup
    obtain⟨v,hv,rv⟩:=ra.F0 hf
    rw[r2.int]
    exact .inr (.inl ⟨a,vs,_,v,rfl,rfl,ha.sq,hv,k v H2 s rv⟩)
   ·refine .inl (step _ λH2 v1 v2 r1 r2 s=>?_)
    obtain⟨a,vs,rfl,ha,ra⟩:=r1.ktp
    obtain⟨v,hv,rv⟩:=ra.F0 hf
    rw[r2.int]
    exact .inr (.inl ⟨a,vs,_,v,rfl,rfl,ha,hv,k v H2 s rv⟩)
   ·split at hf
    ·rename_i x i hx
     cases q3:F0 x.cps.toList i with
     | none=>rw[q3] at hf;cases hf
     | some c=>
      rw[q3] at hf
      cases hf
      refine .inl (step _ λH2 v1 v2 r1 r2 s=>?_)
      rw[r1.str,r2.int]
      exact .inr (.inr ⟨x,i,c,rfl,rfl,g8 hx,q3,k _ H2 s (.str _)⟩)
    ·cases hf
   ·rename_i kvs
    cases q3:keyOf p2 with
    | none=>rw[q3] at hf;cases hf
    | some ky=>
     rw[q3] at hf
     simp only[bq] at hf
     refine .inr (step (λx y H2 Q=>∃a v,x=.ref a/\IE X.K H2 a y (some v)/\Q v H2) λH2 v1 v2 r1 r2 s=>?_)
     obtain⟨a,kv,rfl,ha,ra⟩:=r1.dK
     rw[r2.key q3]
     unfold dF at hf
     rcases GA.val (k:=ky) ra with ⟨v,p',h1,h2,rv⟩ | ⟨h1,h2⟩
     ·rw[h2] at hf
      cases hf
      exact⟨a,v,rfl,by rw[← h1];exact IE.k ha,k v H2 s rv⟩
     ·rw[h2] at hf;cases hf
   ·rename_i kvs ys
    cases q3:GW ys with
    | none=>rw[q3] at hf;cases hf
    | some ky=>
     rw[q3] at hf
     simp only[bq] at hf
     refine .inr (step (λx y H2 Q=>∃a v,x=.ref a/\IE X.K H2 a y (some v)/\Q v H2) λH2 v1 v2 r1 r2 s=>?_)
     obtain⟨a,kv,rfl,ha,ra⟩:=r1.dT
     obtain⟨c,vs,rfl,hc,rc⟩:=r2.tup
     unfold dF at hf
     rcases GB.val (k:=ky) ra with ⟨v,p',h1,h2,rv⟩ | ⟨h1,h2⟩
     ·rw[h2] at hf
      cases hf
      exact⟨a,v,rfl,by rw[← h1,hK];exact IE.t ha (hc.key (rc.GW q3)),k v H2 s rv⟩
     ·rw[h2] at hf;cases hf
   ·cases hf
noncomputable def gb (xs:List PV)(lo hi:Option Int):List PV:=(xs.drop (HT.IF xs.length 0 lo)).take (HT.IF xs.length xs.length hi - HT.IF xs.length 0 lo)
theorem FA.cut {C:MC}{A:Addr->Prop}{H:Hp}{vs:List V}{ps:List PV}(h:FA C A H vs ps)(lo hi:Option Int):FA C A H (Ae vs lo hi) (gb ps lo hi):=by
 unfold Ae gb
 rw[h.length]
 exact(h.drop _).take _
noncomputable def oN (env:Env):Option (Option Int):=some none
@[simp] theorem Z1 (env:Env):oN env=(some none):=id rfl
noncomputable def oS (f:pc)(env:Env):Option (Option Int):=(f env).bind λp=>match p with | .int i=>some (some i) | _=>none
@[simp] theorem Z2 (f:pc)(env:Env):oS f env=((f env).bind λp=>match p with | .int i=>some (some i) | _=>none):=id rfl
def tMO (b:BX)(G:oz)(f:Env->Option (Option Int)):TO:=fun σ H Q=>∃Ow env o,ER b Ow G σ env H/\f env=some o/\∀H',FE H H'->Q o H'
theorem PO.imp {x:Option Expr}{t u:TO}(h:PO X x t)(i:∀ σ H Q,u σ H Q->t σ H Q):PO X x u:=by
 intro Fs s σ H Q I q
 exact h Fs s σ H Q I (i σ H Q q)
abbrev SO (X:Cx)(b:BX)(G:oz)(e:Option Expr)(f:Env->Option (Option Int)):Prop:=PO X e (tMO b G f)
theorem cG:SO X b G none oN:=PO.imp Rh<|by rintro σ H Q ⟨Ow,env,o,E,hf,k⟩;cases hf;exact k H (FE.refl _)
theorem bH (h:SE X b G m e f):SO X b G (some e) (oS f):=PO.imp (Ri h.bor)<|by
 rintro σ H Q ⟨Ow,env,o,E,hf,k⟩
 unfold oS at hf
 cases q1:f env with
 | none=>rw[q1] at hf;cases hf
 | some p1=>
  rw[q1] at hf
  refine⟨Ow,env,p1,E,q1,λv H1 s1 r1=>?_⟩
  have MH:FF b.C (Bs b Ow) H1 v p1:=r1
  cases p1 <;> simp only[bq] at hf <;> cases hf
  exact⟨_,MH.int,k H1 s1⟩
noncomputable def LF (f:pc)(lo hi:Env->Option (Option Int))(env:Env):Option PV:=(f env).bind λx=>(lo env).bind λl=>(hi env).bind λh=>match x with
 | .lst xs=>some (.lst (gb xs l h))
 | .frz xs=>some (.lst (gb xs l h))
 | .str x=>if x.length<=1000000 then some (.str (gQ x l h)) else none
 | _=>none
@[simp] theorem Zz (f:pc)(lo hi:Env->Option (Option Int))(env:Env):LF f lo hi env=((f env).bind λx=>(lo env).bind λl=>(hi env).bind λh=>match x with
 | .lst xs=>some (.lst (gb xs l h))
 | .frz xs=>some (.lst (gb xs l h))
 | .str x=>if x.length<=1000000 then some (.str (gQ x l h)) else none
 | _=>none):=id rfl
theorem dg {lo hi:Option Expr}{p2:Pos}{fl fh:Env->Option (Option Int)}(h1:SE X b G m e f)(hl:SO X b G lo fl)(hh:SO X b G hi fh)(hK:autoParam (X.K=b.C.K) r0_):SE X b G .val (.Subscript e (.Slice lo hi none p2) pos) (LF f fl fh):=by
 refine PE.imp (Od (r:=U_ b.C.K) (by rw[← hK];exact Va) h1.bor hl hh) fun σ H Q ⟨Ow,env,p,E,hf,k⟩=>?_
 unfold LF at hf
 cases q1:f env with
 | none=>rw[q1] at hf;cases hf
 | some p1=>
  rw[q1] at hf
  cases q2:fl env with
  | none=>rw[q2] at hf;cases hf
  | some l=>
   rw[q2] at hf
   cases q3:fh env with
   | none=>rw[q3] at hf;cases hf
   | some h=>
    rw[q3] at hf
    refine⟨Ow,env,p1,E,q1,λv H1 s1 r1=>⟨Ow,env,l,E.up s1,q2,λH2 s2=>⟨Ow,env,h,E.up (s1.trans s2),q3,λH3 s3=>?_⟩⟩⟩
    have MH:FF b.C (Bs b Ow) H3 v p1:=Res.up (m:=.bor) r1 (s2.trans s3)
    cases p1 <;> simp only[bq] at hf
    case lst xs=>
     cases hf
     obtain⟨a,vs,rfl,ha,ra⟩:=MH.lst
     exact .inl ⟨a,vs,rfl,F7.of ha,λq hq=>k _ _ (s1.trans (s2.trans (s3.trans (bI hq _)))) (Res.val (m:=.own) E (λz=>nomatch z) (Res.down (s1.trans (s2.trans s3)) (eZ hq (ra.cut l h))))⟩
    case frz xs=>
     cases hf
     obtain⟨a,vs,rfl,ha,ra⟩:=MH.frz
     exact .inl ⟨a,vs,rfl,ha,λq hq=>k _ _ (s1.trans (s2.trans (s3.trans (bI hq _)))) (Res.val (m:=.own) E (λz=>nomatch z) (Res.down (s1.trans (s2.trans s3)) (eZ hq (ra.cut l h))))⟩
    case str x=>
     split at hf
     ·rename_i hx
      cases hf
      exact .inr ⟨x,MH.str,g8 hx,k _ _ (s1.trans (s2.trans s3)) (.str _)⟩
     ·cases hf
    all_goals cases hf
theorem yU {id:String}{x:Str}{r:List V->Hp->VK->Prop}{g:PV->Option PV}(hc:GN X (.builtin id) r)(hr:Op1 b m (λv H Q=>r [v] H Q) g)(hm:X.mg x=none)(hv:bootBuiltins x=some (.builtin id))(h:SE X b G m1 e f)
  (hg:autoParam (Gl X x) r0_) (hn:x ≠ "__name__" := by decide) (MQ:autoParam ((x == ("__debug__" : Str))=false) r1_) (he:autoParam (starEach [e] X.env=(false,eval e X.env)::starEach [] X.env) r0_):
  SE X b G m (.Call (.Name x p) [e] [] pos) (b1 g f):=
 PE.imp (yg hc hg hm hv (bW h.bor dJ he) hn MQ he rfl) fun σ H Q h=>Jt hr h
theorem HX {id:String}{x:Str}{r:List V->Hp->VK->Prop}{g:PV->Option PV}(hc:GN X (.type id) r)(hr:Op1 b m (λv H Q=>r [v] H Q) g)(hm:X.mg x=none)(hv:bootBuiltins x=some (.type id))(h:SE X b G m1 e f)
  (hg:autoParam (Gl X x) r0_) (hn:x ≠ "__name__" := by decide) (MQ:autoParam ((x == ("__debug__" : Str))=false) r1_) (he:autoParam (starEach [e] X.env=(false,eval e X.env)::starEach [] X.env) r0_):
  SE X b G m (.Call (.Name x p) [e] [] pos) (b1 g f):=
 PE.imp (Lf hc hg hm hv (bW h.bor dJ he) hn MQ he rfl) fun σ H Q h=>Jt hr h
@[simp] noncomputable def F3:PV->Option PV
 | .lst xs=>some (.int xs.length)
 | .frz xs=>some (.int xs.length)
 | .tup xs=>some (.int xs.length)
 | .ktp xs=>some (.int xs.length)
 | .str x=>if x.length<=1000000 then some (.int x.length) else none
 | .dK kvs=>some (.int kvs.length)
 | _=>none
theorem GA.length {C:MC}{A:Addr->Prop}{H:Hp}:∀{vs:List (Key×V)}{ps:List (Key×PV)},GA C A H vs ps->vs.length=ps.length
 | _,_,.nil=>rfl
 | _,_,.cons _ t=>by simp[GA.length t]
theorem bN (hm:X.mg "len" = none)(h:SE X b G m1 e f)(hK:autoParam (X.K=b.C.K) r0_)(hg:Gl X "len" := by rfl)(he:autoParam (starEach [e] X.env=(false,eval e X.env)::starEach [] X.env) r0_):SE X b G .val (.Call (.Name "len" p) [e] [] pos) (b1 F3 f):=by
 refine yU (GN.or (GN.or Ez EY) Lw) (λOw H v1 p1 p Q hn r1 e k=>?_) hm PySem.boot_len h hg (by decide) (by decide) he
 rw[hK]
 cases p1 <;> simp only[F3] at e
 case lst xs=>cases e;obtain⟨a,vs,rfl,ha,ra⟩:=r1.lst;exact .inl (.inl ⟨a,vs,rfl,.inl (F7.of ha),by rw[ra.length];exact k _ H (FE.refl _) (.int _)⟩)
 case frz xs=>cases e;obtain⟨a,vs,rfl,ha,ra⟩:=r1.frz;exact .inl (.inl ⟨a,vs,rfl,.inl ha,by rw[ra.length];exact k _ H (FE.refl _) (.int _)⟩)
 case tup xs=>cases e;obtain⟨a,vs,rfl,ha,ra⟩:=r1.tup;exact .inl (.inl ⟨a,vs,rfl,.inr ha.sq,by rw[ra.length];exact k _ H (FE.refl _) (.int _)⟩)
 case ktp xs=>cases e;obtain⟨a,vs,rfl,ha,ra⟩:=r1.ktp;exact .inl (.inl ⟨a,vs,rfl,.inr ha,by rw[ra.length];exact k _ H (FE.refl _) (.int _)⟩)
 case str x=>
  split at e
  ·rename_i hx
   cases e
   rw[r1.str]
   exact .inl (.inr ⟨x,rfl,g8 hx,k _ H (FE.refl _) (.int _)⟩)
  ·cases e
 case dK kvs=>cases e;obtain⟨a,vs,rfl,ha,ra⟩:=r1.dK;exact .inr ⟨a,vs,rfl,ha,by rw[ra.length];exact k _ H (FE.refl _) (.int _)⟩
 all_goals cases e
noncomputable def DR:Key->PV
 | .inl i=>.int i
 | .inr x=>.str x
@[simp] noncomputable def uG:PV->Option PV
 | .lst xs=>some (.lst xs)
 | .frz xs=>some (.lst xs)
 | .tup xs=>some (.lst xs)
 | .ktp xs=>some (.lst xs)
 | .dK kvs=>some (.lst (kvs.map λkv=>DR kv.1))
 | _=>none
theorem Rr {C:MC}{A:Addr->Prop}{H:Hp}(k:Key):Rep C A H (kV k) (DR k):=by cases k with | inl i=>exact .int i | inr x=>exact .str x
theorem GA.keys {C:MC}{A:Addr->Prop}{H:Hp}:∀{vs:List (Key×V)}{ps:List (Key×PV)},GA C A H vs ps->FA C A H (vs.map λkv=>kV kv.1) (ps.map λkv=>DR kv.1)
 | _,_,.nil=>.nil
 | _,_,.cons (k:=k) _ t=>.cons (Rr k) (GA.keys t)
theorem Ak (hm:X.mg "list" = none)(h:SE X b G m1 e f)(NG:autoParam (X.calm=true) r0_)(hK:autoParam (X.K=b.C.K) r0_)(hg:Gl X "list" := by rfl)(he:autoParam (starEach [e] X.env=(false,eval e X.env)::starEach [] X.env) r0_):SE X b G .own (.Call (.Name "list" p) [e] [] pos) (b1 uG f):=by
 refine HX (GN.or E_ (Ah NG)) (λOw H v1 p1 p Q hn r1 e k=>?_) hm fE h hg (by decide) (by decide) he
 rw[hK]
 cases p1 <;> simp only[uG] at e <;> cases e
 case lst xs=>obtain⟨a,vs,rfl,ha,ra⟩:=r1.lst;exact .inl ⟨a,vs,rfl,.inl (F7.of ha),λl hl=>k _ _ (bI hl _) (eZ hl ra)⟩
 case frz xs=>obtain⟨a,vs,rfl,ha,ra⟩:=r1.frz;exact .inl ⟨a,vs,rfl,.inl ha,λl hl=>k _ _ (bI hl _) (eZ hl ra)⟩
 case tup xs=>obtain⟨a,vs,rfl,ha,ra⟩:=r1.tup;exact .inl ⟨a,vs,rfl,.inr ha.sq,λl hl=>k _ _ (bI hl _) (eZ hl ra)⟩
 case ktp xs=>obtain⟨a,vs,rfl,ha,ra⟩:=r1.ktp;exact .inl ⟨a,vs,rfl,.inr ha,λl hl=>k _ _ (bI hl _) (eZ hl ra)⟩
 case dK kvs=>obtain⟨a,vs,rfl,ha,ra⟩:=r1.dK;exact .inr ⟨a,vs,rfl,ha,λl hl=>k _ _ (bI hl _) (eZ hl ra.keys)⟩
@[simp] noncomputable def bools:List PV->Option (List Bool)
 | []=>some []
 | .bl c::r=>(bools r).map (c::·)
 | _::_=>none
theorem FA.bools {C:MC}{A:Addr->Prop}{H:Hp}:∀{vs:List V}{ps:List PV}{bs:List Bool},FA C A H vs ps->bools ps=some bs->vs=bs.map V.bl
 | _,_,_,.nil,e=>by cases e;rfl
 | _,_,_,.cons (p:=p) (ps:=ps) h t,e=>by
  cases p <;> simp only[MR.bools] at e <;> first | cases e | skip
  rename_i c
  cases q:MR.bools ps with
  | none=>rw[q] at e;cases e
  | some bs=>rw[q] at e;cases e;cases h;rw[FA.bools t q];rfl
@[simp] noncomputable def oF:PV->Option PV
 | .lst xs=>(bools xs).map λbs=>.bl (bs.all id)
 | _=>none
@[simp] noncomputable def Ov:PV->Option PV
 | .lst xs=>(bools xs).map λbs=>.bl (bs.any id)
 | _=>none
theorem mH (hm:X.mg "all" = none)(h:SE X b G m1 e f)(NG:autoParam (X.calm=true) r0_)(hg:Gl X "all" := by rfl)(he:autoParam (starEach [e] X.env=(false,eval e X.env)::starEach [] X.env) r0_):SE X b G .val (.Call (.Name "all" p) [e] [] pos) (b1 oF f):=by
 refine yU (Ol NG) (λOw H v1 p1 p Q hn r1 e k=>?_) hm PyProof.Rows.boot_all h hg (by decide) (by decide) he
 cases p1 <;> simp only[oF] at e <;> first | cases e | skip
 rename_i xs
 cases q:bools xs with
 | none=>rw[q] at e;cases e
 | some bs=>
  rw[q] at e
  cases e
  obtain⟨a,vs,rfl,ha,ra⟩:=r1.lst
  have hv:=ra.bools q
  subst hv
  exact⟨a,bs,rfl,F7.of ha,k _ H (FE.refl _) (.bl _)⟩
theorem Vm (hm:X.mg "any" = none)(h:SE X b G m1 e f)(NG:autoParam (X.calm=true) r0_)(hg:Gl X "any" := by rfl)(he:autoParam (starEach [e] X.env=(false,eval e X.env)::starEach [] X.env) r0_):SE X b G .val (.Call (.Name "any" p) [e] [] pos) (b1 Ov f):=by
 refine yU (Om NG) (λOw H v1 p1 p Q hn r1 e k=>?_) hm PyProof.Rows.boot_any h hg (by decide) (by decide) he
 cases p1 <;> simp only[Ov] at e <;> first | cases e | skip
 rename_i xs
 cases q:bools xs with
 | none=>rw[q] at e;cases e
 | some bs=>
  rw[q] at e
  cases e
  obtain⟨a,vs,rfl,ha,ra⟩:=r1.lst
  have hv:=ra.bools q
  subst hv
  exact⟨a,bs,rfl,F7.of ha,k _ H (FE.refl _) (.bl _)⟩
@[simp] noncomputable def KI:List PV->Option (List Str)
 | []=>some []
 | .str c::r=>(KI r).map (c::·)
 | _::_=>none
theorem FA.KI {C:MC}{A:Addr->Prop}{H:Hp}:∀{vs:List V}{ps:List PV}{bs:oP},FA C A H vs ps->KI ps=some bs->vs=bs.map V.str
 | _,_,_,.nil,e=>by cases e;rfl
 | _,_,_,.cons (p:=p) (ps:=ps) h t,e=>by
  cases p <;> simp only[MR.KI] at e <;> first | cases e | skip
  rename_i c
  cases q:MR.KI ps with
  | none=>rw[q] at e;cases e
  | some bs=>rw[q] at e;cases e;cases h;rw[FA.KI t q];rfl
@[simp] noncomputable def wW:PV->PV->Option PV
 | .str z,.lst xs=>(KI xs).bind λzs=>if JoinOk z zs=true then some (.str (Str.join z zs)) else none
 | _,_=>none
@[simp] noncomputable def vL:PV->PV->Option PV
 | .str z,.str y=>if (y.length == 0)=false/\z.length<=1000000 then some (.lst ((Txt.split z y).map .str)) else none
 | _,_=>none
theorem QB {id:String}{name:Str}{apos FO:Pos}{o:Expr}{fo:pc}{r:V->List V->Hp->VK->Prop}{g:PV->PV->Option PV}(slot:Slot "str" name id)(hty:typeOf (.builtin id)=pure (.type "method_descriptor"))(pa:PlainAttrs "str")(hm:MtR X id r)
  (hr:Nw b m (λx y H Q=>(∃z,x=.str z)->r x [y] H Q) g) (hgs:∀x y p,g x y=some p->∃z,x=.str z) (ho:SE X b G m1 o fo) (h:SE X b G m2 e f)
  (JI:autoParam (attributeBase o name X.env (eval o X.env)=eval o X.env) r0_)
  (LZ:((backTo FO (starEach [e] X.env)).all (λx=>!x.1)&&(backToKw FO (keywordEach [] X.env)).all (λx=>x.1.isSome)
   && decide ([e].length+([]:List Keyword).length+(if ([]:List Keyword).isEmpty then 0 else 1) < 30))=true:=by rfl)
  (JJ:autoParam ((apos.endLine == FO.line)=true) r0_) (hs:autoParam (starEach [e] X.env=(false,eval e X.env)::starEach [] X.env) r0_):
  SE X b G m (.Call (.Attribute o name apos) [e] [] FO) (b2 g fo f):=by
 refine PE.imp (Dz pa slot hty hm ho.bor (bW h.bor dJ hs) JI LZ JJ hs rfl) fun σ H Q h=>?_
 obtain⟨Ow,env,p,E,hf,k⟩:=h
 unfold b2 at hf
 cases q1:fo env with
 | none=>rw[q1] at hf;cases hf
 | some p1=>
  rw[q1] at hf
  cases q2:f env with
  | none=>rw[q2] at hf;cases hf
  | some p2=>
   rw[q2] at hf
   simp only[bq] at hf
   obtain⟨z,rfl⟩:=hgs _ _ _ hf
   refine⟨Ow,env,_,E,q1,λv1 H1 s1 r1=>?_⟩
   have MH:FF b.C (Bs b Ow) H1 v1 (.str z):=r1
   have ev:=MH.str
   subst ev
   refine⟨rfl,Ow,env,p2,E.up s1,q2,λv2 H2 s2 r2=>?_⟩
   exact hr Ow H2 _ v2 _ p2 p Q (λa=>(E.up (s1.trans s2)).fresh) (FF.ex (.of_same s2) s2 MH) r2 hf (λv H' s r=>k v H' (s1.trans (s2.trans s)) (r.down (s1.trans s2))) ⟨z,rfl⟩
theorem Rt:Nw b .val (λx y H Q=>(∃z,x=.str z)->rJoin b.C.K x [y] H Q) wW:=by
 intro Ow H v1 v2 p1 p2 p Q hn r1 r2 e k _
 unfold wW at e
 split at e
 ·rename_i z xs
  cases q:KI xs with
  | none=>rw[q] at e;cases e
  | some zs=>
   rw[q] at e
   simp only[bq] at e
   split at e
   ·rename_i hj
    cases e
    obtain⟨a,vs,rfl,ha,ra⟩:=r2.lst
    have hv:=ra.KI q
    subst hv
    exact⟨z,a,zs,r1.str,rfl,F7.of ha,hj,k _ H (FE.refl _) (.str _)⟩
   ·cases e
 ·cases e
theorem Ox:Nw b .own (λx y H Q=>(∃z,x=.str z)->Ly x [y] H Q) vL:=by
 intro Ow H v1 v2 p1 p2 p Q hn r1 r2 e k _
 unfold vL at e
 split at e
 ·rename_i z y
  split at e
  ·rename_i hj
   cases e
   refine⟨z,y,r1.str,by rw[r2.str],hj.1,hj.2,λl hl=>k _ _ (bI hl _) (eZ hl (tY _ _ (λx=>.str x) _))⟩
  ·cases e
 ·cases e
theorem Ru {apos FO:Pos}{o:Expr}{fo:pc}(ho:SE X b G m1 o fo)(h:SE X b G m2 e f)(hK:autoParam (X.K=b.C.K) r0_)(JI:autoParam (attributeBase o "join" X.env (eval o X.env)=eval o X.env) r0_)
  (LZ:((backTo FO (starEach [e] X.env)).all (λx=>!x.1)&&(backToKw FO (keywordEach [] X.env)).all (λx=>x.1.isSome)
   && decide ([e].length+([]:List Keyword).length+(if ([]:List Keyword).isEmpty then 0 else 1) < 30))=true:=by rfl)
  (JJ:autoParam ((apos.endLine == FO.line)=true) r0_) (hs:autoParam (starEach [e] X.env=(false,eval e X.env)::starEach [] X.env) r0_):
  SE X b G .val (.Call (.Attribute o "join" apos) [e] [] FO) (b2 wW fo f):=
 QB PySem.F.slot_str_join PySem.F.type_str_join mh (r:=rJoin b.C.K) (by rw[← hK];exact Ro) Rt (λx y p e=>by
  unfold wW at e
  split at e
  ·exact⟨_,rfl⟩
  ·cases e) ho h JI LZ JJ hs
theorem Oz {apos FO:Pos}{o:Expr}{fo:pc}(ho:SE X b G m1 o fo)(h:SE X b G m2 e f)(JI:autoParam (attributeBase o "split" X.env (eval o X.env)=eval o X.env) r0_)
  (LZ:((backTo FO (starEach [e] X.env)).all (λx=>!x.1)&&(backToKw FO (keywordEach [] X.env)).all (λx=>x.1.isSome)
   && decide ([e].length+([]:List Keyword).length+(if ([]:List Keyword).isEmpty then 0 else 1) < 30))=true:=by rfl)
  (JJ:autoParam ((apos.endLine == FO.line)=true) r0_) (hs:autoParam (starEach [e] X.env=(false,eval e X.env)::starEach [] X.env) r0_):
  SE X b G .own (.Call (.Attribute o "split" apos) [e] [] FO) (b2 vL fo f):=
 QB PySem.F.slot_str_split PySem.F.type_str_split mh Oj Ox (λx y p e=>by
  unfold vL at e
  split at e
  ·exact⟨_,rfl⟩
  ·cases e) ho h JI LZ JJ hs
def Ret (C:MC)(A:Addr->Prop)(H:Hp)(ro:Bool)(H':Hp)(v:V)(p:PV):Prop:=match ro with
 | true=>∃a,v=.ref a/\H a=none/\Top C (λc=>(A c\/H c=none)/\c≠a) H' a p
 | false=>Rep C (λc=>A c\/H c=none) H' v p
def Kx (C:MC)(m:List PV->Option PV)(ro:Bool):Sp:=λvs H Q _=>∃A ps p,FA C A H vs ps/\m ps=some p/\∀v H',FE H H'->Ret C A H ro H' v p->Q v H'
def Jz:Bool->Md
 | true=>.own
 | false=>.val
theorem Ret.res {Ow:Addr->Prop}{σ:St}{env:Env}{H H1 H':Hp}{ro:Bool}{v:V}{q:PV}(E:ER b Ow G σ env H)(s:FE H H1)(r:Ret b.C (Bs b Ow) H1 ro H' v q):Res b Ow H H' (Jz ro) v q:=by
 cases ro with
 | true=>
  obtain⟨a,rfl,h,t⟩:=r
  exact⟨a,rfl,s.free h,t.ex (cO λc o _ z=>⟨z.1.elim id λw=>(E.up s).fresh w,z.2⟩) λo z=>z⟩
 | false=>exact Rep.ex (cO λc o _ z=>z.elim id λw=>(E.up s).fresh w) r
theorem HY {k j:Nat}{x:Str}{ps:oP}{mi:List PV->Option PV}{ro:Bool}(c:XW X.prog X.w X.K X.mg X.base k x ps (Kx b.C mi ro))(hr:F5 j X.A)(ha:SA X b G false (e::es) g)(hle:autoParam (k<=j) r1_)(hg:autoParam (Gl X x) r0_)
  (MQ:autoParam ((x == ("__debug__" : Str))=false) r1_) (he:autoParam (starEach (e::es) X.env=(false,eval e X.env)::starEach es X.env) r0_) (HM:autoParam ((backTo pos (starEach es X.env)).any (·.1)=false) r0_):
  SE X b G (Jz ro) (.Call (.Name x p) (e::es) [] pos) (aH mi g):=by
 refine PE.imp (Lz c hr ha hle hg MQ he HM) ?_
 rintro σ H Q ⟨Ow,env,q,E,hf,kk⟩
 unfold aH at hf
 cases q1:g env with
 | none=>rw[q1] at hf;cases hf
 | some qs=>
  rw[q1] at hf
  refine⟨Ow,env,qs,E,q1,λvs H1 s1 r=>?_⟩
  dsimp only
  rw[cf]
  exact⟨Bs b Ow,qs,q,DQ r,hf,λv H' s' rr=>kk v H' (s1.trans s') (Ret.res E s1 rr)⟩
mutual
noncomputable def OG:PV->Bool
 | .lst _=>false
 | .tup xs=>Al xs
 | .ktp xs=>Al xs
 | .frz xs=>Al xs
 | .dK kvs=>JB kvs
 | .dT kvs=>JC kvs
 | .obj _ fs=>Fl fs
 | _=>true
noncomputable def Al:List PV->Bool
 | []=>true
 | x::xs=>OG x&&Al xs
noncomputable def JB:List (Key×PV)->Bool
 | []=>true
 | x::xs=>OG x.2&&JB xs
noncomputable def JC:List (List Key×PV)->Bool
 | []=>true
 | x::xs=>OG x.2&&JC xs
noncomputable def Fl:List (Str×PV)->Bool
 | []=>true
 | x::xs=>OG x.2&&Fl xs
end
def NL (A A':Addr->Prop)(H:Hp):Prop:=∀a o,H a=some o->A a->A' a\/∃vs,o=.lst vs
theorem Rep.nl5 {C:MC}{A A':Addr->Prop}{H:Hp}(e:NL A A' H):(∀{v p},Rep C A H v p->OG p=true->Rep C A' H v p)/\(∀{v p},FA C A H v p->Al p=true->FA C A' H v p)/\(∀{v p},GA C A H v p->JB p=true->GA C A' H v p)/\(∀{v p},GB C A H v p->JC p=true->GB C A' H v p)/\(∀{v p},GU C A H v p->Fl p=true->GU C A' H v p):=by
 refine Rep.nd (λ_=>.FG) (λb _=>.bl b) (λb _=>.int b) (λb _=>.str b) ?_ ?_ ?_ ?_ ?_ ?_ ?_ ?_ ?_ (λ_=>.nil) ?_ (λ_=>.nil) ?_ (λ_=>.nil) ?_ (λ_=>.nil) ?_
 ·intro a vs xs h q _ _ n;simp only[OG] at n;cases n
 ·intro a o vs xs h _ r n;simp only[OG] at n;exact .QY h (r n)
 ·intro a vs xs h _ r n;simp only[OG] at n;exact .lstK h (r n)
 ·intro a vs xs h _ r n;simp only[OG] at n;exact .tup h (r n)
 ·intro a vs xs h _ r n;simp only[OG] at n;exact .OO h (r n)
 ·intro a vs xs h _ r n;simp only[OG] at n;exact .tupK h (r n)
 ·intro a vs xs h q _ r n;simp only[OG] at n;exact .dK h ((e _ _ h q).elim id λz=>nomatch z.choose_spec) (r n)
 ·intro a vs xs h q _ r n;simp only[OG] at n;exact .dT h ((e _ _ h q).elim id λz=>nomatch z.choose_spec) (r n)
 ·intro a dx c f fs h q _ r n;simp only[OG] at n;exact .obj h ((e _ _ h q).elim id λz=>nomatch z.choose_spec) (r n)
 ·intro v p vs ps _ _ h t n;simp only[Al,cm] at n;exact .cons (h n.1) (t n.2)
 ·intro k v p vs ps _ _ h t n;simp only[JB,cm] at n;exact .cons (h n.1) (t n.2)
 ·intro k v p vs ps _ _ h t n;simp only[JC,cm] at n;exact .cons (h n.1) (t n.2)
 ·intro k v p vs ps _ _ h t n;simp only[Fl,cm] at n;exact .cons (h n.1) (t n.2)
theorem Rep.nl {C:MC}{A A':Addr->Prop}{H:Hp}(e:NL A A' H){v:V}{p:PV}:Rep C A H v p->OG p=true->Rep C A' H v p:=(Rep.nl5 e).1
theorem GU.nl {C:MC}{A A':Addr->Prop}{H:Hp}(e:NL A A' H){v:List (Str×V)}{p:List (Str×PV)}:GU C A H v p->Fl p=true->GU C A' H v p:=(Rep.nl5 e).2.2.2.2
theorem FA.nl {C:MC}{A A':Addr->Prop}{H:Hp}(e:NL A A' H){v:List V}{p:List PV}:FA C A H v p->Al p=true->FA C A' H v p:=(Rep.nl5 e).2.1
noncomputable def yV (mi:List PV->Option PV)(g:Env->Option (List PV))(env:Env):Option PV:=((g env).bind mi).bind λp=>if OG p=true then some p else none
@[simp] theorem Yk (mi:List PV->Option PV)(g:Env->Option (List PV))(env:Env):yV mi g env=(((g env).bind mi).bind λp=>if OG p=true then some p else none):=id rfl
theorem OD {k j:Nat}{x:Str}{ps:oP}{mi:List PV->Option PV}(c:XW X.prog X.w X.K X.mg X.base k x ps (Kx b.C mi false))(hr:F5 j X.A)(ha:SA X b G true (e::es) g)(hle:autoParam (k<=j) r1_)(hg:autoParam (Gl X x) r0_)
  (MQ:autoParam ((x == ("__debug__" : Str))=false) r1_) (he:autoParam (starEach (e::es) X.env=(false,eval e X.env)::starEach es X.env) r0_) (HM:autoParam ((backTo pos (starEach es X.env)).any (·.1)=false) r0_):
  SE X b G .val (.Call (.Name x p) (e::es) [] pos) (yV mi g):=by
 refine PE.imp (Lz c hr ha hle hg MQ he HM) ?_
 rintro σ H Q ⟨Ow,env,q,E,hf,kk⟩
 unfold yV at hf
 cases q1:g env with
 | none=>rw[q1] at hf;cases hf
 | some qs=>
  rw[q1] at hf
  simp only[bq] at hf
  cases q2:mi qs with
  | none=>rw[q2] at hf;cases hf
  | some q'=>
   rw[q2] at hf
   simp only[bq] at hf
   split at hf
   ·rename_i hl
    cases hf
    refine⟨Ow,env,qs,E,q1,λvs H1 s1 r=>?_⟩
    dsimp only
    rw[cf]
    refine⟨ArA b Ow true H1,qs,q,r,q2,λv H' s' rr=>kk v H' (s1.trans s') ?_⟩
    have rr':Rep b.C (λc=>ArA b Ow true H1 c\/H1 c=none) H' v q:=rr
    refine rr'.nl (λa o ha z=>?_) hl
    rcases z with (z | ⟨_,us,z⟩) | z
    ·exact .inl z
    ·have:=s' _ _ z
     rw[this] at ha
     exact .inr ⟨us,(bi ha).symm⟩
    ·exact .inl ((E.up s1).fresh z)
   ·cases hf
noncomputable def lH (c:Nat)(x:Str)(f:pc)(env:Env):Option PV:=(f env).bind λp=>match p with
 | .obj c' fs=>if c'=c then fs.lookup x else none
 | _=>none
@[simp] theorem Zf (c:Nat)(x:Str)(f:pc)(env:Env):lH c x f env=((f env).bind λp=>match p with
 | .obj c' fs=>if c'=c then fs.lookup x else none
 | _=>none):=id rfl
theorem je {c:Nat}{x:Str}(hc:OF b.C.K (b.C.cl c))(hn:GV b.C.K (b.C.cl c) x)(h:SE X b G m e f)(hb:autoParam (attributeBase e x X.env (eval e X.env)=eval e X.env) r0_)(hK:autoParam (X.K=b.C.K) r0_):SE X b G .val (.Attribute e x pos) (lH c x f):=
 PE.imp (Up h.bor hb)<|by
  rintro σ H Q ⟨Ow,env,p,E,hf,k⟩
  unfold lH at hf
  cases q1:f env with
  | none=>rw[q1] at hf;cases hf
  | some p1=>
   rw[q1] at hf
   refine⟨Ow,env,p1,E,q1,λv H1 s1 r1=>?_⟩
   have MH:FF b.C (Bs b Ow) H1 v p1:=r1
   cases p1 <;> simp only[bq] at hf <;> first | cases hf | skip
   rename_i c' fs
   split at hf
   ·rename_i PR
    subst PR
    obtain⟨a,dx,fv,rfl,ha,ra⟩:=MH.obj
    obtain⟨v',hv,rv⟩:=ra.look hf
    rw[hK]
    exact⟨a,_,dx,fv,v',rfl,ha,hc,hn,hv,k v' H1 s1 rv⟩
   ·cases hf
structure II (P:Program)(w:World)(K:W.Frag)(mg:Str->Option Value)(base:Heap)(C:Addr)(k:Nat)(x:Str)(ps:oP)(sp:Sp):Prop where
 ex:∃f fd,GY P w K mg base MS k f fd ps sp/\Binds K fd ps []/\Meth K C x f
noncomputable def e_ (c:Nat)(x:Str)(mi:List PV->Option PV)(f:pc)(g:Env->Option (List PV))(env:Env):Option PV:=(f env).bind λp=>match p with
 | .obj c' fs=>if c'=c/\fs.lookup x=none then (g env).bind λps=>mi (p::ps) else none
 | _=>none
@[simp] theorem YJ (c:Nat)(x:Str)(mi:List PV->Option PV)(f:pc)(g:Env->Option (List PV))(env:Env):e_ c x mi f g env=((f env).bind λp=>match p with
 | .obj c' fs=>if c'=c/\fs.lookup x=none then (g env).bind λps=>mi (p::ps) else none
 | _=>none):=id rfl
theorem Rv {c k j:Nat}{o:Expr}{fo:pc}{x:Str}{ps:oP}{mi:List PV->Option PV}{ro:Bool}{apos:Pos}(cM:II X.prog X.w X.K X.mg X.base (b.C.cl c) k x ps (Kx b.C mi ro))(hc:OF X.K (b.C.cl c))(hr:F5 j X.A)(ho:SE X b G .val o fo)(ha:SA X b G false (e::es) g)(hle:autoParam (k<=j) r1_)
  (PY:autoParam (starEach (e::es) X.env=(false,eval e X.env)::starEach es X.env) r0_) (HM:autoParam ((backTo pos (starEach es X.env)).any (·.1)=false) r0_){pl:Sem Bool}
  (ht:eval (.Call (.Attribute o x apos) (e::es) [] pos) X.env=(do
   let ov ← eval o X.env
   standAt apos.atName
   let (f,first) ← holding [ov] (getMethod ov x pl)
   callWith pos f first (backTo pos (starEach (e::es) X.env)) (backToKw pos (keywordEach [] X.env))):=by rfl):
  SE X b G (Jz ro) (.Call (.Attribute o x apos) (e::es) [] pos) (e_ c x mi fo g):=by
 obtain⟨f,fd,F,hb,hM⟩:=cM.ex
 refine PE.imp (Q9 (pl:=pl) ho hc hM F (hr.mono hle) hb .nil DG ha PY HM ht) ?_
 rintro σ H Q ⟨Ow,env,q,E,hf,kk⟩
 unfold e_ at hf
 cases q1:fo env with
 | none=>rw[q1] at hf;cases hf
 | some p1=>
  rw[q1] at hf
  refine⟨Ow,env,p1,E,q1,λv H1 s1 r1=>?_⟩
  have r1v:Rep b.C (Bs b Ow) H1 v p1:=r1
  cases p1 <;> simp only[bq] at hf <;> first | cases hf | skip
  rename_i c' fs
  split at hf
  ·rename_i PR
   obtain⟨rfl,ZE⟩:=PR
   cases q2:g env with
   | none=>rw[q2] at hf;cases hf
   | some qs=>
    rw[q2] at hf
    obtain⟨a,dx,fv,rfl,hha,ra⟩:=FF.obj (.inl r1v)
    refine⟨a,dx,fv,rfl,hha,ra.SU ZE,Ow,env,qs,E.up s1,q2,λvs H2 s2 r2=>?_⟩
    dsimp only
    rw[cf]
    exact⟨Bs b Ow,_::qs,q,.cons (r1v.ex (.of_same s2)) (DQ r2),hf,λv' H' s' rr=>kk v' H' (s1.trans (s2.trans s')) (Ret.res E (s1.trans s2) rr)⟩
  ·cases hf
theorem OJ {c k j:Nat}{o:Expr}{fo:pc}{x:Str}{ps:oP}{mi:List PV->Option PV}{ro:Bool}{apos:Pos}(cM:II X.prog X.w X.K X.mg X.base (b.C.cl c) k x ps (Kx b.C mi ro))(hc:OF X.K (b.C.cl c))(hr:F5 j X.A)(ho:SE X b G .val o fo)(hle:autoParam (k<=j) r1_){pl:Sem Bool}
  (ht:eval (.Call (.Attribute o x apos) [] [] pos) X.env=(do
   let ov ← eval o X.env
   standAt apos.atName
   let (f,first) ← holding [ov] (getMethod ov x pl)
   callWith pos f first (backTo pos (starEach [] X.env)) (backToKw pos (keywordEach [] X.env))):=by rfl):
  SE X b G (Jz ro) (.Call (.Attribute o x apos) [] [] pos) (e_ c x mi fo az):=by
 obtain⟨f,fd,F,hb,hM⟩:=cM.ex
 refine PE.imp (N6 (pl:=pl) ho hc hM F (hr.mono hle) hb .nil DG ht) ?_
 rintro σ H Q ⟨Ow,env,q,E,hf,kk⟩
 unfold e_ at hf
 cases q1:fo env with
 | none=>rw[q1] at hf;cases hf
 | some p1=>
  rw[q1] at hf
  refine⟨Ow,env,p1,E,q1,λv H1 s1 r1=>?_⟩
  have r1v:Rep b.C (Bs b Ow) H1 v p1:=r1
  cases p1 <;> simp only[bq] at hf <;> first | cases hf | skip
  rename_i c' fs
  split at hf
  ·rename_i PR
   obtain⟨rfl,ZE⟩:=PR
   obtain⟨a,dx,fv,rfl,hha,ra⟩:=FF.obj (.inl r1v)
   refine⟨a,dx,fv,rfl,hha,ra.SU ZE,?_⟩
   show Kx b.C mi ro ([.ref a]++[]) H1 Q E0
   exact⟨Bs b Ow,[_],q,.cons r1v .nil,hf,λv' H' s' rr=>kk v' H' (s1.trans s') (Ret.res E s1 rr)⟩
  ·cases hf
theorem aD {k j:Nat}{x:Str}{ps:oP}{mi:List PV->Option PV}(c:XW X.prog X.w X.K X.mg X.base k x ps (Kx b.C mi false))(hr:F5 j X.A)(ha:SA X b G false (e::es) g)(hle:autoParam (k<=j) r1_)(hg:autoParam (Gl X x) r0_)
  (MQ:autoParam ((x == ("__debug__" : Str))=false) r1_) (he:autoParam (starEach (e::es) X.env=(false,eval e X.env)::starEach es X.env) r0_) (HM:autoParam ((backTo pos (starEach es X.env)).any (·.1)=false) r0_):
  SE X b G .val (.Call (.Name x p) (e::es) [] pos) (aH mi g):=HY c hr ha hle hg MQ he HM
theorem yo {k j:Nat}{x:Str}{ps:oP}{mi:List PV->Option PV}(c:XW X.prog X.w X.K X.mg X.base k x ps (Kx b.C mi true))(hr:F5 j X.A)(ha:SA X b G false (e::es) g)(hle:autoParam (k<=j) r1_)(hg:autoParam (Gl X x) r0_)
  (MQ:autoParam ((x == ("__debug__" : Str))=false) r1_) (he:autoParam (starEach (e::es) X.env=(false,eval e X.env)::starEach es X.env) r0_) (HM:autoParam ((backTo pos (starEach es X.env)).any (·.1)=false) r0_):
  SE X b G .own (.Call (.Name x p) (e::es) [] pos) (aH mi g):=HY c hr ha hle hg MQ he HM
theorem gf {c k j:Nat}{o:Expr}{fo:pc}{x:Str}{ps:oP}{mi:List PV->Option PV}{apos:Pos}(cM:II X.prog X.w X.K X.mg X.base (b.C.cl c) k x ps (Kx b.C mi false))(hc:OF X.K (b.C.cl c))(hr:F5 j X.A)(ho:SE X b G .val o fo)(ha:SA X b G false (e::es) g)(hle:autoParam (k<=j) r1_)
  (PY:autoParam (starEach (e::es) X.env=(false,eval e X.env)::starEach es X.env) r0_) (HM:autoParam ((backTo pos (starEach es X.env)).any (·.1)=false) r0_){pl:Sem Bool}
  (ht:eval (.Call (.Attribute o x apos) (e::es) [] pos) X.env=(do
   let ov ← eval o X.env
   standAt apos.atName
   let (f,first) ← holding [ov] (getMethod ov x pl)
   callWith pos f first (backTo pos (starEach (e::es) X.env)) (backToKw pos (keywordEach [] X.env))):=by rfl):
  SE X b G .val (.Call (.Attribute o x apos) (e::es) [] pos) (e_ c x mi fo g):=Rv (pl:=pl) cM hc hr ho ha hle PY HM ht
theorem Ck {c k j:Nat}{o:Expr}{fo:pc}{x:Str}{ps:oP}{mi:List PV->Option PV}{apos:Pos}(cM:II X.prog X.w X.K X.mg X.base (b.C.cl c) k x ps (Kx b.C mi false))(hc:OF X.K (b.C.cl c))(hr:F5 j X.A)(ho:SE X b G .val o fo)(hle:autoParam (k<=j) r1_){pl:Sem Bool}
  (ht:eval (.Call (.Attribute o x apos) [] [] pos) X.env=(do
   let ov ← eval o X.env
   standAt apos.atName
   let (f,first) ← holding [ov] (getMethod ov x pl)
   callWith pos f first (backTo pos (starEach [] X.env)) (backToKw pos (keywordEach [] X.env))):=by rfl):
  SE X b G .val (.Call (.Attribute o x apos) [] [] pos) (e_ c x mi fo az):=OJ (pl:=pl) cM hc hr ho hle ht
end
section
variable {b:BX}{Ow:Addr->Prop}{G:oz}{σ:St}{env:Env}{H H':Hp}
theorem ER.set (E:ER b Ow G σ env H){i:Nat}{v:V}{p:PV}(hi:i∉G)(r:Rep b.C (Bs b Ow) H v p)(hx:b.fx i=none):ER b Ow G (σ.set i (some v)) (env.set i (some p)) H:=by
 refine⟨by rw[dn,dn];exact E.len,E.same,E.live,E.new,λj q e n=>?_,λj q e n=>?_,λj k a q q' e1 n1 s1 e2 n2 s2=>?_,λk w hw=>?_⟩
 ·by_cases hj:i=j
  ·subst hj
   rw[jv] at e
   split at e
   ·split at e
    ·rename_i hl
     have:=bi (bi e)
     subst this
     exact⟨v,by rw[cb (by rw[E.len];exact hl)],r⟩
    ·cases e
   ·exact absurd rfl ‹_›
  ·rw[aI hj] at e ⊢
   exact E.val j q e n
 ·have hj:i≠j:=λz=>hi (z▸n)
  rw[aI hj] at e ⊢
  exact E.own j q e n
 ·have hj:i≠j:=λz=>hi (z▸n1)
  have hk:i≠k:=λz=>hi (z▸n2)
  rw[aI hj] at e1 s1
  rw[aI hk] at e2 s2
  exact E.sep j k a q q' e1 n1 s1 e2 n2 s2
 ·by_cases hk:i=k
  ·subst hk;rw[hx] at hw;cases hw
  ·rw[aI hk];exact E.fix k w hw
theorem ER.setO (E:ER b Ow G σ env H){i:Nat}{a:Addr}{p:PV}{H0:Hp}{G':oz}(hG:∀j,j∈G'↔(j∈G\/j=i))(s0:FE H0 H)(hn:H0 a=none)(hE0:ER b Ow G σ env H0)(t:Top b.C (λc=>Bs b Ow c/\c≠a) H a p)(hx:b.fx i=none):
  ER b (λc=>Ow c\/c=a) G' (σ.set i (some (.ref a))) (env.set i (some p)) H/\Ex (Bs b Ow) H0 (Bs b λc=>Ow c\/c=a) H:=by
 have hx0:Ex (Bs b Ow) H0 (Bs b λc=>Ow c\/c=a) H:=λc o h=>⟨λq=>⟨s0 _ _ h,λz=>z.elim q.1 (bz h hn),q.2⟩,λ_=>s0 _ _ h⟩
 have ht:Top b.C (Bs b λc=>Ow c\/c=a) H a p:=t.ex (cO λc o _ q=>⟨λz=>z.elim q.1.1 q.2,q.1.2⟩) λo z=>z
 refine⟨⟨by rw[dn,dn];exact E.len,E.same,λc w=>w.elim (E.live c) λz=>by subst z;obtain⟨o,h,_⟩:=t.live;exact⟨o,h⟩,λc w=>w.elim (E.new c) λz=>by subst z;exact hE0.same.free hn,λj q e n=>?_,λj q e n=>?_,λj k c q q' e1 n1 s1 e2 n2 s2=>?_,λk w hw=>?_⟩,hx0⟩
 ·have hj:i≠j:=λz=>n ((hG j).mpr (.inr z.symm))
  rw[aI hj] at e ⊢
  obtain⟨v,h1,h2⟩:=hE0.val j q e λz=>n ((hG j).mpr (.inl z))
  exact⟨v,h1,h2.ex hx0⟩
 ·by_cases hj:i=j
  ·subst hj
   rw[jv] at e
   split at e
   ·split at e
    ·rename_i hl
     have:=bi (bi e)
     subst this
     exact⟨a,by rw[cb (by rw[E.len];exact hl)],.inr rfl,ht⟩
    ·cases e
   ·exact absurd rfl ‹_›
  ·rw[aI hj] at e ⊢
   have nG:j∈G:=((hG j).mp n).elim id λz=>absurd z.symm hj
   obtain⟨c,h1,h2,h3⟩:=hE0.own j q e nG
   exact⟨c,h1,.inl h2,h3.ex hx0 λo z=>s0 _ _ z⟩
 ·have old:∀{j:Nat}{q:PV},i≠j->j∈G'->env[j]?=some (some q)->σ[j]?=some (some (.ref c))->c≠a:=λ{j q} hj n e s=>by
   have nG:j∈G:=((hG j).mp n).elim id λz=>absurd z.symm hj
   obtain⟨c',h1,h2,h3⟩:=hE0.own j q e nG
   rw[s] at h1
   cases h1
   obtain⟨o,h4,_⟩:=h3.live
   exact bz h4 hn
  by_cases hj:i=j
  ·by_cases hk:i=k
   ·exact hj.symm.trans hk
   ·subst hj
    rw[aI hk] at e2 s2
    have hl:i < σ.length:=by
     by_cases hl:i < σ.length
     ·exact hl
     ·rw[bo (by rw[dn];omega)] at s1;cases s1
    rw[cb hl] at s1
    cases s1
    exact absurd rfl (old hk n2 e2 s2)
  ·by_cases hk:i=k
   ·subst hk
    rw[aI hj] at e1 s1
    have hl:i < σ.length:=by
     by_cases hl:i < σ.length
     ·exact hl
     ·rw[bo (by rw[dn];omega)] at s2;cases s2
    rw[cb hl] at s2
    cases s2
    exact absurd rfl (old hj n1 e1 s1)
   ·rw[aI hj] at e1 s1
    rw[aI hk] at e2 s2
    have g1:j∈G:=((hG j).mp n1).elim id λz=>absurd z.symm hj
    have g2:k∈G:=((hG k).mp n2).elim id λz=>absurd z.symm hk
    exact E.sep j k c q q' e1 g1 s1 e2 g2 s2
 ·by_cases hk:i=k
  ·subst hk;rw[hx] at hw;cases hw
  ·rw[aI hk];exact E.fix k w hw
theorem ER.write (E:ER b Ow G σ env H){i:Nat}{a:Addr}{p p':PV}{o':HO}(hi:i∈G)(hσ:σ[i]?=some (some (.ref a)))(he:env[i]?=some (some p))(hw:Ow a)(t:Top b.C (Bs b Ow) H a p)(t':Top b.C (Bs b Ow) (upd H a o') a p'):
  ER b Ow G σ (env.set i (some p')) (upd H a o')/\Ex (Bs b Ow) H (Bs b Ow) (upd H a o'):=by
 obtain⟨o,ho,hm⟩:=t.live
 have hx:Ex (Bs b Ow) H (Bs b Ow) (upd H a o'):=λc u h=>⟨λq=>⟨by rw[aQ (λz:c=a=>q.1 (z▸hw))];exact h,q⟩,λm=>by
  have hc:c≠a:=λz=>by subst z;rw[ho] at h;cases h;rw[hm] at m;cases m
  rw[aQ hc];exact h⟩
 refine⟨⟨by rw[dn];exact E.len,λc u h=>?_,λc w=>?_,E.new,λj q e n=>?_,λj q e n=>?_,λj k c q q' e1 n1 s1 e2 n2 s2=>?_,E.fix⟩,hx⟩
 ·have hc:c≠a:=bz h (E.new a hw)
  rw[aQ hc];exact E.same c u h
 ·by_cases hc:c=a
  ·subst hc;exact⟨o',bx⟩
  ·obtain⟨u,h⟩:=E.live c w
   exact⟨u,by rw[aQ hc];exact h⟩
 ·have hj:i≠j:=λz=>n (z▸hi)
  rw[aI hj] at e
  obtain⟨v,h1,h2⟩:=E.val j q e n
  exact⟨v,h1,h2.ex hx⟩
 ·by_cases hj:i=j
  ·subst hj
   rw[jv] at e
   split at e
   ·split at e
    ·have:=bi (bi e)
     subst this
     exact⟨a,hσ,hw,t'⟩
    ·cases e
   ·exact absurd rfl ‹_›
  ·rw[aI hj] at e
   obtain⟨c,h1,h2,h3⟩:=E.own j q e n
   have hc:c≠a:=λz=>by subst z;exact hj (E.sep i j c p q he hi hσ e n h1)
   exact⟨c,h1,h2,h3.ex hx λu z=>by rw[aQ hc];exact z⟩
 ·have back:∀{j:Nat}{q:PV},(env.set i (some p'))[j]?=some (some q)->∃q,env[j]?=some (some q):=λ{j q} e=>by
   by_cases hj:i=j
   ·subst hj;exact⟨p,he⟩
   ·rw[aI hj] at e;exact⟨q,e⟩
  obtain⟨r1,e1'⟩:=back e1
  obtain⟨r2,Zs⟩:=back e2
  exact E.sep j k c r1 r2 e1' n1 s1 Zs n2 s2
theorem ER.weak {G':oz}(E:ER b Ow G σ env H)(h:∀j,j∈G'->j∈G):∃FV,ER b FV G' σ env H/\Ex (Bs b Ow) H (Bs b FV) H:=by
 refine⟨λa=>Ow a/\∃j q,j∈G'/\env[j]?=some (some q)/\σ[j]?=some (some (.ref a)),?_⟩
 have hx:Ex (Bs b Ow) H (Bs b λa=>Ow a/\∃j q,j∈G'/\env[j]?=some (some q)/\σ[j]?=some (some (.ref a))) H:=cO λc o _ q=>⟨λz=>q.1 z.1,q.2⟩
 refine⟨⟨E.len,E.same,λa w=>E.live a w.1,λa w=>E.new a w.1,λi p e n=>?_,λi p e n=>?_,λi j a p q e1 n1 s1 e2 n2 s2=>E.sep i j a p q e1 (h i n1) s1 e2 (h j n2) s2,E.fix⟩,hx⟩
 ·by_cases hi:i∈G
  ·obtain⟨a,h1,h2,h3⟩:=E.own i p e hi
   refine⟨_,h1,(h3.ex hx λo z=>z).rep ⟨λz=>?_,.inr (E.new a h2)⟩⟩
   obtain⟨_,j,q,hj,e',s'⟩:=z
   have:=E.sep i j a p q e hi h1 e' (h j hj) s'
   subst this
   exact n hj
  ·obtain⟨v,h1,h2⟩:=E.val i p e hi
   exact⟨v,h1,h2.ex hx⟩
 ·obtain⟨a,h1,h2,h3⟩:=E.own i p e (h i n)
  exact⟨a,h1,⟨h2,i,p,n,e,h1⟩,h3.ex hx λo z=>z⟩
theorem ER.forget (E:ER b Ow G σ env H)(i:Nat):ER b Ow G σ (env.set i none) H:=by
 have back:∀{j:Nat}{q:PV},(env.set i none)[j]?=some (some q)->env[j]?=some (some q):=λ{j q} e=>by
  by_cases hj:i=j
  ·subst hj
   rw[jv] at e
   split at e
   ·split at e <;> cases e
   ·exact absurd rfl ‹_›
  ·rw[aI hj] at e;exact e
 exact⟨by rw[dn];exact E.len,E.same,E.live,E.new,λj q e n=>E.val j q (back e) n,λj q e n=>E.own j q (back e) n,λj k a q q' e1 n1 s1 e2 n2 s2=>E.sep j k a q q' (back e1) n1 s1 (back e2) n2 s2,E.fix⟩
@[simp] noncomputable def IX:List Nat->Env->Env
 | [],env=>env
 | i::r,env=>IX r (env.set i none)
theorem ER.IX:∀{ds:oz}{env:Env},ER b Ow G σ env H->ER b Ow G σ (IX ds env) H
 | [],_,E=>E
 | i::r,env,E=>ER.IX (ds:=r) (E.forget i)
end
inductive Out where
 | nx (e:Env) | bk (e:Env) | ct (e:Env) | rt (p:PV)
def ZH (b:BX)(Ow:Addr->Prop)(H:Hp)(G L:oz)(ro:Bool)(D:Ends):Out->Prop
 | .nx e=>∀FV σ' H',ER b FV G σ' e H'->Ex (Bs b Ow) H (Bs b FV) H'->D.nx σ' H'
 | .bk e=>∀FV σ' H',ER b FV L σ' e H'->Ex (Bs b Ow) H (Bs b FV) H'->D.bk σ' H'
 | .ct e=>∀FV σ' H',ER b FV L σ' e H'->Ex (Bs b Ow) H (Bs b FV) H'->D.ct σ' H'
 | .rt p=>∀v H',FE b.H0 H'->Ret b.C b.A b.H0 ro H' v p->D.rt v H'
def tS (b:BX)(G G' L:oz)(ro:Bool)(f:Env->Option Out):TS:=λD σ H=>∃Ow env out,ER b Ow G σ env H/\f env=some out/\ZH b Ow H G' L ro D out
abbrev SS (X:Cx)(b:BX)(G G' L:oz)(ro:Bool)(st:Stmt)(f:Env->Option Out):Prop:=PS X st (tS b G G' L ro f)
abbrev Pm (X:Cx)(b:BX)(G G' L:oz)(ro:Bool)(st:oC)(f:Env->Option Out):Prop:=LV X st (tS b G G' L ro f)
theorem LV.imp {X:Cx}{e:oC}{t u:TS}(h:LV X e t)(i:∀D σ H,u D σ H->t D σ H):LV X e u:=λFs s σ H D I q=>h Fs s σ H D I (i D σ H q)
theorem PS.or {X:Cx}{e:Stmt}{t u:TS}(h:PS X e t)(h':PS X e u):PS X e (λD σ H=>t D σ H\/u D σ H):=λFs s σ H D I q=>q.elim (h Fs s σ H D I) (h' Fs s σ H D I)
theorem ZH.ex {b:BX}{Ow Ow1:Addr->Prop}{H H1:Hp}{G L:oz}{ro:Bool}{D:Ends}{o:Out}(e:Ex (Bs b Ow) H (Bs b Ow1) H1)(h:ZH b Ow H G L ro D o):ZH b Ow1 H1 G L ro D o:=by
 cases o with
 | nx e'=>exact λFV σ' H' E x=>h FV σ' H' E (e.trans x)
 | bk e'=>exact λFV σ' H' E x=>h FV σ' H' E (e.trans x)
 | ct e'=>exact λFV σ' H' E x=>h FV σ' H' E (e.trans x)
 | rt p=>exact h
noncomputable def GI (env:Env):Option Out:=some (.nx env)
@[simp] theorem ZC (env:Env):GI env=(some (.nx env)):=id rfl
noncomputable def sNo (env:Env):Option Out:=none
@[simp] theorem ZD (env:Env):sNo env=(none):=id rfl
noncomputable def aF (f g:Env->Option Out)(env:Env):Option Out:=(f env).bind λo=>match o with | .nx e=>g e | o=>some o
@[simp] theorem Zg (f g:Env->Option Out)(env:Env):aF f g env=((f env).bind λo=>match o with | .nx e=>g e | o=>some o):=id rfl
noncomputable def aK (i:Nat)(f:pc)(env:Env):Option Out:=(f env).bind λp=>some (.nx (env.set i (some p)))
@[simp] theorem Rx (i:Nat)(f:pc)(env:Env):aK i f env=((f env).bind λp=>some (.nx (env.set i (some p)))):=id rfl
noncomputable def aN (f:pc)(env:Env):Option Out:=(f env).bind λp=>some (.rt p)
@[simp] theorem Zh (f:pc)(env:Env):aN f env=((f env).bind λp=>some (.rt p)):=id rfl
noncomputable def F9 (c:Env->Option Bool)(f g:Env->Option Out)(env:Env):Option Out:=(c env).bind λk=>if k=true then f env else g env
@[simp] theorem ZF (c:Env->Option Bool)(f g:Env->Option Out)(env:Env):F9 c f g env=((c env).bind λk=>if k=true then f env else g env):=id rfl
noncomputable def wX (f:pc)(env:Env):Option Out:=(f env).bind λ_=>some (.nx env)
@[simp] theorem YK (f:pc)(env:Env):wX f env=((f env).bind λ_=>some (.nx env)):=id rfl
noncomputable def bh (g:PV->PV->Option PV)(i:Nat)(f:pc)(env:Env):Option Out:=(bV i env).bind λx=>(f env).bind λp=>(g x p).bind λy=>some (.nx (env.set i (some y)))
@[simp] theorem YL (g:PV->PV->Option PV)(i:Nat)(f:pc)(env:Env):bh g i f env=((bV i env).bind λx=>(f env).bind λp=>(g x p).bind λy=>some (.nx (env.set i (some y)))):=id rfl
noncomputable def oY (g:PV->PV->PV->Option PV)(i:Nat)(f h:pc)(env:Env):Option Out:=(bV i env).bind λx=>(f env).bind λp=>(h env).bind λq=>(g x p q).bind λy=>some (.nx (env.set i (some y)))
@[simp] theorem YM (g:PV->PV->PV->Option PV)(i:Nat)(f h:pc)(env:Env):oY g i f h env=((bV i env).bind λx=>(f env).bind λp=>(h env).bind λq=>(g x p q).bind λy=>some (.nx (env.set i (some y)))):=id rfl
@[simp] noncomputable def cD:PV->PV->Option PV
 | .lst xs,p=>if xs.length < 1000000 then some (.lst (xs++[p])) else none
 | _,_=>none
noncomputable def jE {κ:Type}[DecidableEq κ](kvs:List (κ×PV))(k:κ)(v:PV):List (κ×PV):=
 if (kvs.any λkv=>decide (kv.1=k))=true then kvs.map (λkv=>if kv.1=k then (kv.1,v) else kv) else kvs++[(k,v)]
@[simp] noncomputable def sS:PV->PV->PV->Option PV
 | .dK kvs,k,v=>(keyOf k).bind λk=>if kvs.length < 1000000 then some (.dK (jE kvs k v)) else none
 | .dT kvs,.tup ks,v=>(GW ks).bind λk=>if kvs.length < 1000000 then some (.dT (jE kvs k v)) else none
 | .lst xs,.int i,v=>(Nn xs.length i).map λj=>.lst (xs.set j v)
 | _,_,_=>none
noncomputable def pF (f:Str)(v:PV):List (Str×PV)->List (Str×PV)
 | []=>[(f,v)]
 | (g,x)::r=>if g=f then (g,v)::r else (g,x)::pF f v r
@[simp] noncomputable def XZ (c:Nat)(x:Str):PV->PV->Option PV
 | .obj c' fs,v=>if c'=c/\fs.length < 1000 then some (.obj c' (pF x v fs)) else none
 | _,_=>none
section
variable {X:Cx}{b:BX}{G G' G1 L:oz}{ro:Bool}{st:Stmt}{rest:oC}{f g:Env->Option Out}{e e1 e2:Expr}{h h1 h2:pc}{m m1 m2:Md}{pos:Pos}
theorem aX:Pm X b G G L ro [] GI:=LV.imp QW<|by rintro D σ H ⟨Ow,env,o,E,hf,k⟩;cases hf;exact k Ow σ H E (Ex.refl _ _)
theorem au (a:SS X b G G1 L ro st f)(c:Pm X b G1 G' L ro rest g):Pm X b G G' L ro (st::rest) (aF f g):=LV.imp (uz a c)<|by
 rintro D σ H ⟨Ow,env,o,E,hf,k⟩
 unfold aF at hf
 cases q:f env with
 | none=>rw[q] at hf;cases hf
 | some o1=>
  rw[q] at hf
  refine⟨Ow,env,o1,E,q,?_⟩
  cases o1 with
  | nx e'=>exact λFV σ' H' E' x=>⟨FV,e',o,E',hf,k.ex x⟩
  | bk e'=>cases hf;exact k
  | ct e'=>cases hf;exact k
  | rt p=>cases hf;exact k
theorem aA (a:SS X b G G' L ro st f):Pm X b G G' L ro [st] f:=HF a
theorem cY (c:Pm X b G1 G' L ro rest g)(hs:autoParam (∀j,j∈G1->j∈G) r1_):Pm X b G G' L ro rest g:=LV.imp c<|by
 rintro D σ H ⟨Ow,env,o,E,hf,k⟩
 obtain⟨FV,E',x⟩:=E.weak hs
 exact⟨FV,env,o,E',hf,k.ex x⟩
theorem O1:SS X b G G' L ro st sNo:=PS.imp Nv<|by rintro D σ H ⟨Ow,env,o,E,hf,k⟩;cases hf
theorem aC {α β:Type}{x:Option α}{k:α->Option β}{y:β}(h:x.bind k=some y):∃a,x=some a/\k a=some y:=by
 cases x with
 | none=>cases h
 | some a=>exact⟨a,rfl,h⟩
theorem Vn {i:Nat}{D:Ends}{σ:St}{H:Hp}(hi:i∉G)(hx:b.fx i=none)(q:tS b G G L ro (aK i h) D σ H):tM b G .val h σ H λv H1=>D.nx (σ.set i (some v)) H1:=by
 obtain⟨Ow,env,o,E,hf,k⟩:=q
 obtain⟨p,hp,e⟩:=aC hf
 cases e
 exact⟨Ow,env,p,E,hp,λv H' s r=>k Ow _ H' ((E.up s).set hi r hx) (.of_same s)⟩
theorem QC {i:Nat}{D:Ends}{σ:St}{H:Hp}(hG:∀j,j∈G'↔(j∈G\/j=i))(hx:b.fx i=none)(q:tS b G G' L ro (aK i h) D σ H):tM b G .own h σ H λv H1=>D.nx (σ.set i (some v)) H1:=by
 obtain⟨Ow,env,o,E,hf,k⟩:=q
 obtain⟨p,hp,e⟩:=aC hf
 cases e
 refine⟨Ow,env,p,E,hp,?_⟩
 rintro v H' s ⟨a,ev,hn,t⟩
 subst ev
 obtain⟨E',x⟩:=(E.up s).setO hG s hn E t hx
 exact k _ _ H' E' x
theorem r7_q (_h:True:=by first | exact fw rfl | exact ef rfl):True:=trivial
def r7_:Lean.Syntax:=r7_q._auto_1
theorem aR (i:Nat){x:Str}{pos':Pos}(nd:X.N.Nodup)(he:SE X b G .val e h)(hG:autoParam (i∉G) r1_)(hx:autoParam (b.fx i=none) r6_)(hi:autoParam (X.N[i]?=some x) r0_)(hl:autoParam (Loc X.env.scope x) r7_)
  (hs:autoParam (swapsWith e (some (.Name x pos')) pos.line X.env=pure false) r0_) (hf:autoParam (X.fn x=true\/X.env.scope.names.lookup x=some .local) r2_):SS X b G G L ro (.Assign [.Name x pos'] e pos) (aK i h):=
 PS.imp (Em nd hi hl he hs hf) λD σ H q=>Vn hG hx q
theorem cF (i:Nat){x:Str}{pos':Pos}(nd:X.N.Nodup)(he:SE X b G .own e h)(hG:autoParam (i∈G) r1_)(hx:autoParam (b.fx i=none) r6_)(hi:autoParam (X.N[i]?=some x) r0_)(hl:autoParam (Loc X.env.scope x) r7_)
  (hs:autoParam (swapsWith e (some (.Name x pos')) pos.line X.env=pure false) r0_) (hf:autoParam (X.fn x=true\/X.env.scope.names.lookup x=some .local) r2_):SS X b G G L ro (.Assign [.Name x pos'] e pos) (aK i h):=
 PS.imp (Em nd hi hl he hs hf) λD σ H q=>QC (λj=>⟨.inl,λz=>z.elim id λy=>y▸hG⟩) hx q
theorem aL (he:SE X b G .val e h):SS X b G G' L false (.Return (some e) pos) (aN h):=PS.imp (El he)<|by
 rintro D σ H ⟨Ow,env,o,E,hf,k⟩
 obtain⟨p,hp,z1⟩:=aC hf
 clear hf
 cases z1
 exact⟨Ow,env,p,E,hp,λv H' s r=>k v H' (E.same.trans s) (Rep.ex (cO λc o _ q=>q.2) r)⟩
theorem Vo (he:SE X b G .own e h):SS X b G G' L true (.Return (some e) pos) (aN h):=PS.imp (El he)<|by
 rintro D σ H ⟨Ow,env,o,E,hf,k⟩
 obtain⟨p,hp,z1⟩:=aC hf
 clear hf
 cases z1
 exact⟨Ow,env,p,E,hp,λv H' s ⟨a,ev,hn,t⟩=>k v H' (E.same.trans s) ⟨a,ev,E.same.free hn,t.ex (cO λc o _ q=>⟨q.1.2,q.2⟩) λo z=>z⟩⟩
theorem Vp (i:Nat){x:Str}{p1:Pos}(hi:autoParam (i∈G) r1_)(hN:autoParam (X.N[i]?=some x) r0_)(hv:autoParam (Sl X.env.scope x) r5_)(hd:autoParam ((x == ("__debug__" : Str))=false) r1_)
  (LW:autoParam ((x == ("__classdict__" : Str))=false) r1_):SS X b G G' L true (.Return (some (.Name x p1)) pos) (aN (bV i)):=PS.imp (El (kh hN hv hd LW))<|by
 rintro D σ H ⟨Ow,env,o,E,hf,k⟩
 obtain⟨p,hp,z1⟩:=aC hf
 clear hf
 cases z1
 obtain⟨a,e,w,t⟩:=E.own i p (fY hp) hi
 exact⟨_,e,k _ H E.same ⟨a,rfl,E.new a w,t.ex (cO λc o _ q=>⟨q.2,λz=>q.1 (z▸w)⟩) λo z=>z⟩⟩
theorem bD {c:Expr}{k:Env->Option Bool}{sa sb:oC}(hc:ST X b G c k)(ha:Pm X b G G' L ro sa f)(hb:Pm X b G G' L ro sb g):SS X b G G' L ro (.If c sa sb pos) (F9 k f g):=PS.imp (Qo hc ha hb)<|by
 rintro D σ H ⟨Ow,env,o,E,hf,kk⟩
 obtain⟨p,hp,z1⟩:=aC hf
 clear hf
 refine⟨Ow,env,p,E,hp,λH' s=>?_⟩
 cases p with
 | true=>exact Jq ⟨Ow,env,o,E.up s,z1,kk.ex (.of_same s)⟩
 | false=>exact Jp ⟨Ow,env,o,E.up s,z1,kk.ex (.of_same s)⟩
theorem yW (he:SE X b G m e h)(hs:autoParam (swapsWith e none pos.line X.env=pure false) r0_):SS X b G G L ro (.Expr e pos) (wX h):=PS.imp (wN he.bor hs)<|by
 rintro D σ H ⟨Ow,env,o,E,hf,k⟩
 obtain⟨p,hp,z1⟩:=aC hf
 clear hf
 cases z1
 exact⟨Ow,env,p,E,hp,λv H' s r=>k Ow σ H' (E.up s) (.of_same s)⟩
theorem cV (i:Nat){x:Str}{p1 apos FO:Pos}(he:SE X b G .val e h)(hi:autoParam (i∈G) r1_)(hN:autoParam (X.N[i]?=some x) r0_)(hv:autoParam (Sl X.env.scope x) r5_)(hd:autoParam ((x == ("__debug__" : Str))=false) r1_)
  (LW:autoParam ((x == ("__classdict__" : Str))=false) r1_) (JI:autoParam (attributeBase (.Name x p1) "append" X.env (eval (.Name x p1) X.env)=eval (.Name x p1) X.env) r0_)
  (LZ:((backTo FO (starEach [e] X.env)).all (λx=>!x.1)&&(backToKw FO (keywordEach [] X.env)).all (λx=>x.1.isSome)
   && decide ([e].length+([]:List Keyword).length+(if ([]:List Keyword).isEmpty then 0 else 1) < 30))=true:=by rfl)
  (JJ:autoParam ((apos.endLine == FO.line)=true) r0_) (hs:autoParam (starEach [e] X.env=(false,eval e X.env)::starEach [] X.env) r0_):
  SS X b G G L ro (.Expr (.Call (.Attribute (.Name x p1) "append" apos) [e] [] FO) pos) (bh cD i h):=
 PS.imp (wN (Dz iX lx ly vB (kh hN hv hd LW) (bW he dJ hs) JI LZ JJ hs rfl))<|by
  rintro D σ H ⟨Ow,env,o,E,hf,k⟩
  obtain⟨px,Rl,z1⟩:=aC hf
  clear hf
  obtain⟨p,hp,z2⟩:=aC z1
  clear z1
  obtain⟨y,hy,z3⟩:=aC z2
  clear z2
  cases z3
  obtain⟨a,ea,w,t⟩:=E.own i px (fY Rl) hi
  cases px <;> simp only[cD] at hy <;> first | cases hy | skip
  rename_i xs
  split at hy
  ·rename_i hl
   cases hy
   obtain⟨vs,ha,ra⟩:=id t
   refine⟨_,ea,.inl ⟨rfl,_,F7.of ha⟩,Ow,env,p,E,hp,λv H' s r=>?_⟩
   refine⟨a,vs,v,rfl,rfl,s _ _ ha,jN (by rw[ra.length];omega),?_⟩
   have ra':FA b.C (Bs b Ow) (upd H' a (.lst (vs++[v]))) (vs++[v]) (xs++[p]):=by
    refine(ra.ex (.of_same s)).append (.cons r .nil) |>.ex λc o h=>⟨λq=>⟨by rw[aQ (λz:c=a=>q.1 (z▸w))];exact h,q⟩,λm=>?_⟩
    have hc:c≠a:=λz=>by subst z;rw[s _ _ ha] at h;cases h;cases m
    rw[aQ hc];exact h
   obtain⟨E',x⟩:=(E.up s).write hi ea (fY Rl) w (t.ex (.of_same s) λo z=>s _ _ z) (o':=.lst (vs++[v])) (p':=.lst (xs++[p])) ⟨_,bx,ra'⟩
   exact k Ow σ _ E' ((Ex.of_same s).trans x)
  ·cases hy
theorem GA.put {C:MC}{A:Addr->Prop}{H:Hp}{k:Key}{v:V}{p:PV}(r:Rep C A H v p){kv:List (Key×V)}{kvs:List (Key×PV)}(t:GA C A H kv kvs):GA C A H (putK kv k v) (jE kvs k p):=by
 have NH:∀{kv:List (Key×V)}{kvs:List (Key×PV)},GA C A H kv kvs->(kv.any λx=>decide (x.1=k))=(kvs.any λx=>decide (x.1=k)):=by
  intro kv kvs t
  induction kv generalizing kvs with
  | nil=>cases t;rfl
  | cons x l ih=>cases t with | cons h t=>rw[cy,cy,ih t]
 have RE:∀{kv:List (Key×V)}{kvs:List (Key×PV)},GA C A H kv kvs->GA C A H (kv.map λx=>if x.1=k then (x.1,v) else x) (kvs.map λx=>if x.1=k then (x.1,p) else x):=by
  intro kv kvs t
  induction kv generalizing kvs with
  | nil=>cases t;exact .nil
  | cons x l ih=>
   cases t with
   | cons h t=>
    rw[ag,ag]
    rename_i k' v' p' ps'
    by_cases e:k'=k
    ·simp only[e,g9];exact .cons r (ih t)
    ·simp only[e,gx];exact .cons h (ih t)
 have happ:∀{kv:List (Key×V)}{kvs:List (Key×PV)},GA C A H kv kvs->GA C A H (kv++[(k,v)]) (kvs++[(k,p)]):=by
  intro kv kvs t
  induction kv generalizing kvs with
  | nil=>cases t;exact .cons r .nil
  | cons x l ih=>cases t with | cons h t=>exact .cons h (ih t)
 unfold putK jE
 rw[NH t]
 split
 ·exact RE t
 ·exact happ t
theorem GB.put {C:MC}{A:Addr->Prop}{H:Hp}{k:List Key}{v:V}{p:PV}(r:Rep C A H v p){kv:List (List Key×V)}{kvs:List (List Key×PV)}(t:GB C A H kv kvs):GB C A H (putK kv k v) (jE kvs k p):=by
 have NH:∀{kv:List (List Key×V)}{kvs:List (List Key×PV)},GB C A H kv kvs->(kv.any λx=>decide (x.1=k))=(kvs.any λx=>decide (x.1=k)):=by
  intro kv kvs t
  induction kv generalizing kvs with
  | nil=>cases t;rfl
  | cons x l ih=>cases t with | cons h t=>rw[cy,cy,ih t]
 have RE:∀{kv:List (List Key×V)}{kvs:List (List Key×PV)},GB C A H kv kvs->GB C A H (kv.map λx=>if x.1=k then (x.1,v) else x) (kvs.map λx=>if x.1=k then (x.1,p) else x):=by
  intro kv kvs t
  induction kv generalizing kvs with
  | nil=>cases t;exact .nil
  | cons x l ih=>
   cases t with
   | cons h t=>
    rw[ag,ag]
    rename_i k' v' p' ps'
    by_cases e:k'=k
    ·simp only[e,g9];exact .cons r (ih t)
    ·simp only[e,gx];exact .cons h (ih t)
 have happ:∀{kv:List (List Key×V)}{kvs:List (List Key×PV)},GB C A H kv kvs->GB C A H (kv++[(k,v)]) (kvs++[(k,p)]):=by
  intro kv kvs t
  induction kv generalizing kvs with
  | nil=>cases t;exact .cons r .nil
  | cons x l ih=>cases t with | cons h t=>exact .cons h (ih t)
 unfold putK jE
 rw[NH t]
 split
 ·exact RE t
 ·exact happ t
theorem GB.length {C:MC}{A:Addr->Prop}{H:Hp}:∀{vs:List (List Key×V)}{ps:List (List Key×PV)},GB C A H vs ps->vs.length=ps.length
 | _,_,.nil=>rfl
 | _,_,.cons _ t=>by simp[GB.length t]
theorem GU.length {C:MC}{A:Addr->Prop}{H:Hp}:∀{vs:List (Str×V)}{ps:List (Str×PV)},GU C A H vs ps->vs.length=ps.length
 | _,_,.nil=>rfl
 | _,_,.cons _ t=>by simp[GU.length t]
theorem GU.put {C:MC}{A:Addr->Prop}{H:Hp}{k:Str}{v:V}{p:PV}(r:Rep C A H v p):∀{kv:List (Str×V)}{kvs:List (Str×PV)},GU C A H kv kvs->GU C A H (iT k v kv) (pF k p kvs)
 | _,_,.nil=>.cons r .nil
 | _,_,.cons (k:=k') h t=>by
  unfold iT pF
  split
  ·exact .cons r t
  ·exact .cons h (GU.put r t)
theorem qU {Ow:Addr->Prop}{H:Hp}{a:Addr}{o o':HO}(w:Ow a)(ha:H a=some o)(hm:yQ o=true):Ex (Bs b Ow) H (Bs b Ow) (upd H a o'):=λc u h=>⟨λq=>⟨by rw[aQ (λz:c=a=>q.1 (z▸w))];exact h,q⟩,λm=>by
 have hc:c≠a:=λz=>by subst z;rw[ha] at h;cases h;rw[hm] at m;cases m
 rw[aQ hc];exact h⟩
theorem rY (i:Nat){x:Str}{p1 p2:Pos}{j:Nat}(hr:F5 j X.A)(hk:SE X b G .val e1 h1)(YO:SE X b G .val e2 h2)(hi:autoParam (i∈G) r1_)(hN:autoParam (X.N[i]?=some x) r0_)(hv:autoParam (Sl X.env.scope x) r5_)(hd:autoParam ((x == ("__debug__" : Str))=false) r1_)
  (LW:autoParam ((x == ("__classdict__" : Str))=false) r1_) (hs:autoParam (swapsWith e2 (some (.Subscript (.Name x p1) e1 p2)) pos.line X.env=pure false) r0_) (Kn:autoParam (swapsWithSole [.Subscript (.Name x p1) e1 p2] e2 pos.line X.env=pure false) r0_) (hw:autoParam (swappedStores [.Subscript (.Name x p1) e1 p2] e2 X.env=pure none) r0_)
  (ha1:autoParam ((assignEach [.Subscript (.Name x p1) e1 p2] X.env).map (·.2)=[assign (.Subscript (.Name x p1) e1 p2) X.env]) r0_)
  (ha:∀v,assign (.Subscript (.Name x p1) e1 p2) X.env v=(do
   let ov ← holding [v] (eval (.Name x p1) X.env)
   let iv ← holding [v,ov] (eval e1 X.env)
   standAt p2
   holding [v,ov,iv] (setItem ov iv v)
   release [v,ov,iv] []):=by intro _;rfl) (hK:autoParam (X.K=b.C.K) r0_):SS X b G G L ro (.Assign [.Subscript (.Name x p1) e1 p2] e2 pos) (oY sS i h1 h2):=by
 refine PS.imp (PS.or (Rf (uB hr) (kh hN hv hd LW) hk YO hs) (KZ YO (Uc (kh hN hv hd LW) hk set_list ha) Kn hw ha1)) ?_
 rintro D σ H ⟨Ow,env,o,E,hf,k⟩
 obtain⟨px,Rl,z1⟩:=aC hf
 clear hf
 obtain⟨pk,hpk,z2⟩:=aC z1
 clear z1
 obtain⟨pv,hpv,z3⟩:=aC z2
 clear z2
 obtain⟨y,hy,z4⟩:=aC z3
 clear z3
 cases z4
 obtain⟨a,ea,w,t⟩:=E.own i px (fY Rl) hi
 have fin:∀{H2:Hp}{o':HO},FE H H2->Top b.C (Bs b Ow) (upd H2 a o') a y->D.nx σ (upd H2 a o'):=λ{H2 o'} s t'=>by
  obtain⟨E',x⟩:=(E.up s).write hi ea (fY Rl) w (t.ex (.of_same s) λo z=>s _ _ z) t'
  exact k Ow σ _ E' ((Ex.of_same s).trans x)
 unfold sS at hy
 split at hy
 ·obtain⟨ky,hky,hy⟩:=aC hy
  split at hy
  ·rename_i hl
   cases hy
   obtain⟨kv,ha,ra⟩:=id t
   refine .inl ⟨Ow,env,pv,E,hpv,λv H1 s1 r1=>⟨_,ea,Ow,env,pk,E.up s1,hpk,λu H2 s2 r2=>?_⟩⟩
   have s:=s1.trans s2
   have eu:=FF.key (.inl r2) hky
   subst eu
   refine⟨a,_,rfl,OQ.k (s _ _ ha) (jN (by rw[ra.length];omega)),fin s ⟨_,bx,?_⟩⟩
   exact(GA.put (k:=ky) (Rep.ex (.of_same s2) r1) (ra.ex (.of_same s))).ex (qU w (s _ _ ha) rfl)
  ·cases hy
 ·obtain⟨ky,hky,hy⟩:=aC hy
  split at hy
  ·rename_i hl
   cases hy
   obtain⟨kv,ha,ra⟩:=id t
   refine .inl ⟨Ow,env,pv,E,hpv,λv H1 s1 r1=>⟨_,ea,Ow,env,_,E.up s1,hpk,λu H2 s2 r2=>?_⟩⟩
   have s:=s1.trans s2
   obtain⟨c,us,rfl,hc,rc⟩:=FF.tup (.inl r2)
   refine⟨a,_,rfl,OQ.t (s _ _ ha) (by rw[hK];exact hc.key (rc.GW hky)) (jN (by rw[ra.length];omega)),fin s ⟨_,bx,?_⟩⟩
   exact(GB.put (k:=ky) (Rep.ex (.of_same s2) r1) (ra.ex (.of_same s))).ex (qU w (s _ _ ha) rfl)
  ·cases hy
 ·rename_i xs n
  cases q:Nn xs.length n with
  | none=>rw[q] at hy;cases hy
  | some jj=>
   rw[q] at hy
   cases hy
   obtain⟨vs,ha,ra⟩:=id t
   refine .inr ⟨Ow,env,pv,E,hpv,λv H1 s1 r1=>⟨_,ea,Ow,env,_,E.up s1,hpk,λu H2 s2 r2=>?_⟩⟩
   have s:=s1.trans s2
   have eu:=FF.int (.inl r2)
   subst eu
   refine⟨a,vs,n,jj,rfl,rfl,s _ _ ha,by rw[ra.length];exact q,fin s ⟨_,bx,?_⟩⟩
   exact(FA.set (Rep.ex (.of_same s2) r1) jj (ra.ex (.of_same s))).ex (qU w (s _ _ ha) rfl)
 ·cases hy
theorem rZ (i:Nat){x y:Str}{p1 p2:Pos}{c:Nat}(hc:OF X.K (b.C.cl c))(hn:GV X.K (b.C.cl c) y)(he:SE X b G .val e h)(hi:autoParam (i∈G) r1_)(hN:autoParam (X.N[i]?=some x) r0_)(hv:autoParam (Sl X.env.scope x) r5_)(hd:autoParam ((x == ("__debug__" : Str))=false) r1_)
  (LW:autoParam ((x == ("__classdict__" : Str))=false) r1_) (hs:autoParam (swapsWith e (some (.Attribute (.Name x p1) y p2)) pos.line X.env=pure false) r0_):SS X b G G L ro (.Assign [.Attribute (.Name x p1) y p2] e pos) (bh (XZ c y) i h):=
 PS.imp (Uq (kh hN hv hd LW) he hs)<|by
  rintro D σ H ⟨Ow,env,o,E,hf,k⟩
  obtain⟨px,Rl,z1⟩:=aC hf
  clear hf
  obtain⟨p,hp,z2⟩:=aC z1
  clear z1
  obtain⟨y',hy,z3⟩:=aC z2
  clear z2
  cases z3
  obtain⟨a,ea,w,t⟩:=E.own i px (fY Rl) hi
  cases px <;> simp only[XZ] at hy <;> first | cases hy | skip
  rename_i c' fs
  split at hy
  ·rename_i PR
   obtain⟨rfl,hl⟩:=PR
   cases hy
   obtain⟨dx,fv,ha,ra⟩:=id t
   refine⟨Ow,env,p,E,hp,λv H1 s r=>⟨_,ea,a,_,dx,fv,rfl,s _ _ ha,hc,hn,by rw[ra.length];exact hl,?_⟩⟩
   obtain⟨E',x⟩:=(E.up s).write hi ea (fY Rl) w (t.ex (.of_same s) λo z=>s _ _ z) (o':=.ins (b.C.cl c') dx (iT y v fv)) (p':=.obj c' (pF y p fs)) ⟨dx,_,bx,(GU.put r (ra.ex (.of_same s))).ex (qU w (s _ _ ha) rfl)⟩
   exact k Ow σ _ E' ((Ex.of_same s).trans x)
  ·cases hy
def IW (b:BX)(Ow:Addr->Prop)(fr:Bool)(H1:Hp)(J:It)(ps:List PV):Prop:=∀FV H,(fr=false->FE H1 H)->Ex (Bs b Ow) H1 (Bs b FV) H->(∀a,H a=none->Bs b FV a)->
 (∀i p,ps[i]?=some p->J.go i H/\∀x H',J.yld i H x H'->FE H H'/\Rep b.C (Bs b FV) H' x p)/\J.stop ps.length H
def tMI (b:BX)(G:oz)(fr:Bool)(g:Env->Option (List PV)):TI:=fun σ H R=>∃Ow env ps,ER b Ow G σ env H/\g env=some ps/\∀J H1,FE H H1->IW b Ow fr H1 J ps->R J H1
abbrev SI (X:Cx)(b:BX)(G:oz)(fr:Bool)(tg it:Expr)(g:Env->Option (List PV)):Prop:=PI X tg it (tMI b G fr g)
theorem PI.imp {tg it:Expr}{t u:TI}(h:PI X tg it t)(i:∀ σ H R,u σ H R->t σ H R):PI X tg it u:=λFs s σ H R I q=>h Fs s σ H R I (i σ H R q)
theorem PI.or {tg it:Expr}{t u:TI}(h:PI X tg it t)(h':PI X tg it u):PI X tg it (fun σ H R=>t σ H R\/u σ H R):=λFs s σ H R I q=>q.elim (h Fs s σ H R I) (h' Fs s σ H R I)
noncomputable def P7 (x:Str):List PV:=x.cps.toList.map λc=>.str ⟨#[c]⟩
@[simp] noncomputable def MI:PV->Option (List PV)
 | .lst xs=>some xs
 | .frz xs=>some xs
 | .tup xs=>some xs
 | .ktp xs=>some xs
 | .str x=>some (P7 x)
 | _=>none
noncomputable def iV (f:pc)(env:Env):Option (List PV):=(f env).bind MI
@[simp] theorem XQ (f:pc)(env:Env):iV f env=((f env).bind MI):=id rfl
theorem Am {Ow:Addr->Prop}{fr:Bool}{H1:Hp}{a:Addr}{vs:List V}{xs:List PV}(hq:∀FV H,(fr=false->FE H1 H)->Ex (Bs b Ow) H1 (Bs b FV) H->F7 b.C.K H a vs/\FA b.C (Bs b FV) H vs xs):IW b Ow fr H1 (Itl b.C.K a) xs:=by
 intro FV H h0 h1 hn
 obtain⟨q,r⟩:=hq FV H h0 h1
 refine⟨λi p hp=>?_,⟨vs,q,by rw[r.length];exact aw _⟩⟩
 obtain⟨v,hv,rv⟩:=r.get hp
 refine⟨⟨vs,v,q,hv⟩,λx H' y=>?_⟩
 obtain⟨e,y⟩:=y
 subst e
 have e2:=y vs q
 rw[hv] at e2
 cases e2
 exact⟨FE.refl _,rv⟩
theorem Mh {Ow:Addr->Prop}{fr:Bool}{H1:Hp}{a:Addr}{vs:List V}{xs:List PV}(hq:∀FV H,(fr=false->FE H1 H)->Ex (Bs b Ow) H1 (Bs b FV) H->LD b.C.K H a vs/\FA b.C (Bs b FV) H vs xs):IW b Ow fr H1 (Itt b.C.K a) xs:=by
 intro FV H h0 h1 hn
 obtain⟨q,r⟩:=hq FV H h0 h1
 refine⟨λi p hp=>?_,⟨vs,q,by rw[r.length];exact aw _⟩⟩
 obtain⟨v,hv,rv⟩:=r.get hp
 refine⟨⟨vs,v,q,hv⟩,λx H' y=>?_⟩
 obtain⟨e,y⟩:=y
 subst e
 have e2:=y vs q
 rw[hv] at e2
 cases e2
 exact⟨FE.refl _,rv⟩
theorem Vq {Ow:Addr->Prop}{fr:Bool}{H1:Hp}{x:Str}:IW b Ow fr H1 (NF x) (P7 x):=by
 intro FV H h0 h1 hn
 refine⟨λi p hp=>?_,by show (P7 x).length=x.cps.size;unfold P7;rw[ae,ci]⟩
 unfold P7 at hp
 rw[a6] at hp
 cases q:x.cps.toList[i]? with
 | none=>rw[q] at hp;cases hp
 | some c=>
  rw[q] at hp
  cases hp
  have hc:x.cps[i]?=some c:=by rw[← g5];exact q
  refine⟨(Array.getElem?_eq_some_iff.mp hc).1,λv H' y=>?_⟩
  obtain⟨e,c',h',ev⟩:=y
  subst e
  rw[hc] at h'
  cases h'
  subst ev
  exact⟨FE.refl _,.str _⟩
theorem bU {tg:Expr}{fr:Bool}(he:SE X b G m e h)(hm:autoParam (fr=true->m≠.bor) r11_)(hK:autoParam (X.K=b.C.K) r0_):SI X b G fr tg e (iV h):=by
 have hPI:=PI.or (tg:=tg) (PI.or (QX he) (Ue he)) (U4 he)
 refine PI.imp hPI ?_
 rintro σ H R ⟨Ow,env,ps,E,hg,k⟩
 rw[hK]
 obtain⟨p,hp,IQ⟩:=aC hg
 have keep:∀{H1 FV H2}{v:V},FE H H1->Res b Ow H H1 m v p->(fr=false->FE H1 H2)->Ex (Bs b Ow) H1 (Bs b FV) H2->FF b.C (Bs b FV) H2 v p:=λ{H1 FV H2 v} s r h0 h1=>by
  cases fr with
  | false=>exact FF.ex h1 (h0 rfl) r.bor
  | true=>exact .inl (Rep.ex h1 (r.val E (hm rfl)))
 unfold MI at IQ
 split at IQ
 ·cases IQ
  refine .inl (.inl ⟨Ow,env,_,E,hp,λv H1 s r=>?_⟩)
  have r1:FF b.C (Bs b Ow) H1 v (.lst _):=r.bor
  obtain⟨a,vs,rfl,ha,ra⟩:=r1.lst
  refine⟨a,rfl,⟨vs,F7.of ha⟩,k _ _ s (Am (vs:=vs) λFV H2 h0 h1=>?_)⟩
  obtain⟨a',vs',e',ha',ra'⟩:=(keep s r h0 h1).lst
  cases e'
  have:H2 a=some (.lst vs):=by
   cases fr with
   | false=>exact h0 rfl _ _ ha
   | true=>
    have rv:Rep b.C (Bs b Ow) H1 (.ref a) (.lst _):=r.val E (hm rfl)
    cases rv with
    | lst q1 q2 q3=>rw[ha] at q1;cases q1;exact((h1 _ _ ha).1 q2).1
  rw[ha'] at this
  cases this
  exact⟨F7.of ha',ra'⟩
 ·cases IQ
  refine .inl (.inl ⟨Ow,env,_,E,hp,λv H1 s r=>?_⟩)
  have r1:Rep b.C (Bs b Ow) H1 v (.frz _):=(by rcases r.bor with z | ⟨_,_,z⟩;exact z;exact z.elim)
  cases r1 with
  | QY q1 q3=>exact⟨_,rfl,⟨_,.inl (.inr ⟨_,q1⟩)⟩,k _ _ s (Am λFV H2 h0 h1=>⟨.inl (.inr ⟨_,(h1 _ _ q1).2 rfl⟩),q3.ex h1⟩)⟩
  | lstK q1 q3=>exact⟨_,rfl,⟨_,sqK q1⟩,k _ _ s (Am λFV H2 h0 h1=>⟨sqK q1,q3.ex h1⟩)⟩
 ·cases IQ
  refine .inl (.inr ⟨Ow,env,_,E,hp,λv H1 s r=>?_⟩)
  have r1:FF b.C (Bs b Ow) H1 v (.tup _):=r.bor
  obtain⟨a,vs,rfl,ha,ra⟩:=r1.tup
  exact⟨a,rfl,⟨vs,ha.sq⟩,k _ _ s (Mh (vs:=vs) λFV H2 h0 h1=>⟨(ha.ex h1).sq,ra.ex h1⟩)⟩
 ·cases IQ
  refine .inl (.inr ⟨Ow,env,_,E,hp,λv H1 s r=>?_⟩)
  have r1:FF b.C (Bs b Ow) H1 v (.ktp _):=r.bor
  rcases r1 with r1 | ⟨_,_,t⟩
  ·cases r1 with
   | tupK q1 q3=>exact⟨_,rfl,⟨_,ym q1⟩,k _ _ s (Mh λFV H2 h0 h1=>⟨ym q1,q3.ex h1⟩)⟩
  ·exact t.elim
 ·cases IQ
  refine .inr ⟨Ow,env,_,E,hp,λv H1 s r=>?_⟩
  have r1:FF b.C (Bs b Ow) H1 v (.str _):=r.bor
  exact⟨_,r1.str,k _ _ s Vq⟩
 ·cases IQ
noncomputable def MW (i:Int):Bool:=@decide (-4611686018427387904<=i/\i < 4611686018427387904) (Classical.propDecidable _)
theorem HZ {i:Int}(h:-4611686018427387904<=i)(h':i < 4611686018427387904):MW i=true:=@br _ (Classical.propDecidable _) ⟨h,h'⟩
theorem tZ {i:Int}(h:MW i=true):-(2 ^ 62)<=i/\i < 2 ^ 62:=by
 simp only[MW,hJ] at h
 exact h
noncomputable def dO (lo hi:Int):List PV:=(List.range (hi - lo).toNat).map λi=>.int (lo+(i:Nat))
noncomputable def RF (f:pc)(env:Env):Option (List PV):=(f env).bind λp=>match p with
 | .int j=>if MW j=true then some (dO 0 j) else none
 | _=>none
@[simp] theorem ZG (f:pc)(env:Env):RF f env=((f env).bind λp=>match p with
 | .int j=>if MW j=true then some (dO 0 j) else none
 | _=>none):=id rfl
noncomputable def iR2 (f g:pc)(env:Env):Option (List PV):=(f env).bind λp=>(g env).bind λq=>match p,q with
 | .int i,.int j=>if (MW i&&MW j)=true then some (dO i j) else none
 | _,_=>none
@[simp] theorem Vr (f g:pc)(env:Env):iR2 f g env=((f env).bind λp=>(g env).bind λq=>match p,q with
 | .int i,.int j=>if (MW i&&MW j)=true then some (dO i j) else none
 | _,_=>none):=id rfl
theorem Mi {Ow:Addr->Prop}{fr:Bool}{H1:Hp}{lo hi:Int}:IW b Ow fr H1 (Itr lo (hi - lo).toNat) (dO lo hi):=by
 intro FV H h0 h1 hn
 have hl:(dO lo hi).length=(hi - lo).toNat:=by unfold dO;rw[ae,eA]
 refine⟨λi p hp=>?_,by show (hi - lo).toNat<=(dO lo hi).length;rw[hl];exact aw _⟩
 have LY:i < (hi - lo).toNat:=by rw[← hl];exact(av.mp hp).1
 refine⟨LY,λx H' y=>?_⟩
 obtain⟨e,ex⟩:=y
 subst e ex
 unfold dO at hp
 rw[a6,dL LY] at hp
 cases hp
 exact⟨FE.refl _,.int _⟩
theorem oZ {tg:Expr}{fr:Bool}{p pos:Pos}(hm:X.mg "range" = none)(he:SE X b G m e h)(hg:Gl X "range" := by rfl)(hs:autoParam (starEach [e] X.env=[(false,eval e X.env)]) r0_)(MM:autoParam (starEach [e] X.env=(false,eval e X.env)::starEach [] X.env) r0_):SI X b G fr tg (.Call (.Name "range" p) [e] [] pos) (RF h):=by
 refine PI.imp (K3 hg hm (bW he.bor dJ MM) hs) ?_
 rintro σ H R ⟨Ow,env,ps,E,hf,k⟩
 obtain⟨p1,hp,IQ⟩:=aC hf
 refine⟨Ow,env,p1,E,hp,λv H1 s r=>?_⟩
 have r1:FF b.C (Bs b Ow) H1 v p1:=r
 cases p1 <;> simp only at IQ <;> first | cases IQ | skip
 rename_i j
 split at IQ
 ·rename_i hj
  cases IQ
  have hw:IW b Ow fr H1 (Itr 0 (j - 0).toNat) (dO 0 j):=Mi
  rw[Int.sub_zero] at hw
  exact⟨j,by rw[r1.int],(tZ hj).1,(tZ hj).2,k _ _ s hw⟩
 ·cases IQ
theorem QD {tg:Expr}{fr:Bool}{p pos:Pos}(hm:X.mg "range" = none)(he:SE X b G m1 e1 h1)(Sf:SE X b G m2 e2 h2)(hg:Gl X "range" := by rfl)(hs:autoParam (starEach [e1,e2] X.env=[(false,eval e1 X.env),(false,eval e2 X.env)]) r0_)(Kn:autoParam (starEach [e2] X.env=[(false,eval e2 X.env)]) r0_)
  (MM:autoParam (starEach [e1,e2] X.env=(false,eval e1 X.env)::starEach [e2] X.env) r0_) (hs2':autoParam (starEach [e2] X.env=(false,eval e2 X.env)::starEach [] X.env) r0_):SI X b G fr tg (.Call (.Name "range" p) [e1,e2] [] pos) (iR2 h1 h2):=by
 refine PI.imp (K4 hg hm (bW he.bor (bW Sf.bor dJ hs2') MM) hs Kn) ?_
 rintro σ H R ⟨Ow,env,ps,E,hf,k⟩
 obtain⟨p1,hp,S0⟩:=aC hf
 clear hf
 obtain⟨p2,O0,IQ⟩:=aC S0
 clear S0
 refine⟨Ow,env,p1,E,hp,λv H1 s r=>⟨Ow,env,p2,E.up s,O0,λv2 H2 s2 r2=>?_⟩⟩
 have r1:FF b.C (Bs b Ow) H1 v p1:=r
 have Of:FF b.C (Bs b Ow) H2 v2 p2:=r2
 cases p1 <;> cases p2 <;> simp only at IQ <;> first | cases IQ | skip
 rename_i i j
 split at IQ
 ·rename_i hj
  cases IQ
  exact⟨i,j,by rw[r1.int,Of.int],(by rw[cm] at hj;exact⟨(tZ hj.1).1,(tZ hj.1).2,(tZ hj.2).1,(tZ hj.2).2⟩),k _ _ (s.trans s2) Mi⟩
 ·cases IQ
noncomputable def jO (n:Nat):List PV->List PV
 | []=>[]
 | x::xs=>.tup [.int (n:Nat),x]::jO (n+1) xs
theorem Cm {p:PV}:∀{xs:List PV}{n i:Nat},(jO n xs)[i]?=some p->∃x,xs[i]?=some x/\p=.tup [.int ((n+i:Nat):Int),x]
 | [],n,i,e=>by simp[jO] at e
 | x::xs,n,0,e=>by
  simp[jO] at e
  exact⟨x,rfl,by rw[← e];rfl⟩
 | x::xs,n,i+1,e=>by
  simp only[jO,c6] at e
  obtain⟨y,h1,h2⟩:=Cm e
  exact⟨y,by simpa using h1,by rw[h2,Nat.add_right_comm,Nat.add_assoc]⟩
theorem vM:∀{xs:List PV}{n:Nat},(jO n xs).length=xs.length
 | [],_=>rfl
 | x::xs,n=>by simp[jO,vM (xs:=xs)]
end
noncomputable def gN (i:Nat)(p:PV)(env:Env):Option Env:=some (env.set i (some p))
@[simp] theorem Z3 (i:Nat)(p:PV)(env:Env):gN i p env=(some (env.set i (some p))):=id rfl
@[simp] noncomputable def gNs:List Nat->List PV->Env->Option Env
 | [],[],env=>some env
 | i::is,p::ps,env=>gNs is ps (env.set i (some p))
 | _,_,_=>none
noncomputable def gT (is:oz)(p:PV)(env:Env):Option Env:=match p with
 | .tup xs=>gNs is xs env
 | _=>none
@[simp] theorem Z4 (is:oz)(p:PV)(env:Env):gT is p env=(match p with
 | .tup xs=>gNs is xs env
 | _=>none):=id rfl
def tMG (b:BX)(G:oz)(g:PV->Env->Option Env):TG:=λv σ H Q=>∃Ow env p env',ER b Ow G σ env H/\Rep b.C (Bs b Ow) H v p/\g p env=some env'/\∀ σ',ER b Ow G σ' env' H->Q σ' H
def YQ (b:BX)(G:oz)(is:oz):XT:=λvs σ H Q=>∃Ow env ps env',ER b Ow G σ env H/\FA b.C (Bs b Ow) H vs ps/\gNs is ps env=some env'/\∀ σ',ER b Ow G σ' env' H->Q σ' H
abbrev SG (X:Cx)(b:BX)(G:oz)(tg:Expr)(g:PV->Env->Option Env):Prop:=PG X tg (tMG b G g)
abbrev SGs (X:Cx)(b:BX)(G:oz)(tgs:oI)(is:oz):Prop:=XU X tgs (YQ b G is)
theorem PG.imp {X:Cx}{tg:Expr}{t u:TG}(h:PG X tg t)(i:∀v σ H Q,u v σ H Q->t v σ H Q):PG X tg u:=λFs s σ H v w Q I r q=>h Fs s σ H v w Q I r (i v σ H Q q)
theorem XU.imp {X:Cx}{tg:oI}{t u:XT}(h:XU X tg t)(i:∀v σ H Q,u v σ H Q->t v σ H Q):XU X tg u:=λFs s σ H v w Q I r q=>h Fs s σ H v w Q I r (i v σ H Q q)
section
variable {X:Cx}{b:BX}{G G' L:oz}{ro:Bool}{pos:Pos}
theorem d9 (i:Nat){x:Str}(nd:X.N.Nodup)(hG:autoParam (i∉G) r1_)(hx:autoParam (b.fx i=none) r6_)(hi:autoParam (X.N[i]?=some x) r0_)(hl:autoParam (Loc X.env.scope x) r7_)
  (hf:autoParam (X.fn x=true\/X.env.scope.names.lookup x=some .local) r2_):SG X b G (.Name x pos) (gN i):=
 PG.imp (Ab nd hi hl hf)<|by rintro v σ H Q ⟨Ow,env,p,env',E,r,e,k⟩;cases e;exact k _ (E.set hG r hx)
theorem mj:SGs X b G [] []:=XU.imp jL<|by
 rintro vs σ H Q ⟨Ow,env,ps,env',E,r,e,k⟩
 cases ps with
 | nil=>cases r;cases e;exact⟨rfl,k σ E⟩
 | cons p ps=>cases e
theorem cP (i:Nat){x:Str}{es:oI}{is:oz}{p1:Pos}(nd:X.N.Nodup)(h2:SGs X b G es is)(hG:autoParam (i∉G) r1_)(hx:autoParam (b.fx i=none) r6_)(hi:autoParam (X.N[i]?=some x) r0_)(hl:autoParam (Loc X.env.scope x) r7_)
  (hf:autoParam (X.fn x=true\/X.env.scope.names.lookup x=some .local) r2_) (hs:autoParam ((assignEach (.Name x p1::es) X.env).map (·.2)=assign (.Name x p1) X.env::(assignEach es X.env).map (·.2)) r0_):SGs X b G (.Name x p1::es) (i::is):=
 XU.imp (cH (Ab nd hi hl hf) h2 hs)<|by
  rintro vs σ H Q ⟨Ow,env,ps,env',E,r,e,k⟩
  cases ps with
  | nil=>cases e
  | cons p ps=>
   cases r with
   | cons r1 r2=>exact⟨_,_,rfl,Ow,env.set i (some p),ps,env',E.set hG r1 hx,r2,e,k⟩
theorem An:∀{is:oz}{ps:List PV}{env env':Env},gNs is ps env=some env'->ps.length=is.length
 | [],[],_,_,_=>rfl
 | i::is,p::ps,env,env',e=>by simp[An (is:=is) (ps:=ps) e]
 | [],_::_,_,_,e=>by cases e
 | _::_,[],_,_,e=>by cases e
theorem vN {es:oI}{k:Nat}{is:oz}(h:SGs X b G es is)(hc:autoParam (X.calm=true) r0_)(hn:autoParam ((assignEach es X.env).length=is.length) r0_)(PY:autoParam ((assignEach es X.env).findIdx? (·.1)=none) r0_)(hK:autoParam (X.K=b.C.K) r0_):SG X b G (.Tuple es k pos) (gT is):=
 PG.imp (mF hc h hn PY)<|by
  rintro v σ H Q ⟨Ow,env,p,env',E,r,e,k⟩
  cases p <;> simp only[gT] at e <;> first | cases e | skip
  rename_i xs
  obtain⟨a,vs,rfl,ha,ra⟩:=FF.tup (.inl r)
  rw[hK]
  exact⟨a,vs,rfl,ha.sq,by rw[ra.length];exact An e,Ow,env,xs,env',E,ra,e,k⟩
noncomputable def bw (g:PV->Env->Option Env)(ds:oz)(body:Env->Option Out):List PV->Env->Option Out
 | [],env=>some (.nx env)
 | x::xs,env=>(g x env).bind λe1=>(body e1).bind λo=>match o with
  | .nx e=>bw g ds body xs (IX ds e)
  | .ct e=>bw g ds body xs (IX ds e)
  | .bk e=>some (.nx (IX ds e))
  | .rt p=>some (.rt p)
noncomputable def cQ (g:PV->Env->Option Env)(src:Env->Option (List PV))(ds:oz)(body:Env->Option Out)(env:Env):Option Out:=(src env).bind λxs=>bw g ds body xs (IX ds env)
@[simp] theorem Ry (g:PV->Env->Option Env)(src:Env->Option (List PV))(ds:oz)(body:Env->Option Out)(env:Env):cQ g src ds body env=((src env).bind λxs=>bw g ds body xs (IX ds env)):=id rfl
theorem cg {tg it:Expr}{body:oC}{g:PV->Env->Option Env}{src:Env->Option (List PV)}{f:Env->Option Out}(ds:oz)(hi:SI X b G true tg it src)(hg:SG X b G tg g)(hb:Pm X b G G G ro body f)(hp:PassesOwn (model X.prog X.w) X.A X.env X.xe)(hc:autoParam (X.calm=true) r0_)
  (hs:autoParam (∀x,foldedSetIterable it X.env x=pure x) r4_):SS X b G G L ro (.For tg it body [] pos) (cQ g src ds f):=by
 refine PS.imp (K6 hp hc hi hg hb hs) ?_
 rintro D σ H ⟨Ow,env,out,E,hf,k⟩
 obtain⟨ps,IQ,hl⟩:=aC hf
 refine⟨Ow,env,ps,E,IQ,λJ H1 s1 iw=>?_⟩
 refine⟨λi m σ2 H2=>m=ps.length - i/\i<=ps.length/\∃IU IH,ER b IU G σ2 IH H2/\Ex (Bs b Ow) H1 (Bs b IU) H2/\bw g ds f (ps.drop i) IH=some out,⟨ps.length,by simp,da _,Ow,IX ds env,(E.up s1).IX,Ex.refl _ _,by simpa using hl⟩,?_⟩
 rintro i m σ2 H2 ⟨rfl,hi,IU,IH,E2,x2,l2⟩
 obtain⟨w1,w2⟩:=iw IU H2 (λz=>by cases z) x2 λa=>E2.fresh
 have xk:Ex (Bs b Ow) H (Bs b IU) H2:=(Ex.of_same s1).trans x2
 by_cases IT:i < ps.length
 ·rw[eT IT] at l2
  obtain⟨e1,he1,l2⟩:=aC l2
  obtain⟨o,ho,l2⟩:=aC l2
  obtain⟨g1,g2⟩:=w1 i ps[i] (ah IT)
  refine .inr ⟨g1,fun σ' H'=>i+1<=ps.length/\∃IU IH,ER b IU G σ' IH H'/\Ex (Bs b Ow) H1 (Bs b IU) H'/\bw g ds f (ps.drop (i+1)) IH=some out,fun σ' H' q=>⟨ps.length - (i+1),by omega,rfl,q⟩,λx H' y=>?_⟩
  obtain⟨s3,r3⟩:=g2 x H' y
  refine⟨IU,IH,_,e1,E2.up s3,r3,he1,fun σ3 E3=>⟨IU,e1,o,E3,ho,?_⟩⟩
  cases o with
  | nx e'=>exact λFV σ' Q1 E' x'=>⟨IT,FV,_,E'.IX,x2.trans ((Ex.of_same s3).trans x'),l2⟩
  | ct e'=>exact λFV σ' Q1 E' x'=>⟨IT,FV,_,E'.IX,x2.trans ((Ex.of_same s3).trans x'),l2⟩
  | bk e'=>cases l2;exact λFV σ' Q1 E' x'=>k FV σ' Q1 E'.IX (xk.trans ((Ex.of_same s3).trans x'))
  | rt p=>cases l2;exact k
 ·have e:i=ps.length:=by omega
  subst e
  rw[l7] at l2
  cases l2
  exact .inl ⟨w2,k IU σ2 H2 E2 xk⟩
noncomputable def jP (c:Env->Option Bool)(ds:oz)(body:Env->Option Out):Nat->Env->Option Out
 | 0,_=>none
 | n+1,env=>(c env).bind λk=>if k=true then (body env).bind λo=>match o with
   | .nx e=>jP c ds body n (IX ds e)
   | .ct e=>jP c ds body n (IX ds e)
   | .bk e=>some (.nx (IX ds e))
   | .rt p=>some (.rt p)
  else some (.nx env)
noncomputable def Fo (n:Nat)(c:Env->Option Bool)(ds:oz)(body:Env->Option Out)(env:Env):Option Out:=jP c ds body n (IX ds env)
@[simp] theorem Yl (n:Nat)(c:Env->Option Bool)(ds:oz)(body:Env->Option Out)(env:Env):Fo n c ds body env=(jP c ds body n (IX ds env)):=id rfl
theorem Rz {c:Expr}{body:oC}{t:Env->Option Bool}{f:Env->Option Out}(n:Nat)(ds:oz)(hc:ST X b G c t)(hb:Pm X b G G G ro body f)(hp:PassesOwn (model X.prog X.w) X.A X.env X.xe):SS X b G G L ro (.While c body [] pos) (Fo n t ds f):=by
 refine PS.imp (NB hp hc hb) ?_
 rintro D σ H ⟨Ow,env,out,E,hf,k⟩
 refine⟨λm σ2 H2=>∃IU IH,ER b IU G σ2 IH H2/\Ex (Bs b Ow) H (Bs b IU) H2/\jP t ds f m IH=some out,⟨n,Ow,IX ds env,E.IX,Ex.refl _ _,hf⟩,?_⟩
 rintro m σ2 H2 ⟨IU,IH,E2,x2,l2⟩
 cases m with
 | zero=>cases l2
 | succ m=>
  obtain⟨kk,hk,l2⟩:=aC l2
  refine⟨IU,IH,kk,E2,hk,λH3 s3=>?_⟩
  cases kk with
  | false=>cases l2;exact Jp (k IU σ2 H3 (E2.up s3) (x2.trans (.of_same s3)))
  | true=>
   refine Jq ⟨fun σ' H'=>∃IU IH,ER b IU G σ' IH H'/\Ex (Bs b Ow) H (Bs b IU) H'/\jP t ds f m IH=some out,fun σ' H' q=>⟨m,gy m,q⟩,?_⟩
   obtain⟨o,ho,l2⟩:=aC l2
   refine⟨IU,IH,o,E2.up s3,ho,?_⟩
   cases o with
   | nx e'=>exact λFV σ' Q1 E' x'=>⟨FV,_,E'.IX,x2.trans ((Ex.of_same s3).trans x'),l2⟩
   | ct e'=>exact λFV σ' Q1 E' x'=>⟨FV,_,E'.IX,x2.trans ((Ex.of_same s3).trans x'),l2⟩
   | bk e'=>cases l2;exact λFV σ' Q1 E' x'=>k FV σ' Q1 E'.IX (x2.trans ((Ex.of_same s3).trans x'))
   | rt p=>cases l2;exact k
end
noncomputable def pU (FH:List (Option Nat))(env:Env):Env:=FH.map λo=>match o with | some i=>(env[i]?).getD none | none=>none
@[simp] theorem Zi (FH:List (Option Nat))(env:Env):pU FH env=(FH.map λo=>match o with | some i=>(env[i]?).getD none | none=>none):=id rfl
noncomputable def lJ (FH:List (Option Nat))(G:oz):List Nat:=(List.range FH.length).filter λj=>match FH[j]? with | some (some i)=>decide (i∈G) | _=>false
def BX.in (b:BX):BX:={ b with fx:=λ_=>none }
noncomputable def bR (env:Env)(g:PV->Env->Option Env)(t:Env->Option Bool)(f:pc):List PV->Option (List PV)
 | []=>some []
 | x::xs=>(g x env).bind λe=>(t e).bind λk=>if k=true then (f e).bind λy=>(bR env g t f xs).bind λys=>some (y::ys) else bR env g t f xs
noncomputable def bF (FH:List (Option Nat))(src:Env->Option (List PV))(g:PV->Env->Option Env)(t:Env->Option Bool)(f:pc)(env:Env):Option PV:=(src env).bind λxs=>if xs.length<=1000000 then (bR (pU FH env) g t f xs).bind λys=>some (.lst ys) else none
@[simp] theorem O2 (FH:List (Option Nat))(src:Env->Option (List PV))(g:PV->Env->Option Env)(t:Env->Option Bool)(f:pc)(env:Env):bF FH src g t f env=((src env).bind λxs=>if xs.length<=1000000 then (bR (pU FH env) g t f xs).bind λys=>some (.lst ys) else none):=id rfl
noncomputable def bG (env:Env):Option Bool:=some true
@[simp] theorem YS (env:Env):bG env=(some true):=id rfl
theorem KL {FH:List (Option Nat)}{G:oz}{j:Nat}:j∈lJ FH G↔∃i,FH[j]?=some (some i)/\i∈G:=by
 unfold lJ
 rw[dy,bS]
 constructor
 ·rintro ⟨h1,h2⟩
  split at h2
  ·rename_i i e;exact⟨i,e,by simpa using h2⟩
  ·cases h2
 ·rintro ⟨i,e,h⟩
  refine⟨(av.mp e).1,?_⟩
  rw[e];simpa using h
theorem uH {FH:List (Option Nat)}{env:Env}{j:Nat}{p:PV}(h:(pU FH env)[j]?=some (some p)):∃i,FH[j]?=some (some i)/\env[i]?=some (some p):=by
 unfold pU at h
 rw[a6] at h
 cases q:FH[j]? with
 | none=>rw[q] at h;cases h
 | some o=>
  rw[q] at h
  cases o with
  | none=>cases h
  | some i=>
   refine⟨i,rfl,?_⟩
   have h':(env[i]?).getD none=some p:=by simpa using h
   cases q2:env[i]? with
   | none=>rw[q2] at h';cases h'
   | some o=>rw[q2] at h';simp at h';rw[h']
theorem sr {FH:List (Option Nat)}{σ:St}{j i:Nat}{v:V}(h:FH[j]?=some (some i))(e:σ[i]?=some (some v)):(gw FH σ)[j]?=some (some v):=by
 unfold gw
 rw[a6,h]
 simp[Fd,e]
noncomputable def t6 (FH:List (Option Nat)):Bool:=(List.range FH.length).all λj=>(List.range FH.length).all λk=>match FH[j]?,FH[k]? with
 | some (some i),some (some i')=>decide (i=i'->j=k)
 | _,_=>true
theorem Mj {FH:List (Option Nat)}(h:t6 FH=true){j k i:Nat}(h1:FH[j]?=some (some i))(h2:FH[k]?=some (some i)):j=k:=by
 have a:=eg.mp h j (bS.mpr (av.mp h1).1)
 have c:=eg.mp a k (bS.mpr (av.mp h2).1)
 rw[h1,h2] at c
 simpa using c
theorem ER.FH {b:BX}{Ow:Addr->Prop}{G:oz}{σ:St}{env:Env}{H:Hp}{FH:List (Option Nat)}(E:ER b Ow G σ env H)(hc:t6 FH=true):ER b.in Ow (lJ FH G) (gw FH σ) (pU FH env) H:=by
 refine⟨by unfold gw pU;rw[ae,ae],E.same,E.live,E.new,λj p e n=>?_,λj p e n=>?_,λj k a p q e1 n1 s1 e2 n2 s2=>?_,λk v z=>by cases z⟩
 ·obtain⟨i,h1,h2⟩:=uH e
  obtain⟨v,h3,h4⟩:=E.val i p h2 λz=>n (KL.mpr ⟨i,h1,z⟩)
  exact⟨v,sr h1 h3,h4⟩
 ·obtain⟨i,h1,h2⟩:=uH e
  obtain⟨i',ZI,hG⟩:=KL.mp n
  rw[h1] at ZI;cases ZI
  obtain⟨a,h3,h4,h5⟩:=E.own i p h2 hG
  exact⟨a,sr h1 h3,h4,h5⟩
 ·obtain⟨i,h1,h2⟩:=uH e1
  obtain⟨i',ZI,hG⟩:=KL.mp n1
  rw[h1] at ZI;cases ZI
  obtain⟨k',h3,h4⟩:=uH e2
  obtain⟨k'',h3',hG2⟩:=KL.mp n2
  rw[h3] at h3';cases h3'
  obtain⟨c,g1,_,_⟩:=E.own i p h2 hG
  obtain⟨c2,g2,_,_⟩:=E.own k' q h4 hG2
  have t1:=sr (FH:=FH) h1 g1
  have t2:=sr (FH:=FH) h3 g2
  rw[s1] at t1;cases t1
  rw[s2] at t2;cases t2
  have:=E.sep i k' _ p q h2 hG g1 h4 hG2 g2
  subst this
  exact Mj hc h1 h3
theorem ER.more {b:BX}{Ow:Addr->Prop}{G:oz}{σ:St}{env:Env}{H H':Hp}{D:Addr}(E:ER b Ow G σ env H)(hD:H D=none)(s:FE H H')(hl:∃o,H' D=some o):ER b (λc=>Ow c\/c=D) G σ env H'/\Ex (Bs b Ow) H (Bs b λc=>Ow c\/c=D) H':=by
 have hx:Ex (Bs b Ow) H (Bs b λc=>Ow c\/c=D) H':=λc o h=>⟨λq=>⟨s _ _ h,λz=>z.elim q.1 (bz h hD),q.2⟩,λ_=>s _ _ h⟩
 exact⟨⟨E.len,E.same.trans s,λc w=>w.elim (λz=>let ⟨o,h⟩:=E.live c z;⟨o,s _ _ h⟩) λz=>by subst z;exact hl,λc w=>w.elim (E.new c) λz=>by subst z;exact E.same.free hD,λi p e n=>let ⟨v,h1,h2⟩:=E.val i p e n;⟨v,h1,h2.ex hx⟩,
  λi p e n=>let ⟨a,h1,h2,h3⟩:=E.own i p e n;⟨a,h1,.inl h2,h3.ex hx λo z=>s _ _ z⟩,E.sep,E.fix⟩,hx⟩
structure RH (K:W.Frag)(FH:List (Option Nat))(g:TG)(gm:PV->Env->Option Env):Prop where
 go:∀(b:BX) (Ow:Addr->Prop) (G:oz) (σ:St) (env e:Env) (H:Hp) (v:V) (p:PV) (Q:St->Hp->Prop),b.C.K=K->(∀i,b.fx i=none)->ER b Ow (lJ FH G) (gw FH σ) (pU FH env) H->Rep b.C (Bs b Ow) H v p->gm p (pU FH env)=some e->
  (∀ σ',Kp (gw FH σ) σ'->ER b Ow (lJ FH G) σ' e H->Q σ' H)->g v (gw FH σ) H Q
theorem Ml {σ σ':St}{i:Nat}{v:V}(h:Kp σ σ')(hn:∀w,σ[i]?≠some (some w)):Kp σ (σ'.set i (some v)):=by
 refine⟨by rw[dn];exact h.1,λj w e=>?_⟩
 by_cases hj:i=j
 ·subst hj;exact absurd e (hn w)
 ·rw[aI hj];exact h.2 j w e
theorem H_ (σ:St):Kp σ σ:=⟨rfl,λ_ _ e=>e⟩
theorem yX {FH:List (Option Nat)}{σ:St}{i:Nat}(h:FH[i]?=some none)(w:V):(gw FH σ)[i]?≠some (some w):=by
 unfold gw
 rw[a6,h]
 intro z;cases z
theorem Cp {FH:List (Option Nat)}{G:oz}{i:Nat}(h:FH[i]?=some none):i∉lJ FH G:=λz=>by
 obtain⟨k,e,_⟩:=KL.mp z
 rw[h] at e;cases e
theorem eV {K:W.Frag}{FH:List (Option Nat)}(i:Nat)(h:autoParam (FH[i]?=some none) r0_):RH K FH (wO i) (gN i):=
 ⟨λb Ow G σ env e H v p Q hK hx E r he k=>by
  cases he
  exact k _ (Ml (H_ _) (yX h)) (E.set (Cp h) r (hx _))⟩
def Fp:List Nat->XT
 | []=>Ua
 | i::is=>Qp (wO i) (Fp is)
theorem vO {K:W.Frag}{FH:List (Option Nat)}(is:oz)(h:autoParam ((is.all λi=>decide (FH[i]?=some none))=true) r0_):RH K FH (Ub K is.length (Fp is)) (gT is):=
 ⟨λb Ow G σ env e H v p Q hK hx E r he k=>by
  subst hK
  cases p <;> simp only[gT] at he <;> first | cases he | skip
  rename_i xs
  obtain⟨a,vs,rfl,ha,ra⟩:=FF.tup (.inl r)
  refine⟨a,vs,rfl,ha.sq,by rw[ra.length];exact An he,?_⟩
  have gen:∀(is:oz) (vs:List V) (xs:List PV) (σ1:St) (ZN:Env),(is.all λi=>decide (FH[i]?=some none))=true->Kp (gw FH σ) σ1->ER b Ow (lJ FH G) σ1 ZN H->FA b.C (Bs b Ow) H vs xs->gNs is xs ZN=some e->Fp is vs σ1 H Q:=by
   intro is
   induction is with
   | nil=>
    intro vs xs σ1 ZN _ kp E1 r1 e1
    cases xs with
    | nil=>cases r1;cases e1;exact⟨rfl,k σ1 kp E1⟩
    | cons x xs=>cases e1
   | cons i is ih=>
    intro vs xs σ1 ZN ND kp E1 r1 e1
    cases xs with
    | nil=>cases e1
    | cons x xs=>
     cases r1 with
     | cons r2 r3=>
      rw[gX,cm] at ND
      have hi:FH[i]?=some none:=by simpa using ND.1
      exact⟨_,_,rfl,ih _ xs _ _ ND.2 (Ml kp (yX hi)) (E1.set (Cp hi) r2 (hx _)) r3 e1⟩
  exact gen is vs xs _ _ h (H_ _) E ra he⟩
section
variable {X:Cx}{b:BX}{G L:oz}{ro:Bool}{pos:Pos}{tg iter elt:Expr}{ifs:oI}{scope He:Scope}{ON N:oP}{FH:List (Option Nat)}{src:Env->Option (List PV)}{g:TG}{gm:PV->Env->Option Env}{t:Env->Option Bool}{f:pc}
theorem JD {σ:St}{H:Hp}{Q:VK}(tgo:RH b.C.K FH g gm)(hc:t6 FH=true)(h:tM b G .own (bF FH src gm t f) σ H Q):
  DN (tMI b G false src) FH g (tMT b.in (lJ FH G) t) (tM b.in (lJ FH G) .val f) σ H Q:=by
 obtain⟨Ow,env,p,E,hf,k⟩:=h
 obtain⟨xs,hxs,hf⟩:=aC hf
 split at hf
 ·rename_i hlen
  obtain⟨ys,hys,hf⟩:=aC hf
  cases hf
  refine⟨Ow,env,xs,E,hxs,λJ H1 s1 iw D hD=>?_⟩
  have E1:=E.up s1
  have nD:H D=none:=s1.free hD
  refine⟨λi m vs H2=>m=xs.length - i/\i<=xs.length/\FE H1 H2/\H2 D=some (.lst vs)/\vs.length<=i/\∃done rest,FA b.C (Bs b λc=>Ow c\/c=D) H2 vs done/\bR (pU FH env) gm t f (xs.drop i)=some rest/\done++rest=ys,
   ⟨xs.length,by simp,da _,bI hD _,bx,aw _,[],ys,.nil,by simpa using hys,rfl⟩,?_⟩
  rintro i m vs H2 ⟨rfl,hi,s2,d2,hv,done,rest,rd,cl,P8⟩
  refine⟨d2,?_⟩
  obtain⟨E2,x2⟩:=E1.more hD s2 ⟨_,d2⟩
  obtain⟨w1,w2⟩:=iw _ H2 (λ_=>s2) x2 λa=>E2.fresh
  by_cases IT:i < xs.length
  ·rw[eT IT] at cl
   obtain⟨e1,he1,cl⟩:=aC cl
   obtain⟨kk,hk,cl⟩:=aC cl
   obtain⟨g1,g2⟩:=w1 i xs[i] (ah IT)
   refine .inr ⟨g1,λvs' H'=>i+1<=xs.length/\FE H1 H'/\H' D=some (.lst vs')/\vs'.length<=i+1/\∃done rest,FA b.C (Bs b λc=>Ow c\/c=D) H' vs' done/\bR (pU FH env) gm t f (xs.drop (i+1))=some rest/\done++rest=ys,λvs' H' q=>⟨xs.length - (i+1),by omega,rfl,q⟩,λx H' y=>?_⟩
   obtain⟨s3,r3⟩:=g2 x H' y
   have E3:=(E2.up s3).FH hc
   refine tgo.go b.in _ G σ env e1 H' x _ _ rfl (λ_=>rfl) E3 r3 he1 fun σ3 kp E4=>⟨kp,_,e1,kk,E4,hk,λH4 s4=>?_⟩
   have d4:H4 D=some (.lst vs):=s4 _ _ (s3 _ _ d2)
   have s24:FE H2 H4:=s3.trans s4
   cases kk with
   | false=>
    refine Jp ⟨IT,s2.trans s24,d4,Nat.le_succ_of_le hv,done,rest,rd.ex (.of_same s24),?_,P8⟩
    simpa using cl
   | true=>
    simp only[g9] at cl
    obtain⟨y1,hy1,cl⟩:=aC cl
    obtain⟨ys1,hys1,cl⟩:=aC cl
    cases cl
    refine Jq ⟨_,e1,y1,E4.up s4,hy1,λv5 H5 s5 r5=>⟨s5 _ _ d4,jN (by omega),IT,?_,bx,by rw[ax];show vs.length+1<=i+1;omega,done++[y1],ys1,?_,hys1,by rw[cp];exact P8⟩⟩
    ·exact λc o h=>by rw[aQ (bz h hD)];exact s5 _ _ (s24 _ _ (s2 _ _ h))
    ·have r5':Rep b.C (Bs b λc=>Ow c\/c=D) H5 v5 y1:=r5
     refine((rd.ex (.of_same (s24.trans s5))).append (.cons r5' .nil)).ex ?_
     exact qU (b:=b) (Ow:=λc=>Ow c\/c=D) (.inr rfl) (s5 _ _ d4) rfl
  ·have e:i=xs.length:=by omega
   subst e
   rw[l7] at cl
   cases cl
   rw[cf] at P8
   subst P8
   refine .inl ⟨w2,k _ H2 (s1.trans s2) ⟨D,rfl,nD,vs,d2,rd.ex (cO λc o _ q=>⟨⟨λz=>q.1 (.inl z),q.2⟩,λz=>q.1 (.inr z)⟩)⟩⟩
 ·cases hf
theorem bY {X:Cx}:uD X [] (tMT b G bG):=by rintro Fs s σ H Q I ⟨Ow,env,k,E,hf,kk⟩;cases hf;exact Oi Fs s σ H Q I (kk H (FE.refl _))
theorem cu (S:QU He scope ON N FH)(tgo:RH b.C.K FH g gm)(hi:SI X b G false tg iter src)(hg:∀C s H fp,PG (X.comp N scope C s H fp) tg g)(ht:∀C s H fp,uD (X.comp N scope C s H fp) ifs (tMT b.in (lJ FH G) t))(he:∀C s H fp,SE (X.comp N scope C s H fp) b.in (lJ FH G) .val elt f)
  (hci:autoParam (t6 FH=true) r0_) (hc:autoParam (X.calm=true) r0_) (MU:autoParam (X.env.scope=He) r0_) (hN:autoParam (X.N=ON) r0_) (hs:autoParam (∀x,foldedSetIterable iter X.env x=pure x) r4_):SE X b G .own (.ListComp elt [⟨tg,iter,ifs,0⟩] scope pos) (bF FH src gm t f):=
 PE.imp (Rn S hi hg ht he hc MU hN hs) fun σ H Q h=>JD tgo hci h
theorem mJ (i:Nat){y:Str}{py L1:Pos}(nd:X.N.Nodup)(S:QU He scope ON N FH)(tgo:RH b.C.K FH g gm)(hi:SI X b G false tg iter src)(hg:∀C s H fp,PG (X.comp N scope C s H fp) tg g)(ht:∀C s H fp,uD (X.comp N scope C s H fp) ifs (tMT b.in (lJ FH G) t))(he:∀C s H fp,SE (X.comp N scope C s H fp) b.in (lJ FH G) .val elt f)
  (hG:autoParam (i∉G) r1_) (hx:autoParam (b.fx i=none) r6_) (LY:autoParam (X.N[i]?=some y) r0_) (hy:autoParam (Loc X.env.scope y) r7_) (hci:autoParam (t6 FH=true) r0_)
  (hsw:autoParam (swapsWith (.ListComp elt [⟨tg,iter,ifs,0⟩] scope pos) (some (.Name y py)) L1.line X.env=pure true) r0_)
  (hc:autoParam (X.calm=true) r0_) (MU:autoParam (X.env.scope=He) r0_) (hN:autoParam (X.N=ON) r0_) (hs:autoParam (∀x,foldedSetIterable iter X.env x=pure x) r4_)
  (hf:autoParam (X.fn y=true\/X.env.scope.names.lookup y=some .local) r2_):
  SS X b G G L ro (.Assign [.Name y py] (.ListComp elt [⟨tg,iter,ifs,0⟩] scope pos) L1) (aK i (bF FH src gm t f)):=
 PS.imp (HS S nd LY hy hi hg ht he hsw hc MU hN hs hf) λD σ H q=>JD tgo hci (by
  obtain⟨Ow,env,p,E,hf,k⟩:=Vn hG hx q
  exact⟨Ow,env,p,E,hf,λv H' s r=>k v H' s (r.val E (by intro z;cases z))⟩)
theorem Ia (i:Nat){y:Str}{py L1:Pos}(nd:X.N.Nodup)(S:QU He scope ON N FH)(tgo:RH b.C.K FH g gm)(hi:SI X b G false tg iter src)(hg:∀C s H fp,PG (X.comp N scope C s H fp) tg g)(ht:∀C s H fp,uD (X.comp N scope C s H fp) ifs (tMT b.in (lJ FH G) t))(he:∀C s H fp,SE (X.comp N scope C s H fp) b.in (lJ FH G) .val elt f)
  (hG:autoParam (i∈G) r1_) (hx:autoParam (b.fx i=none) r6_) (LY:autoParam (X.N[i]?=some y) r0_) (hy:autoParam (Loc X.env.scope y) r7_) (hci:autoParam (t6 FH=true) r0_)
  (hsw:autoParam (swapsWith (.ListComp elt [⟨tg,iter,ifs,0⟩] scope pos) (some (.Name y py)) L1.line X.env=pure true) r0_)
  (hc:autoParam (X.calm=true) r0_) (MU:autoParam (X.env.scope=He) r0_) (hN:autoParam (X.N=ON) r0_) (hs:autoParam (∀x,foldedSetIterable iter X.env x=pure x) r4_)
  (hf:autoParam (X.fn y=true\/X.env.scope.names.lookup y=some .local) r2_):
  SS X b G G L ro (.Assign [.Name y py] (.ListComp elt [⟨tg,iter,ifs,0⟩] scope pos) L1) (aK i (bF FH src gm t f)):=
 PS.imp (HS S nd LY hy hi hg ht he hsw hc MU hN hs hf) λD σ H q=>JD tgo hci (QC (λj=>⟨.inl,λz=>z.elim id λy=>y▸hG⟩) hx q)
end
noncomputable def aY (n k:Nat)(ro:Bool)(f:Env->Option Out)(ps:List PV):Option PV:=if ps.length=k then (f (ps.map some++List.replicate (n - k) none)).bind λo=>match o with
 | .nx _=>if ro=true then none else some .FG
 | .rt p=>some p
 | _=>none
 else none
@[simp] theorem Zj (n k:Nat)(ro:Bool)(f:Env->Option Out)(ps:List PV):aY n k ro f ps=(if ps.length=k then (f (ps.map some++List.replicate (n - k) none)).bind λo=>match o with
 | .nx _=>if ro=true then none else some .FG
 | .rt p=>some p
 | _=>none
 else none):=id rfl
theorem O3 {C:MC}{A:Addr->Prop}{H:Hp}{N:oP}{vs:List V}{ps:List PV}{G:oz}(r:FA C A H vs ps)(hG:∀i,i∈G->ps.length<=i)(hn:ps.length<=N.length):ER ⟨C,A,H,λ_=>none⟩ (λ_=>False) G (L2.start N vs) (ps.map some++List.replicate (N.length - ps.length) none) H:=by
 have hl:=r.length
 have old:∀i p,(ps.map some++List.replicate (N.length - ps.length) none)[i]?=some (some p)->ps[i]?=some p:=λi p e=>by
  by_cases hi:i < ps.length
  ·rw[be (by rw[ae];exact hi),a6] at e
   cases q:ps[i]? with
   | none=>rw[q] at e;cases e
   | some p'=>rw[q] at e;cases e;rfl
  ·rw[bt (by rw[ae];omega),iO] at e
   split at e <;> cases e
 refine⟨?_,FE.refl _,λa w=>w.elim,λa w=>w.elim,λi p e n=>?_,λi p e n=>?_,λi j a p q e1 n1 s1 e2 n2 s2=>?_,λk v z=>by cases z⟩
 ·unfold L2.start
  simp only[ax,ae,jS]
  omega
 ·obtain⟨v,hv,rv⟩:=r.get (old i p e)
  refine⟨v,?_,rv.ex (cO λa o _ q=>⟨λz=>z,.inl q⟩)⟩
  unfold L2.start
  have hi:i < vs.length:=(av.mp hv).1
  rw[be (by rw[ae];exact hi),a6,hv]
  rfl
 ·have h1:=(av.mp (old i p e)).1
  have h2:=hG i n
  omega
 ·have h1:=(av.mp (old i p e1)).1
  have h2:=hG i n1
  omega
theorem RD {X:Cx}{C:MC}{N:oP}{n k:Nat}{G G' L:oz}{ro:Bool}{body:oC}{f:Env->Option Out}(hN:N.length=n)(hk:k<=n)(hG:(G.all λi=>decide (k<=i))=true)(hb:∀A H,Pm X ⟨C,A,H,λ_=>none⟩ G G' L ro body f)
  {vs:List V}{H:Hp}{Q:VK}{E:XK}(h:Kx C (aY n k ro f) ro vs H Q E):∃t,LV X body t/\t { nx:=λ_ H'=>Q .FG H',rt:=Q } (L2.start N vs) H:=by
 obtain⟨A,ps,p,r,hm,kk⟩:=h
 refine⟨_,hb A H,?_⟩
 unfold aY at hm
 split at hm
 ·rename_i hl
  obtain⟨o,ho,hm⟩:=aC hm
  refine⟨_,_,o,O3 (N:=N) (G:=G) r (λi hi=>by rw[hl];simpa using eg.mp hG i hi) (by omega),by rw[hN,hl];exact ho,?_⟩
  cases o with
  | nx e=>
   cases ro with
   | true=>cases hm
   | false=>cases hm;exact λFV σ' H' E' _=>kk .FG H' E'.same .FG
  | rt q=>cases hm;exact λv H' s rr=>kk v H' s rr
  | bk e=>cases hm
  | ct e=>cases hm
 ·cases hm
theorem RG {C:MC}{n k:Nat}{f:Env->Option Out}{ro ro':Bool}{vs:List V}{H:Hp}{Q:VK}{E:XK}(h:Kx C (aY n k ro' f) ro vs H Q E):vs.length=k:=by
 obtain⟨A,ps,p,r,hm,kk⟩:=h
 unfold aY at hm
 split at hm
 ·rename_i hl;rw[r.length];exact hl
 ·cases hm
noncomputable def wY (n k c:Nat)(f:Env->Option Out)(ps:List PV):Option (List (Str×PV)):=if ps.length+1=k then (f (some (.obj c [])::(ps.map some++List.replicate (n - k) none))).bind λo=>match o with
 | .nx (some (.obj c' fs)::_)=>if c'=c then some fs else none
 | _=>none
 else none
@[simp] theorem YT (n k c:Nat)(f:Env->Option Out)(ps:List PV):wY n k c f ps=(if ps.length+1=k then (f (some (.obj c [])::(ps.map some++List.replicate (n - k) none))).bind λo=>match o with
 | .nx (some (.obj c' fs)::_)=>if c'=c then some fs else none
 | _=>none
 else none):=id rfl
def spI (C:MC)(c:Nat)(m:List PV->Option (List (Str×PV))):Sp:=λvs H Q _=>∃A ps fs x dx us,vs=.ref x::us/\H x=some (.ins (C.cl c) dx [])/\¬ A x/\FA C A H us ps/\m ps=some fs /\
 ∀H',(∀a o,a≠x->H a=some o->H' a=some o)->Top C (λz=>(A z\/H z=none)/\z≠x) H' x (.obj c fs)->Q .FG H'
theorem RJ {X:Cx}{C:MC}{N:oP}{n k c:Nat}{G G' L:oz}{body:oC}{f:Env->Option Out}(hN:N.length=n)(hk:k<=n)(hG0:0∈G)(hG1:0∈G')(hG:(G.all λi=>decide (i=0\/k<=i))=true)(hb:∀A H x,Pm X ⟨C,A,H,fx0 x⟩ G G' L false body f)
  {vs:List V}{H:Hp}{Q:VK}{E:XK}(h:spI C c (wY n k c f) vs H Q E):∃t,LV X body t/\t { nx:=λ_ H'=>Q .FG H',rt:=Q } (L2.start N vs) H:=by
 obtain⟨A,ps,fs,x,dx,us,rfl,hx,nA,r,hm,kk⟩:=h
 refine⟨_,hb A (λa=>if a=x then none else H a) (.ref x),?_⟩
 unfold wY at hm
 split at hm
 ·rename_i hl
  obtain⟨o,ho,L4⟩:=aC hm
  clear hm
  have hus:=r.length
  have old:∀i p,(ps.map some++List.replicate (n - k) none)[i]?=some (some p)->ps[i]?=some p:=λi p e=>by
   by_cases hi:i < ps.length
   ·rw[be (by rw[ae];exact hi),a6] at e
    cases q:ps[i]? with
    | none=>rw[q] at e;cases e
    | some p'=>rw[q] at e;cases e;rfl
   ·rw[bt (by rw[ae];omega),iO] at e
    split at e <;> cases e
  have low:∀i,i+1∈G->∀p,(ps.map some++List.replicate (n - k) none)[i]?=some (some p)->False:=λi hi p e=>by
   have h1:=(av.mp (old i p e)).1
   have h2:i+1=0\/k<=i+1:=by simpa using eg.mp hG (i+1) hi
   omega
  have E0:ER ⟨C,A,λa=>if a=x then none else H a,fx0 (.ref x)⟩ (λa=>a=x) G (L2.start N (.ref x::us)) (some (.obj c [])::(ps.map some++List.replicate (n - k) none)) H:=by
   refine⟨?_,λa o e=>?_,λa w=>?_,λa w=>?_,λi p e n=>?_,λi p e n=>?_,λi j a p q e1 n1 s1 e2 n2 s2=>?_,λk v z=>?_⟩
   ·unfold L2.start
    simp only[ax,ae,jS,bm]
    omega
   ·have e':(if a=x then none else H a)=some o:=e
    split at e'
    ·cases e'
    ·exact e'
   ·subst w;exact⟨_,hx⟩
   ·subst w;show (if a=a then none else H a)=none;rw[bg rfl]
   ·cases i with
    | zero=>exact absurd hG0 n
    | succ i=>
     rw[c6] at e
     obtain⟨v,hv,rv⟩:=r.get (old i p e)
     refine⟨v,?_,rv.ex (cO λa o _ q=>⟨λz=>nA (z▸q),.inl q⟩)⟩
     have hi:i < us.length:=(av.mp hv).1
     show ((V.ref x::us).map some++_)[i+1]?=_
     rw[ag,ii,c6,be (by rw[ae];exact hi),a6,hv]
     rfl
   ·cases i with
    | zero=>cases e;exact⟨x,rfl,rfl,dx,[],hx,.nil⟩
    | succ i=>exact(low i n p e).elim
   ·cases i with
    | zero=>
     cases j with
     | zero=>rfl
     | succ j=>exact(low j n2 q e2).elim
    | succ i=>exact(low i n1 p e1).elim
   ·cases k with
    | zero=>cases z;rfl
    | succ k=>cases z
  refine⟨_,_,o,E0,ho,?_⟩
  cases o with
  | nx e=>
   cases e with
   | nil=>cases L4
   | cons s0 rest=>
    cases s0 with
    | none=>cases L4
    | some p0=>
     cases p0 <;> simp only at L4 <;> first | cases L4 | skip
     rename_i c' fs'
     split at L4
     ·rename_i PR
      subst PR
      cases L4
      intro FV σ' H' E' _
      obtain⟨a,h1,h2,h3⟩:=E'.own 0 _ rfl hG1
      have h4:=E'.fix 0 (.ref x) rfl
      rw[h1] at h4
      cases h4
      refine kk H' (λa o na e=>E'.same a o (by show (if a=x then none else H a)=some o;rw[ap na];exact e)) (h3.ex (cO λz o _ q=>?_) λo z=>z)
      have nz:z≠x:=λy=>q.1 (y▸h2)
      refine⟨q.2.imp id λy=>?_,nz⟩
      have y':(if z=x then none else H z)=none:=y
      rwa [ap nz] at y'
     ·cases L4
  | rt q=>cases L4
  | bk e=>cases L4
  | ct e=>cases L4
 ·cases hm
theorem RK {C:MC}{n k c c':Nat}{f:Env->Option Out}{vs:List V}{H:Hp}{Q:VK}{E:XK}(h:spI C c' (wY n k c f) vs H Q E):vs.length=k:=by
 obtain⟨A,ps,fs,x,dx,us,rfl,hx,nA,r,hm,kk⟩:=h
 unfold wY at hm
 split at hm
 ·rename_i hl;rw[bm,r.length];exact hl
 ·cases hm
structure CalI (P:Program)(w:World)(K:W.Frag)(mg:Str->Option Value)(base:Heap)(C:Addr)(k:Nat)(x:Str)(ps:oP)(sp:Sp):Prop where
 ex:∃f fd,GY P w K mg base MS k f fd ps sp/\Binds K fd ps []/\Mk K C f/\mg x=some (.ref C)
noncomputable def JF (c:Nat)(m:List PV->Option (List (Str×PV)))(g:Env->Option (List PV))(env:Env):Option PV:=(g env).bind λps=>(m ps).bind λfs=>some (.obj c fs)
@[simp] theorem YW (c:Nat)(m:List PV->Option (List (Str×PV)))(g:Env->Option (List PV))(env:Env):JF c m g env=((g env).bind λps=>(m ps).bind λfs=>some (.obj c fs)):=id rfl
section
variable {X:Cx}{b:BX}{G:oz}{pos p:Pos}{e:Expr}{es:oI}{g:Env->Option (List PV)}
theorem O4 {c:Nat}{mi:List PV->Option (List (Str×PV))}{L:Bool}{σ:St}{H:Hp}{Q:VK}{Ow:Addr->Prop}{env:Env}{qs:List PV}{fs:List (Str×PV)}(E:ER b Ow G σ env H)(q1:g env=some qs)(q2:mi qs=some fs)(hl:L=true->Fl fs=true)
  (kk:∀v H',FE H H'->Res b Ow H H' .own v (.obj c fs)->Q v H'):Qv (b.C.cl c) (spI b.C c mi) [] E0 (tMA b G L g) σ H Q:=by
 refine⟨Ow,env,qs,E,q1,λvs H1 s1 r x dx hx hdx HU=>?_⟩
 rw[cf]
 have s2:FE H1 (upd (upd H1 dx (.own x)) x (.ins (b.C.cl c) dx [])):=λa o h=>by rw[aQ (bz h hx),aQ (bz h hdx)];exact h
 have nw:(upd (upd H1 dx (.own x)) x (.ins (b.C.cl c) dx [])) x=some (.ins (b.C.cl c) dx []):=bx
 refine⟨λa=>ArA b Ow L H1 a/\a≠x,qs,fs,x,dx,vs,rfl,nw,λz=>z.2 rfl,r.ex λa o h=>⟨λq=>⟨s2 _ _ h,q,bz h hx⟩,λ_=>s2 _ _ h⟩,q2,λH' hH t=>⟨rfl,kk _ H' ?_ ⟨x,rfl,s1.free hx,?_⟩⟩⟩
 ·exact λa o h=>hH a o (bz (s1 _ _ h) hx) (s2 _ _ (s1 _ _ h))
 ·obtain⟨dx',f,h1,h2⟩:=t
  refine⟨dx',f,h1,?_⟩
  have keep:∀a o,H1 a=some o->H' a=some o:=λa o h=>hH a o (bz h hx) (s2 _ _ h)
  have old:∀a,(upd (upd H1 dx (.own x)) x (.ins (b.C.cl c) dx [])) a=none->H1 a=none:=λa h=>s2.free h
  cases L with
  | false=>exact h2.ex (cO λz o _ q=>⟨q.1.elim (λy=>y.1.elim id λy'=>by cases y'.1) λy=>(E.up s1).fresh (old z y),q.2⟩)
  | true=>
   refine h2.nl (λa o ha z=>?_) (hl rfl)
   rcases z with ⟨(⟨z | ⟨_,us,z⟩,_⟩ | z),nz⟩
   ·exact .inl ⟨z,nz⟩
   ·have:=keep _ _ z
    rw[this] at ha
    exact .inr ⟨us,(bi ha).symm⟩
   ·exact .inl ⟨(E.up s1).fresh (old a z),nz⟩
theorem RL {c k j:Nat}{x:Str}{ps:oP}{mi:List PV->Option (List (Str×PV))}(cI:CalI X.prog X.w X.K X.mg X.base (b.C.cl c) k x ps (spI b.C c mi))(hr:F5 j X.A)(ha:SA X b G false (e::es) g)(hle:autoParam (k+1<=j) r1_)(hg:autoParam (Gl X x) r0_)
  (MQ:autoParam ((x == ("__debug__" : Str))=false) r1_) (he:autoParam (starEach (e::es) X.env=(false,eval e X.env)::starEach es X.env) r0_) (HM:autoParam ((backTo pos (starEach es X.env)).any (·.1)=false) r0_):
  SE X b G .own (.Call (.Name x p) (e::es) [] pos) (JF c mi g):=by
 obtain⟨f,fd,F,hb,hM,hm⟩:=cI.ex
 refine PE.imp (Q_ hM F (hr.mono hle) hg hm hb .nil DG ha MQ he HM) ?_
 rintro σ H Q ⟨Ow,env,q,E,hf,kk⟩
 obtain⟨qs,q1,hf⟩:=aC hf
 obtain⟨fs,q2,hf⟩:=aC hf
 cases hf
 exact O4 E q1 q2 (λz=>by cases z) kk
@[simp] noncomputable def tyN:PV->Option String
 | .FG=>some "NoneType"
 | .bl _=>some "bool"
 | .int _=>some "int"
 | .str _=>some "str"
 | .lst _=>some "list"
 | .tup _=>some "tuple"
 | .dK _=>some "dict"
 | .dT _=>some "dict"
 | _=>none
theorem FF.ty {C:MC}{A:Addr->Prop}{H:Hp}{v:V}{p:PV}{t:String}(r:FF C A H v p)(h:tyN p=some t):K2 C.K H v (.type t):=by
 cases p <;> simp only[tyN] at h <;> cases h
 ·rw[r.FG];exact .FG
 ·rw[r.bl];exact .bl _
 ·rw[r.int];exact .int _
 ·rw[r.str];exact .str _
 ·obtain⟨a,vs,rfl,ha,_⟩:=r.lst;exact .lst ha
 ·obtain⟨a,vs,rfl,ha,_⟩:=r.tup;exact ha.elim (λq=>.tup q) λq=>.OO q
 ·obtain⟨a,vs,rfl,ha,_⟩:=r.dK;exact .dK ha
 ·obtain⟨a,vs,rfl,ha,_⟩:=r.dT;exact .dT ha
theorem qW {α β:Type}[BEq α][LawfulBEq α]{x:α}{y:β}:∀{l:List (α×β)},l.lookup x=some y->(x,y)∈l
 | [],h=>by cases h
 | (a,c)::r,h=>by
  rw[b6] at h
  cases q:x == a with
  | true=>rw[q] at h;cases h;have:=eq_of_beq q;subst this;exact af
  | false=>rw[q] at h;exact ac _ (qW h)
end
end Lake.MR
namespace Lake.L2
open PySem PySem.Spec PyProof.Rows
section
variable {X:Cx}{Fs:oy}{σ:St}{H H':Hp}{s:Shared}{h':Heap}
theorem Inv.ZO {t':Nat}{ch:o0}(I:Inv X Fs σ H s)(k:∀b u,b∉ch->s.heap.get? b=some u->h'.get? b=some u)(hf:∀b∈ch,ou X Fs H b):Inv X Fs σ H { s with heap:=h',toks:=t' }:=by
 have Sn:∀b u,H b=some u->b∉ch:=λb u e hb=>by
  rw[(hf b hb).1] at e;cases e
 refine I.step (g':=s.gens) (d':=s.drawn) (ch:=ch) (λb hb=>let ⟨_,f1,_,f4,f5,f6⟩:=hf b hb;⟨f4,f1,f5,f6⟩) (λb o _ _ hc e _=>k b o hc e) (λb o _ _ hc e _=>⟨o.slots,k b o hc e⟩)
  (λ_ _ _ _ n=>n) (λb o hc e=>⟨o,k b o hc e⟩) (λ_ _ e=>e) (λ_ _ _ e=>e) (λb ps e=>⟨#[],by rw[e];simp⟩) (λm hm=>?_) (λb u e=>?_) I.bare
 ·obtain⟨oL,es,ep,ho,r⟩:=hm
  have nL:X.env.locals∉ch:=λhb=>(hf _ hb).2.1 rfl
  exact⟨oL,es,ep,k _ oL nL ho,r⟩
 ·refine(I.FL b u e).OK (λc v hc q=>k c v ?_ q) (λ_ q=>q) λ_ _ q=>q
  rcases hc with z | z
  ·rw[z];exact Sn b u e
  ·exact Sn c _ z
end
def Itz (K:W.Frag)(a b:Addr):It:=
  ⟨λi H=>∃xs x ys y,F7 K H a xs/\xs[i]?=some x/\F7 K H b ys/\ys[i]?=some y,
   λi H v H'=>∃t x y,H t=none/\v=.ref t/\H'=upd H t (.tup [x,y])/\(∀xs,F7 K H a xs->xs[i]?=some x)/\∀ys,F7 K H b ys->ys[i]?=some y,
   λi H=>∃xs ys,F7 K H a xs/\F7 K H b ys/\(xs.length<=i\/ys.length<=i)⟩
def QF (z TI TO i1 i2 l1 l2:Addr)(i:Nat)(h:Heap):Prop:=IsZip h z TI TO .none/\IsPair h TI (.ref i1) (.ref i2)/\(∃a b,IsPair h TO a b)/\h.IsListIter i1 l1 i/\h.IsListIter i2 l2 i
theorem Fq {P:Program}{w:World}{K:W.Frag}{es:oI}{x1:Nat}{tpos:Pos}{z TI TO i1 i2 l1 l2:Addr}(D:ZipApart z TI TO i1 i2 l1 l2):Turn P w K (.Tuple es x1 tpos) (Itz K l1 l2) [z,TI,TO,i1,i2] z (QF z TI TO i1 i2 l1 l2) where
 mem:=by simp
 obj:=λi h st b hb=>by
  obtain⟨hz,L5,⟨a,c,Oy⟩,⟨o1,e1,c1,d1⟩,⟨o2,e2,c2,d2⟩⟩:=st
  simp only[ar,b9,eW] at hb
  rcases hb with rfl | rfl | rfl | rfl | rfl
  ·exact⟨_,hz,λv y=>by have y':Data.fields _=Data.cell v:=y;cases y'⟩
  ·exact⟨_,L5,λv y=>by have y':Data.seq _ _=Data.cell v:=y;cases y'⟩
  ·exact⟨_,Oy,λv y=>by have y':Data.seq _ _=Data.cell v:=y;cases y'⟩
  ·exact⟨o1,e1,λv y=>by rw[d1] at y;cases y⟩
  ·exact⟨o2,e2,λv y=>by rw[d2] at y;cases y⟩
 keep:=λi h h' st k=>by
  obtain⟨hz,L5,⟨a,c,Oy⟩,s1,s2⟩:=st
  exact⟨k z (by simp) _ hz,k TI (by simp) _ L5,⟨a,c,k TO (by simp) _ Oy⟩,s1.at λo q=>k i1 (by simp) o q,s2.at λo q=>k i2 (by simp) o q⟩
 item:=by
  intro X hP hw hK hc i Fs s σ H E I hf st hg
  subst hP hw hK
  obtain⟨xs,x,ys,y,hq1,hx,NX,hy⟩:=hg
  obtain⟨hz,L5,⟨a,b,Oy⟩,s1,s2⟩:=st
  obtain⟨its1,rv1,p1,hz1⟩:=I.list hq1
  obtain⟨L0,rv2,p2,hz2⟩:=I.list NX
  obtain⟨u,hu,ru⟩:=rv1.get hx
  obtain⟨v,hv,rv⟩:=rv2.get hy
  refine wpAny_pyNext_zip_item D hz L5 Oy s1 s2 p1.isList p2.isList (x:=u) (y:=v) (by simpa using hu) (by simpa using hv) λh' z1 t1 j1 j2 tp hsz hk=>⟨_,rfl,?_⟩
  refine wpAny_letOwnedTupleGo_zip (s:={ s with heap:=h' }) z1 λh2 z2 sb=>?_
  have lz:z < s.heap.objs.size:=aE hz
  have g2:h2.get? s.heap.objs.size=some { cls:=.type "tuple",data:=.seq #[u,v] }:=(sb.2 _ (om lz)).trans tp
  have k2:∀c o,c∉[z,TO,i1,i2]->s.heap.get? c=some o->h2.get? c=some o:=λc o hb q=>by
   have n1:c≠z:=λe=>hb (by simp[e])
   have n2:c≠TO:=λe=>hb (by simp[e])
   have n3:c≠i1:=λe=>hb (by simp[e])
   have n4:c≠i2:=λe=>hb (by simp[e])
   exact(sb.2 c n1).trans (hk c o n1 n2 n3 n4 q)
  have gTO:IsPair h2 TO u v:=(sb.2 _ D.TOz).trans t1
  have g1:h2.IsListIter i1 l1 (i+1):=j1.extBut sb.extBut D.i1z
  have g2':h2.IsListIter i2 l2 (i+1):=j2.extBut sb.extBut D.i2z
  have ht2:∀c o,s.heap.get? c=some o->∃o',h2.get? c=some o':=λc o q=>by
   by_cases n1:c=z
   ·subst n1;exact⟨_,z2⟩
   ·by_cases n2:c=TO
    ·subst n2;exact⟨_,gTO⟩
    ·by_cases n3:c=i1
     ·subst n3;obtain⟨o',e',_⟩:=g1;exact⟨o',e'⟩
     ·by_cases n4:c=i2
      ·subst n4;obtain⟨o',e',_⟩:=g2';exact⟨o',e'⟩
      ·exact⟨o,k2 c o (by simp[n1,n2,n3,n4]) q⟩
  have I2:Inv X Fs σ (upd H s.heap.objs.size (.tup [x,y])) { s with heap:=h2,toks:=s.toks }:=
   I.P5 (ch:=[z,TO,i1,i2]) k2 ht2 (λb hb=>hf b (by simp only[ar,b9,eW] at hb ⊢;rcases hb with e | e | e | e <;> simp[e])) (aw _)
    ⟨by show 2<=sizeLine;decide,[u,v],.cons ru (.cons rv .nil),⟨_,g2,rfl,_,rfl⟩⟩
  refine⟨.ref s.heap.objs.size,_,I2,rfl,⟨s.heap.objs.size,x,y,I.fresh,rfl,rfl,λzs hy=>by rw[I.KG hy hq1];exact hx,λzs hy'=>by rw[I.KG hy' NX];exact hy⟩,⟨z2,?_,⟨u,v,gTO⟩,g1,g2'⟩,λb hb=>?_⟩
  ·exact k2 TI _ (by simp[D.TIz,D.TITO,D.TIi1,D.TIi2]) L5
  ·have hb0:=(hf b hb).1
   rw[aQ ?_]
   ·exact hb0
   ·have IT:b < s.heap.objs.size:=by
     simp only[ar,b9,eW] at hb
     rcases hb with rfl | rfl | rfl | rfl | rfl
     ·exact lz
     ·exact aE L5
     ·exact aE Oy
     ·obtain⟨o,e1,_⟩:=s1;exact aE e1
     ·obtain⟨o,e1,_⟩:=s2;exact aE e1
    exact bP IT
 done:=by
  intro X hP hw hK hc i Fs s σ H E I hf st hg
  subst hP hw hK
  obtain⟨xs,ys,hq1,NX,hl⟩:=hg
  obtain⟨hz,L5,⟨a,b,Oy⟩,s1,s2⟩:=st
  obtain⟨its1,rv1,p1,hz1⟩:=I.list hq1
  obtain⟨L0,rv2,p2,hz2⟩:=I.list NX
  have l1':=rv1.length
  have l2':=rv2.length
  refine wpAny_pyNext_zip_end (I.ok.hd hc) D hz L5 Oy s1 s2 p1.isList p2.isList (hl.imp (λh=>by simp;omega) λh=>by simp;omega) λh' hk=>⟨rfl,?_⟩
  refine I.ZO (t':=s.toks) (ch:=[z,TO,i1,i2]) (λc o hb q=>?_) (λb hb=>hf b (by simp only[ar,b9,eW] at hb ⊢;rcases hb with e | e | e | e <;> simp[e]))
  exact hk c o (λe=>hb (by simp[e])) (λe=>hb (by simp[e])) (λe=>hb (by simp[e])) (λe=>hb (by simp[e])) q
 self:=λA i s Q E st h=>wpAny_pyIter_zip st.1 h
section
variable {X:Cx}
def YX (K:W.Frag)(ta:TA):TI:=fun σ H R=>ta σ H λvs H1=>∃a b,vs=[.ref a,.ref b]/\(∃xs,F7 K H1 a xs)/\(∃ys,F7 K H1 b ys)/\R (Itz K a b) H1
theorem Vs {l r:Expr}{ta:TA}{es:oI}{x1:Nat}{tpos p pos:Pos}(hg:Gl X "zip")(hm:X.mg "zip" = none)(ha:PA X [l,r] ta)(hs:autoParam (starEach [l,r] X.env=(false,eval l X.env)::starEach [r] X.env) r0_)(hp:autoParam ((backTo pos (starEach [r] X.env)).any (·.1)=false) r0_):
  PI X (.Tuple es x1 tpos) (.Call (.Name "zip" p) [l,r] [] pos) (YX X.K ta):=by
 intro Fs s σ H R I h
 refine Call_ (fK I hg hm PyProof.Rows.boot_zip (bp (F2 (ha pos Fs s σ H _ I h) ?_) hs hp))
 rintro us s1 ⟨vs,H1,I1,r1,q1⟩
 obtain⟨a,b,e,⟨xs,hq1⟩,⟨ys,NX⟩,q⟩:=q1
 subst e
 obtain⟨u,v,rfl,ru,rv⟩:=vals2 r1
 cases ru
 cases rv
 obtain⟨its1,rv1,p1,hz1⟩:=I1.list hq1
 obtain⟨L0,rv2,p2,hz2⟩:=I1.list NX
 have a1:a < s1.heap.objs.size:=by obtain⟨_,e,_⟩:=p1.isList;exact aE e
 have a2:b < s1.heap.objs.size:=by obtain⟨_,e,_⟩:=p2.isList;exact aE e
 refine call_zip_2 p1.isList p2.isList λh' hz L5 Oy hi1 hi2 hsz hk=>?_
 have I2:Inv X Fs σ H1 { s1 with heap:=h' }:=I1.kept (t':=s1.toks) hk
 have D:=zipApart_new a1 a2
 have st:QF (s1.heap.objs.size+4) (s1.heap.objs.size+2) (s1.heap.objs.size+3) s1.heap.objs.size (s1.heap.objs.size+1) a b 0 h':=⟨hz,L5,⟨_,_,Oy⟩,hi1,hi2⟩
 refine(Fq (P:=X.prog) (w:=X.w) (K:=X.K) (es:=es) (x1:=x1) (tpos:=tpos) D).self X.A 0 { s1 with heap:=h' } _ _ st ?_
 refine⟨s1.heap.objs.size+4,_,_,_,H1,rfl,I2,Fq D,st,λc hb=>?_,q⟩
 have hb':s1.heap.objs.size<=c:=by
  simp only[ar,b9,eW] at hb
  rcases hb with e | e | e | e | e <;> rw[e] <;> omega
 exact I1.N9 hb' (I1.FL.fresh hb')
end
end Lake.L2
namespace Lake.MR
open PySem L2
section
variable {X:Cx}{b:BX}{G G' L:oz}{ro:Bool}{pos:Pos}
noncomputable def jr (xs ys:List PV):List PV:=List.zipWith (λx y=>.tup [x,y]) xs ys
noncomputable def iZ (f g:pc)(env:Env):Option (List PV):=(f env).bind λp=>(g env).bind λq=>match p,q with
 | .lst xs,.lst ys=>some (jr xs ys)
 | _,_=>none
@[simp] theorem Z5 (f g:pc)(env:Env):iZ f g env=((f env).bind λp=>(g env).bind λq=>match p,q with
 | .lst xs,.lst ys=>some (jr xs ys)
 | _,_=>none):=id rfl
theorem Ft {fr:Bool}{m1 m2:Md}{e1 e2:Expr}{h1 h2:pc}{es:oI}{x1:Nat}{tpos p pos:Pos}(hm:X.mg "zip" = none)(he:SE X b G m1 e1 h1)(Sf:SE X b G m2 e2 h2)(hmd:fr=true->m1≠.bor)(hmd2:fr=true->m2≠.bor)(hK:autoParam (X.K=b.C.K) r0_)(hg:Gl X "zip" := by rfl)
  (hs:autoParam (starEach [e1,e2] X.env=(false,eval e1 X.env)::starEach [e2] X.env) r0_) (Kn:autoParam (starEach [e2] X.env=(false,eval e2 X.env)::starEach [] X.env) r0_) (hp:autoParam ((backTo pos (starEach [e2] X.env)).any (·.1)=false) r0_):
  SI X b G fr (.Tuple es x1 tpos) (.Call (.Name "zip" p) [e1,e2] [] pos) (iZ h1 h2):=by
 refine PI.imp (Vs hg hm (bW he (bW Sf dJ Kn) hs) hs hp) ?_
 rintro σ H R ⟨Ow,env,ps,E,hf,k⟩
 rw[hK]
 obtain⟨p1,hp1,S0⟩:=aC hf
 clear hf
 obtain⟨p2,O0,IQ⟩:=aC S0
 clear S0
 refine⟨Ow,env,p1,E,hp1,λv H1 s r=>⟨Ow,env,p2,E.up s,O0,λv2 H2 s2 r2=>?_⟩⟩
 have r':Res b Ow H H2 m1 v p1:=Res.up r s2
 have b1:FF b.C (Bs b Ow) H2 v p1:=r'.bor
 have b2:FF b.C (Bs b Ow) H2 v2 p2:=r2.bor
 cases p1 <;> cases p2 <;> simp only at IQ <;> cases IQ
 rename_i xs ys
 obtain⟨a,vs,rfl,ha,ra⟩:=b1.lst
 obtain⟨c,us,rfl,hc,rc⟩:=b2.lst
 refine⟨a,c,rfl,⟨vs,F7.of ha⟩,⟨us,F7.of hc⟩,k _ _ (s.trans s2) λFV H3 h0 hx hn=>?_⟩
 have hq:H3 a=some (.lst vs)/\FA b.C (Bs b FV) H3 vs xs:=by
  refine⟨?_,ra.ex hx⟩
  cases fr with
  | false=>exact h0 rfl _ _ ha
  | true=>
   have rv:Rep b.C (Bs b Ow) H2 (.ref a) (.lst _):=r'.val E (hmd rfl)
   cases rv with
   | lst q1 q2 q3=>rw[ha] at q1;cases q1;exact((hx _ _ ha).1 q2).1
 have NX:H3 c=some (.lst us)/\FA b.C (Bs b FV) H3 us ys:=by
  refine⟨?_,rc.ex hx⟩
  cases fr with
  | false=>exact h0 rfl _ _ hc
  | true=>
   have rv:Rep b.C (Bs b Ow) H2 (.ref c) (.lst _):=r2.val (E.up s) (hmd2 rfl)
   cases rv with
   | lst q1 q2 q3=>rw[hc] at q1;cases q1;exact((hx _ _ hc).1 q2).1
 refine⟨λi p MX=>?_,⟨vs,us,F7.of hq.1,F7.of NX.1,?_⟩⟩
 ·unfold jr at MX
  rw[mP] at MX
  cases qx:xs[i]? with
  | none=>rw[qx] at MX;simp at MX
  | some x=>
   cases qy:ys[i]? with
   | none=>rw[qx,qy] at MX;simp at MX
   | some y=>
    rw[qx,qy] at MX
    cases MX
    obtain⟨v,hv,rv⟩:=hq.2.get qx
    obtain⟨u,hu,ru⟩:=NX.2.get qy
    refine⟨⟨vs,v,us,u,F7.of hq.1,hv,F7.of NX.1,hu⟩,λz H' yl=>?_⟩
    obtain⟨t,x',y',ht,e1,e2,y1,y2⟩:=yl
    subst e1 e2
    have e3:=y1 vs (F7.of hq.1)
    have e4:=y2 us (F7.of NX.1)
    rw[hv] at e3
    rw[hu] at e4
    cases e3
    cases e4
    exact⟨bI ht _,.tup bx (.cons (rv.ex (.of_same (bI ht _))) (.cons (ru.ex (.of_same (bI ht _))) .nil))⟩
 ·have l1:=hq.2.length
  have l2:=NX.2.length
  unfold jr
  rw[List.length_zipWith]
  omega
end
end Lake.MR
namespace Lake.MR
open PySem L2
section
variable {X:Cx}{b:BX}{G G' L:oz}{ro:Bool}{pos p:Pos}{m m1 m2:Md}{e e1 e2:Expr}{f f1 f2:pc}
@[simp] noncomputable def NI:PV->PV->Option PV
 | .int i,.int j=>some (.int (if j > i then j else i))
 | _,_=>none
theorem Mm (hm:X.mg "max" = none)(h1:SE X b G m1 e1 f1)(h2:SE X b G m2 e2 f2)(hc:autoParam (X.calm=true) r0_)(hg:Gl X "max" := by rfl)(hbi:autoParam (bootBuiltins "max" = some (.builtin "max")) r3_)
  (he:autoParam (starEach [e1,e2] X.env=(false,eval e1 X.env)::starEach [e2] X.env) r0_) (Sf:autoParam (starEach [e2] X.env=(false,eval e2 X.env)::starEach [] X.env) r0_) (HM:autoParam ((backTo pos (starEach [e2] X.env)).any (·.1)=false) r0_):
  SE X b G .val (.Call (.Name "max" p) [e1,e2] [] pos) (b2 NI f1 f2):=by
 refine PE.imp (yg (K_ hc) hg hm hbi (bW h1.bor (bW h2.bor dJ Sf) he) (by decide) (by decide) he HM) ?_
 rintro σ H Q ⟨Ow,env,q,E,hf,kk⟩
 obtain⟨p1,hp1,hf⟩:=aC hf
 obtain⟨p2,O0,hf⟩:=aC hf
 refine⟨Ow,env,p1,E,hp1,λv H1 s r=>⟨Ow,env,p2,E.up s,O0,λv2 H2 s2 r2=>?_⟩⟩
 have r1:FF b.C (Bs b Ow) H1 v p1:=r
 have Of:FF b.C (Bs b Ow) H2 v2 p2:=r2
 cases p1 <;> cases p2 <;> simp only[NI] at hf <;> cases hf
 exact⟨_,_,by rw[r1.int,Of.int],kk _ H2 (s.trans s2) (.int _)⟩
end
section
variable {X:Cx}{b:BX}{G G' L:oz}{ro:Bool}{pos p:Pos}{m m1 m2:Md}{e e1 e2:Expr}{f f1 f2 h:pc}
@[simp] noncomputable def uI:PV->PV->Option PV
 | .lst xs,.lst ys=>if xs.length+ys.length<=1000000 then some (.lst (xs++ys)) else none
 | _,_=>none
theorem Mp {x y z:PV}(e:uI x y=some z):∃xs ys,x=.lst xs/\y=.lst ys/\xs.length+ys.length<=1000000/\z=.lst (xs++ys):=by
 unfold uI at e
 split at e
 ·split at e
  ·cases e;exact⟨_,_,rfl,rfl,‹_›,rfl⟩
  ·cases e
 ·cases e
theorem wZ (i:Nat){x:Str}{p1 apos FO:Pos}(he:SE X b G .val e h)(hi:autoParam (i∈G) r1_)(hN:autoParam (X.N[i]?=some x) r0_)(hv:autoParam (Sl X.env.scope x) r5_)(hd:autoParam ((x == ("__debug__" : Str))=false) r1_)
  (LW:autoParam ((x == ("__classdict__" : Str))=false) r1_) (JI:autoParam (attributeBase (.Name x p1) "extend" X.env (eval (.Name x p1) X.env)=eval (.Name x p1) X.env) r0_)
  (LZ:((backTo FO (starEach [e] X.env)).all (λx=>!x.1)&&(backToKw FO (keywordEach [] X.env)).all (λx=>x.1.isSome)
   && decide ([e].length+([]:List Keyword).length+(if ([]:List Keyword).isEmpty then 0 else 1) < 30))=true:=by rfl)
  (JJ:autoParam ((apos.endLine == FO.line)=true) r0_) (hs:autoParam (starEach [e] X.env=(false,eval e X.env)::starEach [] X.env) r0_):
  SS X b G G L ro (.Expr (.Call (.Attribute (.Name x p1) "extend" apos) [e] [] FO) pos) (bh uI i h):=
 PS.imp (wN (Dz iX PySem.F.slot_list_extend PySem.F.type_list_extend Lp (kh hN hv hd LW) (bW he dJ hs) JI LZ JJ hs rfl))<|by
  rintro D σ H ⟨Ow,env,o,E,hf,k⟩
  obtain⟨px,Rl,z1⟩:=aC hf
  clear hf
  obtain⟨p,hp,z2⟩:=aC z1
  clear z1
  obtain⟨y,hy,z3⟩:=aC z2
  clear z2
  cases z3
  obtain⟨xs,ys,rfl,rfl,hl,rfl⟩:=Mp hy
  obtain⟨a,ea,w,t⟩:=E.own i _ (fY Rl) hi
  obtain⟨vs,ha,ra⟩:=id t
  refine⟨_,ea,.inl ⟨rfl,_,F7.of ha⟩,Ow,env,_,E,hp,λv H' s r=>?_⟩
  cases r with
  | @lst c us _ q1 q2 q3=>
   refine⟨a,c,vs,us,rfl,rfl,s _ _ ha,q1,g8 (by rw[ra.length,q3.length];exact hl),?_⟩
   have ra':FA b.C (Bs b Ow) (upd H' a (.lst (vs++us))) (vs++us) (xs++ys):=by
    refine(ra.ex (.of_same s)).append q3 |>.ex λc o h=>⟨λq=>⟨by rw[aQ (λz:c=a=>q.1 (z▸w))];exact h,q⟩,λm=>?_⟩
    have hc:c≠a:=λz=>by subst z;rw[s _ _ ha] at h;cases h;cases m
    rw[aQ hc];exact h
   obtain⟨E',x⟩:=(E.up s).write hi ea (fY Rl) w (t.ex (.of_same s) λo z=>s _ _ z) (o':=.lst (vs++us)) (p':=.lst (xs++ys)) ⟨_,bx,ra'⟩
   exact k Ow σ _ E' ((Ex.of_same s).trans x)
@[simp] noncomputable def JG:PV->PV->Option PV
 | .lst xs,.int k=>if -1000000<=k/\k<=1000000/\xs.length*k.toNat<=1000000 then some (.lst (List.replicate k.toNat xs).flatten) else none
 | _,_=>none
theorem FA.QN {C:MC}{A:Addr->Prop}{H:Hp}{vs:List V}{ps:List PV}(h:FA C A H vs ps):∀n:Nat,FA C A H (List.replicate n vs).flatten (List.replicate n ps).flatten
 | 0=>.nil
 | n+1=>by
  rw[et,et,gs,gs]
  exact h.append (FA.QN h n)
theorem Vt:Nw b .own U0 JG:=by
 intro Ow H v1 v2 p1 p2 p Q hn r1 r2 e k
 unfold JG at e
 split at e
 ·split at e
  ·rename_i h
   cases e
   obtain⟨a,vs,rfl,ha,ra⟩:=r1.lst
   have e2:=r2.int
   subst e2
   have h63:(2 ^ 63:Int)=9223372036854775808:=by decide
   exact⟨a,_,vs,rfl,rfl,ha,by omega,by omega,g8 (by rw[ra.length];exact h.2.2),λq hq=>k _ _ (bI hq _) (eZ hq (ra.QN _))⟩
  ·cases e
 ·cases e
theorem Vu (h1:SE X b G m1 e1 f1)(h2:SE X b G m2 e2 f2):SE X b G .own (.BinOp e1 .Mult e2 pos) (b2 JG f1 f2):=rT U3 Vt h1 h2
@[simp] noncomputable def Fv:PV->Option PV
 | .lst xs=>some (.tup xs)
 | .frz xs=>some (.tup xs)
 | .tup xs=>some (.tup xs)
 | _=>none
theorem O5 (hm:X.mg "tuple" = none)(h:SE X b G m1 e f)(hK:autoParam (X.K=b.C.K) r0_)(hg:Gl X "tuple" := by rfl)(he:autoParam (starEach [e] X.env=(false,eval e X.env)::starEach [] X.env) r0_):SE X b G .val (.Call (.Name "tuple" p) [e] [] pos) (b1 Fv f):=by
 refine HX CW (λOw H v1 p1 p Q hn r1 e k=>?_) hm PyProof.Rows.boot_tuple h hg (by decide) (by decide) he
 rw[hK]
 cases p1 <;> simp only[Fv] at e <;> cases e
 case lst xs=>obtain⟨a,vs,rfl,ha,ra⟩:=r1.lst;exact⟨a,vs,rfl,.inl ⟨F7.of ha,λl hl=>k _ _ (bI hl _) (Aj hl ra)⟩⟩
 case frz xs=>obtain⟨a,vs,rfl,ha,ra⟩:=r1.frz;exact⟨a,vs,rfl,.inl ⟨ha,λl hl=>k _ _ (bI hl _) (Aj hl ra)⟩⟩
 case tup xs=>obtain⟨a,vs,rfl,ha,ra⟩:=r1.tup;exact⟨a,vs,rfl,.inr ⟨ha.sq,k _ _ (FE.refl _) (ha.rep ra)⟩⟩
@[simp] noncomputable def DW:PV->Option PV
 | .int j=>if 0<=j/\j<=1000000 then some (.lst (dO 0 j)) else none
 | _=>none
@[simp] noncomputable def DX:PV->Option PV
 | .lst xs=>some (.lst xs.reverse)
 | _=>none
noncomputable def iRv (f:pc)(env:Env):Option (List PV):=(f env).bind λp=>match p with
 | .lst xs=>some xs.reverse
 | _=>none
@[simp] theorem ZJ (f:pc)(env:Env):iRv f env=((f env).bind λp=>match p with
 | .lst xs=>some xs.reverse
 | _=>none):=id rfl
noncomputable def O6 (g:PV->Env->Option Env)(f:pc)(env:Env):Option Out:=(f env).bind λp=>(g p env).bind λe=>some (.nx e)
@[simp] theorem Zk (g:PV->Env->Option Env)(f:pc)(env:Env):O6 g f env=((f env).bind λp=>(g p env).bind λe=>some (.nx e)):=id rfl
theorem XR {tg:Expr}{g:PV->Env->Option Env}(he:SE X b G .val e h)(hg:SG X b G tg g)(hs:autoParam (swapsWithSole [tg] e pos.line X.env=pure false) r0_)(hw:autoParam (swappedStores [tg] e X.env=pure none) r0_)
  (h1:autoParam ((assignEach [tg] X.env).map (·.2)=[assign tg X.env]) r0_):SS X b G G L ro (.Assign [tg] e pos) (O6 g h):=
 PS.imp (KZ he hg hs hw h1)<|by
  rintro D σ H ⟨Ow,env,o,E,hf,k⟩
  obtain⟨p,hp,z1⟩:=aC hf
  clear hf
  obtain⟨env',he',z2⟩:=aC z1
  clear z1
  cases z2
  exact⟨Ow,env,p,E,hp,λv H' s r=>⟨Ow,env,p,env',E.up s,r,he',fun σ' E'=>k Ow σ' H' E' (.of_same s)⟩⟩
end
end Lake.MR
namespace Lake.L2
open PySem PySem.Spec PyProof.Rows
section
variable {X:Cx}
noncomputable def Ao (n:Nat):List V:=(List.range n).map λi=>.int (i:Nat)
theorem yp:∀(n k:Nat) (l:oB),l.length=n->(∀(j:Nat) v,l[j]?=some v->∃t,v=.int ((k+j:Nat):Int) t)->Vals ((List.range' k n).map λi=>V.int (i:Nat)) l
 | 0,k,l,h,_=>by
  have:=kg h
  subst this
  exact .nil
 | n+1,k,l,h,hv=>by
  cases l with
  | nil=>cases h
  | cons v l=>
   rw[dE,ag]
   refine .cons ?_ (yp n (k+1) l (by simpa using h) λj u hu=>?_)
   ·obtain⟨t,e⟩:=hv 0 v rfl
    exact⟨t,e⟩
   ·obtain⟨t,e⟩:=hv (j+1) u (by simpa using hu)
    exact⟨t,by rw[e];congr 1;omega⟩
def Vv (ta:TA):TE:=fun σ H Q=>ta σ H λvs H1=>∃n:Nat,vs=[.int (n:Nat)]/\n<=1000000/\∀l,H1 l=none->Q (.ref l) (upd H1 l (.lst (Ao n)))
theorem O7 {a:Expr}{ta:TA}{p p2 pos F4:Pos}(hg:Gl X "list")(hm:X.mg "list" = none)(Pp:Gl X "range")(L4:X.mg "range" = none)(hc:X.calm=true)(ha:PA X [a] ta)(hs:autoParam (starEach [a] X.env=[(false,eval a X.env)]) r0_)
  (Kn:autoParam (starEach [.Call (.Name "range" p2) [a] [] F4] X.env=(false,eval (.Call (.Name "range" p2) [a] [] F4) X.env)::starEach [] X.env) r0_) (HM:autoParam ((backTo pos (starEach [] X.env)).any (·.1)=false) r0_):
  PE X (.Call (.Name "list" p) [.Call (.Name "range" p2) [a] [] F4] [] pos) (Vv ta):=by
 intro Fs s σ H Q I h
 refine eK (fK I hg hm fE ?_ (by decide) (by decide))
 refine bp ?_ Kn HM
 rw[Kn]
 show wpAny _ _ (spliced ((false,eval (.Call (.Name "range" p2) [a] [] F4) X.env)::backTo pos (starEach [] X.env))) _ _ s
 refine d0 ?_
 refine Call_ (fK I Pp L4 l8 (bp (F2 (ha F4 Fs s σ H _ I h) ?_) hs rfl))
 rintro us s1 ⟨vs,H1,I1,r1,q1⟩
 obtain⟨n,e,hn,q⟩:=q1
 subst e
 cases r1 with
 | cons r rr=>
  cases rr
  obtain⟨t,rfl⟩:=r
  refine call_range_1 (fm ?_)
  have h64:(2 ^ 62:Int)=4611686018427387904:=by decide
  refine call_list_range (n:=n) (I1.ok.hd hc) (IsRange.new ..) (small_one (by omega) (by omega) (by omega) (by omega)) (by rw[oa];split <;> omega) (by omega) λh' tk LN c' kp e it=>?_
  obtain⟨i1,i2⟩:=it
  have hv:Vals (Ao n) LN.toList:=by
   have:=yp n 0 LN.toList (by simpa using i1) λj v hj=>by
    obtain⟨t,e⟩:=i2 j v (by simpa using hj)
    exact⟨t,by rw[e];congr 1;omega⟩
   unfold Ao
   rw[d3]
   exact this
  have I2:=I1.laid (a:=s1.heap.objs.size+1) (o:=.lst (Ao n)) (h':=h') (t':=tk) (λb o eb=>kp b o (am _ eb)) (by omega)
   (show FX X.prog X.w X.K _ h' _ (.lst (Ao n)) from ⟨(by unfold Ao;rw[ae,eA];exact gE (jN hn)),LN.toList,c',hv,by
    have:=e
    rw[dS] at this
    simpa using this⟩)
  refine⟨.ref (s1.heap.objs.size+1),_,I2,?_,q _ (I1.FL.fresh (by omega))⟩
  show Value.ref _=Value.ref _
  rw[dS]
end
theorem Mq:typeLookup (.type "list_reverseiterator") "__len__" = pure none:=by rw[kr,g6];kernel_rfl
theorem O8:typeLookup (.type "list_reverseiterator") "__length_hint__" = pure (some (.builtin "list_reverseiterator.__length_hint__")):=by rw[kr,g6];kernel_rfl
section
variable {prog:Program}{w:World}{A:Around}{E:ox}{s:Shared}
theorem JH {J l N:Addr}{items:pb}{c₀:Nat}{R:Result->Shared->Prop}(hh:A.handled=none)(hit:s.heap.IsRevIter J l ((items.size:Int) - 1))(hl:s.heap.IsList l items)(hlJ:l≠J)(hNJ:N≠J)(hNl:N≠l)(hn:items.size<=sizeLine)
  (hN:s.heap.get? N=some { cls:=.type "list",data:=.seq #[] c₀ })
  (hR:∀h' tk acc c,(∀b o,b≠J->b≠N->s.heap.get? b=some o->h'.get? b=some o)->h'.get? N=some { cls:=.type "list",dict:=none,data:=.seq acc c,slots:=#[] }->ItemsOf (λi v=>items[items.size - 1 - i]?=some v) acc items.size->R (.ok (.ret .none)) { s with heap:=h',toks:=tk }):
  wpAny (model prog w) A.in1 (Builtin.List.listExtendWith (.ref N) (.ref J) .none)
   (λfin s'=>match fin with | .done f=>R (.ok f) s' | .again c'=>c'.quiet=true/\codeAny (model prog w) A c' R s') (λe s'=>R (.error e) s') s:=by
 have W:=(Walks.listRev (prog:=prog) (w:=w) (A:=A.in1) hh J l hlJ items).toS
 have st0:(0:Nat)<=items.size/\s.heap.IsRevIter J l ((items.size:Int) - 1 - ((0:Nat):Int))/\s.heap.IsList l items:=⟨da _,by simpa using hit,hl⟩
 unfold Builtin.List.listExtendWith
 have hr:Builtin.List.listSameRef (.ref N) (.ref J)=false:=by simp[Builtin.List.listSameRef,hNJ]
 refine ab (wpAny_typeOf hit.typeIs ?_);rw[ap (by rw[hr];decide)]
 refine ab (ki hit (ab (eC ?_)))
 unfold Builtin.List.listLengthHint
 refine ab (ix hit.typeIs Mq ?_)
 show wpAny _ A.in1 (specialOf (Value.ref J) (Str.ofString "__length_hint__") >>= _) _ _ _
 refine ab (ix hit.typeIs O8 ?_)
 (generalize X0:("list_reverseiterator.__length_hint__" : String)=nm;(fail_if_success (clear X0 nm));wp_delta;rw[show splitId nm=some ("list_reverseiterator","__length_hint__") from by subst X0;decide +kernel];subst X0)
 refine ab (lI (b:=true) hit.typeIs (by rw[isSubtype_type];kernel_rfl) (ay ?_))
 rw[ap (by decide)]
 have hNf:N∉[J,l]:=by simp[hNJ,hNl]
 refine ay ⟨oe gv _,codeAny_extend_loopS W hn N hNf .none items.size 0 _ _ _ rfl (da _) st0 hN (ItemsOf.nil _) λs' acc c hm hN' it=>?_⟩
 rw[Moved.eq_with hm]
 exact hR s'.heap s'.toks acc c (λb o h1 h2 e=>hm.heap b o (by simp[h1,h2]) e) hN' it
theorem C_ {J l:Addr}{items:pb}{Q:ox}(hh:A.handled=none)(hit:s.heap.IsRevIter J l ((items.size:Int) - 1))(hl:s.heap.IsList l items)(hlJ:l≠J)(hn:items.size<=sizeLine)
  (hQ:∀h' tk acc c,(∀b o,b≠J->s.heap.get? b=some o->h'.get? b=some o)->h'.get? s.heap.objs.size=some { cls:=.type "list",dict:=none,data:=.seq acc c,slots:=#[] }->ItemsOf (λi v=>items[items.size - 1 - i]?=some v) acc items.size->Q (.ref s.heap.objs.size) { s with heap:=h',toks:=tk }):
  wpAny (model prog w) A (call (.type "list") [.ref J]) Q E s:=by
 have lt:∀{b:Addr}{o:Obj},s.heap.get? b=some o->b≠s.heap.objs.size:=λe=>bP (aE e)
 have nJ:J≠s.heap.objs.size:=let ⟨_,e,_⟩:=hit;lt e
 have nl:l≠s.heap.objs.size:=let ⟨_,e,_⟩:=hl;lt e
 refine callType_codes (Q₁:=λx t=>x=.ref s.heap.objs.size/\t={ s with heap:=s.heap.push { cls:=.type "list",data:=.seq #[] } }) F.called_list (F.typeCall_list_1 _) F.entry_list_init (code_list_new _ ⟨rfl,rfl⟩) λx t ht=>?_
 obtain⟨rfl,rfl⟩:=ht
 have hN:(s.heap.push { cls:=.type "list",data:=.seq #[] }).get? s.heap.objs.size=some { cls:=.type "list",data:=.seq #[] }:=ba _ rfl
 refine⟨⟨_,hN,rfl⟩,F.args_list_init_2 _ _,?_⟩
 generalize hS:s.heap.objs.size=N at *
 have up:∀b o,b≠N->s.heap.get? b=some o->((s.heap.push { cls:=.type "list",data:=.seq #[] }).update N (Obj.mapSeq (λ_=>(#[]:pb)))).get? b=some o:=λb o hb e=>(d6 _ _ (eS hb)).trans (am _ e)
 show wpAny _ A.in1.in1 (do let old ← Builtin.List.listItems (.ref N);Builtin.List.listUpdate (.ref N) (λ_=>#[]);letGo old.toList.reverse;Builtin.List.listExtendWith (.ref N) (.ref J) .none) _ _ _
 refine ab ?_;unfold Builtin.List.listItems
 refine ab (ib hN rfl (ay ?_))
 show wpAny _ A.in1.in1 (updateSeq N (λ_=>#[]) >>= λ_=>letGo (#[]:pb).toList.reverse >>= λ_=>Builtin.List.listExtendWith (.ref N) (.ref J) .none) _ _ _
 refine ab (iE hN rfl (ab (wpAny_letGo ?_)))
 have hN2:=cS (Obj.mapSeq (λ_=>(#[]:pb))) hN rfl
 refine JH (A:=A.in1) hh (hit.at λo e=>up J o nJ e) (hl.at λo e=>up l o nl e) hlJ (eS nJ) (eS nl) hn hN2 λh' tk acc c k e it=>⟨rfl,hQ h' tk acc c (λb o hb eb=>k b o hb (hS▸lt eb) (up b o (hS▸lt eb) eb)) e it⟩
end
def Itv (K:W.Frag)(a:Addr)(n:Nat):It:=
 ⟨λi H=>∃xs x,F7 K H a xs/\xs.length=n/\i < n/\xs[n - 1 - i]?=some x,λi H x H'=>H'=H/\∀xs,F7 K H a xs->xs[n - 1 - i]?=some x,λi _=>n=i⟩
theorem O9 {P:Program}{w:World}{K:W.Frag}{tg:Expr}(a it:Addr)(n:Nat):Turn P w K tg (Itv K a n) [it] it (λi h=>h.IsRevIter it a ((n:Int) - 1 - ((i:Nat):Int))) where
 mem:=by simp
 obj:=λi h st b hb=>by
  obtain⟨o,e,c,d⟩:=st
  exact⟨o,by rw[aS.mp hb];exact e,λv z=>by rw[d] at z;cases z⟩
 keep:=λi h h' st k=>st.at λo e=>k it af o e
 item:=by
  intro X hP hw hK hc i Fs s σ H E I hf st hg
  subst hP hw hK
  obtain⟨xs,x,hq,hlen,IT,hx⟩:=hg
  obtain⟨FD,rv,p,hz⟩:=I.list hq
  obtain⟨u,hu,ru⟩:=rv.get hx
  obtain⟨f0,f1,f2,f3,f4,f5⟩:=hf it af
  have e1:(n:Int) - 1 - ((i:Nat):Int)=((n - 1 - i:Nat):Int):=by omega
  have st1:=st
  rw[e1] at st1
  refine wpAny_pyNext_rev_item st1 p.isList (x:=u) (by simpa using hu) λh' OE sb=>?_
  have e2:((n - 1 - i:Nat):Int) - 1=(n:Int) - 1 - ((i+1:Nat):Int):=by omega
  rw[e2] at OE
  obtain⟨o,e,c,d⟩:=id OE
  exact⟨u,rfl,wQ (s:={ s with heap:=h' }) e c d (by decide) ⟨x,H,I.turned (t':=s.toks) (λb o hb q=>(sb.2 b hb).trans q) f0 f1 f3 f4 f5,ru,⟨rfl,λys hy=>by rw[I.KG hy hq];exact hx⟩,OE,λb hb=>(hf b hb).1⟩⟩
 done:=by
  intro X hP hw hK hc i Fs s σ H E I hf st hg
  subst hP hw hK
  obtain⟨f0,f1,f2,f3,f4,f5⟩:=hf it af
  have hg':n=i:=hg
  have e1:(n:Int) - 1 - ((i:Nat):Int)=-1:=by omega
  rw[e1] at st
  exact wpAny_pyNext_rev_end (I.ok.hd hc) st λh' eb=>⟨rfl,I.turned (t':=s.toks) (λb o hb q=>eb b o hb q) f0 f1 f3 f4 f5⟩
 self:=λ_ _ _ _ _ st h=>ki st h
section
variable {X:Cx}{tg:Expr}
def YZ (K:W.Frag)(ta:TA):TI:=fun σ H R=>ta σ H λvs H1=>∃a xs,vs=[.ref a]/\F7 K H1 a xs/\R (Itv K a xs.length) H1
theorem Vw {l:Expr}{ta:TA}{p pos:Pos}(hg:Gl X "reversed")(hm:X.mg "reversed" = none)(ha:PA X [l] ta)(hb:bootBuiltins "reversed" = some (.type "reversed"))(hs:autoParam (starEach [l] X.env=(false,eval l X.env)::starEach [] X.env) r0_)(hp:autoParam ((backTo pos (starEach [] X.env)).any (·.1)=false) r0_):
  PI X tg (.Call (.Name "reversed" p) [l] [] pos) (YZ X.K ta):=by
 intro Fs s σ H R I h
 refine Call_ (fK I hg hm hb (bp (F2 (ha pos Fs s σ H _ I h) ?_) hs hp))
 rintro us s1 ⟨vs,H1,I1,r1,q1⟩
 obtain⟨a,xs,e,hq,q⟩:=q1
 subst e
 obtain⟨u,rfl,ru⟩:=vals1 r1
 cases ru
 obtain⟨FD,rv,p,hz⟩:=I1.list hq
 refine call_reversed_list p.isList ?_
 have hlen:=rv.length
 have ez:((FD.toArray.size:Nat):Int) - 1=(xs.length:Int) - 1 - ((0:Nat):Int):=by rw[a7];omega
 rw[ez]
 refine ki ⟨_,ba _ rfl,rfl,rfl⟩ ⟨s1.heap.objs.size,[s1.heap.objs.size],_,_,H1,rfl,I1.kept (t':=s1.toks) λb o e=>am _ e,O9 a _ xs.length,⟨_,ba _ rfl,rfl,rfl⟩,λb hb=>?_,q⟩
 rw[aS.mp hb]
 exact I1.N9 (aw _) (I1.FL.fresh (aw _))
theorem Mr {xs:List V}{FD:oB}(r:Vals xs FD)(acc:oB)(hl:acc.length=FD.length)(h:∀(i:Nat) v,acc[i]?=some v->FD[FD.length - 1 - i]?=some v):Vals xs.reverse acc:=by
 have e:acc=FD.reverse:=by
  refine hV λi=>?_
  rcases dv i acc.length with hi | hi
  ·have:=h i acc[i] (ah hi)
   rw[ah hi,mT (by omega),this]
  ·rw[bo hi,bo (by rw[kF];omega)]
 rw[e]
 exact r.reverse
def Vx (K:W.Frag)(ta:TA):TE:=fun σ H Q=>ta σ H λvs H1=>∃a xs,vs=[.ref a]/\F7 K H1 a xs/\∀l,H1 l=none->Q (.ref l) (upd H1 l (.lst xs.reverse))
theorem O_ {a:Expr}{ta:TA}{p p2 pos F4:Pos}(hg:Gl X "list")(hm:X.mg "list" = none)(Pp:Gl X "reversed")(L4:X.mg "reversed" = none)(hb:bootBuiltins "reversed" = some (.type "reversed"))(hc:X.calm=true)(ha:PA X [a] ta)(hs:autoParam (starEach [a] X.env=(false,eval a X.env)::starEach [] X.env) r0_)(O0:autoParam ((backTo F4 (starEach [] X.env)).any (·.1)=false) r0_)
  (Kn:autoParam (starEach [.Call (.Name "reversed" p2) [a] [] F4] X.env=(false,eval (.Call (.Name "reversed" p2) [a] [] F4) X.env)::starEach [] X.env) r0_) (HM:autoParam ((backTo pos (starEach [] X.env)).any (·.1)=false) r0_):
  PE X (.Call (.Name "list" p) [.Call (.Name "reversed" p2) [a] [] F4] [] pos) (Vx X.K ta):=by
 intro Fs s σ H Q I h
 refine eK (fK I hg hm fE (bp ?_ Kn HM) (by decide) (by decide))
 rw[Kn]
 show wpAny _ _ (spliced ((false,eval (.Call (.Name "reversed" p2) [a] [] F4) X.env)::backTo pos (starEach [] X.env))) _ _ s
 refine d0 (Call_ (fK I Pp L4 hb (bp (F2 (ha F4 Fs s σ H _ I h) ?_) hs O0)))
 rintro us s1 ⟨vs,H1,I1,r1,q1⟩
 obtain⟨a,xs,e,hq,q⟩:=q1
 subst e
 obtain⟨u,rfl,ru⟩:=vals1 r1
 cases ru
 obtain⟨FD,rv,pl,hz⟩:=I1.list hq
 have hlen:=rv.length
 have IT:a≠s1.heap.objs.size:=let ⟨_,e,_⟩:=pl.isList;bP (aE e)
 refine call_reversed_list pl.isList (fm ?_)
 refine C_ (I1.ok.hd hc) ⟨_,ba _ rfl,rfl,rfl⟩ (pl.isList.at λo e=>am _ e) IT (by rw[a7];omega) λh' tk acc c k e it=>?_
 obtain⟨i1,i2⟩:=it
 rw[a7] at i1
 have hv:Vals xs.reverse acc.toList:=Mr rv acc.toList (by simpa using i1) λi v hi=>by
  have:=i2 i v (by simpa using hi)
  simpa using this
 have I2:=I1.laid (a:=s1.heap.objs.size+1) (o:=.lst xs.reverse) (h':=h') (t':=tk) (λb o eb=>k b o (bP (aE eb)) (am _ eb)) (by omega)
  (show FX X.prog X.w X.K _ h' _ (.lst xs.reverse) from ⟨(by rw[kF];exact hz),acc.toList,c,hv,by
   have:=e
   rw[dS] at this
   simpa using this⟩)
 refine⟨.ref (s1.heap.objs.size+1),_,I2,?_,q _ (I1.FL.fresh (by omega))⟩
 show Value.ref _=Value.ref _
 rw[dS]
end
end Lake.L2
namespace Lake.MR
open PySem L2
section
variable {X:Cx}{b:BX}{G G' L:oz}{ro:Bool}{pos p p2 F4:Pos}{m m1 m2:Md}{e e1 e2:Expr}{f f1 f2 h:pc}
theorem JK {x q:PV}(e:DW x=some q):∃n:Nat,x=.int (n:Nat)/\n<=1000000/\q=.lst (dO 0 (n:Nat)):=by
 unfold DW at e
 split at e
 ·split at e
  ·rename_i j hj
   cases e
   have ej:j=((j.toNat:Nat):Int):=by omega
   exact⟨j.toNat,by rw[← ej],by omega,by rw[← ej]⟩
  ·cases e
 ·cases e
theorem Pa (hm:X.mg "list" = none)(L4:X.mg "range" = none)(h:SE X b G m1 e f)(hc:autoParam (X.calm=true) r0_)(hg:Gl X "list" := by rfl)(Pp:Gl X "range" := by rfl)(hs:autoParam (starEach [e] X.env=[(false,eval e X.env)]) r0_)(MM:autoParam (starEach [e] X.env=(false,eval e X.env)::starEach [] X.env) r0_)
  (Kn:autoParam (starEach [.Call (.Name "range" p2) [e] [] F4] X.env=(false,eval (.Call (.Name "range" p2) [e] [] F4) X.env)::starEach [] X.env) r0_) (HM:autoParam ((backTo pos (starEach [] X.env)).any (·.1)=false) r0_):
  SE X b G .own (.Call (.Name "list" p) [.Call (.Name "range" p2) [e] [] F4] [] pos) (b1 DW f):=by
 refine PE.imp (O7 hg hm Pp L4 hc (bW h.bor dJ MM) hs Kn HM) ?_
 rintro σ H Q ⟨Ow,env,q,E,hf,k⟩
 obtain⟨x,hx,hf⟩:=aC hf
 obtain⟨n,rfl,hn,rfl⟩:=JK hf
 refine⟨Ow,env,_,E,hx,λv H1 s r=>?_⟩
 have r1:FF b.C (Bs b Ow) H1 v (.int (n:Nat)):=r
 refine⟨n,by rw[r1.int],hn,λl hl=>k _ _ (s.new hl _) (Res.down s (eZ hl ?_))⟩
 have rr:FA b.C (Bs b Ow) H1 ((List.range n).map λi=>V.int (i:Nat)) ((List.range n).map λi=>PV.int (i:Nat)):=tY _ _ (λi=>.int _) _
 have e1:dO 0 (n:Nat)=(List.range n).map λi=>PV.int (i:Nat):=by unfold dO;simp
 rw[e1]
 exact rr
theorem JL {x q:PV}(e:DX x=some q):∃xs,x=.lst xs/\q=.lst xs.reverse:=by
 unfold DX at e
 split at e
 ·cases e;exact⟨_,rfl,rfl⟩
 ·cases e
theorem Pb (hm:X.mg "list" = none)(L4:X.mg "reversed" = none)(h:SE X b G m1 e f)(hb:autoParam (bootBuiltins "reversed" = some (.type "reversed")) r3_)(hK:autoParam (X.K=b.C.K) r0_)(hc:autoParam (X.calm=true) r0_)(hg:Gl X "list" := by rfl)(Pp:Gl X "reversed" := by rfl)(MM:autoParam (starEach [e] X.env=(false,eval e X.env)::starEach [] X.env) r0_)(O0:autoParam ((backTo F4 (starEach [] X.env)).any (·.1)=false) r0_)
  (Kn:autoParam (starEach [.Call (.Name "reversed" p2) [e] [] F4] X.env=(false,eval (.Call (.Name "reversed" p2) [e] [] F4) X.env)::starEach [] X.env) r0_) (HM:autoParam ((backTo pos (starEach [] X.env)).any (·.1)=false) r0_):
  SE X b G .own (.Call (.Name "list" p) [.Call (.Name "reversed" p2) [e] [] F4] [] pos) (b1 DX f):=by
 refine PE.imp (O_ hg hm Pp L4 hb hc (bW h.bor dJ MM) MM O0 Kn HM) ?_
 rintro σ H Q ⟨Ow,env,q,E,hf,k⟩
 rw[hK]
 obtain⟨x,hx,hf⟩:=aC hf
 obtain⟨xs,rfl,rfl⟩:=JL hf
 refine⟨Ow,env,_,E,hx,λv H1 s r=>?_⟩
 have r1:FF b.C (Bs b Ow) H1 v (.lst xs):=r
 obtain⟨a,vs,rfl,ha,ra⟩:=r1.lst
 exact⟨a,vs,rfl,F7.of ha,λl hl=>k _ _ (s.new hl _) (Res.down s (eZ hl ra.reverse))⟩
theorem Vy {fr:Bool}{tg:Expr}(hm:X.mg "reversed" = none)(he:SE X b G m1 e h)(hmd:fr=true->m1≠.bor)(hb:autoParam (bootBuiltins "reversed" = some (.type "reversed")) r3_)(hK:autoParam (X.K=b.C.K) r0_)(hg:Gl X "reversed" := by rfl)(hs:autoParam (starEach [e] X.env=(false,eval e X.env)::starEach [] X.env) r0_)(hp:autoParam ((backTo pos (starEach [] X.env)).any (·.1)=false) r0_):
  SI X b G fr tg (.Call (.Name "reversed" p) [e] [] pos) (iRv h):=by
 refine PI.imp (Vw hg hm (bW he dJ hs) hb hs hp) ?_
 rintro σ H R ⟨Ow,env,ps,E,hf,k⟩
 rw[hK]
 obtain⟨x,hx,IQ⟩:=aC hf
 clear hf
 refine⟨Ow,env,x,E,hx,λv H1 s r=>?_⟩
 have r1:FF b.C (Bs b Ow) H1 v x:=r.bor
 cases x <;> simp only at IQ <;> cases IQ
 rename_i xs
 obtain⟨a,vs,rfl,ha,ra⟩:=r1.lst
 refine⟨a,vs,rfl,F7.of ha,k _ _ s λFV H2 h0 h1 hn=>?_⟩
 have hq:H2 a=some (.lst vs)/\FA b.C (Bs b FV) H2 vs xs:=by
  refine⟨?_,ra.ex h1⟩
  cases fr with
  | false=>exact h0 rfl _ _ ha
  | true=>
   have rv:Rep b.C (Bs b Ow) H1 (.ref a) (.lst _):=r.val E (hmd rfl)
   cases rv with
   | lst q1 q2 q3=>rw[ha] at q1;cases q1;exact((h1 _ _ ha).1 q2).1
 have hlen:=hq.2.length
 refine⟨λi p MX=>?_,?_⟩
 ·rcases dv i xs.length with z | z
  ·rw[mT z] at MX
   obtain⟨u,hu,ru⟩:=hq.2.get MX
   rw[← hlen] at hu
   refine⟨⟨vs,u,F7.of hq.1,rfl,by omega,hu⟩,λy H' yl=>?_⟩
   obtain⟨e1,e2⟩:=yl
   subst e1
   have e3:=e2 vs (F7.of hq.1)
   rw[hu] at e3
   cases e3
   exact⟨FE.refl _,ru⟩
  ·rw[bo (by simpa using z)] at MX
   cases MX
 ·show vs.length=xs.reverse.length
  rw[kF]
  exact hlen
end
end Lake.MR
namespace Lake.MR
theorem Fw {α:Type}{n:Nat}{us:List α}(hl:us.length=n+1):∃a r,us=a::r/\r.length=n:=by
 cases us with
 | nil=>cases hl
 | cons a r=>exact⟨a,r,rfl,oq hl⟩
@[elab_as_elim] theorem len0 {α:Type}{P:List α->Prop}(us:List α)(hl:us.length=0)(h:P []):P us:=by
 cases us with
 | nil=>exact h
 | cons a r=>cases hl
@[elab_as_elim] theorem Y0 {α:Type}{P:List α->Prop}(us:List α)(hl:us.length=1)(h:∀a,P [a]):P us:=by
 obtain⟨a,r,rfl,hr⟩:=Fw hl
 exact len0 (P:=λr=>P (a::r)) r hr (h a)
@[elab_as_elim] theorem Y4 {α:Type}{P:List α->Prop}(us:List α)(hl:us.length=2)(h:∀a b,P [a,b]):P us:=by
 obtain⟨a,r,rfl,hr⟩:=Fw hl
 exact Y0 (P:=λr=>P (a::r)) r hr (h a)
@[elab_as_elim] theorem Y5 {α:Type}{P:List α->Prop}(us:List α)(hl:us.length=3)(h:∀a b c,P [a,b,c]):P us:=by
 obtain⟨a,r,rfl,hr⟩:=Fw hl
 exact Y4 (P:=λr=>P (a::r)) r hr (h a)
@[elab_as_elim] theorem Y6 {α:Type}{P:List α->Prop}(us:List α)(hl:us.length=4)(h:∀a b c d,P [a,b,c,d]):P us:=by
 obtain⟨a,r,rfl,hr⟩:=Fw hl
 exact Y5 (P:=λr=>P (a::r)) r hr (h a)
@[elab_as_elim] theorem Z9 {α:Type}{P:List α->Prop}(us:List α)(hl:us.length=5)(h:∀a b c d e,P [a,b,c,d,e]):P us:=by
 obtain⟨a,r,rfl,hr⟩:=Fw hl
 exact Y6 (P:=λr=>P (a::r)) r hr (h a)
end Lake.MR
namespace Lake.L2
open PySem PySem.Spec PyProof.Rows
section
variable {K:W.Frag}{x q:Str}{st:Stmt}{f:Addr}{fd:FuncData}{ps:List Str}(F:LB K x q st f fd)
include F
theorem LB.OA (hl:autoParam (ps.length=1) r0_)(h:autoParam (∀k d p n c t a,bindArgs (W.fnOf x q (tX st) (oE st) (aB st) .none k d p n c t) ⟨[a],[]⟩=pure (ps.zip [a])) r8_):Binds K fd ps []:=F.binds λk d p n c t us e=>MR.Y0 us (e.trans hl) (h k d p n c t)
theorem LB.Lm (hl:autoParam (ps.length=2) r0_)(h:autoParam (∀k d p n c t a b,bindArgs (W.fnOf x q (tX st) (oE st) (aB st) .none k d p n c t) ⟨[a,b],[]⟩=pure (ps.zip [a,b])) r8_):Binds K fd ps []:=F.binds λk d p n c t us e=>MR.Y4 us (e.trans hl) (h k d p n c t)
theorem LB.X1 (hl:autoParam (ps.length=3) r0_)(h:autoParam (∀k d p n c t a b g,bindArgs (W.fnOf x q (tX st) (oE st) (aB st) .none k d p n c t) ⟨[a,b,g],[]⟩=pure (ps.zip [a,b,g])) r8_):Binds K fd ps []:=F.binds λk d p n c t us e=>MR.Y5 us (e.trans hl) (h k d p n c t)
theorem LB.bd4 (hl:autoParam (ps.length=4) r0_)(h:autoParam (∀k d p n c t a b g i,bindArgs (W.fnOf x q (tX st) (oE st) (aB st) .none k d p n c t) ⟨[a,b,g,i],[]⟩=pure (ps.zip [a,b,g,i])) r8_):Binds K fd ps []:=F.binds λk d p n c t us e=>MR.Y6 us (e.trans hl) (h k d p n c t)
theorem LB.bd5 (hl:autoParam (ps.length=5) r0_)(h:autoParam (∀k d p n c t a b g i j,bindArgs (W.fnOf x q (tX st) (oE st) (aB st) .none k d p n c t) ⟨[a,b,g,i,j],[]⟩=pure (ps.zip [a,b,g,i,j])) r8_):Binds K fd ps []:=F.binds λk d p n c t us e=>MR.Z9 us (e.trans hl) (h k d p n c t)
end
section
variable {prog:Program}{w:World}{A:Around}{E:ox}{s:Shared}
theorem nextT {it t:Addr}{i:Nat}{items:pb}{x:Value}{Q:ox}(hit:s.heap.IsTupleIter it t i)(ht:s.heap.IsTuple t items)(hx:items[i]?=some x)
  (hQ:∀h',h'.IsTupleIter it t (i+1)->Heap.SameBut it s.heap h'->Q x { s with heap:=h' }):wpAny (model prog w) A (Builtin.SmallTypes.nextOf (.ref it)) Q E s:=by
 obtain⟨o,eo,co,fo⟩:=id hit
 obtain⟨p,ep,_,np,dp⟩:=ht
 unfold Builtin.SmallTypes.nextOf
 refine ab (dQ (name:=Str.ofString "__next__") hit.typeIs f8 (eM f8 hit.typeIs kG ?_ (ku _)))
 show wpAny _ _ (field (.ref it) 0 >>= _) _ _ _
 refine ab (gt eo fo (x:=.ref t) rfl ?_)
 show wpAny _ _ (if (Value.ref t == Value.none)=true then _ else _) _ _ _
 rw[ap (λz:(Value.ref t == Value.none)=true=>aT z)]
 show wpAny _ _ (field (.ref it) 1 >>= _) _ _ _
 refine ab (gt eo fo (x:=.int i 0) rfl ?_)
 show wpAny _ _ (seqItems? (.ref t) >>= _) _ _ _
 refine ab (ib ep dp ?_);simp only[g7,hx]
 refine ab (kL eo fo (by simp) (ay ⟨x,rfl,ay (hQ _ ⟨_,cS _ eo (Obj.isFreed_of_fields (iL fo _)),(Obj.cls_mapFields ..).trans co,?_⟩ (cq ..))⟩))
 rw[iL fo]
 rfl
theorem Ms {it t:Addr}{i:Nat}{items:pb}{Q:ox}(hh:A.handled=none)(hit:s.heap.IsTupleIter it t i)(ht:s.heap.IsTuple t items)(hx:items[i]?=none)
  (hE:∀h' e,Heap.ExtBut it s.heap h'->(∃o,h'.get? e=some o/\o.cls=.type "StopIteration")->E (.ref e) { s with heap:=h' }):wpAny (model prog w) A (Builtin.SmallTypes.nextOf (.ref it)) Q E s:=by
 obtain⟨o,eo,co,fo⟩:=id hit
 obtain⟨p,ep,_,np,dp⟩:=ht
 unfold Builtin.SmallTypes.nextOf
 refine ab (dQ (name:=Str.ofString "__next__") hit.typeIs f8 (eM f8 hit.typeIs kG ?_ (ku _)))
 show wpAny _ _ (field (.ref it) 0 >>= _) _ _ _
 refine ab (gt eo fo (x:=.ref t) rfl ?_)
 show wpAny _ _ (if (Value.ref t == Value.none)=true then _ else _) _ _ _
 rw[ap (λz:(Value.ref t == Value.none)=true=>aT z)]
 show wpAny _ _ (field (.ref it) 1 >>= _) _ _ _
 refine ab (gt eo fo (x:=.int i 0) rfl ?_)
 show wpAny _ _ (seqItems? (.ref t) >>= _) _ _ _
 refine ab (ib ep dp ?_);simp only[g7,hx]
 refine ab (oi (ab (kL eo fo (by simp) ?_)))
 show wpAny _ _ (newExc (.type "StopIteration") [] >>= _) _ _ _
 refine ab ?_;simp only[newExc,newTuple]
 refine ab (gg (ab (m:=firstArgMember _ _) (wpAny_of_eq (a:=Value.none) (by first | rfl | (simp only[firstArgMember];rfl)) (gg ?_ (by size_fits)))) (by size_fits))
 simp only[raiseNew]
 refine ab (wpAny_handled ?_);rw[hh]
 refine ab (ay (wpAny_throw ?_))
 exact hE _ _ (((cq ..).extBut.push _).push _) ⟨_,ba _ rfl,rfl⟩
theorem Vz (hh:A.handled=none)(it t:Addr)(HU:t≠it)(items:pb):Draws prog w A it [it,t] items.size (λi v=>items[i]?=some v) (λi h=>h.IsTupleIter it t i/\h.IsTuple t items) where
 live:=λi h st=>let ⟨o,e,_⟩:=st.1;⟨o,e⟩
 frame:=λi h h' st k=>⟨st.1.at λo e=>k it (by simp) o e,let ⟨o,e,c⟩:=st.2;⟨o,k t (by simp) o e,c⟩⟩
 item:=λi s Q E hi st hQ=>nextT st.1 st.2 (cE hi) λh' a b=>hQ _ h' s.toks (cE hi) ⟨a,let ⟨o,e,c⟩:=st.2;⟨o,(b.2 t HU).trans e,c⟩⟩ b
 done:=λs Q E st hE=>Ms hh st.1 st.2 (i6 (aw _)) hE
structure ZA (z TI TO i1 i2:Addr)(fp1 fp2:o0):Prop where
 TIz:TI≠z
 TOz:TO≠z
 TIO:TI≠TO
 m1:i1∈fp1
 m2:i2∈fp2
 z1:z∉fp1
 z2:z∉fp2
 o1:TO∉fp1
 o2:TO∉fp2
 x12:i1∉fp2
 x21:i2∉fp1
variable {z TI TO i1 i2:Addr}{fp1 fp2:o0}{n1 n2:Nat}{P1 P2:Nat->Value->Prop}{St1 St2:Nat->Heap->Prop}
theorem ZA.i1z (D:ZA z TI TO i1 i2 fp1 fp2):i1≠z:=λe=>D.z1 (e▸D.m1)
theorem ZA.i2z (D:ZA z TI TO i1 i2 fp1 fp2):i2≠z:=λe=>D.z2 (e▸D.m2)
end
inductive SK where | L | T
def SK.ty:SK->String
 | .L => "list_iterator"
 | .T => "tuple_iterator"
def SK.is (k:SK)(h:Heap)(a:Addr)(items:pb):Prop:=match k with
 | .L=>h.IsList a items
 | .T=>h.IsTuple a items
def SK.at (k:SK)(h:Heap)(it a:Addr)(i:Nat):Prop:=match k with
 | .L=>h.IsListIter it a i
 | .T=>h.IsTupleIter it a i
theorem SK.at_of {k:SK}{h:Heap}{it a:Addr}(e:h.get? it=some { cls:=.type k.ty,data:=.fields #[.ref a,.int 0 0] }):k.at h it a 0:=by
 cases k with
 | L=>exact⟨_,e,rfl,rfl⟩
 | T=>exact⟨_,e,rfl,rfl⟩
theorem SK.Pw {k:SK}{h:Heap}{it a:Addr}{i:Nat}(st:k.at h it a i):∃o,h.get? it=some o/\∀v,o.data≠.cell v:=by
 cases k with
 | L=>obtain⟨o,e,c,d⟩:=st;exact⟨o,e,λv y=>by rw[d] at y;cases y⟩
 | T=>obtain⟨o,e,c,d⟩:=st;exact⟨o,e,λv y=>by rw[d] at y;cases y⟩
theorem SK.P9 {k:SK}{h h':Heap}{it a:Addr}{i:Nat}(st:k.at h it a i)(q:∀o,h.get? it=some o->h'.get? it=some o):k.at h' it a i:=by
 cases k with
 | L=>exact Heap.IsListIter.at st q
 | T=>exact Heap.IsTupleIter.at st q
theorem SK.is_lt {k:SK}{h:Heap}{a:Addr}{items:pb}(p:k.is h a items):a < h.objs.size:=by
 cases k with
 | L=>obtain⟨o,e,_⟩:=p;exact aE e
 | T=>obtain⟨o,e,_⟩:=p;exact aE e
theorem SK.draws {prog:Program}{w:World}{A:Around}(k:SK)(hh:A.handled=none)(it a:Addr)(HU:a≠it)(items:pb):Draws prog w A it [it,a] items.size (λi v=>items[i]?=some v) (λi h=>k.at h it a i/\k.is h a items):=by
 cases k with
 | L=>exact Draws.list hh it a HU items
 | T=>exact Vz hh it a HU items
def SK.sq (k:SK)(K:W.Frag)(H:Hp)(a:Addr)(xs:List V):Prop:=match k with
 | .L=>F7 K H a xs
 | .T=>LD K H a xs
section
variable {X:Cx}{Fs:oy}{σ:St}{H:Hp}{s:Shared}
theorem Inv.sk (I:Inv X Fs σ H s){k:SK}{a:Addr}{xs:List V}(h:k.sq X.K H a xs):∃FD:List Value,Vals xs FD/\k.is s.heap a FD.toArray:=by
 cases k with
 | L=>obtain⟨FD,r,p,_⟩:=I.list h;exact⟨FD,r,p.isList⟩
 | T=>obtain⟨FD,r,p,_⟩:=I.tuple h;exact⟨FD,r,p⟩
theorem Inv.sk_inj (I:Inv X Fs σ H s){k:SK}{a:Addr}{xs ys:List V}(h:k.sq X.K H a xs)(h':k.sq X.K H a ys):xs=ys:=by
 cases k with
 | L=>exact I.KG h h'
 | T=>exact I.NV h h'
end
end Lake.L2
namespace Lake.MR
open PySem L2
@[simp] noncomputable def oG:PV->Option (List PV)
 | .lst xs=>some xs
 | .frz xs=>some xs
 | .tup xs=>some xs
 | .ktp xs=>some xs
 | _=>none
def kd:PV->SK
 | .tup _=>.T
 | .ktp _=>.T
 | _=>.L
noncomputable def iZ2 (f g:pc)(env:Env):Option (List PV):=(f env).bind λp=>(g env).bind λq=>(oG p).bind λxs=>(oG q).bind λys=>some (jr xs ys)
@[simp] theorem ZK (f g:pc)(env:Env):iZ2 f g env=((f env).bind λp=>(g env).bind λq=>(oG p).bind λxs=>(oG q).bind λys=>some (jr xs ys)):=id rfl
section
variable {X:Cx}{b:BX}{G G' L:oz}{ro:Bool}{pos p:Pos}{m m1 m2:Md}{e e1 e2:Expr}
theorem Pg {Ow:Addr->Prop}{σ:St}{env:Env}{H H2:Hp}{fr:Bool}{v:V}{p:PV}{xs:List PV}(E:ER b Ow G σ env H)(r:Res b Ow H H2 m v p)(hmd:fr=true->m≠.bor)(hs:oG p=some xs):
  ∃a vs,v=.ref a/\SK.sq (kd p) b.C.K H2 a vs/\FA b.C (Bs b Ow) H2 vs xs/\∀FV H3,(fr=false->FE H2 H3)->Ex (Bs b Ow) H2 (Bs b FV) H3->SK.sq (kd p) b.C.K H3 a vs/\FA b.C (Bs b FV) H3 vs xs:=by
 have b1:FF b.C (Bs b Ow) H2 v p:=r.bor
 unfold oG at hs
 split at hs
 ·cases hs
  obtain⟨a,vs,rfl,ha,ra⟩:=b1.lst
  refine⟨a,vs,rfl,F7.of ha,ra,λFV H3 h0 hx=>?_⟩
  have hq:H3 a=some (.lst vs):=by
   cases fr with
   | false=>exact h0 rfl _ _ ha
   | true=>
    have rv:Rep b.C (Bs b Ow) H2 (.ref a) (.lst _):=r.val E (hmd rfl)
    cases rv with
    | lst q1 q2 q3=>rw[ha] at q1;cases q1;exact((hx _ _ ha).1 q2).1
  exact⟨F7.of hq,ra.ex hx⟩
 ·cases hs
  have r1:Rep b.C (Bs b Ow) H2 v (.frz _):=(by rcases b1 with z | ⟨_,_,z⟩;exact z;exact z.elim)
  cases r1 with
  | QY q1 q3=>exact⟨_,_,rfl,.inl (.inr ⟨_,q1⟩),q3,λFV H3 h0 hx=>⟨.inl (.inr ⟨_,(hx _ _ q1).2 rfl⟩),q3.ex hx⟩⟩
  | lstK q1 q3=>exact⟨_,_,rfl,sqK q1,q3,λFV H3 h0 hx=>⟨sqK q1,q3.ex hx⟩⟩
 ·cases hs
  obtain⟨a,vs,rfl,ha,ra⟩:=b1.tup
  exact⟨a,vs,rfl,ha.sq,ra,λFV H3 h0 hx=>⟨(ha.ex hx).sq,ra.ex hx⟩⟩
 ·cases hs
  have r1:Rep b.C (Bs b Ow) H2 v (.ktp _):=(by rcases b1 with z | ⟨_,_,z⟩;exact z;exact z.elim)
  cases r1 with
  | tupK q1 q3=>exact⟨_,_,rfl,ym q1,q3,λFV H3 h0 hx=>⟨ym q1,q3.ex hx⟩⟩
 ·cases hs
theorem PI.all {α:Type}{tg iter:Expr}{wi:α->TI}(h:∀a,PI X tg iter (wi a)):PI X tg iter (fun σ H R=>∃a,wi a σ H R):=λFs s σ H R I ⟨a,q⟩=>h a Fs s σ H R I q
end
end Lake.MR
namespace Lake.MR
open PySem L2
section
variable {X:Cx}{b:BX}{G G' L:oz}{pos p p2 F4:Pos}{m m1 m2:Md}{e:Expr}{f:pc}
@[simp] noncomputable def ZL:PV->PV->Option PV
 | .str z,.tup xs=>(KI xs).bind λzs=>if z.length<=64/\(zs.map (·.length)).sum+zs.length*64<=16777216 then some (.str (Str.join z zs)) else none
 | x,y=>wW x y
end
end Lake.MR
namespace Lake.MR
open PySem L2
section
variable {X:Cx}{b:BX}{G G' L:oz}{pos p p2 F4:Pos}{m m1 m2:Md}{e:Expr}{f:pc}
@[simp] noncomputable def Ki:List PV->Option (List Int)
 | []=>some []
 | .int c::r=>(Ki r).map (c::·)
 | _::_=>none
theorem FA.Ki {C:MC}{A:Addr->Prop}{H:Hp}:∀{vs:List V}{ps:List PV}{bs:oQ},FA C A H vs ps->Ki ps=some bs->vs=bs.map V.int
 | _,_,_,.nil,e=>by cases e;rfl
 | _,_,_,.cons (p:=p) (ps:=ps) h t,e=>by
  cases p <;> simp only[MR.Ki] at e <;> first | cases e | skip
  rename_i c
  cases q:MR.Ki ps with
  | none=>rw[q] at e;cases e
  | some bs=>rw[q] at e;cases e;cases h;rw[FA.Ki t q];rfl
end
end Lake.MR
namespace Lake.L2
open PySem PySem.Spec PyProof.Rows
def OS (h:Heap)(a t:Addr)(i:Int):Prop:=∃o,h.get? a=some o/\o.cls=.type "reversed" /\ o.data=.fields #[.ref t,rawInt i]
theorem OS.typeIs {s:Shared}{a l:Addr}{i:Int}(x:OS s.heap a l i):s.TypeIs (.ref a) "reversed" := let ⟨o,ho,hc,_⟩:=x;⟨o,ho,hc⟩
theorem OS.at {h h':Heap}{a l:Addr}{i:Int}(x:OS h a l i)(e:∀o,h.get? a=some o->h'.get? a=some o):OS h' a l i:=let ⟨o,ho,r⟩:=x;⟨o,e _ ho,r⟩
end Lake.L2
namespace Lake.MR
open PySem L2
section
variable {X:Cx}{b:BX}{G G' L:oz}{ro:Bool}{pos p p2 F4:Pos}{m m1 m2:Md}{e:Expr}{h:pc}
noncomputable def Y7 (f:pc)(env:Env):Option (List PV):=(f env).bind λp=>(oG p).bind λxs=>some xs.reverse
@[simp] theorem Zm (f:pc)(env:Env):Y7 f env=((f env).bind λp=>(oG p).bind λxs=>some xs.reverse):=id rfl
end
end Lake.MR
namespace Lake.MR
open PySem L2
@[simp] noncomputable def VB:PV->Option (List PV)
 | .str x=>some (P7 x)
 | p=>oG p
noncomputable def iZ3 (f g:pc)(env:Env):Option (List PV):=(f env).bind λp=>(g env).bind λq=>(VB p).bind λxs=>(oG q).bind λys=>some (jr xs ys)
@[simp] theorem ZM (f g:pc)(env:Env):iZ3 f g env=((f env).bind λp=>(g env).bind λq=>(VB p).bind λxs=>(oG q).bind λys=>some (jr xs ys)):=id rfl
end Lake.MR
namespace Lake.MR
open PySem L2
section
variable {X:Cx}{b:BX}{G G' L:oz}{pos p p2 F4:Pos}{m m1 m2:Md}{e1 e2:Expr}{f1 f2:pc}
@[simp] noncomputable def Z_:PV->PV->Option PV
 | .int i,.int j=>some (.bl (decide (i < j)))
 | .lst xs,.lst ys=>(Ki xs).bind λns=>(Ki ys).bind λms=>some (.bl (HT.lexLt ns ms))
 | _,_=>none
end
end Lake.MR
namespace Lake.L2
open PySem PySem.Spec PyProof.Rows
noncomputable def en1 (k:SK)(h:Heap)(l:Addr):Heap:=h.push { cls:=.type k.ty,data:=.fields #[.ref l,.int 0 0] }
noncomputable def en2 (k:SK)(h:Heap)(l:Addr):Heap:=(en1 k h l).push { cls:=.type "enumerate",data:=.fields #[.none,.bool false,.ref h.objs.size,rawInt 0,.none,.none] }
theorem RM (k:SK)(l:Addr)(xs:pb):Meets (Builtin.«enumerate.__new__» ⟨[.type "enumerate",.ref l],[]⟩) (λ_ R s=>k.is s.heap l xs/\R (.ok (.ret (.ref (en1 k s.heap l).objs.size))) { s with heap:=en2 k s.heap l }):=
 .of_wp λprog w A R s h=>by
  obtain⟨hp,g,d,tk,os⟩:=s
  obtain⟨q1,h⟩:=h
  have hsub:=sub_enumerate
  cases k with
  | L=>
   have e1:Heap.IsList (Shared.heap ⟨hp,g,d,tk,os⟩) l xs:=q1
   wp_walk using gl e1
   refine wpAny_stack_any λst=>ay ?_
   split
   ·rename_i c _ _ _ _ _
    cases (c == Value.type "enumerate") <;> (wp_walk using gl e1;exact⟨_,rfl,h⟩)
   ·wp_walk using gl e1
    exact⟨_,rfl,h⟩
  | T=>
   have e1:Heap.IsTuple (Shared.heap ⟨hp,g,d,tk,os⟩) l xs:=q1
   wp_walk using iN e1
   refine wpAny_stack_any λst=>ay ?_
   split
   ·rename_i c _ _ _ _ _
    cases (c == Value.type "enumerate") <;> (wp_walk using iN e1;exact⟨_,rfl,h⟩)
   ·wp_walk using iN e1
    exact⟨_,rfl,h⟩
theorem JM {prog:Program}{w:World}{A:Around}{E:ox}{s:Shared}{k:SK}{l:Addr}{xs:pb}{Q:ox}(q1:k.is s.heap l xs)
  (h:∀h',IsEnum h' (s.heap.objs.size+1) s.heap.objs.size 0 .none->k.at h' s.heap.objs.size l 0->(∀b o,s.heap.get? b=some o->h'.get? b=some o)->Q (.ref (s.heap.objs.size+1)) { s with heap:=h' }):
  wpAny (model prog w) A (call (.type "enumerate") [.ref l]) Q E s:=by
 refine callType_new F.called_enumerate (by decide) (F.typeCall_enumerate_1 _) (F.newCall_enumerate_1 _) (λobj=>F.args_object_init_2 obj _) F.entry_enumerate_new (RM k l xs) ⟨q1,?_⟩
 have hz:(en1 k s.heap l).objs.size=s.heap.objs.size+1:=dS ..
 show _/\_
 rw[hz]
 have he:IsEnum (en2 k s.heap l) (s.heap.objs.size+1) s.heap.objs.size 0 .none:=by
  have z:=ba (en1 k s.heap l) (o:={ cls:=.type "enumerate",data:=.fields #[.none,.bool false,.ref s.heap.objs.size,rawInt 0,.none,.none] }) rfl
  rw[hz] at z
  exact z
 exact⟨⟨_,he,rfl⟩,h _ he (SK.at_of (am _ (ba _ rfl))) λb o x=>am _ (am _ x)⟩
def VD (K:W.Frag)(k:SK)(a:Addr):It:=
 ⟨λi H=>∃xs x,k.sq K H a xs/\xs[i]?=some x,λi H v H'=>∃t x,H t=none/\v=.ref t/\H'=upd H t (.tup [.int (i:Nat),x])/\∀xs,k.sq K H a xs->xs[i]?=some x,λi H=>∃xs,k.sq K H a xs/\xs.length=i⟩
def EAt (k:SK)(e it a:Addr)(i:Nat)(h:Heap):Prop:=(∃old,IsEnum h e it (i:Nat) old)/\k.at h it a i
theorem JN {P:Program}{w:World}{K:W.Frag}{es:oI}{x1:Nat}{tpos:Pos}(k:SK)(a e it:Addr)(HU:e≠it)(hae:a≠e)(hai:a≠it):Turn P w K (.Tuple es x1 tpos) (VD K k a) [it,e] e (EAt k e it a) where
 mem:=by simp
 obj:=λi h st b hb=>by
  obtain⟨⟨old,he⟩,s1⟩:=st
  simp only[ar,b9,eW] at hb
  rcases hb with rfl | rfl
  ·exact SK.Pw s1
  ·exact⟨_,he,λv y=>by have y':Data.fields _=Data.cell v:=y;cases y'⟩
 keep:=λi h h' st kk=>by
  obtain⟨⟨old,he⟩,s1⟩:=st
  exact⟨⟨old,kk e (by simp) _ he⟩,SK.P9 s1 λo q=>kk it (by simp) o q⟩
 item:=by
  intro X hP hw hK hc i Fs s σ H E I hf st hg
  subst hP hw hK
  obtain⟨xs,x,hq,hx⟩:=hg
  obtain⟨⟨old,he⟩,s1⟩:=st
  obtain⟨FD,rv,p1⟩:=I.sk hq
  obtain⟨u,hu,ru⟩:=rv.get hx
  have hh:=I.ok.hd hc
  have hi1:i < FD.toArray.size:=by
   rcases dv i FD.length with q | q
   ·simpa using q
   ·rw[bo q] at hu;cases hu
  refine wpAny_pyNext_enum_itemD (SK.draws (prog:=X.prog) (w:=X.w) (A:=X.A.in1) k hh it a hai FD.toArray) he ⟨s1,p1⟩ hi1 HU (by simp[HU,hae.symm]) λx' h' tk ex heo j1 htup hsz hk=>⟨_,rfl,?_⟩
  have eu:x'=u:=bi (by rw[← ex,← hu];simp)
  subst eu
  refine wpAny_letOwnedTupleGo_enum (s:={ s with heap:=h',toks:=tk+1 }) heo λh2 Sf Kn=>?_
  have hel:e < s.heap.objs.size:=aE he
  have g2:h2.get? s.heap.objs.size=some { cls:=.type "tuple",data:=.seq #[.int i tk,x'] }:=(Kn.2 _ (om hel)).trans htup
  have k2:∀b o,b∉[it,e]->s.heap.get? b=some o->h2.get? b=some o:=λb o hb q=>by
   simp only[ar,b9,eW,oj] at hb
   exact(Kn.2 b hb.2).trans (hk b o hb.2 hb.1 q)
  have g1:k.at h2 it a (i+1):=SK.P9 j1.1 λo q=>(Kn.2 it (eS HU)).trans q
  have ht2:∀b o,s.heap.get? b=some o->∃o',h2.get? b=some o':=λb o q=>by
   by_cases n1:b=it
   ·subst n1;obtain⟨o',e',_⟩:=SK.Pw g1;exact⟨o',e'⟩
   ·by_cases n2:b=e
    ·subst n2;exact⟨_,Sf⟩
    ·exact⟨o,k2 b o (by simp[n1,n2]) q⟩
  have I2:Inv X Fs σ (upd H s.heap.objs.size (.tup [.int (i:Nat),x])) { s with heap:=h2,toks:=tk+1 }:=
   I.P5 (ch:=[it,e]) k2 ht2 hf (aw _) ⟨by show 2<=sizeLine;decide,[.int i tk,x'],.cons ⟨_,rfl⟩ (.cons ru .nil),⟨_,g2,rfl,_,rfl⟩⟩
  refine⟨.ref s.heap.objs.size,_,I2,rfl,⟨s.heap.objs.size,x,I.fresh,rfl,rfl,λys hy=>by rw[I.sk_inj hy hq];exact hx⟩,⟨⟨x',Sf⟩,g1⟩,λb hb=>?_⟩
  have hb0:=(hf b hb).1
  rw[aQ ?_]
  ·exact hb0
  ·simp only[ar,b9,eW] at hb
   rcases hb with rfl | rfl
   ·obtain⟨o,e1,_⟩:=SK.Pw s1;exact bP (aE e1)
   ·exact bP hel
 done:=by
  intro X hP hw hK hc i Fs s σ H E I hf st hg
  subst hP hw hK
  obtain⟨xs,hq,hx⟩:=hg
  obtain⟨⟨old,he⟩,s1⟩:=st
  obtain⟨FD,rv,p1⟩:=I.sk hq
  obtain⟨f0,f1,f2,f3,f4,f5⟩:=hf it (by simp)
  have hl:=rv.length
  have hi:i=FD.toArray.size:=by rw[a7];omega
  rw[hi] at s1
  exact wpAny_pyNext_enum_endD (SK.draws (prog:=X.prog) (w:=X.w) (A:=X.A.in1) k (I.ok.hd hc) it a hai FD.toArray) he ⟨s1,p1⟩ λh' eb=>⟨rfl,I.turned (t':=s.toks) (λb o hb q=>eb b o hb q) f0 f1 f3 f4 f5⟩
 self:=λA i s Q E st h=>by
  obtain⟨⟨old,he⟩,s1⟩:=st
  have hT:s.TypeIs (.ref e) "enumerate" := ⟨_,he,rfl⟩
  refine wpAny_pyIter_slot hT F.slot_enumerate_iter (eM F.slot_enumerate_iter hT F.entry_enumerate_iter ?_ (F.args_enumerate_iter_1 _))
  show wpAny _ _ (ret (.ref e)) _ _ s
  exact ay ⟨_,rfl, "enumerate",_,hT,F.slot_enumerate_next.lookup,h⟩
section
variable {X:Cx}
def VF (K:W.Frag)(k:SK)(ta:TA):TI:=fun σ H R=>ta σ H λvs H1=>∃a,vs=[.ref a]/\(∃xs,k.sq K H1 a xs)/\R (VD K k a) H1
theorem Ph {k:SK}{l:Expr}{ta:TA}{es:oI}{x1:Nat}{tpos p pos:Pos}(hg:Gl X "enumerate")(hm:X.mg "enumerate" = none)(ha:PA X [l] ta)(hs:autoParam (starEach [l] X.env=[(false,eval l X.env)]) r0_):
  PI X (.Tuple es x1 tpos) (.Call (.Name "enumerate" p) [l] [] pos) (VF X.K k ta):=by
 intro Fs s σ H R I h
 refine Call_ (fK I hg hm PyProof.Rows.boot_enumerate (bp (F2 (ha pos Fs s σ H _ I h) ?_) hs rfl))
 rintro us s1 ⟨vs,H1,I1,r1,q1⟩
 obtain⟨a,e,⟨xs,hq⟩,q⟩:=q1
 subst e
 obtain⟨u,rfl,ru⟩:=vals1 r1
 cases ru
 obtain⟨FD,rv,p1⟩:=I1.sk hq
 refine JM p1 λh' he hit hk=>?_
 have I2:Inv X Fs σ H1 { s1 with heap:=h' }:=I1.kept (t':=s1.toks) hk
 have la:=SK.is_lt p1
 have st:EAt k (s1.heap.objs.size+1) s1.heap.objs.size a 0 h':=⟨⟨.none,he⟩,hit⟩
 have T:=JN (P:=X.prog) (w:=X.w) (K:=X.K) (es:=es) (x1:=x1) (tpos:=tpos) k a (s1.heap.objs.size+1) s1.heap.objs.size (Nat.succ_ne_self _) (bP (hX la)) (bP la)
 refine T.self X.A 0 { s1 with heap:=h' } _ _ st ?_
 refine⟨s1.heap.objs.size+1,[s1.heap.objs.size,s1.heap.objs.size+1],_,_,H1,rfl,I2,T,st,λb hb=>?_,q⟩
 have hb':s1.heap.objs.size<=b:=by
  simp only[ar,b9,eW] at hb
  rcases hb with z | z
  ·rw[z];exact aw _
  ·rw[z];exact ow _
 exact I1.N9 hb' (I1.FL.fresh hb')
end
end Lake.L2
namespace Lake.MR
open PySem L2
noncomputable def iE2 (f:pc)(env:Env):Option (List PV):=(f env).bind λp=>(oG p).bind λxs=>some (jO 0 xs)
@[simp] theorem ZP (f:pc)(env:Env):iE2 f env=((f env).bind λp=>(oG p).bind λxs=>some (jO 0 xs)):=id rfl
section
variable {X:Cx}{b:BX}{G G' L:oz}{ro:Bool}{pos p:Pos}{m m1 m2:Md}{e e1 e2:Expr}
theorem uJ {fr:Bool}{h:pc}{es:oI}{x1:Nat}{tpos:Pos}(hm:X.mg "enumerate" = none)(he:SE X b G m e h)(hmd:autoParam (fr=true->m≠.bor) r11_)(hK:autoParam (X.K=b.C.K) r0_)(hg:Gl X "enumerate" := by rfl)(hs:autoParam (starEach [e] X.env=[(false,eval e X.env)]) r0_)(MM:autoParam (starEach [e] X.env=(false,eval e X.env)::starEach [] X.env) r0_):
  SI X b G fr (.Tuple es x1 tpos) (.Call (.Name "enumerate" p) [e] [] pos) (iE2 h):=by
 refine PI.imp (PI.all λk:SK=>Ph (k:=k) hg hm (bW he dJ MM) hs) ?_
 rintro σ H R ⟨Ow,env,ps,E,hf,k⟩
 rw[hK]
 obtain⟨p1,hp1,z1⟩:=aC hf
 clear hf
 obtain⟨xs,hxs,z4⟩:=aC z1
 clear z1
 cases z4
 refine⟨kd p1,Ow,env,p1,E,hp1,λv H1 s r=>?_⟩
 obtain⟨a,vs,rfl,qa,ra,ka⟩:=Pg (fr:=fr) E r hmd hxs
 refine⟨a,rfl,⟨vs,qa⟩,k _ _ s λFV H3 h0 hx hn=>?_⟩
 obtain⟨qa',ra'⟩:=ka FV H3 h0 hx
 refine⟨λi p MX=>?_,⟨vs,qa',by rw[vM,ra'.length]⟩⟩
 obtain⟨x,RO,rfl⟩:=Cm MX
 obtain⟨v,hv,rv⟩:=ra'.get RO
 refine⟨⟨vs,v,qa',hv⟩,λy H' yl=>?_⟩
 obtain⟨t,x',ht,e1,e2,yl⟩:=yl
 subst e1 e2
 have e3:=yl vs qa'
 rw[hv] at e3
 cases e3
 refine⟨bI ht _,.tup bx (.cons ?_ (.cons (rv.ex (.of_same (bI ht _))) .nil))⟩
 rw[ij]
 exact .int _
end
inductive LX (C:MC) (A:Addr->Prop) (H:Hp):List Addr->List (List PV)->Prop
 | nil:LX C A H [] []
 | cons {c:Addr}{cs:o0}{us:List V}{ys:List PV}{HK:List (List PV)}:H c=some (.lst us)->FA C A H us ys->LX C A H cs HK->LX C A H (c::cs) (ys::HK)
theorem LX.ex {C:MC}{A A':Addr->Prop}{H H':Hp}(e:Ex A H A' H'):∀{cs:o0}{HK:List (List PV)},(∀c∈cs,H' c=H c)->LX C A H cs HK->LX C A' H' cs HK
 | _,_,_,.nil=>.nil
 | _,_,h,.cons q r t=>.cons ((h _ af).trans q) (r.ex e) (LX.ex e (λc hc=>h c (ac _ hc)) t)
theorem LX.live {C:MC}{A:Addr->Prop}{H:Hp}:∀{cs:o0}{HK:List (List PV)},LX C A H cs HK->∀c∈cs,∃us,H c=some (.lst us)
 | _,_,.nil,c,hc=>by cases hc
 | _,_,.cons q r t,c,hc=>by
  rcases ar.mp hc with z | z
  ·subst z;exact⟨_,q⟩
  ·exact LX.live t c z
theorem LX.length {C:MC}{A:Addr->Prop}{H:Hp}:∀{cs:o0}{HK:List (List PV)},LX C A H cs HK->cs.length=HK.length
 | _,_,.nil=>rfl
 | _,_,.cons q r t=>by rw[bm,bm,LX.length t]
theorem LX.reps {C:MC}{A A':Addr->Prop}{H:Hp}(e:Ex A H A' H):∀{cs:o0}{HK:List (List PV)},(∀c∈cs,A' c)->LX C A H cs HK->FA C A' H (cs.map V.ref) (HK.map PV.lst)
 | _,_,_,.nil=>.nil
 | _,_,h,.cons q r t=>.cons (.lst q (h _ af) (r.ex e)) (LX.reps e (λc hc=>h c (ac _ hc)) t)
theorem LX.get {C:MC}{A:Addr->Prop}{H:Hp}:∀{cs:o0}{HK:List (List PV)}{j:Nat}{ys:List PV},LX C A H cs HK->HK[j]?=some ys->∃c us,cs[j]?=some c/\H c=some (.lst us)/\FA C A H us ys
 | _,_,_,_,.nil,e=>by simp at e
 | _,_,0,_,.cons q r t,e=>by simp at e;subst e;exact⟨_,_,rfl,q,r⟩
 | _,_,j+1,_,.cons q r t,e=>by
  obtain⟨c,us,h1,h2,h3⟩:=LX.get t (j:=j) (by simpa using e)
  exact⟨c,us,by simpa using h1,h2,h3⟩
theorem LX.set {C:MC}{A:Addr->Prop}{H H':Hp}{us:List V}{ys:List PV}(e:Ex A H A H')(r':FA C A H' us ys):∀{cs:o0}{HK:List (List PV)}{j:Nat}{c:Addr},cs.Nodup->cs[j]?=some c->H' c=some (.lst us)->(∀x∈cs,x≠c->H' x=H x)->LX C A H cs HK->LX C A H' cs (HK.set j ys)
 | _,_,_,_,_,h,_,_,.nil=>by simp at h
 | _,_,0,_,nd,h,hc,k,.cons q r t=>by
  simp at h
  subst h
  rw[dA] at nd
  exact .cons hc r' (LX.ex e (λx hx=>k x (ac _ hx) λz=>nd.1 (z▸hx)) t)
 | _,_,j+1,_,nd,h,hc,k,.cons q r t=>by
  rw[dA] at nd
  have h':=h
  rw[c6] at h'
  have hm:=bE h'
  exact .cons ((k _ af λz=>nd.1 (z▸hm)).trans q) (r.ex e) (LX.set e r' (j:=j) nd.2 h' hc (λx hx=>k x (ac _ hx)) t)
def bn (b:BX)(i:Nat)(a:Addr)(cs:o0)(H:Hp):BX:=⟨b.C,λx=>b.A x/\x∉a::cs,λx=>if x∈a::cs then H x else b.H0 x,λj=>if j=i then some (.ref a) else b.fx j⟩
def KN (b:BX)(Ow:Addr->Prop)(a:Addr)(cs:o0)(x:Addr):Prop:=Bs b Ow x/\x∉a::cs
theorem XS {b:BX}{i:Nat}{a:Addr}{cs:o0}{H H':Hp}(h:∀x∈a::cs,H' x=H x):bn b i a cs H'=bn b i a cs H:=by
 unfold bn
 congr 1
 funext x
 by_cases hx:x∈a::cs
 ·rw[bg hx,bg hx,h x hx]
 ·rw[ap hx,ap hx]
theorem k_ {b:BX}{i:Nat}{a:Addr}{cs:o0}{H:Hp}{Ow:Addr->Prop}(lv:∀x∈a::cs,∃o,H x=some o){x:Addr}:Bs (bn b i a cs H) Ow x↔KN b Ow a cs x:=by
 constructor
 ·rintro ⟨n,(⟨h,z⟩ | h)⟩
  ·exact⟨⟨n,.inl h⟩,z⟩
  ·have h':(if x∈a::cs then H x else b.H0 x)=none:=h
   by_cases hx:x∈a::cs
   ·rw[bg hx] at h'
    obtain⟨o,e⟩:=lv x hx
    rw[h'] at e;cases e
   ·rw[ap hx] at h'
    exact⟨⟨n,.inr h'⟩,hx⟩
 ·rintro ⟨⟨n,(h | h)⟩,z⟩
  ·exact⟨n,.inl ⟨h,z⟩⟩
  ·exact⟨n,.inr (by show (if x∈a::cs then H x else b.H0 x)=none;rw[ap z];exact h)⟩
structure EN (b:BX)(Ow:Addr->Prop)(G:oz)(i:Nat)(σ:St)(env:Env)(H:Hp)(a:Addr)(cs:o0)(HK:List (List PV)):Prop where
 val:env[i]?=some (some (.lst (HK.map PV.lst)))
 top:H a=some (.lst (cs.map V.ref))
 nd:(a::cs).Nodup
 new:∀x∈a::cs,b.H0 x=none
 X2:LX b.C (KN b Ow a cs) H cs HK
 er:ER (bn b i a cs H) Ow G σ (env.set i none) H
section
variable {b:BX}{Ow:Addr->Prop}{G:oz}{i:Nat}{σ:St}{env:Env}{H H':Hp}{a:Addr}{cs:o0}{HK:List (List PV)}
theorem EN.live (E:EN b Ow G i σ env H a cs HK):∀x∈a::cs,∃o,H x=some o:=λx hx=>by
 rcases ar.mp hx with z | z
 ·subst z;exact⟨_,E.top⟩
 ·obtain⟨us,h⟩:=E.X2.live x z;exact⟨_,h⟩
theorem EN.slot (E:EN b Ow G i σ env H a cs HK):σ[i]?=some (some (.ref a)):=E.er.fix i (.ref a) (by show (if i=i then _ else _)=_;rw[bg rfl])
theorem EN.S1 (E:EN b Ow G i σ env H a cs HK):∀x∈a::cs,¬ Ow x:=λx hx w=>by
 have h:=E.er.new x w
 have h':(if x∈a::cs then H x else b.H0 x)=none:=h
 rw[bg hx] at h'
 obtain⟨o,e⟩:=E.live x hx
 rw[h'] at e;cases e
theorem EN.of {FV:Addr->Prop}{σ':St}{e:Env}(E:EN b Ow G i σ env H a cs HK)(E':ER (bn b i a cs H) FV G σ' e H')(x:Ex (Bs (bn b i a cs H) Ow) H (Bs (bn b i a cs H) FV) H'):
  EN b FV G i σ' (e.set i (some (.lst (HK.map PV.lst)))) H' a cs HK/\Ex (KN b Ow a cs) H (KN b FV a cs) H':=by
 have st:∀y∈a::cs,H' y=H y:=λy hy=>by
  obtain⟨o,h⟩:=E.live y hy
  rw[h]
  exact E'.same y o (by show (if y∈a::cs then H y else b.H0 y)=some o;rw[bg hy];exact h)
 have lv':∀y∈a::cs,∃o,H' y=some o:=λy hy=>by rw[st y hy];exact E.live y hy
 have x':Ex (KN b Ow a cs) H (KN b FV a cs) H':=λc o hc=>⟨λq=>by
  obtain⟨h1,h2⟩:=(x c o hc).1 ((k_ E.live).mpr q)
  exact⟨h1,(k_ E.live).mp h2⟩,(x c o hc).2⟩
 have hl:i < e.length:=by
  have h:=E'.fix i (.ref a) (by show (if i=i then _ else _)=_;rw[bg rfl])
  rw[← E'.len]
  rcases dv i σ'.length with z | z
  ·exact z
  ·rw[bo z] at h;cases h
 refine⟨⟨by rw[cb hl],by rw[st a af];exact E.top,E.nd,E.new,E.X2.ex x' λc hc=>st c (ac _ hc),?_⟩,x'⟩
 rw[XS st,kH]
 exact E'.forget i
theorem EN.up (E:EN b Ow G i σ env H a cs HK)(s:FE H H'):EN b Ow G i σ env H' a cs HK:=by
 have h:=(E.of (E.er.up s) (.of_same s)).1
 rw[kH] at h
 have hl:i < env.length:=by
  rcases dv i env.length with z | z
  ·exact z
  ·have:=E.val;rw[bo z] at this;cases this
 have e:env.set i (some (.lst (HK.map PV.lst)))=env:=by
  refine hV λj=>?_
  by_cases hj:i=j
  ·subst hj;rw[cb hl,E.val]
  ·rw[aI hj]
 rw[e] at h
 exact h
theorem EN.out (E:EN b Ow G i σ env H a cs HK)(hi:i∉G)(hx:b.fx i=none):ER b Ow G σ env H:=by
 have no:=E.S1
 have w:Ex (KN b Ow a cs) H (Bs b Ow) H:=cO λc o _ q=>q.1
 have w':Ex (Bs (bn b i a cs H) Ow) H (Bs b Ow) H:=cO λc o _ q=>((k_ E.live).mp q).1
 have back:∀{j:Nat}{q:PV},i≠j->env[j]?=some (some q)->(env.set i none)[j]?=some (some q):=λ{j q} hj e=>by rw[aI hj];exact e
 refine⟨by rw[E.er.len,dn],λc o h=>E.er.same c o ?_,E.er.live,λc z=>?_,λj q e n=>?_,λj q e n=>?_,λj k c q q' e1 n1 s1 e2 n2 s2=>?_,λk v hv=>E.er.fix k v ?_⟩
 ·have hc:c∉a::cs:=λz=>by rw[E.new c z] at h;cases h
  show (if c∈a::cs then H c else b.H0 c)=some o
  rw[ap hc];exact h
 ·have h:=E.er.new c z
  have h':(if c∈a::cs then H c else b.H0 c)=none:=h
  rw[ap λy=>no c y z] at h'
  exact h'
 ·by_cases hj:i=j
  ·subst hj
   rw[E.val] at e
   cases e
   have ha:Bs b Ow a:=⟨no a af,.inr (E.new a af)⟩
   exact⟨_,E.slot,.lst E.top ha (E.X2.reps w λc hc=>⟨no c (ac _ hc),.inr (E.new c (ac _ hc))⟩)⟩
  ·obtain⟨v,h1,h2⟩:=E.er.val j q (back hj e) n
   exact⟨v,h1,h2.ex w'⟩
 ·have hj:i≠j:=λz=>hi (z▸n)
  obtain⟨c,h1,h2,h3⟩:=E.er.own j q (back hj e) n
  exact⟨c,h1,h2,h3.ex w' λo z=>z⟩
 ·have hj:i≠j:=λz=>hi (z▸n1)
  have hk:i≠k:=λz=>hi (z▸n2)
  exact E.er.sep j k c q q' (back hj e1) n1 s1 (back hk e2) n2 s2
 ·show (if k=i then some (V.ref a) else b.fx k)=some v
  rw[ap λz=>by rw[z,hx] at hv;cases hv]
  exact hv
end
def tNe (b:BX)(G:oz)(i:Nat)(f:Env->Option Out):TS:=λD σ H=>∃Ow env a cs HK env',EN b Ow G i σ env H a cs HK/\f env=some (.nx env') /\
 ∀FV σ' H' cs' S2,EN b FV G i σ' env' H' a cs' S2->(∀x∈cs,x∈cs')->Ex (KN b Ow a cs) H (KN b FV a cs') H'->D.nx σ' H'
abbrev NS (X:Cx)(b:BX)(G:oz)(i:Nat)(st:Stmt)(f:Env->Option Out):Prop:=PS X st (tNe b G i f)
abbrev NSs (X:Cx)(b:BX)(G:oz)(i:Nat)(st:oC)(f:Env->Option Out):Prop:=LV X st (tNe b G i f)
noncomputable def X0 (i:Nat)(f:Env->Option Out)(env:Env):Option Out:=(f (env.set i none)).bind λo=>match o with
 | .nx e=>some (.nx (e.set i (env.getD i none)))
 | _=>none
@[simp] theorem ZQ (i:Nat)(f:Env->Option Out)(env:Env):X0 i f env=((f (env.set i none)).bind λo=>match o with
 | .nx e=>some (.nx (e.set i (env.getD i none)))
 | _=>none):=id rfl
noncomputable def nIf (i:Nat)(c:Env->Option Bool)(f g:Env->Option Out)(env:Env):Option Out:=(c (env.set i none)).bind λk=>if k=true then f env else g env
@[simp] theorem ZR (i:Nat)(c:Env->Option Bool)(f g:Env->Option Out)(env:Env):nIf i c f g env=((c (env.set i none)).bind λk=>if k=true then f env else g env):=id rfl
noncomputable def gH (i:Nat)(g:PV->Env->Option Env)(p:PV)(env:Env):Option Env:=(g p (env.set i none)).map λe=>e.set i (env.getD i none)
@[simp] theorem Z6 (i:Nat)(g:PV->Env->Option Env)(p:PV)(env:Env):gH i g p env=((g p (env.set i none)).map λe=>e.set i (env.getD i none)):=id rfl
noncomputable def OH (f:Env->Option Out)(env:Env):Option Out:=(f env).bind λo=>match o with
 | .nx e=>some (.nx e)
 | _=>none
@[simp] theorem ZS (f:Env->Option Out)(env:Env):OH f env=((f env).bind λo=>match o with
 | .nx e=>some (.nx e)
 | _=>none):=id rfl
noncomputable def Pj (i:Nat)(g:PV->Env->Option Env)(src:Env->Option (List PV))(ds:oz)(f:Env->Option Out)(env:Env):Option Out:=(src (env.set i none)).bind λxs=>bw (gH i g) ds (OH f) xs (IX ds env)
@[simp] theorem Zn (i:Nat)(g:PV->Env->Option Env)(src:Env->Option (List PV))(ds:oz)(f:Env->Option Out)(env:Env):Pj i g src ds f env=((src (env.set i none)).bind λxs=>bw (gH i g) ds (OH f) xs (IX ds env)):=id rfl
@[simp] noncomputable def apV:PV->PV->PV->Option PV
 | .lst ws,.int k,p=>(Nn ws.length k).bind λj=>(ws[j]?).bind λw=>match w with
  | .lst ys=>if ys.length < 1000000 then some (.lst (ws.set j (.lst (ys++[p])))) else none
  | _=>none
 | _,_,_=>none
noncomputable def Pk (i:Nat)(f h:pc)(env:Env):Option Out:=(bV i env).bind λx=>(f (env.set i none)).bind λk=>(h (env.set i none)).bind λp=>(apV x k p).bind λy=>some (.nx (env.set i (some y)))
@[simp] theorem Zo (i:Nat)(f h:pc)(env:Env):Pk i f h env=((bV i env).bind λx=>(f (env.set i none)).bind λk=>(h (env.set i none)).bind λp=>(apV x k p).bind λy=>some (.nx (env.set i (some y)))):=id rfl
section
variable {X:Cx}{b:BX}{G G' L:oz}{ro:Bool}{i:Nat}{st:Stmt}{rest:oC}{f g:Env->Option Out}{e e1 e2:Expr}{h h1 h2:pc}{m m1 m2:Md}{pos:Pos}
theorem Fx {env:Env}{i:Nat}{p:PV}(h:env[i]?=some (some p)):env.getD i none=some p:=by rw[al,h];rfl
theorem VG (x:NS X b G i st f)(c:NSs X b G i rest g):NSs X b G i (st::rest) (aF f g):=LV.imp (uz x c)<|by
 rintro D σ H ⟨Ow,env,a,cs,HK,env',E,hf,k⟩
 unfold aF at hf
 cases q:f env with
 | none=>rw[q] at hf;cases hf
 | some o1=>
  rw[q] at hf
  cases o1 with
  | nx e'=>exact⟨Ow,env,a,cs,HK,e',E,q,λOw1 σ1 H1 cs1 yss1 E1 s1 x1=>⟨Ow1,e',a,cs1,yss1,env',E1,hf,λIU σ2 H2 MO NJ E2 s2 x2=>k IU σ2 H2 MO NJ E2 (λz hz=>s2 z (s1 z hz)) (x1.trans x2)⟩⟩
  | bk e'=>cases hf
  | ct e'=>cases hf
  | rt p=>cases hf
theorem JP (x:NS X b G i st f):NSs X b G i [st] f:=HF x
theorem yZ (x:∀a cs H,SS X (bn b i a cs H) G G [] false st f):NS X b G i st (X0 i f):=by
 rintro Fs s σ H D I ⟨Ow,env,a,cs,HK,env',E,hf,k⟩
 obtain⟨o,ho,z⟩:=aC hf
 refine x a cs H Fs s σ H D I ⟨Ow,env.set i none,o,E.er,ho,?_⟩
 cases o with
 | nx e'=>
  rw[Fx E.val] at z
  cases z
  intro FV σ' H' E' x'
  obtain⟨E2,x2⟩:=E.of E' x'
  exact k FV σ' H' cs HK E2 (λ_ z=>z) x2
 | bk e'=>cases z
 | ct e'=>cases z
 | rt p=>cases z
theorem Y8 {c:Expr}{k:Env->Option Bool}{sa sb:oC}(hc:∀a cs H,ST X (bn b i a cs H) G c k)(ha:NSs X b G i sa f)(hb:NSs X b G i sb g):NS X b G i (.If c sa sb pos) (nIf i k f g):=by
 rintro Fs s σ H D I ⟨Ow,env,a,cs,HK,env',E,hf,kk⟩
 obtain⟨p,hp,z1⟩:=aC hf
 refine Qo (hc a cs H) ha hb Fs s σ H D I ⟨Ow,env.set i none,p,E.er,hp,λH' s'=>?_⟩
 have go:∀{f:Env->Option Out},f env=some (.nx env')->tNe b G i f D σ H':=λ{f} hz=>⟨Ow,env,a,cs,HK,env',E.up s',hz,λIU σ2 H2 MO NJ E2 s2 x2=>kk IU σ2 H2 MO NJ E2 s2 ((Ex.of_same s').trans x2)⟩
 cases p with
 | true=>exact Jq (go z1)
 | false=>exact Jp (go z1)
end
section
variable {X:Cx}{b:BX}{G G' L:oz}{ro:Bool}{i:Nat}{st:Stmt}{rest:oC}{f g:Env->Option Out}{e e1 e2:Expr}{h h1 h2:pc}{m m1 m2:Md}{pos:Pos}
def tGN (b:BX)(G:oz)(i:Nat)(g:PV->Env->Option Env):TG:=λv σ H Q=>∃a cs H0,tMG (bn b i a cs H0) G g v σ H Q
theorem Ib:∀{ds:oz}{env:Env}{i:Nat},i∉ds->(IX ds env)[i]?=env[i]?
 | [],_,_,_=>rfl
 | d::ds,env,i,h=>by
  rw[ar,oj] at h
  show (IX ds (env.set d none))[i]?=_
  rw[Ib h.2,aI (eS h.1)]
theorem Ie:∀{ds:oz}{env:Env}{i:Nat}{v:Option PV},i∉ds->(IX ds env).set i v=IX ds (env.set i v)
 | [],_,_,_,_=>rfl
 | d::ds,env,i,v,h=>by
  rw[ar,oj] at h
  show (IX ds (env.set d none)).set i v=IX ds ((env.set i v).set d none)
  rw[Ie h.2,List.set_comm _ _ (eS h.1)]
theorem EN.IX {Ow:Addr->Prop}{σ:St}{env:Env}{H:Hp}{a:Addr}{cs:o0}{HK:List (List PV)}{ds:oz}(E:EN b Ow G i σ env H a cs HK)(hd:i∉ds):EN b Ow G i σ (IX ds env) H a cs HK:=
 ⟨by rw[Ib hd];exact E.val,E.top,E.nd,E.new,E.X2,by rw[Ie hd];exact E.er.IX⟩
theorem XX {tg it:Expr}{body:oC}{g:PV->Env->Option Env}{src:Env->Option (List PV)}{f:Env->Option Out}(ds:oz)(hi:∀a cs H,SI X (bn b i a cs H) G true tg it src)(hg:∀a cs H,SG X (bn b i a cs H) G tg g)(hb:NSs X b G i body f)
  (hp:PassesOwn (model X.prog X.w) X.A X.env X.xe) (hd:autoParam (i∉ds) r1_) (hc:autoParam (X.calm=true) r0_) (hs:autoParam (∀x,foldedSetIterable it X.env x=pure x) r4_):NS X b G i (.For tg it body [] pos) (Pj i g src ds f):=by
 rintro Fs s σ H D I ⟨Ow,env,a,cs,HK,env',E,hf,k⟩
 obtain⟨ps,IQ,hl⟩:=aC hf
 have hgN:PG X tg (tGN b G i g):=λFs s σ H v w Q I r ⟨a,cs,H0,q⟩=>hg a cs H0 Fs s σ H v w Q I r q
 refine K6 hp hc (hi a cs H) hgN hb hs Fs s σ H D I ⟨Ow,env.set i none,ps,E.er,IQ,λJ H1 s1 iw=>?_⟩
 refine⟨λn m σ2 H2=>m=ps.length - n/\n<=ps.length/\∃IU IH MO NJ,EN b IU G i σ2 IH H2 a MO NJ/\(∀x∈cs,x∈MO)/\Ex (KN b Ow a cs) H1 (KN b IU a MO) H2/\bw (gH i g) ds (OH f) (ps.drop n) IH=some (.nx env'),⟨ps.length,by simp,da _,Ow,IX ds env,cs,HK,(E.up s1).IX hd,λ_ z=>z,Ex.refl _ _,by simpa using hl⟩,?_⟩
 rintro n m σ2 H2 ⟨rfl,hn,IU,IH,MO,NJ,E2,sub2,x2,l2⟩
 have sub':∀x,x∉a::MO->x∉a::cs:=λx hx z=>hx (by
  rcases ar.mp z with q | q
  ·rw[q];exact af
  ·exact ac _ (sub2 x q))
 have into:∀x,KN b IU a MO x->Bs (bn b i a cs H) (λy=>IU y\/y∈a::MO) x:=λx q=>by
  have z:=(k_ (i:=i) E.live (Ow:=IU)).mpr ⟨q.1,sub' x q.2⟩
  exact⟨λy=>y.elim q.1.1 q.2,z.2⟩
 have outof:∀x,Bs (bn b i a cs H) (λy=>IU y\/y∈a::MO) x->KN b IU a MO x:=λx q=>by
  have z:=(k_ (i:=i) E.live (Ow:=λy=>IU y\/y∈a::MO)).mp q
  exact⟨⟨λy=>z.1.1 (.inl y),z.1.2⟩,λy=>z.1.1 (.inr y)⟩
 obtain⟨w1,w2⟩:=iw (λy=>IU y\/y∈a::MO) H2 (λz=>by cases z) (λc o hc=>⟨λq=>by
  obtain⟨h1,h2⟩:=(x2 c o hc).1 ((k_ E.live).mp q)
  exact⟨h1,into c h2⟩,(x2 c o hc).2⟩) λc hc=>into c ((k_ E2.live).mp (E2.er.fresh hc))
 have xk:Ex (KN b Ow a cs) H (KN b IU a MO) H2:=(Ex.of_same s1).trans x2
 by_cases IT:n < ps.length
 ·rw[eT IT] at l2
  obtain⟨e1,he1,l2⟩:=aC l2
  obtain⟨o,ho,l2⟩:=aC l2
  obtain⟨e0,he0,rfl⟩:=db.mp he1
  obtain⟨o',OC,hz⟩:=aC ho
  obtain⟨g1,g2⟩:=w1 n ps[n] (ah IT)
  refine .inr ⟨g1,fun σ' H'=>n+1<=ps.length/\∃IU IH MO NJ,EN b IU G i σ' IH H' a MO NJ/\(∀x∈cs,x∈MO)/\Ex (KN b Ow a cs) H1 (KN b IU a MO) H'/\bw (gH i g) ds (OH f) (ps.drop (n+1)) IH=some (.nx env'),fun σ' H' q=>⟨ps.length - (n+1),by omega,rfl,q⟩,λx H' y=>?_⟩
  obtain⟨s3,r3⟩:=g2 x H' y
  have E3:=E2.up s3
  have r3':Rep b.C (Bs (bn b i a MO H') IU) H' x ps[n]:=r3.ex (cO λc o _ q=>(k_ E3.live).mpr (outof c q))
  refine⟨a,MO,H',IU,IH.set i none,ps[n],e0,E3.er,r3',he0,fun σ3 E4=>?_⟩
  obtain⟨E5,x5⟩:=E3.of E4 (Ex.refl _ _)
  rw[Fx E2.val] at OC
  cases o' with
  | nx e'=>
   cases hz
   exact⟨IU,_,a,MO,NJ,e',E5,OC,λOw6 σ6 H6 cs6 yss6 E6 s6 x6=>⟨IT,Ow6,_,cs6,yss6,E6.IX hd,λz hz=>s6 z (sub2 z hz),x2.trans ((Ex.of_same s3).trans (x5.trans x6)),l2⟩⟩
  | bk e'=>cases hz
  | ct e'=>cases hz
  | rt p=>cases hz
 ·have e:n=ps.length:=by omega
  subst e
  rw[l7] at l2
  cases l2
  exact .inl ⟨w2,k IU σ2 H2 MO NJ E2 sub2 xk⟩
end
section
variable {X:Cx}{b:BX}{G G' L:oz}{ro:Bool}{i:Nat}{st:Stmt}{rest:oC}{f g:Env->Option Out}{e e1 e2:Expr}{h h1 h2:pc}{m m1 m2:Md}{pos:Pos}
theorem EN.rebase {Ow:Addr->Prop}{σ:St}{env:Env}{H H':Hp}{a:Addr}{cs cs':o0}{HK S2:List (List PV)}(E:EN b Ow G i σ env H a cs HK)(sub:∀x∈cs,x∈cs')(hx:∀x o,H x=some o->x∉a::cs'->H' x=some o)(YY:∀x∈a::cs',x∉a::cs->H x=none)
  (nd':(a::cs').Nodup) (nw':∀x∈a::cs',b.H0 x=none) (top':H' a=some (.lst (cs'.map V.ref))) (ZT:LX b.C (KN b Ow a cs') H' cs' S2):
  EN b Ow G i σ (env.set i (some (.lst (S2.map PV.lst)))) H' a cs' S2/\Ex (KN b Ow a cs) H (KN b Ow a cs') H':=by
 have lv':∀x∈a::cs',∃o,H' x=some o:=λx RO=>by
  rcases ar.mp RO with z | z
  ·subst z;exact⟨_,top'⟩
  ·obtain⟨us,q⟩:=ZT.live x z;exact⟨_,q⟩
 have sub':∀x∈a::cs,x∈a::cs':=λx RO=>by
  rcases ar.mp RO with z | z
  ·rw[z];exact af
  ·exact ac _ (sub x z)
 have no:=E.S1
 have no':∀x∈a::cs',¬ Ow x:=λx RO w=>by
  by_cases z:x∈a::cs
  ·exact no x z w
  ·obtain⟨o,q⟩:=E.er.live x w
   rw[YY x RO z] at q;cases q
 have mutN:∀x∈a::cs,∃us,H x=some (.lst us):=λx RO=>by
  rcases ar.mp RO with z | z
  ·subst z;exact⟨_,E.top⟩
  ·exact E.X2.live x z
 have out:∀x o,H x=some o->x∉a::cs->x∉a::cs':=λx o q z y=>by rw[YY x y z] at q;cases q
 have xk:Ex (KN b Ow a cs) H (KN b Ow a cs') H':=λc o hc=>⟨λq=>⟨hx c o hc (out c o hc q.2),q.1,out c o hc q.2⟩,λmm=>hx c o hc (out c o hc λz=>by
  obtain⟨us,q⟩:=mutN c z
  rw[hc] at q;cases q;cases mm)⟩
 have xb:Ex (Bs (bn b i a cs H) Ow) H (Bs (bn b i a cs' H') Ow) H':=λc o hc=>⟨λq=>by
  obtain⟨z1,z2⟩:=(xk c o hc).1 ((k_ E.live).mp q)
  exact⟨z1,(k_ lv').mpr z2⟩,(xk c o hc).2⟩
 have hl:i < env.length:=by
  rcases dv i env.length with z | z
  ·exact z
  ·have:=E.val;rw[bo z] at this;cases this
 refine⟨⟨by rw[cb hl],top',nd',nw',ZT,?_⟩,xk⟩
 rw[kH]
 refine⟨E.er.len,λc o hc=>?_,λc w=>?_,λc w=>?_,λj q eq n=>?_,λj q eq n=>?_,E.er.sep,E.er.fix⟩
 ·have YN:(if c∈a::cs' then H' c else b.H0 c)=some o:=hc
  by_cases z:c∈a::cs'
  ·rw[bg z] at YN;exact YN
  ·rw[ap z] at YN
   refine hx c o (E.er.same c o ?_) z
   show (if c∈a::cs then H c else b.H0 c)=some o
   rw[ap λy=>z (sub' c y)];exact YN
 ·obtain⟨o,q⟩:=E.er.live c w
  exact⟨o,hx c o q λz=>no' c z w⟩
 ·show (if c∈a::cs' then H' c else b.H0 c)=none
  rw[ap λz=>no' c z w]
  have q:=E.er.new c w
  have q':(if c∈a::cs then H c else b.H0 c)=none:=q
  rw[ap λz=>no c z w] at q'
  exact q'
 ·obtain⟨v,z1,z2⟩:=E.er.val j q eq n
  exact⟨v,z1,z2.ex xb⟩
 ·obtain⟨c,z1,z2,z3⟩:=E.er.own j q eq n
  exact⟨c,z1,z2,z3.ex xb λo y=>hx c o y λz=>no' c z z2⟩
theorem Mt {n:Nat}{k:Int}{j:Nat}(h:Nn n k=some j):j < n:=by
 unfold Nn at h
 split at h
 ·split at h
  ·cases h;omega
  ·cases h
 ·split at h
  ·cases h;omega
  ·cases h
theorem X3 (i:Nat){x:Str}{p1 L1 apos FO:Pos}(he1:∀a cs H,SE X (bn b i a cs H) G m1 e1 h1)(Sf:∀a cs H,SE X (bn b i a cs H) G .val e2 h2)(hN:autoParam (X.N[i]?=some x) r0_)(hv:autoParam (Sl X.env.scope x) r5_)(hd:autoParam ((x == ("__debug__" : Str))=false) r1_)
  (LW:autoParam ((x == ("__classdict__" : Str))=false) r1_) (hpi:autoParam (Ag e1) r9_) (JI:autoParam (attributeBase (.Subscript (.Name x p1) e1 L1) "append" X.env (eval (.Subscript (.Name x p1) e1 L1) X.env)=eval (.Subscript (.Name x p1) e1 L1) X.env) r0_)
  (LZ:((backTo FO (starEach [e2] X.env)).all (λx=>!x.1)&&(backToKw FO (keywordEach [] X.env)).all (λx=>x.1.isSome)
   && decide ([e2].length+([]:List Keyword).length+(if ([]:List Keyword).isEmpty then 0 else 1) < 30))=true:=by rfl)
  (JJ:autoParam ((apos.endLine == FO.line)=true) r0_) (hs:autoParam (starEach [e2] X.env=(false,eval e2 X.env)::starEach [] X.env) r0_) (hK:autoParam (X.K=b.C.K) r0_):
  NS X b G i (.Expr (.Call (.Attribute (.Subscript (.Name x p1) e1 L1) "append" apos) [e2] [] FO) pos) (Pk i h1 h2):=by
 rintro Fs s σ H D I ⟨Ow,env,a,cs,HK,env',E,hf,kk⟩
 obtain⟨px,Rl,z1⟩:=aC hf
 clear hf
 obtain⟨pk,hpk,z2⟩:=aC z1
 clear z1
 obtain⟨p,hp,z3⟩:=aC z2
 clear z2
 obtain⟨y,hy,z4⟩:=aC z3
 clear z3
 cases z4
 have hpx':=fY Rl
 rw[E.val] at hpx'
 cases hpx'
 cases pk <;> simp only[apV] at hy <;> first | cases hy | skip
 rename_i k
 obtain⟨j,hj,z5⟩:=aC hy
 clear hy
 obtain⟨w,hw,z6⟩:=aC z5
 clear z5
 rw[a6] at hw
 obtain⟨ys,hys,rfl⟩:=db.mp hw
 simp only at z6
 split at z6
 ·rename_i IT
  cases z6
  obtain⟨c,us,hc,hHc,hr⟩:=E.X2.get hys
  have NG:c∈cs:=bE hc
  have Ic:F0 (cs.map V.ref) k=some (.ref c):=by
   unfold F0
   rw[ae] at hj ⊢
   rw[E.X2.length,hj]
   simp[hc]
  refine wN (Dz iX lx ly vB (Qy (r:=Oe X.K) PZ (kh hN hv hd LW) ((he1 a cs H).bor) hpi) (bW (Sf a cs H) dJ hs) JI LZ JJ hs rfl) rfl Fs s σ H D I ?_
  refine⟨_,E.slot,Ow,env.set i none,.int k,E.er,hpk,λv H1 s1 r1=>?_⟩
  refine⟨a,_,k,_,rfl,FF.int r1,F7.of (s1 _ _ E.top),Ic,.inl ⟨rfl,_,F7.of (s1 _ _ hHc)⟩,Ow,env.set i none,p,E.er.up s1,hp,λv2 H2 s2 r2=>?_⟩
  have hHc2:=s2 _ _ (s1 _ _ hHc)
  refine⟨c,us,v2,rfl,rfl,hHc2,jN (by rw[hr.length];omega),?_⟩
  have E2:=E.up (s1.trans s2)
  have hac:a≠c:=λz=>(dA.mp E.nd).1 (z▸NG)
  have ndc:=(dA.mp E.nd).2
  have xc:Ex (KN b Ow a cs) H2 (KN b Ow a cs) (upd H2 c (.lst (us++[v2]))):=λd o hd=>⟨λq=>⟨by rw[aQ (λz:d=c=>q.2 (z▸ac _ NG))];exact hd,q⟩,λmm=>by
   have hdc:d≠c:=λz=>by subst z;rw[hHc2] at hd;cases hd;cases mm
   rw[aQ hdc];exact hd⟩
  have rr:FA b.C (KN b Ow a cs) H2 (us++[v2]) (ys++[p]):=by
   have Of:Rep b.C (Bs (bn b i a cs H) Ow) H2 v2 p:=r2
   exact((hr.ex (.of_same (s1.trans s2)))).append (.cons (Of.ex (cO λc o _ q=>(k_ E.live).mp q)) .nil)
  have ZT:=LX.set xc (rr.ex xc) ndc hc bx (λz hz HU=>aQ HU) E2.X2
  obtain⟨E3,x3⟩:=E2.rebase (cs':=cs) (H':=upd H2 c (.lst (us++[v2]))) (λ_ z=>z) (λz o hz hn=>by rw[aQ (λq:z=c=>hn (q▸ac _ NG))];exact hz) (λz h1 h2=>absurd h1 h2) E.nd E.new (by rw[aQ hac];exact E2.top) ZT
  rw[List.map_set] at E3
  exact kk Ow σ _ cs _ E3 (λ_ z=>z) ((Ex.of_same (s1.trans s2)).trans x3)
 ·cases z6
end
def tEm:Nat->TA
 | 0=>Jm
 | n+1=>Qs (Ur Jm) (tEm n)
theorem Ig:∀(n:Nat){σ:St}{H:Hp}{Q:List V->Hp->Prop},(∀(cs:o0) (H2:Hp),cs.length=n->cs.Nodup->(∀c∈cs,H c=none/\H2 c=some (.lst []))->(∀x,x∉cs->H2 x=H x)->Q (cs.map V.ref) H2)->tEm n σ H Q
 | 0,σ,H,Q,h=>h [] H rfl .nil (λc hc=>by cases hc) λ_ _=>rfl
 | n+1,σ,H,Q,h=>by
  refine⟨da _,λp hp=>?_⟩
  refine Ig n λcs H2 hl nd hc ho=>?_
  have np:p∉cs:=λz=>by
   have:=(hc p z).1
   rw[bx] at this;cases this
  refine h (p::cs) H2 (by rw[bm,hl]) (dA.mpr ⟨np,nd⟩) (λc NG=>?_) λx hx=>?_
  ·rcases ar.mp NG with z | z
   ·subst z;exact⟨hp,by rw[ho c np,bx]⟩
   ·have HU:c≠p:=λq=>np (q▸z)
    refine⟨?_,(hc c z).2⟩
    have:=(hc c z).1
    rw[aQ HU] at this
    exact this
  ·rw[ar,oj] at hx
   rw[ho x hx.2,aQ hx.1]
noncomputable def DY (i n:Nat)(env:Env):Option Out:=if i < env.length/\n<=1000 then some (.nx (env.set i (some (.lst (List.replicate n (.lst [])))))) else none
@[simp] theorem Pn (i n:Nat)(env:Env):DY i n env=if i < env.length/\n<=1000 then some (.nx (env.set i (some (.lst (List.replicate n (.lst [])))))) else none:=id rfl
section
variable {X:Cx}{b:BX}{G G' L:oz}{ro:Bool}{i n:Nat}{st:Stmt}{es:oI}{rest:oC}{f g:Env->Option Out}{e e1 e2:Expr}{h h1 h2:pc}{m m1 m2:Md}{pos:Pos}
theorem VH:PA X [] (tEm 0):=dJ
theorem Aq {p:Pos}(hr:PA X es (tEm n))(hs:autoParam (starEach (.List [] p::es) X.env=(false,eval (.List [] p) X.env)::starEach es X.env) r0_):PA X (.List [] p::es) (tEm (n+1)):=bW (Eo dJ) hr hs
def tNi (b:BX)(G:oz)(i:Nat)(f:Env->Option Out):TS:=λD σ H=>∃Ow env env',ER b Ow G σ env H/\f env=some (.nx env') /\
 ∀ σ' H' a cs HK,EN b Ow G i σ' env' H' a cs HK->Ex (Bs b Ow) H (KN b Ow a cs) H'->D.nx σ' H'
theorem EN.start {Ow:Addr->Prop}{σ:St}{env:Env}{H H2:Hp}{a:Addr}{cs:o0}(E:ER b Ow G σ env H)(hl:i < env.length)(nd:cs.Nodup)(hc:∀c∈cs,H c=none/\H2 c=some (.lst []))(ho:∀x,x∉cs->H2 x=H x)(ha:H2 a=none)(hG:i∉G)(hxi:b.fx i=none):
  EN b Ow G i (σ.set i (some (.ref a))) (env.set i (some (.lst (List.replicate cs.length (.lst []))))) (upd H2 a (.lst (cs.map V.ref))) a cs (List.replicate cs.length [])/\Ex (Bs b Ow) H (KN b Ow a cs) (upd H2 a (.lst (cs.map V.ref))):=by
 have nac:a∉cs:=λz=>by rw[(hc a z).2] at ha;cases ha
 have hHa:H a=none:=by rw[← ho a nac];exact ha
 have Qb:∀x∈a::cs,H x=none:=λx hx=>by
  rcases ar.mp hx with z | z
  ·rw[z];exact hHa
  ·exact(hc x z).1
 have st:∀x o,H x=some o->(upd H2 a (.lst (cs.map V.ref))) x=some o:=λx o q=>by
  have z:x∉a::cs:=λy=>by rw[Qb x y] at q;cases q
  rw[ar,oj] at z
  rw[aQ z.1,ho x z.2];exact q
 have lv':∀x∈a::cs,∃o,(upd H2 a (.lst (cs.map V.ref))) x=some o:=λx hx=>by
  rcases ar.mp hx with z | z
  ·rw[z];exact⟨_,bx⟩
  ·rw[aQ (λq:x=a=>nac (q▸z))];exact⟨_,(hc x z).2⟩
 have xk:Ex (Bs b Ow) H (KN b Ow a cs) (upd H2 a (.lst (cs.map V.ref))):=λc o q=>⟨λw=>⟨st c o q,w,λy=>by rw[Qb c y] at q;cases q⟩,λ_=>st c o q⟩
 have xb:Ex (Bs b Ow) H (Bs (bn b i a cs (upd H2 a (.lst (cs.map V.ref)))) Ow) (upd H2 a (.lst (cs.map V.ref))):=λc o q=>⟨λw=>⟨st c o q,(k_ lv').mpr ((xk c o q).1 w).2⟩,λ_=>st c o q⟩
 have nw:∀x∈a::cs,b.H0 x=none:=λx hx=>E.same.free (Qb x hx)
 have now:∀x∈a::cs,¬ Ow x:=λx hx w=>by obtain⟨o,q⟩:=E.live x w;rw[Qb x hx] at q;cases q
 have X2:∀ds:List Addr,(∀c∈ds,c∈cs)->LX b.C (KN b Ow a cs) (upd H2 a (.lst (cs.map V.ref))) ds (List.replicate ds.length []):=λds=>by
  induction ds with
  | nil=>exact λ_=>.nil
  | cons d ds ih=>
   intro hd
   have hdc:=hd d af
   exact .cons (by rw[aQ (λq:d=a=>nac (q▸hdc))];exact(hc d hdc).2) .nil (ih λc z=>hd c (ac _ z))
 have back:∀{j:Nat}{q:PV},(env.set i none)[j]?=some (some q)->i≠j/\env[j]?=some (some q):=λ{j q} e=>by
  by_cases hj:i=j
  ·subst hj
   rw[cb hl] at e;cases e
  ·rw[aI hj] at e;exact⟨hj,e⟩
 refine⟨⟨by rw[cb hl,List.map_replicate],bx,dA.mpr ⟨nac,nd⟩,nw,X2 cs λ_ z=>z,?_⟩,xk⟩
 rw[kH]
 refine⟨by rw[dn,dn];exact E.len,λc o q=>?_,λc w=>?_,λc w=>?_,λj q e n=>?_,λj q e n=>?_,λj k c q q' e1 n1 s1 e2 n2 s2=>?_,λk v hv=>?_⟩
 ·have q':(if c∈a::cs then (upd H2 a (.lst (cs.map V.ref))) c else b.H0 c)=some o:=q
  by_cases z:c∈a::cs
  ·rw[bg z] at q';exact q'
  ·rw[ap z] at q';exact st c o (E.same c o q')
 ·obtain⟨o,q⟩:=E.live c w
  exact⟨o,st c o q⟩
 ·show (if c∈a::cs then (upd H2 a (.lst (cs.map V.ref))) c else b.H0 c)=none
  rw[ap λz=>now c z w];exact E.new c w
 ·obtain⟨hj,e'⟩:=back e
  obtain⟨v,z1,z2⟩:=E.val j q e' n
  exact⟨v,by rw[aI hj];exact z1,z2.ex xb⟩
 ·obtain⟨hj,e'⟩:=back e
  obtain⟨c,z1,z2,z3⟩:=E.own j q e' n
  exact⟨c,by rw[aI hj];exact z1,z2,z3.ex xb λo y=>st c o y⟩
 ·obtain⟨hj,e1'⟩:=back e1
  obtain⟨hk,Zs⟩:=back e2
  rw[aI hj] at s1
  rw[aI hk] at s2
  exact E.sep j k c q q' e1' n1 s1 Zs n2 s2
 ·have YO:(if k=i then some (V.ref a) else b.fx k)=some v:=hv
  by_cases hk:k=i
  ·rw[bg hk] at YO
   cases YO
   rw[hk,cb (by rw[E.len];exact hl)]
  ·rw[ap hk] at YO
   rw[aI (eS hk)]
   exact E.fix k v YO
theorem VJ (i:Nat){x:Str}{pos' lpos:Pos}(nd:X.N.Nodup)(he:PA X es (tEm n))(hG:autoParam (i∉G) r1_)(hx:autoParam (b.fx i=none) r6_)(hi:autoParam (X.N[i]?=some x) r0_)(hl:autoParam (Loc X.env.scope x) r7_)
  (hs:autoParam (swapsWith (.List es lpos) (some (.Name x pos')) pos.line X.env=pure false) r0_) (hf:autoParam (X.fn x=true\/X.env.scope.names.lookup x=some .local) r2_):PS X (.Assign [.Name x pos'] (.List es lpos) pos) (tNi b G i (DY i n)):=
 PS.imp (Em nd hi hl (Eo he) hs hf)<|by
  rintro D σ H ⟨Ow,env,env',E,hz,k⟩
  rw[Pn] at hz
  split at hz
  ·rename_i hle
   cases hz
   refine Ig n λcs H2 hlen nd hc ho=>⟨g8 (by rw[ae];omega),λa ha=>?_⟩
   obtain⟨E1,x1⟩:=EN.start E hle.1 nd hc ho ha hG hx
   rw[hlen] at E1
   exact k _ _ a cs _ E1 x1
  ·cases hz
def OT (b:BX)(A:Addr->Prop)(H:Hp)(G L:oz)(ro:Bool)(D:Ends):Out->Prop
 | .nx e=>∀FV σ' H',ER b FV G σ' e H'->Ex A H (Bs b FV) H'->D.nx σ' H'
 | .bk e=>∀FV σ' H',ER b FV L σ' e H'->Ex A H (Bs b FV) H'->D.bk σ' H'
 | .ct e=>∀FV σ' H',ER b FV L σ' e H'->Ex A H (Bs b FV) H'->D.ct σ' H'
 | .rt p=>∀v H',FE b.H0 H'->Ret b.C b.A b.H0 ro H' v p->D.rt v H'
def tNX (b:BX)(G G' L:oz)(ro:Bool)(i:Nat)(f:Env->Option Out):TS:=λD σ H=>∃Ow env a cs HK out,EN b Ow G i σ env H a cs HK/\f env=some out/\OT b (KN b Ow a cs) H G' L ro D out
abbrev NXs (X:Cx)(b:BX)(G G' L:oz)(ro:Bool)(i:Nat)(st:oC)(f:Env->Option Out):Prop:=LV X st (tNX b G G' L ro i f)
theorem OT.ex {A A':Addr->Prop}{H H':Hp}{D:Ends}{o:Out}(e:Ex A H A' H')(p:OT b A H G L ro D o):OT b A' H' G L ro D o:=by
 cases o with
 | nx e'=>exact λFV σ' H2 E x=>p FV σ' H2 E (e.trans x)
 | bk e'=>exact λFV σ' H2 E x=>p FV σ' H2 E (e.trans x)
 | ct e'=>exact λFV σ' H2 E x=>p FV σ' H2 E (e.trans x)
 | rt p'=>exact p
theorem RN (c:Pm X b G G' L ro rest g)(hG:autoParam (i∉G) r1_)(hx:autoParam (b.fx i=none) r6_):NXs X b G G' L ro i rest g:=LV.imp c<|by
 rintro D σ H ⟨Ow,env,a,cs,HK,out,E,hf,k⟩
 refine⟨Ow,env,out,E.out hG hx,hf,?_⟩
 have w:Ex (KN b Ow a cs) H (Bs b Ow) H:=cO λc o _ q=>q.1
 have k':=OT.ex w k
 cases out with
 | nx e'=>exact k'
 | bk e'=>exact k'
 | ct e'=>exact k'
 | rt p'=>exact k'
theorem Ar (x:NS X b G i st f)(c:NXs X b G G' L ro i rest g):NXs X b G G' L ro i (st::rest) (aF (OH f) g):=LV.imp (uz x c)<|by
 rintro D σ H ⟨Ow,env,a,cs,HK,out,E,hf,k⟩
 unfold aF at hf
 obtain⟨o,ho,hz⟩:=aC hf
 obtain⟨o',OC,RU⟩:=aC ho
 cases o' with
 | nx e'=>
  cases RU
  exact⟨Ow,env,a,cs,HK,e',E,OC,λOw1 σ1 H1 cs1 yss1 E1 s1 x1=>⟨Ow1,e',a,cs1,yss1,out,E1,hz,k.ex x1⟩⟩
 | bk e'=>cases RU
 | ct e'=>cases RU
 | rt p'=>cases RU
theorem RQ (x:PS X st (tNi b G i f))(c:NXs X b G G' L ro i rest g):Pm X b G G' L ro (st::rest) (aF (OH f) g):=LV.imp (uz x c)<|by
 rintro D σ H ⟨Ow,env,out,E,hf,k⟩
 unfold aF at hf
 obtain⟨o,ho,hz⟩:=aC hf
 obtain⟨o',OC,RU⟩:=aC ho
 cases o' with
 | nx e'=>
  cases RU
  refine⟨Ow,env,e',E,OC,fun σ1 H1 a cs HK E1 x1=>⟨Ow,e',a,cs,HK,out,E1,hz,?_⟩⟩
  cases out with
  | nx e''=>exact λFV σ' H2 E2 x2=>k FV σ' H2 E2 (x1.trans x2)
  | bk e''=>exact λFV σ' H2 E2 x2=>k FV σ' H2 E2 (x1.trans x2)
  | ct e''=>exact λFV σ' H2 E2 x2=>k FV σ' H2 E2 (x1.trans x2)
  | rt p'=>exact k
 | bk e'=>cases RU
 | ct e'=>cases RU
 | rt p'=>cases RU
end
end Lake.MR
namespace Lake.L2
open PySem PySem.Spec PyProof.Rows
section
variable {X:Cx}
noncomputable def Fy (a n:Nat):List V:=(List.range' a n).map λi=>.int (i:Nat)
def VL (ta:TA):TE:=fun σ H Q=>ta σ H λvs H1=>∃a n:Nat,vs=[.int (a:Nat),.int ((a+n:Nat):Int)]/\a+n<=1000000/\∀l,H1 l=none->Q (.ref l) (upd H1 l (.lst (Fy a n)))
theorem Pq {a c:Expr}{ta:TA}{p p2 pos F4:Pos}(hg:Gl X "list")(hm:X.mg "list" = none)(Pp:Gl X "range")(L4:X.mg "range" = none)(hc:X.calm=true)(ha:PA X [a,c] ta)(hs:autoParam (starEach [a,c] X.env=[(false,eval a X.env),(false,eval c X.env)]) r0_)(hs1:autoParam (starEach [c] X.env=[(false,eval c X.env)]) r0_)
  (Kn:autoParam (starEach [.Call (.Name "range" p2) [a,c] [] F4] X.env=(false,eval (.Call (.Name "range" p2) [a,c] [] F4) X.env)::starEach [] X.env) r0_) (HM:autoParam ((backTo pos (starEach [] X.env)).any (·.1)=false) r0_):
  PE X (.Call (.Name "list" p) [.Call (.Name "range" p2) [a,c] [] F4] [] pos) (VL ta):=by
 intro Fs s σ H Q I h
 refine eK (fK I hg hm fE ?_ (by decide) (by decide))
 refine bp ?_ Kn HM
 rw[Kn]
 show wpAny _ _ (spliced ((false,eval (.Call (.Name "range" p2) [a,c] [] F4) X.env)::backTo pos (starEach [] X.env))) _ _ s
 refine d0 ?_
 refine Call_ (fK I Pp L4 l8 (bp (F2 (ha F4 Fs s σ H _ I h) λus s1 ⟨vs,H1,I1,r1,q1⟩=>?_) (by rw[hs,hs1]) (by rw[hs1];rfl)))
 obtain⟨i,n,e,hn,q⟩:=q1
 subst e
 cases r1 with
 | cons r rr=>
  cases rr with
  | cons r' rr=>
   cases rr
   obtain⟨t,rfl⟩:=r
   obtain⟨t',rfl⟩:=r'
   refine call_range_2 (fm ?_)
   have h64:(2 ^ 62:Int)=4611686018427387904:=by decide
   refine call_list_range (n:=n) (I1.ok.hd hc) (IsRange.new ..) (small_one (by omega) (by omega) (by omega) (by omega)) (by rw[oa];split <;> omega) (by omega) λh' tk LN c' kp e it=>?_
   obtain⟨i1,i2⟩:=it
   have hv:Vals (Fy i n) LN.toList:=yp n i LN.toList (by simpa using i1) λj v hj=>by
    obtain⟨t,e⟩:=i2 j v (by simpa using hj)
    exact⟨t,by rw[e];congr 1;omega⟩
   have I2:=I1.laid (a:=s1.heap.objs.size+1) (o:=.lst (Fy i n)) (h':=h') (t':=tk) (λb o eb=>kp b o (am _ eb)) (by omega)
    (show FX X.prog X.w X.K _ h' _ (.lst (Fy i n)) from ⟨(by unfold Fy;rw[ae,kX];exact gE (jN (by omega))),LN.toList,c',hv,by
     have:=e
     rw[dS] at this
     simpa using this⟩)
   refine⟨.ref (s1.heap.objs.size+1),_,I2,?_,q _ (I1.FL.fresh (by omega))⟩
   show Value.ref _=Value.ref _
   rw[dS]
end
end Lake.L2
namespace Lake.MR
open PySem L2
@[simp] noncomputable def Fz:PV->PV->Option PV
 | .int i,.int j=>if 0<=i/\i<=j/\j<=1000000 then some (.lst ((List.range' i.toNat (j - i).toNat).map λk=>.int (k:Nat))) else none
 | _,_=>none
section
variable {X:Cx}{b:BX}{G:oz}{pos p p2 F4:Pos}{m1 m2:Md}{e1 e2:Expr}{f1 f2:pc}
theorem Pr (hm:X.mg "list" = none)(L4:X.mg "range" = none)(h1:SE X b G m1 e1 f1)(h2:SE X b G m2 e2 f2)(hc:autoParam (X.calm=true) r0_)(hg:Gl X "list" := by rfl)(Pp:Gl X "range" := by rfl)(hs:autoParam (starEach [e1,e2] X.env=[(false,eval e1 X.env),(false,eval e2 X.env)]) r0_)(hs1:autoParam (starEach [e2] X.env=[(false,eval e2 X.env)]) r0_)
  (MM:autoParam (starEach [e1,e2] X.env=(false,eval e1 X.env)::starEach [e2] X.env) r0_) (hs1':autoParam (starEach [e2] X.env=(false,eval e2 X.env)::starEach [] X.env) r0_)
  (Kn:autoParam (starEach [.Call (.Name "range" p2) [e1,e2] [] F4] X.env=(false,eval (.Call (.Name "range" p2) [e1,e2] [] F4) X.env)::starEach [] X.env) r0_) (HM:autoParam ((backTo pos (starEach [] X.env)).any (·.1)=false) r0_):
  SE X b G .own (.Call (.Name "list" p) [.Call (.Name "range" p2) [e1,e2] [] F4] [] pos) (b2 Fz f1 f2):=by
 refine PE.imp (Pq hg hm Pp L4 hc (bW h1.bor (bW h2.bor dJ hs1') MM) hs hs1 Kn HM) ?_
 rintro σ H Q ⟨Ow,env,q,E,hf,k⟩
 obtain⟨x,hx,z1⟩:=aC hf
 clear hf
 obtain⟨y,hy,hf⟩:=aC z1
 clear z1
 cases x <;> cases y <;> simp only[Fz] at hf <;> first | cases hf | skip
 rename_i i j
 split at hf
 ·rename_i hij
  cases hf
  refine⟨Ow,env,_,E,hx,λv H1 s r=>⟨Ow,env,_,E.up s,hy,λv2 H2 s2 r2=>?_⟩⟩
  have MH:FF b.C (Bs b Ow) H1 v (.int i):=r
  have Of:FF b.C (Bs b Ow) H2 v2 (.int j):=r2
  have e1:((i.toNat:Nat):Int)=i:=by omega
  have e2:((i.toNat+(j - i).toNat:Nat):Int)=j:=by omega
  refine⟨i.toNat,(j - i).toNat,by rw[MH.int,Of.int,e1,e2],by omega,λl hl=>k _ _ ((s.trans s2).new hl _) (Res.down (s.trans s2) (eZ hl ?_))⟩
  exact tY _ _ (λi=>.int _) _
 ·cases hf
end
noncomputable def JQ:PV->Option String
 | .ktp _=>some "tuple"
 | p=>tyN p
noncomputable def JR (tb:List (String×Bool))(p:PV):Option PV:=(JQ p).bind λt=>(tb.lookup t).bind λk=>some (.bl k)
@[simp] theorem Y9 (tb:List (String×Bool))(p:PV):JR tb p=((JQ p).bind λt=>(tb.lookup t).bind λk=>some (.bl k)):=id rfl
section
variable {X:Cx}{b:BX}{G:oz}{p pos:Pos}{m1:Md}{e:Expr}{f:pc}
theorem FJ:GN X (.builtin "isinstance") (λxs H Q=>(∃x n t b,xs=[x,.ty n]/\K2 X.K H x t/\W.kitOne X.K t (.type n)=some b/\Q (.bl b) H) \/
  ∃a ys n b,xs=[.ref a,.ty n]/\LD X.K H a ys/\W.kitOne X.K (.type "tuple") (.type n)=some b/\Q (.bl b) H):=by
 intro Fs s σ H xs us Q I r h
 rcases h with h | ⟨a,ys,n,b,rfl,hs,e,q⟩
 ·exact Ho Fs s σ H xs us Q I r h
 ·obtain⟨u,w',rfl,r1,r2⟩:=vals2 r
  cases r2
  cases (show u=Value.ref a from r1)
  have key:∃o:Obj,s.heap.get? a=some o/\o.cls=.type "tuple" := by
   obtain⟨FD,_,pl,_⟩:=I.tuple hs
   obtain⟨o,e,c,_⟩:=pl
   exact⟨o,e,c⟩
  exact df kR I.IP key e (λz=>nomatch z) λtk=>⟨.bl b,H,I.tok _,rfl,q⟩
theorem RT {m:Md}{n:Str}{n':String}{p1:Pos}(tb:List (String×Bool))(hk:∀t k,(t,k)∈tb->W.kitOne X.K (.type t) (.type n')=some k)(hm:X.mg "isinstance" = none)(hmn:X.mg n=none)(hbn:bootBuiltins n=some (.type n'))(h:SE X b G m e f)(hK:autoParam (X.K=b.C.K) r0_)(hg:Gl X "isinstance" := by rfl)(hgn:autoParam (Gl X n) r0_)
  (hbi:autoParam (bootBuiltins "isinstance" = some (.builtin "isinstance")) r3_) (hn1:n ≠ "__name__" := by decide) (hd:autoParam ((n == ("__debug__" : Str))=false) r1_)
  (he:autoParam (starEach [e,.Name n p1] X.env=(false,eval e X.env)::starEach [.Name n p1] X.env) r0_) (Sf:autoParam (starEach [.Name n p1] X.env=(false,eval (.Name n p1) X.env)::starEach [] X.env) r0_) (HM:autoParam ((backTo pos (starEach [.Name n p1] X.env)).any (·.1)=false) r0_):
  SE X b G .val (.Call (.Name "isinstance" p) [e,.Name n p1] [] pos) (b1 (JR tb) f):=by
 refine PE.imp (yg FJ hg hm hbi (bW h.bor (bW (QT (v:=.ty n') hgn hmn hbn rfl hn1 hd) dJ Sf) he) (by decide) (by decide) he HM) ?_
 rintro σ H Q ⟨Ow,env,q,E,hf,kk⟩
 obtain⟨p1,hp1,hf⟩:=aC hf
 obtain⟨t,ht,hf⟩:=aC hf
 obtain⟨k,hk',hf⟩:=aC hf
 cases hf
 refine⟨Ow,env,p1,E,hp1,λv H1 s r=>?_⟩
 have r1:FF b.C (Bs b Ow) H1 v p1:=r
 unfold JQ at ht
 split at ht
 ·cases ht
  obtain⟨a,vs,rfl,ha,_⟩:=r1.ktp
  exact .inr ⟨a,vs,n',k,rfl,by rw[hK];exact ha,hk _ k (qW hk'),kk _ H1 s (.bl k)⟩
 ·exact .inl ⟨v,n',.type t,k,rfl,by rw[hK];exact r1.ty ht,hk t k (qW hk'),kk _ H1 s (.bl k)⟩
end
end Lake.MR
namespace Lake.L2
open PySem PySem.Spec PyProof PyProof.Rows
noncomputable def vP:List Int->Int
 | []=>0
 | a::l=>l.foldl (λm x=>if m < x then x else m) a
theorem y_:∀(l:oQ) (a:Int),a<=l.foldl (λm x=>if m < x then x else m) a/\∀x∈l,x<=l.foldl (λm x=>if m < x then x else m) a
 | [],a=>⟨Int.le_refl _,λx hx=>by cases hx⟩
 | b::l,a=>by
  obtain⟨h1,h2⟩:=y_ l (if a < b then b else a)
  have hg:a<=(if a < b then b else a)/\b<=(if a < b then b else a):=by split <;> omega
  rw[ft]
  generalize (if a < b then b else a)=g at *
  refine⟨Int.le_trans hg.1 h1,λx hx=>?_⟩
  rcases ar.mp hx with e | e
  ·subst e;exact Int.le_trans hg.2 h1
  ·exact h2 x e
theorem xU:∀(l:oQ) (a:Int),l.foldl (λm x=>if m < x then x else m) a=a\/l.foldl (λm x=>if m < x then x else m) a∈l
 | [],a=>.inl rfl
 | b::l,a=>by
  rw[ft]
  rcases xU l (if a < b then b else a) with h | h
  ·rw[h]
   split
   ·exact .inr (by simp)
   ·exact .inl rfl
  ·exact .inr (ac _ h)
theorem Cq {l:oQ}{M:Int}(hm:M∈l)(hg:∀a∈l,a<=M):vP l=M:=by
 cases l with
 | nil=>cases hm
 | cons a l=>
  obtain⟨h1,h2⟩:=y_ l a
  have h3:vP (a::l)=l.foldl (λm x=>if m < x then x else m) a:=rfl
  rw[h3]
  have h4:M<=l.foldl (λm x=>if m < x then x else m) a:=by
   rcases ar.mp hm with e | e
   ·subst e;exact h1
   ·exact h2 M e
  have h5:l.foldl (λm x=>if m < x then x else m) a<=M:=by
   rcases xU l a with e | e
   ·rw[e];exact hg a (by simp)
   ·exact hg _ (ac _ e)
  omega
section
variable {X:Cx}
theorem Mu (hc:autoParam (X.calm=true) r0_):GN X (.builtin "max") (λxs H Q=>∃(p:Addr) (ns:oQ),xs=[.ref p]/\F7 X.K H p (ns.map V.int)/\ns≠[]/\Q (.int (vP ns)) H):=by
 intro Fs s σ H xs us Q I r h
 obtain⟨l,ns,rfl,hq,HU,q⟩:=h
 obtain⟨u,rfl,rx⟩:=vals1 r
 cases rx
 obtain⟨FD,r',pl,hz⟩:=I.list hq
 have hi:=intsAre_of r'
 obtain⟨ys,hy⟩:=hi.allInts.items
 have hl:s.heap.IsList l (intItems ys):=hy▸pl.isList
 have e1:ns=ys.toList.map (·.1):=by
  rw[← nums_intItems,← hy]
  exact(show numsOf FD.toArray.toList=ns from hi.numsOf).symm
 have hsz:0 < ys.size:=by
  rcases Nat.eq_zero_or_pos ys.size with z | z
  ·exfalso
   apply HU
   rw[e1]
   have:ys.toList=[]:=iS.mp (by rw[ci];exact z)
   rw[this]
   rfl
  ·exact z
 refine max_intList (I.ok.hd hc) hl hsz λv h' tk hv hk=>?_
 obtain⟨t,rfl⟩:=intItems_at hv
 obtain⟨h1,h2⟩:=argBest_gt (numAt ys) (ys.size - 1)
 have ZU:vP ns=numAt ys (argBest (λi j=>decide (numAt ys i > numAt ys j)) (ys.size - 1)):=by
  refine Cq ?_ λa ha=>?_
  ·rw[e1,numAt_eq];exact getD_mem (by rw[ae,ci];omega)
  ·rw[e1] at ha
   obtain⟨j,hj,rfl⟩:=mem_getD ha
   rw[ae,ci] at hj
   rw[← numAt_eq];exact h2 j (by omega)
 exact⟨.int (vP ns),H,I.kept hk,⟨t,by rw[ZU]⟩,q⟩
end
end Lake.L2
namespace Lake.MR
open PySem L2
section
variable {X:Cx}{b:BX}{G:oz}{pos p:Pos}{m1:Md}{e:Expr}{f:pc}
@[simp] noncomputable def za:PV->Option PV
 | .lst (x::xs)=>(Ki (x::xs)).map λns=>.int (vP ns)
 | _=>none
theorem RV (hm:X.mg "max" = none)(h:SE X b G m1 e f)(NG:autoParam (X.calm=true) r0_)(hK:autoParam (X.K=b.C.K) r0_)(hg:Gl X "max" := by rfl)(he:autoParam (starEach [e] X.env=(false,eval e X.env)::starEach [] X.env) r0_):SE X b G .val (.Call (.Name "max" p) [e] [] pos) (b1 za f):=by
 refine yU (Mu NG) (λOw H v1 p1 p Q hn r1 e k=>?_) hm PyProof.Rows.boot_max h hg (by decide) (by decide) he
 rw[hK]
 unfold za at e
 split at e
 ·rename_i x xs
  obtain⟨a,vs,rfl,ha,ra⟩:=r1.lst
  obtain⟨ns,h1,h2⟩:=db.mp e
  subst h2
  have hv:=ra.Ki h1
  subst hv
  refine⟨a,ns,rfl,F7.of ha,λz=>?_,k _ H (FE.refl _) (.int _)⟩
  subst z
  have:=ra.length
  simp at this
 ·cases e
end
@[simp] noncomputable def JS:PV->PV->PV->Option PV
 | .dK kvs,y,z=>(keyOf y).map λk=>(dF kvs k).getD z
 | .dT kvs,.tup ys,z=>(GW ys).map λk=>(dF kvs k).getD z
 | _,_,_=>none
section
variable {X:Cx}{b:BX}{G:oz}{apos FO:Pos}{m1 m2:Md}{e1 e2 e3:Expr}{f1 f2 f3:pc}
theorem RW {j:Nat}(hr:F5 j X.A)(h1:SE X b G m1 e1 f1)(h2:SE X b G m2 e2 f2)(h3:SE X b G .val e3 f3)(m:autoParam (M2 X e1 "get" apos e2 e3 FO) r12_)(hK:autoParam (X.K=b.C.K) r0_):SE X b G .val (.Call (.Attribute e1 "get" apos) [e2,e3] [] FO) (b3 JS f1 f2 f3):=by
 refine PE.imp (Oc (uB hr) h1.bor h2.bor h3 m) fun σ H Q h=>?_
 obtain⟨Ow,env,p,E,hf,k⟩:=h
 obtain⟨p1,q1,z1⟩:=aC hf
 clear hf
 obtain⟨p2,q2,z2⟩:=aC z1
 clear z1
 obtain⟨p3,q3,hf⟩:=aC z2
 clear z2
 refine⟨Ow,env,p1,E,q1,λv1 H1 s1 r1=>?_⟩
 unfold JS at hf
 split at hf
 ·rename_i kvs
  obtain⟨ky,hk,e⟩:=db.mp hf
  obtain⟨a,kv,rfl,ha,ra⟩:=r1.dK
  refine⟨a,rfl,.inl ⟨kv,.inl ha⟩,Ow,env,p2,E.up s1,q2,λv2 H2 s2 r2=>⟨Ow,env,p3,(E.up s1).up s2,q3,λv3 H3 s3 r3=>?_⟩⟩
  have Of:FF b.C (Bs b Ow) H2 v2 p2:=r2
  rw[Of.key hk]
  have ha3:=s3 _ _ (s2 _ _ ha)
  refine⟨_,IE.k ha3,k _ H3 ((s1.trans s2).trans s3) ?_⟩
  unfold dF at e
  rcases GA.val (k:=ky) ra with ⟨v,p',g1,g2,rv⟩ | ⟨g1,g2⟩
  ·rw[g2] at e
   rw[g1,← e]
   exact rv.ex (.of_same (s2.trans s3))
  ·rw[g2] at e
   rw[g1,← e]
   exact r3
 ·rename_i kvs ys
  obtain⟨ky,hk,e⟩:=db.mp hf
  obtain⟨a,kv,rfl,ha,ra⟩:=r1.dT
  refine⟨a,rfl,.inr ⟨kv,.inl ha⟩,Ow,env,_,E.up s1,q2,λv2 H2 s2 r2=>⟨Ow,env,p3,(E.up s1).up s2,q3,λv3 H3 s3 r3=>?_⟩⟩
  have Of:FF b.C (Bs b Ow) H2 v2 (.tup ys):=r2
  obtain⟨c,vs,rfl,hc,rc⟩:=Of.tup
  have ha3:=s3 _ _ (s2 _ _ ha)
  refine⟨_,IE.t ha3 (by rw[hK];exact(hc.up s3).key (rc.GW hk)),k _ H3 ((s1.trans s2).trans s3) ?_⟩
  unfold dF at e
  rcases GB.val (k:=ky) ra with ⟨v,p',g1,g2,rv⟩ | ⟨g1,g2⟩
  ·rw[g2] at e
   rw[g1,← e]
   exact rv.ex (.of_same (s2.trans s3))
  ·rw[g2] at e
   rw[g1,← e]
   exact r3
 ·cases hf
end
end Lake.MR
namespace Lake.L2
open PySem PySem.Spec PyProof.Rows
abbrev yq (h:Heap)(z TI TO T:Addr)(f:Bool):Prop:=h.get? z=some { cls:=.type "zip",dict:=none,data:=.fields #[rawInt T,.bool f,.bool false,.ref TI,.ref TO],slots:=#[] }
section
variable {prog:Program}{w:World}{A:Around}{E:ox}{s:Shared}{z TI TO T i1 i2 l1 l2:Addr}{k:Nat}{xs ys:pb}{x y:Value}{f:Bool}{oT:Obj}
theorem Ih {Q:Bool->Shared->Prop}(hz:yq s.heap z TI TO T f)(hT:s.heap.get? T=some oT)(q:∀h',yq h' z TI TO T true->Heap.SameBut z s.heap h'->Q false { s with heap:=h' }):wpAny (model prog w) A (Builtin.SmallTypes.ownedTupleIsFree (.ref z)) Q E s:=by
 unfold Builtin.SmallTypes.ownedTupleIsFree
 refine ab (gt hz rfl (x:=rawInt T) rfl ?_)
 have hl:∀{R:Option Obj->Shared->Prop},R (some oT) s->wpAny (model prog w) A (loadIfAlive T) R E s:=λ{R} hr Γ p _=>by
  show Sem.wp _ _ (.loadIfAlive T _) _ _ p s
  rw[Sem.wp_loadIfAlive,hT]
  exact hr
 refine ab (hl ?_)
 have hf:(Option.isNone (some oT))=false:=rfl
 simp only[hf,fe,gx]
 refine ab (gt hz rfl (x:=.bool f) rfl ?_)
 cases f with
 | true=>
  rw[ap (by decide)]
  exact ay (q s.heap hz ⟨rfl,λ_ _=>rfl⟩)
 | false=>
  rw[bg (by decide)]
  exact ab (wpAny_setField_rec hz (by simp) λh1 hz1 s1=>ay (q h1 hz1 s1))
theorem RX {Q:Option Value->Shared->Prop}(D:ZipApart z TI TO i1 i2 l1 l2)(hz:yq s.heap z TI TO T f)(hT:s.heap.get? T=some oT)(L5:IsPair s.heap TI (.ref i1) (.ref i2))
  (h1:s.heap.IsListIter i1 l1 k) (h2:s.heap.IsListIter i2 l2 k) (Qr:s.heap.IsList l1 xs) (Pd:s.heap.IsList l2 ys) (hx:xs[k]?=some x) (hy:ys[k]?=some y)
  (q:∀h',yq h' z TI TO T true->h'.IsListIter i1 l1 (k+1)->h'.IsListIter i2 l2 (k+1)->IsPair h' s.heap.objs.size x y->
   (∀c o,c≠z->c≠i1->c≠i2->s.heap.get? c=some o->h'.get? c=some o)->h'.objs.size=s.heap.objs.size+1->Q (some (.ref s.heap.objs.size)) { s with heap:=h' }):wpAny (model prog w) A (pyNext (.ref z)) Q E s:=by
 have ty:s.TypeIs (.ref z) "zip" := ⟨_,hz,rfl⟩
 unfold pyNext
 refine ab (lj (dQ (name:=Str.ofString "__next__") ty kx (eM kx ty F.entry_zip_next ?_ (F.args_zip_next_1 _))))
 show wpAny _ _ (field (.ref z) 2 >>= λ_=>_) _ _ _
 refine ab (gt hz rfl (x:=.bool false) rfl ?_)
 show wpAny _ _ (field (.ref z) 3 >>= λ_=>_) _ _ _
 refine ab (gt hz rfl (x:=.ref TI) rfl (ab (ib L5 rfl ?_)))
 show wpAny _ _ (Builtin.SmallTypes.ownedTupleIsFree (.ref z) >>= λ_=>_) _ _ _
 refine ab (Ih hz hT λg1 z1 u1=>?_)
 simp only[fe,gx]
 have e1:g1.IsListIter i1 l1 k:=h1.extBut u1.extBut D.i1z
 have e2:g1.IsListIter i2 l2 k:=h2.extBut u1.extBut D.i2z
 have e3:g1.IsList l1 xs:=Qr.extBut u1.extBut D.l1z
 have e4:g1.IsList l2 ys:=Pd.extBut u1.extBut D.l2z
 refine ab ?_
 rw[← Array.forIn_toList];simp only[iA,nB]
 refine ab (ab (eC ?_))
 show wpAny _ _ (Builtin.SmallTypes.nextOf (.ref i1) >>= λ_=>_) _ _ _
 refine ab (wpAny_nextOf_list_item (s:={ s with heap:=g1 }) e1 e3 hx λg2 z2 u2=>ay (ay ?_))
 refine ab (ab (eC ?_))
 show wpAny _ _ (Builtin.SmallTypes.nextOf (.ref i2) >>= λ_=>_) _ _ _
 refine ab (wpAny_nextOf_list_item (s:={ s with heap:=g2 }) (e2.extBut u2.extBut D.i12.symm) (e4.extBut u2.extBut D.l2i1) hy λg3 z3 u3=>ay (ay (ay ?_)))
 have sz:g3.objs.size=s.heap.objs.size:=by rw[u3.1,u2.1,u1.1]
 refine ab (wpAny_newTuple (hsz:=by show (2:Nat)<=sizeLine;decide) ?_)
 have up:∀c o,c≠z->c≠i1->c≠i2->s.heap.get? c=some o->(g3.push { cls:=.type "tuple",data:=.seq #[x,y] }).get? c=some o:=λc o c1 c2 c3 e=>am _ (u3.extBut _ _ c3 (u2.extBut _ _ c2 (u1.extBut _ _ c1 e)))
 refine ay ⟨_,rfl,ay ?_⟩
 show Q (some (.ref g3.objs.size)) _
 rw[sz]
 refine q _ (am _ (u3.extBut _ _ D.i2z.symm (u2.extBut _ _ D.i1z.symm z1))) ((z2.extBut u3.extBut D.i12).at λo e=>am _ e) (z3.at λo e=>am _ e) (by rw[← sz];exact ba _ rfl) up (by rw[dS,sz])
theorem VM {Q:Option Value->Shared->Prop}(hh:A.handled=none)(D:ZipApart z TI TO i1 i2 l1 l2)(hz:yq s.heap z TI TO T f)(hT:s.heap.get? T=some oT)(L5:IsPair s.heap TI (.ref i1) (.ref i2))
  (h1:s.heap.IsListIter i1 l1 k) (Qr:s.heap.IsList l1 xs) (hx:xs[k]?=none)
  (q:∀h',(∀c o,c≠z->c≠i1->c≠i2->s.heap.get? c=some o->h'.get? c=some o)->Q none { s with heap:=h' }):wpAny (model prog w) A (pyNext (.ref z)) Q E s:=by
 have ty:s.TypeIs (.ref z) "zip" := ⟨_,hz,rfl⟩
 unfold pyNext
 refine ab (lj (dQ (name:=Str.ofString "__next__") ty kx (eM kx ty F.entry_zip_next ?_ (F.args_zip_next_1 _))))
 show wpAny _ _ (field (.ref z) 2 >>= λ_=>_) _ _ _
 refine ab (gt hz rfl (x:=.bool false) rfl ?_)
 show wpAny _ _ (field (.ref z) 3 >>= λ_=>_) _ _ _
 refine ab (gt hz rfl (x:=.ref TI) rfl (ab (ib L5 rfl ?_)))
 show wpAny _ _ (Builtin.SmallTypes.ownedTupleIsFree (.ref z) >>= λ_=>_) _ _ _
 refine ab (Ih hz hT λg1 z1 u1=>?_)
 simp only[fe,gx]
 refine ab ?_
 rw[← Array.forIn_toList];simp only[iA,nB]
 refine ab (ab (eC ?_))
 show wpAny _ _ (Builtin.SmallTypes.nextOf (.ref i1) >>= λ_=>_) _ _ _
 refine ab (wpAny_nextOf_list_end (s:={ s with heap:=g1 }) hh (h1.extBut u1.extBut D.i1z) (Qr.extBut u1.extBut D.l1z) hx λg2 e u2 he=>?_)
 obtain⟨o,ho,hc⟩:=he
 refine ab (lI (b:=true) (T := "StopIteration") ⟨o,ho,hc⟩ isSubtype_stop ?_)
 exact ay (q _ λc o c1 c2 c3 e=>u2 _ _ c2 (u1.extBut _ _ c1 e))
def NM (h:Heap)(xs ys:pb)(B:Addr)(W:o0)(acc:pb)(n:Nat):Prop:=
 acc.size=n/\∀i,i < n->∃t x y,acc[i]?=some (.ref t)/\xs[i]?=some x/\ys[i]?=some y/\IsPair h t x y/\B<=t/\t∉W/\∀j,j < i->acc[j]?≠some (.ref t)
theorem NM.keep {h h':Heap}{B:Addr}{W:o0}{acc:pb}{n:Nat}(q:NM h xs ys B W acc n)(k:∀c o,c∉W->h.get? c=some o->h'.get? c=some o):NM h' xs ys B W acc n:=
 ⟨q.1,λi hi=>let ⟨t,x,y,a,b,c,d,e,f,g⟩:=q.2 i hi;⟨t,x,y,a,b,c,k _ _ f d,e,f,g⟩⟩
theorem NM.push {h:Heap}{B t:Addr}{W:o0}{acc:pb}{n:Nat}{x y:Value}(q:NM h xs ys B W acc n)(hx:xs[n]?=some x)(hy:ys[n]?=some y)(ht:IsPair h t x y)(hB:B<=t)(hW:t∉W)(hw:∀j,j < n->acc[j]?≠some (.ref t)):NM h xs ys B W (acc.push (.ref t)) (n+1):=by
 obtain⟨q1,q2⟩:=q
 refine⟨by rw[Array.size_push,q1],λi hi=>?_⟩
 rcases dv i n with h1 | h1
 ·obtain⟨t',x',y',a,b,c,d,e,f,g⟩:=q2 i h1
  exact⟨t',x',y',by rw[jI (by omega)];rw[cE (by omega)] at a;exact a,b,c,d,e,f,λj hj=>by rw[jI (by omega),← cE (by omega)];exact g j hj⟩
 ·have e:i=n:=by omega
  subst e
  exact⟨t,x,y,by rw[← q1];exact Array.getElem?_push_size,hx,hy,ht,hB,hW,λj hj=>by rw[jI (by omega),← cE (by omega)];exact hw j hj⟩
theorem RZ {R:Result->Shared->Prop}{N B:Addr}{res:Value}{a b:Value}(hh:A.handled=none)(D:ZipApart z TI TO i1 i2 l1 l2)(hn:xs.size<=sizeLine)(hxy:ys.size=xs.size)(n1:N≠z)(n2:N≠TI)(n3:N≠TO)(n4:N≠i1)(n5:N≠i2)(n6:N≠l1)(n7:N≠l2)
  (lz:z < B) (lTO:TO < B) (li1:i1 < B) (li2:i2 < B) (lN:N < B):
  ∀(m k:Nat) (s:Shared) (acc:pb) (c:Nat),xs.size - k=m->k<=xs.size->B<=s.heap.objs.size->((k=0/\IsZip s.heap z TI TO .none/\IsPair s.heap TO a b)\/∃T f oT,yq s.heap z TI TO T f/\s.heap.get? T=some oT/\T∉[z,TO,i1,i2,N])->
  IsPair s.heap TI (.ref i1) (.ref i2)->s.heap.IsListIter i1 l1 k->s.heap.IsListIter i2 l2 k->s.heap.IsList l1 xs->s.heap.IsList l2 ys->
  s.heap.get? N=some { cls:=.type "list",dict:=none,data:=.seq acc c,slots:=#[] }->NM s.heap xs ys B [z,TO,i1,i2,N] acc k->
  (∀h' LN c',(∀c o,c∉[z,TO,i1,i2,N]->s.heap.get? c=some o->h'.get? c=some o)->h'.get? N=some { cls:=.type "list",dict:=none,data:=.seq LN c',slots:=#[] }->NM h' xs ys B [z,TO,i1,i2,N] LN xs.size->R (.ok (.ret res)) { s with heap:=h' })->
  codeAny (model prog w) A (.builtin "list.extend.loop" ⟨[.ref N,.ref z,res],[]⟩) R s:=by
 have ni:∀{c:Addr},c∉[z,TO,i1,i2,N]->c≠z/\c≠TO/\c≠i1/\c≠i2/\c≠N:=λ{c} h=>by simpa using h
 intro m
 induction m with
 | zero=>
  intro k s acc c hm hk hB hZ L5 h1 h2 Qr Pd hN hI q
  have e:k=xs.size:=by omega
  subst e
  have ex:xs[xs.size]?=none:=i6 (aw _)
  refine codeAny_builtin F.entry_extend_loop ?_
  rw[Around.under_plainId gv _]
  show wpAny _ A.in1 (pyNext (.ref z) >>= λ_=>_) _ _ s
  rcases hZ with ⟨_,hz,Oy⟩ | ⟨T,f,oT,hz,hT,_⟩
  ·refine ab (wpAny_pyNext_zip_end hh D hz L5 Oy h1 h2 Qr Pd (.inl ex) λh' k'=>ay ?_)
   have kk:∀c o,c∉[z,TO,i1,i2,N]->s.heap.get? c=some o->h'.get? c=some o:=λc o hc e=>let ⟨a,b,c,d,_⟩:=ni hc;k' _ _ a b c d e
   exact q h' acc c kk (k' _ _ n1 n3 n4 n5 hN) (hI.keep kk)
  ·refine ab (VM hh D hz hT L5 h1 Qr ex λh' k'=>ay ?_)
   have kk:∀c o,c∉[z,TO,i1,i2,N]->s.heap.get? c=some o->h'.get? c=some o:=λc o hc e=>let ⟨a,b,c,d,_⟩:=ni hc;k' _ _ a c d e
   exact q h' acc c kk (k' _ _ n1 n4 n5 hN) (hI.keep kk)
 | succ m ih=>
  intro k s acc c hm hk hB hZ L5 h1 h2 Qr Pd hN hI q
  have lt:k < xs.size:=by omega
  have ex:xs[k]?=some xs[k]:=cE lt
  have ey:ys[k]?=some (ys[k]'(by omega)):=cE (by omega)
  refine codeAny_builtin F.entry_extend_loop ?_
  rw[Around.under_plainId gv _]
  show wpAny _ A.in1 (pyNext (.ref z) >>= λ_=>_) _ _ s
  have big:∀c,c < B->s.heap.objs.size≠c:=λc hc e=>absurd (bv hc hB) (by rw[e];exact d5 _)
  have nW:s.heap.objs.size∉[z,TO,i1,i2,N]:=by
   simp only[ar,b9,eW,oj]
   exact⟨big _ lz,big _ lTO,big _ li1,big _ li2,big _ lN⟩
  have go:∀h',(∀c o,c∉[z,TO,i1,i2,N]->s.heap.get? c=some o->h'.get? c=some o)->h'.get? N=some { cls:=.type "list",dict:=none,data:=.seq acc c,slots:=#[] }->IsPair h' TI (.ref i1) (.ref i2)->h'.IsListIter i1 l1 (k+1)->h'.IsListIter i2 l2 (k+1)->
    h'.IsList l1 xs->h'.IsList l2 ys->IsPair h' s.heap.objs.size xs[k] (ys[k]'(by omega))->h'.objs.size=s.heap.objs.size+1->(∃T f oT,yq h' z TI TO T f/\h'.get? T=some oT/\T∉[z,TO,i1,i2,N])->
    wpAny (model prog w) A.in1 (updateSeq N (·.push (.ref s.heap.objs.size)) >>= λ_=>pure (Fin.again (.builtin "list.extend.loop" ⟨[.ref N,.ref z,res],[]⟩)))
     (λfin s'=>match fin with | .done f=>R (.ok f) s' | .again c'=>c'.quiet=true/\codeAny (model prog w) A c' R s') (λe s'=>R (.error e) s') { s with heap:=h' }:=by
   intro h' kk hN' hTI' ZI h2' hl1' hl2' hp hsz hZ'
   have up:∀c o,c≠N->h'.get? c=some o->(h'.update N (Obj.mapSeq (·.push (.ref s.heap.objs.size)))).get? c=some o:=λc o hc e=>(d6 _ _ (eS hc)).trans e
   have usz:(h'.update N (Obj.mapSeq (·.push (.ref s.heap.objs.size)))).objs.size=h'.objs.size:=(cq h' N _).1
   refine ab (iE (s:={ s with heap:=h' }) hN' rfl (ay ⟨oe gv _,ih (k+1) { s with heap:=h'.update N (Obj.mapSeq (·.push (.ref s.heap.objs.size))) } (acc.push (.ref s.heap.objs.size)) _ (by omega) lt (by show B<=Array.size _;rw[usz,hsz];exact Nat.le_succ_of_le hB) (.inr ?_) (up _ _ n2.symm hTI') (ZI.at λo e=>up _ o n4.symm e) (h2'.at λo e=>up _ o n5.symm e) (hl1'.at λo e=>up _ o n6.symm e) (hl2'.at λo e=>up _ o n7.symm e) (cS _ hN' rfl) ?_ λh2 acc2 c2 k2 e2 i2=>?_⟩) (by rw[hI.1];omega) (by show (acc.push _).size<=sizeLine+1;rw[Array.size_push,hI.1];omega))
   ·obtain⟨T,f,oT,a1,a2,a3⟩:=hZ'
    exact⟨T,f,oT,up _ _ n1.symm a1,up _ _ (ni a3).2.2.2.2 a2,a3⟩
   ·exact((hI.keep kk).push ex ey hp hB nW λj hj e=>by
     obtain⟨t',_,_,a1,_,_,a2,_⟩:=hI.2 j hj
     rw[a1] at e
     have e':t'=s.heap.objs.size:=og (bi e)
     exact absurd (aE a2) (by rw[e'];exact d5 _)).keep λc o hc e=>up c o (ni hc).2.2.2.2 e
   ·exact q h2 acc2 c2 (λc o hc e=>k2 c o hc (up c o (ni hc).2.2.2.2 (kk c o hc e))) e2 i2
  rcases hZ with ⟨_,hz,Oy⟩ | ⟨T,f,oT,hz,hT,nT⟩
  ·refine ab (wpAny_pyNext_zip_item D hz L5 Oy h1 h2 Qr Pd ex ey λh' z1 z2 z3 z4 z5 z6 k'=>?_)
   exact go h' (λc o hc e=>let ⟨a,b,c,d,_⟩:=ni hc;k' _ _ a b c d e) (k' _ _ n1 n3 n4 n5 hN) (k' _ _ D.TIz D.TITO D.TIi1 D.TIi2 L5) z3 z4 (Qr.at λo e=>k' _ o D.l1z D.l1TO D.l1i1 D.l1i2 e) (Pd.at λo e=>k' _ o D.l2z D.l2TO D.l2i1 D.l2i2 e) z5 z6 ⟨_,false,_,z1,z5,nW⟩
  ·refine ab (RX D hz hT L5 h1 h2 Qr Pd ex ey λh' z1 z3 z4 z5 k' z6=>?_)
   obtain⟨b1,b2,b3,b4,b5⟩:=ni nT
   exact go h' (λc o hc e=>let ⟨a,b,c,d,_⟩:=ni hc;k' _ _ a c d e) (k' _ _ n1 n4 n5 hN) (k' _ _ D.TIz D.TIi1 D.TIi2 L5) z3 z4 (Qr.at λo e=>k' _ o D.l1z D.l1i1 D.l1i2 e) (Pd.at λo e=>k' _ o D.l2z D.l2i1 D.l2i2 e) z5 z6 ⟨T,true,oT,z1,k' _ _ b1 b3 b4 hT,nT⟩
theorem Mv:typeLookup (.type "zip") "__len__" = pure none:=by rw[kr,g6];kernel_rfl
theorem JT:typeLookup (.type "zip") "__length_hint__" = pure none:=by rw[kr,g6];kernel_rfl
theorem Dc {Q:ox}{a b:Value}(hh:A.handled=none)(D:ZipApart z TI TO i1 i2 l1 l2)(hn:xs.size<=sizeLine)(hxy:ys.size=xs.size)(hz:IsZip s.heap z TI TO .none)(Oy:IsPair s.heap TO a b)(L5:IsPair s.heap TI (.ref i1) (.ref i2))
  (h1:s.heap.IsListIter i1 l1 0) (h2:s.heap.IsListIter i2 l2 0) (Qr:s.heap.IsList l1 xs) (Pd:s.heap.IsList l2 ys)
  (q:∀h' acc c,(∀c o,c∉[z,TO,i1,i2,s.heap.objs.size]->s.heap.get? c=some o->h'.get? c=some o)->h'.get? s.heap.objs.size=some { cls:=.type "list",dict:=none,data:=.seq acc c,slots:=#[] }->
   NM h' xs ys (s.heap.objs.size+1) [z,TO,i1,i2,s.heap.objs.size] acc xs.size->Q (.ref s.heap.objs.size) { s with heap:=h' }):wpAny (model prog w) A (call (.type "list") [.ref z]) Q E s:=by
 refine callType_codes (Q₁:=λx t=>x=.ref s.heap.objs.size/\t={ s with heap:=s.heap.push { cls:=.type "list",data:=.seq #[] } }) F.called_list (F.typeCall_list_1 _) F.entry_list_init (code_list_new _ ⟨rfl,rfl⟩) λx t ht=>?_
 obtain⟨rfl,rfl⟩:=ht
 have hN:(s.heap.push { cls:=.type "list",data:=.seq #[] }).get? s.heap.objs.size=some { cls:=.type "list",data:=.seq #[] }:=ba _ rfl
 refine⟨⟨_,hN,rfl⟩,F.args_list_init_2 _ _,?_⟩
 have lt:∀{b:Addr}{o:Obj},s.heap.get? b=some o->b < s.heap.objs.size:=λe=>aE e
 have ne:∀{b:Addr}{o:Obj},s.heap.get? b=some o->b≠s.heap.objs.size:=λe=>bP (aE e)
 have m1:∃o,s.heap.get? i1=some o:=let ⟨o,e,_⟩:=h1;⟨o,e⟩
 have m2:∃o,s.heap.get? i2=some o:=let ⟨o,e,_⟩:=h2;⟨o,e⟩
 have m3:∃o,s.heap.get? l1=some o:=let ⟨o,e,_⟩:=Qr;⟨o,e⟩
 have m4:∃o,s.heap.get? l2=some o:=let ⟨o,e,_⟩:=Pd;⟨o,e⟩
 obtain⟨o1,m1⟩:=m1
 obtain⟨o2,m2⟩:=m2
 obtain⟨o3,m3⟩:=m3
 obtain⟨o4,m4⟩:=m4
 have psz:(s.heap.push { cls:=.type "list",data:=.seq #[] }).objs.size=s.heap.objs.size+1:=dS ..
 show wpAny _ A.in1.in1 (do let old ← Builtin.List.listItems (.ref s.heap.objs.size);Builtin.List.listUpdate (.ref s.heap.objs.size) (λ_=>#[]);letGo old.toList.reverse;Builtin.List.listExtendWith (.ref s.heap.objs.size) (.ref z) .none) _ _ _
 refine ab ?_;unfold Builtin.List.listItems
 refine ab (ib hN rfl (ay ?_))
 show wpAny _ A.in1.in1 (updateSeq s.heap.objs.size (λ_=>#[]) >>= λ_=>letGo (#[]:pb).toList.reverse >>= λ_=>Builtin.List.listExtendWith (.ref s.heap.objs.size) (.ref z) .none) _ _ _
 refine ab (iE hN rfl (ab (wpAny_letGo ?_)))
 have g1:=cS (Obj.mapSeq (λ_=>(#[]:pb))) hN rfl
 generalize hS:s.heap.objs.size=N at *
 have up:∀b o,b≠N->s.heap.get? b=some o->((s.heap.push { cls:=.type "list",data:=.seq #[] }).update N (Obj.mapSeq (λ_=>(#[]:pb)))).get? b=some o:=λb o hb e=>(d6 _ _ (eS hb)).trans (am _ e)
 have usz:((s.heap.push { cls:=.type "list",data:=.seq #[] }).update N (Obj.mapSeq (λ_=>(#[]:pb)))).objs.size=N+1:=by rw[(cq (s.heap.push { cls:=.type "list",data:=.seq #[] }) N _).1,psz]
 generalize (s.heap.push { cls:=.type "list",data:=.seq #[] }).update N (Obj.mapSeq (λ_=>(#[]:pb)))=G1 at *
 have zn:z≠N:=ne hz
 have tz:(⟨G1,s.gens,s.drawn,s.toks,s.os⟩:Shared).TypeIs (.ref z) "zip" := ⟨_,up _ _ zn hz,rfl⟩
 unfold Builtin.List.listExtendWith
 refine ab (wpAny_typeOf tz ?_)
 have r1:Builtin.List.listSameRef (.ref N) (.ref z)=false:=by simp[Builtin.List.listSameRef,zn.symm]
 have r2:(Value.type "zip" == Value.type "list")=false:=by decide
 have r3:(Value.type "zip" == Value.type "tuple")=false:=by decide
 simp only[r1,r2,r3,lm,fe,gx]
 refine ab (wpAny_pyIter_zip (up _ _ zn hz) (ab (eC ?_)))
 unfold Builtin.List.listLengthHint
 refine ab (ix tz Mv ?_)
 show wpAny _ A.in1.in1 (specialOf (Value.ref z) (Str.ofString "__length_hint__") >>= λ_=>_) _ _ _
 refine ab (ix tz JT (ay ?_))
 show wpAny _ A.in1.in1 (rule "list.extend.makes-room" >>= λ_=>Builtin.List.listTouch (.ref N) >>= λ_=>again (.builtin "list.extend.loop" ⟨[.ref N,.ref z,.none],[]⟩)) _ _ _
 refine ab (oi (ab ?_))
 show wpAny _ A.in1.in1 (updateSeq N (·.push .none) >>= λ_=>updateSeq N (·.pop)) _ _ _
 refine ab (iE g1 rfl ?_)
 have g2:=cS (Obj.mapSeq (·.push Value.none)) g1 rfl
 refine iE (hz:=by seq_fits) g2 rfl ?_
 have g3:=cS (Obj.mapSeq (·.pop)) g2 rfl
 have up2:∀b o,b≠N->s.heap.get? b=some o->((G1.update N (Obj.mapSeq (·.push Value.none))).update N (Obj.mapSeq (·.pop))).get? b=some o:=λb o hb e=>(d6 _ _ (eS hb)).trans ((d6 _ _ (eS hb)).trans (up b o hb e))
 have usz2:((G1.update N (Obj.mapSeq (·.push Value.none))).update N (Obj.mapSeq (·.pop))).objs.size=N+1:=by rw[(cq _ N _).1,(cq G1 N _).1,usz]
 generalize (G1.update N (Obj.mapSeq (·.push Value.none))).update N (Obj.mapSeq (·.pop))=G2 at *
 refine ay ⟨oe gv _,RZ (A:=A.in1) (a:=a) (b:=b) (show A.in1.handled=none from hh) D hn hxy zn.symm (ne L5).symm (ne Oy).symm (ne m1).symm (ne m2).symm (ne m3).symm (ne m4).symm (hX (lt hz)) (hX (lt Oy)) (hX (lt m1)) (hX (lt m2)) (gy N) xs.size 0 _ #[] _ rfl (da _) (on usz2.symm) (.inl ⟨rfl,up2 _ _ zn hz,up2 _ _ (ne Oy) Oy⟩) (up2 _ _ (ne L5) L5)
  (h1.at λo e=>up2 _ o (ne m1) e) (h2.at λo e=>up2 _ o (ne m2) e) (Qr.at λo e=>up2 _ o (ne m3) e) (Pd.at λo e=>up2 _ o (ne m4) e) g3 ⟨rfl,λi hi=>absurd hi (kz _)⟩ λh' acc c kk e it=>?_⟩
 exact⟨rfl,q h' acc c (λc o hc e=>kk c o hc (up2 c o (λz=>hc (by simp[z])) e)) e it⟩
end
def vQ (H:Hp)(L:List (Addr×HO)):Hp:=λa=>match L.lookup a with
 | some o=>some o
 | none=>H a
theorem w5 {H:Hp}{L:List (Addr×HO)}{a:Addr}(h:L.lookup a=none):vQ H L a=H a:=by unfold vQ;rw[h]
theorem Av {H:Hp}{L:List (Addr×HO)}{a:Addr}{o:HO}(h:L.lookup a=some o):vQ H L a=some o:=by unfold vQ;rw[h]
theorem su {L:List (Addr×HO)}{a:Addr}(h:∀p∈L,p.1≠a):L.lookup a=none:=by
 induction L with
 | nil=>rfl
 | cons p L ih=>
  rw[b6,de.mpr (eS (h p af))]
  exact ih λq hq=>h q (ac _ hq)
theorem Inv.lays {X:Cx}{Fs:oy}{σ:St}{H:Hp}{s:Shared}{h':Heap}{t':Nat}{L:List (Addr×HO)}(I:Inv X Fs σ H s)(k:∀b u,s.heap.get? b=some u->h'.get? b=some u)(hp:∀p∈L,s.heap.objs.size<=p.1)
  (new:∀a o,L.lookup a=some o->FX X.prog X.w X.K (vQ H L) h' a o):Inv X Fs σ (vQ H L) { s with heap:=h',toks:=t' }:=by
 have hn:∀p∈L,H p.1=none:=λp q=>I.FL.fresh (hp p q)
 have old:∀b o,H b=some o->vQ H L b=some o:=λb o e=>by
  rw[w5 (su λp q z=>by have:=hn p q;rw[z,e] at this;cases this)];exact e
 have there:∀b u,s.heap.get? b=some u->L.lookup b=none:=λb u e=>su λp q z=>by
  have:=aE e
  rw[← z] at this
  exact absurd (bv this (hp p q)) (d5 _)
 refine I.un ⟨λb u q _ _ _=>k b u q,λb u q _ _ _=>⟨u.slots,k b u q⟩,λb u q n _=>by rw[w5 (there b u q)];exact n,λb u q _=>⟨u,k b u q⟩,λb xs q=>old b _ q,λb u xs q=>old b _ q,λb ps q=>⟨#[],by rw[old b _ q];simp⟩⟩ λb u e=>?_
 cases q:L.lookup b with
 | some o=>rw[Av q] at e;cases e;exact new b _ q
 | none=>
  rw[w5 q] at e
  exact(I.FL b u e).OK (λc v _ q=>k c v q) (λc q=>old c _ q) λc xs q=>old c _ q
inductive ZTs (H:Hp):List Addr->List V->List V->Prop
 | nil:ZTs H [] [] []
 | cons {t:Addr}{x y:V}{ts:o0}{xs ys:List V}:H t=some (.tup [x,y])->ZTs H ts xs ys->ZTs H (t::ts) (x::xs) (y::ys)
theorem Mw {H:Hp}:∀{ts:o0}{xs ys:List V},ts.length=xs.length->ys.length=xs.length->(∀(i:Nat) (t:Addr) (x y:V),ts[i]?=some t->xs[i]?=some x->ys[i]?=some y->H t=some (.tup [x,y]))->ZTs H ts xs ys
 | [],[],[],_,_,_=>.nil
 | t::ts,x::xs,y::ys,e1,e2,h=>.cons (h 0 t x y rfl rfl rfl) (Mw (oq e1) (oq e2) λi a b c=>h (i+1) a b c)
 | [],_::_,_,e,_,_=>nomatch e
 | _::_,[],_,e,_,_=>nomatch e
 | _,[],_::_,_,e,_=>nomatch e
 | _,_::_,[],_,e,_=>nomatch e
noncomputable def zL (ts:o0)(xs ys:List V):List (Addr×HO):=List.zipWith (λt (p:V×V)=>(t,.tup [p.1,p.2])) ts (xs.zip ys)
theorem Ii:∀{ts:o0}{xs ys:List V},ts.Nodup->∀(i:Nat) (t:Addr) (x y:V),ts[i]?=some t->xs[i]?=some x->ys[i]?=some y->(zL ts xs ys).lookup t=some (.tup [x,y])
 | [],_,_,_,i,t,x,y,h,_,_=>by simp at h
 | _::_,[],_,_,i,t,x,y,_,h,_=>by simp at h
 | _::_,_::_,[],_,i,t,x,y,_,_,h=>by simp at h
 | a::ts,b::xs,c::ys,nd,0,t,x,y,h1,h2,h3=>by
  cases h1;cases h2;cases h3
  show List.lookup a ((a,_)::zL ts xs ys)=_
  rw[b6,beq_self_eq_true]
 | a::ts,b::xs,c::ys,nd,i+1,t,x,y,h1,h2,h3=>by
  have h1:ts[i]?=some t:=h1
  have ne:t≠a:=λz=>(dA.mp nd).1 (z▸bE h1)
  show List.lookup t ((a,_)::zL ts xs ys)=_
  rw[b6,de.mpr ne]
  exact Ii (xs:=xs) (ys:=ys) (dA.mp nd).2 i t x y h1 h2 h3
theorem FN {ts:o0}{xs ys:List V}{p:Addr×HO}(h:p∈zL ts xs ys):∃(i:Nat) (x y:V),ts[i]?=some p.1/\xs[i]?=some x/\ys[i]?=some y/\p.2=.tup [x,y]:=by
 obtain⟨i,hi⟩:=j3.mp h
 unfold zL at hi
 rw[mP] at hi
 cases q1:ts[i]? with
 | none=>rw[q1] at hi;cases hi
 | some t=>
  rw[q1] at hi
  cases q2:(xs.zip ys)[i]? with
  | none=>rw[q2] at hi;cases hi
  | some xy=>
   rw[q2] at hi
   cases hi
   rw[List.getElem?_zip_eq_some] at q2
   exact⟨i,xy.1,xy.2,q1,q2.1,q2.2,rfl⟩
theorem qW {L:List (Addr×HO)}{a:Addr}{o:HO}(h:L.lookup a=some o):(a,o)∈L:=by
 induction L with
 | nil=>cases h
 | cons p L ih=>
  rw[b6] at h
  split at h
  ·rename_i e
   cases h
   rw[ia] at e
   subst e
   exact af
  ·exact ac _ (ih h)
theorem Cr:∀ts:List Addr,Vals (ts.map V.ref) (ts.map Value.ref)
 | []=>.nil
 | _::ts=>.cons rfl (Cr ts)
section
variable {X:Cx}{tg:Expr}
def VN (K:W.Frag)(ta:TA):TE:=fun σ H Q=>ta σ H λvs H1=>∃a c xs ys,vs=[.ref a,.ref c]/\F7 K H1 a xs/\F7 K H1 c ys/\ys.length=xs.length /\
 ∀l ts H2,H1 l=none->(∀b o,H1 b=some o->H2 b=some o)->H2 l=some (.lst (ts.map V.ref))->ZTs H2 ts xs ys->Q (.ref l) H2
theorem Pu {a c:Expr}{ta:TA}{p p2 pos F4:Pos}(hg:Gl X "list")(hm:X.mg "list" = none)(Pp:Gl X "zip")(L4:X.mg "zip" = none)(hb:bootBuiltins "zip" = some (.type "zip"))(hc:X.calm=true)(ha:PA X [a,c] ta)(hs:autoParam (starEach [a,c] X.env=(false,eval a X.env)::starEach [c] X.env) r0_)(O0:autoParam ((backTo F4 (starEach [c] X.env)).any (·.1)=false) r0_)
  (Kn:autoParam (starEach [.Call (.Name "zip" p2) [a,c] [] F4] X.env=(false,eval (.Call (.Name "zip" p2) [a,c] [] F4) X.env)::starEach [] X.env) r0_) (HM:autoParam ((backTo pos (starEach [] X.env)).any (·.1)=false) r0_):
  PE X (.Call (.Name "list" p) [.Call (.Name "zip" p2) [a,c] [] F4] [] pos) (VN X.K ta):=by
 intro Fs s σ H Q I h
 refine eK (fK I hg hm fE (bp ?_ Kn HM) (by decide) (by decide))
 rw[Kn]
 show wpAny _ _ (spliced ((false,eval (.Call (.Name "zip" p2) [a,c] [] F4) X.env)::backTo pos (starEach [] X.env))) _ _ s
 refine d0 (Call_ (fK I Pp L4 hb (bp (F2 (ha F4 Fs s σ H _ I h) ?_) hs O0)))
 rintro us s1 ⟨vs,H1,I1,r1,q1⟩
 obtain⟨a,c,xs,ys,e,hq,NX,hxy,q⟩:=q1
 subst e
 obtain⟨u,v,rfl,ru,rv⟩:=vals2 r1
 cases ru
 cases rv
 obtain⟨FD,rv,pl,hz⟩:=I1.list hq
 obtain⟨L0,rv2,pl2,hz2⟩:=I1.list NX
 have l1:=rv.length
 have l2:=rv2.length
 refine call_zip_2 pl.isList pl2.isList λg gz gTI gTO g1 g2 gsz gk=>fm ?_
 have lt:∀{b:Addr},s1.heap.get? b≠none->∀n,b≠s1.heap.objs.size+n:=λ{b} hb n z=>hb (by rw[z];exact Heap.get?_none_of_le (ei _ _))
 have ma:s1.heap.get? a≠none:=let ⟨_,e,_⟩:=pl.isList;by rw[e];exact λz=>nomatch z
 have mc:s1.heap.get? c≠none:=let ⟨_,e,_⟩:=pl2.isList;by rw[e];exact λz=>nomatch z
 have nn:∀m n:Nat,m≠n->s1.heap.objs.size+m≠s1.heap.objs.size+n:=λm n h z=>h (Nat.add_left_cancel z)
 have D:ZipApart (s1.heap.objs.size+4) (s1.heap.objs.size+2) (s1.heap.objs.size+3) s1.heap.objs.size (s1.heap.objs.size+1) a c:=
  ⟨nn _ _ (by decide),nn _ _ (by decide),nn 0 _ (by decide),nn _ _ (by decide),nn _ _ (by decide),nn _ 0 (by decide),nn _ _ (by decide),nn _ 0 (by decide),nn _ _ (by decide),nn 0 _ (by decide),lt ma _,lt ma _,lt ma 0,lt ma _,lt mc _,lt mc _,lt mc 0,lt mc _⟩
 refine Dc (s:={ s1 with heap:=g }) (I1.ok.hd hc) D (by rw[a7];omega) (by rw[a7,a7];omega) gz gTO gTI g1 g2 (pl.isList.at λo e=>gk _ _ e) (pl2.isList.at λo e=>gk _ _ e) λh' acc cc kk he it=>?_
 have he:h'.get? g.objs.size=some { cls:=.type "list",dict:=none,data:=.seq acc cc,slots:=#[] }:=he
 have it:NM h' FD.toArray L0.toArray (g.objs.size+1) [s1.heap.objs.size+4,s1.heap.objs.size+3,s1.heap.objs.size,s1.heap.objs.size+1,g.objs.size] acc FD.toArray.size:=it
 have kk:∀c o,c∉[s1.heap.objs.size+4,s1.heap.objs.size+3,s1.heap.objs.size,s1.heap.objs.size+1,g.objs.size]->g.get? c=some o->h'.get? c=some o:=kk
 obtain⟨i1,i2⟩:=it
 have esz:FD.toArray.size=FD.length:=a7 ..
 rw[esz] at i1 i2
 have refs:∀v∈acc.toList,∃t,v=.ref t:=λv hv=>by
  obtain⟨i,hi⟩:=j3.mp hv
  have IT:i < acc.size:=by have:=(av.mp hi).1;rwa [ci] at this
  obtain⟨t,_,_,e,_⟩:=i2 i (by omega)
  rw[g5,e] at hi
  exact⟨t,(bi hi).symm⟩
 let ad:Value->Addr:=λv=>match v with | .ref t=>t | _=>0
 have ea:acc.toList=(acc.toList.map ad).map Value.ref:=by
  rw[cn]
  refine(List.map_id _).symm.trans (cK λv hv=>?_)
  obtain⟨t,rfl⟩:=refs v hv
  rfl
 generalize htt:acc.toList.map ad=ts at ea
 have lts:ts.length=FD.length:=by rw[← htt,ae,ci,i1]
 have tat:∀(i:Nat) (t:Addr),ts[i]?=some t->acc[i]?=some (Value.ref t):=λi t h=>by rw[← g5,ea,a6,h];rfl
 have nd:ts.Nodup:=by
  rw[List.nodup_iff_pairwise_ne,List.pairwise_iff_getElem]
  intro i j hi hj hij z
  have a1:=tat i ts[i] (ah hi)
  have a2:=tat j ts[j] (ah hj)
  obtain⟨t,_,_,e,_,_,_,_,_,w⟩:=i2 j (by omega)
  rw[e] at a2
  have e2:t=ts[j]:=og (bi a2)
  refine w i hij ?_
  rw[a1,z,e2]
 have fact:∀(i:Nat) (t:Addr),ts[i]?=some t->∃x y,FD[i]?=some x/\L0[i]?=some y/\IsPair h' t x y/\g.objs.size+1<=t:=λi t h=>by
  have hi:i < FD.length:=by have:=(av.mp h).1;omega
  obtain⟨t',x,y,e,ex,ey,hp,hB,_,_⟩:=i2 i hi
  have:=tat i t h
  rw[e] at this
  have e2:t'=t:=og (bi this)
  subst e2
  exact⟨x,y,by simpa using ex,by simpa using ey,hp,hB⟩
 have big:∀t∈ts,g.objs.size+1<=t:=λt ht=>by
  obtain⟨i,hi⟩:=j3.mp ht
  obtain⟨_,_,_,_,_,w⟩:=fact i t hi
  exact w
 have lk:∀(i:Nat) (t:Addr) (x y:V),ts[i]?=some t->xs[i]?=some x->ys[i]?=some y->(zL ts xs ys++[(g.objs.size,HO.lst (ts.map V.ref))]).lookup t=some (.tup [x,y]):=λi t x y h1 h2 h3=>by
  rw[List.lookup_append,Ii (xs:=xs) (ys:=ys) nd i t x y h1 h2 h3];rfl
 have ln:(zL ts xs ys++[(g.objs.size,HO.lst (ts.map V.ref))]).lookup g.objs.size=some (.lst (ts.map V.ref)):=by
  rw[List.lookup_append,su λp hp z=>by
   obtain⟨i,_,_,e,_⟩:=FN hp
   have:=big _ (bE e)
   rw[z] at this
   exact absurd this (Nat.not_succ_le_self _)]
  simp
 have sz:s1.heap.objs.size<=g.objs.size:=by rw[gsz];exact ei _ _
 have ML:∀p∈zL ts xs ys++[(g.objs.size,HO.lst (ts.map V.ref))],s1.heap.objs.size<=p.1:=λp hp=>by
  rcases bX.mp hp with hp | hp
  ·obtain⟨i,_,_,e,_⟩:=FN hp
   exact cw sz (Nat.le_of_succ_le (big _ (bE e)))
  ·rw[aS.mp hp];exact sz
 have I2:Inv X Fs σ (vQ H1 (zL ts xs ys++[(g.objs.size,HO.lst (ts.map V.ref))])) { s1 with heap:=h' }:=I1.lays (t':=s1.toks) (λb u e=>kk b u (λz=>by
   simp only[ar,b9,eW] at z
   have hb:=aE e
   rcases z with z | z | z | z | z <;> rw[z] at hb
   ·exact absurd hb (ol.mpr (ei _ _))
   ·exact absurd hb (ol.mpr (ei _ _))
   ·exact absurd hb (d5 _)
   ·exact absurd hb (ol.mpr (ei _ _))
   ·exact absurd hb (ol.mpr sz)) (gk _ _ e)) ML λb o lo=>by
  rcases bX.mp (qW lo) with hp | hp
  ·obtain⟨i,x,y,e1,e2,e3,e4⟩:=FN hp
   dsimp only at e1 e4
   subst e4
   obtain⟨u,v,f1,f2,f3,_⟩:=fact i b e1
   obtain⟨u',w1,w2⟩:=rv.get e2
   obtain⟨v',w3,w4⟩:=rv2.get e3
   rw[f1] at w1
   rw[f2] at w3
   cases w1
   cases w3
   exact⟨by show (2:Nat)<=sizeLine;decide,[u,v],.cons w2 (.cons w4 .nil),_,f3,rfl,_,rfl⟩
  ·cases aS.mp hp
   exact⟨by rw[ae,lts,← l1];exact hz,acc.toList,cc,by
    rw[ea]
    exact Cr ts,by simpa using he⟩
 refine⟨.ref g.objs.size,_,I2,rfl,q g.objs.size ts _ (I1.FL.fresh sz) (λb o e=>?_) (Av ln) (Mw (by omega) hxy λi t x y h1 h2 h3=>Av (lk i t x y h1 h2 h3))⟩
 rw[w5 (su λp hp z=>by
  have:=I1.FL.fresh (ML p hp)
  rw[z,e] at this;cases this)]
 exact e
end
section
variable {X:Cx}{tg:Expr}{Fs:oy}{σ:St}{H:Hp}{s:Shared}{apos FO pos:Pos}{td ty tx tv:TE}{o e f:Expr}
theorem VP {b:Addr}{vs:List V}{ks:List Key}(I:Inv X Fs σ H s)(hq:LD X.K H b vs)(kt:vq ks vs):(tupleKind (d7 X.prog X.w)).is s.heap ks b:=by
 obtain⟨FD,r,⟨o,h1,h2,n,h3⟩,_⟩:=I.tuple hq
 exact⟨o,FD.toArray,n,h1,h2,h3,by simpa using vA kt r⟩
def VR (K:W.Frag)(td ty tx:TE):TE:=fun σ H Q=>td σ H λx H1=>∃a,x=.ref a/\IsD H1 a/\ty σ H1 λy H2=>tx σ H2 λz H3=>∃kvs ks b vs,Rd H3 a (.dT kvs)/\y=.ref b/\LD K H3 b vs/\vq ks vs/\Q ((jz kvs ks).getD z) H3
theorem Px (hu:X.A.units+1 < cLine)(ho:PE X o td)(he:PE X e ty)(hf:PE X f tx)(m:M2 X o "get" apos e f FO):PE X (.Call (.Attribute o "get" apos) [e,f] [] FO) (VR X.K td ty tx):=by
 intro Fs s σ H Q I h
 refine wpAny_Call_method m.base m.few m.line lT gc mN (F2 (ho Fs s σ H _ I h) ?_)
 rintro u s1 ⟨x,H1,I1,rx,a,ex,d,q1⟩
 subst ex
 cases (show u=Value.ref a from rx)
 obtain⟨t1,t2,_⟩:=Lj I1 d
 refine⟨t1,t2,?_⟩
 rw[m.trees]
 refine i8 rfl (kf (d0 (F2 (he Fs s1 σ H1 _ I1 q1) λiv s2 ⟨y,H2,I2,ry,q2⟩=>d0 (F2 (hf Fs s2 σ H2 _ I2 q2) λfv s3 ⟨z,H3,I3,rz,kvs,ks,b,vs,e1,e2,e3,e4,q3⟩=>fm ?_))))
 subst e2
 cases (show iv=Value.ref b from ry)
 obtain⟨_,hd,xs,rel,dd⟩:=uA I3.IP I3.FL e1
 exact call_meetsIn gc dd.typeIs i7 (iP _ _ _) (lS (tupleKind (d7 X.prog X.w)) a b hd fv) ⟨f7 hu,ks,xs,VP I3 e3 e4,dd,⟨_,H3,I3.tok _,(rel.val ks).getD rz,q3⟩⟩
def X4 (K:W.Frag)(tk tv:TE):TE:=fun σ H Q=>∀p,H p=none->tk σ (upd H p (.dT [])) λy H1=>tv σ H1 λz H2=>H2 p=some (.dT [])/\∃b ks,y=.ref b/\Kk K H2 b ks/\Q (.ref p) (upd H2 p (.dT [(ks,z)]))
theorem R0 (hu:X.A.units+1 < cLine)(hk:PE X e ty)(hv:PE X f tv):PE X (.Dict [some e] [f] pos) (X4 X.K ty tv):=by
 intro Fs s σ H Q I q
 have hn:=I.FL.fresh (aw s.heap.objs.size)
 have I1:=I.laid (a:=s.heap.objs.size) (o:=.dT []) (h':=s.heap.push { cls:=.type "dict",data:=.dict #[] }) (t':=s.toks) (λ_ _ q=>am _ q) (aw _) (Et s.heap I.big)
 refine wpAny_Dict_any rfl rfl (λz=>nomatch z) (show (1:Nat)<=15 by decide) ?_
 refine pairTrees_cons_walk (F2 (hk Fs _ σ _ _ I1 (q _ hn)) λu s1 ⟨y,H1,I2,ry,q1⟩=>F2 (hv Fs s1 σ H1 _ I2 q1) λw2 s2 ⟨z,H2,I3,rz,e1,b,ks,e2,dk,q2⟩=>pairTrees_nil_walk ?_)
 subst e2
 cases (show u=Value.ref b from ry)
 obtain⟨_,hd,xs,rel,dd⟩:=Ac I3.IP I3.FL (.inl e1)
 cases rel
 unfold storeAll
 rw[iA]
 refine ab (ab (Eg (show X.A.units < cLine from Nat.lt_of_succ_lt hu) (oA I3.IP I3.FL dk) dd (da _) λh' dd' hs=>ay ?_))
 show wpAny _ _ (forIn [] _ _) _ _ _
 rw[nB]
 refine ay ?_
 obtain⟨o,es,hq,h2,h3,h4,_,h5⟩:=dd'
 have new:FX X.prog X.w X.K (upd H2 s.heap.objs.size (.dT [(ks,z)])) h' s.heap.objs.size (.dT [(ks,z)]):=⟨by show (1:Nat)<=sizeLine;decide,hd,_,((KT.put (H:=H2) (kvs:=[]) .nil ks dk rz)).keeps λc ys ec=>by rw[aQ (Qn ec e1 (λz=>nomatch z))];exact ec,o,es,_,hq,h2,h3,h4,h5,rfl⟩
 exact⟨.ref s.heap.objs.size,_,Ad (t':=s2.toks+(tupleKind (d7 X.prog X.w)).draws ks) I3 (by rw[e1];exact fg) hs ⟨o,hq⟩ new,rfl,q2⟩
def VV (K:W.Frag)(a:Addr)(n:Nat):It:=
 ⟨λi H=>∃kvs,Rd H a (.dT kvs)/\kvs.length=n/\i < n,λi H x H'=>H'=H/\∃kvs b ks y,Rd H a (.dT kvs)/\kvs[i]?=some (ks,y)/\x=.ref b/\Kk K H b ks,λi H=>∃kvs,Rd H a (.dT kvs)/\kvs.length=n/\n<=i⟩
theorem KT.get {K:W.Frag}{kvs:List (List Key×V)}{xs:List (List Key×Addr×Value)}(r:KT K H kvs xs):∀{i:Nat}{p:List Key×V},kvs[i]?=some p->∃b u,xs[i]?=some (p.1,b,u)/\Kk K H b p.1:=by
 induction r with
 | nil=>intro i p h;simp at h
 | @cons p q ps qs h t ih=>
  intro i p' e
  cases i with
  | zero=>
   cases e
   obtain⟨k,b,u⟩:=q
   obtain⟨h1,h2,_⟩:=h
   dsimp only at h1 h2
   exact⟨b,u,by rw[h1];rfl,h2⟩
  | succ i=>exact ih (i:=i) e
theorem R1 {P:Program}{w:World}{K:W.Frag}{tg:Expr}(a it:Addr)(n:Nat):Turn P w K tg (VV K a n) [it] it (λi h=>h.IsKeyIter it a i n n) where
 mem:=af
 obj:=λi h st b hb=>by
  obtain⟨o,e,c,d⟩:=st
  exact⟨o,by rw[aS.mp hb];exact e,λv z=>by rw[d] at z;cases z⟩
 keep:=λi h h' st k=>let ⟨o,e,c⟩:=st;⟨o,k it af o e,c⟩
 item:=by
  intro X hP hw hK hc i Fs s σ H E I hf st hg
  subst hP hw hK
  obtain⟨kvs,hq,hlen,IT⟩:=hg
  obtain⟨f0,f1,f2,f3,f4,f5⟩:=hf it af
  obtain⟨_,_,xs,rel,dd⟩:=Ac I.IP I.FL hq
  have hl:xs.length=n:=by rw[← iq rel];exact hlen
  obtain⟨p,hp⟩:∃p,kvs[i]?=some p:=⟨_,ah (by omega)⟩
  obtain⟨b,u,hx,dk⟩:=rel.get hp
  subst hl
  refine Xa st dd hx λh' OE sb=>?_
  obtain⟨o,e,c,d⟩:=id OE
  obtain⟨ks,y⟩:=p
  exact⟨.ref b,rfl,wQ (s:={ s with heap:=h' }) e c d (by decide) ⟨.ref b,H,I.turned (t':=s.toks) (λb o hb q=>(sb.2 b hb).trans q) f0 f1 f3 f4 f5,rfl,⟨rfl,kvs,b,ks,y,hq,hp,rfl,dk⟩,OE,λb hb=>(hf b hb).1⟩⟩
 done:=by
  intro X hP hw hK hc i Fs s σ H E I hf st hg
  subst hP hw hK
  obtain⟨kvs,hq,hlen,hge⟩:=hg
  obtain⟨f0,f1,f2,f3,f4,f5⟩:=hf it af
  obtain⟨_,_,xs,rel,dd⟩:=Ac I.IP I.FL hq
  have hl:xs.length=n:=by rw[← iq rel];exact hlen
  subst hl
  exact Yo (I.ok.hd hc) st dd hge λh' eb=>⟨rfl,I.turned (t':=s.toks) (λb o hb q=>eb b o hb q) f0 f1 f3 f4 f5⟩
 self:=λA i s Q E st h=>wpAny_pyIter_keyiter st h
def iDk (K:W.Frag)(tl:TE):TI:=fun σ H R=>tl σ H λx H1=>∃a kvs,x=.ref a/\Rd H1 a (.dT kvs)/\R (VV K a kvs.length) H1
theorem X5 {l:Expr}{tl:TE}(hl:PE X l tl):PI X tg l (iDk X.K tl):=by
 intro Fs s σ H R I h
 refine F2 (hl Fs s σ H _ I h) ?_
 rintro v s1 ⟨x,H1,I1,r1,q1⟩
 obtain⟨a,kvs,e,hq,q⟩:=q1
 subst e
 cases r1
 obtain⟨_,hd,xs,rel,dd⟩:=Ac I1.IP I1.FL hq
 have hl:xs.length=kvs.length:=(iq rel).symm
 refine W_ hd dd λh' eh=>?_
 subst eh
 rw[hl]
 refine⟨s1.heap.objs.size,[s1.heap.objs.size],_,_,H1,rfl,I1.kept (t':=s1.toks) λb o e=>am _ e,R1 a _ kvs.length,⟨_,ba _ rfl,rfl,rfl⟩,λb hb=>?_,q⟩
 rw[aS.mp hb]
 exact I1.N9 (aw _) (I1.FL.fresh (aw _))
end
end Lake.L2
namespace Lake.MR
open PySem L2
@[simp] noncomputable def JV:PV->PV->Option PV
 | .lst xs,.lst ys=>if ys.length=xs.length then some (.lst (List.zipWith (λa c=>.tup [a,c]) xs ys)) else none
 | _,_=>none
noncomputable def kP:Key->PV
 | .inl i=>.int i
 | .inr x=>.str x
@[simp] noncomputable def JW:PV->Option (List PV)
 | .dT kvs=>if (kvs.all λkv=>kv.1.length != 2)=true then some (kvs.map λkv=>.tup (kv.1.map kP)) else none
 | _=>none
noncomputable def iK (f:pc)(env:Env):Option (List PV):=(f env).bind JW
@[simp] theorem Z8 (f:pc)(env:Env):iK f env=((f env).bind JW):=id rfl
@[simp] noncomputable def JX:PV->PV->PV->Option PV
 | .dT kvs,.ktp ys,z=>(GW ys).map λk=>(dF kvs k).getD z
 | _,_,_=>none
section
variable {X:Cx}{b:BX}{G:oz}{apos FO p p2 pos F4:Pos}{m m1 m2:Md}{e e1 e2 e3:Expr}{f f1 f2 f3:pc}
theorem Py {C:MC}{A A':Addr->Prop}{H H':Hp}{ts:o0}{vs us:List V}{xs ys:List PV}(z:ZTs H' ts vs us)(ex:Ex A H A' H')(r1:FA C A H vs xs)(r2:FA C A H us ys):FA C A' H' (ts.map V.ref) (List.zipWith (λa c=>.tup [a,c]) xs ys):=by
 induction z generalizing xs ys with
 | nil=>cases r1;exact .nil
 | cons h t ih=>
  cases r1 with
  | cons a1 b1=>cases r2 with
   | cons a2 b2=>exact .cons (.tup h (.cons (Rep.ex ex a1) (.cons (Rep.ex ex a2) .nil))) (ih b1 b2)
theorem Pz (hm:X.mg "list" = none)(L4:X.mg "zip" = none)(h1:SE X b G m1 e1 f1)(h2:SE X b G m2 e2 f2)(hb:autoParam (bootBuiltins "zip" = some (.type "zip")) r3_)(hK:autoParam (X.K=b.C.K) r0_)(hc:autoParam (X.calm=true) r0_)(hg:Gl X "list" := by rfl)(Pp:Gl X "zip" := by rfl)
  (hs:autoParam (starEach [e1,e2] X.env=(false,eval e1 X.env)::starEach [e2] X.env) r0_) (hs1:autoParam (starEach [e2] X.env=(false,eval e2 X.env)::starEach [] X.env) r0_) (O0:autoParam ((backTo F4 (starEach [e2] X.env)).any (·.1)=false) r0_)
  (Kn:autoParam (starEach [.Call (.Name "zip" p2) [e1,e2] [] F4] X.env=(false,eval (.Call (.Name "zip" p2) [e1,e2] [] F4) X.env)::starEach [] X.env) r0_) (HM:autoParam ((backTo pos (starEach [] X.env)).any (·.1)=false) r0_):
  SE X b G .own (.Call (.Name "list" p) [.Call (.Name "zip" p2) [e1,e2] [] F4] [] pos) (b2 JV f1 f2):=by
 refine PE.imp (Pu hg hm Pp L4 hb hc (bW h1.bor (bW h2.bor dJ hs1) hs) hs O0 Kn HM) ?_
 rintro σ H Q ⟨Ow,env,q,E,hf,k⟩
 rw[hK]
 obtain⟨x,hx,z1⟩:=aC hf
 clear hf
 obtain⟨y,hy,hf⟩:=aC z1
 clear z1
 unfold JV at hf
 split at hf
 ·rename_i xs ys
  split at hf
  ·rename_i hl
   cases hf
   refine⟨Ow,env,_,E,hx,λv H1 s1 r1=>⟨Ow,env,_,E.up s1,hy,λu H2 s2 r2=>?_⟩⟩
   have MH:FF b.C (Bs b Ow) H1 v (.lst xs):=r1
   have MH:FF b.C (Bs b Ow) H2 v (.lst xs):=Res.up (m:=.bor) r1 s2
   have Of:FF b.C (Bs b Ow) H2 u (.lst ys):=r2
   obtain⟨a,vs,rfl,ha,ra⟩:=MH.lst
   obtain⟨c,us,rfl,hc,rc⟩:=Of.lst
   have s:=s1.trans s2
   refine⟨a,c,vs,us,rfl,F7.of ha,F7.of hc,by rw[ra.length,rc.length];exact hl,λl ts H3 hl0 kp Pd z=>?_⟩
   have hn:H l=none:=by
    cases q:H l with
    | none=>rfl
    | some o=>have:=s _ _ q;rw[hl0] at this;cases this
   have ex:Ex (Bs b Ow) H2 (λc=>Bs b Ow c/\c≠l) H3:=λc o e=>⟨λq=>⟨kp _ _ e,q,λw=>by rw[w,hl0] at e;cases e⟩,λ_=>kp _ _ e⟩
   exact k _ _ (s.trans kp) ⟨l,rfl,hn,_,Pd,Py z ex ra rc⟩
  ·cases hf
 ·cases hf
theorem R3 {j:Nat}(hr:F5 j X.A)(h1:SE X b G m1 e1 f1)(h2:SE X b G m2 e2 f2)(h3:SE X b G .val e3 f3)(m:autoParam (M2 X e1 "get" apos e2 e3 FO) r12_)(hK:autoParam (X.K=b.C.K) r0_):SE X b G .val (.Call (.Attribute e1 "get" apos) [e2,e3] [] FO) (b3 JX f1 f2 f3):=by
 refine PE.imp (Px (uB hr) h1.bor h2.bor h3 m) fun σ H Q h=>?_
 obtain⟨Ow,env,p,E,hf,k⟩:=h
 obtain⟨p1,q1,z1⟩:=aC hf
 clear hf
 obtain⟨p2,q2,z2⟩:=aC z1
 clear z1
 obtain⟨p3,q3,hf⟩:=aC z2
 clear z2
 refine⟨Ow,env,p1,E,q1,λv1 H1 s1 r1=>?_⟩
 unfold JX at hf
 split at hf
 ·rename_i kvs ys
  obtain⟨ky,hk,e⟩:=db.mp hf
  have MH:FF b.C (Bs b Ow) H1 v1 (.dT kvs):=r1
  obtain⟨a,kv,rfl,ha,ra⟩:=MH.dT
  refine⟨a,rfl,.inr ⟨kv,.inl ha⟩,Ow,env,_,E.up s1,q2,λv2 H2 s2 r2=>⟨Ow,env,p3,(E.up s1).up s2,q3,λv3 H3 s3 r3=>?_⟩⟩
  have Of:FF b.C (Bs b Ow) H2 v2 (.ktp ys):=r2
  rcases Of with Of | ⟨_,_,t⟩
  ·cases Of with
   | tupK w1 w3=>
    refine⟨kv,ky,_,_,.inl (s3 _ _ (s2 _ _ ha)),rfl,by rw[hK];exact ym w1,w3.GW hk,k _ H3 ((s1.trans s2).trans s3) ?_⟩
    unfold dF at e
    rcases GB.val (k:=ky) ra with ⟨v,p',g1,g2,rv⟩ | ⟨g1,g2⟩
    ·rw[g2] at e
     rw[g1,← e]
     exact rv.ex (.of_same (s2.trans s3))
    ·rw[g2] at e
     rw[g1,← e]
     exact r3
  ·exact t.elim
 ·cases hf
theorem R4 {K:W.Frag}{H:Hp}{a:Addr}{ks:List Key}(c:Kk K H a ks):∃us,LO K H a us/\vq ks us:=c.elim (λ⟨vs,e,k⟩=>⟨vs,.inl e,k⟩) λ⟨vs,e,k⟩=>⟨vs,.inr e,k⟩
theorem Aw {C:MC}{A:Addr->Prop}{H:Hp}:∀ks:List Key,FA C A H (ks.map kV) (ks.map kP)
 | []=>.nil
 | .inl i::ks=>.cons (.int i) (Aw ks)
 | .inr x::ks=>.cons (.str x) (Aw ks)
theorem Ij {C:MC}{A:Addr->Prop}{H:Hp}:∀{kv:List (List Key×V)}{kvs:List (List Key×PV)},GB C A H kv kvs->kv.map (·.1)=kvs.map (·.1)
 | _,_,.nil=>rfl
 | _,_,.cons _ t=>by rw[ag,ag,Ij t]
theorem X6 {tg:Expr}(he:SE X b G m e f)(hK:autoParam (X.K=b.C.K) r0_):SI X b G false tg e (iK f):=by
 refine PI.imp (X5 he) ?_
 rintro σ H R ⟨Ow,env,ps,E,hg,k⟩
 obtain⟨q,hq,IQ⟩:=aC hg
 unfold JW at IQ
 split at IQ
 ·rename_i kvs
  split at IQ
  ·rename_i ND
   cases IQ
   refine⟨Ow,env,_,E,hq,λv H1 s r=>?_⟩
   have r1:FF b.C (Bs b Ow) H1 v (.dT kvs):=r.bor
   obtain⟨a,kv,rfl,ha,ra⟩:=r1.dT
   have S3:=Ij ra
   have hlen:kv.length=kvs.length:=ra.length
   refine⟨a,kv,rfl,.inl ha,k _ _ s λFV H2 h0 h1 hn=>?_⟩
   have ha2:H2 a=some (.dT kv):=h0 rfl _ _ ha
   refine⟨λi p hp=>?_,⟨kv,.inl ha2,rfl,by rw[ae,hlen];exact aw _⟩⟩
   have hi:i < kvs.length:=by have:=(av.mp hp).1;rwa [ae] at this
   refine⟨⟨kv,.inl ha2,rfl,by omega⟩,λx H' y=>?_⟩
   obtain⟨e',kv',c,ks,y,hr',LY,ex,dk⟩:=y
   subst e' ex
   have ekv:kv'=kv:=by
    rcases hr' with z | ⟨o,z⟩
    ·rw[ha2] at z;cases z;rfl
    ·rw[ha2] at z;cases z
   subst ekv
   have ek:(kvs.map (·.1))[i]?=some ks:=by rw[← S3,a6,LY];rfl
   rw[a6] at ek hp
   cases qq:kvs[i]? with
   | none=>rw[qq] at ek;cases ek
   | some w=>
    rw[qq] at ek hp
    cases ek
    cases hp
    have nl:w.1.length≠2:=by
     have:=eg.mp ND w (bE qq)
     simpa using this
    obtain⟨us,hu,kt⟩:=R4 (hK▸dk)
    rcases kt with rfl | ⟨x,t,z,_⟩
    ·exact⟨FE.refl _,hu.rep (Aw _)⟩
    ·have z:w.1=_:=z
     rw[z] at nl;exact absurd rfl nl
  ·cases IQ
 ·cases IQ
end
end Lake.MR
namespace Lake.My
open PySem L2 MR
@[simp] theorem Zr (i j:Int):Kt (.int i) (.int j)=some (decide (i=j)):=rfl
@[simp] theorem Ik (i j:Str):Kt (.str i) (.str j)=some (decide (i=j)):=rfl
@[simp] theorem ZV (i j:Bool):Kt (.bl i) (.bl j)=some (decide (i=j)):=rfl
theorem Il {α:Type}{xs:List α}{i:Int}(h0:0<=i)(h1:i < xs.length):F0 xs i=xs[i.toNat]?:=by
 unfold F0 Nn
 rw[bg h0,bg h1]
 rfl
theorem Ax {α β:Type}(f:α->β)(xs:List α)(i:Int):F0 (xs.map f) i=(F0 xs i).map f:=by
 unfold F0
 rw[ae]
 cases Nn xs.length i with
 | none=>rfl
 | some j=>simp
theorem cW {α:Type}{xs:List α}{k:Nat}{x:α}(h:xs[k]?=some x):F0 xs (k:Int)=some x:=gA h
section
variable {α:Type}{env:MR.Env}{g:PV->MR.Env->Option MR.Env}{t:MR.Env->Option Bool}{f:MR.Env->Option PV}
theorem du (c h:α->PV):∀(ys:List α),(∀y∈ys,∃e,g (c y) env=some e/\f e=some (h y))->bR env g bG f (ys.map c)=some (ys.map h)
 | [],_=>rfl
 | y::ys,hh=>by
  obtain⟨e,h1,h2⟩:=hh y af
  have ih:=du c h ys λz hz=>hh z (ac _ hz)
  simp[bR,h1,h2,ih]
theorem cz (c h:α->PV)(p:α->Bool):∀(ys:List α),(∀y∈ys,∃e,g (c y) env=some e/\t e=some (p y)/\(p y=true->f e=some (h y)))->bR env g t f (ys.map c)=some ((ys.filter p).map h)
 | [],_=>rfl
 | y::ys,hh=>by
  obtain⟨e,h1,h2,h3⟩:=hh y af
  have ih:=cz c h p ys λz hz=>hh z (ac _ hz)
  cases hp:p y with
  | true=>simp[bR,h1,h2,h3 hp,ih,hp]
  | false=>simp[bR,h1,h2,ih,hp]
theorem zb {S:Type}{ds:oz}{body:MR.Env->Option Out}(c:α->PV)(E:S->MR.Env)(step:S->α->S):∀(ys:List α) (s:S),(∀y∈ys,∀s,∃e1 e2,g (c y) (E s)=some e1/\body e1=some (.nx e2)/\IX ds e2=E (step s y))->
  bw g ds body (ys.map c) (E s)=some (.nx (E (ys.foldl step s)))
 | [],s,_=>rfl
 | y::ys,s,hh=>by
  obtain⟨e1,e2,h1,h2,h3⟩:=hh y af s
  have ih:=zb c E step ys (step s y) λz hz=>hh z (ac _ hz)
  simp[bw,h1,h2,h3,ih]
theorem zc {ds:oz}{body:MR.Env->Option Out}(c:α->PV):∀(ys:List α),(∀y∈ys,∃e1 e2,g (c y) env=some e1/\body e1=some (.nx e2)/\IX ds e2=env)->bw g ds body (ys.map c) env=some (.nx env)
 | [],_=>rfl
 | y::ys,hh=>by
  obtain⟨e1,e2,h1,h2,h3⟩:=hh y af
  have ih:=zc c ys λz hz=>hh z (ac _ hz)
  simp[bw,h1,h2,h3,ih]
end
theorem vR {α:Type}(c:α->PV):∀(ys:List α) (n:Nat),jO n (ys.map c)=(ys.zipIdx n).map λy=>.tup [.int (y.2:Nat),c y.1]
 | [],_=>rfl
 | y::ys,n=>by simp[jO,vR c ys]
noncomputable def F8 (ks:oP):List (Key×PV):=ks.map λx=>((Sum.inr x:Key),PV.bl true)
theorem zf (ks:oP):(F8 ks).length=ks.length:=by simp[F8]
theorem FQ (x:Str):∀ks:List Str,dF (F8 ks) (Sum.inr x:Key)=if x∈ks then some (.bl true) else none
 | []=>rfl
 | k::r=>by
  have ih:=FQ x r
  unfold dF at ih ⊢
  show ((((Sum.inr k:Key),PV.bl true)::F8 r).find? _).map _=_
  by_cases h:k=x
  ·subst h;simp
  ·have h':¬ x=k:=λe=>h e.symm
   have hk:¬ (Sum.inr k:Key)=Sum.inr x:=λe=>h (nh e)
   rw[jp (by simpa using hk),ih]
   simp[h']
theorem qX (x:Str)(ks:oP):MV (.str x) (.dK (F8 ks))=some (decide (x∈ks)):=by
 simp only[MV,keyOf,ge,FQ]
 by_cases h:x∈ks <;> simp[h]
noncomputable def pW (ks:oP)(x:Str):List Str:=if x∈ks then ks else ks++[x]
theorem R5 (ks:oP)(x:Str):jE (F8 ks) (Sum.inr x:Key) (.bl true)=F8 (pW ks x):=by
 have NH:((F8 ks).any λkv=>decide (kv.1=(Sum.inr x:Key)))=decide (x∈ks):=by
  unfold F8
  rw[ot]
  induction ks with
  | nil=>simp
  | cons k r ih=>
   rw[cy,ih]
   by_cases h:k=x
   ·subst h;simp
   ·have h':¬ x=k:=λe=>h e.symm
    simp[h,h']
 unfold jE pW
 rw[NH]
 by_cases h:x∈ks
 ·rw[bg (by simpa using h),bg h]
  unfold F8
  rw[cn]
  refine cK λy _=>?_
  by_cases e:y=x
  ·subst e;simp
  ·have:¬ (Sum.inr y:Key)=Sum.inr x:=λz=>e (nh z)
   simp[this]
 ·rw[ap (by simpa using h),ap h]
  unfold F8
  simp
noncomputable def lg (ks ws:oP):List Str:=ws.foldl pW ks
noncomputable def fH (kind:Str)(ks:oP):List Str->List Str
 | c::r=>if c=kind then lg ks r else ks
 | []=>ks
noncomputable def tell (kind:Str)(rs:List (List Str)):List Str:=rs.foldl (fH kind) []
theorem FT (ks:oP)(x:Str):(pW ks x).length<=ks.length+1:=by
 unfold pW;split <;> simp
theorem vU:∀(ws ks:oP),(lg ks ws).length<=ks.length+ws.length
 | [],ks=>aw _
 | x::r,ks=>by
  have h1:=vU r (pW ks x)
  have h2:=FT ks x
  show (lg (pW ks x) r).length<=ks.length+(r.length+1)
  omega
theorem PB {ks:oP}{x y:Str}:y∈pW ks x↔y∈ks\/y=x:=by
 unfold pW
 by_cases h:x∈ks
 ·rw[bg h]
  constructor
  ·exact .inl
  ·rintro (z | z)
   ·exact z
   ·rw[z];exact h
 ·rw[ap h];simp
theorem Cu {y:Str}:∀{ws ks:oP},y∈lg ks ws↔y∈ks\/y∈ws
 | [],ks=>by simp[lg]
 | x::r,ks=>by
  show y∈lg (pW ks x) r↔_
  rw[Cu,PB,ar,or_assoc]
theorem Cv {kind y:Str}:∀{rs:List (List Str)}{ks:oP},y∈rs.foldl (fH kind) ks↔y∈ks\/∃r,(kind::r)∈rs/\y∈r
 | [],ks=>by simp
 | ws::rs,ks=>by
  rw[ft,Cv]
  cases ws with
  | nil=>simp[fH]
  | cons c r=>
   show (y∈(if c=kind then lg ks r else ks)\/_)↔_
   by_cases h:c=kind
   ·subst h
    rw[bg rfl,Cu]
    constructor
    ·rintro ((z | z) | ⟨r',h1,h2⟩)
     ·exact .inl z
     ·exact .inr ⟨r,af,z⟩
     ·exact .inr ⟨r',ac _ h1,h2⟩
    ·rintro (z | ⟨r',h1,h2⟩)
     ·exact .inl (.inl z)
     ·rcases ar.mp h1 with e | e
      ·obtain⟨_,rfl⟩:=eD e
       exact .inl (.inr h2)
      ·exact .inr ⟨r',e,h2⟩
   ·rw[ap h]
    constructor
    ·rintro (z | ⟨r',h1,h2⟩)
     ·exact .inl z
     ·exact .inr ⟨r',ac _ h1,h2⟩
    ·rintro (z | ⟨r',h1,h2⟩)
     ·exact .inl z
     ·rcases ar.mp h1 with e | e
      ·exact absurd (eD e).1.symm h
      ·exact .inr ⟨r',e,h2⟩
theorem MY {kind y:Str}{rs:List (List Str)}:y∈tell kind rs↔∃r,(kind::r)∈rs/\y∈r:=by
 unfold tell
 rw[Cv]
 simp
noncomputable def total (rs:List (List Str)):Nat:=(rs.map List.length).sum
theorem Cw {kind:Str}:∀(rs:List (List Str)) (ks:oP),(rs.foldl (fH kind) ks).length<=ks.length+total rs
 | [],ks=>ei _ _
 | ws::rs,ks=>by
  have h1:=Cw (kind:=kind) rs (fH kind ks ws)
  have h2:(fH kind ks ws).length<=ks.length+ws.length:=by
   cases ws with
   | nil=>exact ei _ _
   | cons c r=>
    show (if c=kind then lg ks r else ks).length<=_
    split
    ·have h4:=vU r ks
     simp
     omega
    ·exact ei _ _
  rw[ft]
  unfold total at *
  simp
  omega
end Lake.My
namespace Lake.MR
open PySem L2 PyProof.Rows PySem.Spec
theorem KW {He scope:Scope}{ON N:oP}{FH:List (Option Nat)}(h1:autoParam (scope.kind=.function) r0_)(h2:autoParam (∀y∈scope.names,y.2≠.cell) r3_)(h3:autoParam (∀y∈scope.names,y.2=.local->scope.names.lookup y.1=some .local) r3_)
  (h4:autoParam (∀y∈scope.names,y.2=.free->He.names.lookup y.1=some .cell\/He.names.lookup y.1=some .free) r3_) (h5:autoParam (DK scope ON N FH=true) r3_):QU He scope ON N FH:=⟨h1,h2,h3,h4,h5⟩
theorem GH {N P:oP}{sc:Scope}(h1:autoParam (sc.kind=.function) r0_)(h2:autoParam (sc.isCoroutine=false) r0_)(h3:autoParam (sc.isGenerator=false) r0_)(h4:autoParam (N.Nodup) r3_)(h5:autoParam (N.take P.length=P) r0_)
  (h6:autoParam (∀x∈P,sc.names.lookup x=some .local\/sc.names.lookup x=some .cell) r3_) (h7:autoParam (∀y∈sc.names,y.2≠.free) r3_):Fu N P sc:=⟨h1,h2,h3,h4,h5,h6,h7⟩
theorem b8 {X:Cx}{N:oP}{scope:Scope}{C s H fp}{x:Str}{pos:Pos}(i:Nat)(hN:autoParam (N.Nodup) r3_)(hi:autoParam (N[i]?=some x) r0_)(hx:Loc (X.comp N scope C s H fp).env.scope x:=by exact fw rfl)
  (hf:autoParam ((X.comp N scope C s H fp).fn x=true\/(X.comp N scope C s H fp).env.scope.names.lookup x=some .local) r2_):PG (X.comp N scope C s H fp) (.Name x pos) (wO i):=Ab hN hi hx hf
section
variable {P:Program}{w:World}{K:W.Frag}{mg:Str->Option Value}{base:Heap}
theorem GL {x qual:Str}{st:Stmt}{f:Addr}{fd:FuncData}{N ps:oP}{k n kk:Nat}{C:MC}{ro:Bool}{g:Env->Option Out}(F:LB K x qual st f fd)(S:Fu N ps (aB st))(G G' L:oz)
  (hb:∀{LM:Value}{A:Around}{outer:List PySem.Env}{s:Shared}{H:Hp}{E:XK},F5 k (A.deeper (envOfC qual (aB st) s.heap.objs.size f LM))->∀{B H'},Pm (yf MS P w K mg base N qual (aB st) f LM A outer s H E).nox ⟨C,B,H',λ_=>none⟩ G G' L ro (oE st) g)
  (hp:autoParam (kk=ps.length) r0_) (hN:autoParam (N.length=n) r0_) (hk:autoParam (kk<=n) r1_) (hG:autoParam ((G.all λi=>decide (kk<=i))=true) r1_):GY P w K mg base MS (k+1) f fd ps (Kx C (aY n kk ro g) ro):=
 F.ok S (λvs H Q E h=>(RG h).trans hp) λLM A outer s H vs Q E hr h=>RD hN hk hG (λB H'=>hb hr) h
end
end Lake.MR
namespace Lake.L2
open PySem PySem.Spec PyProof.Rows
section
variable {prog:Program}{w:World}{A:Around}{E:ox}{s:Shared}
theorem np {a b c:Addr}(h:a≠b)(h':a≠c):a∉[b,c]:=by simp[h,h']
end
end Lake.L2
namespace Lake.MR
open PySem L2 PyProof.Rows PySem.Spec
mutual
noncomputable def j6:PV->Bool
 | .FG=>true
 | .bl _=>true
 | .int _=>true
 | .str _=>true
 | .tup xs=>D_ xs
 | _=>false
noncomputable def D_:List PV->Bool
 | []=>true
 | x::xs=>j6 x&&D_ xs
end
theorem Rep.im2 {C:MC}{A A':Addr->Prop}{H H':Hp}(k:∀a o,H a=some o->yQ o=false->H' a=some o):(∀{v p},Rep C A H v p->j6 p=true->Rep C A' H' v p)/\(∀{v p},FA C A H v p->D_ p=true->FA C A' H' v p):=by
 have nd:=Rep.nd (C:=C) (A:=A) (H:=H) (M1:=λv p=>j6 p=true->Rep C A' H' v p) (M2:=λv p=>D_ p=true->FA C A' H' v p) (M3:=λ_ _=>True) (M4:=λ_ _=>True) (M5:=λ_ _=>True) (λ_=>.FG) (λb _=>.bl b) (λb _=>.int b) (λb _=>.str b)
  ?_ ?_ ?_ ?_ ?_ ?_ ?_ ?_ ?_ (λ_=>.nil) ?_ trivial (λ_ _ _ _=>trivial) trivial (λ_ _ _ _=>trivial) trivial (λ_ _ _ _=>trivial)
 ·exact ⟨nd.1,nd.2.1⟩
 ·intro a vs xs _ _ _ _ q;simp only[j6] at q;cases q
 ·intro a o vs xs _ _ _ q;simp only[j6] at q;cases q
 ·intro a vs xs _ _ _ q;simp only[j6] at q;cases q
 ·intro a vs xs h _ r q;simp only[j6] at q;exact .tup (k _ _ h rfl) (r q)
 ·intro a vs xs h _ r q;simp only[j6] at q;exact .OO h (r q)
 ·intro a vs xs _ _ _ q;simp only[j6] at q;cases q
 ·intro a vs xs _ _ _ _ q;simp only[j6] at q;cases q
 ·intro a vs xs _ _ _ _ q;simp only[j6] at q;cases q
 ·intro a dx c f fs _ _ _ _ q;simp only[j6] at q;cases q
 ·intro v p vs ps _ _ h t q;simp only[D_,cm] at q;exact .cons (h q.1) (t q.2)
theorem Rep.imm {C:MC}{A A':Addr->Prop}{H H':Hp}(k:∀a o,H a=some o->yQ o=false->H' a=some o){v:V}{p:PV}:Rep C A H v p->j6 p=true->Rep C A' H' v p:=(Rep.im2 k).1
theorem FA.imm {C:MC}{A A':Addr->Prop}{H H':Hp}(k:∀a o,H a=some o->yQ o=false->H' a=some o){v:List V}{p:List PV}:FA C A H v p->D_ p=true->FA C A' H' v p:=(Rep.im2 k).2
noncomputable def zg:PV->PV->Option PV
 | .tup ys,v=>if j6 v=true then (GW ys).map λk=>.dT [(k,v)] else none
 | .ktp ys,v=>if j6 v=true then (GW ys).map λk=>.dT [(k,v)] else none
 | _,_=>none
@[simp] theorem Ym (ys:List PV)(v:PV):zg (.tup ys) v=if j6 v=true then (GW ys).map λk=>.dT [(k,v)] else none:=id rfl
@[simp] theorem Yn (ys:List PV)(v:PV):zg (.ktp ys) v=if j6 v=true then (GW ys).map λk=>.dT [(k,v)] else none:=id rfl
section
variable {X:Cx}{b:BX}{G:oz}{e1 e2:Expr}{f1 f2:pc}{pos:Pos}
theorem V0 {j:Nat}(hr:F5 j X.A)(h1:SE X b G .val e1 f1)(h2:SE X b G .val e2 f2)(hK:autoParam (X.K=b.C.K) r0_):SE X b G .own (.Dict [some e1] [e2] pos) (b2 zg f1 f2):=by
 refine PE.imp (R0 (uB hr) h1 h2) ?_
 rintro σ H Q ⟨Ow,env,q,E,hf,k⟩ l hl
 obtain⟨x,hx,z1⟩:=aC hf
 clear hf
 obtain⟨y,hy,hf⟩:=aC z1
 clear z1
 have s0:=bI hl (.dT [])
 have fin:∀(H1 H2:Hp) (v u:V) (c:Addr) (ks:List Key),FE (upd H l (.dT [])) H1->FE H1 H2->Rep b.C (Bs b Ow) H2 u y->j6 y=true->some (PV.dT [(ks,y)])=some q->v=.ref c->Kk b.C.K H2 c ks->∃b' ks',v=.ref b'/\Kk X.K H2 b' ks'/\Q (.ref l) (upd H2 l (.dT [(ks',u)])):=λH1 H2 v u c ks s1 s2 r2 hi e ev ck=>by
  cases e
  refine⟨c,ks,ev,by rw[hK];exact ck,k _ _ (λa o e=>?_) ⟨l,rfl,hl,_,bx,.cons (Rep.imm (λa o e m=>?_) r2 hi) .nil⟩⟩
  ·rw[aQ (bz e hl)]
   exact s2 _ _ (s1 _ _ (s0 _ _ e))
  ·by_cases ha:a=l
   ·subst ha
    have:=s2 _ _ (s1 _ _ (bx (H:=H) (a:=a) (o:=.dT [])))
    rw[e] at this
    cases this
    cases m
   ·rw[aQ ha];exact e
 unfold zg at hf
 split at hf
 ·rename_i ys
  split at hf
  ·rename_i Si
   obtain⟨ks,hk,e⟩:=db.mp hf
   refine⟨Ow,env,_,E.up s0,hx,λv H1 s1 r1=>⟨Ow,env,_,(E.up s0).up s1,hy,λu H2 s2 r2=>⟨s2 _ _ (s1 _ _ bx),?_⟩⟩⟩
   have MH:FF b.C (Bs b Ow) H1 v (.tup ys):=.inl r1
   obtain⟨c,vs,rfl,hc,rc⟩:=MH.tup
   exact fin H1 H2 _ u c ks s1 s2 r2 Si (dr some e) rfl ((hc.up s2).key (rc.GW hk))
  ·cases hf
 ·rename_i ys
  split at hf
  ·rename_i Si
   obtain⟨ks,hk,e⟩:=db.mp hf
   refine⟨Ow,env,_,E.up s0,hx,λv H1 s1 r1=>⟨Ow,env,_,(E.up s0).up s1,hy,λu H2 s2 r2=>⟨s2 _ _ (s1 _ _ bx),?_⟩⟩⟩
   have MH:Rep b.C (Bs b Ow) H1 v (.ktp ys):=r1
   cases MH with
   | @tupK c vs _ w1 w3=>
    have hc:QE b.C.K c vs:=by
     rcases w1 with (z | ⟨o,z⟩) | z
     ·cases z
     ·cases z
     ·exact z
    exact fin H1 H2 _ u c ks s1 s2 r2 Si (dr some e) rfl (.inr ⟨vs,hc,w3.GW hk⟩)
  ·cases hf
 ·cases hf
end
end Lake.MR
namespace Lake.L2
open PySem PySem.Spec PyProof.Rows
noncomputable def sU (x:Str)(n:Nat):Str:=⟨(List.replicate n x.cps).foldl (·++·) #[]⟩
theorem R6 {X:Cx}:HL X (binaryOp .Mult) (λx y H Q=>∃i n,x=.str i/\y=.int n/\((n=1/\Q (.str i) H)\/(2<=n/\n<=1000/\1<=i.length/\(sU i n.toNat).length<=1000000/\i.length<=1000/\Q (.str (sU i n.toNat)) H))):=by
 intro Fs s σ H x y v u Q I rx ry h
 obtain⟨i,n,rfl,rfl,h⟩:=h
 obtain⟨t,rfl⟩:=rx
 obtain⟨t',rfl⟩:=ry
 rcases h with ⟨rfl,q⟩ | ⟨n2,n3,l1,l3,l2,q⟩
 ·refine P.mul_str (by decide) (λ_ z=>by simp at z) (λ_ z=>by simp at z) ?_
  exact⟨.str i,H,I,⟨t,rfl⟩,q⟩
 ·have e1:¬ n < 1:=by omega
  have e2:(n == 1||i.length == 0)=false:=by
   have a:(n == 1)=false:=by rw[de];omega
   have c:(i.length == 0)=false:=by rw[de];omega
   rw[a,c];rfl
  refine P.mul_str (by rw[a5 (by omega),a5 (by omega)];rfl) (λ_ _=>?_) (λ_ _=>?_) ?_
  ·have:(1000:Int)<=(2 ^ 63 - 1) / n:=by
    refine Int.le_ediv_of_mul_le (by omega) ?_
    have:1000*n<=1000*1000:=by omega
    omega
   omega
  ·have h3:i.length*n.toNat<=1000*1000:=nE l2 (by omega)
   have:(1000*1000:Nat)<=sizeLine:=by decide
   unfold Builtin.Str.tooLong
   simp only[decide_eq_false_iff_not]
   omega
  ·rw[ap e1,ap (by rw[e2];exact aT)]
   exact⟨gE (jN l3),.str _,H,I.tok _,⟨_,rfl⟩,q⟩
end Lake.L2
namespace Lake.MR
open PySem L2
@[simp] noncomputable def zj:PV->PV->Option PV
 | .int i,.int j=>if (SV i||SV j)=true then some (.int (i*j)) else none
 | .str x,.int n=>if n=1 then some (.str x) else if 2<=n/\n<=1000/\1<=x.length/\(sU x n.toNat).length<=1000000/\x.length<=1000 then some (.str (sU x n.toNat)) else none
 | _,_=>none
section
variable {X:Cx}{b:BX}{G:oz}{m m1 m2:Md}{e e1 e2:Expr}{f f1 f2:pc}{pos:Pos}
theorem R7:Nw b .val (λx y H Q=>rI So (λi j=>.int (i*j)) x y H Q\/∃i n,x=.str i/\y=.int n/\((n=1/\Q (.str i) H)\/(2<=n/\n<=1000/\1<=i.length/\(sU i n.toNat).length<=1000000/\i.length<=1000/\Q (.str (sU i n.toNat)) H))) zj:=by
 intro Ow H v1 v2 p1 p2 p Q hn r1 r2 e k
 unfold zj at e
 split at e
 ·rename_i i j
  exact .inl (LK Ow H v1 v2 (.int i) (.int j) p Q hn r1 r2 e k)
 ·rename_i x n
  refine .inr ⟨x,n,r1.str,r2.int,?_⟩
  split at e
  ·rename_i h1;cases e;exact .inl ⟨h1,k _ H (FE.refl _) (.str _)⟩
  ·split at e
   ·rename_i h2;cases e;exact .inr ⟨h2.1,h2.2.1,h2.2.2.1,h2.2.2.2.1,h2.2.2.2.2,k _ H (FE.refl _) (.str _)⟩
   ·cases e
 ·cases e
theorem Im (h1:SE X b G m1 e1 f1)(h2:SE X b G m2 e2 f2):SE X b G .val (.BinOp e1 .Mult e2 pos) (b2 zj f1 f2):=rT (HL.or K7 R6) R7 h1 h2
end
end Lake.MR
namespace Lake.My
open PySem L2 MR
section
variable {α:Type}(a b c d e f g h:α)(l:List α)
@[simp] theorem at0:F0 (a::l) 0=some a:=cW (k:=0) rfl
@[simp] theorem at1:F0 (a::b::l) 1=some b:=cW (k:=1) rfl
@[simp] theorem at2:F0 (a::b::c::l) 2=some c:=cW (k:=2) rfl
@[simp] theorem at3:F0 (a::b::c::d::l) 3=some d:=cW (k:=3) rfl
end
@[simp] noncomputable def nxt (ds:oz):Option Out->Option MR.Env
 | some (.nx e)=>some (IX ds e)
 | some (.ct e)=>some (IX ds e)
 | _=>none
noncomputable def turn (g:PV->MR.Env->Option MR.Env)(ds:oz)(body:MR.Env->Option Out)(x:PV)(env:MR.Env):Option MR.Env:=(g x env).bind λe=>nxt ds (body e)
theorem bJ (g:PV->MR.Env->Option MR.Env)(ds:oz)(body:MR.Env->Option Out)(x:PV)(env:MR.Env):turn g ds body x env=(g x env).bind λe=>nxt ds (body e):=id rfl
theorem dh {g:PV->MR.Env->Option MR.Env}{ds:oz}{body:MR.Env->Option Out}{x:PV}{xs:List PV}{env env':MR.Env}(h:turn g ds body x env=some env'):bw g ds body (x::xs) env=bw g ds body xs env':=by
 unfold turn at h
 obtain⟨e,h1,h2⟩:=aC h
 unfold nxt at h2
 split at h2
 ·rename_i q;cases h2;simp[bw,h1,q]
 ·rename_i q;cases h2;simp[bw,h1,q]
 ·cases h2
theorem kE {α:Type}{g:PV->MR.Env->Option MR.Env}{ds:oz}{body:MR.Env->Option Out}{env:MR.Env}(c:α->PV):∀(ys:List α),(∀y∈ys,turn g ds body (c y) env=some env)->bw g ds body (ys.map c) env=some (.nx env)
 | [],_=>rfl
 | y::ys,h=>by
  rw[ag,dh (h y af)]
  exact kE c ys λz hz=>h z (ac _ hz)
theorem aP {f g:MR.Env->Option Out}{env e:MR.Env}(h:f env=some (.nx e)):aF f g env=g e:=by simp[h]
theorem Ay {f g:MR.Env->Option Out}{env:MR.Env}{p:PV}(h:f env=some (.rt p)):aF f g env=some (.rt p):=by simp[h]
theorem dG (n:Nat):dO 0 (n:Int)=(List.range n).map λk=>PV.int (k:Nat):=by
 unfold dO
 simp
noncomputable def cell (ns:oQ)(k:Nat):Int:=ns.getD k 0
def IS:Nat->PV->Prop
 | _,.FG=>True
 | _,.bl _=>True
 | _,.int _=>True
 | _,.str x=>PyData.strOk x=true
 | n+1,.lst xs=>∀x∈xs,IS n x
 | n+1,.tup xs=>∀x∈xs,IS n x
 | _,_=>False
theorem zm {n:Nat}(ih:∀p,IS n p->∃d,toD p=some d/\d.canLay0=true/\d.depth<=n/\PyData.eqv d d=true):∀xs:List PV,(∀x∈xs,IS n x)->∃ds,d8 xs=some ds/\PyData.canLayAll0 ds=true/\PyData.depthAll ds<=n/\PyData.eqvAll ds ds=true
 | [],_=>⟨[],rfl,rfl,da _,rfl⟩
 | x::xs,h=>by
  obtain⟨d,h1,h2,h3,h4⟩:=ih x (h x af)
  obtain⟨ds,g1,g2,g3,g4⟩:=zm ih xs λz hz=>h z (ac _ hz)
  refine⟨d::ds,by simp[d8,h1,g1],by simp[PyData.canLayAll0,h2,g2],?_,by simp[PyData.eqvAll,h4,g4]⟩
  simp only[PyData.depthAll]
  omega
theorem zp:∀(n:Nat) (p:PV),IS n p->∃d,toD p=some d/\d.canLay0=true/\d.depth<=n/\PyData.eqv d d=true
 | n,.FG,_=>⟨.none,by simp[toD],by simp[PyData.canLay0],by simp[PyData.depth],by simp[PyData.eqv]⟩
 | n,.bl b,_=>⟨.bool b,by simp[toD],by simp[PyData.canLay0],by simp[PyData.depth],by simp[PyData.eqv]⟩
 | n,.int b,_=>⟨.int b,by simp[toD],by simp[PyData.canLay0],by simp[PyData.depth],by simp[PyData.eqv]⟩
 | n,.str b,h=>⟨.str b,by simp[toD],by simpa [PyData.canLay0,IS] using h,by simp[PyData.depth],by simp[PyData.eqv]⟩
 | n+1,.lst xs,h=>by
  obtain⟨ds,g1,g2,g3,g4⟩:=zm (zp n) xs (by simpa [IS] using h)
  exact⟨.list ds,by simp[toD,g1],by simp[PyData.canLay0,g2],by simp only[PyData.depth];omega,by simp[PyData.eqv,g4]⟩
 | n+1,.tup xs,h=>by
  obtain⟨ds,g1,g2,g3,g4⟩:=zm (zp n) xs (by simpa [IS] using h)
  exact⟨.tuple ds,by simp[toD,g1],by simp[PyData.canLay0,g2],by simp only[PyData.depth];omega,by simp[PyData.eqv,g4]⟩
 | 0,.lst _,h=>by simp[IS] at h
 | 0,.tup _,h=>by simp[IS] at h
 | _,.frz _,h=>by simp[IS] at h
 | _,.ktp _,h=>by simp[IS] at h
 | _,.dK _,h=>by simp[IS] at h
 | _,.dT _,h=>by simp[IS] at h
 | _,.obj _ _,h=>by simp[IS] at h
theorem PJ {n:Nat}{p:PV}(h:IS n p)(hn:n<=64):Q2 p p=some true:=by
 obtain⟨d,h1,h2,h3,h4⟩:=zp n p h
 have hs:SeqAt.shaped d=true:=by
  unfold SeqAt.shaped
  rw[h2,Bool.true_and,hJ]
  omega
 simp[Q2,h1,hs,h4]
theorem PK {p:PV}{k:Bool}(h:Pl p p=some k):k=true:=by
 cases p <;> simp at h <;> first | exact h | exact h.symm | cases h
theorem FW {n:Nat}{p:PV}(h:IS n p)(hn:n<=64):Kt p p=some true:=by
 unfold Kt
 cases q:Pl p p with
 | none=>exact PJ h hn
 | some k=>rw[PK q]
theorem jn {n:Nat}{x:PV}{xs:List PV}(h:IS (n+1) (.lst (x::xs)))(hn:n<=60):Kt (.lst (x::xs)) (.lst [])=some false:=by
 have h':∀y∈x::xs,IS n y:=by simpa [IS] using h
 obtain⟨d,a1,a2,a3,a4⟩:=zp n x (h' x af)
 obtain⟨ds,g1,g2,g3,g4⟩:=zm (zp n) xs λz hz=>h' z (ac _ hz)
 have hs:SeqAt.shaped (.list (d::ds))=true:=by
  have h1:(PyData.list (d::ds)).canLay0=true:=by simp[PyData.canLay0,PyData.canLayAll0,a2,g2]
  have h2:(PyData.list (d::ds)).depth<=64:=by simp only[PyData.depth,PyData.depthAll];omega
  simp[SeqAt.shaped,h1,h2]
 have Kn:SeqAt.shaped (.list [])=true:=by decide
 simp[Kt,Pl,Q2,toD,d8,a1,g1,hs,Kn,PyData.eqv,PyData.eqvAll]
@[simp] theorem Zt:Kt (.lst []) (.lst [])=some true:=FW (n:=1) (by simp[IS]) (by decide)
noncomputable def t7:PV:=.ktp [.str "never",.str "may",.str "must"]
noncomputable def Az:PV:=.ktp [.int 0,.int 0,.int 0]
noncomputable def L6:List (String×Bool):=[("str",true)]
def mK:=(aF (F9 (tV (b2 (gR λi j=>decide (i < j)) (bV 1) (b1 F3 (bV 0)))) (aN (b2 FI (bV 0) (bV 1))) GI) (aN (Fh 0)))
def bj:=aY 2 2 false mK
def lK:=(oY sS 2 (bV 4) (bC (.bl true)))
def d_:=(F9 (tV (b2 eqQ (b2 FI (bV 3) (Fh 0)) (bV 0))) (cQ (gN 4) (iV (LF (bV 3) (oS (Fh 1)) oN)) [4] lK) GI)
def t8:=(aF (aK 2 (bC (.dK []))) (aF (cQ (gN 3) (iV (bV 1)) [3,4] d_) (aN (bV 2))))
def bK:=aY 5 2 false t8
def lq:=(F9 (tV (b2 eqQ (b2 FI (bV 2) (Fh 0)) (bC (.str "run")))) (aK 1 (b2 FI (bV 2) (Fh 1))) GI)
def xV:=(aF (aK 1 (bC (.str "never"))) (aF (cQ (gN 2) (iV (bV 0)) [2] lq) (aN (bV 1))))
def kI:=aY 3 1 false xV
def fc:=(F9 (tV (b2 eqQ (b2 FI (bV 2) (Fh 0)) (bC (.str "alike")))) (oY sS 1 (a_ (ak (b2 FI (bV 2) (Fh 1)) (ak (b2 FI (bV 2) (Fh 2)) az))) (bC (.bl true))) GI)
def u5:=(aF (aK 1 (bC (.dT []))) (aF (cQ (gN 2) (iV (bV 0)) [2] fc) (aN (bV 1))))
def jf:=aY 3 1 false u5
def qY:=(aN (fQ (b2 eqQ (b1 F3 (bV 0)) (Fh 1)) (b2 LS (bV 0) (bC (.str "abcdefghijklmnopqrstuvwxyz")))))
def dz:=aY 1 1 false qY
def j7:=(aH dz (Fn 0 az))
def sy:=(aN (fQ (b2 eqQ (b2 FI (bV 0) (Fh 0)) (bC (.str "carry"))) (fQ (b2 (gR λi j=>decide (j < i)) (b1 F3 (bV 0)) (Fh 1)) (b1 oF (bF [none] (iV (LF (bV 0) (oS (Fh 1)) oN)) (gN 0) bG j7)))))
def fj:=aY 1 1 false sy
def u6:=(aN (fQ (b2 eqQ (b1 F3 (bV 1)) (Fh 2)) (fQ (b2 LS (b2 FI (bV 1) (Fh 0)) (bV 0)) (b2 LS (b2 FI (bV 1) (Fh 1)) (bV 0)))))
def lr:=aY 2 2 false u6
def mL:=(aH lr (Fn 1 (Fn 0 az)))
def u9:=(aN (fQ (b2 eqQ (b2 FI (bV 1) (Fh 0)) (bC (.str "one"))) (fQ (b2 (gR λi j=>decide (j < i)) (b1 F3 (bV 1)) (Fh 1)) (b1 oF (bF [none,some 0] (iV (LF (bV 1) (oS (Fh 1)) oN)) (gN 0) bG mL)))))
def gB:=aY 2 2 false u9
def zq:=(aN (fQ (aH dz (Fn 1 az)) (b2 g_ (bV 1) (bV 0))))
def mO:=aY 2 2 false zq
def iU:=(b2 LS (bV 0) (bV 1))
def iW:=(aH mO (Fn 1 (Fn 0 az)))
def pD:=(aF (F9 (tV (b2 L3 (b1 F3 (bV 2)) (Fh 2))) (aN (bC (.bl false))) GI) (aN (bOr (b1 oF (bF [none,some 1] (iV (bV 2)) (gN 0) bG iU)) (b1 oF (bF [none,some 0] (iV (bV 2)) (gN 0) bG iW)))))
def gO:=aY 3 3 false pD
def mQ:=(aH mO (Fn 1 (Fn 0 az)))
def u_:=(aN (fQ (vJ (λi j=>decide (i<=j)) (λi j=>decide (i<=j)) (Fh 2) (b1 F3 (bV 1)) (Fh 4)) (b1 oF (bF [none,some 0] (iV (bV 1)) (gN 0) bG mQ))))
def lu:=aY 2 2 false u_
def qZ:=(b2 LS (bV 0) (bV 1))
def q8:=(aH lu (Fn 1 (Fn 0 az)))
def uK:=(aF (aK 3 (b2 FI (bV 2) (Fh 0))) (aF (aK 4 (LF (bV 2) (oS (Fh 1)) oN)) (aF (aK 5 (b2 b7 (b1 uG (bV 0)) (b1 uG (bV 1)))) (aF (F9 (tV (b2 eqQ (bV 3) (bC (.str "carry")))) (aN (aH fj (Fn 2 az))) GI) (aF (F9 (tV (b2 eqQ (bV 3) (bC (.str "one")))) (aN (aH gB (Fn 0 (Fn 2 az)))) GI) (aF (F9 (tO (tV (b2 eqQ (bV 3) (bC (.str "long")))) (tV (b2 eqQ (bV 3) (bC (.str "either"))))) (aN (fQ (b2 (gR λi j=>decide (j < i)) (b1 F3 (bV 4)) (Fh 0)) (b1 oF (bF [none,some 5] (iV (bV 4)) (gN 0) bG qZ)))) GI) (aF (F9 (tO (tV (b2 eqQ (bV 3) (bC (.str "begin")))) (tV (b2 eqQ (bV 3) (bC (.str "split"))))) (aN (fQ (b2 (gR λi j=>decide (j < i)) (b1 F3 (bV 4)) (Fh 0)) (b1 oF (bF [none,some 0] (iV (bV 4)) (gN 0) bG q8)))) GI) (aF (F9 (tV (b2 eqQ (bV 3) (bC (.str "run")))) (aN (fQ (b2 eqQ (b1 F3 (bV 4)) (Fh 1)) (b2 LS (b2 FI (bV 4) (Fh 0)) (bC t7)))) GI) (aN (fQ (b2 eqQ (bV 3) (bC (.str "alike"))) (aH gO (Fn 0 (Fn 5 (Fn 4 az))))))))))))))
def qu:=aY 6 3 false uK
def fD:=(b2 vL (bV 0) (bC (.str " ")))
def h_:=(bV 0)
def ie:=(tV (aH fj (Fn 0 az)))
def ig:=(bV 0)
def ik:=(tV (aH gB (ak (lH 0 "carrying" (bV 1)) (Fn 0 az))))
def il:=(F9 (tN (tV (aH qu (ak (lH 0 "carrying" (bV 0)) (ak (lH 0 "pairs" (bV 0)) (Fn 4 az)))))) sNo GI)
def oh:=(aF (aK 2 (bF [none] (iV (bV 1)) (gN 0) bG fD)) (aF (bh (XZ 0 "carrying") 0 (aH bK (ak (bC (.str "carry")) (ak (bF [none] (iV (bV 2)) (gN 0) ie h_) az)))) (aF (bh (XZ 0 "pairs") 0 (aH bK (ak (bC (.str "one")) (ak (bF [none,some 0] (iV (bV 2)) (gN 0) ik ig) az)))) (aF (cQ (gT [3,4]) (iE2 (bV 2)) [3,4] il) (aF (bh (XZ 0 "longs") 0 (aH bK (ak (bC (.str "long")) (Fn 2 az)))) (aF (bh (XZ 0 "eithers") 0 (aH bK (ak (bC (.str "either")) (Fn 2 az)))) (aF (bh (XZ 0 "beginnings") 0 (aH bK (ak (bC (.str "begin")) (Fn 2 az)))) (aF (bh (XZ 0 "splittings") 0 (aH bK (ak (bC (.str "split")) (Fn 2 az)))) (aF (bh (XZ 0 "running") 0 (aH kI (Fn 2 az))) (bh (XZ 0 "likes") 0 (aH jf (Fn 2 az))))))))))))
noncomputable def cR:List PV->Option (List (Str×PV)):=wY 5 2 0 oh
def b_:=(F9 (tV (b2 LS (b2 FI (bV 4) (Fh 0)) (a_ (ak (bC (.str "(")) (ak (bC (.str ")")) az))))) (aK 3 (b2 eqQ (b2 FI (bV 4) (Fh 0)) (bC (.str "(")))) (aF (aK 2 (b2 b7 (bV 2) (Fh 1))) (F9 (tV (b2 eqQ (b2 FI (bV 4) (Fh 0)) (bC (.str "row")))) (bh cD 1 (a_ (Fn 2 (Fn 3 az)))) GI)))
def pX:=(aF (aK 1 (bA az)) (aF (aK 2 (Fh 0)) (aF (aK 3 (bC (.bl false))) (aF (cQ (gN 4) (iV (bV 0)) [4] b_) (aN (bV 1))))))
def gC:=aY 5 1 false pX
def lL:=(bV 0)
def dH:=(tA (tV (b2 eqQ (b2 FI (bV 0) (Fh 0)) (bC (.str ")")))) (tV (b2 eqQ (b2 FI (bV 0) (Fh 1)) (Fh 0))))
def oH:=(aN (b2 L3 (bF [none] (iV (bV 0)) (gN 0) dH lL) (bA az)))
def eE:=aY 1 1 false oH
def q9:=(aF (aK 1 (bA (ak (bC (.str "a")) (ak (bC (.str "as")) (ak (bC (.str "x")) (ak (bC (.str "iamb")) (ak (bC (.str "long")) (ak (bC (.str "b")) (ak (bC (.str "measured")) (ak (bC (.str "u")) az)))))))))) (aN (b2 FI (bV 1) (b2 cN (bV 0) (Fh 8)))))
def dB:=aY 2 1 false q9
def vV:=(aF (aK 1 (bA (ak (bC .FG) (ak (bC (.str "a")) (ak (bC (.str "b")) (ak (bC (.str "c")) (ak (bC (.str "A")) (ak (bC (.str "B")) (ak (bC (.str "a")) (ak (bC (.str "z")) az)))))))))) (aN (b2 FI (bV 1) (b2 cN (bV 0) (Fh 8)))))
def ir:=aY 2 1 false vV
def jQ:=(b2 FI (bV 0) (Fh 0))
def iu:=(bV 0)
def iy:=(tN (tV (b2 FI (bV 0) (Fh 1))))
def gh:=(aF (aK 2 (bF [none] (iV (bV 0)) (gN 0) bG jQ)) (aF (aK 3 (b2 jB (bV 1) (Fh 9))) (aF (aK 4 (fQ (b2 LS (bC (.str "(")) (bV 2)) (b2 g_ (bC (.str ")")) (bV 2)))) (aF (aK 5 (b2 cN (bV 3) (Fh 4))) (aF (F9 (tA (tV (b2 eqQ (b2 cN (bV 1) (Fh 9)) (Fh 7))) (tV (b2 g_ (bC (.str "(")) (bV 2)))) (aN (a_ (ak (bC (.str "(")) az))) GI) (aF (F9 (tA (tV (b2 eqQ (b2 cN (bV 1) (Fh 9)) (Fh 8))) (tA (tV (bV 4)) (tV (b2 L3 (b2 FI (bV 2) (b1 fW (Fh 1))) (bC (.str "(")))))) (aN (a_ (ak (bC (.str ")")) (Fn 5 (ak (b2 b7 (b2 NI (Fh 1) (bV 5)) (b2 cN (b2 jB (bV 3) (Fh 4)) (b2 Pf (Fh 5) (b2 NI (Fh 1) (bV 5))))) az))))) GI) (aF (aK 6 (aH gC (Fn 0 az))) (aF (F9 (tA (tN (tV (bV 4))) (tV (aH eE (Fn 0 az)))) (aK 6 (bF [none] (iV (bV 6)) (gN 0) iy iu)) GI) (aF (F9 (tA (tV (b2 LS (b2 cN (bV 1) (Fh 9)) (a_ (ak (Fh 5) (ak (Fh 6) az))))) (tV (b2 L3 (bV 6) (bA az)))) (aN (a_ (ak (bC (.str "as")) (ak (b2 FI (b2 FI (bV 6) (b2 cN (bV 3) (b1 F3 (bV 6)))) (Fh 0)) az)))) GI) (aN (a_ (ak (bC (.str "row")) (ak (aH dB (Fn 3 az)) (ak (aH ir (ak (b2 jB (bV 3) (Fh 8)) az)) az))))))))))))))
def gj:=aY 7 2 false gh
def f9:=(bh cD 1 (yV gj (ak (bL (bV 1)) (Fn 2 az))))
def jR:=(b2 FI (bV 0) (Fh 0))
def mR:=(aF (aK 1 (bA az)) (aF (cQ (gN 2) (iV (bV 0)) [2] f9) (aF (aK 3 (bF [none] (iV (bV 1)) (gN 0) bG jR)) (aF (F9 (tO (tV (b2 eqQ (bV 3) (bA az))) (tV (b2 eqQ (b2 FI (bV 3) (b1 fW (Fh 1))) (bC (.str "("))))) (bh cD 1 (a_ (ak (bC (.str "row")) (ak (bC (.str "x")) (ak (bC (.str "a")) az))))) GI) (aF (F9 (tA (tV (b2 LS (bC (.str "(")) (bV 3))) (tV (b2 g_ (bC (.str ")")) (bV 3)))) (bh cD 1 (a_ (ak (bC (.str ")")) (ak (Fh 1) (ak (Fh 2) az))))) GI) (aN (b1 Fv (bV 1))))))))
def iz:=aY 4 1 false mR
def jT:=(bV 0)
def iB:=(tV (b2 eqQ (b2 FI (bV 0) (Fh 0)) (bC (.str ")"))))
def vW:=(aF (aK 1 (bF [none] (iV (bV 0)) (gN 0) iB jT)) (aN (XY (tV (b2 (gR λi j=>decide (j < i)) (b1 F3 (bV 1)) (Fh 0))) (b2 FI (bV 1) (Fh 0)) (bC .FG))))
def iC:=aY 2 1 false vW
def xW:=(aF (aK 1 (aH iC (Fn 0 az))) (aN (XY (tV (b2 P6 (bV 1) (bC .FG))) (bA (ak (Fh 1) az)) (b2 Fz (b2 FI (bV 1) (Fh 1)) (b2 b7 (b2 FI (bV 1) (Fh 2)) (Fh 1))))))
def gU:=aY 2 1 false xW
def cj:=(nIf 1 (tO (tV (b2 eqQ (b2 FI (bV 4) (Fh 0)) (bC (.str "(")))) (tV (b2 eqQ (b2 FI (bV 4) (Fh 0)) (bC (.str ")"))))) (X0 1 (aK 2 (b2 b7 (bV 2) (Fh 1)))) (aF (X0 1 (aK 3 (b2 b7 (bV 3) (Fh 1)))) (Pk 1 (bV 2) (a_ (Fn 3 (Fn 4 az))))))
def o7:=(aF (OH (DY 1 3)) (aF (OH (X0 1 (aK 2 (Fh 0)))) (aF (OH (X0 1 (aK 3 (Fh 0)))) (aF (OH (Pj 1 (gN 4) (iV (bV 0)) [4] cj)) (aN (bV 1))))))
def jo:=aY 5 1 false o7
def kJ:=(a_ (Fn 0 (Fn 1 (ak (Fh 0) az))))
def o8:=(a_ (Fn 0 (Fn 1 (Fn 2 az))))
def kO:=(bh uI 3 (bF [none,none,some 4] (iV (b2 FI (bV 2) (Fh 1))) (gT [0,1]) bG o8))
def o9:=(a_ (Fn 0 (Fn 1 (ak (Fh 0) az))))
def sE:=(aF (aK 2 (aH jo (Fn 0 az))) (aF (aK 3 (bF [none,none] (iV (b2 FI (bV 2) (Fh 0))) (gT [0,1]) bG kJ)) (aF (cQ (gN 4) (iR2 (Fh 1) (b2 b7 (bV 1) (Fh 1))) [4] kO) (aN (b2 mG (bV 3) (bF [none,none] (iV (b2 FI (bV 2) (Fh 2))) (gT [0,1]) bG o9))))))
def my:=aY 5 2 false sE
def zr:=(aF (F9 (tV (b2 P6 (bV 0) (bC .FG))) (aN (bC .FG)) GI) (aN (a_ (Fn 0 (ak (XY (tV (aH dz (Fn 0 az))) (bV 1) (Fh 0)) az)))))
def mU:=aY 2 2 false zr
def dW:=(F9 (tV (b2 eqQ (b2 FI (bV 5) (Fh 0)) (bC (.str "row")))) (aF (oY sS 3 (bV 4) (b1 F3 (bV 2))) (bh cD 2 (a_ (ak (b2 FI (bV 5) (Fh 1)) (ak (aH mU (ak (b2 FI (bV 5) (Fh 2)) (Fn 6 az))) (ak (bC .FG) az)))))) (aF (aK 7 (b2 FI (bV 3) (b2 FI (bV 5) (Fh 1)))) (bh cD 2 (a_ (ak (b2 FI (b2 FI (bV 2) (bV 7)) (Fh 0)) (ak (bC .FG) (Fn 7 az)))))))
def lw:=(aF (aK 2 (bA az)) (aF (aK 3 (bC (.dK []))) (aF (cQ (gT [4,5,6]) (iV (aH my (Fn 0 (Fn 1 az)))) [4,5,6,7] dW) (aN (bV 2)))))
def c7:=aY 8 2 false lw
def jU:=(bV 0)
def iD:=(tA (tV (b2 gK (b2 FI (b2 FI (bV 1) (bV 2)) (Fh 1)) (bC .FG))) (tV (b2 eqQ (b2 FI (b2 FI (bV 1) (bV 0)) (Fh 1)) (b2 FI (b2 FI (bV 1) (bV 2)) (Fh 1)))))
def jV:=(aF (aK 3 (bF [none,some 0,some 2] (RF (bV 2)) (gN 0) iD jU)) (F9 (tV (b2 gK (b2 FI (b2 FI (bV 0) (bV 2)) (Fh 2)) (bC .FG))) (bh cD 1 (b2 FI (bV 1) (b2 FI (b2 FI (bV 0) (bV 2)) (Fh 2)))) (F9 (tV (b2 L3 (bV 3) (bA az))) (bh cD 1 (b2 FI (bV 1) (b2 FI (bV 3) (Fh 0)))) (bh cD 1 (bV 2)))))
def vX:=(aF (aK 1 (bA az)) (aF (cQ (gN 2) (RF (b1 F3 (bV 0))) [2,3] jV) (aN (bV 1))))
def jF:=aY 4 1 false vX
def t_:=(aF (aK 2 (b2 FI (bA (ak (Fh 1) (ak (Fh 3) (ak (Fh 5) (ak (Fh 7) (ak (Fh 9) (ak (Fh 11) (ak (Fh 15) (ak (Fh 17) az))))))))) (b2 cN (b2 jB (bV 0) (Fh 26)) (Fh 8)))) (aN (b2 FI (bC (.str "abcdefghijklmnopqrstuvwxyz")) (b2 cN (b2 b7 (bV 0) (b2 vG (bV 1) (bV 2))) (Fh 26)))))
def aU:=aY 3 2 false t_
def vY:=(aF (aK 4 (aH aU (Fn 0 (ak (b2 cN (bV 3) (bV 1)) az)))) (aF (aK 5 (bA (ak (bC (.str "")) (ak (aH aU (Fn 0 (ak (Fh 9) az))) (ak (b2 b7 (bV 4) (aH aU (Fn 0 (ak (Fh 9) az)))) az))))) (aF (bh cD 5 (b2 b7 (b2 b7 (aH aU (Fn 0 (ak (Fh 8) az))) (bV 4)) (aH aU (Fn 0 (ak (Fh 10) az))))) (aF (aK 6 (b2 b7 (aH aU (Fn 0 (ak (b2 b7 (Fh 12) (b2 cN (bV 2) (Fh 6))) az))) (aH aU (Fn 0 (ak (b2 b7 (Fh 18) (b2 jB (bV 2) (Fh 6))) az))))) (aN (b2 b7 (b2 b7 (b2 FI (bV 5) (b2 cN (b2 jB (bV 3) (Fh 8)) (Fh 4))) (aH aU (Fn 0 (ak (b2 cN (bV 2) (bV 1)) az)))) (bV 6)))))))
def iG:=aY 7 4 false vY
def xX:=(aN (b2 cN (b2 b7 (b2 vG (b2 cN (bV 0) (Fh 1000003)) (b2 b7 (Fh 48271) (b2 vG (b2 vG (Fh 15838) (bV 1)) (bV 1)))) (b2 vG (Fh 69621) (bV 1))) (Fh 2147483647)))
def kW:=aY 2 2 false xX
def eF:=(F9 (tV (b2 gK (b2 FI (b2 FI (bV 2) (bV 6)) (Fh 2)) (bC .FG))) (bh cD 5 (b1 uG (b2 FI (bV 5) (b2 FI (b2 FI (bV 2) (bV 6)) (Fh 2))))) (bh cD 5 (bA (ak (aH iG (Fn 0 (Fn 1 (ak (b2 FI (bV 3) (bV 6)) (ak (aH kW (Fn 4 (Fn 6 az))) az))))) az))))
def vZ:=(aF (aK 5 (bA az)) (aF (cQ (gN 6) (RF (b1 F3 (bV 2))) [6] eF) (aN (bV 5))))
def jG:=aY 7 5 false vZ
def cT:=(F9 (tA (tV (b2 eqQ (b2 FI (bV 2) (Fh 0)) (bC (.str "row")))) (tV (b2 g_ (b2 FI (bV 2) (Fh 1)) (bV 0)))) sNo GI)
def qe:=(cQ (gN 2) (iV (bV 1)) [2] cT)
def fL:=aY 3 2 false qe
def eX:=(aF (aK 3 (aH c7 (Fn 0 (Fn 2 az)))) (F9 (tV (b2 eqQ (b1 F3 (bV 3)) (bV 1))) (aN (bV 3)) GI))
def q_:=(aF (cQ (gN 2) (iV (aH gU (Fn 0 az))) [2,3] eX) (aN (bC .FG)))
def gn:=aY 4 2 false q_
def pG:=(aN (b2 LS (bV 1) (lH 0 "carrying" (bV 0))))
def aV:=aY 2 2 false pG
def mV:=(aH dz (Fn 0 az))
def mW:=(e_ 0 "carries" aV (bV 1) (Fn 0 az))
def zu:=(aF (F9 (tO (tN (tV (b1 (JR L6) (bV 1)))) (tV (b2 (gR λi j=>decide (j < i)) (b1 F3 (bV 1)) (Fh 24)))) (aN (bC (.bl false))) GI) (aN (fQ (b1 oF (bF [none] (iV (bV 1)) (gN 0) bG mV)) (b1 Ov (bF [none,some 0] (iV (bV 1)) (gN 0) bG mW)))))
def qw:=aY 2 2 false zu
def qg:=(F9 (tN (tV (aH qw (Fn 0 (Fn 1 az))))) sNo GI)
def dj:=aY 2 2 false qg
def A_:=(a_ (Fn 1 (Fn 2 (Fn 0 az))))
def uc:=(bh uI 1 (bF [none,some 2,some 4] (iR2 (Fh 1) (b1 F3 (bV 5))) (gN 0) bG A_))
def ud:=(aF (bh cD 1 (a_ (Fn 2 (ak (Fh 0) (ak (Fh 0) az))))) (cQ (gT [4,5]) (iE2 (b2 FI (bV 3) (Fh 0))) [4,5] uc))
def v4:=(aF (aK 1 (bA az)) (aF (cQ (gT [2,3]) (iE2 (bV 0)) [2,3,4,5] ud) (aN (bV 1))))
def rm:=aY 6 1 false v4
def FZ:=(aN (a_ (ak (b1 F3 (bV 0)) (ak (Fh 0) (ak (Fh 0) az)))))
def rn:=aY 1 1 false FZ
def zx:=(aF (aK 3 (b2 FI (bV 1) (Fh 0))) (aF (aK 4 (b2 b7 (b2 FI (bV 1) (Fh 2)) (Fh 1))) (aF (F9 (tV (b2 (gR λi j=>decide (i < j)) (bV 4) (b1 F3 (b2 FI (b2 FI (b2 FI (bV 0) (bV 3)) (Fh 0)) (b2 FI (bV 1) (Fh 1)))))) (aN (a_ (Fn 3 (ak (b2 FI (bV 1) (Fh 1)) (Fn 4 az))))) GI) (aF (F9 (tA (tV (b2 FI (b2 FI (bV 0) (bV 3)) (Fh 1))) (tN (tV (bV 2)))) (aN (bC .FG)) GI) (aN (a_ (ak (b2 b7 (bV 3) (Fh 1)) (ak (Fh 0) (ak (Fh 0) az)))))))))
def sG:=aY 5 3 false zx
def Dd:=(aN (bOr (b2 eqQ (bV 0) (bV 1)) (b2 eqQ (bV 0) (bC (.str "x")))))
def vd:=aY 2 2 false Dd
def De:=(aF (aK 10 (aH sG (Fn 0 (ak (a_ (Fn 4 (Fn 9 (Fn 5 az)))) (Fn 3 az))))) (F9 (tA (tV (b2 gK (bV 10) (bC .FG))) (tV (aH vd (ak (b2 FI (b2 FI (bV 6) (bV 9)) (bV 5)) (Fn 2 az))))) (bh cD 8 (a_ (Fn 9 (Fn 10 az)))) GI))
def Hr:=(aF (F9 (tV (b2 eqQ (bV 1) (aH rn (Fn 0 az)))) (aN (bA az)) GI) (aF (aK 4 (b2 FI (bV 1) (Fh 0))) (aF (aK 5 (b2 FI (bV 1) (Fh 2))) (aF (aK 6 (b2 FI (b2 FI (bV 0) (bV 4)) (Fh 0))) (aF (aK 7 (XY (tV (b2 eqQ (bV 5) (Fh 0))) (b1 DW (b1 F3 (bV 6))) (bA (ak (b2 FI (bV 1) (Fh 1)) az)))) (aF (aK 8 (bA az)) (aF (cQ (gN 9) (iV (bV 7)) [9,10] De) (aN (bV 8)))))))))
def xY:=aY 11 4 false Hr
def Df:=(a_ (Fn 2 (Fn 1 az)))
def Dg:=(bh uI 3 (bF [none,none,some 4] (iV (aH xY (Fn 0 (Fn 4 (Fn 1 (Fn 2 az)))))) (gT [0,1]) bG Df))
def xZ:=(aF (aK 3 (bA az)) (aF (cQ (gN 4) (iV (aH rm (Fn 0 az))) [4] Dg) (aN (bV 3))))
def sV:=aY 5 3 false xZ
def uf:=(oY sS 1 (a_ (Fn 2 (Fn 3 az))) (aH sV (Fn 0 (Fn 2 (Fn 3 az)))))
def ug:=(cQ (gN 3) (iV (a_ (ak (bC (.bl false)) (ak (bC (.bl true)) az)))) [3] uf)
def v6:=(aF (aK 1 (bC (.dT []))) (aF (cQ (gN 2) (iV (a_ (ak (bC (.str "u")) (ak (bC (.str "-")) az)))) [2,3] ug) (aN (bV 1))))
def rA:=aY 4 1 false v6
def Ba:=(a_ (Fn 0 (Fn 0 az)))
def F_:=(aN (XY (tV (b2 P6 (bV 1) (bC .FG))) (bF [none] (iK (bV 3)) (gN 0) bG Ba) (b2 FI (bV 0) (a_ (ak (b2 FI (bV 1) (Fh 1)) (Fn 2 az))))))
def v7:=aY 4 4 false F_
def xr:=(F9 (tV (b2 LS (bV 7) (bV 3))) (oY sS 4 (bV 6) (b2 b7 (b3 JS (bV 4) (bV 6) (Fh 0)) (b2 FI (bV 3) (bV 7)))) GI)
def xu:=(cQ (gT [6,7]) (iV (aH v7 (Fn 0 (Fn 5 (Fn 2 (Fn 3 az)))))) [6,7] xr)
def zy:=(aF (aK 4 (bC (.dT []))) (aF (cQ (gN 5) (iV (bV 1)) [5,6,7] xu) (aN (bV 4))))
def sH:=aY 8 4 false zy
def zz:=(bh uI 1 (bV 2))
def Dh:=(aF (aK 1 (bA az)) (aF (cQ (gN 2) (iV (bV 0)) [2] zz) (aN (bV 1))))
def vf:=aY 3 1 false Dh
def Ga:=(bh uI 1 (b2 mG (b2 JG (bA (ak (bC (.bl false)) az)) (b2 Pf (b1 F3 (bV 2)) (Fh 1))) (bA (ak (bC (.bl true)) az))))
def JZ:=(aF (aK 1 (bA az)) (aF (cQ (gN 2) (iV (bV 0)) [2] Ga) (aN (bV 1))))
def zA:=aY 3 1 false JZ
def rO:=(aF (aK 3 (aH sH (Fn 2 (Fn 5 (Fn 6 (Fn 3 az)))))) (bh cD 4 (bV 3)))
def mz:=(aF (aK 2 (aH rA (Fn 1 az))) (aF (aK 3 (b2 zg (aH rn (Fn 1 az)) (Fh 1))) (aF (aK 4 (bA (Fn 3 az))) (aF (cQ (gT [5,6]) (iRv (b2 JV (aH vf (Fn 0 az)) (aH zA (Fn 0 az)))) [5,6] rO) (aN (b1 DX (bV 4)))))))
def iH:=aY 7 2 false mz
def rB:=(aN (b3 JX (b2 FI (aH iH (Fn 0 (Fn 1 az))) (Fh 0)) (bC Az) (Fh 0)))
def cJ:=aY 2 2 false rB
def pH:=(aN (b2 LS (bV 1) (lH 0 "pairs" (bV 0))))
def dM:=aY 2 2 false pH
def jg:=(aF (aK 4 (XY (tV (e_ 0 "is_pair" dM (bV 0) (ak (LF (bV 1) (oS (bV 3)) (oS (b2 b7 (bV 3) (Fh 2)))) az))) (Fh 2) (Fh 1))) (aF (bh cD 2 (LF (bV 1) (oS (bV 3)) (oS (b2 b7 (bV 3) (bV 4))))) (aK 3 (b2 b7 (bV 3) (bV 4)))))
def gF:=(tV (b2 (gR λi j=>decide (i < j)) (bV 3) (b1 F3 (bV 1))))
def x_:=(aF (wX (aH dj (Fn 0 (Fn 1 az)))) (aF (aK 2 (bA az)) (aF (aK 3 (Fh 0)) (aF (Fo 1000000 gF [4] jg) (aN (bV 2))))))
def gW:=aY 5 2 false x_
def lM:=(bV 0)
def lO:=(tV (e_ 0 "carries" aV (bV 1) (ak (b2 FI (bV 0) (Fh 0)) az)))
def uh:=(aN (bF [none,some 0] (iV (bV 1)) (gN 0) lO lM))
def jW:=aY 2 2 false uh
def mX:=(F9 (tV (e_ 0 "carries" aV (bV 0) (ak (b2 FI (bV 3) (Fh 0)) az))) (bh cD 2 (bC (.str ""))) (oY sS 2 (b1 fW (Fh 1)) (b2 b7 (b2 FI (bV 2) (b1 fW (Fh 1))) (bV 3))))
def zB:=(aF (aK 2 (bA (ak (bC (.str "")) az))) (aF (cQ (gN 3) (iV (bV 1)) [3] mX) (aN (bV 2))))
def qz:=aY 4 2 false zB
def qj:=(aN (b2 LS (bV 1) (lH 0 "splittings" (bV 0))))
def dm:=aY 2 2 false qj
def ql:=(aN (b2 LS (bV 1) (lH 0 "beginnings" (bV 0))))
def fM:=aY 2 2 false ql
def rC:=(F9 (tV (e_ 0 "begins" fM (bV 0) (ak (LF (bV 1) (oS (bV 2)) oN) az))) (aN (LF (bV 1) oN (oS (bV 2)))) GI)
def zE:=(aF (F9 (tV (e_ 0 "splits" dm (bV 0) (Fn 1 az))) (aN (bC (.str ""))) GI) (aF (cQ (gN 2) (RF (b1 F3 (bV 1))) [2] rC) (aN (LF (bV 1) oN (oS (b1 fW (Fh 1)))))))
def qC:=aY 3 2 false zE
def j8:=(aF (aK 9 (aH qC (Fn 0 (Fn 8 az)))) (aF (bh cD 5 (a_ (Fn 6 (Fn 7 (Fn 9 (ak (e_ 0 "splits" dm (bV 0) (Fn 8 az)) az)))))) (aK 6 (LF (bV 8) (oS (b1 F3 (bV 9))) oN))))
def sI:=(aF (aK 2 (aH gW (Fn 0 (Fn 1 az)))) (aF (aK 3 (aH jW (Fn 0 (Fn 2 az)))) (aF (aK 4 (aH qz (Fn 0 (Fn 2 az)))) (aF (aK 5 (bA az)) (aF (aK 6 (b2 FI (bV 4) (Fh 0))) (aF (cQ (gT [7,8]) (iZ (LF (bV 3) oN (oS (b1 fW (Fh 1)))) (LF (bV 4) (oS (Fh 1)) (oS (b1 fW (Fh 1))))) [7,8,9] j8) (aF (bh cD 5 (a_ (Fn 6 (ak (b2 FI (bV 3) (b1 fW (Fh 1))) (ak (b2 FI (bV 4) (b1 fW (Fh 1))) (ak (bC (.bl false)) az)))))) (aN (bV 5)))))))))
def ju:=aY 10 2 false sI
def qm:=(aF (F9 (tV (b2 LS (bV 1) (lH 0 "longs" (bV 0)))) (aN (bC (.str "-"))) GI) (aF (F9 (tV (b2 LS (bV 1) (lH 0 "eithers" (bV 0)))) (aN (bC (.str "x"))) GI) (aN (bC (.str "u")))))
def fO:=aY 2 2 false qm
def uL:=(aF (F9 (tV (b2 L3 (bV 2) (bC (.str "")))) (aN (bA (ak (a_ (ak (Fh 0) (ak (bC (.str "-")) az))) az))) GI) (aF (aK 4 (e_ 0 "weight" fO (bV 0) (Fn 1 az))) (aF (aK 5 (bA az)) (aF (F9 (tV (b2 L3 (bV 4) (bC (.str "-")))) (bh cD 5 (a_ (ak (Fh 0) (ak (bC (.str "u")) az)))) GI) (aF (F9 (tV (b2 L3 (bV 4) (bC (.str "u")))) (bh cD 5 (a_ (ak (Fh 0) (ak (bC (.str "-")) az)))) GI) (aF (F9 (tV (bV 3)) (bh cD 5 (a_ (ak (Fh 1) (ak (bC (.str "-")) az)))) GI) (aN (bV 5))))))))
def eO:=aY 6 4 true uL
def Bb:=(aN (lH 0 "running" (bV 0)))
def jX:=aY 1 1 false Bb
def Gb:=(aF (F9 (tV (b2 L3 (bV 2) (bC (.str "")))) (aN (aH eO (Fn 0 (Fn 1 (ak (LF (bV 2) oN (oS (b1 fW (Fh 1)))) (ak (bC (.bl false)) az)))))) GI) (aF (F9 (tV (b2 eqQ (e_ 0 "run" jX (bV 0) az) (bC (.str "must")))) (aN (bA (ak (bC .FG) az))) GI) (aF (aK 3 (aH eO (Fn 0 (Fn 1 (Fn 2 (ak (bC (.bl false)) az)))))) (aF (F9 (tV (b2 eqQ (e_ 0 "run" jX (bV 0) az) (bC (.str "may")))) (bh cD 3 (bC .FG)) GI) (aN (bV 3))))))
def v8:=aY 4 3 false Gb
def gP:=(aH eO (Fn 4 (Fn 1 (Fn 2 (Fn 3 az)))))
def vg:=(aF (aK 3 (aH ju (Fn 0 (Fn 1 az)))) (aF (aK 4 (bF [none,none,none,none,some 0] (iV (bV 3)) (gT [0,1,2,3]) bG gP)) (aF (F9 (tV (b2 P6 (bV 2) (bC .FG))) (aN (bV 4)) GI) (aF (wX (aH dj (Fn 0 (Fn 2 az)))) (aF (F9 (tV (e_ 0 "carries" aV (bV 0) (ak (b2 FI (bV 2) (Fh 0)) az))) (aF (aK 5 (b2 FI (bV 3) (b1 fW (Fh 1)))) (oY sS 4 (b1 fW (Fh 1)) (aH v8 (Fn 0 (ak (b2 FI (bV 5) (Fh 1)) (ak (b2 FI (bV 5) (Fh 2)) az)))))) GI) (aN (bV 4)))))))
def lD:=aY 6 3 false vg
def pY:=(aH lD (Fn 2 (Fn 0 (Fn 1 az))))
def yc:=(aF (aK 2 (b2 mG (LF (bV 1) (oS (Fh 1)) oN) (bA (ak (bC .FG) az)))) (aN (bF [none,none,some 0] (iZ (bV 1) (bV 2)) (gT [0,1]) bG pY)))
def gY:=aY 3 2 false yc
def jH:=(bV 0)
def jJ:=(tV (b2 eqQ (b2 FI (b2 FI (bV 2) (bV 0)) (Fh 1)) (bV 1)))
def lQ:=(aF (aK 2 (b2 FI (b2 FI (bV 0) (bV 1)) (Fh 1))) (aN (XY (tV (b2 P6 (bV 2) (bC .FG))) (bA az) (bF [none,some 2,some 0] (RF (bV 1)) (gN 0) jJ jH))))
def dI:=aY 3 2 false lQ
def lR:=(aN (bOr (b2 eqQ (bV 1) (bV 2)) (bOr (b2 LS (a_ (Fn 1 (Fn 2 az))) (lH 0 "likes" (bV 0))) (b2 LS (a_ (Fn 2 (Fn 1 az))) (lH 0 "likes" (bV 0))))))
def eG:=aY 3 3 false lR
def jw:=(e_ 0 "alike" eG (bV 2) (Fn 0 (Fn 1 az)))
def pZ:=(aN (fQ (b2 eqQ (b1 F3 (bV 1)) (b1 F3 (bV 2))) (b1 oF (bF [none,none,some 0] (iZ (bV 1) (bV 2)) (gT [0,1]) bG jw))))
def jh:=aY 3 3 false pZ
def sW:=(bV 0)
def sX:=(tV (e_ 0 "carries" aV (bV 2) (ak (b2 FI (bV 1) (Fh 0)) az)))
def Cy:=(aF (aK 2 (aH gW (Fn 0 (Fn 1 az)))) (aF (aK 3 (b1 za (bF [none,none,some 0] (iE2 (bV 2)) (gT [0,1]) sX sW))) (aN (LF (bV 2) (oS (bV 3)) oN))))
def pI:=aY 4 2 false Cy
def Cz:=(aN (aH jh (Fn 0 (ak (aH pI (Fn 0 (Fn 1 az))) (ak (aH pI (Fn 0 (Fn 2 az))) az)))))
def sJ:=aY 3 3 false Cz
def ul:=(aN (fQ (b2 (gR λi j=>decide (j < i)) (b1 F3 (bV 1)) (Fh 0)) (fQ (b2 (gR λi j=>decide (j < i)) (b1 F3 (bV 2)) (Fh 0)) (aH sJ (Fn 0 (ak (b2 FI (bV 1) (b1 fW (Fh 1))) (ak (b2 FI (bV 2) (b1 fW (Fh 1))) az)))))))
def iI:=aY 3 3 false ul
def iJ:=(bV 0)
def iM:=(tN (tV (aH iI (Fn 1 (Fn 2 (ak (b2 FI (bV 3) (bV 0)) az))))))
def mY:=(aF (aK 5 (b2 FI (bV 3) (bV 4))) (aF (aK 6 (b2 FI (bV 2) (bV 4))) (aF (aK 7 (b2 FI (bV 6) (Fh 2))) (aF (aK 8 (bA az)) (aF (F9 (tV (b2 eqQ (aH cJ (ak (aH gY (Fn 0 (Fn 5 az))) (ak (b2 FI (bV 1) (b2 FI (bV 6) (Fh 0))) az))) (Fh 0))) (bh cD 8 (a_ (ak (bC (.str "metre")) (Fn 4 az)))) GI) (aF (aK 9 (bF [none,some 0,some 5,some 3] (iV (aH dI (Fn 2 (Fn 4 az)))) (gN 0) iM iJ)) (aF (F9 (tV (b2 (gR λi j=>decide (j < i)) (b1 F3 (bV 9)) (Fh 0))) (bh cD 8 (a_ (ak (bC (.str "rhyme")) (Fn 4 (ak (b2 FI (bV 9) (Fh 0)) az))))) GI) (aF (F9 (tA (tV (b2 gK (bV 7) (bC .FG))) (tV (b2 L3 (bV 5) (b2 FI (bV 3) (bV 7))))) (bh cD 8 (a_ (ak (bC (.str "again")) (Fn 4 (Fn 7 az))))) GI) (aN (bV 8))))))))))
def jK:=aY 10 5 false mY
def um:=(wX (aH dj (Fn 0 (Fn 5 az))))
def jY:=(cQ (gN 5) (iV (bV 4)) [5] um)
def jZ:=(bh uI 7 (aH jK (Fn 0 (Fn 1 (Fn 6 (Fn 3 (Fn 8 az)))))))
def v9:=(aF (wX (aH fL (Fn 1 (Fn 2 az)))) (aF (cQ (gN 4) (iV (bV 3)) [4,5] jY) (aF (aK 6 (aH gn (Fn 2 (ak (b1 F3 (bV 3)) az)))) (aF (F9 (tV (b2 P6 (bV 6) (bC .FG))) (aN (bA (ak (a_ (ak (bC (.str "rows")) (ak (b1 F3 (bV 3)) az))) az))) GI) (aF (aK 7 (bA az)) (aF (cQ (gN 8) (RF (b1 F3 (bV 3))) [8] jZ) (aN (bV 7))))))))
def dC:=aY 9 4 false v9
def jx:=(aF (aK 5 (b2 cN (b2 jB (bV 4) (Fh 3)) (b1 F3 (bV 2)))) (aF (aK 6 (b2 FI (b2 FI (bV 2) (bV 5)) (Fh 0))) (aF (F9 (tV (b2 eqQ (b2 cN (bV 4) (Fh 3)) (Fh 0))) (aF (aK 7 (b2 zj (b2 b7 (aH aU (Fn 0 (ak (Fh 0) az))) (aH aU (Fn 0 (ak (Fh 10) az)))) (Fh 2))) (aN (a_ (ak (b2 mG (b2 mG (LF (bV 2) oN (oS (bV 5))) (bA (ak (bA (ak (b2 b7 (bV 7) (LF (bV 6) (oS (b1 fW (Fh 3))) oN)) az)) az))) (LF (bV 2) (oS (b2 b7 (bV 5) (Fh 1))) oN)) (Fn 3 (Fn 5 az)))))) GI) (aF (F9 (tV (b2 eqQ (b2 cN (bV 4) (Fh 3)) (Fh 1))) (aF (aK 8 (b2 b7 (aH aU (Fn 0 (ak (b2 cN (b2 jB (bV 4) (Fh 90)) (bV 1)) az))) (aH aU (Fn 0 (ak (Fh 25) az))))) (aN (a_ (ak (b2 mG (b2 mG (LF (bV 2) oN (oS (bV 5))) (bA (ak (bA (Fn 8 az)) az))) (LF (bV 2) (oS (b2 b7 (bV 5) (Fh 1))) oN)) (ak (b2 mG (b2 mG (LF (bV 3) oN (oS (bV 5))) (bA (ak (b1 fW (Fh 1)) az))) (LF (bV 3) (oS (b2 b7 (bV 5) (Fh 1))) oN)) (ak (b1 fW (Fh 1)) az)))))) GI) (aF (aK 8 (b2 b7 (b2 zj (aH aU (Fn 0 (ak (Fh 11) az))) (Fh 2)) (LF (bV 6) (oS (b1 fW (Fh 3))) oN))) (aN (a_ (ak (b2 mG (b2 mG (LF (bV 2) oN (oS (bV 5))) (bA (ak (bA (Fn 8 az)) az))) (LF (bV 2) (oS (b2 b7 (bV 5) (Fh 1))) oN)) (Fn 3 (ak (b1 fW (Fh 1)) az))))))))))
def dw:=aY 9 5 false jx
def ji:=(bV 0)
def gG:=(tA (tV (b2 gK (b2 FI (b2 FI (bV 1) (bV 2)) (Fh 1)) (bC .FG))) (tV (b2 eqQ (b2 FI (b2 FI (bV 1) (bV 0)) (Fh 1)) (b2 FI (b2 FI (bV 1) (bV 2)) (Fh 1)))))
def jk:=(bV 0)
def jl:=(tV (b2 L3 (b2 FI (bV 1) (bV 0)) (b2 FI (bV 1) (bV 2))))
def gJ:=(aF (F9 (tV (b2 eqQ (bV 5) (bV 3))) (bh cD 4 (a_ (ak (bC (.str "metre")) (Fn 5 az)))) GI) (aF (aK 6 (bF [none,some 0,some 5] (RF (bV 5)) (gN 0) gG ji)) (aF (aK 6 (bF [none,some 2,some 5] (iV (bV 6)) (gN 0) jl jk)) (aF (F9 (tV (b2 L3 (bV 6) (bA az))) (bh cD 4 (a_ (ak (bC (.str "rhyme")) (Fn 5 (ak (b2 FI (bV 6) (Fh 0)) az))))) GI) (F9 (tA (tV (b2 gK (b2 FI (b2 FI (bV 0) (bV 5)) (Fh 2)) (bC .FG))) (tV (b2 L3 (b2 FI (bV 1) (bV 5)) (b2 FI (bV 1) (b2 FI (b2 FI (bV 0) (bV 5)) (Fh 2)))))) (bh cD 4 (a_ (ak (bC (.str "again")) (Fn 5 (ak (b2 FI (b2 FI (bV 0) (bV 5)) (Fh 2)) az))))) GI)))))
def yd:=(aF (aK 4 (bA az)) (aF (cQ (gN 5) (RF (b1 F3 (bV 0))) [5,6] gJ) (aN (bV 4))))
def jq:=aY 7 4 false yd
def uM:=(aH aU (Fn 1 (Fn 0 az)))
def rD:=(aF (aK 11 (b2 eqQ (b2 cN (b2 jB (aH bj (Fn 0 (ak (Fh 4) az))) (Fh 64)) (Fh 2)) (Fh 1))) (aF (aK 12 (bA (ak (a_ (ak (bC (.str "-")) (ak (bC (.str "u-")) az))) (ak (a_ (ak (bC (.str "x")) (ak (bC (.str "xx")) az))) (ak (a_ (ak (bC (.str "xx")) (ak (bC (.str "-")) az))) az))))) (oY sS 9 (aH dB (Fn 10 az)) (a_ (ak (a_ (ak (b2 FI (bV 12) (b2 cN (b2 jB (aH bj (Fn 0 (ak (Fh 4) az))) (b2 b7 (Fh 1) (bV 10))) (Fh 3))) (Fn 11 az))) az)))))
def uN:=(F9 (tV (b2 L3 (bV 8) (bA az))) (aF (O6 (gT [14,15,16]) (aH dw (Fn 1 (Fn 2 (Fn 8 (Fn 7 (Fn 13 az))))))) (F9 (tV (b2 L3 (aH dC (Fn 3 (Fn 9 (Fn 4 (Fn 14 az))))) (aH jq (Fn 6 (Fn 14 (Fn 15 (Fn 16 az))))))) (aN (bC (.bl false))) GI)) GI)
def zF:=(aF (aK 1 (aH bj (Fn 0 (ak (Fh 0) az)))) (aF (aK 2 (b2 b7 (Fh 1) (b2 cN (aH bj (Fn 0 (ak (Fh 1) az))) (Fh 7)))) (aF (aK 3 (JF 0 cR (ak (bA (ak (b2 b7 (bC (.str "carry ")) (b2 wW (bC (.str " ")) (bF [none,some 1] (RF (bV 2)) (gN 0) bG uM))) az)) az))) (aF (aK 4 (aH iz (ak (LF (bV 0) (oS (Fh 5)) (oS (Fh 11))) az))) (aF (aK 5 (aH gU (Fn 4 az))) (aF (aK 6 (aH c7 (Fn 4 (ak (b2 FI (bV 5) (b2 cN (aH bj (Fn 0 (ak (Fh 2) az))) (b1 F3 (bV 5)))) az)))) (aF (aK 7 (aH jF (Fn 6 az))) (aF (aK 8 (aH jG (Fn 1 (Fn 2 (Fn 6 (Fn 7 (ak (aH bj (Fn 0 (ak (Fh 3) az))) az))))))) (aF (aK 9 (bC (.dK []))) (aF (cQ (gN 10) (RF (Fh 8)) [10,11,12] rD) (aF (F9 (tV (b2 L3 (aH dC (Fn 3 (Fn 9 (Fn 4 (Fn 8 az))))) (bA az))) (aN (bC (.bl false))) GI) (aF (cQ (gN 13) (iV (LF (bV 0) (oS (Fh 11)) (oS (Fh 15)))) [13,14,15,16] uN) (aN (b2 eqQ (aH dC (Fn 3 (Fn 9 (Fn 4 (Fn 8 az))))) (bA az)))))))))))))))
def zG:=aY 17 1 false zF
theorem iY {α S:Type}{g:PV->MR.Env->Option MR.Env}{ds:oz}{body:MR.Env->Option Out}(c:α->PV)(E:S->MR.Env)(I:List α->S->Prop)(hh:∀y ys s,I (y::ys) s->∃s',I ys s'/\turn g ds body (c y) (E s)=some (E s')):∀(ys:List α) (s:S),I ys s->
  ∃s',I [] s'/\bw g ds body (ys.map c) (E s)=some (.nx (E s'))
 | [],s,i=>⟨s,i,rfl⟩
 | y::ys,s,i=>by
  obtain⟨s1,i1,h1⟩:=hh y ys s i
  obtain⟨s2,i2,h2⟩:=iY c E I hh ys s1 i1
  exact⟨s2,i2,by rw[ag,dh h1,h2]⟩
theorem oJ (x:Str)(cs:oP):MV (.str x) (.lst (cs.map .str))=some (decide (x∈cs)):=by
 have h1:(cs.map PV.str).all dY=true:=by rw[List.all_map,eg];exact λ_ _=>rfl
 have h2:((cs.map PV.str).any λy=>MG y (.str x))=decide (x∈cs):=by
  rw[ot]
  induction cs with
  | nil=>simp
  | cons c r ih=>
   rw[cy,ih (by rw[List.all_map,eg];exact λ_ _=>rfl)]
   by_cases e:x=c
   ·subst e;simp[MG]
   ·have e':¬ c=x:=λz=>e z.symm
    simp[MG,e,e']
 simp[MV,dY,h1,h2]
inductive Pt where
 | op | cl (lo hi:Nat) | as (r:Nat) | rw(nm:Str) (bd:Option Str)
noncomputable def OU:Pt->Str
 | .op => "("
 | .cl _ _ => ")"
 | .as _ => "as"
 | .rw _ _ => "row"
noncomputable def QA:Option Str->PV
 | none=>.FG
 | some b=>.str b
noncomputable def F1:Pt->PV
 | .op=>.tup [.str "("]
 | .cl lo hi=>.tup [.str ")",.int (lo:Nat),.int (hi:Nat)]
 | .as r=>.tup [.str "as",.int (r:Nat)]
 | .rw nm bd=>.tup [.str "row",.str nm,QA bd]
noncomputable def isIt:Pt->Bool
 | .as _=>true
 | .rw _ _=>true
 | _=>false
noncomputable def six:List Str:=["a","b","c","A","B","z"]
noncomputable def FU:List Str:=["a","as","x","iamb","long","b","measured","u"]
theorem Mx:∀x∈FU,PyData.strOk x=true:=by
 intro x hx
 simp only[FU,ar,b9,eW] at hx
 rcases hx with e | e | e | e | e | e | e | e <;> subst e <;> decide +kernel
structure Lo (p:Pt):Prop where
 nm:∀n b,p=.rw n b->n∈FU/\∀x,b=some x->x∈six
theorem Mz:∀x∈six,PyData.strOk x=true:=by
 intro x hx
 simp only[six,ar,b9,eW] at hx
 rcases hx with e | e | e | e | e | e <;> subst e <;> decide +kernel
theorem J0 (p:Pt):∃r,F1 p=.tup (.str (OU p)::r):=by
 cases p with
 | op=>exact⟨_,rfl⟩
 | cl lo hi=>exact⟨_,rfl⟩
 | as r=>exact⟨_,rfl⟩
 | rw n b=>exact⟨_,rfl⟩
theorem e1:¬ (("(" : Str) = ")"):=by decide
theorem e2:¬ (("as" : Str) = "("):=by decide
theorem e3:¬ (("as" : Str) = ")"):=by decide
theorem e4:¬ (("row" : Str) = "("):=by decide
theorem e5:¬ (("row" : Str) = ")"):=by decide
theorem e6:¬ (("as" : Str) = "row"):=by decide
theorem e7:¬ ((")" : Str) = "("):=by decide
theorem e8:¬ (("row" : Str) = "as"):=by decide
theorem MF {p:Pt}(h:Lo p):IS 1 (F1 p):=by
 have k1:PyData.strOk ("(" : Str)=true:=by decide +kernel
 have k2:PyData.strOk (")" : Str)=true:=by decide +kernel
 have k3:PyData.strOk ("as" : Str)=true:=by decide +kernel
 have k4:PyData.strOk ("row" : Str)=true:=by decide +kernel
 cases p with
 | op=>simp[F1,IS,k1]
 | cl lo hi=>simp[F1,IS,k2]
 | as r=>simp[F1,IS,k3]
 | rw n b=>
  obtain⟨h1,h2⟩:=h.nm n b rfl
  have h1:=Mx n h1
  cases b with
  | none=>simp[F1,IS,k4,h1,QA]
  | some x=>simp[F1,IS,k4,h1,QA,Mz x (h2 x rfl)]
theorem R8 (n:Int):∃x,x∈FU/\dB [.int n]=some (.str x):=by
 obtain⟨k,hk,e⟩:∃k:Nat,k < 8/\n % 8=k:=⟨(n % 8).toNat,by omega,by omega⟩
 have hl:k < FU.length:=hk
 have Ic:F0 [PV.str "a",.str "as",.str "x",.str "iamb",.str "long",.str "b",.str "measured",.str "u"] (n % 8)=some (.str FU[k]):=by
  have:F0 (FU.map PV.str) (k:Int)=some (.str FU[k]):=cW (by simp[hl])
  rw[e];exact this
 refine⟨FU[k],fI _,?_⟩
 generalize FU[k]=x at *
 simp[dB,q9,Ic]
noncomputable def KO:List (Option Str):=[none,some "a",some "b",some "c",some "A",some "B",some "a",some "z"]
theorem R9 (n:Int):∃b:Option Str,(∀x,b=some x->x∈six)/\ir [.int n]=some (QA b):=by
 obtain⟨k,hk,e⟩:∃k:Nat,k < 8/\n % 8=k:=⟨(n % 8).toNat,by omega,by omega⟩
 have hl:k < KO.length:=hk
 have Ic:F0 [PV.FG,.str "a",.str "b",.str "c",.str "A",.str "B",.str "a",.str "z"] (n % 8)=some (QA KO[k]):=by
  have:F0 (KO.map QA) (k:Int)=some (QA KO[k]):=cW (by simp[hl])
  rw[e];exact this
 refine⟨KO[k],?_,?_⟩
 ·intro x hx
  have hm:some x∈KO:=by rw[← hx];exact fI _
  simp only[KO,ar,b9,eW,Option.some.injEq,reduceCtorEq,false_or] at hm
  simp only[six,ar,b9,eW]
  rcases hm with h | h | h | h | h | h | h <;> simp[h]
 ·generalize QA KO[k]=x at *
  simp[ir,vV,Ic]
noncomputable def bc:List Pt->Nat->Bool->List (Nat×Bool)
 | [],_,_=>[]
 | .op::l,n,_=>bc l n true
 | .cl _ _::l,n,_=>bc l n false
 | .as _::l,n,b=>bc l (n+1) b
 | .rw _ _::l,n,b=>(n+1,b)::bc l (n+1) b
noncomputable def Lu (z:Nat×Bool):PV:=.tup [.int (z.1:Nat),.bl z.2]
theorem J1 (x:Str):MV (.str x) (.tup [.str "(",.str ")"])=some (decide (x=("(" : Str))||decide (x=(")" : Str))):=by
 have h:MV (.str x) (.tup [.str "(",.str ")"])=some ([PV.str "(",.str ")"].any λy=>MG y (.str x)):=by
  show (if dY (.str x)=true/\[PV.str "(",.str ")"].all dY=true then some ([PV.str "(",.str ")"].any λy=>MG y (.str x)) else inD (.str x) [PV.str "(",.str ")"])=_
  rw[bg ⟨rfl,rfl⟩]
 rw[h]
 simp only[cy,List.any_nil,lm]
 congr 1
 have a1:MG (.str ("(" : Str)) (.str x)=decide (x=("(" : Str)):=by
  by_cases q:x=("(" : Str)
  ·simp[MG,q]
  ·have q':¬ ("(" : Str)=x:=λz=>q z.symm
   simp[MG,q,q']
 have a2:MG (.str (")" : Str)) (.str x)=decide (x=(")" : Str)):=by
  by_cases q:x=(")" : Str)
  ·simp[MG,q]
  ·have q':¬ (")" : Str)=x:=λz=>q z.symm
   simp[MG,q,q']
 rw[a1,a2]
theorem uo {GP:PV}:∀(l:List Pt) (R:List (Nat×Bool)) (n:Nat) (b:Bool),R.length+l.length < 1000->
  ∃x2 x3,bw (gN 4) [4] b_ (l.map F1) [some GP,some (.lst (R.map Lu)),some (.int (n:Nat)),some (.bl b),none]=some (.nx [some GP,some (.lst ((R++bc l n b).map Lu)),x2,x3,none])
 | [],R,n,b,_=>⟨_,_,by simp[bc,bw];exact⟨rfl,rfl⟩⟩
 | p::l,R,n,b,h=>by
  have q1:=e1;have q2:=e2;have q3:=e3;have q4:=e4;have q5:=e5;have q6:=e6;have q7:=e7
  have hR:R.length < 1000000:=by omega
  simp only[bm] at h
  cases p with
  | op=>
   obtain⟨x2,x3,ih⟩:=uo (GP:=GP) l R n true (by omega)
   have ht:turn (gN 4) [4] b_ (F1 .op) [some GP,some (.lst (R.map Lu)),some (.int (n:Nat)),some (.bl b),none]=some [some GP,some (.lst (R.map Lu)),some (.int (n:Nat)),some (.bl true),none]:=by
    simp[bJ,b_,F1,J1]
   exact⟨x2,x3,by rw[ag,dh ht];exact ih⟩
  | cl lo hi=>
   obtain⟨x2,x3,ih⟩:=uo (GP:=GP) l R n false (by omega)
   have ht:turn (gN 4) [4] b_ (F1 (.cl lo hi)) [some GP,some (.lst (R.map Lu)),some (.int (n:Nat)),some (.bl b),none]=some [some GP,some (.lst (R.map Lu)),some (.int (n:Nat)),some (.bl false),none]:=by
    simp[bJ,b_,F1,J1,q7]
   exact⟨x2,x3,by rw[ag,dh ht];exact ih⟩
  | as r=>
   obtain⟨x2,x3,ih⟩:=uo (GP:=GP) l R (n+1) b (by omega)
   have ht:turn (gN 4) [4] b_ (F1 (.as r)) [some GP,some (.lst (R.map Lu)),some (.int (n:Nat)),some (.bl b),none]=some [some GP,some (.lst (R.map Lu)),some (.int ((n+1:Nat):Int)),some (.bl b),none]:=by
    simp[bJ,b_,F1,J1,q2,q3,q6]
   exact⟨x2,x3,by rw[ag,dh ht];exact ih⟩
  | rw nm bd=>
   obtain⟨x2,x3,ih⟩:=uo (GP:=GP) l (R++[(n+1,b)]) (n+1) b (by simp;omega)
   have ht:turn (gN 4) [4] b_ (F1 (.rw nm bd)) [some GP,some (.lst (R.map Lu)),some (.int (n:Nat)),some (.bl b),none]=some [some GP,some (.lst ((R++[(n+1,b)]).map Lu)),some (.int ((n+1:Nat):Int)),some (.bl b),none]:=by
    simp[bJ,b_,F1,J1,q4,q5,hR,Lu]
   refine⟨x2,x3,by rw[ag,dh ht,ih];simp[bc]⟩
noncomputable def pP (l:List Pt):PV:=.lst (l.map F1)
theorem PL {l:List Pt}(h:l.length < 900):gC [pP l]=some (.lst ((bc l 0 false).map Lu)):=by
 obtain⟨x2,x3,lp⟩:=uo (GP:=pP l) l [] 0 false (by simpa using by omega)
 have hp:pP l=.lst (l.map F1):=rfl
 simp only[dP,eR] at lp
 have hb:pX [some (pP l),none,none,none,none]=some (.rt (.lst ((bc l 0 false).map Lu))):=by
  unfold pX
  generalize b_=B at *
  rw[hp] at lp ⊢
  have lp':bw (gN 4) [4] B (l.map F1) [some (.lst (l.map F1)),some (.lst []),some (.int 0),some (.bl false),none]=_:=lp
  simp[MI,lp']
 simp[gC,hb]
noncomputable def heads (l:List Pt):List Str:=l.map OU
theorem PN (p:Pt):PyData.strOk (OU p)=true:=by
 have k1:PyData.strOk ("(" : Str)=true:=by decide +kernel
 have k2:PyData.strOk (")" : Str)=true:=by decide +kernel
 have k3:PyData.strOk ("as" : Str)=true:=by decide +kernel
 have k4:PyData.strOk ("row" : Str)=true:=by decide +kernel
 cases p with
 | op=>exact k1
 | cl lo hi=>exact k2
 | as r=>exact k3
 | rw n b=>exact k4
theorem R_ (l:List Pt):IS 1 (.lst ((heads l).map .str)):=by
 simp only[IS,cx,heads]
 rintro x ⟨y,⟨p,_,rfl⟩,rfl⟩
 simp[IS,PN p]
theorem zH {ce:MR.Env->Option PV}(hce:ce=b2 FI (bV 0) (Fh 0))(l:List Pt):bR [none] (gN 0) bG ce (l.map F1)=some ((heads l).map .str):=by
 subst hce
 rw[heads,cn]
 exact du _ _ l λp _=>⟨_,rfl,by obtain⟨r,h⟩:=J0 p;simp[h]⟩
noncomputable def mZ:Pt->Bool
 | .cl 0 _=>true
 | _=>false
noncomputable def rE (l:List Pt):Bool:=l.any mZ
theorem V1 {l:List Pt}(hl:l.length < 900)(ok:∀p∈l,Lo p):eE [pP l]=some (.bl (rE l)):=by
 have q2:=e3
 have q5:=e5
 have q1:=e1
 have hc:=cz (env:=[none]) (g:=gN 0) (t:=dH) (f:=lL) F1 F1 mZ l λp _=>⟨[some (F1 p)],rfl,by
  cases p with
  | op=>rfl
  | cl lo hi=>
   cases lo with
   | zero=>rfl
   | succ k=>
    have:¬ ((k+1:Nat):Int)=0:=by omega
    have h2:¬ ((k:Int)+1=0):=by omega
    rfl
  | as r=>rfl
  | rw n b=>rfl,λ_=>by rfl⟩
 have hle:l.length<=1000000:=by omega
 have hp:pP l=.lst (l.map F1):=rfl
 cases hf:l.filter mZ with
 | nil=>
  have hb:rE l=false:=by
   unfold rE
   cases h:l.any mZ with
   | false=>rfl
   | true=>
    obtain⟨p,h1,h2⟩:=fR.mp h
    have:p∈l.filter mZ:=dy.mpr ⟨h1,h2⟩
    rw[hf] at this;cases this
  rw[hf] at hc
  rw[hb,hp]
  simp[eE,oH,MI,hle,hc]
 | cons p ps=>
  have hb:rE l=true:=by
   have:p∈l.filter mZ:=by rw[hf];exact af
   have h2:=dy.mp this
   exact fR.mpr ⟨p,h2.1,h2.2⟩
  rw[hf] at hc
  rw[hb,hp]
  have he:Kt (.lst (F1 p::ps.map F1)) (.lst [])=some false:=jn (n:=1) (by
   simp only[IS,ar,cx]
   have hm:∀q∈p::ps,Lo q:=λq hq=>ok q (by
    have:q∈l.filter mZ:=by rw[hf];exact hq
    exact(dy.mp this).1)
   rintro x (rfl | ⟨q,hq,rfl⟩)
   ·exact MF (hm p af)
   ·exact MF (hm q (ac _ hq))) (by decide)
  rw[ag] at hc
  simp[eE,oH,MI,hle,hc,he]
noncomputable def LG (l:List Pt)(inner:Bool):List (Nat×Bool):=if (!inner&&rE l)=true then (bc l 0 false).filter λz=>!z.2 else bc l 0 false
noncomputable def bu (l:List Pt):Bool:=decide (("(" : Str)∈heads l)&&!decide ((")" : Str)∈heads l)
theorem pJ:∀(l:List Pt) (n:Nat) (b:Bool),(bc l n b).length<=l.length
 | [],_,_=>aw _
 | .op::l,n,_=>by have:=pJ l n true;simp[bc];omega
 | .cl _ _::l,n,_=>by have:=pJ l n false;simp[bc];omega
 | .as _::l,n,b=>by have:=pJ l (n+1) b;simp[bc];omega
 | .rw _ _::l,n,b=>by have:=pJ l (n+1) b;simp[bc];omega
theorem V2 (R:List (Nat×Bool)):IS 2 (.lst (R.map Lu)):=by
 simp only[IS,cx]
 rintro x ⟨z,_,rfl⟩
 simp[Lu,IS]
theorem Y_ (i:Int):MV (.int i) (.tup [.int 5,.int 6])=some (decide (i=5\/i=6)):=by
 have h:MV (.int i) (.tup [.int 5,.int 6])=some ([PV.int 5,.int 6].any λy=>MG y (.int i)):=by
  show (if dY (.int i)=true/\[PV.int 5,.int 6].all dY=true then some ([PV.int 5,.int 6].any λy=>MG y (.int i)) else inD (.int i) [PV.int 5,.int 6])=_
  rw[bg ⟨rfl,rfl⟩]
 rw[h]
 congr 1
 have a1:∀k:Int,MG (.int k) (.int i)=decide (i=k):=λk=>by
  by_cases q:i=k
  ·simp[MG,q]
  ·have q':¬ k=i:=λz=>q z.symm
   simp[MG,q,q']
 simp only[cy,List.any_nil,lm,a1]
 rw[Bool.decide_or]
def LH (l:List Pt)(c:Int)(x4 x5 x6:Option PV):MR.Env:=[some (pP l),some (.int c),some (.lst ((heads l).map .str)),some (.int (c / 9)),x4,x5,x6]
inductive Nx (l:List Pt):Pt->Prop
 | op:¬ ("(" : Str)∈heads l->Nx l .op
 | cl {lo hi:Nat}:bu l=true->(∀h,(heads l).getLast?=some h->h ≠ "(")->lo<=hi->1<=hi->hi<=4->Nx l (.cl lo hi)
 | as {r:Nat}{b:Bool}:(r,b)∈LG l (bu l)->Nx l (.as r)
 | rw {n:Str}{b:Option Str}:n∈FU->(∀x,b=some x->x∈six)->Nx l (.rw n b)
theorem Sd {l:List Pt}(c:Int)(hl:l.length < 900)(ok:∀p∈l,Lo p):∃q,Nx l q/\gj [pP l,.int c]=some (F1 q):=by
 have hle:l.length<=1000000:=by omega
 have hp:pP l=.lst (l.map F1):=rfl
 have hc1:=zH (ce:=jQ) rfl l
 have hO:=oJ "(" (heads l)
 have hC:=oJ ")" (heads l)
 have hlow:=V1 hl ok
 have hrt:=PL hl
 have done:∀q,gh [some (pP l),some (.int c),none,none,none,none,none]=some (.rt (F1 q))->gj [pP l,.int c]=some (F1 q):=λq hb=>by
  unfold gj
  generalize gh=B at *
  simp[hb]
 have s1:aK 2 (bF [none] (iV (bV 0)) (gN 0) bG jQ) [some (pP l),some (.int c),none,none,none,none,none]=some (.nx [some (pP l),some (.int c),some (.lst ((heads l).map .str)),none,none,none,none]):=by
  rw[hp]
  generalize jQ=ce at *
  simp[MI,hle,hc1]
 have s2:aK 3 (b2 jB (bV 1) (Fh 9)) [some (pP l),some (.int c),some (.lst ((heads l).map .str)),none,none,none,none]=some (.nx (LH l c none none none)):=by
  unfold LH
  (first | rfl | simp)
 have s3:aK 4 (fQ (b2 LS (bC (.str "(")) (bV 2)) (b2 g_ (bC (.str ")")) (bV 2))) (LH l c none none none)=some (.nx (LH l c (some (.bl (bu l))) none none)):=by
  unfold LH bu
  generalize pP l=PP,(heads l).map PV.str=HP at *
  by_cases h1:("(" : Str)∈heads l <;> simp[hO,hC,h1]
 have s4:aK 5 (b2 cN (bV 3) (Fh 4)) (LH l c (some (.bl (bu l))) none none)=some (.nx (LH l c (some (.bl (bu l))) (some (.int (c / 9 % 4))) none)):=by
  unfold LH
  (first | rfl | simp)
 by_cases h7:c % 9=7/\¬ ("(" : Str)∈heads l
 ·refine⟨.op,.op h7.2,done _ ?_⟩
  have s5:F9 (tA (tV (b2 eqQ (b2 cN (bV 1) (Fh 9)) (Fh 7))) (tV (b2 g_ (bC (.str "(")) (bV 2)))) (aN (a_ (ak (bC (.str "(")) az))) GI (LH l c (some (.bl (bu l))) (some (.int (c / 9 % 4))) none)=some (.rt (F1 .op)):=by
   unfold LH
   generalize pP l=PP,(heads l).map PV.str=HP at *
   simp[h7.1,h7.2,hO,F1]
  unfold gh
  rw[aP s1,aP s2,aP s3,aP s4,Ay s5]
 ·have s5:F9 (tA (tV (b2 eqQ (b2 cN (bV 1) (Fh 9)) (Fh 7))) (tV (b2 g_ (bC (.str "(")) (bV 2)))) (aN (a_ (ak (bC (.str "(")) az))) GI (LH l c (some (.bl (bu l))) (some (.int (c / 9 % 4))) none)=some (.nx (LH l c (some (.bl (bu l))) (some (.int (c / 9 % 4))) none)):=by
   unfold LH
   generalize pP l=PP,(heads l).map PV.str=HP at *
   by_cases h1:c % 9=7
   ·have h2:("(" : Str)∈heads l:=im λz=>h7 ⟨h1,z⟩
    simp[h1,h2,hO]
   ·simp[h1]
  by_cases h8:c % 9=8/\bu l=true/\∀h,(heads l).getLast?=some h->h≠("(" : Str)
  ·obtain⟨k1,k2,k3⟩:=h8
   have HU:heads l≠[]:=λz=>by
    unfold bu at k2
    rw[z] at k2
    simp at k2
   obtain⟨h,hh⟩:∃h,(heads l).getLast?=some h:=⟨_,eB HU⟩
   have hx:=k3 h hh
   have Ic:F0 ((heads l).map PV.str) (-1)=some (.str h):=by
    rw[Ax]
    have NU:0 < (heads l).length:=ip.mpr HU
    have:F0 (heads l) (-1)=some h:=by
     unfold F0 Nn
     rw[ap (by decide),bg (by omega),bq,← hh,io]
     congr 1
     omega
    rw[this]
    rfl
   obtain⟨lo,hlo,elo⟩:∃lo:Nat,lo < 4/\c / 9 % 4=lo:=⟨(c / 9 % 4).toNat,by omega,by omega⟩
   obtain⟨mx,hmx3,ZU⟩:∃mx:Nat,(1<=mx/\mx<=3/\lo<=mx)/\NI (.int 1) (.int (lo:Int))=some (.int (mx:Nat)):=by
    rcases(show lo=0\/lo=1\/lo=2\/lo=3 by omega) with rfl | rfl | rfl | rfl
    ·exact⟨1,by decide,rfl⟩
    ·exact⟨1,by decide,rfl⟩
    ·exact⟨2,by decide,rfl⟩
    ·exact⟨3,by decide,rfl⟩
   obtain⟨hi,hhi1,hhi2⟩:∃hi:Nat,(mx<=hi/\hi<=4)/\(mx:Int)+c / 9 / 4 % (5 - (mx:Int))=hi:=by
    have q1:=eJ (c / 9 / 4) (b:=5 - (mx:Int)) (by omega)
    have q2:=ga (c / 9 / 4) (b:=5 - (mx:Int)) (by omega)
    exact⟨((mx:Int)+c / 9 / 4 % (5 - (mx:Int))).toNat,by omega,by omega⟩
   refine⟨.cl lo hi,.cl k2 k3 (by omega) (by omega) hhi1.2,done _ ?_⟩
   have S4:0 < 5 - (mx:Int):=by omega
   have s6:F9 (tA (tV (b2 eqQ (b2 cN (bV 1) (Fh 9)) (Fh 8))) (tA (tV (bV 4)) (tV (b2 L3 (b2 FI (bV 2) (b1 fW (Fh 1))) (bC (.str "(")))))) (aN (a_ (ak (bC (.str ")")) (Fn 5 (ak (b2 b7 (b2 NI (Fh 1) (bV 5)) (b2 cN (b2 jB (bV 3) (Fh 4)) (b2 Pf (Fh 5) (b2 NI (Fh 1) (bV 5))))) az))))) GI (LH l c (some (.bl (bu l))) (some (.int (c / 9 % 4))) none)=some (.rt (F1 (.cl lo hi))):=by
    unfold LH
    rw[k2,elo]
    generalize pP l=PP,(heads l).map PV.str=HP at *
    simp only[F1]
    have hm5:(mx:Int) < 5:=by omega
    simp[k1,Ic,hx,ZU,hm5,S4,hhi2,-NI]
   unfold gh
   rw[aP s1,aP s2,aP s3,aP s4,aP s5,Ay s6]
  ·have s6:F9 (tA (tV (b2 eqQ (b2 cN (bV 1) (Fh 9)) (Fh 8))) (tA (tV (bV 4)) (tV (b2 L3 (b2 FI (bV 2) (b1 fW (Fh 1))) (bC (.str "(")))))) (aN (a_ (ak (bC (.str ")")) (Fn 5 (ak (b2 b7 (b2 NI (Fh 1) (bV 5)) (b2 cN (b2 jB (bV 3) (Fh 4)) (b2 Pf (Fh 5) (b2 NI (Fh 1) (bV 5))))) az))))) GI (LH l c (some (.bl (bu l))) (some (.int (c / 9 % 4))) none)=some (.nx (LH l c (some (.bl (bu l))) (some (.int (c / 9 % 4))) none)):=by
    unfold LH
    by_cases k1:c % 9=8
    ·cases k2:bu l with
     | false=>
      generalize pP l=PP,(heads l).map PV.str=HP at *
      simp[k1]
     | true=>
      have HU:heads l≠[]:=λz=>by
       unfold bu at k2
       rw[z] at k2
       simp at k2
      obtain⟨h,hh⟩:∃h,(heads l).getLast?=some h:=⟨_,eB HU⟩
      have hx:h=("(" : Str):=im λz=>h8 ⟨k1,k2,λh' hh'=>by rw[hh] at hh';cases hh';exact z⟩
      have Ic:F0 ((heads l).map PV.str) (-1)=some (.str h):=by
       rw[Ax]
       have NU:0 < (heads l).length:=ip.mpr HU
       have:F0 (heads l) (-1)=some h:=by
        unfold F0 Nn
        rw[ap (by decide),bg (by omega),bq,← hh,io]
        congr 1
        omega
       rw[this]
       rfl
      generalize pP l=PP,(heads l).map PV.str=HP at *
      simp[k1,Ic,hx]
    ·generalize pP l=PP,(heads l).map PV.str=HP at *
     simp[k1]
   have X9:=pJ l 0 false
   have s7:aK 6 (aH gC (Fn 0 az)) (LH l c (some (.bl (bu l))) (some (.int (c / 9 % 4))) none)=some (.nx (LH l c (some (.bl (bu l))) (some (.int (c / 9 % 4))) (some (.lst ((bc l 0 false).map Lu))))):=by
    unfold LH
    generalize gC=mr at *
    simp[hrt]
   have s8:F9 (tA (tN (tV (bV 4))) (tV (aH eE (Fn 0 az)))) (aK 6 (bF [none] (iV (bV 6)) (gN 0) iy iu)) GI (LH l c (some (.bl (bu l))) (some (.int (c / 9 % 4))) (some (.lst ((bc l 0 false).map Lu))))=some (.nx (LH l c (some (.bl (bu l))) (some (.int (c / 9 % 4))) (some (.lst ((LG l (bu l)).map Lu))))):=by
    have hc3:=cz (env:=[none]) (g:=gN 0) (t:=iy) (f:=iu) Lu Lu (λz=>!z.2) (bc l 0 false) λz _=>⟨[some (Lu z)],rfl,by (first | rfl | simp[iy,Lu]),λ_=>by (first | rfl | simp[iu])⟩
    have Ta:(bc l 0 false).length<=1000000:=by omega
    unfold LH LG
    generalize pP l=PP,(heads l).map PV.str=HP,eE=mw,iy=cc,iu=ce at *
    cases hi:bu l <;> cases hw:rE l <;> rw[hw] at hlow <;> (first | rfl | simp[hlow,MI,Ta,hc3])
   have hrl2:(LG l (bu l)).length<=l.length:=by
    unfold LG
    split
    ·exact cw (dc _ _) X9
    ·exact X9
   have NN:=Y_ (c % 9)
   by_cases h5:(c % 9=5\/c % 9=6)/\LG l (bu l)≠[]
   ·obtain⟨z,zs,hz⟩:=k0 h5.2
    have S4:0 < (LG l (bu l)).length:=ip.mpr h5.2
    obtain⟨k,hk,ek⟩:∃k:Nat,k < (LG l (bu l)).length/\c / 9 % ((LG l (bu l)).length:Int)=k:=by
     have q1:=eJ (c / 9) (b:=((LG l (bu l)).length:Int)) (by omega)
     have q2:=ga (c / 9) (b:=((LG l (bu l)).length:Int)) (by omega)
     exact⟨(c / 9 % ((LG l (bu l)).length:Int)).toNat,by omega,by omega⟩
    have hkm:=fI hk
    have Ic:F0 ((LG l (bu l)).map Lu) (k:Int)=some (Lu (LG l (bu l))[k]):=cW (by simp[hk])
    generalize hzz:(LG l (bu l))[k]=z0 at *
    have hneq:Kt (.lst ((LG l (bu l)).map Lu)) (.lst [])=some false:=by
     have:=V2 (LG l (bu l))
     rw[hz,ag] at this ⊢
     exact jn (n:=1) this (by decide)
    refine⟨.as z0.1,.as (b:=z0.2) hkm,done _ ?_⟩
    have hlm:((LG l (bu l)).map Lu).length=(LG l (bu l)).length:=ae ..
    have hpos':(0:Int) < ((LG l (bu l)).length:Int):=by omega
    rw[br h5.1] at NN
    have hat':F0 ((LG l (bu l)).map Lu) (k:Int)=some (.tup [.int (z0.1:Nat),.bl z0.2]):=Ic
    have s9:F9 (tA (tV (b2 LS (b2 cN (bV 1) (Fh 9)) (a_ (ak (Fh 5) (ak (Fh 6) az))))) (tV (b2 L3 (bV 6) (bA az)))) (aN (a_ (ak (bC (.str "as")) (ak (b2 FI (b2 FI (bV 6) (b2 cN (bV 3) (b1 F3 (bV 6)))) (Fh 0)) az)))) GI (LH l c (some (.bl (bu l))) (some (.int (c / 9 % 4))) (some (.lst ((LG l (bu l)).map Lu))))=some (.rt (F1 (.as z0.1))):=by
     unfold LH
     simp only[F1]
     generalize pP l=PP,(heads l).map PV.str=HP,(LG l (bu l)).map Lu=RP at *
     simp[NN,hneq,hlm,S4,hpos',ek,hat']
    unfold gh
    rw[aP s1,aP s2,aP s3,aP s4,aP s5,aP s6,aP s7,aP s8,Ay s9]
   ·have s9:F9 (tA (tV (b2 LS (b2 cN (bV 1) (Fh 9)) (a_ (ak (Fh 5) (ak (Fh 6) az))))) (tV (b2 L3 (bV 6) (bA az)))) (aN (a_ (ak (bC (.str "as")) (ak (b2 FI (b2 FI (bV 6) (b2 cN (bV 3) (b1 F3 (bV 6)))) (Fh 0)) az)))) GI (LH l c (some (.bl (bu l))) (some (.int (c / 9 % 4))) (some (.lst ((LG l (bu l)).map Lu))))=some (.nx (LH l c (some (.bl (bu l))) (some (.int (c / 9 % 4))) (some (.lst ((LG l (bu l)).map Lu))))):=by
     unfold LH
     by_cases k5:c % 9=5\/c % 9=6
     ·have hr0:LG l (bu l)=[]:=im λz=>h5 ⟨k5,z⟩
      rw[br k5] at NN
      rw[hr0]
      generalize pP l=PP,(heads l).map PV.str=HP at *
      simp[NN]
     ·rw[a5 k5] at NN
      generalize pP l=PP,(heads l).map PV.str=HP,(LG l (bu l)).map Lu=RP at *
      simp[NN]
    obtain⟨nm,n1,n2⟩:=R8 (c / 9)
    obtain⟨bd,Ya,b2'⟩:=R9 (c / 9 / 8)
    refine⟨.rw nm bd,.rw n1 Ya,done _ ?_⟩
    have s10:aN (a_ (ak (bC (.str "row")) (ak (aH dB (Fn 3 az)) (ak (aH ir (ak (b2 jB (bV 3) (Fh 8)) az)) az)))) (LH l c (some (.bl (bu l))) (some (.int (c / 9 % 4))) (some (.lst ((LG l (bu l)).map Lu))))=some (.rt (F1 (.rw nm bd))):=by
     unfold LH
     simp only[F1]
     generalize dB=m1,ir=m2 at *
     simp[n2,b2']
    unfold gh
    rw[aP s1,aP s2,aP s3,aP s4,aP s5,aP s6,aP s7,aP s8,aP s9]
    exact s10
inductive Fm where
 | f0 (A:List Pt) | f1 (A B:List Pt) | f2 (A B:List Pt) (lo hi:Nat) (C:List Pt)
noncomputable def parts:Fm->List Pt
 | .f0 A=>A
 | .f1 A B=>A++.op::B
 | .f2 A B lo hi C=>A++.op::(B++.cl lo hi::C)
def NF (l:List Pt):Prop:=∀p∈l,isIt p=true
def L7 (N:List Pt)(a b lo:Nat):Prop:=∀(i r:Nat),N[i]?=some (.as r)->1<=r/\r<=i/\(∃nm bd,N[r - 1]?=some (.rw nm bd))/\(a+b<=i->lo=0->r<=a\/a+b < r)
def Yf:Fm->Prop
 | .f0 A=>NF A/\L7 A A.length 0 1
 | .f1 A B=>NF A/\NF B/\L7 (A++B) A.length B.length 1
 | .f2 A B lo hi C=>NF A/\NF B/\NF C/\L7 (A++B++C) A.length B.length lo/\lo<=hi/\1<=hi/\hi<=4
theorem pK:∀(l rest:List Pt) (n:Nat) (b:Bool),NF l->bc (l++rest) n b=bc l n b++bc rest (n+l.length) b
 | [],rest,n,b,_=>by simp[bc]
 | .op::l,_,_,_,h=>by have:=h _ af;cases this
 | .cl _ _::l,_,_,_,h=>by have:=h _ af;cases this
 | .as r::l,rest,n,b,h=>by
  have ih:=pK l rest (n+1) b λp hp=>h p (ac _ hp)
  show bc (l++rest) (n+1) b=bc l (n+1) b++_
  rw[ih,bm,show n+1+l.length=n+(l.length+1) by omega]
 | .rw nm bd::l,rest,n,b,h=>by
  have ih:=pK l rest (n+1) b λp hp=>h p (ac _ hp)
  show (n+1,b)::bc (l++rest) (n+1) b=(n+1,b)::bc l (n+1) b++_
  rw[ih,bm,show n+1+l.length=n+(l.length+1) by omega]
  rfl
theorem iR:∀{l:List Pt}{n:Nat}{b:Bool}{r:Nat}{c:Bool},NF l->(r,c)∈bc l n b->c=b/\n < r/\r<=n+l.length/\∃nm bd,l[r - n - 1]?=some (.rw nm bd)
 | [],_,_,_,_,_,h=>by simp[bc] at h
 | .op::l,_,_,_,_,h,_=>by have:=h _ af;cases this
 | .cl _ _::l,_,_,_,_,h,_=>by have:=h _ af;cases this
 | .as q::l,n,b,r,c,h,hm=>by
  have hm':(r,c)∈bc l (n+1) b:=hm
  obtain⟨h1,h2,h3,nm,bd,h4⟩:=iR (λp hp=>h p (ac _ hp)) hm'
  refine⟨h1,by omega,by simp;omega,nm,bd,?_⟩
  rw[show r - n - 1=(r - (n+1) - 1)+1 by omega,c6]
  exact h4
 | .rw nm0 bd0::l,n,b,r,c,h,hm=>by
  have hm':(r,c)∈(n+1,b)::bc l (n+1) b:=hm
  rcases ar.mp hm' with z | z
  ·cases z
   refine⟨rfl,by omega,by simp,nm0,bd0,?_⟩
   rw[show n+1 - n - 1=0 by omega]
   rfl
  ·obtain⟨h1,h2,h3,nm,bd,h4⟩:=iR (λp hp=>h p (ac _ hp)) z
   refine⟨h1,by omega,by simp;omega,nm,bd,?_⟩
   rw[show r - n - 1=(r - (n+1) - 1)+1 by omega,c6]
   exact h4
theorem Ea {p:Pt}(h:isIt p=true):OU p≠("(" : Str)/\OU p≠(")" : Str):=by
 cases p with
 | op=>cases h
 | cl lo hi=>cases h
 | as r=>exact⟨e2,e3⟩
 | rw n b=>exact⟨e4,e5⟩
theorem i_ {l:List Pt}(h:NF l):¬ ("(" : Str)∈heads l/\¬ (")" : Str)∈heads l:=by
 refine⟨λz=>?_,λz=>?_⟩
 ·obtain⟨p,h1,h2⟩:=cx.mp z
  exact(Ea (h p h1)).1 h2
 ·obtain⟨p,h1,h2⟩:=cx.mp z
  exact(Ea (h p h1)).2 h2
theorem zJ {l:List Pt}(h:NF l):rE l=false:=by
 cases q:rE l with
 | false=>rfl
 | true=>
  obtain⟨p,h1,h2⟩:=fR.mp q
  have:=h p h1
  cases p <;> simp[mZ] at h2 <;> cases this
theorem oK {l:List Pt}{p:Pt}(h:NF l)(hp:isIt p=true):NF (l++[p]):=λq hq=>by
 rcases bX.mp hq with z | z
 ·exact h q z
 ·rw[aS] at z;rw[z];exact hp
theorem Sg {N:List Pt}{q x:Pt}{i:Nat}(h:(N++[q])[i]?=some x):(i < N.length/\N[i]?=some x)\/(i=N.length/\x=q):=by
 rcases lf i N.length with z | z | z
 ·rw[be z] at h;exact .inl ⟨z,h⟩
 ·subst z
  rw[bt (aw _)] at h
  simp at h
  exact .inr ⟨rfl,h.symm⟩
 ·rw[bo (by simp;omega)] at h;cases h
theorem L7.more {N:List Pt}{a b a' b' lo:Nat}{q:Pt}(h:L7 N a b lo)(hab:a'+b'=N.length+1\/(a'=a/\b'=b))(hq:∀r,q=.as r->1<=r/\r<=N.length/\(∃nm bd,N[r - 1]?=some (.rw nm bd))/\(a'+b'<=N.length->lo=0->r<=a'\/a'+b' < r)):L7 (N++[q]) a' b' lo:=λi r hi=>by
 rcases Sg hi with ⟨z1,z2⟩ | ⟨z1,z2⟩
 ·obtain⟨h1,h2,⟨nm,bd,h3⟩,h4⟩:=h i r z2
  refine⟨h1,h2,⟨nm,bd,by rw[be (by omega)];exact h3⟩,λk1 k2=>?_⟩
  rcases hab with y | ⟨y1,y2⟩
  ·omega
  ·subst y1 y2;exact h4 k1 k2
 ·subst z1
  obtain⟨h1,h2,⟨nm,bd,h3⟩,h4⟩:=hq r z2.symm
  exact⟨h1,h2,⟨nm,bd,by rw[be (by omega)];exact h3⟩,h4⟩
theorem Sh {f:Fm}{q:Pt}(h:Yf f)(hq:Nx (parts f) q):∃f',Yf f'/\parts f'=parts f++[q]:=by
 have q7:=e7
 cases f with
 | f0 A=>
  obtain⟨h1,h2⟩:=h
  have hh:=i_ h1
  have NN:bu A=false:=by unfold bu;rw[a5 hh.1];rfl
  have hlw:=zJ h1
  cases hq with
  | op _=>exact⟨.f1 A [],⟨h1,(λp hp=>by cases hp),λi r hi=>by
    rw[cf] at hi ⊢
    obtain⟨k1,k2,k3,k4⟩:=h2 i r hi
    exact⟨k1,k2,k3,λy1 y2=>by cases y2⟩⟩,rfl⟩
  | cl hi _ _ _ _=>rw[show parts (.f0 A)=A from rfl,NN] at hi;cases hi
  | @as r b hr=>
   have hr':(r,b)∈bc A 0 false:=by
    have:parts (.f0 A)=A:=rfl
    rw[this] at hr
    unfold LG at hr
    rw[hlw,Bool.and_false,ap (by decide)] at hr
    exact hr
   obtain⟨k1,k2,k3,nm,bd,k4⟩:=iR h1 hr'
   refine⟨.f0 (A++[.as r]),⟨oK h1 rfl,?_⟩,rfl⟩
   exact h2.more (.inl (by simp)) λr' e=>by
    cases e
    exact⟨by omega,by omega,⟨nm,bd,by simpa using k4⟩,λy1 y2=>by cases y2⟩
  | @rw n0 b0 _ _=>
   refine⟨.f0 (A++[.rw n0 b0]),⟨oK h1 rfl,?_⟩,rfl⟩
   exact h2.more (.inl (by simp)) λr' e=>by cases e
 | f1 A B=>
  obtain⟨h1,h2,h3⟩:=h
  have hp:parts (.f1 A B)=A++.op::B:=rfl
  have ho:("(" : Str)∈heads (A++.op::B):=by simp[heads,OU]
  have hcn:¬ (")" : Str)∈heads (A++.op::B):=by
   have a1:=(i_ h1).2
   have a2:=(i_ h2).2
   unfold heads at *
   simp only[cv,ag,bX,ar,OU,oj]
   exact⟨a1,q7,a2⟩
  have NN:bu (A++.op::B)=true:=by unfold bu;rw[br ho,a5 hcn];rfl
  have PC:bc (A++.op::B) 0 false=bc A 0 false++bc B A.length true:=by
   rw[pK A _ 0 false h1,ij]
   rfl
  rw[hp] at hq ⊢
  cases hq with
  | op hn=>exact absurd ho hn
  | @cl lo hi _ OV k1 k2 k3=>
   refine⟨.f2 A B lo hi [],⟨h1,h2,(λp hp=>by cases hp),λi r LY=>?_,k1,k2,k3⟩,by simp[parts]⟩
   rw[cf] at LY ⊢
   obtain⟨k1,k2,k3,k4⟩:=h3 i r LY
   refine⟨k1,k2,k3,λy1 _=>?_⟩
   have:i < (A++B).length:=by
    rcases dv i (A++B).length with z | z
    ·exact z
    ·rw[bo z] at LY;cases LY
   rw[ax] at this
   omega
  | @as r b hr=>
   have hr':(r,b)∈bc A 0 false++bc B A.length true:=by
    rw[← PC]
    unfold LG at hr
    rw[NN] at hr
    exact hr
   have MZ:1<=r/\r<=(A++B).length/\∃nm bd,(A++B)[r - 1]?=some (.rw nm bd):=by
    rcases bX.mp hr' with z | z
    ·obtain⟨k1,k2,k3,nm,bd,k4⟩:=iR h1 z
     refine⟨by omega,by simp;omega,nm,bd,?_⟩
     rw[be (by omega)]
     simpa using k4
    ·obtain⟨k1,k2,k3,nm,bd,k4⟩:=iR h2 z
     refine⟨by omega,by simp;omega,nm,bd,?_⟩
     rw[bt (by omega),show r - 1 - A.length=r - A.length - 1 by omega]
     exact k4
   refine⟨.f1 A (B++[.as r]),⟨h1,oK h2 rfl,?_⟩,by simp[parts]⟩
   rw[← cp]
   exact h3.more (.inl (by simp;omega)) λr' e=>by
    cases e
    exact⟨MZ.1,MZ.2.1,MZ.2.2,λy1 y2=>by cases y2⟩
  | @rw n0 b0 _ _=>
   refine⟨.f1 A (B++[.rw n0 b0]),⟨h1,oK h2 rfl,?_⟩,by simp[parts]⟩
   rw[← cp]
   exact h3.more (.inl (by simp;omega)) λr' e=>by cases e
 | f2 A B lo hi C=>
  obtain⟨h1,h2,h3,h4,h5,h6,h7⟩:=h
  have hp:parts (.f2 A B lo hi C)=A++.op::(B++.cl lo hi::C):=rfl
  have ho:("(" : Str)∈heads (A++.op::(B++.cl lo hi::C)):=by simp[heads,OU]
  have hc:(")" : Str)∈heads (A++.op::(B++.cl lo hi::C)):=by simp[heads,OU]
  have NN:bu (A++.op::(B++.cl lo hi::C))=false:=by unfold bu;rw[br ho,br hc];rfl
  have hlw:rE (A++.op::(B++.cl lo hi::C))=decide (lo=0):=by
   unfold rE
   rw[List.any_append,cy,List.any_append,cy]
   have a1:=zJ h1
   have a2:=zJ h2
   have a3:=zJ h3
   unfold rE at a1 a2 a3
   rw[a1,a2,a3]
   cases lo <;> rfl
  have PC:bc (A++.op::(B++.cl lo hi::C)) 0 false=bc A 0 false++(bc B A.length true++bc C (A.length+B.length) false):=by
   rw[pK A _ 0 false h1,ij]
   show bc A 0 false++bc (B++.cl lo hi::C) A.length true=_
   rw[pK B _ A.length true h2]
   rfl
  rw[hp] at hq ⊢
  cases hq with
  | op hn=>exact absurd ho hn
  | cl LY _ _ _ _=>rw[NN] at LY;cases LY
  | @as r b hr=>
   have hr':(r,b)∈bc A 0 false++(bc B A.length true++bc C (A.length+B.length) false)/\(lo=0->b=false):=by
    rw[← PC]
    unfold LG at hr
    rw[NN,hlw] at hr
    by_cases h0:lo=0
    ·rw[br h0,bg (by decide)] at hr
     have:=dy.mp hr
     exact⟨this.1,λ_=>by simpa using this.2⟩
    ·rw[a5 h0,ap (by decide)] at hr
     exact⟨hr,λz=>absurd z h0⟩
   have MZ:1<=r/\r<=(A++B++C).length/\(∃nm bd,(A++B++C)[r - 1]?=some (.rw nm bd))/\(lo=0->r<=A.length\/A.length+B.length < r):=by
    obtain⟨hm,hb⟩:=hr'
    rcases bX.mp hm with z | z
    ·obtain⟨k1,k2,k3,nm,bd,k4⟩:=iR h1 z
     refine⟨by omega,by simp;omega,⟨nm,bd,?_⟩,λ_=>.inl (by omega)⟩
     rw[cp,be (by omega)]
     simpa using k4
    ·rcases bX.mp z with z | z
     ·obtain⟨k1,k2,k3,nm,bd,k4⟩:=iR h2 z
      refine⟨by omega,by simp;omega,⟨nm,bd,?_⟩,λy=>by have:=hb y;rw[k1] at this;cases this⟩
      rw[be (by simp;omega),bt (by omega),show r - 1 - A.length=r - A.length - 1 by omega]
      exact k4
     ·obtain⟨k1,k2,k3,nm,bd,k4⟩:=iR h3 z
      refine⟨by omega,by simp;omega,⟨nm,bd,?_⟩,λ_=>.inr (by omega)⟩
      rw[bt (by simp;omega),ax,show r - 1 - (A.length+B.length)=r - (A.length+B.length) - 1 by omega]
      exact k4
   refine⟨.f2 A B lo hi (C++[.as r]),⟨h1,h2,oK h3 rfl,?_,h5,h6,h7⟩,by simp[parts]⟩
   rw[← cp]
   exact h4.more (.inr ⟨rfl,rfl⟩) λr' e=>by
    cases e
    exact⟨MZ.1,MZ.2.1,MZ.2.2.1,λ_ y=>MZ.2.2.2 y⟩
  | @rw n0 b0 _ _=>
   refine⟨.f2 A B lo hi (C++[.rw n0 b0]),⟨h1,h2,oK h3 rfl,?_,h5,h6,h7⟩,by simp[parts]⟩
   rw[← cp]
   exact h4.more (.inr ⟨rfl,rfl⟩) λr' e=>by cases e
theorem Nx.ok {l:List Pt}{q:Pt}(h:Nx l q):Lo q:=by
 cases h with
 | op _=>exact⟨λn b e=>by cases e⟩
 | cl _ _ _ _ _=>exact⟨λn b e=>by cases e⟩
 | as _=>exact⟨λn b e=>by cases e⟩
 | rw h1 h2=>exact⟨λn b e=>by cases e;exact⟨h1,h2⟩⟩
theorem V3 (q:Pt):OG (F1 q)=true:=by
 cases q with
 | op=>rfl
 | cl lo hi=>rfl
 | as r=>rfl
 | rw n b=>cases b <;> rfl
theorem Sq {CP:PV}{l:List Pt}{q:Pt}{c:Int}(h:gj [pP l,.int c]=some (F1 q))(hl:l.length < 900):
  turn (gN 2) [2] f9 (.int c) [some CP,some (pP l),none,none]=some [some CP,some (pP (l++[q])),none,none]:=by
 have e:pP (l++[q])=.lst (l.map F1++[F1 q]):=by simp[pP]
 have Tb:(l.map F1).length < 1000000:=by rw[ae];omega
 have hp:pP l=.lst (l.map F1):=rfl
 rw[e]
 rw[hp] at h ⊢
 unfold f9
 have hn:=V3 q
 generalize gj=mn,l.map F1=LP,F1 q=QP at *
 simp[bJ,h,Tb,hn]
noncomputable def tP (l:List Pt):PV:=.tup (l.map F1)
inductive LU:Fm->Prop
 | w0 {A:List Pt}:A≠[]->LU (.f0 A)
 | w2 {A B:List Pt}{lo hi:Nat}{C:List Pt}:LU (.f2 A B lo hi C)
theorem Ss {cs:oQ}(hc:cs.length<=6):∃f,Yf f/\LU f/\(∀p∈parts f,Lo p)/\(parts f).length<=8/\iz [.lst (cs.map .int)]=some (tP (parts f)):=by
 obtain⟨f,⟨i1,i2,i3⟩,lp⟩:=iY (g:=gN 2) (ds:=[2]) (body:=f9) PV.int (λf:Fm=>[some (.lst (cs.map .int)),some (pP (parts f)),none,none])
  (λr f=>Yf f/\(∀p∈parts f,Lo p)/\(parts f).length+r.length<=6)
  (by
   rintro c r f ⟨i1,i2,i3⟩
   simp only[bm] at i3
   obtain⟨q,hq,hm⟩:=Sd c (l:=parts f) (by omega) i2
   obtain⟨f',j1,j2⟩:=Sh i1 hq
   refine⟨f',⟨j1,λp hp=>?_,by rw[j2];simp;omega⟩,by rw[j2];exact Sq hm (by omega)⟩
   rw[j2] at hp
   rcases bX.mp hp with z | z
   ·exact i2 p z
   ·rw[aS] at z;rw[z];exact hq.ok)
  cs (.f0 []) ⟨⟨(λp hp=>by cases hp),λi r hi=>by simp at hi⟩,(λp hp=>by cases hp),by simpa [parts] using hc⟩
 have hp0:parts (.f0 [])=[]:=rfl
 rw[hp0] at lp
 simp only[gS,Nat.add_zero] at i3
 have h0:pP []=.lst []:=rfl
 rw[h0] at lp
 have s1:aK 1 (bA az) [some (.lst (cs.map .int)),none,none,none]=some (.nx [some (.lst (cs.map .int)),some (.lst []),none,none]):=by rfl
 have s2:cQ (gN 2) (iV (bV 0)) [2] f9 [some (.lst (cs.map .int)),some (.lst []),none,none]=some (.nx [some (.lst (cs.map .int)),some (pP (parts f)),none,none]):=by
  generalize f9=B at *
  simp[MI,lp]
 have hcp:=zH (ce:=jR) rfl (parts f)
 have s3:aK 3 (bF [none] (iV (bV 1)) (gN 0) bG jR) [some (.lst (cs.map .int)),some (pP (parts f)),none,none]=some (.nx [some (.lst (cs.map .int)),some (pP (parts f)),none,some (.lst ((heads (parts f)).map .str))]):=by
  have hle:(parts f).length<=1000000:=by omega
  have hp:pP (parts f)=.lst ((parts f).map F1):=rfl
  rw[hp]
  generalize jR=ce at *
  simp[MI,hle,hcp]
 have hO:=oJ "(" (heads (parts f))
 have hC:=oJ ")" (heads (parts f))
 have xa:Lo (.rw "x" (some "a")):=⟨λn b e=>by cases e;exact⟨by simp[FU],λx hx=>by cases hx;simp[six]⟩⟩
 have cok:Lo (.cl 1 2):=⟨λn b e=>by cases e⟩
 have c1:∀b:Bool,(decide (parts f=[])||decide ((heads (parts f)).getLast?=some ("(" : Str)))=b->F9 (tO (tV (b2 eqQ (bV 3) (bA az))) (tV (b2 eqQ (b2 FI (bV 3) (b1 fW (Fh 1))) (bC (.str "("))))) (bh cD 1 (a_ (ak (bC (.str "row")) (ak (bC (.str "x")) (ak (bC (.str "a")) az))))) GI [some (.lst (cs.map .int)),some (pP (parts f)),none,some (.lst ((heads (parts f)).map .str))]=some (.nx [some (.lst (cs.map .int)),some (pP (if b=true then parts f++[.rw "x" (some "a")] else parts f)),none,some (.lst ((heads (parts f)).map .str))]):=λb hb=>by
  have hl:(parts f).length < 1000000:=by omega
  have e:pP (parts f++[.rw "x" (some "a")])=.lst ((parts f).map F1++[.tup [.str "row",.str "x",.str "a"]]):=by simp[pP,F1,QA]
  have hp:pP (parts f)=.lst ((parts f).map F1):=rfl
  cases hz:parts f with
  | nil=>
   rw[hz] at hb
   simp at hb
   subst hb
   rfl
  | cons p ps=>
   rw[← hz]
   have HU:heads (parts f)≠[]:=by rw[hz];simp[heads]
   have FL:=R_ (parts f)
   obtain⟨h,hh⟩:∃h,(heads (parts f)).getLast?=some h:=⟨_,eB HU⟩
   have Ic:F0 ((heads (parts f)).map PV.str) (-1)=some (.str h):=by
    rw[Ax]
    have NU:0 < (heads (parts f)).length:=ip.mpr HU
    have:F0 (heads (parts f)) (-1)=some h:=by
     unfold F0 Nn
     rw[ap (by decide),bg (by omega),bq,← hh,io]
     congr 1
     omega
    rw[this]
    rfl
   have heq:Kt (.lst ((heads (parts f)).map .str)) (.lst [])=some false:=by
    obtain⟨y,ys,hy⟩:=k0 HU
    rw[hy,ag] at FL ⊢
    exact jn (n:=0) FL (by decide)
   rw[hh] at hb
   have ZY:¬ parts f=[]:=by rw[hz];simp
   rw[a5 ZY,Bool.false_or] at hb
   by_cases hx:h=("(" : Str)
   ·rw[br (by rw[hx])] at hb
    subst hb
    rw[bg rfl,e,hp]
    have Tb:((parts f).map F1).length < 1000000:=by rw[ae];omega
    generalize (parts f).map F1=LP,(heads (parts f)).map PV.str=HP at *
    simp[heq,Ic,hx,Tb]
   ·rw[a5 (λz=>hx (bi z))] at hb
    subst hb
    rw[ap (by decide)]
    generalize pP (parts f)=LP,(heads (parts f)).map PV.str=HP at *
    simp[heq,Ic,hx]
 have c2:∀(l:List Pt) (b:Bool),l.length < 900->bu (parts f)=b->F9 (tA (tV (b2 LS (bC (.str "(")) (bV 3))) (tV (b2 g_ (bC (.str ")")) (bV 3)))) (bh cD 1 (a_ (ak (bC (.str ")")) (ak (Fh 1) (ak (Fh 2) az))))) GI [some (.lst (cs.map .int)),some (pP l),none,some (.lst ((heads (parts f)).map .str))]=some (.nx [some (.lst (cs.map .int)),some (pP (if b=true then l++[.cl 1 2] else l)),none,some (.lst ((heads (parts f)).map .str))]):=λl b hl hb=>by
  have e:pP (l++[.cl 1 2])=.lst (l.map F1++[.tup [.str ")",.int 1,.int 2]]):=by simp[pP,F1]
  have hp:pP l=.lst (l.map F1):=rfl
  have Tb:(l.map F1).length < 1000000:=by rw[ae];omega
  unfold bu at hb
  cases b with
  | true=>
   rw[bg rfl,e,hp]
   rw[cm] at hb
   have k1:("(" : Str)∈heads (parts f):=gi hb.1
   have k2:¬ (")" : Str)∈heads (parts f):=by simpa using hb.2
   generalize l.map F1=LP,(heads (parts f)).map PV.str=HP at *
   simp[hO,hC,k1,k2,Tb]
  | false=>
   rw[ap (by decide)]
   generalize pP l=LP,(heads (parts f)).map PV.str=HP at *
   by_cases k1:("(" : Str)∈heads (parts f)
   ·have k2:(")" : Str)∈heads (parts f):=by
     rw[br k1] at hb
     simpa using hb
    simp[hO,hC,k1,k2]
   ·simp[hO,k1]
 have done:∀(Ya b2':Bool) (f':Fm),(decide (parts f=[])||decide ((heads (parts f)).getLast?=some ("(" : Str)))=Ya->bu (parts f)=b2'->parts f'=(if b2'=true then (if Ya=true then parts f++[.rw "x" (some "a")] else parts f)++[.cl 1 2] else (if Ya=true then parts f++[.rw "x" (some "a")] else parts f))->Yf f'->LU f'->∃f,Yf f/\LU f/\(∀p∈parts f,Lo p)/\(parts f).length<=8/\iz [.lst (cs.map .int)]=some (tP (parts f)):=λYa b2' f' h1 h2 h3 h4 h5=>by
  have ML:∀p∈parts f',Lo p:=λp hp=>by
   rw[h3] at hp
   have g1:∀p∈(if Ya=true then parts f++[.rw "x" (some "a")] else parts f),Lo p:=λp hp=>by
    split at hp
    ·rcases bX.mp hp with z | z
     ·exact i2 p z
     ·rw[aS] at z;rw[z];exact xa
    ·exact i2 p hp
   split at hp
   ·rcases bX.mp hp with z | z
    ·exact g1 p z
    ·rw[aS] at z;rw[z];exact cok
   ·exact g1 p hp
  have hlen:(if Ya=true then parts f++[Pt.rw "x" (some "a")] else parts f).length<=7:=by split <;> first | (simp;omega) | omega
  have hlen2:(parts f').length<=8:=by rw[h3];split <;> first | (simp only[ax,bm,gS];omega) | omega
  refine⟨f',h4,h5,ML,hlen2,?_⟩
  have hb:mR [some (.lst (cs.map .int)),none,none,none]=some (.rt (tP (parts f'))):=by
   unfold mR
   rw[aP s1,aP s2,aP s3,aP (c1 Ya h1),aP (c2 _ b2' (by omega) h2),← h3]
   have hp:pP (parts f')=.lst ((parts f').map F1):=rfl
   rw[hp]
   have hle:(parts f').length<=1000000:=by omega
   rfl
  unfold iz
  generalize mR=B at *
  simp[hb]
 have q2:=e1
 cases f with
 | f0 A=>
  obtain⟨k1,k2⟩:=i1
  have NN:bu A=false:=by unfold bu;rw[a5 (i_ k1).1];rfl
  cases A with
  | nil=>
   refine done true false (.f0 [.rw "x" (some "a")]) (by rfl) NN rfl ⟨(λp hp=>by simp at hp;subst hp;rfl),λi r hi=>?_⟩ (.w0 (by simp))
   cases i <;> simp at hi
  | cons p ps=>
   refine done false false (.f0 (p::ps)) ?_ NN rfl ⟨k1,k2⟩ (.w0 (by simp))
   show (decide (p::ps=[])||decide ((heads (p::ps)).getLast?=some ("(" : Str)))=false
   have hn:¬ (heads (p::ps)).getLast?=some ("(" : Str):=λz=>(i_ k1).1 (kl z)
   rw[a5 hn]
   rfl
 | f1 A B=>
  obtain⟨k1,k2,k3⟩:=i1
  have ho:("(" : Str)∈heads (A++.op::B):=by simp[heads,OU]
  have hcn:¬ (")" : Str)∈heads (A++.op::B):=by
   have a1:=(i_ k1).2
   have a2:=(i_ k2).2
   have q7:=e7
   unfold heads at *
   simp only[cv,ag,bX,ar,OU,oj]
   exact⟨a1,q7,a2⟩
  have NN:bu (A++.op::B)=true:=by unfold bu;rw[br ho,a5 hcn];rfl
  have as1:∀N:List Pt,L7 N A.length B.length 1->∀x y z,L7 N x y z->True:=λ_ _ _ _ _ _=>trivial
  have lift:∀(N:List Pt) (a b:Nat),L7 N a b 1->N.length=a+b->∀b' ,L7 N a b' 1:=λN a b h _ b' i r hi=>by
   obtain⟨y1,y2,y3,y4⟩:=h i r hi
   exact⟨y1,y2,y3,λ_ z=>by cases z⟩
  cases B with
  | nil=>
   refine done true true (.f2 A [.rw "x" (some "a")] 1 2 []) (by simp[parts,heads,OU]) NN (by simp[parts]) ⟨k1,(λp hp=>by simp at hp;subst hp;rfl),(λp hp=>by cases hp),?_,by decide,by decide,by decide⟩ .w2
   rw[cf] at k3 ⊢
   exact k3.more (.inl (by rfl)) λr e=>by cases e
  | cons p ps=>
   refine done false true (.f2 A (p::ps) 1 2 []) ?_ NN (by simp[parts]) ⟨k1,k2,(λp hp=>by cases hp),?_,by decide,by decide,by decide⟩ .w2
   ·show (decide (A++.op::p::ps=[])||decide ((heads (A++.op::p::ps)).getLast?=some ("(" : Str)))=false
    have hn:¬ (heads (A++.op::p::ps)).getLast?=some ("(" : Str):=λz=>by
     have e:heads (A++.op::p::ps)=heads (A++[.op])++heads (p::ps):=by simp[heads]
     rw[e,nI] at z
     obtain⟨h,hh⟩:∃h,(heads (p::ps)).getLast?=some h:=⟨_,eB (by simp[heads])⟩
     rw[hh] at z
     simp at z
     rw[z] at hh
     exact(i_ k2).1 (kl hh)
    have hn2:¬ (A++.op::p::ps=[]):=by simp
    rw[a5 hn,a5 hn2]
    rfl
   ·rw[cf]
    exact k3
 | f2 A B lo hi C=>
  have ho:("(" : Str)∈heads (A++.op::(B++.cl lo hi::C)):=by simp[heads,OU]
  have hc:(")" : Str)∈heads (A++.op::(B++.cl lo hi::C)):=by simp[heads,OU]
  have NN:bu (A++.op::(B++.cl lo hi::C))=false:=by unfold bu;rw[br ho,br hc];rfl
  refine done false false (.f2 A B lo hi C) ?_ NN rfl i1 .w2
  show (decide (A++.op::(B++.cl lo hi::C)=[])||decide ((heads (A++.op::(B++.cl lo hi::C))).getLast?=some ("(" : Str)))=false
  have hn:¬ (heads (A++.op::(B++.cl lo hi::C))).getLast?=some ("(" : Str):=λz=>by
   have e:heads (A++.op::(B++.cl lo hi::C))=heads (A++.op::B)++heads (.cl lo hi::C):=by simp[heads]
   rw[e,nI] at z
   obtain⟨h,hh⟩:∃h,(heads (.cl lo hi::C)).getLast?=some h:=⟨_,eB (by simp[heads])⟩
   rw[hh] at z
   simp at z
   rw[z] at hh
   have hm:=kl hh
   simp only[heads,ag,ar] at hm
   rcases hm with y | y
   ·exact e1 y
   ·exact(i_ i1.2.2.1).1 y
  have hn2:¬ (A++.op::(B++.cl lo hi::C)=[]):=by simp
  rw[a5 hn,a5 hn2]
  rfl
noncomputable def qi (a b T k:Nat):Nat×Nat:=if k < a then (k,0) else if k < a+T*b then (a+(k - a) % b,(k - a) / b+1) else (k - T*b+b,0)
theorem J2 {a b T k:Nat}(h:k < a):qi a b T k=(k,0):=by unfold qi;rw[bg h]
theorem Gd {b t T:Nat}(h:t < T):t*b+b<=T*b:=by
 have:=ic b (Nat.succ_le_of_lt h)
 rw[ja] at this
 exact this
theorem J3 {a b T t j:Nat}(h:t < T)(hj:j < b):qi a b T (a+t*b+j)=(a+j,t+1):=by
 have h1:=Gd (b:=b) h
 unfold qi
 rw[ap (by omega),bg (by omega),show a+t*b+j - a=j+b*t by rw[oo b t];omega,Nat.add_mul_mod_self_left,Nat.mod_eq_of_lt hj,Nat.add_mul_div_left _ _ (by omega),Nat.div_eq_of_lt hj,ij]
theorem PX {a b T j:Nat}:qi a b T (a+T*b+j)=(a+b+j,0):=by
 unfold qi
 rw[ap (by omega),ap (by omega),show a+T*b+j - T*b+b=a+b+j by omega]
theorem kY {a b c T k:Nat}(h:k < a+T*b+c):(k < a/\qi a b T k=(k,0))\/(∃t j,t < T/\j < b/\k=a+t*b+j/\qi a b T k=(a+j,t+1))\/(∃j,j < c/\k=a+T*b+j/\qi a b T k=(a+b+j,0)):=by
 by_cases h1:k < a
 ·exact .inl ⟨h1,J2 h1⟩
 ·by_cases h2:k < a+T*b
  ·have hb:0 < b:=by
    rcases Nat.eq_zero_or_pos b with z | z
    ·subst z;rw[Nat.mul_zero] at h2;omega
    ·exact z
   have e:a+(k - a) / b*b+(k - a) % b=k:=by
    have:=Nat.div_add_mod (k - a) b
    rw[oo] at this
    omega
   have ht:(k - a) / b < T:=by
    rw[Nat.div_lt_iff_lt_mul hb];omega
   refine .inr (.inl ⟨(k - a) / b,(k - a) % b,ht,Nat.mod_lt _ hb,e.symm,?_⟩)
   have:=J3 (a:=a) ht (Nat.mod_lt (k - a) hb)
   rw[e] at this
   exact this
  ·refine .inr (.inr ⟨k - (a+T*b),by omega,by omega,?_⟩)
   have:=PX (a:=a) (b:=b) (T:=T) (j:=k - (a+T*b))
   rw[show a+T*b+(k - (a+T*b))=k by omega] at this
   exact this
noncomputable def fX (a b:Nat):Nat->List (Nat×Nat)
 | 0=>[]
 | T+1=>fX a b T++(List.range b).map λj=>(a+j,T+1)
theorem MJ {a b T':Nat}:∀T,T<=T'->(List.range (a+T*b)).map (qi a b T')=((List.range a).map λi=>(i,0))++fX a b T
 | 0,_=>by
  rw[Nat.zero_mul,Nat.add_zero,fX,cf]
  exact cK λk hk=>J2 (bS.mp hk)
 | T+1,h=>by
  rw[show a+(T+1)*b=a+T*b+b by rw[ja];omega,nK,cv,MJ T (by omega),fX,cp,cn]
  congr 2
  exact cK λj hj=>J3 (by omega) (bS.mp hj)
theorem V4 {a b c T:Nat}:(List.range (a+T*b+c)).map (qi a b T)=(((List.range a).map λi=>(i,0))++fX a b T)++(List.range c).map λj=>(a+b+j,0):=by
 rw[nK,cv,MJ T (aw _),cn]
 congr 1
 exact cK λj _=>PX
noncomputable def m9 (P:Nat->Bool)(q:Nat):Option Nat:=((List.range q).filter P).getLast?
theorem uP (P:Nat->Bool)(q:Nat):m9 P (q+1)=if P q=true then some q else m9 P q:=by
 unfold m9
 rw[kA,eL]
 by_cases h:P q=true
 ·rw[bg h,fq h];simp
 ·rw[ap h,List.filter_cons_of_neg h];simp
theorem yr {P:Nat->Bool}{p:Nat}:∀{q:Nat},p < q->P p=true->(∀k,p < k->k < q->P k=false)->m9 P q=some p
 | 0,h,_,_=>absurd h (kz _)
 | q+1,h,hp,hn=>by
  rw[uP]
  by_cases e:p=q
  ·subst e;rw[bg hp]
  ·rw[ap (by rw[hn q (by omega) (by omega)];decide)]
   exact yr (by omega) hp λk h1 h2=>hn k h1 (by omega)
theorem QG {N:List Pt}{a b c T lo k r:Nat}(hA:L7 N a b lo)(hT:lo<=T)(hk:k < a+T*b+c)(hr:N[(qi a b T k).1]?=some (.as r)):
  ∃p,p < k/\(qi a b T p).1=r - 1/\((qi a b T k).2=0\/(qi a b T p).2=0\/(qi a b T p).2=(qi a b T k).2)/\(∀k',p < k'->k' < k->(qi a b T k').1≠r - 1) /\
   (∀k',p < k'->k' < a+T*b+c->(qi a b T k').1=r - 1->¬ ((qi a b T k).2=0\/(qi a b T k').2=0\/(qi a b T k').2=(qi a b T k).2)):=by
 obtain⟨h1,h2,_,h4⟩:=hA _ r hr
 by_cases c1:r - 1 < a
 ·have ZE:∀k',r - 1 < k'->k' < a+T*b+c->(qi a b T k').1≠r - 1:=λk' y1 y2 y3=>by
   rcases kY y2 with ⟨z1,z2⟩ | ⟨t,j,z1,z2,z3,z4⟩ | ⟨j,z1,z2,z3⟩
   ·rw[z2] at y3;simp only at y3;omega
   ·rw[z4] at y3;simp only at y3;omega
   ·rw[z3] at y3;simp only at y3;omega
  have IT:r - 1 < k:=by
   rcases kY hk with ⟨z1,z2⟩ | ⟨t,j,z1,z2,z3,z4⟩ | ⟨j,z1,z2,z3⟩
   ·rw[z2] at h2;simp only at h2;omega
   ·omega
   ·omega
  refine⟨r - 1,IT,by rw[J2 c1],.inr (.inl (by rw[J2 c1])),λk' y1 y2=>ZE k' y1 (by omega),λk' y1 y2 y3=>absurd y3 (ZE k' y1 y2)⟩
 ·by_cases c2:r - 1 < a+b
  ·rcases kY hk with ⟨z1,z2⟩ | ⟨t,j,z1,z2,z3,z4⟩ | ⟨j,z1,z2,z3⟩
   ·rw[z2] at h2;simp only at h2;omega
   ·rw[z4] at h2 ⊢
    simp only at h2 ⊢
    have hq:=J3 (a:=a) z1 (show r - 1 - a < b by omega)
    refine⟨a+t*b+(r - 1 - a),by omega,by rw[hq];simp only;omega,.inr (.inr (by rw[hq])),λk' y1 y2 y3=>?_,λk' y1 y2 y3 y4=>?_⟩
    ·rcases kY (show k' < a+T*b+c by omega) with ⟨w1,w2⟩ | ⟨t',j',w1,w2,w3,w4⟩ | ⟨j',w1,w2,w3⟩
     ·rw[w2] at y3;simp only at y3;omega
     ·rw[w4] at y3;simp only at y3
      rcases lf t t' with g | g | g
      ·have:=Gd (b:=b) g;omega
      ·subst g;omega
      ·have:=Gd (b:=b) g;omega
     ·rw[w3] at y3;simp only at y3;omega
    ·rcases kY y2 with ⟨w1,w2⟩ | ⟨t',j',w1,w2,w3,w4⟩ | ⟨j',w1,w2,w3⟩
     ·rw[w2] at y3;simp only at y3;omega
     ·rw[w4] at y3 y4;simp only at y3 y4
      have:t'=t:=by omega
      subst this
      omega
     ·rw[w3] at y3;simp only at y3;omega
   ·rw[z3] at h2 h4 ⊢
    simp only at h2 h4 ⊢
    have hlo:lo≠0:=λe=>by have:=h4 (by omega) e;omega
    obtain⟨T,rfl⟩:∃t,T=t+1:=⟨T - 1,by omega⟩
    have hq:=J3 (a:=a) (gy T) (show r - 1 - a < b by omega)
    have hm:(T+1)*b=T*b+b:=ja T b
    refine⟨a+T*b+(r - 1 - a),by omega,by rw[hq];simp only;omega,.inl trivial,λk' y1 y2 y3=>?_,λk' y1 y2 y3 y4=>?_⟩
    ·rcases kY (show k' < a+(T+1)*b+c by omega) with ⟨w1,w2⟩ | ⟨t',j',w1,w2,w3,w4⟩ | ⟨j',w1,w2,w3⟩
     ·rw[w2] at y3;simp only at y3;omega
     ·rw[w4] at y3;simp only at y3
      have:t'*b<=T*b:=ic b (by omega)
      omega
     ·rw[w3] at y3;simp only at y3;omega
    ·rcases kY y2 with ⟨w1,w2⟩ | ⟨t',j',w1,w2,w3,w4⟩ | ⟨j',w1,w2,w3⟩
     ·rw[w2] at y3;simp only at y3;omega
     ·rw[w4] at y3;simp only at y3
      have:t'*b<=T*b:=ic b (by omega)
      omega
     ·rw[w3] at y3;simp only at y3;omega
  ·rcases kY hk with ⟨z1,z2⟩ | ⟨t,j,z1,z2,z3,z4⟩ | ⟨j,z1,z2,z3⟩
   ·rw[z2] at h2;simp only at h2;omega
   ·rw[z4] at h2;simp only at h2;omega
   ·rw[z3] at h2 ⊢
    simp only at h2 ⊢
    have hq:=PX (a:=a) (b:=b) (T:=T) (j:=r - 1 - (a+b))
    have ZE:∀k',a+T*b+(r - 1 - (a+b)) < k'->k' < a+T*b+c->(qi a b T k').1≠r - 1:=λk' y1 y2 y3=>by
     rcases kY y2 with ⟨w1,w2⟩ | ⟨t',j',w1,w2,w3,w4⟩ | ⟨j',w1,w2,w3⟩
     ·rw[w2] at y3;simp only at y3;omega
     ·rw[w4] at y3;simp only at y3;omega
     ·rw[w3] at y3;simp only at y3;omega
    refine⟨a+T*b+(r - 1 - (a+b)),by omega,by rw[hq];simp only;omega,.inl trivial,λk' y1 y2=>ZE k' y1 (by omega),λk' y1 y2 y3=>absurd y3 (ZE k' y1 y2)⟩
noncomputable def fA:Fm->List Pt
 | .f0 A=>A
 | .f1 A _=>A
 | .f2 A _ _ _ _=>A
noncomputable def fB:Fm->List Pt
 | .f2 _ B _ _ _=>B
 | _=>[]
noncomputable def fC:Fm->List Pt
 | .f2 _ _ _ _ C=>C
 | _=>[]
noncomputable def qD:Nat->List Pt->List (Nat×Pt)
 | _,[]=>[]
 | n,p::l=>(n+1,p)::qD (n+1) l
noncomputable def nmP (z:Nat×Pt):PV:=.tup [.int (z.1:Nat),F1 z.2]
noncomputable def Iq (n:Nat)(l:List Pt):List PV:=(qD n l).map nmP
theorem CG:∀(n:Nat) (l:List Pt),(qD n l).length=l.length
 | _,[]=>rfl
 | n,p::l=>by simp[qD,CG (n+1) l]
theorem Bc (n:Nat)(l:List Pt):(Iq n l).length=l.length:=by simp[Iq,CG]
theorem Mt {n k:Nat}(h:k < n):Nn n (k:Int)=some k:=by
 unfold Nn
 rw[bg (by omega)]
 simp[h]
theorem P0 {FP:PV}{W L:List PV}{at' n:Nat}{p:Pt}(hp:isIt p=true)(hw:W[at']?=some (.lst L))(hl:L.length < 900):
  turn (gH 1 (gN 4)) [4] (OH cj) (F1 p) [some FP,some (.lst W),some (.int (at':Nat)),some (.int (n:Nat)),none]=some [some FP,some (.lst (W.set at' (.lst (L++[nmP (n+1,p)])))),some (.int (at':Nat)),some (.int ((n+1:Nat):Nat)),none]:=by
 obtain⟨r,e⟩:=J0 p
 obtain⟨h1,h2⟩:=Ea hp
 have IT:at' < W.length:=by
  rcases dv at' W.length with z | z
  ·exact z
  ·rw[bo z] at hw;cases hw
 have hx:=Mt IT
 have NU:L.length < 1000000:=by omega
 have hn:nmP (n+1,p)=.tup [.int ((n:Int)+1),F1 p]:=by simp[nmP]
 rw[hn,e]
 generalize OU p=hd at *
 simp[bJ,cj,h1,h2,hx,hw,NU]
theorem uq {FP:PV}{at':Nat}{rest:List PV}:∀(l:List Pt){W L:List PV}{n:Nat},NF l->W[at']?=some (.lst L)->L.length+l.length < 900->
  bw (gH 1 (gN 4)) [4] (OH cj) (l.map F1++rest) [some FP,some (.lst W),some (.int (at':Nat)),some (.int (n:Nat)),none]=bw (gH 1 (gN 4)) [4] (OH cj) rest [some FP,some (.lst (W.set at' (.lst (L++Iq n l)))),some (.int (at':Nat)),some (.int ((n+l.length:Nat):Nat)),none]
 | [],W,L,n,_,hw,_=>by
  have:W.set at' (.lst (L++Iq n []))=W:=by
   rw[show Iq n []=[] from rfl,cf]
   obtain⟨h1,h2⟩:=av.mp hw
   rw[← h2,List.set_getElem_self]
  rw[this]
  rfl
 | p::l,W,L,n,h,hw,hl=>by
  simp only[bm] at hl
  have IT:at' < W.length:=(av.mp hw).1
  rw[ag,ii,dh (P0 (h p af) hw (by omega)),uq l (λq hq=>h q (ac _ hq)) (cb IT) (by simp;omega),kH,cp]
  rw[show n+1+l.length=n+(p::l).length by simp;omega]
  rfl
theorem Io {FP:PV}{W:List PV}{at' n:Nat}{p:Pt}(hp:isIt p=false):
  turn (gH 1 (gN 4)) [4] (OH cj) (F1 p) [some FP,some (.lst W),some (.int (at':Nat)),some (.int (n:Nat)),none]=some [some FP,some (.lst W),some (.int ((at'+1:Nat):Nat)),some (.int (n:Nat)),none]:=by
 have q1:=e7
 cases p with
 | op=>rfl
 | cl lo hi=>rfl
 | as r=>cases hp
 | rw n b=>cases hp
theorem V5 {f:Fm}(hf:Yf f)(hw:LU f)(hl:(parts f).length < 20):jo [tP (parts f)]=some (.lst [.lst (Iq 0 (fA f)),.lst (Iq (fA f).length (fB f)),.lst (Iq ((fA f).length+(fB f).length) (fC f))]):=by
 have lp:∃x2 x3,bw (gH 1 (gN 4)) [4] (OH cj) ((parts f).map F1) [some (tP (parts f)),some (.lst [.lst [],.lst [],.lst []]),some (.int 0),some (.int 0),none]=some (.nx [some (tP (parts f)),some (.lst [.lst (Iq 0 (fA f)),.lst (Iq (fA f).length (fB f)),.lst (Iq ((fA f).length+(fB f).length) (fC f))]),x2,x3,none]):=by
  generalize tP (parts f)=FP
  cases hw with
  | @w0 A _=>
   have h1:NF A:=hf.1
   have:=uq (FP:=FP) (at':=0) (rest:=[]) A (W:=[.lst [],.lst [],.lst []]) (L:=[]) (n:=0) h1 rfl (by simp only[parts] at hl;simp;omega)
   rw[cf] at this
   refine⟨some (.int ((0:Nat):Nat)),some (.int ((0+A.length:Nat):Nat)),?_⟩
   show bw (gH 1 (gN 4)) [4] (OH cj) (A.map F1) [some FP,some (.lst [.lst [],.lst [],.lst []]),some (.int ((0:Nat):Nat)),some (.int ((0:Nat):Nat)),none]=_
   rw[this]
   rfl
  | @w2 A B lo hi C=>
   obtain⟨h1,h2,h3,_⟩:=hf
   simp only[parts,ax,bm] at hl
   refine⟨some (.int ((0+1+1:Nat):Nat)),some (.int ((0+A.length+B.length+C.length:Nat):Nat)),?_⟩
   show bw (gH 1 (gN 4)) [4] (OH cj) ((A++.op::(B++.cl lo hi::C)).map F1) [some FP,some (.lst [.lst [],.lst [],.lst []]),some (.int ((0:Nat):Nat)),some (.int ((0:Nat):Nat)),none]=_
   rw[cv,uq A h1 (L:=[]) rfl (by simp;omega),ag,dh (Io rfl),cv,uq B h2 (L:=[]) rfl (by simp;omega),ag,dh (Io rfl)]
   have e:=uq (FP:=FP) (at':=0+1+1) (rest:=[]) C (W:=([PV.lst [],.lst [],.lst []].set 0 (.lst ([]++Iq 0 A))).set (0+1) (.lst ([]++Iq (0+A.length) B))) (L:=[]) (n:=0+A.length+B.length) h3 rfl (by simp;omega)
   rw[cf] at e
   rw[e]
   simp only[ij,eR]
   rfl
 obtain⟨x2,x3,lp⟩:=lp
 have ht:tP (parts f)=.tup ((parts f).map F1):=rfl
 have hb:o7 [some (tP (parts f)),none,none,none,none]=some (.rt (.lst [.lst (Iq 0 (fA f)),.lst (Iq (fA f).length (fB f)),.lst (Iq ((fA f).length+(fB f).length) (fC f))])):=by
  unfold o7
  rw[ht] at lp ⊢
  generalize (parts f).map F1=PP,(PV.lst [.lst (Iq 0 (fA f)),.lst (Iq (fA f).length (fB f)),.lst (Iq ((fA f).length+(fB f).length) (fC f))])=RP,cj=BB at *
  have e0:List.replicate 3 (PV.lst [])=[.lst [],.lst [],.lst []]:=rfl
  simp[MI,DY,e0,lp]
 unfold jo
 generalize o7=B at *
 simp[hb]
noncomputable def fN (f:Fm):List Pt:=fA f++fB f++fC f
noncomputable def LI (N:List Pt)(z:Nat×Nat):PV:=.tup [.int ((z.1+1:Nat):Nat),F1 (N.getD z.1 .op),.int (z.2:Nat)]
theorem Ip:∀(l:List Pt) (n:Nat),qD n l=(List.range l.length).map λj=>(n+j+1,l.getD j .op)
 | [],_=>rfl
 | p::l,n=>by
  rw[qD,Ip l (n+1),bm,mv,ag,cn]
  congr 1
  exact cK λj _=>by
   show (n+1+j+1,l.getD j .op)=(n+(j+1)+1,(p::l).getD (j+1) .op)
   rw[List.getD_cons_succ,show n+1+j+1=n+(j+1)+1 by omega]
theorem Be {N l:List Pt}{n t:Nat}(h:∀j,j < l.length->N[n+j]?=l[j]?):(qD n l).map (λz=>PV.tup [.int (z.1:Nat),F1 z.2,.int (t:Nat)])=((List.range l.length).map λj=>(n+j,t)).map (LI N):=by
 rw[Ip,cn,cn]
 exact cK λj hj=>by
  have:=h j (bS.mp hj)
  show PV.tup [.int ((n+j+1:Nat):Nat),F1 (l.getD j .op),.int (t:Nat)]=.tup [.int ((n+j+1:Nat):Nat),F1 (N.getD (n+j) .op),.int (t:Nat)]
  rw[al,al,this]
theorem yt {env:MR.Env}{ce:MR.Env->Option PV}{n t:Nat}{l:List Pt}{u:PV}(h:∀x y:PV,∃e,gT [0,1] (.tup [x,y]) env=some e/\ce e=some (.tup [x,y,.int (t:Nat)])):
  bR env (gT [0,1]) bG ce (Iq n l)=some ((qD n l).map λz=>PV.tup [.int (z.1:Nat),F1 z.2,.int (t:Nat)]):=
 du nmP _ (qD n l) λz _=>h _ _
theorem yu (a b:Nat):∀T,(fX a b T).length=T*b
 | 0=>by simp[fX]
 | T+1=>by rw[fX,ax,yu a b T,ae,eA,ja]
theorem V6 (T:Nat):dO 1 ((T:Int)+1)=(List.range' 0 T).map λk=>PV.int (((1:Nat)+k:Nat):Nat):=by
 unfold dO
 rw[show ((T:Int)+1 - 1).toNat=T by omega,d3]
 exact cK λk _=>by simp
noncomputable def V7 (f:Fm)(T:Nat):List PV:=(List.range ((fA f).length+T*(fB f).length+(fC f).length)).map λk=>LI (fN f) (qi (fA f).length (fB f).length T k)
theorem V8 {f:Fm}{T:Nat}(hf:Yf f)(hw:LU f)(hl:(parts f).length < 20)(hT:T<=4)(hla:(fA f).length < 20)(hlb:(fB f).length < 20)(hlc:(fC f).length < 20):my [tP (parts f),.int (T:Nat)]=some (.lst (V7 f T)):=by
 have hc:=V5 hf hw hl
 have hA:∀j,j < (fA f).length->(fN f)[0+j]?=(fA f)[j]?:=λj hj=>by
  unfold fN;rw[ij,cp,be hj]
 have hB:∀j,j < (fB f).length->(fN f)[(fA f).length+j]?=(fB f)[j]?:=λj hj=>by
  unfold fN;rw[be (by simp;omega),bt (by omega),l9]
 have hC:∀j,j < (fC f).length->(fN f)[(fA f).length+(fB f).length+j]?=(fC f)[j]?:=λj hj=>by
  unfold fN;rw[bt (by simp),ax,l9]
 generalize tP (parts f)=FP at *
 have eall:V7 f T=(((List.range (fA f).length).map λi=>(i,0))++fX (fA f).length (fB f).length T++(List.range (fC f).length).map λj=>((fA f).length+(fB f).length+j,0)).map (LI (fN f)):=by
  rw[← V4,cn];rfl
 rw[eall]
 generalize fA f=A,fB f=B,fC f=C,fN f=N at *
 have nA:=Be (t:=0) hA
 have nC:=Be (t:=0) hC
 simp only[ij] at nA
 have s1:aK 2 (aH jo (Fn 0 az)) [some FP,some (.int (T:Nat)),none,none,none]=some (.nx [some FP,some (.int (T:Nat)),some (.lst [.lst (Iq 0 A),.lst (Iq A.length B),.lst (Iq (A.length+B.length) C)]),none,none]):=by
  generalize jo=m at *
  simp[hc]
 have cA:=yt (env:=[none,none]) (ce:=kJ) (n:=0) (t:=0) (l:=A) (u:=.FG) λx y=>⟨_,rfl,by rfl⟩
 have cC:=yt (env:=[none,none]) (ce:=o9) (n:=A.length+B.length) (t:=0) (l:=C) (u:=.FG) λx y=>⟨_,rfl,by rfl⟩
 have cB:∀t:Nat,bR [none,none,some (.int (t:Nat))] (gT [0,1]) bG o8 (Iq A.length B)=some (((List.range B.length).map λj=>(A.length+j,t)).map (LI N)):=λt=>by
  rw[← Be (t:=t) hB]
  exact yt (n:=A.length) (t:=t) (l:=B) (u:=.FG) λx y=>⟨_,rfl,by rfl⟩
 rw[nA] at cA
 rw[nC] at cC
 have lA:=Bc 0 A
 have lB:=Bc A.length B
 have lC:=Bc (A.length+B.length) C
 have s2:aK 3 (bF [none,none] (iV (b2 FI (bV 2) (Fh 0))) (gT [0,1]) bG kJ) [some FP,some (.int (T:Nat)),some (.lst [.lst (Iq 0 A),.lst (Iq A.length B),.lst (Iq (A.length+B.length) C)]),none,none]=some (.nx [some FP,some (.int (T:Nat)),some (.lst [.lst (Iq 0 A),.lst (Iq A.length B),.lst (Iq (A.length+B.length) C)]),some (.lst ((((List.range A.length).map λi=>(i,0))++fX A.length B.length 0).map (LI N))),none]):=by
  have hle:A.length<=1000000:=by omega
  rw[fX,cf]
  generalize ((List.range A.length).map λi=>(i,0)).map (LI N)=RA,Iq 0 A=a,Iq A.length B=b,Iq (A.length+B.length) C=c,kJ=ce at *
  simp[MI,lA,hle,cA]
 obtain⟨k,⟨k1,k2⟩,lp⟩:=iY (g:=gN 4) (ds:=[4]) (body:=kO) (λk:Nat=>PV.int (((1:Nat)+k:Nat):Nat)) (λk:Nat=>[some FP,some (.int (T:Nat)),some (.lst [.lst (Iq 0 A),.lst (Iq A.length B),.lst (Iq (A.length+B.length) C)]),some (.lst ((((List.range A.length).map λi=>(i,0))++fX A.length B.length k).map (LI N))),none])
  (λys k=>ys=List.range' k (T - k)/\k<=T)
  (by
   rintro y ys k ⟨i1,i2⟩
   have hk:k < T:=by
    rcases dv k T with z | z
    ·exact z
    ·rw[show T - k=0 by omega] at i1;cases i1
   rw[show T - k=(T - (k+1))+1 by omega,dE] at i1
   obtain⟨rfl,rfl⟩:=eD i1
   refine⟨y+1,⟨rfl,hk⟩,?_⟩
   have hb:=cB (1+y)
   have hm:((((List.range A.length).map λi=>(i,0))++fX A.length B.length (y+1)).map (LI N))=((((List.range A.length).map λi=>(i,0))++fX A.length B.length y).map (LI N))++((List.range B.length).map λj=>(A.length+j,1+y)).map (LI N):=by
    rw[fX,← cp,cv (f:=LI N),Nat.add_comm y 1]
   have hle:B.length<=1000000:=by omega
   have Ta:((((List.range A.length).map λi=>(i,0))++fX A.length B.length y).map (LI N)).length+(((List.range B.length).map λj=>(A.length+j,1+y)).map (LI N)).length<=1000000:=by
    rw[ae,ax,yu,ae,ae,ae,eA,eA]
    have:y*B.length<=4*20:=nE (by omega) (by omega)
    omega
   rw[hm]
   generalize ((((List.range A.length).map λi=>(i,0))++fX A.length B.length y).map (LI N))=RA,((List.range B.length).map λj=>(A.length+j,1+y)).map (LI N)=RB at *
   unfold kO
   generalize Iq 0 A=a,Iq A.length B=b,Iq (A.length+B.length) C=c,o8=ce,1+y=z at *
   simp[bJ,MI,lB,hle,hb,Ta])
  (List.range' 0 T) 0 ⟨rfl,da _⟩
 have hkT:k=T:=by
  have:(List.range' k (T - k)).length=0:=by rw[← k1];rfl
  rw[kX] at this
  omega
 subst hkT
 have s3:cQ (gN 4) (iR2 (Fh 1) (b2 b7 (bV 1) (Fh 1))) [4] kO [some FP,some (.int (k:Nat)),some (.lst [.lst (Iq 0 A),.lst (Iq A.length B),.lst (Iq (A.length+B.length) C)]),some (.lst ((((List.range A.length).map λi=>(i,0))++fX A.length B.length 0).map (LI N))),none]=some (.nx [some FP,some (.int (k:Nat)),some (.lst [.lst (Iq 0 A),.lst (Iq A.length B),.lst (Iq (A.length+B.length) C)]),some (.lst ((((List.range A.length).map λi=>(i,0))++fX A.length B.length k).map (LI N))),none]):=by
  have r1:MW 1=true:=HZ (by omega) (by omega)
  have r2:MW ((k:Int)+1)=true:=HZ (by omega) (by omega)
  have hr:=V6 k
  generalize kO=B',Iq 0 A=a,Iq A.length B=b,Iq (A.length+B.length) C=c at *
  simp only[Ry,Vr,yR,rR,Xz,bq,b7,c6,i5,r1,r2,Bool.and_self,g9,hr]
  exact lp
 have hb:sE [some FP,some (.int (k:Nat)),none,none,none]=some (.rt (.lst ((((List.range A.length).map λi=>(i,0))++fX A.length B.length k++(List.range C.length).map λj=>(A.length+B.length+j,0)).map (LI N)))):=by
  unfold sE
  rw[aP s1,aP s2,aP s3]
  have hle:C.length<=1000000:=by omega
  have Ta:((((List.range A.length).map λi=>(i,0))++fX A.length B.length k).map (LI N)).length+(((List.range C.length).map λj=>(A.length+B.length+j,0)).map (LI N)).length<=1000000:=by
   rw[ae,ax,yu,ae,ae,ae,eA,eA]
   have:k*B.length<=4*20:=nE (by omega) (by omega)
   omega
  have e2:(((List.range A.length).map λi=>(i,0))++fX A.length B.length k++(List.range C.length).map λj=>(A.length+B.length+j,0)).map (LI N)=((((List.range A.length).map λi=>(i,0))++fX A.length B.length k).map (LI N))++((List.range C.length).map λj=>(A.length+B.length+j,0)).map (LI N):=cv
  rw[e2]
  generalize ((((List.range A.length).map λi=>(i,0))++fX A.length B.length k).map (LI N))=RA,((List.range C.length).map λj=>(A.length+B.length+j,0)).map (LI N)=RC,Iq 0 A=a,Iq A.length B=b,Iq (A.length+B.length) C=c,o9=ce at *
  simp[MI,lC,hle,cC,Ta]
 unfold my
 generalize sE=B' at *
 simp[hb]
section
variable {κ:Type}[DecidableEq κ]
theorem CJ (kvs:List (κ×PV))(k k':κ)(v:PV):dF (jE kvs k v) k'=if k'=k then some v else dF kvs k':=by
 unfold dF jE
 by_cases h:(kvs.any λkv=>decide (kv.1=k))=true
 ·rw[bg h,List.find?_map]
  have e:((λx:κ×PV=>decide (x.1=k'))∘λkv=>if kv.1=k then (kv.1,v) else kv)=λx=>decide (x.1=k'):=by
   funext x
   have hf:(if x.1=k then (x.1,v) else x).1=x.1:=by split <;> rfl
   show decide ((if x.1=k then (x.1,v) else x).1=k')=decide (x.1=k')
   simp[hf]
  rw[e]
  cases q:kvs.find? λx=>decide (x.1=k') with
  | none=>
   by_cases hk:k'=k
   ·subst hk
    obtain⟨x,h1,h2⟩:=fR.mp h
    exact absurd h2 (List.find?_eq_none.mp q x h1)
   ·rw[ap hk];rfl
  | some x=>
   have hx:x.1=k':=by simpa using List.find?_some q
   by_cases hk:k'=k
   ·rw[bg hk]
    show some (if x.1=k then (x.1,v) else x).2=_
    rw[bg (hx.trans hk)]
   ·rw[ap hk]
    show some (if x.1=k then (x.1,v) else x).2=some x.2
    rw[ap (λz=>hk (hx.symm.trans z))]
 ·rw[ap h,List.find?_append]
  have hn:∀x∈kvs,¬ x.1=k:=λx hx e=>h (fR.mpr ⟨x,hx,by simp[e]⟩)
  by_cases hk:k'=k
  ·subst hk
   have:(kvs.find? λx=>decide (x.1=k'))=none:=List.find?_eq_none.mpr λx hx=>by simp[hn x hx]
   rw[this,bg rfl]
   simp
  ·rw[ap hk]
   have:([(k,v)].find? λx=>decide (x.1=k'))=none:=by simp[eS hk]
   rw[this]
   simp
theorem Ge (kvs:List (κ×PV))(k:κ)(v:PV):(jE kvs k v).length<=kvs.length+1:=by
 unfold jE
 split
 ·rw[ae];omega
 ·simp
end
noncomputable def ltr (x:Str):Bool:=decide (x∈(["a","b","c","z"]:oP))
noncomputable def bdV (bd:Option Str)(t:Nat):PV:=match bd with
 | none=>.FG
 | some x=>.tup [.str x,.int ((if ltr x=true then t else 0:Nat):Nat)]
theorem V9 {x:Str}(h:x∈six):dz [.str x]=some (.bl (ltr x)):=by
 have hl:x.length=1:=by
  simp only[six,ar,b9,eW] at h
  rcases h with e | e | e | e | e | e <;> subst e <;> decide +kernel
 have hi:MV (.str x) (.str "abcdefghijklmnopqrstuvwxyz")=some (ltr x):=by
  simp only[six,ar,b9,eW] at h
  rcases h with e | e | e | e | e | e <;> subst e <;> decide +kernel
 have h1:Kt (.int 1) (.int 1)=some true:=by simp[Kt]
 unfold dz qY
 generalize ltr x=b at *
 simp[hl,hi,h1]
theorem V_ {bd:Option Str}{t:Nat}(h:∀x,bd=some x->x∈six):mU [QA bd,.int (t:Nat)]=some (bdV bd t):=by
 unfold mU zr
 cases bd with
 | none=>rfl
 | some x=>
  have hl:=V9 (h x rfl)
  generalize dz=m at *
  cases q:ltr x with
  | true=>
   rw[q] at hl
   simp[QA,bdV,hl,q]
  | false=>
   rw[q] at hl
   simp[QA,bdV,hl,q]
noncomputable def v_ (N:List Pt)(i:Nat):Str:=match N.getD i .op with
 | .rw nm _=>nm
 | _ => ""
noncomputable def m_ (N:List Pt)(a b T k:Nat):PV:=match N.getD (qi a b T k).1 .op with
 | .rw nm bd=>.tup [.str nm,bdV bd (qi a b T k).2,.FG]
 | .as r=>.tup [.str (v_ N (r - 1)),.FG,.int (((m9 (λk'=>(qi a b T k').1 == r - 1) k).getD 0:Nat):Nat)]
 | _=>.FG
theorem Bf {N:List Pt}{a b T k:Nat}{nm:Str}{bd:Option Str}(h:N[(qi a b T k).1]?=some (.rw nm bd)):m_ N a b T k=.tup [.str nm,bdV bd (qi a b T k).2,.FG]:=by
 unfold m_
 rw[al,h]
 rfl
theorem Ir {N:List Pt}{a b T k r:Nat}(h:N[(qi a b T k).1]?=some (.as r)):m_ N a b T k=.tup [.str (v_ N (r - 1)),.FG,.int (((m9 (λk'=>(qi a b T k').1 == r - 1) k).getD 0:Nat):Nat)]:=by
 unfold m_
 rw[al,h]
 rfl
theorem QH {a b c T k:Nat}(h:k < a+T*b+c):(qi a b T k).1 < a+b+c:=by
 rcases kY h with ⟨z1,z2⟩ | ⟨t,j,z1,z2,z3,z4⟩ | ⟨j,z1,z2,z3⟩
 ·rw[z2];simp only;omega
 ·rw[z4];simp only;omega
 ·rw[z3];simp only;omega
theorem Gg {FP TP:PV}{R:List PV}{kvs:List (Key×PV)}{n t:Nat}{nm:Str}{bd:Option Str}(hb:∀x,bd=some x->x∈six)(hR:R.length < 900)(hk:kvs.length < 900):
  turn (gT [4,5,6]) [4,5,6,7] dW (.tup [.int (n:Nat),F1 (.rw nm bd),.int (t:Nat)]) [some FP,some TP,some (.lst R),some (.dK kvs),none,none,none,none]=some [some FP,some TP,some (.lst (R++[.tup [.str nm,bdV bd t,.FG]])),some (.dK (jE kvs (.inl (n:Int)) (.int (R.length:Nat)))),none,none,none,none]:=by
 have h:=V_ (t:=t) hb
 have hR':R.length < 1000000:=by omega
 have hR2:R.length<=1000000:=by omega
 have hk':kvs.length < 1000000:=by omega
 unfold dW
 generalize mU=m,bdV bd t=BV at *
 simp only[F1]
 generalize QA bd=BP at *
 simp[bJ,h,hR',hR2,hk']
theorem Gh {FP TP:PV}{R:List PV}{kvs:List (Key×PV)}{n t r p:Nat}{nm:Str}{x y:PV}(hd:dF kvs (.inl (r:Int))=some (.int (p:Nat)))(hp:R[p]?=some (.tup [.str nm,x,y]))(hR:R.length < 900):
  turn (gT [4,5,6]) [4,5,6,7] dW (.tup [.int (n:Nat),F1 (.as r),.int (t:Nat)]) [some FP,some TP,some (.lst R),some (.dK kvs),none,none,none,none]=some [some FP,some TP,some (.lst (R++[.tup [.str nm,.FG,.int (p:Nat)]])),some (.dK kvs),none,none,none,none]:=by
 have hR':R.length < 1000000:=by omega
 have Ic:=cW hp
 have q:=e6
 unfold dW
 simp only[F1]
 simp[bJ,hd,Ic,hR',q]
def RI (N:List Pt)(a b T:Nat)(q:Nat)(kvs:List (Key×PV)):Prop:=kvs.length<=q/\∀i nm bd,N[i]?=some (.rw nm bd)->dF kvs (.inl ((i+1:Nat):Int))=(m9 (λk=>(qi a b T k).1 == i) q).map λk=>PV.int (k:Nat)
theorem Su {FP:PV}{N:List Pt}{a b c T lo:Nat}(hcom:my [FP,.int (T:Nat)]=some (.lst ((List.range (a+T*b+c)).map λk=>LI N (qi a b T k))))(hN:N.length=a+b+c)(hI:NF N)(FL:∀p∈N,Lo p)(hA:L7 N a b lo)(hT:lo<=T)(hL:a+T*b+c < 800):
  c7 [FP,.int (T:Nat)]=some (.lst ((List.range (a+T*b+c)).map (m_ N a b T))):=by
 generalize hLL:a+T*b+c=L at *
 obtain⟨⟨q,kvs⟩,⟨k1,k2,k3⟩,lp⟩:=iY (g:=gT [4,5,6]) (ds:=[4,5,6,7]) (body:=dW) (λk:Nat=>LI N (qi a b T k)) (λs:Nat×List (Key×PV)=>[some FP,some (.int (T:Nat)),some (.lst ((List.range s.1).map (m_ N a b T))),some (.dK s.2),none,none,none,none])
  (λys s=>ys=List.range' s.1 (L - s.1)/\s.1<=L/\RI N a b T s.1 s.2)
  (by
   rintro y ys s ⟨i1,i2,i3⟩
   obtain⟨q,kvs⟩:=s
   simp only at i1 i2 i3 ⊢
   have hq:q < L:=by
    rcases dv q L with z | z
    ·exact z
    ·rw[show L - q=0 by omega] at i1;cases i1
   rw[show L - q=(L - (q+1))+1 by omega,dE] at i1
   obtain⟨rfl,rfl⟩:=eD i1
   have hq':y < a+T*b+c:=by omega
   have IT:=QH hq'
   obtain⟨p,hp⟩:∃p,N[(qi a b T y).1]?=some p:=⟨_,ah (by omega)⟩
   have ML:p∈N:=bE hp
   have hit:LI N (qi a b T y)=.tup [.int (((qi a b T y).1+1:Nat):Nat),F1 p,.int ((qi a b T y).2:Nat)]:=by
    unfold LI
    rw[al,hp]
    rfl
   have hr:(List.range (y+1)).map (m_ N a b T)=(List.range y).map (m_ N a b T)++[m_ N a b T y]:=by rw[kA,cv];rfl
   have hRl:((List.range y).map (m_ N a b T)).length < 900:=by rw[ae,eA];omega
   have hi:=hI p ML
   cases p with
   | op=>cases hi
   | cl _ _=>cases hi
   | rw nm bd=>
    refine⟨(y+1,jE kvs (.inl (((qi a b T y).1+1:Nat):Int)) (.int (y:Nat))),⟨rfl,by omega,?_,?_⟩,?_⟩
    ·have:=Ge kvs (.inl (((qi a b T y).1+1:Nat):Int)) (.int (y:Nat))
     have:=i3.1
     simp only
     omega
    ·intro i nm' bd' LY
     simp only
     rw[CJ,uP]
     by_cases hx:(qi a b T y).1=i
     ·subst hx
      rw[bg rfl,bg (by simp)]
      rfl
     ·rw[ap (λz=>hx (by have:=Sum.inl.inj z;omega)),ap (by simp[hx])]
      exact i3.2 i nm' bd' LY
    ·have hb:=((FL _ ML).nm nm bd rfl).2
     have:=Gg (FP:=FP) (TP:=.int (T:Nat)) (n:=(qi a b T y).1+1) (t:=(qi a b T y).2) (nm:=nm) hb hRl (show kvs.length < 900 by have:=i3.1;omega)
     rw[hit,this]
     simp only
     rw[hr,Bf hp,ae,eA]
   | as r=>
    obtain⟨p,p1,p2,p3,p4,p5⟩:=QG (c:=c) hA hT hq' hp
    obtain⟨r1,r2,⟨nm,bd,r3⟩,r4⟩:=hA _ r hp
    have OV:m9 (λk'=>(qi a b T k').1 == r - 1) y=some p:=yr p1 (by simp[p2]) λk z1 z2=>by simp[p4 k z1 z2]
    have hd:dF kvs (.inl ((r:Nat):Int))=some (.int (p:Nat)):=by
     have:=i3.2 (r - 1) nm bd r3
     rw[show r - 1+1=r by omega,OV] at this
     exact this
    have hrp:((List.range y).map (m_ N a b T))[p]?=some (.tup [.str nm,bdV bd (qi a b T p).2,.FG]):=by
     rw[a6,dL p1,ge,Bf (by rw[p2];exact r3)]
    have hnm:v_ N (r - 1)=nm:=by
     unfold v_
     rw[al,r3]
     rfl
    refine⟨(y+1,kvs),⟨rfl,by omega,by have:=i3.1;simp only;omega,?_⟩,?_⟩
    ·intro i nm' bd' LY
     simp only
     rw[uP,ap]
     ·exact i3.2 i nm' bd' LY
     ·intro z
      have z':(qi a b T y).1=i:=by simpa using z
      rw[← z',hp] at LY
      cases LY
    ·rw[hit,Gh hd hrp hRl]
     simp only
     rw[hr,Ir hp,OV,hnm]
     rfl)
  (List.range' 0 L) (0,[]) ⟨rfl,da _,aw _,λi nm bd _=>rfl⟩
 have hq:q=L:=by
  have:(List.range' q (L - q)).length=0:=by rw[← k1];rfl
  rw[kX] at this
  simp only at k2
  omega
 subst hq
 simp only at lp
 rw[← d3] at lp
 have hb:lw [some FP,some (.int (T:Nat)),none,none,none,none,none,none]=some (.rt (.lst ((List.range q).map (m_ N a b T)))):=by
  unfold lw
  generalize my=m,dW=B,((List.range q).map λk=>LI N (qi a b T k))=CP,(List.range q).map (m_ N a b T)=RP at *
  simp only[List.range_zero,dP] at lp
  simp[hcom,MI,lp]
 unfold c7
 generalize lw=B at *
 simp[hb]
noncomputable def bf:Fm->List Nat
 | .f2 _ _ lo hi _=>List.range' lo (hi+1 - lo)
 | _=>[1]
noncomputable def p6 (p:Pt):Bool:=decide (OU p=(")" : Str))
theorem zK {l:List Pt}(h:NF l):l.filter p6=[]:=by
 rw[fF]
 intro p hp z
 exact(Ea (h p hp)).2 (gi z)
theorem Wa {f:Fm}(hl:(parts f).length < 20):iC [tP (parts f)]=some (match (parts f).filter p6 with | []=>.FG | p::_=>F1 p):=by
 have hc:=cz (env:=[none]) (g:=gN 0) (t:=iB) (f:=jT) F1 F1 p6 (parts f) λp _=>⟨[some (F1 p)],rfl,by
  obtain⟨r,e⟩:=J0 p
  rw[e]
  unfold p6
  by_cases q:OU p=(")" : Str)
  ·simp[iB,q]
  ·simp[iB,q],λ_=>by rfl⟩
 have ht:tP (parts f)=.tup ((parts f).map F1):=rfl
 have Tb:(parts f).length<=1000000:=by omega
 have Si:((parts f).filter p6).length<=1000000:=cw (dc _ _) Tb
 rw[ht]
 unfold iC vW
 generalize iB=cc,jT=ce at *
 have RE:((parts f).map F1).length<=1000000:=by rw[ae];exact Tb
 generalize (parts f).map F1=PP at *
 cases q:(parts f).filter p6 with
 | nil=>
  rw[q] at hc
  simp only[dP] at hc
  simp[MI,RE,hc]
 | cons p ps=>
  rw[q] at hc Si
  have S4:(0:Int) < ((ps.length:Int)+1):=by omega
  simp only[ag] at hc
  have hfl':ps.length+1<=1000000:=by simpa using Si
  have Ic:F0 (F1 p::ps.map F1) 0=some (F1 p):=cW (k:=0) rfl
  simp[MI,RE,hc,S4,hfl',Ic]
theorem Gi {f:Fm}(hf:Yf f)(hw:LU f)(hl:(parts f).length < 20):gU [tP (parts f)]=some (.lst ((bf f).map λk=>.int (k:Nat))):=by
 have he:=Wa hl
 unfold gU xW
 cases hw with
 | @w0 A hA=>
  have h1:(parts (.f0 A)).filter p6=[]:=zK hf.1
  rw[h1] at he
  generalize tP (parts (.f0 A))=FP,iC=m at *
  simp[he,bf]
 | @w2 A B lo hi C=>
  obtain⟨h1,h2,h3,h4,h5,h6,h7⟩:=hf
  have Si:(parts (.f2 A B lo hi C)).filter p6=[.cl lo hi]:=by
   have n1:p6 .op=false:=by decide +kernel
   have n2:p6 (.cl lo hi)=true:=by unfold p6;exact br rfl
   show (A++.op::(B++.cl lo hi::C)).filter p6=_
   rw[eL,fS,n1,eL,fS,n2,zK h1,zK h2,zK h3]
   rfl
  rw[Si] at he
  generalize tP (parts (.f2 A B lo hi C))=FP,iC=m at *
  have k1:(lo:Int)<=(hi:Int)+1:=by omega
  have k2:(hi:Int)+1<=1000000:=by omega
  have k3:((hi:Int)+1 - (lo:Int)).toNat=hi+1 - lo:=by omega
  simp[he,bf,F1,k1,k2,k3]
abbrev LET:Str := "abcdefghijklmnopqrstuvwxyz"
noncomputable def isLetter (x:Str):Bool:=decide (x.length=1)&&!(Builtin.Str.occurrences LET x 0 LET.length 1).isEmpty
noncomputable def gq:List Str->Bool
 | w::r=>decide (w=("carry" : Str))&&decide (0 < r.length)&&r.all isLetter
 | []=>false
noncomputable def pairOf (C:Str->Bool)(x:Str):Bool:=match x.cps.toList with
 | [a,b]=>C ⟨#[a]⟩&&C ⟨#[b]⟩
 | _=>false
noncomputable def nj (C:Str->Bool):List Str->Bool
 | w::r=>decide (w=("one" : Str))&&decide (0 < r.length)&&r.all (pairOf C)
 | []=>false
noncomputable def ur (C:Str->Bool)(x:Str):Bool:=isLetter x&&!C x
noncomputable def pL (C:Str->Bool)(x:Str):Bool:=decide (2<=x.length)&&decide (x.length<=4)&&x.cps.toList.all λc=>ur C ⟨#[c]⟩
noncomputable def nq (C:Str->Bool)(cs ws:oP):Bool:=decide (ws.length=2)&&(ws.all (λw=>decide (w∈cs))||ws.all (ur C))
noncomputable def eY (C:Str->Bool)(cs:oP):List Str->Bool
 | w::r=>
  if w=("carry" : Str) then gq (w::r)
  else if w=("one" : Str) then nj C (w::r)
  else if w=("long" : Str)\/w=("either" : Str) then decide (0 < r.length)&&r.all λx=>decide (x∈cs)
  else if w=("begin" : Str)\/w=("split" : Str) then decide (0 < r.length)&&r.all (pL C)
  else if w=("run" : Str) then decide (r.length=1)&&r.all λx=>decide (x=("never" : Str)\/x=("may" : Str)\/x=("must" : Str))
  else decide (w=("alike" : Str))&&nq C cs r
 | []=>false
def Few (ws:oP):Prop:=ws.length<=1000/\∀x∈ws,x.length<=1000
noncomputable def L8 (ks:oP)(x:Str):Bool:=decide (x∈ks)
theorem wg {x:Str}(h:x.length<=1000):dz [.str x]=some (.bl (isLetter x)):=by
 have h':x.length<=1000000:=by omega
 simp[dz,qY,eqQ,Kt,h',isLetter,MV]
 by_cases e:(x.length:Int)=1
 ·have e':x.length=1:=by omega
  simp[e,e']
 ·have e':¬ x.length=1:=by omega
  simp[e,e']
theorem sO {α:Type}(f:α->PV)(w:α)(r:List α):gb ((w::r).map f) (some 1) none=r.map f:=by
 unfold gb
 have h1:HT.IF ((w::r).map f).length 0 (some ((1:Nat):Int))=1:=by
  rw[HT.IG];simp
 have ZI:HT.IF ((w::r).map f).length 0 (some 1)=1:=h1
 rw[ZI,HT.JE]
 simp only[ag,List.drop_succ_cons,ny]
 exact em (by simp)
theorem mC {α:Type}(p:α->Bool):∀l:List α,bools (l.map λx=>PV.bl (p x))=some (l.map p)
 | []=>rfl
 | x::l=>by simp[mC p l]
theorem Gj {w:Str}{r:oP}(hf:Few (w::r)):fj [.lst ((w::r).map .str)]=some (.bl (gq (w::r))):=by
 have hl:r.length<=1000:=by have:=hf.1;simp at this;omega
 have hc:bR [none] (gN 0) bG j7 (r.map .str)=some (r.map λx=>.bl (isLetter x)):=
  du _ _ r λy hy=>⟨_,rfl,by simp[j7,wg (hf.2 y (ac _ hy))]⟩
 have h0:F0 ((w::r).map PV.str) 0=some (.str w):=cW (k:=0) rfl
 have ht:=sO PV.str w r
 simp only[ag] at h0 ht
 simp[fj,sy,h0,ht,eqQ,Kt,gq]
 by_cases e:w=("carry" : Str)
 ·subst e
  simp
  by_cases e2:(1:Int) < (r.length:Int)+1
  ·have e3:0 < r.length:=by omega
   have NU:r.length<=1000000:=by omega
   simp[e2,e3,hc,NU,mC]
  ·have e3:¬ 0 < r.length:=by omega
   simp[e2,e3]
 ·simp[e]
theorem MK {x:Str}(h:x.length=2):∃a b,x.cps.toList=[a,b]:=by
 have h':x.cps.toList.length=2:=by rw[ci];exact h
 match hx:x.cps.toList,h' with
 | [a,b],_=>exact⟨a,b,rfl⟩
theorem Sv {ks:oP}{x:Str}(h:x.length<=1000):lr [.dK (F8 ks),.str x]=some (.bl (pairOf (L8 ks) x)):=by
 have h':x.length<=1000000:=by omega
 simp[lr,u6,h']
 by_cases e:(x.length:Int)=2
 ·obtain⟨a,c,hs⟩:=MK (x:=x) (by omega)
  have a0:F0 x.cps.toList 0=some a:=by rw[hs];exact cW (k:=0) rfl
  have a1:F0 x.cps.toList 1=some c:=by rw[hs];exact cW (k:=1) rfl
  have ep:pairOf (L8 ks) x=(L8 ks ⟨#[a]⟩&&L8 ks ⟨#[c]⟩):=by unfold pairOf;rw[hs]
  rw[ep]
  simp[e,a0,a1,qX,L8]
  by_cases m:(⟨#[a]⟩:Str)∈ks <;> simp[m]
 ·have e1:pairOf (L8 ks) x=false:=by
   unfold pairOf
   split
   ·rename_i a c hs
    have:x.cps.toList.length=2:=by rw[hs];rfl
    rw[ci] at this
    exact absurd (show ((x.length:Nat):Int)=2 by unfold Str.length;omega) e
   ·rfl
  simp[e,e1]
theorem MN {ks:oP}{w:Str}{r:oP}(hf:Few (w::r)):gB [.dK (F8 ks),.lst ((w::r).map .str)]=some (.bl (nj (L8 ks) (w::r))):=by
 have hl:r.length<=1000:=by have:=hf.1;simp at this;omega
 have hc:bR [none,some (.dK (F8 ks))] (gN 0) bG mL (r.map .str)=some (r.map λx=>.bl (pairOf (L8 ks) x)):=
  du _ _ r λy hy=>⟨_,rfl,by simp[mL,Sv (hf.2 y (ac _ hy))]⟩
 have h0:F0 ((w::r).map PV.str) 0=some (.str w):=cW (k:=0) rfl
 have ht:=sO PV.str w r
 simp only[ag] at h0 ht
 simp[gB,u9,h0,ht,nj]
 by_cases e:w=("one" : Str)
 ·subst e
  simp
  by_cases e2:(1:Int) < (r.length:Int)+1
  ·have e3:0 < r.length:=by omega
   have NU:r.length<=1000000:=by omega
   simp[e2,e3,hc,NU,mC]
  ·have e3:¬ 0 < r.length:=by omega
   simp[e2,e3]
 ·simp[e]
theorem Iu {ks:oP}{x:Str}(h:x.length<=1000):mO [.dK (F8 ks),.str x]=some (.bl (ur (L8 ks) x)):=by
 simp[mO,zq,wg h,ur,qX,L8]
 cases isLetter x <;> simp
theorem Iv (x:Str):P7 x=x.cps.toList.map λc=>PV.str ⟨#[c]⟩:=rfl
theorem J4 {ks:oP}{x:Str}(h:x.length<=1000):lu [.dK (F8 ks),.str x]=some (.bl (pL (L8 ks) x)):=by
 have h':x.length<=1000000:=by omega
 have hl:x.cps.toList.length=x.length:=ci
 have hc:bR [none,some (.dK (F8 ks))] (gN 0) bG mQ (P7 x)=some (x.cps.toList.map λc=>.bl (ur (L8 ks) ⟨#[c]⟩)):=by
  rw[Iv]
  exact du _ _ _ λy hy=>⟨_,rfl,by simp[mQ,Iu (ks:=ks) (x:=⟨#[y]⟩) (by show 1<=1000;decide)]⟩
 have hcl:(P7 x).length<=1000000:=by unfold P7;rw[ae,hl];exact h'
 simp[lu,u_,h',pL]
 by_cases e:(2:Int)<=x.length
 ·have e1:2<=x.length:=by omega
  simp[e,e1]
  by_cases e2:(x.length:Int)<=4
  ·have e3:x.length<=4:=by omega
   simp[e2,e3,hc,hcl,mC]
  ·have e3:¬ x.length<=4:=by omega
   simp[e2,e3]
 ·have e1:¬ 2<=x.length:=by omega
  simp[e,e1]
theorem Gk (x:Str):∀cs:List Str,((cs.map PV.str).any λy=>MG y (.str x))=decide (x∈cs)
 | []=>by simp
 | c::r=>by
  have ih:=Gk x r
  rw[ag,cy,ih]
  by_cases h:c=x
  ·subst h;simp[MG]
  ·have h':¬ x=c:=λe=>h e.symm
   simp[MG,h,h']
theorem P_ {ks cs ws:oP}(hf:Few ws):gO [.dK (F8 ks),.lst (cs.map .str),.lst (ws.map .str)]=some (.bl (nq (L8 ks) cs ws)):=by
 have hl:ws.length<=1000000:=by have:=hf.1;omega
 have h1:bR [none,some (.lst (cs.map .str))] (gN 0) bG iU (ws.map .str)=some (ws.map λx=>.bl (decide (x∈cs))):=
  du _ _ ws λy hy=>⟨_,rfl,by simp[iU,oJ]⟩
 have h2:bR [none,some (.dK (F8 ks))] (gN 0) bG iW (ws.map .str)=some (ws.map λx=>.bl (ur (L8 ks) x)):=
  du _ _ ws λy hy=>⟨_,rfl,by simp[iW,Iu (hf.2 y hy)]⟩
 simp[gO,pD,nq]
 by_cases e:(ws.length:Int)=2
 ·have e':ws.length=2:=by omega
  simp[e,e',h1,h2,hl,mC]
  cases (ws.all λx=>decide (x∈cs)) <;> rfl
 ·have e':¬ ws.length=2:=by omega
  simp[e,e']
theorem Qa (ks:oP):(F8 ks).map (λkv=>DR kv.1)=ks.map PV.str:=by
 unfold F8;rw[cn];rfl
theorem yw {f g:MR.Env->Option Out}{env e:MR.Env}(h:f env=some (.nx e)):aF f g env=g e:=by simp[h]
theorem wj {c:MR.Env->Option Bool}{f g:MR.Env->Option Out}{env:MR.Env}(h:c env=some false):aF (F9 c f GI) g env=g env:=by simp[h]
theorem wu {c:MR.Env->Option Bool}{f g:MR.Env->Option Out}{env:MR.Env}{p:PV}(h:c env=some true)(h':f env=some (.rt p)):aF (F9 c f GI) g env=some (.rt p):=by simp[h,h']
theorem mD {env:MR.Env}{w:Str}(h:bV 3 env=some (.str w))(s:Str):tV (b2 eqQ (bV 3) (bC (.str s))) env=some (decide (w=s)):=by
 simp only[XC,rR,h,bq,yR,LR,Ik,ge]
theorem w6 {env:MR.Env}{w:Str}(h:bV 3 env=some (.str w))(s t:Str):tO (tV (b2 eqQ (bV 3) (bC (.str s)))) (tV (b2 eqQ (bV 3) (bC (.str t)))) env=some (decide (w=s\/w=t)):=by
 rw[XD,mD h,mD h]
 by_cases q:w=s <;> simp[q]
theorem oM {f:MR.Env->Option PV}{env:MR.Env}{p:PV}(h:f env=some p):aN f env=some (.rt p):=by simp[h]
theorem MT {env:MR.Env}{FH:List (Option Nat)}{ce:MR.Env->Option PV}{r:oP}{q:Str->Bool}(h4:bV 4 env=some (.lst (r.map .str)))(hl:r.length<=1000000)(hc:bR (pU FH env) (gN 0) bG ce (r.map .str)=some (r.map λx=>.bl (q x))):
  fQ (b2 (gR λi j=>decide (j < i)) (b1 F3 (bV 4)) (Fh 0)) (b1 oF (bF FH (iV (bV 4)) (gN 0) bG ce)) env=some (.bl (decide (0 < r.length)&&r.all q)):=by
 have hbl:=mC q r
 rw[Ai,rR,Jr,h4,Jr,O2,XQ,h4]
 simp only[bq,F3,yR,gR,MI,ae,hl,g9,hc,oF,hbl,ge]
 cases r with
 | nil=>rfl
 | cons x r=>
  have h1:(0:Int) < ((x::r).length:Int):=by simp
  simp only[h1,decide_true]
  simp
theorem Sw {ks ps:oP}{w:Str}{r:oP}(hf:Few (w::r))(hk:ks.length<=100000)(hp:ps.length<=100000):
  qu [.dK (F8 ks),.dK (F8 ps),.lst ((w::r).map .str)]=some (.bl (eY (L8 ks) (ks++ps) (w::r))):=by
 have hl:r.length<=1000:=by have:=hf.1;simp at this;omega
 have NU:r.length<=1000000:=by omega
 have rf:Few r:=⟨hl,λx hx=>hf.2 x (ac _ hx)⟩
 have h0:F0 ((w::r).map PV.str) 0=some (.str w):=cW (k:=0) rfl
 have ht:=sO PV.str w r
 have hC:=Gj hf
 have hO:=MN (ks:=ks) hf
 have hU:=P_ (ks:=ks) (cs:=ks++ps) rf
 have c1:bR [none,some (.lst ((ks++ps).map .str))] (gN 0) bG qZ (r.map .str)=some (r.map λx=>.bl (decide (x∈ks++ps))):=
  du _ _ r λy hy=>⟨_,rfl,by simp only[qZ,b2,bV,LS];simp only[List.set,i5,c6,bq,oJ,ge]⟩
 have c2:bR [none,some (.dK (F8 ks))] (gN 0) bG q8 (r.map .str)=some (r.map λx=>.bl (pL (L8 ks) x)):=
  du _ _ r λy hy=>⟨_,rfl,by simp[q8,J4 (rf.2 y hy)]⟩
 have hz:ks.length+ps.length<=1000000:=by omega
 generalize MZ:PV.lst ((w::r).map .str)=row at hC hO
 generalize hcs:ks++ps=cs at c1 hU
 have s1:aK 3 (b2 FI (bV 2) (Fh 0)) [some (.dK (F8 ks)),some (.dK (F8 ps)),some row,none,none,none]=some (.nx [some (.dK (F8 ks)),some (.dK (F8 ps)),some row,some (.str w),none,none]):=by
  subst MZ
  simp only[Rx,rR,bV,c6,i5,bq,yR,FI,h0,List.set]
 have s2:aK 4 (LF (bV 2) (oS (Fh 1)) oN) [some (.dK (F8 ks)),some (.dK (F8 ps)),some row,some (.str w),none,none]=some (.nx [some (.dK (F8 ks)),some (.dK (F8 ps)),some row,some (.str w),some (.lst (r.map .str)),none]):=by
  subst MZ
  simp[-List.map_cons,ht]
 have s3:aK 5 (b2 b7 (b1 uG (bV 0)) (b1 uG (bV 1))) [some (.dK (F8 ks)),some (.dK (F8 ps)),some row,some (.str w),some (.lst (r.map .str)),none]=some (.nx [some (.dK (F8 ks)),some (.dK (F8 ps)),some row,some (.str w),some (.lst (r.map .str)),some (.lst (cs.map .str))]):=by
  subst hcs
  simp[Qa,zf,hz]
 have g3:bV 3 [some (.dK (F8 ks)),some (.dK (F8 ps)),some row,some (.str w),some (.lst (r.map .str)),some (.lst (cs.map .str))]=some (.str w):=rfl
 have g4:bV 4 [some (.dK (F8 ks)),some (.dK (F8 ps)),some row,some (.str w),some (.lst (r.map .str)),some (.lst (cs.map .str))]=some (.lst (r.map .str)):=rfl
 have fb:uK [some (.dK (F8 ks)),some (.dK (F8 ps)),some row,none,none,none]=some (.rt (.bl (eY (L8 ks) cs (w::r)))):=by
  have hC':aN (aH fj (Fn 2 az)) [some (.dK (F8 ks)),some (.dK (F8 ps)),some row,some (.str w),some (.lst (r.map .str)),some (.lst (cs.map .str))]=_:=oM (by rw[Fg];exact hC)
  have hO':aN (aH gB (Fn 0 (Fn 2 az))) [some (.dK (F8 ks)),some (.dK (F8 ps)),some row,some (.str w),some (.lst (r.map .str)),some (.lst (cs.map .str))]=_:=oM (by rw[Fg];exact hO)
  have a1:=MT (FH:=[none,some 5]) (q:=λx=>decide (x∈cs)) g4 NU c1
  have a2:=MT (FH:=[none,some 0]) (q:=λx=>pL (L8 ks) x) g4 NU c2
  generalize hE:[some (PV.dK (F8 ks)),some (.dK (F8 ps)),some row,some (.str w),some (.lst (r.map .str)),some (.lst (cs.map .str))]=E at s3 g3 g4 hC' hO' a1 a2
  unfold uK
  rw[yw s1,yw s2,yw s3]
  by_cases n1:w=("carry" : Str)
  ·rw[wu (by rw[mD g3,br n1]) hC']
   simp only[eY,bg n1]
  rw[wj (by rw[mD g3,a5 n1])]
  by_cases n2:w=("one" : Str)
  ·rw[wu (by rw[mD g3,br n2]) hO']
   simp only[eY,ap n1,bg n2]
  rw[wj (by rw[mD g3,a5 n2])]
  by_cases n3:w=("long" : Str)\/w=("either" : Str)
  ·rw[wu (by rw[w6 g3,br n3]) (oM a1)]
   simp only[eY,ap n1,ap n2,bg n3]
  rw[wj (by rw[w6 g3,a5 n3])]
  by_cases n4:w=("begin" : Str)\/w=("split" : Str)
  ·rw[wu (by rw[w6 g3,br n4]) (oM a2)]
   simp only[eY,ap n1,ap n2,ap n3,bg n4]
  rw[wj (by rw[w6 g3,a5 n4])]
  by_cases n5:w=("run" : Str)
  ·have a3:fQ (b2 eqQ (b1 F3 (bV 4)) (Fh 1)) (b2 LS (b2 FI (bV 4) (Fh 0)) (bC t7)) E=some (.bl (decide (r.length=1)&&r.all λx=>decide (x=("never" : Str)\/x=("may" : Str)\/x=("must" : Str)))):=by
    rw[Ai,rR,Jr,g4,rR,rR,g4]
    clear hE
    match r with
    | []=>rfl
    | [x]=>
     have h8:MV (.str x) t7=some (decide (x=("never" : Str)\/x=("may" : Str)\/x=("must" : Str))):=by
      have q:=Gk x ["never","may","must"]
      simp only[ag,dP] at q
      unfold t7 MV
      simp only[dY,gX,List.all_nil,Bool.and_self,and_self,g9,q]
      simp
     have h9:F0 [PV.str x] 0=some (.str x):=cW (k:=0) rfl
     simp[h9,h8]
    | x::y::r'=>
     have:¬ ((r'.length:Int)+1+1=1):=by omega
     rfl
   rw[wu (by rw[mD g3,br n5]) (oM a3)]
   simp only[eY,ap n1,ap n2,ap n3,ap n4,bg n5]
  rw[wj (by rw[mD g3,a5 n5])]
  refine oM ?_
  have e:eY (L8 ks) cs (w::r)=(decide (w=("alike" : Str))&&nq (L8 ks) cs r):=by
   simp only[eY,ap n1,ap n2,ap n3,ap n4,ap n5]
  rw[e,Ai,rR,g3]
  simp only[bq,yR,LR,Ik,ge]
  by_cases n6:w=("alike" : Str)
  ·subst hE
   simp[n6,hU]
  ·simp[n6]
 subst hcs
 simp[qu,fb]
noncomputable def fJ (ws:oP):PV:=.lst (ws.map .str)
noncomputable def cL (rs:List (List Str)):List PV:=rs.map fJ
theorem Iw {kind:Str}{q:PV}{row:PV}:∀(ws ks:oP),ks.length+ws.length < 1000000->
  bw (gN 4) [4] lK (ws.map .str) [some (.str kind),some q,some (.dK (F8 ks)),some row,none]=some (.nx [some (.str kind),some q,some (.dK (F8 (lg ks ws))),some row,none])
 | [],ks,_=>rfl
 | w::ws,ks,h=>by
  have h1:(F8 ks).length < 1000000:=by rw[zf];simp at h;omega
  have h2:=FT ks w
  have ih:=Iw (kind:=kind) (q:=q) (row:=row) ws (pW ks w) (by simp at h;omega)
  have e:lg ks (w::ws)=lg (pW ks w) ws:=rfl
  rw[e,← ih]
  simp[bw,lK,h1,R5]
theorem Gm {kind:Str}{q:PV}:∀(rs:List (List Str)) (ks:oP),(∀ws∈rs,ws≠[])->ks.length+total rs < 1000000->
  bw (gN 3) [3,4] d_ (cL rs) [some (.str kind),some q,some (.dK (F8 ks)),none,none]=some (.nx [some (.str kind),some q,some (.dK (F8 (rs.foldl (fH kind) ks))),none,none])
 | [],ks,_,_=>rfl
 | []::rs,ks,HU,_=>absurd rfl (HU [] af)
 | (c::r)::rs,ks,HU,h=>by
  have ht:ks.length+(r.length+1)+total rs < 1000000:=by unfold total at h ⊢;simp at h;omega
  have h0:F0 ((c::r).map PV.str) 0=some (.str c):=cW (k:=0) rfl
  have hc:=sO PV.str c r
  simp only[ag] at h0 hc
  have key:d_ [some (.str kind),some q,some (.dK (F8 ks)),some (fJ (c::r)),none]=some (.nx [some (.str kind),some q,some (.dK (F8 (fH kind ks (c::r)))),some (fJ (c::r)),none]):=by
   by_cases e:c=kind
   ·subst e
    have hi:=Iw (kind:=c) (q:=q) (row:=fJ (c::r)) r ks (by omega)
    simp only[fJ,ag] at hi
    simp[d_,fJ,h0,hc,fH,hi]
   ·simp[d_,fJ,h0,hc,fH,e]
  have hl:(fH kind ks (c::r)).length<=ks.length+(r.length+1):=by
   show (if c=kind then lg ks r else ks).length<=_
   split
   ·have:=vU r ks;omega
   ·omega
  have ih:=Gm (kind:=kind) (q:=q) rs (fH kind ks (c::r)) (λws YA=>HU ws (ac _ YA)) (by omega)
  rw[ft,← ih]
  show bw (gN 3) [3,4] d_ (fJ (c::r)::cL rs) _=_
  simp[bw,key]
theorem qJ {kind:Str}{rs:List (List Str)}(HU:∀ws∈rs,ws≠[])(h:total rs < 1000000):bK [.str kind,.lst (cL rs)]=some (.dK (F8 (tell kind rs))):=by
 have hl:=Gm (kind:=kind) (q:=.lst (cL rs)) rs [] HU (by simpa using h)
 have e:([]:List (Key×PV))=F8 []:=rfl
 simp[bK,t8,e,hl,tell]
noncomputable def xg (t:Str):List Str->Str
 | c::x::_=>if c=("run" : Str) then x else t
 | _=>t
noncomputable def xj (rs:List (List Str)):Str:=rs.foldl xg ("never" : Str)
theorem Wb {rs:List (List Str)}(HU:∀ws∈rs,ws≠[])(hrun:∀r,(("run" : Str)::r)∈rs->r≠[]):kI [.lst (cL rs)]=some (.str (xj rs)):=by
 have hl:=zb (g:=gN 2) (ds:=[2]) (body:=lq) fJ (λs:Str=>[some (.lst (cL rs)),some (.str s),none]) xg rs ("never" : Str) (λws YA s=>by
  cases ws with
  | nil=>exact absurd rfl (HU _ YA)
  | cons c r=>
   have h0:F0 ((c::r).map PV.str) 0=some (.str c):=cW (k:=0) rfl
   simp only[ag] at h0
   by_cases e:c=("run" : Str)
   ·cases r with
    | nil=>subst e;exact absurd rfl (hrun _ YA)
    | cons x r=>
     subst e
     have h1:F0 (((("run" : Str)::x::r)).map PV.str) 1=some (.str x):=cW (k:=1) rfl
     simp only[ag] at h0 h1
     exact⟨_,_,rfl,by simp[lq,fJ,h0,h1];rfl,by (first | rfl | simp[xg])⟩
   ·refine⟨_,_,rfl,by simp[lq,fJ,h0,e];rfl,?_⟩
    cases r <;> (first | rfl | simp[xg,e]))
 simp[kI,xV,xj]
 unfold cL at hl ⊢
 simp[hl]
noncomputable def Gn (ks:List (Str×Str))(x:Str×Str):List (Str×Str):=if x∈ks then ks else ks++[x]
noncomputable def jb (ks:List (Str×Str)):List Str->List (Str×Str)
 | c::x::y::_=>if c=("alike" : Str) then Gn ks (x,y) else ks
 | _=>ks
noncomputable def M0 (rs:List (List Str)):List (Str×Str):=rs.foldl jb []
noncomputable def pk (x:Str×Str):List Key:=[Sum.inr x.1,Sum.inr x.2]
theorem M3 {x y:Str×Str}(h:pk x=pk y):x=y:=by
 obtain⟨a,b⟩:=x
 obtain⟨c,d⟩:=y
 simp[pk] at h
 rw[h.1,h.2]
noncomputable def NO (ks:List (Str×Str)):List (List Key×PV):=ks.map λx=>(pk x,PV.bl true)
theorem J5 (ks:List (Str×Str)):(NO ks).length=ks.length:=by simp[NO]
theorem Sx (ks:List (Str×Str))(x:Str×Str):jE (NO ks) (pk x) (.bl true)=NO (Gn ks x):=by
 have NH:((NO ks).any λkv=>decide (kv.1=pk x))=decide (x∈ks):=by
  unfold NO
  rw[ot]
  induction ks with
  | nil=>simp
  | cons k r ih=>
   rw[cy,ih]
   by_cases h:k=x
   ·subst h;simp
   ·have h':¬ x=k:=λe=>h e.symm
    have hk:¬ pk k=pk x:=λe=>h (M3 e)
    simp[hk,h']
 unfold jE Gn
 rw[NH]
 by_cases h:x∈ks
 ·rw[bg (by simpa using h),bg h]
  unfold NO
  rw[cn]
  refine cK λy _=>?_
  by_cases e:y=x
  ·subst e;simp
  ·have:¬ pk y=pk x:=λz=>e (M3 z)
   simp[this]
 ·rw[ap (by simpa using h),ap h]
  unfold NO
  simp
theorem Qc (ks:List (Str×Str))(x:Str×Str):(Gn ks x).length<=ks.length+1:=by
 unfold Gn;split <;> simp
theorem Gp (ks:List (Str×Str))(ws:oP):(jb ks ws).length<=ks.length+1:=by
 unfold jb
 split
 ·split
  ·exact Qc _ _
  ·exact ei _ _
 ·exact ei _ _
theorem ye {ks:List (Str×Str)}{c:Str}{r:oP}(e:¬ c=("alike" : Str)):jb ks (c::r)=ks:=by
 cases r with
 | nil=>rfl
 | cons x r=>
  cases r with
  | nil=>rfl
  | cons y r=>simp[jb,e]
theorem Gq {q:PV}:∀(rs:List (List Str)) (ks:List (Str×Str)),(∀ws∈rs,ws≠[])->(∀r,(("alike" : Str)::r)∈rs->2<=r.length)->ks.length+rs.length < 1000000->
  bw (gN 2) [2] fc (cL rs) [some q,some (.dT (NO ks)),none]=some (.nx [some q,some (.dT (NO (rs.foldl jb ks))),none])
 | [],ks,_,_,_=>rfl
 | []::rs,ks,HU,_,_=>absurd rfl (HU [] af)
 | (c::r)::rs,ks,HU,hal,h=>by
  have hk:(NO ks).length < 1000000:=by rw[J5];omega
  have key:fc [some q,some (.dT (NO ks)),some (fJ (c::r))]=some (.nx [some q,some (.dT (NO (jb ks (c::r)))),some (fJ (c::r))]):=by
   by_cases e:c=("alike" : Str)
   ·subst e
    have h2:=hal r af
    match r,h2 with
    | x::y::r,_=>
     have h0:F0 (((("alike" : Str)::x::y::r)).map PV.str) 0=some (.str "alike"):=cW (k:=0) rfl
     have h1:F0 (((("alike" : Str)::x::y::r)).map PV.str) 1=some (.str x):=cW (k:=1) rfl
     have h2:F0 (((("alike" : Str)::x::y::r)).map PV.str) 2=some (.str y):=cW (k:=2) rfl
     have hp:=Sx ks (x,y)
     simp only[ag] at h0 h1 h2
     simp only[pk] at hp
     simp[fc,fJ,h0,h1,h2,hk,jb,hp]
   ·have h0:F0 ((c::r).map PV.str) 0=some (.str c):=cW (k:=0) rfl
    simp only[ag] at h0
    simp[fc,fJ,h0,e,ye e]
  have hl:=Gp ks (c::r)
  have ih:=Gq (q:=q) rs (jb ks (c::r)) (λws YA=>HU ws (ac _ YA)) (λr hr=>hal r (ac _ hr)) (by simp at h;omega)
  rw[ft,← ih]
  show bw (gN 2) [2] fc (fJ (c::r)::cL rs) _=_
  simp[bw,key]
theorem Qd {rs:List (List Str)}(HU:∀ws∈rs,ws≠[])(hal:∀r,(("alike" : Str)::r)∈rs->2<=r.length)(h:rs.length < 1000000):jf [.lst (cL rs)]=some (.dT (NO (M0 rs))):=by
 have hl:=Gq (q:=.lst (cL rs)) rs [] HU hal (by simpa using h)
 have e:([]:List (List Key×PV))=NO []:=rfl
 simp[jf,u5,e,hl,M0]
end Lake.My
namespace Lake.My
open PySem
noncomputable def isAt (x:Str)(c i:Nat):Bool:=decide (x.cps.toList[i]?=some c)
theorem Bg (x:Str)(c limit:Nat):∀(n a:Nat) (st:Array Nat×Nat),st.2<=a->st.1.size+n<=limit->
  (forIn (List.range' a n) st (StrLaws.occBody x ⟨#[c]⟩ x.length limit)).run.fst.toList=st.1.toList++(List.range' a n).filter (isAt x c)
 | 0,a,st,_,_=>by simp
 | n+1,a,st,h1,h2=>by
  rw[dE,iA]
  unfold StrLaws.occBody
  have hs:=StrLaws.subAt_one x c a
  by_cases h:x.cps.toList[a]?=some c
  ·obtain⟨h3,h4⟩:=hs.mpr h
   rw[bg ⟨⟨⟨by omega,h1⟩,h3⟩,h4⟩]
   have ih:=Bg x c limit n (a+1) (st.1.push a,a+(⟨#[c]⟩:Str).length) (by show a+1<=a+1;omega) (by simp;omega)
   show (forIn (List.range' (a+1) n) (st.1.push a,a+(⟨#[c]⟩:Str).length) (StrLaws.occBody x ⟨#[c]⟩ x.length limit)).run.fst.toList=_
   rw[ih,fS]
   have hi:isAt x c a=true:=by simp[isAt,h]
   rw[bg hi]
   simp
  ·rw[ap (λz=>h (hs.mp ⟨z.1.2,z.2⟩))]
   have ih:=Bg x c limit n (a+1) (st.1,st.2) (by show st.2<=a+1;omega) (by show st.1.size+n<=limit;omega)
   show (forIn (List.range' (a+1) n) (st.1,st.2) (StrLaws.occBody x ⟨#[c]⟩ x.length limit)).run.fst.toList=_
   rw[ih,fS]
   have hi:isAt x c a=false:=a5 h
   rw[ap (by rw[hi];exact aT)]
theorem SJ (x:Str)(c:Nat):Builtin.Str.occurrences x ⟨#[c]⟩ 0 x.length (x.length+1)=(List.range' 0 (x.length+1)).filter (isAt x c):=by
 rw[StrLaws.occ_eq,Bg x c (x.length+1) (x.length+1 - 0) 0 (#[],0) (aw _) (by simp)]
 simp
noncomputable def OB (c:Nat):List Nat->List (List Nat)
 | []=>[[]]
 | a::l=>if a=c then []::OB c l else match OB c l with
  | p::ps=>(a::p)::ps
  | []=>[[a]]
theorem zM (c:Nat):∀l:List Nat,∃p ps,OB c l=p::ps
 | []=>⟨_,_,rfl⟩
 | a::l=>by
  obtain⟨p,ps,e⟩:=zM c l
  unfold OB
  split
  ·exact⟨_,_,rfl⟩
  ·rw[e];exact⟨_,_,rfl⟩
noncomputable def glue (w:oz):List (List Nat)->List (List Nat)
 | p::ps=>(w++p)::ps
 | []=>[w]
theorem p7 (x:Str)(c:Nat):∀(n a b:Nat),b+n=x.length->a<=b->(StrLaws.partsFrom x 1 a ((List.range' b (n+1)).filter (isAt x c))).map (λp=>p.cps.toList)=glue ((x.cps.toList.drop a).take (b - a)) (OB c (x.cps.toList.drop b))
 | 0,a,b,h,hab=>by
  have hl:x.cps.toList.length=x.length:=ci
  have hi:isAt x c b=false:=by
   unfold isAt
   rw[bo (by omega)]
   simp
  rw[dE,fS,ap (by rw[hi];exact aT)]
  simp only[List.range'_zero,List.filter_nil,StrLaws.partsFrom,ag,dP]
  rw[StrLaws.strSub_toList,List.drop_eq_nil_of_le (by omega:x.cps.toList.length<=b)]
  simp only[OB,glue,cf]
  rw[show x.length - a=b - a by omega]
 | n+1,a,b,h,hab=>by
  have hl:x.cps.toList.length=x.length:=ci
  have hb:b < x.cps.toList.length:=by omega
  rw[dE,fS]
  have ed:x.cps.toList.drop b=x.cps.toList[b]::x.cps.toList.drop (b+1):=eT hb
  by_cases hc:x.cps.toList[b]=c
  ·have hi:isAt x c b=true:=by
    unfold isAt
    rw[ah hb,hc]
    simp
   rw[bg hi]
   have ih:=p7 x c n (b+1) (b+1) (by omega) (aw _)
   simp only[StrLaws.partsFrom,ag]
   rw[ih,StrLaws.strSub_toList,ed]
   obtain⟨p,ps,e⟩:=zM c (x.cps.toList.drop (b+1))
   simp only[OB,bg hc,e,glue,kK,List.take_zero,eR,cf]
  ·have hi:isAt x c b=false:=by
    unfold isAt
    rw[ah hb]
    exact a5 λz=>hc (bi z)
   rw[ap (by rw[hi];exact aT)]
   have ih:=p7 x c n a (b+1) (by omega) (by omega)
   rw[ih,ed]
   obtain⟨p,ps,e⟩:=zM c (x.cps.toList.drop (b+1))
   simp only[OB,ap hc,e,glue]
   have e2:(x.cps.toList.drop a).take (b+1 - a)=(x.cps.toList.drop a).take (b - a)++[x.cps.toList[b]]:=by
    rw[show b+1 - a=(b - a)+1 by omega,List.take_add_one,List.getElem?_drop,show a+(b - a)=b by omega,ah hb]
    rfl
   rw[e2]
   simp
theorem Gr {c:Nat}:∀{l:oz},c∉l->OB c l=[l]
 | [],_=>rfl
 | a::l,h=>by
  have h1:¬ a=c:=λe=>h (by simp[e])
  have h2:c∉l:=λe=>h (ac _ e)
  unfold OB
  rw[ap h1,Gr h2]
theorem Iz {c:Nat}{r:oz}:∀{l:oz},c∉l->OB c (l++c::r)=l::OB c r
 | [],_=>by simp[OB]
 | a::l,h=>by
  have h1:¬ a=c:=λe=>h (by simp[e])
  have h2:c∉l:=λe=>h (ac _ e)
  rw[ii]
  have e:=Iz (r:=r) h2
  show (if a=c then []::OB c (l++c::r) else match OB c (l++c::r) with | p::ps=>(a::p)::ps | []=>[[a]])=_
  rw[ap h1,e]
noncomputable def FK (l:oz):Str:=⟨l.toArray⟩
theorem eQ (x:Str):FK x.cps.toList=x:=by
 unfold FK
 simp
theorem jc (l:oz):(FK l).cps.toList=l:=by
 unfold FK
 simp
theorem blank_eq:(" " : Str)=⟨#[32]⟩:=by decide +kernel
theorem J6 (x:Str):(decide (x.length < (⟨#[32]⟩:Str).length)||decide (Builtin.Str.strKind x < Builtin.Str.strKind ⟨#[32]⟩))=true->x.length=0:=by
 intro h
 rw[Bool.or_eq_true] at h
 rcases h with h | h
 ·have h':=gi h
  have:(⟨#[32]⟩:Str).length=1:=rfl
  omega
 ·exfalso
  have h':=gi h
  have e:Builtin.Str.strKind ⟨#[32]⟩=Builtin.Str.strKind ⟨#[32]⟩:=rfl
  revert h'
  unfold Builtin.Str.strKind
  simp
  split
  ·simp
  ·split <;> simp
theorem ww (x:Str):Txt.split x (" " : Str)=(OB 32 x.cps.toList).map FK:=by
 rw[blank_eq]
 have hl:x.cps.toList.length=x.length:=ci
 have key:(StrLaws.partsFrom x 1 0 (Builtin.Str.occurrences x ⟨#[32]⟩ 0 x.length (x.length+1))).map (λp=>p.cps.toList)=OB 32 x.cps.toList:=by
  rw[SJ]
  have h:=p7 x 32 x.length 0 0 (by omega) (aw _)
  rw[h]
  obtain⟨p,ps,e⟩:=zM 32 x.cps.toList
  simp[glue,e]
 have key2:StrLaws.partsFrom x 1 0 (Builtin.Str.occurrences x ⟨#[32]⟩ 0 x.length (x.length+1))=(OB 32 x.cps.toList).map FK:=by
  rw[← key,cn]
  have:(FK∘λ(p:Str)=>p.cps.toList)=id:=by
   funext p
   exact eQ p
  rw[this,List.map_id]
 unfold Txt.split
 split
 ·rename_i h
  have h0:=J6 x h
  have:x.cps.toList=[]:=iS.mp (by omega)
  rw[this]
  simp only[OB,ag,dP]
  rw[← this,eQ]
 ·split
  ·rename_i h2
   have e0:Builtin.Str.occurrences x ⟨#[32]⟩ 0 x.length (x.length+1)=[]:=List.isEmpty_iff.mp h2
   rw[← key2,e0]
   simp only[StrLaws.partsFrom]
   rw[StrLaws.sub_whole]
  ·rw[StrLaws.partsBetween_eq]
   exact key2
def Gs (x:Str):Prop:=32∉x.cps.toList
theorem J7 {x:Str}(h:Gs x):Txt.split x (" " : Str)=[x]:=by
 rw[ww,Gr h]
 simp[eQ]
theorem zN {w r:Str}(h:Gs w):Txt.split (w++(" " : Str)++r) (" " : Str)=w::Txt.split r (" " : Str):=by
 rw[ww,ww,blank_eq]
 have e:(w++(⟨#[32]⟩:Str)++r).cps.toList=w.cps.toList++32::r.cps.toList:=by
  rw[Str.cps_append,Str.cps_append]
  simp
 rw[e,Iz h,ag,eQ]
theorem zO:∀{zs:oP},zs≠[]->(∀z∈zs,Gs z)->Txt.split (Str.join (" " : Str) zs) (" " : Str)=zs
 | [],h,_=>absurd rfl h
 | [z],_,h=>J7 (h z (by simp))
 | z::y::r,_,h=>by
  show Txt.split (z++(" " : Str)++Str.join (" " : Str) (y::r)) (" " : Str)=_
  rw[zN (h z (by simp)),zO (by simp) λx hx=>h x (ac _ hx)]
end Lake.My
namespace Lake.My
open PySem L2 MR
noncomputable def nu (z:Str):List Str:=Txt.split z (" " : Str)
noncomputable def bO (cut:List (List Str)):List Str:=tell ("carry" : Str) (cut.filter gq)
noncomputable def pairsOf (cut:List (List Str)):List Str:=tell ("one" : Str) (cut.filter (nj (L8 (bO cut))))
noncomputable def bZ (cut:List (List Str)):List (Str×PV):=[("carrying",.dK (F8 (bO cut))),("pairs",.dK (F8 (pairsOf cut))),("longs",.dK (F8 (tell ("long" : Str) cut))),("eithers",.dK (F8 (tell ("either" : Str) cut))),
 ("beginnings",.dK (F8 (tell ("begin" : Str) cut))),("splittings",.dK (F8 (tell ("split" : Str) cut))),("running",.str (xj cut)),("likes",.dT (NO (M0 cut)))]
theorem X7 (a:PV):List.lookup ("carrying" : Str) (pF "carrying" a [])=some a:=rfl
theorem X8 (a b:PV):List.lookup ("carrying" : Str) (pF "pairs" b (pF "carrying" a []))=some a:=rfl
theorem X_ (a b:PV):List.lookup ("pairs" : Str) (pF "pairs" b (pF "carrying" a []))=some b:=rfl
theorem Wc {C:Str->Bool}{cs r:oP}(h:eY C cs (("run" : Str)::r)=true):r≠[]:=by
 intro e
 subst e
 have:eY C cs [("run" : Str)]=false:=by
  dsimp only [eY]
  rw[ap (by decide +kernel),ap (by decide +kernel),ap (by decide +kernel),ap (by decide +kernel),bg rfl]
  rfl
 rw[this] at h;cases h
theorem Qe {C:Str->Bool}{cs r:oP}(h:eY C cs (("alike" : Str)::r)=true):2<=r.length:=by
 dsimp only [eY] at h
 rw[ap (by decide +kernel),ap (by decide +kernel),ap (by decide +kernel),ap (by decide +kernel),ap (by decide +kernel)] at h
 simp[nq] at h
 omega
theorem nF (p:List Str->Bool):∀rs:List (List Str),total (rs.filter p)<=total rs
 | []=>aw _
 | ws::rs=>by
  have ih:=nF p rs
  unfold total at *
  rw[fS]
  split <;> simp <;> omega
theorem Gu (kind:Str)(rs:List (List Str)):(tell kind rs).length<=total rs:=by
 have:=Cw (kind:=kind) rs []
 simpa [tell] using this
structure To (cut:List (List Str)):Prop where
 n:cut.length<=1000
 few:∀ws∈cut,ws≠[]/\Few ws
 tot:total cut<=100000
 good:∀ws∈cut,eY (L8 (bO cut)) (bO cut++pairsOf cut) ws=true
theorem SM {zs:oP}(hz:∀z∈zs,z.length<=1000)(R:To (zs.map nu)):cR [.lst (zs.map .str)]=some (bZ (zs.map nu)):=by
 have c1:bR [none] (gN 0) bG fD (zs.map .str)=some (cL (zs.map nu)):=by
  have h:=du (env:=[none]) (g:=gN 0) (f:=fD) PV.str (λz=>fJ (nu z)) zs λy hy=>⟨_,rfl,by
   have h1:y.length<=1000000:=by have:=hz y hy;omega
   have h2:¬ (Str.ofString " ").length=0:=by decide +kernel
   simp[fD,h1,h2,fJ,nu]⟩
  rw[h]
  unfold cL
  rw[cn]
  rfl
 have hlz:zs.length<=1000000:=by have:=R.n;rw[ae] at this;omega
 generalize hcut:zs.map nu=cut at *
 have hlc:(cL cut).length<=1000000:=by unfold cL;rw[ae];have:=R.n;omega
 have c2:bR [none] (gN 0) ie h_ (cL cut)=some (cL (cut.filter gq)):=
  cz fJ fJ gq cut λws YA=>by
   obtain⟨HU,hf⟩:=R.few ws YA
   cases ws with
   | nil=>exact absurd rfl HU
   | cons w r=>
    have:=Gj hf
    exact⟨_,rfl,by simp[ie,fJ] at this ⊢;simp[this],λ_=>by rfl⟩
 have ne:∀ws∈cut,ws≠[]:=λws h=>(R.few ws h).1
 have nef:∀p:List Str->Bool,∀ws∈cut.filter p,ws≠[]:=λp ws h=>ne ws (dy.mp h).1
 have tf:∀p:List Str->Bool,total (cut.filter p) < 1000000:=λp=>by have:=nF p cut;have:=R.tot;omega
 have t0:total cut < 1000000:=by have:=R.tot;omega
 have k1:bK [.str "carry",.lst (cL (cut.filter gq))]=some (.dK (F8 (bO cut))):=qJ (nef _) (tf _)
 have hC:(bO cut).length<=100000:=by have h1:=Gu ("carry" : Str) (cut.filter gq);have h2:=nF gq cut;have:=R.tot;unfold bO;omega
 have hP:(pairsOf cut).length<=100000:=by have h1:=Gu ("one" : Str) (cut.filter (nj (L8 (bO cut))));have h2:=nF (nj (L8 (bO cut))) cut;have:=R.tot;unfold pairsOf;omega
 have c3:bR [none,some (.obj 0 (pF "carrying" (.dK (F8 (bO cut))) []))] (gN 0) ik ig (cL cut)=some (cL (cut.filter (nj (L8 (bO cut))))):=
  cz fJ fJ (nj (L8 (bO cut))) cut λws YA=>by
   obtain⟨HU,hf⟩:=R.few ws YA
   cases ws with
   | nil=>exact absurd rfl HU
   | cons w r=>
    have:=MN (ks:=bO cut) hf
    exact⟨_,rfl,by simp[ik,fJ,X7] at this ⊢;simp[this],λ_=>by rfl⟩
 have k2:bK [.str "one",.lst (cL (cut.filter (nj (L8 (bO cut)))))]=some (.dK (F8 (pairsOf cut))):=qJ (nef _) (tf _)
 have l6:∀q:PV,bw (gT [3,4]) [3,4] il (jO 0 (cL cut)) [some (.obj 0 (pF "pairs" (.dK (F8 (pairsOf cut))) (pF "carrying" (.dK (F8 (bO cut))) []))),some q,some (.lst (cL cut)),none,none]=
   some (.nx [some (.obj 0 (pF "pairs" (.dK (F8 (pairsOf cut))) (pF "carrying" (.dK (F8 (bO cut))) []))),some q,some (.lst (cL cut)),none,none]):=λq=>by
  unfold cL
  rw[vR]
  refine zc _ _ λy hy=>?_
  have hm:y.1∈cut:=by
   have:=List.mem_zipIdx' hy
   rw[this.2]
   exact fI _
  obtain⟨HU,hf⟩:=R.few _ hm
  have hg:=R.good _ hm
  obtain⟨ws,i⟩:=y
  cases ws with
  | nil=>exact absurd rfl HU
  | cons w r=>
   have:=Sw (ks:=bO cut) (ps:=pairsOf cut) hf hC hP
   rw[hg] at this
   simp only[ag] at this
   exact⟨_,_,rfl,by simp[il,fJ,X8,X_,this];rfl,by rfl⟩
 have k3:bK [.str "long",.lst (cL cut)]=some (.dK (F8 (tell ("long" : Str) cut))):=qJ ne t0
 have k4:bK [.str "either",.lst (cL cut)]=some (.dK (F8 (tell ("either" : Str) cut))):=qJ ne t0
 have k5:bK [.str "begin",.lst (cL cut)]=some (.dK (F8 (tell ("begin" : Str) cut))):=qJ ne t0
 have k6:bK [.str "split",.lst (cL cut)]=some (.dK (F8 (tell ("split" : Str) cut))):=qJ ne t0
 have k7:kI [.lst (cL cut)]=some (.str (xj cut)):=Wb ne λr h=>Wc (R.good _ h)
 have k8:jf [.lst (cL cut)]=some (.dT (NO (M0 cut))):=Qd ne (λr h=>Qe (R.good _ h)) (by have:=R.n;omega)
 have m1:∀a:PV,(pF "carrying" a []).length < 1000:=λa=>by show 1 < 1000;decide
 have m2:∀a b:PV,(pF "pairs" b (pF "carrying" a [])).length < 1000:=λa b=>by show 2 < 1000;decide
 have m3:∀a b c:PV,(pF "longs" c (pF "pairs" b (pF "carrying" a []))).length < 1000:=λa b c=>by show 3 < 1000;decide
 have m4:∀a b c d:PV,(pF "eithers" d (pF "longs" c (pF "pairs" b (pF "carrying" a [])))).length < 1000:=λa b c d=>by show 4 < 1000;decide
 have m5:∀a b c d e:PV,(pF "beginnings" e (pF "eithers" d (pF "longs" c (pF "pairs" b (pF "carrying" a []))))).length < 1000:=λa b c d e=>by show 5 < 1000;decide
 have m6:∀a b c d e f:PV,(pF "splittings" f (pF "beginnings" e (pF "eithers" d (pF "longs" c (pF "pairs" b (pF "carrying" a [])))))).length < 1000:=λa b c d e f=>by show 6 < 1000;decide
 have m7:∀a b c d e f g:PV,(pF "running" g (pF "splittings" f (pF "beginnings" e (pF "eithers" d (pF "longs" c (pF "pairs" b (pF "carrying" a []))))))).length < 1000:=λa b c d e f g=>by show 7 < 1000;decide
 have fin:∀a b c d e f g h:PV,pF "likes" h (pF "running" g (pF "splittings" f (pF "beginnings" e (pF "eithers" d (pF "longs" c (pF "pairs" b (pF "carrying" a [])))))))=([("carrying",a),("pairs",b),("longs",c),("eithers",d),("beginnings",e),("splittings",f),("running",g),("likes",h)]:List (Str×PV)):=λa b c d e f g h=>rfl
 unfold bZ
 simp[cR,oh,c1,hlz,c2,hlc,k1,m1,c3,k2,m2,l6,k3,m3,k4,m4,k5,m5,k6,m6,k7,m7,k8,fin]
theorem J8 (cut:List (List Str)):List.lookup ("carrying" : Str) (bZ cut)=some (.dK (F8 (bO cut))):=rfl
theorem SN (cut:List (List Str)):List.lookup ("pairs" : Str) (bZ cut)=some (.dK (F8 (pairsOf cut))):=rfl
theorem SQ (cut:List (List Str)):List.lookup ("longs" : Str) (bZ cut)=some (.dK (F8 (tell ("long" : Str) cut))):=rfl
theorem M4 (cut:List (List Str)):List.lookup ("eithers" : Str) (bZ cut)=some (.dK (F8 (tell ("either" : Str) cut))):=rfl
theorem Gv (cut:List (List Str)):List.lookup ("beginnings" : Str) (bZ cut)=some (.dK (F8 (tell ("begin" : Str) cut))):=rfl
theorem Gx (cut:List (List Str)):List.lookup ("splittings" : Str) (bZ cut)=some (.dK (F8 (tell ("split" : Str) cut))):=rfl
theorem SX (cut:List (List Str)):List.lookup ("likes" : Str) (bZ cut)=some (.dT (NO (M0 cut))):=rfl
theorem ut (ns:oQ)(k:Nat):bj [.frz (ns.map PV.int),.int k]=some (.int (cell ns k)):=by
 by_cases h:k < ns.length
 ·have h1:F0 (ns.map PV.int) (k:Int)=some (.int ns[k]):=cW (by simp[h])
  simp[bj,mK,h,h1,cell]
 ·simp[bj,mK,h,cell]
noncomputable def stp (c:Int):Int:=[1,3,5,7,9,11,15,17].getD (c / 26 % 8).toNat 0
noncomputable def NY (c k:Int):Nat:=97+((c+k*stp c) % 26).toNat
noncomputable def Ts (c k:Int):Str:=⟨#[NY c k]⟩
theorem J9 (a:Int):0<=a % 8/\a % 8 < 8/\(a % 8).toNat < 8:=⟨by omega,by omega,by omega⟩
theorem S5:∀n:Fin 8,∃s∈[1,3,5,7,9,11,15,17],([1,3,5,7,9,11,15,17]:oQ).getD n.val 0=((s:Nat):Int):=by decide +kernel
theorem IK (c:Int):∃s:Nat,s∈[1,3,5,7,9,11,15,17]/\stp c=(s:Int):=S5 ⟨_,(J9 (c / 26)).2.2⟩
theorem We (c:Int):F0 [PV.int 1,.int 3,.int 5,.int 7,.int 9,.int 11,.int 15,.int 17] (c / 26 % 8)=some (.int (stp c)):=by
 rw[Il (J9 _).1 (J9 _).2.1]
 have h:=(J9 (c / 26)).2.2
 unfold stp
 generalize (c / 26 % 8).toNat=n at h
 have e:([PV.int 1,.int 3,.int 5,.int 7,.int 9,.int 11,.int 15,.int 17]:List PV)=([1,3,5,7,9,11,15,17]:oQ).map .int:=rfl
 rw[e,a6,al,ah (l:=([1,3,5,7,9,11,15,17]:oQ)) h]
 rfl
theorem Wf (c:Int):SV (stp c)=true:=by
 obtain⟨s,hs,e⟩:=IK c
 have h17:∀s∈[1,3,5,7,9,11,15,17],s<=17:=by decide
 have:=h17 s hs
 rw[e]
 exact vH (by omega) (by omega)
theorem Wg {i:Int}(h0:0<=i)(h1:i < 26):F0 (LET:Str).cps.toList i=some (97+i.toNat):=by
 have hl:(LET:Str).cps.toList.length=26:=by decide +kernel
 rw[Il h0 (by rw[hl];exact h1)]
 have h:i.toNat < 26:=by omega
 generalize i.toNat=n at h
 have key:∀n:Fin 26,(LET:Str).cps.toList[n.val]?=some (97+n.val):=by decide +kernel
 exact key ⟨n,h⟩
theorem S6 (c k:Int):aU [.int c,.int k]=some (.str (Ts c k)):=by
 have h1:=We c
 have hs:=Wf c
 have h2:F0 (Str.ofString "abcdefghijklmnopqrstuvwxyz").cps.toList ((c+k*stp c) % 26)=some (NY c k):=Wg (by omega) (by omega)
 have h3:(Str.ofString "abcdefghijklmnopqrstuvwxyz").length<=1000000:=by decide +kernel
 simp[aU,t_,h1,hs,h2,h3,Ts]
theorem pM (c k:Int):97<=NY c k/\NY c k < 123:=by unfold NY;omega
theorem S7:∀s∈[1,3,5,7,9,11,15,17],∀j k:Fin 26,(j.val*s) % 26=(k.val*s) % 26->j=k:=by decide +kernel
theorem Gy {c a b:Int}(h:(c+a) % 26=(c+b) % 26):a % 26=b % 26:=by omega
theorem M5 {a b:Nat}(h:(a:Int) % 26=(b:Int) % 26):a % 26=b % 26:=by omega
theorem Yb {a b:Int}(h:97+(a % 26).toNat=97+(b % 26).toNat):a % 26=b % 26:=by omega
theorem Bh {c j k:Int}(h0:0<=j)(h1:j < 26)(h2:0<=k)(h3:k < 26)(h:NY c j=NY c k):j=k:=by
 unfold NY at h
 have h':=Gy (Yb h)
 obtain⟨s,hs,e⟩:=IK c
 rw[e] at h'
 obtain⟨a,rfl⟩:=md h0
 obtain⟨b,rfl⟩:=md h2
 have h5:=S7 s hs ⟨a,Int.ofNat_lt.mp h1⟩ ⟨b,Int.ofNat_lt.mp h3⟩ (M5 (by exact_mod_cast h'))
 exact dr Int.ofNat (Fin.mk.inj h5)
theorem vh {n:Nat}(h:97<=n)(h':n < 123):isLetter ⟨#[n]⟩=true:=by
 have key:∀m:Fin 26,isLetter ⟨#[97+m.val]⟩=true:=by decide +kernel
 have:=key ⟨n - 97,by omega⟩
 rwa [show 97+(n - 97)=n by omega] at this
noncomputable def mx (c:Int)(k:Nat):Int:=(c % 1000003*(48271+15838*k*k)+69621*k) % 2147483647
theorem Wh (c:Int){k:Nat}(h:k<=1000):kW [.int c,.int k]=some (.int (mx c k)):=by
 have h1:SV 15838=true:=vH (by decide) (by decide)
 have h2:SV (k:Int)=true:=vH (by omega) (by omega)
 have h3:SV (c % 1000003)=true:=vH (by omega) (by omega)
 have h4:SV 69621=true:=vH (by decide) (by decide)
 simp[kW,xX,h1,h2,h3,h4,mx]
theorem J_ (cut:List (List Str))(x:Str):aV [.obj 0 (bZ cut),.str x]=some (.bl (decide (x∈bO cut))):=by
 simp[aV,pG,J8,qX]
theorem M6 (cut:List (List Str))(x:Str):dM [.obj 0 (bZ cut),.str x]=some (.bl (decide (x∈pairsOf cut))):=by
 simp[dM,pH,SN,qX]
theorem Ka {c:MR.Env->Option Bool}{ds:oz}{body:MR.Env->Option Out}{n:Nat}{env e:MR.Env}(h:c env=some true)(h':body env=some (.nx e)):jP c ds body (n+1) env=jP c ds body n (IX ds e):=by simp[jP,h,h']
theorem Kc {c:MR.Env->Option Bool}{ds:oz}{body:MR.Env->Option Out}{n:Nat}{env:MR.Env}(h:c env=some false):jP c ds body (n+1) env=some (.nx env):=by simp[jP,h]
theorem qF (x:Str)(lo hi:Option Int):(gQ x lo hi).cps.toList=(x.cps.toList.drop (HT.IF x.length 0 lo)).take (HT.IF x.length x.length hi - HT.IF x.length 0 lo):=by simp[gQ]
noncomputable def sg (c:Nat):Str:=⟨#[c]⟩
structure Tg (F:List (Str×PV))(C:Nat->Bool):Prop where
 nc:List.lookup ("carries" : Str) F=none
 np:List.lookup ("is_pair" : Str) F=none
 nb:List.lookup ("begins" : Str) F=none
 ns:List.lookup ("splits" : Str) F=none
 nw:List.lookup ("weight" : Str) F=none
 na:List.lookup ("alike" : Str) F=none
 c:∀s,aV [.obj 0 F,.str (sg s)]=some (.bl (C s))
 p:∀x,dM [.obj 0 F,.str x]=some (.bl false)
 b:∀x,fM [.obj 0 F,.str x]=some (.bl false)
 s:∀x,dm [.obj 0 F,.str x]=some (.bl false)
 w:∀x,fO [.obj 0 F,.str x]=some (.str "u")
 a:∀x y,eG [.obj 0 F,.str x,.str y]=some (.bl (decide (x=y)))
structure Wd (C:Nat->Bool)(cs:oz):Prop where
 n:cs.length<=12
 t:∀s∈cs,97<=s/\s < 123
 c:∃s∈cs,C s=true
theorem iQ (cs:oz):(FK cs).length=cs.length:=by
 show (cs.toArray).size=_
 simp
theorem Gz (cs:oz):P7 (FK cs)=cs.map λc=>PV.str (sg c):=by
 rw[Iv,jc];rfl
theorem yx:∀bs:List Bool,bools (bs.map PV.bl)=some bs
 | []=>rfl
 | b::bs=>by simp[bools,yx bs]
section
variable {F:List (Str×PV)}{C:Nat->Bool}(T:Tg F C){cs:oz}(W:Wd C cs)
include T W
theorem Wi:qw [.obj 0 F,.str (FK cs)]=some (.bl true):=by
 have hl:=W.n
 have hm:=iQ cs
 have h6:(FK cs).length<=1000000:=by omega
 have h24:¬ 24 < (FK cs).length:=by omega
 have k1:bR [none] (gN 0) bG mV (P7 (FK cs))=some ((cs.map λ_=>true).map .bl):=by
  rw[Gz]
  have h:=du (env:=[none]) (g:=gN 0) (f:=mV) (λs:Nat=>PV.str (sg s)) (λ_=>.bl true) cs λs hs=>⟨_,rfl,by
   have h1:=wg (x:=sg s) (by show 1<=1000;decide)
   have h2:isLetter (sg s)=true:=vh (W.t s hs).1 (W.t s hs).2
   rw[h2] at h1
   simp[mV,h1]⟩
  rw[h,cn];rfl
 have k2:bR [none,some (.obj 0 F)] (gN 0) bG mW (P7 (FK cs))=some ((cs.map C).map .bl):=by
  rw[Gz]
  have h:=du (env:=[none,some (.obj 0 F)]) (g:=gN 0) (f:=mW) (λs:Nat=>PV.str (sg s)) (λs=>.bl (C s)) cs λs hs=>⟨_,rfl,by
   simp[mW,T.nc,T.c]⟩
  rw[h,cn];rfl
 have hcl:(P7 (FK cs)).length<=1000000:=by rw[Gz,ae];omega
 have NH:((cs.map C).any id)=true:=by
  obtain⟨s,hs,hm⟩:=W.c
  rw[fR]
  exact⟨true,cx.mpr ⟨s,hs,hm⟩,rfl⟩
 have ND:((cs.map λ_=>true).all id)=true:=by simp
 generalize (cs.map λ_=>true)=Ya at k1 ND
 generalize cs.map C=b2' at k2 NH
 have ht:JQ (.str (FK cs))=some "str" := rfl
 have h24i:¬ (24:Int) < ((FK cs).length:Int):=by omega
 generalize FK cs=w at *
 simp[qw,zu,L6,ht,h6,h24,h24i,k1,k2,hcl,yx,ND,NH]
theorem M7:dj [.obj 0 F,.str (FK cs)]=some .FG:=by
 have:=Wi T W
 simp[dj,qg,this]
theorem Za {a:Nat}{c:Nat}(h:cs[a]?=some c):gQ (FK cs) (some (a:Int)) (some ((a:Int)+1))=sg c:=by
 have ha:=(av.mp h).1
 have e:=qF (FK cs) (some ((a:Nat):Int)) (some (((a+1:Nat)):Int))
 rw[HT.IG,HT.IG,jc,iQ,iF (by omega),iF (by omega)] at e
 have e2:(cs.drop a).take (a+1 - a)=[c]:=by
  have:=ah ha
  rw[h] at this
  rw[eT ha,show a+1 - a=1 by omega,← bi this]
  rfl
 rw[e2] at e
 rw[← eQ (gQ _ _ _)]
 show FK (gQ (FK cs) (some (a:Int)) (some (((a+1:Nat)):Int))).cps.toList=sg c
 rw[e];rfl
theorem M8:gW [.obj 0 F,.str (FK cs)]=some (.lst (cs.map λc=>.str (sg c))):=by
 have hl:=W.n
 have hm:=iQ cs
 have h6:(FK cs).length<=1000000:=by omega
 have h6c:cs.length<=1000000:=by omega
 have hr:=M7 T W
 have loop:∀(n a N:Nat),a+n=cs.length->n < N->
   jP gF [4] jg N [some (.obj 0 F),some (.str (FK cs)),some (.lst ((cs.take a).map λc=>.str (sg c))),some (.int a),none]=some (.nx [some (.obj 0 F),some (.str (FK cs)),some (.lst (cs.map λc=>.str (sg c))),some (.int cs.length),none]):=by
  intro n
  induction n with
  | zero=>
   intro a N ha hN
   obtain⟨N,rfl⟩:∃M,N=M+1:=⟨N - 1,by omega⟩
   have e:a=cs.length:=by omega
   rw[Kc (by simp[gF,h6c,hm,e]),e,em (aw _)]
  | succ n ih=>
   intro a N ha hN
   obtain⟨N,rfl⟩:∃M,N=M+1:=⟨N - 1,by omega⟩
   have IT:a < cs.length:=by omega
   have hc1:=Za T W (ah IT)
   have hb:jg [some (.obj 0 F),some (.str (FK cs)),some (.lst ((cs.take a).map λc=>.str (sg c))),some (.int a),none]=some (.nx [some (.obj 0 F),some (.str (FK cs)),some (.lst ((cs.take (a+1)).map λc=>.str (sg c))),some (.int ((a+1:Nat):Int)),some (.int 1)]):=by
    have ht:(cs.take (a+1)).map (λc=>PV.str (sg c))=(cs.take a).map (λc=>PV.str (sg c))++[.str (sg cs[a])]:=by rw[List.take_succ_eq_append_getElem IT,cv];rfl
    rw[ht]
    have hu:((cs.take a).map λc=>PV.str (sg c)).length < 1000000:=by simp;omega
    generalize (cs.take a).map (λc=>PV.str (sg c))=A at *
    simp[jg,T.np,T.p,h6,hc1,hu]
   have hc:gF [some (.obj 0 F),some (.str (FK cs)),some (.lst ((cs.take a).map λc=>.str (sg c))),some (.int a),none]=some true:=by
    simp[gF,h6c,hm];omega
   rw[Ka hc hb]
   exact ih (a+1) N (by omega) (by omega)
 have h0:=loop cs.length 0 1000000 (by omega) (by omega)
 simp only[List.take_zero,dP] at h0
 generalize (cs.map λc=>PV.str (sg c))=U,FK cs=w at *
 have h0':jP gF [4] jg 1000000 [some (.obj 0 F),some (.str w),some (.lst []),some (.int 0),none]=some (.nx [some (.obj 0 F),some (.str w),some (.lst U),some (.int cs.length),none]):=h0
 simp[gW,x_,hr,h0']
end
noncomputable def gp (C:Nat->Bool):List Nat->List (List Nat)->List Nat->List (List Nat)
 | [],I,l=>I++[l]
 | c::cs,I,l=>if C c=true then gp C cs (I++[l]) [] else gp C cs I (l++[c])
abbrev mS (l:oz):PV:=.str (FK l)
abbrev uS (c:Nat):PV:=.str (sg c)
theorem pN (a b:oz):FK a++FK b=FK (a++b):=by
 rw[← eQ (FK a++FK b)]
 congr 1
 show ((FK a).cps++(FK b).cps).toList=_
 simp[FK]
theorem wy:FK []=Str.ofString "" := by decide +kernel
theorem Wj (c:Nat):FK [c]=sg c:=rfl
theorem IV (I:List PV)(x:PV):Nn (I++[x]).length (-1)=some I.length:=by
 unfold Nn
 rw[ap (by omega),ax,g0]
 rw[bg (by omega)]
 congr 1
 omega
theorem uv (I:List PV)(x:PV):F0 (I++[x]) (-1)=some x:=by
 unfold F0
 rw[IV]
 simp
theorem Qf (I:List PV)(x y:PV):(I++[x]).set I.length y=I++[y]:=by simp
theorem pO (c:Nat):(sg c).length=1:=rfl
theorem Eb (c:Nat):F0 (sg c).cps.toList 0=some c:=rfl
section
variable {F:List (Str×PV)}{C:Nat->Bool}(T:Tg F C)
include T
theorem Wl (cs:oz)(hl:cs.length<=12):jW [.obj 0 F,.lst (cs.map uS)]=some (.lst ((cs.filter C).map uS)):=by
 have h:=cz (env:=[none,some (.obj 0 F)]) (g:=gN 0) (t:=lO) (f:=lM) uS uS C cs λc hc=>⟨_,rfl,by
   have Na:aV [.obj 0 F,.str ⟨#[c]⟩]=some (.bl (C c)):=T.c c
   simp[lO,T.nc,pO,Eb,Na],λ_=>by simp[lM]⟩
 have hl6:cs.length<=1000000:=by omega
 simp[jW,uh,h,hl6]
theorem yz {U:PV}:∀(cs:oz) (I:List (List Nat)) (l:oz),I.length+cs.length<=100->l.length+cs.length<=100->
  bw (gN 3) [3] mX (cs.map uS) [some (.obj 0 F),some U,some (.lst (I.map mS++[mS l])),none]=some (.nx [some (.obj 0 F),some U,some (.lst ((gp C cs I l).map mS)),none])
 | [],I,l,_,_=>by simp[bw,gp]
 | c::cs,I,l,h1,h2=>by
  simp only[bm] at h1 h2
  have hI:(I.map mS++[mS l]).length < 1000000:=by simp;omega
  unfold gp
  by_cases hc:C c=true
  ·rw[bg hc,ag,dh (env':=[some (.obj 0 F),some U,some (.lst ((I++[l]).map mS++[mS []])),none])]
   ·exact yz cs (I++[l]) [] (by simp;omega) (by simp;omega)
   ·have Na:aV [.obj 0 F,.str ⟨#[c]⟩]=some (.bl (C c)):=T.c c
    rw[hc] at Na
    have e:(I++[l]).map mS++[mS []]=(I.map mS++[mS l])++[.str (Str.ofString "")]:=by rw[cv,← wy];rfl
    rw[e]
    generalize I.map mS++[mS l]=A at *
    simp[bJ,mX,T.nc,pO,Eb,Na,hI]
  ·rw[ap hc,ag,dh (env':=[some (.obj 0 F),some U,some (.lst (I.map mS++[mS (l++[c])])),none])]
   ·exact yz cs I (l++[c]) (by omega) (by simp;omega)
   ·have Na:aV [.obj 0 F,.str ⟨#[c]⟩]=some (.bl (C c)):=T.c c
    have hcf:C c=false:=by simpa using hc
    rw[hcf] at Na
    have hla:=uv (I.map mS) (mS l)
    have hix:=IV (I.map mS) (mS l)
    have PY:=Qf (I.map mS) (mS l) (mS (l++[c]))
    rw[ae] at hix PY
    have hle:(FK l).length+(sg c).length<=1000000:=by rw[iQ];show l.length+1<=_;omega
    have hap:FK l++sg c=FK (l++[c]):=by rw[← Wj,pN]
    generalize hA:I.map mS++[mS l]=A,I.map mS++[mS (l++[c])]=B at *
    rw[pO] at hle
    simp[bJ,mX,T.nc,pO,Eb,Na,hla,hle,hap,hix,PY]
theorem Wm (cs:oz)(hl:cs.length<=12):qz [.obj 0 F,.lst (cs.map uS)]=some (.lst ((gp C cs [] []).map mS)):=by
 have h:=yz T (U:=.lst (cs.map uS)) cs [] [] (by simp;omega) (by simp;omega)
 have hl6:cs.length<=1000000:=by omega
 rw[show mS []=.str (Str.ofString "") by rw[← wy]] at h
 simp only[dP,eR] at h
 simp[qz,zB,h,hl6]
theorem S8 {x:Str}(hl:x.length<=100):qC [.obj 0 F,.str x]=some (.str (gQ x none (some (-1)))):=by
 have h6:x.length<=1000000:=by omega
 have hr:MR.MW (x.length:Int)=true:=MR.HZ (by omega) (by omega)
 have hq:(dO 0 (x.length:Int)).length<=1000000:=by rw[dG];simp;omega
 have hlp:bw (gN 2) [2] rC (dO 0 (x.length:Int)) [some (.obj 0 F),some (.str x),none]=some (.nx [some (.obj 0 F),some (.str x),none]):=by
  rw[dG]
  refine kE _ _ λk hk=>?_
  simp[bJ,rC,T.nb,T.b,h6]
 simp[qC,zE,T.ns,T.s,h6,hr,hq,hlp]
end
theorem M9 (n d:Nat):HT.IF (n+1) d (some (-1))=n:=by
 show (if (-1:Int) < 0 then ((-1:Int)+((n+1:Nat):Int)).toNat else min (-1:Int).toNat (n+1))=n
 rw[bg (by decide)]
 omega
theorem M_ (A:List PV)(x:PV):gb (A++[x]) none (some (-1))=A:=by
 unfold gb
 rw[ax,g0,M9,HT.JE]
 simp
theorem Nb (A:List PV)(x y:PV):gb (x::(A++[y])) (some 1) (some (-1))=A:=by
 unfold gb
 rw[bm,M9,show (1:Int)=((1:Nat):Int) from rfl,HT.IG,ax,g0,iF (by omega)]
 simp
theorem S9 (c:Nat):gQ (sg c) none (some (-1))=Str.ofString "" := by
 rw[← eQ (gQ (sg c) none (some (-1))),qF,← wy]
 congr 1
theorem S_ (c:Nat):gQ (sg c) (some 0) none=sg c:=by
 rw[← eQ (gQ (sg c) (some 0) none),qF]
 rfl
noncomputable def lU:Str->List (Nat×Nat)->List PV
 | _,[]=>[]
 | h,(v,s)::ps=>.tup [.str h,uS v,.str (Str.ofString ""),.bl false]::lU (sg s) ps
noncomputable def zP:Str->List (Nat×Nat)->Str
 | h,[]=>h
 | _,(_,s)::ps=>zP (sg s) ps
section
variable {F:List (Str×PV)}{C:Nat->Bool}(T:Tg F C)
include T
theorem GC {a1 a2 a3 a4:Option PV}:∀(ps:List (Nat×Nat)) (Sy:List PV) (h:Str),Sy.length+ps.length<=100->
  bw (gT [7,8]) [7,8,9] j8 (ps.map λp=>.tup [uS p.1,uS p.2]) [some (.obj 0 F),a1,a2,a3,a4,some (.lst Sy),some (.str h),none,none,none]=some (.nx [some (.obj 0 F),a1,a2,a3,a4,some (.lst (Sy++lU h ps)),some (.str (zP h ps)),none,none,none])
 | [],Sy,h,_=>by simp[bw,lU,zP]
 | (v,s)::ps,Sy,h,hl=>by
  simp only[bm] at hl
  rw[ag,dh (env':=[some (.obj 0 F),a1,a2,a3,a4,some (.lst (Sy++[.tup [.str h,uS v,.str (Str.ofString ""),.bl false]])),some (.str (sg s)),none,none,none]),GC ps _ (sg s) (by simp;omega)]
  ·simp[lU,zP]
  ·have hs:=S8 T (x:=sg s) (by rw[pO];decide)
   rw[S9] at hs
   have hz:(Str.ofString "").length=0:=by decide +kernel
   have hS:Sy.length < 1000000:=by omega
   have hc:=S_ s
   simp[bJ,j8,hs,T.ns,T.s,hS,hz,pO,hc]
theorem Wn (v:Nat):eO [.obj 0 F,uS v,.str (Str.ofString ""),.bl false]=some (.lst [.tup [.int 0,.str "u"]]):=by
 have n1:¬ (Str.ofString "u" = Str.ofString "-"):=by decide +kernel
 simp[eO,uL,T.nw,T.w,n1]
theorem Wo (v:Nat){t:oz}(ht:t≠[]):eO [.obj 0 F,uS v,mS t,.bl false]=some (.lst [.tup [.int 0,.str "-"]]):=by
 have n1:¬ (FK t=Str.ofString ""):=λz=>by
  rw[← wy] at z
  have:=dr (λx:Str=>x.cps.toList) z
  simp only[jc] at this
  exact ht this
 simp[eO,uL,n1]
end
noncomputable def uO:PV:=.lst [.tup [.int 0,.str "u"]]
noncomputable def hO:PV:=.lst [.tup [.int 0,.str "-"]]
theorem yC:∀(ps:List (Nat×Nat)) (h:Str),(lU h ps).length=ps.length
 | [],_=>rfl
 | (v,s)::ps,h=>by simp[lU,yC ps]
theorem Nf:∀(ps:List (Nat×Nat)),jr (ps.map λp=>uS p.1) (ps.map λp=>mS [p.2])=ps.map λp=>.tup [uS p.1,uS p.2]
 | []=>rfl
 | p::ps=>by
  rw[ag,ag,ag,← Nf ps]
  rfl
section
variable {F:List (Str×PV)}{C:Nat->Bool}(T:Tg F C){cs:oz}(W:Wd C cs){ps:List (Nat×Nat)}{vl:Nat}{h t:oz}(hf:cs.filter C=ps.map (·.1)++[vl])(hg:gp C cs [] []=h::(ps.map (λp=>[p.2])++[t]))(ht:t≠[])
include T W hf hg
theorem Wq:∃hd,ju [.obj 0 F,.str (FK cs)]=some (.lst (lU (FK h) ps++[.tup [.str hd,uS vl,mS t,.bl false]])):=by
 have hn:=W.n
 have h1:=M8 T W
 have h2:=Wl T cs hn
 have h3:=Wm T cs hn
 rw[hf] at h2
 rw[hg] at h3
 have HM:ps.length<=12:=by
  have:=dr List.length hf
  have h0:=dc C cs
  simp at this
  omega
 have hlp:=GC T (a1:=some (.str (FK cs))) (a2:=some (.lst (cs.map uS))) (a3:=some (.lst ((ps.map (·.1)++[vl]).map uS))) (a4:=some (.lst ((h::(ps.map (λp=>[p.2])++[t])).map mS))) ps [] (FK h) (by simp;omega)
 refine⟨zP (FK h) ps,?_⟩
 have e3:(ps.map (·.1)++[vl]).map uS=(ps.map λp=>uS p.1)++[uS vl]:=by rw[cv,cn];rfl
 have e4:(h::(ps.map (λp=>[p.2])++[t])).map mS=mS h::((ps.map λp=>mS [p.2])++[mS t]):=by rw[ag,cv,cn];rfl
 rw[e3] at h2 hlp
 rw[e4] at h3 hlp
 have c1:=M_ (ps.map λp=>uS p.1) (uS vl)
 have c2:=Nb (ps.map λp=>mS [p.2]) (mS h) (mS t)
 have z:=Nf ps
 have l1:=uv (ps.map λp=>uS p.1) (uS vl)
 have l2:=uv (mS h::(ps.map λp=>mS [p.2])) (mS t)
 have i0:F0 (mS h::((ps.map λp=>mS [p.2])++[mS t])) 0=some (mS h):=gA (j:=0) rfl
 rw[ii] at l2
 have hsl:(lU (FK h) ps).length < 1000000:=by rw[yC];omega
 have hU:gW [.obj 0 F,.str (FK cs)]=some (.lst (cs.map uS)):=h1
 have IQ:(ps.map λp=>uS p.1).length<=1000000:=by simp;omega
 generalize cs.map uS=U,(ps.map λp=>uS p.1)++[uS vl]=A,mS h::((ps.map λp=>mS [p.2])++[mS t])=B,(ps.map λp=>uS p.1)=A1,(ps.map λp=>mS [p.2])=B1,(ps.map λp=>PV.tup [uS p.1,uS p.2])=Z,lU (FK h) ps=SY at *
 rw[eR] at hlp
 simp[ju,sI,hU,h2,h3,i0,c1,c2,z,hlp,l1,l2,hsl]
end
section
variable {F:List (Str×PV)}{C:Nat->Bool}(T:Tg F C)
include T
theorem GD {vl:Nat}{hd:Str}{t:oz}(ht:t≠[]):∀(ps:List (Nat×Nat)) (h:Str),bR [none,none,none,none,some (.obj 0 F)] (gT [0,1,2,3]) bG gP (lU h ps++[.tup [.str hd,uS vl,mS t,.bl false]])=some (List.replicate ps.length uO++[hO])
 | [],h=>by
  have h1:=Wo T vl ht
  simp[lU,bR,gP,h1,hO]
 | (v,s)::ps,h=>by
  have h1:=Wn T v
  have ih:=GD (vl:=vl) (hd:=hd) ht ps (sg s)
  show bR _ _ _ _ (.tup [.str h,uS v,.str (Str.ofString ""),.bl false]::(lU (sg s) ps++[.tup [.str hd,uS vl,mS t,.bl false]]))=_
  generalize lU (sg s) ps++[PV.tup [.str hd,uS vl,mS t,.bl false]]=L at *
  rw[bm,et,ii]
  have hce:gP [some (.str h),some (uS v),some (.str (Str.ofString "")),some (.bl false),some (.obj 0 F)]=some uO:=by simp[gP,h1,uO]
  simp[bR,hce,ih]
end
section
variable {F:List (Str×PV)}{C:Nat->Bool}(T:Tg F C){cs:oz}(W:Wd C cs){ps:List (Nat×Nat)}{vl:Nat}{h t:oz}(hf:cs.filter C=ps.map (·.1)++[vl])(hg:gp C cs [] []=h::(ps.map (λp=>[p.2])++[t]))(ht:t≠[])
include T W hf hg ht
theorem Wr:lD [.obj 0 F,.str (FK cs),.FG]=some (.lst (List.replicate ps.length uO++[hO])):=by
 obtain⟨hd,h1⟩:=Wq T W hf hg
 have h2:=GD T (vl:=vl) (hd:=hd) ht ps (FK h)
 have HM:ps.length<=12:=by
  have:=dr List.length hf
  have h0:=dc C cs
  have hn:=W.n
  simp at this
  omega
 have hl:(lU (FK h) ps++[PV.tup [.str hd,uS vl,mS t,.bl false]]).length<=1000000:=by rw[ax,yC];simp;omega
 generalize lU (FK h) ps++[PV.tup [.str hd,uS vl,mS t,.bl false]]=L,List.replicate ps.length uO++[hO]=OP,FK cs=w at *
 simp[lD,vg,h1,h2,hl]
theorem Ws:gY [.obj 0 F,.lst [.str (FK cs)]]=some (.lst [.lst (List.replicate ps.length uO++[hO])]):=by
 have h1:=Wr T W hf hg ht
 have hc:gb [PV.str (FK cs)] (some 1) none=[]:=rfl
 generalize List.replicate ps.length uO++[hO]=OP,FK cs=w at *
 have hz:jr [PV.str w] [PV.FG]=[.tup [.str w,.FG]]:=rfl
 have NG:bR [none,none,some (.obj 0 F)] (gT [0,1]) bG pY [.tup [.str w,.FG]]=some [.lst OP]:=by
  simp[bR,pY,h1]
 simp[gY,yc,hc,hz,NG]
end
noncomputable def rgD (i:Int):Bool:=decide (-4611686018427387904<=i/\i < 4611686018427387904)
theorem Wt:MR.MW=rgD:=by
 funext i
 unfold MR.MW rgD
 congr
noncomputable def Wu (f g:MR.Env->Option PV)(env:MR.Env):Option (List PV):=(f env).bind λp=>(g env).bind λq=>match p,q with
 | .int i,.int j=>if (rgD i&&rgD j)=true then some (dO i j) else none
 | _,_=>none
theorem Wv:iR2=Wu:=by
 funext f g env
 unfold iR2 Wu
 rw[Wt]
noncomputable def wz:List (Str×Str):=[("-","u-"),("x","xx"),("xx","-")]
noncomputable def sY (p:Str×Str)(b:Bool):PV:=.tup [.tup [.tup [.str p.1,.str p.2],.bl b]]
noncomputable def Bj (k:Nat):PV:=.lst [.lst (List.replicate k uO++[hO])]
theorem Qg (p:Str×Str)(hp:p∈wz)(b:Bool):cJ [Bj 0,sY p b]=some (.int 1)/\cJ [Bj 1,sY p b]=some (.int 1)/\cJ [Bj 2,sY p b]=some (.int 0):=by
 unfold cJ rB iH mz rA v6 ug uf sV xZ rm v4 ud uc
 rw[Wv]
 simp only[wz,ar,b9,eW] at hp
 rcases hp with rfl | rfl | rfl <;> cases b <;> exact⟨by kernel_rfl,by kernel_rfl,by kernel_rfl⟩
theorem CK:∀l:List Nat,Ki (l.map λk=>PV.int (k:Nat))=some (l.map λk:Nat=>(k:Int))
 | []=>rfl
 | k::l=>by simp[CK l]
noncomputable def Bk (p:Nat->Bool)(us:oz):List Nat:=(us.zipIdx.filter λy=>p y.1).map (·.2)
theorem Qh {p:Nat->Bool}{pre post:oz}{u:Nat}(hu:p u=true)(hp:∀y∈post,p y=false):∃k ks,Bk p (pre++u::post)=k::ks/\vP ((Bk p (pre++u::post)).map λk:Nat=>(k:Int))=(pre.length:Int):=by
 have e:Bk p (pre++u::post)=((pre.zipIdx.filter λy=>p y.1).map (·.2))++[pre.length]:=by
  unfold Bk
  rw[List.zipIdx_append,eL,List.zipIdx_cons,fq (by simpa using hu)]
  have:(post.zipIdx (0+pre.length+1)).filter (λy=>p y.1)=[]:=by
   rw[fF]
   intro y hy
   have:=List.fst_mem_of_mem_zipIdx hy
   rw[hp _ this]
   decide
  rw[this]
  simp
 have IT:∀k∈(pre.zipIdx.filter λy=>p y.1).map (·.2),k < pre.length:=λk hk=>by
  obtain⟨y,hy,rfl⟩:=cx.mp hk
  have:=List.snd_lt_of_mem_zipIdx (dy.mp hy).1
  simpa using this
 refine ?_
 obtain⟨k,ks,hk⟩:∃k ks,Bk p (pre++u::post)=k::ks:=by
  rw[e]
  cases ((pre.zipIdx.filter λy=>p y.1).map (·.2)) with
  | nil=>exact⟨_,_,rfl⟩
  | cons a b=>exact⟨_,_,rfl⟩
 refine⟨k,ks,hk,Cq ?_ λa ha=>?_⟩
 ·rw[e];simp
 ·rw[e,cv] at ha
  rcases bX.mp ha with z | z
  ·obtain⟨j,hj,rfl⟩:=cx.mp z
   have:=IT j hj
   omega
  ·have:a=(pre.length:Int):=by simpa using z
   omega
section
variable {F:List (Str×PV)}{C:Nat->Bool}(T:Tg F C)
include T
theorem I_ {pre t:oz}{vl:Nat}(W:Wd C (pre++vl::t))(hv:C vl=true)(ht:∀s∈t,C s=false):pI [.obj 0 F,.str (FK (pre++vl::t))]=some (.lst ((vl::t).map uS)):=by
 obtain⟨cs,hcs⟩:∃cs,cs=pre++vl::t:=⟨_,rfl⟩
 rw[← hcs] at W ⊢
 have hu:gW [.obj 0 F,.str (FK cs)]=some (.lst (cs.map uS)):=M8 T W
 have hn:=W.n
 have hen:=vR uS cs 0
 have NG:=cz (env:=[none,none,some (.obj 0 F)]) (g:=gT [0,1]) (t:=sX) (f:=sW) (λy:Nat×Nat=>PV.tup [.int (y.2:Nat),uS y.1]) (λy:Nat×Nat=>PV.int (y.2:Nat)) (λy=>C y.1) (cs.zipIdx 0) λy hy=>⟨[some (.int (y.2:Nat)),some (uS y.1),some (.obj 0 F)],by rfl,by
  have Na:aV [.obj 0 F,.str ⟨#[y.1]⟩]=some (.bl (C y.1)):=T.c y.1
  simp[sX,T.nc,pO,Eb,Na],λ_=>by rfl⟩
 obtain⟨k,ks,hk,ZU⟩:=Qh (p:=C) (pre:=pre) (post:=t) hv ht
 have hidx:(cs.zipIdx 0 |>.filter λy=>C y.1).map (λy:Nat×Nat=>PV.int (y.2:Nat))=(k::ks).map λk=>PV.int (k:Nat):=by
  rw[← hk,hcs]
  unfold Bk
  rw[cn]
  rfl
 rw[hidx] at NG
 have hii:=CK (k::ks)
 rw[hk] at ZU
 have hlen:(jO 0 (cs.map uS)).length<=1000000:=by rw[hen];simp;omega
 rw[← hen] at NG
 have hcut:gb (cs.map uS) (some (pre.length:Int)) none=(vl::t).map uS:=by
  unfold gb
  rw[HT.IG,HT.JE,hcs]
  have hmin:min pre.length ((pre++vl::t).map uS).length=pre.length:=by simp
  rw[hmin,cv,List.drop_left' (by simp),em (by simp)]
 have hmv:za (.lst ((k::ks).map λk=>PV.int (k:Nat)))=some (.int (pre.length:Nat)):=by
  rw[ag]
  show (Ki (PV.int (k:Nat)::ks.map λk=>PV.int (k:Nat))).map (λns=>PV.int (vP ns))=_
  rw[← ag (f:=λk=>PV.int (k:Nat)),hii,ge,ZU]
 generalize (vl::t).map uS=EN,cs.map uS=US,FK cs=w,((k::ks).map λk=>PV.int (k:Nat))=KS at *
 simp[-za,pI,Cy,hu,hlen,NG,hmv,hcut]
theorem zQ:∀(a b:oz),a.length=b.length->bR [none,none,some (.obj 0 F)] (gT [0,1]) bG jw (jr (a.map uS) (b.map uS))=some ((List.zipWith (λx y=>decide (x=y)) a b).map .bl)
 | [],[],_=>rfl
 | x::a,y::b,h=>by
  have ih:=zQ a b (by simpa using h)
  have ha:=T.a (sg x) (sg y)
  have hd:decide (sg x=sg y)=decide (x=y):=fT.mpr ⟨λe=>by
   have:=dr (λz:Str=>z.cps.toList) e
   simpa [sg] using this,λe=>by rw[e]⟩
  rw[hd] at ha
  show bR _ _ _ _ (.tup [uS x,uS y]::jr (a.map uS) (b.map uS))=_
  generalize jr (a.map uS) (b.map uS)=Z at *
  have hce:jw [some (uS x),some (uS y),some (.obj 0 F)]=some (.bl (decide (x=y))):=by simp[jw,T.na,ha]
  simp[bR,hce,ih]
theorem Ja:∀(a b:oz),a.length=b.length->(List.zipWith (λx y=>decide (x=y)) a b).all id=decide (a=b)
 | [],[],_=>rfl
 | x::a,y::b,h=>by
  have ih:=Ja a b (by simpa using h)
  rw[List.zipWith_cons_cons,gX,ih]
  by_cases e:x=y
  ·subst e;simp
  ·simp[e]
theorem Tc (a b:oz)(ha:a.length<=12)(hb:b.length<=12):jh [.obj 0 F,.lst (a.map uS),.lst (b.map uS)]=some (.bl (decide (a=b))):=by
 have h6a:a.length<=1000000:=by omega
 have h6b:b.length<=1000000:=by omega
 by_cases h:a.length=b.length
 ·have hc:=zQ T a b h
  have hz:=Ja T a b h
  have hl:(jr (a.map uS) (b.map uS)).length<=1000000:=by
   have gen:∀xs ys:List PV,(jr xs ys).length<=xs.length:=by
    intro xs
    induction xs with
    | nil=>intro ys;cases ys <;> simp[jr]
    | cons x xs ih=>intro ys;cases ys with
     | nil=>simp[jr]
     | cons y ys=>simp[jr];exact Nat.min_le_left _ _
   have:=gen (a.map uS) (b.map uS)
   simp at this
   omega
  generalize (List.zipWith (λx y=>decide (x=y)) a b)=BL at *
  simp[jh,pZ,h,hc,hl,yx,hz,h6a,h6b]
 ·have HU:¬ a=b:=λe=>h (by rw[e])
  have hi:¬ (a.length:Int)=(b.length:Int):=by omega
  simp[jh,pZ,hi,HU]
theorem Ww {p1 p2 t1 t2:oz}{v1 v2:Nat}(W1:Wd C (p1++v1::t1))(W2:Wd C (p2++v2::t2))(c1:C v1=true)(c2:C v2=true)(n1:∀s∈t1,C s=false)(n2:∀s∈t2,C s=false):
  iI [.obj 0 F,.lst [mS (p1++v1::t1)],.lst [mS (p2++v2::t2)]]=some (.bl (decide (v1::t1=v2::t2))):=by
 have h1:=I_ T W1 c1 n1
 have h2:=I_ T W2 c2 n2
 have l1:=W1.n
 have l2:=W2.n
 have h3:=Tc T (v1::t1) (v2::t2) (by simp at l1 ⊢;omega) (by simp at l2 ⊢;omega)
 generalize (v1::t1).map uS=E1,(v2::t2).map uS=E2,decide (v1::t1=v2::t2)=D at *
 have hr:sJ [.obj 0 F,mS (p1++v1::t1),mS (p2++v2::t2)]=some (.bl D):=by simp[sJ,Cz,h1,h2,h3]
 have l1:=uv [] (mS (p1++v1::t1))
 have l2:=uv [] (mS (p2++v2::t2))
 rw[eR] at l1 l2
 generalize mS (p1++v1::t1)=w1,mS (p2++v2::t2)=w2 at *
 simp[iI,ul,hr,l1,l2]
end
noncomputable def dX (b:Int)(m:Nat):List Nat:=(List.range m).map λk:Nat=>NY b (k:Nat)
noncomputable def dq (b:Int)(m:Nat):List (List Str):=[("carry" : Str)::(dX b m).map sg]
noncomputable def nH (b:Int)(m:Nat)(s:Nat):Bool:=decide (s∈dX b m)
theorem Wx {x y:Nat}(h:sg x=sg y):x=y:=by
 have:=dr (λz:Str=>z.cps.toList) h
 simpa [sg] using this
theorem yD {b:Int}{m s:Nat}(h:s∈dX b m):97<=s/\s < 123:=by
 obtain⟨k,_,e⟩:=cx.mp h
 rw[← e]
 exact pM _ _
theorem Td {s:Nat}(h:97<=s/\s < 123):Gs (sg s):=λz=>by
 have:(32:Nat)∈[s]:=z
 have:=aS.mp this
 omega
section
variable {b:Int}{m:Nat}(h1:1<=m)(h7:m<=7)
include h1 h7
theorem Wy:To (dq b m):=by
 have hl:(dX b m).length=m:=by simp[dX]
 refine⟨by simp[dq],λws hw=>?_,?_,λws hw=>?_⟩
 ·rw[aS.mp hw]
  refine⟨by simp,by simp;omega,λw hw=>?_⟩
  rcases ar.mp hw with rfl | hw
  ·decide +kernel
  ·obtain⟨s,_,rfl⟩:=cx.mp hw
   rw[pO];decide
 ·simp[dq,total];omega
 ·rw[aS.mp hw]
  dsimp only [eY]
  rw[bg rfl]
  simp only[gq,cm,hJ,eg]
  refine⟨⟨trivial,by simp;omega⟩,λw hw=>?_⟩
  obtain⟨s,hs,rfl⟩:=cx.mp hw
  exact vh (yD hs).1 (yD hs).2
theorem Zb (s:Nat):decide (sg s∈bO (dq b m))=nH b m s:=by
 unfold nH
 refine fT.mpr ?_
 have hc:(dq b m).filter gq=dq b m:=by
  have hg:=(Wy h1 h7 (b:=b)).good (("carry" : Str)::(dX b m).map sg) (aS.mpr rfl)
  dsimp only [eY] at hg
  rw[bg rfl] at hg
  unfold dq
  rw[fq hg,List.filter_nil]
 unfold bO
 rw[hc,MY]
 constructor
 ·rintro ⟨r,hr,hs⟩
  have e:=aS.mp hr
  have e2:r=(dX b m).map sg:=(eD e).2
  rw[e2] at hs
  obtain⟨x,hx,ex⟩:=cx.mp hs
  rw[← Wx ex];exact hx
 ·intro hs
  exact⟨_,aS.mpr rfl,cx.mpr ⟨s,hs,rfl⟩⟩
omit h1 h7 in
theorem Te {k:Str}(hk:¬ k=("carry" : Str))(p:List Str->Bool)(y:Str):¬ y∈tell k ((dq b m).filter p):=λh=>by
 obtain⟨r,hr,_⟩:=MY.mp h
 have e:=aS.mp (dy.mp hr).1
 exact hk (eD e).1
omit h1 h7 in
theorem uQ {k:Str}(hk:¬ k=("carry" : Str))(y:Str):¬ y∈tell k (dq b m):=λh=>by
 obtain⟨r,hr,_⟩:=MY.mp h
 exact hk (eD (aS.mp hr)).1
omit h1 h7 in
theorem Wz:M0 (dq b m)=[]:=by
 unfold M0 dq
 rw[ft,List.foldl_nil]
 exact ye (by decide +kernel)
theorem tgT:Tg (bZ (dq b m)) (nH b m):=by
 have z1:∀x,¬ x∈pairsOf (dq b m):=λx=>Te (by decide +kernel) _ x
 have z2:∀x,¬ x∈tell ("begin" : Str) (dq b m):=λx=>uQ (by decide +kernel) x
 have z3:∀x,¬ x∈tell ("split" : Str) (dq b m):=λx=>uQ (by decide +kernel) x
 have z4:∀x,¬ x∈tell ("long" : Str) (dq b m):=λx=>uQ (by decide +kernel) x
 have z5:∀x,¬ x∈tell ("either" : Str) (dq b m):=λx=>uQ (by decide +kernel) x
 refine⟨rfl,rfl,rfl,rfl,rfl,rfl,λs=>?_,λx=>?_,λx=>?_,λx=>?_,λx=>?_,λx y=>?_⟩
 ·have h:=J_ (dq b m) (sg s)
  rw[Zb h1 h7] at h
  exact h
 ·have h:=M6 (dq b m) x
  rw[a5 (z1 x)] at h
  exact h
 ·rfl
 ·rfl
 ·rfl
 ·have hd:MV (.tup [.str x,.str y]) (.dT (NO []))=some false:=rfl
  have hd2:MV (.tup [.str y,.str x]) (.dT (NO []))=some false:=rfl
  have hlk:List.lookup ("likes" : Str) (bZ (dq b m))=some (.dT (NO [])):=by rw[SX,Wz]
  by_cases e:x=y
  ·simp[eG,lR,e]
  ·simp[eG,lR,hlk,e,hd,hd2]
noncomputable def uR (b:Int)(m:Nat):Str:=Str.ofString "carry " ++ Str.join (Str.ofString " ") ((dX b m).map sg)
theorem Jb:nu (uR b m)=("carry" : Str)::(dX b m).map sg:=by
 have e:Str.ofString "carry " = ("carry" : Str)++(" " : Str):=by decide +kernel
 have HU:(dX b m).map sg≠[]:=by
  intro z
  have:=dr List.length z
  simp[dX] at this
  omega
 unfold nu uR
 rw[e,zN (by unfold Gs;decide +kernel)]
 congr 1
 exact zO HU λz hz=>by
  obtain⟨s,hs,rfl⟩:=cx.mp hz
  exact Td (yD hs)
theorem Yc (hlen:(uR b m).length<=1000):cR [.lst [.str (uR b m)]]=some (bZ (dq b m)):=by
 have h:=SM (zs:=[uR b m]) (λz hz=>by rw[aS.mp hz];exact hlen) (by
  rw[ag,dP,Jb h1 h7]
  exact Wy h1 h7)
 have e:[uR b m].map nu=dq b m:=by rw[ag,dP,Jb h1 h7];rfl
 rw[e] at h
 exact h
end
structure Wk (F:List (Str×PV))(C:Nat->Bool)(cs:oz)(k:Nat)(en:oz):Prop where
 w:Wd C cs
 tab:gY [.obj 0 F,.lst [mS cs]]=some (Bj k)
 e:∃pre v t,cs=pre++v::t/\C v=true/\(∀s∈t,C s=false)/\en=v::t
section
variable {b:Int}{m:Nat}(h1:1<=m)(h7:m<=7)
include h1 h7
theorem Kd {i:Nat}(h:i < m):nH b m (NY b (i:Nat))=true:=br (cx.mpr ⟨i,bS.mpr h,rfl⟩)
theorem zR {i:Nat}(h:8<=i)(h':i < 26):nH b m (NY b (i:Nat))=false:=by
 refine a5 λz=>?_
 obtain⟨k,hk,e⟩:=cx.mp z
 have hk:=bS.mp hk
 have:=Bh (c:=b) (j:=(k:Nat)) (k:=(i:Nat)) (by omega) (by omega) (by omega) (by omega) e
 omega
omit h1 h7 in
theorem Yd {F:List (Str×PV)}{C:Nat->Bool}(T:Tg F C){cs:oz}{ps:List (Nat×Nat)}{vl:Nat}{h t pre:oz}(W:Wd C cs)(hf:cs.filter C=ps.map (·.1)++[vl])(hg:gp C cs [] []=h::(ps.map (λp=>[p.2])++[t]))(ht:t≠[])(he:cs=pre++vl::t)(hv:C vl=true)(hn:∀s∈t,C s=false):Wk F C cs ps.length (vl::t):=
 ⟨W,Ws T W hf hg ht,pre,vl,t,he,hv,hn,rfl⟩
omit h1 h7 in
theorem xm (C:Nat->Bool)(c:Nat)(cs:oz)(I:List (List Nat))(l:oz):gp C (c::cs) I l=if C c=true then gp C cs (I++[l]) [] else gp C cs I (l++[c]):=rfl
theorem GF {pre:oz}{v:Nat}{t:oz}(hlen:pre.length+t.length<=11)(hco:∀s∈pre++v::t,97<=s/\s < 123)(hv:nH b m v=true)(ht:∀s∈t,nH b m s=false)(HU:t≠[]){ps:List (Nat×Nat)}{h:oz}
  (hp:pre=h++ps.flatMap λp=>[p.1,p.2]) (hh:∀s∈h,nH b m s=false) (IQ:∀p∈ps,nH b m p.1=true/\nH b m p.2=false):Wk (bZ (dq b m)) (nH b m) (pre++v::t) ps.length (v::t):=by
 generalize hC:nH b m=C at *
 have T:Tg (bZ (dq b m)) C:=by rw[← hC];exact tgT h1 h7
 have fil0:∀l:List Nat,(∀s∈l,C s=false)->l.filter C=[]:=λl hl=>fF.mpr λs hs=>by rw[hl s hs];decide
 have gp0:∀(l:oz) (I:List (List Nat)) (a r:oz),(∀s∈l,C s=false)->gp C (l++r) I a=gp C r I (a++l):=by
  intro l
  induction l with
  | nil=>intro I a r _;simp
  | cons s l ih=>
   intro I a r hl
   show gp C (s::(l++r)) I a=_
   rw[xm,ap (by rw[hl s af];decide),ih I (a++[s]) r λz hz=>hl z (ac _ hz)]
   simp
 have gp1:∀(l:List (Nat×Nat)) (I:List (List Nat)) (a:oz),(∀p∈l,C p.1=true/\C p.2=false)->gp C ((l.flatMap λp=>[p.1,p.2])++v::t) I a=I++(a::((l.map λp=>[p.2])++[t])):=by
  intro l
  induction l with
  | nil=>
   intro I a _
   show gp C (v::t) I a=_
   rw[xm,bg hv]
   have:=gp0 t (I++[a]) [] [] ht
   rw[cf] at this
   rw[this]
   simp[gp]
  | cons p l ih=>
   intro I a hl
   obtain⟨q1,q2⟩:=hl p af
   have:=ih (I++[a]) [p.2] λz hz=>hl z (ac _ hz)
   show gp C (p.1::p.2::((l.flatMap λp=>[p.1,p.2])++v::t)) I a=_
   rw[xm,bg q1,xm,ap (by rw[q2];decide),eR,this]
   simp
 have fil1:∀l:List (Nat×Nat),(∀p∈l,C p.1=true/\C p.2=false)->(l.flatMap λp=>[p.1,p.2]).filter C=l.map (·.1):=by
  intro l
  induction l with
  | nil=>intro _;rfl
  | cons p l ih=>
   intro hl
   obtain⟨q1,q2⟩:=hl p af
   rw[lh,eL,ih λz hz=>hl z (ac _ hz)]
   simp[q1,q2]
 refine Yd T (h:=h) ⟨by simp;omega,hco,v,by simp,hv⟩ ?_ ?_ HU rfl hv ht
 ·rw[hp,cp,eL,eL,fil0 h hh,fil1 ps IQ,fq hv,fil0 t ht]
  simp
 ·rw[hp,cp,gp0 h [] [] _ hh,eR,gp1 ps [] h IQ]
  simp
end
abbrev lc (b:Int)(i:Nat):Nat:=NY b (i:Nat)
noncomputable def hdC (b:Int)(f:Nat):Nat->List Nat
 | 0=>[]
 | 1=>[lc b 9]
 | 2=>[f,lc b 9]
 | _=>[lc b 8,f,lc b 10]
noncomputable def Jn (b:Int)(m e:Nat):List Nat:=[lc b (e % m),lc b (12+e % 6),lc b (18+e / 6)]
theorem j4 (b:Int)(k:Int):aU [.int b,.int k]=some (mS [NY b k]):=S6 b k
theorem Ye {b:Int}{m e:Nat}(h1:1<=m)(h7:m<=7)(n:Int):∃f k:Nat,f < m/\k < 4/\iG [.int b,.int m,.int (e:Nat),.int n]=some (mS (hdC b (lc b f) k++Jn b m e)):=by
 have hm:(0:Int) < (m:Int):=by omega
 have L4:(m:Int) < 1073741824:=by omega
 obtain⟨f,hf,hfm⟩:∃f:Nat,n % (m:Int)=(f:Int)/\f < m:=⟨(n % (m:Int)).toNat,by have:=eJ n (b:=(m:Int)) (by omega);omega,by have:=ga n hm;have:=eJ n (b:=(m:Int)) (by omega);omega⟩
 have he:(e:Int) % (m:Int)=((e % m:Nat):Int):=by omega
 have e1:12+(e:Int) % 6=((12+e % 6:Nat):Int):=by omega
 have e2:18+(e:Int) / 6=((18+e / 6:Nat):Int):=by omega
 obtain⟨k,hk,hk4⟩:∃k:Nat,n / 8 % 4=(k:Int)/\k < 4:=⟨(n / 8 % 4).toNat,by omega,by omega⟩
 refine⟨f,k,hfm,hk4,?_⟩
 have a1:=j4 b ((f:Nat):Int)
 have a9:=j4 b 9
 have a8:=j4 b 8
 have a10:=j4 b 10
 have at1:=j4 b ((e % m:Nat):Int)
 have at2:=j4 b ((12+e % 6:Nat):Int)
 have at3:=j4 b ((18+e / 6:Nat):Int)
 have c9:NY b 9=lc b 9:=rfl
 have c8:NY b 8=lc b 8:=rfl
 have c10:NY b 10=lc b 10:=rfl
 rw[c9] at a9
 rw[c8] at a8
 rw[c10] at a10
 have at1':aU [.int b,.int ((e:Int) % (m:Int))]=some (mS [lc b (e % m)]):=by rw[he];exact at1
 have at2':aU [.int b,.int (12+(e:Int) % 6)]=some (mS [lc b (12+e % 6)]):=by rw[e1];exact at2
 have at3':aU [.int b,.int (18+(e:Int) / 6)]=some (mS [lc b (18+e / 6)]):=by rw[e2];exact at3
 have a1':aU [.int b,.int (n % (m:Int))]=some (mS [lc b f]):=by rw[hf];exact a1
 have ap1:∀x y:Nat,FK [x]++FK [y]=FK [x,y]:=λx y=>pN [x] [y]
 have ap2:∀x y z:Nat,FK [x,y]++FK [z]=FK [x,y,z]:=λx y z=>pN [x,y] [z]
 unfold Jn
 obtain⟨x9,hx9⟩:∃x,x=lc b 9:=⟨_,rfl⟩
 obtain⟨x8,hx8⟩:∃x,x=lc b 8:=⟨_,rfl⟩
 obtain⟨x10,hx10⟩:∃x,x=lc b 10:=⟨_,rfl⟩
 rw[← hx9] at a9
 rw[← hx8] at a8
 rw[← hx10] at a10
 generalize lc b f=xf,lc b (e % m)=y1,lc b (12+e % 6)=y2,lc b (18+e / 6)=y3 at *
 have hmN:0 < m:=by omega
 have fin:∀hd:List Nat,hd.length<=3->F0 [PV.str (Str.ofString ""),mS [x9],mS [xf,x9],mS [x8,xf,x10]] (n / 8 % 4)=some (mS hd)->iG [.int b,.int m,.int (e:Nat),.int n]=some (mS (hd++[y1,y2,y3])):=λhd hl Ic=>by
  have l1:(FK hd).length<=999999:=by rw[iQ];omega
  have l2:(FK (hd++[y1])).length<=999998:=by rw[iQ];simp;omega
  have p1:FK hd++FK [y1]=FK (hd++[y1]):=pN _ _
  have p2:FK (hd++[y1])++FK [y2,y3]=FK (hd++[y1,y2,y3]):=by rw[pN];simp
  have q1:∀x,(FK [x]).length=1:=λx=>iQ _
  have q2:∀x y,(FK [x,y]).length=2:=λx y=>iQ _
  simp[iG,vY,a1',a9,a8,a10,at1',at2',at3',hmN,ap1,ap2,q1,q2,Ic,l1,l2,p1,p2]
 unfold hdC
 rw[← hx9,← hx8,← hx10]
 rcases k with _ | _ | _ | _ | k
 ·exact fin [] (by decide) (by
   rw[hk]
   show _=some (PV.str (FK []))
   rw[wy];rfl)
 ·exact fin [x9] (by simp) (by rw[hk];rfl)
 ·exact fin [xf,x9] (by simp) (by rw[hk];rfl)
 ·exact fin [x8,xf,x10] (by simp) (by rw[hk];rfl)
 ·omega
section
variable {b:Int}{m:Nat}(h1:1<=m)(h7:m<=7)
theorem WD {e e':Nat}(he:e < 48)(he':e' < 48)(h:Jn b m e=Jn b m e'):e=e':=by
 unfold Jn at h
 simp only[List.cons.injEq,and_true] at h
 have a:=Bh (c:=b) (j:=((12+e % 6:Nat):Int)) (k:=((12+e' % 6:Nat):Int)) (by omega) (by omega) (by omega) (by omega) h.2.1
 have c:=Bh (c:=b) (j:=((18+e / 6:Nat):Int)) (k:=((18+e' / 6:Nat):Int)) (by omega) (by omega) (by omega) (by omega) h.2.2
 omega
include h1 h7
abbrev WK (b:Int)(m:Nat)(cs:oz)(k:Nat)(en:oz):Prop:=Wk (bZ (dq b m)) (nH b m) cs k en
theorem Yg {e:Nat}(he:e < 48):∀s∈[lc b (12+e % 6),lc b (18+e / 6)],nH b m s=false:=λs hs=>by
 rcases ar.mp hs with rfl | hs
 ·exact zR h1 h7 (by omega) (by omega)
 ·rw[aS.mp hs];exact zR h1 h7 (by omega) (by omega)
theorem xn {e:Nat}(he:e < 48){h:oz}{ps:List (Nat×Nat)}(hl:h.length+2*ps.length<=8)(hh:∀s∈h,∃i,8<=i/\i < 26/\s=lc b i)(IQ:∀p∈ps,∃i j,i < m/\8<=j/\j < 26/\p=(lc b i,lc b j)):
  WK b m ((h++ps.flatMap λp=>[p.1,p.2])++Jn b m e) ps.length (Jn b m e):=by
 have Si:(ps.flatMap λp=>[p.1,p.2]).length=2*ps.length:=by
  clear hl IQ
  induction ps with
  | nil=>rfl
  | cons p ps ih=>rw[lh,ax,ih,bm];simp;omega
 refine GF h1 h7 (pre:=h++ps.flatMap λp=>[p.1,p.2]) (v:=lc b (e % m)) (t:=[lc b (12+e % 6),lc b (18+e / 6)]) (by rw[ax,Si];simp;omega) (λs hs=>?_) (Kd h1 h7 (Nat.mod_lt _ (by omega))) (Yg h1 h7 he) (by simp) (ps:=ps) (h:=h) rfl (λs hs=>?_) (λp hp=>?_)
 ·rcases bX.mp hs with hs | hs
  ·rcases bX.mp hs with hs | hs
   ·obtain⟨i,_,_,rfl⟩:=hh s hs;exact pM _ _
   ·obtain⟨p,hp,hs⟩:=List.mem_flatMap.mp hs
    obtain⟨i,j,_,_,_,rfl⟩:=IQ p hp
    have:s=lc b i\/s=lc b j:=by simpa using hs
    rcases this with rfl | rfl <;> exact pM _ _
  ·have:s=lc b (e % m)\/s=lc b (12+e % 6)\/s=lc b (18+e / 6):=by simpa using hs
   rcases this with rfl | rfl | rfl <;> exact pM _ _
 ·obtain⟨i,a,c,rfl⟩:=hh s hs;exact zR h1 h7 a c
 ·obtain⟨i,j,a,c,d,rfl⟩:=IQ p hp;exact⟨Kd h1 h7 a,zR h1 h7 c d⟩
theorem Bl {e f k:Nat}(he:e < 48)(hf:f < m)(hk:k < 4):WK b m (hdC b (lc b f) k++Jn b m e) (k / 2) (Jn b m e):=by
 rcases k with _ | _ | _ | _ | k
 ·exact xn h1 h7 he (h:=[]) (ps:=[]) (by simp) (λs hs=>by cases hs) (λp hp=>by cases hp)
 ·exact xn h1 h7 he (h:=[lc b 9]) (ps:=[]) (by simp) (λs hs=>⟨9,by decide,by decide,aS.mp hs⟩) (λp hp=>by cases hp)
 ·exact xn h1 h7 he (h:=[]) (ps:=[(lc b f,lc b 9)]) (by simp) (λs hs=>by cases hs) (λp hp=>⟨f,9,hf,by decide,by decide,aS.mp hp⟩)
 ·exact xn h1 h7 he (h:=[lc b 8]) (ps:=[(lc b f,lc b 10)]) (by simp) (λs hs=>⟨8,by decide,by decide,aS.mp hs⟩) (λp hp=>⟨f,10,hf,by decide,by decide,aS.mp hp⟩)
 ·omega
theorem Tf {e:Nat}(he:e < 48):WK b m ([lc b 0,lc b 10,lc b 0,lc b 10]++Jn b m e) 2 (Jn b m e):=
 xn h1 h7 he (h:=[]) (ps:=[(lc b 0,lc b 10),(lc b 0,lc b 10)]) (by simp) (λs hs=>by cases hs) (λp hp=>⟨0,10,by omega,by decide,by decide,by simpa using hp⟩)
theorem Qi {e:Nat}(he:e < 48):WK b m ([lc b 11,lc b 11]++Jn b m e) 0 (Jn b m e):=
 xn h1 h7 he (h:=[lc b 11,lc b 11]) (ps:=[]) (by simp) (λs hs=>⟨11,by decide,by decide,by simpa using hs⟩) (λp hp=>by cases hp)
theorem WF {i:Nat}(hi:i < m):WK b m [lc b i,lc b 25] 0 [lc b i,lc b 25]:=
 GF h1 h7 (pre:=[]) (v:=lc b i) (t:=[lc b 25]) (by simp) (λs hs=>by
  have:s=lc b i\/s=lc b 25:=by simpa using hs
  rcases this with rfl | rfl <;> exact pM _ _) (Kd h1 h7 hi) (λs hs=>by rw[aS.mp hs];exact zR h1 h7 (by decide) (by decide)) (by simp) (ps:=[]) (h:=[]) rfl (λs hs=>by cases hs) (λp hp=>by cases hp)
end
abbrev Bd:=Option (Str×Nat)
structure Rw where
 nm:Str
 bd:Bd
 bk:Option Nat
noncomputable def JY:Bd->PV
 | none=>.FG
 | some x=>.tup [.str x.1,.int (x.2:Nat)]
noncomputable def KP:Option Nat->PV
 | none=>.FG
 | some k=>.int (k:Nat)
noncomputable def FY (r:Rw):PV:=.tup [.str r.nm,JY r.bd,KP r.bk]
structure NR (rs:List Rw):Prop where
 n:rs.length<=47
 nm:∀r∈rs,r.nm∈FU
 bd:∀r∈rs,∀x,r.bd=some x->PyData.strOk x.1=true
 bk:∀(k:Nat) (r:Rw) (p:Nat),rs[k]?=some r->r.bk=some p->p < k/\r.bd=none/\∃q:Rw,rs[p]?=some q/\q.bk=none
theorem Ke {x y:Bd}(hx:∀z,x=some z->PyData.strOk z.1=true)(hy:∀z,y=some z->PyData.strOk z.1=true):Kt (JY x) (JY y)=some (decide (x=y)):=by
 have sh:∀{a:Str}{i:Nat},PyData.strOk a=true->SeqAt.shaped (.tuple [.str a,.int (i:Nat)])=true:=λ{a i} h=>by simp[SeqAt.shaped,PyData.canLay0,PyData.canLayAll0,PyData.depth,PyData.depthAll,h]
 have s0:SeqAt.shaped .none=true:=rfl
 cases x with
 | none=>
  cases y with
  | none=>rfl
  | some y=>
   have s2:=sh (i:=y.2) (hy y rfl)
   simp[JY,Kt,Pl,Q2,toD,d8,s0,s2,PyData.eqv]
 | some x=>
  cases y with
  | none=>
   have s2:=sh (i:=x.2) (hx x rfl)
   simp[JY,Kt,Pl,Q2,toD,d8,s0,s2,PyData.eqv]
  | some y=>
   obtain⟨a,i⟩:=x
   obtain⟨c,j⟩:=y
   have s1:=sh (i:=i) (hx _ rfl)
   have s2:=sh (i:=j) (hy _ rfl)
   have e:((i:Int)=(j:Int))↔i=j:=by omega
   by_cases e1:a=c
   ·subst e1
    by_cases e2:i=j
    ·subst e2
     simp[JY,Kt,Pl,Q2,toD,d8,s1,PyData.eqv,PyData.eqvAll]
    ·have e3:¬ (i:Int)=(j:Int):=λz=>e2 (e.mp z)
     simp[JY,Kt,Pl,Q2,toD,d8,s1,s2,PyData.eqv,PyData.eqvAll,e2,e3]
   ·simp[JY,Kt,Pl,Q2,toD,d8,s1,s2,PyData.eqv,PyData.eqvAll,e1]
noncomputable def HE (rs:List Rw)(k:Nat)(bd:Bd):List Nat:=if bd=none then [] else (List.range k).filter λj=>decide ((rs.getD j ⟨⟨#[]⟩,none,none⟩).bd=bd)
theorem qG {rs:List Rw}{k:Nat}{r:Rw}(h:rs[k]?=some r):F0 (rs.map FY) (k:Int)=some (FY r):=gA (by rw[a6,h];rfl)
theorem WL {rs:List Rw}(O:NR rs){k:Nat}{r:Rw}(h:rs[k]?=some r):dI [.lst (rs.map FY),.int (k:Nat)]=some (.lst ((HE rs k r.bd).map λj=>.int (j:Nat))):=by
 have hk:=(av.mp h).1
 have hn:=O.n
 have ha:=qG h
 have hm:r∈rs:=bE h
 have i1:F0 [PV.str r.nm,JY r.bd,KP r.bk] 1=some (JY r.bd):=rfl
 cases hb:r.bd with
 | none=>
  rw[hb] at i1
  generalize rs.map FY=RS at *
  simp[dI,lQ,ha,FY,hb,i1,JY,HE]
 | some x=>
  rw[hb] at i1
  have hr:MR.MW (k:Int)=true:=MR.HZ (by omega) (by omega)
  have hq:(dO 0 (k:Int)).length<=1000000:=by rw[dG];simp;omega
  have hc:bR [none,some (JY (some x)),some (.lst (rs.map FY))] (gN 0) jJ jH (dO 0 (k:Int))=some ((HE rs k (some x)).map λj=>.int (j:Nat)):=by
   rw[dG]
   unfold HE
   rw[ap (by simp)]
   refine cz (λj:Nat=>PV.int (j:Nat)) (λj:Nat=>PV.int (j:Nat)) _ _ λj hj=>⟨_,rfl,?_,λ_=>by rfl⟩
   have hj:=bS.mp hj
   have hjl:j < rs.length:=by omega
   have hg:rs[j]?=some rs[j]:=ah hjl
   have hja:=qG hg
   have hmj:rs[j]∈rs:=fI hjl
   have he:=Ke (x:=rs[j].bd) (y:=some x) (O.bd _ hmj) (λz hz=>O.bd r hm z (by rw[hb];exact hz))
   have hgd:rs.getD j ⟨⟨#[]⟩,none,none⟩=rs[j]:=by simp[hjl]
   have i2:F0 [PV.str rs[j].nm,JY rs[j].bd,KP rs[j].bk] 1=some (JY rs[j].bd):=rfl
   rw[hgd]
   generalize rs.map FY=RS,JY (some x)=BX at *
   simp[jJ,hja,FY,i2,he]
  generalize rs.map FY=RS,(HE rs k (some x)).map (λj=>PV.int (j:Nat))=BB at *
  have hnn:¬ JY (some x)=.FG:=by simp[JY]
  simp[dI,lQ,ha,FY,hb,i1,hr,hq,hc]
theorem WM {F:List (Str×PV)}{C:Nat->Bool}(T:Tg F C){c1 c2:oz}{k1 k2:Nat}{e1 e2:oz}(w1:Wk F C c1 k1 e1)(w2:Wk F C c2 k2 e2):iI [.obj 0 F,.lst [mS c1],.lst [mS c2]]=some (.bl (decide (e1=e2))):=by
 obtain⟨p1,v1,t1,q1,x1,y1,z1⟩:=w1.e
 obtain⟨p2,v2,t2,q2,x2,y2,z2⟩:=w2.e
 have a:=w1.w
 have b:=w2.w
 rw[q1] at a ⊢
 rw[q2] at b ⊢
 rw[z1,z2]
 exact Ww T a b x1 x2 y1 y2
theorem Kf {cs:oz}(h:∀s∈cs,97<=s/\s < 123):PyData.strOk (FK cs)=true:=by
 unfold PyData.strOk
 rw[Array.all_eq_true_iff_forall_mem]
 intro s hs
 have MM:s∈cs:=by
  have:s∈(FK cs).cps.toList:=nt.mpr hs
  rwa [jc] at this
 have:=h s MM
 simp
 omega
theorem WN {a b:oz}(h:FK a=FK b):a=b:=by
 have:=dr (λz:Str=>z.cps.toList) h
 simpa [jc] using this
theorem Ng {a b:oz}(ha:∀s∈a,97<=s/\s < 123)(hb:∀s∈b,97<=s/\s < 123):Kt (.lst [mS a]) (.lst [mS b])=some (decide (a=b)):=by
 have h1:=Kf ha
 have h2:=Kf hb
 have s1:SeqAt.shaped (.list [.str (FK a)])=true:=by simp[SeqAt.shaped,PyData.canLay0,PyData.canLayAll0,PyData.depth,PyData.depthAll,h1]
 have s2:SeqAt.shaped (.list [.str (FK b)])=true:=by simp[SeqAt.shaped,PyData.canLay0,PyData.canLayAll0,PyData.depth,PyData.depthAll,h2]
 by_cases e:a=b
 ·subst e
  simp[Kt,Pl,Q2,toD,d8,s1,PyData.eqv,PyData.eqvAll]
 ·have e':¬ FK a=FK b:=λz=>e (WN z)
  simp[Kt,Pl,Q2,toD,d8,s1,s2,PyData.eqv,PyData.eqvAll,e,e']
noncomputable def HC (n:Nat)(wd:Nat->List Nat):PV:=.lst ((List.range n).map λi=>PV.lst [mS (wd i)])
theorem xq {n k:Nat}{wd:Nat->List Nat}(h:k < n):F0 ((List.range n).map λi=>PV.lst [mS (wd i)]) (k:Int)=some (.lst [mS (wd k)]):=gA (by simp[h])
noncomputable def dD (k:Nat):List Nat->List PV
 | []=>[]
 | j::_=>[.tup [.str "rhyme",.int (k:Nat),.int (j:Nat)]]
noncomputable def Nc (k:Nat)(wd:Nat->List Nat):Option Nat->List PV
 | none=>[]
 | some p=>if wd k=wd p then [] else [.tup [.str "again",.int (k:Nat),.int (p:Nat)]]
noncomputable def N0 (rs:List Rw)(wd:Nat->List Nat)(long:Nat->Bool)(un:Nat->Nat->Bool)(k:Nat)(r:Rw):List PV:=
 (if long k=true then [.tup [.str "metre",.int (k:Nat)]] else [])++dD k ((HE rs k r.bd).filter (un k))++Nc k wd r.bk
structure RY (ms:List (Key×PV)):Prop where
 a:∀nm∈FU,∃p∈wz,∃c,dF ms (.inr nm)=some (sY p c)
theorem WQ {F:List (Str×PV)}{C:Nat->Bool}(T:Tg F C){ms:List (Key×PV)}(M:RY ms){rs:List Rw}(O:NR rs){wd:Nat->List Nat}{ks:Nat->Nat}{es:Nat->List Nat}(hw:∀i,i < rs.length->Wk F C (wd i) (ks i) (es i)/\ks i<=2){k:Nat}{r:Rw}(h:rs[k]?=some r):
  jK [.obj 0 F,.dK ms,.lst (rs.map FY),HC rs.length wd,.int (k:Nat)]=some (.lst (N0 rs wd (λi=>decide (ks i=2)) (λi j=>!decide (es i=es j)) k r)):=by
 have hk:=(av.mp h).1
 have hn:=O.n
 have hrm:r∈rs:=bE h
 obtain⟨wk,hk2⟩:=hw k hk
 have Ic:=qG h
 have hpo:=xq (wd:=wd) hk
 have hbf:=WL O h
 obtain⟨p,hp,c,hm⟩:=M.a r.nm (O.nm r hrm)
 obtain⟨y0,y1,y2⟩:=Qg p hp c
 have htab:=wk.tab
 have hbm:∀j∈HE rs k r.bd,j < k:=λj hj=>by
  unfold HE at hj
  split at hj
  ·cases hj
  ·exact bS.mp (dy.mp hj).1
 have NG:bR [none,some (.obj 0 F),some (.lst [mS (wd k)]),some (HC rs.length wd)] (gN 0) iM iJ ((HE rs k r.bd).map λj=>.int (j:Nat))=some (((HE rs k r.bd).filter λj=>!decide (es k=es j)).map λj=>.int (j:Nat)):=by
  refine cz (λj:Nat=>PV.int (j:Nat)) (λj:Nat=>PV.int (j:Nat)) _ _ λj hj=>⟨_,rfl,?_,λ_=>by simp[iJ]⟩
  have hjk:=hbm j hj
  have hpj:=xq (wd:=wd) (n:=rs.length) (k:=j) (by omega)
  have hr:=WM T wk (hw j (by omega)).1
  unfold HC
  generalize ((List.range rs.length).map λi=>PV.lst [mS (wd i)])=PO at *
  simp[iM,hpj,hr]
 have hbl:((HE rs k r.bd).map λj=>PV.int (j:Nat)).length<=1000000:=by
  rw[ae]
  have:(HE rs k r.bd).length<=k:=by
   unfold HE
   split
   ·simp
   ·exact cw (dc _ _) (by simp)
  omega
 have hufl:((HE rs k r.bd).filter λj=>!decide (es k=es j)).length<=1000000:=cw (dc _ _) (by simpa using hbl)
 have hun:∀L:List Nat,(L.map λj=>PV.int (j:Nat))=L.map λj=>PV.int (j:Nat):=λ_=>rfl
 generalize hU:((HE rs k r.bd).filter λj=>!decide (es k=es j))=U at *
 have hmk:cJ [Bj (ks k),sY p c]=some (.int (if ks k=2 then 0 else 1)):=by
  have:ks k=0\/ks k=1\/ks k=2:=by omega
  rcases this with e | e | e <;> rw[e]
  ·exact y0
  ·exact y1
  ·exact y2
 have i0:F0 [PV.str r.nm,JY r.bd,KP r.bk] 0=some (.str r.nm):=rfl
 have i2:F0 [PV.str r.nm,JY r.bd,KP r.bk] 2=some (KP r.bk):=rfl
 have hag:r.bk=none\/∃q,r.bk=some q/\q < k/\F0 ((List.range rs.length).map λi=>PV.lst [mS (wd i)]) (q:Int)=some (.lst [mS (wd q)])/\Kt (.lst [mS (wd k)]) (.lst [mS (wd q)])=some (decide (wd k=wd q)):=by
  cases hb:r.bk with
  | none=>exact .inl rfl
  | some q=>
   have hq:=(O.bk k r q h hb).1
   exact .inr ⟨q,rfl,hq,xq (by omega),Ng wk.w.t (hw q (by omega)).1.w.t⟩
 let Lc:MR.Env:=[some (.obj 0 F),some (.dK ms),some (.lst (rs.map FY)),some (HC rs.length wd),some (.int (k:Nat)),none,none,none,none,none]
 let e8:List PV->MR.Env:=λL=>[some (.obj 0 F),some (.dK ms),some (.lst (rs.map FY)),some (HC rs.length wd),some (.int (k:Nat)),some (.lst [mS (wd k)]),some (FY r),some (KP r.bk),some (.lst L),none]
 let e9:List PV->MR.Env:=λL=>[some (.obj 0 F),some (.dK ms),some (.lst (rs.map FY)),some (HC rs.length wd),some (.int (k:Nat)),some (.lst [mS (wd k)]),some (FY r),some (KP r.bk),some (.lst L),some (.lst (U.map λj=>.int (j:Nat)))]
 let A1:List PV:=if decide (ks k=2)=true then [.tup [.str "metre",.int (k:Nat)]] else []
 have Si:N0 rs wd (λi=>decide (ks i=2)) (λi j=>!decide (es i=es j)) k r=A1++dD k U++Nc k wd r.bk:=by
  show A1++dD k ((HE rs k r.bd).filter λj=>!decide (es k=es j))++Nc k wd r.bk=_
  rw[hU]
 rw[Si]
 have hA1:A1.length < 1000000:=by
  show (if decide (ks k=2)=true then [PV.tup [.str "metre",.int (k:Nat)]] else []).length < 1000000
  split <;> simp
 have s5:F9 (tV (b2 eqQ (aH cJ (ak (aH gY (Fn 0 (Fn 5 az))) (ak (b2 FI (bV 1) (b2 FI (bV 6) (Fh 0))) az))) (Fh 0))) (bh cD 8 (a_ (ak (bC (.str "metre")) (Fn 4 az)))) GI (e8 [])=some (.nx (e8 A1)):=by
  show _=some (Out.nx (e8 (if decide (ks k=2)=true then [.tup [.str "metre",.int (k:Nat)]] else [])))
  simp only[e8]
  generalize rs.map FY=RS,HC rs.length wd=PO,Bj (ks k)=OP,sY p c=MP,cJ=mm,gY=mt at *
  by_cases e2:ks k=2
  ·rw[bg e2] at hmk
   simp[htab,FY,i0,hm,hmk,e2,cD]
  ·rw[ap e2] at hmk
   simp[htab,FY,i0,hm,hmk,e2]
 have s6:aK 9 (bF [none,some 0,some 5,some 3] (iV (aH dI (Fn 2 (Fn 4 az)))) (gN 0) iM iJ) (e8 A1)=some (.nx (e9 A1)):=by
  simp only[e8,e9]
  generalize A1=A,hBB:((HE rs k r.bd).map λj=>PV.int (j:Nat))=BB,hUU:(U.map λj=>PV.int (j:Nat))=UU,rs.map FY=RS,HC rs.length wd=PO,dI=mm,iM=cc,iJ=ce at *
  simp[hbf,MI,hbl,NG]
 have s7:F9 (tV (b2 (gR λi j=>decide (j < i)) (b1 F3 (bV 9)) (Fh 0))) (bh cD 8 (a_ (ak (bC (.str "rhyme")) (Fn 4 (ak (b2 FI (bV 9) (Fh 0)) az))))) GI (e9 A1)=some (.nx (e9 (A1++dD k U))):=by
  simp only[e9]
  generalize A1=A,rs.map FY=RS,HC rs.length wd=PO at *
  cases U with
  | nil=>simp[dD]
  | cons j U=>
   have hz:F0 ((j::U).map λj=>PV.int (j:Nat)) 0=some (.int (j:Nat)):=gA (j:=0) rfl
   have hl:((j::U).map λj=>PV.int (j:Nat)).length=U.length+1:=by simp
   generalize ((j::U).map λj=>PV.int (j:Nat))=UU at *
   have:(0:Int) < (U.length:Int)+1:=by omega
   simp[hl,hz,dD,this,hA1]
 have s8:F9 (tA (tV (b2 gK (bV 7) (bC .FG))) (tV (b2 L3 (bV 5) (b2 FI (bV 3) (bV 7))))) (bh cD 8 (a_ (ak (bC (.str "again")) (Fn 4 (Fn 7 az))))) GI (e9 (A1++dD k U))=some (.nx (e9 (A1++dD k U++Nc k wd r.bk))):=by
  have hAl:(A1++dD k U).length < 1000000:=by
   have h1:A1.length<=1:=by
    show (if decide (ks k=2)=true then [PV.tup [.str "metre",.int (k:Nat)]] else []).length<=1
    split <;> simp
   have h2:(dD k U).length<=1:=by cases U <;> simp[dD]
   rw[ax]
   omega
  simp only[e9]
  generalize A1++dD k U=A,(U.map λj=>PV.int (j:Nat))=UU,rs.map FY=RS at *
  rcases hag with e | ⟨q,e,_,e1,e2⟩
  ·rw[e]
   simp[KP,Nc]
  ·rw[e]
   unfold HC
   generalize ((List.range rs.length).map λi=>PV.lst [mS (wd i)])=PO at *
   by_cases ee:wd k=wd q
   ·rw[br ee] at e2
    have hq:Nc k wd (some q)=[]:=bg ee
    rw[hq]
    simp[KP,e1,e2]
   ·rw[a5 ee] at e2
    have hq:Nc k wd (some q)=[.tup [.str "again",.int (k:Nat),.int (q:Nat)]]:=ap ee
    rw[hq]
    simp[KP,e1,e2,hAl]
 have s1:aK 5 (b2 FI (bV 3) (bV 4)) Lc=some (.nx (Lc.set 5 (some (.lst [mS (wd k)])))):=by
  simp only[Lc]
  unfold HC
  generalize ((List.range rs.length).map λi=>PV.lst [mS (wd i)])=PO,rs.map FY=RS at *
  simp[hpo]
 have s2:aK 6 (b2 FI (bV 2) (bV 4)) (Lc.set 5 (some (.lst [mS (wd k)])))=some (.nx ((Lc.set 5 (some (.lst [mS (wd k)]))).set 6 (some (FY r)))):=by
  simp only[Lc]
  generalize HC rs.length wd=PO,rs.map FY=RS at *
  simp[Ic]
 have s3:aK 7 (b2 FI (bV 6) (Fh 2)) ((Lc.set 5 (some (.lst [mS (wd k)]))).set 6 (some (FY r)))=some (.nx (((Lc.set 5 (some (.lst [mS (wd k)]))).set 6 (some (FY r))).set 7 (some (KP r.bk)))):=by
  simp only[Lc]
  generalize HC rs.length wd=PO,rs.map FY=RS at *
  simp[FY,i2]
 have s4:aK 8 (bA az) (((Lc.set 5 (some (.lst [mS (wd k)]))).set 6 (some (FY r))).set 7 (some (KP r.bk)))=some (.nx (e8 [])):=by
  simp only[Lc,e8]
  generalize HC rs.length wd=PO,rs.map FY=RS at *
  simp
 have hb:mY Lc=some (.rt (.lst (A1++dD k U++Nc k wd r.bk))):=by
  unfold mY
  rw[aP s1,aP s2,aP s3,aP s4,aP s5,aP s6,aP s7,aP s8]
  simp only[e9]
  generalize A1++dD k U++Nc k wd r.bk=A at *
  simp
 simp only[Lc] at hb
 unfold jK
 generalize mY=B,A1++dD k U++Nc k wd r.bk=A,HC rs.length wd=PO,rs.map FY=RS at *
 simp[hb]
def bdB (bd:Option Str)(t:Nat):Bd:=bd.map λx=>(x,if ltr x=true then t else 0)
theorem bqB (bd:Option Str)(t:Nat):JY (bdB bd t)=bdV bd t:=by cases bd <;> rfl
def lV (N:List Pt)(a b T k:Nat):Rw:=match N.getD (qi a b T k).1 .op with
 | .rw nm bd=>⟨nm,bdB bd (qi a b T k).2,none⟩
 | .as r=>⟨v_ N (r - 1),none,some ((m9 (λk'=>(qi a b T k').1 == r - 1) k).getD 0)⟩
 | _=>⟨⟨#[]⟩,none,none⟩
theorem Jc {N:List Pt}{a b T k:Nat}{nm:Str}{bd:Option Str}(h:N[(qi a b T k).1]?=some (.rw nm bd)):lV N a b T k=⟨nm,bdB bd (qi a b T k).2,none⟩:=by
 unfold lV
 rw[al,h]
 rfl
theorem Th {N:List Pt}{a b T k r:Nat}(h:N[(qi a b T k).1]?=some (.as r)):lV N a b T k=⟨v_ N (r - 1),none,some ((m9 (λk'=>(qi a b T k').1 == r - 1) k).getD 0)⟩:=by
 unfold lV
 rw[al,h]
 rfl
noncomputable def aO (f:Fm)(T:Nat):List Rw:=(List.range ((fA f).length+T*(fB f).length+(fC f).length)).map (lV (fN f) (fA f).length (fB f).length T)
structure PD (f:Fm):Prop where
 o:Yf f
 w:LU f
 p:∀p∈parts f,Lo p
 l:(parts f).length<=8
structure FmT (f:Fm)(T:Nat):Prop where
 a:∃lo,L7 (fN f) (fA f).length (fB f).length lo/\lo<=T
 t:T<=4
 i:NF (fN f)
 p:∀p∈fN f,Lo p
 l:(fA f).length+T*(fB f).length+(fC f).length<=40
 n:(fN f).length=(fA f).length+(fB f).length+(fC f).length
 m:(fN f).length<=8
theorem Bm {f:Fm}(h:PD f){T:Nat}(hT:T∈bf f):FmT f T:=by
 obtain⟨hf,hw,hp,hl⟩:=h
 cases hw with
 | @w0 A hA=>
  have e:T=1:=by simpa [bf] using hT
  have eN:fN (.f0 A)=A:=by simp[fN,fA,fB,fC]
  subst e
  have NU:A.length<=8:=hl
  refine⟨⟨1,by rw[eN];exact hf.2,aw _⟩,by decide,by rw[eN];exact hf.1,by rw[eN];exact hp,?_,by rw[eN];simp[fA,fB,fC],by rw[eN];exact NU⟩
  simp[fA,fB,fC];omega
 | @w2 A B lo hi C=>
  obtain⟨h1,h2,h3,h4,h5,h6,h7⟩:=hf
  have e:lo<=T/\T < hi+1:=by
   have:=hT
   simp only[bf,List.mem_range'_1] at this
   omega
  have eN:fN (.f2 A B lo hi C)=A++B++C:=rfl
  have NU:A.length+B.length+C.length+2<=8:=by
   have:=hl
   simp[parts] at this
   omega
  have ML:∀p∈A++B++C,p∈parts (.f2 A B lo hi C):=λp hp=>by
   simp only[parts,bX,ar] at hp ⊢
   rcases hp with (z | z) | z
   ·exact .inl z
   ·exact .inr (.inr (.inl z))
   ·exact .inr (.inr (.inr (.inr z)))
  have hb:T*B.length<=4*B.length:=ic _ (by omega)
  refine⟨⟨lo,h4,e.1⟩,by omega,λp hp=>?_,λp MX=>hp p (ML p MX),?_,by rw[eN];simp[fA,fB,fC];omega,by rw[eN];simp;omega⟩
  ·rw[eN] at hp
   rcases bX.mp hp with hp | hp
   ·rcases bX.mp hp with hp | hp
    ·exact h1 p hp
    ·exact h2 p hp
   ·exact h3 p hp
  ·show A.length+T*B.length+C.length<=40
   omega
theorem Ec {f:Fm}{T:Nat}(h:FmT f T){k:Nat}(hk:k < (fA f).length+T*(fB f).length+(fC f).length):
  m_ (fN f) (fA f).length (fB f).length T k=FY (lV (fN f) (fA f).length (fB f).length T k) /\
  (lV (fN f) (fA f).length (fB f).length T k).nm∈FU/\(∀x,(lV (fN f) (fA f).length (fB f).length T k).bd=some x->PyData.strOk x.1=true) /\
  ∀p,(lV (fN f) (fA f).length (fB f).length T k).bk=some p->p < k/\(lV (fN f) (fA f).length (fB f).length T k).bd=none/\(lV (fN f) (fA f).length (fB f).length T p).bk=none:=by
 obtain⟨lo,hA,hlo⟩:=h.a
 have IT:=QH hk
 have hn:=h.n
 obtain⟨p,hp⟩:∃p,(fN f)[(qi (fA f).length (fB f).length T k).1]?=some p:=⟨_,ah (by omega)⟩
 have ML:p∈fN f:=bE hp
 have hi:=h.i p ML
 cases p with
 | op=>cases hi
 | cl _ _=>cases hi
 | rw nm bd=>
  have hb:=(h.p _ ML).nm nm bd rfl
  rw[Bf hp,Jc hp]
  refine⟨by unfold FY;simp only[bqB,KP],hb.1,λx hx=>?_,λp hp=>by cases hp⟩
  cases bd with
  | none=>cases hx
  | some y=>
   have:x=(y,if ltr y=true then (qi (fA f).length (fB f).length T k).2 else 0):=(bi hx).symm
   rw[this]
   exact Mz y (hb.2 y rfl)
 | as r=>
  obtain⟨p,p1,p2,p3,p4,p5⟩:=QG (c:=(fC f).length) hA hlo hk hp
  obtain⟨r1,r2,⟨nm,bd,r3⟩,r4⟩:=hA _ r hp
  have OV:m9 (λk'=>(qi (fA f).length (fB f).length T k').1 == r - 1) k=some p:=yr p1 (by simp[p2]) λk z1 z2=>by simp[p4 k z1 z2]
  have hnm:v_ (fN f) (r - 1)=nm:=by
   unfold v_
   rw[al,r3]
   rfl
  have hb:=(h.p _ (bE r3)).nm nm bd rfl
  rw[Ir hp,Th hp,OV,hnm]
  refine⟨rfl,hb.1,λx hx=>(by cases hx),λq hq=>?_⟩
  have:p=q:=bi hq
  subst this
  exact⟨p1,rfl,by rw[Jc (by rw[p2];exact r3)]⟩
theorem Ed {f:Fm}{T:Nat}(h:FmT f T):NR (aO f T):=by
 have hl:=h.l
 have hlen:(aO f T).length=(fA f).length+T*(fB f).length+(fC f).length:=by simp[aO]
 have hget:∀{k:Nat}{r:Rw},(aO f T)[k]?=some r->k < (fA f).length+T*(fB f).length+(fC f).length/\r=lV (fN f) (fA f).length (fB f).length T k:=λ{k r} hr=>by
  have hk:k < (aO f T).length:=(av.mp hr).1
  rw[hlen] at hk
  refine⟨hk,?_⟩
  unfold aO at hr
  rw[a6,dL hk] at hr
  exact(bi hr).symm
 have hm:∀r∈aO f T,∃k,k < (fA f).length+T*(fB f).length+(fC f).length/\r=lV (fN f) (fA f).length (fB f).length T k:=λr hr=>by
  obtain⟨k,hk,e⟩:=cx.mp hr
  exact⟨k,bS.mp hk,e.symm⟩
 refine⟨by omega,λr hr=>?_,λr hr=>?_,λk r p hr hp=>?_⟩
 ·obtain⟨k,hk,rfl⟩:=hm r hr
  exact(Ec h hk).2.1
 ·obtain⟨k,hk,rfl⟩:=hm r hr
  exact(Ec h hk).2.2.1
 ·obtain⟨hk,rfl⟩:=hget hr
  obtain⟨q1,q2,q3⟩:=(Ec h hk).2.2.2 p hp
  refine⟨q1,q2,lV (fN f) (fA f).length (fB f).length T p,?_,q3⟩
  unfold aO
  rw[a6,dL (by omega)]
  rfl
theorem QJ {f:Fm}(h:PD f){T:Nat}(hT:T∈bf f):c7 [tP (parts f),.int (T:Nat)]=some (.lst ((aO f T).map FY)):=by
 have t:=Bm h hT
 obtain⟨lo,hA,hlo⟩:=t.a
 have h4:=t.t
 have hn:=t.n
 have hm:=t.m
 have hl8:=h.l
 have hl:=t.l
 have hc:=V8 (T:=T) h.o h.w (by omega) h4 (by omega) (by omega) (by omega)
 have hr:=Su hc hn t.i t.p hA hlo (by omega)
 rw[hr,aO,cn]
 congr 2
 exact cK λk hk=>(Ec t (bS.mp hk)).1
theorem GJ (f:Fm)(T:Nat):(aO f T).length=(fA f).length+T*(fB f).length+(fC f).length:=by simp[aO]
theorem Ti {f:Fm}{T T':Nat}(h:(aO f T).length=(aO f T').length):aO f T=aO f T':=by
 rw[GJ,GJ] at h
 have hb:T*(fB f).length=T'*(fB f).length:=by omega
 have hq:∀k,qi (fA f).length (fB f).length T k=qi (fA f).length (fB f).length T' k:=λk=>by unfold qi;rw[hb]
 unfold aO
 rw[hb]
 exact cK λk _=>by unfold lV;simp only[hq]
theorem CN {α:Type}{g:PV->MR.Env->Option MR.Env}{ds:oz}{body:MR.Env->Option Out}{env:MR.Env}(c:α->PV)(v:α->Option PV):∀(ys:List α),
  (∀y∈ys,(v y=none/\turn g ds body (c y) env=some env)\/∃w,v y=some w/\∃e1,g (c y) env=some e1/\body e1=some (.rt w))->
  bw g ds body (ys.map c) env=some ((ys.findSome? v).elim (.nx env) .rt)
 | [],_=>rfl
 | y::ys,h=>by
  rcases h y af with ⟨k,t⟩ | ⟨w,hv,e1,h1,h2⟩
  ·have ih:=CN c v ys λz hz=>h z (ac _ hz)
   rw[ag,dh t,ih,nN,k]
  ·rw[nN,hv]
   simp[bw,h1,h2]
theorem WR {f:Fm}(h:PD f){T:Nat}(hT:T∈bf f):gn [tP (parts f),.int ((aO f T).length:Nat)]=some (.lst ((aO f T).map FY)):=by
 have hl8:=h.l
 have ht:=Gi h.o h.w (by omega)
 have htl:((bf f).map λk=>PV.int (k:Nat)).length<=1000000:=by
  rw[ae]
  cases f with
  | f0 A=>simp[bf]
  | f1 A B=>simp[bf]
  | f2 A B lo hi C=>have:=h.o.2.2.2.2.2.2;simp[bf];omega
 have hz:∀T'∈bf f,c7 [tP (parts f),.int (T':Nat)]=some (.lst ((aO f T').map FY)):=λT' h'=>QJ h h'
 have hle:∀T'∈bf f,(aO f T').length<=1000000:=λT' h'=>by rw[GJ];have:=(Bm h h').l;omega
 generalize tP (parts f)=FP at *
 have lp:=CN (g:=gN 2) (ds:=[2,3]) (body:=eX) (env:=[some FP,some (.int ((aO f T).length:Nat)),none,none]) (λk:Nat=>PV.int (k:Nat))
  (λT'=>if (aO f T').length=(aO f T).length then some (.lst ((aO f T).map FY)) else none) (bf f) (λT' h'=>by
   have RU:=hz T' h'
   have NU:((aO f T').map FY).length<=1000000:=by rw[ae];exact hle T' h'
   have el:((aO f T').map FY).length=(aO f T').length:=ae ..
   by_cases e:(aO f T').length=(aO f T).length
   ·have es:=Ti e
    refine .inr ⟨_,bg e,_,rfl,?_⟩
    rw[es] at RU NU el
    unfold eX
    generalize hR:(aO f T).map FY=R,c7=m at *
    rw[← el]
    simp[RU,NU]
   ·refine .inl ⟨ap e,?_⟩
    have e':¬ (((aO f T').length:Int)=((aO f T).length:Int)):=by omega
    unfold eX
    generalize hR:(aO f T').map FY=R,c7=m at *
    simp[bJ,RU,NU,el,e,e',Kt])
 have hfs:(bf f).findSome? (λT'=>if (aO f T').length=(aO f T).length then some (PV.lst ((aO f T).map FY)) else none)=some (.lst ((aO f T).map FY)):=by
  cases q:(bf f).findSome? (λT'=>if (aO f T').length=(aO f T).length then some (PV.lst ((aO f T).map FY)) else none) with
  | none=>
   have:=List.findSome?_eq_none_iff.mp q T hT
   simp at this
  | some v=>
   obtain⟨T',_,e⟩:=List.exists_of_findSome?_eq_some q
   split at e
   ·exact e.symm
   ·cases e
 rw[hfs] at lp
 unfold gn q_
 generalize (aO f T).map FY=R,eX=B,(bf f).map (λk=>PV.int (k:Nat))=TT,gU=m at *
 simp[ht,MI,htl,lp]
theorem WT {ms:List (Key×PV)}(M:RY ms){f:Fm}(h:∀p∈parts f,Lo p)(hl:(parts f).length<=8):fL [.dK ms,tP (parts f)]=some .FG:=by
 have lp:bw (gN 2) [2] cT ((parts f).map F1) [some (.dK ms),some (tP (parts f)),none]=some (.nx [some (.dK ms),some (tP (parts f)),none]):=by
  refine kE _ _ λp hp=>?_
  have FL:=h p hp
  generalize tP (parts f)=FP at *
  cases p with
  | op=>
   have a0:F0 [PV.str ("(" : Str)] 0=some (.str "("):=rfl
   have ne:¬ (("(" : Str)=("row" : Str)):=by decide +kernel
   rfl
  | cl lo hi=>
   have ne:¬ ((")" : Str)=("row" : Str)):=by decide +kernel
   rfl
  | as r=>
   have ne:¬ (("as" : Str)=("row" : Str)):=by decide +kernel
   rfl
  | rw nm bd=>
   obtain⟨q,_,c,hm⟩:=M.a nm (FL.nm nm bd rfl).1
   have hi:MV (.str nm) (.dK ms)=some true:=by
    show ((keyOf (.str nm)).map λk=>(dF ms k).isSome)=some true
    simp[hm]
   generalize QA bd=BP at *
   simp[bJ,cT,F1,hi]
 have ht:tP (parts f)=.tup ((parts f).map F1):=rfl
 have Tb:((parts f).map F1).length<=1000000:=by rw[ae];omega
 unfold fL qe
 rw[ht] at lp ⊢
 generalize (parts f).map F1=PP,cT=B at *
 simp[MI,Tb,lp]
def HV:Rw:=⟨⟨#[]⟩,none,none⟩
noncomputable def gr (rs:List Rw)(wd:Nat->List Nat)(long:Nat->Bool)(un:Nat->Nat->Bool)(n:Nat):List PV:=(List.range n).flatMap λk=>N0 rs wd long un k (rs.getD k HV)
theorem Jd (rs:List Rw)(wd:Nat->List Nat)(long:Nat->Bool)(un:Nat->Nat->Bool)(k:Nat)(r:Rw):(N0 rs wd long un k r).length<=3:=by
 unfold N0
 rw[ax,ax]
 have h1:(if long k=true then [PV.tup [.str "metre",.int (k:Nat)]] else []).length<=1:=by split <;> simp
 have h2:∀U,(dD k U).length<=1:=λU=>by cases U <;> simp[dD]
 have h3:∀o,(Nc k wd o).length<=1:=λo=>by
  cases o with
  | none=>simp[Nc]
  | some q=>
   show (if wd k=wd q then [] else [PV.tup [.str "again",.int (k:Nat),.int (q:Nat)]]).length<=1
   split <;> simp
 have:=h2 ((HE rs k r.bd).filter (un k))
 have:=h3 r.bk
 omega
theorem yE (rs:List Rw)(wd:Nat->List Nat)(long:Nat->Bool)(un:Nat->Nat->Bool):∀n,(gr rs wd long un n).length<=3*n
 | 0=>by simp[gr]
 | n+1=>by
  have ih:=yE rs wd long un n
  have:=Jd rs wd long un n (rs.getD n HV)
  unfold gr at ih ⊢
  rw[kA,nS,ax]
  simp only[lh,List.flatMap_nil,cf]
  omega
theorem CQ (rs:List Rw)(wd:Nat->List Nat)(long:Nat->Bool)(un:Nat->Nat->Bool)(n:Nat):gr rs wd long un (n+1)=gr rs wd long un n++N0 rs wd long un n (rs.getD n HV):=by
 unfold gr
 rw[kA,nS]
 simp
theorem Nh {F:List (Str×PV)}{C:Nat->Bool}(T:Tg F C){ms:List (Key×PV)}(M:RY ms){f:Fm}(hf:PD f){t:Nat}(ht:t∈bf f){wd:Nat->List Nat}{ks:Nat->Nat}{es:Nat->List Nat}(hw:∀i,i < (aO f t).length->Wk F C (wd i) (ks i) (es i)/\ks i<=2):
  dC [.obj 0 F,.dK ms,tP (parts f),HC (aO f t).length wd]=some (.lst (gr (aO f t) wd (λi=>decide (ks i=2)) (λi j=>!decide (es i=es j)) (aO f t).length)):=by
 have O:=Ed (Bm hf ht)
 have hrn:=WT M hf.p hf.l
 have hro:=WR hf ht
 generalize aO f t=rs,tP (parts f)=FP at *
 have hn:=O.n
 have HM:((List.range rs.length).map λi=>PV.lst [mS (wd i)]).length=rs.length:=by simp
 have hpl':((List.range rs.length).map λi=>PV.lst [mS (wd i)]).length<=1000000:=by rw[HM];omega
 have lp1:bw (gN 4) [4,5] jY ((List.range rs.length).map λi=>PV.lst [mS (wd i)]) [some (.obj 0 F),some (.dK ms),some FP,some (HC rs.length wd),none,none,none,none,none]=some (.nx [some (.obj 0 F),some (.dK ms),some FP,some (HC rs.length wd),none,none,none,none,none]):=by
  refine kE _ _ λi hi=>?_
  have W:=(hw i (bS.mp hi)).1
  have hr:=M7 T W.w
  generalize HC rs.length wd=PO at *
  unfold jY um
  generalize dj=m at *
  simp[bJ,MI,bw,hr]
 obtain⟨q,⟨k1,k2⟩,lp⟩:=iY (g:=gN 8) (ds:=[8]) (body:=jZ) (λk:Nat=>PV.int (k:Nat)) (λq:Nat=>[some (.obj 0 F),some (.dK ms),some FP,some (HC rs.length wd),none,none,some (.lst (rs.map FY)),some (.lst (gr rs wd (λi=>decide (ks i=2)) (λi j=>!decide (es i=es j)) q)),none])
  (λys q=>ys=List.range' q (rs.length - q)/\q<=rs.length)
  (by
   rintro y ys q ⟨i1,i2⟩
   have hq:q < rs.length:=by
    rcases dv q rs.length with z | z
    ·exact z
    ·rw[show rs.length - q=0 by omega] at i1;cases i1
   rw[show rs.length - q=(rs.length - (q+1))+1 by omega,dE] at i1
   obtain⟨rfl,rfl⟩:=eD i1
   refine⟨y+1,⟨rfl,by omega⟩,?_⟩
   have hg:rs[y]?=some (rs.getD y HV):=by
    rw[al,ah hq];rfl
   have hfi:=WQ T M O hw hg
   have h1:=yE rs wd (λi=>decide (ks i=2)) (λi j=>!decide (es i=es j)) y
   have h2:=Jd rs wd (λi=>decide (ks i=2)) (λi j=>!decide (es i=es j)) y (rs.getD y HV)
   rw[CQ]
   generalize gr rs wd (λi=>decide (ks i=2)) (λi j=>!decide (es i=es j)) y=A,N0 rs wd (λi=>decide (ks i=2)) (λi j=>!decide (es i=es j)) y (rs.getD y HV)=B at *
   have h3:A.length+B.length<=1000000:=by omega
   unfold jZ
   generalize jK=m,rs.map FY=RS,HC rs.length wd=PO at *
   simp[bJ,hfi,h3])
  (List.range' 0 rs.length) 0 ⟨by simp,da _⟩
 have hq:q=rs.length:=by
  have:=dr List.length k1
  simp at this
  omega
 subst hq
 have e0:gr rs wd (λi=>decide (ks i=2)) (λi j=>!decide (es i=es j)) 0=[]:=rfl
 simp only[e0] at lp
 rw[← d3] at lp
 have hnn:rs.length<=1000000:=by omega
 have hr:MR.MW (rs.length:Int)=true:=MR.HZ (by omega) (by omega)
 have Tx:=dG rs.length
 unfold dC v9
 generalize gr rs wd (λi=>decide (ks i=2)) (λi j=>!decide (es i=es j)) rs.length=A,jY=B2,jZ=B3,fL=m1,gn=m2,rs.map FY=RS at *
 unfold HC at *
 rw[← Tx] at lp
 generalize ((List.range rs.length).map λi=>PV.lst [mS (wd i)])=PO at *
 simp[hrn,MI,HM,hpl',hnn,lp1,hro,hr,lp]
noncomputable def enN (rs:List Rw)(L:oz)(n:Nat):Nat:=match (rs.getD n HV).bk with
 | some p=>L.getD p 0
 | none=>match HE rs n (rs.getD n HV).bd with
  | []=>n
  | j::_=>L.getD j 0
noncomputable def Nd (rs:List Rw):Nat->List Nat
 | 0=>[]
 | n+1=>Nd rs n++[enN rs (Nd rs n) n]
theorem qK (rs:List Rw):∀n,(Nd rs n).length=n
 | 0=>rfl
 | n+1=>by simp[Nd,qK rs n]
noncomputable def IZ (rs:List Rw)(k:Nat):Nat:=enN rs (Nd rs k) k
theorem nM (rs:List Rw):∀{n k:Nat},k < n->(Nd rs n)[k]?=some (IZ rs k)
 | 0,_,h=>absurd h (kz _)
 | n+1,k,h=>by
  by_cases e:k=n
  ·subst e
   rw[Nd,bt (by rw[qK];omega),qK,kK]
   rfl
  ·rw[Nd,be (by rw[qK];omega)]
   exact nM rs (by omega)
theorem Tj (rs:List Rw)(n:Nat):Nd rs n=(List.range n).map (IZ rs):=by
 refine hV λi=>?_
 by_cases h:i < n
 ·rw[nM rs h,a6,dL h];rfl
 ·rw[bo (by rw[qK];omega),bo (by simp;omega)]
theorem uw {rs:List Rw}{k:Nat}{bd:Bd}{j:Nat}(h:j∈HE rs k bd):j < k/\(rs.getD j HV).bd=bd/\bd≠none:=by
 unfold HE at h
 split at h
 ·cases h
 ·rename_i hn
  obtain⟨h1,h2⟩:=dy.mp h
  exact⟨bS.mp h1,gi h2,hn⟩
theorem GK {rs:List Rw}(O:NR rs):∀(k:Nat),k < rs.length->IZ rs k<=k:=λk=>by
 induction k using Nat.strongRecOn with
 | ind k ih=>
  intro hk
  have hg:rs[k]?=some (rs.getD k HV):=by rw[al,ah hk];rfl
  unfold IZ enN
  cases hb:(rs.getD k HV).bk with
  | some p=>
   obtain⟨q1,_,_⟩:=O.bk k _ p hg hb
   simp only[al,nM rs q1,eP]
   have:=ih p q1 (by omega)
   omega
  | none=>
   cases hf:HE rs k (rs.getD k HV).bd with
   | nil=>simp
   | cons j js=>
    obtain⟨q1,_,_⟩:=uw (rs:=rs) (k:=k) (bd:=(rs.getD k HV).bd) (j:=j) (by rw[hf];exact af)
    simp only[al,nM rs q1,eP]
    have:=ih j q1 (by omega)
    omega
theorem Ni {rs:List Rw}(O:NR rs){k p:Nat}(hk:k < rs.length)(hb:(rs.getD k HV).bk=some p):IZ rs k=IZ rs p:=by
 have hg:rs[k]?=some (rs.getD k HV):=by rw[al,ah hk];rfl
 obtain⟨q1,_,_⟩:=O.bk k _ p hg hb
 conv=>lhs;unfold IZ enN
 rw[hb]
 simp only[al,nM rs q1,eP]
theorem Tn {rs:List Rw}{k j:Nat}{bd:Bd}(hj:j<=k):HE rs j bd=(HE rs k bd).filter λi=>decide (i < j):=by
 unfold HE
 split
 ·rfl
 ·rw[List.filter_filter]
  have hr:List.range k=List.range j++(List.range (k - j)).map (j+·):=by
   rw[← nK,Nat.add_sub_cancel' hj]
  rw[hr,eL]
  have h2:((List.range (k - j)).map (j+·)).filter (λa=>decide (a < j)&&decide ((rs.getD a ⟨⟨#[]⟩,none,none⟩).bd=bd))=[]:=by
   rw[fF]
   intro a ha z
   obtain⟨i,_,rfl⟩:=cx.mp ha
   simp only[cm,hJ] at z
   omega
  rw[h2,cf]
  refine List.filter_congr λa ha=>?_
  have:=bS.mp ha
  simp[this]
theorem WX {rs:List Rw}(O:NR rs){k j:Nat}(hk:k < rs.length)(hj:j∈HE rs k (rs.getD k HV).bd):IZ rs j=IZ rs k:=by
 obtain⟨h1,h2,h3⟩:=uw hj
 have nb:∀i,i < rs.length->(rs.getD i HV).bd≠none->(rs.getD i HV).bk=none:=λi hi hn=>by
  have hg:rs[i]?=some (rs.getD i HV):=by rw[al,ah hi];rfl
  cases hb:(rs.getD i HV).bk with
  | none=>rfl
  | some p=>exact absurd (O.bk i _ p hg hb).2.1 hn
 cases hf:HE rs k (rs.getD k HV).bd with
 | nil=>rw[hf] at hj;cases hj
 | cons j0 js=>
  obtain⟨a1,a2,a3⟩:=uw (rs:=rs) (k:=k) (bd:=(rs.getD k HV).bd) (j:=j0) (by rw[hf];exact af)
  have ek:IZ rs k=IZ rs j0:=by
   conv=>lhs;unfold IZ enN
   rw[nb k hk h3,hf]
   simp only[al,nM rs a1,eP]
  rw[ek]
  by_cases e:j=j0
  ·rw[e]
  ·have hc:=Tn (rs:=rs) (bd:=(rs.getD k HV).bd) (gE h1)
   have IT:j0 < j:=by
    have hs:(HE rs k (rs.getD k HV).bd).Pairwise (· < ·):=by
     unfold HE
     split
     ·exact List.Pairwise.nil
     ·exact List.Pairwise.filter _ List.pairwise_lt_range
    rw[hf] at hs hj
    rcases ar.mp hj with z | z
    ·exact absurd z e
    ·exact(List.pairwise_cons.mp hs).1 j z
   rw[hf,fq (p:=λi=>decide (i < j)) (br IT)] at hc
   conv=>lhs;unfold IZ enN
   rw[nb j (by omega) (by rw[h2];exact h3),h2,hc]
   simp only[al,nM rs IT,eP]
noncomputable def OI (rs:List Rw):PV:=.lst ((List.range rs.length).map λi=>PV.int (IZ rs i:Nat))
theorem Tp {rs:List Rw}(O:NR rs):jF [.lst (rs.map FY)]=some (OI rs):=by
 have hn:=O.n
 have X9:(rs.map FY).length=rs.length:=ae ..
 obtain⟨q,⟨k1,k2⟩,lp⟩:=iY (g:=gN 2) (ds:=[2,3]) (body:=jV) (λk:Nat=>PV.int (k:Nat)) (λq:Nat=>[some (.lst (rs.map FY)),some (.lst ((Nd rs q).map λi=>PV.int (i:Nat))),none,none])
  (λys q=>ys=List.range' q (rs.length - q)/\q<=rs.length)
  (by
   rintro y ys q ⟨i1,i2⟩
   have hq:q < rs.length:=by
    rcases dv q rs.length with z | z
    ·exact z
    ·rw[show rs.length - q=0 by omega] at i1;cases i1
   rw[show rs.length - q=(rs.length - (q+1))+1 by omega,dE] at i1
   obtain⟨rfl,rfl⟩:=eD i1
   refine⟨y+1,⟨rfl,by omega⟩,?_⟩
   have hg:rs[y]?=some (rs.getD y HV):=by rw[al,ah hq];rfl
   have Ic:=qG hg
   generalize hr:rs.getD y HV=r at *
   have hm:r∈rs:=bE hg
   have i1:F0 [PV.str r.nm,JY r.bd,KP r.bk] 1=some (JY r.bd):=rfl
   have OW:F0 [PV.str r.nm,JY r.bd,KP r.bk] 2=some (KP r.bk):=rfl
   have Tx:MR.MW (y:Int)=true:=MR.HZ (by omega) (by omega)
   have NX:(dO 0 (y:Int)).length<=1000000:=by rw[dG];simp;omega
   have hc:bR [none,some (.lst (rs.map FY)),some (.int (y:Nat))] (gN 0) iD jU (dO 0 (y:Int))=some ((HE rs y r.bd).map λj=>.int (j:Nat)):=by
    rw[dG]
    have e:HE rs y r.bd=(List.range y).filter λj=>decide (r.bd≠none)&&decide ((rs.getD j HV).bd=r.bd):=by
     unfold HE
     split
     ·rename_i hz
      rw[hz]
      simp
     ·rename_i hz
      simp[hz,HV]
    rw[e]
    refine cz (λj:Nat=>PV.int (j:Nat)) (λj:Nat=>PV.int (j:Nat)) _ _ λj hj=>⟨_,rfl,?_,λ_=>by simp[jU]⟩
    have hj:=bS.mp hj
    have hgj:rs[j]?=some (rs.getD j HV):=by rw[al,ah (by omega)];rfl
    have hja:=qG hgj
    generalize rs.getD j HV=rj at *
    have hmj:rj∈rs:=bE hgj
    have he:=Ke (x:=rj.bd) (y:=r.bd) (O.bd _ hmj) (O.bd _ hm)
    have i2:F0 [PV.str rj.nm,JY rj.bd,KP rj.bk] 1=some (JY rj.bd):=rfl
    generalize rs.map FY=RS at *
    cases hb:r.bd with
    | none=>
     rw[hb] at i1
     simp[iD,Ic,FY,hb,i1,JY]
    | some x=>
     rw[hb] at i1 he
     simp only[JY] at i1
     have he':Kt (JY rj.bd) (.tup [.str x.1,.int (x.2:Nat)])=some (decide (rj.bd=some x)):=he
     clear he
     have hwr:FY r=.tup [.str r.nm,.tup [.str x.1,.int (x.2:Nat)],KP r.bk]:=by unfold FY;rw[hb];rfl
     rw[hwr] at Ic
     simp only[FY] at hja
     generalize JY rj.bd=BJ at *
     simp[iD,Ic,hja,i1,i2,he']
   have hbl:(HE rs y r.bd).length<=1000000:=by
    have:(HE rs y r.bd).length<=y:=by
     unfold HE
     split
     ·simp
     ·exact cw (dc _ _) (by simp)
    omega
   have hLl:((Nd rs y).map λi=>PV.int (i:Nat)).length < 1000000:=by rw[ae,qK];omega
   have hen:IZ rs y=enN rs (Nd rs y) y:=rfl
   have hatL:∀p,p < y->F0 ((Nd rs y).map λi=>PV.int (i:Nat)) (p:Int)=some (.int (IZ rs p:Nat)):=λp hp=>gA (by rw[a6,nM rs hp];rfl)
   have e1:(Nd rs (y+1)).map (λi=>PV.int (i:Nat))=(Nd rs y).map (λi=>PV.int (i:Nat))++[.int (IZ rs y:Nat)]:=by rw[Nd,cv];rfl
   rw[e1]
   have fin:∀(v:Nat),IZ rs y=v->True:=λ_ _=>trivial
   unfold jV
   generalize iD=cc,jU=ce at *
   cases hb:r.bk with
   | some p=>
    obtain⟨z1,_,_⟩:=O.bk y r p hg hb
    have hv:=Ni O hq (by rw[hr];exact hb)
    have hap:=hatL p z1
    rw[hb] at OW
    rw[hv]
    generalize rs.map FY=RS,(Nd rs y).map (λi=>PV.int (i:Nat))=LL,hBB:(HE rs y r.bd).map (λj=>PV.int (j:Nat))=BB at *
    simp[bJ,Tx,NX,hc,Ic,FY,hb,OW,KP,hap,hLl]
   | none=>
    have hv:IZ rs y=match HE rs y r.bd with | []=>y | j::_=>(Nd rs y).getD j 0:=by
     rw[hen,enN,hr,hb]
    cases hf:HE rs y r.bd with
    | nil=>
     rw[hf] at hv hc
     simp only at hv
     rw[hv]
     rw[hb] at OW
     simp only[dP] at hc
     generalize rs.map FY=RS,(Nd rs y).map (λi=>PV.int (i:Nat))=LL at *
     simp[bJ,Tx,NX,hc,Ic,FY,hb,OW,KP,hLl]
    | cons j js=>
     obtain⟨z1,_,_⟩:=uw (rs:=rs) (k:=y) (bd:=r.bd) (j:=j) (by rw[hf];exact af)
     rw[hf] at hv hc
     simp only[al,nM rs z1,eP] at hv
     rw[hv]
     have hap:=hatL j z1
     rw[hb] at OW
     have HU:Kt (.lst ((j::js).map λj=>PV.int (j:Nat))) (.lst [])=some false:=by
      rw[ag]
      exact jn (n:=0) (by simp[IS]) (by decide)
     have a0:F0 ((j::js).map λj=>PV.int (j:Nat)) 0=some (.int (j:Nat)):=gA (j:=0) rfl
     generalize rs.map FY=RS,(Nd rs y).map (λi=>PV.int (i:Nat))=LL,((j::js).map λj=>PV.int (j:Nat))=BB at *
     simp[bJ,Tx,NX,hc,Ic,FY,hb,OW,KP,hap,hLl,HU,a0])
  (List.range' 0 rs.length) 0 ⟨by simp,da _⟩
 have hq:q=rs.length:=by
  have:=dr List.length k1
  simp at this
  omega
 subst hq
 have e0:(Nd rs 0).map (λi=>PV.int (i:Nat))=[]:=rfl
 simp only[e0] at lp
 rw[← d3] at lp
 have hnn:rs.length<=1000000:=by omega
 have hr:MR.MW (rs.length:Int)=true:=MR.HZ (by omega) (by omega)
 have Tx:=dG rs.length
 have hen:OI rs=.lst ((Nd rs rs.length).map λi=>PV.int (i:Nat)):=by rw[Tj,cn];rfl
 rw[hen]
 rw[← Tx] at lp
 unfold jF vX
 generalize jV=B,(Nd rs rs.length).map (λi=>PV.int (i:Nat))=E,rs.map FY=RS at *
 simp[X9,hnn,hr,lp]
noncomputable def PF (W:List (List Nat)):PV:=.lst (W.map λw=>PV.lst [mS w])
def Gw (b:Int)(m:Nat)(e:Nat)(w:oz):Prop:=∃f k:Nat,f < m/\k < 4/\w=hdC b (lc b f) k++Jn b m e
structure Po (b:Int)(m:Nat)(rs:List Rw)(wd:Nat->List Nat):Prop where
 g:∀i,i < rs.length->Gw b m (IZ rs i) (wd i)
 s:∀i p,i < rs.length->(rs.getD i HV).bk=some p->wd i=wd p
theorem Tq {b:Int}{m:Nat}(h1:1<=m)(h7:m<=7){rs:List Rw}(O:NR rs)(c:Int):∃wd,Po b m rs wd/\jG [.int b,.int m,.lst (rs.map FY),OI rs,.int c]=some (HC rs.length wd):=by
 have hn:=O.n
 have X9:(rs.map FY).length=rs.length:=ae ..
 obtain⟨W,⟨k1,k2,k3,k4⟩,lp⟩:=iY (g:=gN 6) (ds:=[6]) (body:=eF) (λk:Nat=>PV.int (k:Nat)) (λW:List (List Nat)=>[some (.int b),some (.int m),some (.lst (rs.map FY)),some (OI rs),some (.int c),some (PF W),none])
  (λys W=>ys=List.range' W.length (rs.length - W.length)/\W.length<=rs.length/\(∀i w,W[i]?=some w->Gw b m (IZ rs i) w)/\∀i p,i < W.length->(rs.getD i HV).bk=some p->W[i]?=W[p]?)
  (by
   rintro y ys W ⟨i1,i2,i3,i4⟩
   have hq:W.length < rs.length:=by
    rcases dv W.length rs.length with z | z
    ·exact z
    ·rw[show rs.length - W.length=0 by omega] at i1;cases i1
   rw[show rs.length - W.length=(rs.length - (W.length+1))+1 by omega,dE] at i1
   obtain⟨rfl,rfl⟩:=eD i1
   have hg:rs[W.length]?=some (rs.getD W.length HV):=by rw[al,ah hq];rfl
   have Ic:=qG hg
   have Tb:(W.map λw=>PV.lst [mS w]).length=W.length:=ae ..
   have hll':(W.map λw=>PV.lst [mS w]).length < 1000000:=by omega
   have new:∀w,Gw b m (IZ rs W.length) w->(∀p,(rs.getD W.length HV).bk=some p->W[p]?=some w/\p < W.length)->turn (gN 6) [6] eF (.int (W.length:Nat)) [some (.int b),some (.int m),some (.lst (rs.map FY)),some (OI rs),some (.int c),some (PF W),none]=some [some (.int b),some (.int m),some (.lst (rs.map FY)),some (OI rs),some (.int c),some (PF (W++[w])),none]->
    ∃s',(List.range' (W.length+1) (rs.length - (W.length+1))=List.range' s'.length (rs.length - s'.length)/\s'.length<=rs.length/\(∀i w,s'[i]?=some w->Gw b m (IZ rs i) w)/\∀i p,i < s'.length->(rs.getD i HV).bk=some p->s'[i]?=s'[p]?)/\turn (gN 6) [6] eF (.int (W.length:Nat)) [some (.int b),some (.int m),some (.lst (rs.map FY)),some (OI rs),some (.int c),some (PF W),none]=some [some (.int b),some (.int m),some (.lst (rs.map FY)),some (OI rs),some (.int c),some (PF s'),none]:=λw g1 g2 ht=>by
    refine⟨W++[w],⟨by simp,by simp;omega,λi w' hi=>?_,λi p hi hb=>?_⟩,ht⟩
    ·by_cases e:i < W.length
     ·rw[be e] at hi
      exact i3 i w' hi
     ·have IT:=(av.mp hi).1
      have e':i=W.length:=by simp at IT;omega
      subst e'
      rw[bt (aw _),kK] at hi
      have:w=w':=by simpa using hi
      subst this
      exact g1
    ·have IT:i < W.length+1:=by simpa using hi
     by_cases e:i < W.length
     ·have hp:p < i:=by
       have hgi:rs[i]?=some (rs.getD i HV):=by rw[al,ah (by omega)];rfl
       exact(O.bk i _ p hgi hb).1
      rw[be e,be (by omega)]
      exact i4 i p e hb
     ·have e':i=W.length:=by omega
      subst e'
      obtain⟨z1,z2⟩:=g2 p hb
      rw[bt (aw _),kK,be z2,z1]
      rfl
   generalize hr:rs.getD W.length HV=r at *
   have OW:F0 [PV.str r.nm,JY r.bd,KP r.bk] 2=some (KP r.bk):=rfl
   cases hb:r.bk with
   | some p=>
    obtain⟨z1,_,_⟩:=O.bk _ r p hg hb
    obtain⟨w,hw⟩:∃w,W[p]?=some w:=⟨_,ah z1⟩
    have hv:=Ni O hq (by rw[hr];exact hb)
    refine new w (by rw[hv];exact i3 p w hw) (λp' MX=>by rw[hb] at MX;cases MX;exact⟨hw,z1⟩) ?_
    have hap:F0 (W.map λw=>PV.lst [mS w]) (p:Int)=some (.lst [mS w]):=gA (by rw[a6,hw];rfl)
    have e1:PF (W++[w])=.lst ((W.map λw=>PV.lst [mS w])++[.lst [mS w]]):=by simp[PF]
    rw[e1]
    rw[hb] at OW
    unfold PF eF
    generalize rs.map FY=RS,hWW:(W.map λw=>PV.lst [mS w])=WW,OI rs=EP at *
    simp[bJ,Ic,FY,hb,OW,KP,hap,hll']
   | none=>
    have ZU:=Wh c (k:=W.length) (by omega)
    generalize mx c W.length=n at ZU
    have he:F0 ((List.range rs.length).map λi=>PV.int (IZ rs i:Nat)) (W.length:Int)=some (.int (IZ rs W.length:Nat)):=gA (by simp[hq])
    obtain⟨f,k,hf,hk,hw⟩:=Ye (b:=b) (e:=IZ rs W.length) h1 h7 n
    refine new _ ⟨f,k,hf,hk,rfl⟩ (λp' MX=>by rw[hb] at MX;cases MX) ?_
    generalize hdC b (lc b f) k++Jn b m (IZ rs W.length)=w at *
    have e1:PF (W++[w])=.lst ((W.map λw=>PV.lst [mS w])++[.lst [mS w]]):=by simp[PF]
    rw[e1]
    rw[hb] at OW
    unfold PF eF OI
    generalize rs.map FY=RS,hWW:(W.map λw=>PV.lst [mS w])=WW,((List.range rs.length).map λi=>PV.int (IZ rs i:Nat))=EP,kW=mq,iG=mw at *
    simp[bJ,Ic,FY,hb,OW,KP,he,ZU,hw,hll'])
  (List.range' 0 rs.length) [] ⟨by simp,da _,(λi w h=>by simp at h),λi p h=>by simp at h⟩
 have hq:W.length=rs.length:=by
  have:=dr List.length k1
  simp at this
  omega
 have Ic:∀i,i < rs.length->W[i]?=some (W.getD i []):=λi hi=>by rw[al,ah (by omega)];rfl
 refine⟨λi=>W.getD i [],⟨λi hi=>k3 i _ (Ic i hi),λi p hi hb=>?_⟩,?_⟩
 ·have:=k4 i p (by omega) hb
  simp only[al,this]
 ·have e:HC rs.length (λi=>W.getD i [])=PF W:=by
   unfold HC PF
   congr 1
   refine hV λi=>?_
   by_cases h:i < rs.length
   ·rw[a6,dL h,a6,Ic i h];rfl
   ·rw[bo (by simp;omega),bo (by simp;omega)]
  rw[e]
  have e0:PF []=.lst []:=rfl
  simp only[e0] at lp
  rw[← d3] at lp
  have hnn:rs.length<=1000000:=by omega
  have hr:MR.MW (rs.length:Int)=true:=MR.HZ (by omega) (by omega)
  rw[← dG rs.length] at lp
  unfold jG vZ
  generalize eF=B,PF W=PW,OI rs=EP,rs.map FY=RS at *
  simp[X9,hnn,hr,lp]
noncomputable def Nl (n:Nat)(e:Nat->Int):PV:=.lst ((List.range n).map λi=>PV.int (e i))
theorem QK {n k:Nat}{e:Nat->Int}(h:k < n):F0 ((List.range n).map λi=>PV.int (e i)) (k:Int)=some (.int (e k)):=gA (by simp[h])
theorem WY {rs:List Rw}(O:NR rs){y:Nat}(hq:y < rs.length){r:Rw}(hg:rs[y]?=some r):
  bR [none,some (.lst (rs.map FY)),some (.int (y:Nat))] (gN 0) gG ji (dO 0 (y:Int))=some ((HE rs y r.bd).map λj=>.int (j:Nat)):=by
 have hm:r∈rs:=bE hg
 have Ic:=qG hg
 have i1:F0 [PV.str r.nm,JY r.bd,KP r.bk] 1=some (JY r.bd):=rfl
 rw[dG]
 have e:HE rs y r.bd=(List.range y).filter λj=>decide (r.bd≠none)&&decide ((rs.getD j HV).bd=r.bd):=by
  unfold HE
  split
  ·rename_i hz
   rw[hz]
   simp
  ·rename_i hz
   simp[hz,HV]
 rw[e]
 refine cz (λj:Nat=>PV.int (j:Nat)) (λj:Nat=>PV.int (j:Nat)) _ _ λj hj=>⟨_,rfl,?_,λ_=>by rfl⟩
 have hj:=bS.mp hj
 have hgj:rs[j]?=some (rs.getD j HV):=by rw[al,ah (by omega)];rfl
 have hja:=qG hgj
 generalize rs.getD j HV=rj at *
 have hmj:rj∈rs:=bE hgj
 have he:=Ke (x:=rj.bd) (y:=r.bd) (O.bd _ hmj) (O.bd _ hm)
 have i2:F0 [PV.str rj.nm,JY rj.bd,KP rj.bk] 1=some (JY rj.bd):=rfl
 generalize rs.map FY=RS at *
 cases hb:r.bd with
 | none=>
  rw[hb] at i1
  simp[gG,Ic,FY,hb,i1,JY]
 | some x=>
  rw[hb] at i1 he
  simp only[JY] at i1
  have he':Kt (JY rj.bd) (.tup [.str x.1,.int (x.2:Nat)])=some (decide (rj.bd=some x)):=he
  clear he
  have hwr:FY r=.tup [.str r.nm,.tup [.str x.1,.int (x.2:Nat)],KP r.bk]:=by unfold FY;rw[hb];rfl
  rw[hwr] at Ic
  simp only[FY] at hja
  generalize JY rj.bd=BJ at *
  simp[gG,Ic,hja,i1,i2,he']
theorem Qj (j:Nat)(js:oz):Kt (.lst ((j::js).map λj=>PV.int (j:Nat))) (.lst [])=some false:=by
 rw[ag]
 exact jn (n:=0) (by simp[IS]) (by decide)
theorem Tr (rs:List Rw)(y:Nat)(bd:Bd):(HE rs y bd).length<=y:=by
 unfold HE
 split
 ·simp
 ·exact cw (dc _ _) (by simp)
theorem W0 {rs:List Rw}(O:NR rs){wd:Nat->List Nat}(hc:∀i,i < rs.length->∀s∈wd i,97<=s/\s < 123)(e:Nat->Int)(long:Int):
  jq [.lst (rs.map FY),HC rs.length wd,Nl rs.length e,.int long]=some (.lst (gr rs wd (λi=>decide ((i:Int)=long)) (λk j=>!decide (e j=e k)) rs.length)):=by
 have hn:=O.n
 have X9:(rs.map FY).length=rs.length:=ae ..
 obtain⟨q,⟨k1,k2⟩,lp⟩:=iY (g:=gN 5) (ds:=[5,6]) (body:=gJ) (λk:Nat=>PV.int (k:Nat)) (λq:Nat=>[some (.lst (rs.map FY)),some (HC rs.length wd),some (Nl rs.length e),some (.int long),some (.lst (gr rs wd (λi=>decide ((i:Int)=long)) (λk j=>!decide (e j=e k)) q)),none,none])
  (λys q=>ys=List.range' q (rs.length - q)/\q<=rs.length)
  (by
   rintro y ys q ⟨i1,i2⟩
   have hq:q < rs.length:=by
    rcases dv q rs.length with z | z
    ·exact z
    ·rw[show rs.length - q=0 by omega] at i1;cases i1
   rw[show rs.length - q=(rs.length - (q+1))+1 by omega,dE] at i1
   obtain⟨rfl,rfl⟩:=eD i1
   refine⟨y+1,⟨rfl,by omega⟩,?_⟩
   have hal:=yE rs wd (λi=>decide ((i:Int)=long)) (λk j=>!decide (e j=e k)) y
   rw[CQ]
   generalize gr rs wd (λi=>decide ((i:Int)=long)) (λk j=>!decide (e j=e k)) y=A at *
   have hg:rs[y]?=some (rs.getD y HV):=by rw[al,ah hq];rfl
   have Ic:=qG hg
   generalize hr:rs.getD y HV=r at *
   have PR:=WY O hq hg
   have OW:F0 [PV.str r.nm,JY r.bd,KP r.bk] 2=some (KP r.bk):=rfl
   have Tx:MR.MW (y:Int)=true:=MR.HZ (by omega) (by omega)
   have NX:(dO 0 (y:Int)).length<=1000000:=by rw[dG];simp;omega
   have hbl:=Tr rs y r.bd
   have hbl':((HE rs y r.bd).map λj=>PV.int (j:Nat)).length<=1000000:=by rw[ae];omega
   have hc4:bR [none,some (Nl rs.length e),some (.int (y:Nat))] (gN 0) jl jk ((HE rs y r.bd).map λj=>PV.int (j:Nat))=some (((HE rs y r.bd).filter λj=>!decide (e j=e y)).map λj=>.int (j:Nat)):=by
    refine cz (λj:Nat=>PV.int (j:Nat)) (λj:Nat=>PV.int (j:Nat)) _ _ λj hj=>⟨_,rfl,?_,λ_=>by rfl⟩
    obtain⟨hj1,_,_⟩:=uw hj
    have a1:=QK (e:=e) hq
    have a2:=QK (e:=e) (n:=rs.length) (k:=j) (by omega)
    unfold Nl
    generalize ((List.range rs.length).map λi=>PV.int (e i))=EP at *
    simp[jl,a1,a2]
   have hfe:N0 rs wd (λi=>decide ((i:Int)=long)) (λk j=>!decide (e j=e k)) y r=(if decide ((y:Int)=long)=true then [.tup [.str "metre",.int (y:Nat)]] else [])++dD y ((HE rs y r.bd).filter λj=>!decide (e j=e y))++Nc y wd r.bk:=rfl
   rw[hfe]
   have hU:((HE rs y r.bd).filter λj=>!decide (e j=e y)).length<=y:=cw (dc _ _) hbl
   generalize hUU:((HE rs y r.bd).filter λj=>!decide (e j=e y))=U at *
   let E1:List PV->MR.Env:=λL=>[some (.lst (rs.map FY)),some (HC rs.length wd),some (Nl rs.length e),some (.int long),some (.lst L),some (.int (y:Nat)),none]
   let E2:List PV->List Nat->MR.Env:=λL B=>[some (.lst (rs.map FY)),some (HC rs.length wd),some (Nl rs.length e),some (.int long),some (.lst L),some (.int (y:Nat)),some (.lst (B.map λj=>.int (j:Nat)))]
   let M1:List PV:=if decide ((y:Int)=long)=true then [.tup [.str "metre",.int (y:Nat)]] else []
   have hM1:M1.length<=1:=by
    show (if decide ((y:Int)=long)=true then [PV.tup [.str "metre",.int (y:Nat)]] else []).length<=1
    split <;> simp
   have hAM:(A++M1).length < 1000000:=by rw[ax];omega
   have hRl:(dD y U).length<=1:=by cases U <;> simp[dD]
   have hAR:(A++M1++dD y U).length < 1000000:=by rw[ax,ax];omega
   have hAl:A.length < 1000000:=by omega
   have s1:F9 (tV (b2 eqQ (bV 5) (bV 3))) (bh cD 4 (a_ (ak (bC (.str "metre")) (Fn 5 az)))) GI (E1 A)=some (.nx (E1 (A++M1))):=by
    show _=some (Out.nx (E1 (A++(if decide ((y:Int)=long)=true then [.tup [.str "metre",.int (y:Nat)]] else []))))
    simp only[E1]
    generalize rs.map FY=RS,HC rs.length wd=PO,Nl rs.length e=EP at *
    by_cases z:(y:Int)=long
    ·simp[z,hAl]
    ·simp[z]
   have s2:aK 6 (bF [none,some 0,some 5] (RF (bV 5)) (gN 0) gG ji) (E1 (A++M1))=some (.nx (E2 (A++M1) (HE rs y r.bd))):=by
    simp only[E1,E2]
    generalize A++M1=X,(HE rs y r.bd).map (λj=>PV.int (j:Nat))=BB,rs.map FY=RS,HC rs.length wd=PO,Nl rs.length e=EP,gG=cc,ji=ce at *
    simp[Tx,NX,PR]
   have s3:aK 6 (bF [none,some 2,some 5] (iV (bV 6)) (gN 0) jl jk) (E2 (A++M1) (HE rs y r.bd))=some (.nx (E2 (A++M1) U)):=by
    simp only[E2]
    generalize A++M1=X,(HE rs y r.bd).map (λj=>PV.int (j:Nat))=BB,U.map (λj=>PV.int (j:Nat))=UU,rs.map FY=RS,HC rs.length wd=PO,Nl rs.length e=EP,jl=cc,jk=ce at *
    simp[MI,hbl',hc4]
   have s4:F9 (tV (b2 L3 (bV 6) (bA az))) (bh cD 4 (a_ (ak (bC (.str "rhyme")) (Fn 5 (ak (b2 FI (bV 6) (Fh 0)) az))))) GI (E2 (A++M1) U)=some (.nx (E2 (A++M1++dD y U) U)):=by
    simp only[E2]
    generalize A++M1=X,rs.map FY=RS,HC rs.length wd=PO,Nl rs.length e=EP at *
    cases U with
    | nil=>simp[dD]
    | cons j js=>
     have a0:F0 ((j::js).map λj=>PV.int (j:Nat)) 0=some (.int (j:Nat)):=gA (j:=0) rfl
     have HU:=Qj j js
     generalize ((j::js).map λj=>PV.int (j:Nat))=BB at *
     simp[a0,HU,dD,hAM]
   have Se:(HC rs.length wd)=.lst ((List.range rs.length).map λi=>PV.lst [mS (wd i)]):=rfl
   have s5:F9 (tA (tV (b2 gK (b2 FI (b2 FI (bV 0) (bV 5)) (Fh 2)) (bC .FG))) (tV (b2 L3 (b2 FI (bV 1) (bV 5)) (b2 FI (bV 1) (b2 FI (b2 FI (bV 0) (bV 5)) (Fh 2)))))) (bh cD 4 (a_ (ak (bC (.str "again")) (Fn 5 (ak (b2 FI (b2 FI (bV 0) (bV 5)) (Fh 2)) az))))) GI (E2 (A++M1++dD y U) U)=some (.nx (E2 (A++M1++dD y U++Nc y wd r.bk) U)):=by
    simp only[E2,Se]
    generalize A++M1++dD y U=X,U.map (λj=>PV.int (j:Nat))=UU at *
    have hpy:=xq (wd:=wd) hq
    have hrw:FY r=.tup [.str r.nm,JY r.bd,KP r.bk]:=rfl
    cases hb:r.bk with
    | none=>
     rw[hb] at OW
     rw[hrw,hb] at Ic
     generalize rs.map FY=RS,((List.range rs.length).map λi=>PV.lst [mS (wd i)])=PO,Nl rs.length e=EP at *
     simp[Ic,OW,KP,Nc]
    | some p=>
     obtain⟨z1,_,_⟩:=O.bk y r p hg hb
     have hpp:=xq (wd:=wd) (n:=rs.length) (k:=p) (by omega)
     have her:=Ng (hc y hq) (hc p (by omega))
     rw[hb] at OW
     rw[hrw,hb] at Ic
     generalize rs.map FY=RS,((List.range rs.length).map λi=>PV.lst [mS (wd i)])=PO,Nl rs.length e=EP at *
     by_cases ee:wd y=wd p
     ·rw[br ee] at her
      have hz:Nc y wd (some p)=[]:=bg ee
      rw[hz]
      simp[Ic,OW,KP,hpy,hpp,her]
     ·rw[a5 ee] at her
      have hz:Nc y wd (some p)=[.tup [.str "again",.int (y:Nat),.int (p:Nat)]]:=ap ee
      rw[hz]
      simp[Ic,OW,KP,hpy,hpp,her,hAR]
   have hfin:A++(M1++dD y U++Nc y wd r.bk)=A++M1++dD y U++Nc y wd r.bk:=by simp
   have hb:gJ (E1 A)=some (.nx (E2 (A++M1++dD y U++Nc y wd r.bk) U)):=by
    unfold gJ
    rw[aP s1,aP s2,aP s3,aP s4]
    exact s5
   show turn _ _ _ _ _=some [_,_,_,_,some (.lst (A++(M1++dD y U++Nc y wd r.bk))),_,_]
   rw[hfin]
   generalize A++M1++dD y U++Nc y wd r.bk=Z,gJ=B at *
   simp only[E1,E2] at hb
   generalize rs.map FY=RS,HC rs.length wd=PO,Nl rs.length e=EP,U.map (λj=>PV.int (j:Nat))=UU at *
   simp[bJ,hb])
  (List.range' 0 rs.length) 0 ⟨by rfl,da _⟩
 have hq:q=rs.length:=by
  have:=dr List.length k1
  simp at this
  omega
 subst hq
 have e0:gr rs wd (λi=>decide ((i:Int)=long)) (λk j=>!decide (e j=e k)) 0=[]:=rfl
 simp only[e0] at lp
 rw[← d3] at lp
 have hnn:rs.length<=1000000:=by omega
 have hr:MR.MW (rs.length:Int)=true:=MR.HZ (by omega) (by omega)
 rw[← dG rs.length] at lp
 unfold jq yd
 generalize gJ=B,gr rs wd (λi=>decide ((i:Int)=long)) (λk j=>!decide (e j=e k)) rs.length=A,HC rs.length wd=PO,Nl rs.length e=EP,rs.map FY=RS at *
 simp[X9,hnn,hr,lp]
theorem zT (xs:List PV)(n:Nat):gb xs none (some (n:Int))=xs.take n:=by
 unfold gb
 rw[HT.IG,HT.JE,ny,Nat.sub_zero]
 by_cases h:n<=xs.length
 ·rw[iF h]
 ·rw[Nat.min_eq_right (by omega),em (aw _),em (by omega)]
theorem zU (xs:List PV)(n:Nat):gb xs (some (n:Int)) none=xs.drop n:=by
 unfold gb
 rw[HT.IG,HT.JE]
 by_cases h:n<=xs.length
 ·rw[iF h,em (by simp)]
 ·rw[Nat.min_eq_right (by omega),mB (aw _),mB (by omega)];simp
def upd {α:Type}(f:Nat->α)(p:Nat)(v:α)(i:Nat):α:=if i=p then v else f i
theorem GQ {α:Type}(g:α->PV)(f:Nat->α)(v:α){n p:Nat}(h:p < n):((List.range n).map λi=>g (f i)).take p++[g v]++((List.range n).map λi=>g (f i)).drop (p+1)=(List.range n).map λi=>g (upd f p v i):=by
 have hl:(((List.range n).map λi=>g (f i)).take p).length=p:=by simp;omega
 refine hV λi=>?_
 rcases lf i p with q | q | q
 ·rw[cp,be (by omega),ll q,a6,a6,dL (by omega)]
  simp[upd,bP q]
 ·subst q
  rw[cp,bt (by omega),hl,kK,a6,dL h]
  simp[upd]
 ·rw[bt (by simp;omega),List.getElem?_drop,ax,hl]
  rw[show p+1+(i - (p+[g v].length))=i by simp;omega]
  by_cases hi:i < n
  ·rw[a6,a6,dL hi]
   simp[upd,show ¬ i=p by omega]
  ·rw[bo (by simp;omega),bo (by simp;omega)]
theorem rep2 (l:oz):sU (FK l) 2=FK (l++l):=by
 rw[← eQ (sU (FK l) 2)]
 congr 1
 show ((#[]++(FK l).cps)++(FK l).cps).toList=_
 rw[nV,nV,jc]
 rfl
theorem W3 (h:oz){t:oz}(ht:t.length=3):gQ (FK (h++t)) (some (-3)) none=FK t:=by
 rw[← eQ (gQ _ _ _),qF,jc,iQ,HT.JE]
 have:HT.IF (h++t).length 0 (some (-3))=h.length:=by
  show (if (-3:Int) < 0 then ((-3:Int)+((h++t).length:Int)).toNat else min (-3:Int).toNat (h++t).length)=_
  rw[bg (by decide),ax]
  omega
 rw[this,List.drop_left,em (by rw[ax];omega)]
theorem Bo (b:Int)(m e:Nat):(Jn b m e).length=3:=rfl
theorem Tt (b:Int)(f k:Nat):(hdC b f k).length<=3:=by
 unfold hdC
 split <;> simp
inductive Spo (b:Int) (m:Nat) (ep:Nat) (e:Nat->Int) (p:Nat):List Nat->(Nat->Int)->Int->Prop
 | long:Spo b m ep e p ([lc b 0,lc b 10,lc b 0,lc b 10]++Jn b m ep) e (p:Int)
 | off {i:Nat}:i < m->Spo b m ep e p [lc b i,lc b 25] (upd e p (-1)) (-1)
 | other:Spo b m ep e p ([lc b 11,lc b 11]++Jn b m ep) e (-1)
theorem W4 {b:Int}{m:Nat}(h1:1<=m)(h7:m<=7){n:Nat}(hn0:0 < n)(hn:n<=47){wd:Nat->List Nat}{ee:Nat->Nat}(hg:∀i,i < n->Gw b m (ee i) (wd i))(e:Nat->Int)(c:Int):
  ∃p w' e' long,p < n/\Spo b m (ee p) e p w' e' long/\dw [.int b,.int m,HC n wd,Nl n e,.int c]=some (.tup [HC n (upd wd p w'),Nl n e',.int long]):=by
 obtain⟨p,hp,ZY⟩:∃p:Nat,c / 3 % (n:Int)=(p:Int)/\p < n:=⟨(c / 3 % (n:Int)).toNat,by have:=eJ (c / 3) (b:=(n:Int)) (by omega);omega,by have:=ga (c / 3) (b:=(n:Int)) (by omega);have:=eJ (c / 3) (b:=(n:Int)) (by omega);omega⟩
 obtain⟨i,hi,him⟩:∃i:Nat,c / 90 % (m:Int)=(i:Int)/\i < m:=⟨(c / 90 % (m:Int)).toNat,by have:=eJ (c / 90) (b:=(m:Int)) (by omega);omega,by have:=ga (c / 90) (b:=(m:Int)) (by omega);have:=eJ (c / 90) (b:=(m:Int)) (by omega);omega⟩
 obtain⟨f,k,hf,hk,hwp⟩:=hg p ZY
 have hpa:=xq (wd:=wd) ZY
 have HM:((List.range n).map λi=>PV.lst [mS (wd i)]).length=n:=by simp
 have hel:((List.range n).map λi=>PV.int (e i)).length=n:=by simp
 have t1:=zT ((List.range n).map λi=>PV.lst [mS (wd i)]) p
 have d1:=zU ((List.range n).map λi=>PV.lst [mS (wd i)]) (p+1)
 have t2:=zT ((List.range n).map λi=>PV.int (e i)) p
 have d2:=zU ((List.range n).map λi=>PV.int (e i)) (p+1)
 have c1:(((p+1:Nat)):Int)=(p:Int)+1:=by omega
 rw[c1] at d1 d2
 have l1:(((List.range n).map λi=>PV.lst [mS (wd i)]).take p).length<=47:=by simp;omega
 have l2:(((List.range n).map λi=>PV.lst [mS (wd i)]).drop (p+1)).length<=47:=by simp;omega
 have l3:(((List.range n).map λi=>PV.int (e i)).take p).length<=47:=by simp;omega
 have l4:(((List.range n).map λi=>PV.int (e i)).drop (p+1)).length<=47:=by simp;omega
 have up:=λw=>GQ (λw:List Nat=>PV.lst [mS w]) wd w ZY
 have ue:=GQ PV.int e (-1) ZY
 have hwl:(FK (wd p)).length<=1000000:=by rw[iQ,hwp,ax,Bo];have:=Tt b (lc b f) k;omega
 have hct:gQ (FK (wd p)) (some (-3)) none=FK (Jn b m (ee p)):=by rw[hwp];exact W3 _ (Bo _ _ _)
 have a0:=j4 b 0
 have a10:=j4 b 10
 have a11:=j4 b 11
 have a25:=j4 b 25
 have ai:=j4 b ((i:Nat):Int)
 have x0:NY b 0=lc b 0:=rfl
 have x10:NY b 10=lc b 10:=rfl
 have x11:NY b 11=lc b 11:=rfl
 have x25:NY b 25=lc b 25:=rfl
 rw[x0] at a0;rw[x10] at a10;rw[x11] at a11;rw[x25] at a25
 have ai':aU [.int b,.int (c / 90 % (m:Int))]=some (mS [lc b i]):=by rw[hi];exact ai
 have ap1:∀x y:Nat,FK [x]++FK [y]=FK [x,y]:=λx y=>pN [x] [y]
 have q1:∀l,(FK l).length=l.length:=λl=>iQ l
 have hnp:(0:Int) < (n:Int):=by omega
 have hmp:(0:Int) < (m:Int):=by omega
 have hm3:c % 3=0\/c % 3=1\/c % 3=2:=by omega
 have hT:=Bo b m (ee p)
 have hn6:n<=1000000:=by omega
 have fz:∀(A B:List PV) (v:PV),A.length<=47->B.length<=47->A.length+1<=1000000/\A.length+1+B.length<=1000000:=λA B v z1 z2=>⟨by omega,by omega⟩
 have ms:∀l:List Nat,mS l=PV.str (FK l):=λ_=>rfl
 clear hg
 rcases hm3 with h3 | h3 | h3
 ·refine⟨p,_,_,_,ZY,.long,?_⟩
  have u:=up ([lc b 0,lc b 10,lc b 0,lc b 10]++Jn b m (ee p))
  have r2:sU (FK [lc b 0,lc b 10]) 2=FK [lc b 0,lc b 10,lc b 0,lc b 10]:=rep2 _
  have ap2:FK [lc b 0,lc b 10,lc b 0,lc b 10]++FK (Jn b m (ee p))=FK ([lc b 0,lc b 10,lc b 0,lc b 10]++Jn b m (ee p)):=pN _ _
  have e1:HC n (upd wd p ([lc b 0,lc b 10,lc b 0,lc b 10]++Jn b m (ee p)))=.lst (((List.range n).map λi=>PV.lst [mS (wd i)]).take p++[.lst [mS ([lc b 0,lc b 10,lc b 0,lc b 10]++Jn b m (ee p))]]++((List.range n).map λi=>PV.lst [mS (wd i)]).drop (p+1)):=by rw[u];rfl
  rw[e1]
  obtain⟨f1,f2⟩:=fz _ _ .FG l1 l2
  clear up ue u e1 t2 d2 l3 l4 hel
  unfold HC
  simp only[ms] at *
  generalize Nl n e=EP,((List.range n).map λi=>PV.lst [PV.str (FK (wd i))]).take p=TT,((List.range n).map λi=>PV.lst [PV.str (FK (wd i))]).drop (p+1)=DD at *
  skip
  generalize ((List.range n).map λi=>PV.lst [PV.str (FK (wd i))])=PO at *
  have q4:=q1 [lc b 0,lc b 10,lc b 0,lc b 10]
  have qT:=q1 (Jn b m (ee p))
  rw[hT] at qT
  have q2:=q1 [lc b 0,lc b 10]
  generalize FK ([lc b 0,lc b 10,lc b 0,lc b 10]++Jn b m (ee p))=NW,FK (Jn b m (ee p))=TL,FK (wd p)=WP,FK [lc b 0,lc b 10,lc b 0,lc b 10]=N4 at *
  have a0q:(FK [lc b 0]).length=1:=q1 _
  have a10q:(FK [lc b 10]).length=1:=q1 _
  have apq:=ap1 (lc b 0) (lc b 10)
  generalize FK [lc b 0,lc b 10]=N2 at *
  simp only[bm,gS] at q4 q2
  simp[dw,jx,HM,hn6,hnp,hn0,hp,hpa,h3,a0,a10,a0q,a10q,apq,q2,r2,q4,hwl,hct,qT,ap2,t1,d1,f1,f2]
 ·refine⟨p,_,_,_,ZY,.off him,?_⟩
  have u:=up [lc b i,lc b 25]
  have e1:HC n (upd wd p [lc b i,lc b 25])=.lst (((List.range n).map λi=>PV.lst [mS (wd i)]).take p++[.lst [mS [lc b i,lc b 25]]]++((List.range n).map λi=>PV.lst [mS (wd i)]).drop (p+1)):=by rw[u];rfl
  have e2:Nl n (upd e p (-1))=.lst (((List.range n).map λi=>PV.int (e i)).take p++[.int (-1)]++((List.range n).map λi=>PV.int (e i)).drop (p+1)):=by rw[ue];rfl
  rw[e1,e2]
  obtain⟨f1,f2⟩:=fz _ _ .FG l1 l2
  obtain⟨f3,f4⟩:=fz _ _ .FG l3 l4
  clear up ue u e1 e2
  unfold HC Nl
  simp only[ms] at *
  generalize ((List.range n).map λi=>PV.lst [PV.str (FK (wd i))]).take p=TT,((List.range n).map λi=>PV.lst [PV.str (FK (wd i))]).drop (p+1)=DD at *
  skip
  generalize ((List.range n).map λi=>PV.lst [PV.str (FK (wd i))])=PO,((List.range n).map λi=>PV.int (e i)).take p=TE,((List.range n).map λi=>PV.int (e i)).drop (p+1)=DE at *
  skip
  generalize ((List.range n).map λi=>PV.int (e i))=EP,FK (wd p)=WP at *
  have aiq:(FK [lc b i]).length=1:=q1 _
  have a25q:(FK [lc b 25]).length=1:=q1 _
  have apq:=ap1 (lc b i) (lc b 25)
  generalize FK [lc b i,lc b 25]=N2 at *
  have hmN:0 < m:=by omega
  simp[dw,jx,HM,hn6,hnp,hn0,hp,hpa,h3,ai',a25,aiq,a25q,apq,hmp,hmN,t1,d1,t2,d2,f1,f2,f3,f4]
 ·refine⟨p,_,_,_,ZY,.other,?_⟩
  have u:=up ([lc b 11,lc b 11]++Jn b m (ee p))
  have r2:sU (FK [lc b 11]) 2=FK [lc b 11,lc b 11]:=rep2 _
  have ap2:FK [lc b 11,lc b 11]++FK (Jn b m (ee p))=FK ([lc b 11,lc b 11]++Jn b m (ee p)):=pN _ _
  have e1:HC n (upd wd p ([lc b 11,lc b 11]++Jn b m (ee p)))=.lst (((List.range n).map λi=>PV.lst [mS (wd i)]).take p++[.lst [mS ([lc b 11,lc b 11]++Jn b m (ee p))]]++((List.range n).map λi=>PV.lst [mS (wd i)]).drop (p+1)):=by rw[u];rfl
  rw[e1]
  obtain⟨f1,f2⟩:=fz _ _ .FG l1 l2
  clear up ue u e1 t2 d2 l3 l4 hel
  unfold HC
  simp only[ms] at *
  generalize Nl n e=EP,((List.range n).map λi=>PV.lst [PV.str (FK (wd i))]).take p=TT,((List.range n).map λi=>PV.lst [PV.str (FK (wd i))]).drop (p+1)=DD at *
  skip
  generalize ((List.range n).map λi=>PV.lst [PV.str (FK (wd i))])=PO at *
  have q2:=q1 [lc b 11,lc b 11]
  have qT:=q1 (Jn b m (ee p))
  rw[hT] at qT
  have a11q:(FK [lc b 11]).length=1:=q1 _
  generalize FK ([lc b 11,lc b 11]++Jn b m (ee p))=NW,FK (Jn b m (ee p))=TL,FK (wd p)=WP,FK [lc b 11,lc b 11]=N2 at *
  simp only[bm,gS] at q2
  simp[dw,jx,HM,hn6,hnp,hn0,hp,hpa,h3,a11,a11q,r2,q2,hwl,hct,qT,ap2,t1,d1,f1,f2]
theorem Qk {k:Nat}(h:k < 8):dB [.int (k:Nat)]=some (.str (FU.getD k ⟨#[]⟩)):=by
 have hl:k < FU.length:=h
 have e:(k:Int) % 8=(k:Int):=by omega
 have Ic:F0 [PV.str "a",.str "as",.str "x",.str "iamb",.str "long",.str "b",.str "measured",.str "u"] ((k:Int) % 8)=some (.str (FU.getD k ⟨#[]⟩)):=by
  have:F0 (FU.map PV.str) (k:Int)=some (.str FU[k]):=cW (by simp[hl])
  rw[e,al,ah hl];exact this
 generalize FU.getD k ⟨#[]⟩=x at *
 simp[dB,q9,Ic]
theorem W5 {S:PV}{c4:Int}(hc:bj [S,.int 4]=some (.int c4))(e1 e2 e3 e4 e5 e6 e7 e8:Option PV):
  ∃ms:List (Key×PV),RY ms/\bw (gN 10) [10,11,12] rD ((List.range 8).map λk=>PV.int (k:Nat)) [some S,e1,e2,e3,e4,e5,e6,e7,e8,some (.dK []),none,none,none,none,none,none,none]=some (.nx [some S,e1,e2,e3,e4,e5,e6,e7,e8,some (.dK ms),none,none,none,none,none,none,none]):=by
 obtain⟨⟨q,ms⟩,⟨k1,k2,k3,k4⟩,lp⟩:=iY (g:=gN 10) (ds:=[10,11,12]) (body:=rD) (λk:Nat=>PV.int (k:Nat)) (λs:Nat×List (Key×PV)=>[some S,e1,e2,e3,e4,e5,e6,e7,e8,some (.dK s.2),none,none,none,none,none,none,none])
  (λys s=>ys=List.range' s.1 (8 - s.1)/\s.1<=8/\s.2.length<=s.1/\∀i,i < s.1->∃p∈wz,∃c,dF s.2 (.inr (FU.getD i ⟨#[]⟩))=some (sY p c))
  (by
   rintro y ys s ⟨i1,i2,i3,i4⟩
   obtain⟨q,ms⟩:=s
   simp only at i1 i2 i3 i4 ⊢
   have hq:q < 8:=by
    rcases dv q 8 with z | z
    ·exact z
    ·rw[show 8 - q=0 by omega] at i1;cases i1
   rw[show 8 - q=(8 - (q+1))+1 by omega,dE] at i1
   obtain⟨rfl,rfl⟩:=eD i1
   have hnm:=Qk hq
   obtain⟨j,hj,hj3⟩:∃j:Nat,c4 / (1+(y:Int)) % 3=(j:Int)/\j < 3:=⟨(c4 / (1+(y:Int)) % 3).toNat,by omega,by omega⟩
   obtain⟨p,hp,Ic⟩:∃p∈wz,F0 [PV.tup [.str "-",.str "u-"],.tup [.str "x",.str "xx"],.tup [.str "xx",.str "-"]] (j:Int)=some (.tup [.str p.1,.str p.2]):=by
    have hjj:j=0\/j=1\/j=2:=by omega
    rcases hjj with rfl | rfl | rfl
    ·exact⟨("-","u-"),by simp[wz],rfl⟩
    ·exact⟨("x","xx"),by simp[wz],rfl⟩
    ·exact⟨("xx","-"),by simp[wz],rfl⟩
   have hd1:(0:Int) < 1+(y:Int):=by omega
   have hd2:1+(y:Int) < 1073741824:=by omega
   have hml:ms.length < 1000000:=by omega
   refine⟨(y+1,jE ms (.inr (FU.getD y ⟨#[]⟩)) (sY p (decide (c4 / 64 % 2=1)))),⟨rfl,by omega,?_,λi hi=>?_⟩,?_⟩
   ·have:=Ge ms (.inr (FU.getD y ⟨#[]⟩)) (sY p (decide (c4 / 64 % 2=1)))
    simp only
    omega
   ·simp only at hi ⊢
    rw[CJ]
    by_cases e:FU.getD i ⟨#[]⟩=FU.getD y ⟨#[]⟩
    ·rw[bg (by rw[e])]
     exact⟨p,hp,_,rfl⟩
    ·rw[ap (λz=>e (nh z))]
     have:i≠y:=λz=>e (by rw[z])
     exact i4 i (by omega)
   ·unfold rD
    generalize FU.getD y ⟨#[]⟩=nm,dB=mn,bj=mc at *
    simp only[sY]
    simp[bJ,hc,hnm,hd1,hd2,hj,Ic,hml])
  (List.range' 0 8) (0,[]) ⟨rfl,by omega,aw _,λi h=>absurd h (kz _)⟩
 have hq:q=8:=by
  have:=dr List.length k1
  simp at this
  simp only at k2
  omega
 subst hq
 refine⟨ms,⟨λnm hnm=>?_⟩,by rw[d3];exact lp⟩
 obtain⟨i,hi,e⟩:=List.getElem_of_mem hnm
 have:=k4 i hi
 simp only at this
 rw[al,ah hi,eP,e] at this
 exact this
theorem Kg {rs:List Rw}{wd:Nat->List Nat}{l l':Nat->Bool}{u u':Nat->Nat->Bool}{n:Nat}(h1:∀i,i < n->l i=l' i)(h2:∀i j,i < n->j∈HE rs i (rs.getD i HV).bd->u i j=u' i j):gr rs wd l u n=gr rs wd l' u' n:=by
 unfold gr
 rw[List.flatMap_def,List.flatMap_def]
 congr 1
 refine cK λk hk=>?_
 have hk:=bS.mp hk
 unfold N0
 rw[h1 k hk]
 have:(HE rs k (rs.getD k HV).bd).filter (u k)=(HE rs k (rs.getD k HV).bd).filter (u' k):=List.filter_congr λj hj=>h2 k j hk hj
 rw[this]
theorem Ql {rs:List Rw}{wd:Nat->List Nat}{l:Nat->Bool}{u:Nat->Nat->Bool}{n:Nat}(h1:∀i,i < n->l i=false)(h2:∀i j,i < n->j∈HE rs i (rs.getD i HV).bd->u i j=false)(h3:∀i p,i < n->(rs.getD i HV).bk=some p->wd i=wd p):gr rs wd l u n=[]:=by
 unfold gr
 rw[List.flatMap_eq_nil_iff]
 intro k hk
 have hk:=bS.mp hk
 have e1:(HE rs k (rs.getD k HV).bd).filter (u k)=[]:=fF.mpr λj hj=>by rw[h2 k j hk hj];decide
 have e2:Nc k wd (rs.getD k HV).bk=[]:=by
  cases hb:(rs.getD k HV).bk with
  | none=>rfl
  | some p=>exact bg (h3 k p hk hb)
 unfold N0
 rw[h1 k hk,e1,e2]
 rfl
theorem Tu (rs:List Rw)(wd:Nat->List Nat)(l:Nat->Bool)(u:Nat->Nat->Bool)(n:Nat):IS 2 (.lst (gr rs wd l u n)):=by
 have k1:PyData.strOk ("metre" : Str)=true:=by decide +kernel
 have k2:PyData.strOk ("rhyme" : Str)=true:=by decide +kernel
 have k3:PyData.strOk ("again" : Str)=true:=by decide +kernel
 show ∀x∈gr rs wd l u n,IS 1 x
 intro x hx
 obtain⟨k,_,hx⟩:=List.mem_flatMap.mp hx
 unfold N0 at hx
 rcases bX.mp hx with hx | hx
 ·rcases bX.mp hx with hx | hx
  ·split at hx
   ·rw[aS.mp hx];simp[IS,k1]
   ·cases hx
  ·cases hU:(HE rs k (rs.getD k HV).bd).filter (u k) with
   | nil=>rw[hU] at hx;cases hx
   | cons j js=>
    rw[hU] at hx
    rw[aS.mp hx];simp[IS,k2]
 ·cases hb:(rs.getD k HV).bk with
  | none=>rw[hb] at hx;cases hx
  | some p=>
   rw[hb] at hx
   have RO:x∈(if wd k=wd p then [] else [PV.tup [.str "again",.int (k:Nat),.int (p:Nat)]]):=hx
   split at RO
   ·cases RO
   ·rw[aS.mp RO];simp[IS,k3]
theorem Je:∀(sep:Str) (ts:oP),(Str.join sep ts).length<=(ts.map (·.length)).sum+ts.length*sep.length
 | sep,[]=>by
  show (Str.empty).length<=_
  have:Str.empty.length=0:=by decide +kernel
  omega
 | sep,[w]=>by
  show w.length<=_
  simp
 | sep,w::v::r=>by
  have ih:=Je sep (v::r)
  show (w++sep++Str.join sep (v::r)).length<=_
  rw[li,li]
  simp only[ag,List.sum_cons,bm,ja] at ih ⊢
  omega
theorem Qm {sep:Str}{ts:oP}(h:(ts.map (·.length)).sum+ts.length*sep.length<=10000):JoinOk sep ts=true:=by
 unfold JoinOk Builtin.Str.tooLong
 rw[StrLaws.joinTotal]
 have:(10000:Nat)<=sizeLine:=by decide
 simp
 omega
theorem CT (ns:oQ)(a b:Nat):∃cs:List Int,gb (ns.map PV.int) (some (a:Int)) (some (b:Int))=cs.map PV.int/\cs.length<=b - a:=by
 refine⟨(ns.drop (HT.IF ns.length 0 (some (a:Int)))).take (HT.IF ns.length ns.length (some (b:Int)) - HT.IF ns.length 0 (some (a:Int))),?_,?_⟩
 ·unfold gb;simp[List.map_drop,List.map_take]
 ·rw[HT.IG,HT.IG];simp;omega
theorem Nj:∀ws:List Str,KI (ws.map PV.str)=some ws
 | []=>rfl
 | w::ws=>by simp[Nj ws]
theorem Tv {b:Int}{m:Nat}(h1:1<=m)(h7:m<=7){ms:List (Key×PV)}(M:RY ms){f:Fm}(hf:PD f){t:Nat}(ht:t∈bf f){wd:Nat->List Nat}(P:Po b m (aO f t) wd):
  dC [.obj 0 (bZ (dq b m)),.dK ms,tP (parts f),HC (aO f t).length wd]=some (.lst []):=by
 have O:=Ed (Bm hf ht)
 have hn:=O.n
 have hg:∀i,∃k:Nat,i < (aO f t).length->WK b m (wd i) (k / 2) (Jn b m (IZ (aO f t) i))/\k < 4:=λi=>by
  by_cases hi:i < (aO f t).length
  ·obtain⟨f',k,hf',hk,e⟩:=P.g i hi
   refine⟨k,λ_=>⟨?_,hk⟩⟩
   rw[e]
   exact Bl h1 h7 (by have:=GK O i hi;omega) hf' hk
  ·exact⟨0,λz=>absurd z hi⟩
 let ks:Nat->Nat:=λi=>Classical.choose (hg i) / 2
 have S3:∀i,i < (aO f t).length->WK b m (wd i) (ks i) (Jn b m (IZ (aO f t) i))/\ks i<=1:=λi hi=>by
  have:=ng (hg i) hi
  exact⟨this.1,by show Classical.choose (hg i) / 2<=1;omega⟩
 have h:=Nh (tgT h1 h7) M hf ht (wd:=wd) (ks:=ks) (es:=λi=>Jn b m (IZ (aO f t) i)) λi hi=>⟨(S3 i hi).1,by have:=(S3 i hi).2;omega⟩
 rw[h]
 congr 2
 refine Ql (λi hi=>a5 ?_) (λi j hi hj=>?_) (λi p hi hb=>P.s i p hi hb)
 ·have:=(S3 i hi).2;omega
 ·rw[WX O hi hj,br rfl];rfl
theorem W6 {b:Int}{m:Nat}(h1:1<=m)(h7:m<=7){ms:List (Key×PV)}(M:RY ms){f:Fm}(hf:PD f){t:Nat}(ht:t∈bf f){wd:Nat->List Nat}(P:Po b m (aO f t) wd){p:Nat}(hp:p < (aO f t).length){w':oz}{e':Nat->Int}{long:Int}
  (S:Spo b m (IZ (aO f t) p) (λi=>(IZ (aO f t) i:Int)) p w' e' long):
  ∃A:List PV,IS 2 (.lst A)/\dC [.obj 0 (bZ (dq b m)),.dK ms,tP (parts f),HC (aO f t).length (upd wd p w')]=some (.lst A)/\jq [.lst ((aO f t).map FY),HC (aO f t).length (upd wd p w'),Nl (aO f t).length e',.int long]=some (.lst A):=by
 have O:=Ed (Bm hf ht)
 have hn:=O.n
 have hle:∀i,i < (aO f t).length->IZ (aO f t) i < 48:=λi hi=>by have:=GK O i hi;omega
 have hg:∀i,∃k:Nat,i < (aO f t).length->WK b m (wd i) (k / 2) (Jn b m (IZ (aO f t) i))/\k < 4:=λi=>by
  by_cases hi:i < (aO f t).length
  ·obtain⟨f',k,hf',hk,e⟩:=P.g i hi
   refine⟨k,λ_=>⟨?_,hk⟩⟩
   rw[e]
   exact Bl h1 h7 (hle i hi) hf' hk
  ·exact⟨0,λz=>absurd z hi⟩
 let ks:Nat->Nat:=λi=>Classical.choose (hg i) / 2
 have S3:∀i,i < (aO f t).length->WK b m (wd i) (ks i) (Jn b m (IZ (aO f t) i))/\ks i<=1:=λi hi=>by
  have:=ng (hg i) hi
  exact⟨this.1,by show Classical.choose (hg i) / 2<=1;omega⟩
 obtain⟨es,hes⟩:∃es:Nat->List Nat,es=λi=>Jn b m (IZ (aO f t) i):=⟨_,rfl⟩
 obtain⟨kp,ep,W,kp2,hl,hu⟩:∃kp ep,WK b m w' kp ep/\kp<=2/\(∀i,i < (aO f t).length->decide (upd ks p kp i=2)=decide ((i:Int)=long))/\∀i j,i < (aO f t).length->j < (aO f t).length->(!decide (upd es p ep i=upd es p ep j))=!decide (e' j=e' i):=by
  have inj:∀i j,i < (aO f t).length->j < (aO f t).length->(es i=es j↔IZ (aO f t) j=IZ (aO f t) i):=λi j hi hj=>by
   rw[hes]
   exact⟨λz=>(WD (hle i hi) (hle j hj) z).symm,λz=>by simp only[z]⟩
  have same:∀i j,i < (aO f t).length->j < (aO f t).length->(!decide (upd es p (es p) i=upd es p (es p) j))=!decide (((IZ (aO f t) j:Nat):Int)=(IZ (aO f t) i:Nat)):=λi j hi hj=>by
   have u:∀i,upd es p (es p) i=es i:=λi=>by
    unfold upd
    split
    ·rename_i z;rw[z]
    ·rfl
   rw[u,u]
   congr 1
   refine fT.mpr ?_
   rw[inj i j hi hj]
   omega
  cases S with
  | long=>
   refine⟨2,es p,by rw[hes];exact Tf h1 h7 (hle p hp),aw _,λi hi=>fT.mpr ?_,same⟩
   unfold upd
   by_cases z:i=p
   ·simp[z]
   ·rw[ap z]
    have:=(S3 i hi).2
    exact⟨λq=>by omega,λq=>by omega⟩
  | other=>
   refine⟨0,es p,by rw[hes];exact Qi h1 h7 (hle p hp),by omega,λi hi=>fT.mpr ?_,same⟩
   unfold upd
   have:=(S3 i hi).2
   split
   ·exact⟨λq=>by omega,λq=>by omega⟩
   ·exact⟨λq=>by omega,λq=>by omega⟩
  | @off i0 hi0=>
   refine⟨0,[lc b i0,lc b 25],WF h1 h7 hi0,by omega,λi hi=>fT.mpr ?_,λi j hi hj=>?_⟩
   ·unfold upd
    have:=(S3 i hi).2
    split
    ·exact⟨λq=>by omega,λq=>by omega⟩
    ·exact⟨λq=>by omega,λq=>by omega⟩
   ·congr 1
    refine fT.mpr ?_
    have ne:∀i,¬ es i=[lc b i0,lc b 25]:=λi z=>by
     rw[hes] at z
     have:=dr List.length z
     simp[Jn] at this
    unfold upd
    by_cases z1:i=p
    ·by_cases z2:j=p
     ·simp[z1,z2]
     ·rw[bg z1,ap z2,ap z2,bg z1]
      exact⟨λq=>absurd q.symm (ne j),λq=>by simp only at q;omega⟩
    ·by_cases z2:j=p
     ·rw[ap z1,bg z2,bg z2,ap z1]
      exact⟨λq=>absurd q (ne i),λq=>by simp only at q;omega⟩
     ·rw[ap z1,ap z2,ap z2,ap z1,inj i j hi hj]
      simp only
      omega
 have hw:∀i,i < (aO f t).length->WK b m (upd wd p w' i) (upd ks p kp i) (upd es p ep i)/\upd ks p kp i<=2:=λi hi=>by
  unfold upd
  by_cases z:i=p
  ·rw[bg z,bg z,bg z]
   exact⟨W,kp2⟩
  ·rw[ap z,ap z,ap z,hes]
   exact⟨(S3 i hi).1,by have:=(S3 i hi).2;omega⟩
 have g1:=Nh (tgT h1 h7) M hf ht (wd:=upd wd p w') (ks:=upd ks p kp) (es:=upd es p ep) hw
 have g2:=W0 O (wd:=upd wd p w') (λi hi=>(hw i hi).1.w.t) e' long
 refine⟨_,Tu _ _ _ _ _,g1,?_⟩
 rw[g2]
 congr 2
 refine Kg (λi hi=>(hl i hi).symm) (λi j hi hj=>?_)
 obtain⟨hj1,_,_⟩:=uw hj
 exact(hu i j hi (by omega)).symm
theorem W7 {n:Nat}{wd:Nat->List Nat}(hc:∀i,i < n->∀s∈wd i,97<=s/\s < 123):Kt (HC n wd) (.lst [])=some (decide (n=0)):=by
 cases n with
 | zero=>simp[HC]
 | succ n=>
  have FL:IS 2 (HC (n+1) wd):=by
   show ∀x∈(List.range (n+1)).map (λi=>PV.lst [mS (wd i)]),IS 1 x
   intro x hx
   obtain⟨i,hi,rfl⟩:=cx.mp hx
   have:=Kf (hc i (bS.mp hi))
   simp[IS,this]
  unfold HC at FL ⊢
  rw[mv,ag] at FL ⊢
  rw[jn (n:=1) FL (by decide)]
  rfl
theorem TB (ns:oQ)(h63:ns.length<=63):zG [.frz (ns.map PV.int)]=some (.bl true):=by
 have c0:=ut ns 0
 have c1:=ut ns 1
 have c2:=ut ns 2
 have c3:=ut ns 3
 have c4:=ut ns 4
 obtain⟨cs,hcs,lcs⟩:=CT ns 5 11
 obtain⟨cr,hcr,lcr⟩:=CT ns 11 15
 obtain⟨f,o1,o2,o3,o4,hform⟩:=Ss (cs:=cs) (by omega)
 have hf:PD f:=⟨o1,o2,o3,o4⟩
 have htm:=Gi o1 o2 (by omega)
 obtain⟨m,hm,h1,h7⟩:∃m:Nat,1+cell ns 1 % 7=(m:Int)/\1<=m/\m<=7:=⟨(1+cell ns 1 % 7).toNat,by omega,by omega,by omega⟩
 generalize cell ns 0=b at *
 have Na:bR [none,some (.int b)] (gN 0) bG uM (dO 0 (m:Int))=some (((dX b m).map sg).map .str):=by
  rw[dG,dX,cn,cn]
  exact du (λk:Nat=>PV.int (k:Nat)) _ _ λk _=>⟨_,rfl,by
   have:=j4 b ((k:Nat):Int)
   simp only[uM]
   generalize aU=ml at *
   simp[this]
   rfl⟩
 have hcl:((dX b m).map sg).length=m:=by simp[dX]
 have hsum:(((dX b m).map sg).map (·.length)).sum=m:=by
  have:((dX b m).map sg).map (·.length)=List.replicate m 1:=by
   rw[cn,List.eq_replicate_iff]
   refine⟨by simp[dX],λx hx=>?_⟩
   obtain⟨s,_,rfl⟩:=cx.mp hx
   rfl
  rw[this]
  simp
 have hjo:JoinOk (" " : Str) ((dX b m).map sg)=true:=Qm (by rw[hsum,hcl];have:(" " : Str).length=1:=rfl;rw[this];omega)
 have hjl:=Je (" " : Str) ((dX b m).map sg)
 rw[hsum,hcl] at hjl
 have hs1:(" " : Str).length=1:=rfl
 rw[hs1] at hjl
 have hcy:(Str.ofString "carry ").length=6:=rfl
 have htl:(uR b m).length<=1000:=by
  show (Str.ofString "carry " ++ Str.join (" " : Str) ((dX b m).map sg)).length<=1000
  rw[li,hcy]
  omega
 have hmade:=Yc h1 h7 (b:=b) htl
 have hTn:0 < (bf f).length:=by
  cases o2 with
  | w0 _=>simp[bf]
  | @w2 A B lo hi C=>have:=o1.2.2.2.2.1;simp[bf];omega
 have hT6:((bf f).map λk=>PV.int (k:Nat)).length<=1000000:=by
  rw[ae]
  cases f with
  | f0 A=>simp[bf]
  | f1 A B=>simp[bf]
  | f2 A B lo hi C=>have:=o1.2.2.2.2.2.2;simp[bf];omega
 have hTl:((bf f).map λk=>PV.int (k:Nat)).length=(bf f).length:=ae ..
 obtain⟨j,hj,hjn⟩:∃j:Nat,cell ns 2 % ((bf f).length:Int)=(j:Int)/\j < (bf f).length:=⟨(cell ns 2 % ((bf f).length:Int)).toNat,by have:=eJ (cell ns 2) (b:=((bf f).length:Int)) (by omega);omega,by have:=ga (cell ns 2) (b:=((bf f).length:Int)) (by omega);have:=eJ (cell ns 2) (b:=((bf f).length:Int)) (by omega);omega⟩
 obtain⟨t,hjt⟩:∃t,(bf f)[j]?=some t:=⟨_,ah hjn⟩
 have ht:t∈bf f:=bE hjt
 have Ic:F0 ((bf f).map λk=>PV.int (k:Nat)) (j:Int)=some (.int (t:Nat)):=gA (by rw[a6,hjt];rfl)
 have hrows:=QJ hf ht
 have O:=Ed (Bm hf ht)
 have hn:=O.n
 have hends:=Tp O
 obtain⟨wd,P,hpoem⟩:=Tq (b:=b) h1 h7 O (cell ns 3)
 obtain⟨ms,M,hmet⟩:=W5 (S:=.frz (ns.map PV.int)) c4 (some (.int b)) (some (.int m)) (some (.obj 0 (bZ (dq b m)))) (some (tP (parts f))) (some (.lst ((bf f).map λk=>PV.int (k:Nat)))) (some (.lst ((aO f t).map FY))) (some (OI (aO f t))) (some (HC (aO f t).length wd))
 have hgood:=Tv h1 h7 M hf ht P
 have hcw:∀i,i < (aO f t).length->∀s∈wd i,97<=s/\s < 123:=λi hi=>by
  obtain⟨f',k,hf',hk,e⟩:=P.g i hi
  rw[e]
  exact(Bl h1 h7 (by have:=GK O i hi;omega) hf' hk).w.t
 have hnil:=W7 hcw
 have lp:bw (gN 13) [13,14,15,16] uN (cr.map PV.int) [some (.frz (ns.map PV.int)),some (.int b),some (.int m),some (.obj 0 (bZ (dq b m))),some (tP (parts f)),some (.lst ((bf f).map λk=>PV.int (k:Nat))),some (.lst ((aO f t).map FY)),some (OI (aO f t)),some (HC (aO f t).length wd),some (.dK ms),none,none,none,none,none,none,none]=
   some (.nx [some (.frz (ns.map PV.int)),some (.int b),some (.int m),some (.obj 0 (bZ (dq b m))),some (tP (parts f)),some (.lst ((bf f).map λk=>PV.int (k:Nat))),some (.lst ((aO f t).map FY)),some (OI (aO f t)),some (HC (aO f t).length wd),some (.dK ms),none,none,none,none,none,none,none]):=by
  refine kE _ _ λc _=>?_
  unfold uN
  by_cases hz:(aO f t).length=0
  ·rw[br hz] at hnil
   generalize bZ (dq b m)=F,HC (aO f t).length wd=PO,OI (aO f t)=EN,(aO f t).map FY=RS,tP (parts f)=FP,(bf f).map (λk=>PV.int (k:Nat))=TT,ns.map PV.int=NS at *
   simp[bJ,hnil]
  ·rw[a5 hz] at hnil
   obtain⟨p,w',e',long,hp,S,Se⟩:=W4 h1 h7 (n:=(aO f t).length) (by omega) (by omega) (ee:=IZ (aO f t)) P.g (λi=>(IZ (aO f t) i:Int)) c
   obtain⟨A,hA,g1,g2⟩:=W6 h1 h7 M hf ht P hp S
   have hAA:=FW hA (by decide)
   have hsp':dw [.int b,.int m,HC (aO f t).length wd,OI (aO f t),.int c]=some (.tup [HC (aO f t).length (upd wd p w'),Nl (aO f t).length e',.int long]):=Se
   generalize HC (aO f t).length (upd wd p w')=PQ,Nl (aO f t).length e'=EQ,bZ (dq b m)=F,HC (aO f t).length wd=PO,OI (aO f t)=EN,(aO f t).map FY=RS,tP (parts f)=FP,(bf f).map (λk=>PV.int (k:Nat))=TT,ns.map PV.int=NS,dw=m1,dC=m2,jq=m3 at *
   simp[bJ,hnil,hsp',g1,g2,hAA]
 have PY:=Nj ((dX b m).map sg)
 have htx:Str.ofString "carry " ++ Str.join (Str.ofString " ") ((dX b m).map sg)=uR b m:=rfl
 have hjo':JoinOk (Str.ofString " ") ((dX b m).map sg)=true:=hjo
 have htl2:6+(Str.join (Str.ofString " ") ((dX b m).map sg)).length<=1000000:=by
  show 6+(Str.join (" " : Str) ((dX b m).map sg)).length<=1000000
  omega
 have hm':(m:Int)=1+cell ns 1 % 7:=hm.symm
 have Tx:MR.MW (m:Int)=true:=MR.HZ (by omega) (by omega)
 have X9:(dO 0 (m:Int)).length<=1000000:=by rw[dG];simp;omega
 have hcl6:(((dX b m).map sg).map PV.str).length<=1000000:=by rw[ae,hcl];omega
 have hrg8:MR.MW (8:Int)=true:=MR.HZ (by omega) (by omega)
 have hr8:dO 0 8=(List.range 8).map λk=>PV.int (k:Nat):=dG 8
 have hcr6:(cr.map PV.int).length<=1000000:=by rw[ae];omega
 have hT0:(0:Int) < ((bf f).length:Int):=by omega
 have hT6':(bf f).length<=1000000:=by omega
 have hcs':gb (ns.map PV.int) (some 5) (some 11)=cs.map PV.int:=hcs
 have hcr':gb (ns.map PV.int) (some 11) (some 15)=cr.map PV.int:=hcr
 have c0':bj [.frz (ns.map PV.int),.int 0]=some (.int b):=c0
 have c1':bj [.frz (ns.map PV.int),.int 1]=some (.int (cell ns 1)):=c1
 have c2':bj [.frz (ns.map PV.int),.int 2]=some (.int (cell ns 2)):=c2
 have c3':bj [.frz (ns.map PV.int),.int 3]=some (.int (cell ns 3)):=c3
 rw[← hr8] at hmet
 generalize bZ (dq b m)=F,tP (parts f)=FP,ns.map PV.int=NS,(bf f).map (λk=>PV.int (k:Nat))=TT,(aO f t).map FY=RS,OI (aO f t)=EN,HC (aO f t).length wd=PO,cr.map PV.int=CR,cs.map PV.int=CC,uR b m=TX,hCC:((dX b m).map sg).map PV.str=CD at *
 skip
 generalize (dX b m).map sg=CS at *
 have hb:zF [some (.frz NS),none,none,none,none,none,none,none,none,none,none,none,none,none,none,none,none]=some (.rt (.bl true)):=by
  unfold zF
  generalize bj=m1,iz=m2,gU=m3,c7=m4,jF=m5,jG=m6,dC=m7,cR=m8,uM=ce,rD=B2,uN=B3 at *
  refine(aP (by simp[c0'];rfl)).trans ?_
  refine(aP (by simp[c1',hm];rfl)).trans ?_
  refine(aP (by simp[Tx,X9,Na,hcl6,PY,hjo',hcy,htl2,htx,hmade];rfl)).trans ?_
  refine(aP (by simp[hcs',hform];rfl)).trans ?_
  refine(aP (by simp[htm];rfl)).trans ?_
  refine(aP (by simp[c2',hTl,hT6',hT0,hTn,hj,Ic,hrows];rfl)).trans ?_
  refine(aP (by simp[hends];rfl)).trans ?_
  refine(aP (by simp[c3',hpoem];rfl)).trans ?_
  refine(aP (by simp;rfl)).trans ?_
  refine(aP (by simp[hrg8,hmet];rfl)).trans ?_
  refine(aP (by simp[hgood];rfl)).trans ?_
  refine(aP (by simp[hcr',MI,hcr6,lp];rfl)).trans ?_
  simp[hgood]
 unfold zG
 generalize zF=B at *
 simp[hb]
noncomputable def top (i:Nat):Stmt:=PySem.Challenge.pw_lilt_k75_whole_poems_of_a_form.main.body.getD i (.Pass ⟨0,0,0,0⟩)
abbrev oO:=top 71
abbrev p8:=top 18
abbrev uT:=top 19
abbrev rF:=top 20
abbrev sZ:=top 10
abbrev j5:=top 11
abbrev rG:=top 12
abbrev nO:=top 13
abbrev wA:=top 14
abbrev fP:=top 16
abbrev nP:=top 15
abbrev pQ:=top 17
abbrev dN:=inClass (top 21) 0
abbrev rH:=top 74
abbrev lE:=top 75
abbrev tu:=top 72
abbrev tD:=top 73
abbrev kZ:=top 76
abbrev o_:=top 77
abbrev ph:=top 24
abbrev uU:=top 25
abbrev uV:=top 23
abbrev oR:=top 26
abbrev wB:=top 27
abbrev rJ:=top 28
abbrev pq:=top 82
abbrev p_:=top 79
abbrev tE:=top 81
abbrev uW:=top 80
abbrev tG:=top 83
abbrev lW:=top 64
abbrev nQ:=top 65
abbrev j9:=inClass (top 21) 1
abbrev pR:=top 38
abbrev lX:=top 39
abbrev pA:=top 32
abbrev tH:=top 31
abbrev oU:=top 34
abbrev rK:=top 33
abbrev uX:=top 35
abbrev qH:=top 53
abbrev tK:=top 54
abbrev pB:=top 55
abbrev oV:=top 56
abbrev rM:=top 50
abbrev wC:=top 51
abbrev jd:=top 57
abbrev nR:=top 58
abbrev j_:=inClass (top 21) 2
abbrev uY:=top 40
abbrev lF:=top 41
abbrev wD:=top 42
abbrev lY:=inClass (top 21) 4
abbrev lZ:=inClass (top 21) 3
abbrev wF:=top 43
abbrev oW:=top 44
abbrev l_:=inClass (top 21) 5
abbrev wG:=top 45
abbrev qb:=inClass (top 21) 6
abbrev tL:=top 46
abbrev nU:=top 47
abbrev qI:=top 49
abbrev jy:=top 67
abbrev nY:=inClass (top 21) 7
abbrev nZ:=top 61
abbrev uZ:=top 60
abbrev yF:=top 62
abbrev qd:=top 66
abbrev pC:=top 68
abbrev tQ:=top 69
abbrev oX:=top 85
abbrev n_:=top 84
abbrev u0:=top 86
abbrev QL:List Str:=["carrying","pairs","row","kind","words","carriers"]
abbrev Kh:List Str:=["self","rows","cut","at","row"]
abbrev QM:List Str:=["_law_parts","_law_cell","_law_heads","_law_number","_law_inner","_law_low","_law_roots_here"]
abbrev Kl:List Str:=["form","times","cut","come","turn"]
abbrev QQ:List Str:=["_law_rows","_law_poem_here","_law_ends_here","_law_long","_law_due_here","_law_k","_law_some"]
noncomputable section
structure FR where
 k:Nat
 x:Str
 ps:List Str
 m:List PV->Option PV
 st:Stmt
abbrev sC:FR:=⟨1, "_law_cell_at",["_law_script","_law_k"],bj,oO⟩
abbrev wa:FR:=⟨1, "told_behind",["kind","rows"],bK,p8⟩
abbrev u8:FR:=⟨1, "last_run",["rows"],kI,uT⟩
abbrev v0:FR:=⟨1, "told_alike",["rows"],jf,rF⟩
abbrev pV:FR:=⟨1, "is_letter",["text"],dz,sZ⟩
abbrev r6:FR:=⟨2, "is_carry_row",["row"],fj,j5⟩
abbrev uu:FR:=⟨1, "is_pair_of",["carrying","word"],lr,rG⟩
abbrev r9:FR:=⟨2, "is_one_row",["carrying","row"],gB,nO⟩
abbrev sd:FR:=⟨2, "is_stop",["carrying","text"],mO,wA⟩
abbrev tm:FR:=⟨3, "are_alike_units",["carrying","carriers","words"],gO,fP⟩
abbrev uk:FR:=⟨3, "is_cluster",["carrying","word"],lu,nP⟩
abbrev u4:FR:=⟨4, "is_rule",["carrying","pairs","row"],qu,pQ⟩
abbrev sQ:FR:=⟨1, "_law_roots",["_law_parts"],gC,rH⟩
abbrev sL:FR:=⟨1, "_law_is_low",["_law_parts"],eE,lE⟩
abbrev rX:FR:=⟨1, "_law_name",["_law_number"],dB,tu⟩
abbrev sB:FR:=⟨1, "_law_bond",["_law_number"],ir,tD⟩
abbrev sN:FR:=⟨2, "_law_next",["_law_parts","_law_cell"],gj,kZ⟩
abbrev sK:FR:=⟨3, "_law_form",["_law_cells"],iz,o_⟩
abbrev t5:FR:=⟨1, "ending_of",["form"],iC,ph⟩
abbrev sf:FR:=⟨2, "times_of",["form"],gU,uU⟩
abbrev tT:FR:=⟨1, "cut_form",["form"],jo,uV⟩
abbrev tF:FR:=⟨2, "coming",["form","times"],my,oR⟩
abbrev tq:FR:=⟨2, "bond_in",["letter","turn"],mU,wB⟩
abbrev se:FR:=⟨3, "plain_rows",["form","times"],c7,rJ⟩
abbrev sF:FR:=⟨1, "_law_ends",["_law_rows"],jF,pq⟩
abbrev qA:FR:=⟨1, "_law_letter",["_law_cell","_law_k"],aU,p_⟩
abbrev sT:FR:=⟨2, "_law_word",["_law_base","_law_many","_law_end","_law_number"],iG,tE⟩
abbrev sM:FR:=⟨1, "_law_mix",["_law_cell","_law_k"],kW,uW⟩
abbrev sP:FR:=⟨3, "_law_poem",["_law_base","_law_many","_law_rows","_law_ends_here","_law_cell"],jG,tG⟩
abbrev vk:FR:=⟨1, "refuse_no_name",["metres","form"],fL,lW⟩
abbrev vj:FR:=⟨4, "plain_rows_of",["form","many"],gn,nQ⟩
abbrev u7:FR:=⟨2, "is_word",["tongue","thing"],qw,pR⟩
abbrev qB:FR:=⟨3, "refuse_no_word",["tongue","thing"],dj,lX⟩
abbrev vx:FR:=⟨1, "states_of",["metre"],rm,pA⟩
abbrev r0:FR:=⟨1, "end_state",["metre"],rn,tH⟩
abbrev vw:FR:=⟨1, "state_behind",["metre","state","ends"],sG,oU⟩
abbrev vv:FR:=⟨1, "stands_for",["sign","mark"],vd,rK⟩
abbrev vc:FR:=⟨2, "moves_of",["metre","state","mark","ends"],xY,uX⟩
abbrev vF:FR:=⟨3, "steps_by",["metre","mark","ends"],sV,qH⟩
abbrev tj:FR:=⟨4, "all_steps",["metre"],rA,tK⟩
abbrev wb:FR:=⟨1, "walked_by",["steps","option","ends","states"],v7,pB⟩
abbrev tI:FR:=⟨2, "counts_ahead",["steps","options","ends","behind"],sH,oV⟩
abbrev ve:FR:=⟨1, "options_in",["table"],vf,rM⟩
abbrev t9:FR:=⟨1, "ends_in",["table"],zA,wC⟩
abbrev tJ:FR:=⟨5, "counts_by_syllable",["table","metre"],iH,jd⟩
abbrev vb:FR:=⟨6, "many_readings",["table","metre"],cJ,nR⟩
abbrev si:FR:=⟨4, "units_of",["tongue","word"],gW,uY⟩
abbrev tw:FR:=⟨2, "carriers_of",["tongue","units"],jW,lF⟩
abbrev uj:FR:=⟨2, "gaps_of",["tongue","units"],qz,wD⟩
abbrev vE:FR:=⟨2, "staying",["tongue","stops"],qC,wF⟩
abbrev vS:FR:=⟨5, "syllables_of",["tongue","word"],ju,oW⟩
abbrev va:FR:=⟨3, "last_ways",["tongue","carrier","tail"],v8,tL⟩
abbrev vi:FR:=⟨6, "options_of",["tongue","word","follow"],lD,nU⟩
abbrev vT:FR:=⟨7, "table_of",["tongue","words"],gY,qI⟩
abbrev t3:FR:=⟨1, "earlier_bound",["plain","number"],dI,jy⟩
abbrev ua:FR:=⟨2, "ends_rhyme",["tongue","one","other"],jh,nZ⟩
abbrev t4:FR:=⟨5, "end_of",["tongue","word"],pI,uZ⟩
abbrev vn:FR:=⟨6, "rhymes",["tongue","one","other"],sJ,yF⟩
abbrev vt:FR:=⟨7, "rhymes_with",["tongue","row","earlier"],iI,qd⟩
abbrev ub:FR:=⟨8, "faults_in",["tongue","metres","plain","poem","number"],jK,pC⟩
abbrev ui:FR:=⟨9, "faults_of",["tongue","metres","form","poem"],dC,tQ⟩
abbrev sR:FR:=⟨2, "_law_spoiled",["_law_base","_law_many","_law_poem_here","_law_ends_here","_law_cell"],dw,oX⟩
abbrev sD:FR:=⟨1, "_law_due",["_law_rows","_law_poem_here","_law_ends_here","_law_long"],jq,n_⟩
abbrev xz:FR:=⟨10, "law",["_law_script"],zG,u0⟩
theorem zV:Fu ["_law_script","_law_k"] sC.ps (aB oO):=GH
theorem wr:Fu ["kind","rows","told","row","word"] wa.ps (aB p8):=GH
theorem wo:Fu ["rows","told","row"] u8.ps (aB uT):=GH
theorem ya:Fu ["rows","told","row"] v0.ps (aB rF):=GH
theorem GR:Fu ["text"] pV.ps (aB sZ):=GH
theorem zW:Fu ["row"] r6.ps (aB j5):=GH
theorem Di:Fu ["carrying","word"] uu.ps (aB rG):=GH
theorem Dj:Fu ["carrying","row"] r9.ps (aB nO):=GH
theorem Km:Fu ["carrying","text"] sd.ps (aB wA):=GH
theorem wH:Fu ["carrying","carriers","words"] tm.ps (aB fP):=GH
theorem Dk:Fu ["carrying","word"] uk.ps (aB nP):=GH
theorem wn:Fu ["carrying","pairs","row","kind","words","carriers"] u4.ps (aB pQ):=GH
theorem F6:Fu ["self","rows","cut","at","row"] ["self","rows"] (aB dN):=GH
theorem qc:Fu ["_law_parts","_law_found","_law_number","_law_inner","_law_part"] sQ.ps (aB rH):=GH
theorem Bp:Fu ["_law_parts"] sL.ps (aB lE):=GH
theorem ze:Fu ["_law_number","_law_some"] rX.ps (aB tu):=GH
theorem y9:Fu ["_law_number","_law_some"] sB.ps (aB tD):=GH
theorem p9:Fu ["_law_parts","_law_cell","_law_heads","_law_number","_law_inner","_law_low","_law_roots_here"] sN.ps (aB kZ):=GH
theorem we:Fu ["_law_cells","_law_parts","_law_cell","_law_heads"] sK.ps (aB o_):=GH
theorem zi:Fu ["form","endings"] t5.ps (aB ph):=GH
theorem zv:Fu ["form","ending"] sf.ps (aB uU):=GH
theorem qh:Fu ["form","lists","where","number","part"] tT.ps (aB uV):=GH
theorem wm:Fu ["form","times","cut","come","turn"] tF.ps (aB oR):=GH
theorem Ko:Fu ["letter","turn"] tq.ps (aB wB):=GH
theorem qk:Fu ["form","times","plain","became","number","part","turn","back"] se.ps (aB rJ):=GH
theorem wc:Fu ["_law_rows","_law_found","_law_k","_law_some"] sF.ps (aB pq):=GH
theorem zd:Fu ["_law_cell","_law_k","_law_step"] qA.ps (aB p_):=GH
theorem wf:Fu ["_law_base","_law_many","_law_end","_law_number","_law_first","_law_ahead","_law_stops"] sT.ps (aB tE):=GH
theorem Hs:Fu ["_law_cell","_law_k"] sM.ps (aB uW):=GH
theorem xA:Fu ["_law_base","_law_many","_law_rows","_law_ends_here","_law_cell","_law_poem_here","_law_k"] sP.ps (aB tG):=GH
theorem zl:Fu ["metres","form","part"] vk.ps (aB lW):=GH
theorem xI:Fu ["form","many","times","rows"] vj.ps (aB nQ):=GH
theorem wI:Fu ["self","letter"] ["self","letter"] (aB j9):=GH
theorem Kq:Fu ["tongue","thing"] u7.ps (aB pR):=GH
theorem xF:Fu ["tongue","thing"] qB.ps (aB lX):=GH
theorem q0:Fu ["metre","states","slot","told","number","pattern"] vx.ps (aB pA):=GH
theorem GX:Fu ["metre"] r0.ps (aB tH):=GH
theorem xL:Fu ["metre","state","ends","slot","behind"] vw.ps (aB oU):=GH
theorem Dl:Fu ["sign","mark"] vv.ps (aB rK):=GH
theorem pz:Fu ["metre","state","mark","ends","slot","at","patterns","numbers","moves","number","reached"] vc.ps (aB uX):=GH
theorem xS:Fu ["metre","mark","ends","steps","state"] vF.ps (aB qH):=GH
theorem wl:Fu ["metre","steps","mark","ends"] tj.ps (aB tK):=GH
theorem GZ:Fu ["steps","option","ends","states"] wb.ps (aB pB):=GH
theorem sm:Fu ["steps","options","ends","behind","counts","option","state","reached"] tI.ps (aB oV):=GH
theorem xE:Fu ["table","listed","word"] ve.ps (aB rM):=GH
theorem xC:Fu ["table","listed","word"] t9.ps (aB wC):=GH
theorem qf:Fu ["table","metre","steps","behind","backwards","options","ends"] tJ.ps (aB jd):=GH
theorem yG:Fu ["table","metre"] vb.ps (aB nR):=GH
theorem wJ:Fu ["self","pair"] ["self","pair"] (aB j_):=GH
theorem sn:Fu ["tongue","word","units","at","size"] si.ps (aB uY):=GH
theorem Bq:Fu ["tongue","units"] tw.ps (aB lF):=GH
theorem xD:Fu ["tongue","units","gaps","unit"] uj.ps (aB wD):=GH
theorem xG:Fu ["self","cluster"] ["self","cluster"] (aB lY):=GH
theorem xH:Fu ["self","cluster"] ["self","cluster"] (aB lZ):=GH
theorem zo:Fu ["tongue","stops","start"] vE.ps (aB wF):=GH
theorem pr:Fu ["tongue","word","units","carriers","gaps","syllables","head","carrier","stops","tail"] vS.ps (aB oW):=GH
theorem xJ:Fu ["self","carrier"] ["self","carrier"] (aB l_):=GH
theorem yb:Fu ["tongue","carrier","tail","split","weight","ways"] ["tongue","carrier","tail","split"] (aB wG):=GH
theorem Br:Fu ["self"] ["self"] (aB qb):=GH
theorem zk:Fu ["tongue","carrier","tail","ways"] va.ps (aB tL):=GH
theorem wq:Fu ["tongue","word","follow","syllables","options","last"] vi.ps (aB nU):=GH
theorem zt:Fu ["tongue","words","follows"] vT.ps (aB qI):=GH
theorem zh:Fu ["plain","number","bond"] t3.ps (aB jy):=GH
theorem yH:Fu ["self","one","other"] ["self","one","other"] (aB nY):=GH
theorem Dm:Fu ["tongue","one","other"] ua.ps (aB nZ):=GH
theorem xB:Fu ["tongue","word","units","last"] t4.ps (aB uZ):=GH
theorem Nk:Fu ["tongue","one","other"] vn.ps (aB yF):=GH
theorem Bt:Fu ["tongue","row","earlier"] vt.ps (aB qd):=GH
theorem qS:Fu ["tongue","metres","plain","poem","number","row","told","back","faults","unlike"] ub.ps (aB pC):=GH
theorem qV:Fu ["tongue","metres","form","poem","row","word","plain","faults","number"] ui.ps (aB tQ):=GH
theorem qE:Fu ["_law_base","_law_many","_law_poem_here","_law_ends_here","_law_cell","_law_k","_law_word_here","_law_ahead","_law_other"] sR.ps (aB oX):=GH
theorem sj:Fu ["_law_rows","_law_poem_here","_law_ends_here","_law_long","_law_due_here","_law_k","_law_some"] sD.ps (aB n_):=GH
theorem pf:Fu ["_law_script","_law_base","_law_many","_law_tongue","_law_form_here","_law_times","_law_rows","_law_ends_here","_law_poem_here","_law_metres","_law_k","_law_cut","_law_some","_law_cell","_law_other","_law_said","_law_long"] xz.ps (aB u0):=GH
structure Z7 where
 P:Program
 w:World
 K:W.Frag
 mg:Str->Option Value
 base:Heap
 cl:Nat->Addr
 I0:Tok
 L9:Tok
 IJ:Tok
 Kb:Tok
 Mb:Addr
 K0:Addr
section
variable (Z:Z7)(r:FR)(f:Addr)(fd:FuncData)
abbrev ca:=XW Z.P Z.w Z.K Z.mg Z.base r.k r.x r.ps (Kx ⟨Z.K,Z.cl⟩ r.m false)
abbrev fu:=LB Z.K r.x r.x r.st f fd
abbrev fo:=GY Z.P Z.w Z.K Z.mg Z.base MS r.k f fd r.ps (Kx ⟨Z.K,Z.cl⟩ r.m false)
structure Zq:Prop where
 pj:Z.mg "all" = none
 so:Z.mg "any" = none
 pE:Z.mg "enumerate" = none
 ss:Z.mg "isinstance" = none
 gV:Z.mg "len" = none
 pp:Z.mg "list" = none
 qo:Z.mg "max" = none
 pd:Z.mg "range" = none
 re:Z.mg "reversed" = none
 sv:Z.mg "str" = none
 sw:Z.mg "tuple" = none
 pS:Z.mg "zip" = none
 rh:Z.mg "LEAST_STOPS" = some (.int 2 Z.I0)
 rk:Z.mg "LETTERS" = some (.str "abcdefghijklmnopqrstuvwxyz" Z.L9)
 rl:Z.mg "MOST_LETTERS" = some (.int 24 Z.IJ)
 rp:Z.mg "MOST_STOPS" = some (.int 4 Z.Kb)
 rq:Z.mg "RUNS" = some (.ref Z.Mb)
 rL:Z.mg "START" = some (.ref Z.K0)
 xt:∀(B:Addr->Prop) (H:Hp),Rep ⟨Z.K,Z.cl⟩ B H (.ref Z.Mb) t7
 xw:∀(B:Addr->Prop) (H:Hp),Rep ⟨Z.K,Z.cl⟩ B H (.ref Z.K0) Az
 FC:OF Z.K (Z.cl 0)
 rS:∀t k,(t,k)∈L6->W.kitOne Z.K (.type t) (.type "str")=some k
 IC:GV Z.K (Z.cl 0) "beginnings"
 GG:GV Z.K (Z.cl 0) "carrying"
 JO:GV Z.K (Z.cl 0) "eithers"
 IL:GV Z.K (Z.cl 0) "likes"
 KU:GV Z.K (Z.cl 0) "longs"
 IM:GV Z.K (Z.cl 0) "pairs"
 JU:GV Z.K (Z.cl 0) "running"
 ID:GV Z.K (Z.cl 0) "splittings"
structure AJ:Prop extends Zq Z where
 pT:ca Z pV
structure AL:Prop extends Zq Z where
 B9:ca Z uu
structure AN:Prop extends Zq Z where
 pT:ca Z pV
structure At:Prop extends Zq Z where
 wS:ca Z sd
structure AK:Prop extends Zq Z where
 wS:ca Z sd
structure AM:Prop extends Zq Z where
 BI:ca Z tm
 wE:ca Z r6
 B8:ca Z uk
 wP:ca Z r9
structure zw:Prop extends Zq Z where
 wE:ca Z r6
 wP:ca Z r9
 Cb:ca Z u4
 Cf:ca Z u8
 C1:ca Z v0
 qv:ca Z wa
structure zD:Prop extends Zq Z where
 A8:ca Z sB
 Bz:ca Z sL
 wt:ca Z rX
 BE:ca Z sQ
structure zC:Prop extends Zq Z where
 BC:ca Z sN
structure A5:Prop extends Zq Z where
 B0:ca Z t5
structure AB:Prop extends Zq Z where
 BU:ca Z tT
structure Au:Prop extends Zq Z where
 pT:ca Z pV
structure AV:Prop extends Zq Z where
 BM:ca Z tq
 BO:ca Z tF
structure Ap:Prop extends Zq Z where
 pi:ca Z qA
structure zI:Prop extends Zq Z where
 BA:ca Z sM
 BG:ca Z sT
structure AW:Prop extends Zq Z where
 wT:ca Z se
 w8:ca Z sf
structure AO:Prop extends Zq Z where
 pT:ca Z pV
 pw:II Z.P Z.w Z.K Z.mg Z.base (Z.cl 0) 1 "carries" ["self","letter"] (Kx ⟨Z.K,Z.cl⟩ aV false)
structure AX:Prop extends Zq Z where
 Cc:ca Z u7
structure AT:Prop extends Zq Z where
 wv:ca Z r0
 CI:ca Z vv
 CL:ca Z vw
structure A2:Prop extends Zq Z where
 Co:ca Z vc
 CM:ca Z vx
structure As:Prop extends Zq Z where
 CU:ca Z vF
structure AC:Prop extends Zq Z where
 C2:ca Z wb
structure AD:Prop extends Zq Z where
 BH:ca Z tj
 BQ:ca Z tI
 wv:ca Z r0
 B4:ca Z t9
 Cs:ca Z ve
structure AS:Prop extends Zq Z where
 BS:ca Z tJ
structure A6:Prop extends Zq Z where
 rg:ca Z qB
 Fa:II Z.P Z.w Z.K Z.mg Z.base (Z.cl 0) 1 "is_pair" ["self","pair"] (Kx ⟨Z.K,Z.cl⟩ dM false)
structure AA:Prop extends Zq Z where
 pw:II Z.P Z.w Z.K Z.mg Z.base (Z.cl 0) 1 "carries" ["self","letter"] (Kx ⟨Z.K,Z.cl⟩ aV false)
structure AI:Prop extends Zq Z where
 pw:II Z.P Z.w Z.K Z.mg Z.base (Z.cl 0) 1 "carries" ["self","letter"] (Kx ⟨Z.K,Z.cl⟩ aV false)
structure A0:Prop extends Zq Z where
 E9:II Z.P Z.w Z.K Z.mg Z.base (Z.cl 0) 1 "begins" ["self","cluster"] (Kx ⟨Z.K,Z.cl⟩ fM false)
 xp:II Z.P Z.w Z.K Z.mg Z.base (Z.cl 0) 1 "splits" ["self","cluster"] (Kx ⟨Z.K,Z.cl⟩ dm false)
structure A3:Prop extends Zq Z where
 BN:ca Z tw
 B7:ca Z uj
 CO:ca Z vE
 w9:ca Z si
 xp:II Z.P Z.w Z.K Z.mg Z.base (Z.cl 0) 1 "splits" ["self","cluster"] (Kx ⟨Z.K,Z.cl⟩ dm false)
structure A7:Prop extends Zq Z where
 Fc:II Z.P Z.w Z.K Z.mg Z.base (Z.cl 0) 1 "weight" ["self","carrier"] (Kx ⟨Z.K,Z.cl⟩ fO false)
structure AQ:Prop extends Zq Z where
 sx:XW Z.P Z.w Z.K Z.mg Z.base 2 "ways_of" ["tongue","carrier","tail","split"] (Kx ⟨Z.K,Z.cl⟩ eO true)
 y8:II Z.P Z.w Z.K Z.mg Z.base (Z.cl 0) 1 "run" ["self"] (Kx ⟨Z.K,Z.cl⟩ jX false)
structure AU:Prop extends Zq Z where
 Ch:ca Z va
 rg:ca Z qB
 CY:ca Z vS
 sx:XW Z.P Z.w Z.K Z.mg Z.base 2 "ways_of" ["tongue","carrier","tail","split"] (Kx ⟨Z.K,Z.cl⟩ eO true)
 pw:II Z.P Z.w Z.K Z.mg Z.base (Z.cl 0) 1 "carries" ["self","letter"] (Kx ⟨Z.K,Z.cl⟩ aV false)
structure A4:Prop extends Zq Z where
 Ct:ca Z vi
structure AF:Prop extends Zq Z where
 E8:II Z.P Z.w Z.K Z.mg Z.base (Z.cl 0) 1 "alike" ["self","one","other"] (Kx ⟨Z.K,Z.cl⟩ eG false)
structure AE:Prop extends Zq Z where
 w9:ca Z si
 pw:II Z.P Z.w Z.K Z.mg Z.base (Z.cl 0) 1 "carries" ["self","letter"] (Kx ⟨Z.K,Z.cl⟩ aV false)
structure AY:Prop extends Zq Z where
 yi:ca Z t4
 B5:ca Z ua
structure AZ:Prop extends Zq Z where
 CF:ca Z vn
structure AG:Prop extends Zq Z where
 BY:ca Z t3
 Cn:ca Z vb
 CH:ca Z vt
 C0:ca Z vT
structure AH:Prop extends Zq Z where
 B6:ca Z ub
 CA:ca Z vj
 CB:ca Z vk
 rg:ca Z qB
structure zS:Prop extends Zq Z where
 pi:ca Z qA
structure AR:Prop extends Zq Z where
 qr:ca Z sC
 A9:ca Z sD
 Bi:ca Z sF
 Bn:ca Z sK
 pi:ca Z qA
 wt:ca Z rX
 BD:ca Z sP
 BF:ca Z sR
 wx:ca Z ui
 wT:ca Z se
 w8:ca Z sf
 TC:CalI Z.P Z.w Z.K Z.mg Z.base (Z.cl 0) 5 "Tongue" ["self","rows"] (spI ⟨Z.K,Z.cl⟩ 0 cR)
end
section
variable {Z:Z7}{f:Addr}{fd:FuncData}
theorem zX (F:fu Z sC f fd)(T:Zq Z):fo Z sC f fd:=by
 refine GL F zV [] [] [] λhr=>?_
 exact(au (bD (aM (Jw (aj 1) (bN T.gV (aj 0)))) (aA (aL (aG hr (aj 0) (aj 1)))) aX) (aA (aL ao)))
theorem Bu (F:fu Z wa f fd)(T:Zq Z):fo Z wa f fd:=by
 refine GL F wr [2] [] [] λhr=>?_
 exact(au (cF 2 wr.nd Jx) (au (cg [3,4] (bU (aj 1)) (d9 3 wr.nd) (aA (bD (aM (bB hr (aG hr (aj 3) ao) (aj 0))) (aA (cg [4] (bU (dg (aj 3) (bH ao) cG)) (d9 4 wr.nd) (aA (rY 2 hr (aj 4) jt)) bb)) aX)) bb) (cY (G1:=[]) (aA (aL (aj 2))))))
theorem Ht (F:fu Z u8 f fd)(T:Zq Z):fo Z u8 f fd:=by
 refine GL F wo [] [] [] λhr=>?_
 exact(au (aR 1 wo.nd aJ) (au (cg [2] (bU (aj 0)) (d9 2 wo.nd) (aA (bD (aM (bB hr (aG hr (aj 2) ao) aJ)) (aA (aR 1 wo.nd (aG hr (aj 2) ao))) aX)) bb) (aA (aL (aj 1)))))
theorem Dn (F:fu Z v0 f fd)(T:Zq Z):fo Z v0 f fd:=by
 refine GL F ya [1] [] [] λhr=>?_
 exact(au (cF 1 ya.nd Jy) (au (cg [2] (bU (aj 0)) (d9 2 ya.nd) (aA (bD (aM (bB hr (aG hr (aj 2) ao) aJ)) (aA (rY 1 hr (aW (aa (aG hr (aj 2) ao) (aa (aG hr (aj 2) ao) aq))) jt)) aX)) bb) (cY (G1:=[]) (aA (aL (aj 1))))))
theorem G3 (F:fu Z pV f fd)(T:Zq Z):fo Z pV f fd:=by
 refine GL F GR [] [] [] λhr=>?_
 exact(aA (aL (dZ (bQ (bB hr (bN T.gV (aj 0)) ao)) (eU (bQ (fU hr (aj 0) (XF T.rk)))))))
theorem zY (F:fu Z r6 f fd)(T:AJ Z):fo Z r6 f fd:=by
 refine GL F zW [] [] [] λhr=>?_
 exact(aA (aL (dZ (bQ (bB hr (aG hr (aj 0) ao) aJ)) (dZ (bQ (qt (bN T.gV (aj 0)) ao)) (eU (mH T.pj (cu (He:=(aB j5)) (ON:=["row"]) (N:=["word"]) (FH:=[none]) KW (eV 0) (bU (dg (aj 0) (bH ao) cG)) (λ_ _ _ _=>b8 0) (λ_ _ _ _=>bY) (λ_ _ _ _=>(aD T.pT hr (aa (aj 0) aq))))))))))
theorem Do (F:fu Z uu f fd)(T:Zq Z):fo Z uu f fd:=by
 refine GL F Di [] [] [] λhr=>?_
 exact(aA (aL (dZ (bQ (bB hr (bN T.gV (aj 1)) ao)) (dZ (bQ (fU hr (aG hr (aj 1) ao) (aj 0))) (eU (bQ (fU hr (aG hr (aj 1) ao) (aj 0))))))))
theorem Dp (F:fu Z r9 f fd)(T:AL Z):fo Z r9 f fd:=by
 refine GL F Dj [] [] [] λhr=>?_
 exact(aA (aL (dZ (bQ (bB hr (aG hr (aj 1) ao) aJ)) (dZ (bQ (qt (bN T.gV (aj 1)) ao)) (eU (mH T.pj (cu (He:=(aB nO)) (ON:=["carrying","row"]) (N:=["word","carrying"]) (FH:=[none,some 0]) KW (eV 0) (bU (dg (aj 1) (bH ao) cG)) (λ_ _ _ _=>b8 0) (λ_ _ _ _=>bY) (λ_ _ _ _=>(aD T.B9 hr (aa (aj 1) (aa (aj 0) aq)))))))))))
theorem Kr (F:fu Z sd f fd)(T:AN Z):fo Z sd f fd:=by
 refine GL F Km [] [] [] λhr=>?_
 exact(aA (aL (dZ (aD T.pT hr (aa (aj 1) aq)) (eU (bQ (qQ hr (aj 1) (aj 0)))))))
theorem wK (F:fu Z tm f fd)(T:At Z):fo Z tm f fd:=by
 refine GL F wH [] [] [] λhr=>?_
 exact(au (bD (aM (gZ hr (bN T.gV (aj 2)) ao)) (aA (aL jt)) aX) (aA (aL (DP (mH T.pj (cu (He:=(aB fP)) (ON:=["carrying","carriers","words"]) (N:=["word","carriers"]) (FH:=[none,some 1]) KW (eV 0) (bU (aj 2)) (λ_ _ _ _=>b8 0) (λ_ _ _ _=>bY) (λ_ _ _ _=>(bQ (fU hr (aj 0) (aj 1)))))) (eU (mH T.pj (cu (He:=(aB fP)) (ON:=["carrying","carriers","words"]) (N:=["word","carrying"]) (FH:=[none,some 0]) KW (eV 0) (bU (aj 2)) (λ_ _ _ _=>b8 0) (λ_ _ _ _=>bY) (λ_ _ _ _=>(aD T.wS hr (aa (aj 1) (aa (aj 0) aq)))))))))))
theorem Dq (F:fu Z uk f fd)(T:AK Z):fo Z uk f fd:=by
 refine GL F Dk [] [] [] λhr=>?_
 exact(aA (aL (dZ (Ot Qq Qq (Ju T.rh) (bN T.gV (aj 1)) (Ju T.rp)) (eU (mH T.pj (cu (He:=(aB nP)) (ON:=["carrying","word"]) (N:=["sign","carrying"]) (FH:=[none,some 0]) KW (eV 0) (bU (aj 1)) (λ_ _ _ _=>b8 0) (λ_ _ _ _=>bY) (λ_ _ _ _=>(aD T.wS hr (aa (aj 1) (aa (aj 0) aq))))))))))
theorem Ks (F:fu Z u4 f fd)(T:AM Z):fo Z u4 f fd:=by
 refine GL F wn [] [] [] λhr=>?_
 exact(au (aR 3 wn.nd (aG hr (aj 2) ao)) (au (aR 4 wn.nd (dg (aj 2) (bH ao) cG)) (au (aR 5 wn.nd (bM (Ak T.pp (aj 0)) (Ak T.pp (aj 1)))) (au (bD (aM (bB hr (aj 3) aJ)) (aA (aL (aD T.wE hr (aa (aj 2) aq)))) aX) (au (bD (aM (bB hr (aj 3) aJ)) (aA (aL (aD T.wP hr (aa (aj 0) (aa (aj 2) aq))))) aX) (au (bD (SW.st (yS (aM (bB hr (aj 3) aJ)) (vK (aM (bB hr (aj 3) aJ))))) (aA (aL (dZ (bQ (qt (bN T.gV (aj 4)) ao)) (eU (mH T.pj (cu (He:=(aB pQ)) (ON:=QL) (N:=["word","carriers"]) (FH:=[none,some 5]) KW (eV 0) (bU (aj 4)) (λ_ _ _ _=>b8 0) (λ_ _ _ _=>bY) (λ_ _ _ _=>(bQ (fU hr (aj 0) (aj 1)))))))))) aX) (au (bD (SW.st (yS (aM (bB hr (aj 3) aJ)) (vK (aM (bB hr (aj 3) aJ))))) (aA (aL (dZ (bQ (qt (bN T.gV (aj 4)) ao)) (eU (mH T.pj (cu (He:=(aB pQ)) (ON:=QL) (N:=["word","carrying"]) (FH:=[none,some 0]) KW (eV 0) (bU (aj 4)) (λ_ _ _ _=>b8 0) (λ_ _ _ _=>bY) (λ_ _ _ _=>(aD T.B8 hr (aa (aj 1) (aa (aj 0) aq)))))))))) aX) (au (bD (aM (bB hr (aj 3) aJ)) (aA (aL (dZ (bQ (bB hr (bN T.gV (aj 4)) ao)) (eU (bQ (fU hr (aG hr (aj 4) ao) (Qz T.rq (T.xt)))))))) aX) (aA (aL (dZ (bQ (bB hr (aj 3) aJ)) (eU (aD T.BI hr (aa (aj 0) (aa (aj 5) (aa (aj 4) aq))))))))))))))))
theorem vm (F:LB Z.K "__init__" "Tongue.__init__" dN f fd)(T:zw Z):GY Z.P Z.w Z.K Z.mg Z.base MS 5 f fd ["self","rows"] (spI ⟨Z.K,Z.cl⟩ 0 cR):=by
 refine F.ok F6 (λvs H Q E h=>RK h) (λLM A' outer s H vs Q E hr h=>RJ (G:=[0]) (G':=[0]) (L:=[]) (N:=["self","rows","cut","at","row"]) rfl (by decide) (by decide) (by decide) (by decide) (λB H' x=>?_) h)
 exact(au (mJ 2 F6.nd (He:=(aB dN)) (ON:=Kh) (N:=["row"]) (FH:=[none]) KW (eV 0) (bU (aj 1)) (λ_ _ _ _=>b8 0) (λ_ _ _ _=>bY) (λ_ _ _ _=>(SE.val (Oz (aj 0) aJ)))) (au (rZ 0 (c:=0) T.FC T.GG (aD T.qv hr (aa aJ (aa (SE.val (cu (He:=(aB dN)) (ON:=Kh) (N:=["row"]) (FH:=[none]) KW (eV 0) (bU (aj 2)) (λ_ _ _ _=>b8 0) (λ_ _ _ _=>fG (di (aD T.wE hr (aa (aj 0) aq)))) (λ_ _ _ _=>(aj 0)))) aq)))) (au (rZ 0 (c:=0) T.FC T.IM (aD T.qv hr (aa aJ (aa (SE.val (cu (He:=(aB dN)) (ON:=Kh) (N:=["row","self"]) (FH:=[none,some 0]) KW (eV 0) (bU (aj 2)) (λ_ _ _ _=>b8 0) (λ_ _ _ _=>fG (di (aD T.wP hr (aa (je (c:=0) T.FC T.GG (jC 1)) (aa (aj 0) aq))))) (λ_ _ _ _=>(aj 0)))) aq)))) (au (cg [3,4] (uJ T.pE (aj 2)) (vN (cP 3 F6.nd (cP 4 F6.nd mj))) (aA (bD (qR (di (aD T.Cb hr (aa (je (c:=0) T.FC T.GG (jC 0)) (aa (je (c:=0) T.FC T.IM (jC 0)) (aa (aj 4) aq)))))) (aA O1) aX)) bb) (au (rZ 0 (c:=0) T.FC T.KU (aD T.qv hr (aa aJ (aa (aj 2) aq)))) (au (rZ 0 (c:=0) T.FC T.JO (aD T.qv hr (aa aJ (aa (aj 2) aq)))) (au (rZ 0 (c:=0) T.FC T.IC (aD T.qv hr (aa aJ (aa (aj 2) aq)))) (au (rZ 0 (c:=0) T.FC T.ID (aD T.qv hr (aa aJ (aa (aj 2) aq)))) (au (rZ 0 (c:=0) T.FC T.JU (aD T.Cf hr (aa (aj 2) aq))) (aA (rZ 0 (c:=0) T.FC T.IL (aD T.C1 hr (aa (aj 2) aq)))))))))))))
theorem Dr (F:fu Z sQ f fd)(T:Zq Z):fo Z sQ f fd:=by
 refine GL F qc [1] [] [] λhr=>?_
 exact(au (cF 1 qc.nd (aZ aq)) (au (aR 2 qc.nd ao) (au (aR 3 qc.nd jt) (au (cg [4] (bU (aj 0)) (d9 4 qc.nd) (aA (bD (aM (fU hr (aG hr (aj 4) ao) (aW (aa aJ (aa aJ aq))))) (aA (aR 3 qc.nd (bQ (bB hr (aG hr (aj 4) ao) aJ)))) (au (aR 2 qc.nd (bM (aj 2) ao)) (aA (bD (aM (bB hr (aG hr (aj 4) ao) aJ)) (aA (cV 1 (aW (aa (aj 2) (aa (aj 3) aq))))) aX))))) bb) (cY (G1:=[]) (aA (aL (aj 1))))))))
theorem Bv (F:fu Z sL f fd)(T:Zq Z):fo Z sL f fd:=by
 refine GL F Bp [] [] [] λhr=>?_
 exact(aA (aL (bQ (gZ hr (cu (He:=(aB lE)) (ON:=["_law_parts"]) (N:=["_law_part"]) (FH:=[none]) KW (eV 0) (bU (aj 0)) (λ_ _ _ _=>b8 0) (λ_ _ _ _=>fG (SW.st (gM (aM (bB hr (aG hr (aj 0) ao) aJ)) (fZ (aM (bB hr (aG hr (aj 0) ao) ao)))))) (λ_ _ _ _=>(aj 0))) (aZ aq)))))
theorem G4 (F:fu Z rX f fd)(T:Zq Z):fo Z rX f fd:=by
 refine GL F ze [] [] [] λhr=>?_
 exact(au (aR 1 ze.nd (SE.val (aZ (aa aJ (aa aJ (aa aJ (aa aJ (aa aJ (aa aJ (aa aJ (aa aJ aq))))))))))) (aA (aL (aG hr (aj 1) (cU (aj 0) ao)))))
theorem G5 (F:fu Z sB f fd)(T:Zq Z):fo Z sB f fd:=by
 refine GL F y9 [] [] [] λhr=>?_
 exact(au (aR 1 y9.nd (SE.val (aZ (aa cX (aa aJ (aa aJ (aa aJ (aa aJ (aa aJ (aa aJ (aa aJ aq))))))))))) (aA (aL (aG hr (aj 1) (cU (aj 0) ao)))))
theorem G6 (F:fu Z sN f fd)(T:zD Z):fo Z sN f fd:=by
 refine GL F p9 [] [] [] λhr=>?_
 exact(au (mJ 2 p9.nd (He:=(aB kZ)) (ON:=QM) (N:=["_law_part"]) (FH:=[none]) KW (eV 0) (bU (aj 0)) (λ_ _ _ _=>b8 0) (λ_ _ _ _=>bY) (λ_ _ _ _=>(aG hr (aj 0) ao))) (au (aR 3 p9.nd (kj (aj 1) ao)) (au (aR 4 p9.nd (dZ (bQ (fU hr aJ (aj 2))) (eU (bQ (qQ hr aJ (aj 2)))))) (au (aR 5 p9.nd (cU (aj 3) ao)) (au (bD (SW.st (gM (aM (bB hr (cU (aj 1) ao) ao)) (fZ (aM (qQ hr aJ (aj 2)))))) (aA (aL (aW (aa aJ aq)))) aX) (au (bD (SW.st (gM (aM (bB hr (cU (aj 1) ao) ao)) (gM (di (aj 4)) (fZ (aM (gZ hr (aG hr (aj 2) (dU ao)) aJ)))))) (aA (aL (aW (aa aJ (aa (aj 5) (aa (bM (Mm T.qo ao (aj 5)) (cU (kj (aj 3) ao) (LQ ao (Mm T.qo ao (aj 5))))) aq)))))) aX) (au (aR 6 p9.nd (aD T.BE hr (aa (aj 0) aq))) (au (bD (SW.st (gM (qR (di (aj 4))) (fZ (di (aD T.Bz hr (aa (aj 0) aq)))))) (aA (mJ 6 p9.nd (He:=(aB kZ)) (ON:=QM) (N:=["_law_one"]) (FH:=[none]) KW (eV 0) (bU (aj 6)) (λ_ _ _ _=>b8 0) (λ_ _ _ _=>fG (qR (di (aG hr (aj 0) ao)))) (λ_ _ _ _=>(aj 0)))) aX) (au (bD (SW.st (gM (aM (fU hr (cU (aj 1) ao) (aW (aa ao (aa ao aq))))) (fZ (aM (gZ hr (aj 6) (aZ aq)))))) (aA (aL (aW (aa aJ (aa (aG hr (aG hr (aj 6) (cU (aj 3) (bN T.gV (aj 6)))) ao) aq))))) aX) (aA (aL (aW (aa aJ (aa (aD T.wt hr (aa (aj 3) aq)) (aa (aD T.A8 hr (aa (kj (aj 3) ao) aq)) aq)))))))))))))))
theorem G7 (F:fu Z sK f fd)(T:zC Z):fo Z sK f fd:=by
 refine GL F we [1] [1] [] λhr=>?_
 exact(au (cF 1 we.nd (aZ aq)) (au (cg [2] (bU (aj 0)) (d9 2 we.nd) (aA (cV 1 (OD T.BC hr (Ou (jC 1) (aa (aj 2) aq))))) bb) (au (mJ 3 we.nd (He:=(aB o_)) (ON:=["_law_cells","_law_parts","_law_cell","_law_heads"]) (N:=["_law_part"]) (FH:=[none]) KW (eV 0) (bU (jC 1)) (λ_ _ _ _=>b8 0) (λ_ _ _ _=>bY) (λ_ _ _ _=>(aG hr (aj 0) ao))) (au (bD (SW.st (yS (aM (bB hr (aj 3) (aZ aq))) (vK (aM (bB hr (aG hr (aj 3) (dU ao)) aJ))))) (aA (cV 1 (aW (aa aJ (aa aJ (aa aJ aq)))))) aX) (au (bD (SW.st (gM (aM (fU hr aJ (aj 3))) (fZ (aM (qQ hr aJ (aj 3)))))) (aA (cV 1 (aW (aa aJ (aa ao (aa ao aq)))))) aX) (aA (aL (O5 T.sw (jC 1)))))))))
theorem G8 (F:fu Z t5 f fd)(T:Zq Z):fo Z t5 f fd:=by
 refine GL F zi [] [] [] λhr=>?_
 exact(au (mJ 1 zi.nd (He:=(aB ph)) (ON:=["form","endings"]) (N:=["part"]) (FH:=[none]) KW (eV 0) (bU (aj 0)) (λ_ _ _ _=>b8 0) (λ_ _ _ _=>fG (aM (bB hr (aG hr (aj 0) ao) aJ))) (λ_ _ _ _=>(aj 0))) (aA (aL (uF (aM (qt (bN T.gV (aj 1)) ao)) (aG hr (aj 1) ao) cX))))
theorem Hu (F:fu Z sf f fd)(T:A5 Z):fo Z sf f fd:=by
 refine GL F zv [] [] [] λhr=>?_
 exact(au (aR 1 zv.nd (aD T.B0 hr (aa (aj 0) aq))) (aA (aL (uF (aM (wV (aj 1) cX)) (SE.val (aZ (aa ao aq))) (SE.val (Pr T.pp T.pd (aG hr (aj 1) ao) (bM (aG hr (aj 1) ao) ao)))))))
theorem Hv (F:fu Z tT f fd)(T:Zq Z):fo Z tT f fd:=by
 refine GL F qh [] [] [] λhr=>?_
 exact(RQ (VJ 1 qh.nd (Aq (Aq (Aq VH)))) (Ar (yZ λ_ _ _=>(aR 2 qh.nd ao)) (Ar (yZ λ_ _ _=>(aR 3 qh.nd ao)) (Ar (XX [4] (λ_ _ _=>(bU (aj 0))) (λ_ _ _=>(d9 4 qh.nd)) (JP (Y8 (λ_ _ _=>(SW.st (yS (aM (bB hr (aG hr (aj 4) ao) aJ)) (vK (aM (bB hr (aG hr (aj 4) ao) aJ)))))) (JP (yZ λ_ _ _=>(aR 2 qh.nd (bM (aj 2) ao)))) (VG (yZ λ_ _ _=>(aR 3 qh.nd (bM (aj 3) ao))) (JP (X3 1 (λ_ _ _=>(aj 2)) (λ_ _ _=>(aW (aa (aj 3) (aa (aj 4) aq))))))))) bb) (RN (aA (aL (aj 1))))))))
theorem Nm (F:fu Z tF f fd)(T:AB Z):fo Z tF f fd:=by
 refine GL F wm [3] [3] [] λhr=>?_
 exact(au (aR 2 wm.nd (aD T.BU hr (aa (aj 0) aq))) (au (Ia 3 wm.nd (He:=(aB oR)) (ON:=Kl) (N:=["number","part"]) (FH:=[none,none]) KW (vO [0,1]) (bU (aG hr (aj 2) ao)) (λ_ _ _ _=>mF rfl (cH (b8 0) (cH (b8 1) jL))) (λ_ _ _ _=>bY) (λ_ _ _ _=>(aW (aa (aj 0) (aa (aj 1) (aa ao aq)))))) (au (cg [4] (QD T.pd ao (bM (aj 1) ao)) (d9 4 wm.nd) (aA (wZ 3 (SE.val (cu (He:=(aB oR)) (ON:=Kl) (N:=["number","part","turn"]) (FH:=[none,none,some 4]) KW (vO [0,1]) (bU (aG hr (aj 2) ao)) (λ_ _ _ _=>mF rfl (cH (b8 0) (cH (b8 1) jL))) (λ_ _ _ _=>bY) (λ_ _ _ _=>(aW (aa (aj 0) (aa (aj 1) (aa (aj 2) aq))))))))) bb) (aA (aL (SE.val (jD (jC 3) (cu (He:=(aB oR)) (ON:=Kl) (N:=["number","part"]) (FH:=[none,none]) KW (vO [0,1]) (bU (aG hr (aj 2) ao)) (λ_ _ _ _=>mF rfl (cH (b8 0) (cH (b8 1) jL))) (λ_ _ _ _=>bY) (λ_ _ _ _=>(aW (aa (aj 0) (aa (aj 1) (aa ao aq)))))))))))))
theorem Ku (F:fu Z tq f fd)(T:Au Z):fo Z tq f fd:=by
 refine GL F Ko [] [] [] λhr=>?_
 exact(au (bD (aM (wV (aj 0) cX)) (aA (aL cX)) aX) (aA (aL (aW (aa (aj 0) (aa (uF (di (aD T.pT hr (aa (aj 0) aq))) (aj 1) ao) aq))))))
theorem Ds (F:fu Z se f fd)(T:AV Z):fo Z se f fd:=by
 refine GL F qk [2,3] [3] [] λhr=>?_
 exact(au (cF 2 qk.nd (aZ aq)) (au (cF 3 qk.nd Jx) (au (cg [4,5,6,7] (bU (aD T.BO hr (aa (aj 0) (aa (aj 1) aq)))) (vN (cP 4 qk.nd (cP 5 qk.nd (cP 6 qk.nd mj)))) (aA (bD (aM (bB hr (aG hr (aj 5) ao) aJ)) (au (rY 3 hr (aj 4) (bN T.gV (jC 2))) (aA (cV 2 (aW (aa (aG hr (aj 5) ao) (aa (aD T.BM hr (aa (aG hr (aj 5) ao) (aa (aj 6) aq))) (aa cX aq))))))) (au (aR 7 qk.nd (aG hr (jC 3) (aG hr (aj 5) ao))) (aA (cV 2 (aW (aa (aG hr (aG hr (jC 2) (aj 7)) ao) (aa cX (aa (aj 7) aq))))))))) bb) (cY (G1:=[3]) (aA (aL (aj 2)))))))
theorem G9 (F:fu Z sF f fd)(T:Zq Z):fo Z sF f fd:=by
 refine GL F wc [1] [] [] λhr=>?_
 exact(au (cF 1 wc.nd (aZ aq)) (au (cg [2,3] (oZ T.pd (bN T.gV (aj 0))) (d9 2 wc.nd) (au (mJ 3 wc.nd (He:=(aB pq)) (ON:=["_law_rows","_law_found","_law_k","_law_some"]) (N:=["_law_j","_law_rows","_law_k"]) (FH:=[none,some 0,some 2]) KW (eV 0) (oZ T.pd (aj 2)) (λ_ _ _ _=>b8 0) (λ_ _ _ _=>fG (SW.st (gM (aM (lG (aG hr (aG hr (aj 1) (aj 2)) ao) cX)) (fZ (aM (bB hr (aG hr (aG hr (aj 1) (aj 0)) ao) (aG hr (aG hr (aj 1) (aj 2)) ao))))))) (λ_ _ _ _=>(aj 0))) (aA (bD (aM (lG (aG hr (aG hr (aj 0) (aj 2)) ao) cX)) (aA (cV 1 (aG hr (jC 1) (aG hr (aG hr (aj 0) (aj 2)) ao)))) (aA (bD (aM (gZ hr (aj 3) (aZ aq))) (aA (cV 1 (aG hr (jC 1) (aG hr (aj 3) ao)))) (aA (cV 1 (aj 2)))))))) bb) (cY (G1:=[]) (aA (aL (aj 1))))))
theorem Bw (F:fu Z qA f fd)(T:Zq Z):fo Z qA f fd:=by
 refine GL F zd [] [] [] λhr=>?_
 exact(au (aR 2 zd.nd (aG hr (aZ (aa ao (aa ao (aa ao (aa ao (aa ao (aa ao (aa ao (aa ao aq))))))))) (cU (kj (aj 0) ao) ao))) (aA (aL (aG hr aJ (cU (bM (aj 0) (vI (aj 1) (aj 2))) ao)))))
theorem G_ (F:fu Z sT f fd)(T:Ap Z):fo Z sT f fd:=by
 refine GL F wf [5] [5] [] λhr=>?_
 exact(au (aR 4 wf.nd (aD T.pi hr (aa (aj 0) (aa (cU (aj 3) (aj 1)) aq)))) (au (cF 5 wf.nd (aZ (aa aJ (aa (aD T.pi hr (aa (aj 0) (aa ao aq))) (aa (bM (aj 4) (aD T.pi hr (aa (aj 0) (aa ao aq)))) aq))))) (au (cV 5 (bM (bM (aD T.pi hr (aa (aj 0) (aa ao aq))) (aj 4)) (aD T.pi hr (aa (aj 0) (aa ao aq))))) (au (aR 6 wf.nd (bM (aD T.pi hr (aa (aj 0) (aa (bM ao (cU (aj 2) ao)) aq))) (aD T.pi hr (aa (aj 0) (aa (bM ao (kj (aj 2) ao)) aq))))) (aA (aL (bM (bM (aG hr (jC 5) (cU (kj (aj 3) ao) ao)) (aD T.pi hr (aa (aj 0) (aa (cU (aj 2) (aj 1)) aq)))) (aj 6))))))))
theorem Hw (F:fu Z sM f fd)(T:Zq Z):fo Z sM f fd:=by
 refine GL F Hs [] [] [] λhr=>?_
 exact(aA (aL (cU (bM (vI (cU (aj 0) ao) (bM ao (vI (vI ao (aj 1)) (aj 1)))) (vI ao (aj 1))) ao)))
theorem Ha (F:fu Z sP f fd)(T:zI Z):fo Z sP f fd:=by
 refine GL F xA [5] [] [] λhr=>?_
 exact(au (cF 5 xA.nd (aZ aq)) (au (cg [6] (oZ T.pd (bN T.gV (aj 2))) (d9 6 xA.nd) (aA (bD (aM (lG (aG hr (aG hr (aj 2) (aj 6)) ao) cX)) (aA (cV 5 (SE.val (Ak T.pp (aG hr (jC 5) (aG hr (aG hr (aj 2) (aj 6)) ao)))))) (aA (cV 5 (SE.val (aZ (aa (aD T.BG hr (aa (aj 0) (aa (aj 1) (aa (aG hr (aj 3) (aj 6)) (aa (aD T.BA hr (aa (aj 4) (aa (aj 6) aq))) aq))))) aq))))))) bb) (cY (G1:=[]) (aA (aL (aj 5))))))
theorem xK (F:fu Z vk f fd)(T:Zq Z):fo Z vk f fd:=by
 refine GL F zl [] [] [] λhr=>?_
 exact(aA (cg [2] (bU (aj 1)) (d9 2 zl.nd) (aA (bD (SW.st (gM (aM (bB hr (aG hr (aj 2) ao) aJ)) (fZ (aM (qQ hr (aG hr (aj 2) ao) (aj 0)))))) (aA O1) aX)) bb))
theorem yI (F:fu Z vj f fd)(T:AW Z):fo Z vj f fd:=by
 refine GL F xI [] [] [] λhr=>?_
 exact(au (cg [2,3] (bU (aD T.w8 hr (aa (aj 0) aq))) (d9 2 xI.nd) (au (aR 3 xI.nd (aD T.wT hr (aa (aj 0) (aa (aj 2) aq)))) (aA (bD (aM (bB hr (bN T.gV (aj 3)) (aj 1))) (aA (aL (aj 3))) aX))) bb) (aA (aL cX)))
theorem wL (F:LB Z.K "carries" "Tongue.carries" j9 f fd)(T:Zq Z):GY Z.P Z.w Z.K Z.mg Z.base MS 1 f fd ["self","letter"] (Kx ⟨Z.K,Z.cl⟩ aV false):=by
 refine GL F wI [] [] [] λhr=>?_
 exact(aA (aL (bQ (fU hr (aj 1) (je (c:=0) T.FC T.GG (aj 0))))))
theorem Kv (F:fu Z u7 f fd)(T:AO Z):fo Z u7 f fd:=by
 refine GL F Kq [] [] [] λhr=>?_
 exact(au (bD (SW.st (yS (qR (di (RT L6 T.rS T.ss T.sv PyProof.Rows.boot_str (aj 1)))) (vK (aM (qt (bN T.gV (aj 1)) (Ju T.rl)))))) (aA (aL jt)) aX) (aA (aL (dZ (mH T.pj (cu (He:=(aB pR)) (ON:=["tongue","thing"]) (N:=["sign"]) (FH:=[none]) KW (eV 0) (bU (aj 1)) (λ_ _ _ _=>b8 0) (λ_ _ _ _=>bY) (λ_ _ _ _=>(aD T.pT hr (aa (aj 0) aq))))) (eU (Vm T.so (cu (He:=(aB pR)) (ON:=["tongue","thing"]) (N:=["sign","tongue"]) (FH:=[none,some 0]) KW (eV 0) (bU (aj 1)) (λ_ _ _ _=>b8 0) (λ_ _ _ _=>bY) (λ_ _ _ _=>(gf (c:=0) T.pw T.FC hr (aj 1) (aa (aj 0) aq))))))))))
theorem xM (F:fu Z qB f fd)(T:AX Z):fo Z qB f fd:=by
 refine GL F xF [] [] [] λhr=>?_
 exact(aA (bD (qR (di (aD T.Cc hr (aa (aj 0) (aa (aj 1) aq))))) (aA O1) aX))
theorem Hb (F:fu Z vx f fd)(T:Zq Z):fo Z vx f fd:=by
 refine GL F q0 [1] [] [] λhr=>?_
 exact(au (cF 1 q0.nd (aZ aq)) (au (cg [2,3,4,5] (uJ T.pE (aj 0)) (vN (cP 2 q0.nd (cP 3 q0.nd mj))) (au (cV 1 (aW (aa (aj 2) (aa ao (aa ao aq))))) (aA (cg [4,5] (uJ T.pE (aG hr (aj 3) ao)) (vN (cP 4 q0.nd (cP 5 q0.nd mj))) (aA (wZ 1 (SE.val (cu (He:=(aB pA)) (ON:=["metre","states","slot","told","number","pattern"]) (N:=["at","slot","number"]) (FH:=[none,some 2,some 4]) KW (eV 0) (QD T.pd ao (bN T.gV (aj 5))) (λ_ _ _ _=>b8 0) (λ_ _ _ _=>bY) (λ_ _ _ _=>(aW (aa (aj 1) (aa (aj 2) (aa (aj 0) aq))))))))) bb))) bb) (cY (G1:=[]) (aA (aL (aj 1))))))
theorem Hc (F:fu Z r0 f fd)(T:Zq Z):fo Z r0 f fd:=by
 refine GL F GX [] [] [] λhr=>?_
 exact(aA (aL (aW (aa (bN T.gV (aj 0)) (aa ao (aa ao aq))))))
theorem zZ (F:fu Z vw f fd)(T:Zq Z):fo Z vw f fd:=by
 refine GL F xL [] [] [] λhr=>?_
 exact(au (aR 3 xL.nd (aG hr (aj 1) ao)) (au (aR 4 xL.nd (bM (aG hr (aj 1) ao) ao)) (au (bD (aM (Jw (aj 4) (bN T.gV (aG hr (aG hr (aG hr (aj 0) (aj 3)) ao) (aG hr (aj 1) ao))))) (aA (aL (aW (aa (aj 3) (aa (aG hr (aj 1) ao) (aa (aj 4) aq)))))) aX) (au (bD (SW.st (gM (di (aG hr (aG hr (aj 0) (aj 3)) ao)) (fZ (qR (di (aj 2)))))) (aA (aL cX)) aX) (aA (aL (aW (aa (bM (aj 3) ao) (aa ao (aa ao aq))))))))))
theorem Du (F:fu Z vv f fd)(T:Zq Z):fo Z vv f fd:=by
 refine GL F Dl [] [] [] λhr=>?_
 exact(aA (aL (DP (bQ (bB hr (aj 0) (aj 1))) (eU (bQ (bB hr (aj 0) aJ))))))
theorem Hx (F:fu Z vc f fd)(T:AT Z):fo Z vc f fd:=by
 refine GL F pz [8] [] [] λhr=>?_
 exact(au (bD (aM (bB hr (aj 1) (aD T.wv hr (aa (aj 0) aq)))) (aA (aL (SE.val (aZ aq)))) aX) (au (aR 4 pz.nd (aG hr (aj 1) ao)) (au (aR 5 pz.nd (aG hr (aj 1) ao)) (au (aR 6 pz.nd (aG hr (aG hr (aj 0) (aj 4)) ao)) (au (aR 7 pz.nd (uF (aM (bB hr (aj 5) ao)) (SE.val (Pa T.pp T.pd (bN T.gV (aj 6)))) (SE.val (aZ (aa (aG hr (aj 1) ao) aq))))) (au (cF 8 pz.nd (aZ aq)) (au (cg [9,10] (bU (aj 7)) (d9 9 pz.nd) (au (aR 10 pz.nd (aD T.CL hr (aa (aj 0) (aa (aW (aa (aj 4) (aa (aj 9) (aa (aj 5) aq)))) (aa (aj 3) aq))))) (aA (bD (SW.st (gM (aM (lG (aj 10) cX)) (fZ (di (aD T.CI hr (aa (aG hr (aG hr (aj 6) (aj 9)) (aj 5)) (aa (aj 2) aq))))))) (aA (cV 8 (aW (aa (aj 9) (aa (aj 10) aq))))) aX))) bb) (cY (G1:=[]) (aA (aL (aj 8)))))))))))
theorem Hy (F:fu Z vF f fd)(T:A2 Z):fo Z vF f fd:=by
 refine GL F xS [3] [] [] λhr=>?_
 exact(au (cF 3 xS.nd (aZ aq)) (au (cg [4] (bU (aD T.CM hr (aa (aj 0) aq))) (d9 4 xS.nd) (aA (wZ 3 (SE.val (cu (He:=(aB qH)) (ON:=["metre","mark","ends","steps","state"]) (N:=["pattern","reached","state"]) (FH:=[none,none,some 4]) KW (vO [0,1]) (bU (aD T.Co hr (aa (aj 0) (aa (aj 4) (aa (aj 1) (aa (aj 2) aq)))))) (λ_ _ _ _=>mF rfl (cH (b8 0) (cH (b8 1) jL))) (λ_ _ _ _=>bY) (λ_ _ _ _=>(aW (aa (aj 2) (aa (aj 1) aq)))))))) bb) (cY (G1:=[]) (aA (aL (aj 3))))))
theorem Hd (F:fu Z tj f fd)(T:As Z):fo Z tj f fd:=by
 refine GL F wl [1] [] [] λhr=>?_
 exact(au (cF 1 wl.nd Jy) (au (cg [2,3] (bU (aW (aa aJ (aa aJ aq)))) (d9 2 wl.nd) (aA (cg [3] (bU (aW (aa jt (aa jt aq)))) (d9 3 wl.nd) (aA (rY 1 hr (aW (aa (aj 2) (aa (aj 3) aq))) (aD T.CU hr (aa (aj 0) (aa (aj 2) (aa (aj 3) aq)))))) bb)) bb) (cY (G1:=[]) (aA (aL (aj 1))))))
theorem Hf (F:fu Z wb f fd)(T:Zq Z):fo Z wb f fd:=by
 refine GL F GZ [] [] [] λhr=>?_
 exact(aA (aL (uF (aM (wV (aj 1) cX)) (SE.val (cu (He:=(aB pB)) (ON:=["steps","option","ends","states"]) (N:=["state"]) (FH:=[none]) KW (eV 0) (X6 (aj 3)) (λ_ _ _ _=>b8 0) (λ_ _ _ _=>bY) (λ_ _ _ _=>(aW (aa (aj 0) (aa (aj 0) aq)))))) (aG hr (aj 0) (aW (aa (aG hr (aj 1) ao) (aa (aj 2) aq)))))))
theorem z7 (F:fu Z tI f fd)(T:AC Z):fo Z tI f fd:=by
 refine GL F sm [4] [] [] λhr=>?_
 exact(au (cF 4 sm.nd Jy) (au (cg [5,6,7] (bU (aj 1)) (d9 5 sm.nd) (aA (cg [6,7] (bU (aD T.C2 hr (aa (aj 0) (aa (aj 5) (aa (aj 2) (aa (aj 3) aq)))))) (vN (cP 6 sm.nd (cP 7 sm.nd mj))) (aA (bD (aM (fU hr (aj 7) (aj 3))) (aA (rY 4 hr (aj 6) (bM (RW hr (jC 4) (aj 6) ao) (aG hr (aj 3) (aj 7))))) aX)) bb)) bb) (cY (G1:=[]) (aA (aL (aj 4))))))
theorem Dv (F:fu Z ve f fd)(T:Zq Z):fo Z ve f fd:=by
 refine GL F xE [1] [] [] λhr=>?_
 exact(au (cF 1 xE.nd (aZ aq)) (au (cg [2] (bU (aj 0)) (d9 2 xE.nd) (aA (wZ 1 (aj 2))) bb) (cY (G1:=[]) (aA (aL (aj 1))))))
theorem Kw (F:fu Z t9 f fd)(T:Zq Z):fo Z t9 f fd:=by
 refine GL F xC [1] [] [] λhr=>?_
 exact(au (cF 1 xC.nd (aZ aq)) (au (cg [2] (bU (aj 0)) (d9 2 xC.nd) (aA (wZ 1 (SE.val (jD (Vu (aZ (aa jt aq)) (LQ (bN T.gV (aj 2)) ao)) (aZ (aa jt aq)))))) bb) (cY (G1:=[]) (aA (aL (aj 1))))))
theorem ux (F:fu Z tJ f fd)(T:AD Z):fo Z tJ f fd:=by
 refine GL F qf [4] [4] [] λhr=>?_
 exact(au (aR 2 qf.nd (aD T.BH hr (aa (aj 1) aq))) (au (aR 3 qf.nd (SE.val (V0 hr (aD T.wv hr (aa (aj 1) aq)) ao))) (au (cF 4 qf.nd (aZ (aa (aj 3) aq))) (au (cg [5,6] (Vy T.re (Pz T.pp T.pS (aD T.Cs hr (aa (aj 0) aq)) (aD T.B4 hr (aa (aj 0) aq))) (by simp)) (vN (cP 5 qf.nd (cP 6 qf.nd mj))) (au (aR 3 qf.nd (aD T.BQ hr (aa (aj 2) (aa (aj 5) (aa (aj 6) (aa (aj 3) aq)))))) (aA (cV 4 (aj 3)))) bb) (aA (aL (SE.val (Pb T.pp T.re (jC 4)))))))))
theorem yJ (F:fu Z vb f fd)(T:AS Z):fo Z vb f fd:=by
 refine GL F yG [] [] [] λhr=>?_
 exact(aA (aL (R3 hr (aG hr (aD T.BS hr (aa (aj 0) (aa (aj 1) aq))) ao) (Qz T.rL (T.xw)) ao)))
theorem wM (F:LB Z.K "is_pair" "Tongue.is_pair" j_ f fd)(T:Zq Z):GY Z.P Z.w Z.K Z.mg Z.base MS 1 f fd ["self","pair"] (Kx ⟨Z.K,Z.cl⟩ dM false):=by
 refine GL F wJ [] [] [] λhr=>?_
 exact(aA (aL (bQ (fU hr (aj 1) (je (c:=0) T.FC T.IM (aj 0))))))
theorem Hz (F:fu Z si f fd)(T:A6 Z):fo Z si f fd:=by
 refine GL F sn [2] [] [] λhr=>?_
 exact(au (yW (aD T.rg hr (aa (aj 0) (aa (aj 1) aq)))) (au (cF 2 sn.nd (aZ aq)) (au (aR 3 sn.nd ao) (au (Rz 1000000 [4] (aM (Jw (aj 3) (bN T.gV (aj 1)))) (au (aR 4 sn.nd (uF (di (gf (c:=0) T.Fa T.FC hr (aj 0) (aa (dg (aj 1) (bH (aj 3)) (bH (bM (aj 3) ao))) aq))) ao ao)) (au (cV 2 (dg (aj 1) (bH (aj 3)) (bH (bM (aj 3) (aj 4))))) (aA (aR 3 sn.nd (bM (aj 3) (aj 4)))))) bb) (cY (G1:=[]) (aA (aL (aj 2))))))))
theorem Bx (F:fu Z tw f fd)(T:AA Z):fo Z tw f fd:=by
 refine GL F Bq [] [] [] λhr=>?_
 exact(aA (aL (SE.val (cu (He:=(aB lF)) (ON:=["tongue","units"]) (N:=["unit","tongue"]) (FH:=[none,some 0]) KW (eV 0) (bU (aj 1)) (λ_ _ _ _=>b8 0) (λ_ _ _ _=>fG (di (gf (c:=0) T.pw T.FC hr (aj 1) (aa (aG hr (aj 0) ao) aq)))) (λ_ _ _ _=>(aj 0))))))
theorem Ky (F:fu Z uj f fd)(T:AI Z):fo Z uj f fd:=by
 refine GL F xD [2] [] [] λhr=>?_
 exact(au (cF 2 xD.nd (aZ (aa aJ aq))) (au (cg [3] (bU (aj 1)) (d9 3 xD.nd) (aA (bD (di (gf (c:=0) T.pw T.FC hr (aj 0) (aa (aG hr (aj 3) ao) aq))) (aA (cV 2 aJ)) (aA (rY 2 hr (dU ao) (bM (aG hr (jC 2) (dU ao)) (aj 3)))))) bb) (cY (G1:=[]) (aA (aL (aj 2))))))
theorem xN (F:LB Z.K "splits" "Tongue.splits" lY f fd)(T:Zq Z):GY Z.P Z.w Z.K Z.mg Z.base MS 1 f fd ["self","cluster"] (Kx ⟨Z.K,Z.cl⟩ dm false):=by
 refine GL F xG [] [] [] λhr=>?_
 exact(aA (aL (bQ (fU hr (aj 1) (je (c:=0) T.FC T.ID (aj 0))))))
theorem xO (F:LB Z.K "begins" "Tongue.begins" lZ f fd)(T:Zq Z):GY Z.P Z.w Z.K Z.mg Z.base MS 1 f fd ["self","cluster"] (Kx ⟨Z.K,Z.cl⟩ fM false):=by
 refine GL F xH [] [] [] λhr=>?_
 exact(aA (aL (bQ (fU hr (aj 1) (je (c:=0) T.FC T.IC (aj 0))))))
theorem Kz (F:fu Z vE f fd)(T:A0 Z):fo Z vE f fd:=by
 refine GL F zo [] [] [] λhr=>?_
 exact(au (bD (di (gf (c:=0) T.xp T.FC hr (aj 0) (aa (aj 1) aq))) (aA (aL aJ)) aX) (au (cg [2] (oZ T.pd (bN T.gV (aj 1))) (d9 2 zo.nd) (aA (bD (di (gf (c:=0) T.E9 T.FC hr (aj 0) (aa (dg (aj 1) (bH (aj 2)) cG) aq))) (aA (aL (dg (aj 1) cG (bH (aj 2))))) aX)) bb) (aA (aL (dg (aj 1) cG (bH (dU ao)))))))
theorem z8 (F:fu Z vS f fd)(T:A3 Z):fo Z vS f fd:=by
 refine GL F pr [5] [] [] λhr=>?_
 exact(au (aR 2 pr.nd (aD T.w9 hr (aa (aj 0) (aa (aj 1) aq)))) (au (aR 3 pr.nd (aD T.BN hr (aa (aj 0) (aa (aj 2) aq)))) (au (aR 4 pr.nd (aD T.B7 hr (aa (aj 0) (aa (aj 2) aq)))) (au (cF 5 pr.nd (aZ aq)) (au (aR 6 pr.nd (aG hr (aj 4) ao)) (au (cg [7,8,9] (Ft T.pS (dg (aj 3) cG (bH (dU ao))) (dg (aj 4) (bH ao) (bH (dU ao))) (by simp) (by simp)) (vN (cP 7 pr.nd (cP 8 pr.nd mj))) (au (aR 9 pr.nd (aD T.CO hr (aa (aj 0) (aa (aj 8) aq)))) (au (cV 5 (aW (aa (aj 6) (aa (aj 7) (aa (aj 9) (aa (gf (c:=0) T.xp T.FC hr (aj 0) (aa (aj 8) aq)) aq)))))) (aA (aR 6 pr.nd (dg (aj 8) (bH (bN T.gV (aj 9))) cG))))) bb) (au (cV 5 (aW (aa (aj 6) (aa (aG hr (aj 3) (dU ao)) (aa (aG hr (aj 4) (dU ao)) (aa jt aq)))))) (cY (G1:=[]) (aA (aL (aj 5)))))))))))
theorem xP (F:LB Z.K "weight" "Tongue.weight" l_ f fd)(T:Zq Z):GY Z.P Z.w Z.K Z.mg Z.base MS 1 f fd ["self","carrier"] (Kx ⟨Z.K,Z.cl⟩ fO false):=by
 refine GL F xJ [] [] [] λhr=>?_
 exact(au (bD (aM (fU hr (aj 1) (je (c:=0) T.FC T.KU (aj 0)))) (aA (aL aJ)) aX) (au (bD (aM (fU hr (aj 1) (je (c:=0) T.FC T.JO (aj 0)))) (aA (aL aJ)) aX) (aA (aL aJ))))
theorem KC (F:LB Z.K "ways_of" "ways_of" wG f fd)(T:A7 Z):GY Z.P Z.w Z.K Z.mg Z.base MS 2 f fd ["tongue","carrier","tail","split"] (Kx ⟨Z.K,Z.cl⟩ eO true):=by
 refine GL F yb [5] [5] [] λhr=>?_
 exact(au (bD (aM (gZ hr (aj 2) aJ)) (aA (Vo (aZ (aa (aW (aa ao (aa aJ aq))) aq)))) aX) (au (aR 4 yb.nd (gf (c:=0) T.Fc T.FC hr (aj 0) (aa (aj 1) aq))) (au (cF 5 yb.nd (aZ aq)) (au (bD (aM (gZ hr (aj 4) aJ)) (aA (cV 5 (aW (aa ao (aa aJ aq))))) aX) (au (bD (aM (gZ hr (aj 4) aJ)) (aA (cV 5 (aW (aa ao (aa aJ aq))))) aX) (au (bD (di (aj 3)) (aA (cV 5 (aW (aa ao (aa aJ aq))))) aX) (aA (Vp 5))))))))
theorem By (F:LB Z.K "run" "Tongue.run" qb f fd)(T:Zq Z):GY Z.P Z.w Z.K Z.mg Z.base MS 1 f fd ["self"] (Kx ⟨Z.K,Z.cl⟩ jX false):=by
 refine GL F Br [] [] [] λhr=>?_
 exact(aA (aL (je (c:=0) T.FC T.JU (aj 0))))
theorem Hg (F:fu Z va f fd)(T:AQ Z):fo Z va f fd:=by
 refine GL F zk [3] [] [] λhr=>?_
 exact(au (bD (aM (gZ hr (aj 2) aJ)) (aA (aL (SE.val (yo T.sx hr (aa (aj 0) (aa (aj 1) (aa (dg (aj 2) cG (bH (dU ao))) (aa jt aq)))))))) aX) (au (bD (aM (bB hr (Ck (c:=0) T.y8 T.FC hr (aj 0)) aJ)) (aA (aL (SE.val (aZ (aa cX aq))))) aX) (au (cF 3 zk.nd (yo T.sx hr (aa (aj 0) (aa (aj 1) (aa (aj 2) (aa jt aq)))))) (au (bD (aM (bB hr (Ck (c:=0) T.y8 T.FC hr (aj 0)) aJ)) (aA (cV 3 cX)) aX) (cY (G1:=[]) (aA (aL (aj 3))))))))
theorem Dw (F:fu Z vi f fd)(T:AU Z):fo Z vi f fd:=by
 refine GL F wq [4] [] [] λhr=>?_
 exact(au (aR 3 wq.nd (aD T.CY hr (aa (aj 0) (aa (aj 1) aq)))) (au (Ia 4 wq.nd (He:=(aB nU)) (ON:=["tongue","word","follow","syllables","options","last"]) (N:=["head","carrier","tail","split","tongue"]) (FH:=[none,none,none,none,some 0]) KW (vO [0,1,2,3]) (bU (aj 3)) (λ_ _ _ _=>mF rfl (cH (b8 0) (cH (b8 1) (cH (b8 2) (cH (b8 3) jL))))) (λ_ _ _ _=>bY) (λ_ _ _ _=>(SE.val (yo T.sx hr (aa (aj 4) (aa (aj 1) (aa (aj 2) (aa (aj 3) aq)))))))) (au (bD (aM (wV (aj 2) cX)) (cY (G1:=[]) (aA (aL (aj 4)))) aX) (au (yW (aD T.rg hr (aa (aj 0) (aa (aj 2) aq)))) (au (bD (di (gf (c:=0) T.pw T.FC hr (aj 0) (aa (aG hr (aj 2) ao) aq))) (au (aR 5 wq.nd (aG hr (aj 3) (dU ao))) (aA (rY 4 hr (dU ao) (aD T.Ch hr (aa (aj 0) (aa (aG hr (aj 5) ao) (aa (aG hr (aj 5) ao) aq))))))) aX) (cY (G1:=[]) (aA (aL (aj 4)))))))))
theorem HB (F:fu Z vT f fd)(T:A4 Z):fo Z vT f fd:=by
 refine GL F zt [] [] [] λhr=>?_
 exact(au (aR 2 zt.nd (SE.val (jD (dg (aj 1) (bH ao) cG) (aZ (aa cX aq))))) (aA (aL (SE.val (cu (He:=(aB qI)) (ON:=["tongue","words","follows"]) (N:=["word","follow","tongue"]) (FH:=[none,none,some 0]) KW (vO [0,1]) (Ft T.pS (aj 1) (aj 2) (by simp) (by simp)) (λ_ _ _ _=>mF rfl (cH (b8 0) (cH (b8 1) jL))) (λ_ _ _ _=>bY) (λ_ _ _ _=>(aD T.Ct hr (aa (aj 2) (aa (aj 0) (aa (aj 1) aq))))))))))
theorem yK (F:fu Z t3 f fd)(T:Zq Z):fo Z t3 f fd:=by
 refine GL F zh [] [] [] λhr=>?_
 exact(au (aR 2 zh.nd (aG hr (aG hr (aj 0) (aj 1)) ao)) (aA (aL (uF (aM (wV (aj 2) cX)) (SE.val (aZ aq)) (SE.val (cu (He:=(aB jy)) (ON:=["plain","number","bond"]) (N:=["earlier","bond","plain"]) (FH:=[none,some 2,some 0]) KW (eV 0) (oZ T.pd (aj 1)) (λ_ _ _ _=>b8 0) (λ_ _ _ _=>fG (aM (bB hr (aG hr (aG hr (aj 2) (aj 0)) ao) (aj 1)))) (λ_ _ _ _=>(aj 0))))))))
theorem yL (F:LB Z.K "alike" "Tongue.alike" nY f fd)(T:Zq Z):GY Z.P Z.w Z.K Z.mg Z.base MS 1 f fd ["self","one","other"] (Kx ⟨Z.K,Z.cl⟩ eG false):=by
 refine GL F yH [] [] [] λhr=>?_
 exact(aA (aL (DP (bQ (bB hr (aj 1) (aj 2))) (DP (bQ (fU hr (aW (aa (aj 1) (aa (aj 2) aq))) (je (c:=0) T.FC T.IL (aj 0)))) (eU (bQ (fU hr (aW (aa (aj 2) (aa (aj 1) aq))) (je (c:=0) T.FC T.IL (aj 0)))))))))
theorem Dy (F:fu Z ua f fd)(T:AF Z):fo Z ua f fd:=by
 refine GL F Dm [] [] [] λhr=>?_
 exact(aA (aL (dZ (bQ (bB hr (bN T.gV (aj 1)) (bN T.gV (aj 2)))) (eU (mH T.pj (cu (He:=(aB nZ)) (ON:=["tongue","one","other"]) (N:=["unit","beside","tongue"]) (FH:=[none,none,some 0]) KW (vO [0,1]) (Ft T.pS (aj 1) (aj 2) (by simp) (by simp)) (λ_ _ _ _=>mF rfl (cH (b8 0) (cH (b8 1) jL))) (λ_ _ _ _=>bY) (λ_ _ _ _=>(gf (c:=0) T.E8 T.FC hr (aj 2) (aa (aj 0) (aa (aj 1) aq))))))))))
theorem Np (F:fu Z t4 f fd)(T:AE Z):fo Z t4 f fd:=by
 refine GL F xB [] [] [] λhr=>?_
 exact(au (aR 2 xB.nd (aD T.w9 hr (aa (aj 0) (aa (aj 1) aq)))) (au (aR 3 xB.nd (RV T.qo (cu (He:=(aB uZ)) (ON:=["tongue","word","units","last"]) (N:=["at","unit","tongue"]) (FH:=[none,none,some 0]) KW (vO [0,1]) (uJ T.pE (aj 2)) (λ_ _ _ _=>mF rfl (cH (b8 0) (cH (b8 1) jL))) (λ_ _ _ _=>fG (di (gf (c:=0) T.pw T.FC hr (aj 2) (aa (aG hr (aj 1) ao) aq)))) (λ_ _ _ _=>(aj 0))))) (aA (aL (dg (aj 2) (bH (aj 3)) cG)))))
theorem Nq (F:fu Z vn f fd)(T:AY Z):fo Z vn f fd:=by
 refine GL F Nk [] [] [] λhr=>?_
 exact(aA (aL (aD T.B5 hr (aa (aj 0) (aa (aD T.yi hr (aa (aj 0) (aa (aj 1) aq))) (aa (aD T.yi hr (aa (aj 0) (aa (aj 2) aq))) aq))))))
theorem BK (F:fu Z vt f fd)(T:AZ Z):fo Z vt f fd:=by
 refine GL F Bt [] [] [] λhr=>?_
 exact(aA (aL (dZ (bQ (qt (bN T.gV (aj 1)) ao)) (dZ (bQ (qt (bN T.gV (aj 2)) ao)) (eU (aD T.CF hr (aa (aj 0) (aa (aG hr (aj 1) (dU ao)) (aa (aG hr (aj 2) (dU ao)) aq)))))))))
theorem Hh (F:fu Z ub f fd)(T:AG Z):fo Z ub f fd:=by
 refine GL F qS [8] [] [] λhr=>?_
 exact(au (aR 5 qS.nd (aG hr (aj 3) (aj 4))) (au (aR 6 qS.nd (aG hr (aj 2) (aj 4))) (au (aR 7 qS.nd (aG hr (aj 6) ao)) (au (cF 8 qS.nd (aZ aq)) (au (bD (aM (bB hr (aD T.Cn hr (aa (aD T.C0 hr (aa (aj 0) (aa (aj 5) aq))) (aa (aG hr (aj 1) (aG hr (aj 6) ao)) aq))) ao)) (aA (cV 8 (aW (aa aJ (aa (aj 4) aq))))) aX) (au (mJ 9 qS.nd (He:=(aB pC)) (ON:=["tongue","metres","plain","poem","number","row","told","back","faults","unlike"]) (N:=["earlier","tongue","row","poem"]) (FH:=[none,some 0,some 5,some 3]) KW (eV 0) (bU (aD T.BY hr (aa (aj 2) (aa (aj 4) aq)))) (λ_ _ _ _=>b8 0) (λ_ _ _ _=>fG (qR (di (aD T.CH hr (aa (aj 1) (aa (aj 2) (aa (aG hr (aj 3) (aj 0)) aq))))))) (λ_ _ _ _=>(aj 0))) (au (bD (aM (qt (bN T.gV (aj 9)) ao)) (aA (cV 8 (aW (aa aJ (aa (aj 4) (aa (aG hr (aj 9) ao) aq)))))) aX) (au (bD (SW.st (gM (aM (lG (aj 7) cX)) (fZ (aM (gZ hr (aj 5) (aG hr (aj 3) (aj 7))))))) (aA (cV 8 (aW (aa aJ (aa (aj 4) (aa (aj 7) aq)))))) aX) (cY (G1:=[]) (aA (aL (aj 8))))))))))))
theorem Hi (F:fu Z ui f fd)(T:AH Z):fo Z ui f fd:=by
 refine GL F qV [7] [] [] λhr=>?_
 exact(au (yW (aD T.CB hr (aa (aj 1) (aa (aj 2) aq)))) (au (cg [4,5] (bU (aj 3)) (d9 4 qV.nd) (aA (cg [5] (bU (aj 4)) (d9 5 qV.nd) (aA (yW (aD T.rg hr (aa (aj 0) (aa (aj 5) aq))))) bb)) bb) (au (aR 6 qV.nd (aD T.CA hr (aa (aj 2) (aa (bN T.gV (aj 3)) aq)))) (au (bD (aM (wV (aj 6) cX)) (aA (aL (SE.val (aZ (aa (aW (aa aJ (aa (bN T.gV (aj 3)) aq))) aq))))) aX) (au (cF 7 qV.nd (aZ aq)) (au (cg [8] (oZ T.pd (bN T.gV (aj 3))) (d9 8 qV.nd) (aA (wZ 7 (aD T.B6 hr (aa (aj 0) (aa (aj 1) (aa (aj 6) (aa (aj 3) (aa (aj 8) aq)))))))) bb) (cY (G1:=[]) (aA (aL (aj 7))))))))))
theorem z9 (F:fu Z sR f fd)(T:zS Z):fo Z sR f fd:=by
 refine GL F qE [] [] [] λhr=>?_
 exact(au (aR 5 qE.nd (cU (kj (aj 4) ao) (bN T.gV (aj 2)))) (au (aR 6 qE.nd (aG hr (aG hr (aj 2) (aj 5)) ao)) (au (bD (aM (bB hr (cU (aj 4) ao) ao)) (au (aR 7 qE.nd (Im (bM (aD T.pi hr (aa (aj 0) (aa ao aq))) (aD T.pi hr (aa (aj 0) (aa ao aq)))) ao)) (aA (aL (aW (aa (SE.val (jD (jD (dg (aj 2) cG (bH (aj 5))) (aZ (aa (SE.val (aZ (aa (bM (aj 7) (dg (aj 6) (bH (dU ao)) cG)) aq))) aq))) (dg (aj 2) (bH (bM (aj 5) ao)) cG))) (aa (aj 3) (aa (aj 5) aq))))))) aX) (au (bD (aM (bB hr (cU (aj 4) ao) ao)) (au (aR 8 qE.nd (bM (aD T.pi hr (aa (aj 0) (aa (cU (kj (aj 4) ao) (aj 1)) aq))) (aD T.pi hr (aa (aj 0) (aa ao aq))))) (aA (aL (aW (aa (SE.val (jD (jD (dg (aj 2) cG (bH (aj 5))) (aZ (aa (SE.val (aZ (aa (aj 8) aq))) aq))) (dg (aj 2) (bH (bM (aj 5) ao)) cG))) (aa (SE.val (jD (jD (dg (aj 3) cG (bH (aj 5))) (aZ (aa (dU ao) aq))) (dg (aj 3) (bH (bM (aj 5) ao)) cG))) (aa (dU ao) aq))))))) aX) (au (aR 8 qE.nd (bM (Im (aD T.pi hr (aa (aj 0) (aa ao aq))) ao) (dg (aj 6) (bH (dU ao)) cG))) (aA (aL (aW (aa (SE.val (jD (jD (dg (aj 2) cG (bH (aj 5))) (aZ (aa (SE.val (aZ (aa (aj 8) aq))) aq))) (dg (aj 2) (bH (bM (aj 5) ao)) cG))) (aa (aj 3) (aa (dU ao) aq)))))))))))
theorem HD (F:fu Z sD f fd)(T:Zq Z):fo Z sD f fd:=by
 refine GL F sj [4] [] [] λhr=>?_
 exact(au (cF 4 sj.nd (aZ aq)) (au (cg [5,6] (oZ T.pd (bN T.gV (aj 0))) (d9 5 sj.nd) (au (bD (aM (bB hr (aj 5) (aj 3))) (aA (cV 4 (aW (aa aJ (aa (aj 5) aq))))) aX) (au (mJ 6 sj.nd (He:=(aB n_)) (ON:=QQ) (N:=["_law_j","_law_rows","_law_k"]) (FH:=[none,some 0,some 5]) KW (eV 0) (oZ T.pd (aj 5)) (λ_ _ _ _=>b8 0) (λ_ _ _ _=>fG (SW.st (gM (aM (lG (aG hr (aG hr (aj 1) (aj 2)) ao) cX)) (fZ (aM (bB hr (aG hr (aG hr (aj 1) (aj 0)) ao) (aG hr (aG hr (aj 1) (aj 2)) ao))))))) (λ_ _ _ _=>(aj 0))) (au (mJ 6 sj.nd (He:=(aB n_)) (ON:=QQ) (N:=["_law_j","_law_ends_here","_law_k"]) (FH:=[none,some 2,some 5]) KW (eV 0) (bU (aj 6)) (λ_ _ _ _=>b8 0) (λ_ _ _ _=>fG (aM (gZ hr (aG hr (aj 1) (aj 0)) (aG hr (aj 1) (aj 2))))) (λ_ _ _ _=>(aj 0))) (au (bD (aM (gZ hr (aj 6) (aZ aq))) (aA (cV 4 (aW (aa aJ (aa (aj 5) (aa (aG hr (aj 6) ao) aq)))))) aX) (aA (bD (SW.st (gM (aM (lG (aG hr (aG hr (aj 0) (aj 5)) ao) cX)) (fZ (aM (gZ hr (aG hr (aj 1) (aj 5)) (aG hr (aj 1) (aG hr (aG hr (aj 0) (aj 5)) ao))))))) (aA (cV 4 (aW (aa aJ (aa (aj 5) (aa (aG hr (aG hr (aj 0) (aj 5)) ao) aq)))))) aX)))))) bb) (cY (G1:=[]) (aA (aL (aj 4))))))
theorem W8 (F:fu Z xz f fd)(T:AR Z):fo Z xz f fd:=by
 refine GL F pf [9] [] [] λhr=>?_
 exact(au (aR 1 pf.nd (aD T.qr hr (aa (aj 0) (aa ao aq)))) (au (aR 2 pf.nd (bM ao (cU (aD T.qr hr (aa (aj 0) (aa ao aq))) ao))) (au (aR 3 pf.nd (SE.val (RL (c:=0) T.TC hr (aa (SE.val (aZ (aa (bM aJ (Ru aJ (cu (He:=(aB u0)) (ON:=["_law_script","_law_base","_law_many","_law_tongue","_law_form_here","_law_times","_law_rows","_law_ends_here","_law_poem_here","_law_metres","_law_k","_law_cut","_law_some","_law_cell","_law_other","_law_said","_law_long"]) (N:=["_law_k","_law_base"]) (FH:=[none,some 1]) KW (eV 0) (oZ T.pd (aj 2)) (λ_ _ _ _=>b8 0) (λ_ _ _ _=>bY) (λ_ _ _ _=>(aD T.pi hr (aa (aj 1) (aa (aj 0) aq))))))) aq))) aq)))) (au (aR 4 pf.nd (aD T.Bn hr (aa (dg (aj 0) (bH ao) (bH ao)) aq))) (au (aR 5 pf.nd (aD T.w8 hr (aa (aj 4) aq))) (au (aR 6 pf.nd (aD T.wT hr (aa (aj 4) (aa (aG hr (aj 5) (cU (aD T.qr hr (aa (aj 0) (aa ao aq))) (bN T.gV (aj 5)))) aq)))) (au (aR 7 pf.nd (aD T.Bi hr (aa (aj 6) aq))) (au (aR 8 pf.nd (aD T.BD hr (aa (aj 1) (aa (aj 2) (aa (aj 6) (aa (aj 7) (aa (aD T.qr hr (aa (aj 0) (aa ao aq))) aq))))))) (au (cF 9 pf.nd Jx) (au (cg [10,11,12] (oZ T.pd ao) (d9 10 pf.nd) (au (aR 11 pf.nd (bQ (bB hr (cU (kj (aD T.qr hr (aa (aj 0) (aa ao aq))) ao) ao) ao))) (au (aR 12 pf.nd (SE.val (aZ (aa (aW (aa aJ (aa aJ aq))) (aa (aW (aa aJ (aa aJ aq))) (aa (aW (aa aJ (aa aJ aq))) aq)))))) (aA (rY 9 hr (aD T.wt hr (aa (aj 10) aq)) (aW (aa (aW (aa (aG hr (aj 12) (cU (kj (aD T.qr hr (aa (aj 0) (aa ao aq))) (bM ao (aj 10))) ao)) (aa (aj 11) aq))) aq)))))) bb) (cY (G1:=[]) (au (bD (aM (gZ hr (aD T.wx hr (aa (aj 3) (aa (aj 9) (aa (aj 4) (aa (aj 8) aq))))) (aZ aq))) (aA (aL jt)) aX) (au (cg [13,14,15,16] (bU (dg (aj 0) (bH ao) (bH ao))) (d9 13 pf.nd) (aA (bD (aM (gZ hr (aj 8) (aZ aq))) (au (XR (aD T.BF hr (aa (aj 1) (aa (aj 2) (aa (aj 8) (aa (aj 7) (aa (aj 13) aq)))))) (vN (cP 14 pf.nd (cP 15 pf.nd (cP 16 pf.nd mj))))) (aA (bD (aM (gZ hr (aD T.wx hr (aa (aj 3) (aa (aj 9) (aa (aj 4) (aa (aj 14) aq))))) (aD T.A9 hr (aa (aj 6) (aa (aj 14) (aa (aj 15) (aa (aj 16) aq))))))) (aA (aL jt)) aX))) aX)) bb) (aA (aL (bQ (bB hr (aD T.wx hr (aa (aj 3) (aa (aj 9) (aa (aj 4) (aa (aj 8) aq))))) (aZ aq))))))))))))))))))
end
end
def Ef (K:W.Frag):Sp:=λvs H Q _=>∃(a:Addr) (ns:oQ),vs=[V.ref a]/\Y2 H/\F7 K H a (ns.map V.int)/\ns.length<=63/\∀J,Q (.bl true) J
theorem W9 {K:W.Frag}{cl:Nat->Addr}{vs:List V}{H:Hp}{Q:VK}{E:XK}(h:Ef K vs H Q E):Kx ⟨K,cl⟩ zG false vs H Q E:=by
 obtain⟨a,ns,rfl,ho,hs,hl,k⟩:=h
 have ri:FA ⟨K,cl⟩ (λ_=>True) H (ns.map V.int) (ns.map PV.int):=tY _ _ (λi=>.int i) ns
 refine⟨λ_=>True,[.frz (ns.map PV.int)],.bl true,.cons ?_ .nil,TB ns hl,λv H' s r=>?_⟩
 ·rcases hs with (hs | ⟨o,hs⟩) | hs
  ·rcases ho a with z | ⟨o,xs,z⟩
   ·rw[z] at hs;cases hs
   ·rw[z] at hs;cases hs
  ·exact .QY hs ri
  ·exact .lstK (.inr hs) ri
 ·cases r
  exact k _
structure Gf (K:W.Frag)(x:Str)(st:Stmt)(f:Addr)(fd:FuncData):Prop where
 a:W.nsIn K mainGlobals x=some (some (.ref f))
 F:LB K x x st f fd
theorem km {K:W.Frag}{h:Heap}{mg:Str->Option Value}{P:Program}{w:World}{base:Heap}{k:Nat}{x:Str}{ps:oP}{sp:Sp}{st:Stmt}{f:Addr}{fd:FuncData}(X:K.In h)(G:h.Ns mainGlobals mg)(F:Gf K x st f fd)(hb:Binds K fd ps [])(o:GY P w K mg base MS k f fd ps sp):XW P w K mg base k x ps sp:=U7 F.F (W.mg_of X G F.a) hb o
theorem all_mk {l:W.OpenLaw}{w:World}{K:W.Frag}{h:Heap}{mg:Str->Option Value}{fa:Addr}(X:K.In h)(G:h.Ns mainGlobals mg)(hfa:mg "law" = some (.ref fa))
  (aC_Tongue:W.nsIn K mainGlobals "Tongue" = some (some (.ref C_Tongue)))
  (F_0:Gf K "_law_cell_at" oO f_0 d_0)
  (F_1:Gf K "told_behind" p8 f_1 d_1)
  (F_2:Gf K "last_run" uT f_2 d_2)
  (F_3:Gf K "told_alike" rF f_3 d_3)
  (F_4:Gf K "is_letter" sZ f_4 d_4)
  (F_5:Gf K "is_carry_row" j5 f_5 d_5)
  (F_6:Gf K "is_pair_of" rG f_6 d_6)
  (F_7:Gf K "is_one_row" nO f_7 d_7)
  (F_8:Gf K "is_stop" wA f_8 d_8)
  (F_9:Gf K "are_alike_units" fP f_9 d_9)
  (F_10:Gf K "is_cluster" nP f_10 d_10)
  (F_11:Gf K "is_rule" pQ f_11 d_11)
  (a_12:W.findIn K (.ref C_Tongue) "__init__" = some (some (.ref f_12)))
  (i_12:W.isFn K (.ref f_12)=true)
  (F_12:LB K "__init__" "Tongue.__init__" dN f_12 d_12)
  (F_13:Gf K "_law_roots" rH f_13 d_13)
  (F_14:Gf K "_law_is_low" lE f_14 d_14)
  (F_15:Gf K "_law_name" tu f_15 d_15)
  (F_16:Gf K "_law_bond" tD f_16 d_16)
  (F_17:Gf K "_law_next" kZ f_17 d_17)
  (F_18:Gf K "_law_form" o_ f_18 d_18)
  (F_19:Gf K "ending_of" ph f_19 d_19)
  (F_20:Gf K "times_of" uU f_20 d_20)
  (F_21:Gf K "cut_form" uV f_21 d_21)
  (F_22:Gf K "coming" oR f_22 d_22)
  (F_23:Gf K "bond_in" wB f_23 d_23)
  (F_24:Gf K "plain_rows" rJ f_24 d_24)
  (F_25:Gf K "_law_ends" pq f_25 d_25)
  (F_26:Gf K "_law_letter" p_ f_26 d_26)
  (F_27:Gf K "_law_word" tE f_27 d_27)
  (F_28:Gf K "_law_mix" uW f_28 d_28)
  (F_29:Gf K "_law_poem" tG f_29 d_29)
  (F_30:Gf K "refuse_no_name" lW f_30 d_30)
  (F_31:Gf K "plain_rows_of" nQ f_31 d_31)
  (a_32:W.findIn K (.ref C_Tongue) "carries" = some (some (.ref f_32)))
  (i_32:W.isFn K (.ref f_32)=true)
  (F_32:LB K "carries" "Tongue.carries" j9 f_32 d_32)
  (F_33:Gf K "is_word" pR f_33 d_33)
  (F_34:Gf K "refuse_no_word" lX f_34 d_34)
  (F_35:Gf K "states_of" pA f_35 d_35)
  (F_36:Gf K "end_state" tH f_36 d_36)
  (F_37:Gf K "state_behind" oU f_37 d_37)
  (F_38:Gf K "stands_for" rK f_38 d_38)
  (F_39:Gf K "moves_of" uX f_39 d_39)
  (F_40:Gf K "steps_by" qH f_40 d_40)
  (F_41:Gf K "all_steps" tK f_41 d_41)
  (F_42:Gf K "walked_by" pB f_42 d_42)
  (F_43:Gf K "counts_ahead" oV f_43 d_43)
  (F_44:Gf K "options_in" rM f_44 d_44)
  (F_45:Gf K "ends_in" wC f_45 d_45)
  (F_46:Gf K "counts_by_syllable" jd f_46 d_46)
  (F_47:Gf K "many_readings" nR f_47 d_47)
  (a_48:W.findIn K (.ref C_Tongue) "is_pair" = some (some (.ref f_48)))
  (i_48:W.isFn K (.ref f_48)=true)
  (F_48:LB K "is_pair" "Tongue.is_pair" j_ f_48 d_48)
  (F_49:Gf K "units_of" uY f_49 d_49)
  (F_50:Gf K "carriers_of" lF f_50 d_50)
  (F_51:Gf K "gaps_of" wD f_51 d_51)
  (a_52:W.findIn K (.ref C_Tongue) "splits" = some (some (.ref f_52)))
  (i_52:W.isFn K (.ref f_52)=true)
  (F_52:LB K "splits" "Tongue.splits" lY f_52 d_52)
  (a_53:W.findIn K (.ref C_Tongue) "begins" = some (some (.ref f_53)))
  (i_53:W.isFn K (.ref f_53)=true)
  (F_53:LB K "begins" "Tongue.begins" lZ f_53 d_53)
  (F_54:Gf K "staying" wF f_54 d_54)
  (F_55:Gf K "syllables_of" oW f_55 d_55)
  (a_56:W.findIn K (.ref C_Tongue) "weight" = some (some (.ref f_56)))
  (i_56:W.isFn K (.ref f_56)=true)
  (F_56:LB K "weight" "Tongue.weight" l_ f_56 d_56)
  (F_57:Gf K "ways_of" wG f_57 d_57)
  (a_58:W.findIn K (.ref C_Tongue) "run" = some (some (.ref f_58)))
  (i_58:W.isFn K (.ref f_58)=true)
  (F_58:LB K "run" "Tongue.run" qb f_58 d_58)
  (F_59:Gf K "last_ways" tL f_59 d_59)
  (F_60:Gf K "options_of" nU f_60 d_60)
  (F_61:Gf K "table_of" qI f_61 d_61)
  (F_62:Gf K "earlier_bound" jy f_62 d_62)
  (a_63:W.findIn K (.ref C_Tongue) "alike" = some (some (.ref f_63)))
  (i_63:W.isFn K (.ref f_63)=true)
  (F_63:LB K "alike" "Tongue.alike" nY f_63 d_63)
  (F_64:Gf K "ends_rhyme" nZ f_64 d_64)
  (F_65:Gf K "end_of" uZ f_65 d_65)
  (F_66:Gf K "rhymes" yF f_66 d_66)
  (F_67:Gf K "rhymes_with" qd f_67 d_67)
  (F_68:Gf K "faults_in" pC f_68 d_68)
  (F_69:Gf K "faults_of" tQ f_69 d_69)
  (F_70:Gf K "_law_spoiled" oX f_70 d_70)
  (F_71:Gf K "_law_due" n_ f_71 d_71)
  (F_72:Gf K "law" u0 f_72 d_72)
  (pg_Tongue:W.plainGet K C_Tongue Str.empty=true)
  (hd_Tongue:W.hasDictIn K C_Tongue=true)
  (po_Tongue:W.plainOver K C_Tongue=true)
  (sa_Tongue:W.findIn K (.ref C_Tongue) "__setattr__" = some (some (.builtin "object.__setattr__")))
  (mk_Tongue:W.makesIn K C_Tongue=true)
  (kc_Tongue:W.keepIn K (.ref C_Tongue)=true)
  (nf_Tongue_beginnings:W.findIn K (.ref C_Tongue) "beginnings" = some none)
  (nf_Tongue_carrying:W.findIn K (.ref C_Tongue) "carrying" = some none)
  (nf_Tongue_eithers:W.findIn K (.ref C_Tongue) "eithers" = some none)
  (nf_Tongue_likes:W.findIn K (.ref C_Tongue) "likes" = some none)
  (nf_Tongue_longs:W.findIn K (.ref C_Tongue) "longs" = some none)
  (nf_Tongue_pairs:W.findIn K (.ref C_Tongue) "pairs" = some none)
  (nf_Tongue_running:W.findIn K (.ref C_Tongue) "running" = some none)
  (nf_Tongue_splittings:W.findIn K (.ref C_Tongue) "splittings" = some none)
  (pj:W.nsIn K mainGlobals "all" = some none)
  (so:W.nsIn K mainGlobals "any" = some none)
  (pE:W.nsIn K mainGlobals "enumerate" = some none)
  (ss:W.nsIn K mainGlobals "isinstance" = some none)
  (gV:W.nsIn K mainGlobals "len" = some none)
  (pp:W.nsIn K mainGlobals "list" = some none)
  (qo:W.nsIn K mainGlobals "max" = some none)
  (pd:W.nsIn K mainGlobals "range" = some none)
  (re:W.nsIn K mainGlobals "reversed" = some none)
  (sv:W.nsIn K mainGlobals "str" = some none)
  (sw:W.nsIn K mainGlobals "tuple" = some none)
  (pS:W.nsIn K mainGlobals "zip" = some none)
  (rh:W.nsIn K mainGlobals "LEAST_STOPS" = some (some (.int 2 I0)))
  (rk:W.nsIn K mainGlobals "LETTERS" = some (some (.str "abcdefghijklmnopqrstuvwxyz" L9)))
  (rl:W.nsIn K mainGlobals "MOST_LETTERS" = some (some (.int 24 IJ)))
  (rp:W.nsIn K mainGlobals "MOST_STOPS" = some (some (.int 4 Kb)))
  (rq:W.nsIn K mainGlobals "RUNS" = some (some (.ref Mb)))
  (xl:K.lookup Mb=some ⟨.type "tuple",o_RUNS,.seq #[.str "never" t_RUNS_0,.str "may" t_RUNS_1,.str "must" t_RUNS_2] n_RUNS,sl_RUNS⟩)
  (rL:W.nsIn K mainGlobals "START" = some (some (.ref K0)))
  (xo:K.lookup K0=some ⟨.type "tuple",o_START,.seq #[.int 0 t_START_0,.int 0 t_START_1,.int 0 t_START_2] n_START,sl_START⟩)
  (rS:∀t k,(t,k)∈L6->W.kitOne K (.type t) (.type "str")=some k):
  ∃fd:FuncData,(∀(s:Shared) (v:Value),BindsTo s fd ⟨[v],[]⟩ [("_law_script",v)])/\∀base:Heap,K.In base->base.Ns mainGlobals mg->GY l.prog w K mg base MS 10 fa fd ["_law_script"] (Ef K):=by
 have mo {x:Str}{v:Value}(h:W.nsIn K mainGlobals x=some (some v)):mg x=some v:=W.mg_of X G h
 have e:=hfa.symm.trans (mo F_72.a)
 cases e
 obtain⟨_,_,kV_72,dc_72,pm_72,an_72,cd_72,ct_72,_,rfl,_,_⟩:=F_72.F.ex
 refine⟨W.fnOf "law" "law" (tX u0) (oE u0) (aB u0) .none kV_72 dc_72 pm_72 an_72 cd_72 ct_72,λs v=>.of_eq rfl,λbase _ _=>?_⟩
 let cl:Nat->Addr:=λn=>match n with | 0=>C_Tongue | _=>0
 let Z:Z7:={ P:=l.prog,w,K,mg,base,cl,I0,L9,IJ,Kb,Mb,K0 }
 have FC:OF K (cl 0):=⟨pg_Tongue,hd_Tongue,po_Tongue,sa_Tongue⟩
 have xt:∀(B:Addr->Prop) (H:Hp),Rep ⟨K,cl⟩ B H (.ref Mb) t7:=λB H=>.tupK (vs:=[V.str "never",V.str "may",V.str "must"]) (.inr ⟨_,_,_,xl,rfl,rfl,(by show 3<=sizeLine;decide),(.cons ⟨_,rfl⟩ (.cons ⟨_,rfl⟩ (.cons ⟨_,rfl⟩ .nil)))⟩) (.cons (.str _) (.cons (.str _) (.cons (.str _) .nil)))
 have xw:∀(B:Addr->Prop) (H:Hp),Rep ⟨K,cl⟩ B H (.ref K0) Az:=λB H=>.tupK (vs:=[V.int 0,V.int 0,V.int 0]) (.inr ⟨_,_,_,xo,rfl,rfl,(by show 3<=sizeLine;decide),(.cons ⟨_,rfl⟩ (.cons ⟨_,rfl⟩ (.cons ⟨_,rfl⟩ .nil)))⟩) (.cons (.int _) (.cons (.int _) (.cons (.int _) .nil)))
 have zn {x:Str}(h:W.nsIn K mainGlobals x=some none):mg x=none:=W.mg_none_of X G h
 have q:Zq Z:=⟨zn pj,zn so,zn pE,zn ss,zn gV,zn pp,zn qo,zn pd,zn re,zn sv,zn sw,zn pS,mo rh,mo rk,mo rl,mo rp,mo rq,mo rL,xt,xw,FC,rS,nf_Tongue_beginnings,nf_Tongue_carrying,nf_Tongue_eithers,nf_Tongue_likes,nf_Tongue_longs,nf_Tongue_pairs,nf_Tongue_running,nf_Tongue_splittings⟩
 have Da:=km X G F_0 F_0.F.Lm (zX F_0.F q)
 have EZ:=km X G F_1 F_1.F.Lm (Bu F_1.F q)
 have EC:=km X G F_2 F_2.F.OA (Ht F_2.F q)
 have EX:=km X G F_3 F_3.F.OA (Dn F_3.F q)
 have sA:=km X G F_4 F_4.F.OA (G3 F_4.F q)
 have yy:=km X G F_5 F_5.F.OA (zY F_5.F ⟨q,sA⟩)
 have Ev:=km X G F_6 F_6.F.Lm (Do F_6.F q)
 have yA:=km X G F_7 F_7.F.Lm (Dp F_7.F ⟨q,Ev⟩)
 have yB:=km X G F_8 F_8.F.Lm (Kr F_8.F ⟨q,sA⟩)
 have DO:=km X G F_9 F_9.F.X1 (wK F_9.F ⟨q,yB⟩)
 have Ee:=km X G F_10 F_10.F.Lm (Dq F_10.F ⟨q,yB⟩)
 have EA:=km X G F_11 F_11.F.X1 (Ks F_11.F ⟨q,DO,yy,Ee,yA⟩)
 have G_12:=vm F_12 ⟨q,yy,yA,EA,EC,EX,EZ⟩
 have C3:CalI l.prog w K mg base (cl 0) _ "Tongue" _ _:=⟨_,_,G_12,F_12.Lm,⟨mk_Tongue,a_12,i_12,kc_Tongue⟩,mo aC_Tongue⟩
 have DI:=km X G F_13 F_13.F.OA (Dr F_13.F q)
 have DB:=km X G F_14 F_14.F.OA (Bv F_14.F q)
 have yn:=km X G F_15 F_15.F.OA (G4 F_15.F q)
 have C9:=km X G F_16 F_16.F.OA (G5 F_16.F q)
 have DF:=km X G F_17 F_17.F.Lm (G6 F_17.F ⟨q,C9,DB,yn,DI⟩)
 have DA:=km X G F_18 F_18.F.OA (G7 F_18.F ⟨q,DF⟩)
 have D4:=km X G F_19 F_19.F.OA (G8 F_19.F q)
 have yY:=km X G F_20 F_20.F.OA (Hu F_20.F ⟨q,D4⟩)
 have D1:=km X G F_21 F_21.F.OA (Hv F_21.F q)
 have DU:=km X G F_22 F_22.F.Lm (Nm F_22.F ⟨q,D1⟩)
 have DS:=km X G F_23 F_23.F.Lm (Ku F_23.F ⟨q,sA⟩)
 have yT:=km X G F_24 F_24.F.Lm (Ds F_24.F ⟨q,DS,DU⟩)
 have Dx:=km X G F_25 F_25.F.OA (G9 F_25.F q)
 have xh:=km X G F_26 F_26.F.Lm (Bw F_26.F q)
 have DL:=km X G F_27 F_27.F.bd4 (G_ F_27.F ⟨q,xh⟩)
 have DC:=km X G F_28 F_28.F.Lm (Hw F_28.F q)
 have DH:=km X G F_29 F_29.F.bd5 (Ha F_29.F ⟨q,DC,DL⟩)
 have EJ:=km X G F_30 F_30.F.Lm (xK F_30.F q)
 have EI:=km X G F_31 F_31.F.Lm (yI F_31.F ⟨q,yT,yY⟩)
 have G_32:=wL F_32 q
 have rV:II l.prog w K mg base (cl 0) _ "carries" _ _:=⟨_,_,G_32,F_32.Lm,⟨a_32,i_32,F_32.kp⟩⟩
 have EB:=km X G F_33 F_33.F.Lm (Kv F_33.F ⟨q,sA,rV⟩)
 have xi:=km X G F_34 F_34.F.Lm (xM F_34.F ⟨q,EB⟩)
 have ES:=km X G F_35 F_35.F.OA (Hb F_35.F q)
 have yv:=km X G F_36 F_36.F.OA (Hc F_36.F q)
 have EO:=km X G F_37 F_37.F.X1 (zZ F_37.F q)
 have EM:=km X G F_38 F_38.F.Lm (Du F_38.F q)
 have EF:=km X G F_39 F_39.F.bd4 (Hx F_39.F ⟨q,yv,EM,EO⟩)
 have EU:=km X G F_40 F_40.F.X1 (Hy F_40.F ⟨q,EF,ES⟩)
 have DM:=km X G F_41 F_41.F.OA (Hd F_41.F ⟨q,EU⟩)
 have E7:=km X G F_42 F_42.F.bd4 (Hf F_42.F q)
 have DV:=km X G F_43 F_43.F.bd4 (z7 F_43.F ⟨q,E7⟩)
 have EG:=km X G F_44 F_44.F.OA (Dv F_44.F q)
 have D5:=km X G F_45 F_45.F.OA (Kw F_45.F q)
 have DZ:=km X G F_46 F_46.F.Lm (ux F_46.F ⟨q,DM,DV,yv,D5,EG⟩)
 have EE:=km X G F_47 F_47.F.Lm (yJ F_47.F ⟨q,DZ⟩)
 have G_48:=wM F_48 q
 have C6:II l.prog w K mg base (cl 0) _ "is_pair" _ _:=⟨_,_,G_48,F_48.Lm,⟨a_48,i_48,F_48.kp⟩⟩
 have y6:=km X G F_49 F_49.F.Lm (Hz F_49.F ⟨q,xi,C6⟩)
 have DT:=km X G F_50 F_50.F.Lm (Bx F_50.F ⟨q,rV⟩)
 have D9:=km X G F_51 F_51.F.Lm (Ky F_51.F ⟨q,rV⟩)
 have G_52:=xN F_52 q
 have yk:II l.prog w K mg base (cl 0) _ "splits" _ _:=⟨_,_,G_52,F_52.Lm,⟨a_52,i_52,F_52.kp⟩⟩
 have G_53:=xO F_53 q
 have C5:II l.prog w K mg base (cl 0) _ "begins" _ _:=⟨_,_,G_53,F_53.Lm,⟨a_53,i_53,F_53.kp⟩⟩
 have ET:=km X G F_54 F_54.F.Lm (Kz F_54.F ⟨q,C5,yk⟩)
 have EV:=km X G F_55 F_55.F.Lm (z8 F_55.F ⟨q,DT,D9,ET,y6,yk⟩)
 have G_56:=xP F_56 q
 have C8:II l.prog w K mg base (cl 0) _ "weight" _ _:=⟨_,_,G_56,F_56.Lm,⟨a_56,i_56,F_56.kp⟩⟩
 have y7:=km X G F_57 F_57.F.bd4 (KC F_57.F ⟨q,C8⟩)
 have G_58:=By F_58 q
 have C7:II l.prog w K mg base (cl 0) _ "run" _ _:=⟨_,_,G_58,F_58.OA,⟨a_58,i_58,F_58.kp⟩⟩
 have ED:=km X G F_59 F_59.F.X1 (Hg F_59.F ⟨q,y7,C7⟩)
 have EH:=km X G F_60 F_60.F.X1 (Dw F_60.F ⟨q,ED,xi,EV,y7,rV⟩)
 have EW:=km X G F_61 F_61.F.Lm (HB F_61.F ⟨q,EH⟩)
 have D2:=km X G F_62 F_62.F.Lm (yK F_62.F q)
 have G_63:=yL F_63 q
 have C4:II l.prog w K mg base (cl 0) _ "alike" _ _:=⟨_,_,G_63,F_63.X1,⟨a_63,i_63,F_63.kp⟩⟩
 have D6:=km X G F_64 F_64.F.X1 (Dy F_64.F ⟨q,C4⟩)
 have D3:=km X G F_65 F_65.F.Lm (Np F_65.F ⟨q,y6,rV⟩)
 have EK:=km X G F_66 F_66.F.X1 (Nq F_66.F ⟨q,D3,D6⟩)
 have EL:=km X G F_67 F_67.F.X1 (BK F_67.F ⟨q,EK⟩)
 have D7:=km X G F_68 F_68.F.bd5 (Hh F_68.F ⟨q,D2,EE,EL,EW⟩)
 have D8:=km X G F_69 F_69.F.bd4 (Hi F_69.F ⟨q,D7,EI,EJ,xi⟩)
 have DJ:=km X G F_70 F_70.F.bd5 (z9 F_70.F ⟨q,xh⟩)
 have Db:=km X G F_71 F_71.F.bd4 (HD F_71.F q)
 have G_72:=W8 F_72.F ⟨q,Da,Db,Dx,DA,xh,yn,DH,DJ,D8,yT,yY,C3⟩
 exact G_72.imp λvs H Q E h=>W9 h
theorem walk {l:W.OpenLaw}{q:Program}{loose:oP}{XP:(Str->Option Value)->Heap->Prop}{YP:World->Heap->Prop}{d:DefRec}{K:Params->W.Frag}(hn:l.most=some 63)(hdf:d.params.defaults=[])
  (hY:∀(w:World) (h:Heap),YP w h->(K w.params).In h)
  (F:∀(w:World) (mg:Str->Option Value) (fa:Addr) (h:Heap),(K w.params).In h->h.Ns mainGlobals mg->mg d.name=some (.ref fa)->
   ∃fd:FuncData,(∀(s:Shared) (u:Value),BindsTo s fd ⟨[u],[]⟩ [("_law_script",u)])/\∀base:Heap,(K w.params).In base->base.Ns mainGlobals mg->GY l.prog w (K w.params) mg base MS 10 fa fd ["_law_script"] (Ef (K w.params))):
  W.WalkO q loose XP YP l.row.toRowW d [] (λf vs=>PySem.call f vs):=
 L2.Y3 (n:=63) (k:=10) (x := "_law_script") (CX:=λ_=>MS) (sp:=λw=>Ef (K w.params)) hn (by decide) hdf ⟨rfl,by decide,by decide⟩ hY F (λ_ _ a ns hl hO hS=>⟨a,ns,rfl,hO,hS,hl,λ_=>rfl⟩) λ_ _ _ _ _ z=>z
end Lake.My
open PySem PySem.W PyProof.Rows
end
namespace PySem.W.Fast
def tw557145882116864129:=()
def tw2959528493803876662:=()
def tw9245382433818543437:=()
def tw3385609098041215215:=()
def tw15466108356192835756:=()
def tw5236684457687968252:=()
def tw17396826506467652294:=()
def tw16597408270679235887:=()
def tw5114389136694965153:=()
def tw18086213458906405381:=()
def tw17998727711459677154:=()
def tw17076464931753306243:=()
def tw5742797253986704893:=()
def tw12685146629628309450:=()
def tw13776028976437534480:=()
def tw3081465558842197233:=()
def tw13143562268104239381:=()
def tw9379985861071630822:=()
def tw13394287713746711455:=()
def tw9391535426106262155:=()
def tw11516846778921663872:=()
def tw16605650088635324849:=()
def tw7585401955690131782:=()
def tw10393607365010699948:=()
def tw11752061497130560748:=()
def tw2217363705781431845:=()
def tw8350611994448467221:=()
def tw12711339794741780491:=()
def tw4375304871196743637:=()
def tw146646743029586821:=()
def tw16941645528143227961:=()
def tw12132218666954718972:=()
def tw15380117155835744297:=()
def tw13570028601568985648:=()
def tw15777122736754747998:=()
def tw16493039584835775489:=()
def tw1316077788035131679:=()
def tw10398224479015497553:=()
def tw13203421068117544360:=()
def tw9410166844813126566:=()
def tw17120487401127935384:=()
def tw15407586981473350531:=()
def tw17316501159964522256:=()
def tw2766036272095469321:=()
def tw3220922509822090889:=()
def tw13044561207718580286:=()
def tw5192377075094969124:=()
def tw4879965336143568995:=()
def tw6960766519955984202:=()
def tw2305040490784752390:=()
def tw18181165580973716494:=()
def tw5145274456493382530:=()
def tw9965180935322239979:=()
def tw12929617769103055249:=()
def tw5650718529135825303:=()
def tw15949406893551830680:=()
def tw13671810960095164138:=()
def tw6524152611446975006:=()
def tw12963914022172228388:=()
def tw16052722197288552813:=()
def tw2070074535412872141:=()
def tw13029246559579606633:=()
def tw3522997703505884114:=()
def tw11898231677823013396:=()
def tw13156320568144562934:=()
def tw15343681206757552019:=()
def tw1702198439464202439:=()
def tw16801230539418019408:=()
def tw11220746863675821424:=()
def tw12572637622667060052:=()
def tw13064727190275904361:=()
def tw10626874005544817660:=()
def tw82734755631757400:=()
def tw4310380991723770874:=()
def tw5977209451184147621:=()
def tw5707535188237070200:=()
def tw6754966954538402733:=()
def tw11638849549488609626:=()
def tw9980738602956706811:=()
def tw15094417286155460109:=()
def tw3702369376014304598:=()
def tw3403009016507795023:=()
def tw12271806083751415064:=()
def tw18446183048800362787:=()
def tw4880208906031731693:=()
def tw12040122207053963305:=()
def tw15469582105703160204:=()
def tw6757421200684381952:=()
def tw7784592366419992319:=()
def tw14010393647752135793:=()
def tw5397391388537390790:=()
def tw2297932736907211387:=()
def tw684492556144649359:=()
def tw16737502424948206258:=()
def tw4027485060129814080:=()
def tw63832628379929148:=()
def tw6778895267996981860:=()
def tw15831895702481112959:=()
def tw15350541968266287380:=()
def tw17173828864690491704:=()
def tw4292775361989148865:=()
def tw359403796720472126:=()
def tw9317590682575874061:=()
def tw5857355959649586801:=()
def tw15883150788170882098:=()
def tw2559451607177113842:=()
def tw14356570835308997078:=()
def tw12054951814002269584:=()
def tw9366129569209050623:=()
def tw5828327897629563993:=()
def tw11161968698219500195:=()
def tw1189276919817283382:=()
def tw7911827760085334791:=()
def tw3877718408865423878:=()
def tw12766102627399624940:=()
def tw12673345240929399335:=()
def tw3151216106166435811:=()
def tw376851750062317040:=()
def tw9441742734530137784:=()
def tw14076555275364757887:=()
def tw3947039236036673024:=()
def tw14303049984623783839:=()
def tw15068623819948264936:=()
def tw1879651383049956738:=()
def tw9603596979553182491:=()
def tw2344244473785552000:=()
def tw3871015933149295932:=()
def tw16047520247207257716:=()
def tw3660825761833705706:=()
def tw3572107167797847779:=()
def tw4452513694716827648:=()
def tw17104362433466399361:=()
def tw1452815558031656463:=()
def tw1126504010027531955:=()
def tw4231401458436619565:=()
def tw13574269302684778036:=()
def tw9936042710423366900:=()
def tw5452182349712200801:=()
def tw1520387414563556111:=()
def tw6461213426491416148:=()
def tw6994646660091478969:=()
def tw14655154945542820463:=()
def tw7766404452591751764:=()
def tw8249007128789170809:=()
def tw1947646783230679299:=()
def tw18350994045671733138:=()
def tw12134438895350374746:=()
def tw3278080037304759147:=()
def tw7410655890233118468:=()
def tw13518134467080727204:=()
def tw1616398859460646333:=()
def tw11247902426005442784:=()
def tw563704517269591739:=()
def tw324014446407364056:=()
def tw831718999096662344:=()
def tw8260430404408570775:=()
def tw10053812768314689809:=()
def tw9395738088521823498:=()
def tw518987233222766690:=()
def tw17488624976749203195:=()
def tw12661404296729786883:=()
def tw1784994731395595208:=()
def tw566564799104703688:=()
def tw11613879830868037204:=()
def tw16037143690911848277:=()
def tw10210809609983110837:=()
def tw9716079726929919377:=()
def tw11575168288850613843:=()
def tw4282445183874699472:=()
def tw315134132724866034:=()
def tw2979054345173157418:=()
def tw493982947244189109:=()
def tw18097015592492268217:=()
def tw6228166845506302108:=()
def tw11190965226731777908:=()
def tw11313565822446018603:=()
def tw121689282448734153:=()
def tw11044864570061645691:=()
def tw239036990194918283:=()
def tw4163211633481714769:=()
def tw14512732490216802429:=()
def tw7070564541445981244:=()
def tw3297042763928589775:=()
def tw8894793991823701967:=()
def tw8161542217239892574:=()
def tw12535918147238220780:=()
def tw10259563750189191183:=()
def tw2112119830785498530:=()
def tw10804769773889382852:=()
def tw4084306090120957067:=()
def tw12527749404801055342:=()
def tw1332314838628812065:=()
def tw5604658972384469300:=()
def tw15792353568808241042:=()
def tw12277219652824171216:=()
def tw10075651563682496778:=()
def tw1418830248056488281:=()
def tw13307137269129937829:=()
def tw4096331110837984359:=()
def tw4744915491911437413:=()
def tw9424685963292223560:=()
def tw16644299711136382384:=()
def tw17734770465148641583:=()
def tw9597878802246942264:=()
def tw2626351008307325757:=()
def tw10252178337295356840:=()
def tw5462040374645363536:=()
def tw15357487747902079158:=()
def tw10993820107632755865:=()
def tw17234039882396528377:=()
def tw15739569448531197671:=()
def tw10586051579475598185:=()
def tw9907076218881295863:=()
def tw2070246856232048465:=()
def tw5230532237587924160:=()
def tw9572130784037080037:=()
def tw217527712181426295:=()
def tw13899134253609510714:=()
def tw10435614298053418906:=()
def tw10047461547312208499:=()
def tw1178813433541120553:=()
def tw8790343157850394261:=()
def tw14817690151201329387:=()
def tw8203165777834088746:=()
def tw16376616395147675474:=()
def tw2910095000764563527:=()
def tw9640612622895743420:=()
def tw13144835171752830777:=()
def tw881674050085733448:=()
def tw10344690555498349097:=()
def tw5178769471402612571:=()
def tw11512794192471810391:=()
def tw6662579249285352153:=()
def tw6191799181220490869:=()
def tw6206699842415598757:=()
def tw9180388445625514215:=()
def tw11529457348680939270:=()
def tw7750655908904932064:=()
def tw7184937548720270693:=()
def tw18248696422011598064:=()
def tw6583481926801304585:=()
end PySem.W.Fast
set_option maxRecDepth 100000 in
set_option maxHeartbeats 0 in
theorem PySem.Challenge.cw_lilt_k75_whole_poems_of_a_form_holds : PySem.Challenge.rw_lilt_k75_whole_poems_of_a_form.Holds := by
 w_on;o_law;k_head;(case hw=>w_witness2)
 k_fill
 refine Lake.My.walk (l:=PySem.Challenge.rw_lilt_k75_whole_poems_of_a_form) rfl rfl (λw h Y=>W.kIn_of Y) ?F
 case F=>
  intro w mg fa h KX G hmg
  refine' Lake.My.all_mk KX G hmg ?aC_Tongue ?F_0 ?F_1 ?F_2 ?F_3 ?F_4 ?F_5 ?F_6 ?F_7 ?F_8 ?F_9 ?F_10 ?F_11 ?a_12 ?i_12 ?F_12 ?F_13 ?F_14 ?F_15 ?F_16 ?F_17 ?F_18 ?F_19 ?F_20 ?F_21 ?F_22 ?F_23 ?F_24 ?F_25 ?F_26 ?F_27 ?F_28 ?F_29 ?F_30 ?F_31 ?a_32 ?i_32 ?F_32 ?F_33 ?F_34 ?F_35 ?F_36 ?F_37 ?F_38 ?F_39 ?F_40 ?F_41 ?F_42 ?F_43 ?F_44 ?F_45 ?F_46 ?F_47 ?a_48 ?i_48 ?F_48 ?F_49 ?F_50 ?F_51 ?a_52 ?i_52 ?F_52 ?a_53 ?i_53 ?F_53 ?F_54 ?F_55 ?a_56 ?i_56 ?F_56 ?F_57 ?a_58 ?i_58 ?F_58 ?F_59 ?F_60 ?F_61 ?F_62 ?a_63 ?i_63 ?F_63 ?F_64 ?F_65 ?F_66 ?F_67 ?F_68 ?F_69 ?F_70 ?F_71 ?F_72 ?pg_Tongue ?hd_Tongue ?po_Tongue ?sa_Tongue ?mk_Tongue ?kc_Tongue ?nf_Tongue_beginnings ?nf_Tongue_carrying ?nf_Tongue_eithers ?nf_Tongue_likes ?nf_Tongue_longs ?nf_Tongue_pairs ?nf_Tongue_running ?nf_Tongue_splittings ?pj ?so ?pE ?ss ?gV ?pp ?qo ?pd ?re ?sv ?sw ?pS ?rh ?rk ?rl ?rp ?rq ?xl ?rL ?xo ?rS
  (case aC_Tongue | a_12 | i_12 | a_32 | i_32 | a_48 | i_48 | a_52 | i_52 | a_53 | i_53 | a_56 | i_56 | a_58 | i_58 | a_63 | i_63 | pg_Tongue | hd_Tongue | po_Tongue | sa_Tongue | mk_Tongue | kc_Tongue | nf_Tongue_beginnings | nf_Tongue_carrying | nf_Tongue_eithers | nf_Tongue_likes | nf_Tongue_longs | nf_Tongue_pairs | nf_Tongue_running | nf_Tongue_splittings | pj | so | pE | ss | gV | pp | qo | pd | re | sv | sw | pS | rh | rk | rl | rp | rq | xl | rL | xo=>k_is)
  (case F_12 | F_32 | F_48 | F_52 | F_53 | F_56 | F_58 | F_63=>refine' Lake.L2.SH ?l ?c ?k;(case l=>k_is);(case c=>k_is);(case k=>k_is))
  (case F_0 | F_1 | F_2 | F_3 | F_4 | F_5 | F_6 | F_7 | F_8 | F_9 | F_10 | F_11 | F_13 | F_14 | F_15 | F_16 | F_17 | F_18 | F_19 | F_20 | F_21 | F_22 | F_23 | F_24 | F_25 | F_26 | F_27 | F_28 | F_29 | F_30 | F_31 | F_33 | F_34 | F_35 | F_36 | F_37 | F_38 | F_39 | F_40 | F_41 | F_42 | F_43 | F_44 | F_45 | F_46 | F_47 | F_49 | F_50 | F_51 | F_54 | F_55 | F_57 | F_59 | F_60 | F_61 | F_62 | F_64 | F_65 | F_66 | F_67 | F_68 | F_69 | F_70 | F_71 | F_72=>refine' ⟨?a,Lake.L2.SH ?l ?c ?k⟩;(case a=>k_is);(case l=>k_is);(case c=>k_is);(case k=>k_is))
  (case rS=>intro t k hm;simp only[Lake.My.L6,ar,b9,eW,Prod.mk.injEq] at hm;rcases hm with ⟨rfl,rfl⟩ <;> first | rfl | k_is)
